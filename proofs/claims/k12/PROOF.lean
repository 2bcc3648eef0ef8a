import PyProof.Rows.All
import Wide.All
import OpenK.AllK
import Wide.FinOn
import Lean
import PyProof.EqAt
import PyProof.EqKinds
import PyProof.TupleCall
import PyProof.NeKinds
import PySem.Challenge.RW_ballastbook_k12_a_row_of_orders_flown
set_option Elab.async false
set_option linter.all false
set_option maxRecDepth 100000
set_option maxHeartbeats 4100000
open PySem renaming wpAny_bind → Qa, Value → Qb, Shared → Qd, wpAny_pure → Qf, wpAny → Qg, model → Qi, starEach → Qj, Program → Qr, sizeLine → Qt, World → Qu, Around → QB, mainGlobals → QD, compareOp → QE, wpAny_field → QM, wpAny_newObj_type → QS, wpAny_seqItems → QW, FuncData → QY, wpAny_mono → Q0, argBest → Q2, assignEach → Q5, wpAny_holding → Q8, backTo → Ja, wpAny_callSpecial?_slot → Jc, wpAny_truthy_bool → Jf, mem_of_lookup → Jg, binaryOp → Jl, IsPair → Jn, Spec → Jo, foldedSetIterable → Jr, wpAny_loadPart_at → Jt, swapsWith → Ju, wpAny_tryCatch → Jz, wpAny_letGo → JA, wpAny_execs_cons → JG, wpAny_call_entry → JH, bootBuiltins → JK, wpAny_Call_Name_kw → JM, wpAny_setField_rec → JO, wpAny_execs_nil → JP, wpAny_standAt → JT, attributeBase → JU, plainId_quiet → JW, sysModules → JY, codeAny → J1, wpAny_setField → J2, rawInt → J5, wpAny_pyIter_tuple → Ze, codeAny_builtin → Zg, wpAny_updateSeq → Zh, keywordEach → Zl, seqItems? → Zo, behindInMarks → Zp, sliceBounds → Zq, wpAny_isSubtype_exc → Zu, wpAny_passesOwn → Zw
open PySem.W renaming Frag → Qc, findIn → Qx, mg_none_of → QU, nsIn → QZ, fnOf → Jd, emptyDict → Js, keepIn → Jx, notCls → JJ, kia_one → JR, codeIn → Zn, instObj → Zv
open PySem.Heap renaming get?_push_of_some → Qe, lt_size → Qk, get?_push_size → Qo, get?_update_other → Qp, size_push → QP, get?_update_self → QV, SameBut → JD
open Bool renaming false_ne_true → Qh, and_eq_true → J6, eq_iff_iff → Zx
open List renaming mem_cons → Ql, mem_append_right → Qm, getElem?_set → Qq, getElem?_eq_some_iff → Qs, length_append → Qw, mem_cons_of_mem → Qy, length_map → Qz, size_toArray → QA, getElem?_map → QG, length_cons → QI, not_mem_nil → QJ, mem_cons_self → QL, map_cons → QN, mem_singleton → QO, getD_eq_getElem?_getD → QX, getElem?_append_right → Q4, append_nil → Q6, mem_map → Q9, mem_append → Jh, getElem?_append_left → Ji, length_set → Jk, all_eq_true → Jm, mem_of_getElem? → Jp, map_append → Jv, length_replicate → Jy, range → JB, mem_append_left → JC, getElem?_replicate → JF, length_nil → JS, getElem?_modify → J0, all_cons → Zb, find?_cons → Zi, getElem?_set_self → Zk, ext_getElem? → Zm, filterMap_cons → Zr, getElem?_range → Zt, nodup_cons → Zy
open Nat renaming le_refl → Qn, lt_of_lt_of_le → Qv, ne_of_lt → QC, le_trans → QK, lt_irrefl → QR, lt_trans → JN
open PySem.Value renaming ref → QF, none → QT, bool → Zd
open PySem.Builtin.SmallTypes renaming nextOf → QH, ownedTupleIsFree → Jq
open PySem.F renaming plain_max_loop → QQ, slot_tuple_iterator_next → Je, entry_max_loop → J8
open False renaming elim → Q1
open Or renaming inr → Q3, inl → Jj
open PySem.PassesOwn renaming never → Q7
open PySem.Obj renaming data_mapFields → Jb, isFreed_of_fields → JQ, mapFields → Zc
open PySem.Str renaming ofString → Jw
open PySem.Around renaming under_plainId → JE
open PyProof.Rows renaming IntsAre → JI, callWith_type1 → JL
open Array renaming getElem?_eq_some_iff → JV, length_toList → J9
open Int renaming toNat_natCast → JX, emod_lt_of_pos → Zz
open PySem.Builtin.Slice renaming slicePlaces → JZ
open PySem.Builtin.Tuple renaming tupleExact → J7
open Sum renaming inr → Za
open True renaming intro → Zf
open PySem.W.Looks renaming here → Zj
open PySem.Heap.SameBut renaming update → Zs
namespace L2
open PySem PySem.Spec PyProof.Rows
abbrev Key:=Sum Int Str
def kA:Key->Qb->Bool
 |.inl k,v=>Value.isInt k v
 |.inr x,v=>Value.isStrOf x v
def zF(w:Qu):Key->Int
 |.inl k=>hashInt k
 |.inr x=>hashStr w x
theorem bE:∀{k:Key} {v:Qb},kA k v=true->(∃i t,k=Sum.inl i/\v=Value.int i t)\/(∃x t,k=Za x/\v=Value.str x t)
 |.inl i,v,h=>by
  obtain⟨t,e⟩:=Value.isInt_shape (k:=i) (v:=v) h;exact .inl ⟨i,t,rfl,e⟩
 |.inr x,v,h=>by
  obtain⟨t,e⟩:=Value.isStrOf_shape (x:=x) (v:=v) h;exact .inr ⟨x,t,rfl,e⟩
theorem pZ(i:Int)(t:Tok):kA (.inl i) (.int i t)=true:=by simp[kA,Value.isInt]
theorem pG(x:Str)(t:Tok):kA (.inr x) (.str x t)=true:=by simp[kA,Value.isStrOf]
theorem vV(a b:Int):decide ((Sum.inl a:Key)=Sum.inl b)=(a==b):=by
 by_cases e:a=b
 ·subst e;simp
 ·have h:¬ (Sum.inl a:Key)=Sum.inl b:=λq=>e (Sum.inl.inj q)
  rw[decide_eq_false h];exact(beq_eq_false_iff_ne.mpr e).symm
theorem we(a b:Str):decide ((Za a:Key)=Za b)=decide (a=b):=by
 by_cases e:a=b
 ·subst e;simp
 ·have h:¬ (Za a:Key)=Za b:=λq=>e (Sum.inr.inj q)
  rw[decide_eq_false h,decide_eq_false e]
theorem xf(a:Int)(b:Str):decide ((Sum.inl a:Key)=Za b)=false:=decide_eq_false (λq=>nomatch q)
theorem xB(a:Str)(b:Int):decide ((Za a:Key)=Sum.inl b)=false:=decide_eq_false (λq=>nomatch q)
def bN(prog:Qr)(w:Qu):PySem.KeyKind prog w Key where
 is:=kA
 hash:=zF w
 inj:=λv a b ha hb=>by
  rcases bE ha with⟨i,t,rfl,rfl⟩ | ⟨x,t,rfl,rfl⟩
  ·rcases bE hb with⟨j,u,rfl,e⟩ | ⟨y,u,rfl,e⟩
   ·injection e with e1 _;rw[e1]
   ·exact nomatch e
  ·rcases bE hb with⟨j,u,rfl,e⟩ | ⟨y,u,rfl,e⟩
   ·exact nomatch e
   ·injection e with e1 _;rw[e1]
 byValue:=λk v h=>by
  rcases bE h with⟨i,t,rfl,rfl⟩ | ⟨x,t,rfl,rfl⟩<;>rfl
 pyHash:=λhv h=>by
  rcases bE hv with⟨i,t,rfl,rfl⟩ | ⟨x,t,rfl,rfl⟩
  ·exact wpAny_pyHash_int h
  ·exact wpAny_pyHash_str h
 eqBool:=λhu hv h=>by
  rcases bE hu with⟨i,t,rfl,rfl⟩ | ⟨x,t,rfl,rfl⟩
  ·rcases bE hv with⟨j,u,rfl,rfl⟩ | ⟨y,u,rfl,rfl⟩
   ·rw[vV] at h;exact wpAny_eqBool_int h
   ·rw[xf] at h;exact SeqAt.EqAt.int_str i t y u _ _ _ _ h
  ·rcases bE hv with⟨j,u,rfl,rfl⟩ | ⟨y,u,rfl,rfl⟩
   ·rw[xB] at h;exact SeqAt.EqAt.str_int x t j u _ _ _ _ h
   ·rw[we] at h;exact wpAny_eqBool_str h
 «strs»:=λk x t v h=>by
  rcases bE h with⟨i,u,rfl,e⟩ | ⟨y,u,rfl,e⟩
  ·exact nomatch e
  ·injection e with e1 _
   subst e1;cases v<;>rfl
theorem mj(prog:Qr)(w:Qu)(i:Int)(t:Tok):(bN prog w).is (.inl i) (.int i t)=true:=pZ i t
theorem lW(prog:Qr)(w:Qu)(x:Str)(t:Tok):(bN prog w).is (.inr x) (.str x t)=true:=pG x t
inductive V where
 |non | bl (b:Bool) | int (i:Int) | str (x:Str) | byt (b:Array UInt8) | flt (b:UInt64) | ref (a:Addr) | ty (n:String)
 deriving DecidableEq
def aW:V->Qb->Prop
 |.non,u=>u=QT
 |.bl b,u=>u=Zd b
 |.int i,u=>∃t,u=Value.int i t
 |.str x,u=>∃t,u=Value.str x t
 |.byt b,u=>∃t,u=Value.bytes b t
 |.flt b,u=>∃t,u=Value.float b t
 |.ref a,u=>u=QF a
 |.ty n,u=>u=Value.type n
abbrev aX:List V->List Qb->Prop:=Paired aW
theorem aX.length{xs:List V}{us:List Qb}(r:aX xs us):xs.length=us.length:=Paired.length r
theorem aX.get:∀{xs:List V} {us:List Qb} {i:Nat} {x:V},aX xs us->xs[i]?=some x->∃u,us[i]?=some u/\aW x u
 |_,_,_,_,.nil,e=>by simp at e
 |_,_,0,_,.cons r _,e=>by simp at e;subst e;exact⟨_,rfl,r⟩
 |_,_,i+1,x,.cons _ t,e=>by
  obtain⟨u,h1,h2⟩:=aX.get (i:=i) (x:=x) t (by simpa using e);exact⟨u,by simpa using h1,h2⟩
theorem aX.set{x:V}{u:Qb}(r:aW x u):∀{xs:List V} {us:List Qb} (i:Nat),aX xs us->aX (xs.set i x) (us.set i u)
 |_,_,_,.nil=>.nil
 |_,_,0,.cons _ t=>.cons r t
 |_,_,i+1,.cons q t=>.cons q (aX.set r i t)
theorem aX.append:∀{xs ys:List V} {us ws:List Qb},aX xs us->aX ys ws->aX (xs++ys) (us++ws)
 |_,_,_,_,.nil,s=>s
 |_,_,_,_,.cons r t,s=>.cons r (aX.append t s)
theorem aX.take:∀{xs:List V} {us:List Qb} (n:Nat),aX xs us->aX (xs.take n) (us.take n)
 |_,_,0,_=>.nil
 |_,_,_+1,.nil=>.nil
 |_,_,n+1,.cons r t=>.cons r (aX.take n t)
theorem aX.drop:∀{xs:List V} {us:List Qb} (n:Nat),aX xs us->aX (xs.drop n) (us.drop n)
 |_,_,0,r=>r
 |_,_,_+1,.nil=>.nil
 |_,_,n+1,.cons _ t=>aX.drop n t
def f7:Option V->Option Qb->Prop
 |some v,some u=>aW v u
 |none,none=>True
 |_,_=>False
def KV{κ:Type}:List (κ×V)->List (κ×Qb)->Prop:=Paired λ(p:κ×V) (q:κ×Qb)=>p.1=q.1/\aW p.2 q.2
def kV:Key->V
 |.inl i=>.int i
 |.inr x=>.str x
inductive HO where
 |lst (xs:List V)
 |tup (xs:List V)
 |dK (kvs:List (Key×V)) | dT (kvs:List (List Key×V))
 |set (S:Int->Bool) (n:Nat)
 |ins (C dx:Addr) (fs:List (Str×V))
 |own (x:Addr)
 |xd (fs:List (Str×V))
 |met (f x:Addr)
 |rng (lo hi:Int)
 |frz (o:Obj) (u:HO)
 |tbl (ps:Array Qb)
 |ext (φ:Heap->Prop)
abbrev Hp:=Addr->Option HO
def upd(H:Hp)(a:Addr)(o:HO):Hp:=λb=>if b=a then some o else H b
theorem ay{H:Hp}{a:Addr}{o:HO}:upd H a o a=some o:=by unfold upd;rw[if_pos rfl]
theorem aA{H:Hp}{a b:Addr}{o:HO}(h:b≠a):upd H a o b=H b:=by unfold upd;rw[if_neg h]
theorem tV{H:Hp}{a:Addr}{o u:HO}:upd (upd H a o) a u=upd H a u:=by
 funext b;unfold upd;split<;>rfl
theorem aG{H:Hp}{a b:Addr}{o:HO}(h:H a=some o)(h':H b=none):a≠b:=by
 intro e;subst e;rw[h] at h';cases h'
section
variable(P:Qr)(w:Qu)
def bO(H:Hp)(h:Heap)(a:Addr):HO->Prop
 |.lst xs=>xs.length<=Qt/\∃(its:List Qb) (n:Nat),aX xs its/\h.get? a=some { cls:=.type "list",data:=.seq its.toArray n }
 |.tup xs=>xs.length<=Qt/\∃its:List Qb,aX xs its/\IsTup h a its.toArray
 |.dK kvs=>kvs.length<=Qt/\(a==JY)=false/\∃vs,KV kvs vs/\h.DictOf (bN P w) a vs
 |.dT kvs=>kvs.length<=Qt/\(a==JY)=false/\∃xs:List (List Key×Addr×Qb),
   Paired (λ(p:List Key×V) (q:List Key×Addr×Qb)=>p.1=q.1/\H q.2.1=some (.tup (p.1.map kV))/\aW p.2 q.2.2) kvs xs/\
   ∃o es ep,h.get? a=some o/\o.ExactDict/\o.data=.dict es ep/\es.toList=xs.map (entryOfKey (tupleKind (bN P w)))/\(xs.map (·.1)).Nodup
 |.set S n=>h.SetOf (intKind P w) a S n
 |.ins C dx fs=>H dx=some (.own a)/\fs.length<=1000/\dx≠a/\h.get? a=some (Zv C dx)/\
   ∃mA,h.Ns1 dx mA/\(∀f,f7 (fs.lookup f) (mA f))/\PySem.Within mA (fs.map (·.1))
 |.own _=>∃o,h.get? a=some o
 |.xd fs=>∃mA,h.Ns1 a mA/\∀f,f7 (fs.lookup f) (mA f)
 |.rng lo hi=>∃t u v,h.get? a=some { cls:=.type "range",data:=.fields #[.int lo t,.int hi u,.int 1 v] }
 |.frz o u=>h.get? a=some o/\bO H h a u
 |.tbl ps=>h.get? a=some { cls:=.none,data:=.fields ps }
 |.met f x=>h.get? a=some (PySem.W.methodObj (.ref f) (.ref x))
 |.ext φ=>φ h/\(∃o,h.get? a=some o)/\∀h1 h2:Heap,φ h1->(∀o,h1.get? a=some o->h2.get? a=some o)->φ h2
def HOk(H:Hp)(h:Heap):Prop:=∀a o,H a=some o->bO P w H h a o
end
section
variable{P:Qr}{w:Qu}{H H':Hp}{h h':Heap}{a:Addr}{o:HO}
theorem bO.lt(x:bO P w H h a o):a<h.objs.size:=by
 cases o with
 |lst xs=>obtain⟨_,_,_,_,e⟩:=x;exact Qk e
 |tup xs=>obtain⟨_,_,_,p⟩:=x;exact p.lt
 |dK kvs=>obtain⟨_,_,_,_,o,_,_,e,_⟩:=x;exact Qk e
 |dT kvs=>obtain⟨_,_,_,_,o,_,_,e,_⟩:=x;exact Qk e
 |set S n=>obtain⟨o,_,_,_,e,_⟩:=x;exact Qk e
 |ins C dx fs=>obtain⟨_,_,_,e,_⟩:=x;exact Qk e
 |own y=>obtain⟨_,e⟩:=x;exact Qk e
 |xd fs=>obtain⟨_,⟨_,_,_,e,_⟩,_⟩:=x;exact Qk e
 |rng lo hi=>obtain⟨_,_,_,e⟩:=x;exact Qk e
 |frz ob u=>obtain⟨e,_⟩:=x;exact Qk e
 |tbl ps=>exact Qk (show h.get? a=some _ from x)
 |met f y=>exact Qk (show h.get? a=some _ from x)
 |ext φ=>obtain⟨_,⟨_,e⟩,_⟩:=x;exact Qk e
theorem Paired.mapP{α β:Type}{F G:α->β->Prop}:∀{l₁:List α} {l₂:List β},Paired F l₁ l₂->(∀a b,F a b->G a b)->Paired G l₁ l₂
 |_,_,.nil,_=>.nil
 |_,_,.cons r t,f=>.cons (f _ _ r) (Paired.mapP t f)
theorem bO.stay(x:bO P w H h a o)(k:∀b u,(b=a\/H b=some (.own a))->h.get? b=some u->h'.get? b=some u)
  (ho:∀b,H b=some (.own a)->H' b=some (.own a)) (ht:∀b xs,H b=some (.tup xs)->H' b=some (.tup xs)):bO P w H' h' a o:=by
 induction o with
 |lst xs=>obtain⟨z,its,n,r,e⟩:=x;exact⟨z,its,n,r,k _ _ (.inl rfl) e⟩
 |tup xs=>obtain⟨z,its,r,ob,e,c⟩:=x;exact⟨z,its,r,ob,k _ _ (.inl rfl) e,c⟩
 |dK kvs=>obtain⟨z,y,vs,r,ob,es,ep,e,c⟩:=x;exact⟨z,y,vs,r,ob,es,ep,k _ _ (.inl rfl) e,c⟩
 |dT kvs=>
  obtain⟨z,y,xs,r,ob,es,ep,e,c⟩:=x;exact⟨z,y,xs,Paired.mapP r λp q z=>⟨z.1,ht _ _ z.2.1,z.2.2⟩,ob,es,ep,k _ _ (.inl rfl) e,c⟩
 |set S n=>obtain⟨ob,es,ep,t,e,c⟩:=x;exact⟨ob,es,ep,t,k _ _ (.inl rfl) e,c⟩
 |ins C dx fs=>
  obtain⟨d,z,ne,e,mA,⟨od,es,ep,e2,c⟩,r⟩:=x;exact⟨ho _ d,z,ne,k _ _ (.inl rfl) e,mA,⟨od,es,ep,k _ _ (.inr d) e2,c⟩,r⟩
 |own y=>obtain⟨ob,e⟩:=x;exact⟨ob,k _ _ (.inl rfl) e⟩
 |xd fs=>obtain⟨mA,⟨od,es,ep,e,c⟩,r⟩:=x;exact⟨mA,⟨od,es,ep,k _ _ (.inl rfl) e,c⟩,r⟩
 |rng lo hi=>obtain⟨t,u,v,e⟩:=x;exact⟨t,u,v,k _ _ (.inl rfl) e⟩
 |frz ob u ih=>obtain⟨e,q⟩:=x;exact⟨k _ _ (.inl rfl) e,ih q⟩
 |tbl ps=>
  have e:h.get? a=some { cls:=.none,data:=.fields ps }:=x;show h'.get? a=some { cls:=.none,data:=.fields ps };exact k a _ (.inl rfl) e
 |met f y=>
  have e:h.get? a=some (PySem.W.methodObj (.ref f) (.ref y)):=x;show h'.get? a=some (PySem.W.methodObj (.ref f) (.ref y));exact k a _ (.inl rfl) e
 |ext φ=>obtain⟨p,⟨o,e⟩,st⟩:=x;exact⟨st _ _ p λo q=>k _ _ (.inl rfl) q,⟨o,k _ _ (.inl rfl) e⟩,st⟩
theorem HOk.lt(x:HOk P w H h)(e:H a=some o):a<h.objs.size:=(x a o e).lt
theorem HOk.fresh(x:HOk P w H h)(e:h.objs.size<=a):H a=none:=by
 cases q:H a with
 |none=>rfl
 |some u=>exact absurd (Qv (x.lt q) e) (QR _)
theorem HOk.kept(x:HOk P w H h)(k:∀b u,h.get? b=some u->h'.get? b=some u):HOk P w H h':=λa o e=>
 (x a o e).stay (λb u _ q=>k b u q) (λ_ q=>q) λ_ _ q=>q
theorem HOk.laid(x:HOk P w H h)(k:∀b u,h.get? b=some u->h'.get? b=some u)(hp:h.objs.size<=a)(new:bO P w (upd H a o) h' a o):HOk P w (upd H a o) h':=λb u e=>by
 have hn:=x.fresh hp
 by_cases hb:b=a
 ·subst hb;rw[ay] at e;cases e;exact new
 ·rw[aA hb] at e
  exact(x b u e).stay (λc v _ q=>k c v q) (λc q=>by rw[aA (aG q hn)];exact q) λc xs q=>by rw[aA (aG q hn)];exact q
end
def Rd(H:Hp)(a:Addr)(u:HO):Prop:=H a=some u\/∃o,H a=some (.frz o u)
theorem Rd.of{H:Hp}{a:Addr}{u:HO}(h:H a=some u):Rd H a u:=.inl h
theorem Rd.ok{P:Qr}{w:Qu}{H:Hp}{h:Heap}{a:Addr}{u:HO}(r:Rd H a u)(x:HOk P w H h):bO P w H h a u:=by
 rcases r with r | ⟨o,r⟩
 ·exact x a u r
 ·obtain⟨_,q⟩:=x a _ r
  exact q
def Mut:Option HO->Prop
 |some (.lst _)=>True
 |some (.dK _)=>True
 |some (.dT _)=>True
 |some (.set _ _)=>True
 |some (.ins _ _ _)=>True
 |some (.ext _)=>True
 |_=>False
section
variable{P:Qr}{w:Qu}{H:Hp}{h h':Heap}{x e:Addr}{o':HO}
theorem HOk.write(ok:HOk P w H h)(mu:Mut (H x))(he:e=x\/H e=some (.own x))(k:∀b u,b≠e->h.get? b=some u->h'.get? b=some u)(heo:∃u,h'.get? e=some u)
  (new:bO P w (upd H x o') h' x o'):HOk P w (upd H x o') h':=λb u q=>by
 have nown:∀c y,H c=some (.own y)->c≠x:=λc y r z=>by subst z;rw[r] at mu;exact mu
 have ntup:∀c xs,H c=some (.tup xs)->c≠x:=λc xs r z=>by subst z;rw[r] at mu;exact mu
 by_cases hb:b=x
 ·subst hb;rw[ay] at q;cases q;exact new
 ·rw[aA hb] at q
  by_cases hbe:b=e
  ·have q':H b=some (.own x):=by
    rcases he with z | z
    ·exact absurd (hbe.trans z) hb
    ·rw[hbe];exact z
   rw[q] at q';cases q';obtain⟨v,hv⟩:=heo;exact⟨v,by rw[hbe];exact hv⟩
  ·refine(ok b u q).stay (λc v hc r=>k c v ?_ r) (λc r=>by rw[aA (nown c b r)];exact r) λc xs r=>by rw[aA (ntup c xs r)];exact r
   rcases hc with rfl | hc
   ·exact hbe
   ·rintro rfl
    rcases he with z | z
    ·exact nown c b hc z
    ·rw[hc] at z;cases z;exact hb rfl
end
structure Un(fs ex:List Addr)(H H':Hp)(h h':Heap):Prop where
 keep:∀b o,h.get? b=some o->H b=none->b∉fs->b∉ex->h'.get? b=some o
 slot:∀b o,h.get? b=some o->H b=none->b∈fs->b∉ex->∃sl,h'.get? b=some { o with slots:=sl }
 free:∀b o,h.get? b=some o->H b=none->b∉ex->H' b=none
 there:∀b o,h.get? b=some o->b∉ex->∃o',h'.get? b=some o'
 tups:∀b xs,H b=some (.tup xs)->H' b=some (.tup xs)
 frzs:∀b o u,H b=some (.frz o u)->H' b=some (.frz o u)
 tbls:∀b ps,H b=some (.tbl ps)->∃more,H' b=some (.tbl (ps++more))
section
variable{fs fs' ex ex':List Addr}{H H1 H2:Hp}{h h1 h2 h':Heap}{a x e:Addr}{o:HO}
theorem Un.any(u:Un fs ex H H1 h h1){b:Addr}{ob:Obj}(q:h.get? b=some ob)(n:H b=none)(hx:b∉ex):∃sl,h1.get? b=some { ob with slots:=sl }:=by
 by_cases hb:b∈fs
 ·exact u.slot b ob q n hb hx
 ·exact⟨ob.slots,u.keep b ob q n hb hx⟩
theorem Un.trans(a:Un fs ex H H1 h h1)(b:Un fs ex H1 H2 h1 h2):Un fs ex H H2 h h2 where
 keep:=λc ob q n hc hx=>b.keep c ob (a.keep c ob q n hc hx) (a.free c ob q n hx) hc hx
 slot:=λc ob q n hc hx=>by
  obtain⟨sl,e1⟩:=a.slot c ob q n hc hx;obtain⟨sl',e2⟩:=b.slot c _ e1 (a.free c ob q n hx) hc hx;exact⟨sl',e2⟩
 free:=λc ob q n hx=>by
  obtain⟨o',e1⟩:=a.there c ob q hx;exact b.free c o' e1 (a.free c ob q n hx) hx
 there:=λc ob q hx=>by
  obtain⟨o',e1⟩:=a.there c ob q hx;exact b.there c o' e1 hx
 tups:=λc xs q=>b.tups c xs (a.tups c xs q)
 frzs:=λc ob xs q=>b.frzs c ob xs (a.frzs c ob xs q)
 tbls:=λc ps q=>by
  obtain⟨m1,e1⟩:=a.tbls c ps q;obtain⟨m2,e2⟩:=b.tbls c _ e1;exact⟨m1++m2,by rw[e2,Array.append_assoc]⟩
theorem Un.kept(k:∀b u,h.get? b=some u->h'.get? b=some u):Un fs ex H H h h':=
 ⟨λb ob q _ _ _=>k b ob q,λb ob q _ _ _=>⟨ob.slots,k b ob q⟩,λ_ _ _ n _=>n,λb ob q _=>⟨ob,k b ob q⟩,λ_ _ q=>q,λ_ _ _ q=>q,λ_ ps q=>⟨#[],by rw[q];simp⟩⟩
theorem Un.refl:Un fs ex H H h h:=Un.kept λ_ _ q=>q
theorem Un.laid(k:∀b u,h.get? b=some u->h'.get? b=some u)(hp:h.objs.size<=a)(hn:H a=none):Un fs ex H (upd H a o) h h' where
 keep:=λb u q _ _ _=>k b u q
 slot:=λb u q _ _ _=>⟨u.slots,k b u q⟩
 free:=λb u q n _=>by rw[aA (QC (Qv (Qk q) hp))];exact n
 there:=λb u q _=>⟨u,k b u q⟩
 tups:=λb xs q=>by rw[aA (aG q hn)];exact q
 frzs:=λb u xs q=>by rw[aA (aG q hn)];exact q
 tbls:=λb ps q=>⟨#[],by rw[aA (aG q hn),q];simp⟩
theorem Un.write(mu:Mut (H x))(he:e=x\/H e=some (.own x))(k:∀b u,b≠e->h.get? b=some u->h'.get? b=some u)(heo:∃u,h'.get? e=some u):Un fs ex H (upd H x o) h h':=by
 have hx:∀b,H b=none->b≠x:=λb n z=>by subst z;rw[n] at mu;exact mu
 have hb:∀b,H b=none->b≠e:=λb n z=>by
  subst z;rcases he with r | r
  ·exact hx b n r
  ·rw[n] at r;cases r
 have hm:∀b u,H b=some u->¬ Mut (some u)->b≠x:=λb u q nm z=>by subst z;rw[q] at mu;exact nm mu
 refine⟨λb u q n _ _=>k b u (hb b n) q,λb u q n _ _=>⟨u.slots,k b u (hb b n) q⟩,λb u q n _=>by rw[aA (hx b n)];exact n,λb u q _=>?_,
  λb xs q=>by rw[aA (hm b _ q λz=>z)];exact q,λb u xs q=>by rw[aA (hm b _ q λz=>z)];exact q,λb ps q=>⟨#[],by rw[aA (hm b _ q λz=>z),q];simp⟩⟩
 by_cases hbe:b=e
 ·subst hbe;exact heo
 ·exact⟨u,k b u hbe q⟩
theorem Un.mono(u:Un fs ex H H1 h h1)(hs:∀b∈fs,b∈fs')(hx:∀b∈ex,b∈ex'):Un fs' ex' H H1 h h1:=
 ⟨λb ob q n hb he=>u.keep b ob q n (λz=>hb (hs b z)) λz=>he (hx b z),λ_ _ q n _ he=>u.any q n λz=>he (hx _ z),λb ob q n he=>u.free b ob q n λz=>he (hx b z),λb ob q he=>u.there b ob q λz=>he (hx b z),u.tups,u.frzs,u.tbls⟩
end
def trk(h:Heap)(H:Hp):List Addr:=(JB h.objs.size).filter λa=>(H a).isSome
def k6(h:Heap)(H:Hp):Heap:=PySem.W.hideAll h (trk h H)
theorem qm(h:Heap)(H:Hp):(k6 h H).objs.size=h.objs.size:=PySem.W.hideAll_size _ _
theorem sf{h:Heap}{H:Hp}{b:Addr}{o:Obj}(e:h.get? b=some o)(n:H b=none):(k6 h H).get? b=some o:=
 PySem.W.hideAll_get _ e λhm=>by
  have q:(H b).isSome=true:=(List.mem_filter.mp hm).2;rw[n] at q;simp at q
theorem vk{h:Heap}{H:Hp}{b:Addr}{o:Obj}(e:(k6 h H).get? b=some o):h.get? b=some o/\H b=none:=by
 have e':h.get? b=some o:=PySem.W.of_hideAll (trk h H) e;refine⟨e',?_⟩;cases q:H b with
 |none=>rfl
 |some x=>
  have hm:b∈trk h H:=List.mem_filter.mpr ⟨List.mem_range.mpr (Qk e'),by simp[q]⟩;have z:(k6 h H).get? b=none:=PySem.W.hideAll_none (trk h H) hm;rw[z] at e;cases e
def uC(g h:Heap)(L:Addr):List (Addr×Obj):=(JB h.objs.size).filterMap λa=>if a=L\/(g.get? a).isSome=true then none else(h.get? a).map λo=>(a,o)
def rest(g h:Heap)(L d:Addr):List (Addr×Obj):=(uC g h L).filter λp=>decide (p.1≠d)
structure Mod(K:Qc)(mg:Str->Option Qb)(base:Heap):Prop where
 kin:K.In base
 glob:base.Ns QD mg
 blt:∃mb,base.Ns builtinsNs mb/\∀x:Str,x≠"__name__"->mb x=JK x
 nolimit:base.NoLimit
structure Cx where
 prog:Qr
 w:Qu
 K:Qc
 mg:Str->Option Qb
 base:Heap
 A:QB
 N:List Str
 s₀:Qd
 H₀:Hp
 env:Env
 outer:List Env
 stack:List Env
 ex:List Addr
 fn:Str->Bool
 calm:Bool
 pn:List (Addr×Obj)
 xe:Qb->Qd->Prop
def frs(l:List Env):List Addr:=l.filterMap (·.frame)
abbrev Cx.fs(X:Cx):List Addr:=frs X.outer
def Vis(sc:Scope)(x:Str):Prop:=sc.names.lookup x=some .local\/sc.names.lookup x=some .cell\/sc.names.lookup x=some .free
def Loc(sc:Scope)(x:Str):Prop:=sc.names.lookup x=some .local\/sc.names.lookup x=some .cell
def z0(env:Env)(h:Heap)(m:Str->Option Qb)(x:Str)(u:Qb):Prop:=
 (env.kindOf x=some .local/\m x=some u)\/((env.kindOf x=some .cell\/env.kindOf x=some .free)/\∃c,env.cells.lookup x=some c/\h.IsCell c (some u))
structure Cx.Ok(X:Cx):Prop where
 mod:Mod X.K X.mg X.base
 kind:X.env.scope.kind=.function
 glob:X.env.globals=QD
 blt:X.env.builtins=builtinsNs
 above:X.s₀.heap.objs.size<=X.env.locals
 inj:∀x y c,X.env.cells.lookup x=some c->X.env.cells.lookup y=some c->x=y
 has:∀x,(X.env.kindOf x=some .cell\/X.env.kindOf x=some .free)->∃c,X.env.cells.lookup x=some c
 cab:∀x c,X.fn x=true->X.env.cells.lookup x=some c->X.s₀.heap.objs.size<=c
 hd:X.calm=true->X.A.handled=none
 frames:X.A.frames=some X.stack
 stk:X.stack=X.outer\/(X.stack=X.env::X.outer/\X.env.frame=some X.env.locals)
 exf:∀b∈X.ex,b≠X.env.locals/\∀x c,X.env.cells.lookup x=some c->c≠b
 bs:∀b o,X.base.get? b=some o->X.s₀.heap.get? b=some o/\X.H₀ b=none
 bsz:X.base.objs.size<=X.s₀.heap.objs.size
 noex:∀b o,X.base.get? b=some o->b∉X.ex
 exfs:∀b∈X.ex,b∉X.fs
 funs:X.s₀.heap.FunFrames X.base X.outer
 frf:∀b∈X.fs,X.H₀ b=none
structure Inv(X:Cx)(pins:List (Addr×Obj))(σ:List (Option V))(H:Hp)(s:Qd):Prop where
 ok:X.Ok
 os:s.os=X.s₀.os
 bare:AllBare s.gens
 base:Un X.fs X.ex X.H₀ H X.s₀.heap s.heap
 loc:∃m,s.heap.Ns X.env.locals m/\∀(i:Nat) (x:Str) (v:V),X.N[i]?=some x->σ[i]?=some (some v)->Vis X.env.scope x->∃u,aW v u/\z0 X.env s.heap m x u
 cell:∀x c,X.env.cells.lookup x=some c->∃v,s.heap.IsCell c v
 free:H X.env.locals=none
 freeC:∀x c,X.env.cells.lookup x=some c->H c=none
 pin:∀p∈X.pn++pins,s.heap.get? p.1=some p.2/\H p.1=none/\p.1≠X.env.locals/\p.1∉X.fs/\∀v,p.2.data≠.cell v
 hok:HOk X.prog X.w H s.heap
 len:σ.length=X.N.length
section
variable{X:Cx}{pins:List (Addr×Obj)}{σ:List (Option V)}{H H':Hp}{s:Qd}{h':Heap}
theorem Cx.Ok.nofr(ok:X.Ok){b:Addr}{o:Obj}(e:X.base.get? b=some o):b∉X.fs:=λhb=>by
 have:=(ok.funs.mem hb).1;rw[e] at this;cases this
theorem Inv.bs(I:Inv X pins σ H s):∀b o,X.base.get? b=some o->s.heap.get? b=some o/\H b=none:=λb o e=>
 ⟨I.base.keep b o (I.ok.bs b o e).1 (I.ok.bs b o e).2 (I.ok.nofr e) (I.ok.noex b o e),I.base.free b o (I.ok.bs b o e).1 (I.ok.bs b o e).2 (I.ok.noex b o e)⟩
theorem Inv.bk(I:Inv X pins σ H s):∀b o,X.base.get? b=some o->s.heap.get? b=some o:=λb o e=>(I.bs b o e).1
theorem Inv.mod(I:Inv X pins σ H s):Mod X.K X.mg X.base:=I.ok.mod
theorem Inv.kIn(I:Inv X pins σ H s):X.K.In s.heap:=I.ok.mod.kin.keeps I.bk
theorem Inv.nolimit(I:Inv X pins σ H s):s.heap.NoLimit:=I.ok.mod.nolimit.keeps I.bk
theorem Inv.fr(I:Inv X pins σ H s):∃m,Fr X.base X.env.locals s.heap m:=
 let⟨m,hn,_⟩:=I.loc
 ⟨m,hn,I.bk,QK I.ok.bsz I.ok.above⟩
theorem Inv.lt(I:Inv X pins σ H s):X.env.locals<s.heap.objs.size:=let⟨_,hn,_⟩:=I.loc;hn.lt
theorem Inv.sz(I:Inv X pins σ H s):X.s₀.heap.objs.size<=s.heap.objs.size:=QK I.ok.above (Nat.le_of_lt I.lt)
theorem Inv.nofs(I:Inv X pins σ H s){a:Addr}(h:s.heap.objs.size<=a):a∉X.fs:=λhb=>by
 obtain⟨_,o,ho,_⟩:=I.ok.funs.mem hb;exact absurd (Qv (Qk ho) (QK I.sz h)) (QR _)
theorem Inv.cne(I:Inv X pins σ H s):∀x c,X.env.cells.lookup x=some c->c≠X.env.locals:=λx c e z=>by
 obtain⟨v,o,ho,hd⟩:=I.cell x c e;obtain⟨m,⟨o',es,ep,ho',hd',_⟩,_⟩:=I.loc;rw[z,ho'] at ho;cases ho;rw[hd'] at hd;cases hd
theorem Inv.funs(I:Inv X pins σ H s):s.heap.FunFrames X.base X.outer:=by
 have all:∀(l:List Env),(∀b∈frs l,b∈X.fs)->X.s₀.heap.FunFrames X.base l->s.heap.FunFrames X.base l:=by
  intro l
  induction l with
  |nil=>intro _ _;trivial
  |cons env r ih=>
   intro hs hl;obtain⟨hk,⟨L,o,hf,hn,ho,hd⟩,hr⟩:=hl;have hL:L∈X.fs:=hs L (by unfold frs;rw[Zr,hf];exact QL);obtain⟨sl,e⟩:=I.base.slot L o ho (I.ok.frf L hL) hL λz=>I.ok.exfs L z hL;exact⟨hk,⟨L,_,hf,hn,e,hd⟩,ih (λb hb=>hs b (by unfold frs;rw[Zr,hf];exact Qy _ hb)) hr⟩
 exact all X.outer (λ_ hb=>hb) I.ok.funs
theorem Inv.stack(I:Inv X pins σ H s):s.heap.FunFrames X.base X.stack:=by
 rcases I.ok.stk with e | ⟨e,hf⟩
 ·rw[e];exact I.funs
 ·rw[e]
  obtain⟨m,hn,_⟩:=I.loc;refine .cons (by rw[I.ok.kind];decide) hf hn ?_ I.funs;exact Heap.get?_none_of_le (QK I.ok.bsz I.ok.above)
theorem Inv.stkSub(I:Inv X pins σ H s):∀b∈frs X.stack,b∈X.env.locals::X.fs:=λb hb=>by
 rcases I.ok.stk with e | ⟨e,hf⟩
 ·rw[e] at hb;exact Qy _ hb
 ·rw[e] at hb
  unfold frs at hb;rw[Zr,hf] at hb;exact hb
theorem Inv.stkFree(I:Inv X pins σ H s):∀b∈frs X.stack,H b=none:=λb hb=>by
 rcases Ql.mp (I.stkSub b hb) with e | hb
 ·rw[e];exact I.free
 ·obtain⟨_,o,ho,_⟩:=I.ok.funs.mem hb
  exact I.base.free b o ho (I.ok.frf b hb) λz=>I.ok.exfs b z hb
theorem Inv.step{g':Array GenState}{t':Nat}{d':Drawn}{ch:List Addr}(I:Inv X pins σ H s)
  (hch:∀b∈ch,(b∈X.ex\/X.s₀.heap.objs.size<=b)/\b≠X.env.locals/\(∀x c,X.env.cells.lookup x=some c->c≠b)/\∀p∈X.pn++pins,p.1≠b)
  (keep:∀b o,b≠X.env.locals->b∉X.fs->b∉ch->s.heap.get? b=some o->H b=none->h'.get? b=some o)
  (slot:∀b o,b≠X.env.locals->b∈X.fs->b∉ch->s.heap.get? b=some o->H b=none->∃sl,h'.get? b=some { o with slots:=sl }) (free:∀b o,b∉ch->s.heap.get? b=some o->H b=none->H' b=none)
  (there:∀b o,b∉ch->s.heap.get? b=some o->∃o',h'.get? b=some o')
  (tups:∀b xs,H b=some (.tup xs)->H' b=some (.tup xs)) (frzs:∀b o u,H b=some (.frz o u)->H' b=some (.frz o u)) (tbls:∀b ps,H b=some (.tbl ps)->∃more,H' b=some (.tbl (ps++more)))
  (ns:∀m,s.heap.Ns X.env.locals m->h'.Ns X.env.locals m) (hok:HOk X.prog X.w H' h') (hg:AllBare g') :
  Inv X pins σ H' { s with heap:=h',gens:=g',drawn:=d',toks:=t' }:=by
 have neL:∀b o,X.s₀.heap.get? b=some o->b≠X.env.locals:=λb o e=>QC (Qv (Qk e) I.ok.above)
 have neC:∀b o,X.s₀.heap.get? b=some o->b∉X.ex->b∉ch:=λb o e hx hb=>by
  rcases(hch b hb).1 with z | z
  ·exact hx z
  ·exact absurd (Qv (Qk e) z) (QR _)
 have cellK:∀x c,X.env.cells.lookup x=some c->∀v,s.heap.IsCell c v->h'.IsCell c v:=λx c e v ⟨o,ho,hd⟩=>by
  have nch:c∉ch:=λz=>(hch c z).2.2.1 x c e rfl
  by_cases hc:c∈X.fs
  ·obtain⟨sl,q⟩:=slot c o (I.cne x c e) hc nch ho (I.freeC x c e)
   exact⟨_,q,hd⟩
  ·exact⟨o,keep c o (I.cne x c e) hc nch ho (I.freeC x c e),hd⟩
 refine⟨I.ok,I.os,hg,⟨λb o e n hb hx=>?_,λb o e n hb hx=>?_,λb o e n hx=>?_,λb o e hx=>?_,λb xs e=>tups b xs (I.base.tups b xs e),λb o xs e=>frzs b o xs (I.base.frzs b o xs e),λb ps e=>?_⟩,?_,λx c e=>?_,?_,λx c e=>?_,λp hp=>?_,hok,I.len⟩
 ·exact keep b o (neL b o e) hb (neC b o e hx) (I.base.keep b o e n hb hx) (I.base.free b o e n hx)
 ·obtain⟨sl,e1⟩:=I.base.slot b o e n hb hx
  obtain⟨sl',e2⟩:=slot b _ (neL b o e) hb (neC b o e hx) e1 (I.base.free b o e n hx);exact⟨sl',e2⟩
 ·obtain⟨o',e1⟩:=I.base.there b o e hx
  exact free b o' (neC b o e hx) e1 (I.base.free b o e n hx)
 ·obtain⟨o',e1⟩:=I.base.there b o e hx
  exact there b o' (neC b o e hx) e1
 ·obtain⟨m1,e1⟩:=I.base.tbls b ps e
  obtain⟨m2,e2⟩:=tbls b _ e1;exact⟨m1++m2,by rw[e2,Array.append_assoc]⟩
 ·obtain⟨m,hn,hl⟩:=I.loc
  refine⟨m,ns m hn,λi x v e1 e2 e3=>?_⟩;obtain⟨u,r,l⟩:=hl i x v e1 e2 e3;refine⟨u,r,?_⟩;rcases l with l | ⟨k,c,e,z⟩
  ·exact .inl l
  ·exact .inr ⟨k,c,e,cellK x c e _ z⟩
 ·obtain⟨v,z⟩:=I.cell x c e
  exact⟨v,cellK x c e v z⟩
 ·obtain⟨m,⟨o,_,_,ho,_⟩,_⟩:=I.loc
  exact free _ o (λz=>(hch _ z).2.1 rfl) ho I.free
 ·obtain⟨v,o,ho,hd⟩:=I.cell x c e
  exact free c o (λz=>(hch c z).2.2.1 x c e rfl) ho (I.freeC x c e)
 ·obtain⟨e,n,ne,nf,d⟩:=I.pin p hp
  have nch:p.1∉ch:=λz=>(hch p.1 z).2.2.2 p hp rfl;exact⟨keep p.1 p.2 ne nf nch e n,free p.1 p.2 nch e n,ne,nf,d⟩
theorem Inv.un{t':Nat}(I:Inv X pins σ H s)(u:Un X.fs [] H H' s.heap h')(hok:HOk X.prog X.w H' h'):Inv X pins σ H' { s with heap:=h',toks:=t' }:=by
 obtain⟨m,⟨o,es,ep,ho,r⟩,_⟩:=id I.loc;obtain⟨sl,hL⟩:=u.any ho I.free (by simp)
 exact I.step (g':=s.gens) (d':=s.drawn) (ch:=[]) (λ_ z=>nomatch z) (λb o _ hb _ e n=>u.keep b o e n hb (by simp)) (λb o _ hb _ e n=>u.slot b o e n hb (by simp)) (λb o _ e n=>u.free b o e n (by simp)) (λb o _ e=>u.there b o e (by simp)) u.tups u.frzs u.tbls (λm' hm=>by
  obtain⟨o',es',ep',ho',r'⟩:=hm;rw[ho] at ho';cases ho'
  exact⟨_,es',ep',hL,r'⟩) hok I.bare
theorem Inv.call{g':Array GenState}{t':Nat}{d':Drawn}{ch:List Addr}(I:Inv X pins σ H s)(u:Un (frs X.stack) ch H H' s.heap h')(hok:HOk X.prog X.w H' h')(hg:AllBare g')
  (hch:∀b∈ch,(b∈X.ex\/X.s₀.heap.objs.size<=b)/\b≠X.env.locals/\(∀x c,X.env.cells.lookup x=some c->c≠b)/\∀p∈X.pn++pins,p.1≠b) :
  Inv X pins σ H' { s with heap:=h',gens:=g',drawn:=d',toks:=t' }:=by
 obtain⟨m,⟨o,es,ep,ho,r⟩,_⟩:=id I.loc;obtain⟨sl,hL⟩:=u.any ho I.free λz=>(hch _ z).2.1 rfl
 exact I.step (ch:=ch) hch (λb o hL hb hc e n=>u.keep b o e n (λz=>(Ql.mp (I.stkSub b z)).elim hL hb) hc) (λb o _ _ hc e n=>u.any e n hc) (λb o hc e n=>u.free b o e n hc) (λb o hc e=>u.there b o e hc) u.tups u.frzs u.tbls (λm' hm=>by
  obtain⟨o',es',ep',ho',r'⟩:=hm;rw[ho] at ho';cases ho'
  exact⟨_,es',ep',hL,r'⟩) hok hg
theorem Inv.turned{t':Nat}{it:Addr}(I:Inv X pins σ H s)(k:∀b o,b≠it->s.heap.get? b=some o->h'.get? b=some o)(hn:H it=none)(hL:it≠X.env.locals)
  (h1:it∈X.ex\/X.s₀.heap.objs.size<=it) (h2:∀x c,X.env.cells.lookup x=some c->c≠it) (h3:∀p∈X.pn++pins,p.1≠it):Inv X pins σ H { s with heap:=h',toks:=t' }:=by
 have nit:∀b u,H b=some u->b≠it:=λb u e z=>by rw[z,hn] at e;cases e
 refine I.step (g':=s.gens) (d':=s.drawn) (ch:=[it]) (λb hb=>?_) (λb o _ _ hc e _=>k b o (λz=>hc (by simp[z])) e) (λb o _ _ hc e _=>⟨o.slots,k b o (λz=>hc (by simp[z])) e⟩) (λ_ _ _ _ n=>n)
  (λb o hc e=>⟨o,k b o (λz=>hc (by simp[z])) e⟩) (λ_ _ e=>e) (λ_ _ _ e=>e) (λb ps e=>⟨#[],by rw[e];simp⟩) (λm hm=>?_) (λb u e=>?_) I.bare
 ·have e:b=it:=by simpa using hb
  subst e;exact⟨h1,hL,h2,h3⟩
 ·obtain⟨o,es,ep,ho,r⟩:=hm
  exact⟨o,es,ep,k _ o (Ne.symm hL) ho,r⟩
 ·refine(I.hok b u e).stay (λc v hc q=>k c v ?_ q) (λ_ q=>q) λ_ _ q=>q
  rcases hc with z | z
  ·rw[z];exact nit b u e
  ·exact nit c _ z
theorem Inv.tok(I:Inv X pins σ H s)(t:Nat):Inv X pins σ H { s with toks:=t }:=I.un (h':=s.heap) (t':=t) Un.refl I.hok
theorem Inv.kept{t':Nat}(I:Inv X pins σ H s)(k:∀b u,s.heap.get? b=some u->h'.get? b=some u):Inv X pins σ H { s with heap:=h',toks:=t' }:=I.un (Un.kept k) (I.hok.kept k)
theorem Inv.laid{a:Addr}{o:HO}{t':Nat}(I:Inv X pins σ H s)(k:∀b u,s.heap.get? b=some u->h'.get? b=some u)(hp:s.heap.objs.size<=a)(new:bO X.prog X.w (upd H a o) h' a o) :
  Inv X pins σ (upd H a o) { s with heap:=h',toks:=t' }:=I.un (Un.laid k hp (I.hok.fresh hp)) (I.hok.laid k hp new)
theorem Inv.write{x e:Addr}{o:HO}{t':Nat}(I:Inv X pins σ H s)(mu:Mut (H x))(he:e=x\/H e=some (.own x))(k:∀b u,b≠e->s.heap.get? b=some u->h'.get? b=some u)(heo:∃u,h'.get? e=some u)
  (new:bO X.prog X.w (upd H x o) h' x o):Inv X pins σ (upd H x o) { s with heap:=h',toks:=t' }:=I.un (Un.write mu he k heo) (I.hok.write mu he k heo new)
theorem Inv.pins_of{pins':List (Addr×Obj)}(I:Inv X pins σ H s)(h:∀p∈pins',s.heap.get? p.1=some p.2/\H p.1=none/\p.1≠X.env.locals/\p.1∉X.fs/\∀v,p.2.data≠.cell v):Inv X pins' σ H s:=
 ⟨I.ok,I.os,I.bare,I.base,I.loc,I.cell,I.free,I.freeC,λp hp=>(Jh.mp hp).elim (λz=>I.pin p (JC _ z)) (h p),I.hok,I.len⟩
theorem jn{N:List Str}(hN:N.Nodup){i j:Nat}{x:Str}(a:N[i]?=some x)(b:N[j]?=some x):i=j:=by
 obtain⟨h1,e1⟩:=Qs.mp a;obtain⟨h2,e2⟩:=Qs.mp b;exact(List.getElem_inj hN).mp (e1.trans e2.symm)
theorem pL{M:Model}{A:QB}{E:Qb->Qd->Prop}{i:Nat}{x:Str}{v:V}{u:Qb}{Q:Unit->Qd->Prop}(I:Inv X pins σ H s)(hN:X.N.Nodup)(hi:X.N[i]?=some x)(hx:Loc X.env.scope x)(r:aW v u)
  (h:∀s',Inv X pins (σ.set i (some v)) H s'->(∃a,JD a s.heap s'.heap/\(a=X.env.locals\/X.env.cells.lookup x=some a))->Q () s') (hf:X.fn x=true\/X.env.scope.names.lookup x=some .local:=by first | exact .inl rfl | exact .inr rfl | assumption):Qg M A (storeName X.env x u) Q E s:=by
 obtain⟨m,hn,hl⟩:=id I.loc;have hcls:(X.env.scope.kind == .class || (X.env.scope.kind == .module&&X.env.locals != X.env.globals))=false:=by rw[I.ok.kind];rfl
 have hiσ:i<σ.length:=by rw[I.len];exact(Qs.mp hi).1
 have cne:=I.cne
 have tracked:∀{a:Addr} {h':Heap},(∃o,s.heap.get? a=some o/\H a=none)->JD a s.heap h'->HOk X.prog X.w H h':=λ{a h'} ha hs b ob e=>by
  obtain⟨_,_,hfree⟩:=ha;refine(I.hok b ob e).stay (λc w' hc q=>(hs.2 c ?_).trans q) (λ_ q=>q) λ_ _ q=>q;rintro rfl;rcases hc with rfl | hc
  ·rw[hfree] at e;cases e
  ·rw[hfree] at hc;cases hc
 rcases hx with hk | hk
 ·refine wpAny_storeName_local hk hn (λh' hn' hs=>?_) hcls
  obtain⟨oL,_,_,hoL,_⟩:=id hn;refine h _ ⟨I.ok,I.os,I.bare,⟨λb o e n hb hx=>?_,λb o e n hb hx=>?_,I.base.free,λb o e hx=>?_,I.base.tups,I.base.frzs,I.base.tbls⟩,⟨_,hn',λj y v' e1 e2 e3=>?_⟩,λy c e=>?_,I.free,I.freeC,λp hp=>?_,tracked ⟨oL,hoL,I.free⟩ hs,by simpa using I.len⟩ ⟨_,hs,.inl rfl⟩
  ·exact(hs.2 b (QC (Qv (Qk e) I.ok.above))).trans (I.base.keep b o e n hb hx)
  ·obtain⟨sl,e1⟩:=I.base.slot b o e n hb hx
   exact⟨sl,(hs.2 b (QC (Qv (Qk e) I.ok.above))).trans e1⟩
  ·obtain⟨o',e1⟩:=I.base.there b o e hx
   exact⟨o',(hs.2 b (QC (Qv (Qk e) I.ok.above))).trans e1⟩
  ·by_cases hj:j=i
   ·subst hj
    rw[hi] at e1;cases e1;rw[Zk hiσ] at e2;cases e2;exact⟨u,r,.inl ⟨hk,by simp⟩⟩
   ·rw[List.getElem?_set_ne (Ne.symm hj)] at e2
    obtain⟨u',r',q⟩:=hl j y v' e1 e2 e3;refine⟨u',r',?_⟩;rcases q with⟨k,e⟩ | ⟨k,c,e,z⟩
    ·refine .inl ⟨k,?_⟩
     have:y≠x:=λe=>hj (jn hN e1 (e▸hi));simp[this,e]
    ·exact .inr ⟨k,c,e,z.sameBut hs (cne y c e)⟩
  ·obtain⟨w',z⟩:=I.cell y c e
   exact⟨w',z.sameBut hs (cne y c e)⟩
  ·obtain⟨e,n,ne,nf,d⟩:=I.pin p hp
   exact⟨(hs.2 p.1 ne).trans e,n,ne,nf,d⟩
 ·have hfn:X.fn x=true:=by
   rcases hf with z | z
   ·exact z
   ·rw[z] at hk;cases hk
  obtain⟨c,hc⟩:=I.ok.has x (.inl hk);obtain⟨w',z⟩:=I.cell x c hc;refine wpAny_storeName_cell I.ok.kind hk hc z (λh' hc' hs=>?_);obtain⟨oc,hoc,hocd⟩:=id z;refine h { s with heap:=h' } ⟨I.ok,I.os,I.bare,⟨λb o e n hb hx=>?_,λb o e n hb hx=>?_,I.base.free,λb o e hx=>?_,I.base.tups,I.base.frzs,I.base.tbls⟩,⟨m,hn.sameBut hs (Ne.symm (cne x c hc)),λj y v' e1 e2 e3=>?_⟩,λy c' e=>?_,I.free,I.freeC,λp hp=>?_,tracked ⟨oc,hoc,I.freeC x c hc⟩ hs,by simpa using I.len⟩ ⟨c,hs,.inr hc⟩
  ·exact(hs.2 b (QC (Qv (Qk e) (I.ok.cab x c hfn hc)))).trans (I.base.keep b o e n hb hx)
  ·obtain⟨sl,e1⟩:=I.base.slot b o e n hb hx
   exact⟨sl,(hs.2 b (QC (Qv (Qk e) (I.ok.cab x c hfn hc)))).trans e1⟩
  ·obtain⟨o',e1⟩:=I.base.there b o e hx
   exact⟨o',(hs.2 b (QC (Qv (Qk e) (I.ok.cab x c hfn hc)))).trans e1⟩
  ·by_cases hj:j=i
   ·subst hj
    rw[hi] at e1;cases e1;rw[Zk hiσ] at e2;cases e2;exact⟨u,r,.inr ⟨.inl hk,c,hc,hc'⟩⟩
   ·rw[List.getElem?_set_ne (Ne.symm hj)] at e2
    obtain⟨u',r',q⟩:=hl j y v' e1 e2 e3;refine⟨u',r',?_⟩;rcases q with q | ⟨k,c',e,z'⟩
    ·exact .inl q
    ·refine .inr ⟨k,c',e,z'.sameBut hs ?_⟩
     rintro rfl;exact hj (jn hN e1 (I.ok.inj _ _ _ e hc▸hi))
  ·by_cases hcc:c'=c
   ·subst hcc;exact⟨_,hc'⟩
   ·obtain⟨w2,z2⟩:=I.cell y c' e
    exact⟨w2,z2.sameBut hs hcc⟩
  ·obtain⟨e,n,ne,nf,d⟩:=I.pin p hp
   refine⟨(hs.2 p.1 ?_).trans e,n,ne,nf,d⟩;intro q;rw[q,hoc] at e;have q':oc=p.2:=Option.some.inj e;exact d w' (by rw[<-q'];exact hocd)
theorem cz{M:Model}{A:QB}{E:Qb->Qd->Prop}{i:Nat}{x:Str}{v:V}{u:Qb}{Q:Unit->Qd->Prop}(I:Inv X pins σ H s)(hN:X.N.Nodup)(hi:X.N[i]?=some x)(hx:Loc X.env.scope x)(r:aW v u)
  (h:∀s',Inv X pins (σ.set i (some v)) H s'->Q () s') (hf:X.fn x=true\/X.env.scope.names.lookup x=some .local:=by first | exact .inl rfl | exact .inr rfl | assumption):Qg M A (storeName X.env x u) Q E s:=
 pL I hN hi hx r (λs' I' _=>h s' I') hf
theorem Inv.call'{s':Qd}{ch:List Addr}(I:Inv X pins σ H s)(ho:s'.os=s.os)(u:Un (frs X.stack) ch H H' s.heap s'.heap)(hok:HOk X.prog X.w H' s'.heap)(hg:AllBare s'.gens)
  (hch:∀b∈ch,(b∈X.ex\/X.s₀.heap.objs.size<=b)/\b≠X.env.locals/\(∀x c,X.env.cells.lookup x=some c->c≠b)/\∀p∈X.pn++pins,p.1≠b):Inv X pins σ H' s':=by
 obtain⟨h',g',d',t',o'⟩:=s';have e:o'=s.os:=ho;subst e;exact I.call (g':=g') (t':=t') (d':=d') u hok hg hch
end
abbrev XK:=Qb->Option Addr->Hp->Prop
abbrev St:=List (Option V)
abbrev VK:=V->Hp->Prop
abbrev TE:=St->Hp->VK->Prop
abbrev TT:=St->Hp->(Bool->Hp->Prop)->Prop
abbrev TA:=St->Hp->(List V->Hp->Prop)->Prop
structure Ends where
 nx:St->Hp->Prop
 rt:VK
 bk:St->Hp->Prop:=λ_ _=>False
 ct:St->Hp->Prop:=λ_ _=>False
abbrev TS:=Ends->St->Hp->Prop
def EP(X:Cx)(pins:List (Addr×Obj))(σ:St)(Q:VK)(u:Qb)(s':Qd):Prop:=∃v H',Inv X pins σ H' s'/\aW v u/\Q v H'
def TP(X:Cx)(pins:List (Addr×Obj))(σ:St)(Q:Bool->Hp->Prop)(b:Bool)(s':Qd):Prop:=∃H',Inv X pins σ H' s'/\Q b H'
def AP(X:Cx)(pins:List (Addr×Obj))(σ:St)(Q:List V->Hp->Prop)(us:List Qb)(s':Qd):Prop:=∃vs H',Inv X pins σ H' s'/\aX vs us/\Q vs H'
def SP(X:Cx)(pins:List (Addr×Obj))(D:Ends)(f:Flow)(s':Qd):Prop:=
 match f with
 |.next=>∃σ' H',Inv X pins σ' H' s'/\D.nx σ' H'
 |.brk=>∃σ' H',Inv X pins σ' H' s'/\D.bk σ' H'
 |.cont=>∃σ' H',Inv X pins σ' H' s'/\D.ct σ' H'
 |.ret u=>∃v σ' H',Inv X pins σ' H' s'/\aW v u/\D.rt v H'
def PE(X:Cx)(e:Expr)(t:TE):Prop:=
 ∀(pins:List (Addr×Obj)) (s:Qd) (σ:St) (H:Hp) (Q:VK),Inv X pins σ H s->t σ H Q->Qg (Qi X.prog X.w) X.A (eval e X.env) (EP X pins σ Q) X.xe s
def PT(X:Cx)(e:Expr)(t:TT):Prop:=
 ∀(pins:List (Addr×Obj)) (s:Qd) (σ:St) (H:Hp) (Q:Bool->Hp->Prop),Inv X pins σ H s->t σ H Q->Qg (Qi X.prog X.w) X.A (isTrue e X.env (eval e X.env)) (TP X pins σ Q) X.xe s
def PW(X:Cx)(e:Expr)(t:TT):Prop:=
 ∀(whole:Sem Qb) (pins:List (Addr×Obj)) (s:Qd) (σ:St) (H:Hp) (Q:Bool->Hp->Prop),Inv X pins σ H s->t σ H Q->Qg (Qi X.prog X.w) X.A (isTrue e X.env whole) (TP X pins σ Q) X.xe s
theorem PW.pt{X:Cx}{e:Expr}{t:TT}(h:PW X e t):PT X e t:=h _
def PA(X:Cx)(es:List Expr)(t:TA):Prop:=
 ∀(pos:Pos) (pins:List (Addr×Obj)) (s:Qd) (σ:St) (H:Hp) (Q:List V->Hp->Prop),Inv X pins σ H s->t σ H Q->Qg (Qi X.prog X.w) X.A (spliced (Ja pos (Qj es X.env))) (AP X pins σ Q) X.xe s
def PS(X:Cx)(st:Stmt)(t:TS):Prop:=
 ∀(pins:List (Addr×Obj)) (s:Qd) (σ:St) (H:Hp) (D:Ends),Inv X pins σ H s->t D σ H->Qg (Qi X.prog X.w) X.A (exec st X.env) (SP X pins D) X.xe s
def PSs(X:Cx)(st:List Stmt)(t:TS):Prop:=
 ∀(pins:List (Addr×Obj)) (s:Qd) (σ:St) (H:Hp) (D:Ends),Inv X pins σ H s->t D σ H->Qg (Qi X.prog X.w) X.A (execs st X.env) (SP X pins D) X.xe s
theorem thn{α:Type}{t:Sem α}{Q Q':α->Qd->Prop}{M:Model}{A:QB}{E:Qb->Qd->Prop}{s:Qd}(h:Qg M A t Q E s)(hQ:∀a s,Q a s->Q' a s):Qg M A t Q' E s:=Q0 h hQ λ_ _ x=>x
section
variable{X:Cx}
theorem bin{a b:Expr}{ta tb:TE}(ha:PE X a ta)(hb:PE X b tb){pins:List (Addr×Obj)}{s:Qd}{σ:St}{H:Hp}{R:V->V->Hp->Prop}(I:Inv X pins σ H s)(h:ta σ H λx H1=>tb σ H1 λy H2=>R x y H2)
  {α:Type} {Q:α->Qd->Prop} {f:Qb->Qb->Sem α}
  (hf:∀v u s2 x y H2,Inv X pins σ H2 s2->aW x v->aW y u->R x y H2->Qg (Qi X.prog X.w) X.A (f v u) Q X.xe s2) :
  Qg (Qi X.prog X.w) X.A (eval a X.env) (λv s₁=>Qg (Qi X.prog X.w) X.A (eval b X.env) (λu s₂=>Qg (Qi X.prog X.w) X.A (f v u) Q X.xe s₂) X.xe s₁) X.xe s:=by
 refine thn (ha pins s σ H _ I h) λv s1 ⟨x,H1,I1,r1,q1⟩=>?_;refine thn (hb pins s1 σ H1 _ I1 q1) λu s2 ⟨y,H2,I2,r2,q2⟩=>?_;exact hf v u s2 x y H2 I2 r1 r2 q2
def zX(i:Nat):TE:=λσ H Q=>∃v,σ[i]?=some (some v)/\Q v H
def tC(v:V):TE:=λ_ H Q=>Q v H
theorem ik{i:Nat}{x:Str}{pos:Pos}(hN:X.N[i]?=some x)(hv:Vis X.env.scope x)(hd:(x==("__debug__" : Str))=false:=by decide)(hcd:(x==("__classdict__" : Str))=false:=by decide):PE X (.Name x pos) (zX i):=by
 intro pins s σ H Q I h;obtain⟨v,e,h⟩:=h;obtain⟨m,hn,hl⟩:=I.loc;obtain⟨u,r,l⟩:=hl i x v hN e hv;have fin:EP X pins σ Q u s:=⟨v,H,I,r,h⟩;rcases l with⟨hk,hm⟩ | ⟨hk,c,hc,hcell⟩
 ·exact wpAny_Name (wpAny_loadName_local I.ok.kind hk hn hm fin) hd
 ·rcases hk with hk | hk
  ·exact wpAny_Name (wpAny_loadName_cell I.ok.kind hk hc hcell fin) hd
  ·exact wpAny_Name (wpAny_loadName_free I.ok.kind hk hc hcell fin hcd) hd
theorem w9{i j pos}:PE X (.Constant (.int i) j pos) (tC (.int i)):=λ_ _ _ H _ I h=>wpAny_Constant_int ⟨.int i,H,I.tok _,⟨_,rfl⟩,h⟩
theorem yG{b j pos}:PE X (.Constant (.bool b) j pos) (tC (.bl b)):=λ_ _ _ H _ I h=>Constant_bool ⟨.bl b,H,I,rfl,h⟩
theorem yd{j pos}:PE X (.Constant .none j pos) (tC .non):=λ_ _ _ H _ I h=>Constant_none ⟨.non,H,I,rfl,h⟩
theorem xX{x j pos}:PE X (.Constant (.str x) j pos) (tC (.str x)):=λ_ _ _ H _ I h=>Calls.Constant_str ⟨.str x,H,I.tok _,⟨_,rfl⟩,h⟩
def Gl(X:Cx)(x:Str):Prop:=X.env.kindOf x=some .globalImplicit
theorem gM{E:Qb->Qd->Prop}{pins:List (Addr×Obj)}{s:Qd}{σ:St}{H:Hp}{x:Str}{u:Qb}{pos:Pos}{Q:Qb->Qd->Prop}(I:Inv X pins σ H s)(hg:Gl X x)(hm:X.mg x=some u)(h:Q u s)
  (hd:(x==("__debug__" : Str))=false:=by decide):Qg (Qi X.prog X.w) X.A (eval (.Name x pos) X.env) Q E s:=
 Calls.Name_function_global I.ok.kind hg (Calls.loadGlobal_global (by rw[I.ok.glob];exact I.mod.glob.keeps I.bk) hm h) hd
theorem gH{E:Qb->Qd->Prop}{pins:List (Addr×Obj)}{s:Qd}{σ:St}{H:Hp}{x:Str}{u:Qb}{pos:Pos}{Q:Qb->Qd->Prop}(I:Inv X pins σ H s)(hg:Gl X x)(hm:X.mg x=none)(hv:JK x=some u)(h:Q u s)
  (hn:x≠"__name__":=by decide) (hd:(x==("__debug__" : Str))=false:=by decide):Qg (Qi X.prog X.w) X.A (eval (.Name x pos) X.env) Q E s:=by
 obtain⟨mb,h1,h2⟩:=I.mod.blt;exact Calls.Name_function_global I.ok.kind hg (Calls.loadGlobal_builtin (by rw[I.ok.glob];exact I.mod.glob.keeps I.bk) hm (by rw[I.ok.blt];exact h1.keeps I.bk) ((h2 x hn).trans hv) h) hd
theorem uF{x:Str}{v:V}{u:Qb}{pos:Pos}(hg:Gl X x)(hm:X.mg x=some u)(r:aW v u)(hd:(x==("__debug__" : Str))=false:=by decide):PE X (.Name x pos) (tC v):=
 λ_ _ _ H _ I h=>gM I hg hm ⟨v,H,I,r,h⟩ hd
theorem ud{x:Str}{v:V}{u:Qb}{pos:Pos}(hg:Gl X x)(hm:X.mg x=none)(hv:JK x=some u)(r:aW v u)(hn:x≠"__name__":=by decide)(hd:(x==("__debug__" : Str))=false:=by decide):PE X (.Name x pos) (tC v):=
 λ_ _ _ H _ I h=>gH I hg hm hv ⟨v,H,I,r,h⟩ hn hd
variable{a b:Expr}{ta tb:TE}{pos:Pos}
variable{tA tB':TT}{rest:List Expr}
def Ab(t u:TT):TT:=λσ H Q=>t σ H λc H1=>if c=true then u σ H1 Q else Q false H1
def tOr(t u:TT):TT:=λσ H Q=>t σ H λc H1=>if c=true then Q true H1 else u σ H1 Q
def zC(t:TT):TT:=λσ H Q=>t σ H λc H1=>Q (!c) H1
theorem tH(ha:PT X a tA):PW X (.BoolOp .And [a] pos) tA:=by
 intro wh pins s σ H Q I h;refine isTrue_and (thn (ha pins s σ H Q I h) λc s1 e=>?_);cases c with
 |true=>exact isTrue_and_nil e
 |false=>exact e
theorem xr(ha:PT X a tA):PW X (.BoolOp .Or [a] pos) tA:=by
 intro wh pins s σ H Q I h;refine isTrue_or (thn (ha pins s σ H Q I h) λc s1 e=>?_);cases c with
 |false=>exact isTrue_or_nil e
 |true=>exact e
theorem wY(ha:PT X a tA)(hb:PW X (.BoolOp .And (b::rest) pos) tB'):PW X (.BoolOp .And (a::b::rest) pos) (Ab tA tB'):=by
 intro wh pins s σ H Q I h;refine isTrue_and (thn (ha pins s σ H _ I h) λc s1 ⟨H1,I1,q1⟩=>?_);cases c with
 |true=>exact hb wh pins s1 σ H1 Q I1 q1
 |false=>exact⟨H1,I1,q1⟩
theorem yu(ha:PT X a tA)(hb:PW X (.BoolOp .Or (b::rest) pos) tB'):PW X (.BoolOp .Or (a::b::rest) pos) (tOr tA tB'):=by
 intro wh pins s σ H Q I h;refine isTrue_or (thn (ha pins s σ H _ I h) λc s1 ⟨H1,I1,q1⟩=>?_);cases c with
 |true=>exact⟨H1,I1,q1⟩
 |false=>exact hb wh pins s1 σ H1 Q I1 q1
theorem xt(ha:PT X a tA):PT X (.UnaryOp .Not a pos) (zC tA):=by
 intro pins s σ H Q I h;exact isTrue_not (ha pins s σ H (λc H1=>Q (!c) H1) I h)
def yK(ta tb:TE):TE:=λσ H Q=>ta σ H λx H1=>∃c,x=.bl c/\if c=true then tb σ H1 Q else Q (.bl false) H1
theorem vW{op}{t:TE}(h:PE X a t):PE X (.BoolOp op [a] pos) t:=λpins s σ H Q I hw=>BoolOp_one (h pins s σ H Q I hw)
theorem xj(ha:PE X a ta)(hb:PE X (.BoolOp .And (b::rest) pos) tb):PE X (.BoolOp .And (a::b::rest) pos) (yK ta tb):=by
 intro pins s σ H Q I h;refine BoolOp_and (thn (ha pins s σ H _ I h) λv s1 ⟨x,H1,I1,r1,q1⟩=>?_);obtain⟨c,rfl,q1⟩:=q1;cases r1;refine Jf ?_;cases c with
 |true=>exact hb pins s1 σ H1 Q I1 q1
 |false=>exact⟨.bl false,H1,I1,rfl,q1⟩
end
def SqL(K:Qc)(H:Hp)(a:Addr)(xs:List V):Prop:=
 Rd H a (.lst xs)\/
  ∃(o:Obj) (its:Array Qb) (n:Nat),K.lookup a=some o/\o.cls=.type "list"/\o.dict=none/\o.data=.seq its n/\its.size<=Qt/\aX xs its.toList
def SqT(K:Qc)(H:Hp)(a:Addr)(xs:List V):Prop:=
 Rd H a (.tup xs)\/
  ∃(o:Obj) (its:Array Qb) (n:Nat),K.lookup a=some o/\o.cls=.type "tuple"/\o.data=.seq its n/\its.size<=Qt/\aX xs its.toList
def Ac:Qb->Option V
 |.none=>some .non
 |.bool b=>some (.bl b)
 |.int i _=>some (.int i)
 |.str x _=>some (.str x)
 |.bytes b _=>some (.byt b)
 |.float b _=>some (.flt b)
 |.ref a=>some (.ref a)
 |.type n=>some (.ty n)
 |_=>none
theorem aW.abs{x:V}{u:Qb}(r:aW x u):Ac u=some x:=by
 cases x with
 |non=>cases r;rfl
 |bl _=>cases r;rfl
 |int _=>obtain⟨t,rfl⟩:=r;rfl
 |str _=>obtain⟨t,rfl⟩:=r;rfl
 |byt _=>obtain⟨t,rfl⟩:=r;rfl
 |flt _=>obtain⟨t,rfl⟩:=r;rfl
 |ref _=>cases r;rfl
 |ty _=>cases r;rfl
theorem aW.inj{x y:V}{u:Qb}(r:aW x u)(q:aW y u):x=y:=Option.some.inj (r.abs.symm.trans q.abs)
theorem aX.inj:∀{xs ys:List V} {us:List Qb},aX xs us->aX ys us->xs=ys:=λ{xs ys us} h=>by
 induction h generalizing ys with
 |nil=>intro g;cases g;rfl
 |cons r t ih=>intro g;cases g with | cons r' t'=>rw[r.inj r',ih t']
section
variable{X:Cx}{pins:List (Addr×Obj)}{σ:St}{H:Hp}{s:Qd}{a:Addr}{xs ys:List V}
theorem SqL.of{K:Qc}(h:H a=some (.lst xs)):SqL K H a xs:=.inl (.inl h)
theorem SqT.of{K:Qc}(h:H a=some (.tup xs)):SqT K H a xs:=.inl (.inl h)
theorem Inv.list(I:Inv X pins σ H s)(h:SqL X.K H a xs):∃its:List Qb,aX xs its/\PlainL s.heap a its.toArray/\xs.length<=Qt:=by
 rcases h with h | ⟨o,its,n,hk,hc,hd,hs,hz,r⟩
 ·obtain⟨z,its,n,r,e⟩:=h.ok I.hok
  exact⟨its,r,⟨_,n,e,rfl,rfl,rfl⟩,z⟩
 ·refine⟨its.toList,r,⟨o,n,I.kIn a o hk,hc,hd,by simpa using hs⟩,?_⟩
  have e:=r.length;simp only[J9] at e
  lia
theorem Inv.tuple(I:Inv X pins σ H s)(h:SqT X.K H a xs):∃its:List Qb,aX xs its/\IsTup s.heap a its.toArray/\xs.length<=Qt:=by
 rcases h with h | ⟨o,its,n,hk,hc,hs,hz,r⟩
 ·obtain⟨z,its,r,p⟩:=h.ok I.hok
  exact⟨its,r,p,z⟩
 ·refine⟨its.toList,r,⟨o,I.kIn a o hk,hc,n,by simpa using hs⟩,?_⟩
  have e:=r.length;simp only[J9] at e
  lia
theorem Inv.list_inj(I:Inv X pins σ H s)(h:SqL X.K H a xs)(h':SqL X.K H a ys):xs=ys:=by
 obtain⟨its,r,⟨o,n,e,_,_,d⟩,_⟩:=I.list h;obtain⟨its',r',⟨o',n',e',_,_,d'⟩,_⟩:=I.list h';rw[e] at e';cases e';rw[d] at d';injection d' with d1 _
 have:its=its':=by simpa using congrArg Array.toList d1
 subst this;exact r.inj r'
theorem Inv.tuple_inj(I:Inv X pins σ H s)(h:SqT X.K H a xs)(h':SqT X.K H a ys):xs=ys:=by
 obtain⟨its,r,⟨o,e,_,n,d⟩,_⟩:=I.tuple h;obtain⟨its',r',⟨o',e',_,n',d'⟩,_⟩:=I.tuple h';rw[e] at e';cases e';rw[d] at d';injection d' with d1 _
 have:its=its':=by simpa using congrArg Array.toList d1
 subst this;exact r.inj r'
end
abbrev Cx.wish(X:Cx)(E:Qb->Qd->Prop):Cx:={ X with xe:=E }
abbrev Cx.nox(X:Cx):Cx:=X.wish λ_ _=>False
theorem Cx.Ok.wish{X:Cx}(ok:X.Ok)(E:Qb->Qd->Prop):(X.wish E).Ok:=
 ⟨ok.mod,ok.kind,ok.glob,ok.blt,ok.above,ok.inj,ok.has,ok.cab,ok.hd,ok.frames,ok.stk,ok.exf,ok.bs,ok.bsz,ok.noex,ok.exfs,ok.funs,ok.frf⟩
theorem Cx.Ok.unwish{X:Cx}{E:Qb->Qd->Prop}(ok:(X.wish E).Ok):X.Ok:=
 ⟨ok.mod,ok.kind,ok.glob,ok.blt,ok.above,ok.inj,ok.has,ok.cab,ok.hd,ok.frames,ok.stk,ok.exf,ok.bs,ok.bsz,ok.noex,ok.exfs,ok.funs,ok.frf⟩
section
variable{X:Cx}{pins:List (Addr×Obj)}{σ:St}{H:Hp}{s:Qd}{E:Qb->Qd->Prop}
theorem Inv.wish(I:Inv X pins σ H s)(E:Qb->Qd->Prop):Inv (X.wish E) pins σ H s:=⟨I.ok.wish E,I.os,I.bare,I.base,I.loc,I.cell,I.free,I.freeC,I.pin,I.hok,I.len⟩
theorem Inv.unwish(I:Inv (X.wish E) pins σ H s):Inv X pins σ H s:=⟨I.ok.unwish,I.os,I.bare,I.base,I.loc,I.cell,I.free,I.freeC,I.pin,I.hok,I.len⟩
theorem SP.unwish{D:Ends}{f:Flow}{s':Qd}(h:SP (X.wish E) pins D f s'):SP X pins D f s':=by
 cases f with
 |next=>obtain⟨σ',H',I,q⟩:=h;exact⟨σ',H',I.unwish,q⟩
 |brk=>obtain⟨σ',H',I,q⟩:=h;exact⟨σ',H',I.unwish,q⟩
 |cont=>obtain⟨σ',H',I,q⟩:=h;exact⟨σ',H',I.unwish,q⟩
 |ret u=>obtain⟨v,σ',H',I,r,q⟩:=h;exact⟨v,σ',H',I.unwish,r,q⟩
theorem PE.nox{e:Expr}{t:TE}(h:PE X.nox e t):PE X e t:=λpins s σ H Q I hw=>
 Q0 (h pins s σ H Q (I.wish _) hw) (λ_ _ ⟨v,H',I',r,q⟩=>⟨v,H',I'.unwish,r,q⟩) λ_ _ z=>Q1 z
theorem PT.nox{e:Expr}{t:TT}(h:PT X.nox e t):PT X e t:=λpins s σ H Q I hw=>
 Q0 (h pins s σ H Q (I.wish _) hw) (λ_ _ ⟨H',I',q⟩=>⟨H',I'.unwish,q⟩) λ_ _ z=>Q1 z
theorem PSs.nox{st:List Stmt}{t:TS}(h:PSs X.nox st t):PSs X st t:=λpins s σ H D I hw=>
 Q0 (h pins s σ H D (I.wish _) hw) (λ_ _ q=>q.unwish) λ_ _ z=>Q1 z
end
section
variable{X:Cx}{st:Stmt}{rest:List Stmt}{t u:TS}{e:Expr}{te:TE}{pos:Pos}
def zd:TS:=λD σ H=>D.nx σ H
def zB(t u:TS):TS:=λD σ H=>t { D with nx:=u D } σ H
theorem jd:PSs X [] zd:=λ_ _ σ H _ I h=>JP ⟨σ,H,I,h⟩
theorem fM(h1:PS X st t)(h2:PSs X rest u):PSs X (st::rest) (zB t u):=by
 intro pins s σ H D I h;refine JG (thn (h1 pins s σ H { D with nx:=u D } I h) λf s1 q=>?_);cases f with
 |next=>
  obtain⟨σ',H',I',q⟩:=q;exact h2 pins s1 σ' H' D I' q
 |ret v=>exact q
 |brk=>exact q
 |cont=>exact q
theorem uY(h1:PS X st t):PSs X [st] t:=by
 intro pins s σ H D I h;refine JG (thn (h1 pins s σ H D I h) λf s1 q=>?_);cases f with
 |next=>exact JP q
 |ret v=>exact q
 |brk=>exact q
 |cont=>exact q
def yL:TS:=λD σ H=>D.ct σ H
theorem mF:PS X (.Continue pos) yL:=λ_ _ σ H _ I h=>wpAny_Continue ⟨σ,H,I,h⟩
theorem Inv.quiet{pins:List (Addr×Obj)}{σ:St}{H:Hp}{s:Qd}(I:Inv X pins σ H s):interactive X.env=false:=by simp[interactive,I.ok.kind]
def yD(te:TE):TS:=λD σ H=>te σ H λ_ H1=>D.nx σ H1
theorem oy(he:PE X e te)(hs:Ju e none pos.line X.env=pure false:=by rfl):PS X (.Expr e pos) (yD te):=by
 intro pins s σ H D I h;exact wpAny_Expr_any (thn (he pins s σ H _ I h) λv s1 ⟨x,H1,I1,r1,q1⟩=>⟨σ,H1,I1,q1⟩) I.quiet hs
def zv(te:TE):TS:=λD σ H=>te σ H D.rt
theorem xU(he:PE X e te):PS X (.Return (some e) pos) (zv te):=by
 intro pins s σ H D I h;exact wpAny_Return_some (thn (he pins s σ H _ I h) λv s1 ⟨x,H1,I1,r1,q1⟩=>⟨x,σ,H1,I1,r1,q1⟩)
def Aa(c:TT)(t u:TS):TS:=λD σ H=>c σ H λb H1=>if b=true then t D σ H1 else u D σ H1
theorem qD{c:Expr}{a b:List Stmt}{tc:TT}(hc:PT X c tc)(ha:PSs X a t)(hb:PSs X b u):PS X (.If c a b pos) (Aa tc t u):=by
 intro pins s σ H D I h;refine wpAny_If (thn (hc pins s σ H _ I h) λd s1 ⟨H1,I1,q1⟩=>?_);cases d with
 |true=>exact ha pins s1 σ H1 D I1 q1
 |false=>exact hb pins s1 σ H1 D I1 q1
def wx:TS:=λ_ _ _=>False
theorem pB{sts:List Stmt}:PSs X sts wx:=λ_ _ _ _ _ _ h=>h.elim
end
abbrev TG:=V->St->Hp->(St->Hp->Prop)->Prop
abbrev TGs:=List V->St->Hp->(St->Hp->Prop)->Prop
def PG(X:Cx)(target:Expr)(t:TG):Prop:=
 ∀(pins:List (Addr×Obj)) (s:Qd) (σ:St) (H:Hp) (v:V) (u:Qb) (Q:St->Hp->Prop),Inv X pins σ H s->aW v u->t v σ H Q->
  Qg (Qi X.prog X.w) X.A (assign target X.env u) (λ_ s'=>∃σ' H',Inv X pins σ' H' s'/\Q σ' H') X.xe s
def PGs(X:Cx)(ts:List Expr)(t:TGs):Prop:=
 ∀(pins:List (Addr×Obj)) (s:Qd) (σ:St) (H:Hp) (vs:List V) (us:List Qb) (Q:St->Hp->Prop),Inv X pins σ H s->aX vs us->t vs σ H Q->
  Qg (Qi X.prog X.w) X.A (assignInOrder ((Q5 ts X.env).map (·.2)) us) (λ_ s'=>∃σ' H',Inv X pins σ' H' s'/\Q σ' H') X.xe s
section
variable{X:Cx}{pos:Pos}
def vO(i:Nat):TG:=λv σ H Q=>Q (σ.set i (some v)) H
theorem uc{i:Nat}{x:Str}(hN:X.N.Nodup)(hi:X.N[i]?=some x)(hx:Loc X.env.scope x)(hf:X.fn x=true\/X.env.scope.names.lookup x=some .local:=by first | exact .inl rfl | exact .inr rfl | assumption):PG X (.Name x pos) (vO i):=by
 intro pins s σ H v u Q I r h;exact wpAny_assign_Name (cz I hN hi hx r (λs' I'=>⟨_,H,I',h⟩) hf)
def zK:TGs:=λvs σ H Q=>vs=[]/\Q σ H
def yT(t:TG)(u:TGs):TGs:=λvs σ H Q=>∃v r,vs=v::r/\t v σ H λσ' H'=>u r σ' H' Q
theorem vv:PGs X [] zK:=by
 intro pins s σ H vs us Q I r h;obtain⟨e,h⟩:=h;subst e;cases r;exact assignInOrder_nil ⟨σ,H,I,h⟩
theorem qJ{e:Expr}{es:List Expr}{t:TG}{u:TGs}(h1:PG X e t)(h2:PGs X es u)
  (hs:(Q5 (e::es) X.env).map (·.2)=assign e X.env::(Q5 es X.env).map (·.2):=by rfl):PGs X (e::es) (yT t u):=by
 intro pins s σ H vs us Q I r h;obtain⟨v,vr,e1,h⟩:=h;subst e1;cases r with
 |cons r rr=>
  rw[hs];refine assignInOrder_cons (thn (h1 pins s σ H _ _ _ I r h) λ_ s1 ⟨σ1,H1,I1,q1⟩=>?_);exact h2 pins s1 σ1 H1 _ _ Q I1 rr q1
def z_(K:Qc)(n:Nat)(t:TGs):TG:=λv σ H Q=>∃a xs,v=.ref a/\SqT K H a xs/\xs.length=n/\t xs σ H Q
theorem sL{es:List Expr}{k:Nat}{t:TGs}{n:Nat}(hc:X.calm=true)(h:PGs X es t)
  (hn:(Q5 es X.env).length=n:=by rfl) (hst:(Q5 es X.env).findIdx? (·.1)=none:=by rfl):PG X (.Tuple es k pos) (z_ X.K n t):=by
 intro pins s σ H v u Q I r hw;obtain⟨a,xs,e1,hq,hl,hw⟩:=hw;subst e1;cases r;obtain⟨its,rv,ht,hz⟩:=I.tuple hq;refine assign_Tuple_tuple (I.ok.hd hc) ht (by simp[hn,<-hl,rv.length]) hst λh' hx=>?_;have I1:Inv X pins σ H { s with heap:=h' }:=I.kept (t':=s.toks) λb o e=>hx b o (QC (Qk e)) e;exact h pins _ σ H xs _ Q I1 (by simpa using rv) hw
def ze(te:TE)(g:TG):TS:=λD σ H=>te σ H λx H1=>g x σ H1 D.nx
theorem wX{tg e:Expr}{te:TE}{g:TG}(he:PE X e te)(hg:PG X tg g)(hs:swapsWithSole [tg] e pos.line X.env=pure false:=by rfl)(hw:swappedStores [tg] e X.env=pure none:=by rfl)
  (h1:(Q5 [tg] X.env).map (·.2)=[assign tg X.env]:=by rfl):PS X (.Assign [tg] e pos) (ze te g):=by
 intro pins s σ H D I h;refine wpAny_Assign_stores (thn (he pins s σ H _ I h) λv s1 ⟨x,H1,I1,r1,q1⟩=>?_) hs hw;rw[h1];exact thn (hg pins s1 σ H1 x v _ I1 r1 q1) λ_ s2 q=>q
theorem m9{i:Nat}{x:Str}{e:Expr}{te:TE}{pos':Pos}(hN:X.N.Nodup)(hi:X.N[i]?=some x)(hx:Loc X.env.scope x)(he:PE X e te)(hs:Ju e (some (.Name x pos')) pos.line X.env=pure false:=by rfl)(hf:X.fn x=true\/X.env.scope.names.lookup x=some .local:=by first | exact .inl rfl | exact .inr rfl | assumption) :
  PS X (.Assign [.Name x pos'] e pos) (ze te (vO i)):=by
 intro pins s σ H D I h;refine wpAny_Assign_Name (thn (he pins s σ H _ I h) λv s1 ⟨y,H1,I1,r1,q1⟩=>?_) hs;exact cz I1 hN hi hx r1 (λs2 I2=>⟨_,H1,I2,q1⟩) hf
def Ae(i j:Nat)(ta:TA):TS:=λD σ H=>ta σ H λvs H1=>∃v w,vs=[v,w]/\D.nx ((σ.set i (some v)).set j (some w)) H1
theorem xM{i j:Nat}{x y:Str}{a b:Expr}{ta:TA}{px py pt:Pos}{kt k2 pt2}(hc:X.calm=true)(hN:X.N.Nodup)(hi:X.N[i]?=some x)(hj:X.N[j]?=some y)(hij:i≠j)
  (hx:X.env.scope.names.lookup x=some .local) (hy:X.env.scope.names.lookup y=some .local) (ha:PA X [a,b] ta)
  (hw:swappedStores [.Tuple [.Name x px,.Name y py] kt pt] (.Tuple [a,b] k2 pt2) X.env=pure (some [x,y]))
  (hs:swapsWithSole [.Tuple [.Name x px,.Name y py] kt pt] (.Tuple [a,b] k2 pt2) pos.line X.env=pure false:=by rfl) :
  PS X (.Assign [.Tuple [.Name x px,.Name y py] kt pt] (.Tuple [a,b] k2 pt2) pos) (Ae i j ta):=by
 intro pins s σ H D I h;rw[exec_Assign_arm];refine Qa (JT ?_);rw[hs];refine Qa (Qf ?_);rw[if_neg (by decide)];refine Qa (Tuple_ (thn (ha _ pins s σ H _ I h) λus s1 ⟨vs,H1,I1,r1,q1⟩=>?_));obtain⟨v,w,e1,q1⟩:=q1;subst e1
 obtain⟨u1,u2,rfl,rv,rw'⟩:∃u1 u2,us=[u1,u2]/\aW v u1/\aW w u2:=by
  cases r1 with
  |cons p q=>
   cases q with
   |cons p' q'=>
    cases q';exact⟨_,_,rfl,p,p'⟩
 refine QS ?_ (by show 2<=Qt;decide);have I2:Inv X pins σ H1 { s1 with heap:=s1.heap.push { cls:=.type "tuple",data:=.seq [u1,u2].toArray } }:=I1.kept (t':=s1.toks) λb o e=>Qe _ e;rw[hw];refine Qa (Qf ?_);show Qg (Qi X.prog X.w) X.A (do rule "assign.swapped-stores";let items<-unpackItems (.ref s1.heap.objs.size) 2 none;assignInOrder [λv=>bindName X.env y v,λv=>bindName X.env x v] items.reverse;pure Flow.next) _ _ _;refine Qa (wpAny_rule (Qa (unpackItems_tuple (items:=#[u1,u2]) (I.ok.hd hc) (IsTup.new s1.heap _) λh' hx'=>?_)));have I3:=I2.kept (h':=h') (t':=s1.toks) λb o e=>hx' b o (QC (Qk e)) e;show Qg _ _ (assignInOrder [λv=>bindName X.env y v,λv=>bindName X.env x v] [u2,u1]>>=λ_=>pure Flow.next) _ _ _;refine Qa (assignInOrder_cons (wpAny_bindName (cz I3 hN hj (.inl hy) rw' (λs2 I4=>?_) (.inr hy))));refine assignInOrder_cons (wpAny_bindName (cz I4 hN hi (.inl hx) rv (λs3 I5=>assignInOrder_nil (Qf ?_)) (.inr hx)));rw[List.set_comm _ _ (Ne.symm hij)] at I5;exact⟨_,H1,I5,q1⟩
end
structure It where
 go:Nat->Hp->Prop
 yld:Nat->Hp->V->Hp->Prop
 stop:Nat->Hp->Prop
def ij(X:Cx)(pins:List (Addr×Obj))(H:Hp)(b:Addr):Prop:=
 H b=none/\b≠X.env.locals/\b∉X.fs/\(b∈X.ex\/X.s₀.heap.objs.size<=b)/\(∀x c,X.env.cells.lookup x=some c->c≠b)/\∀p∈X.pn++pins,p.1≠b
theorem Inv.fpOk{X:Cx}{pins:List (Addr×Obj)}{σ:St}{H H':Hp}{s:Qd}{b:Addr}(I:Inv X pins σ H s)(hb:s.heap.objs.size<=b)(hn:H' b=none):ij X pins H' b:=by
 refine⟨hn,Nat.ne_of_gt (Qv I.lt hb),I.nofs hb,.inr (QK I.sz hb),λx c e z=>?_,λp hp z=>?_⟩
 ·obtain⟨v,q⟩:=I.cell x c e
  exact absurd (Qv q.lt (by rw[z];exact hb)) (QR _)
 ·exact absurd (Qv (Qk (I.pin p hp).1) (by rw[z];exact hb)) (QR _)
structure Turn(P:Qr)(w:Qu)(K:Qc)(tg:Expr)(J:It)(fp:List Addr)(it:Addr)(tn:Nat->Heap->Prop):Prop where
 mem:it∈fp
 obj:∀i h,tn i h->∀b∈fp,∃o,h.get? b=some o/\∀v,o.data≠.cell v
 keep:∀i h h',tn i h->(∀b∈fp,∀o,h.get? b=some o->h'.get? b=some o)->tn i h'
 item:∀(X:Cx),X.prog=P->X.w=w->X.K=K->X.calm=true->∀(i:Nat) (pins:List (Addr×Obj)) (s:Qd) (σ:St) (H:Hp) (E:Qb->Qd->Prop),Inv X pins σ H s->(∀b∈fp,ij X pins H b)->tn i s.heap->J.go i H->
  Qg (Qi P w) X.A (pyNext (.ref it)) (λr s1=>∃u,r=some u/\
   Qg (Qi P w) X.A (letOwnedTupleGo tg (.ref it) u) (λ_ s2=>∃x H',Inv X pins σ H' s2/\aW x u/\J.yld i H x H'/\tn (i+1) s2.heap/\∀b∈fp,H' b=none) E s1) E s
 done:∀(X:Cx),X.prog=P->X.w=w->X.K=K->X.calm=true->∀(i:Nat) (pins:List (Addr×Obj)) (s:Qd) (σ:St) (H:Hp) (E:Qb->Qd->Prop),Inv X pins σ H s->(∀b∈fp,ij X pins H b)->tn i s.heap->J.stop i H->
  Qg (Qi P w) X.A (pyNext (.ref it)) (λr s1=>r=none/\Inv X pins σ H s1) E s
 self:∀(A:QB) (i:Nat) (s:Qd) (Q:Qb->Qd->Prop) (E:Qb->Qd->Prop),tn i s.heap->Q (.ref it) s->Qg (Qi P w) A (pyIter (.ref it)) Q E s
abbrev TI:=St->Hp->(It->Hp->Prop)->Prop
def PIE(X:Cx)(pins:List (Addr×Obj))(σ:St)(tg:Expr)(R:It->Hp->Prop)(itv:Qb)(s2:Qd):Prop:=
 ∃(it:Addr) (fp:List Addr) (tn:Nat->Heap->Prop) (J:It) (H':Hp),itv=.ref it/\Inv X pins σ H' s2/\Turn X.prog X.w X.K tg J fp it tn/\tn 0 s2.heap/\(∀b∈fp,ij X pins H' b)/\R J H'
def PI(X:Cx)(tg iter:Expr)(wi:TI):Prop:=
 ∀(pins:List (Addr×Obj)) (s:Qd) (σ:St) (H:Hp) (R:It->Hp->Prop),Inv X pins σ H s->wi σ H R->
  Qg (Qi X.prog X.w) X.A (eval iter X.env) (λv s1=>Qg (Qi X.prog X.w) X.A (pyIter v) (PIE X pins σ tg R) X.xe s1) X.xe s
theorem qW{M:Model}{A:QB}{E:Qb->Qd->Prop}{s:Qd}{tg:Expr}{it:Addr}{u:Qb}{o:Obj}{n:String}{vs:Array Qb}{Q:Unit->Qd->Prop}(ho:s.heap.get? it=some o)(hc:o.cls=.type n)(hd:o.data=.fields vs)
  (hn:["enumerate","zip","dict_itemiterator","dict_reverseitemiterator","odict_iterator","itertools.zip_longest","itertools.pairwise"].contains n=false) (hQ:Q () s):Qg M A (letOwnedTupleGo tg (.ref it) u) Q E s:=by
 unfold letOwnedTupleGo
 cases tg<;>first
  |exact Qf hQ
  |(cases u<;>first
    |exact Qf hQ
    |(refine Qa (wpAny_load ho ?_)
      rw[hc,hd];show Qg M A (if(["enumerate","zip","dict_itemiterator","dict_reverseitemiterator","odict_iterator","itertools.zip_longest","itertools.pairwise"].contains n&&vs[0]?==some (J5 _))=true then _ else _) Q E s;rw[if_neg (by intro h;rw[hn,Bool.false_and] at h;cases h)]
      exact Qf hQ))
def Itl(K:Qc)(a:Addr):It:=
 ⟨λi H=>∃xs x,SqL K H a xs/\xs[i]?=some x,λi H x H'=>H'=H/\∀xs,SqL K H a xs->xs[i]?=some x,λi H=>∃xs,SqL K H a xs/\xs.length<=i⟩
def Itt(K:Qc)(a:Addr):It:=
 ⟨λi H=>∃xs x,SqT K H a xs/\xs[i]?=some x,λi H x H'=>H'=H/\∀xs,SqT K H a xs->xs[i]?=some x,λi H=>∃xs,SqT K H a xs/\xs.length<=i⟩
def Itr(lo:Int)(n:Nat):It:=⟨λi _=>i<n,λi H x H'=>H'=H/\x=.int (lo+i),λi _=>n<=i⟩
theorem pF{P:Qr}{w:Qu}{K:Qc}{tg:Expr}(a it:Addr):Turn P w K tg (Itl K a) [it] it (λi h=>h.IsListIter it a i) where
 mem:=by simp
 obj:=λi h st b hb=>by
  have e:b=it:=by simpa using hb
  subst e;obtain⟨o,e,c,d⟩:=st;exact⟨o,e,λv z=>by rw[d] at z;cases z⟩
 keep:=λi h h' st k=>st.at λo e=>k it (by simp) o e
 item:=by
  intro X hP hw hK hc i pins s σ H E I hf st hg;subst hP hw hK;obtain⟨xs,x,hq,hx⟩:=hg;obtain⟨its,rv,p,hz⟩:=I.list hq;obtain⟨u,hu,ru⟩:=rv.get hx;obtain⟨f0,f1,f2,f3,f4,f5⟩:=hf it (by simp);refine wpAny_pyNext_list_item st p.isList (x:=u) (by simpa using hu) λh' st' sb=>?_;have I1:Inv X pins σ H { s with heap:=h' }:=I.turned (t':=s.toks) (λb o hb e=>(sb.2 b hb).trans e) f0 f1 f3 f4 f5;obtain⟨o,e,c,d⟩:=id st';exact⟨u,rfl,qW (s:={ s with heap:=h' }) e c d (by decide) ⟨x,H,I1,ru,⟨rfl,λys hy=>by rw[I.list_inj hy hq];exact hx⟩,st',λb hb=>(hf b hb).1⟩⟩
 done:=by
  intro X hP hw hK hc i pins s σ H E I hf st hg;subst hP hw hK;obtain⟨xs,hq,hx⟩:=hg;obtain⟨its,rv,p,hz⟩:=I.list hq;obtain⟨f0,f1,f2,f3,f4,f5⟩:=hf it (by simp);have hl:=rv.length;exact wpAny_pyNext_list_end (I.ok.hd hc) st p.isList (by simp;lia) λh' eb=>⟨rfl,I.turned (t':=s.toks) (λb o hb e=>eb b o hb e) f0 f1 f3 f4 f5⟩
 self:=λ_ _ _ _ _ st h=>wpAny_pyIter_listiter st h
theorem nk{P:Qr}{w:Qu}{K:Qc}{tg:Expr}(a it:Addr):Turn P w K tg (Itt K a) [it] it (λi h=>h.IsTupleIter it a i) where
 mem:=by simp
 obj:=λi h st b hb=>by
  have e:b=it:=by simpa using hb
  subst e;obtain⟨o,e,c,d⟩:=st;exact⟨o,e,λv z=>by rw[d] at z;cases z⟩
 keep:=λi h h' st k=>st.at λo e=>k it (by simp) o e
 item:=by
  intro X hP hw hK hc i pins s σ H E I hf st hg;subst hP hw hK;obtain⟨xs,x,hq,hx⟩:=hg;obtain⟨its,rv,p,hz⟩:=I.tuple hq;obtain⟨u,hu,ru⟩:=rv.get hx;obtain⟨f0,f1,f2,f3,f4,f5⟩:=hf it (by simp);refine wpAny_pyNext_tuple_item st (show s.heap.IsTuple a its.toArray from p) (x:=u) (by simpa using hu) λh' st' sb=>?_;have I1:Inv X pins σ H { s with heap:=h' }:=I.turned (t':=s.toks) (λb o hb e=>(sb.2 b hb).trans e) f0 f1 f3 f4 f5;obtain⟨o,e,c,d⟩:=id st';exact⟨u,rfl,qW (s:={ s with heap:=h' }) e c d (by decide) ⟨x,H,I1,ru,⟨rfl,λys hy=>by rw[I.tuple_inj hy hq];exact hx⟩,st',λb hb=>(hf b hb).1⟩⟩
 done:=by
  intro X hP hw hK hc i pins s σ H E I hf st hg;subst hP hw hK;obtain⟨xs,hq,hx⟩:=hg;obtain⟨its,rv,p,hz⟩:=I.tuple hq;obtain⟨f0,f1,f2,f3,f4,f5⟩:=hf it (by simp);have hl:=rv.length;exact wpAny_pyNext_tuple_end (I.ok.hd hc) st (show s.heap.IsTuple a its.toArray from p) (by simp;lia) λh' eb=>⟨rfl,I.turned (t':=s.toks) (λb o hb e=>eb b o hb e) f0 f1 f3 f4 f5⟩
 self:=λ_ _ _ _ _ st h=>wpAny_pyIter_tupleiter st h
theorem m7{P:Qr}{w:Qu}{K:Qc}{tg:Expr}(it:Addr)(lo:Int)(n:Nat):Turn P w K tg (Itr lo n) [it] it (λi h=>IsRangeIter h it (lo+(i:Nat)*1) ((n:Int)-(i:Nat)) 1) where
 mem:=by simp
 obj:=λi h st b hb=>by
  have e:b=it:=by simpa using hb
  subst e
  exact⟨_,st,λv z=>by
   have z':Data.fields _=Data.cell v:=z
   cases z'⟩
 keep:=λi h h' st k=>k it (by simp) _ st
 item:=by
  intro X hP hw hK hc i pins s σ H E I hf st hg;subst hP hw hK;obtain⟨f0,f1,f2,f3,f4,f5⟩:=hf it (by simp);have W:=Walks.range (prog:=X.prog) (w:=X.w) (I.ok.hd hc) it lo 1 n;refine W.item i s _ _ hg st λv h' tk hv st' kk=>?_;obtain⟨t,rfl⟩:=hv;have I1:Inv X pins σ H { s with heap:=h',toks:=tk }:=I.turned (λb o hb e=>kk b o (by simpa using hb) e) f0 f1 f3 f4 f5;refine⟨_,rfl,qW (s:={ s with heap:=h',toks:=tk }) (n:="range_iterator") st' rfl rfl (by decide) ⟨.int (lo+i),H,I1,⟨t,?_⟩,⟨rfl,rfl⟩,st',λb hb=>(hf b hb).1⟩⟩;rw[Int.mul_one]
 done:=by
  intro X hP hw hK hc i pins s σ H E I hf st hg;subst hP hw hK;obtain⟨f0,f1,f2,f3,f4,f5⟩:=hf it (by simp);exact wpAny_pyNext_range_end (I.ok.hd hc) st (by have:n<=i:=hg;lia) λh' eb=>⟨rfl,I.turned (t':=s.toks) (λb o hb e=>eb b o hb e) f0 f1 f3 f4 f5⟩
 self:=λ_ _ _ _ _ st h=>wpAny_pyIter_rangeiter st h
section
variable{X:Cx}{tg:Expr}
def yI(K:Qc)(tl:TE):TI:=λσ H R=>tl σ H λx H1=>∃a,x=.ref a/\(∃xs,SqL K H1 a xs)/\R (Itl K a) H1
def zN(K:Qc)(tl:TE):TI:=λσ H R=>tl σ H λx H1=>∃a,x=.ref a/\(∃xs,SqT K H1 a xs)/\R (Itt K a) H1
theorem tP{l:Expr}{tl:TE}(hl:PE X l tl):PI X tg l (yI X.K tl):=by
 intro pins s σ H R I h;refine thn (hl pins s σ H _ I h) λv s1 ⟨x,H1,I1,r1,q1⟩=>?_;obtain⟨a,e,⟨xs,hq⟩,q⟩:=q1;subst e;cases r1;obtain⟨its,rv,p,hz⟩:=I1.list hq;refine wpAny_pyIter_list p.isList ?_;refine⟨s1.heap.objs.size,[s1.heap.objs.size],_,_,H1,rfl,I1.kept (t':=s1.toks) λb o e=>Qe _ e,pF a _,⟨_,Qo _ rfl,rfl,rfl⟩,λb hb=>?_,q⟩;have e:b=s1.heap.objs.size:=by simpa using hb
 subst e;exact I1.fpOk (Qn _) (I1.hok.fresh (Qn _))
theorem xQ{l:Expr}{tl:TE}(hl:PE X l tl):PI X tg l (zN X.K tl):=by
 intro pins s σ H R I h;refine thn (hl pins s σ H _ I h) λv s1 ⟨x,H1,I1,r1,q1⟩=>?_;obtain⟨a,e,⟨xs,hq⟩,q⟩:=q1;subst e;cases r1;obtain⟨its,rv,p,hz⟩:=I1.tuple hq;refine Ze (show s1.heap.IsTuple a its.toArray from p) ?_;refine⟨s1.heap.objs.size,[s1.heap.objs.size],_,_,H1,rfl,I1.kept (t':=s1.toks) λb o e=>Qe _ e,nk a _,⟨_,Qo _ rfl,rfl,rfl⟩,λb hb=>?_,q⟩;have e:b=s1.heap.objs.size:=by simpa using hb
 subst e;exact I1.fpOk (Qn _) (I1.hok.fresh (Qn _))
theorem rh{pins:List (Addr×Obj)}{σ:St}{H:Hp}{s:Qd}{R:It->Hp->Prop}{E:Qb->Qd->Prop}{lo hi:Int}{t u v:Tok}{tk:Nat}(I:Inv X pins σ H s)(h1:-(2 ^ 62)<=lo)(h2:lo<2 ^ 62)(h3:-(2 ^ 62)<=hi)(h4:hi<2 ^ 62)
  (q:R (Itr lo (hi-lo).toNat) H):Qg (Qi X.prog X.w) X.A (pyIter (.ref s.heap.objs.size)) (PIE X pins σ tg R) E { s with heap:=s.heap.push { cls:=.type "range",data:=.fields #[.int lo t,.int hi u,.int 1 v] },toks:=tk }:=by
 refine wpAny_pyIter_range (IsRange.new ..) (small_one h1 h2 h3 h4) ?_;have I1:Inv X pins σ H { s with heap:=s.heap.push { cls:=.type "range",data:=.fields #[.int lo t,.int hi u,.int 1 v] },toks:=tk }:=I.kept λb o e=>Qe _ e
 refine⟨(s.heap.push { cls:=.type "range",data:=.fields #[.int lo t,.int hi u,.int 1 v] }).objs.size,[(s.heap.push { cls:=.type "range",data:=.fields #[.int lo t,.int hi u,.int 1 v] }).objs.size],_,_,H,rfl,
  I1.kept (t':=tk) λb o e=>Qe _ e,m7 _ lo (hi-lo).toNat,?_,λb hb=>?_,q⟩
 ·have e1:lo+((0:Nat):Int)*1=lo:=by simp
  have e2:(((hi-lo).toNat:Nat):Int)-((0:Nat):Int)=Builtin.Range.rangeSize lo hi 1:=by rw[rangeSize_one];split<;>lia
  show IsRangeIter _ _ (lo+((0:Nat):Int)*1) ((((hi-lo).toNat:Nat):Int)-((0:Nat):Int)) 1;rw[e1,e2];exact Qo _ rfl
 ·have e:b=(s.heap.push { cls:=.type "range",data:=.fields #[.int lo t,.int hi u,.int 1 v] }).objs.size:=by simpa using hb
  subst e;exact I1.fpOk (Qn _) (I1.hok.fresh (Qn _))
def yw(ta:TA):TI:=λσ H R=>ta σ H λvs H1=>∃j:Int,vs=[.int j]/\-(2 ^ 62)<=j/\j<2 ^ 62/\R (Itr 0 j.toNat) H1
theorem pS{a:Expr}{ta:TA}{p pos:Pos}(hg:Gl X "range")(hm:X.mg "range" = none)(ha:PA X [a] ta)(hs:Qj [a] X.env=[(false,eval a X.env)]:=by rfl):PI X tg (.Call (.Name "range" p) [a] [] pos) (yw ta):=by
 intro pins s σ H R I h;refine Call_ (gH I hg hm boot_range (JL (thn (ha pos pins s σ H _ I h) λus s1 ⟨vs,H1,I1,r1,q1⟩=>?_) hs rfl));obtain⟨j,e,q1,q2,q⟩:=q1;subst e;cases r1 with
 |cons r rr=>
  cases rr;obtain⟨t,rfl⟩:=r;exact call_range_1 (rh I1 (by lia) (by lia) q1 q2 (by simpa using q))
def zx(wi:TI)(g:TG)(tb:TS):TS:=λD σ H=>wi σ H λJ H1=>∃W:Nat->Nat->St->Hp->Prop,(∃m,W 0 m σ H1)/\∀i m σ H,W i m σ H->
 (J.stop i H/\D.nx σ H)\/(J.go i H/\∃N:St->Hp->Prop,(∀σ' H',N σ' H'->∃m',m'<m/\W (i+1) m' σ' H')/\∀x H',J.yld i H x H'->g x σ H' λσ2 H2=>tb { D with nx:=N,ct:=N,bk:=D.nx } σ2 H2)
def jO(fp:List Addr)(h:Heap):List (Addr×Obj):=fp.filterMap λb=>(h.get? b).map λo=>(b,o)
theorem eL{fp:List Addr}{h:Heap}{b:Addr}{o:Obj}(hb:b∈fp)(e:h.get? b=some o):(b,o)∈jO fp h:=List.mem_filterMap.mpr ⟨b,hb,by rw[e];rfl⟩
theorem pd{fp:List Addr}{h:Heap}{p:Addr×Obj}(hp:p∈jO fp h):p.1∈fp/\h.get? p.1=some p.2:=by
 obtain⟨b,hb,e⟩:=List.mem_filterMap.mp hp;cases q:h.get? b with
 |none=>rw[q] at e;cases e
 |some o=>
  rw[q] at e;have e':(b,o)=p:=Option.some.inj e;subst e';exact⟨hb,q⟩
theorem Inv.pinned{pins:List (Addr×Obj)}{σ:St}{H:Hp}{s:Qd}{fp:List Addr}(I:Inv X pins σ H s)(hf:∀b∈fp,ij X pins H b)(ho:∀b∈fp,∃o,s.heap.get? b=some o/\∀v,o.data≠.cell v):Inv X (pins++jO fp s.heap) σ H s:=
 I.pins_of λp hp=>(Jh.mp hp).elim (λz=>I.pin p (Qm _ z)) λz=>by
  obtain⟨hb,e⟩:=pd z;obtain⟨f0,f1,f2,_⟩:=hf p.1 hb;obtain⟨o,e',d⟩:=ho p.1 hb;rw[e] at e';cases e';exact⟨e,f0,f1,f2,d⟩
theorem Inv.unpinned{pins pl:List (Addr×Obj)}{σ:St}{H:Hp}{s:Qd}(I:Inv X (pins++pl) σ H s):Inv X pins σ H s:=I.pins_of λp hp=>I.pin p (Qm _ (JC _ hp))
theorem xH{iter:Expr}{body:List Stmt}{wi:TI}{g:TG}{tb:TS}{pos:Pos}(hp:PassesOwn (Qi X.prog X.w) X.A X.env X.xe)(hc:X.calm=true)(hi:PI X tg iter wi)(hg:PG X tg g)(hb:PSs X body tb)
  (hs:∀x,Jr iter X.env x=pure x:=by intro _;rfl):PS X (.For tg iter body [] pos) (zx wi g tb):=by
 intro pins s σ H D I h;refine wpAny_For (thn (hi pins s σ H _ I h) λv s1 h1=>thn h1 λitv s2 h2=>?_) hs;obtain⟨it,fp,tn,J,H2,e,I2,T,st2,f2,W,⟨m0,w0⟩,turn⟩:=h2;subst e;have stat:∀{H':Hp},(∀b∈fp,H' b=none)->∀b∈fp,ij X pins H' b:=λhn b hb=>⟨hn b hb,(f2 b hb).2⟩;refine codeAny_forLoop_any (λn s'=>∃i σ' H',Inv X pins σ' H' s'/\tn i s'.heap/\(∀b∈fp,H' b=none)/\W i n σ' H') ?_ m0 ⟨0,σ,H2,I2,st2,λb hb=>(f2 b hb).1,w0⟩;rintro n s3 ⟨i,σ3,H3,I3,st3,fr3,w3⟩;rcases turn i n σ3 H3 w3 with⟨stop,qn⟩ | ⟨go,N,hN,step⟩
 ·refine Zw hp (thn (T.done X rfl rfl rfl hc i pins s3 σ3 H3 X.xe I3 (stat fr3) st3 stop) λr s4 ⟨hr,I4⟩=>?_)
  subst hr;exact JP ⟨σ3,H3,I4,qn⟩
 ·refine Zw hp (thn (T.item X rfl rfl rfl hc i pins s3 σ3 H3 X.xe I3 (stat fr3) st3 go) λr s4 ⟨u,hr,h4⟩=>?_)
  subst hr;refine Zw hp (thn h4 λ_ s5 ⟨x,H5,I5,r5,y5,st5,fr5⟩=>?_);have I5':=I5.pinned (stat fr5) (T.obj _ _ st5);refine Zw hp (thn (hg _ s5 σ3 H5 x u _ I5' r5 (step x H5 y5)) λ_ s6 ⟨σ6,H6,I6,q6⟩=>?_);refine Zw hp (thn (hb _ s6 σ6 H6 _ I6 q6) λf s7 q7=>?_)
  have again:∀{σ7:St} {H7:Hp},Inv X (pins++jO fp s5.heap) σ7 H7 s7->N σ7 H7->∃m,m<n/\∃i σ' H',Inv X pins σ' H' s7/\tn i s7.heap/\(∀b∈fp,H' b=none)/\W i m σ' H':=λ{σ7 H7} I7 n7=>by
   obtain⟨m',hm,w7⟩:=hN σ7 H7 n7;refine⟨m',hm,i+1,σ7,H7,I7.unpinned,T.keep _ _ _ st5 λb hb o e=>(I7.pin (b,o) (Qm _ (Qm _ (eL hb e)))).1,λb hb=>?_,w7⟩;obtain⟨o,e,d⟩:=T.obj _ _ st5 b hb;exact(I7.pin (b,o) (Qm _ (Qm _ (eL hb e)))).2.1
  cases f with
  |next=>obtain⟨σ7,H7,I7,n7⟩:=q7;exact again I7 n7
  |cont=>obtain⟨σ7,H7,I7,n7⟩:=q7;exact again I7 n7
  |brk=>obtain⟨σ7,H7,I7,q7⟩:=q7;exact⟨σ7,H7,I7.unpinned,q7⟩
  |ret v=>obtain⟨x7,σ7,H7,I7,r7,q7⟩:=q7;exact⟨x7,σ7,H7,I7.unpinned,r7,q7⟩
end
abbrev R2:=V->V->Hp->VK->Prop
def OpR(X:Cx)(f:Qb->Qb->Sem Qb)(r:R2):Prop:=
 ∀(pins:List (Addr×Obj)) (s:Qd) (σ:St) (H:Hp) (x y:V) (v u:Qb) (Q:VK),Inv X pins σ H s->aW x v->aW y u->r x y H Q->
  Qg (Qi X.prog X.w) X.A (f v u) (EP X pins σ Q) X.xe s
def UnR(X:Cx)(f:Qb->Sem Qb)(r:V->Hp->VK->Prop):Prop:=
 ∀(pins:List (Addr×Obj)) (s:Qd) (σ:St) (H:Hp) (x:V) (v:Qb) (Q:VK),Inv X pins σ H s->aW x v->r x H Q->
  Qg (Qi X.prog X.w) X.A (f v) (EP X pins σ Q) X.xe s
def eG(X:Cx)(f:Qb)(r:List V->Hp->VK->Prop):Prop:=
 ∀(pins:List (Addr×Obj)) (s:Qd) (σ:St) (H:Hp) (xs:List V) (us:List Qb) (Q:VK),Inv X pins σ H s->aX xs us->r xs H Q->
  Qg (Qi X.prog X.w) X.A (call f us) (EP X pins σ Q) X.xe s
def zT(X:Cx)(r:V->Hp->(Bool->Hp->Prop)->Prop):Prop:=
 ∀(pins:List (Addr×Obj)) (s:Qd) (σ:St) (H:Hp) (x:V) (v:Qb) (Q:Bool->Hp->Prop),Inv X pins σ H s->aW x v->r x H Q->
  Qg (Qi X.prog X.w) X.A (truthy v) (TP X pins σ Q) X.xe s
def tOp(r:R2)(ta tb:TE):TE:=λσ H Q=>ta σ H λx H1=>tb σ H1 λy H2=>r x y H2 Q
def tUn(r:V->Hp->VK->Prop)(ta:TE):TE:=λσ H Q=>ta σ H λx H1=>r x H1 Q
def rI(C:Int->Int->Prop)(g:Int->Int->V):R2:=λx y H Q=>∃i j,x=.int i/\y=.int j/\C i j/\Q (g i j) H
def rI0(g:Int->Int->V):R2:=λx y H Q=>∃i j,x=.int i/\y=.int j/\Q (g i j) H
def rU(g:Int->V):V->Hp->VK->Prop:=λx H Q=>∃i,x=.int i/\Q (g i) H
section
variable{X:Cx}{a b c:Expr}{ta tb tc:TE}{pos:Pos}
theorem xm(ha:PE X a ta)(hb:PE X b tb){pins:List (Addr×Obj)}{s:Qd}{σ:St}{H:Hp}{R:V->V->Hp->Prop}(I:Inv X pins σ H s)
  (h:ta σ H λx H1=>tb σ H1 λy H2=>R x y H2) {Q:Qb->Qd->Prop} {f:Qb->Qb->Sem Qb}
  (hf:∀v u s2 x y H2,Inv X pins σ H2 s2->aW x v->aW y u->R x y H2->Qg (Qi X.prog X.w) X.A (f v u) Q X.xe s2) :
  Qg (Qi X.prog X.w) X.A (eval a X.env) (λv s₁=>Qg (Qi X.prog X.w) X.A (eval b X.env) (λu s₂=>Qg (Qi X.prog X.w) X.A (f v u) Q X.xe s₂) X.xe s₁) X.xe s:=by
 refine thn (ha pins s σ H _ I h) λv s1 ⟨x,H1,I1,r1,q1⟩=>?_;refine thn (hb pins s1 σ H1 _ I1 q1) λu s2 ⟨y,H2,I2,r2,q2⟩=>?_;exact hf v u s2 x y H2 I2 r1 r2 q2
theorem vS{op:Operator}{r:R2}(ho:OpR X (Jl op) r)(ha:PE X a ta)(hb:PE X b tb):PE X (.BinOp a op b pos) (tOp r ta tb):=by
 intro pins s σ H Q I h;exact wpAny_BinOp (xm ha hb I h λv u s2 x y H2 I2 rx ry q=>ho pins s2 σ H2 x y v u Q I2 rx ry q)
theorem yi{op:UnaryOp}{r:V->Hp->VK->Prop}(ho:UnR X (unaryOp op) r)(ha:PE X a ta):PE X (.UnaryOp op a pos) (tUn r ta):=by
 intro pins s σ H Q I h;exact UnaryOp_ (thn (ha pins s σ H _ I h) λv s1 ⟨x,H1,I1,r1,q1⟩=>ho pins s1 σ H1 x v Q I1 r1 q1)
theorem opI{f:Qb->Qb->Sem Qb}{C:Int->Int->Prop}{g:Int->Int->Int}
  (rule:∀(i j:Int) (t u:Tok) (s:Qd) (Q:Qb->Qd->Prop) (E:Qb->Qd->Prop),C i j->Q (.int (g i j) s.toks) { s with toks:=s.toks+1 }->Qg (Qi X.prog X.w) X.A (f (.int i t) (.int j u)) Q E s) :
  OpR X f (rI C λi j=>.int (g i j)):=by
 intro pins s σ H x y v u Q I rx ry h;obtain⟨i,j,rfl,rfl,hc,q⟩:=h;obtain⟨t,rfl⟩:=rx;obtain⟨t',rfl⟩:=ry;exact rule i j t t' s _ _ hc ⟨.int (g i j),H,I.tok _,⟨_,rfl⟩,q⟩
theorem zo{f:Qb->Qb->Sem Qb}{g:Int->Int->Int}
  (rule:∀(i j:Int) (t u:Tok) (s:Qd) (Q:Qb->Qd->Prop) (E:Qb->Qd->Prop),Q (.int (g i j) s.toks) { s with toks:=s.toks+1 }->Qg (Qi X.prog X.w) X.A (f (.int i t) (.int j u)) Q E s) :
  OpR X f (rI0 λi j=>.int (g i j)):=by
 intro pins s σ H x y v u Q I rx ry h;obtain⟨i,j,rfl,rfl,q⟩:=h;obtain⟨t,rfl⟩:=rx;obtain⟨t',rfl⟩:=ry;exact rule i j t t' s _ _ ⟨.int (g i j),H,I.tok _,⟨_,rfl⟩,q⟩
theorem tE{f:Qb->Qb->Sem Qb}{g:Int->Int->Bool}
  (rule:∀(i j:Int) (t u:Tok) (s:Qd) (Q:Qb->Qd->Prop) (E:Qb->Qd->Prop),Q (.bool (g i j)) s->Qg (Qi X.prog X.w) X.A (f (.int i t) (.int j u)) Q E s) :
  OpR X f (rI0 λi j=>.bl (g i j)):=by
 intro pins s σ H x y v u Q I rx ry h;obtain⟨i,j,rfl,rfl,q⟩:=h;obtain⟨t,rfl⟩:=rx;obtain⟨t',rfl⟩:=ry;exact rule i j t t' s _ _ ⟨.bl (g i j),H,I,rfl,q⟩
def ql(i j:Int):Prop:=0<j/\j<1073741824
def pW(i j:Int):Prop:=0<=j/\j<=1000000/\i.natAbs<2 ^ 64
def j3(i j:Int):Prop:=(-(2 ^ 64)<i/\i<2 ^ 64)\/(-(2 ^ 64)<j/\j<2 ^ 64)
theorem j3.ok{i j:Int}(h:j3 i j):IntMulOk i j:=by
 rcases h with⟨h1,h2⟩ | ⟨h1,h2⟩
 ·exact .of_left (intBits_le_64 h1 h2)
 ·exact .of_right (intBits_le_64 h1 h2)
theorem xO:OpR X (Jl .Add) (rI0 λi j=>.int (i+j)):=zo λ_ _ _ _ _ _ _ q=>add_int q
theorem wt:OpR X (Jl .Sub) (rI0 λi j=>.int (i-j)):=zo λ_ _ _ _ _ _ _ q=>sub_int q
theorem xV:OpR X (Jl .Mult) (rI j3 λi j=>.int (i*j)):=opI λ_ _ _ _ _ _ _ hc q=>mul_int q hc.ok
theorem ti:OpR X (Jl .FloorDiv) (rI ql λi j=>.int (i/j)):=opI λi j _ _ _ _ _ hc q=>by
 have h1:(0:Int)<j:=hc.1;have h2:j<1073741824:=hc.2;exact floordiv_int (by lia) (by rw[Int.fdiv_eq_ediv_of_nonneg i (by lia)];exact q) (.inl (PyProof.noPylong_small (by lia)))
theorem xk:OpR X (Jl .Mod) (rI (λ_ j=>0<j) λi j=>.int (i%j)):=opI λi j _ _ _ _ _ hc q=>by
 have h1:(0:Int)<j:=hc;exact mod_int' (by lia) (by rw[Int.fmod_eq_emod_of_nonneg i (by lia)];exact q)
theorem xG:OpR X (Jl .Pow) (rI pW λi j=>.int (i ^ j.toNat)):=opI λ_ _ _ _ _ _ _ hc q=>pow_int_small hc.1 hc.2.1 hc.2.2 q
theorem unI{f:Qb->Sem Qb}{g:Int->Int}
  (rule:∀(i:Int) (t:Tok) (s:Qd) (Q:Qb->Qd->Prop) (E:Qb->Qd->Prop),Q (.int (g i) s.toks) { s with toks:=s.toks+1 }->Qg (Qi X.prog X.w) X.A (f (.int i t)) Q E s) :
  UnR X f (rU λi=>.int (g i)):=by
 intro pins s σ H x v Q I rx h;obtain⟨i,rfl,q⟩:=h;obtain⟨t,rfl⟩:=rx;exact rule i t s _ _ ⟨.int (g i),H,I.tok _,⟨_,rfl⟩,q⟩
theorem xW:UnR X (unaryOp .USub) (rU λi=>.int (-i)):=unI λ_ _ _ _ _ q=>neg_int q
end
def xv:V->V->Bool
 |.non,.non=>true | .non,.int _=>true | .int _,.non=>true | .non,.bl _=>true | .bl _,.non=>true | .non,.str _=>true | .str _,.non=>true
 |.int _,.int _=>true | .bl _,.bl _=>true | .str _,.str _=>true | .byt _,.byt _=>true
 |.int _,.str _=>true | .str _,.int _=>true | .bl _,.str _=>true | .str _,.bl _=>true
 |_,_=>false
def rEq:R2:=λx y H Q=>xv x y=true/\Q (.bl (decide (x=y))) H
def rNe:R2:=λx y H Q=>xv x y=true/\Q (.bl (!decide (x=y))) H
theorem oS{i j:Int}:decide (V.int i=V.int j)=(i==j):=by
 rw[Zx];simp
theorem su{i j:Bool}:decide (V.bl i=V.bl j)=(i==j):=by
 rw[Zx];simp
theorem oQ{i j:Str}:decide (V.str i=V.str j)=(i==j):=by
 rw[Zx];simp
theorem oG{i j:Array UInt8}:decide (V.byt i=V.byt j)=(i.toList==j.toList):=by
 rw[Zx];cases i;cases j;simp
section
variable{X:Cx}{a b c:Expr}{ta tb tc:TE}{pos:Pos}
theorem bf{pins:List (Addr×Obj)}{σ:St}{H:Hp}{s:Qd}{Q:VK}{k k':Bool}(I:Inv X pins σ H s)(q:Q (.bl k) H)(e:k=k'):EP X pins σ Q (.bool k') s:=by
 subst e;exact⟨.bl k,H,I,rfl,q⟩
theorem yX:OpR X (QE .Eq) rEq:=by
 intro pins s σ H x y v u Q I rx ry h;obtain⟨hs,q⟩:=h;cases x with
 |non=>
  cases rx;cases y with
  |non=>cases ry;exact PySem.EqNone.eq_none_none (bf I q (by simp))
  |bl j=>cases ry;exact PySem.EqNone.eq_none_bool (bf I q (by simp))
  |int j=>obtain⟨t',rfl⟩:=ry;exact PySem.EqNone.eq_none_int (bf I q (by simp))
  |str j=>obtain⟨t',rfl⟩:=ry;exact PySem.EqNone.eq_none_str (bf I q (by simp))
  |_=>exact absurd (show false=true from hs) Qh
 |bl i=>
  cases rx;cases y with
  |non=>cases ry;exact PySem.EqNone.eq_bool_none (bf I q (by simp))
  |bl j=>cases ry;exact eq_bool (bf I q su)
  |str j=>obtain⟨t',rfl⟩:=ry;exact PySem.EqMixed.eq_bool_str (bf I q (by simp))
  |_=>exact absurd (show false=true from hs) Qh
 |int i=>
  obtain⟨t,rfl⟩:=rx;cases y with
  |non=>cases ry;exact PySem.EqNone.eq_int_none (bf I q (by simp))
  |int j=>obtain⟨t',rfl⟩:=ry;exact eq_int (bf I q oS)
  |str j=>obtain⟨t',rfl⟩:=ry;exact PySem.EqMixed.eq_int_str (bf I q (by simp))
  |_=>exact absurd (show false=true from hs) Qh
 |str i=>
  obtain⟨t,rfl⟩:=rx;cases y with
  |non=>cases ry;exact PySem.EqNone.eq_str_none (bf I q (by simp))
  |bl j=>cases ry;exact PySem.EqMixed.eq_str_bool (bf I q (by simp))
  |int j=>obtain⟨t',rfl⟩:=ry;exact PySem.EqMixed.eq_str_int (bf I q (by simp))
  |str j=>obtain⟨t',rfl⟩:=ry;exact eq_str (bf I q oQ)
  |_=>exact absurd (show false=true from hs) Qh
 |byt i=>
  obtain⟨t,rfl⟩:=rx;cases y with
  |byt j=>obtain⟨t',rfl⟩:=ry;exact PySem.W.eq_bytes (bf I q oG)
  |_=>exact absurd (show false=true from hs) Qh
 |_=>cases y<;>exact absurd (show false=true from hs) Qh
theorem ym:OpR X (QE .NotEq) rNe:=by
 intro pins s σ H x y v u Q I rx ry h;obtain⟨hs,q⟩:=h;cases x with
 |non=>
  cases rx;cases y with
  |non=>cases ry;exact PySem.EqNone.ne_none_none (bf I q (by simp))
  |bl j=>cases ry;exact PySem.EqNone.ne_none_bool (bf I q (by simp))
  |int j=>obtain⟨t',rfl⟩:=ry;exact PySem.EqNone.ne_none_int (bf I q (by simp))
  |str j=>obtain⟨t',rfl⟩:=ry;exact PySem.EqNone.ne_none_str (bf I q (by simp))
  |_=>exact absurd (show false=true from hs) Qh
 |bl i=>
  cases rx;cases y with
  |non=>cases ry;exact PySem.EqNone.ne_bool_none (bf I q (by simp))
  |bl j=>cases ry;exact ne_bool (bf I q (congrArg not su))
  |str j=>obtain⟨t',rfl⟩:=ry;exact PySem.EqMixed.ne_bool_str (bf I q (by simp))
  |_=>exact absurd (show false=true from hs) Qh
 |int i=>
  obtain⟨t,rfl⟩:=rx;cases y with
  |non=>cases ry;exact PySem.EqNone.ne_int_none (bf I q (by simp))
  |int j=>obtain⟨t',rfl⟩:=ry;exact ne_int (bf I q (congrArg not oS))
  |str j=>obtain⟨t',rfl⟩:=ry;exact PySem.EqMixed.ne_int_str (bf I q (by simp))
  |_=>exact absurd (show false=true from hs) Qh
 |str i=>
  obtain⟨t,rfl⟩:=rx;cases y with
  |non=>cases ry;exact PySem.EqNone.ne_str_none (bf I q (by simp))
  |bl j=>cases ry;exact PySem.EqMixed.ne_str_bool (bf I q (by simp))
  |int j=>obtain⟨t',rfl⟩:=ry;exact PySem.EqMixed.ne_str_int (bf I q (by simp))
  |str j=>obtain⟨t',rfl⟩:=ry;exact ne_str (bf I q (congrArg not oQ))
  |_=>exact absurd (show false=true from hs) Qh
 |byt i=>
  obtain⟨t,rfl⟩:=rx;cases y with
  |byt j=>obtain⟨t',rfl⟩:=ry;exact PySem.W.ne_bytes (bf I q (congrArg not oG))
  |_=>exact absurd (show false=true from hs) Qh
 |_=>cases y<;>exact absurd (show false=true from hs) Qh
theorem yY:OpR X (QE .Lt) (rI0 λi j=>.bl (decide (i<j))):=tE λ_ _ _ _ _ _ _ q=>lt_int q
theorem y1:OpR X (QE .LtE) (rI0 λi j=>.bl (decide (i<=j))):=tE λ_ _ _ _ _ _ _ q=>le_int q
theorem yC:OpR X (QE .Gt) (rI0 λi j=>.bl (decide (j<i))):=tE λ_ _ _ _ _ _ _ q=>gt_int q
theorem y6:OpR X (QE .GtE) (rI0 λi j=>.bl (decide (j<=i))):=tE λ_ _ _ _ _ _ _ q=>ge_int q
theorem wM:OpR X (QE .Is) (λx y H Q=>y=.non/\Q (.bl (decide (x=.non))) H):=by
 intro pins s σ H x y v u Q I rx ry h;obtain⟨rfl,q⟩:=h;cases ry;refine is_none_gen (bf I q ?_)
 cases x<;>first
  |(cases rx;rfl)
  |(obtain⟨t,rfl⟩:=rx;rfl)
theorem OpR.or{f:Qb->Qb->Sem Qb}{r r':R2}(h:OpR X f r)(h':OpR X f r'):OpR X f (λx y H Q=>r x y H Q\/r' x y H Q):=by
 intro pins s σ H x y v u Q I rx ry q;rcases q with q | q
 ·exact h pins s σ H x y v u Q I rx ry q
 ·exact h' pins s σ H x y v u Q I rx ry q
theorem aH(b:Expr){op:CmpOp}(h:op≠.In:=by decide)(h2:op≠.NotIn:=by decide):Zp op b=false:=by
 have e1:(op==CmpOp.In)=false:=by cases op<;>first | rfl | exact absurd rfl h
 have e2:(op==CmpOp.NotIn)=false:=by cases op<;>first | rfl | exact absurd rfl h2
 cases b<;>simp[Zp,e1,e2]
theorem tp{op:CmpOp}{r:R2}(ho:OpR X (QE op) r)(ha:PE X a ta)(hb:PE X b tb)(hm:Zp op b=false):PE X (.Compare a [op] [b] pos) (tOp r ta tb):=by
 intro pins s σ H Q I h;exact wpAny_Compare1 (xm ha hb I h λv u s2 x y H2 I2 rx ry q=>ho pins s2 σ H2 x y v u Q I2 rx ry q) hm
def vx(t:TE):TT:=λσ H Q=>t σ H λx H'=>∃k,x=.bl k/\Q k H'
theorem tI{op:CmpOp}{r:R2}(ho:OpR X (QE op) r)(ha:PE X a ta)(hb:PE X b tb)(hm:Zp op b=false):PT X (.Compare a [op] [b] pos) (vx (tOp r ta tb)):=by
 intro pins s σ H Q I h
 refine wpAny_isTrue_Compare1 (thn (ha pins s σ H _ I h) λv s1 ⟨x,H1,I1,r1,q1⟩=>thn (hb pins s1 σ H1 _ I1 q1) λu s2 ⟨y,H2,I2,r2,q2⟩=>
  thn (ho pins s2 σ H2 x y v u _ I2 r1 r2 q2) λc s3 ⟨z,H3,I3,r3,k,e,q3⟩=>?_) hm
 subst e;cases r3;exact Jf ⟨H3,I3,q3⟩
def rj(r r':R2)(ta tb tc:TE):TE:=λσ H Q=>ta σ H λx H1=>tb σ H1 λy H2=>r x y H2 λz H3=>∃k,z=.bl k/\
 (if k=true then tc σ H3 λw' H4=>r' y w' H4 Q else Q (.bl false) H3)
theorem qG{op op':CmpOp}{r r':R2}(ho:OpR X (QE op) r)(ho':OpR X (QE op') r')(ha:PE X a ta)(hb:PE X b tb)(hc:PE X c tc)
  (hm:lastMarks [op,op'] [b,c]=false:=by with_unfolding_all rfl):PE X (.Compare a [op,op'] [b,c] pos) (rj r r' ta tb tc):=by
 intro pins s σ H Q I h
 refine Compare_chain (thn (ha pins s σ H _ I h) λv s1 ⟨x,H1,I1,r1,q1⟩=>chain_link (thn (hb pins s1 σ H1 _ I1 q1) λu s2 ⟨y,H2,I2,r2,q2⟩=>
  thn (ho pins s2 σ H2 x y v u _ I2 r1 r2 q2) λd s3 ⟨z,H3,I3,r3,k,e,q3⟩=>?_)) hm
 subst e;cases r3;refine Jf ?_;cases k with
 |false=>exact ite_ff ⟨.bl false,H3,I3,rfl,q3⟩
 |true=>exact ite_tt (chain_last (thn (hc pins s3 σ H3 _ I3 q3) λw' s4 ⟨z',H4,I4,r4,q4⟩=>ho' pins s4 σ H4 y z' u w' Q I4 r2 r4 q4))
theorem rW{op op':CmpOp}{r r':R2}(ho:OpR X (QE op) r)(ho':OpR X (QE op') r')(ha:PE X a ta)(hb:PE X b tb)(hc:PE X c tc)
  (hm:lastMarks [op,op'] [b,c]=false:=by with_unfolding_all rfl):PT X (.Compare a [op,op'] [b,c] pos) (vx (rj r r' ta tb tc)):=by
 intro pins s σ H Q I h
 refine isTrue_chain (thn (ha pins s σ H _ I h) λv s1 ⟨x,H1,I1,r1,q1⟩=>test_link (thn (hb pins s1 σ H1 _ I1 q1) λu s2 ⟨y,H2,I2,r2,q2⟩=>
  thn (ho pins s2 σ H2 x y v u _ I2 r1 r2 q2) λd s3 ⟨z,H3,I3,r3,k,e,q3⟩=>?_)) hm
 subst e;cases r3;refine Jf ?_;cases k with
 |false=>
  obtain⟨k',e',q'⟩:=q3;cases e';exact ite_ff ⟨H3,I3,q'⟩
 |true=>
  refine ite_tt (test_last (thn (hc pins s3 σ H3 _ I3 q3) λw' s4 ⟨z',H4,I4,r4,q4⟩=>thn (ho' pins s4 σ H4 y z' u w' _ I4 r2 r4 q4) λd' s5 ⟨z2,H5,I5,r5,k2,e2,q5⟩=>?_));subst e2;cases r5;exact Jf ⟨H5,I5,q5⟩
def zi(K:Qc)(x:V)(H:Hp)(k:Bool):Prop:=
 match x with
 |.non=>k=false
 |.bl b=>k=b
 |.int i=>k=(i != 0)
 |.str y=>y.length<=Qt/\k=((y.length:Int) != 0)
 |.byt y=>y.size<=Qt/\k=((y.size:Int) != 0)
 |.ref p=>(∃xs,SqL K H p xs/\k = !xs.isEmpty)\/(∃xs,SqT K H p xs/\k = !xs.isEmpty)\/∃kvs,H p=some (.dK kvs)/\k = !kvs.isEmpty
 |_=>False
theorem nU{κ:Type}{kvs:List (κ×V)}{vs:List (κ×Qb)}(r:KV kvs vs):(!vs.isEmpty) = !kvs.isEmpty:=by
 cases r<;>rfl
theorem jx{xs:List V}{its:List Qb}(r:aX xs its):(!its.toArray.isEmpty) = !xs.isEmpty:=by
 cases r<;>simp
theorem lM:(Qt:Nat)<2 ^ 63:=by rw[sizeLine_eq];decide
theorem yc:zT X (λx H Q=>∃k,zi X.K x H k/\Q k H):=by
 intro pins s σ H x v Q I rx h;obtain⟨k,e,q⟩:=h;have hl:=lM;have hs:Qt=16777216:=sizeLine_eq;cases x with
 |non=>
  cases rx;have e':k=false:=e;subst e';exact truthy_none ⟨H,I,q⟩
 |bl b=>
  cases rx;have e':k=b:=e;subst e';exact Jf ⟨H,I,q⟩
 |int i=>
  obtain⟨t,rfl⟩:=rx;have e':k=(i != 0):=e;subst e';exact PySem.P.truthy_int ⟨H,I,q⟩
 |str y=>
  obtain⟨t,rfl⟩:=rx;obtain⟨hy,e'⟩:y.length<=Qt/\k=((y.length:Int) != 0):=e;subst e';exact PySem.P.truthy_str (by lia) ⟨H,I.tok _,q⟩
 |byt y=>
  obtain⟨t,rfl⟩:=rx;obtain⟨hy,e'⟩:y.size<=Qt/\k=((y.size:Int) != 0):=e;subst e';exact PySem.W.truthy_bytes (by lia) ⟨H,I.tok _,q⟩
 |ref p=>
  cases rx;have e':(∃xs,SqL X.K H p xs/\k = !xs.isEmpty)\/(∃xs,SqT X.K H p xs/\k = !xs.isEmpty)\/∃kvs,H p=some (.dK kvs)/\k = !kvs.isEmpty:=e;rcases e' with⟨xs,hx,e'⟩ | ⟨xs,hx,e'⟩ | ⟨kvs,hx,e'⟩
  ·subst e'
   obtain⟨its,r,pl,hz⟩:=I.list hx;have hlen:=r.length;exact wpAny_truthy_list pl.isList (by simp only[QA];lia) ⟨H,I.tok _,by rw[jx r];exact q⟩
  ·subst e'
   obtain⟨its,r,pl,hz⟩:=I.tuple hx;have hlen:=r.length;exact truthy_tuple pl (by simp only[QA];lia) ⟨H,I.tok _,by rw[jx r];exact q⟩
  ·subst e'
   obtain⟨hz,hS,vs,r,m⟩:kvs.length<=Qt/\(p==JY)=false/\∃vs,KV kvs vs/\s.heap.DictOf (bN X.prog X.w) p vs:=I.hok p _ hx;have hlen:kvs.length=vs.length:=Paired.length r;exact wpAny_truthy_dict hS m (by lia) ⟨H,I.tok _,by rw[nU r];exact q⟩
 |_=>exact(show False from e).elim
theorem ra(ha:PE X a ta)(he:∀whole,isTrue a X.env whole=(do let v<-whole;standAt a.pos;holding [v] (truthy v))) :
  PT X a (λσ H Q=>ta σ H λx H'=>∃k,zi X.K x H' k/\Q k H'):=by
 intro pins s σ H Q I h;exact isTrue_plain (thn (ha pins s σ H _ I h) λv s1 ⟨x,H1,I1,r1,q1⟩=>yc pins s1 σ H1 x v Q I1 r1 q1) (he _)
theorem r8{x:V}{us:List Qb}(r:aX [x] us):∃u,us=[u]/\aW x u:=by
 cases r with
 |cons r1 r2=>cases r2;exact⟨_,rfl,r1⟩
theorem vU{x y:V}{us:List Qb}(r:aX [x,y] us):∃u w',us=[u,w']/\aW x u/\aW y w':=by
 cases r with
 |cons r1 r2=>
  cases r2 with
  |cons r3 r4=>cases r4;exact⟨_,_,rfl,r1,r3⟩
theorem pI(hc:X.calm=true):eG X (.builtin "max") (λxs H Q=>∃i j,xs=[.int i,.int j]/\Q (.int (if j>i then j else i)) H):=by
 intro pins s σ H xs us Q I r h;obtain⟨i,j,rfl,q⟩:=h;obtain⟨u,w',rfl,⟨t,rfl⟩,⟨t',rfl⟩⟩:=vU r;refine max_two_ints (I.ok.hd hc) λh' tk k=>⟨_,H,I.kept k,?_,q⟩
 by_cases hj:j>i
 ·rw[if_pos hj,if_pos hj];exact⟨_,rfl⟩
 ·rw[if_neg hj,if_neg hj];exact⟨_,rfl⟩
theorem qj(hc:X.calm=true):eG X (.builtin "min") (λxs H Q=>∃i j,xs=[.int i,.int j]/\Q (.int (if j<i then j else i)) H):=by
 intro pins s σ H xs us Q I r h;obtain⟨i,j,rfl,q⟩:=h;obtain⟨u,w',rfl,⟨t,rfl⟩,⟨t',rfl⟩⟩:=vU r;refine min_two_ints (I.ok.hd hc) λh' tk k=>⟨_,H,I.kept k,?_,q⟩
 by_cases hj:j<i
 ·rw[if_pos hj,if_pos hj];exact⟨_,rfl⟩
 ·rw[if_neg hj,if_neg hj];exact⟨_,rfl⟩
end
theorem o_{h:Heap}{dx:Addr}{mA:Str->Option Qb}(n:h.Ns1 dx mA):∃od,h.get? dx=some od/\∀name,PySem.W.lookIn name od=some (mA name):=by
 obtain⟨o,es,ep,ho,hd,hk,_,hm⟩:=n;refine⟨o,ho,λname=>?_⟩;have e:=hm name;unfold nsFind findBy at e;rw[<-Array.find?_toList] at e;unfold PySem.W.lookIn;rw[hd];dsimp only;split
 ·rename_i y q
  rw[q] at e;exact congrArg some e
 ·rename_i q
  rw[q] at e
  have a:es.toList.any (·.refKey)=false:=by
   rw[List.any_eq_false];intro y hy;obtain⟨z,t,hkey⟩:=hk y (Array.mem_toList_iff.mp hy);simp[DictEntry.refKey,hkey]
  have a':¬ es.toList.any (·.refKey)=true:=by rw[a];exact Qh
  rw[if_neg a'];exact congrArg some e
theorem f7.some_of{v:V}{o:Option Qb}(r:f7 (some v) o):∃u,o=some u/\aW v u:=by
 cases o with
 |none=>exact(show False from r).elim
 |some u=>exact⟨u,rfl,r⟩
theorem pz{v:V}{u:Qb}(r:aW v u):PySem.W.handedIn u=true:=by
 cases v with
 |non=>cases(show u=QT from r);rfl
 |bl b=>cases(show u=Zd b from r);rfl
 |int i=>obtain⟨t,e⟩:=(show ∃t,u=Value.int i t from r);cases e;rfl
 |str x=>obtain⟨t,e⟩:=(show ∃t,u=Value.str x t from r);cases e;rfl
 |byt b=>obtain⟨t,e⟩:=(show ∃t,u=Value.bytes b t from r);cases e;rfl
 |flt b=>obtain⟨t,e⟩:=(show ∃t,u=Value.float b t from r);cases e;rfl
 |ref a=>cases(show u=QF a from r);rfl
 |ty n=>cases(show u=Value.type n from r);rfl
section
variable{X:Cx}{pins:List (Addr×Obj)}{σ:St}{H:Hp}{s:Qd}{a C dx:Addr}{fs:List (Str×V)}{f:Str}{v:V}{A:QB}{E:Qb->Qd->Prop}
theorem Inv.made(I:Inv X pins σ H s):Inv X pins σ (upd (upd H s.heap.objs.size (.own (s.heap.objs.size+1))) (s.heap.objs.size+1) (.ins C s.heap.objs.size []))
  { s with heap:=(s.heap.push Js).push (Zv C s.heap.objs.size) }:=by
 have e1:(s.heap.push Js).get? s.heap.objs.size=some Js:=Qo s.heap rfl
 have e2:((s.heap.push Js).push (Zv C s.heap.objs.size)).get? (s.heap.objs.size+1)=some (Zv C s.heap.objs.size):=by
  have:=Qo (s.heap.push Js) (o:=Zv C s.heap.objs.size) rfl;rwa [QP] at this
 have e3:(s.heap.push Js).Ns s.heap.objs.size (λ_=>none):=⟨Js,#[],_,e1,rfl,(λe he=>absurd he (by simp)),λ_=>rfl⟩;have I1:=I.laid (a:=s.heap.objs.size) (o:=.own (s.heap.objs.size+1)) (h':=s.heap.push Js) (t':=s.toks) (λb u q=>Qe _ q) (Qn _) ⟨_,e1⟩;refine I1.laid (a:=s.heap.objs.size+1) (o:=.ins C s.heap.objs.size []) (t':=s.toks) (λb u q=>Qe _ q) (Nat.le_of_eq (QP _ _)) ?_;have ne:s.heap.objs.size≠s.heap.objs.size+1:=QC (Nat.lt_succ_self _);refine⟨by rw[aA ne,ay],Nat.zero_le _,ne,e2,λ_=>none,(Heap.Ns1.of_empty e3).at λo q=>Qe _ q,λ_=>Zf,λy hy=>absurd rfl hy⟩
theorem uz{prog:Qr}{w:Qu}{env:Env}{e:Expr}{f:Str}{pos:Pos}{s:Qd}{Q:Qb->Qd->Prop}(hb:JU e f env (eval e env)=eval e env)
  (h:Qg (Qi prog w) A (eval e env) (λo s₁=>Qg (Qi prog w) A (getAttr o f true) Q E s₁) E s):Qg (Qi prog w) A (eval (.Attribute e f pos) env) Q E s:=
 Attribute_any_ h (by rw[arm_eval_Attribute,hb])
end
structure Room(k:Nat)(A:QB):Prop where
 hd:A.handled=none
 dp:A.depth+3*k+5<recursionLimit
 un:A.units+16*k+200<cLine
theorem Room.mono{j k:Nat}{A:QB}(r:Room k A)(h:j<=k):Room j A:=⟨r.hd,by have:=r.dp;lia,by have:=r.un;lia⟩
theorem Room.deeper{k:Nat}{A:QB}(r:Room (k+1) A)(env:Env):Room k (A.deeper env):=
 ⟨r.hd,by have:=r.dp;show A.depth+1+3*k+5<_;lia,by have:=r.un;show A.units+3+16*k+200<_;lia⟩
theorem Room.in1{k:Nat}{A:QB}(r:Room (k+1) A):Room k A.in1:=
 ⟨r.hd,by have:=r.dp;show A.depth+3*k+5<_;lia,by have:=r.un;show A.units+1+16*k+200<_;lia⟩
theorem nQ{A:QB}{C:Addr}{us:List Qb}{kw:List (Str×Qb)}:(A.under (.builtin "type.__call__" ⟨.ref C::us,kw⟩)).depth=A.depth+1:=by
 first | rfl | simp[Around.under,Code.weight,Code.isCreation,Code.isGuard,Code.isCaller,Code.frames,Code.isFrame,guardIds]
theorem nq{A:QB}{C:Addr}{us:List Qb}{kw:List (Str×Qb)}:(A.under (.builtin "type.__call__" ⟨.ref C::us,kw⟩)).units=A.units+1:=by
 first | rfl | simp[Around.under,Code.cUnits,Code.frames,Code.isFrame]
theorem Room.make{k:Nat}{A:QB}(r:Room (k+1) A)(C:Addr)(us:List Qb)(kw:List (Str×Qb)):Room k (A.under (.builtin "type.__call__" ⟨.ref C::us,kw⟩)):=
 ⟨r.hd,by have:=r.dp;rw[nQ];lia,by have:=r.un;rw[nq];lia⟩
theorem Room.depth{k:Nat}{A:QB}(r:Room k A):A.depth<recursionLimit:=by have:=r.dp;lia
theorem Room.units{k:Nat}{A:QB}(r:Room k A):A.units+64<cLine:=by have:=r.un;lia
def uo:TA:=λ_ H Q=>Q [] H
def oM(ta:TE)(tr:TA):TA:=λσ H Q=>ta σ H λx H1=>tr σ H1 λxs H2=>Q (x::xs) H2
section
variable{X:Cx}{e:Expr}{es:List Expr}{te:TE}{t:TA}{pos:Pos}
theorem du:PA X [] uo:=λ_ _ _ _ H Q I h=>Calls.spliced_nil ⟨[],H,I,.nil,h⟩
theorem b4(ha:PE X e te)(hr:PA X es t)(hs:Qj (e::es) X.env=(false,eval e X.env)::Qj es X.env:=by rfl):PA X (e::es) (oM te t):=by
 intro pos pins s σ H Q I h;rw[hs];show Qg _ _ (spliced ((false,eval e X.env)::Ja pos (Qj es X.env))) _ _ s;refine Calls.spliced_cons (thn (ha pins s σ H _ I h) λu s1 ⟨x,H1,I1,r1,q1⟩=>?_);exact thn (hr pos pins s1 σ H1 _ I1 q1) λus s2 ⟨xs,H2,I2,r2,q2⟩=>⟨x::xs,H2,I2,.cons r1 r2,q2⟩
def z9(t:TA):TE:=λσ H Q=>t σ H λxs H1=>xs.length<=Qt/\∀p,H1 p=none->Q (.ref p) (upd H1 p (.tup xs))
def zY(t:TA):TE:=λσ H Q=>t σ H λxs H1=>xs.length<=Qt/\∀p,H1 p=none->Q (.ref p) (upd H1 p (.lst xs))
theorem sU{x1}(h:PA X es t):PE X (.Tuple es x1 pos) (z9 t):=by
 intro pins s σ H Q I hq;refine wpAny_Tuple_spliced (thn (h pos pins s σ H _ I hq) λus s1 ⟨xs,H1,I1,r,z,q⟩=>⟨by rw[<-r.length];exact z,?_⟩);have hf:H1 s1.heap.objs.size=none:=I1.hok.fresh (Qn _);refine⟨.ref s1.heap.objs.size,upd H1 s1.heap.objs.size (.tup xs),I1.laid (t':=s1.toks) (λb u e=>Qe _ e) (Qn _) ?_,rfl,q _ hf⟩;exact⟨z,us,r,⟨_,Qo _ rfl,rfl,_,rfl⟩⟩
theorem wC(h:PA X es t):PE X (.List es pos) (zY t):=by
 intro pins s σ H Q I hq;refine wpAny_List_spliced (thn (h pos pins s σ H _ I hq) λus s1 ⟨xs,H1,I1,r,z,q⟩=>⟨by rw[<-r.length];exact z,?_⟩);have hf:H1 s1.heap.objs.size=none:=I1.hok.fresh (Qn _);refine⟨.ref s1.heap.objs.size,upd H1 s1.heap.objs.size (.lst xs),I1.laid (t':=s1.toks) (λb u e=>Qe _ e) (Qn _) ?_,rfl,q _ hf⟩;exact⟨z,us,0,r,Qo _ rfl⟩
end
abbrev Sp:=List V->Hp->VK->XK->Prop
abbrev CXT:=List Env->Hp->Qd->XK->Qb->Qd->Prop
structure Env0(P:Qr)(w:Qu)(K:Qc)(mg:Str->Option Qb)(base:Heap)(A:QB)(outer:List Env)(s:Qd)(H:Hp):Prop where
 frames:A.frames=some outer
 mod:Mod K mg base
 bs:∀b o,base.get? b=some o->s.heap.get? b=some o/\H b=none
 bsz:base.objs.size<=s.heap.objs.size
 funs:s.heap.FunFrames base outer
 frf:∀b∈frs outer,H b=none
 hok:HOk P w H s.heap
 bare:AllBare s.gens
def CE(outer:List Env)(P:Qr)(w:Qu)(H:Hp)(s:Qd)(Q:VK)(u:Qb)(s':Qd):Prop:=
 ∃v H',s'.os=s.os/\AllBare s'.gens/\Un (frs outer) [] H H' s.heap s'.heap/\HOk P w H' s'.heap/\aW v u/\Q v H'
def CR(CX:CXT)(outer:List Env)(P:Qr)(w:Qu)(H:Hp)(s:Qd)(Q:VK)(E:XK)(r:Result)(s':Qd):Prop:=
 match r with
 |.ok (.ret u)=>CE outer P w H s Q u s'
 |.ok _=>False
 |.error e=>CX outer H s E e s'
structure FnOk(P:Qr)(w:Qu)(K:Qc)(mg:Str->Option Qb)(base:Heap)(CX:CXT)(k:Nat)(f:Addr)(fd:QY)(ps:List Str)(sp:Sp):Prop where
 len:∀vs H Q E,sp vs H Q E->vs.length=ps.length
 run:∀(A:QB) (outer:List Env) (s:Qd) (H:Hp) (args:Args) (us:List Qb) (vs:List V) (Q:VK) (E:XK),Room k A->Env0 P w K mg base A outer s H->BindsTo s fd args (ps.zip us)->aX vs us->sp vs H Q E->
  J1 (Qi P w) A (.call (.ref f) args) (CR CX outer P w H s Q E) s
theorem FnOk.mono{P:Qr}{w:Qu}{K:Qc}{mg:Str->Option Qb}{base:Heap}{CX:CXT}{j k:Nat}{f:Addr}{fd:QY}{ps:List Str}{sp:Sp}(F:FnOk P w K mg base CX j f fd ps sp)(h:j<=k) :
  FnOk P w K mg base CX k f fd ps sp:=⟨F.len,λA outer s H args us vs Q E hr=>F.run A outer s H args us vs Q E (hr.mono h)⟩
theorem Env0.make{P:Qr}{w:Qu}{K:Qc}{mg:Str->Option Qb}{base:Heap}{A:QB}{outer:List Env}{s:Qd}{H:Hp}(e:Env0 P w K mg base A outer s H)(C:Addr)(us:List Qb)(kw:List (Str×Qb)) :
  Env0 P w K mg base (A.under (.builtin "type.__call__" ⟨.ref C::us,kw⟩)) outer s H:=⟨by first | exact e.frames | (simpa[Around.under,Code.envs,Code.isFrame,pushEnvs] using e.frames),e.mod,e.bs,e.bsz,e.funs,e.frf,e.hok,e.bare⟩
theorem Env0.in1{P:Qr}{w:Qu}{K:Qc}{mg:Str->Option Qb}{base:Heap}{A:QB}{outer:List Env}{s:Qd}{H:Hp}(e:Env0 P w K mg base A outer s H) :
  Env0 P w K mg base A.in1 outer s H:=⟨e.frames,e.mod,e.bs,e.bsz,e.funs,e.frf,e.hok,e.bare⟩
section
variable{X:Cx}{pins:List (Addr×Obj)}{σ:St}{H:Hp}{s s':Qd}
theorem Inv.env0(I:Inv X pins σ H s):Env0 X.prog X.w X.K X.mg X.base X.A X.stack s H:=
 ⟨I.ok.frames,I.ok.mod,I.bs,QK I.ok.bsz I.sz,I.stack,I.stkFree,I.hok,I.bare⟩
theorem Inv.after{Q:VK}{u:Qb}(I:Inv X pins σ H s)(h:CE X.stack X.prog X.w H s Q u s'):EP X pins σ Q u s':=by
 obtain⟨v,H',os,bare,un,hok,r,q⟩:=h;obtain⟨hh,g,d,t,os'⟩:=s';obtain rfl:os'=s.os:=os;exact⟨v,H',I.call (h':=hh) (g':=g) (d':=d) (t':=t) (ch:=[]) un hok bare (λb z=>absurd z (by simp)),r,q⟩
end
def yA(sp:Sp)(dvs:List V)(E:XK)(t:TA):TE:=λσ H Q=>t σ H λvs H1=>sp (vs++dvs) H1 Q E
def gP(K:Qc)(fd:QY)(ps:List Str)(ds:List Qb):Prop:=
 ∀(s:Qd) (us:List Qb),K.In s.heap->(us++ds).length=ps.length->BindsTo s fd ⟨us,[]⟩ (ps.zip (us++ds))
theorem gP.all{K:Qc}{fd:QY}{ps:List Str}(h:∀us:List Qb,us.length=ps.length->bindArgs fd ⟨us,[]⟩=pure (ps.zip us)):gP K fd ps []:=λs us _ hl=>by
 rw[Q6] at hl ⊢;exact .of_eq (h us hl)
def lL(CX:CXT)(X:Cx)(E:XK):Prop:=∀(pins:List (Addr×Obj)) (σ:St) (H:Hp) (s:Qd) (e:Qb) (s':Qd),Inv X pins σ H s->CX X.stack H s E e s'->X.xe e s'
section
variable{X:Cx}{CX:CXT}{k:Nat}{f C:Addr}{fd:QY}{ps:List Str}{sp:Sp}{dvs:List V}{ds:List Qb}{E:XK}{x m:Str}{p pos apos:Pos}{e o:Expr}{es:List Expr}{ta:TE}{t:TA}
theorem wO{pins:List (Addr×Obj)}{σ:St}{H:Hp}{s:Qd}{Q:VK}{us:List Qb}{vs:List V}(F:FnOk X.prog X.w X.K X.mg X.base CX k f fd ps sp)(hr:Room k X.A)(hb:gP X.K fd ps ds)(hd:aX dvs ds)(hx:lL CX X E)
  (I:Inv X pins σ H s) (r:aX vs us) (h:sp (vs++dvs) H Q E):Qg (Qi X.prog X.w) X.A (call (.ref f) us) (EP X pins σ Q) X.xe s:=by
 have r2:aX (vs++dvs) (us++ds):=r.append hd;have hl:(us++ds).length=ps.length:=by rw[<-r2.length];exact F.len _ _ _ _ h
 refine wpAny_call (codeAny_mono (F.run X.A X.stack s H ⟨us,[]⟩ (us++ds) (vs++dvs) Q E hr I.env0 (hb s us I.kIn hl) r2 h) λr s' hq=>?_);cases r with
 |error e=>exact hx pins σ H s e s' I hq
 |ok fl=>
  cases fl with
  |ret u=>exact I.after hq
  |next=>exact Q1 hq
  |brk=>exact Q1 hq
  |cont=>exact Q1 hq
theorem oK(F:FnOk X.prog X.w X.K X.mg X.base CX k f fd ps sp)(hr:Room k X.A)(hg:Gl X x)(hm:X.mg x=some (.ref f))(hk:Jx X.K (.ref f)=true)(hb:gP X.K fd ps ds)(hd:aX dvs ds)(hx:lL CX X E)
  (ha:PA X (e::es) t) (hdb:(x==("__debug__" : Str))=false:=by decide) (he:Qj (e::es) X.env=(false,eval e X.env)::Qj es X.env:=by rfl) (hpl:(Ja pos (Qj es X.env)).any (·.1)=false:=by rfl) :
  PE X (.Call (.Name x p) (e::es) [] pos) (yA sp dvs E t):=by
 intro pins s σ H Q I h;refine JM (gM I hg hm ?_ hdb);refine PySem.W.callWith_K (h₀:=X.base) I.ok.mod.kin hk (thn (ha pos pins s σ H _ I h) λus s1 ⟨vs,H1,I1,r,q⟩=>⟨I1.kIn,?_⟩) he hpl;exact wO F hr hb hd hx I1 r q
end
def PK(X:Cx)(kws:List Keyword)(t:TA):Prop:=
 ∀(pos:Pos) (pins:List (Addr×Obj)) (s:Qd) (σ:St) (H:Hp) (Q:List V->Hp->Prop),Inv X pins σ H s->t σ H Q->Qg (Qi X.prog X.w) X.A (evalAll ((backToKw pos (Zl kws X.env)).map (·.2))) (AP X pins σ Q) X.xe s
section
variable{X:Cx}{CX:CXT}{k:Nat}{f C:Addr}{fd:QY}{ps ks:List Str}{sp:Sp}{E:XK}{x m:Str}{p pos apos kpos:Pos}{e o:Expr}{es:List Expr}{kws:List Keyword}{te ta:TE}{t tk:TA}{nm:Option Str}
theorem x8:PK X [] uo:=λ_ _ _ _ H Q I h=>wpAny_evalAll_nil ⟨[],H,I,.nil,h⟩
theorem vf(ha:PE X e te)(hr:PK X kws t):PK X (⟨nm,e,kpos⟩::kws) (oM te t):=by
 intro pos pins s σ H Q I h;show Qg _ _ (evalAll ((do let v<-eval e X.env;standAt pos;pure v)::(backToKw pos (Zl kws X.env)).map (·.2))) _ _ s;refine wpAny_evalAll_cons (Qa (thn (ha pins s σ H _ I h) λu s1 ⟨x,H1,I1,r1,q1⟩=>Qa (JT (Qf ?_))));exact thn (hr pos pins s1 σ H1 _ I1 q1) λus s2 ⟨xs,H2,I2,r2,q2⟩=>⟨x::xs,H2,I2,.cons r1 r2,q2⟩
variable{g:List Qb->List Qb->List Qb}{gV:List V->List V->List V}
end
structure FnScope(N P:List Str)(sc:Scope):Prop where
 kind:sc.kind=.function
 co:sc.isCoroutine=false
 gen:sc.isGenerator=false
 nd:N.Nodup
 pre:N.take P.length=P
 par:∀x∈P,sc.names.lookup x=some .local\/sc.names.lookup x=some .cell
 nofree:∀y∈sc.names,y.2≠.free
theorem kO{kindOf:Str->Option NameKind}{x:Str}:∀{binds:List (Str×Qb)} {m:Str->Option Qb},(∀v,(x,v)∉binds)->bindL kindOf binds m x=m x
 |[],_,_=>rfl
 |(n,v)::r,m,h=>by
  unfold bindL;rw[kO λw hw=>h w (Qy _ hw)];split
  ·have:x≠n:=by rintro rfl;exact h v QL
   simp[this]
  ·rfl
theorem kM{kindOf:Str->Option NameKind}{x:Str}:∀{binds:List (Str×Qb)} {m:Str->Option Qb},(∀v,(x,v)∉binds)->bindC kindOf binds m x=m x
 |[],_,_=>rfl
 |(n,v)::r,m,h=>by
  unfold bindC;rw[kM λw hw=>h w (Qy _ hw)];split
  ·rfl
  ·have:x≠n:=by rintro rfl;exact h v QL
   simp[this]
theorem kg{kindOf:Str->Option NameKind}{x:Str}{v:Qb}:∀{P:List Str} {vs:List Qb} {i:Nat} {m:Str->Option Qb},P.Nodup->P[i]?=some x->vs[i]?=some v->kindOf x=some .local->
  bindL kindOf (P.zip vs) m x=some v
 |[],_,_,_,_,h,_,_=>by simp at h
 |_::_,[],_,_,_,_,h,_=>by simp at h
 |p::P,w::vs,0,m,nd,h1,h2,hk=>by
  simp at h1 h2;subst h1;subst h2;show bindL kindOf ((p,w)::P.zip vs) m p=_;unfold bindL;rw[kO λv hv=>(Zy.mp nd).1 (List.of_mem_zip hv).1,if_pos hk];simp
 |p::P,w::vs,i+1,m,nd,h1,h2,hk=>by
  show bindL kindOf ((p,w)::P.zip vs) m x=_;unfold bindL;exact kg (i:=i) (Zy.mp nd).2 (by simpa using h1) (by simpa using h2) hk
theorem kR{kindOf:Str->Option NameKind}{x:Str}{v:Qb}:∀{P:List Str} {vs:List Qb} {i:Nat} {m:Str->Option Qb},P.Nodup->P[i]?=some x->vs[i]?=some v->kindOf x≠some .local->
  bindC kindOf (P.zip vs) m x=some v
 |[],_,_,_,_,h,_,_=>by simp at h
 |_::_,[],_,_,_,_,h,_=>by simp at h
 |p::P,w::vs,0,m,nd,h1,h2,hk=>by
  simp at h1 h2;subst h1;subst h2;show bindC kindOf ((p,w)::P.zip vs) m p=_;unfold bindC;rw[kM λv hv=>(Zy.mp nd).1 (List.of_mem_zip hv).1,if_neg hk];simp
 |p::P,w::vs,i+1,m,nd,h1,h2,hk=>by
  show bindC kindOf ((p,w)::P.zip vs) m x=_;unfold bindC;exact kR (i:=i) (Zy.mp nd).2 (by simpa using h1) (by simpa using h2) hk
def start(N:List Str)(vs:List V):St:=vs.map some++List.replicate (N.length-vs.length) none
def gv(CX:CXT)(P:Qr)(w:Qu)(K:Qc)(mg:Str->Option Qb)(base:Heap)(N:List Str)(qual:Str)(scope:Scope)(f:Addr)(cd:Qb)(A:QB)(outer:List Env)(s:Qd)(H:Hp)(E:XK):Cx where
 prog:=P
 w:=w
 K:=K
 mg:=mg
 base:=base
 A:=A.deeper (envOfC qual scope s.heap.objs.size f cd)
 N:=N
 s₀:=s
 H₀:=H
 env:=envOfC qual scope s.heap.objs.size f cd
 outer:=outer
 stack:=envOfC qual scope s.heap.objs.size f cd::outer
 ex:=[]
 calm:=true
 fn:=λ_=>true
 pn:=[]
 xe:=λe s'=>Qg (Qi P w) (A.deeper (envOfC qual scope s.heap.objs.size f cd)) (leaving (envOfC qual scope s.heap.objs.size f cd) e) (λ_ s''=>CX outer H s E e s'') (λe' s''=>CX outer H s E e' s'') s'
theorem l3{sc:Scope}{n:Nat}{x:Str}(h:sc.names.lookup x=some .cell):∃c,(cellsFrom n sc.names []).lookup x=some c:=by
 have q:=PySem.W.cellsFrom_some sc.names n [] (.inl h);exact Option.isSome_iff_exists.mp q
theorem pU{CX:CXT}{P:Qr}{w:Qu}{K:Qc}{mg:Str->Option Qb}{base:Heap}{N ps:List Str}{qual:Str}{scope:Scope}{f:Addr}{cd:Qb}{A:QB}{outer:List Env}{s s1:Qd}{H:Hp}{E:XK}{us:List Qb}{vs:List V}
  (S:FnScope N ps scope) (hd:A.handled=none) (e0:Env0 P w K mg base A outer s H) (hl:vs.length=ps.length) (r:aX vs us)
  (x:InCallC s s.heap.objs.size (bindL (envOfC qual scope s.heap.objs.size f cd).kindOf (ps.zip us) λ_=>none) (cellsFrom (s.heap.objs.size+1) scope.names []) (bindC (envOfC qual scope s.heap.objs.size f cd).kindOf (ps.zip us) λ_=>none) s1) :
  Inv (gv CX P w K mg base N qual scope f cd A outer s H E) [] (start N vs) H s1:=by
 have hpl:ps.length<=N.length:=by have:=congrArg List.length S.pre;rw[List.length_take] at this;lia
 obtain⟨h1,tk,rfl,hk⟩:=x.done;have noA:∀b:Addr,b∉(gv CX P w K mg base N qual scope f cd A outer s H E).ex:=λb z=>absurd (show b∈([]:List Addr) from z) (by simp)
 refine⟨⟨e0.mod,S.kind,rfl,rfl,Qn _,λy z c h1 h2=>?_,λy hy=>?_,λy c _ h=>?_,λ_=>hd,Around.frames_deeper e0.frames,.inr ⟨rfl,rfl⟩,λb z=>absurd z (noA b),e0.bs,e0.bsz,λb _ _=>noA b,λb z=>absurd z (noA b),e0.funs,e0.frf⟩,
  rfl,e0.bare,Un.kept hk,⟨_,x.toInCall.ns,λi y v h1 h2 h3=>?_⟩,λy c h=>⟨_,x.cell y c h⟩,e0.hok.fresh (Qn _),λy c h=>?_,λp hp=>absurd (show p∈([]:List (Addr×Obj)) from hp) (by simp),e0.hok.kept hk,?_⟩
 ·exact name_of_addr x.apart (Jg h1) (Jg h2)
 ·have hy:scope.names.lookup y=some .cell\/scope.names.lookup y=some .free:=hy
  rcases hy with hy | hy
  ·exact l3 hy
  ·exact absurd rfl (S.nofree _ (Jg hy))
 ·exact Nat.le_of_lt (x.above y c (Jg h))
 ·have hi:i<vs.length:=by
   unfold start at h2
   by_cases hi:i<vs.length
   ·exact hi
   ·rw[Q4 (by simpa using hi)] at h2
    rw[JF] at h2;split at h2<;>cases h2
  have ha:vs[i]?=some v:=by
   unfold start at h2;rw[Ji (by simpa using hi),QG] at h2;cases e:vs[i]? with
   |none=>rw[e] at h2;cases h2
   |some a=>rw[e] at h2;cases h2;rfl
  obtain⟨u,hu,rv⟩:=r.get ha
  have hp:ps[i]?=some y:=by
   rw[<-S.pre,List.getElem?_take_of_lt (by lia)];exact h1
  have ndP:ps.Nodup:=by rw[<-S.pre];exact S.nd.sublist (List.take_sublist _ _)
  refine⟨u,rv,?_⟩;rcases S.par y (Jp hp) with k | k
  ·exact .inl ⟨k,kg ndP hp hu k⟩
  ·obtain⟨c,e⟩:=l3 (n:=s.heap.objs.size+1) k
   refine .inr ⟨.inl k,c,e,?_⟩;have q:=x.cell y c e;rw[kR ndP hp hu (by show scope.names.lookup y≠_;rw[k];decide)] at q;exact q
 ·exact e0.hok.fresh (Nat.le_of_lt (x.above y c (Jg h)))
 ·unfold start
  show _=N.length;rw[Qw,Qz,Jy]
  lia
theorem vH{CX:CXT}{P:Qr}{w:Qu}{K:Qc}{mg:Str->Option Qb}{base:Heap}{k:Nat}{f:Addr}{name qual:Str}{params:Arguments}{body:List Stmt}{scope:Scope}{dV kV doc pm cdv ct oc:Qb}{an od:Option Addr}
  {osl:Array (Option Qb)} {N ps:List Str} {sp:Sp} (lk:K.lookup f=some ⟨oc,od,.func (Jd name qual params body scope dV kV doc pm an cdv ct),osl⟩) (hcd:Zn K cdv qual=true) (S:FnScope N ps scope)
  (len:∀vs H Q E,sp vs H Q E->vs.length=ps.length)
  (hbody:∀(A:QB) (outer:List Env) (s:Qd) (H:Hp) (vs:List V) (Q:VK) (E:XK),Room k (A.deeper (envOfC qual scope s.heap.objs.size f cdv))->sp vs H Q E->
   ∃t,PSs (gv CX P w K mg base N qual scope f cdv A outer s H E) body t/\t { nx:=λ_ H'=>Q .non H',rt:=Q } (start N vs) H) :
  FnOk P w K mg base CX (k+1) f (Jd name qual params body scope dV kV doc pm an cdv ct) ps sp:=by
 refine⟨len,λA outer s H args us vs Q E hr e0 hb r hsp=>?_⟩;have hl:=len _ _ _ _ hsp;have KX:K.In s.heap:=e0.mod.kin.keeps λb o e=>(e0.bs b o e).1;have lim:s.heap.NoLimit:=e0.mod.nolimit.keeps λb o e=>(e0.bs b o e).1
 have hkind:∀y∈ps.zip us,scope.names.lookup y.1=some .local\/(scope.names.lookup y.1=some .cell/\((cellsFrom (s.heap.objs.size+1) scope.names []).lookup y.1).isSome=true):=λ⟨n,v⟩ hy=>by
  rcases S.par n (List.of_mem_zip hy).1 with q | q
  ·exact .inl q
  ·exact .inr ⟨q,PySem.W.cellsFrom_some _ _ _ (.inl q)⟩
 refine codeAny_call_function hr.depth (KX _ _ lk) rfl S.co S.gen rfl (PySem.W.codeRec_of KX hcd) (hb _ _ _ _ ?_);refine wpAny_newFunctionEnv_cells S.kind hkind λenv he s1 x=>?_;subst he;refine⟨lim.keeps x.toInCall.keep,codeAny_func ?_⟩;obtain⟨t,ht,hq⟩:=hbody A outer s H vs Q E (hr.deeper _) hsp;have I:Inv (gv CX P w K mg base N qual scope f cdv A outer s H E) [] (start N vs) H s1:=pU S hr.hd e0 hl r x;refine Q0 (ht [] s1 (start N vs) H _ I hq) (λfl s' hs=>?_) λe s' hs=>hs
 have fin:∀{σ':St} {H':Hp} {v:V} {u:Qb},Inv (gv CX P w K mg base N qual scope f cdv A outer s H E) [] σ' H' s'->aW v u->Q v H'->CE outer P w H s Q u s':=
  λ{σ' H' v u} J rv q=>⟨v,H',J.os,J.bare,J.base,J.hok,rv,q⟩
 cases fl with
 |ret u=>
  obtain⟨v,σ',H',J,rv,q⟩:=hs;exact fin J rv q
 |next=>
  obtain⟨σ',H',J,q⟩:=hs;exact fin (v:=V.non) (u:=QT) J rfl q
 |brk=>
  obtain⟨_,_,_,q⟩:=hs;exact Q1 q
 |cont=>
  obtain⟨_,_,_,q⟩:=hs;exact Q1 q
section
variable{X:Cx}{x:Str}{p pos:Pos}{e:Expr}{es:List Expr}{t:TA}{id T:String}{r:List V->Hp->VK->Prop}
def tCB(r:List V->Hp->VK->Prop)(t:TA):TE:=λσ H Q=>t σ H λvs H1=>r vs H1 Q
theorem jz(hc:eG X (.builtin id) r)(hg:Gl X x)(hm:X.mg x=none)(hv:JK x=some (.builtin id))(ha:PA X (e::es) t)(hn:x≠"__name__":=by decide)(hdb:(x==("__debug__" : Str))=false:=by decide)
  (he:Qj (e::es) X.env=(false,eval e X.env)::Qj es X.env:=by rfl) (hpl:(Ja pos (Qj es X.env)).any (·.1)=false:=by rfl):PE X (.Call (.Name x p) (e::es) [] pos) (tCB r t):=by
 intro pins s σ H Q I h;refine JM (gH I hg hm hv ?_ hn hdb);exact PyProof.Rows.callWith_builtin1 (thn (ha pos pins s σ H _ I h) λus s1 ⟨vs,H1,I1,r1,q1⟩=>hc pins s1 σ H1 vs us Q I1 r1 q1) he hpl
theorem kP(hc:eG X (.type T) r)(hg:Gl X x)(hm:X.mg x=none)(hv:JK x=some (.type T))(ha:PA X (e::es) t)(hn:x≠"__name__":=by decide)(hdb:(x==("__debug__" : Str))=false:=by decide)
  (he:Qj (e::es) X.env=(false,eval e X.env)::Qj es X.env:=by rfl) (hpl:(Ja pos (Qj es X.env)).any (·.1)=false:=by rfl):PE X (.Call (.Name x p) (e::es) [] pos) (tCB r t):=by
 intro pins s σ H Q I h;refine JM (gH I hg hm hv ?_ hn hdb);exact JL (thn (ha pos pins s σ H _ I h) λus s1 ⟨vs,H1,I1,r1,q1⟩=>hc pins s1 σ H1 vs us Q I1 r1 q1) he hpl
end
end L2
namespace HT
open PySem PyProof.Rows
theorem rq(A:QB)(s:Qd)(a:Int)(t:Tok)(c:Int)(u:Tok):∃e,SeqAt.EqAt A s (.int a t) (.int c u) e/\(e=true↔a=c):=
 ⟨(a==c),SeqAt.EqAt.int_int a t c u,by simp⟩
section
open PySem.SeqAt
open PySem.AutoSeq1 (wpAny_loadPart')
open PySem.MeetsSeq PySem.MeetsSeq2 PySem.MeetsSeq3
end
section
variable{prog:Qr}{w:Qu}{A:QB}{E:Qb->Qd->Prop}{s:Qd}
theorem tK{t b:Addr}{vs ws:List Qb}{Q:Qb->Qd->Prop}(ht:IsTup s.heap t vs.toArray)(hb:IsTup s.heap b ws.toArray)(hv:vs≠[])
  (h1:ws=[]->Q (.ref t) s) (h2:ws≠[]->Q (.ref s.heap.objs.size) { s with heap:=s.heap.push { cls:=.type "tuple",data:=.seq (vs++ws).toArray } })
  (hsz:vs.length+ws.length<=Qt):Qg (Qi prog w) A (Jl .Add (.ref t) (.ref b)) Q E s:=by
 obtain⟨⟨cls,dd,data,sl⟩,ho,hc,n,hd⟩:=id ht;obtain⟨⟨cls2,dd2,data2,sl2⟩,ho2,hc2,n2,hd2⟩:=id hb;simp only at hc hd hc2 hd2;subst hc hd hc2 hd2;have e:vs.toArray++ws.toArray=(vs++ws).toArray:=by simp
 by_cases hw:ws=[]
 ·exact concat_meets ⟨_,ho,rfl⟩ ⟨_,ho2,rfl⟩ noFill_tuple_add seq_tuple_add PySem.F.slot_tuple_add PySem.F.entry_tuple_add (PySem.F.args_tuple_add_2 _ _)
   (tuple_addW1 t b vs.toArray ws.toArray n n2 dd dd2 sl sl2 (by simpa using hv) (by simp[hw])) ⟨ho,ho2,h1 hw⟩
 ·refine concat_meets ⟨_,ho,rfl⟩ ⟨_,ho2,rfl⟩ noFill_tuple_add seq_tuple_add PySem.F.slot_tuple_add PySem.F.entry_tuple_add (PySem.F.args_tuple_add_2 _ _)
   (tuple_addW2 t b vs.toArray ws.toArray n n2 dd dd2 sl sl2 (by simpa using hv) (by simpa using hw) (by rw[QA,QA];exact hsz)) ⟨ho,ho2,?_⟩
  rw[e];exact h2 hw
def sIx(n d:Nat):Option Int->Nat
 |none=>d
 |some v=>if v<0 then(v+(n:Int)).toNat else min v.toNat n
theorem qy(n d:Nat):sIx n d none=d:=rfl
theorem k_(n d k:Nat):sIx n d (some (k:Int))=min k n:=by
 show(if(k:Int)<0 then((k:Int)+(n:Int)).toNat else min (k:Int).toNat n)=min k n;rw[if_neg (by lia),JX]
theorem xZ(n d:Nat)(hd:d<=n)(o:Option Int):sIx n d o<=n:=by
 cases o with
 |none=>exact hd
 |some v=>
  show(if v<0 then(v+(n:Int)).toNat else min v.toNat n)<=n
  by_cases hv:v<0
  ·rw[if_pos hv];lia
  ·rw[if_neg hv];exact Nat.min_le_right _ _
theorem oh(v:Int)(n d:Nat):(if v<0 then max (v+(n:Int)) 0 else min v (n:Int))=((sIx n d (some v):Nat):Int):=by
 show(if v<0 then max (v+(n:Int)) 0 else min v (n:Int))=(((if v<0 then(v+(n:Int)).toNat else min v.toNat n):Nat):Int)
 by_cases hv:v<0
 ·simp only[if_pos hv];lia
 ·simp only[if_neg hv];lia
theorem nW(lo hi:Option Int)(n:Nat):Builtin.Slice.sliceAdjust lo hi 1 (n:Int)=(((sIx n 0 lo:Nat):Int),((sIx n n hi:Nat):Int)):=by
 have h1:¬ ((1:Int)<0):=by lia
 unfold Builtin.Slice.sliceAdjust;simp only[h1,if_false];refine Prod.ext ?_ ?_
 ·cases lo with
  |none=>rfl
  |some v=>exact oh v n 0
 ·cases hi with
  |none=>rfl
  |some v=>exact oh v n n
theorem mX(i j:Nat):JZ (i:Int) (j:Int) 1=j-i:=by
 unfold JZ;have h1:(1:Int)>0:=by lia
 simp only[h1,if_true,Int.ediv_one];split<;>lia
theorem jJ{v:Qb}{o:Option Int}{Q:Option Int->Qd->Prop}(p:IsPart v o)(h:Q o s):Qg (Qi prog w) A (Builtin.Slice.slicePartIndex v) Q E s:=by
 cases p with
 |none=>exact slicePart_none h
 |int i t=>exact slicePart_int h
theorem ir{sl:Addr}{vl vu:Qb}{lo hi:Option Int}{n:Nat}{Q:Int×Int×Nat->Qd->Prop}(hs:s.heap.IsSliceOf sl vl vu .none)(pl:IsPart vl lo)(pu:IsPart vu hi)
  (h:Q (((sIx n 0 lo:Nat):Int),1,sIx n n hi-sIx n 0 lo) s):Qg (Qi prog w) A (Builtin.Slice.sliceApplied (.ref sl) (pure (n:Int))) Q E s:=by
 obtain⟨os,hos,hcs,hds⟩:=id hs;unfold Builtin.Slice.sliceApplied Builtin.Slice.sliceFields;refine Qa (Qa (QM hos hds (x:=vl) rfl (Qa (QM hos hds (x:=vu) rfl (Qa (QM hos hds (x:=.none) rfl (Qf ?_)))))));refine Qa (slicePart_none ?_);show Qg _ _ (if((1:Int)==0)=true then _ else _) _ _ s;rw[if_neg (by decide)];refine Qa (jJ pl (Qa (jJ pu (Qa (Qf ?_)))));show Qg _ _ (match Builtin.Slice.sliceAdjust lo hi 1 (n:Int) with | (lo,hi)=>pure (lo,(1:Int),JZ lo hi 1)) _ _ s;rw[nW lo hi n];show Qg _ _ (pure (((sIx n 0 lo:Nat):Int),(1:Int),JZ ((sIx n 0 lo:Nat):Int) ((sIx n n hi:Nat):Int) 1)) _ _ s;rw[mX];exact Qf h
theorem r6(xs:Array Qb)(i k:Nat):((JB k).filterMap λ(m:Nat)=>xs[((i:Int)+(m:Int)*1).toNat]?).toArray=((xs.toList.drop i).take k).toArray:=by
 have e:(λ(m:Nat)=>xs[((i:Int)+(m:Int)*1).toNat]?)=λm=>xs[i+m]?:=by
  funext m
  have:((i:Int)+(m:Int)*1).toNat=i+m:=by lia
  rw[this]
 rw[e];have:=pick_run xs i k;rw[List.filterMap_map] at this;have e2:((λx=>xs[x]?)∘λx=>i+x)=λm=>xs[i+m]?:=rfl;rw[e2] at this;rw[this]
theorem hW{t sl:Addr}{items:Array Qb}{vl vu:Qb}{lo hi:Option Int}{Q:Qb->Qd->Prop}(ht:IsTup s.heap t items)(hs:s.heap.IsSliceOf sl vl vu .none)(pl:IsPart vl lo)(pu:IsPart vu hi)
  (hw:¬ (sIx items.size 0 lo=0/\sIx items.size items.size hi=items.size))
  (h:Q (.ref s.heap.objs.size) { s with heap:=s.heap.push { cls:=.type "tuple",data:=.seq ((items.toList.drop (sIx items.size 0 lo)).take (sIx items.size items.size hi-sIx items.size 0 lo)).toArray } })
  (hsz:items.size<=Qt):Qg (Qi prog w) A (getItem (.ref t) (.ref sl)) Q E s:=by
 have htake:sizeOk (.seq ((items.toList.drop (sIx items.size 0 lo)).take (sIx items.size items.size hi-sIx items.size 0 lo)).toArray):=by
  show((items.toList.drop (sIx items.size 0 lo)).take (sIx items.size items.size hi-sIx items.size 0 lo)).toArray.size<=Qt;rw[QA,List.length_take,List.length_drop,J9]
  lia
 have hj:sIx items.size items.size hi<=items.size:=xZ _ _ (Qn _) hi;obtain⟨os,hos,hcs,hds⟩:=id hs;have hTs:s.TypeIs (.ref sl) "slice":=⟨os,hos,hcs⟩;unfold getItem
 try with_reducible refine Q8 ?_
 first | refine Qa (Qf ?_) | skip
 refine Qa (wpAny_sequenceKey ht.typeIs (by decide) ?_)
 refine Qa (Jc (name:=Jw "__getitem__") ht.typeIs PyProof.Rows.slot_tuple_getitem
  (JH PyProof.Rows.slot_tuple_getitem ht.typeIs entry_tuple_getitem ?_ (args_tuple_getitem _ _)))
 show Qg _ _ (Builtin.Tuple.tupleItemsOf (.ref t)>>=_) _ _ s;refine Qa (tupleItemsOf_ ht ?_);refine Qa (wpAny_typeOf hTs ?_);rw[if_pos (by decide)];refine Qa (ir hs pl pu ?_)
 have hno:¬ ((((sIx items.size 0 lo:Nat):Int)==0&&(1:Int)==1&&(sIx items.size items.size hi-sIx items.size 0 lo)==items.size)=true):=by
  intro q;rw[J6,J6] at q;have q1:((sIx items.size 0 lo:Nat):Int)=0:=eq_of_beq q.1.1;have q2:sIx items.size items.size hi-sIx items.size 0 lo=items.size:=eq_of_beq q.2;exact hw ⟨by lia,by lia⟩
 show Qg _ _ (if(((sIx items.size 0 lo:Nat):Int)==0&&(1:Int)==1&&(sIx items.size items.size hi-sIx items.size 0 lo)==items.size)=true then _ else _) _ _ s;rw[if_neg hno,r6]
 first
  |exact Qa (m:=J7 _) (QS (Qf ⟨_,rfl,Qf h⟩) htake)
  |exact Qa (m:=J7 _) (QS (Qa (Qf (Qf ⟨_,rfl,Qf h⟩))) htake)
  |exact Qa (Qa (m:=J7 _) (QS (Qf (Qf ⟨_,rfl,Qf h⟩)) htake))
  |exact Qa (Qa (m:=J7 _) (QS (Qf ⟨_,rfl,Qf h⟩) htake))
end
end HT
namespace L2
open PySem PySem.Spec PyProof.Rows
abbrev TO:=St->Hp->(Option Int->Hp->Prop)->Prop
def PO(X:Cx)(e:Option Expr)(t:TO):Prop:=
 ∀(pins:List (Addr×Obj)) (s:Qd) (σ:St) (H:Hp) (Q:Option Int->Hp->Prop),Inv X pins σ H s->t σ H Q->
  Qg (Qi X.prog X.w) X.A (evalPart e X.env) (λu s'=>∃o H',Inv X pins σ H' s'/\IsPart u o/\Q o H') X.xe s
def u_:TO:=λ_ H Q=>Q none H
def yq(t:TE):TO:=λσ H Q=>t σ H λx H1=>∃i,x=.int i/\Q (some i) H1
theorem gG{ns:List Int}:∀{us:List Qb},aX (ns.map V.int) us->JI us ns:=by
 induction ns with
 |nil=>intro us r;rw[List.map_nil] at r;cases r;exact .nil
 |cons n ns ih=>
  intro us r;rw[QN] at r;cases r with
  |cons r1 r2=>
   obtain⟨t,e⟩:=r1;subst e;exact .cons n t (ih r2)
section
variable{X:Cx}{e:Expr}{te:TE}{lo hi:Option Expr}{tl th:TO}{pos p2:Pos}
theorem uf:PO X none u_:=by
 intro pins s σ H Q I h;rw[evalPart_none];exact Qf ⟨none,H,I,.none,h⟩
theorem u0(h:PE X e te):PO X (some e) (yq te):=by
 intro pins s σ H Q I hw;rw[evalPart_some];refine thn (h pins s σ H _ I hw) λu s1 ⟨x,H1,I1,r1,q1⟩=>?_;obtain⟨i,rfl,q⟩:=q1;obtain⟨t,rfl⟩:=r1;exact⟨some i,H1,I1,.int i t,q⟩
def SlR(X:Cx)(r:V->Option Int->Option Int->Hp->VK->Prop):Prop:=
 ∀(pins:List (Addr×Obj)) (s:Qd) (σ:St) (H:Hp) (x:V) (v vl vu:Qb) (lo hi:Option Int) (sl:Addr) (Q:VK),Inv X pins σ H s->aW x v->s.heap.IsSliceOf sl vl vu .none->IsPart vl lo->IsPart vu hi->r x lo hi H Q->
  ∃T id,typeLookup (.type T) "__getitem__" = pure (some (.builtin id))/\s.TypeIs v T/\Qg (Qi X.prog X.w) X.A (getItem v (.ref sl)) (EP X pins σ Q) X.xe s
theorem SlR.or{r r':V->Option Int->Option Int->Hp->VK->Prop}(h:SlR X r)(h':SlR X r'):SlR X (λx lo hi H Q=>r x lo hi H Q\/r' x lo hi H Q):=by
 intro pins s σ H x v vl vu lo hi sl Q I rx hs pl pu q;rcases q with q | q
 ·exact h pins s σ H x v vl vu lo hi sl Q I rx hs pl pu q
 ·exact h' pins s σ H x v vl vu lo hi sl Q I rx hs pl pu q
def tSl(r:V->Option Int->Option Int->Hp->VK->Prop)(te:TE)(tl th:TO):TE:=λσ H Q=>te σ H λx H1=>tl σ H1 λl H2=>th σ H2 λu H3=>r x l u H3 Q
theorem mI{r:V->Option Int->Option Int->Hp->VK->Prop}(hr:SlR X r)(he:PE X e te)(hl:PO X lo tl)(hu:PO X hi th):PE X (.Subscript e (.Slice lo hi none p2) pos) (tSl r te tl th):=by
 intro pins s σ H Q I h;refine Subscript_ (thn (he pins s σ H _ I h) λv s1 ⟨x,H1,I1,r1,q1⟩=>?_);refine wpAny_Slice (thn (hl pins s1 σ H1 _ I1 q1) λvl s2 ⟨l,H2,I2,pl,q2⟩=>thn (hu pins s2 σ H2 _ I2 q2) λvu s3 ⟨u,H3,I3,pu,q3⟩=>?_);rw[evalPart_none];refine Qf ?_;have I4:Inv X pins σ H3 { s3 with heap:=s3.heap.push { cls:=.type "slice",data:=.fields #[vl,vu,.none] } }:=I3.kept (t':=s3.toks) λb ob q=>Qe _ q;obtain⟨T,id,hT,ht,hg⟩:=hr pins { s3 with heap:=s3.heap.push { cls:=.type "slice",data:=.fields #[vl,vu,.none] } } σ H3 x v vl vu l u s3.heap.objs.size Q I4 r1 (Heap.IsSliceOf.new ..) pl pu q3;show Qg (Qi X.prog X.w) X.A (subscriptTail e (.Slice lo hi none p2) v (.ref s3.heap.objs.size)) (EP X pins σ Q) X.xe { s3 with heap:=s3.heap.push { cls:=.type "slice",data:=.fields #[vl,vu,.none] } };exact tail_any (ops:=[.ref s3.heap.objs.size,v]) ht hT hg (by with_unfolding_all rfl)
def lA(xs:List V)(lo hi:Option Int):List V:=(xs.drop (HT.sIx xs.length 0 lo)).take (HT.sIx xs.length xs.length hi-HT.sIx xs.length 0 lo)
theorem i6(xs:List V)(lo hi:Option Int):(lA xs lo hi).length<=xs.length:=by
 unfold lA;rw[List.length_take,List.length_drop]
 lia
def zP(K:Qc):V->Option Int->Option Int->Hp->VK->Prop:=λx lo hi H Q=>∃a xs,x=.ref a/\SqT K H a xs/\
 ¬ (HT.sIx xs.length 0 lo=0/\HT.sIx xs.length xs.length hi=xs.length)/\∀p,H p=none->Q (.ref p) (upd H p (.tup (lA xs lo hi)))
theorem wu:SlR X (zP X.K):=by
 intro pins s σ H x v vl vu lo hi sl Q I rx hs pl pu h;obtain⟨a,xs,rfl,hx,hw,q⟩:=h;cases rx;obtain⟨its,r,ht,hz⟩:=I.tuple hx;have hlen:its.toArray.size=xs.length:=by rw[QA];exact r.length.symm
 refine⟨"tuple",_,PyProof.Rows.slot_tuple_getitem.lookup,ht.typeIs,?_⟩;refine HT.hW ht hs pl pu (by rw[hlen];exact hw) ?_ (by rw[hlen];exact hz);rw[hlen];refine⟨.ref s.heap.objs.size,_,I.laid (t':=s.toks) (o:=.tup (lA xs lo hi)) (λb ob q=>Qe _ q) (Qn _) ?_,rfl,q _ (I.hok.fresh (Qn _))⟩;exact⟨QK (i6 xs lo hi) hz,_,(r.drop (HT.sIx xs.length 0 lo)).take (HT.sIx xs.length xs.length hi-HT.sIx xs.length 0 lo),IsTup.new _ _⟩
def yo(K:Qc):R2:=λx y H Q=>∃a b xs ys,x=.ref a/\y=.ref b/\SqT K H a xs/\SqT K H b ys/\xs≠[]/\xs.length+ys.length<=Qt/\
 (ys=[]->Q (.ref a) H)/\(ys≠[]->∀p,H p=none->Q (.ref p) (upd H p (.tup (xs++ys))))
theorem aX.nil_iff{xs:List V}{us:List Qb}(r:aX xs us):us=[]↔xs=[]:=by
 cases r with
 |nil=>simp
 |cons _ _=>simp
theorem uM:OpR X (Jl .Add) (yo X.K):=by
 intro pins s σ H x y v u Q I rx ry h;obtain⟨a,b,xs,ys,rfl,rfl,ha,hb,hx,hz,q1,q2⟩:=h;cases rx;cases ry;obtain⟨its,r1,p1,_⟩:=I.tuple ha;obtain⟨its2,r2,p2,_⟩:=I.tuple hb;refine HT.tK p1 p2 (λz=>hx (r1.nil_iff.mp z)) (λz=>⟨.ref a,H,I,rfl,q1 (r2.nil_iff.mp z)⟩) (λz=>?_) (by rw[<-r1.length,<-r2.length];exact hz);refine⟨.ref s.heap.objs.size,_,I.laid (t':=s.toks) (o:=.tup (xs++ys)) (λb ob q=>Qe _ q) (Qn _) ?_,rfl,q2 (λw=>z (r2.nil_iff.mpr w)) _ (I.hok.fresh (Qn _))⟩;exact⟨by rw[Qw];exact hz,_,r1.append r2,IsTup.new _ _⟩
end
def ixN(n:Nat)(i:Int):Option Nat:=if 0<=i then(if i<n then some i.toNat else none) else if -(n:Int)<=i then some (i+n).toNat else none
def atI{α:Type}(xs:List α)(i:Int):Option α:=(ixN xs.length i).bind λj=>xs[j]?
theorem tZ{n:Nat}{i:Int}{j:Nat}(h:ixN n i=some j):seqIndex? i n=some j/\j<n/\-(n:Int)<=i/\i<n:=by
 unfold ixN at h
 by_cases h0:0<=i
 ·rw[if_pos h0] at h
  by_cases h1:i<n
  ·rw[if_pos h1] at h
   have e:i.toNat=j:=Option.some.inj h;exact⟨by rw[seqIndex_of h0 h1,e],by lia,by lia,h1⟩
  ·rw[if_neg h1] at h;cases h
 ·rw[if_neg h0] at h
  by_cases h1:-(n:Int)<=i
  ·rw[if_pos h1] at h
   have e:(i+n).toNat=j:=Option.some.inj h;exact⟨by rw[seqIndex_neg (by lia) h1,e],by lia,h1,by lia⟩
  ·rw[if_neg h1] at h;cases h
theorem oY{α:Type}{xs:List α}{i:Int}{v:α}(h:atI xs i=some v):∃j,seqIndex? i xs.length=some j/\xs[j]?=some v/\j<xs.length/\-(xs.length:Int)<=i/\i<xs.length:=by
 unfold atI at h;cases e:ixN xs.length i with
 |none=>rw[e] at h;cases h
 |some j=>
  rw[e] at h;obtain⟨h1,h2,h3,h4⟩:=tZ e;exact⟨j,h1,h,h2,h3,h4⟩
theorem lb{α:Type}{xs:List α}{j:Nat}{v:α}(h:xs[j]?=some v):atI xs (j:Int)=some v:=by
 have hj:j<xs.length:=(Qs.mp h).1
 have e:ixN xs.length (j:Int)=some j:=by
  unfold ixN;rw[if_pos (by lia),if_pos (by lia)];simp
 unfold atI;rw[e];exact h
def kX(b:Expr):Prop:=∀o i,subscripted b false o i=operate [o,i] (getItem o i)
def IxR(X:Cx)(r:R2):Prop:=
 ∀(value slice:Expr) (pins:List (Addr×Obj)) (s:Qd) (σ:St) (H:Hp) (x y:V) (v u:Qb) (Q:VK),Inv X pins σ H s->aW x v->aW y u->r x y H Q->
  subscripted slice false v u=operate [v,u] (getItem v u)->Qg (Qi X.prog X.w) X.A (subscriptTail value slice v u) (EP X pins σ Q) X.xe s
def MtR(X:Cx)(id:String)(r:V->List V->Hp->VK->Prop):Prop:=
 ∀(pins:List (Addr×Obj)) (s:Qd) (σ:St) (H:Hp) (x:V) (xs:List V) (v:Qb) (us:List Qb) (Q:VK),Inv X pins σ H s->aW x v->aX xs us->r x xs H Q->
  Qg (Qi X.prog X.w) X.A (call (.builtin id) (v::us)) (EP X pins σ Q) X.xe s
section
variable{X:Cx}{a b:Expr}{ta tb:TE}{pos:Pos}
theorem IxR.or{r r':R2}(h:IxR X r)(h':IxR X r'):IxR X (λx y H Q=>r x y H Q\/r' x y H Q):=by
 intro value slice pins s σ H x y v u Q I rx ry q hs;rcases q with q | q
 ·exact h value slice pins s σ H x y v u Q I rx ry q hs
 ·exact h' value slice pins s σ H x y v u Q I rx ry q hs
theorem MtR.or{id:String}{r r':V->List V->Hp->VK->Prop}(h:MtR X id r)(h':MtR X id r'):MtR X id (λx xs H Q=>r x xs H Q\/r' x xs H Q):=by
 intro pins s σ H x xs v us Q I rx rs q;rcases q with q | q
 ·exact h pins s σ H x xs v us Q I rx rs q
 ·exact h' pins s σ H x xs v us Q I rx rs q
theorem yp{r:R2}(hr:IxR X r)(ha:PE X a ta)(hb:PE X b tb)(hs:kX b):PE X (.Subscript a b pos) (tOp r ta tb):=by
 intro pins s σ H Q I h;exact Subscript_ (xm ha hb I h λv u s2 x y H2 I2 rx ry q=>hr a b pins s2 σ H2 x y v u Q I2 rx ry q (hs _ _))
def Af(K:Qc):R2:=λx y H Q=>∃p xs i v,x=.ref p/\y=.int i/\SqL K H p xs/\atI xs i=some v/\Q v H
def zA(K:Qc):R2:=λx y H Q=>∃p xs i v,x=.ref p/\y=.int i/\SqT K H p xs/\atI xs i=some v/\Q v H
theorem tq:IxR X (Af X.K):=by
 intro value slice pins s σ H x y v u Q I rx ry h hs;obtain⟨p,xs,i,z,rfl,rfl,hq,he,q⟩:=h;cases rx;obtain⟨t,rfl⟩:=ry;obtain⟨its,r,pl,hz⟩:=I.list hq;obtain⟨j,h1,h2,h3,h4,h5⟩:=oY he;obtain⟨w,ew,rw'⟩:=r.get h2;have hl:=r.length;have hn:=lM;have fin:EP X pins σ Q w s:=⟨z,H,I,rw',q⟩
 by_cases h0:0<=i
 ·have hj:i.toNat=j:=by
   rw[seqIndex_of h0 h5] at h1;exact Option.some.inj h1
  exact item_listR pl.isList h0 (by lia) (by rw[hj];simpa using ew) fin hs
 ·have hj:(i+(its.toArray.size:Int)).toNat=j:=by
   rw[seqIndex_neg (by lia) h4] at h1;rw[QA,<-hl];exact Option.some.inj h1
  exact subscriptTail_builtinR (x:=w) pl.isList.typeIs slot_list_getitem.lookup
   (wpAny_getItem_list_neg (Q:=λr s'=>r=w/\EP X pins σ Q r s') pl.isList (by lia) (by rw[QA]<;>lia) (by lia) (by rw[hj];simpa using ew) ⟨rfl,fin⟩) hs
theorem xa:IxR X (zA X.K):=by
 intro value slice pins s σ H x y v u Q I rx ry h hs;obtain⟨p,xs,i,z,rfl,rfl,hq,he,q⟩:=h;cases rx;obtain⟨t,rfl⟩:=ry;obtain⟨its,r,pl,hz⟩:=I.tuple hq;obtain⟨j,h1,h2,h3,h4,h5⟩:=oY he;obtain⟨w,ew,rw'⟩:=r.get h2;have hl:=r.length;have hn:=lM;have fin:EP X pins σ Q w s:=⟨z,H,I,rw',q⟩
 exact subscriptTail_builtinR (x:=w) pl.typeIs slot_tuple_getitem.lookup
  (getItem_tuple (j:=j) (Q:=λr s'=>r=w/\EP X pins σ Q r s') pl (by lia) (by lia) (by rw[QA,<-hl];exact h1) (by simpa using ew) ⟨rfl,fin⟩) hs
theorem Inv.lst{pins:List (Addr×Obj)}{σ:St}{H:Hp}{s:Qd}{p:Addr}{xs:List V}(I:Inv X pins σ H s)(h:H p=some (.lst xs)) :
  ∃(its:List Qb) (n:Nat),aX xs its/\s.heap.get? p=some { cls:=.type "list",data:=.seq its.toArray n }/\xs.length<=Qt:=by
 obtain⟨z,its,n,r,e⟩:=I.hok p _ h;exact⟨its,n,r,e,z⟩
theorem lE(lo hi:Option Int)(n:Nat):(Zq lo hi none n).1=((HT.sIx n 0 lo:Nat):Int)/\(Zq lo hi none n).2.1=((HT.sIx n n hi:Nat):Int)/\(Zq lo hi none n).2.2=1:=by
 refine⟨?_,?_,rfl⟩
 ·cases lo with
  |none=>simp[Zq,HT.sIx]
  |some i=>
   simp only[Zq,HT.sIx,Option.getD_none,show(1:Int)>0 by decide,if_true]
   by_cases h:i<0
   ·simp only[h,if_true]<;>lia
   ·simp only[h,if_false]<;>lia
 ·cases hi with
  |none=>simp[Zq,HT.sIx]
  |some i=>
   simp only[Zq,HT.sIx,Option.getD_none,show(1:Int)>0 by decide,if_true]
   by_cases h:i<0
   ·simp only[h,if_true]<;>lia
   ·simp only[h,if_false]<;>lia
theorem j7(its:List Qb)(lo hi:Option Int):slicePick its.toArray lo hi none=((its.drop (HT.sIx its.length 0 lo)).take (HT.sIx its.length its.length hi-HT.sIx its.length 0 lo)).toArray:=by
 obtain⟨h1,h2,h3⟩:=lE lo hi its.toArray.size;unfold slicePick;rw[h1,h2,h3];simp only[sliceRange_one,pick_run,QA]<;>rfl
def zZ(K:Qc):V->Option Int->Option Int->Hp->VK->Prop:=λx lo hi H Q=>∃a xs,x=.ref a/\SqL K H a xs/\∀p,H p=none->Q (.ref p) (upd H p (.lst (lA xs lo hi)))
theorem uL:SlR X (zZ X.K):=by
 intro pins s σ H x v vl vu lo hi sl Q I rx hs pl pu h;obtain⟨a,xs,rfl,hx,q⟩:=h;cases rx;obtain⟨its,r,ht,hz⟩:=I.list hx;have hlen:=r.length;refine⟨"list",_,slot_list_getitem.lookup,ht.isList.typeIs,?_⟩;refine wpAny_getItem_list_slice ht.isList hs pl pu .none (by simp) ?_ (by rw[QA]<;>lia);rw[j7,<-hlen];refine⟨.ref s.heap.objs.size,_,I.laid (t':=s.toks) (o:=.lst (lA xs lo hi)) (λb ob q=>Qe _ q) (Qn _) ?_,rfl,q _ (I.hok.fresh (Qn _))⟩;exact⟨QK (i6 xs lo hi) hz,_,0,(r.drop (HT.sIx xs.length 0 lo)).take (HT.sIx xs.length xs.length hi-HT.sIx xs.length 0 lo),Qo _ rfl⟩
def eZ:V->Bool
 |.non=>true
 |.bl _=>true
 |.int _=>true
 |.str _=>true
 |_=>false
def eqV:V->V->Bool
 |.non,.non=>true
 |.bl a,.bl b=>a==b
 |.bl a,.int b=>(if a then 1 else 0)==b
 |.int a,.bl b=>a==(if b then 1 else 0)
 |.int a,.int b=>a==b
 |.str a,.str b=>a==b
 |_,_=>false
theorem nZ{A:QB}{s:Qd}{y x:V}{u v:Qb}(ry:aW y u)(rx:aW x v)(fy:eZ y=true)(fx:eZ x=true):SeqAt.EqAt A s u v (eqV y x):=by
 cases y with
 |non=>
  cases ry;cases x with
  |non=>cases rx;exact SeqAt.EqAt.same _
  |bl b=>cases rx;exact SeqAt.EqAt.none_bool b
  |int b=>obtain⟨t,rfl⟩:=rx;exact SeqAt.EqAt.none_int b t
  |str b=>obtain⟨t,rfl⟩:=rx;exact SeqAt.EqAt.none_str b t
  |_=>exact absurd (show false=true from fx) Qh
 |bl a=>
  cases ry;cases x with
  |non=>cases rx;exact SeqAt.EqAt.bool_none a
  |bl b=>cases rx;exact SeqAt.EqAt.bool_bool a b
  |int b=>obtain⟨t,rfl⟩:=rx;exact SeqAt.EqAt.bool_int a b t
  |str b=>obtain⟨t,rfl⟩:=rx;exact SeqAt.EqAt.bool_str a b t
  |_=>exact absurd (show false=true from fx) Qh
 |int a=>
  obtain⟨t',rfl⟩:=ry;cases x with
  |non=>cases rx;exact SeqAt.EqAt.int_none a t'
  |bl b=>cases rx;exact SeqAt.EqAt.int_bool a t' b
  |int b=>obtain⟨t,rfl⟩:=rx;exact SeqAt.EqAt.int_int a t' b t
  |str b=>obtain⟨t,rfl⟩:=rx;exact SeqAt.EqAt.int_str a t' b t
  |_=>exact absurd (show false=true from fx) Qh
 |str a=>
  obtain⟨t',rfl⟩:=ry;cases x with
  |non=>cases rx;exact SeqAt.EqAt.str_none a t'
  |bl b=>cases rx;exact SeqAt.EqAt.str_bool a t' b
  |int b=>obtain⟨t,rfl⟩:=rx;exact SeqAt.EqAt.str_int a t' b t
  |str b=>obtain⟨t,rfl⟩:=rx;exact SeqAt.EqAt.str_str a t' b t
  |_=>exact absurd (show false=true from fx) Qh
 |_=>exact absurd (show false=true from fy) Qh
def eqU(x:V)(u:Qb):Bool:=match u with
 |.none=>eqV .non x
 |.bool b=>eqV (.bl b) x
 |.int i _=>eqV (.int i) x
 |.str z _=>eqV (.str z) x
 |_=>false
theorem rM{x y:V}{u:Qb}(r:aW y u)(f:eZ y=true):eqU x u=eqV y x:=by
 cases y with
 |non=>cases r;rfl
 |bl b=>cases r;rfl
 |int i=>obtain⟨t,rfl⟩:=r;rfl
 |str z=>obtain⟨t,rfl⟩:=r;rfl
 |_=>exact absurd (show false=true from f) Qh
theorem g8{x:V}:∀{xs:List V} {us:List Qb},aX xs us->xs.all eZ=true->us.any (eqU x)=xs.any λy=>eqV y x
 |_,_,.nil,_=>rfl
 |y::xs,u::us,.cons r t,f=>by
  rw[Zb,J6] at f;rw[List.any_cons,List.any_cons,rM r f.1,g8 t f.2]
theorem fJ{A:QB}{s:Qd}{x:V}{v:Qb}(rx:aW x v)(fx:eZ x=true):∀{xs:List V} {us:List Qb},aX xs us->xs.all eZ=true->∀u∈us,SeqAt.EqAt A s u v (eqU x u)
 |_,_,.nil,_=>λu hu=>by cases hu
 |y::xs,u::us,.cons r t,f=>λu' hu=>by
  rw[Zb,J6] at f;rcases Ql.mp hu with rfl | hu
  ·rw[rM r f.1];exact nZ r rx f.1 fx
  ·exact fJ rx fx t f.2 u' hu
def inV(x:V)(xs:List V):Bool:=xs.any λy=>eqV y x
def rIn(K:Qc)(neg:Bool):R2:=λx y H Q=>∃p xs,y=.ref p/\(SqL K H p xs\/SqT K H p xs)/\eZ x=true/\xs.all eZ=true/\Q (.bl (if neg then !inV x xs else inV x xs)) H
theorem pV:OpR X (QE .In) (rIn X.K false):=by
 intro pins s σ H x y v u Q I rx ry h;obtain⟨p,xs,rfl,hq,fx,fs,q⟩:=h;cases ry;rcases hq with hq | hq
 ·obtain⟨its,r,pl,hz⟩:=I.list hq
  refine SeqAt.in_listAt (eqU x) pl.isList (λw hw=>fJ rx fx r fs w (by simpa using hw)) ⟨.bl _,H,I,rfl,?_⟩;rw[show its.toArray.any (eqU x)=its.any (eqU x) by simp,g8 r fs];exact q
 ·obtain⟨its,r,pl,hz⟩:=I.tuple hq
  refine SeqAt.in_tupleAt (eqU x) pl (λw hw=>fJ rx fx r fs w (by simpa using hw)) ⟨.bl _,H,I,rfl,?_⟩;rw[show its.toArray.any (eqU x)=its.any (eqU x) by simp,g8 r fs];exact q
theorem lz:OpR X (QE .NotIn) (rIn X.K true):=by
 intro pins s σ H x y v u Q I rx ry h;obtain⟨p,xs,rfl,hq,fx,fs,q⟩:=h;cases ry;rcases hq with hq | hq
 ·obtain⟨its,r,pl,hz⟩:=I.list hq
  refine SeqAt.notIn_listAt (eqU x) pl.isList (λw hw=>fJ rx fx r fs w (by simpa using hw)) ⟨.bl _,H,I,rfl,?_⟩;rw[show its.toArray.any (eqU x)=its.any (eqU x) by simp,g8 r fs];exact q
 ·obtain⟨its,r,pl,hz⟩:=I.tuple hq
  refine SeqAt.notIn_tupleAt (eqU x) pl (λw hw=>fJ rx fx r fs w (by simpa using hw)) ⟨.bl _,H,I,rfl,?_⟩;rw[show its.toArray.any (eqU x)=its.any (eqU x) by simp,g8 r fs];exact q
theorem lq:eG X (.builtin "len") (λxs H Q=>∃p ys,xs=[.ref p]/\(SqL X.K H p ys\/SqT X.K H p ys)/\Q (.int ys.length) H):=by
 intro pins s σ H xs us Q I r h;obtain⟨p,ys,rfl,hq,q⟩:=h;obtain⟨u,rfl,rx⟩:=r8 r;cases rx;have hn:=lM;rcases hq with hq | hq
 ·obtain⟨its,r',pl,hz⟩:=I.list hq
  have hlen:=r'.length;exact Calls.call_len_list pl.isList (by simp only[QA]<;>lia) ⟨.int ys.length,H,I.tok _,⟨s.toks+1,by rw[QA,hlen]⟩,q⟩
 ·obtain⟨its,r',pl,hz⟩:=I.tuple hq
  have hlen:=r'.length;exact len_tuple pl (by simp only[QA]<;>lia) ⟨.int ys.length,H,I.tok _,⟨s.toks+1,by rw[QA,hlen]⟩,q⟩
theorem eG.or{f:Qb}{r r':List V->Hp->VK->Prop}(h:eG X f r)(h':eG X f r'):eG X f (λxs H Q=>r xs H Q\/r' xs H Q):=by
 intro pins s σ H xs us Q I rs q;rcases q with q | q
 ·exact h pins s σ H xs us Q I rs q
 ·exact h' pins s σ H xs us Q I rs q
theorem lI:eG X (.type "list") (λxs H Q=>∃p ys,xs=[.ref p]/\(SqL X.K H p ys\/SqT X.K H p ys)/\∀l,H l=none->Q (.ref l) (upd H l (.lst ys))):=by
 intro pins s σ H xs us Q I r h;obtain⟨p,ys,rfl,hq,q⟩:=h;obtain⟨u,rfl,rx⟩:=r8 r;cases rx
 have fin:∀(its:List Qb),aX ys its->ys.length<=Qt->∀(h':Heap) (c':Nat),(∀b o',s.heap.get? b=some o'->h'.get? b=some o')->
   h'.get? s.heap.objs.size=some { cls:=.type "list",dict:=none,data:=.seq its.toArray c',slots:=#[] }->EP X pins σ Q (.ref s.heap.objs.size) { s with heap:=h' }:=λits r' hz h' c' kp e=>
  ⟨.ref s.heap.objs.size,_,I.laid (t':=s.toks) kp (Qn _) (show bO X.prog X.w _ h' _ (.lst ys) from⟨hz,its,c',r',e⟩),rfl,q _ (I.hok.fresh (Qn _))⟩
 rcases hq with hq | hq
 ·obtain⟨its,r',pl,hz⟩:=I.list hq
  have hlen:=r'.length;obtain⟨o,ho,hc,n,hd⟩:=pl.isList;exact call_list_seq p (.inl rfl) ho hc hd (λh' c' kp e=>fin its r' hz h' c' kp e) (by simp only[QA]<;>lia)
 ·obtain⟨its,r',pl,hz⟩:=I.tuple hq
  have hlen:=r'.length;obtain⟨o,ho,hc,n,hd⟩:=pl;exact call_list_seq p (.inr rfl) ho hc hd (λh' c' kp e=>fin its r' hz h' c' kp e) (by simp only[QA]<;>lia)
theorem jY:eG X (.type "tuple") (λxs H Q=>∃p ys,xs=[.ref p]/\((SqL X.K H p ys/\∀l,H l=none->Q (.ref l) (upd H l (.tup ys)))\/(SqT X.K H p ys/\Q (.ref p) H))):=by
 intro pins s σ H xs us Q I r h;obtain⟨p,ys,rfl,h⟩:=h;obtain⟨u,rfl,rx⟩:=r8 r;cases rx;rcases h with⟨hq,q⟩ | ⟨hq,q⟩
 ·obtain⟨its,r',pl,hz⟩:=I.list hq
  have hlen:=r'.length;refine call_tuple_list pl.isList (λh' kp=>?_) (by simp only[QA]<;>lia);have I1:Inv X pins σ H { s with heap:=h' }:=I.kept (t':=s.toks) kp
  have I2:Inv X pins σ (upd H h'.objs.size (.tup ys)) { s with heap:=h'.push { cls:=.type "tuple",data:=.seq its.toArray } }:=
   I1.laid (t':=s.toks) (λb o e=>Qe _ e) (Qn _) (show bO X.prog X.w _ _ _ (.tup ys) from⟨hz,its,r',IsTup.new _ _⟩)
  exact⟨.ref h'.objs.size,_,I2,rfl,q _ (I1.hok.fresh (Qn _))⟩
 ·obtain⟨its,r',pl,hz⟩:=I.tuple hq
  exact call_tuple_same pl ⟨.ref p,H,I,rfl,q⟩
def tyV(K:Qc)(T:String)(x:V)(H:Hp):Prop:=match x with
 |.str _=>T = "str"
 |.int _=>T = "int"
 |.ref p=>(T = "list"/\∃xs,SqL K H p xs)\/(T = "tuple"/\∃o,K.lookup p=some o/\o.cls=.type "tuple"/\o.dict=none)\/
   (T = "dict"/\((∃kvs,H p=some (.dK kvs))\/∃kvs,H p=some (.dT kvs)))\/(T = "set"/\∃S n,H p=some (.set S n))
 |_=>False
theorem wK{pins:List (Addr×Obj)}{σ:St}{H:Hp}{s:Qd}{T:String}{x:V}{v:Qb}(I:Inv X pins σ H s)(r:aW x v)(ty:tyV X.K T x H) :
  s.TypeIs v T/\∀a,v=.ref a->∃ob,s.heap.get? a=some ob/\ob.dict=none:=by
 cases x with
 |str z=>
  obtain⟨t,rfl⟩:=r;cases(show T = "str" from ty);exact⟨typeIs_str s z t,λ_ e=>nomatch e⟩
 |int i=>
  obtain⟨t,rfl⟩:=r;cases(show T = "int" from ty);exact⟨typeIs_int s i t,λ_ e=>nomatch e⟩
 |ref p=>
  cases r;rcases ty with⟨rfl,xs,hq⟩ | ⟨rfl,o,hk,hc,hd⟩ | ⟨rfl,hk⟩ | ⟨rfl,S,n,hk⟩
  ·obtain⟨its,_,pl,_⟩:=I.list hq
   refine⟨pl.isList.typeIs,λa e=>?_⟩;cases e;obtain⟨o,n,e,c,hd,_⟩:=pl;exact⟨o,e,hd⟩
  ·refine⟨⟨o,I.kIn p o hk,hc⟩,λa e=>?_⟩
   cases e;exact⟨o,I.kIn _ o hk,hd⟩
  ·have z:∃o,s.heap.get? p=some o/\o.ExactDict:=by
    rcases hk with⟨kvs,hk⟩ | ⟨kvs,hk⟩
    ·obtain⟨_,_,_,_,o,_,_,e,ex,_⟩:=I.hok p _ hk
     exact⟨o,e,ex⟩
    ·obtain⟨_,_,_,_,o,_,_,e,ex,_⟩:=I.hok p _ hk
     exact⟨o,e,ex⟩
   obtain⟨o,e,ex⟩:=z;refine⟨⟨o,e,ex.1⟩,λa e2=>?_⟩;cases e2;exact⟨o,e,ex.2.1⟩
  ·obtain⟨o,_,_,_,e,ex,_⟩:=I.hok p _ hk
   refine⟨⟨o,e,ex.1⟩,λa e2=>?_⟩;cases e2;exact⟨o,e,ex.2.1⟩
 |_=>exact Q1 ty
def tBM(K:Qc)(T:String)(r:V->List V->Hp->VK->Prop)(to:TE)(t:TA):TE:=λσ H Q=>to σ H λx H1=>tyV K T x H1/\t σ H1 λxs H2=>r x xs H2 Q
variable{o e:Expr}{es:List Expr}{to:TE}{t:TA}{name:Str}{apos cpos:Pos}{T id:String}{r:V->List V->Hp->VK->Prop}
theorem vQ(pa:PlainAttrs T)(slot:Slot T name id)(hty:typeOf (.builtin id)=pure (.type "method_descriptor"))(hm:MtR X id r)(ho:PE X o to)(ha:PA X (e::es) t)
  (hbase:JU o name X.env (eval o X.env)=eval o X.env:=by rfl)
  (hfew:((Ja cpos (Qj (e::es) X.env)).all (λx=>!x.1)&&(backToKw cpos (Zl [] X.env)).all (λx=>x.1.isSome)
   && decide ((e::es).length+([]:List Keyword).length+(if([]:List Keyword).isEmpty then 0 else 1)<30))=true:=by rfl)
  (hline:(apos.endLine==cpos.line)=true:=by rfl) (hs:Qj (e::es) X.env=(false,eval e X.env)::Qj es X.env:=by rfl) (hplain:(Ja cpos (Qj es X.env)).any (·.1)=false:=by rfl) :
  PE X (.Call (.Attribute o name apos) (e::es) [] cpos) (tBM X.K T r to t):=by
 intro pins s σ H Q I h;refine wpAny_Call_method_late hbase hfew hline rfl (thn (ho pins s σ H _ I h) λv s1 ⟨x,H1,I1,r1,ty,q1⟩=>?_);obtain⟨h1,h2⟩:=wK I1 r1 ty;refine⟨T,id,pa,slot,hty,h1,h2,?_⟩;have hA:=ha cpos pins s1 σ H1 _ I1 q1;rw[hs] at hA ⊢;refine Calls.callWith_builtin (by show(false || (Ja cpos (Qj es X.env)).any (·.1))=false;rw[hplain]<;>rfl) (Calls.evalArgs_plain ?_);exact thn hA λus s2 ⟨vs,H2,I2,r2,q2⟩=>hm pins s2 σ H2 x vs v us Q I2 r1 r2 q2
end
def MtM(X:Cx)(id:String)(r:V->List V->Hp->VK->Prop):Prop:=
 ∀(pins:List (Addr×Obj)) (s:Qd) (σ:St) (H:Hp) (x:V) (xs:List V) (v:Qb) (us:List Qb) (Q:VK),Inv X pins σ H s->aW x v->aX xs us->r x xs H Q->
  Qg (Qi X.prog X.w) X.A (call (.builtin id) (v::us)) (EP X pins σ Q) X.xe s
theorem aX.one:∀{x:V} {us:List Qb},aX [x] us->∃u,us=[u]/\aW x u:=λh=>by
 cases h with | cons r t=>cases t;exact⟨_,rfl,r⟩
theorem aX.two:∀{x y:V} {us:List Qb},aX [x,y] us->∃u v,us=[u,v]/\aW x u/\aW y v:=λh=>by
 cases h with | cons r t=>cases t with | cons q t=>cases t;exact⟨_,_,rfl,r,q⟩
theorem aX.zero:∀{us:List Qb},aX [] us->us=[]
 |_,.nil=>rfl
theorem aX.reverse{xs:List V}{us:List Qb}(h:aX xs us):aX xs.reverse us.reverse:=by
 induction h with
 |nil=>exact .nil
 |cons r t ih=>rw[List.reverse_cons,List.reverse_cons];exact aX.append ih (.cons r .nil)
section
variable{X:Cx}{pins:List (Addr×Obj)}{σ:St}{H:Hp}{s:Qd}{l b:Addr}{xs ys zs:List V}
theorem Inv.lset{its its':List Qb}{n:Nat}{f:Array Qb->Array Qb}{t':Nat}(I:Inv X pins σ H s)(hH:H l=some (.lst xs))
  (e:s.heap.get? l=some { cls:=.type "list",data:=.seq its.toArray n }) (hf:f its.toArray=its'.toArray) (hv:aX ys its') (hz:ys.length<=Qt) :
  Inv X pins σ (upd H l (.lst ys)) { s with heap:=s.heap.update l (Obj.mapSeq f),toks:=t' }:=by
 have q:=PySem.IsL.update e f;rw[hf] at q;refine I.write (x:=l) (e:=l) (by rw[hH];exact trivial) (.inl rfl) (λb' u hb hu=>(Qp s.heap (Obj.mapSeq f) (Ne.symm hb)).trans hu) ⟨_,q⟩ ?_;exact⟨hz,its',_,hv,q⟩
theorem Inv.lnew{its:List Qb}{t':Nat}(I:Inv X pins σ H s)(hv:aX ys its)(hz:ys.length<=Qt) :
  Inv X pins σ (upd H s.heap.objs.size (.lst ys)) { s with heap:=s.heap.push { cls:=.type "list",data:=.seq its.toArray },toks:=t' }:=
 I.laid (λ_ _ q=>Qe _ q) (Qn _) ⟨hz,its,0,hv,Qo _ rfl⟩
theorem Inv.fresh(I:Inv X pins σ H s):H s.heap.objs.size=none:=I.hok.fresh (Qn _)
theorem Inv.lstM(I:Inv X pins σ H s)(hH:H l=some (.lst xs)):xs.length<=Qt/\∃(its:List Qb) (n:Nat),aX xs its/\xs.length=its.length/\s.heap.get? l=some { cls:=.type "list",data:=.seq its.toArray n }:=by
 obtain⟨z,its,n,r,e⟩:=I.hok l _ hH;exact⟨z,its,n,r,r.length,e⟩
end
section
variable{X:Cx}
def uR:V->List V->Hp->VK->Prop:=λx vs H Q=>∃l xs y,x=.ref l/\vs=[y]/\H l=some (.lst xs)/\xs.length<Qt/\Q .non (upd H l (.lst (xs++[y])))
theorem ig:MtM X "list.append" uR:=by
 intro pins s σ H x vs v us Q I rx rv h;obtain⟨l,xs,y,rfl,rfl,hH,hz,q⟩:=h;cases rx;obtain⟨u,rfl,ru⟩:=rv.one;obtain⟨z,its,n,r,hl,e⟩:=I.lstM hH;refine call_meets F.slot_list_append ⟨_,e,rfl⟩ F.entry_list_append (F.args_list_append_2 _ _) (PySem.list_append l its.toArray n u (by rw[QA];lia)) ⟨e,?_⟩;refine⟨.non,_,I.lset (its':=its++[u]) hH e (by simp) (r.append (.cons ru .nil)) ?_,rfl,q⟩;rw[Qw,List.length_singleton]
 lia
end
end L2
namespace Att
open PySem PySem.W PySem.Calls PyProof.Rows
theorem i9{P:Params}{h:Heap}:∀(ns:List Int) (vs:List Qb),WellAll P h vs (ns.map WData.int)->JI vs ns:=by
 intro ns
 induction ns with
 |nil=>
  intro vs w;rw[List.map_nil] at w;cases w;exact .nil
 |cons n ns ih=>
  intro vs w;rw[QN] at w;cases w with
  |cons a b=>
   cases a;exact .cons _ _ (ih _ b)
theorem pT{l:OpenLaw}{n:Nat}(hn:l.most=some n){P:Params}{h:Heap}{args:List WData}{vals:List Qb}
  (hpre:l.row.toRowW.claim.pre args=true) (hwl:WellAll P h vals args) :
  ∃a vs ns,vals=[QF a]/\args=[WData.list (ns.map WData.int)]/\h.get? a=some { cls:=.type "list",data:=.seq vs.toArray }/\JI vs ns/\ns.length<=n:=by
 have hsh:WShape.hasAll [] args [.list .int]=true:=(pre_splitW hpre).1;have hc:l.pre.holds [] { args:=args }=true:=(pre_splitW hpre).2;obtain⟨d,r,rfl,h1,h2⟩:=hasAllW_cons hsh;obtain rfl:=hasAllW_nil h2;obtain⟨xs,rfl,h3⟩:=hasW_list h1;obtain⟨ns,rfl⟩:=items_int h3
 have hlen:ns.length<=n:=by
  unfold OpenLaw.pre at hc
  have h4:(WTm.not (.lt (.lit (.int (n:Int))) (.len (.arg 0)))).holds [] { args:=[.list (ns.map .int)] }=true:=by
   have h4:=(holds_andW hc).1;rw[hn] at h4;exact h4
  have h5:=condW_of h4 (w_not (w_lt w_lit (w_len_list (w_arg rfl))));rw[Qz] at h5;refine Nat.le_of_not_lt λq=>?_;have q':(n:Int)<((ns.length:Nat):Int):=by lia
  first
   |(rw[decide_eq_true q'] at h5;exact absurd h5 (by decide))
   |(simp at h5;lia)
 cases hwl with
 |cons w1 w2=>
  cases w2;cases w1 with
  |list ho hall=>exact⟨_,_,ns,rfl,rfl,ho,i9 ns _ hall,hlen⟩
theorem pO(l:OpenLaw)(args:List WData):l.row.toRowW.claim.post args (.bool true) args=true:=
 postW_of (r:=l.row.toRowW) (X:=(true==true))
  (show WShape.has [] (.bool true) .bool=true by first | rfl | decide | simp[WShape.has,WShape.arms,WShape.armsAll])
  (show(WTm.eq .res (.lit (.bool true))).value [] { args:=args,res:=some (.bool true),after:=args }=some (.bool (true==true)) from w_eq_bool (w_res rfl) w_lit) rfl
theorem l8{l:OpenLaw}{n:Nat}{q:Qr}{loose:List Str}{XP:(Str->Option Qb)->Heap->Prop}{YP:Qu->Heap->Prop}{d:DefRec}
  (hn:l.most=some n) (hdf:d.params.defaults=[])
  (call:∀(w:Qu) (s₀ s₁:Qd) (mg mb:Str->Option Qb) (fa:Addr) (o:Obj) (pm cd doc:Qb) (a:Addr) (vs:List Qb) (ns:List Int),
   Ground q loose [] XP w s₀ mg mb s₁.heap->YP w s₁.heap->
   s₁.heap.get? fa=some o->o.data=.func (docDef d.name d.params d.body d.scope pm cd doc)->s₁.heap.CodeRec cd d.name->mg d.name=some (.ref fa)->
   s₁.heap.get? a=some { cls:=.type "list",data:=.seq vs.toArray }->JI vs ns->ns.length<=n->s₁.gens=#[]->
   J1 (Qi l.prog w) callerA (.call (.ref fa) ⟨[.ref a],[]⟩) (λr s'=>r=.ok (.ret (.bool true))/\OldK s₁.heap s'.heap/\s'.os=s₁.os/\AllBare s'.gens) s₁) :
  WalkO q loose XP YP l.row.toRowW d [] (λf vs=>PySem.call f vs):=by
 intro w s₀ s₁ mg mb G Y fa o pm cd doc dV kV ho hd hcd hD hmg hg args vals as hpre hlay hrd hwl hlo;obtain rfl:dV=.none:=Dflts.none hD hdf;obtain rfl:kV=.none:=Dflts.noKw hD;obtain⟨a,vs,ns,rfl,rfl,hobj,hints,hlen⟩:=pT hn hpre hwl;refine enter_call (codeAny_mono (call w s₀ s₁ mg mb fa o pm cd doc a vs ns G Y ho (fd_plain hd) hcd hmg hobj hints hlen hg) λr s' hq=>?_);obtain⟨rfl,h2,h3,h4⟩:=hq;exact⟨.inl ⟨.bool true,.bool true,[],rfl,λ_=>rfl,.bool true,pO l _,λ_=>⟨List.Pairwise.nil,λ_ hm=>(nomatch hm)⟩⟩,h2,h3,h4⟩
end Att
namespace L2
open PySem PySem.Spec PyProof.Rows
theorem kq:∀{vs:List Qb} {ns:List Int},JI vs ns->aX (ns.map V.int) vs
 |_,_,.nil=>.nil
 |_,_,.cons n t h=>.cons ⟨t,rfl⟩ (kq h)
def wz(H:Hp):Prop:=∀b,H b=none\/∃o xs,H b=some (.frz o (.lst xs))
theorem qF{P:Qr}{w:Qu}{K:Qc}{mg mb:Str->Option Qb}{CX:CXT}{k:Nat}{fa a:Addr}{fd:QY}{x:Str}{sp:Sp}{s₁:Qd}{vs:List Qb}{ns:List Int}
  (KX:K.In s₁.heap) (hns:s₁.heap.Ns QD mg) (hb:s₁.heap.Ns builtinsNs mb) (hbb:∀x:Str,x≠"__name__"->mb x=JK x) (hlim:s₁.heap.NoLimit) (hg:s₁.gens=#[])
  (ha:s₁.heap.get? a=some { cls:=.type "list",data:=.seq vs.toArray }) (hi:JI vs ns) (hl:ns.length<=Qt) (hr:Room k callerA)
  (F:∀base:Heap,K.In base->base.Ns QD mg->FnOk P w K mg base CX k fa fd [x] sp) (hbind:∀(s:Qd) (u:Qb),BindsTo s fd ⟨[u],[]⟩ [(x,u)])
  (hsp:∀H:Hp,wz H->SqL K H a (ns.map V.int)->sp [.ref a] H (λv _=>v=.bl true) λ_ _ _=>False)
  (hCX:∀H e s',CX [] H s₁ (λ_ _ _=>False) e s'->False) :
  J1 (Qi P w) callerA (.call (.ref fa) ⟨[.ref a],[]⟩) (λr s'=>r=.ok (.ret (.bool true))/\OldK s₁.heap s'.heap/\s'.os=s₁.os/\AllBare s'.gens) s₁:=by
 have rv:=kq hi;have lenV:=hi.length
 have core:∀H:Hp,wz H->SqL K H a (ns.map V.int)->HOk P w H s₁.heap->(∀b,H b≠none->b=a)->(H a≠none->K.lookup a=none)->
   J1 (Qi P w) callerA (.call (.ref fa) ⟨[.ref a],[]⟩) (λr s'=>r=.ok (.ret (.bool true))/\OldK s₁.heap s'.heap/\s'.os=s₁.os/\AllBare s'.gens) s₁:=by
  intro H hO hS hok hA hK;have base_of:∀{b:Addr} {o:Obj},s₁.heap.get? b=some o->H b=none->(k6 s₁.heap H).get? b=some o:=λe n=>sf e n
  have noA:∀{b:Addr} {o:Obj} {es:Array DictEntry} {ep:Nat},s₁.heap.get? b=some o->o.data=.dict es ep->H b=none:=λ{b o es ep} e d=>by
   cases q:H b with
   |none=>rfl
   |some u=>
    have e':b=a:=hA b (by rw[q];simp);subst e';rw[ha] at e;cases e;have d':Data.seq vs.toArray _=Data.dict es ep:=d;cases d'
  have nsK:∀{b:Addr} {m:Str->Option Qb},s₁.heap.Ns b m->(k6 s₁.heap H).Ns b m:=λ{b m} ⟨o,es,ep,e,d,r⟩=>⟨o,es,ep,base_of e (noA e d),d,r⟩
  have hKb:K.In (k6 s₁.heap H):=λb o e=>base_of (KX b o e) (by
   cases q:H b with
   |none=>rfl
   |some u=>
    have e':b=a:=hA b (by rw[q];simp);subst e'
    rw[hK (by rw[q];simp)] at e;cases e)
  have hM:Mod K mg (k6 s₁.heap H):=⟨hKb,nsK hns,⟨mb,nsK hb,hbb⟩,let⟨mc,h1,h2⟩:=hlim;⟨mc,nsK h1,h2⟩⟩;have e0:Env0 P w K mg (k6 s₁.heap H) callerA [] s₁ H:=⟨rfl,hM,λb o e=>vk e,Nat.le_of_eq (qm _ _),trivial,λb hb=>absurd (show b∈([]:List Addr) from hb) (by simp),hok,.of_eq hg⟩;refine codeAny_mono ((F _ hKb (nsK hns)).run callerA [] s₁ H ⟨[.ref a],[]⟩ [.ref a] [.ref a] _ _ hr e0 (hbind s₁ (.ref a)) (.cons rfl .nil) (hsp H hO hS)) λr s' h=>?_;cases r with
  |error e=>exact(hCX H e s' h).elim
  |ok fl=>
   cases fl with
   |next=>exact Q1 h
   |brk=>exact Q1 h
   |cont=>exact Q1 h
   |ret u=>
    obtain⟨v,H',os,bare,un,hok',r',q⟩:=h;have q':v=.bl true:=q;subst q';obtain rfl:u=Zd true:=r';refine⟨rfl,OldK.of_keep λb o e=>?_,os,bare⟩;cases q:H b with
    |none=>exact un.keep b o e q (by intro z;exact absurd (show b∈([]:List Addr) from z) (by simp)) (by simp)
    |some u=>
     rcases hO b with z | ⟨ob,xs,z⟩
     ·rw[q] at z;cases z
     ·have z2:=un.frzs b ob _ z
      obtain⟨e1,_⟩:=hok b _ z;obtain⟨e2,_⟩:=hok' b _ z2;rw[e] at e1;cases e1;exact e2
 cases hk:K.lookup a with
 |some o=>
  have e:=KX a o hk;rw[ha] at e;cases e;refine core (λ_=>none) (λ_=>.inl rfl) (.inr ⟨_,vs.toArray,_,hk,rfl,rfl,rfl,by rw[QA,lenV];exact hl,by simpa using rv⟩) (λb u z=>by have z':(none:Option HO)=some u:=z;cases z') (λb z=>absurd rfl z) λz=>absurd rfl z
 |none=>
  refine core (λb=>if b=a then some (.frz { cls:=.type "list",data:=.seq vs.toArray } (.lst (ns.map V.int))) else none) (λb=>?_) (.inl (.inr ⟨{ cls:=.type "list",data:=.seq vs.toArray },if_pos rfl⟩)) (λb u z=>?_) (λb z=>?_) λ_=>hk
  ·by_cases hb:b=a
   ·exact .inr ⟨_,_,if_pos hb⟩
   ·exact .inl (if_neg hb)
  ·by_cases hb:b=a
   ·have z':=(if_pos hb).symm.trans z
    cases z';subst hb;exact⟨ha,by rw[Qz];exact hl,vs,_,rv,ha⟩
   ·have z':=(if_neg hb).symm.trans z
    cases z'
  ·by_cases hb:b=a
   ·exact hb
   ·exact absurd (if_neg hb) z
theorem uJ{l:PySem.W.OpenLaw}{n k:Nat}{q:Qr}{loose:List Str}{XP:(Str->Option Qb)->Heap->Prop}{YP:Qu->Heap->Prop}{d:DefRec}{K:Params->Qc}{CX:Qu->CXT}{sp:Qu->Sp}{x:Str}
  (hn:l.most=some n) (hn2:n<=Qt) (hdf:d.params.defaults=[]) (hr:Room k callerA)
  (hY:∀(w:Qu) (h:Heap),YP w h->(K w.params).In h)
  (F:∀(w:Qu) (mg:Str->Option Qb) (fa:Addr) (h:Heap),(K w.params).In h->h.Ns QD mg->mg d.name=some (.ref fa)->
   ∃fd:QY,(∀(s:Qd) (u:Qb),BindsTo s fd ⟨[u],[]⟩ [(x,u)])/\
    ∀base:Heap,(K w.params).In base->base.Ns QD mg->FnOk l.prog w (K w.params) mg base (CX w) k fa fd [x] (sp w))
  (hsp:∀(w:Qu) (H:Hp) (a:Addr) (ns:List Int),ns.length<=n->wz H->SqL (K w.params) H a (ns.map V.int)->sp w [.ref a] H (λv _=>v=.bl true) λ_ _ _=>False)
  (hCX:∀(w:Qu) (H:Hp) (s:Qd) (e:Qb) (s':Qd),CX w [] H s (λ_ _ _=>False) e s'->False) :
  PySem.W.WalkO q loose XP YP l.row.toRowW d [] (λf vs=>PySem.call f vs):=by
 refine Att.l8 hn hdf λw s₀ s₁ mg mb fa o pm cd doc a vs ns G Y ho hd hcd hmg hobj hints hlen hg=>?_;have KX:=hY w _ Y;obtain⟨fd,hb,hF⟩:=F w mg fa _ KX G.T.g hmg;exact qF KX G.T.g G.T.b G.T.builtins G.T.nolimit hg hobj hints (QK hlen hn2) hr hF hb (λH hO hS=>hsp w H a ns hlen hO hS) λH e s'=>hCX w H s₁ e s'
def cA(s:Stmt):Arguments:=match s with
 |.FunctionDef _ a _ _ _ _ _ _ _ _=>a
 |_=>{ posonlyargs:=[],args:=[],vararg:=none,kwonlyargs:=[],kw_defaults:=[],kwarg:=none,defaults:=[] }
def bA(s:Stmt):List Stmt:=match s with
 |.FunctionDef _ _ b _ _ _ _ _ _ _=>b
 |_=>[]
def aI(s:Stmt):Scope:=match s with
 |.FunctionDef _ _ _ _ _ _ sc _ _ _=>sc
 |_=>{ kind:=.function,names:=[],isGenerator:=false,isCoroutine:=false }
abbrev CX0:CXT:=λ_ _ _ _ _ _=>False
abbrev E0:XK:=λ_ _ _=>False
theorem vL{X:Cx}:lL CX0 X E0:=λ_ _ _ _ _ _ _ h=>h.elim
structure Fun(K:Qc)(x qual:Str)(st:Stmt)(f:Addr)(fd:QY):Prop where
 ex:∃(oc:Qb) (od:Option Addr) (kV doc pm:Qb) (an:Option Addr) (cdv ct:Qb) (osl:Array (Option Qb)),
  fd=Jd x qual (cA st) (bA st) (aI st) .none kV doc pm an cdv ct/\K.lookup f=some ⟨oc,od,.func fd,osl⟩/\Zn K cdv qual=true
 kp:Jx K (.ref f)=true
section
variable{P:Qr}{w:Qu}{K:Qc}{mg:Str->Option Qb}{base:Heap}
theorem Fun.ok{x qual:Str}{st:Stmt}{f:Addr}{fd:QY}{N ps:List Str}{k:Nat}{sp:Sp}(F:Fun K x qual st f fd)(S:FnScope N ps (aI st))(len:∀vs H Q E,sp vs H Q E->vs.length=ps.length)
  (hbody:∀(cdv:Qb) (A:QB) (outer:List Env) (s:Qd) (H:Hp) (vs:List V) (Q:VK) (E:XK),Room k (A.deeper (envOfC qual (aI st) s.heap.objs.size f cdv))->sp vs H Q E->
   ∃t,PSs (gv CX0 P w K mg base N qual (aI st) f cdv A outer s H E).nox (bA st) t/\t { nx:=λ_ H'=>Q .non H',rt:=Q } (start N vs) H):FnOk P w K mg base CX0 (k+1) f fd ps sp:=by
 obtain⟨oc,od,kV,doc,pm,an,cdv,ct,osl,rfl,lk,hcd⟩:=F.ex;refine vH lk hcd S len λA outer s H vs Q E hr hsp=>?_;obtain⟨t,h,q⟩:=hbody cdv A outer s H vs Q E hr hsp;exact⟨t,h.nox,q⟩
theorem Fun.binds{x qual:Str}{st:Stmt}{f:Addr}{fd:QY}{ps:List Str}(F:Fun K x qual st f fd)
  (h:∀(kV doc pm:Qb) (an:Option Addr) (cdv ct:Qb) (us:List Qb),us.length=ps.length->bindArgs (Jd x qual (cA st) (bA st) (aI st) .none kV doc pm an cdv ct) ⟨us,[]⟩=pure (ps.zip us)):gP K fd ps []:=by
 obtain⟨oc,od,kV,doc,pm,an,cdv,ct,osl,rfl,lk,hcd⟩:=F.ex;exact .all (h kV doc pm an cdv ct)
theorem nM{x qual:Str}{st:Stmt}{f:Addr}{oc:Qb}{od an:Option Addr}{osl:Array (Option Qb)}{kV doc pm cdv ct:Qb}(l:K.lookup f=some ⟨oc,od,.func (Jd x qual (cA st) (bA st) (aI st) .none kV doc pm an cdv ct),osl⟩)
  (c:Zn K cdv qual=true) (k:Jx K (.ref f)=true):Fun K x qual st f (Jd x qual (cA st) (bA st) (aI st) .none kV doc pm an cdv ct):=⟨⟨oc,od,kV,doc,pm,an,cdv,ct,osl,rfl,l,c⟩,k⟩
end
theorem qv{n:Nat}(h:n<=1000):n<Qt:=Nat.lt_of_le_of_lt h (by decide)
def aO(H H':Hp):Prop:=∀b o,H b=some o->H' b=some o
theorem aO.refl(H:Hp):aO H H:=λ_ _ h=>h
theorem aO.trans{H H1 H2:Hp}(a:aO H H1)(b:aO H1 H2):aO H H2:=λc o h=>b c o (a c o h)
theorem aO.free{H H':Hp}(e:aO H H'){l:Addr}(h:H' l=Option.none):H l=Option.none:=by
 cases q:H l with
 |none=>rfl
 |some o=>
  rw[e l o q] at h;cases h
theorem aO.seq{K:Qc}{H H':Hp}{a:Addr}{xs:List V}(e:aO H H')(h:SqL K H a xs):SqL K H' a xs:=by
 rcases h with(h | ⟨o,h⟩) | h
 ·exact .inl (.inl (e _ _ h))
 ·exact .inl (.inr ⟨o,e _ _ h⟩)
 ·exact .inr h
end L2
namespace Ex
open PySem PySem.Spec PyProof.Rows L2
structure Moves(fs:List Addr)(n:Nat)(H:Hp)(h h':Heap):Prop where
 keep:∀b o,h.get? b=some o->b∉fs->(b<n\/H b≠none)->h'.get? b=some o
 slot:∀b o,h.get? b=some o->b∈fs->∃sl,h'.get? b=some { o with slots:=sl }
 there:∀b o,h.get? b=some o->∃o',h'.get? b=some o'
theorem Moves.trans{fs:List Addr}{n:Nat}{H:Hp}{h1 h2 h3:Heap}(x:Moves fs n H h1 h2)(y:Moves fs n H h2 h3):Moves fs n H h1 h3 where
 keep:=λb o e z q=>y.keep b o (x.keep b o e z q) z q
 slot:=λb o e z=>let⟨_,e1⟩:=x.slot b o e z;let⟨sl,e2⟩:=y.slot b _ e1 z;⟨sl,e2⟩
 there:=λb o e=>let⟨o1,e1⟩:=x.there b o e;y.there b o1 e1
theorem Moves.un{fs:List Addr}{n:Nat}{H H':Hp}{h0 h h':Heap}(u:Un fs [] H H' h0 h)(m:Moves fs n H' h h')(hn:h0.objs.size<=n):Un fs [] H H' h0 h' where
 keep:=λb o e q z y=>m.keep b o (u.keep b o e q z y) z (.inl (Qv (Qk e) hn))
 slot:=λb o e q z y=>let⟨_,e1⟩:=u.slot b o e q z y;let⟨sl,e2⟩:=m.slot b _ e1 z;⟨sl,e2⟩
 free:=u.free
 there:=λb o e y=>let⟨o1,e1⟩:=u.there b o e y;m.there b o1 e1
 tups:=u.tups
 frzs:=u.frzs
 tbls:=u.tbls
theorem Moves.hok{P:Qr}{w:Qu}{fs:List Addr}{n:Nat}{H:Hp}{h h':Heap}(m:Moves fs n H h h')(hf:∀b∈fs,H b=none)(k:HOk P w H h):HOk P w H h':=λb o e=>by
 refine(k b o e).stay (λc v hc q=>?_) (λ_ q=>q) λ_ _ q=>q
 have tr:H c≠none:=by
  rcases hc with z | z
  ·rw[z,e];exact λx=>by cases x
  ·rw[z];exact λx=>by cases x
 exact m.keep c v q (λz=>tr (hf c z)) (.inr tr)
structure XT(n:Nat)(H:Hp)(h:Heap)(a:Addr)(cls:Qb)(dx:Addr)(fl:Qb):Prop where
 ge:n<=a
 un:H a=none
 ob:∃oe vs T oT ts,h.get? a=some oe/\oe.cls=cls/\oe.dict=some dx/\oe.data=.fields vs/\vs[1]?=some (.ref T)/\n<=T/\T≠a/\H T=none/\h.get? T=some oT/\oT.data=.fields ts/\ts[3]?=some fl
structure XN(n:Nat)(H:Hp)(h:Heap)(a:Addr)(cls:Qb)(dx:Addr):Prop where
 ge:n<=a
 un:H a=none
 ob:∃oe vs,h.get? a=some oe/\oe.cls=cls/\oe.dict=some dx/\oe.data=.fields vs/\vs[1]?=some .none
def XAt(n:Nat)(H:Hp)(h:Heap)(a:Addr)(cls:Qb)(dx:Addr):Prop:=XN n H h a cls dx\/XT n H h a cls dx .none
theorem XT.le{n n':Nat}{H:Hp}{h:Heap}{a dx:Addr}{cls fl:Qb}(x:XT n H h a cls dx fl)(l:n'<=n):XT n' H h a cls dx fl:=by
 obtain⟨g,u,oe,vs,T,oT,ts,e1,e2,e3,e4,e5,e6,e7⟩:=x;exact⟨QK l g,u,oe,vs,T,oT,ts,e1,e2,e3,e4,e5,QK l e6,e7⟩
theorem XAt.le{n n':Nat}{H:Hp}{h:Heap}{a dx:Addr}{cls:Qb}(x:XAt n H h a cls dx)(l:n'<=n):XAt n' H h a cls dx:=
 x.elim (λx=>.inl ⟨QK l x.ge,x.un,x.ob⟩) λx=>.inr (x.le l)
section
variable{M:Model}{A:QB}{E:Qb->Qd->Prop}{s:Qd}{base:Heap}{env:Env}{outer:List Env}{L a dx:Addr}{cls:Qb}{n:Nat}{H:Hp}
theorem me{fs:List Addr}{h h':Heap}(x:Heap.SlotsOnly fs h h'):Moves fs n H h h':=
 ⟨λb o e z _=>(x.2.1 b z).trans e,λb o e _=>x.2.2 b o e,λb o e=>let⟨_,q⟩:=x.2.2 b o e;⟨_,q⟩⟩
theorem iy{fs:List Addr}{h:Heap}{b:Addr}{f:Obj->Obj}(hb:n<=b)(hu:H b=none)(hfs:b∉fs)(hat:∃o,(h.update b f).get? b=some o):Moves fs n H h (h.update b f) where
 keep:=λc o e _ q=>by
  have ne:b≠c:=λz=>by
   subst z;rcases q with q | q
   ·exact absurd q (Nat.not_lt.mpr hb)
   ·exact q hu
  rw[Qp _ _ ne];exact e
 slot:=λc o e z=>⟨o.slots,by rw[Qp _ _ (λq:b=c=>hfs (q▸z))];exact e⟩
 there:=λc o e=>by
  by_cases q:b=c
  ·subst q;exact hat
  ·exact⟨o,by rw[Qp _ _ q];exact e⟩
theorem nX{fs:List Addr}{h:Heap}(o:Obj):Moves fs n H h (h.push o):=
 ⟨λ_ _ e _ _=>Qe _ e,λb u e _=>⟨u.slots,Qe _ e⟩,λb u e=>⟨u,Qe _ e⟩⟩
theorem jo{l:List Env}(hl:s.heap.FunFrames base l){b:Addr}{o:Obj}{vs:Array Qb}(e:s.heap.get? b=some o)(d:o.data=.fields vs):b∉frs l:=λhm=>by
 obtain⟨_,u,hu,hn⟩:=hl.mem hm;rw[e] at hu;cases hu;exact hn vs d
theorem kW{fs:List Addr}{h h':Heap}(m:Moves fs n H h h'):∀(l:List Env),(∀b∈frs l,b∈fs)->h.FunFrames base l->h'.FunFrames base l:=by
 intro l
 induction l with
 |nil=>exact λ_ _=>trivial
 |cons v r ih=>
  intro hs hl;obtain⟨hk,⟨L,o,hf,hn,ho,hd⟩,hr⟩:=hl
  have sub:∀b,b=L\/b∈frs r->b∈frs (v::r):=λb z=>by
   show b∈List.filterMap _ _;rw[Zr,hf];exact Ql.mpr z
  obtain⟨sl,e⟩:=m.slot L o ho (hs L (sub L (.inl rfl)));exact⟨hk,⟨L,_,hf,hn,e,hd⟩,ih (λb z=>hs b (sub b (.inr z))) hr⟩
theorem md{o:Obj}{f:Array Qb->Array Qb}:(Zc f o).dict=o.dict:=by
 obtain⟨c,d,dt,sl⟩:=o;cases dt<;>rfl
theorem iA{l:List Env}{fl:Qb}{Q:Unit->Qd->Prop}(hl:s.heap.FunFrames base l)(x:XT n H s.heap a cls dx fl)
  (hq:∀h',Moves (frs l) n H s.heap h'->XT n H h' a cls dx .none->Q () { s with heap:=h' }):Qg M A (setFlight (.ref a) none) Q E s:=by
 obtain⟨g,u,oe,vs,T,oT,ts,ea,ec,ed,edat,e1,gT,ne,uT,eT,edT,e3⟩:=x;have i3:3<ts.size:=(JV.mp e3).1;unfold setFlight;refine Qa (QM ea edat e1 ?_);rw[if_pos (by simp:(QF T != QT)=true)];have self:=QV (Zc (·.setIfInBounds 3 QT)) eT (JQ (Jb edT _));refine J2 eT edT i3 (hq _ (iy gT uT (jo hl eT edT) ⟨_,self⟩) ⟨g,u,oe,vs,T,_,_,?_,ec,ed,edat,e1,gT,ne,uT,self,Jb edT _,?_⟩)
 ·rw[Qp _ _ ne];exact ea
 ·simp[i3]
theorem mH{head:Qb}{had:Bool}{oe:Obj}{vs:Array Qb}{Q:Unit->Qd->Prop}(hfr:A.frames=some (env::outer))(hl:s.heap.FunFrames base (env::outer))(hf:env.frame=some L)
  (hH:∀b,s.heap.objs.size<=b->H b=none) (g:n<=a) (u:H a=none) (ea:s.heap.get? a=some oe) (edat:oe.data=.fields vs) (i1:1<vs.size)
  (hq:∀h',Moves (frs (env::outer)) n H s.heap h'->XT n H h' a oe.cls (oe.dict.getD 0) (J5 L)->(∃o,h'.get? a=some o/\o.dict=oe.dict)->Q () { s with heap:=h' }) (hdx:∃d,oe.dict=some d) :
  Qg M A (do let fo<-frameOf env;let pl<-entryPlaceOf L had;let b<-EntryCells.newEntry head fo .none (J5 L) .none pl;setField (.ref a) 1 b) Q E s:=by
 refine Qa (wpAny_frameOf_fun hfr hl hf λh1 hs=>Qa (wpAny_entryPlaceOf λpl hpl=>?_));unfold EntryCells.newEntry;unfold newFields;refine Qa (QS (?_) (hpl.sizeOk5 _ _ _ _ _));have naf:a∉frs (env::outer):=jo hl ea edat;have a1:h1.get? a=some oe:=(hs.2.1 a naf).trans ea;generalize hts:([head,QF L,QT,J5 L,QT]++(if pl.isEmpty then List.replicate 6 QT else pl)).toArray=ts;have t3:ts[3]?=some (J5 L):=by rw[<-hts];simp
 have a2:(h1.push { cls:=.type "traceback",dict:=none,data:=.fields ts }).get? a=some oe:=Qe _ a1;have neT:a≠h1.objs.size:=QC (Qk a1);have selfA:=QV (Zc (·.setIfInBounds 1 (QF h1.objs.size))) a2 (JQ (Jb edat _));have sz:h1.objs.size=s.heap.objs.size:=hs.1;refine J2 a2 edat i1 (hq _ ((me hs).trans ((nX _).trans (iy g u naf ⟨_,selfA⟩))) ?_ ⟨_,selfA,?_⟩)
 ·refine⟨g,u,_,_,h1.objs.size,_,ts,selfA,?_,?_,Jb edat _,by simp[i1],?_,Ne.symm neT,hH _ (Nat.le_of_eq sz.symm),(Qp _ _ neT).trans (Qo _ rfl),rfl,t3⟩
  ·exact Obj.cls_mapFields _ _
  ·obtain⟨d,hd⟩:=hdx
   rw[md,hd];rfl
  ·exact QK g (Nat.le_of_lt (Qk a1))
 ·exact md
theorem oV{Q:Unit->Qd->Prop}(hfr:A.frames=some (env::outer))(hl:s.heap.FunFrames base (env::outer))(hf:env.frame=some L)(hH:∀b,s.heap.objs.size<=b->H b=none)(x:XAt n H s.heap a cls dx)
  (hq:∀h',Moves (frs (env::outer)) n H s.heap h'->XT n H h' a cls dx (J5 L)->Q () { s with heap:=h' }):Qg M A (noteFrame (.ref a) env) Q E s:=by
 unfold noteFrame;simp only[hf];rcases x with⟨g,u,oe,vs,ea,ec,ed,edat,e1⟩ | ⟨g,u,oe,vs,T,oT,ts,ea,ec,ed,edat,e1,gT,ne,uT,eT,edT,e3⟩
 ·refine Qa (QM ea edat e1 ?_)
  rw[if_neg (by decide)];refine mH (n:=n) (H:=H) hfr hl hf hH g u ea edat (JV.mp e1).1 (λh' m x _=>hq h' m ?_) ⟨_,ed⟩;rw[ec,ed] at x;exact x
 ·have i3:3<ts.size:=(JV.mp e3).1
  refine Qa (QM ea edat e1 ?_);rw[if_pos (by simp:(QF T != QT)=true)];refine Qa (QM eT edT e3 ?_);rw[if_neg (by simp[J5]:¬ (QT==J5 L)=true)];have self:=QV (Zc (·.setIfInBounds 3 QT)) eT (JQ (Jb edT _));have mv:Moves (frs (env::outer)) n H s.heap (s.heap.update T (Zc (·.setIfInBounds 3 QT))):=iy gT uT (jo hl eT edT) ⟨_,self⟩;refine Qa (J2 eT edT i3 ?_);have ea':=(Qp s.heap (Zc (·.setIfInBounds 3 QT)) ne).trans ea;refine mH (n:=n) (H:=H) (base:=base) (s:={ s with heap:=s.heap.update T (Zc (·.setIfInBounds 3 QT)) }) hfr ?_ hf (λb hb=>hH b ?_) g u ea' edat (JV.mp e1).1 (λh' m x _=>hq h' (mv.trans m) ?_) ⟨_,ed⟩
  ·refine hl.of_keeps λb o e nf=>⟨o,?_,rfl⟩
   rw[Qp _ _ (λz:T=b=>nf ts (by subst z;rw[eT] at e;cases e;exact edT))];exact e
  ·have:=hb
   rw[Heap.size_after_update] at this;exact this
  ·rw[ec,ed] at x
   exact x
theorem rn{Q:Unit->Qd->Prop}(hfr:A.frames=some (env::outer))(hl:s.heap.FunFrames base (env::outer))(hf:env.frame=some L)(hH:∀b,s.heap.objs.size<=b->H b=none)(x:XAt n H s.heap a cls dx)
  (hq:∀h',Moves (frs (env::outer)) n H s.heap h'->XAt n H h' a cls dx->Q () { s with heap:=h' }):Qg M A (leaving env (.ref a)) Q E s:=by
 unfold leaving;refine Qa (oV hfr hl hf hH x λh' m y=>?_);refine iA (base:=base) (l:=env::outer) ?_ y λh2 m2 y2=>hq h2 (m.trans m2) (.inr y2);exact kW m _ (λ_ z=>z) hl
end
end Ex
namespace Dn
open PySem PySem.Spec PyProof.Rows L2
inductive D where
 |non | bl (b:Bool) | int (i:Int) | str (x:Str) | tup (xs:List D) | lst (xs:List D) | dic (es:List (List Int×D))
 deriving Inhabited
def yP(ns:List Int):Int:=reduceHash (Builtin.Tuple.tupleHashOf (ns.map hashInt))
abbrev dY:=List (List Int×Addr×V)
structure EntOk(p:List Int×Addr×V)(e:DictEntry):Prop where
 hash:e.hash=yP p.1
 key:e.key=.ref p.2.1
 val:aW p.2.2 e.val
def DAt(a:Addr)(us:dY)(ep:Nat):Heap->Prop:=λh=>(a==JY)=false/\us.length<=1000000/\∃o raw,h.get? a=some o/\o.ExactDict/\o.data=.dict raw ep/\Paired EntOk us raw.toList
theorem DAt.at{a:Addr}{us:dY}{ep:Nat}{h h':Heap}(x:DAt a us ep h)(k:∀o,h.get? a=some o->h'.get? a=some o):DAt a us ep h':=let⟨n,z,o,raw,e,r⟩:=x;⟨n,z,o,raw,k o e,r⟩
def RdI(K:Qc)(G:Hp)(a:Addr)(xs:List V):Prop:=G a=some (.lst xs)\/∃ns:List Int,xs=ns.map V.int/\SqL K G a xs
theorem RdI.sq{K:Qc}{G:Hp}{a:Addr}{xs:List V}(h:RdI K G a xs):SqL K G a xs:=h.elim (λh=>SqL.of h) λ⟨_,_,h⟩=>h
theorem RdI.mono{K:Qc}{G G':Hp}{a:Addr}{xs:List V}(e:aO G G')(h:RdI K G a xs):RdI K G' a xs:=h.elim (λh=>.inl (e _ _ h)) λ⟨n,z,h⟩=>.inr ⟨n,z,e.seq h⟩
mutual
inductive Den(K:Qc)(G:Hp):V->D->Prop where
 |non:Den K G .non .non
 |bl (b:Bool):Den K G (.bl b) (.bl b)
 |int (i:Int):Den K G (.int i) (.int i)
 |str (x:Str):Den K G (.str x) (.str x)
 |tup {a:Addr} {xs:List V} {ds:List D} (h:SqT K G a xs) (hs:DenL K G xs ds):Den K G (.ref a) (.tup ds)
 |lst {a:Addr} {xs:List V} {ds:List D} (h:RdI K G a xs) (hs:DenL K G xs ds):Den K G (.ref a) (.lst ds)
 |dic {a:Addr} {us:dY} {ep:Nat} {es:List (List Int×D)} (h:G a=some (.ext (DAt a us ep))) (nd:(us.map (·.1)).Nodup) (hs:DenM K G us es):Den K G (.ref a) (.dic es)
inductive DenM(K:Qc)(G:Hp):dY->List (List Int×D)->Prop where
 |nil:DenM K G [] []
 |cons {k:List Int} {b:Addr} {v:V} {d:D} {us:dY} {es:List (List Int×D)} (hk:SqT K G b (k.map V.int)) (hv:Den K G v d) (hs:DenM K G us es):DenM K G ((k,b,v)::us) ((k,d)::es)
inductive DenL(K:Qc)(G:Hp):List V->List D->Prop where
 |nil:DenL K G [] []
 |cons {x:V} {d:D} {xs:List V} {ds:List D} (h:Den K G x d) (hs:DenL K G xs ds):DenL K G (x::xs) (d::ds)
end
theorem aR{K:Qc}{H H':Hp}{a:Addr}{xs:List V}(e:aO H H')(h:SqT K H a xs):SqT K H' a xs:=by
 rcases h with(h | ⟨o,h⟩) | h
 ·exact .inl (.inl (e _ _ h))
 ·exact .inl (.inr ⟨o,e _ _ h⟩)
 ·exact .inr h
theorem Den.mono{K:Qc}{G G':Hp}(e:aO G G'){v:V}{d:D}(h:Den K G v d):Den K G' v d:=
 Den.rec (motive_1:=λv d _=>Den K G' v d) (motive_2:=λu e _=>DenM K G' u e) (motive_3:=λv d _=>DenL K G' v d) .non .bl .int .str (λh _ y=>.tup (aR e h) y) (λh _ y=>.lst (h.mono e) y) (λh n _ y=>.dic (e _ _ h) n y) .nil (λk _ _ y z=>.cons (aR e k) y z) .nil (λ_ _ y z=>.cons y z) h
theorem DenM.mono{K:Qc}{G G':Hp}(e:aO G G'){us:dY}{es:List (List Int×D)}(h:DenM K G us es):DenM K G' us es:=
 DenM.rec (motive_1:=λv d _=>Den K G' v d) (motive_2:=λu e _=>DenM K G' u e) (motive_3:=λv d _=>DenL K G' v d) .non .bl .int .str (λh _ y=>.tup (aR e h) y) (λh _ y=>.lst (h.mono e) y) (λh n _ y=>.dic (e _ _ h) n y) .nil (λk _ _ y z=>.cons (aR e k) y z) .nil (λ_ _ y z=>.cons y z) h
theorem DenL.mono{K:Qc}{G G':Hp}(e:aO G G'){v:List V}{d:List D}(h:DenL K G v d):DenL K G' v d:=
 DenL.rec (motive_1:=λv d _=>Den K G' v d) (motive_2:=λu e _=>DenM K G' u e) (motive_3:=λv d _=>DenL K G' v d) .non .bl .int .str (λh _ y=>.tup (aR e h) y) (λh _ y=>.lst (h.mono e) y) (λh n _ y=>.dic (e _ _ h) n y) .nil (λk _ _ y z=>.cons (aR e k) y z) .nil (λ_ _ y z=>.cons y z) h
section
variable{K:Qc}{G:Hp}
theorem DenL.ind{P:List V->List D->Prop}(n:P [] [])(c:∀{x:V} {d:D} {xs:List V} {ds:List D},Den K G x d->DenL K G xs ds->P xs ds->P (x::xs) (d::ds)){xs:List V}{ds:List D}(h:DenL K G xs ds):P xs ds:=
 DenL.rec (motive_1:=λ_ _ _=>True) (motive_2:=λ_ _ _=>True) (motive_3:=λxs ds _=>P xs ds) trivial (λ_=>trivial) (λ_=>trivial) (λ_=>trivial) (λ_ _ _=>trivial) (λ_ _ _=>trivial) (λ_ _ _ _=>trivial) trivial (λ_ _ _ _ _=>trivial) n (λh hs _ y=>c h hs y) h
theorem DenM.ind{P:dY->List (List Int×D)->Prop}(n:P [] [])(c:∀{k:List Int} {b:Addr} {v:V} {d:D} {us:dY} {es:List (List Int×D)},SqT K G b (k.map V.int)->Den K G v d->DenM K G us es->P us es->P ((k,b,v)::us) ((k,d)::es)){us:dY}{es:List (List Int×D)}(h:DenM K G us es):P us es:=
 DenM.rec (motive_1:=λ_ _ _=>True) (motive_2:=λus es _=>P us es) (motive_3:=λ_ _ _=>True) trivial (λ_=>trivial) (λ_=>trivial) (λ_=>trivial) (λ_ _ _=>trivial) (λ_ _ _=>trivial) (λ_ _ _ _=>trivial) n (λk v hs _ y=>c k v hs y) trivial (λ_ _ _ _=>trivial) h
theorem DenL.length{xs:List V}{ds:List D}(h:DenL K G xs ds):xs.length=ds.length:=
 DenL.ind (P:=λxs ds=>xs.length=ds.length) rfl (λ_ _ y=>congrArg (· + 1) y) h
theorem DenL.get{xs:List V}{ds:List D}{i:Nat}{d:D}(h:DenL K G xs ds):ds[i]?=some d->∃x,xs[i]?=some x/\Den K G x d:=by
 revert i
 refine DenL.ind (P:=λxs ds=>∀{i:Nat},ds[i]?=some d->∃x,xs[i]?=some x/\Den K G x d) (λ{i} e=>nomatch e) (λ{x d' xs ds} h _ y {i} e=>?_) h;cases i with
 |zero=>cases e;exact⟨_,rfl,h⟩
 |succ i=>exact y (i:=i) e
theorem DenL.getV{xs:List V}{ds:List D}{i:Nat}{x:V}(h:DenL K G xs ds):xs[i]?=some x->∃d,ds[i]?=some d/\Den K G x d:=by
 revert i
 refine DenL.ind (P:=λxs ds=>∀{i:Nat},xs[i]?=some x->∃d,ds[i]?=some d/\Den K G x d) (λ{i} e=>nomatch e) (λ{x' d' xs ds} h _ y {i} e=>?_) h;cases i with
 |zero=>cases e;exact⟨_,rfl,h⟩
 |succ i=>exact y (i:=i) e
theorem DenL.append{xs ys:List V}{ds es:List D}(h:DenL K G xs ds)(s:DenL K G ys es):DenL K G (xs++ys) (ds++es):=
 DenL.ind (P:=λxs ds=>DenL K G (xs++ys) (ds++es)) s (λh _ y=>.cons h y) h
theorem DenL.take{xs:List V}{ds:List D}(n:Nat)(h:DenL K G xs ds):DenL K G (xs.take n) (ds.take n):=by
 refine DenL.ind (P:=λxs ds=>∀n,DenL K G (xs.take n) (ds.take n)) (λn=>?_) (λh _ y n=>?_) h n
 ·cases n<;>exact .nil
 ·cases n with
  |zero=>exact .nil
  |succ n=>exact .cons h (y n)
theorem DenL.drop{xs:List V}{ds:List D}(n:Nat)(h:DenL K G xs ds):DenL K G (xs.drop n) (ds.drop n):=by
 refine DenL.ind (P:=λxs ds=>∀n,DenL K G (xs.drop n) (ds.drop n)) (λn=>?_) (λh hs y n=>?_) h n
 ·cases n<;>exact .nil
 ·cases n with
  |zero=>exact .cons h hs
  |succ n=>exact y n
theorem DenL.set{x:V}{d:D}(r:Den K G x d){xs:List V}{ds:List D}(i:Nat)(h:DenL K G xs ds):DenL K G (xs.set i x) (ds.set i d):=by
 refine DenL.ind (P:=λxs ds=>∀i,DenL K G (xs.set i x) (ds.set i d)) (λn=>.nil) (λq t y i=>?_) h i;cases i with
 |zero=>exact .cons r t
 |succ i=>exact .cons q (y i)
theorem DenL.one{x:V}{d:D}(h:Den K G x d):DenL K G [x] [d]:=.cons h .nil
end
structure Grow(G H G' H':Hp):Prop where
 hh:aO H H'
 gg:aO G G'
 gh:aO G' H'
 fo:∀a o,H a=some o->G a=none->G' a=none
theorem Grow.refl{G H:Hp}(h:aO G H):Grow G H G H:=⟨aO.refl _,aO.refl _,h,λ_ _ _ e=>e⟩
theorem Grow.trans{G H G1 H1 G2 H2:Hp}(a:Grow G H G1 H1)(b:Grow G1 H1 G2 H2):Grow G H G2 H2:=
 ⟨a.hh.trans b.hh,a.gg.trans b.gg,b.gh,λc o h e=>b.fo c o (a.hh c o h) (a.fo c o h e)⟩
theorem Grow.new{G H:Hp}{p:Addr}(o:HO)(gh:aO G H)(hn:H p=none):Grow G H (upd G p o) (upd H p o) where
 hh:=λb u e=>by rw[aA (aG e hn)];exact e
 gg:=λb u e=>by rw[aA (aG (gh b u e) hn)];exact e
 gh:=λb u e=>by
  unfold upd at e ⊢
  by_cases z:b=p
  ·rw[if_pos z] at e ⊢;exact e
  ·rw[if_neg z] at e ⊢;exact gh b u e
 fo:=λa u e g=>by rw[aA (aG e hn)];exact g
theorem Grow.lay{G H:Hp}{p:Addr}(o:HO)(gh:aO G H)(hn:H p=none):Grow G H G (upd H p o) where
 hh:=λb u e=>by rw[aA (aG e hn)];exact e
 gg:=aO.refl _
 gh:=λb u e=>by rw[aA (aG (gh b u e) hn)];exact gh b u e
 fo:=λa u e g=>g
inductive Sl where
 |un | dat (d:D) | own (ds:List D) | odi (es:List (List Int×D))
abbrev Ev:=List Sl
structure EnvD(K:Qc)(He G H:Hp)(σ:L2.St)(ε:Ev):Prop where
 len:σ.length=ε.length
 dat:∀{i:Nat} {d:D},ε[i]?=some (.dat d)->∃v,σ[i]?=some (some v)/\Den K G v d
 own:∀{i:Nat} {ds:List D},ε[i]?=some (.own ds)->∃a xs,σ[i]?=some (some (.ref a))/\H a=some (.lst xs)/\G a=none/\He a=none/\DenL K G xs ds
 apart:∀{i j:Nat} {ds es:List D} {a:Addr},ε[i]?=some (.own ds)->ε[j]?=some (.own es)->σ[i]?=some (some (.ref a))->σ[j]?=some (some (.ref a))->i=j
 odi:∀{i:Nat} {es:List (List Int×D)},ε[i]?=some (.odi es)->∃a us ep,σ[i]?=some (some (.ref a))/\H a=some (.ext (DAt a us ep))/\G a=none/\He a=none/\(us.map (·.1)).Nodup/\DenM K G us es
 apartD:∀{i j:Nat} {ds es:List (List Int×D)} {a:Addr},ε[i]?=some (.odi ds)->ε[j]?=some (.odi es)->σ[i]?=some (some (.ref a))->σ[j]?=some (some (.ref a))->i=j
theorem EnvD.grow{K:Qc}{He G H G' H':Hp}{σ:L2.St}{ε:Ev}(E:EnvD K He G H σ ε)(g:Grow G H G' H'):EnvD K He G' H' σ ε where
 len:=E.len
 dat:=λe=>let⟨v,h1,h2⟩:=E.dat e;⟨v,h1,h2.mono g.gg⟩
 own:=λe=>let⟨a,xs,h1,h2,h3,h4,h5⟩:=E.own e;⟨a,xs,h1,g.hh _ _ h2,g.fo _ _ h2 h3,h4,h5.mono g.gg⟩
 apart:=E.apart
 odi:=λe=>let⟨a,us,ep,h1,h2,h3,h4,h5,h6⟩:=E.odi e;⟨a,us,ep,h1,g.hh _ _ h2,g.fo _ _ h2 h3,h4,h5,h6.mono g.gg⟩
 apartD:=E.apartD
structure Sta(K:Qc)(He Ge G H:Hp)(σ:L2.St)(ε:Ev):Prop where
 g:Grow Ge He G H
 e:EnvD K He G H σ ε
theorem Sta.grow{K:Qc}{He Ge G H G' H':Hp}{σ:L2.St}{ε:Ev}(S:Sta K He Ge G H σ ε)(g:Grow G H G' H'):Sta K He Ge G' H' σ ε:=⟨S.g.trans g,S.e.grow g⟩
def DE(X:Cx)(e:Expr)(f:Ev->Option D):Prop:=∃t,PE X e t/\∀(He G H:Hp) (σ:L2.St) (ε:Ev) (d:D) (Q:VK),aO G H->EnvD X.K He G H σ ε->f ε=some d->
 (∀v G' H',Grow G H G' H'->Den X.K G' v d->Q v H')->t σ H Q
def DF(X:Cx)(e:Expr)(f:Ev->Option (List D)):Prop:=∃t,PE X e t/\∀(He G H:Hp) (σ:L2.St) (ε:Ev) (ds:List D) (Q:VK),aO G H->EnvD X.K He G H σ ε->f ε=some ds->
 (∀a xs G' H',Grow G H G' H'->H a=none->G' a=none->H' a=some (.lst xs)->DenL X.K G' xs ds->Q (.ref a) H')->t σ H Q
def DT(X:Cx)(e:Expr)(f:Ev->Option Bool):Prop:=∃t,PT X e t/\∀(He G H:Hp) (σ:L2.St) (ε:Ev) (b:Bool) (Q:Bool->Hp->Prop),aO G H->EnvD X.K He G H σ ε->f ε=some b->
 (∀G' H',Grow G H G' H'->Q b H')->t σ H Q
def DW(X:Cx)(e:Expr)(f:Ev->Option Bool):Prop:=∃t,PW X e t/\∀(He G H:Hp) (σ:L2.St) (ε:Ev) (b:Bool) (Q:Bool->Hp->Prop),aO G H->EnvD X.K He G H σ ε->f ε=some b->
 (∀G' H',Grow G H G' H'->Q b H')->t σ H Q
def DA(X:Cx)(es:List Expr)(f:Ev->Option (List D)):Prop:=∃t,PA X es t/\∀(He G H:Hp) (σ:L2.St) (ε:Ev) (ds:List D) (Q:List V->Hp->Prop),aO G H->EnvD X.K He G H σ ε->f ε=some ds->
 (∀vs G' H',Grow G H G' H'->DenL X.K G' vs ds->Q vs H')->t σ H Q
theorem DW.dt{X:Cx}{e:Expr}{f:Ev->Option Bool}(h:DW X e f):DT X e f:=let⟨t,h1,h2⟩:=h;⟨t,h1.pt,h2⟩
theorem Grow.seal{G H G' H':Hp}{a:Addr}{xs:List V}(g:Grow G H G' H')(hn:H a=none)(gn:G' a=none)(ha:H' a=some (.lst xs)):Grow G H (upd G' a (.lst xs)) H':=
 ⟨g.hh,λb o e=>by rw[aA (aG (g.gg b o e) gn)];exact g.gg b o e,λb o e=>by
   unfold upd at e
   by_cases z:b=a
   ·rw[if_pos z] at e;cases e;rw[z];exact ha
   ·rw[if_neg z] at e;exact g.gh b o e,λb o e z=>by rw[aA (aG e hn)];exact g.fo b o e z⟩
theorem nY{K:Qc}{G':Hp}{a:Addr}{xs:List V}{ds:List D}(gn:G' a=none)(hd:DenL K G' xs ds):Den K (upd G' a (.lst xs)) (.ref a) (.lst ds):=
 .lst (.inl ay) (hd.mono λb o e=>by rw[aA (aG e gn)];exact e)
def eF(f:Ev->Option (List D)):Ev->Option D:=λε=>(f ε).map D.lst
theorem DF.de{X:Cx}{e:Expr}{f:Ev->Option (List D)}(h:DF X e f):DE X e (eF f):=by
 obtain⟨t,h1,h2⟩:=h;refine⟨t,h1,λHe G H σ ε d Q gh E ef q=>?_⟩;unfold eF at ef;cases e1:f ε with
 |none=>rw[e1] at ef;cases ef
 |some ds=>
  rw[e1] at ef;cases ef;refine h2 He G H σ ε ds Q gh E e1 λa xs G' H' g hn gn ha hd=>?_;exact q _ _ _ (g.seal hn gn ha) (nY gn hd)
inductive Fl where
 |nx (ε:Ev) | rt (d:D) | bk (ε:Ev) | ct (ε:Ev) | ro (ds:List D) | xc (c:Str) (fs:List (Str×D))
def XD(K:Qc)(G:Hp)(dx:Addr)(fs:List (Str×D)):Prop:=∃vs,G dx=some (.xd vs)/\∀n d,(n,d)∈fs->∃v,vs.lookup n=some v/\Den K G v d
def xP(X:Cx)(He Ge:Hp)(r:Fl)(W:Ends):Prop:=match r with
 |.nx ε=>∀σ G H,Sta X.K He Ge G H σ ε->W.nx σ H
 |.bk ε=>∀σ G H,Sta X.K He Ge G H σ ε->W.bk σ H
 |.ct ε=>∀σ G H,Sta X.K He Ge G H σ ε->W.ct σ H
 |.rt d=>∀v G H,Grow Ge He G H->Den X.K G v d->W.rt v H
 |.ro ds=>∀a xs G H,Grow Ge He G H->He a=none->G a=none->H a=some (.lst xs)->DenL X.K G xs ds->W.rt (.ref a) H
 |.xc c fs=>∀(pins:List (Addr×Obj)) (σ:L2.St) (G H:Hp) (s:Qd) (a dx:Addr) (cls:Qb),L2.Inv X pins σ H s->Grow Ge He G H->Ex.XAt X.s₀.heap.objs.size H s.heap a cls dx->X.mg c=some cls->XD X.K G dx fs->X.xe (.ref a) s
def DS(X:Cx)(st:Stmt)(g:Ev->Option Fl):Prop:=∃t,PS X st t/\∀(He Ge G H:Hp) (σ:L2.St) (ε:Ev) (r:Fl) (W:Ends),Sta X.K He Ge G H σ ε->g ε=some r->xP X He Ge r W->t W σ H
def DSs(X:Cx)(st:List Stmt)(g:Ev->Option Fl):Prop:=∃t,PSs X st t/\∀(He Ge G H:Hp) (σ:L2.St) (ε:Ev) (r:Fl) (W:Ends),Sta X.K He Ge G H σ ε->g ε=some r->xP X He Ge r W->t W σ H
def bW(K:Qc)(G H:Hp)(v:V)(d:D):Prop:=Den K G v d\/∃a xs ds,v=.ref a/\d=.lst ds/\H a=some (.lst xs)/\DenL K G xs ds
theorem bW.grow{K:Qc}{G H G' H':Hp}{v:V}{d:D}(h:bW K G H v d)(g:Grow G H G' H'):bW K G' H' v d:=by
 rcases h with h | ⟨a,xs,ds,h1,h2,h3,h4⟩
 ·exact .inl (h.mono g.gg)
 ·exact .inr ⟨a,xs,ds,h1,h2,g.hh _ _ h3,h4.mono g.gg⟩
theorem bW.int{K:Qc}{G H:Hp}{v:V}{i:Int}(h:bW K G H v (.int i)):v=.int i:=by
 rcases h with h | ⟨_,_,_,_,h,_⟩
 ·cases h;rfl
 ·cases h
theorem bW.bl{K:Qc}{G H:Hp}{v:V}{i:Bool}(h:bW K G H v (.bl i)):v=.bl i:=by
 rcases h with h | ⟨_,_,_,_,h,_⟩
 ·cases h;rfl
 ·cases h
theorem bW.str{K:Qc}{G H:Hp}{v:V}{i:Str}(h:bW K G H v (.str i)):v=.str i:=by
 rcases h with h | ⟨_,_,_,_,h,_⟩
 ·cases h;rfl
 ·cases h
theorem bW.non{K:Qc}{G H:Hp}{v:V}(h:bW K G H v .non):v=.non:=by
 rcases h with h | ⟨_,_,_,_,h,_⟩
 ·cases h;rfl
 ·cases h
theorem bW.tup{K:Qc}{G H:Hp}{v:V}{ds:List D}(gh:aO G H)(h:bW K G H v (.tup ds)):∃a xs,v=.ref a/\SqT K G a xs/\SqT K H a xs/\DenL K G xs ds:=by
 rcases h with h | ⟨_,_,_,_,h,_⟩
 ·cases h with | tup h hs=>exact⟨_,_,rfl,h,aR gh h,hs⟩
 ·cases h
theorem bW.lst{K:Qc}{G H:Hp}{v:V}{ds:List D}(gh:aO G H)(h:bW K G H v (.lst ds)):∃a xs,v=.ref a/\SqL K H a xs/\DenL K G xs ds:=by
 rcases h with h | ⟨a,xs,ds',h1,h,h3,h4⟩
 ·cases h with | lst h hs=>exact⟨_,_,rfl,gh.seq h.sq,hs⟩
 ·cases h;exact⟨a,xs,h1,.of h3,h4⟩
def DB(X:Cx)(e:Expr)(f:Ev->Option D):Prop:=∃t,PE X e t/\∀(He G H:Hp) (σ:L2.St) (ε:Ev) (d:D) (Q:VK),aO G H->EnvD X.K He G H σ ε->f ε=some d->
 (∀v G' H',Grow G H G' H'->bW X.K G' H' v d->Q v H')->t σ H Q
theorem DE.db{X:Cx}{e:Expr}{f:Ev->Option D}(h:DE X e f):DB X e f:=
 let⟨t,h1,h2⟩:=h;⟨t,h1,λHe G H σ ε d Q gh E ef q=>h2 He G H σ ε d Q gh E ef λv G' H' g hd=>q v G' H' g (.inl hd)⟩
section
variable{X:Cx}{a b c:Expr}{fa fb fc:Ev->Option D}{pos:Pos}
def au(i:Nat):Ev->Option D:=λε=>match ε[i]? with | some (.dat d)=>some d | _=>none
def aa(i:Nat):Ev->Option D:=λε=>match ε[i]? with | some (.dat d)=>some d | some (.own ds)=>some (.lst ds) | _=>none
def eC(d:D):Ev->Option D:=λ_=>some d
theorem aq(i:Nat){x:Str}{pos:Pos}(hN:X.N[i]?=some x:=by rfl)(hv:Vis X.env.scope x:=by first | exact Jj rfl | exact Q3 (Jj rfl) | exact Q3 (Q3 rfl))(hd:(x==("__debug__" : Str))=false:=by decide)
  (hcd:(x==("__classdict__" : Str))=false:=by decide):DE X (.Name x pos) (au i):=by
 refine⟨_,ik hN hv hd hcd,λHe G H σ ε d Q gh E ef q=>?_⟩;unfold au at ef;split at ef
 ·rename_i d' e
  cases ef;obtain⟨v,h1,h2⟩:=E.dat e;exact⟨v,h1,q v G H (.refl gh) h2⟩
 ·cases ef
theorem af(i:Nat){x:Str}{pos:Pos}(hN:X.N[i]?=some x:=by rfl)(hv:Vis X.env.scope x:=by first | exact Jj rfl | exact Q3 (Jj rfl) | exact Q3 (Q3 rfl))(hd:(x==("__debug__" : Str))=false:=by decide)
  (hcd:(x==("__classdict__" : Str))=false:=by decide):DB X (.Name x pos) (aa i):=by
 refine⟨_,ik hN hv hd hcd,λHe G H σ ε d Q gh E ef q=>?_⟩;unfold aa at ef;split at ef
 ·rename_i d' e
  cases ef;obtain⟨v,h1,h2⟩:=E.dat e;exact⟨v,h1,q v G H (.refl gh) (.inl h2)⟩
 ·rename_i ds e
  cases ef;obtain⟨l,xs,h1,h2,h3,h4,h5⟩:=E.own e;exact⟨_,h1,q _ G H (.refl gh) (.inr ⟨l,xs,ds,rfl,rfl,h2,h5⟩)⟩
 ·cases ef
theorem fK{e:Expr}{v:V}{d:D}(h:PE X e (tC v))(hd:∀G,Den X.K G v d):DE X e (eC d):=
 ⟨_,h,λHe G H σ ε d' Q gh E ef q=>by cases ef;exact q v G H (.refl gh) (hd G)⟩
theorem ag{i j pos}:DE X (.Constant (.int i) j pos) (eC (.int i)):=fK w9 λ_=>.int i
theorem jr{i j pos}:DE X (.Constant (.bool i) j pos) (eC (.bl i)):=fK yG λ_=>.bl i
theorem fQ{j pos}:DE X (.Constant .none j pos) (eC .non):=fK yd λ_=>.non
theorem aU{x j pos}:DE X (.Constant (.str x) j pos) (eC (.str x)):=fK xX λ_=>.str x
theorem uI{x:Str}{i:Int}{t:Tok}{pos:Pos}(hg:Gl X x)(hm:X.mg x=some (.int i t))(hd:(x==("__debug__" : Str))=false:=by decide):DE X (.Name x pos) (eC (.int i)):=
 fK (uF (v:=.int i) hg hm ⟨t,rfl⟩ hd) λ_=>.int i
def e2(op:D->D->Option D)(fa fb:Ev->Option D):Ev->Option D:=λε=>(fa ε).bind λx=>(fb ε).bind λy=>op x y
def OpD(X:Cx)(f:Qb->Qb->Sem Qb)(op:D->D->Option D):Prop:=∃r,OpR X f r/\∀(G H:Hp) (x y:V) (dx dy d:D) (Q:VK),aO G H->bW X.K G H x dx->bW X.K G H y dy->op dx dy=some d->
 (∀v G' H',Grow G H G' H'->Den X.K G' v d->Q v H')->r x y H Q
theorem ar{α β:Type}{o:Option α}{f:α->Option β}{y:β}(h:o.bind f=some y):∃x,o=some x/\f x=some y:=by
 cases o with
 |none=>cases h
 |some x=>exact⟨x,rfl,h⟩
theorem two{ta tb:TE}{He G H:Hp}{σ:L2.St}{ε:Ev}{op:D->D->Option D}{r:R2}{d:D}{Q:VK}
  (ha:∀(He G H:Hp) (σ:L2.St) (ε:Ev) (d:D) (Q:VK),aO G H->EnvD X.K He G H σ ε->fa ε=some d->(∀v G' H',Grow G H G' H'->bW X.K G' H' v d->Q v H')->ta σ H Q)
  (hb:∀(He G H:Hp) (σ:L2.St) (ε:Ev) (d:D) (Q:VK),aO G H->EnvD X.K He G H σ ε->fb ε=some d->(∀v G' H',Grow G H G' H'->bW X.K G' H' v d->Q v H')->tb σ H Q)
  (ho:∀(G H:Hp) (x y:V) (dx dy d:D) (Q:VK),aO G H->bW X.K G H x dx->bW X.K G H y dy->op dx dy=some d->(∀v G' H',Grow G H G' H'->Den X.K G' v d->Q v H')->r x y H Q)
  (gh:aO G H) (E:EnvD X.K He G H σ ε) (ef:e2 op fa fb ε=some d) (q:∀v G' H',Grow G H G' H'->Den X.K G' v d->Q v H'):tOp r ta tb σ H Q:=by
 obtain⟨x,e1,ef⟩:=ar ef;obtain⟨y,e2,ef⟩:=ar ef;refine ha He G H σ ε x _ gh E e1 λv G1 H1 g1 d1=>?_;refine hb He G1 H1 σ ε y _ g1.gh (E.grow g1) e2 λu G2 H2 g2 d2=>?_;exact ho G2 H2 v u x y d Q g2.gh (d1.grow g2) d2 ef λw G3 H3 g3 d3=>q w G3 H3 (g1.trans (g2.trans g3)) d3
theorem ai{op:Operator}{f:D->D->Option D}(ho:OpD X (Jl op) f)(ha:DB X a fa)(hb:DB X b fb):DE X (.BinOp a op b pos) (e2 f fa fb):=by
 obtain⟨r,h1,h2⟩:=ho;obtain⟨ta,a1,a2⟩:=ha;obtain⟨tb,b1,b2⟩:=hb;exact⟨_,vS h1 a1 b1,λHe G H σ ε d Q gh E ef q=>two a2 b2 h2 gh E ef q⟩
theorem dB{op:CmpOp}{f:D->D->Option D}(ho:OpD X (QE op) f)(ha:DB X a fa)(hb:DB X b fb)(hm:Zp op b=false):DE X (.Compare a [op] [b] pos) (e2 f fa fb):=by
 obtain⟨r,h1,h2⟩:=ho;obtain⟨ta,a1,a2⟩:=ha;obtain⟨tb,b1,b2⟩:=hb;exact⟨_,tp h1 a1 b1 hm,λHe G H σ ε d Q gh E ef q=>two a2 b2 h2 gh E ef q⟩
def asB:Option D->Option Bool
 |some (.bl b)=>some b
 |_=>none
theorem mR{o:Option D}{b:Bool}(h:asB o=some b):o=some (.bl b):=by
 unfold asB at h;split at h
 ·cases h;rfl
 ·cases h
theorem Den.blV{K:Qc}{G:Hp}{v:V}{b:Bool}(h:Den K G v (.bl b)):v=.bl b:=by cases h;rfl
def av(op:D->D->Option D)(fa fb:Ev->Option D):Ev->Option Bool:=λε=>asB (e2 op fa fb ε)
theorem aN{op:CmpOp}{f:D->D->Option D}(ho:OpD X (QE op) f)(ha:DB X a fa)(hb:DB X b fb)(hm:Zp op b=false):DT X (.Compare a [op] [b] pos) (av f fa fb):=by
 obtain⟨r,h1,h2⟩:=ho;obtain⟨ta,a1,a2⟩:=ha;obtain⟨tb,b1,b2⟩:=hb;refine⟨_,tI h1 a1 b1 hm,λHe G H σ ε k Q gh E ef q=>?_⟩;refine two a2 b2 h2 gh E (mR ef) λv G' H' g hd=>?_;exact⟨k,hd.blV,q G' H' g⟩
theorem xS{r:R2}{f:D->D->Option D}(hr:IxR X r)(ho:∀(G H:Hp) (x y:V) (dx dy d:D) (Q:VK),aO G H->bW X.K G H x dx->bW X.K G H y dy->f dx dy=some d->(∀v G' H',Grow G H G' H'->Den X.K G' v d->Q v H')->r x y H Q)
  (ha:DB X a fa) (hb:DB X b fb) (hs:kX b):DE X (.Subscript a b pos) (e2 f fa fb):=by
 obtain⟨ta,a1,a2⟩:=ha;obtain⟨tb,b1,b2⟩:=hb;exact⟨_,yp hr a1 b1 hs,λHe G H σ ε d Q gh E ef q=>two a2 b2 ho gh E ef q⟩
def cU(g:Int->Int->Option D):D->D->Option D:=λx y=>match x,y with | .int i,.int j=>g i j | _,_=>none
theorem kL{g:Int->Int->Option D}{x y d:D}(h:cU g x y=some d):∃i j,x=.int i/\y=.int j/\g i j=some d:=by
 unfold cU at h;split at h
 ·exact⟨_,_,rfl,rfl,h⟩
 ·cases h
theorem oH{f:Qb->Qb->Sem Qb}{C:Int->Int->Prop}{g:Int->Int->V}{k:Int->Int->Option D}(ho:OpR X f (rI C g))(hk:∀i j d,k i j=some d->C i j/\∀G,Den X.K G (g i j) d):OpD X f (cU k):=
 ⟨_,ho,λG H x y dx dy d Q gh hx hy e q=>by
  obtain⟨i,j,rfl,rfl,e⟩:=kL e;obtain⟨c,hd⟩:=hk i j d e
  exact⟨i,j,hx.int,hy.int,c,q _ G H (.refl gh) (hd G)⟩⟩
theorem iH{f:Qb->Qb->Sem Qb}{g:Int->Int->V}{k:Int->Int->Option D}(ho:OpR X f (rI0 g))(hk:∀i j d,k i j=some d->∀G,Den X.K G (g i j) d):OpD X f (cU k):=
 ⟨_,ho,λG H x y dx dy d Q gh hx hy e q=>by
  obtain⟨i,j,rfl,rfl,e⟩:=kL e
  exact⟨i,j,hx.int,hy.int,q _ G H (.refl gh) (hk i j d e G)⟩⟩
def aJ:D->D->Option D:=cU λi j=>some (.int (i+j))
def bu:D->D->Option D:=cU λi j=>some (.int (i-j))
instance (i j:Int):Decidable (j3 i j):=by unfold j3;infer_instance
instance (i j:Int):Decidable (ql i j):=by unfold ql;infer_instance
instance (i j:Int):Decidable (pW i j):=by unfold pW;infer_instance
def bh:D->D->Option D:=cU λi j=>if j3 i j then some (.int (i*j)) else none
def bT:D->D->Option D:=cU λi j=>if ql i j then some (.int (i/j)) else none
def aK:D->D->Option D:=cU λi j=>if 0<j then some (.int (i%j)) else none
def l6:D->D->Option D:=cU λi j=>if pW i j then some (.int (i ^ j.toNat)) else none
theorem aP:OpD X (Jl .Add) aJ:=iH xO λi j d e G=>by cases e;exact .int _
theorem br:OpD X (Jl .Sub) bu:=iH wt λi j d e G=>by cases e;exact .int _
theorem bR:OpD X (Jl .Mult) bh:=oH xV λi j d e=>by
 split at e
 ·rename_i h;cases e;exact⟨h,λG=>.int _⟩
 ·cases e
theorem da:OpD X (Jl .FloorDiv) bT:=oH ti λi j d e=>by
 split at e
 ·rename_i h;cases e;exact⟨h,λG=>.int _⟩
 ·cases e
theorem aQ:OpD X (Jl .Mod) aK:=oH xk λi j d e=>by
 split at e
 ·rename_i h;cases e;exact⟨h,λG=>.int _⟩
 ·cases e
theorem sF:OpD X (Jl .Pow) l6:=oH xG λi j d e=>by
 split at e
 ·rename_i h;cases e;exact⟨h,λG=>.int _⟩
 ·cases e
def ltI:D->D->Option D:=cU λi j=>some (.bl (decide (i<j)))
def leI:D->D->Option D:=cU λi j=>some (.bl (decide (i<=j)))
def gtI:D->D->Option D:=cU λi j=>some (.bl (decide (j<i)))
def geI:D->D->Option D:=cU λi j=>some (.bl (decide (j<=i)))
theorem kQ:OpD X (QE .Lt) ltI:=iH yY λi j d e G=>by cases e;exact .bl _
theorem cL:OpD X (QE .LtE) leI:=iH y1 λi j d e G=>by cases e;exact .bl _
theorem kJ:OpD X (QE .Gt) gtI:=iH yC λi j d e G=>by cases e;exact .bl _
theorem yz:OpD X (QE .GtE) geI:=iH y6 λi j d e G=>by cases e;exact .bl _
def eqS:D->D->Option Bool
 |.non,.non=>some true | .non,.int _=>some false | .int _,.non=>some false | .non,.bl _=>some false | .bl _,.non=>some false | .non,.str _=>some false | .str _,.non=>some false
 |.int i,.int j=>some (decide (i=j)) | .bl i,.bl j=>some (decide (i=j)) | .str i,.str j=>some (decide (i=j))
 |.int _,.str _=>some false | .str _,.int _=>some false | .bl _,.str _=>some false | .str _,.bl _=>some false
 |_,_=>none
theorem my{K:Qc}{G H:Hp}{x y:V}{dx dy:D}{k:Bool}(hx:bW K G H x dx)(hy:bW K G H y dy)(e:eqS dx dy=some k):xv x y=true/\decide (x=y)=k:=by
 unfold eqS at e;split at e<;>first | (cases e;done) | skip
 all_goals first
  |(cases hx.non) | (cases hx.int) | (cases hx.bl) | (cases hx.str)
 all_goals first
  |(cases hy.non) | (cases hy.int) | (cases hy.bl) | (cases hy.str)
 all_goals (refine⟨rfl,?_⟩;cases e;simp)
def l5:D->Bool
 |.non=>true
 |_=>false
theorem bW.isNon{K:Qc}{G H:Hp}{v:V}{d:D}(h:bW K G H v d):decide (v=.non)=l5 d:=by
 rcases h with h | ⟨a,xs,ds,rfl,rfl,_⟩
 ·cases h<;>simp[Dn.l5]
 ·simp[Dn.l5]
def isD(neg:Bool):D->D->Option D:=λx y=>match y with | .non=>some (.bl (if neg then !l5 x else l5 x)) | _=>none
theorem ku:OpD X (QE .Is) (isD false):=⟨_,wM,λG H x y dx dy d Q gh hx hy e q=>by
 unfold isD at e;split at e
 ·cases e;exact⟨hy.non,q _ G H (.refl gh) (by rw[hx.isNon];exact .bl _)⟩
 ·cases e⟩
def zj:D->Option D
 |.int i=>some (.int (-i))
 |_=>none
def kZ(fa:Ev->Option D):Ev->Option D:=λε=>(fa ε).bind zj
theorem iG(ha:DB X a fa):DE X (.UnaryOp .USub a pos) (kZ fa):=by
 obtain⟨ta,a1,a2⟩:=ha;refine⟨_,yi xW a1,λHe G H σ ε d Q gh E ef q=>?_⟩;obtain⟨x,e1,ef⟩:=ar ef;refine a2 He G H σ ε x _ gh E e1 λv G1 H1 g1 d1=>?_;unfold zj at ef;split at ef
 ·cases ef;exact⟨_,d1.int,q _ G1 H1 g1 (.int _)⟩
 ·cases ef
def ixD:D->D->Option D:=λx y=>match x,y with | .lst xs,.int i=>atI xs i | .tup xs,.int i=>atI xs i | _,_=>none
theorem o9{K:Qc}{G:Hp}{xs:List V}{ds:List D}{i:Int}{d:D}(h:DenL K G xs ds)(e:atI ds i=some d):∃v,atI xs i=some v/\Den K G v d:=by
 unfold atI at e ⊢;rw[h.length];cases e1:ixN ds.length i with
 |none=>rw[e1] at e;cases e
 |some j=>
  rw[e1] at e;exact h.get e
theorem aD(ha:DB X a fa)(hb:DB X b fb)(hs:kX b:=by intro _ _;rfl):DE X (.Subscript a b pos) (e2 ixD fa fb):=
 xS (tq.or xa) (λG H x y dx dy d Q gh hx hy e q=>by
  unfold ixD at e;split at e
  ·obtain⟨p,xs,rfl,h1,h2⟩:=hx.lst gh
   obtain⟨v,h3,h4⟩:=o9 h2 e;exact .inl ⟨p,xs,_,v,rfl,hy.int,h1,h3,q _ G H (.refl gh) h4⟩
  ·obtain⟨p,xs,rfl,h0,h1,h2⟩:=hx.tup gh
   obtain⟨v,h3,h4⟩:=o9 h2 e;exact .inr ⟨p,xs,_,v,rfl,hy.int,h1,h3,q _ G H (.refl gh) h4⟩
  ·cases e) ha hb hs
def aF:Ev->Option (List D):=λ_=>some []
def ae(f:Ev->Option D)(g:Ev->Option (List D)):Ev->Option (List D):=λε=>(f ε).bind λd=>(g ε).bind λds=>some (d::ds)
theorem aC:DA X [] aF:=⟨_,du,λHe G H σ ε ds Q gh E ef q=>by cases ef;exact q [] G H (.refl gh) .nil⟩
theorem ah{e:Expr}{es:List Expr}{f:Ev->Option D}{g:Ev->Option (List D)}(h:DE X e f)(hs:DA X es g)(hst:Qj (e::es) X.env=(false,eval e X.env)::Qj es X.env:=by rfl):DA X (e::es) (ae f g):=by
 obtain⟨t,a1,a2⟩:=h;obtain⟨u,b1,b2⟩:=hs;refine⟨_,b4 a1 b1 hst,λHe G H σ ε ds Q gh E ef q=>?_⟩;obtain⟨x,e1,ef⟩:=ar ef;obtain⟨xs,e2,ef⟩:=ar ef;cases ef;refine a2 He G H σ ε x _ gh E e1 λv G1 H1 g1 d1=>?_;refine b2 He G1 H1 σ ε xs _ g1.gh (E.grow g1) e2 λvs G2 H2 g2 d2=>?_;exact q _ G2 H2 (g1.trans g2) (.cons (d1.mono g2.gg) d2)
def bx(g:Ev->Option (List D)):Ev->Option D:=λε=>(g ε).bind λds=>if ds.length<=1000 then some (.tup ds) else none
theorem oJ{n:Nat}(h:n<=1000):n<=Qt:=Nat.le_of_lt (qv h)
theorem bC{es:List Expr}{g:Ev->Option (List D)}{x1}(h:DA X es g):DE X (.Tuple es x1 pos) (bx g):=by
 obtain⟨t,a1,a2⟩:=h;refine⟨_,sU a1,λHe G H σ ε d Q gh E ef q=>?_⟩;obtain⟨ds,e1,ef⟩:=ar ef;split at ef
 ·rename_i hl
  cases ef;refine a2 He G H σ ε ds _ gh E e1 λvs G1 H1 g1 d1=>⟨by rw[d1.length];exact oJ hl,λp hp=>?_⟩;have g2:=Grow.new (.tup vs) g1.gh hp;exact q _ _ _ (g1.trans g2) (.tup (SqT.of ay) (d1.mono g2.gg))
 ·cases ef
def cv(g:Ev->Option (List D)):Ev->Option (List D):=λε=>(g ε).bind λds=>if ds.length<=1000 then some ds else none
theorem Grow.gnone{G H G' H':Hp}{p:Addr}(g:Grow G H G' H')(h:H' p=none):G' p=none:=g.gh.free h
theorem cW{es:List Expr}{g:Ev->Option (List D)}(h:DA X es g):DF X (.List es pos) (cv g):=by
 obtain⟨t,a1,a2⟩:=h;refine⟨_,wC a1,λHe G H σ ε ds Q gh E ef q=>?_⟩;obtain⟨ds',e1,ef⟩:=ar ef;split at ef
 ·rename_i hl
  cases ef;refine a2 He G H σ ε _ _ gh E e1 λvs G1 H1 g1 d1=>⟨by rw[d1.length];exact oJ hl,λp hp=>?_⟩;exact q p vs G1 _ (g1.trans (.lay _ g1.gh hp)) (g1.hh.free hp) (g1.gnone hp) ay d1
 ·cases ef
def DO(X:Cx)(e:Option Expr)(f:Ev->Option (Option Int)):Prop:=∃t,PO X e t/\∀(He G H:Hp) (σ:L2.St) (ε:Ev) (d:Option Int) (Q:Option Int->Hp->Prop),aO G H->EnvD X.K He G H σ ε->f ε=some d->
 (∀G' H',Grow G H G' H'->Q d H')->t σ H Q
def cX:Ev->Option (Option Int):=λ_=>some none
def bj(f:Ev->Option D):Ev->Option (Option Int):=λε=>match f ε with | some (.int i)=>some (some i) | _=>none
theorem fV:DO X none cX:=⟨_,uf,λHe G H σ ε d Q gh E ef q=>by cases ef;exact q G H (.refl gh)⟩
theorem bI{e:Expr}{f:Ev->Option D}(h:DB X e f):DO X (some e) (bj f):=by
 obtain⟨t,a1,a2⟩:=h;refine⟨_,u0 a1,λHe G H σ ε d Q gh E ef q=>?_⟩;unfold bj at ef;split at ef
 ·rename_i i e1
  cases ef;exact a2 He G H σ ε _ _ gh E e1 λv G1 H1 g1 d1=>⟨i,d1.int,q G1 H1 g1⟩
 ·cases ef
def gR(xs:List D)(lo hi:Option Int):List D:=(xs.drop (HT.sIx xs.length 0 lo)).take (HT.sIx xs.length xs.length hi-HT.sIx xs.length 0 lo)
theorem o6{K:Qc}{G:Hp}{xs:List V}{ds:List D}(lo hi:Option Int)(h:DenL K G xs ds):DenL K G (lA xs lo hi) (gR ds lo hi):=by
 unfold lA gR;rw[h.length];exact(h.drop _).take _
def eSl(fa:Ev->Option D)(fl fh:Ev->Option (Option Int)):Ev->Option (List D):=λε=>(fa ε).bind λx=>(fl ε).bind λlo=>(fh ε).bind λhi=>match x with | .lst xs=>some (gR xs lo hi) | _=>none
theorem iJ{lo hi:Option Expr}{fl fh:Ev->Option (Option Int)}{p2:Pos}(ha:DB X a fa)(hl:DO X lo fl)(hh:DO X hi fh):DF X (.Subscript a (.Slice lo hi none p2) pos) (eSl fa fl fh):=by
 obtain⟨ta,a1,a2⟩:=ha;obtain⟨tl,b1,b2⟩:=hl;obtain⟨th,c1,c2⟩:=hh;refine⟨_,mI uL a1 b1 c1,λHe G H σ ε ds Q gh E ef q=>?_⟩;obtain⟨x,e1,ef⟩:=ar ef;obtain⟨l,e2,ef⟩:=ar ef;obtain⟨u,e3,ef⟩:=ar ef;refine a2 He G H σ ε x _ gh E e1 λv G1 H1 g1 d1=>?_;refine b2 He G1 H1 σ ε l _ g1.gh (E.grow g1) e2 λG2 H2 g2=>?_;refine c2 He G2 H2 σ ε u _ g2.gh ((E.grow g1).grow g2) e3 λG3 H3 g3=>?_;split at ef
 ·cases ef
  obtain⟨p,xs,rfl,h1,h2⟩:=((d1.grow g2).grow g3).lst g3.gh;refine⟨p,xs,rfl,h1,λp' hp=>?_⟩;have g:=g1.trans (g2.trans g3);exact q p' _ G3 _ (g.trans (.lay _ g3.gh hp)) (g.hh.free hp) (g3.gnone hp) ay (o6 l u h2)
 ·cases ef
def lr(fa:Ev->Option D)(fl fh:Ev->Option (Option Int)):Ev->Option D:=λε=>(fa ε).bind λx=>(fl ε).bind λlo=>(fh ε).bind λhi=>match x with
 |.tup xs=>if HT.sIx xs.length 0 lo=0/\HT.sIx xs.length xs.length hi=xs.length then none else some (.tup (gR xs lo hi))
 |_=>none
theorem nH{lo hi:Option Expr}{fl fh:Ev->Option (Option Int)}{p2:Pos}(ha:DB X a fa)(hl:DO X lo fl)(hh:DO X hi fh):DE X (.Subscript a (.Slice lo hi none p2) pos) (lr fa fl fh):=by
 obtain⟨ta,a1,a2⟩:=ha;obtain⟨tl,b1,b2⟩:=hl;obtain⟨th,c1,c2⟩:=hh;refine⟨_,mI wu a1 b1 c1,λHe G H σ ε ds Q gh E ef q=>?_⟩;obtain⟨x,e1,ef⟩:=ar ef;obtain⟨l,e2,ef⟩:=ar ef;obtain⟨u,e3,ef⟩:=ar ef;refine a2 He G H σ ε x _ gh E e1 λv G1 H1 g1 d1=>?_;refine b2 He G1 H1 σ ε l _ g1.gh (E.grow g1) e2 λG2 H2 g2=>?_;refine c2 He G2 H2 σ ε u _ g2.gh ((E.grow g1).grow g2) e3 λG3 H3 g3=>?_;split at ef
 ·split at ef
  ·cases ef
  ·rename_i hw
   cases ef;obtain⟨p,xs,rfl,h0,h1,h2⟩:=((d1.grow g2).grow g3).tup g3.gh;refine⟨p,xs,rfl,h1,by rw[h2.length];exact hw,λp' hp=>?_⟩;have g4:=Grow.new (.tup (lA xs l u)) g3.gh hp;exact q _ _ _ ((g1.trans (g2.trans g3)).trans g4) (.tup (SqT.of ay) ((o6 l u h2).mono g4.gg))
 ·cases ef
def bz(f g:Ev->Option Bool):Ev->Option Bool:=λε=>(f ε).bind λk=>if k=true then g ε else some false
def fq(f g:Ev->Option Bool):Ev->Option Bool:=λε=>(f ε).bind λk=>if k=true then some true else g ε
def kK(f:Ev->Option Bool):Ev->Option Bool:=λε=>(f ε).map λk=>!k
section
variable{f g:Ev->Option Bool}{rest:List Expr}
theorem bM(h:DT X a f):DW X (.BoolOp .And [a] pos) f:=let⟨t,h1,h2⟩:=h;⟨t,tH h1,h2⟩
theorem gA(h:DT X a f):DW X (.BoolOp .Or [a] pos) f:=let⟨t,h1,h2⟩:=h;⟨t,xr h1,h2⟩
theorem cj(h:DT X a f)(hr:DW X (.BoolOp .And (b::rest) pos) g):DW X (.BoolOp .And (a::b::rest) pos) (bz f g):=by
 obtain⟨t,a1,a2⟩:=h;obtain⟨u,b1,b2⟩:=hr;refine⟨_,wY a1 b1,λHe G H σ ε k Q gh E ef q=>?_⟩;obtain⟨c,e1,ef⟩:=ar ef;refine a2 He G H σ ε c _ gh E e1 λG1 H1 g1=>?_;cases c with
 |true=>
  rw[if_pos rfl] at ef ⊢;exact b2 He G1 H1 σ ε k _ g1.gh (E.grow g1) ef λG2 H2 g2=>q _ _ (g1.trans g2)
 |false=>
  rw[if_neg Qh] at ef ⊢;cases ef;exact q _ _ g1
theorem jP(h:DT X a f)(hr:DW X (.BoolOp .Or (b::rest) pos) g):DW X (.BoolOp .Or (a::b::rest) pos) (fq f g):=by
 obtain⟨t,a1,a2⟩:=h;obtain⟨u,b1,b2⟩:=hr;refine⟨_,yu a1 b1,λHe G H σ ε k Q gh E ef q=>?_⟩;obtain⟨c,e1,ef⟩:=ar ef;refine a2 He G H σ ε c _ gh E e1 λG1 H1 g1=>?_;cases c with
 |true=>
  rw[if_pos rfl] at ef ⊢;cases ef;exact q _ _ g1
 |false=>
  rw[if_neg Qh] at ef ⊢;exact b2 He G1 H1 σ ε k _ g1.gh (E.grow g1) ef λG2 H2 g2=>q _ _ (g1.trans g2)
theorem rX(h:DT X a f):DT X (.UnaryOp .Not a pos) (kK f):=by
 obtain⟨t,a1,a2⟩:=h;refine⟨_,xt a1,λHe G H σ ε k Q gh E ef q=>?_⟩;unfold kK at ef;cases e1:f ε with
 |none=>rw[e1] at ef;cases ef
 |some c=>
  rw[e1] at ef;cases ef;exact a2 He G H σ ε c _ gh E e1 q
end
def gQ(fa fb:Ev->Option D):Ev->Option D:=λε=>(fa ε).bind λx=>match x with | .bl k=>if k=true then fb ε else some (.bl false) | _=>none
theorem kS{op}(h:DE X a fa):DE X (.BoolOp op [a] pos) fa:=let⟨t,h1,h2⟩:=h;⟨t,vW h1,h2⟩
theorem eU{rest:List Expr}(h:DE X a fa)(hr:DE X (.BoolOp .And (b::rest) pos) fb):DE X (.BoolOp .And (a::b::rest) pos) (gQ fa fb):=by
 obtain⟨t,a1,a2⟩:=h;obtain⟨u,b1,b2⟩:=hr;refine⟨_,xj a1 b1,λHe G H σ ε d Q gh E ef q=>?_⟩;obtain⟨x,e1,ef⟩:=ar ef;refine a2 He G H σ ε x _ gh E e1 λv G1 H1 g1 d1=>?_;split at ef
 ·rename_i k
  refine⟨k,d1.blV,?_⟩;cases k with
  |true=>
   rw[if_pos rfl] at ef ⊢;exact b2 He G1 H1 σ ε d _ g1.gh (E.grow g1) ef λv G2 H2 g2=>q _ _ _ (g1.trans g2)
  |false=>
   rw[if_neg Qh] at ef ⊢;cases ef;exact q _ _ _ g1 (.bl _)
 ·cases ef
def yf:D->Option Bool
 |.non=>some false
 |.bl b=>some b
 |.int i=>some (i != 0)
 |.str _=>none
 |.tup xs=>some (!xs.isEmpty)
 |.lst xs=>some (!xs.isEmpty)
 |.dic _=>none
theorem DenL.emp{K:Qc}{G:Hp}{xs:List V}{ds:List D}(h:DenL K G xs ds):xs.isEmpty=ds.isEmpty:=by cases h<;>rfl
def fm(fa:Ev->Option D):Ev->Option Bool:=λε=>(fa ε).bind yf
theorem cS(ha:DB X a fa)(he:∀whole,isTrue a X.env whole=(do let v<-whole;standAt a.pos;holding [v] (truthy v)):=by intro _;rfl):DT X a (fm fa):=by
 obtain⟨ta,a1,a2⟩:=ha;refine⟨_,ra a1 he,λHe G H σ ε k Q gh E ef q=>?_⟩;obtain⟨x,e1,ef⟩:=ar ef;refine a2 He G H σ ε x _ gh E e1 λv G1 H1 g1 d1=>⟨k,?_,q _ _ g1⟩;unfold yf at ef;split at ef
 ·cases d1.non;cases ef;rfl
 ·cases d1.bl;cases ef;rfl
 ·cases d1.int;cases ef;rfl
 ·cases ef
 ·cases ef
  obtain⟨p,xs,rfl,h0,h1,h2⟩:=d1.tup g1.gh;exact .inr (.inl ⟨xs,h1,by rw[h2.emp]⟩)
 ·cases ef
  obtain⟨p,xs,rfl,h1,h2⟩:=d1.lst g1.gh;exact .inl ⟨xs,h1,by rw[h2.emp]⟩
 ·cases ef
end
def spF(K:Qc)(F:List D->Option D):Sp:=λvs H Q _=>∃G ds d,aO G H/\DenL K G vs ds/\F ds=some d/\∀v G' H',Grow G H G' H'->Den K G' v d->Q v H'
def dZ(N:List Str)(ds:List D):Ev:=ds.map Sl.dat++List.replicate (N.length-ds.length) Sl.un
section
variable{X:Cx}{a b c:Expr}{fa fb fc:Ev->Option D}{pos:Pos}
def aL(F:List D->Option D)(g:Ev->Option (List D)):Ev->Option D:=λε=>(g ε).bind F
def ck(op:D->Option D)(fa:Ev->Option D):Ev->Option D:=λε=>(fa ε).bind op
def dk(op:D->D)(fa:Ev->Option D):Ev->Option D:=λε=>(fa ε).map op
theorem tQ{k:Nat}{f:Addr}{fd:QY}{ps:List Str}{Fn:List D->Option D}{x:Str}{e:Expr}{es:List Expr}{g:Ev->Option (List D)}{p:Pos}
  (F:FnOk X.prog X.w X.K X.mg X.base CX0 k f fd ps (spF X.K Fn)) (hr:Room k X.A) (hm:X.mg x=some (.ref f)) (hk:Jx X.K (.ref f)=true) (hb:gP X.K fd ps [])
  (ha:DA X (e::es) g) (hg:Gl X x:=by rfl) (hdb:(x==("__debug__" : Str))=false:=by decide) (he:Qj (e::es) X.env=(false,eval e X.env)::Qj es X.env:=by rfl) (hpl:(Ja pos (Qj es X.env)).any (·.1)=false:=by rfl) :
  DE X (.Call (.Name x p) (e::es) [] pos) (aL Fn g):=by
 obtain⟨t,a1,a2⟩:=ha;refine⟨_,oK (E:=E0) F hr hg hm hk hb .nil vL a1 hdb he hpl,λHe G H σ ε d Q gh E ef q=>?_⟩;obtain⟨ds,e1,ef⟩:=ar ef;refine a2 He G H σ ε ds _ gh E e1 λvs G1 H1 g1 d1=>?_;show spF X.K Fn (vs++[]) H1 Q E0;rw[Q6];exact⟨G1,ds,d,g1.gh,d1,ef,λv G2 H2 g2 d2=>q v G2 H2 (g1.trans g2) d2⟩
def cy:D->Option D
 |.lst xs=>some (.int xs.length)
 |.tup xs=>some (.int xs.length)
 |_=>none
theorem fE{p:Pos}(ha:DB X a fa)(hm:X.mg "len" = none)(hg:Gl X "len":=by rfl)(hst:Qj [a] X.env=(false,eval a X.env)::Qj [] X.env:=by rfl)(hpl:(Ja pos (Qj [] X.env)).any (·.1)=false:=by rfl):DE X (.Call (.Name "len" p) [a] [] pos) (ck cy fa):=by
 obtain⟨ta,a1,a2⟩:=ha;refine⟨_,jz lq hg hm PySem.boot_len (b4 a1 du hst) (by decide) (by decide) hst hpl,λHe G H σ ε d Q gh E ef q=>?_⟩;obtain⟨x,e1,ef⟩:=ar ef;refine a2 He G H σ ε x _ gh E e1 λv G1 H1 g1 d1=>?_;unfold cy at ef;split at ef
 ·cases ef
  obtain⟨p,xs,rfl,h1,h2⟩:=d1.lst g1.gh;exact⟨p,xs,rfl,.inl h1,q _ _ _ g1 (by rw[h2.length];exact .int _)⟩
 ·cases ef
  obtain⟨p,xs,rfl,h0,h1,h2⟩:=d1.tup g1.gh;exact⟨p,xs,rfl,.inr h1,q _ _ _ g1 (by rw[h2.length];exact .int _)⟩
 ·cases ef
def kN(X:Cx)(f:Qb)(op:List D->Option D):Prop:=∃r,eG X f r/\∀(G H:Hp) (vs:List V) (ds:List D) (d:D) (Q:VK),aO G H->DenL X.K G vs ds->op ds=some d->
 (∀v G' H',Grow G H G' H'->Den X.K G' v d->Q v H')->r vs H Q
theorem cP{id:String}{op:List D->Option D}{x:Str}{e:Expr}{es:List Expr}{g:Ev->Option (List D)}{p:Pos}(hc:kN X (.builtin id) op)(hm:X.mg x=none)(hv:JK x=some (.builtin id))(ha:DA X (e::es) g)(hg:Gl X x:=by rfl)
  (hn:x≠"__name__":=by decide) (hdb:(x==("__debug__" : Str))=false:=by decide) (he:Qj (e::es) X.env=(false,eval e X.env)::Qj es X.env:=by rfl) (hpl:(Ja pos (Qj es X.env)).any (·.1)=false:=by rfl) :
  DE X (.Call (.Name x p) (e::es) [] pos) (aL op g):=by
 obtain⟨r,c1,c2⟩:=hc;obtain⟨t,a1,a2⟩:=ha;refine⟨_,jz c1 hg hm hv a1 hn hdb he hpl,λHe G H σ ε d Q gh E ef q=>?_⟩;obtain⟨ds,e1,ef⟩:=ar ef;refine a2 He G H σ ε ds _ gh E e1 λvs G1 H1 g1 d1=>?_;exact c2 G1 H1 vs ds d Q g1.gh d1 ef λv G2 H2 g2 d2=>q v G2 H2 (g1.trans g2) d2
def jt:List D->Option D
 |[.int i,.int j]=>some (.int (if j>i then j else i))
 |_=>none
def kh:List D->Option D
 |[.int i,.int j]=>some (.int (if j<i then j else i))
 |_=>none
theorem Den.intV{K:Qc}{G:Hp}{v:V}{i:Int}(h:Den K G v (.int i)):v=.int i:=by cases h;rfl
theorem lH(hc:X.calm=true):kN X (.builtin "max") jt:=⟨_,pI hc,λG H vs ds d Q gh hd e q=>by
 unfold jt at e;split at e
 ·cases e
  cases hd with | cons h1 h2=>cases h2 with | cons h2 h3=>cases h3;exact⟨_,_,by rw[h1.intV,h2.intV],q _ _ _ (.refl gh) (.int _)⟩
 ·cases e⟩
theorem oR(hc:X.calm=true):kN X (.builtin "min") kh:=⟨_,qj hc,λG H vs ds d Q gh hd e q=>by
 unfold kh at e;split at e
 ·cases e
  cases hd with | cons h1 h2=>cases h2 with | cons h2 h3=>cases h3;exact⟨_,_,by rw[h1.intV,h2.intV],q _ _ _ (.refl gh) (.int _)⟩
 ·cases e⟩
def ui:List D->Option D
 |[.lst xs]=>some (.tup xs)
 |[.tup xs]=>some (.tup xs)
 |_=>none
theorem Den.lstV{K:Qc}{G:Hp}{v:V}{ds:List D}(h:Den K G v (.lst ds)):∃a xs,v=.ref a/\SqL K G a xs/\DenL K G xs ds:=by cases h with | lst h hs=>exact⟨_,_,rfl,h.sq,hs⟩
theorem Den.tupV{K:Qc}{G:Hp}{v:V}{ds:List D}(h:Den K G v (.tup ds)):∃a xs,v=.ref a/\SqT K G a xs/\DenL K G xs ds:=by cases h with | tup h hs=>exact⟨_,_,rfl,h,hs⟩
def kH(fa:Ev->Option D):Ev->Option (List D):=λε=>match fa ε with | some (.lst xs)=>some xs | some (.tup xs)=>some xs | _=>none
theorem ja{p:Pos}(ha:DB X a fa)(hm:X.mg "list" = none)(hg:Gl X "list":=by rfl)(hst:Qj [a] X.env=(false,eval a X.env)::Qj [] X.env:=by rfl)(hpl:(Ja pos (Qj [] X.env)).any (·.1)=false:=by rfl):DF X (.Call (.Name "list" p) [a] [] pos) (kH fa):=by
 obtain⟨ta,a1,a2⟩:=ha;refine⟨_,kP lI hg hm (by rfl) (b4 a1 du hst) (by decide) (by decide) hst hpl,λHe G H σ ε d Q gh E ef q=>?_⟩;unfold kH at ef;split at ef
 ·rename_i e1
  cases ef;refine a2 He G H σ ε _ _ gh E e1 λv G1 H1 g1 d1=>?_;obtain⟨p,xs,rfl,h1,h2⟩:=d1.lst g1.gh;exact⟨p,xs,rfl,.inl h1,λl hl=>q l xs G1 _ (g1.trans (.lay _ g1.gh hl)) (g1.hh.free hl) (g1.gnone hl) ay h2⟩
 ·rename_i e1
  cases ef;refine a2 He G H σ ε _ _ gh E e1 λv G1 H1 g1 d1=>?_;obtain⟨p,xs,rfl,h0,h1,h2⟩:=d1.tup g1.gh;exact⟨p,xs,rfl,.inr h1,λl hl=>q l xs G1 _ (g1.trans (.lay _ g1.gh hl)) (g1.hh.free hl) (g1.gnone hl) ay h2⟩
 ·cases ef
def tyD:D->String
 |.non=>"NoneType" | .bl _=>"bool" | .int _=>"int" | .str _=>"str" | .tup _=>"tuple" | .lst _=>"list" | .dic _=>"dict"
def c_(T:String)(d:D):D:=.bl (tyD d==T || (tyD d == "bool" && T == "int"))
theorem uE{K:Qc}{t T:String}(hT:T = "list"\/T = "tuple"\/T = "bool"\/T = "int"\/T = "str")(ht:t = "NoneType"\/t = "bool"\/t = "int"\/t = "str"\/t = "tuple"\/t = "list"\/t = "dict") :
  PySem.W.kitOne K (.type t) (.type T)=some (t==T || (t == "bool" && T == "int")):=by
 rcases hT with rfl | rfl | rfl | rfl | rfl<;>rcases ht with rfl | rfl | rfl | rfl | rfl | rfl | rfl<;>rfl
theorem uX(d:D):tyD d = "NoneType"\/tyD d = "bool"\/tyD d = "int"\/tyD d = "str"\/tyD d = "tuple"\/tyD d = "list"\/tyD d = "dict":=by cases d<;>simp[tyD]
theorem qR{T:String}(hT:T = "list"\/T = "tuple"\/T = "bool"\/T = "int"\/T = "str"):eG X (.builtin "isinstance") (λxs H Q=>∃G v d,xs=[v,.ty T]/\aO G H/\bW X.K G H v d/\∃k,c_ T d=.bl k/\Q (.bl k) H):=by
 intro pins s σ H xs us Q I rv h;obtain⟨G,v,d,rfl,gh,hd,k,ek,q⟩:=h;obtain⟨u,u2,rfl,r1,r2⟩:=rv.two;have e2:u2=Value.type T:=r2;subst e2
 have kt:PySem.W.kitOne X.K (.type (tyD d)) (.type T)=some k:=by
  rw[uE hT (uX d)];unfold c_ at ek;injection ek with ek
  rw[ek]
 have fin:∀tk,EP X pins σ Q (.bool k) { s with toks:=tk }:=λtk=>⟨.bl k,H,I.tok tk,rfl,q⟩;cases d with
 |non=>cases hd.non;cases(show u=QT from r1);exact JR PySem.W.kitx_none I.kIn Zf kt (λz=>nomatch z) fin
 |bl y=>cases hd.bl;cases(show u=Zd y from r1);exact JR PySem.W.kitx_bool I.kIn Zf kt (λz=>nomatch z) fin
 |int i=>cases hd.int;obtain⟨t,z⟩:=(show ∃t,u=Value.int i t from r1);cases z;exact JR PySem.W.kitx_int I.kIn Zf kt (λz=>nomatch z) fin
 |str i=>cases hd.str;obtain⟨t,z⟩:=(show ∃t,u=Value.str i t from r1);cases z;exact JR PySem.W.kitx_str I.kIn Zf kt (λz=>nomatch z) fin
 |tup ds=>
  obtain⟨p,ys,rfl,h0,h1,h2⟩:=hd.tup gh;cases(show u=QF p from r1);obtain⟨its,_,⟨o,h3,h4,_⟩,_⟩:=I.tuple h1;exact JR PySem.W.kitx_tuple I.kIn ⟨o,h3,h4⟩ kt (λz=>nomatch z) fin
 |lst ds=>
  obtain⟨p,ys,rfl,h1,h2⟩:=hd.lst gh;cases(show u=QF p from r1);obtain⟨its,_,⟨o,n,h3,h4,_⟩,_⟩:=I.list h1;exact JR PySem.W.kitx_list I.kIn ⟨o,h3,h4⟩ kt (λz=>nomatch z) fin
 |dic es=>
  rcases hd with hd | ⟨_,_,_,_,z,_⟩
  ·cases hd with
   |@dic p us ep _ h nd hs=>
    cases(show u=QF p from r1);obtain⟨⟨_,_,o,raw,h3,h4,_⟩,_,_⟩:=(show bO X.prog X.w H s.heap p (.ext (DAt p us ep)) from I.hok p _ (gh _ _ h));exact JR PySem.W.kitx_dict I.kIn ⟨o,h3,h4.1⟩ kt (λz=>nomatch z) fin
  ·cases z
theorem dC{T:String}{p p2:Pos}{x:Str}(hT:T = "list"\/T = "tuple"\/T = "bool"\/T = "int"\/T = "str")(ha:DB X a fa)(hm:X.mg "isinstance" = none)(hm2:X.mg x=none)(hv:JK x=some (.type T))(hv0:JK "isinstance" = some (.builtin "isinstance"):=by rfl)(hg:Gl X "isinstance":=by rfl)(hg2:Gl X x:=by rfl)(hn2:x≠"__name__":=by decide)(hd2:(x==("__debug__" : Str))=false:=by decide)
  (hst:Qj [a,.Name x p2] X.env=(false,eval a X.env)::Qj [.Name x p2] X.env:=by rfl) (hst2:Qj [.Name x p2] X.env=(false,eval (.Name x p2) X.env)::Qj [] X.env:=by rfl) (hpl:(Ja pos (Qj [.Name x p2] X.env)).any (·.1)=false:=by rfl) :
  DE X (.Call (.Name "isinstance" p) [a,.Name x p2] [] pos) (dk (c_ T) fa):=by
 obtain⟨ta,a1,a2⟩:=ha;refine⟨_,jz (qR hT) hg hm hv0 (b4 a1 (b4 (ud (v:=.ty T) hg2 hm2 hv rfl hn2 hd2) du hst2) hst) (by decide) (by decide) hst hpl,λHe G H σ ε d Q gh E ef q=>?_⟩;unfold dk at ef;cases e1:fa ε with
 |none=>rw[e1] at ef;cases ef
 |some y=>
  rw[e1] at ef;cases ef;refine a2 He G H σ ε y _ gh E e1 λv G1 H1 g1 d1=>?_;exact⟨G1,v,y,rfl,g1.gh,d1,_,rfl,q _ _ _ g1 (.bl _)⟩
end
theorem EnvD.put{K:Qc}{He G H:Hp}{σ:L2.St}{ε:Ev}{i:Nat}{v:V}{d:D}(E:EnvD K He G H σ ε)(h:Den K G v d):EnvD K He G H (σ.set i (some v)) (ε.set i (.dat d)) where
 len:=by rw[Jk,Jk];exact E.len
 dat:=λ{j d'} e=>by
  rw[Qq] at e ⊢
  by_cases z:i=j
  ·rw[if_pos z] at e ⊢
   subst z;rw[E.len];split at e
   ·rename_i hl;cases e;exact⟨v,by rw[if_pos hl],h⟩
   ·cases e
  ·rw[if_neg z] at e ⊢
   exact E.dat e
 own:=λ{j ds} e=>by
  rw[Qq] at e ⊢
  by_cases z:i=j
  ·rw[if_pos z] at e;split at e<;>cases e
  ·rw[if_neg z] at e ⊢
   exact E.own e
 apart:=λ{j k ds es a} e1 e2 h1 h2=>by
  rw[Qq] at e1 e2 h1 h2
  by_cases z:i=j
  ·rw[if_pos z] at e1;split at e1<;>cases e1
  ·by_cases z2:i=k
   ·rw[if_pos z2] at e2;split at e2<;>cases e2
   ·rw[if_neg z] at e1 h1
    rw[if_neg z2] at e2 h2;exact E.apart e1 e2 h1 h2
 odi:=λ{j ds} e=>by
  rw[Qq] at e ⊢
  by_cases z:i=j
  ·rw[if_pos z] at e;split at e<;>cases e
  ·rw[if_neg z] at e ⊢
   exact E.odi e
 apartD:=λ{j k ds es a} e1 e2 h1 h2=>by
  rw[Qq] at e1 e2 h1 h2
  by_cases z:i=j
  ·rw[if_pos z] at e1;split at e1<;>cases e1
  ·by_cases z2:i=k
   ·rw[if_pos z2] at e2;split at e2<;>cases e2
   ·rw[if_neg z] at e1 h1
    rw[if_neg z2] at e2 h2;exact E.apartD e1 e2 h1 h2
theorem EnvD.putO{K:Qc}{He G H G' H':Hp}{σ:L2.St}{ε:Ev}{i:Nat}{a:Addr}{xs:List V}{ds:List D}(E:EnvD K He G H σ ε)(g:Grow G H G' H')(heH:aO He H)(hn:H a=none)(gn:G' a=none)(ha:H' a=some (.lst xs))(hd:DenL K G' xs ds) :
  EnvD K He G' H' (σ.set i (some (.ref a))) (ε.set i (.own ds)) where
 len:=by rw[Jk,Jk];exact E.len
 dat:=λ{j d'} e=>by
  rw[Qq] at e ⊢
  by_cases z:i=j
  ·rw[if_pos z] at e;split at e<;>cases e
  ·rw[if_neg z] at e ⊢
   exact(E.grow g).dat e
 own:=λ{j ds'} e=>by
  rw[Qq] at e ⊢
  by_cases z:i=j
  ·rw[if_pos z] at e ⊢
   subst z;rw[E.len];split at e
   ·rename_i hl;cases e;exact⟨a,xs,by rw[if_pos hl],ha,gn,heH.free hn,hd⟩
   ·cases e
  ·rw[if_neg z] at e ⊢
   exact(E.grow g).own e
 apart:=λ{j k ds' es b} e1 e2 h1 h2=>by
  rw[Qq] at e1 e2 h1 h2
  have key:∀{m:Nat} {es:List D},ε[m]?=some (.own es)->σ[m]?=some (some (.ref a))->False:=λ{m es} q1 q2=>by
   obtain⟨b',ys,w1,w2,_⟩:=E.own q1;rw[q2] at w1;cases w1;rw[hn] at w2;cases w2
  by_cases z:i=j
  ·by_cases z2:i=k
   ·rw[<-z,<-z2]
   ·rw[if_pos z] at h1
    rw[if_neg z2] at e2 h2;split at h1
    ·cases h1;exact(key e2 h2).elim
    ·cases h1
  ·by_cases z2:i=k
   ·rw[if_neg z] at e1 h1
    rw[if_pos z2] at h2;split at h2
    ·cases h2;exact(key e1 h1).elim
    ·cases h2
   ·rw[if_neg z] at e1 h1
    rw[if_neg z2] at e2 h2;exact E.apart e1 e2 h1 h2
 odi:=λ{j ds'} e=>by
  rw[Qq] at e ⊢
  by_cases z:i=j
  ·rw[if_pos z] at e;split at e<;>cases e
  ·rw[if_neg z] at e ⊢
   exact(E.grow g).odi e
 apartD:=λ{j k ds es a} e1 e2 h1 h2=>by
  rw[Qq] at e1 e2 h1 h2
  by_cases z:i=j
  ·rw[if_pos z] at e1;split at e1<;>cases e1
  ·by_cases z2:i=k
   ·rw[if_pos z2] at e2;split at e2<;>cases e2
   ·rw[if_neg z] at e1 h1
    rw[if_neg z2] at e2 h2;exact E.apartD e1 e2 h1 h2
theorem Sta.write{K:Qc}{He Ge G H:Hp}{σ:L2.St}{ε:Ev}{i:Nat}{a:Addr}{xs ys:List V}{ds es:List D}(S:Sta K He Ge G H σ ε)(ei:ε[i]?=some (.own ds))(hs:σ[i]?=some (some (.ref a)))(ha:H a=some (.lst xs))(hd:DenL K G ys es) :
  Sta K He Ge G (upd H a (.lst ys)) σ (ε.set i (.own es)):=by
 obtain⟨a',xs',h1,h2,h3,h4,h5⟩:=S.e.own ei;rw[hs] at h1;cases h1;have keep:∀{b:Addr} {o:HO},b≠a->H b=some o->upd H a (.lst ys) b=some o:=λ{b o} n e=>by rw[aA n];exact e
 refine⟨⟨λb o e=>keep (aG e h4) (S.g.hh b o e),S.g.gg,λb o e=>keep (aG e h3) (S.g.gh b o e),S.g.fo⟩,?_⟩;have hil:i<ε.length:=(Qs.mp ei).1;refine⟨by rw[Jk];exact S.e.len,λ{j d} e=>?_,λ{j fs} e=>?_,λ{j k fs gs b} e1 e2 w1 w2=>?_,λ{j fs} e=>?_,λ{j k fs gs b} e1 e2 w1 w2=>?_⟩
 ·rw[Qq] at e
  by_cases z:i=j
  ·rw[if_pos z] at e;split at e<;>cases e
  ·rw[if_neg z] at e;exact S.e.dat e
 ·rw[Qq] at e
  by_cases z:i=j
  ·rw[if_pos z,if_pos (z▸hil)] at e
   cases e;subst z;exact⟨a,ys,hs,ay,h3,h4,hd⟩
  ·rw[if_neg z] at e
   obtain⟨b,zs,w1,w2,w3,w4,w5⟩:=S.e.own e;refine⟨b,zs,w1,keep (λq=>z ?_) w2,w3,w4,w5⟩;subst q;exact S.e.apart ei e hs w1
 ·have own_of:∀{m:Nat} {fs:List D},(ε.set i (.own es))[m]?=some (.own fs)->∃gs,ε[m]?=some (.own gs):=λ{m fs} e=>by
   rw[Qq] at e
   by_cases z:i=m
   ·subst z;exact⟨_,ei⟩
   ·rw[if_neg z] at e;exact⟨_,e⟩
  obtain⟨_,q1⟩:=own_of e1;obtain⟨_,q2⟩:=own_of e2;exact S.e.apart q1 q2 w1 w2
 ·rw[Qq] at e
  by_cases z:i=j
  ·rw[if_pos z] at e;split at e<;>cases e
  ·rw[if_neg z] at e
   obtain⟨b,us,ep,w1,w2,w3⟩:=S.e.odi e;exact⟨b,us,ep,w1,keep (λq=>by subst q;rw[ha] at w2;cases w2) w2,w3⟩
 ·have odi_of:∀{m:Nat} {fs:List (List Int×D)},(ε.set i (.own es))[m]?=some (.odi fs)->ε[m]?=some (.odi fs):=λ{m fs} e=>by
   rw[Qq] at e
   by_cases z:i=m
   ·rw[if_pos z] at e;split at e<;>cases e
   ·rw[if_neg z] at e;exact e
  exact S.e.apartD (odi_of e1) (odi_of e2) w1 w2
def fzS:Sl->Sl
 |.own ds=>.dat (.lst ds)
 |.odi es=>.dat (.dic es)
 |x=>x
def fz1(i:Nat)(ε:Ev):Ev:=ε.modify i fzS
theorem Sta.freeze{K:Qc}{He Ge G H:Hp}{σ:L2.St}{ε:Ev}(S:Sta K He Ge G H σ ε)(i:Nat):∃G',Sta K He Ge G' H σ (fz1 i ε):=by
 unfold fz1;cases ei:ε[i]? with
 |none=>
  have:ε.modify i fzS=ε:=by
   apply Zm;intro j;rw[J0]
   by_cases z:i=j
   ·subst z;rw[ei];rfl
   ·simp[z]
  rw[this];exact⟨G,S⟩
 |some sl=>
  cases sl with
  |un=>
   have:ε.modify i fzS=ε:=by
    apply Zm;intro j;rw[J0]
    by_cases z:i=j
    ·subst z;rw[ei];simp[fzS]
    ·simp[z]
   rw[this];exact⟨G,S⟩
  |dat d=>
   have:ε.modify i fzS=ε:=by
    apply Zm;intro j;rw[J0]
    by_cases z:i=j
    ·subst z;rw[ei];simp[fzS]
    ·simp[z]
   rw[this];exact⟨G,S⟩
  |own ds=>
   obtain⟨a,xs,h1,h2,h3,h4,h5⟩:=S.e.own ei;have s2:aO G (upd G a (.lst xs)):=λb o e=>by rw[aA (aG e h3)];exact e
   have gt:∀j,(ε.modify i fzS)[j]?=if i=j then some (.dat (.lst ds)) else ε[j]?:=λj=>by
    rw[J0]
    by_cases z:i=j
    ·subst z;rw[ei];simp[fzS]
    ·simp[z]
   refine⟨upd G a (.lst xs),⟨S.g.hh,S.g.gg.trans s2,λb o e=>?_,λb o e z=>?_⟩,⟨by rw[List.length_modify];exact S.e.len,λ{j d} e=>?_,λ{j fs} e=>?_,λ{j k fs gs b} e1 e2 w1 w2=>?_,λ{j fs} e=>?_,λ{j k fs gs b} e1 e2 w1 w2=>?_⟩⟩
   ·unfold upd at e
    by_cases z:b=a
    ·rw[if_pos z] at e;cases e;rw[z];exact h2
    ·rw[if_neg z] at e;exact S.g.gh b o e
   ·rw[aA (aG e h4)];exact S.g.fo b o e z
   ·rw[gt] at e
    split at e
    ·rename_i z;subst z;cases e;exact⟨_,h1,.lst (.inl ay) (h5.mono s2)⟩
    ·obtain⟨v,w1,w2⟩:=S.e.dat e;exact⟨v,w1,w2.mono s2⟩
   ·rw[gt] at e
    split at e
    ·cases e
    ·rename_i z
     obtain⟨b,zs,w1,w2,w3,w4,w5⟩:=S.e.own e;refine⟨b,zs,w1,w2,?_,w4,w5.mono s2⟩;rw[aA (λq=>z (by subst q;exact S.e.apart ei e h1 w1))];exact w3
   ·rw[gt] at e1 e2
    split at e1
    ·cases e1
    ·split at e2
     ·cases e2
     ·exact S.e.apart e1 e2 w1 w2
   ·rw[gt] at e
    split at e
    ·cases e
    ·obtain⟨b,us,ep,w1,w2,w3,w4,w5,w6⟩:=S.e.odi e
     refine⟨b,us,ep,w1,w2,?_,w4,w5,w6.mono s2⟩;rw[aA (λq=>by subst q;rw[h2] at w2;cases w2)];exact w3
   ·rw[gt] at e1 e2
    split at e1
    ·cases e1
    ·split at e2
     ·cases e2
     ·exact S.e.apartD e1 e2 w1 w2
  |odi es=>
   obtain⟨a,us,ep,h1,h2,h3,h4,h5,h6⟩:=S.e.odi ei;have s2:aO G (upd G a (.ext (DAt a us ep))):=λb o e=>by rw[aA (aG e h3)];exact e
   have gt:∀j,(ε.modify i fzS)[j]?=if i=j then some (.dat (.dic es)) else ε[j]?:=λj=>by
    rw[J0]
    by_cases z:i=j
    ·subst z;rw[ei];simp[fzS]
    ·simp[z]
   refine⟨upd G a (.ext (DAt a us ep)),⟨S.g.hh,S.g.gg.trans s2,λb o e=>?_,λb o e z=>?_⟩,⟨by rw[List.length_modify];exact S.e.len,λ{j d} e=>?_,λ{j fs} e=>?_,λ{j k fs gs b} e1 e2 w1 w2=>?_,λ{j fs} e=>?_,λ{j k fs gs b} e1 e2 w1 w2=>?_⟩⟩
   ·unfold upd at e
    by_cases z:b=a
    ·rw[if_pos z] at e;cases e;rw[z];exact h2
    ·rw[if_neg z] at e;exact S.g.gh b o e
   ·rw[aA (aG e h4)];exact S.g.fo b o e z
   ·rw[gt] at e
    split at e
    ·rename_i z;subst z;cases e;exact⟨_,h1,.dic ay h5 (h6.mono s2)⟩
    ·obtain⟨v,w1,w2⟩:=S.e.dat e;exact⟨v,w1,w2.mono s2⟩
   ·rw[gt] at e
    split at e
    ·cases e
    ·obtain⟨b,zs,w1,w2,w3,w4,w5⟩:=S.e.own e
     refine⟨b,zs,w1,w2,?_,w4,w5.mono s2⟩;rw[aA (λq=>by subst q;rw[h2] at w2;cases w2)];exact w3
   ·rw[gt] at e1 e2
    split at e1
    ·cases e1
    ·split at e2
     ·cases e2
     ·exact S.e.apart e1 e2 w1 w2
   ·rw[gt] at e
    split at e
    ·cases e
    ·rename_i z
     obtain⟨b,us',ep',w1,w2,w3,w4,w5,w6⟩:=S.e.odi e;refine⟨b,us',ep',w1,w2,?_,w4,w5,w6.mono s2⟩;rw[aA (λq=>z (by subst q;exact S.e.apartD ei e h1 w1))];exact w3
   ·rw[gt] at e1 e2
    split at e1
    ·cases e1
    ·split at e2
     ·cases e2
     ·exact S.e.apartD e1 e2 w1 w2
theorem Grow.base{Ge He G1 H1 G H:Hp}(a:Grow Ge He G1 H1)(b:Grow G1 He G H):Grow Ge He G H:=⟨b.hh,a.gg.trans b.gg,b.gh,λc o h e=>b.fo c o h (a.fo c o h e)⟩
theorem Grow.self{Ge He G1 H1:Hp}(a:Grow Ge He G1 H1):Grow G1 He G1 H1:=⟨a.hh,aO.refl _,a.gh,λ_ _ _ e=>e⟩
section
variable{X:Cx}{a b c:Expr}{fa fb fc:Ev->Option D}{pos:Pos}{st:Stmt}{rest:List Stmt}{g g':Ev->Option Fl}
def bg:Ev->Option Fl:=λε=>some (.nx ε)
def aE(g g':Ev->Option Fl):Ev->Option Fl:=λε=>(g ε).bind λr=>match r with | .nx ε'=>g' ε' | r=>some r
theorem aT:DSs X [] bg:=⟨_,jd,λHe Ge G H σ ε r W S e P=>by cases e;exact P σ G H S⟩
theorem aw(h:DS X st g):DSs X [st] g:=let⟨t,h1,h2⟩:=h;⟨_,uY h1,h2⟩
theorem aj(h:DS X st g)(hs:DSs X rest g'):DSs X (st::rest) (aE g g'):=by
 obtain⟨t,a1,a2⟩:=h;obtain⟨u,b1,b2⟩:=hs;refine⟨_,fM a1 b1,λHe Ge G H σ ε r W S e P=>?_⟩;obtain⟨r1,e1,e⟩:=ar e;refine a2 He Ge G H σ ε r1 _ S e1 ?_;cases r1 with
 |nx ε'=>exact λσ' G' H' S'=>b2 He Ge G' H' σ' ε' r W S' e P
 |rt d=>cases e;exact P
 |ro ds=>cases e;exact P
 |xc c fs=>cases e;exact P
 |bk ε'=>cases e;exact P
 |ct ε'=>cases e;exact P
theorem mr:DS X (.Continue pos) (λε=>some (.ct ε)):=⟨_,mF,λHe Ge G H σ ε r W S e P=>by cases e;exact P σ G H S⟩
def sFz(i:Nat)(g:Ev->Option Fl):Ev->Option Fl:=λε=>g (fz1 i ε)
theorem kn(i:Nat)(h:DS X st g):DS X st (sFz i g):=let⟨t,h1,h2⟩:=h;⟨t,h1,λHe Ge G H σ ε r W S e P=>let⟨G',S'⟩:=S.freeze i;h2 He Ge G' H σ _ r W S' e P⟩
def aZ(f:Ev->Option D):Ev->Option Fl:=λε=>(f ε).map Fl.rt
theorem a_{α β:Type}{o:Option α}{f:α->β}{y:β}(h:o.map f=some y):∃x,o=some x/\f x=y:=by
 cases o with
 |none=>cases h
 |some x=>exact⟨x,rfl,Option.some.inj h⟩
theorem aS(h:DE X a fa):DS X (.Return (some a) pos) (aZ fa):=by
 obtain⟨t,a1,a2⟩:=h;refine⟨_,xU a1,λHe Ge G H σ ε r W S e P=>?_⟩;obtain⟨d,e1,rfl⟩:=a_ e;exact a2 He G H σ ε d _ S.g.gh S.e e1 λv G' H' g hd=>P v G' H' (S.g.trans g) hd
def Ah(i:Nat):Ev->Option Fl:=λε=>match ε[i]? with | some (.own ds)=>some (.ro ds) | _=>none
def sIf(f:Ev->Option Bool)(g g':Ev->Option Fl):Ev->Option Fl:=λε=>(f ε).bind λk=>if k=true then g ε else g' ε
theorem bp{f:Ev->Option Bool}{s1 s2:List Stmt}(hc:DT X c f)(h1:DSs X s1 g)(h2:DSs X s2 g'):DS X (.If c s1 s2 pos) (sIf f g g'):=by
 obtain⟨t,c1,c2⟩:=hc;obtain⟨ta,a1,a2⟩:=h1;obtain⟨tb,b1,b2⟩:=h2;refine⟨_,qD c1 a1 b1,λHe Ge G H σ ε r W S e P=>?_⟩;obtain⟨k,e1,e⟩:=ar e;refine c2 He G H σ ε k _ S.g.gh S.e e1 λG1 H1 g1=>?_;cases k with
 |true=>
  rw[if_pos rfl] at e ⊢;exact a2 He Ge G1 H1 σ ε r W (S.grow g1) e P
 |false=>
  rw[if_neg Qh] at e ⊢;exact b2 He Ge G1 H1 σ ε r W (S.grow g1) e P
def a9(i:Nat)(f:Ev->Option D):Ev->Option Fl:=λε=>(f ε).map λd=>Fl.nx (ε.set i (.dat d))
theorem a8(i:Nat){x:Str}{pos':Pos}(hN:X.N.Nodup)(ha:DE X a fa)(hi:X.N[i]?=some x:=by rfl)(hx:Loc X.env.scope x:=by first | exact Jj rfl | exact Q3 rfl)(hs:Ju a (some (.Name x pos')) pos.line X.env=pure false:=by rfl)
  (hf:X.fn x=true\/X.env.scope.names.lookup x=some .local:=by first | exact .inl rfl | exact .inr rfl):DS X (.Assign [.Name x pos'] a pos) (a9 i fa):=by
 obtain⟨t,a1,a2⟩:=ha;refine⟨_,m9 hN hi hx a1 hs hf,λHe Ge G H σ ε r W S e P=>?_⟩;obtain⟨d,e1,rfl⟩:=a_ e;exact a2 He G H σ ε d _ S.g.gh S.e e1 λv G' H' g hd=>P _ G' H' ⟨S.g.trans g,(S.e.grow g).put hd⟩
def ez(i:Nat)(f:Ev->Option (List D)):Ev->Option Fl:=λε=>(f ε).map λd=>Fl.nx (ε.set i (.own d))
theorem fO(i:Nat){x:Str}{pos':Pos}{f:Ev->Option (List D)}(hN:X.N.Nodup)(ha:DF X a f)(hi:X.N[i]?=some x:=by rfl)(hx:Loc X.env.scope x:=by first | exact Jj rfl | exact Q3 rfl)(hs:Ju a (some (.Name x pos')) pos.line X.env=pure false:=by rfl)
  (hf:X.fn x=true\/X.env.scope.names.lookup x=some .local:=by first | exact .inl rfl | exact .inr rfl):DS X (.Assign [.Name x pos'] a pos) (ez i f):=by
 obtain⟨t,a1,a2⟩:=ha;refine⟨_,m9 hN hi hx a1 hs hf,λHe Ge G H σ ε r W S e P=>?_⟩;obtain⟨d,e1,rfl⟩:=a_ e;exact a2 He G H σ ε d _ S.g.gh S.e e1 λl xs G' H' g hn gn hl hd=>P _ G' H' ⟨S.g.trans g,S.e.putO g S.g.hh hn gn hl hd⟩
def cC(i:Nat)(f:Ev->Option D):Ev->Option Fl:=λε=>(f ε).bind λd=>match ε[i]? with
 |some (.own ds)=>if ds.length<1000000 then some (.nx (ε.set i (.own (ds++[d])))) else none
 |_=>none
theorem dr(i:Nat){x:Str}{p1 p2:Pos}(ha:DE X a fa)(hN:X.N[i]?=some x:=by rfl)(hv:Vis X.env.scope x:=by first | exact Jj rfl | exact Q3 (Jj rfl))(hd:(x==("__debug__" : Str))=false:=by decide)
  (hcd:(x==("__classdict__" : Str))=false:=by decide)
  (hbase:JU (.Name x p1) "append" X.env (eval (.Name x p1) X.env)=eval (.Name x p1) X.env:=by rfl)
  (hfew:((Ja pos (Qj [a] X.env)).all (λx=>!x.1)&&(backToKw pos (Zl [] X.env)).all (λx=>x.1.isSome)
   && decide (([a]:List Expr).length+([]:List Keyword).length+(if([]:List Keyword).isEmpty then 0 else 1)<30))=true:=by rfl)
  (hline:(p2.endLine==pos.line)=true:=by rfl) (hs:Qj [a] X.env=(false,eval a X.env)::Qj [] X.env:=by rfl) (hplain:(Ja pos (Qj [] X.env)).any (·.1)=false:=by rfl)
  (hsw:Ju (.Call (.Attribute (.Name x p1) "append" p2) [a] [] pos) none pos.line X.env=pure false:=by rfl) :
  DS X (.Expr (.Call (.Attribute (.Name x p1) "append" p2) [a] [] pos) pos) (cC i fa):=by
 obtain⟨t,a1,a2⟩:=ha;refine⟨_,oy (vQ PySem.F.plainAttrs_list PySem.F.slot_list_append PySem.F.type_list_append ig (ik hN hv hd hcd) (b4 a1 du hs) hbase hfew hline hs hplain) hsw,λHe Ge G H σ ε r W S e P=>?_⟩;obtain⟨d,e1,e⟩:=ar e;split at e
 ·rename_i ds ei
  split at e
  ·rename_i hl
   cases e;obtain⟨l,xs,h1,h2,h3,h4,h5⟩:=S.e.own ei;refine⟨_,h1,.inl ⟨rfl,xs,SqL.of h2⟩,?_⟩;refine a2 He G H σ ε d _ S.g.gh S.e e1 λv G' H' g hd=>?_;have S':=S.grow g;obtain⟨l',xs',w1,w2,w3,w4,w5⟩:=S'.e.own ei;rw[h1] at w1;cases w1
   have hz:xs'.length<Qt:=by
    rw[w5.length];exact JN hl (by decide)
   exact⟨l,xs',v,rfl,rfl,w2,hz,P σ G' _ (S'.write ei h1 w2 (w5.append (.one hd)))⟩
  ·cases e
 ·cases e
def Ag(i:Nat)(fk f:Ev->Option D):Ev->Option Fl:=λε=>(f ε).bind λd=>(fk ε).bind λk=>match ε[i]?,k with
 |some (.own ds),.int j=>(ixN ds.length j).map λm=>.nx (ε.set i (.own (ds.set m d)))
 |_,_=>none
def DG(X:Cx)(tg:Expr)(g:D->Ev->Option Ev):Prop:=∃t,PG X tg t/\∀(He G H:Hp) (σ:L2.St) (ε ε':Ev) (v:V) (d:D) (Q:L2.St->Hp->Prop),aO G H->EnvD X.K He G H σ ε->Den X.K G v d->g d ε=some ε'->
 (∀σ',EnvD X.K He G H σ' ε'->Q σ' H)->t v σ H Q
def DGs(X:Cx)(ts:List Expr)(g:List D->Ev->Option Ev):Prop:=∃t,PGs X ts t/\∀(He G H:Hp) (σ:L2.St) (ε ε':Ev) (vs:List V) (ds:List D) (Q:L2.St->Hp->Prop),aO G H->EnvD X.K He G H σ ε->DenL X.K G vs ds->g ds ε=some ε'->
 (∀σ',EnvD X.K He G H σ' ε'->Q σ' H)->t vs σ H Q
def ak(i:Nat):D->Ev->Option Ev:=λd ε=>some (ε.set i (.dat d))
theorem az(i:Nat){x:Str}(hN:X.N.Nodup)(hi:X.N[i]?=some x:=by rfl)(hx:Loc X.env.scope x:=by first | exact Jj rfl | exact Q3 rfl)(hf:X.fn x=true\/X.env.scope.names.lookup x=some .local:=by first | exact .inl rfl | exact .inr rfl):DG X (.Name x pos) (ak i):=
 ⟨_,uc hN hi hx hf,λHe G H σ ε ε' v d Q gh E hd e q=>by cases e;exact q _ (E.put hd)⟩
def bw:List D->Ev->Option Ev:=λds ε=>match ds with | []=>some ε | _=>none
def ax(g:D->Ev->Option Ev)(g':List D->Ev->Option Ev):List D->Ev->Option Ev:=λds ε=>match ds with | d::r=>(g d ε).bind (g' r) | []=>none
theorem bL:DGs X [] bw:=⟨_,vv,λHe G H σ ε ε' vs ds Q gh E hd e q=>by
 cases hd with
 |nil=>cases e;exact⟨rfl,q _ E⟩
 |cons _ _=>cases e⟩
theorem aB{e:Expr}{es:List Expr}{g1:D->Ev->Option Ev}{g2:List D->Ev->Option Ev}(h1:DG X e g1)(h2:DGs X es g2)(hs:(Q5 (e::es) X.env).map (·.2)=assign e X.env::(Q5 es X.env).map (·.2):=by rfl):DGs X (e::es) (ax g1 g2):=by
 obtain⟨t,a1,a2⟩:=h1;obtain⟨u,b1,b2⟩:=h2;refine⟨_,qJ a1 b1 hs,λHe G H σ ε ε' vs ds Q gh E hd e q=>?_⟩;cases hd with
 |nil=>cases e
 |cons h3 h4=>
  obtain⟨ε1,e1,e⟩:=ar e;exact⟨_,_,rfl,a2 He G H σ ε ε1 _ _ _ gh E h3 e1 λσ1 E1=>b2 He G H σ1 ε1 ε' _ _ _ gh E1 h4 e q⟩
def fj(n:Nat)(g:List D->Ev->Option Ev):D->Ev->Option Ev:=λd ε=>match d with | .tup ds=>if ds.length=n then g ds ε else none | _=>none
theorem lx{es:List Expr}{k:Nat}{g:List D->Ev->Option Ev}{n:Nat}(hc:X.calm=true)(h:DGs X es g)(hn:(Q5 es X.env).length=n:=by rfl)(hst:(Q5 es X.env).findIdx? (·.1)=none:=by rfl):DG X (.Tuple es k pos) (fj n g):=by
 obtain⟨t,a1,a2⟩:=h;refine⟨_,sL hc a1 hn hst,λHe G H σ ε ε' v d Q gh E hd e q=>?_⟩;unfold fj at e;split at e
 ·split at e
  ·rename_i hl
   obtain⟨p,xs,rfl,h1,h2⟩:=hd.tupV;exact⟨p,xs,rfl,aR gh h1,by rw[h2.length];exact hl,a2 He G H σ ε ε' _ _ _ gh E h2 e q⟩
  ·cases e
 ·cases e
def gF(f:Ev->Option D)(g:D->Ev->Option Ev):Ev->Option Fl:=λε=>(f ε).bind λd=>(g d ε).map Fl.nx
theorem dq{tg:Expr}{g:D->Ev->Option Ev}(he:DE X a fa)(hg:DG X tg g)(hs:swapsWithSole [tg] a pos.line X.env=pure false:=by rfl)(hw:swappedStores [tg] a X.env=pure none:=by rfl)
  (h1:(Q5 [tg] X.env).map (·.2)=[assign tg X.env]:=by rfl):DS X (.Assign [tg] a pos) (gF fa g):=by
 obtain⟨t,a1,a2⟩:=he;obtain⟨u,b1,b2⟩:=hg;refine⟨_,wX a1 b1 hs hw h1,λHe Ge G H σ ε r W S e P=>?_⟩;obtain⟨d,e1,e⟩:=ar e;obtain⟨ε',e2,rfl⟩:=a_ e;exact a2 He G H σ ε d _ S.g.gh S.e e1 λv G' H' g hd=>b2 He G' H' σ ε ε' v d _ g.gh (S.e.grow g) hd e2 λσ' E'=>P σ' G' H' ⟨S.g.trans g,E'⟩
def ItD(K:Qc)(J:It)(ds:List D)(G:Hp):Prop:=∀(i:Nat) (H2:Hp),aO G H2->(i<ds.length->J.go i H2)/\(ds.length<=i->J.stop i H2)/\
 ∀x H3,J.yld i H2 x H3->∀d,ds[i]?=some d->∀G2,aO G G2->aO G2 H2->∃G3,Grow G2 H2 G3 H3/\Den K G3 x d
def DI(X:Cx)(tg iter:Expr)(f:Ev->Option (List D)):Prop:=∃wi,PI X tg iter wi/\∀(He G H:Hp) (σ:L2.St) (ε:Ev) (ds:List D) (R:It->Hp->Prop),aO G H->EnvD X.K He G H σ ε->f ε=some ds->
 (∀J G' H',Grow G H G' H'->ItD X.K J ds G'->R J H')->wi σ H R
def f9(f:Ev->Option D):Ev->Option (List D):=λε=>match f ε with | some (.lst ds)=>some ds | _=>none
theorem fR{tg:Expr}(h:DE X a fa):DI X tg a (f9 fa):=by
 obtain⟨t,a1,a2⟩:=h;refine⟨_,tP a1,λHe G H σ ε ds R gh E ef q=>?_⟩;unfold f9 at ef;split at ef
 ·rename_i e1
  cases ef;refine a2 He G H σ ε _ _ gh E e1 λv G1 H1 g1 d1=>?_;obtain⟨p,xs,rfl,h1,h2⟩:=d1.lstV;refine⟨p,rfl,⟨xs,g1.gh.seq h1⟩,q _ G1 H1 g1 λi H2 s2=>⟨λhi=>?_,λhi=>⟨xs,s2.seq h1,by rw[h2.length];exact hi⟩,?_⟩⟩
  ·have hi':i<xs.length:=by rw[h2.length];exact hi
   exact⟨xs,xs[i],s2.seq h1,by simp[hi']⟩
  ·rintro x H3 ⟨rfl,y⟩ d ed G2 s3 s4
   obtain⟨x',e3,e4⟩:=h2.get ed;have:=y xs (s2.seq h1);rw[e3] at this;cases this;exact⟨G2,.refl s4,e4.mono s3⟩
 ·cases ef
def ko(f:Ev->Option D):Ev->Option (List D):=λε=>match f ε with | some (.tup ds)=>some ds | _=>none
theorem xI{tg:Expr}(h:DE X a fa):DI X tg a (ko fa):=by
 obtain⟨t,a1,a2⟩:=h;refine⟨_,xQ a1,λHe G H σ ε ds R gh E ef q=>?_⟩;unfold ko at ef;split at ef
 ·rename_i e1
  cases ef;refine a2 He G H σ ε _ _ gh E e1 λv G1 H1 g1 d1=>?_;obtain⟨p,xs,rfl,h1,h2⟩:=d1.tupV;refine⟨p,rfl,⟨xs,aR g1.gh h1⟩,q _ G1 H1 g1 λi H2 s2=>⟨λhi=>?_,λhi=>⟨xs,aR s2 h1,by rw[h2.length];exact hi⟩,?_⟩⟩
  ·have hi':i<xs.length:=by rw[h2.length];exact hi
   exact⟨xs,xs[i],aR s2 h1,by simp[hi']⟩
  ·rintro x H3 ⟨rfl,y⟩ d ed G2 s3 s4
   obtain⟨x',e3,e4⟩:=h2.get ed;have:=y xs (aR s2 h1);rw[e3] at this;cases this;exact⟨G2,.refl s4,e4.mono s3⟩
 ·cases ef
def cg(n:Nat):List D:=(JB n).map λi=>.int (i:Nat)
def cq(f:Ev->Option D):Ev->Option (List D):=λε=>match f ε with | some (.int j)=>if j<1000000/\-1000000<j then some (cg j.toNat) else none | _=>none
theorem bY{tg:Expr}{p:Pos}(h:DE X a fa)(hm:X.mg "range" = none)(hg:Gl X "range":=by rfl)(hs:Qj [a] X.env=[(false,eval a X.env)]:=by rfl):DI X tg (.Call (.Name "range" p) [a] [] pos) (cq fa):=by
 obtain⟨t,a1,a2⟩:=h;refine⟨_,pS hg hm (b4 a1 du hs) hs,λHe G H σ ε ds R gh E ef q=>?_⟩;unfold cq at ef;split at ef
 ·rename_i j e1
  split at ef
  ·rename_i hj
   cases ef;refine a2 He G H σ ε _ _ gh E e1 λv G1 H1 g1 d1=>?_;refine⟨j,by rw[d1.intV],by lia,by lia,q _ G1 H1 g1 λi H2 s2=>⟨λhi=>?_,λhi=>?_,?_⟩⟩
   ·show i<j.toNat
    simpa[cg] using hi
   ·show j.toNat<=i
    simpa[cg] using hi
   ·rintro x H3 ⟨rfl,rfl⟩ d ed G2 s3 s4
    refine⟨G2,.refl s4,?_⟩;unfold cg at ed;rw[QG] at ed;obtain⟨m,em,rfl⟩:=a_ ed;obtain⟨hm,em⟩:=Qs.mp em;rw[List.getElem_range] at em;subst em;rw[Int.zero_add];exact .int _
  ·cases ef
 ·cases ef
def cf(g:D->Ev->Option Ev)(gb:Ev->Option Fl):List D->Ev->Option Fl
 |[],ε=>some (.nx ε)
 |d::ds,ε=>(g d ε).bind λε1=>(gb ε1).bind λr=>match r with
  |.nx ε2=>cf g gb ds ε2
  |.ct ε2=>cf g gb ds ε2
  |.bk ε2=>some (.nx ε2)
  |.rt v=>some (.rt v)
  |.ro v=>some (.ro v)
  |.xc c v=>some (.xc c v)
def cR(f:Ev->Option (List D))(g:D->Ev->Option Ev)(gb:Ev->Option Fl):Ev->Option Fl:=λε=>(f ε).bind λds=>cf g gb ds ε
theorem cG{tg iter:Expr}{body:List Stmt}{f:Ev->Option (List D)}{g:D->Ev->Option Ev}{gb:Ev->Option Fl}(hp:PassesOwn (Qi X.prog X.w) X.A X.env X.xe)(hc:X.calm=true)(hi:DI X tg iter f)(hg:DG X tg g)(hb:DSs X body gb)
  (hs:∀x,Jr iter X.env x=pure x:=by intro _;rfl):DS X (.For tg iter body [] pos) (cR f g gb):=by
 obtain⟨wi,i1,i2⟩:=hi;obtain⟨tg',g1,g2⟩:=hg;obtain⟨tb,b1,b2⟩:=hb;refine⟨_,xH hp hc i1 g1 b1 hs,λHe Ge G H σ ε r W S e P=>?_⟩;obtain⟨ds,e1,e⟩:=ar e;refine i2 He G H σ ε ds _ S.g.gh S.e e1 λJ G1 H1 gr it=>?_;have S1:=S.grow gr;refine⟨λi m σ H=>m=ds.length-i/\i<=ds.length/\∃G ε,Sta X.K He G1 G H σ ε/\cf g gb (ds.drop i) ε=some r,⟨ds.length,by simp,Nat.zero_le _,G1,ε,⟨S1.g.self,S1.e⟩,by simpa using e⟩,?_⟩;rintro i m σ2 H2 ⟨rfl,hi,G2,ε2,S2,e2⟩;obtain⟨go,stop,yld⟩:=it i H2 (S2.g.gg.trans S2.g.gh)
 by_cases hlt:i<ds.length
 ·refine .inr ⟨go hlt,λσ' H'=>i+1<=ds.length/\∃G ε,Sta X.K He G1 G H' σ' ε/\cf g gb (ds.drop (i+1)) ε=some r,λσ' H' ⟨q1,q2⟩=>⟨ds.length-(i+1),by lia,rfl,q1,q2⟩,λx H3 y=>?_⟩
  have ed:ds[i]?=some ds[i]:=by simp[hlt]
  obtain⟨G3,gr3,dx⟩:=yld x H3 y _ ed G2 S2.g.gg S2.g.gh;have S3:=S2.grow gr3;rw[List.drop_eq_getElem_cons hlt] at e2;obtain⟨ε3,e3,e2⟩:=ar e2;obtain⟨r4,e4,e2⟩:=ar e2;refine g2 He G3 H3 σ2 ε2 ε3 x ds[i] _ S3.g.gh S3.e dx e3 λσ4 E4=>?_;refine b2 He G1 G3 H3 σ4 ε3 r4 _ ⟨S3.g,E4⟩ e4 ?_;cases r4 with
  |nx ε5=>exact λσ5 G5 H5 S5=>⟨hlt,G5,ε5,S5,e2⟩
  |ct ε5=>exact λσ5 G5 H5 S5=>⟨hlt,G5,ε5,S5,e2⟩
  |bk ε5=>cases e2;exact λσ5 G5 H5 S5=>P σ5 G5 H5 ⟨S1.g.base S5.g,S5.e⟩
  |rt d=>cases e2;exact λv G5 H5 g5 d5=>P v G5 H5 (S1.g.base g5) d5
  |ro ds=>cases e2;exact λa xs G5 H5 g5 n1 n2 h5 d5=>P a xs G5 H5 (S1.g.base g5) n1 n2 h5 d5
  |xc c fs=>cases e2;exact λpins σ5 G5 H5 s5 a dx cls I5 g5 x5 m5 d5=>P pins σ5 G5 H5 s5 a dx cls I5 (S1.g.base g5) x5 m5 d5
 ·have e5:i=ds.length:=by lia
  subst e5;rw[List.drop_length] at e2;cases e2;exact .inl ⟨stop (Qn _),P σ2 G2 H2 ⟨S1.g.base S2.g,S2.e⟩⟩
end
theorem g_{K:Qc}{H:Hp}{vs:List V}{ds:List D}{N:List Str}{i:Nat}{s:Sl}(e:(dZ N ds)[i]?=some s):(∃d,s=.dat d/\ds[i]?=some d)\/s=.un:=by
 unfold dZ at e
 by_cases h:i<ds.length
 ·rw[Ji (by simpa using h),QG] at e
  obtain⟨d,e1,rfl⟩:=a_ e;exact .inl ⟨d,rfl,e1⟩
 ·rw[Q4 (by simpa using h),JF] at e
  split at e
  ·cases e;exact .inr rfl
  ·cases e
theorem cD{K:Qc}{G H:Hp}{vs:List V}{ds:List D}{N:List Str}(gh:aO G H)(h:DenL K G vs ds):Sta K H G G H (L2.start N vs) (dZ N ds):=by
 refine⟨.refl gh,?_,λ{i d} e=>?_,λ{i d} e=>?_,λ{i j ds' es a} e _ _ _=>?_,λ{i d} e=>?_,λ{i j ds' es a} e _ _ _=>?_⟩
 ·unfold L2.start dZ
  simp[h.length]
 ·rcases g_ (K:=K) (H:=H) (vs:=vs) e with⟨d',e1,e2⟩ | e1
  ·cases e1
   obtain⟨v,h1,h2⟩:=h.get e2;refine⟨v,?_,h2⟩;unfold L2.start;have hl:i<vs.length:=(Qs.mp h1).1;rw[Ji (by simpa using hl),QG,h1];rfl
  ·cases e1
 ·rcases g_ (K:=K) (H:=H) (vs:=vs) e with⟨d',e1,e2⟩ | e1<;>cases e1
 ·rcases g_ (K:=K) (H:=H) (vs:=vs) e with⟨d',e1,e2⟩ | e1<;>cases e1
 ·rcases g_ (K:=K) (H:=H) (vs:=vs) e with⟨d',e1,e2⟩ | e1<;>cases e1
 ·rcases g_ (K:=K) (H:=H) (vs:=vs) e with⟨d',e1,e2⟩ | e1<;>cases e1
section
variable{P:Qr}{w:Qu}{K:Qc}{mg:Str->Option Qb}{base:Heap}
theorem xF{x qual:Str}{st:Stmt}{f:Addr}{fd:QY}{N ps:List Str}{k:Nat}{F:List D->Option D}(g:Ev->Option Fl)(Fu:Fun K x qual st f fd)(S:FnScope N ps (aI st))(hlen:∀ds d,F ds=some d->ds.length=ps.length)
  (hg:∀ds d,F ds=some d->g (dZ N ds)=some (.rt d)\/(∃ε,g (dZ N ds)=some (.nx ε)/\d=.non)\/∃rs,g (dZ N ds)=some (.ro rs)/\d=.lst rs)
  (hb:∀(cdv:Qb) (A:QB) (outer:List Env) (s:Qd) (H:Hp) (E:XK),Room k (A.deeper (envOfC qual (aI st) s.heap.objs.size f cdv))->DSs (gv CX0 P w K mg base N qual (aI st) f cdv A outer s H E).nox (bA st) g):FnOk P w K mg base CX0 (k+1) f fd ps (spF K F):=by
 refine Fu.ok S (λvs H Q E h=>?_) (λcdv A outer s H vs Q E hr h=>?_)
 ·obtain⟨G,ds,d,gh,hd,e,q⟩:=h
  rw[hd.length];exact hlen ds d e
 ·obtain⟨G,ds,d,gh,hd,e,q⟩:=h
  obtain⟨t,h1,h2⟩:=hb cdv A outer s H E hr;refine⟨t,h1,?_⟩;rcases hg ds d e with e1 | ⟨ε,e1,rfl⟩ | ⟨rs,e1,rfl⟩
  ·exact h2 H G G H _ _ _ _ (cD gh hd) e1 λv G' H' g hd=>q v G' H' g hd
  ·exact h2 H G G H _ _ _ _ (cD gh hd) e1 λσ G' H' S'=>q _ G' H' S'.g .non
  ·exact h2 H G G H _ _ _ _ (cD gh hd) e1 λa xs G' H' g n1 n2 h3 d3=>q _ _ H' (g.seal n1 n2 h3) (nY n2 d3)
end
def fnD(N ps:List Str)(g:Ev->Option Fl):List D->Option D:=λds=>if ds.length=ps.length then(match g (dZ N ds) with | some (.rt d)=>some d | some (.nx _)=>some .non | some (.ro rs)=>some (.lst rs) | _=>none) else none
section
variable{P:Qr}{w:Qu}{K:Qc}{mg:Str->Option Qb}{base:Heap}
theorem oq{x qual:Str}{st:Stmt}{f:Addr}{fd:QY}{N ps:List Str}{k:Nat}{g:Ev->Option Fl}(Fu:Fun K x qual st f fd)(S:FnScope N ps (aI st))
  (hb:∀(cdv:Qb) (A:QB) (outer:List Env) (s:Qd) (H:Hp) (E:XK),Room k (A.deeper (envOfC qual (aI st) s.heap.objs.size f cdv))->DSs (gv CX0 P w K mg base N qual (aI st) f cdv A outer s H E).nox (bA st) g):FnOk P w K mg base CX0 (k+1) f fd ps (spF K (fnD N ps g)):=by
 refine xF g Fu S (λds d e=>?_) (λds d e=>?_) hb
 ·unfold fnD at e
  split at e
  ·assumption
  ·cases e
 ·unfold fnD at e
  split at e
  ·split at e
   ·rename_i d' e1;cases e;exact .inl e1
   ·rename_i ε e1;cases e;exact .inr (.inl ⟨ε,e1,rfl⟩)
   ·rename_i rs e1;cases e;exact .inr (.inr ⟨rs,e1,rfl⟩)
   ·cases e
  ·cases e
theorem uj{f:Addr}{fd:QY}{ps:List Str}{k:Nat}:FnOk P w K mg base CX0 k f fd ps (spF K λ_=>none):=
 ⟨λvs H Q E ⟨_,_,_,_,_,e,_⟩=>(by cases e),λA outer s H args us vs Q E _ _ _ _ ⟨_,_,_,_,_,e,_⟩=>(by cases e)⟩
structure FA(K:Qc)(mg:Str->Option Qb)(x:Str)(st:Stmt)(ps:List Str)(f:Addr)(fd:QY):Prop where
 fu:Fun K x x st f fd
 bi:gP K fd ps []
 mgf:mg x=some (.ref f)
theorem zp{h:Heap}{x:Str}{st:Stmt}{ps:List Str}{f:Addr}{oc:Qb}{od an:Option Addr}{osl:Array (Option Qb)}{kV doc pm cdv ct:Qb}(X:K.In h)(G:h.Ns QD mg)
  (a:QZ K QD x=some (some (.ref f)))
  (l:K.lookup f=some ⟨oc,od,.func (Jd x x (cA st) (bA st) (aI st) .none kV doc pm an cdv ct),osl⟩)
  (c:Zn K cdv x=true) (k:Jx K (.ref f)=true)
  (hb:∀(kV doc pm:Qb) (an:Option Addr) (cdv ct:Qb) (us:List Qb),us.length=ps.length->bindArgs (Jd x x (cA st) (bA st) (aI st) .none kV doc pm an cdv ct) ⟨us,[]⟩=pure (ps.zip us)) :
  FA K mg x st ps f (Jd x x (cA st) (bA st) (aI st) .none kV doc pm an cdv ct):=
 ⟨nM l c k,(nM l c k).binds hb,PySem.W.mg_of X G a⟩
end
section
variable{X:Cx}{a b c:Expr}{fa fb fc:Ev->Option D}{pos:Pos}
theorem lR{k j:Nat}{f:Addr}{fd:QY}{st:Stmt}{ps:List Str}{Fn:List D->Option D}{x:Str}{e:Expr}{es:List Expr}{g:Ev->Option (List D)}{p:Pos}
  (A:FA X.K X.mg x st ps f fd) (F:FnOk X.prog X.w X.K X.mg X.base CX0 j f fd ps (spF X.K Fn)) (hr:Room k X.A) (hj:j<=k)
  (ha:DA X (e::es) g) (hg:Gl X x:=by rfl) (hdb:(x==("__debug__" : Str))=false:=by decide) (he:Qj (e::es) X.env=(false,eval e X.env)::Qj es X.env:=by rfl) (hpl:(Ja pos (Qj es X.env)).any (·.1)=false:=by rfl) :
  DE X (.Call (.Name x p) (e::es) [] pos) (aL Fn g):=tQ F (hr.mono hj) A.mgf A.fu.kp A.bi ha hg hdb he hpl
def eCh(f f':D->D->Option D)(fa fb fc:Ev->Option D):Ev->Option D:=λε=>(fa ε).bind λx=>(fb ε).bind λy=>(f x y).bind λz=>match z with | .bl k=>if k=true then(fc ε).bind λw=>f' y w else some (.bl false) | _=>none
theorem qP{op op':CmpOp}{f f':D->D->Option D}(ho:OpD X (QE op) f)(ho':OpD X (QE op') f')(ha:DB X a fa)(hb:DB X b fb)(hc:DB X c fc)(hm:lastMarks [op,op'] [b,c]=false:=by with_unfolding_all rfl) :
  DE X (.Compare a [op,op'] [b,c] pos) (eCh f f' fa fb fc):=by
 obtain⟨r,o1,o2⟩:=ho;obtain⟨r',p1,p2⟩:=ho';obtain⟨ta,a1,a2⟩:=ha;obtain⟨tb,b1,b2⟩:=hb;obtain⟨tc,c1,c2⟩:=hc;refine⟨_,qG o1 p1 a1 b1 c1 hm,λHe G H σ ε d Q gh E ef q=>?_⟩;obtain⟨x,e1,ef⟩:=ar ef;obtain⟨y,e2,ef⟩:=ar ef;obtain⟨z,e3,ef⟩:=ar ef;refine a2 He G H σ ε x _ gh E e1 λv G1 H1 g1 d1=>?_;refine b2 He G1 H1 σ ε y _ g1.gh (E.grow g1) e2 λu G2 H2 g2 d2=>?_;split at ef
 ·rename_i k
  refine o2 G2 H2 v u x y (.bl k) _ g2.gh (d1.grow g2) d2 e3 λw G3 H3 g3 d3=>⟨k,d3.blV,?_⟩;cases k with
  |true=>
   rw[if_pos rfl] at ef ⊢;obtain⟨w',e4,ef⟩:=ar ef;refine c2 He G3 H3 σ ε w' _ g3.gh (((E.grow g1).grow g2).grow g3) e4 λv4 G4 H4 g4 d4=>?_;exact p2 G4 H4 u v4 y w' d Q g4.gh ((d2.grow g3).grow g4) d4 ef λv5 G5 H5 g5 d5=>q v5 G5 H5 (g1.trans (g2.trans (g3.trans (g4.trans g5)))) d5
  |false=>
   rw[if_neg Qh] at ef ⊢;cases ef;exact q _ _ _ (g1.trans (g2.trans g3)) (.bl _)
 ·cases ef
end
theorem lJ(K:Qc)(G:Hp):∀ns:List Int,DenL K G (ns.map V.int) (ns.map D.int)
 |[]=>.nil
 |n::r=>.cons (.int n) (lJ K G r)
def cxC(X:Cx)(sc:Scope)(cl:List (Str×Addr))(N':List Str)(C:Addr)(s₃:Qd)(H₃:Hp)(fp:List Addr)(pins:List (Addr×Obj)):Cx where
 prog:=X.prog
 w:=X.w
 K:=X.K
 mg:=X.mg
 base:=X.base
 A:=X.A
 N:=N'
 s₀:=s₃
 H₀:=H₃
 env:=compEnvC sc cl C X.env
 outer:=X.stack
 stack:=X.stack
 ex:=fp
 fn:=λ_=>false
 calm:=true
 pn:=X.pn++pins
 xe:=λ_ _=>False
structure CompSc(X:Cx)(sc:Scope)(cl:List (Str×Addr))(tn fr:List Str)(ix:List Nat):Prop where
 kind:sc.kind=.function
 nocell:∀y∈sc.names,y.2≠.cell
 names:∀y∈sc.names,y.2=.local->sc.names.lookup y.1=some .local
 clos:closureFor sc X.env=pure cl
 len:ix.length=fr.length
 at_:∀(k:Nat) (x:Str),fr[k]?=some x->∃j,ix[k]?=some j/\X.N[j]?=some x/\X.env.scope.names.lookup x=some .cell
 sub:∀x c,cl.lookup x=some c->X.env.cells.lookup x=some c
 has:∀x,((relabel sc X.env).names.lookup x=some .cell\/(relabel sc X.env).names.lookup x=some .free)->∃c,cl.lookup x=some c
 frc:∀x∈fr,(relabel sc X.env).names.lookup x=some .cell
def prS(n:Nat)(ix:List Nat)(σ:L2.St):L2.St:=List.replicate n none++ix.map λi=>σ.getD i none
def zH:Sl->Sl
 |.dat d=>.dat d
 |_=>.un
def prE(n:Nat)(ix:List Nat)(ε:Ev):Ev:=List.replicate n Sl.un++ix.map λi=>zH (ε.getD i .un)
theorem sI{X:Cx}{sc:Scope}{cl:List (Str×Addr)}{tn fr:List Str}{ix:List Nat}{pins:List (Addr×Obj)}{σ:L2.St}{H₃:Hp}{s₃:Qd}{fp:List Addr}{h₁:Heap}{tk:Nat}{m:Str->Option Qb}
  (S:CompSc X sc cl tn fr ix) (hc:X.calm=true) (I:Inv X pins σ H₃ s₃) (hf:∀b∈fp,ij X pins H₃ b) (hlt:∀b∈fp,b<s₃.heap.objs.size) (hn:h₁.Ns s₃.heap.objs.size m) (hk:∀b o,s₃.heap.get? b=some o->h₁.get? b=some o) :
  Inv (cxC X sc cl (tn++fr) s₃.heap.objs.size s₃ H₃ fp pins) [] (prS tn.length ix σ) H₃ { s₃ with heap:=h₁,toks:=tk }:=by
 have ncell:∀{x:Str} {c:Addr},X.env.cells.lookup x=some c->c<s₃.heap.objs.size:=λ{x c} e=>let⟨v,q⟩:=I.cell x c e;q.lt
 have hfs:∀b,b∈frs X.stack->b<s₃.heap.objs.size:=λb hb=>by
  rcases Ql.mp (I.stkSub b hb) with z | z
  ·rw[z];exact I.lt
  ·exact Nat.lt_of_not_le λq=>I.nofs q z
 refine⟨⟨I.ok.mod,?_,I.ok.glob,I.ok.blt,Qn _,?_,?_,?_,?_,I.ok.frames,.inl rfl,?_,?_,?_,?_,?_,?_,?_⟩,rfl,I.bare,Un.kept hk,⟨m,hn,?_⟩,?_,?_,?_,?_,I.hok.kept hk,?_⟩
 ·exact S.kind
 ·intro x y c h1 h2;exact I.ok.inj x y c (S.sub x c h1) (S.sub y c h2)
 ·intro x hx;exact S.has x hx
 ·intro x c h;cases h
 ·intro _;exact I.ok.hd hc
 ·intro b hb
  exact⟨QC (hlt b hb),λx c e=>(hf b hb).2.2.2.2.1 x c (S.sub x c e)⟩
 ·exact I.bs
 ·exact QK I.ok.bsz I.sz
 ·intro b o e hb
  rcases(hf b hb).2.2.2.1 with z | z
  ·exact I.ok.noex b o e z
  ·exact absurd (Qv (Qk e) (QK I.ok.bsz z)) (QR _)
 ·intro b hb z
  rcases Ql.mp (I.stkSub b z) with q | q
  ·exact(hf b hb).2.1 q
  ·exact(hf b hb).2.2.1 q
 ·exact I.stack
 ·exact I.stkFree
 ·intro i x v h1 h2 hv
  have hi:tn.length<=i:=by
   refine Nat.le_of_not_lt λq=>?_;unfold prS at h2;rw[Ji (by simpa using q),JF] at h2;split at h2<;>cases h2
  have h1':fr[i-tn.length]?=some x:=by
   have:(tn++fr)[i]?=some x:=h1;rwa [Q4 hi] at this
  obtain⟨j,e1,e2,e3⟩:=S.at_ _ x h1'
  have h2':σ[j]?=some (some v):=by
   unfold prS at h2;rw[Q4 (by simpa using hi),Jy,QG,e1] at h2;have h3:σ.getD j none=some v:=Option.some.inj h2;rw[QX] at h3;cases q:σ[j]? with
   |none=>rw[q] at h3;cases h3
   |some o=>rw[q] at h3;exact congrArg some h3
  obtain⟨mm,hm,hl⟩:=I.loc;obtain⟨u,r,l⟩:=hl j x v e2 h2' (.inr (.inl e3));refine⟨u,r,.inr ⟨.inl (S.frc x (Jp h1')),?_⟩⟩;rcases l with⟨k1,_⟩ | ⟨_,c,k2,k3⟩
  ·have:X.env.kindOf x=some .cell:=e3
   rw[this] at k1;cases k1
  ·obtain⟨c',k4⟩:=S.has x (.inl (S.frc x (Jp h1')))
   have:=S.sub x c' k4;rw[k2] at this;cases this;exact⟨c,k4,k3.keeps hk⟩
 ·intro x c e
  obtain⟨v,q⟩:=I.cell x c (S.sub x c e);exact⟨v,q.keeps hk⟩
 ·exact I.hok.fresh (Qn _)
 ·intro x c e;exact I.freeC x c (S.sub x c e)
 ·intro p hp
  have hp':p∈X.pn++pins:=(Jh.mp hp).elim (λin1=>in1) λin2=>by cases in2
  obtain⟨q1,q2,q3,q4,q5⟩:=I.pin p hp';refine⟨hk _ _ q1,q2,QC (Qk q1),λz=>?_,q5⟩;rcases Ql.mp (I.stkSub _ z) with w | w
  ·exact q3 w
  ·exact q4 w
 ·unfold prS
  show _=(tn++fr).length;rw[Qw,Qw,Jy,Qz,S.len]
theorem sQ{K:Qc}{He G H:Hp}{σ:L2.St}{ε:Ev}(n:Nat)(ix:List Nat)(E:EnvD K He G H σ ε):EnvD K He G H (prS n ix σ) (prE n ix ε):=by
 have look:∀{i:Nat} {s:Sl},(prE n ix ε)[i]?=some s->s=.un\/∃j d,n<=i/\ix[i-n]?=some j/\ε[j]?=some (.dat d)/\s=.dat d:=λ{i s} e=>by
  unfold prE at e
  by_cases h:i<n
  ·rw[Ji (by simpa using h),JF,if_pos h] at e
   cases e;exact .inl rfl
  ·rw[Q4 (by simpa using h),Jy,QG] at e
   obtain⟨j,e1,rfl⟩:=a_ e;rw[show ε.getD j .un=(ε[j]?).getD .un from QX];cases q:ε[j]? with
   |none=>exact .inl rfl
   |some sl=>
    cases sl with
    |un=>exact .inl rfl
    |own ds=>exact .inl rfl
    |odi ds=>exact .inl rfl
    |dat d=>exact .inr ⟨j,d,by lia,e1,q,rfl⟩
 refine⟨by simp[prS,prE],λ{i d} e=>?_,λ{i ds} e=>?_,λ{i j ds es a} e _ _ _=>?_,λ{i ds} e=>?_,λ{i j ds es a} e _ _ _=>?_⟩
 ·rcases look e with z | ⟨j,d',h1,h2,h3,h4⟩
  ·cases z
  ·cases h4
   obtain⟨v,w1,w2⟩:=E.dat h3;refine⟨v,?_,w2⟩;unfold prS;rw[Q4 (by simpa using h1),Jy,QG,h2];show some (σ.getD j none)=_;rw[QX,w1];rfl
 ·rcases look e with z | ⟨j,d',h1,h2,h3,h4⟩
  ·cases z
  ·cases h4
 ·rcases look e with z | ⟨j,d',h1,h2,h3,h4⟩
  ·cases z
  ·cases h4
 ·rcases look e with z | ⟨j,d',h1,h2,h3,h4⟩
  ·cases z
  ·cases h4
 ·rcases look e with z | ⟨j,d',h1,h2,h3,h4⟩
  ·cases z
  ·cases h4
def NoO(ε:Ev):Prop:=∀(j:Nat) es,ε[j]?≠some (.own es)
def NoG(g:D->Ev->Option Ev):Prop:=∀d ε ε',g d ε=some ε'->NoO ε->NoO ε'
def uK(g:List D->Ev->Option Ev):Prop:=∀d ε ε',g d ε=some ε'->NoO ε->NoO ε'
theorem b6(i:Nat):NoG (ak i):=λd ε ε' e h j es q=>by
 cases e;rw[Qq] at q;split at q
 ·split at q<;>cases q
 ·exact h j es q
theorem ly:uK bw:=λd ε ε' e h=>by
 unfold bw at e;split at e
 ·cases e;exact h
 ·cases e
theorem cN{g1:D->Ev->Option Ev}{g2:List D->Ev->Option Ev}(h1:NoG g1)(h2:uK g2):uK (ax g1 g2):=λd ε ε' e h=>by
 unfold ax at e;split at e
 ·obtain⟨ε1,e1,e⟩:=ar e
  exact h2 _ _ _ e (h1 _ _ _ e1 h)
 ·cases e
theorem n6{n:Nat}{g:List D->Ev->Option Ev}(h:uK g):NoG (fj n g):=λd ε ε' e hn=>by
 unfold fj at e;split at e
 ·split at e
  ·exact h _ _ _ e hn
  ·cases e
 ·cases e
theorem wm(n:Nat)(ix:List Nat)(ε:Ev):NoO (prE n ix ε):=λi es e=>by
 unfold prE at e
 by_cases h:i<n
 ·rw[Ji (by simpa using h),JF,if_pos h] at e
  cases e
 ·rw[Q4 (by simpa using h),Jy,QG] at e
  obtain⟨j,e1,e2⟩:=a_ e
  revert e2
  cases ε.getD j .un<;>intro z<;>cases z
def DIf(X:Cx)(ifs:List Expr)(f:Ev->Option Bool):Prop:=∃t:TT,(∀(pins:List (Addr×Obj)) (s:Qd) (σ:L2.St) (H:Hp) (Q:Bool->Hp->Prop),Inv X pins σ H s->t σ H Q->
  Qg (Qi X.prog X.w) X.A (forIn ifs true λc r=>if r=true then do let ok<-isTrue c X.env (eval c X.env);pure (ForInStep.yield ok) else pure (ForInStep.yield r)) (TP X pins σ Q) X.xe s)/\
 ∀(He G H:Hp) (σ:L2.St) (ε:Ev) (b:Bool) (Q:Bool->Hp->Prop),aO G H->EnvD X.K He G H σ ε->f ε=some b->(∀G' H',Grow G H G' H'->Q b H')->t σ H Q
def lg:Ev->Option Bool:=λ_=>some true
theorem og{X:Cx}:DIf X [] lg:=⟨λσ H Q=>Q true H,λpins s σ H Q I h=>wpAny_tests_nil ⟨H,I,h⟩,λHe G H σ ε b Q gh E e q=>by cases e;exact q G H (.refl gh)⟩
theorem gX{X:Cx}{c:Expr}{f:Ev->Option Bool}(h:DT X c f):DIf X [c] f:=by
 obtain⟨t,h1,h2⟩:=h;exact⟨t,λpins s σ H Q I hq=>wpAny_tests_one (h1 pins s σ H Q I hq),h2⟩
def lcD(g:D->Ev->Option Ev)(ft:Ev->Option Bool)(fe:Ev->Option D):List D->Ev->Option (List D)
 |[],_=>some []
 |d::ds,ε=>(g d ε).bind λε1=>(ft ε1).bind λk=>if k=true then(fe ε1).bind λv=>(lcD g ft fe ds ε1).bind λr=>some (v::r) else lcD g ft fe ds ε1
theorem fF{prog:Qr}{w:Qu}{A:QB}{R:Result->Qd->Prop}{t0:Qd}{elt tg iter:Expr}{ifs:List Expr}{sc:Scope}{pos:Pos}{it acc:Qb}{ce:Env}(J:Nat->Qd->Prop)
  (step:∀k t,J k t->Qg (Qi prog w) A (pyNext it) (λo t1=>match o with | none=>R (.ok .next) t1 | some v=>Qg (Qi prog w) A (letOwnedTupleGo tg it v) (λ_ t2=>Qg (Qi prog w) A (assign tg ce v) (λ_ t3=>
   Qg (Qi prog w) A (forIn ifs true λc r=>if r=true then do let ok<-isTrue c ce (eval c ce);pure (ForInStep.yield ok) else pure (ForInStep.yield r)) (λyes t4=>if yes=true then Qg (Qi prog w) A (eval elt ce) (λx t5=>
    Qg (Qi prog w) A (call (.builtin "list.append") [acc,x]) (λ_ t6=>∃j,j<k/\J j t6) (λ_ _=>False) t5) (λ_ _=>False) t4 else ∃j,j<k/\J j t4) (λ_ _=>False) t3) (λ_ _=>False) t2) (λ_ _=>False) t1) (λ_ _=>False) t)
  (k0:Nat) (h0:J k0 t0):J1 (Qi prog w) A (.compLoop (.ListComp elt [⟨tg,iter,ifs,0⟩] sc pos) 0 it acc ce) R t0:=by
 refine codeAny_loop rfl J (λk t hJ=>?_) k0 h0;show Qg _ A ((compTurn (.ListComp elt [⟨tg,iter,ifs,0⟩] sc pos) 0 it acc ce).onRaise (λx=>do noteFrame x ce;theTreesLotGoes x)) _ _ t;refine wpAny_noted ?_;rw[compTurn_list];refine Qa (JT (Qa (Q0 (step k t hJ) (λo t1 q1=>?_) λ_ _ z=>z.elim)));cases o with
 |none=>exact Qf q1
 |some v=>
  refine Qa (Q0 q1 (λ_ t2 q2=>Qa (Q0 q2 (λ_ t3 q3=>Qa (Q0 q3 (λyes t4 q4=>?_) λ_ _ z=>z.elim)) λ_ _ z=>z.elim)) λ_ _ z=>z.elim);cases yes with
  |true=>exact Qa (Qa (Q0 q4 (λx t5 q5=>Qa (Q0 q5 (λ_ t6 q6=>Qf (Qf ⟨rfl,q6⟩)) λ_ _ z=>z.elim)) λ_ _ z=>z.elim))
  |false=>exact Qf ⟨rfl,q4⟩
section
variable{X:Cx}{elt tg iter:Expr}{ifs:List Expr}{sc:Scope}{cl:List (Str×Addr)}{tn fr:List Str}{ix:List Nat}{pos:Pos}{fi:Ev->Option (List D)}{g:D->Ev->Option Ev}{ft:Ev->Option Bool}{fe:Ev->Option D}
def DEp(Nv:Hp->Hp->V->Prop)(X:Cx)(e:Expr)(f:Ev->Option D):Prop:=∃t,PE X e t/\∀(He G H:Hp) (σ:L2.St) (ε:Ev) (d:D) (Q:VK),aO G H->EnvD X.K He G H σ ε->f ε=some d->
 (∀v G' H',Grow G H G' H'->Den X.K G' v d->Nv H G' v->Q v H')->t σ H Q
theorem DE.p{X:Cx}{e:Expr}{f:Ev->Option D}(h:DE X e f):DEp (λ_ _ _=>True) X e f:=
 let⟨t,h1,h2⟩:=h;⟨t,h1,λHe G H σ ε d Q gh E ef q=>h2 He G H σ ε d Q gh E ef λv G' H' g hd=>q v G' H' g hd trivial⟩
def sj(Nv:Hp->Hp->V->Prop)(X:Cx)(pins:List (Addr×Obj))(σ:L2.St)(G H:Hp)(ds:List D)(RR:Qb->Addr->Result->Qd->Prop):Prop:=
 ∀(a:Addr) (xs:List V) (G' H':Hp) (C:Addr) (oC:Obj) (m:Str->Option Qb) (s':Qd),Inv X (pins++[(C,oC)]) σ H' s'->s'.heap.Ns C m->X.s₀.heap.objs.size<=C->(∀p∈X.pn++pins,p.1≠C)->
  Grow G H G' H'->H a=none->G' a=none->H' a=some (.lst xs)->DenL X.K G' xs ds->(∀y∈xs,Nv H G' y)->RR (.ref a) C (.ok .next) s'
variable{Nv:Hp->Hp->V->Prop}(an:∀(H H' G G':Hp) (v:V),aO H H'->aO G G'->Nv H' G v->Nv H G' v)
include an
theorem rE{pins:List (Addr×Obj)}{σ:L2.St}{H He G G1 H3:Hp}{s3:Qd}{ε:Ev}{ds rs:List D}{RR:Qb->Addr->Result->Qd->Prop}{it Dd:Addr}{fp:List Addr}{tn':Nat->Heap->Prop}{J:It}{h₁:Heap}{m:Str->Option Qb}{tk:Nat}
  (hc:X.calm=true) (S:CompSc X sc cl tn fr ix) (ng:NoG g)
  (hg:∀C s₃ H₃ fp pins,DG (cxC X sc cl (tn++fr) C s₃ H₃ fp pins) tg g) (ht:∀C s₃ H₃ fp pins,DIf (cxC X sc cl (tn++fr) C s₃ H₃ fp pins) ifs ft) (he:∀C s₃ H₃ fp pins,DEp Nv (cxC X sc cl (tn++fr) C s₃ H₃ fp pins) elt fe)
  (I3:Inv X pins σ H3 s3) (E:EnvD X.K He G H σ ε) (hz:ds.length<1000000) (er:lcD g ft fe ds (prE tn.length ix ε)=some rs) (after:sj Nv X pins σ G H rs RR)
  (T:Turn X.prog X.w X.K tg J fp it tn') (itd:ItD X.K J ds G1) (f3:∀b∈fp,ij X pins H3 b) (lt3:∀b∈fp,b<s3.heap.objs.size) (st3:tn' 0 s3.heap) (gr3:Grow G H G1 H3)
  (eD:H3 Dd=some (.lst [])) (nD:H Dd=none) (gD:G1 Dd=none) (hn:h₁.Ns s3.heap.objs.size m) (hk:∀b o,s3.heap.get? b=some o->h₁.get? b=some o) :
  J1 (Qi X.prog X.w) X.A (.compStart (.ListComp elt [⟨tg,iter,ifs,0⟩] sc pos) 0 (.ref it) (.ref Dd) (compEnvC sc cl s3.heap.objs.size X.env)) (RR (.ref Dd) s3.heap.objs.size) { s3 with heap:=h₁,toks:=tk }:=by
 have I4:=sI (tk:=tk) S hc I3 f3 lt3 hn hk;have st4:tn' 0 h₁:=T.keep _ _ _ st3 λb hb o e=>hk b o e;obtain⟨tgt,g1,g2⟩:=hg s3.heap.objs.size s3 H3 fp pins;obtain⟨tt,t1,t2⟩:=ht s3.heap.objs.size s3 H3 fp pins;obtain⟨te,e1,e2⟩:=he s3.heap.objs.size s3 H3 fp pins
 have stat:∀{H':Hp},(∀b∈fp,H' b=none)->∀b∈fp,ij (cxC X sc cl (tn++fr) s3.heap.objs.size s3 H3 fp pins) [] H' b:=λ{H'} hn b hb=>by
  obtain⟨_,q1,q2,q3,q4,q5⟩:=f3 b hb;refine⟨hn b hb,QC (lt3 b hb),λz=>?_,.inl hb,λx c e=>q4 x c (S.sub x c e),λp hp=>q5 p ?_⟩
  ·rcases Ql.mp (I3.stkSub b z) with w | w
   ·exact q1 w
   ·exact q2 w
  ·rcases Jh.mp hp with w | w
   ·exact w
   ·cases w
 have loop:∀s':Qd,s'={ s3 with heap:=h₁,toks:=tk }->J1 (Qi X.prog X.w) X.A (.compLoop (.ListComp elt [⟨tg,iter,ifs,0⟩] sc pos) 0 (.ref it) (.ref Dd) (compEnvC sc cl s3.heap.objs.size X.env)) (RR (.ref Dd) s3.heap.objs.size) s':=by
  rintro s' rfl
  refine fF (λn s'=>∃(i:Nat) (σ':L2.St) (G' H':Hp) (ε':Ev) (xs:List V) (dn rest:List D),n=ds.length+1-i/\i<=ds.length/\Inv (cxC X sc cl (tn++fr) s3.heap.objs.size s3 H3 fp pins) [] σ' H' s'/\tn' i s'.heap/\(∀b∈fp,H' b=none)/\
   Grow G H G' H'/\aO G1 G'/\EnvD X.K He G' H' σ' ε'/\NoO ε'/\H' Dd=some (.lst xs)/\G' Dd=none/\DenL X.K G' xs dn/\(∀y∈xs,Nv H G' y)/\xs.length<=i/\lcD g ft fe (ds.drop i) ε'=some rest/\rs=dn++rest) ?_ (ds.length+1)
   ⟨0,_,G1,H3,_,[],[],rs,rfl,Nat.zero_le _,I4,st4,λb hb=>(f3 b hb).1,gr3,aO.refl _,sQ tn.length ix (E.grow gr3),wm _ _ _,eD,gD,.nil,(λ_ z=>nomatch z),Qn _,by simpa using er,rfl⟩
  rintro n s5 ⟨i,σ',G',H',ε',xs,dn,rest,rfl,hi,I5,st5,fr5,gr5,sG,E5,no5,hD,hGD,hden,hNv,hxl,el,ers⟩;obtain⟨go,stop,yld⟩:=itd i H' (sG.trans gr5.gh)
  by_cases hlt:i<ds.length
  ·refine thn (T.item (cxC X sc cl (tn++fr) s3.heap.objs.size s3 H3 fp pins) rfl rfl rfl rfl i [] s5 σ' H' (λ_ _=>False) I5 (stat fr5) st5 (go hlt)) λr s6 ⟨u,hr,h6⟩=>?_
   subst hr;refine thn h6 λ_ s7 ⟨x,H7,I7,r7,y7,st7,fr7⟩=>?_;have I7':=I7.pinned (stat fr7) (T.obj _ _ st7);have ed:ds[i]?=some ds[i]:=by simp[hlt]
   obtain⟨G7,gr7,dx⟩:=yld x H7 y7 _ ed G' sG gr5.gh;rw[List.drop_eq_getElem_cons hlt] at el;obtain⟨ε8,e8,el⟩:=ar el;obtain⟨k,e9,el⟩:=ar el;refine thn (g1 _ s7 σ' H7 x u (λσ8 H8=>H8=H7/\EnvD X.K He G7 H7 σ8 ε8) I7' r7 (g2 He G7 H7 σ' ε' ε8 x ds[i] _ gr7.gh (E5.grow gr7) dx e8 λσ8 E8=>⟨rfl,E8⟩)) λ_ s8 ⟨σ8,H8,I8,e10,E8⟩=>?_;subst e10;refine thn (t1 _ s8 σ8 H8 (λb H9=>b=k/\∃G9,Grow G7 H8 G9 H9) I8 (t2 He G7 H8 σ8 ε8 k _ gr7.gh E8 e9 λG9 H9 gr9=>⟨rfl,G9,gr9⟩)) λok s9 ⟨H9,I9,ek,G9,gr9⟩=>?_;subst ek
   have again:∀{s10:Qd} {G10 H10:Hp} {ys:List V} {dn' rest':List D},Inv (cxC X sc cl (tn++fr) s3.heap.objs.size s3 H3 fp pins) ([]++jO fp s7.heap) σ8 H10 s10->Grow G H G10 H10->aO G1 G10->EnvD X.K He G10 H10 σ8 ε8->H10 Dd=some (.lst ys)->G10 Dd=none->DenL X.K G10 ys dn'->(∀y∈ys,Nv H G10 y)->ys.length<=i+1->
     lcD g ft fe (ds.drop (i+1)) ε8=some rest'->rs=dn'++rest'->∃m,m<ds.length+1-i/\∃(i:Nat) (σ':L2.St) (G' H':Hp) (ε':Ev) (xs:List V) (dn rest:List D),m=ds.length+1-i/\i<=ds.length/\Inv (cxC X sc cl (tn++fr) s3.heap.objs.size s3 H3 fp pins) [] σ' H' s10/\tn' i s10.heap/\(∀b∈fp,H' b=none)/\
   Grow G H G' H'/\aO G1 G'/\EnvD X.K He G' H' σ' ε'/\NoO ε'/\H' Dd=some (.lst xs)/\G' Dd=none/\DenL X.K G' xs dn/\(∀y∈xs,Nv H G' y)/\xs.length<=i/\lcD g ft fe (ds.drop i) ε'=some rest/\rs=dn++rest:=λ{s10 G10 H10 ys dn' rest'} I10 gr10 sG10 E10 hD10 hG10 den10 nv10 len10 el10 ers10=>by
    refine⟨ds.length+1-(i+1),by lia,i+1,σ8,G10,H10,ε8,ys,dn',rest',rfl,hlt,I10.unpinned,T.keep _ _ _ st7 λb hb o e=>(I10.pin (b,o) (Qm _ (Qm _ (eL hb e)))).1,λb hb=>?_,gr10,sG10,E10,ng _ _ _ e8 no5,hD10,hG10,den10,nv10,len10,el10,ers10⟩;obtain⟨o,e,d⟩:=T.obj _ _ st7 b hb;exact(I10.pin (b,o) (Qm _ (Qm _ (eL hb e)))).2.1
   have gr9':=gr5.trans (gr7.trans gr9);have sG9:aO G1 G9:=sG.trans (gr7.gg.trans gr9.gg);have hD9:H9 Dd=some (.lst xs):=gr9.hh _ _ (gr7.hh _ _ hD);have hG9:G9 Dd=none:=gr9.fo _ _ (gr7.hh _ _ hD) (gr7.fo _ _ hD hGD);cases ok with
   |false=>
    rw[if_neg Qh] at el;rw[if_neg Qh];exact again I9 gr9' sG9 (E8.grow gr9) hD9 hG9 (hden.mono (gr7.gg.trans gr9.gg)) (λz hz=>an _ _ _ _ z (aO.refl _) (gr7.gg.trans gr9.gg) (hNv z hz)) (by lia) el ers
   |true=>
    rw[if_pos rfl] at el;rw[if_pos rfl];obtain⟨vd,e11,el⟩:=ar el;obtain⟨rest',e12,el⟩:=ar el;cases el;refine thn (e1 _ s9 σ8 H9 (λy H10=>∃G10,Grow G9 H9 G10 H10/\Den X.K G10 y vd/\Nv H9 G10 y) I9 (e2 He G9 H9 σ8 ε8 vd _ gr9.gh (E8.grow gr9) e11 λy G10 H10 gr10 dy ny=>⟨G10,gr10,dy,ny⟩)) λuv s10 ⟨y,H10,I10,r10,G10,gr10,dy,ny⟩=>?_;have hD10:=gr10.hh _ _ hD9;have hG10:=gr10.fo _ _ hD9 hG9;have hl:xs.length<Qt:=Nat.lt_of_le_of_lt hxl (JN (JN hlt hz) (by decide));refine thn (ig _ s10 σ8 H10 (.ref Dd) [y] (.ref Dd) [uv] (λ_ H11=>H11=upd H10 Dd (.lst (xs++[y]))) I10 rfl (.cons r10 .nil) ⟨Dd,xs,y,rfl,rfl,hD10,hl,rfl⟩) λ_ s11 ⟨_,H11,I11,_,e13⟩=>?_;subst e13;have gr10':=gr9'.trans gr10;have keep:∀{b:Addr} {o:HO},b≠Dd->H10 b=some o->upd H10 Dd (.lst (xs++[y])) b=some o:=λ{b o} nb e=>by rw[aA nb];exact e
    refine again I11 ⟨λb o e=>keep (aG e nD) (gr10'.hh b o e),gr10'.gg,λb o e=>keep (aG e hG10) (gr10'.gh b o e),gr10'.fo⟩ (sG9.trans gr10.gg) ?_ ay hG10 (((hden.mono (gr7.gg.trans gr9.gg)).mono gr10.gg).append (.one dy)) (λz hz=>by
     rcases Jh.mp hz with hz | hz
     ·exact an _ _ _ _ z (aO.refl _) ((gr7.gg.trans gr9.gg).trans gr10.gg) (hNv z hz)
     ·rw[QO.mp hz];exact an _ _ _ _ _ gr9'.hh (aO.refl _) ny) (by rw[Qw];simp;lia) e12 (by rw[ers];simp)
    have E10:=(E8.grow gr9).grow gr10
    exact⟨E10.len,E10.dat,λ{j es} e=>by
     obtain⟨b,zs,w1,w2,w3,w4,w5⟩:=E10.own e;exact(ng _ _ _ e8 no5 _ _ e).elim,E10.apart,λ{j es} e=>by
     obtain⟨b,zs,ep,w1,w2,w3,w4,w5,w6⟩:=E10.odi e
     exact⟨b,zs,ep,w1,keep (λq=>by subst q;rw[hD10] at w2;cases w2) w2,w3,w4,w5,w6⟩,E10.apartD⟩
  ·have e5:i=ds.length:=by lia
   subst e5;rw[List.drop_length] at el;cases el;refine thn (T.done (cxC X sc cl (tn++fr) s3.heap.objs.size s3 H3 fp pins) rfl rfl rfl rfl ds.length [] s5 σ' H' (λ_ _=>False) I5 (stat fr5) st5 (stop (Qn _))) λr s6 ⟨hr,I6⟩=>?_;subst hr;obtain⟨m6,⟨oC,es,ep,ho,hdt,hrest⟩,_⟩:=id I6.loc;have IX:Inv X pins σ H' s6:=I3.call' I6.os I6.base I6.hok I6.bare λb hb=>⟨(f3 b hb).2.2.2.1,(f3 b hb).2.1,(f3 b hb).2.2.2.2.1,(f3 b hb).2.2.2.2.2⟩;have pC:∀p∈X.pn++pins,p.1≠s3.heap.objs.size:=λp hp=>QC (Qk (I3.pin p hp).1)
   have IX':Inv X (pins++[(s3.heap.objs.size,oC)]) σ H' s6:=IX.pins_of λp hp=>by
    rcases Jh.mp hp with older | newer
    ·exact IX.pin p (Qm _ older)
    ·rw[QO.mp newer]
     exact⟨ho,I6.free,Ne.symm (QC I3.lt),I3.nofs (Qn _),λv q=>by rw[hdt] at q;cases q⟩
   exact after Dd xs G' H' s3.heap.objs.size oC m6 s6 IX' ⟨oC,es,ep,ho,hdt,hrest⟩ I3.sz pC gr5 nD hGD hD (by rw[ers,Q6];exact hden) hNv
 exact codeAny_compStart_list (loop _ rfl) (T.self X.A 0 _ _ _ st4 (loop _ rfl))
theorem k7{pins:List (Addr×Obj)}{σ:L2.St}{H He G:Hp}{s:Qd}{ε:Ev}{ds rs:List D}{RR:Qb->Addr->Result->Qd->Prop}(hc:X.calm=true)(hi:DI X tg iter fi)(S:CompSc X sc cl tn fr ix)(ng:NoG g)
  (hg:∀C s₃ H₃ fp pins,DG (cxC X sc cl (tn++fr) C s₃ H₃ fp pins) tg g) (ht:∀C s₃ H₃ fp pins,DIf (cxC X sc cl (tn++fr) C s₃ H₃ fp pins) ifs ft) (he:∀C s₃ H₃ fp pins,DEp Nv (cxC X sc cl (tn++fr) C s₃ H₃ fp pins) elt fe)
  (I:Inv X pins σ H s) (gh:aO G H) (E:EnvD X.K He G H σ ε) (ei:fi ε=some ds) (hz:ds.length<1000000) (er:lcD g ft fe ds (prE tn.length ix ε)=some rs) (after:sj Nv X pins σ G H rs RR) :
  Qg (Qi X.prog X.w) X.A (eval iter X.env) (λx s₁=>Qg (Qi X.prog X.w) X.A (pyIter x) (λit s₂=>Qg (Qi X.prog X.w) X.A (newList []) (λacc s₃=>
   Qg (Qi X.prog X.w) X.A (newFunctionEnv sc X.env.globals cl [] X.env.qual none .none (some X.env)) (λcenv s₄=>
    J1 (Qi X.prog X.w) X.A (.compStart (.ListComp elt [⟨tg,iter,ifs,0⟩] sc pos) 0 it acc { cenv with scope:=relabel sc X.env }) (RR acc cenv.locals) s₄) X.xe s₃) X.xe s₂) X.xe s₁) X.xe s:=by
 obtain⟨wi,i1,i2⟩:=hi;refine thn (i1 pins s σ H (λJ H'=>∃G1,Grow G H G1 H'/\ItD X.K J ds G1) I (i2 He G H σ ε ds _ gh E ei λJ G' H' gr itd=>⟨G',gr,itd⟩)) λv s1 h1=>thn h1 λitv s2 h2=>?_;obtain⟨it,fp,tn',J,H2,rfl,I2,T,st2,f2,G1,gr,itd⟩:=h2;refine QS (wpAny_newFunctionEnv S.nocell (by intro y hy;simp at hy) (λh₁ hns₁ hsb₁=>?_) S.kind);dsimp only at hns₁ hsb₁ ⊢;have fr2:H2 s2.heap.objs.size=none:=I2.hok.fresh (Qn _)
 have I3:Inv X pins σ (upd H2 s2.heap.objs.size (.lst [])) { s2 with heap:=s2.heap.push { cls:=.type "list",dict:=none,data:=.seq ([]:List Qb).toArray } }:=
  I2.laid (t':=s2.toks) (o:=.lst []) (λb ob q=>Qe _ q) (Qn _) ⟨Nat.zero_le _,[],0,.nil,Qo _ rfl⟩
 have fpD:∀b∈fp,b≠s2.heap.objs.size:=λb hb z=>by
  obtain⟨o,e,_⟩:=T.obj 0 _ st2 b hb;exact absurd (Qk e) (by rw[z];exact QR _)
 have f3:∀b∈fp,ij X pins (upd H2 s2.heap.objs.size (.lst [])) b:=λb hb=>⟨by rw[aA (fpD b hb)];exact(f2 b hb).1,(f2 b hb).2⟩
 have lt3:∀b∈fp,b<(s2.heap.push { cls:=.type "list",dict:=none,data:=.seq ([]:List Qb).toArray }).objs.size:=λb hb=>by
  obtain⟨o,e,_⟩:=T.obj 0 _ st2 b hb;rw[QP];exact Nat.lt_succ_of_lt (Qk e)
 have st3:tn' 0 (s2.heap.push { cls:=.type "list",dict:=none,data:=.seq ([]:List Qb).toArray }):=T.keep _ _ _ st2 λb hb o e=>Qe _ e;have gr3:Grow G H G1 (upd H2 s2.heap.objs.size (.lst [])):=gr.trans (.lay _ gr.gh fr2);have nD:H s2.heap.objs.size=none:=gr.hh.free fr2;have gD:G1 s2.heap.objs.size=none:=gr.gh.free fr2;exact rE an (s3:={ s2 with heap:=s2.heap.push { cls:=.type "list",dict:=none,data:=.seq ([]:List Qb).toArray } }) hc S ng hg ht he I3 E hz er after T itd f3 lt3 st3 gr3 ay nD gD hns₁ λb o e=>hsb₁.extBut b o (QC (Qk e)) (Qe _ e)
omit an
theorem lh{pins:List (Addr×Obj)}{σ:L2.St}{H':Hp}{s':Qd}{C:Addr}{oC:Obj}{h':Heap}(IX:Inv X (pins++[(C,oC)]) σ H' s')(hC:X.s₀.heap.objs.size<=C)(pC:∀p∈X.pn++pins,p.1≠C)(hs:JD C s'.heap h') :
  Inv X pins σ H' { s' with heap:=h' }:=by
 obtain⟨q1,q2,q3,q4,q5⟩:=IX.pin (C,oC) (Qm _ (Qm _ (QO.mpr rfl)));refine IX.unpinned.turned (t':=s'.toks) (it:=C) (λb o hb e=>hs.extBut b o hb e) q2 q3 (.inr hC) (λx c e z=>?_) pC;obtain⟨v,w⟩:=IX.cell x c e;rw[z] at w;obtain⟨o,w1,w2⟩:=id w;rw[q1] at w1;cases w1;exact q5 _ w2
def eLC(fi:Ev->Option (List D))(n:Nat)(ix:List Nat)(g:D->Ev->Option Ev)(ft:Ev->Option Bool)(fe:Ev->Option D):Ev->Option (List D):=λε=>(fi ε).bind λds=>if ds.length<1000000 then lcD g ft fe ds (prE n ix ε) else none
include an in
theorem wQ(hc:X.calm=true)(hi:DI X tg iter fi)(S:CompSc X sc cl tn fr ix)(ng:NoG g)
  (hg:∀C s₃ H₃ fp pins,DG (cxC X sc cl (tn++fr) C s₃ H₃ fp pins) tg g) (ht:∀C s₃ H₃ fp pins,DIf (cxC X sc cl (tn++fr) C s₃ H₃ fp pins) ifs ft) (he:∀C s₃ H₃ fp pins,DEp Nv (cxC X sc cl (tn++fr) C s₃ H₃ fp pins) elt fe)
  (hs:∀x,Jr iter X.env x=pure x:=by intro _;rfl):∃t,PE X (.ListComp elt [⟨tg,iter,ifs,0⟩] sc pos) t/\∀(He G H:Hp) (σ:L2.St) (ε:Ev) (ds:List D) (Q:VK),aO G H->EnvD X.K He G H σ ε->eLC fi tn.length ix g ft fe ε=some ds->
   (∀a xs G' H',Grow G H G' H'->H a=none->G' a=none->H' a=some (.lst xs)->DenL X.K G' xs ds->(∀y∈xs,Nv H G' y)->Q (.ref a) H')->t σ H Q:=by
 refine⟨λσ H Q=>∃He G ε rs,aO G H/\EnvD X.K He G H σ ε/\eLC fi tn.length ix g ft fe ε=some rs/\∀a xs G' H',Grow G H G' H'->H a=none->G' a=none->H' a=some (.lst xs)->DenL X.K G' xs rs->(∀y∈xs,Nv H G' y)->Q (.ref a) H',λpins s σ H Q I hq=>?_,
  λHe G H σ ε ds Q gh E ef q=>⟨He,G,ε,ds,gh,E,ef,q⟩⟩
 obtain⟨He,G,ε,rs,gh,E,ef,q⟩:=hq;obtain⟨ds,ei,ef⟩:=ar ef;split at ef
 ·rename_i hz
  rw[eval_ListComp];refine wpAny_comprehension_free (use:=none) rfl hs S.clos S.kind S.names (k7 an (RR:=λacc C=>compPost (Qi X.prog X.w) X.A X.xe none (EP X pins σ Q) acc C) hc hi S ng hg ht he I gh E ei hz ef ?_);intro a xs G' H' C oC m s' IX hNs hC pC gr hn gn ha hd nv;exact⟨m,hNs,λh' hs'=>⟨.ref a,H',lh IX hC pC hs',rfl,q a xs G' H' gr hn gn ha hd nv⟩⟩
 ·cases ef
theorem sX(hc:X.calm=true)(hi:DI X tg iter fi)(S:CompSc X sc cl tn fr ix)(ng:NoG g)
  (hg:∀C s₃ H₃ fp pins,DG (cxC X sc cl (tn++fr) C s₃ H₃ fp pins) tg g) (ht:∀C s₃ H₃ fp pins,DIf (cxC X sc cl (tn++fr) C s₃ H₃ fp pins) ifs ft) (he:∀C s₃ H₃ fp pins,DE (cxC X sc cl (tn++fr) C s₃ H₃ fp pins) elt fe)
  (hs:∀x,Jr iter X.env x=pure x:=by intro _;rfl):DF X (.ListComp elt [⟨tg,iter,ifs,0⟩] sc pos) (eLC fi tn.length ix g ft fe):=
 let⟨t,h1,h2⟩:=wQ (Nv:=λ_ _ _=>True) (λ_ _ _ _ _ _ _ _=>trivial) hc hi S ng hg ht (λC s H f p=>(he C s H f p).p) hs
 ⟨t,h1,λHe G H σ ε ds Q gh E ef q=>h2 He G H σ ε ds Q gh E ef λa xs G' H' g n1 n2 h3 d3 _=>q a xs G' H' g n1 n2 h3 d3⟩
theorem qL{i:Nat}{y:Str}{py spos:Pos}{W':Ends->L2.St->Hp->Prop}{gg:Ev->Option Fl}(hc:X.calm=true)(hN:X.N.Nodup)(hi:DI X tg iter fi)(S:CompSc X sc cl tn fr ix)(ng:NoG g)
  (hg:∀C s₃ H₃ fp pins,DG (cxC X sc cl (tn++fr) C s₃ H₃ fp pins) tg g) (ht:∀C s₃ H₃ fp pins,DIf (cxC X sc cl (tn++fr) C s₃ H₃ fp pins) ifs ft) (he:∀C s₃ H₃ fp pins,DE (cxC X sc cl (tn++fr) C s₃ H₃ fp pins) elt fe)
  (hiN:X.N[i]?=some y) (hx:Loc X.env.scope y) (hf:X.fn y=true\/X.env.scope.names.lookup y=some .local) (hsw:Ju (.ListComp elt [⟨tg,iter,ifs,0⟩] sc pos) (some (.Name y py)) spos.line X.env=pure true)
  (hs:∀x,Jr iter X.env x=pure x)
  (hgg:∀(He Ge G H:Hp) (σ:L2.St) (ε:Ev) (r:Fl) (W:Ends),Sta X.K He Ge G H σ ε->gg ε=some r->xP X He Ge r W->∃rs,eLC fi tn.length ix g ft fe ε=some rs/\∀a xs G' H',Grow G H G' H'->H a=none->G' a=none->H' a=some (.lst xs)->DenL X.K G' xs rs->W.nx (σ.set i (some (.ref a))) H') :
  DS X (.Assign [.Name y py] (.ListComp elt [⟨tg,iter,ifs,0⟩] sc pos) spos) gg:=by
 refine⟨λW σ H=>∃He G ε rs,aO G H/\EnvD X.K He G H σ ε/\eLC fi tn.length ix g ft fe ε=some rs/\∀a xs G' H',Grow G H G' H'->H a=none->G' a=none->H' a=some (.lst xs)->DenL X.K G' xs rs->W.nx (σ.set i (some (.ref a))) H',λpins s σ H W I hq=>?_,
  λHe Ge G H σ ε r W S' e P=>let⟨rs,e1,e2⟩:=hgg He Ge G H σ ε r W S' e P;⟨He,G,ε,rs,S'.g.gh,S'.e,e1,e2⟩⟩
 obtain⟨He,G,ε,rs,gh,E,ef,q⟩:=hq;obtain⟨ds,ei,ef⟩:=ar ef;split at ef
 ·rename_i hz
  rw[exec_Assign_Name_used _ _ _ _ hsw];refine Qa (JT (Qa ?_));show Qg _ X.A (do let _<-comprehension (.ListComp elt [⟨tg,iter,ifs,0⟩] sc pos) sc X.env _ (newList []) false (eval iter X.env) (some (assign (.Name y py) X.env))) _ _ s
  refine Qa (Q0 (wpAny_comprehension_free (use:=some (assign (.Name y py) X.env)) (Q:=λ_ s'=>SP X pins W .next s') rfl hs S.clos S.kind S.names
   (k7 (Nv:=λ_ _ _=>True) (λ_ _ _ _ _ _ _ _=>trivial) (RR:=λacc C=>compPost (Qi X.prog X.w) X.A X.xe (some (assign (.Name y py) X.env)) (λ_ s'=>SP X pins W .next s') acc C) hc hi S ng hg ht (λC s H f p=>(he C s H f p).p) I gh E ei hz ef ?_)) (λ_ s' hq=>Qf (Qf hq)) λ_ _ e=>e)
  intro a xs G' H' C oC m s' IX hNs hC pC gr hn gn ha hd _;show Qg _ X.A (assign (.Name y py) X.env (.ref a)) _ _ _;refine wpAny_assign_Name (cz IX hN hiN hx (v:=.ref a) (u:=.ref a) rfl (λs2 I2=>?_) hf);obtain⟨q1,_⟩:=IX.pin (C,oC) (Qm _ (Qm _ (QO.mpr rfl)));obtain⟨w1,_⟩:=I2.pin (C,oC) (Qm _ (Qm _ (QO.mpr rfl)));refine⟨m,?_,λh' hs'=>⟨_,H',lh I2 hC pC hs',q a xs G' H' gr hn gn ha hd⟩⟩;obtain⟨o,es,ep,h1,h2⟩:=hNs;rw[q1] at h1;cases h1;exact⟨oC,es,ep,w1,h2⟩
 ·cases ef
theorem xE(i:Nat){y:Str}{py spos:Pos}(hc:X.calm=true)(hN:X.N.Nodup)(hi:DI X tg iter fi)(S:CompSc X sc cl tn fr ix)(ng:NoG g)
  (hg:∀C s₃ H₃ fp pins,DG (cxC X sc cl (tn++fr) C s₃ H₃ fp pins) tg g) (ht:∀C s₃ H₃ fp pins,DIf (cxC X sc cl (tn++fr) C s₃ H₃ fp pins) ifs ft) (he:∀C s₃ H₃ fp pins,DE (cxC X sc cl (tn++fr) C s₃ H₃ fp pins) elt fe)
  (hiN:X.N[i]?=some y:=by rfl) (hx:Loc X.env.scope y:=by first | exact Jj rfl | exact Q3 rfl) (hf:X.fn y=true\/X.env.scope.names.lookup y=some .local:=by first | exact .inl rfl | exact .inr rfl) (hsw:Ju (.ListComp elt [⟨tg,iter,ifs,0⟩] sc pos) (some (.Name y py)) spos.line X.env=pure true:=by rfl)
  (hs:∀x,Jr iter X.env x=pure x:=by intro _;rfl):DS X (.Assign [.Name y py] (.ListComp elt [⟨tg,iter,ifs,0⟩] sc pos) spos) (ez i (eLC fi tn.length ix g ft fe)):=
 qL (i:=i) (W':=λ_ _ _=>True) hc hN hi S ng hg ht he hiN hx hf hsw hs λHe Ge G H σ ε r W S' e P=>by
  obtain⟨rs,e1,rfl⟩:=a_ e;exact⟨rs,e1,λa xs G' H' gr hn gn ha hd=>P _ G' H' ⟨S'.g.trans gr,S'.e.putO gr S'.g.hh hn gn ha hd⟩⟩
theorem rF(i:Nat){y:Str}{py spos:Pos}(hc:X.calm=true)(hN:X.N.Nodup)(hi:DI X tg iter fi)(S:CompSc X sc cl tn fr ix)(ng:NoG g)
  (hg:∀C s₃ H₃ fp pins,DG (cxC X sc cl (tn++fr) C s₃ H₃ fp pins) tg g) (ht:∀C s₃ H₃ fp pins,DIf (cxC X sc cl (tn++fr) C s₃ H₃ fp pins) ifs ft) (he:∀C s₃ H₃ fp pins,DE (cxC X sc cl (tn++fr) C s₃ H₃ fp pins) elt fe)
  (hiN:X.N[i]?=some y:=by rfl) (hx:Loc X.env.scope y:=by first | exact Jj rfl | exact Q3 rfl) (hf:X.fn y=true\/X.env.scope.names.lookup y=some .local:=by first | exact .inl rfl | exact .inr rfl) (hsw:Ju (.ListComp elt [⟨tg,iter,ifs,0⟩] sc pos) (some (.Name y py)) spos.line X.env=pure true:=by rfl)
  (hs:∀x,Jr iter X.env x=pure x:=by intro _;rfl):DS X (.Assign [.Name y py] (.ListComp elt [⟨tg,iter,ifs,0⟩] sc pos) spos) (a9 i (eF (eLC fi tn.length ix g ft fe))):=
 qL (i:=i) (W':=λ_ _ _=>True) hc hN hi S ng hg ht he hiN hx hf hsw hs λHe Ge G H σ ε r W S' e P=>by
  obtain⟨d,e0,rfl⟩:=a_ e;obtain⟨rs,e1,rfl⟩:=a_ e0;refine⟨rs,e1,λa xs G' H' gr hn gn ha hd=>?_⟩;have s2:aO G' (upd G' a (.lst xs)):=λb o e=>by rw[aA (aG e gn)];exact e
  have g2:Grow G H (upd G' a (.lst xs)) H':=⟨gr.hh,gr.gg.trans s2,λb o e=>by
   unfold upd at e
   by_cases z:b=a
   ·rw[if_pos z] at e;cases e;rw[z];exact ha
   ·rw[if_neg z] at e;exact gr.gh b o e,λb o e z=>by rw[aA (aG e hn)];exact gr.fo b o e z⟩
  exact P _ _ H' ⟨S'.g.trans g2,(S'.e.grow g2).put (.lst (.inl ay) (hd.mono s2))⟩
end
section
variable{X:Cx}{a b c:Expr}{fa fb fc:Ev->Option D}{pos:Pos}
def yR(K:Qc):R2:=λx y H Q=>∃l b xs zs,x=.ref l/\y=.ref b/\SqL K H l xs/\SqL K H b zs/\xs.length+zs.length<=Qt/\∀p,H p=none->Q (.ref p) (upd H p (.lst (xs++zs)))
theorem ux:OpR X (Jl .Add) (yR X.K):=by
 intro pins s σ H x y v u Q I rx ry h;obtain⟨l,b,xs,zs,rfl,rfl,hH,hB,hz,q⟩:=h;cases rx;cases ry;obtain⟨its,r,pl,z⟩:=I.list hH;obtain⟨its2,r2,pl2,z2⟩:=I.list hB;have hl:=r.length;have hl2:=r2.length;obtain⟨⟨cls,dd,data,sl⟩,ho,hc,n,hd⟩:=id pl.isList;obtain⟨⟨cls2,dd2,data2,sl2⟩,ho2,hc2,n2,hd2⟩:=id pl2.isList;simp only at hc hd hc2 hd2;subst hc hd hc2 hd2;have ea:its.toArray++its2.toArray=(its++its2).toArray:=by simp
 refine concat_meets ⟨_,ho,rfl⟩ ⟨_,ho2,rfl⟩ noFill_list_add seq_list_add PySem.F.slot_list_add PySem.F.entry_list_add (PySem.F.args_list_add_2 _ _) (list_addW l b its.toArray its2.toArray n n2 dd dd2 sl sl2 (by simp;lia)) ⟨ho,ho2,?_⟩;rw[ea];exact⟨.ref _,_,I.lnew (t':=s.toks) (r.append r2) (by rw[Qw];lia),rfl,q _ I.fresh⟩
def vg(fa fb:Ev->Option D):Ev->Option (List D):=λε=>(fa ε).bind λx=>(fb ε).bind λy=>match x,y with | .lst xs,.lst ys=>if xs.length+ys.length<=1000000 then some (xs++ys) else none | _,_=>none
theorem wJ(ha:DB X a fa)(hb:DB X b fb):DF X (.BinOp a .Add b pos) (vg fa fb):=by
 obtain⟨ta,a1,a2⟩:=ha;obtain⟨tb,b1,b2⟩:=hb;refine⟨_,vS ux a1 b1,λHe G H σ ε ds Q gh E ef q=>?_⟩;obtain⟨x,e1,ef⟩:=ar ef;obtain⟨y,e2,ef⟩:=ar ef;refine a2 He G H σ ε x _ gh E e1 λv G1 H1 g1 d1=>?_;refine b2 He G1 H1 σ ε y _ g1.gh (E.grow g1) e2 λu G2 H2 g2 d2=>?_;split at ef
 ·split at ef
  ·rename_i hz
   cases ef;obtain⟨p,xs,rfl,h1,h2⟩:=(d1.grow g2).lst g2.gh;obtain⟨p',ys,rfl,h3,h4⟩:=d2.lst g2.gh;have g:=g1.trans g2;refine⟨p,p',xs,ys,rfl,rfl,h1,h3,?_,λl hl=>q l _ G2 _ (g.trans (.lay _ g2.gh hl)) (g.hh.free hl) (g2.gnone hl) ay (h2.append h4)⟩;rw[h2.length,h4.length];exact QK hz (by decide)
  ·cases ef
 ·cases ef
theorem DenL.nil_iff{K:Qc}{G:Hp}{xs:List V}{ds:List D}(h:DenL K G xs ds):xs=[]↔ds=[]:=by cases h<;>simp
end
namespace CatI
def qV:D->D->Option D:=λx y=>match x,y with | .tup (x0::xs),.tup (y0::ys)=>if xs.length+ys.length<=1000 then some (.tup (x0::xs++y0::ys)) else none | _,_=>none
end CatI
section
variable{X:Cx}{a b c:Expr}{fa fb fc:Ev->Option D}{pos:Pos}
theorem vY:OpD X (Jl .Add) CatI.qV:=⟨_,uM,λG H x y dx dy d Q gh hx hy e q=>by
 unfold CatI.qV at e;split at e
 ·split at e
  ·rename_i hz
   cases e;obtain⟨p,xs,rfl,h0,h1,h2⟩:=hx.tup gh;obtain⟨p',ys,rfl,h3,h4,h5⟩:=hy.tup gh;have n1:xs≠[]:=λz=>by have:=h2.nil_iff.mp z;cases this
   have n2:ys≠[]:=λz=>by have:=h5.nil_iff.mp z;cases this
   refine⟨p,p',xs,ys,rfl,rfl,h1,h4,n1,?_,λz=>absurd z n2,λ_ l hl=>?_⟩
   ·rw[h2.length,h5.length]
    simp only[QI];exact QK (Nat.add_le_add (Qn _) (Qn _)) (le_line2 hz)
   ·have g:=Grow.new (.tup (xs++ys)) gh hl
    exact q _ _ _ g (.tup (SqT.of ay) ((h2.append h5).mono g.gg))
  ·cases e
 ·cases e⟩
where
 le_line2 {m n:Nat} (h:m+n<=1000):m+1+(n+1)<=Qt:=QK (by lia:m+1+(n+1)<=2000) (by decide)
theorem kd{p:Pos}(ha:DB X a fa)(hm:X.mg "tuple" = none)(hg:Gl X "tuple":=by rfl)(hst:Qj [a] X.env=(false,eval a X.env)::Qj [] X.env:=by rfl)(hpl:(Ja pos (Qj [] X.env)).any (·.1)=false:=by rfl):DE X (.Call (.Name "tuple" p) [a] [] pos) (ck (λd=>ui [d]) fa):=by
 obtain⟨ta,a1,a2⟩:=ha;refine⟨_,kP jY hg hm (by rfl) (b4 a1 du hst) (by decide) (by decide) hst hpl,λHe G H σ ε d Q gh E ef q=>?_⟩;obtain⟨x,e1,ef⟩:=ar ef;refine a2 He G H σ ε x _ gh E e1 λv G1 H1 g1 d1=>?_;dsimp only[ui] at ef;split at ef
 ·rename_i xs0 e0
  cases e0;cases ef;obtain⟨p,xs,rfl,h1,h2⟩:=d1.lst g1.gh;refine⟨p,xs,rfl,.inl ⟨h1,λl hl=>?_⟩⟩;have g:=Grow.new (.tup xs) g1.gh hl;exact q _ _ _ (g1.trans g) (.tup (SqT.of ay) (h2.mono g.gg))
 ·rename_i xs0 e0
  cases e0;cases ef;obtain⟨p,xs,rfl,h0,h1,h2⟩:=d1.tup g1.gh;exact⟨p,xs,rfl,.inr ⟨h1,q _ _ _ g1 (.tup h0 h2)⟩⟩
 ·cases ef
def uA(i j:Nat)(g:Ev->Option (List D)):Ev->Option Fl:=λε=>match g ε with | some [x,y]=>some (.nx ((ε.set i (.dat x)).set j (.dat y))) | _=>none
end
section
variable{prog:Qr}{w:Qu}{Ar:QB}{Ex:Qb->Qd->Prop}
theorem qb{I L:Addr}{xs:Array Qb}(apart:L≠I):∀(k i:Nat) (t:Qd) (Q:List Qb->Qd->Prop) (_:t.heap.IsListIter I L i) (_:t.heap.IsList L xs) (_:i+k<=xs.size)
  (_:∀g,g.IsListIter I L (i+k)->JD I t.heap g->Q ((xs.toList.drop i).take k) { t with heap:=g }),Qg (Qi prog w) Ar (draw (.ref I) k) Q Ex t:=by
 intro k
 induction k with
 |zero=>intro i t Q itr ls room want;exact Qf (want t.heap itr (Heap.SameBut.refl ..))
 |succ k ih=>
  intro i t Q itr ls room want;have there:i<xs.size:=Qv (Nat.lt_add_of_pos_right (Nat.succ_pos k)) room;refine Qa (m:=pyNext (.ref I)) (wpAny_pyNext_list_item itr ls (x:=xs[i]) (by simp[there]) λg1 itr1 same1=>?_);refine Qa (Q8 (ih (i+1) _ _ itr1 (ls.extBut same1.extBut apart) (by lia) λg2 itr2 same2=>Qf ?_))
  have e:(xs.toList.drop i).take (k+1)=xs[i]::(xs.toList.drop (i+1)).take k:=by
   rw[List.drop_eq_getElem_cons (by simpa using there),List.take_succ_cons];simp
  have c:i+(k+1)=i+1+k:=by lia
  have fin:=want g2 (c▸itr2) (same1.trans same2);rw[e] at fin;exact fin
theorem iq{t:Qd}{L:Addr}{xs:Array Qb}{Q:List Qb->Qd->Prop}(hh:Ar.handled=none)(ls:t.heap.IsList L xs)
  (want:∀g,Heap.ExtBut t.heap.objs.size t.heap g->Q xs.toList { t with heap:=g }):Qg (Qi prog w) Ar (unpackItems (.ref L) xs.size none) Q Ex t:=by
 have apart:L≠t.heap.objs.size:=let⟨_,there,_⟩:=ls;QC (Qk there);unfold unpackItems notIterableAtAll;refine Qa (Qa (wpAny_specialOf ls.typeIs slot_list_iter.lookup (Qf ?_)));rw[if_neg Qh];refine Qa (Q8 (wpAny_pyIter_list ls ?_));refine Qa (Q8 (qb apart xs.size 0 _ _ ⟨_,Qo _ rfl,rfl,rfl⟩ (ls.push _) (Nat.le_of_eq (Nat.zero_add _)) λg1 itr1 same1=>?_));rw[List.drop_zero,List.take_of_length_le (Nat.le_of_eq (by simp)),if_neg (by simp)];refine Qa (Q8 (wpAny_pyNext_list_end hh itr1 ((ls.push _).extBut same1.extBut apart) (by simp) λg2 ext2=>?_));exact(if_neg (show ¬ (none:Option Qb).isSome=true by simp)).symm▸Qf (want g2 λb o away e=>ext2 b o away (same1.extBut b o away (Qe _ e)))
theorem gY{t:Qd}{ev:Env}{es:List Expr}{x1}{pos:Pos}{L:Addr}{xs:Array Qb}{Q:Unit->Qd->Prop}(hh:Ar.handled=none)(ls:t.heap.IsList L xs)
  (many:(Q5 es ev).length=xs.size) (nostar:(Q5 es ev).findIdx? (·.1)=none)
  (rest:∀g,Heap.ExtBut t.heap.objs.size t.heap g->Qg (Qi prog w) Ar (assignInOrder ((Q5 es ev).map (·.2)) xs.toList) Q Ex { t with heap:=g }):Qg (Qi prog w) Ar (assign (.Tuple es x1 pos) ev (.ref L)) Q Ex t:=by
 rw[assign_Tuple];refine Qa (JT ?_);unfold unpack;rw[many,nostar];exact Qa (Q8 (iq hh ls rest))
end
section
variable{X:Cx}{pos:Pos}
theorem t_{es:List Expr}{k:Nat}{t:TGs}{n:Nat}(hc:X.calm=true)(h:PGs X es t)
  (hn:(Q5 es X.env).length=n:=by rfl) (hst:(Q5 es X.env).findIdx? (·.1)=none:=by rfl):PG X (.Tuple es k pos) (λv σ H Q=>∃a xs,v=.ref a/\SqL X.K H a xs/\xs.length=n/\t xs σ H Q):=by
 intro pins s σ H v u Q I r hw;obtain⟨a,xs,e1,hq,hl,hw⟩:=hw;subst e1;cases r;obtain⟨its,rv,ht,hz⟩:=I.list hq;refine gY (I.ok.hd hc) ht.isList (by simp[hn,<-hl,rv.length]) hst λh' hx=>?_;have I1:Inv X pins σ H { s with heap:=h' }:=I.kept (t':=s.toks) λb o e=>hx b o (QC (Qk e)) e;exact h pins _ σ H xs _ Q I1 (by simpa using rv) hw
def cY(n:Nat)(g:List D->Ev->Option Ev):D->Ev->Option Ev:=λd ε=>match d with | .tup ds=>if ds.length=n then g ds ε else none | .lst ds=>if ds.length=n then g ds ε else none | _=>none
theorem za{tg:Expr}{t t':TG}(h:PG X tg t)(h':PG X tg t'):PG X tg (λv σ H Q=>t v σ H Q\/t' v σ H Q):=by
 intro pins s σ H v u Q I r hw;rcases hw with hw | hw
 ·exact h pins s σ H v u Q I r hw
 ·exact h' pins s σ H v u Q I r hw
theorem di{es:List Expr}{k:Nat}{g:List D->Ev->Option Ev}{n:Nat}(hc:X.calm=true)(h:DGs X es g)(hn:(Q5 es X.env).length=n:=by rfl)(hst:(Q5 es X.env).findIdx? (·.1)=none:=by rfl):DG X (.Tuple es k pos) (cY n g):=by
 obtain⟨t,a1,a2⟩:=h;refine⟨_,za (sL hc a1 hn hst) (t_ hc a1 hn hst),λHe G H σ ε ε' v d Q gh E hd e q=>?_⟩;unfold cY at e;split at e
 ·split at e
  ·rename_i hl
   obtain⟨p,xs,rfl,h1,h2⟩:=hd.tupV;exact .inl ⟨p,xs,rfl,aR gh h1,by rw[h2.length];exact hl,a2 He G H σ ε ε' _ _ _ gh E h2 e q⟩
  ·cases e
 ·split at e
  ·rename_i hl
   obtain⟨p,xs,rfl,h1,h2⟩:=hd.lstV;exact .inr ⟨p,xs,rfl,gh.seq h1,by rw[h2.length];exact hl,a2 He G H σ ε ε' _ _ _ gh E h2 e q⟩
  ·cases e
 ·cases e
end
def AtL(X:Cx):List Str->List Nat->Prop
 |[],[]=>True
 |x::fr,j::ix=>(X.N[j]?=some x/\X.env.scope.names.lookup x=some .cell)/\AtL X fr ix
 |_,_=>False
theorem AtL.len{X:Cx}:∀{fr:List Str} {ix:List Nat},AtL X fr ix->ix.length=fr.length
 |[],[],_=>rfl
 |_::_,_::_,h=>congrArg (· + 1) (AtL.len h.2)
 |[],_::_,h=>h.elim
 |_::_,[],h=>h.elim
theorem AtL.get{X:Cx}:∀{fr:List Str} {ix:List Nat} (k:Nat) (x:Str),AtL X fr ix->fr[k]?=some x->∃j,ix[k]?=some j/\X.N[j]?=some x/\X.env.scope.names.lookup x=some .cell
 |[],_,k,x,_,e=>by simp at e
 |_::_,[],_,_,h,_=>h.elim
 |y::fr,j::ix,0,x,h,e=>by simp at e;subst e;exact⟨j,rfl,h.1.1,h.1.2⟩
 |y::fr,j::ix,k+1,x,h,e=>by
  obtain⟨j',h1,h2⟩:=AtL.get k x h.2 (by simpa using e);exact⟨j',by simpa using h1,h2⟩
def qU(X:Cx):List (Str×Addr)->Prop
 |[]=>True
 |p::cl=>X.env.cells.lookup p.1=some p.2/\qU X cl
theorem qU.mem{X:Cx}:∀{cl:List (Str×Addr)},qU X cl->∀p∈cl,X.env.cells.lookup p.1=some p.2
 |[],_,_,h=>by cases h
 |q::cl,h,p,hp=>by
  rcases Ql.mp hp with z | z
  ·rw[z];exact h.1
  ·exact qU.mem h.2 p z
theorem eY{cl:List (Str×Addr)}{x:Str}(h:(cl.map (·.1)).contains x=true):∃c,cl.lookup x=some c:=by
 induction cl with
 |nil=>simp at h
 |cons p cl ih=>
  rw[QN,List.contains_cons] at h;obtain⟨y,c0⟩:=p;cases e:(x==y) with
  |true=>exact⟨c0,by unfold List.lookup;rw[e]⟩
  |false=>
   have h':(x==y || (cl.map (·.1)).contains x)=true:=h;rw[e,Bool.false_or] at h';obtain⟨c,hc⟩:=ih h';exact⟨c,by unfold List.lookup;rw[e];exact hc⟩
theorem eV{X:Cx}{sc:Scope}{cl:List (Str×Addr)}{tn fr:List Str}{ix:List Nat}(clos:closureFor sc X.env=pure cl)(hat:AtL X fr ix)(sub:qU X cl)
  (kind:sc.kind=.function) (nc:(sc.names.all λy=>!(y.2 == .cell))=true)
  (nm:(sc.names.all λy=>!(y.2 == .local) || (sc.names.lookup y.1==some .local))=true)
  (hs:((relabel sc X.env).names.all λy=>!(y.2 == .cell || y.2 == .free) || (cl.map (·.1)).contains y.1)=true)
  (fc:(fr.all λx=>(relabel sc X.env).names.lookup x==some .cell)=true):CompSc X sc cl tn fr ix where
 kind:=kind
 nocell:=λy hy e=>by
  have:=Jm.mp nc y hy;rw[e] at this;exact absurd this (by decide)
 names:=λy hy e=>by
  have:=Jm.mp nm y hy;rw[e] at this;exact eq_of_beq this
 clos:=clos
 len:=hat.len
 at_:=λk x e=>hat.get k x e
 sub:=λx c e=>sub.mem _ (Jg e)
 has:=λx h=>by
  rcases h with h | h
  ·have:=Jm.mp hs _ (Jg h)
   exact eY this
  ·have:=Jm.mp hs _ (Jg h)
   exact eY this
 frc:=λx hx=>eq_of_beq (Jm.mp fc x hx)
theorem iw{fi:Ev->Option (List D)}{n:Nat}{ix:List Nat}{g:D->Ev->Option Ev}{ft:Ev->Option Bool}{fe:Ev->Option D}{ε:Ev}{ds:List D}(h:fi ε=some ds)(hl:ds.length<1000000):eLC fi n ix g ft fe ε=lcD g ft fe ds (prE n ix ε):=by
 unfold eLC;rw[h];show(if ds.length<1000000 then _ else none)=_;rw[if_pos hl]
def iF(f:D->D->Option Bool):List D->List D->Option Bool
 |x::xs,y::ys=>(f x y).bind λa=>(iF f xs ys).bind λb=>some (a&&b)
 |_,_=>some true
def cm:Nat->D->D->Option Bool
 |0,x,y=>eqS x y
 |n+1,x,y=>match x,y with
  |.tup xs,.tup ys=>(iF (cm n) xs ys).map λb=>b&&xs.length==ys.length
  |.lst xs,.lst ys=>if xs.length=ys.length then iF (cm n) xs ys else some false
  |x,y=>eqS x y
def dm(f:D->D->Option Bool)(xs ys:List D)(j:Nat):Bool:=match xs[j]?,ys[j]? with
 |some x,some y=>(f x y).getD false
 |_,_=>false
theorem b_{f:D->D->Option Bool}:∀{xs ys:List D} {b:Bool},iF f xs ys=some b->b=(JB (min xs.length ys.length)).all (dm f xs ys)/\∀j x y,xs[j]?=some x->ys[j]?=some y->f x y=some (dm f xs ys j)
 |[],ys,b,e=>by cases e;exact⟨by simp,λj x y h _=>by simp at h⟩
 |x::xs,[],b,e=>by cases e;exact⟨by simp,λj x y _ h=>by simp at h⟩
 |x::xs,y::ys,b,e=>by
  obtain⟨a,e1,e⟩:=ar e;obtain⟨c,e2,e⟩:=ar e;cases e;obtain⟨h1,h2⟩:=b_ e2;have sh:∀j,dm f (x::xs) (y::ys) (j+1)=dm f xs ys j:=λj=>by unfold dm;simp
  have s0:dm f (x::xs) (y::ys) 0=a:=by unfold dm;simp[e1]
  refine⟨?_,λj u v hu hv=>?_⟩
  ·have hm:min (x::xs).length (y::ys).length=min xs.length ys.length+1:=by simp only[QI];lia
   rw[hm,List.range_succ_eq_map,Zb,s0,List.all_map,h1];congr 1
  ·cases j with
   |zero=>simp at hu hv;subst hu hv;rw[s0,e1]
   |succ j=>rw[sh];exact h2 j u v (by simpa using hu) (by simpa using hv)
theorem fB{d:D}{b:Bool}(h:eqS d d=some b):b=true:=by
 cases d<;>simp[eqS] at h<;>first | exact h | exact h.symm
theorem iB{f:D->D->Option Bool}(hf:∀d b,f d d=some b->b=true):∀{ds:List D} {b:Bool},iF f ds ds=some b->b=true
 |[],b,e=>by cases e;rfl
 |d::ds,b,e=>by
  obtain⟨a,e1,e⟩:=ar e;obtain⟨c,e2,e⟩:=ar e;cases e;rw[hf d a e1,iB hf e2];rfl
theorem fZ:∀(n:Nat) (d:D) (b:Bool),cm n d d=some b->b=true
 |0,d,b,e=>fB e
 |n+1,.tup xs,b,e=>by
  obtain⟨c,e1,rfl⟩:=a_ e;rw[iB (fZ n) e1];simp
 |n+1,.lst xs,b,e=>by
  have e':(if xs.length=xs.length then iF (cm n) xs xs else some false)=some b:=e;rw[if_pos rfl] at e';exact iB (fZ n) e'
 |n+1,.non,b,e=>fB (d:=.non) e
 |n+1,.bl k,b,e=>fB (d:=.bl k) e
 |n+1,.int k,b,e=>fB (d:=.int k) e
 |n+1,.str k,b,e=>fB (d:=.str k) e
section
variable{X:Cx}{pins:List (Addr×Obj)}{σ:L2.St}{G H:Hp}{s:Qd}
theorem mJ(I:Inv X pins σ H s){a:Addr}{xs ys:List V}(h1:SqT X.K H a xs)(h2:SqL X.K H a ys):False:=by
 obtain⟨its,_,⟨o,e1,c1,_⟩,_⟩:=I.tuple h1;obtain⟨its2,_,⟨o2,n,e2,c2,_⟩,_⟩:=I.list h2;rw[e1] at e2;cases e2;rw[c1] at c2;exact absurd (Value.type.inj c2) (by decide)
theorem sT{x y:V}{u:Qb}(hx:L2.aW x u)(hy:L2.aW y u):x=y:=by
 cases x<;>cases y<;>simp only[L2.aW] at hx hy<;>first | rfl | (subst hx;cases hy;done) | (subst hx;cases hy;rfl) | (obtain⟨t,rfl⟩:=hx;obtain⟨t',e⟩:=hy;cases e;first | rfl | done) | (obtain⟨t,rfl⟩:=hx;cases hy) | (subst hx;obtain⟨t',e⟩:=hy;cases e)
theorem je(I:Inv X pins σ H s)(gh:aO G H){a:Addr}{us:dY}{ep:Nat}(h:G a=some (.ext (DAt a us ep))):DAt a us ep s.heap:=(show bO X.prog X.w H s.heap a (.ext (DAt a us ep)) from I.hok a _ (gh _ _ h)).1
theorem kG(I:Inv X pins σ H s)(gh:aO G H){a:Addr}{xs:List V}{us:dY}{ep:Nat}(h1:SqT X.K H a xs)(h:G a=some (.ext (DAt a us ep))):False:=by
 obtain⟨its,_,⟨o,e1,c1,_⟩,_⟩:=I.tuple h1;obtain⟨_,_,o2,raw,e2,⟨c2,_⟩,_⟩:=je I gh h;rw[e1] at e2;cases e2;rw[c1] at c2;exact absurd (Value.type.inj c2) (by decide)
theorem kE(I:Inv X pins σ H s)(gh:aO G H){a:Addr}{xs:List V}{us:dY}{ep:Nat}(h1:SqL X.K H a xs)(h:G a=some (.ext (DAt a us ep))):False:=by
 obtain⟨its,_,⟨o,n,e1,c1,_⟩,_⟩:=I.list h1;obtain⟨_,_,o2,raw,e2,⟨c2,_⟩,_⟩:=je I gh h;rw[e1] at e2;cases e2;rw[c1] at c2;exact absurd (Value.type.inj c2) (by decide)
theorem iZ:∀{k k':List Int},k.map V.int=k'.map V.int->k=k'
 |[],[],_=>rfl
 |[],_::_,e=>by cases e
 |_::_,[],e=>by cases e
 |a::k,b::k',e=>by
  rw[QN,QN] at e;injection e with e1 e2
  cases e1;rw[iZ e2]
theorem pb(I:Inv X pins σ H s)(gh:aO G H):∀{raw:List DictEntry} {us vs:dY} {es fs:List (List Int×D)},DenM X.K G us es->DenM X.K G vs fs->Paired EntOk us raw->Paired EntOk vs raw->us=vs:=by
 intro raw
 induction raw with
 |nil=>intro us vs es fs _ _ p p';cases p;cases p';rfl
 |cons r rs ih=>
  intro us vs es fs m m' p p';cases p with
  |cons q qs=>
   cases p' with
   |cons q' qs'=>
    cases m with
    |cons hk hv hs=>
     cases m' with
     |cons hk' hv' hs'=>
      have e0:=q.key.symm.trans q'.key;injection e0 with e0
      simp only at e0;subst e0;have ek:=iZ (I.tuple_inj (aR gh hk) (aR gh hk'));subst ek;have ev:=sT q.val q'.val;simp only at ev;subst ev;rw[ih hs hs' qs qs']
theorem DenL.uniq(I:Inv X pins σ H s)(gh:aO G H){vs:List V}{ds es:List D}(h:DenL X.K G vs ds):DenL X.K G vs es->ds=es:=by
 refine DenL.rec (motive_1:=λv d _=>∀e,Den X.K G v e->d=e) (motive_2:=λu d _=>∀e,DenM X.K G u e->d=e) (motive_3:=λv d _=>∀e,DenL X.K G v e->d=e) ?_ ?_ ?_ ?_ ?_ ?_ ?_ ?_ ?_ ?_ ?_ h es
 ·intro e w;cases w;rfl
 ·intro b e w;cases w;rfl
 ·intro b e w;cases w;rfl
 ·intro b e w;cases w;rfl
 ·intro a xs ds h _ y e w
  cases w with
  |tup h' hs'=>
   have:=I.tuple_inj (aR gh h) (aR gh h');subst this;rw[y _ hs']
  |lst h' _=>exact(mJ I (aR gh h) (gh.seq h'.sq)).elim
  |dic h' _ _=>exact(kG I gh (aR gh h) h').elim
 ·intro a xs ds h _ y e w
  cases w with
  |lst h' hs'=>
   have:=I.list_inj (gh.seq h.sq) (gh.seq h'.sq);subst this;rw[y _ hs']
  |tup h' _=>exact(mJ I (aR gh h') (gh.seq h.sq)).elim
  |dic h' _ _=>exact(kE I gh (gh.seq h.sq) h').elim
 ·intro a us ep es h nd hs y e w
  cases w with
  |tup h' _=>exact(kG I gh (aR gh h') h).elim
  |lst h' _=>exact(kE I gh (gh.seq h'.sq) h).elim
  |dic h' nd' hs'=>
   obtain⟨_,_,o,raw,e,_,e1,p⟩:=je I gh h;obtain⟨_,_,o',raw',e',_,e1',p'⟩:=je I gh h';rw[e] at e';cases e';rw[e1] at e1';cases e1';have z:=pb I gh hs hs' p p';subst z;rw[y _ hs']
 ·intro e w;cases w;rfl
 ·intro k b v d us es _ _ _ y z e w
  cases w with
  |cons _ h' hs'=>rw[y _ h',z _ hs']
 ·intro e w;cases w;rfl
 ·intro v d vs ds _ _ y z e w
  cases w with
  |cons h' hs'=>rw[y _ h',z _ hs']
theorem Den.uniq(I:Inv X pins σ H s)(gh:aO G H){v:V}{d e:D}(h:Den X.K G v d)(h':Den X.K G v e):d=e:=List.head_eq_of_cons_eq (DenL.uniq I gh (.cons h .nil) (.cons h' .nil))
theorem mC{K:Qc}{G:Hp}{x y:V}{dx dy:D}{b:Bool}(hx:Den K G x dx)(hy:Den K G y dy)(e:eqS dx dy=some b):eZ x=true/\eZ y=true/\eqV x y=b:=by
 cases hx<;>cases hy<;>simp[eqS] at e<;>subst e<;>refine⟨rfl,rfl,?_⟩<;>first | rfl | (simp[eqV];done) | (rw[Zx];simp[eqV])
theorem df{x y:V}{xs ys:List V}{ds es:List D}{its its2:List Qb}{n:Nat}{A:QB}(hs:DenL X.K G xs ds)(hs':DenL X.K G ys es)(r:aX xs its)(r2:aX ys its2)
  (step:∀{dx dy:D} {x y:V} {v u:Qb} {b:Bool},Den X.K G x dx->Den X.K G y dy->aW x v->aW y u->cm n dx dy=some b->SeqAt.EqAt A s v u b)
  (pr:∀j x y,ds[j]?=some x->es[j]?=some y->cm n x y=some (dm (cm n) ds es j)) :
  ∀j (h1:j<its.toArray.size) (h2:j<its2.toArray.size),SeqAt.EqAt A s its.toArray[j] its2.toArray[j] (dm (cm n) ds es j):=by
 intro j h1 h2;have l1:=r.length;have l2:=r2.length;have h1':j<its.length:=by simpa using h1
 have h2':j<its2.length:=by simpa using h2
 have hx:xs[j]?=some xs[j]:=by simp[show j<xs.length by lia]
 have hy:ys[j]?=some ys[j]:=by simp[show j<ys.length by lia]
 obtain⟨dx,e1,d1⟩:=hs.getV hx;obtain⟨dy,e2,d2⟩:=hs'.getV hy;obtain⟨v,e3,r3⟩:=r.get hx;obtain⟨u,e4,r4⟩:=r2.get hy
 have ev:its.toArray[j]=v:=by
  have:=(Qs.mp e3).2;simpa using this
 have eu:its2.toArray[j]=u:=by
  have:=(Qs.mp e4).2;simpa using this
 rw[ev,eu];exact step d1 d2 r3 r4 (pr j dx dy e1 e2)
theorem mT(I:Inv X pins σ H s)(gh:aO G H):∀(n:Nat) (A:QB),A.units+n<cLine->∀{dx dy:D} {x y:V} {v u:Qb} {b:Bool},Den X.K G x dx->Den X.K G y dy->aW x v->aW y u->cm n dx dy=some b->SeqAt.EqAt A s v u b:=by
 intro n
 induction n with
 |zero=>
  intro A hu dx dy x y v u b hx hy rx ry e;obtain⟨f1,f2,e1⟩:=mC hx hy e;rw[<-e1];exact nZ rx ry f1 f2
 |succ n ih=>
  intro A hu dx dy x y v u b hx hy rx ry e;have hu1:A.in1.units+n<cLine:=by show A.units+1+n<cLine;lia
  have step:=λ{dx dy:D} {x y:V} {v u:Qb} {b:Bool}=>ih A.in1 hu1 (dx:=dx) (dy:=dy) (x:=x) (y:=y) (v:=v) (u:=u) (b:=b)
  have flat:∀{b},eqS dx dy=some b->SeqAt.EqAt A s v u b:=λ{b} e=>by
   obtain⟨f1,f2,e1⟩:=mC hx hy e;rw[<-e1];exact nZ rx ry f1 f2
  cases hx with
  |@tup a xs ds h hs=>
   cases hy with
   |@tup a' ys es h' hs'=>
    cases(show v=QF a from rx);cases(show u=QF a' from ry)
    by_cases z:a=a'
    ·subst z
     have:=I.tuple_inj (aR gh h) (aR gh h');subst this;have:=DenL.uniq I gh hs hs';subst this;rw[fZ _ _ _ e];exact SeqAt.EqAt.same _
    ·obtain⟨c,e1,rfl⟩:=a_ e
     obtain⟨q1,q2⟩:=b_ e1;obtain⟨its,r,p1,_⟩:=I.tuple (aR gh h);obtain⟨its2,r2,p2,_⟩:=I.tuple (aR gh h');have l1:its.toArray.size=ds.length:=by simp[<-r.length,hs.length]
     have l2:its2.toArray.size=es.length:=by simp[<-r2.length,hs'.length]
     refine SeqAt.EqAt.of_refs z ?_;have:=SeqAt.RcAt.tuples (e:=dm (cm n) ds es) p1 p2 (by lia) (df (x:=.non) (y:=.non) hs hs' r r2 step q2);rw[l1,l2,<-q1] at this;exact this
   |lst h' hs'=>exact flat e
   |dic _ _ _=>exact flat e
   |non=>exact flat e
   |bl _=>exact flat e
   |int _=>exact flat e
   |str _=>exact flat e
  |@lst a xs ds h hs=>
   cases hy with
   |@lst a' ys es h' hs'=>
    cases(show v=QF a from rx);cases(show u=QF a' from ry)
    by_cases z:a=a'
    ·subst z
     have:=I.list_inj (gh.seq h.sq) (gh.seq h'.sq);subst this;have:=DenL.uniq I gh hs hs';subst this;rw[fZ _ _ _ e];exact SeqAt.EqAt.same _
    ·have e':(if ds.length=es.length then iF (cm n) ds es else some false)=some b:=e
     obtain⟨its,r,p1,_⟩:=I.list (gh.seq h.sq);obtain⟨its2,r2,p2,_⟩:=I.list (gh.seq h'.sq);have l1:its.toArray.size=ds.length:=by simp[<-r.length,hs.length]
     have l2:its2.toArray.size=es.length:=by simp[<-r2.length,hs'.length]
     refine SeqAt.EqAt.of_refs z ?_
     by_cases hl:ds.length=es.length
     ·rw[if_pos hl] at e'
      obtain⟨q1,q2⟩:=b_ e';have:=SeqAt.RcAt.lists (e:=dm (cm n) ds es) p1.isList p2.isList (by rw[l1,l2,hl]) (by lia) (df (x:=.non) (y:=.non) hs hs' r r2 step q2);rw[l1] at this;rw[<-hl,Nat.min_self] at q1;rw[q1];exact this
     ·rw[if_neg hl] at e'
      cases e';exact SeqAt.RcAt.lists_lengths p1.isList p2.isList (by rw[l1,l2];simpa using hl) (by lia)
   |tup h' hs'=>exact flat e
   |dic _ _ _=>exact flat e
   |non=>exact flat e
   |bl _=>exact flat e
   |int _=>exact flat e
   |str _=>exact flat e
  |dic _ _ _=>cases hy<;>exact flat e
  |non=>cases hy<;>exact flat e
  |bl _=>cases hy<;>exact flat e
  |int _=>cases hy<;>exact flat e
  |str _=>cases hy<;>exact flat e
end
section
variable{X:Cx}
def zh(K:Qc)(neg:Bool):R2:=λx y H Q=>∃G dx dy b,aO G H/\bW K G H x dx/\bW K G H y dy/\cm 9 dx dy=some b/\Q (.bl (if neg then !b else b)) H
theorem bW.flat{K:Qc}{G H:Hp}{v:V}{d:D}(h:bW K G H v d):Den K G v d\/∃ds,d=.lst ds:=by
 rcases h with h | ⟨_,_,ds,_,e,_⟩
 ·exact .inl h
 ·exact .inr ⟨ds,e⟩
theorem xu(hu:X.A.units+64<cLine):OpR X (QE .Eq) (zh X.K false):=by
 intro pins s σ H x y v u Q I rx ry h;obtain⟨G,dx,dy,b,gh,hx,hy,e,q⟩:=h;have step:=λ{dx dy:D} {x y:V} {v u:Qb} {b:Bool}=>mT I gh 8 X.A.in1 (by show X.A.units+1+8<cLine;lia) (dx:=dx) (dy:=dy) (x:=x) (y:=y) (v:=v) (u:=u) (b:=b);have fin:∀{k:Bool},k=b->EP X pins σ Q (.bool k) s:=λ{k} z=>⟨.bl k,H,I,rfl,by rw[z];exact q⟩
 have scl:eqS dx dy=some b->Qg (Qi X.prog X.w) X.A (QE .Eq v u) (EP X pins σ Q) X.xe s:=λe=>by
  obtain⟨h1,h2⟩:=my hx hy e;exact yX pins s σ H x y v u Q I rx ry ⟨h1,by rw[h2];exact q⟩
 cases dx with
 |tup ds=>
  cases dy with
  |tup es=>
   obtain⟨a,xs,rfl,_,h1,h2⟩:=hx.tup gh;obtain⟨a',ys,rfl,_,h3,h4⟩:=hy.tup gh;cases rx;cases ry;obtain⟨c,e1,e2⟩:=a_ e;obtain⟨q1,q2⟩:=b_ e1;obtain⟨its,r,p1,_⟩:=I.tuple h1;obtain⟨its2,r2,p2,_⟩:=I.tuple h3;have l1:its.toArray.size=ds.length:=by simp[<-r.length,h2.length]
   have l2:its2.toArray.size=es.length:=by simp[<-r2.length,h4.length]
   refine SeqAt.RcAt.tuples (e:=dm (cm 8) ds es) p1 p2 (by lia) (df (x:=.non) (y:=.non) h2 h4 r r2 step q2) X.prog X.w X.xe _ (fin ?_);rw[l1,l2,<-q1];exact e2
  |_=>exact scl e
 |lst ds=>
  cases dy with
  |lst es=>
   obtain⟨a,xs,rfl,h1,h2⟩:=hx.lst gh;obtain⟨a',ys,rfl,h3,h4⟩:=hy.lst gh;cases rx;cases ry;have e':(if ds.length=es.length then iF (cm 8) ds es else some false)=some b:=e;obtain⟨its,r,p1,_⟩:=I.list h1;obtain⟨its2,r2,p2,_⟩:=I.list h3;have l1:its.toArray.size=ds.length:=by simp[<-r.length,h2.length]
   have l2:its2.toArray.size=es.length:=by simp[<-r2.length,h4.length]
   by_cases hl:ds.length=es.length
   ·rw[if_pos hl] at e'
    obtain⟨q1,q2⟩:=b_ e';refine SeqAt.RcAt.lists (e:=dm (cm 8) ds es) p1.isList p2.isList (by rw[l1,l2,hl]) (by lia) (df (x:=.non) (y:=.non) h2 h4 r r2 step q2) X.prog X.w X.xe _ (fin ?_);rw[l1];rw[<-hl,Nat.min_self] at q1;exact q1.symm
   ·rw[if_neg hl] at e'
    cases e';exact SeqAt.RcAt.lists_lengths p1.isList p2.isList (by rw[l1,l2];simpa using hl) (by lia) X.prog X.w X.xe _ (fin rfl)
  |_=>exact scl e
 |_=>cases dy<;>exact scl e
theorem xJ(hu:X.A.units+64<cLine):OpR X (QE .NotEq) (zh X.K true):=by
 intro pins s σ H x y v u Q I rx ry h;obtain⟨G,dx,dy,b,gh,hx,hy,e,q⟩:=h;have step:=λ{dx dy:D} {x y:V} {v u:Qb} {b:Bool}=>mT I gh 8 X.A.in1 (by show X.A.units+1+8<cLine;lia) (dx:=dx) (dy:=dy) (x:=x) (y:=y) (v:=v) (u:=u) (b:=b);have fin:∀{k:Bool},k = !b->EP X pins σ Q (.bool k) s:=λ{k} z=>⟨.bl k,H,I,rfl,by rw[z];exact q⟩
 have scl:eqS dx dy=some b->Qg (Qi X.prog X.w) X.A (QE .NotEq v u) (EP X pins σ Q) X.xe s:=λe=>by
  obtain⟨h1,h2⟩:=my hx hy e;exact ym pins s σ H x y v u Q I rx ry ⟨h1,by rw[h2];exact q⟩
 cases dx with
 |tup ds=>
  cases dy with
  |tup es=>
   obtain⟨a,xs,rfl,_,h1,h2⟩:=hx.tup gh;obtain⟨a',ys,rfl,_,h3,h4⟩:=hy.tup gh;cases rx;cases ry;obtain⟨c,e1,e2⟩:=a_ e;obtain⟨q1,q2⟩:=b_ e1;obtain⟨its,r,p1,_⟩:=I.tuple h1;obtain⟨its2,r2,p2,_⟩:=I.tuple h3;have l1:its.toArray.size=ds.length:=by simp[<-r.length,h2.length]
   have l2:its2.toArray.size=es.length:=by simp[<-r2.length,h4.length]
   refine SeqAt.RcNeAt.tuples (e:=dm (cm 8) ds es) p1 p2 (by lia) (df (x:=.non) (y:=.non) h2 h4 r r2 step q2) X.prog X.w X.xe _ (fin ?_);rw[l1,l2,<-q1];exact congrArg not e2
  |_=>exact scl e
 |lst ds=>
  cases dy with
  |lst es=>
   obtain⟨a,xs,rfl,h1,h2⟩:=hx.lst gh;obtain⟨a',ys,rfl,h3,h4⟩:=hy.lst gh;cases rx;cases ry;have e':(if ds.length=es.length then iF (cm 8) ds es else some false)=some b:=e;obtain⟨its,r,p1,_⟩:=I.list h1;obtain⟨its2,r2,p2,_⟩:=I.list h3;have l1:its.toArray.size=ds.length:=by simp[<-r.length,h2.length]
   have l2:its2.toArray.size=es.length:=by simp[<-r2.length,h4.length]
   by_cases hl:ds.length=es.length
   ·rw[if_pos hl] at e'
    obtain⟨q1,q2⟩:=b_ e';refine SeqAt.RcNeAt.lists (e:=dm (cm 8) ds es) p1.isList p2.isList (by rw[l1,l2,hl]) (by lia) (df (x:=.non) (y:=.non) h2 h4 r r2 step q2) X.prog X.w X.xe _ (fin ?_);rw[l1];rw[<-hl,Nat.min_self] at q1;rw[q1]
   ·rw[if_neg hl] at e'
    cases e';exact SeqAt.RcNeAt.lists_lengths p1.isList p2.isList (by rw[l1,l2];simpa using hl) (by lia) X.prog X.w X.xe _ (fin rfl)
  |_=>exact scl e
 |_=>cases dy<;>exact scl e
def bc:D->D->Option D:=λx y=>(cm 9 x y).map D.bl
def d_:D->D->Option D:=λx y=>(cm 9 x y).map λb=>D.bl (!b)
theorem bo{k:Nat}(hr:Room k X.A):OpD X (QE .Eq) bc:=⟨_,xu hr.units,λG H x y dx dy d Q gh hx hy e q=>by
 obtain⟨b,e1,rfl⟩:=a_ e
 exact⟨G,dx,dy,b,gh,hx,hy,e1,q _ G H (.refl gh) (.bl _)⟩⟩
theorem fN{k:Nat}(hr:Room k X.A):OpD X (QE .NotEq) d_:=⟨_,xJ hr.units,λG H x y dx dy d Q gh hx hy e q=>by
 obtain⟨b,e1,rfl⟩:=a_ e
 exact⟨G,dx,dy,b,gh,hx,hy,e1,q _ G H (.refl gh) (.bl _)⟩⟩
end
section
variable{prog:Qr}{w:Qu}{Ar:QB}{Rs:Result->Qd->Prop}{It S:Addr}{fp wr:List Addr}{n:Nat}{Pv:Nat->Qb->Prop}{St:Nat->Heap->Prop}{kw:List (Str×Qb)}
theorem dI:(toString "max" ++ toString ".loop" : String) = "max.loop":=by decide
theorem y9(W:Walks prog w Ar.in1 It fp wr n Pv St){bt:Nat->Nat->Bool}(cmp:CmpOf prog w Ar.in1 .Gt Pv bt)(apart:S∉fp):∀(k j:Nat) (t:Qd) (best:Qb) (c:Nat),j+1+k=n->St (j+1) t.heap->Pv (Q2 bt j) best->IsL t.heap S #[best,best] c->
  (∀v g tk,Pv (Q2 bt (n-1)) v->(∀b o,b∉wr->b≠S->t.heap.get? b=some o->g.get? b=some o)->Rs (.ok (.ret v)) { t with heap:=g,toks:=tk })->J1 (Qi prog w) Ar (.builtin "max.loop" ⟨[.ref It,.none,.ref S],kw⟩) Rs t:=by
 have away:S∉wr:=λz=>apart (W.sub _ z);intro k
 induction k with
 |zero=>
  intro j t best c ej st hb hS want;refine Zg J8 ?_;rw[JE QQ _];refine Qa (m:=Zo (.ref S)) (QW hS rfl ?_);refine Qa (Jz (W.done t _ _ (ej▸st) λg tk kept=>?_));have hS1:IsL g S #[best,best] c:=kept S _ away hS;refine Qa (m:=updateSeq S (λ_=>#[])) (Zh hS1 rfl (Qa (JA (Qf ?_))));refine want best _ tk (by rw[<-ej];exact hb) λb o q1 q2 e=>(Qp _ _ (Ne.symm q2)).trans (kept b o q1 e)
 |succ k ih=>
  intro j t best c ej st hb hS want;have more:j+1<n:=by lia
  refine Zg J8 ?_;rw[JE QQ _];refine Qa (m:=Zo (.ref S)) (QW hS rfl ?_);refine Qa (Jz (W.item (j+1) t _ _ more st λv g tk hv st1 kept=>?_));have hS1:IsL g S #[best,best] c:=kept S _ away hS;refine Qa (Qf ?_);refine Qa (Jz (Q8 (Qa (cmp (j+1) (Q2 bt j) v best _ _ _ hv hb (Qa (Q8 (Jf (Qa (JA (Qf ?_))))))))));cases yes:bt (j+1) (Q2 bt j) with
  |true=>
   rw[if_pos rfl];refine Qa (m:=updateSeq S (λ_=>#[v,v])) (Zh hS1 rfl (Qa (JA ?_)));rw[dI];refine Qf ⟨JW QQ _,ih (j+1) _ v _ (by lia) (W.frame _ _ _ st1 λb q o e=>(Qp _ _ (λz:S=b=>apart (by rw[z];exact q))).trans e) ?_ (QV _ hS1 rfl) λv2 g2 tk2 hv2 kept2=>want v2 g2 tk2 hv2 λb o q1 q2 e=>kept2 b o q1 q2 ((Qp _ _ (Ne.symm q2)).trans (kept b o q1 e))⟩;unfold Q2;rw[if_pos yes];exact hv
  |false=>
   rw[if_neg Qh];refine Qa (JA ?_);rw[dI];refine Qf ⟨JW QQ _,ih (j+1) _ best c (by lia) st1 ?_ hS1 λv2 g2 tk2 hv2 kept2=>want v2 g2 tk2 hv2 λb o q1 q2 e=>kept2 b o q1 q2 (kept b o q1 e)⟩;unfold Q2;rw[yes,if_neg Qh];exact hb
theorem sA(W:Walks prog w Ar.in1 It fp wr n Pv St){bt:Nat->Nat->Bool}(cmp:CmpOf prog w Ar.in1 .Gt Pv bt)(apart:S∉fp){t:Qd}{c:Nat}{d:Qb}{nm:Str}(st:St 0 t.heap)(hS:IsL t.heap S #[] c)
  (want:∀v g tk,((n=0/\v=d)\/(0<n/\Pv (Q2 bt (n-1)) v))->(∀b o,b∉wr->b≠S->t.heap.get? b=some o->g.get? b=some o)->Rs (.ok (.ret v)) { t with heap:=g,toks:=tk }) :
  J1 (Qi prog w) Ar (.builtin "max.loop" ⟨[.ref It,.none,.ref S],[(nm,d)]⟩) Rs t:=by
 have away:S∉wr:=λz=>apart (W.sub _ z);refine Zg J8 ?_;rw[JE QQ _];refine Qa (m:=Zo (.ref S)) (QW hS rfl ?_)
 by_cases hn:n=0
 ·refine Qa (Jz (W.done t _ _ (hn▸st) λg tk kept=>?_))
  exact Qa (wpAny_rule (Qf (want d g tk (.inl ⟨hn,rfl⟩) λb o q1 _ e=>kept b o q1 e)))
 ·have pos:0<n:=Nat.pos_of_ne_zero hn
  refine Qa (Jz (W.item 0 t _ _ pos st λv g tk hv st1 kept=>?_));have hS1:IsL g S #[] c:=kept S _ away hS;refine Qa (Qf ?_);refine Qa (m:=updateSeq S (λ_=>#[v,v])) (Zh hS1 rfl ?_);rw[dI]
  exact Qf ⟨JW QQ _,y9 W cmp apart (n-1) 0 _ v _ (by lia) (W.frame _ _ _ st1 λb q o e=>(Qp _ _ (λz:S=b=>apart (by rw[z];exact q))).trans e) hv (QV _ hS1 rfl)
   λv2 g2 tk2 hv2 kept2=>want v2 g2 tk2 (.inr ⟨pos,hv2⟩) λb o q1 q2 e=>kept2 b o q1 q2 ((Qp _ _ (Ne.symm q2)).trans (kept b o q1 e))⟩
end
def mxI:Int->List Int->Int
 |m,[]=>m
 |m,x::xs=>mxI (if x>m then x else m) xs
theorem mn:∀(xs:List Int) (m:Int),(mxI m xs=m\/mxI m xs∈xs)/\m<=mxI m xs/\∀a∈xs,a<=mxI m xs
 |[],m=>⟨.inl rfl,Int.le_refl _,λa h=>by cases h⟩
 |x::xs,m=>by
  obtain⟨h1,h2,h3⟩:=mn xs (if x>m then x else m);show(mxI (if x>m then x else m) xs=m\/_)/\_;have c1:m<=(if x>m then x else m):=by split<;>lia
  have c2:x<=(if x>m then x else m):=by split<;>lia
  refine⟨?_,Int.le_trans c1 h2,λa ha=>?_⟩
  ·rcases h1 with h1 | h1
   ·by_cases g:x>m
    ·rw[if_pos g] at h1 ⊢;exact .inr (by rw[show mxI m (x::xs)=mxI (if x>m then x else m) xs from rfl,if_pos g,h1];exact QL)
    ·rw[if_neg g] at h1 ⊢;exact .inl h1
   ·exact .inr (Qy _ h1)
  ·rcases Ql.mp ha with z | z
   ·rw[z];exact Int.le_trans c2 h2
   ·exact h3 a z
theorem rV{m M:Int}{xs:List Int}(h1:M∈m::xs)(h2:∀a∈m::xs,a<=M):M=mxI m xs:=by
 obtain⟨q1,q2,q3⟩:=mn xs m
 have u1:mxI m xs<=M:=by
  rcases q1 with z | z
  ·rw[z];exact h2 m QL
  ·exact h2 _ (Qy _ z)
 have u2:M<=mxI m xs:=by
  rcases Ql.mp h1 with z | z
  ·rw[z];exact q2
  ·exact q3 M z
 lia
def cV:List D->Option (List Int)
 |[]=>some []
 |.int i::ds=>(cV ds).bind λr=>some (i::r)
 |_=>none
theorem kx(l:List Int):cV (l.map D.int)=some l:=by
 induction l with
 |nil=>rfl
 |cons i l ih=>show(cV (l.map D.int)).bind _=_;rw[ih];rfl
theorem gu{K:Qc}{G:Hp}{xs:List V}{ds:List D}{ns:List Int}(h:DenL K G xs ds):cV ds=some ns->xs=ns.map V.int:=by
 refine DenL.ind (P:=λxs ds=>∀ns,cV ds=some ns->xs=ns.map V.int) (λns e=>by cases e;rfl) (λ{x d xs ds} h _ y ns e=>?_) h ns;cases d with
 |int i=>
  obtain⟨r,e1,e2⟩:=ar (show(cV ds).bind _=some ns from e);cases e2;rw[h.intV,y _ e1];rfl
 |_=>cases e
section
variable{prog:Qr}{w:Qu}{Ar:QB}{Ex:Qb->Qd->Prop}{t:Qd}
theorem oW{id:String}{b:Builtin}{args:List Qb}{kw:List (Str×Qb)}{Q:Qb->Qd->Prop}(hk:builtinKind id=none)(hp:plainId id=true)(hb:entryFor table id=some b)(ha:argsOk id ⟨args,kw⟩)
  (hc:Qg (Qi prog w) Ar.in1 (b ⟨args,kw⟩) (λfin t'=>match fin with
   |.done f=>match(Except.ok f:Result) with
    |.ok (.ret v)=>Q v t'
    |.ok _=>False
    |.error e=>Ex e t'
   |.again c'=>c'.quiet=true/\J1 (Qi prog w) Ar c' (λr t'=>match r with
    |.ok (.ret v)=>Q v t'
    |.ok _=>False
    |.error e=>Ex e t') t') Ex t):Qg (Qi prog w) Ar (call (.builtin id) args kw) Q Ex t:=by
 refine wpAny_call (codeAny_call_builtin hp hb ?_);simp only[checkBuiltinCall,hk];cases sg:Manifest.signature? id with
 |none=>exact Qf hc
 |some sig=>
  have ok:Bind.checkArgs id sig ⟨args,kw⟩=pure ():=by simpa only[argsOk,sg] using ha
  simp only[ok];exact Qf hc
theorem pP(a d:Qb):argsOk "max" ⟨[a],[("default",d)]⟩:=by unfold argsOk;kernel_rfl
theorem xC{l:Addr}{d:Qb}{xs:Array (Int×Tok)}{Q:Qb->Qd->Prop}(hh:Ar.handled=none)(ls:t.heap.IsList l (intItems xs))
  (want:∀v g tk,((xs.size=0/\v=d)\/(0<xs.size/\(intItems xs)[Q2 (λi j=>decide (numAt xs i>numAt xs j)) (xs.size-1)]?=some v))->(∀b o,t.heap.get? b=some o->g.get? b=some o)->Q v { t with heap:=g,toks:=tk }) :
  Qg (Qi prog w) Ar (call (.builtin "max") [.ref l] [("default",d)]) Q Ex t:=by
 refine oW F.kind_max F.plain_max F.entry_max (pP _ _) ?_;refine Qa (m:=Builtin.Builtins.bindParams "max" ["key","default"] 0 ⟨[],[("default",d)]⟩) (wpAny_of_eq (a:=[none,some d]) rfl (Qa (Qf ?_)));refine Qa (iter_intList ls λt2 e st hfp hl=>?_);subst e;refine Qa (QS ?_);have sz:(intItems xs).size=xs.size:=by simp[intItems]
 have W:=Walks.list (prog:=prog) (w:=w) (A:=Ar.in1) hh t.heap.objs.size l hl (intItems xs);have ap:(t.heap.push { cls:=.type "list_iterator",data:=.fields #[.ref l,.int 0 0] }).objs.size∉[t.heap.objs.size,l]:=λz=>QR _ (hfp _ z);rw[dI];refine Qf ⟨JW QQ _,sA W (CmpOf.ints_gt (numAt xs) (λ_ _=>intItems_at)) ap (W.frame _ _ _ st λb _ o e=>Qe _ e) (Qo _ rfl) λv g tk hv kept=>?_⟩;refine want v g tk (by rw[sz] at hv;exact hv) λb o e=>?_;have lt:=Qk e;refine kept b o (λz=>?_) (QC (Qv lt (by rw[QP];exact Nat.le_succ _))) (Qe _ (Qe _ e));rw[QO.mp z] at lt;exact QR _ lt
end
section
variable{X:Cx}{a c:Expr}{fa fc:Ev->Option D}{pos:Pos}
theorem oI{its:List Qb}{ns:List Int}{xs:Array (Int×Tok)}(hi:JI its ns)(e:its.toArray=intItems xs){v:Qb}{m:Int}{r:List Int}(en:ns=m::r)
  (hv:(intItems xs)[Q2 (λi j=>decide (numAt xs i>numAt xs j)) (xs.size-1)]?=some v):∃tk,v=.int (mxI m r) tk:=by
 have hns:ns=xs.toList.map (·.1):=by rw[<-hi.numsOf,<-nums_intItems,<-e]
 have hsz:ns.length=xs.size:=by rw[hns];simp
 obtain⟨tk,rfl⟩:=intItems_at hv;obtain⟨b1,b2⟩:=argBest_gt (numAt xs) (xs.size-1);have pos:0<xs.size:=by rw[<-hsz,en];simp
 refine⟨tk,?_⟩
 have hm:numAt xs (Q2 (λi j=>decide (numAt xs i>numAt xs j)) (xs.size-1))=mxI m r:=by
  refine rV ?_ λu hu=>?_
  ·rw[<-en,hns,numAt_eq];exact getD_mem (by rw[Qz,J9];lia)
  ·rw[<-en,hns] at hu
   obtain⟨j,hj,rfl⟩:=mem_getD hu;rw[Qz,J9] at hj;rw[<-numAt_eq];exact b2 j (by lia)
 rw[hm]
def lZ:D->D->Option D:=λx d=>match x with | .lst ds=>(match cV ds with | some []=>some d | some (m::r)=>some (.int (mxI m r)) | none=>none) | _=>none
theorem rg{p kp:Pos}(ha:DE X a fa)(hd:DE X c fc)(hc:X.calm=true)(hm:X.mg "max" = none)(hg:Gl X "max":=by rfl)
  (hst:Qj [a] X.env=(false,eval a X.env)::Qj [] X.env:=by rfl) (he:Ja pos (Qj [a] X.env)=(false,eval a X.env)::Ja pos (Qj [] X.env):=by rfl) (hpl:(Ja pos (Qj [a] X.env)).any (·.1)=false:=by rfl)
  (hall:(backToKw pos (Zl [⟨some "default",c,kp⟩] X.env)).all (·.1.isSome)=true:=by rfl) (hkw:(backToKw pos (Zl [⟨some "default",c,kp⟩] X.env)).any (·.1.isNone)=false:=by rfl)
  (hnm:(backToKw pos (Zl [⟨some "default",c,kp⟩] X.env)).filterMap (·.1)=[Jw "default"]:=by rfl):DE X (.Call (.Name "max" p) [a] [⟨some "default",c,kp⟩] pos) (e2 lZ fa fc):=by
 obtain⟨ta,a1,a2⟩:=ha;obtain⟨tc,c1,c2⟩:=hd;refine⟨λσ H Q=>oM ta uo σ H λvs H1=>oM tc uo σ H1 λzs H2=>∃l ns v,vs=[.ref l]/\zs=[v]/\SqL X.K H2 l (ns.map V.int)/\(ns=[]->Q v H2)/\∀m r,ns=m::r->Q (.int (mxI m r)) H2,λpins s σ H Q I h=>?_,λHe G H σ ε d Q gh E ef q=>?_⟩
 ·refine JM (gH I hg hm boot_max ?_ (by decide) (by decide))
  refine callWith_kw (thn (b4 a1 du hst pos pins s σ H _ I h) λus s1 ⟨vs,H1,I1,r1,q1⟩=>?_) he hpl hall hkw;refine thn (vf (nm:=some "default") (kpos:=kp) c1 x8 pos pins s1 σ H1 _ I1 q1) λws s2 ⟨zs,H2,I2,r2,q2⟩=>?_;obtain⟨l,ns,v,rfl,rfl,hq,qe,qc⟩:=q2;obtain⟨u,rfl,ru⟩:=r1.one;obtain⟨uv,rfl,rv⟩:=r2.one;cases ru;obtain⟨its,r,pl,hz⟩:=I2.list hq;have hi:JI its ns:=gG r;have⟨xs,e⟩:=hi.allInts.items
  have hsz:ns.length=xs.size:=by
   have:ns=xs.toList.map (·.1):=by rw[<-hi.numsOf,<-nums_intItems,<-e]
   rw[this];simp
  have hl:=pl.isList;rw[e] at hl;rw[hnm];refine xC (I2.ok.hd hc) hl λv' g tk hv kept=>?_;have I3:=I2.kept (t':=tk) kept;rcases hv with⟨z,rfl⟩ | ⟨z,hv⟩
  ·exact⟨v,H2,I3,rv,qe (List.eq_nil_of_length_eq_zero (by lia))⟩
  ·cases en:ns with
   |nil=>rw[en] at hsz;simp at hsz;lia
   |cons m r=>
    obtain⟨tk',rfl⟩:=oI hi e en hv;exact⟨.int (mxI m r),H2,I3,⟨_,rfl⟩,qc m r en⟩
 ·obtain⟨x,e1,ef⟩:=ar ef
  obtain⟨y,e2',ef⟩:=ar ef;refine a2 He G H σ ε x _ gh E e1 λv1 G1 H1 g1 d1=>?_;refine c2 He G1 H1 σ ε y _ g1.gh (E.grow g1) e2' λv2 G2 H2 g2 d2=>?_;unfold lZ at ef;split at ef
  ·obtain⟨l,xs,rfl,h1,h2⟩:=d1.lstV
   have g:=g1.trans g2;split at ef
   ·rename_i et
    cases ef;have:=gu h2 et;subst this;exact⟨l,[],v2,rfl,rfl,(g2.gg.trans g2.gh).seq h1,λ_=>q _ G2 H2 g d2,λm r z=>(nomatch z)⟩
   ·rename_i m r et
    cases ef;have:=gu h2 et;subst this
    exact⟨l,m::r,v2,rfl,rfl,(g2.gg.trans g2.gh).seq h1,(λz=>nomatch z),λm' r' z=>by
     cases z
     exact q _ G2 H2 g (.int _)⟩
   ·cases ef
  ·cases ef
def rl:List D->Option D
 |[.lst ds]=>(match cV ds with | some (m::r)=>some (.int (mxI m r)) | _=>none)
 |_=>none
theorem vh(hc:X.calm=true):kN X (.builtin "max") rl:=by
 refine⟨λxs H Q=>∃l m r,xs=[.ref l]/\SqL X.K H l ((m::r).map V.int)/\Q (.int (mxI m r)) H,λpins s σ H xs us Q I rv h=>?_,λG H vs ds d Q gh hd e q=>?_⟩
 ·obtain⟨l,m,r,rfl,hq,q⟩:=h
  obtain⟨u,rfl,ru⟩:=rv.one;cases ru;obtain⟨its,rr,pl,hz⟩:=I.list hq;have hi:JI its (m::r):=gG rr;have⟨xs,e⟩:=hi.allInts.items
  have hsz:(m::r).length=xs.size:=by
   have:(m::r)=xs.toList.map (·.1):=by rw[<-hi.numsOf,<-nums_intItems,<-e]
   rw[this];simp
  have hl:=pl.isList;rw[e] at hl;refine max_intList (I.ok.hd hc) hl (by rw[<-hsz];simp) λv g tk hv kept=>?_;obtain⟨tk',rfl⟩:=oI hi e rfl hv;exact⟨.int (mxI m r),H,I.kept (t':=tk) kept,⟨_,rfl⟩,q⟩
 ·unfold rl at e
  split at e
  ·split at e
   ·rename_i m r et
    cases e
    cases hd with | cons h1 h2=>
     cases h2;obtain⟨l,xs,rfl,h3,h4⟩:=h1.lstV;have:=gu h4 et;subst this;exact⟨l,m,r,rfl,gh.seq h3,q _ G H (.refl gh) (.int _)⟩
   ·cases e
  ·cases e
end
def iV:List D->Option (List Bool)
 |[]=>some []
 |.bl b::ds=>(iV ds).bind λr=>some (b::r)
 |_=>none
theorem pJ{K:Qc}{G:Hp}{xs:List V}{ds:List D}{ns:List Bool}(h:DenL K G xs ds):iV ds=some ns->xs=ns.map V.bl:=by
 refine DenL.ind (P:=λxs ds=>∀ns,iV ds=some ns->xs=ns.map V.bl) (λns e=>by cases e;rfl) (λ{x d xs ds} h _ y ns e=>?_) h ns;cases d with
 |bl i=>
  obtain⟨r,e1,e2⟩:=ar (show(iV ds).bind _=some ns from e);cases e2;rw[h.blV,y _ e1];rfl
 |_=>cases e
theorem lO:∀{bs:List Bool} {us:List Qb},aX (bs.map V.bl) us->us=bs.map Zd
 |[],_,.nil=>rfl
 |b::bs,_,.cons r rs=>by rw[lO rs,show _=Zd b from r];rfl
theorem kr:∀bs:List Bool,(JB bs.length).all (λi=>(bs[i]?).getD true)=bs.all id
 |[]=>rfl
 |b::bs=>by
  rw[QI,List.range_succ_eq_map,Zb,List.all_map,Zb,<-kr bs];rfl
section
variable{X:Cx}{a b c:Expr}{fa fb fc:Ev->Option D}{pos:Pos}
def mx:List D->Option D
 |[.lst ds]=>(iV ds).bind λbs=>some (.bl (bs.all id))
 |_=>none
theorem xN(hc:X.calm=true):kN X (.builtin "all") mx:=by
 refine⟨λxs H Q=>∃(l:Addr) (bs:List Bool),xs=[.ref l]/\SqL X.K H l (bs.map V.bl)/\Q (.bl (bs.all id)) H,λpins s σ H xs us Q I rv h=>?_,λG H vs ds d Q gh hd e q=>?_⟩
 ·obtain⟨l,bs,rfl,hq,q⟩:=h
  obtain⟨u,rfl,ru⟩:=rv.one;cases ru;obtain⟨its,rr,pl,hz⟩:=I.list hq;have ei:=lO rr;subst ei;have hl:=pl.isList;have lt:l<s.heap.objs.size:=let⟨_,there,_⟩:=hl;Qk there;apply call_all_walk;apply wpAny_pyIter_list hl;refine⟨s.heap.objs.size,_,_,_,_,_,λi=>(bs[i]?).getD true,rfl,Walks.list (A:=X.A.in1) (I.ok.hd hc) _ l (QC lt) _,⟨⟨_,Qo _ rfl,rfl,rfl⟩,hl.push _⟩,λi v t Q' E' hv hQ=>?_,λg tk kept=>?_⟩
  ·have hv':(bs.map Zd)[i]?=some v:=by simpa using hv
   rw[QG] at hv';obtain⟨k,ek,rfl⟩:=a_ hv';have hQ2:Q' k t:=by simpa[ek] using hQ
   exact Jf hQ2
  ·refine⟨.bl (bs.all id),H,I.kept (t':=tk) λb o e=>kept b o (λz=>?_) (Qe _ e),?_,q⟩
   ·rw[QO.mp z] at e
    exact absurd (Qk e) (QR _)
   ·have hn:(bs.map Zd).toArray.size=bs.length:=by simp
    rw[hn,kr];rfl
 ·unfold mx at e
  split at e
  ·obtain⟨bs,eb,e⟩:=ar e
   cases e
   cases hd with | cons h1 h2=>
    cases h2;obtain⟨l,xs,rfl,h3,h4⟩:=h1.lstV;have:=pJ h4 eb;subst this;exact⟨l,bs,rfl,gh.seq h3,q _ G H (.refl gh) (.bl _)⟩
  ·cases e
theorem si(i j:Nat){x y:Str}{ga:Ev->Option (List D)}{px py pt:Pos}{kt k2 pt2}(hN:X.N.Nodup)(ha:DA X [a,b] ga)(hc:X.calm=true:=by rfl)(hi:X.N[i]?=some x:=by rfl)(hj:X.N[j]?=some y:=by rfl)(hij:i≠j:=by decide)
  (hx:X.env.scope.names.lookup x=some .local:=by rfl) (hy:X.env.scope.names.lookup y=some .local:=by rfl)
  (hw:swappedStores [.Tuple [.Name x px,.Name y py] kt pt] (.Tuple [a,b] k2 pt2) X.env=pure (some [x,y]):=by rfl)
  (hs:swapsWithSole [.Tuple [.Name x px,.Name y py] kt pt] (.Tuple [a,b] k2 pt2) pos.line X.env=pure false:=by rfl) :
  DS X (.Assign [.Tuple [.Name x px,.Name y py] kt pt] (.Tuple [a,b] k2 pt2) pos) (uA i j ga):=by
 obtain⟨t,a1,a2⟩:=ha;refine⟨_,xM hc hN hi hj hij hx hy a1 hw hs,λHe Ge G H σ ε r W S e P=>?_⟩;unfold uA at e;split at e
 ·rename_i dx dy eg
  cases e;refine a2 He G H σ ε _ _ S.g.gh S.e eg λvs G' H' g hd=>?_
  cases hd with | cons h1 h2=>cases h2 with | cons h2 h3=>
   cases h3;exact⟨_,_,rfl,P _ G' H' ⟨S.g.trans g,((S.e.grow g).put h1).put h2⟩⟩
 ·cases e
end
theorem nN{a b:Nat}(h:a≠b):@Ne Addr a b:=h
def SIt(t:Bool)(h:Heap)(it l:Addr)(i:Nat):Prop:=match t with | true=>h.IsTupleIter it l i | false=>h.IsListIter it l i
def SSq(t:Bool)(h:Heap)(l:Addr)(xs:Array Qb):Prop:=match t with | true=>h.IsTuple l xs | false=>h.IsList l xs
def SqB(t:Bool)(K:Qc)(H:Hp)(l:Addr)(xs:List V):Prop:=match t with | true=>SqT K H l xs | false=>SqL K H l xs
theorem SIt.to{t:Bool}{h h':Heap}{it l:Addr}{i:Nat}(q:SIt t h it l i)(k:∀o,h.get? it=some o->h'.get? it=some o):SIt t h' it l i:=by
 cases t with
 |true=>exact let⟨o,e,r⟩:=q;⟨o,k o e,r⟩
 |false=>exact let⟨o,e,r⟩:=q;⟨o,k o e,r⟩
theorem SSq.to{t:Bool}{h h':Heap}{l:Addr}{xs:Array Qb}(q:SSq t h l xs)(k:∀o,h.get? l=some o->h'.get? l=some o):SSq t h' l xs:=by
 cases t with
 |true=>exact let⟨o,e,r⟩:=q;⟨o,k o e,r⟩
 |false=>exact let⟨o,e,r⟩:=q;⟨o,k o e,r⟩
theorem SIt.there{t:Bool}{h:Heap}{it l:Addr}{i:Nat}(q:SIt t h it l i):∃o,h.get? it=some o/\∀v,o.data≠.cell v:=by
 cases t with
 |true=>exact let⟨o,e,c,d⟩:=q;⟨o,e,λv z=>by rw[d] at z;cases z⟩
 |false=>exact let⟨o,e,c,d⟩:=q;⟨o,e,λv z=>by rw[d] at z;cases z⟩
theorem SSq.lt{t:Bool}{h:Heap}{l:Addr}{xs:Array Qb}(q:SSq t h l xs):l<h.objs.size:=by
 cases t with
 |true=>exact let⟨o,e,r⟩:=q;Qk e
 |false=>exact let⟨o,e,r⟩:=q;Qk e
theorem eE{X:Cx}{pins:List (Addr×Obj)}{σ:L2.St}{H:Hp}{s:Qd}{t:Bool}{a:Addr}{xs:List V}(I:Inv X pins σ H s)(h:SqB t X.K H a xs):∃its:List Qb,aX xs its/\SSq t s.heap a its.toArray:=by
 cases t with
 |true=>exact let⟨its,r,p,_⟩:=I.tuple h;⟨its,r,p⟩
 |false=>exact let⟨its,r,p,_⟩:=I.list h;⟨its,r,p.isList⟩
theorem gW{X:Cx}{pins:List (Addr×Obj)}{σ:L2.St}{H:Hp}{s:Qd}{t:Bool}{a:Addr}{xs ys:List V}(I:Inv X pins σ H s)(h:SqB t X.K H a xs)(h':SqB t X.K H a ys):xs=ys:=by
 cases t with
 |true=>exact I.tuple_inj h h'
 |false=>exact I.list_inj h h'
section
variable{prog:Qr}{w:Qu}{A:QB}{E:Qb->Qd->Prop}{s:Qd}
theorem xg{it l:Addr}{i:Nat}{items:Array Qb}{x:Qb}{Q:Qb->Qd->Prop}(ht:s.heap.IsTupleIter it l i)(hl:s.heap.IsTuple l items)(hx:items[i]?=some x)
  (q:∀h',h'.IsTupleIter it l (i+1)->JD it s.heap h'->Q x { s with heap:=h' }):Qg (Qi prog w) A (QH (.ref it)) Q E s:=by
 obtain⟨o,e1,e2,e3⟩:=id ht;obtain⟨u,e4,_,m,e5⟩:=hl;unfold QH;refine Qa (Jc (name:=Jw "__next__") ht.typeIs Je (JH Je ht.typeIs F.entry_tuple_iterator_next ?_ (F.args_tuple_iterator_next_1 _)))
 change Qg _ _ (field (.ref it) 0>>=_) _ _ s
 refine Qa (QM e1 e3 (x:=.ref l) rfl ?_)
 change Qg _ _ (if(QF l==QT)=true then _ else _) _ _ s
 rw[if_neg (show ¬((QF l==QT)=true) from λz=>Bool.noConfusion z)]
 change Qg _ _ (field (.ref it) 1>>=_) _ _ s
 refine Qa (QM e1 e3 (x:=.int i 0) rfl ?_)
 change Qg _ _ (Zo (.ref l)>>=_) _ _ s
 refine Qa (QW e4 e5 ?_);simp only[hx,JX];refine Qa (J2 e1 e3 (by simp) (Qf ⟨x,rfl,Qf (q _ ⟨_,QV _ e1 (JQ (Jb e3 _)),(Obj.cls_mapFields ..).trans e2,?_⟩ (Zs ..))⟩));rw[Jb e3];simp[J5]
theorem m8{it l:Addr}{i:Nat}{items:Array Qb}{Q:Qb->Qd->Prop}(hh:A.handled=none)(ht:s.heap.IsTupleIter it l i)(hl:s.heap.IsTuple l items)(hx:items[i]?=none)
  (q:∀h' e,Heap.ExtBut it s.heap h'->(∃o,h'.get? e=some o/\o.cls=.type "StopIteration")->E (.ref e) { s with heap:=h' }):Qg (Qi prog w) A (QH (.ref it)) Q E s:=by
 obtain⟨o,e1,e2,e3⟩:=id ht;obtain⟨u,e4,_,m,e5⟩:=hl;unfold QH;refine Qa (Jc (name:=Jw "__next__") ht.typeIs Je (JH Je ht.typeIs F.entry_tuple_iterator_next ?_ (F.args_tuple_iterator_next_1 _)))
 change Qg _ _ (field (.ref it) 0>>=_) _ _ s
 refine Qa (QM e1 e3 (x:=.ref l) rfl ?_)
 change Qg _ _ (if(QF l==QT)=true then _ else _) _ _ s
 rw[if_neg (show ¬((QF l==QT)=true) from λz=>Bool.noConfusion z)]
 change Qg _ _ (field (.ref it) 1>>=_) _ _ s
 refine Qa (QM e1 e3 (x:=.int i 0) rfl ?_)
 change Qg _ _ (Zo (.ref l)>>=_) _ _ s
 refine Qa (QW e4 e5 ?_);simp only[hx,JX];refine Qa (wpAny_rule (Qa (J2 e1 e3 (by simp) ?_)))
 change Qg _ _ (newExc (.type "StopIteration") []>>=_) _ _ _
 refine Qa ?_;simp only[newTuple,newExc];refine Qa (QS (Qa (m:=firstArgMember _ _) (wpAny_of_eq (a:=QT) (by first | rfl | (simp only[firstArgMember];rfl)) (QS ?_ (by size_fits)))) (by size_fits));simp only[raiseNew];refine Qa (wpAny_handled ?_);rw[hh];exact Qa (Qf (wpAny_throw (q _ _ (((Zs ..).extBut.push _).push _) ⟨_,Qo _ rfl,rfl⟩)))
theorem wj{t:Bool}{it l:Addr}{i:Nat}{items:Array Qb}{x:Qb}{Q:Qb->Qd->Prop}(ht:SIt t s.heap it l i)(hl:SSq t s.heap l items)(hx:items[i]?=some x)
  (q:∀h',SIt t h' it l (i+1)->JD it s.heap h'->Q x { s with heap:=h' }):Qg (Qi prog w) A (QH (.ref it)) Q E s:=by
 cases t with
 |true=>exact xg ht hl hx q
 |false=>exact wpAny_nextOf_list_item ht hl hx q
theorem mV{t:Bool}{it l:Addr}{i:Nat}{items:Array Qb}{Q:Qb->Qd->Prop}(hh:A.handled=none)(ht:SIt t s.heap it l i)(hl:SSq t s.heap l items)(hx:items[i]?=none)
  (q:∀h' e,Heap.ExtBut it s.heap h'->(∃o,h'.get? e=some o/\o.cls=.type "StopIteration")->E (.ref e) { s with heap:=h' }):Qg (Qi prog w) A (QH (.ref it)) Q E s:=by
 cases t with
 |true=>exact m8 hh ht hl hx q
 |false=>exact wpAny_nextOf_list_end hh ht hl hx q
theorem uV{t:Bool}{N l1 l2:Nat}{k:Nat}{xs ys:Array Qb}{x y a b:Qb}{Q:Qb->Qd->Prop}(p1:l1<N)(p2:l2<N)(hz:IsZip s.heap (N+4) (N+2) (N+3) .none)
  (hI:Jn s.heap (N+2) (.ref N) (.ref (N+1))) (hO:Jn s.heap (N+3) a b) (h1:SIt t s.heap N l1 k) (h2:SIt t s.heap (N+1) l2 k) (g1:SSq t s.heap l1 xs) (g2:SSq t s.heap l2 ys) (hx:xs[k]?=some x) (hy:ys[k]?=some y)
  (q:∀h',IsZip h' (N+4) (N+2) (N+3) (J5 s.heap.objs.size)->Jn h' (N+3) x y->SIt t h' N l1 (k+1)->SIt t h' (N+1) l2 (k+1)->Jn h' s.heap.objs.size x y->
   (∀c o,c≠N+4->c≠N+3->c≠N->c≠N+1->s.heap.get? c=some o->h'.get? c=some o)->Q (.ref s.heap.objs.size) { s with heap:=h' }) :
  Qg (Qi prog w) A (Builtin.«zip.__next__» ⟨[.ref (N+4)],[]⟩) (λfin s'=>∃v,fin=.done (.ret v)/\Q v s') E s:=by
 change Qg _ _ (field (.ref (N+4)) 2>>=_) _ _ _
 refine Qa (QM hz rfl (x:=.bool false) rfl ?_);change Qg _ _ (field (.ref (N+4)) 3>>=_) _ _ _;refine Qa (QM hz rfl (x:=.ref (N+2)) rfl (Qa (QW hI rfl ?_)))
 change Qg _ _ (Jq (.ref (N+4))>>=_) _ _ _
 refine Qa ?_;unfold Jq;refine Qa (QM hz rfl (x:=.none) rfl (Qf ?_));simp only[if_true];refine Qa (wpAny_rule (Qa (QM hz rfl (x:=.ref (N+3)) rfl (Qa (JO hz (by simp) λu1 z1 s1=>?_)))))
 replace z1:IsZip u1 (N+4) (N+2) (N+3) .ellipsis:=z1
 refine Qa ?_;simp only[List.forIn_cons,List.forIn_nil,List.zipIdx_cons,List.zipIdx_nil];refine Qa (Qa (wpAny_onRaise ?_));change Qg _ _ (QH (.ref N)>>=_) _ _ _;refine Qa (wj (h1.to λo e=>s1.extBut _ o (nN (by lia)) e) (g1.to λo e=>s1.extBut _ o (nN (by lia)) e) hx λu2 i2 s2=>Qf ?_);have o2:Jn u2 (N+3) a b:=s2.extBut _ _ (nN (by lia)) (s1.extBut _ _ (nN (by lia)) hO);refine Qa (QW o2 rfl (Qa (wpAny_updateSeq_pair o2 λu3 o3 s3=>?_)))
 replace o3:Jn u3 (N+3) x b:=o3
 refine Qa (JA (Qf (Qa (Qa (wpAny_onRaise ?_)))))
 change Qg _ _ (QH (.ref (N+1))>>=_) _ _ _
 refine Qa (wj (h2.to λo e=>s3.extBut _ o (nN (by lia)) (s2.extBut _ o (nN (by lia)) (s1.extBut _ o (nN (by lia)) e))) (g2.to λo e=>s3.extBut _ o (nN (by lia)) (s2.extBut _ o (nN (by lia)) (s1.extBut _ o (nN (by lia)) e))) hy λu4 i4 s4=>Qf ?_);have o4:Jn u4 (N+3) x b:=s4.extBut _ _ (nN (by lia)) o3;refine Qa (QW o4 rfl (Qa (wpAny_updateSeq_pair o4 λu5 o5 s5=>?_)))
 replace o5:Jn u5 (N+3) x y:=o5
 refine Qa (JA (Qf (Qf (Qa (QW o5 rfl (Qa (wpAny_newTuple ?_)))))));have sz:u5.objs.size=s.heap.objs.size:=by rw[s5.1,s4.1,s3.1,s2.1,s1.1]
 have z5:IsZip u5 (N+4) (N+2) (N+3) .ellipsis:=s5.extBut _ _ (nN (by lia)) (s4.extBut _ _ (nN (by lia)) (s3.extBut _ _ (nN (by lia)) (s2.extBut _ _ (nN (by lia)) z1)));have k5:∀c o,c≠N+4->c≠N+3->c≠N->c≠N+1->s.heap.get? c=some o->u5.get? c=some o:=λc o c1 c2 c3 c4 e=>s5.extBut _ _ c2 (s4.extBut _ _ c4 (s3.extBut _ _ c2 (s2.extBut _ _ c3 (s1.extBut _ _ c1 e))));have a5:SIt t u5 N l1 (k+1):=i2.to λo e=>s5.extBut _ o (nN (by lia)) (s4.extBut _ o (nN (by lia)) (s3.extBut _ o (nN (by lia)) e));have b5:SIt t u5 (N+1) l2 (k+1):=i4.to λo e=>s5.extBut _ o (nN (by lia)) e;have zl:N+4<u5.objs.size:=Qk z5
 change Qg _ _ (Builtin.SmallTypes.ownedTupleHandOut (.ref (N+4)) (.ref u5.objs.size)>>=_) _ _ _
 refine Qa ?_;unfold Builtin.SmallTypes.ownedTupleHandOut;have z6:IsZip (u5.push { cls:=.type "tuple",data:=.seq #[x,y] }) (N+4) (N+2) (N+3) .ellipsis:=Qe _ z5;refine Qa (JO z6 (by simp) λu7 z7 s7=>?_)
 replace z7:IsZip u7 (N+4) (N+2) (N+3) (J5 u5.objs.size):=z7
 refine JO z7 (by simp) λu8 z8 s8=>?_
 replace z8:IsZip u8 (N+4) (N+2) (N+3) (J5 u5.objs.size):=z8
 have up:∀c o,c≠N+4->u5.get? c=some o->u8.get? c=some o:=λc o c1 e=>s8.extBut _ _ c1 (s7.extBut _ _ c1 (Qe _ e));have t8:Jn u8 u5.objs.size x y:=s8.extBut _ _ (nN (by lia)) (s7.extBut _ _ (nN (by lia)) (Qo _ rfl));rw[sz] at z8 t8;refine Qf ⟨_,rfl,?_⟩;change Q (.ref u5.objs.size) _;rw[sz];exact q u8 z8 (up _ _ (nN (by lia)) o5) (a5.to λo e=>up _ o (nN (by lia)) e) (b5.to λo e=>up _ o (nN (by lia)) e) t8 λc o c1 c2 c3 c4 e=>up c o c1 (k5 c o c1 c2 c3 c4 e)
theorem xb{t:Bool}{N l1 l2:Nat}{k:Nat}{xs ys:Array Qb}{a b:Qb}{Q:Fin->Qd->Prop}(hh:A.handled=none)(p1:l1<N)(p2:l2<N)(hz:IsZip s.heap (N+4) (N+2) (N+3) .none)
  (hI:Jn s.heap (N+2) (.ref N) (.ref (N+1))) (hO:Jn s.heap (N+3) a b) (h1:SIt t s.heap N l1 k) (h2:SIt t s.heap (N+1) l2 k) (g1:SSq t s.heap l1 xs) (g2:SSq t s.heap l2 ys) (he:xs[k]?=none\/ys[k]?=none)
  (q:∀h' e,(∀c o,c≠N+4->c≠N+3->c≠N->c≠N+1->s.heap.get? c=some o->h'.get? c=some o)->(∃o,h'.get? e=some o/\o.cls=.type "StopIteration")->E (.ref e) { s with heap:=h' }) :
  Qg (Qi prog w) A (Builtin.«zip.__next__» ⟨[.ref (N+4)],[]⟩) Q E s:=by
 change Qg _ _ (field (.ref (N+4)) 2>>=_) _ _ _
 refine Qa (QM hz rfl (x:=.bool false) rfl ?_);change Qg _ _ (field (.ref (N+4)) 3>>=_) _ _ _;refine Qa (QM hz rfl (x:=.ref (N+2)) rfl (Qa (QW hI rfl ?_)))
 change Qg _ _ (Jq (.ref (N+4))>>=_) _ _ _
 refine Qa ?_;unfold Jq;refine Qa (QM hz rfl (x:=.none) rfl (Qf ?_));simp only[if_true];refine Qa (wpAny_rule (Qa (QM hz rfl (x:=.ref (N+3)) rfl (Qa (JO hz (by simp) λu1 z1 s1=>?_)))))
 replace z1:IsZip u1 (N+4) (N+2) (N+3) .ellipsis:=z1
 refine Qa ?_;simp only[List.forIn_cons,List.forIn_nil,List.zipIdx_cons,List.zipIdx_nil];refine Qa (Qa (wpAny_onRaise ?_));change Qg _ _ (QH (.ref N)>>=_) _ _ _
 have fin:∀{h h':Heap} {e:Addr},IsZip h (N+4) (N+2) (N+3) .ellipsis->JD (N+4) h h'->(∃o,h.get? e=some o/\o.cls=.type "StopIteration")->∃o,h'.get? e=some o/\o.cls=.type "StopIteration":=λ{h h' e} hz sb ⟨o,h1,h2⟩=>
  ⟨o,sb.extBut _ _ (λz=>by rw[z,hz] at h1;cases h1;simp at h2) h1,h2⟩
 cases ex:xs[k]? with
 |none=>
  refine Qa (mV hh (h1.to λo e=>s1.extBut _ o (nN (by lia)) e) (g1.to λo e=>s1.extBut _ o (nN (by lia)) e) ex λu2 e s2 he=>?_);have z2:IsZip u2 (N+4) (N+2) (N+3) .ellipsis:=s2 _ _ (nN (by lia)) z1;exact JO z2 (by simp) λu3 _ s3=>q u3 e (λc o c1 _ c3 _ x=>s3.extBut _ _ c1 (s2 _ _ c3 (s1.extBut _ _ c1 x))) (fin z2 s3 he)
 |some x=>
  have ey:ys[k]?=none:=by
   rcases he with z | z
   ·rw[ex] at z;cases z
   ·exact z
  refine Qa (wj (h1.to λo e=>s1.extBut _ o (nN (by lia)) e) (g1.to λo e=>s1.extBut _ o (nN (by lia)) e) ex λu2 i2 s2=>Qf ?_);have o2:Jn u2 (N+3) a b:=s2.extBut _ _ (nN (by lia)) (s1.extBut _ _ (nN (by lia)) hO);refine Qa (QW o2 rfl (Qa (wpAny_updateSeq_pair o2 λu3 o3 s3=>?_)));refine Qa (JA (Qf (Qa (Qa (wpAny_onRaise ?_)))))
  change Qg _ _ (QH (.ref (N+1))>>=_) _ _ _
  refine Qa (mV hh (h2.to λo e=>s3.extBut _ o (nN (by lia)) (s2.extBut _ o (nN (by lia)) (s1.extBut _ o (nN (by lia)) e))) (g2.to λo e=>s3.extBut _ o (nN (by lia)) (s2.extBut _ o (nN (by lia)) (s1.extBut _ o (nN (by lia)) e))) ey λu4 e s4 he=>?_);have z4:IsZip u4 (N+4) (N+2) (N+3) .ellipsis:=s4 _ _ (nN (by lia)) (s3.extBut _ _ (nN (by lia)) (s2.extBut _ _ (nN (by lia)) z1));exact JO z4 (by simp) λu5 _ s5=>q u5 e (λc o c1 c2 c3 c4 x=>s5.extBut _ _ c1 (s4 _ _ c4 (s3.extBut _ _ c2 (s2.extBut _ _ c3 (s1.extBut _ _ c1 x))))) (fin z4 s5 he)
theorem xq{t:Bool}{N l1 l2:Nat}{k:Nat}{xs ys:Array Qb}{x y a b:Qb}{Q:Option Qb->Qd->Prop}(p1:l1<N)(p2:l2<N)(hz:IsZip s.heap (N+4) (N+2) (N+3) .none)
  (hI:Jn s.heap (N+2) (.ref N) (.ref (N+1))) (hO:Jn s.heap (N+3) a b) (h1:SIt t s.heap N l1 k) (h2:SIt t s.heap (N+1) l2 k) (g1:SSq t s.heap l1 xs) (g2:SSq t s.heap l2 ys) (hx:xs[k]?=some x) (hy:ys[k]?=some y)
  (q:∀h',IsZip h' (N+4) (N+2) (N+3) (J5 s.heap.objs.size)->Jn h' (N+3) x y->SIt t h' N l1 (k+1)->SIt t h' (N+1) l2 (k+1)->Jn h' s.heap.objs.size x y->
   (∀c o,c≠N+4->c≠N+3->c≠N->c≠N+1->s.heap.get? c=some o->h'.get? c=some o)->Q (some (.ref s.heap.objs.size)) { s with heap:=h' }) :
  Qg (Qi prog w) A (pyNext (.ref (N+4))) Q E s:=by
 have ty:s.TypeIs (.ref (N+4)) "zip":=⟨_,hz,rfl⟩;unfold pyNext;exact Qa (wpAny_attempt (Jc (name:=Jw "__next__") ty F.slot_zip_next (JH F.slot_zip_next ty F.entry_zip_next (uV p1 p2 hz hI hO h1 h2 g1 g2 hx hy λh' a1 a2 a3 a4 a5 a6=>Qf (q h' a1 a2 a3 a4 a5 a6)) (F.args_zip_next_1 _))))
theorem nG{t:Bool}{N l1 l2:Nat}{k:Nat}{xs ys:Array Qb}{a b:Qb}{Q:Option Qb->Qd->Prop}(hh:A.handled=none)(p1:l1<N)(p2:l2<N)(hz:IsZip s.heap (N+4) (N+2) (N+3) .none)
  (hI:Jn s.heap (N+2) (.ref N) (.ref (N+1))) (hO:Jn s.heap (N+3) a b) (h1:SIt t s.heap N l1 k) (h2:SIt t s.heap (N+1) l2 k) (g1:SSq t s.heap l1 xs) (g2:SSq t s.heap l2 ys) (he:xs[k]?=none\/ys[k]?=none)
  (q:∀h',(∀c o,c≠N+4->c≠N+3->c≠N->c≠N+1->s.heap.get? c=some o->h'.get? c=some o)->Q none { s with heap:=h' }):Qg (Qi prog w) A (pyNext (.ref (N+4))) Q E s:=by
 have ty:s.TypeIs (.ref (N+4)) "zip":=⟨_,hz,rfl⟩;unfold pyNext;refine Qa (wpAny_attempt (Jc (name:=Jw "__next__") ty F.slot_zip_next (JH F.slot_zip_next ty F.entry_zip_next (xb hh p1 p2 hz hI hO h1 h2 g1 g2 he λh' e hk ⟨o,w1,w2⟩=>?_) (F.args_zip_next_1 _))));exact Qa (wpAny_isInstance (T:="StopIteration") (b:=true) ⟨o,w1,w2⟩ isSubtype_stop (Qf (q _ hk)))
end
def iI(t:Bool)(h:Heap)(l1 l2:Addr):Heap:=
 ((((h.push { cls:=.type (if t then "tuple_iterator" else "list_iterator"),data:=.fields #[.ref l1,.int 0 0] }).push { cls:=.type (if t then "tuple_iterator" else "list_iterator"),data:=.fields #[.ref l2,.int 0 0] }).push
  { cls:=.type "tuple",data:=.seq #[.ref h.objs.size,.ref (h.objs.size+1)] }).push { cls:=.type "tuple",data:=.seq #[.none,.none] }).push
  { cls:=.type "zip",data:=.fields #[.none,.bool false,.bool false,.ref (h.objs.size+2),.ref (h.objs.size+3)] }
theorem so(l1 l2:Addr)(xs ys:Array Qb):Meets (Builtin.«zip.__new__» ⟨[.type "zip",.ref l1,.ref l2],[]⟩) (λ_ R s=>s.heap.IsTuple l1 xs/\s.heap.IsTuple l2 ys/\
   R (.ok (.ret (.ref (s.heap.objs.size+4)))) { s with heap:=iI true s.heap l1 l2 }):=
 .of_wp λprog w A R s h=>by
  obtain⟨hp,g,d,tk,os⟩:=s;obtain⟨q1,q2,h⟩:=h;have hsub:=sub_zip;have w1:Heap.IsTuple (Shared.heap ⟨hp,g,d,tk,os⟩) l1 xs:=q1;have w2:Heap.IsTuple (Shared.heap ⟨hp.push { cls:=.type "tuple_iterator",data:=.fields #[.ref l1,.int 0 0] },g,d,tk,os⟩) l2 ys:=Heap.IsTuple.push q2 _
  wp_walk using Ze w1,Ze w2
  simp only[QP] at *;exact⟨_,rfl,h⟩
theorem rf(t:Bool)(h:Heap)(l1 l2:Addr):IsZip (iI t h l1 l2) (h.objs.size+4) (h.objs.size+2) (h.objs.size+3) .none/\Jn (iI t h l1 l2) (h.objs.size+2) (.ref h.objs.size) (.ref (h.objs.size+1))/\
  Jn (iI t h l1 l2) (h.objs.size+3) .none .none/\SIt t (iI t h l1 l2) h.objs.size l1 0/\SIt t (iI t h l1 l2) (h.objs.size+1) l2 0/\∀c o,h.get? c=some o->(iI t h l1 l2).get? c=some o:=by
 have lay:∀(g:Heap) (o:Obj) (n:Nat),g.objs.size=n->o.isFreed=false->(g.push o).get? n=some o:=λg o n e f=>by rw[<-e];exact Qo _ f
 unfold iI;refine⟨lay _ _ _ (by simp[QP]) rfl,?_,?_,?_,?_,λc o e=>?_⟩
 ·exact Qe _ (Qe _ (lay _ _ _ (by simp[QP]) rfl))
 ·exact Qe _ (lay _ _ _ (by simp[QP]) rfl)
 ·cases t<;>exact⟨_,Qe _ (Qe _ (Qe _ (Qe _ (lay _ _ _ rfl rfl)))),rfl,rfl⟩
 ·cases t<;>exact⟨_,Qe _ (Qe _ (Qe _ (lay _ _ _ (by simp[QP]) rfl))),rfl,rfl⟩
 ·exact Qe _ (Qe _ (Qe _ (Qe _ (Qe _ e))))
theorem p_{prog:Qr}{w:Qu}{A:QB}{E:Qb->Qd->Prop}{s:Qd}{t:Bool}{l1 l2:Addr}{xs ys:Array Qb}{Q:Qb->Qd->Prop}(g1:SSq t s.heap l1 xs)(g2:SSq t s.heap l2 ys)
  (q:∀h',IsZip h' (s.heap.objs.size+4) (s.heap.objs.size+2) (s.heap.objs.size+3) .none->Jn h' (s.heap.objs.size+2) (.ref s.heap.objs.size) (.ref (s.heap.objs.size+1))->Jn h' (s.heap.objs.size+3) .none .none->
   SIt t h' s.heap.objs.size l1 0->SIt t h' (s.heap.objs.size+1) l2 0->(∀c o,s.heap.get? c=some o->h'.get? c=some o)->Q (.ref (s.heap.objs.size+4)) { s with heap:=h' }):Qg (Qi prog w) A (call (.type "zip") [.ref l1,.ref l2]) Q E s:=by
 cases t with
 |false=>exact call_zip_2 g1 g2 λh' a1 a2 a3 a4 a5 _ a6=>q h' a1 a2 a3 a4 a5 a6
 |true=>
  obtain⟨a1,a2,a3,a4,a5,a6⟩:=rf true s.heap l1 l2;exact callType_new F.called_zip (by decide) (F.typeCall_zip_2 _ _) (F.newCall_zip_2 _ _) (λob=>F.args_object_init_3 ob _ _) F.entry_zip_new (so l1 l2 xs ys) ⟨g1,g2,⟨_,a1,rfl⟩,q _ a1 a2 a3 a4 a5 a6⟩
theorem dP{X:Cx}{pins:List (Addr×Obj)}{σ:L2.St}{H:Hp}{s:Qd}{h':Heap}{t':Nat}{fp:List Addr}(I:Inv X pins σ H s)(k:∀b o,b∉fp->s.heap.get? b=some o->h'.get? b=some o)(hf:∀b∈fp,ij X pins H b):Inv X pins σ H { s with heap:=h',toks:=t' }:=by
 refine I.step (g':=s.gens) (d':=s.drawn) (ch:=fp) (λb hb=>⟨(hf b hb).2.2.2.1,(hf b hb).2.1,(hf b hb).2.2.2.2.1,(hf b hb).2.2.2.2.2⟩) (λb o _ _ hc e _=>k b o hc e) (λb o _ _ hc e _=>⟨o.slots,k b o hc e⟩) (λ_ _ _ _ n=>n) (λb o hc e=>⟨o,k b o hc e⟩) (λ_ _ e=>e) (λ_ _ _ e=>e)
  (λb ps e=>⟨#[],by rw[e];simp⟩) (λm hm=>?_) (λb u e=>?_) I.bare
 ·obtain⟨o,es,ep,ho,r⟩:=hm
  exact⟨o,es,ep,k _ o (λz=>(hf _ z).2.1 rfl) ho,r⟩
 ·refine(I.hok b u e).stay (λc v hc q=>k c v (λz=>?_) q) (λ_ q=>q) λ_ _ q=>q
  have nc:=(hf c z).1;rcases hc with w | w
  ·rw[w,e] at nc;cases nc
  ·rw[w] at nc;cases nc
def Itz(t:Bool)(K:Qc)(l1 l2:Addr):It:=
 ⟨λi H=>∃xs ys x y,SqB t K H l1 xs/\SqB t K H l2 ys/\xs[i]?=some x/\ys[i]?=some y,
  λi H v H'=>∃p x y,v=.ref p/\H p=none/\H'=upd H p (.tup [x,y])/\(∀xs,SqB t K H l1 xs->xs[i]?=some x)/\(∀ys,SqB t K H l2 ys->ys[i]?=some y),
  λi H=>∃xs ys,SqB t K H l1 xs/\SqB t K H l2 ys/\(xs.length<=i\/ys.length<=i)⟩
def zfp(N:Nat):List Addr:=[N+4,N+2,N+3,N,N+1]
theorem sy{P:Qr}{w:Qu}{K:Qc}{es:List Expr}{k0:Nat}{tpos:Pos}(t:Bool)(N l1 l2:Nat)(p1:l1<N)(p2:l2<N) :
  Turn P w K (.Tuple es k0 tpos) (Itz t K l1 l2) (zfp N) (N+4) (λi h=>IsZip h (N+4) (N+2) (N+3) .none/\Jn h (N+2) (.ref N) (.ref (N+1))/\(∃a b,Jn h (N+3) a b)/\SIt t h N l1 i/\SIt t h (N+1) l2 i) where
 mem:=by simp[zfp]
 obj:=λi h ⟨h1,h2,⟨a,b,h3⟩,h4,h5⟩ c hc=>by
  simp only[zfp,Ql,QJ,or_false] at hc;rcases hc with rfl | rfl | rfl | rfl | rfl
  ·exact⟨_,h1,λv z=>by cases(show Data.fields _=Data.cell v from z)⟩
  ·exact⟨_,h2,λv z=>by cases(show Data.seq _ _=Data.cell v from z)⟩
  ·exact⟨_,h3,λv z=>by cases(show Data.seq _ _=Data.cell v from z)⟩
  ·exact h4.there
  ·exact h5.there
 keep:=λi h h' ⟨h1,h2,⟨a,b,h3⟩,h4,h5⟩ k=>⟨k _ (by simp[zfp]) _ h1,k _ (by simp[zfp]) _ h2,⟨a,b,k _ (by simp[zfp]) _ h3⟩,h4.to λo e=>k _ (by simp[zfp]) o e,h5.to λo e=>k _ (by simp[zfp]) o e⟩
 item:=by
  intro X hP hw hK hc i pins s σ H E I hf st hg;subst hP hw hK;obtain⟨h1,h2,⟨a,b,h3⟩,h4,h5⟩:=st;obtain⟨xs,ys,x,y,q1,q2,ex,ey⟩:=hg;obtain⟨is1,r1,g1⟩:=eE I q1;obtain⟨is2,r2,g2⟩:=eE I q2;obtain⟨u,eu,ru⟩:=r1.get ex;obtain⟨v,ev,rv⟩:=r2.get ey;refine xq p1 p2 h1 h2 h3 h4 h5 g1 g2 (x:=u) (y:=v) (by simpa using eu) (by simpa using ev) λh' a1 a2 a3 a4 a5 a6=>⟨_,rfl,?_⟩;refine wpAny_letOwnedTupleGo_zip (s:={ s with heap:=h' }) a1 λh'' b1 b2=>?_;have zl:N+4<s.heap.objs.size:=Qk h1;have nn:H s.heap.objs.size=none:=I.hok.fresh (Qn _)
  have I1:Inv X pins σ (upd H s.heap.objs.size (.tup [x,y])) { s with heap:=s.heap.push { cls:=.type "tuple",data:=.seq #[u,v] } }:=
   I.laid (t':=s.toks) (λb o e=>Qe _ e) (Qn _) ⟨show 2<=Qt by decide,[u,v],.cons ru (.cons rv .nil),⟨_,Qo _ rfl,rfl,_,rfl⟩⟩
  have ne:∀b∈zfp N,b≠s.heap.objs.size:=λc hc=>by
   simp only[zfp,Ql,QJ,or_false] at hc;rcases hc with rfl | rfl | rfl | rfl | rfl<;>exact nN (by lia)
  have f1:∀b∈zfp N,ij X pins (upd H s.heap.objs.size (.tup [x,y])) b:=λc hc=>⟨by rw[aA (ne c hc)];exact(hf c hc).1,(hf c hc).2⟩
  have k2:∀c o,c∉zfp N->(s.heap.push { cls:=.type "tuple",data:=.seq #[u,v] }).get? c=some o->h''.get? c=some o:=λc o hc e=>by
   simp only[zfp,Ql,QJ,or_false,not_or] at hc;obtain⟨c1,c2,c3,c4,c5⟩:=hc;refine b2.extBut _ _ c1 ?_
   by_cases z:c=s.heap.objs.size
   ·subst z
    rw[Qo _ rfl] at e;cases e;exact a5
   ·exact a6 c o c1 c3 c4 c5 ((Heap.get?_push_ne _ _ _ z).symm.trans e)
  have I2:=dP (h':=h'') (t':=s.toks) I1 k2 f1;refine⟨.ref s.heap.objs.size,_,I2,rfl,⟨_,x,y,rfl,nn,rfl,λzs hz=>?_,λzs hz=>?_⟩,⟨b1,b2.extBut _ _ (nN (by lia)) (a6 _ _ (nN (by lia)) (nN (by lia)) (nN (by lia)) (nN (by lia)) h2),⟨_,_,b2.extBut _ _ (nN (by lia)) a2⟩,a3.to λo e=>b2.extBut _ o (nN (by lia)) e,a4.to λo e=>b2.extBut _ o (nN (by lia)) e⟩,λc hc=>(f1 c hc).1⟩
  ·rw[gW I hz q1];exact ex
  ·rw[gW I hz q2];exact ey
 done:=by
  intro X hP hw hK hc i pins s σ H E I hf st hg;subst hP hw hK;obtain⟨h1,h2,⟨a,b,h3⟩,h4,h5⟩:=st;obtain⟨xs,ys,q1,q2,he⟩:=hg;obtain⟨is1,r1,g1⟩:=eE I q1;obtain⟨is2,r2,g2⟩:=eE I q2;have n1:=r1.length;have n2:=r2.length;refine nG (I.ok.hd hc) p1 p2 h1 h2 h3 h4 h5 g1 g2 (he.elim (λz=>.inl (by simp;lia)) λz=>.inr (by simp;lia)) λh' hk=>⟨rfl,dP (t':=s.toks) I (λc o hc e=>?_) hf⟩;simp only[zfp,Ql,QJ,or_false,not_or] at hc;exact hk c o hc.1 hc.2.2.1 hc.2.2.2.1 hc.2.2.2.2 e
 self:=λ_ _ _ _ _ st h=>wpAny_pyIter_zip st.1 h
section
variable{X:Cx}{a b:Expr}{pos:Pos}
def yJ(K:Qc)(ta:TA):TI:=λσ H R=>ta σ H λvs H1=>∃t l1 l2 xs ys,vs=[.ref l1,.ref l2]/\SqB t K H1 l1 xs/\SqB t K H1 l2 ys/\R (Itz t K l1 l2) H1
theorem xi{es:List Expr}{k0:Nat}{tpos p:Pos}{ta:TA}(hg:Gl X "zip")(hm:X.mg "zip" = none)(ha:PA X [a,b] ta)(hs:Qj [a,b] X.env=[(false,eval a X.env),(false,eval b X.env)]:=by rfl)(hs2:Qj [b] X.env=[(false,eval b X.env)]:=by rfl) :
  PI X (.Tuple es k0 tpos) (.Call (.Name "zip" p) [a,b] [] pos) (yJ X.K ta):=by
 intro pins s σ H R I h;refine Call_ (gH I hg hm boot_zip (JL (thn (ha pos pins s σ H _ I h) λus s1 ⟨vs,H1,I1,r1,q1⟩=>?_) (by rw[hs,hs2]) (by rw[hs2];rfl)));obtain⟨t,l1,l2,xs,ys,e,q1,q2,q⟩:=q1;subst e
 cases r1 with | cons r rr=>cases rr with | cons r' rr=>
  cases rr;cases r;cases r';obtain⟨is1,w1,g1⟩:=eE I1 q1;obtain⟨is2,w2,g2⟩:=eE I1 q2;refine p_ g1 g2 λh' a1 a2 a3 a4 a5 a6=>wpAny_pyIter_zip a1 ?_;refine⟨s1.heap.objs.size+4,zfp s1.heap.objs.size,_,_,H1,rfl,I1.kept (t':=s1.toks) a6,sy t s1.heap.objs.size l1 l2 g1.lt g2.lt,⟨a1,a2,⟨_,_,a3⟩,a4,a5⟩,λc hc=>?_,q⟩
  have lc:s1.heap.objs.size<=c:=by
   simp only[zfp,Ql,QJ,or_false] at hc;rcases hc with rfl | rfl | rfl | rfl | rfl<;>(show @LE.le Nat _ _ _;lia)
  exact I1.fpOk lc (I1.hok.fresh lc)
def jM(xs ys:List D):List D:=List.zipWith (λx y=>D.tup [x,y]) xs ys
def rO(f:Ev->Option (List D)):Ev->Option (List D):=λε=>match f ε with
 |some [.lst xs,.lst ys]=>some (jM xs ys)
 |some [.tup xs,.tup ys]=>some (jM xs ys)
 |_=>none
theorem vz{K:Qc}{G:Hp}{t:Bool}{l1 l2:Addr}{xs ys:List V}{ds es:List D}(h1:SqB t K G l1 xs)(h2:SqB t K G l2 ys)(d1:DenL K G xs ds)(d2:DenL K G ys es):ItD K (Itz t K l1 l2) (jM ds es) G:=by
 intro i H2 s2
 have up:∀{l:Addr} {zs:List V},SqB t K G l zs->SqB t K H2 l zs:=λ{l zs} h=>by
  cases t with
  |true=>exact aR s2 h
  |false=>exact s2.seq h
 have n1:=d1.length;have n2:=d2.length;have nz:(jM ds es).length=min ds.length es.length:=by simp[jM]
 refine⟨λhi=>?_,λhi=>⟨xs,ys,up h1,up h2,by rw[nz] at hi;lia⟩,?_⟩
 ·rw[nz] at hi
  exact⟨xs,ys,xs[i]'(by lia),ys[i]'(by lia),up h1,up h2,by simp,by simp⟩
 ·rintro v H3 ⟨p,x,y,rfl,hn,rfl,w1,w2⟩ d ed G2 s3 s4
  have e1:=w1 xs (up h1);have e2:=w2 ys (up h2);obtain⟨d1',f1,f2⟩:=d1.getV e1;obtain⟨d2',f3,f4⟩:=d2.getV e2;have:(jM ds es)[i]?=some (.tup [d1',d2']):=by simp[jM,List.getElem?_zipWith,f1,f3]
  rw[this] at ed;cases ed;have g:=Grow.new (.tup [x,y]) s4 hn;refine⟨_,g,.tup (xs:=[x,y]) (.inl (.inl ay)) (.cons ((f2.mono s3).mono g.gg) (.cons ((f4.mono s3).mono g.gg) .nil))⟩
theorem xT{es:List Expr}{k0:Nat}{tpos p:Pos}{f:Ev->Option (List D)}(h:DA X [a,b] f)(hm:X.mg "zip" = none)(hg:Gl X "zip":=by rfl)(hs:Qj [a,b] X.env=[(false,eval a X.env),(false,eval b X.env)]:=by rfl)(hs2:Qj [b] X.env=[(false,eval b X.env)]:=by rfl) :
  DI X (.Tuple es k0 tpos) (.Call (.Name "zip" p) [a,b] [] pos) (rO f):=by
 obtain⟨t,a1,a2⟩:=h;refine⟨_,xi hg hm a1 hs hs2,λHe G H σ ε ds R gh E ef q=>?_⟩;unfold rO at ef;split at ef
 ·rename_i e1
  cases ef;refine a2 He G H σ ε _ _ gh E e1 λvs G1 H1 g1 hd=>?_
  cases hd with | cons h1 hd=>cases hd with | cons h2 hd=>
   cases hd;obtain⟨l1,xs,rfl,w1,w2⟩:=h1.lstV;obtain⟨l2,ys,rfl,w3,w4⟩:=h2.lstV;exact⟨false,l1,l2,xs,ys,rfl,g1.gh.seq w1,g1.gh.seq w3,q _ G1 H1 g1 (vz (t:=false) w1 w3 w2 w4)⟩
 ·rename_i e1
  cases ef;refine a2 He G H σ ε _ _ gh E e1 λvs G1 H1 g1 hd=>?_
  cases hd with | cons h1 hd=>cases hd with | cons h2 hd=>
   cases hd;obtain⟨l1,xs,rfl,w1,w2⟩:=h1.tupV;obtain⟨l2,ys,rfl,w3,w4⟩:=h2.tupV;exact⟨true,l1,l2,xs,ys,rfl,aR g1.gh w1,aR g1.gh w3,q _ G1 H1 g1 (vz (t:=true) w1 w3 w2 w4)⟩
 ·cases ef
end
def flD:D->Option V
 |.non=>some .non
 |.bl b=>some (.bl b)
 |.int i=>some (.int i)
 |.str x=>some (.str x)
 |_=>none
def j0:List D->Option (List V)
 |[]=>some []
 |d::ds=>(flD d).bind λv=>(j0 ds).bind λr=>some (v::r)
def zR:D->Option (List D)
 |.lst ds=>some ds
 |.tup ds=>some ds
 |_=>none
def inD(neg:Bool):D->D->Option D:=λx y=>(flD x).bind λv=>(zR y).bind λds=>(j0 ds).bind λvs=>some (.bl (if neg then !inV v vs else inV v vs))
theorem oO{K:Qc}{G:Hp}{v w:V}{d:D}(h:Den K G v d)(e:flD d=some w):v=w/\eZ v=true:=by
 cases h<;>cases e<;>exact⟨rfl,rfl⟩
theorem jK{K:Qc}{G:Hp}:∀{xs:List V} {ds:List D} {ws:List V},DenL K G xs ds->j0 ds=some ws->xs=ws/\xs.all eZ=true
 |_,_,_,.nil,e=>by cases e;exact⟨rfl,rfl⟩
 |_,_,_,.cons h hs,e=>by
  obtain⟨v,e1,e⟩:=ar e;obtain⟨r,e2,e⟩:=ar e;cases e;obtain⟨rfl,f1⟩:=oO h e1;obtain⟨rfl,f2⟩:=jK hs e2;exact⟨rfl,by rw[Zb,f1,f2];rfl⟩
section
variable{X:Cx}{a b c:Expr}{fa fb fc:Ev->Option D}{pos:Pos}
theorem o8{neg:Bool}(G H:Hp)(x y:V)(dx dy d:D)(Q:VK)(gh:aO G H)(hx:bW X.K G H x dx)(hy:bW X.K G H y dy)(e:inD neg dx dy=some d)(q:∀v G' H',Grow G H G' H'->Den X.K G' v d->Q v H'):rIn X.K neg x y H Q:=by
 obtain⟨v,e1,e⟩:=ar e;obtain⟨ds,e2,e⟩:=ar e;obtain⟨vs,e3,e⟩:=ar e;cases e
 have hx':Den X.K G x dx:=by
  rcases hx with h | ⟨_,_,_,_,rfl,_⟩
  ·exact h
  ·cases e1
 obtain⟨rfl,f1⟩:=oO hx' e1;cases dy with
 |lst es=>
  cases e2;obtain⟨p,xs,rfl,h1,h2⟩:=hy.lst gh;obtain⟨rfl,f2⟩:=jK h2 e3;exact⟨p,_,rfl,.inl h1,f1,f2,q _ G H (.refl gh) (.bl _)⟩
 |tup es=>
  cases e2;obtain⟨p,xs,rfl,_,h1,h2⟩:=hy.tup gh;obtain⟨rfl,f2⟩:=jK h2 e3;exact⟨p,_,rfl,.inr h1,f1,f2,q _ G H (.refl gh) (.bl _)⟩
 |_=>cases e2
theorem q_:OpD X (QE .In) (inD false):=⟨_,pV,o8⟩
theorem qQ:OpD X (QE .NotIn) (inD true):=⟨_,lz,o8⟩
end
def zc:D->Bool
 |.tup _=>false
 |.lst _=>false
 |.dic _=>false
 |_=>true
theorem Den.scal{K:Qc}{G G':Hp}{v:V}{d:D}(h:Den K G v d)(s:zc d=true):Den K G' v d:=by
 cases h with
 |non=>exact .non
 |bl b=>exact .bl b
 |int i=>exact .int i
 |str x=>exact .str x
 |tup _ _=>cases s
 |lst _ _=>cases s
 |dic _ _ _=>cases s
section
variable{X:Cx}{a b c:Expr}{fa fb fc:Ev->Option D}{pos:Pos}
def uu(f f':D->D->Option D)(fa fb fc:Ev->Option D):Ev->Option Bool:=λε=>asB (eCh f f' fa fb fc ε)
theorem zf{op op':CmpOp}{f f':D->D->Option D}(ho:OpD X (QE op) f)(ho':OpD X (QE op') f')(ha:DB X a fa)(hb:DB X b fb)(hc:DB X c fc)(hm:lastMarks [op,op'] [b,c]=false:=by with_unfolding_all rfl) :
  DT X (.Compare a [op,op'] [b,c] pos) (uu f f' fa fb fc):=by
 obtain⟨r,o1,o2⟩:=ho;obtain⟨r',p1,p2⟩:=ho';obtain⟨ta,a1,a2⟩:=ha;obtain⟨tb,b1,b2⟩:=hb;obtain⟨tc,c1,c2⟩:=hc;refine⟨_,rW o1 p1 a1 b1 c1 hm,λHe G H σ ε k Q gh E ef q=>?_⟩;obtain⟨x,e1,ef⟩:=ar (mR ef);obtain⟨y,e2,ef⟩:=ar ef;obtain⟨z,e3,ef⟩:=ar ef;refine a2 He G H σ ε x _ gh E e1 λv G1 H1 g1 d1=>?_;refine b2 He G1 H1 σ ε y _ g1.gh (E.grow g1) e2 λu G2 H2 g2 d2=>?_;split at ef
 ·rename_i j
  refine o2 G2 H2 v u x y (.bl j) _ g2.gh (d1.grow g2) d2 e3 λw G3 H3 g3 d3=>⟨j,d3.blV,?_⟩;cases j with
  |true=>
   rw[if_pos rfl] at ef ⊢;obtain⟨w',e4,ef⟩:=ar ef;refine c2 He G3 H3 σ ε w' _ g3.gh (((E.grow g1).grow g2).grow g3) e4 λv4 G4 H4 g4 d4=>?_;exact p2 G4 H4 u v4 y w' (.bl k) _ g4.gh ((d2.grow g3).grow g4) d4 ef λv5 G5 H5 g5 d5=>⟨k,d5.blV,q G5 H5 (g1.trans (g2.trans (g3.trans (g4.trans g5))))⟩
  |false=>
   rw[if_neg Qh] at ef ⊢;cases ef;exact⟨false,rfl,q _ _ (g1.trans (g2.trans g3))⟩
 ·cases ef
end
end Dn
namespace HG
open PySem PyProof.Rows
def gj:List Int->List Int->Bool
 |[],_=>false
 |_::_,[]=>true
 |x::xs,y::ys=>if x=y then gj xs ys else decide (y<x)
theorem qZ(x y:Int)(xs ys:List Int):gj (x::xs) (y::ys)=if x=y then gj xs ys else decide (y<x):=rfl
theorem sM(A:QB)(s:Qd)(a:Int)(t:Tok)(c:Int)(u:Tok)(prog:Qr)(w:Qu)(E:Qb->Qd->Prop)(Q:Qb->Qd->Prop)(h:Q (.bool (decide (c<a))) s) :
  Qg (Qi prog w) A (richCompare .Gt (.int a t) (.int c u)) Q E s:=
 (PyProof.Rows.gt_int h:Qg (Qi prog w) A (QE .Gt (.int a t) (.int c u)) Q E s)
section
open PySem.SeqAt
open PySem.AutoSeq1 (wpAny_loadPart')
open PySem.MeetsSeq PySem.MeetsSeq2 PySem.MeetsSeq3
theorem jT(l b:Addr)(items items2:Array Qb)(n n2:Nat)(dd dd2:Option Addr)(sl sl2:Array (Option Qb))(ns ms:List Int)(hi:JI items.toList ns)(hj:JI items2.toList ms) :
  Meets (Builtin.«tuple.__gt__» ⟨[.ref l,.ref b],[]⟩)
   (λ_ R s=>s.heap.get? l=some { cls:=.type "tuple",dict:=dd,data:=.seq items n,slots:=sl }/\s.heap.get? b=some { cls:=.type "tuple",dict:=dd2,data:=.seq items2 n2,slots:=sl2 }/\
    R (.ok (.ret (.bool (gj ns ms)))) s):=
 .of_wp λprog w A R s h=>by
  obtain⟨hp,g,d,tk,os⟩:=s;obtain⟨hl,hb,h⟩:=h;have f2:=AutoSeq1.sub_tuple_tuple;have z1:items.size=ns.length:=by rw[<-hi.length];simp
  have z2:items2.size=ms.length:=by rw[<-hj.length];simp
  wp_walk using wpAny_loadPart' hl,wpAny_loadPart' hb,wpAny_forIn_list _ (λrest b s'=>b.1=none/\s'=⟨hp,g,d,tk,os⟩/\∃(vs ws:List Qb) (ns' ms':List Int),rest=vs.zip ws/\
   JI vs ns'/\JI ws ms'/\ns'.length+items2.size=ms'.length+items.size/\R (.ok (.ret (.bool (gj ns' ms')))) ⟨hp,g,d,tk,os⟩) _
  case turn=>
   rintro⟨y,x⟩ rest b s' ⟨hb',rfl,vs,ws,ns',ms',hz,hvi,hwi,hlen,hR⟩;cases hvi with
   |nil=>rw[List.zip_nil_left] at hz;cases hz
   |cons a t hvi'=>
    cases hwi with
    |nil=>rw[List.zip_nil_right] at hz;cases hz
    |cons c u hwi'=>
     rw[List.zip_cons_cons] at hz;injection hz with hyx hrest
     injection hyx with hy hx
     subst hy hx;rw[qZ] at hR;simp only[QI] at hlen;obtain⟨e,he,hiff⟩:=HT.rq A.in1 ⟨hp,g,d,tk,os⟩ a t c u;refine Qa (he prog w _ _ ?_);cases e with
     |true=>
      rw[if_pos (hiff.mp rfl)] at hR
      wp_walk
      exact⟨rfl,rfl,_,_,_,_,hrest,hvi',hwi',by lia,hR⟩
     |false=>
      rw[if_neg (λq=>absurd (hiff.mpr q) Qh)] at hR;have hri:=sM A.in1 ⟨hp,g,d,tk,os⟩ a t c u prog w
      wp_walk using hri
      exact⟨_,rfl,by simpa using hR⟩
  case fin=>
   rintro⟨b1,b2⟩ s' ⟨hb',rfl,vs,ws,ns',ms',hz,hvi,hwi,hlen,hR⟩;simp only at hb';subst hb'
   have hv:gj ns' ms'=decide (items2.size<items.size):=by
    cases hvi with
    |nil=>
     cases hwi with
     |nil=>
      simp only[JS] at hlen;exact(decide_eq_false (by lia)).symm
     |cons c u hw=>
      simp only[JS,QI] at hlen;exact(decide_eq_false (by lia)).symm
    |cons a t hv=>
     cases hwi with
     |nil=>
      simp only[JS,QI] at hlen;exact(decide_eq_true (by lia)).symm
     |cons c u hw=>
      rw[List.zip_cons_cons] at hz;cases hz
   rw[hv] at hR
   wp_walk
   exact⟨_,rfl,by simpa[Builtin.Tuple.tupleCompareSizes] using hR⟩
  case h=>
   exact⟨rfl,rfl,items.toList,items2.toList,ns,ms,rfl,hi,hj,by lia,h⟩
end
theorem nB{prog:Qr}{w:Qu}{A:QB}{E:Qb->Qd->Prop}{s:Qd}{l b:Addr}{items items2:Array Qb}{ns ms:List Int}{Q:Qb->Qd->Prop}(hl:IsTup s.heap l items)(hb:IsTup s.heap b items2)(hi:JI items.toList ns)(hj:JI items2.toList ms)
  (hu:A.units<cLine) (h:Q (.bool (gj ns ms)) s):Qg (Qi prog w) A (richCompare .Gt (.ref l) (.ref b)) Q E s:=by
 obtain⟨⟨cls,dd,data,sl⟩,ho,hc,n,hd⟩:=id hl;obtain⟨⟨cls2,dd2,data2,sl2⟩,ho2,hc2,n2,hd2⟩:=id hb;simp only at hc hd hc2 hd2;subst hc hd hc2 hd2
 exact richCompare_meets_room (op:=.Gt) ⟨_,ho,rfl⟩ ⟨_,ho2,rfl⟩ PySem.F.slot_tuple_gt PySem.F.entry_tuple_gt (PySem.F.args_tuple_gt_2 _ _) (jT l b items items2 n n2 dd dd2 sl sl2 ns ms hi hj)
  ⟨ho,ho2,show Zd (gj ns ms)≠Value.notImplemented/\Q (.bool (gj ns ms)) s from⟨(λx=>nomatch x),h⟩⟩ hu
end HG
namespace Dn
open PySem PySem.Spec PyProof.Rows L2
section
variable{prog:Qr}{w:Qu}{Ar:QB}{Rs:Result->Qd->Prop}{It S:Addr}{fp wr:List Addr}{n:Nat}{Pv:Nat->Qb->Prop}{St:Nat->Heap->Prop}{kw:List (Str×Qb)}{hv:Heap->Prop}{bt:Nat->Nat->Bool}
theorem yx(W:Walks prog w Ar.in1 It fp wr n Pv St)(cmp:∀i j vi vj (t:Qd) (Q:Qb->Qd->Prop) (E:Qb->Qd->Prop),Pv i vi->Pv j vj->hv t.heap->Q (.bool (bt i j)) t->Qg (Qi prog w) Ar.in1 (richCompare .Gt vi vj) Q E t)
  (kp:∀g g',hv g->(∀b o,b∉wr->b≠S->g.get? b=some o->g'.get? b=some o)->hv g') (apart:S∉fp):∀(k j:Nat) (t:Qd) (best:Qb) (c:Nat),j+1+k=n->St (j+1) t.heap->hv t.heap->Pv (Q2 bt j) best->IsL t.heap S #[best,best] c->
  (∀v g tk,Pv (Q2 bt (n-1)) v->(∀b o,b∉wr->b≠S->t.heap.get? b=some o->g.get? b=some o)->Rs (.ok (.ret v)) { t with heap:=g,toks:=tk })->J1 (Qi prog w) Ar (.builtin "max.loop" ⟨[.ref It,.none,.ref S],kw⟩) Rs t:=by
 have away:S∉wr:=λz=>apart (W.sub _ z);intro k
 induction k with
 |zero=>
  intro j t best c ej st hv0 hb hS want;refine Zg J8 ?_;rw[JE QQ _];refine Qa (m:=Zo (.ref S)) (QW hS rfl (Qa (Jz (W.done t _ _ (ej▸st) λg tk kept=>?_))));have hS1:IsL g S #[best,best] c:=kept S _ away hS;refine Qa (m:=updateSeq S (λ_=>#[])) (Zh hS1 rfl (Qa (JA (Qf ?_))));refine want best _ tk (by rw[<-ej];exact hb) λb o q1 q2 e=>(Qp _ _ (Ne.symm q2)).trans (kept b o q1 e)
 |succ k ih=>
  intro j t best c ej st hv0 hb hS want;have more:j+1<n:=by lia
  refine Zg J8 ?_;rw[JE QQ _];refine Qa (m:=Zo (.ref S)) (QW hS rfl (Qa (Jz (W.item (j+1) t _ _ more st λv g tk hpv st1 kept=>?_))));have hS1:IsL g S #[best,best] c:=kept S _ away hS;have hv1:hv g:=kp _ _ hv0 λb o q1 _ e=>kept b o q1 e;refine Qa (Qf (Qa (Jz (Q8 (Qa (cmp (j+1) (Q2 bt j) v best _ _ _ hpv hb hv1 (Qa (Q8 (Jf (Qa (JA (Qf ?_))))))))))));cases yes:bt (j+1) (Q2 bt j) with
  |true=>
   rw[if_pos rfl];refine Qa (m:=updateSeq S (λ_=>#[v,v])) (Zh hS1 rfl (Qa (JA ?_)));rw[dI];refine Qf ⟨JW QQ _,ih (j+1) _ v _ (by lia) (W.frame _ _ _ st1 λb q o e=>(Qp _ _ (λz:S=b=>apart (by rw[z];exact q))).trans e) (kp _ _ hv1 λb o _ q2 e=>(Qp _ _ (Ne.symm q2)).trans e) ?_ (QV _ hS1 rfl) λv2 g2 tk2 hv2 kept2=>want v2 g2 tk2 hv2 λb o q1 q2 e=>kept2 b o q1 q2 ((Qp _ _ (Ne.symm q2)).trans (kept b o q1 e))⟩;unfold Q2;rw[if_pos yes];exact hpv
  |false=>
   rw[if_neg Qh];refine Qa (JA ?_);rw[dI];refine Qf ⟨JW QQ _,ih (j+1) _ best c (by lia) st1 hv1 ?_ hS1 λv2 g2 tk2 hv2 kept2=>want v2 g2 tk2 hv2 λb o q1 q2 e=>kept2 b o q1 q2 (kept b o q1 e)⟩;unfold Q2;rw[yes,if_neg Qh];exact hb
theorem qC(W:Walks prog w Ar.in1 It fp wr n Pv St)(cmp:∀i j vi vj (t:Qd) (Q:Qb->Qd->Prop) (E:Qb->Qd->Prop),Pv i vi->Pv j vj->hv t.heap->Q (.bool (bt i j)) t->Qg (Qi prog w) Ar.in1 (richCompare .Gt vi vj) Q E t)
  (kp:∀g g',hv g->(∀b o,b∉wr->b≠S->g.get? b=some o->g'.get? b=some o)->hv g') (apart:S∉fp) {t:Qd} {c:Nat} (pos:0<n) (st:St 0 t.heap) (hv0:hv t.heap) (hS:IsL t.heap S #[] c)
  (want:∀v g tk,Pv (Q2 bt (n-1)) v->(∀b o,b∉wr->b≠S->t.heap.get? b=some o->g.get? b=some o)->Rs (.ok (.ret v)) { t with heap:=g,toks:=tk }) :
  J1 (Qi prog w) Ar (.builtin "max.loop" ⟨[.ref It,.none,.ref S],kw⟩) Rs t:=by
 have away:S∉wr:=λz=>apart (W.sub _ z);refine Zg J8 ?_;rw[JE QQ _];refine Qa (m:=Zo (.ref S)) (QW hS rfl (Qa (Jz (W.item 0 t _ _ pos st λv g tk hpv st1 kept=>?_))));have hS1:IsL g S #[] c:=kept S _ away hS;have hv1:hv g:=kp _ _ hv0 λb o q1 _ e=>kept b o q1 e;refine Qa (Qf (Qa (m:=updateSeq S (λ_=>#[v,v])) (Zh hS1 rfl ?_)));rw[dI]
 exact Qf ⟨JW QQ _,yx W cmp kp apart (n-1) 0 _ v _ (by lia) (W.frame _ _ _ st1 λb q o e=>(Qp _ _ (λz:S=b=>apart (by rw[z];exact q))).trans e) (kp _ _ hv1 λb o _ q2 e=>(Qp _ _ (Ne.symm q2)).trans e) hpv (QV _ hS1 rfl)
  λv2 g2 tk2 hv2 kept2=>want v2 g2 tk2 hv2 λb o q1 q2 e=>kept2 b o q1 q2 ((Qp _ _ (Ne.symm q2)).trans (kept b o q1 e))⟩
end
def dN:List D->Option (List (Int×Int))
 |[]=>some []
 |.tup [.int a,.int b]::ds=>(dN ds).bind λr=>some ((a,b)::r)
 |_=>none
def btP(ps:List (Int×Int))(i j:Nat):Bool:=HG.gj [(ps.getD i (0,0)).1,(ps.getD i (0,0)).2] [(ps.getD j (0,0)).1,(ps.getD j (0,0)).2]
def kD:List D->Option D
 |[.lst ds]=>(dN ds).bind λps=>if 0<ps.length then ds[Q2 (btP ps) (ps.length-1)]? else none
 |_=>none
theorem iN:∀{ds:List D} {ps:List (Int×Int)},dN ds=some ps->ds.length=ps.length/\∀(i:Nat) d,ds[i]?=some d->d=.tup [.int (ps.getD i (0,0)).1,.int (ps.getD i (0,0)).2]
 |[],ps,e=>by cases e;exact⟨rfl,λi d h=>by simp at h⟩
 |d::ds,ps,e=>by
  unfold dN at e;split at e
  ·rename_i h;cases h
  ·rename_i a b ds' h
   cases h;obtain⟨r,e1,e2⟩:=ar e;cases e2;obtain⟨h1,h2⟩:=iN e1;refine⟨by simp[h1],λi d hd=>?_⟩;cases i with
   |zero=>simp at hd;subst hd;rfl
   |succ i=>exact h2 i d (by simpa using hd)
  ·cases e
section
variable{X:Cx}
theorem tS{k:Nat}(hr:Room k X.A)(hc:X.calm=true):kN X (.builtin "max") kD:=by
 refine⟨λxs H Q=>∃G l vs ds ps,xs=[.ref l]/\aO G H/\SqL X.K G l vs/\DenL X.K G vs ds/\dN ds=some ps/\0<ps.length/\∀v,vs[Q2 (btP ps) (ps.length-1)]?=some v->Q v H,λpins s σ H xs us Q I rv h=>?_,λG H vs ds d Q gh hd e q=>?_⟩
 ·obtain⟨G,l,vs,ds,ps,rfl,gh,hq,hd,et,pos,q⟩:=h
  obtain⟨u,rfl,ru⟩:=rv.one;cases ru;obtain⟨its,rr,pl,hz⟩:=I.list (gh.seq hq);obtain⟨n1,n2⟩:=iN et;have nl:its.length=ps.length:=by rw[<-rr.length,hd.length,n1]
  have hl:=pl.isList;have lt:l<s.heap.objs.size:=let⟨_,there,_⟩:=hl;Qk there
  have at_:∀i v,its[i]?=some v->∃(a:Addr) (arr:Array Qb),v=.ref a/\IsTup s.heap a arr/\JI arr.toList [(ps.getD i (0,0)).1,(ps.getD i (0,0)).2]:=λi v hv=>by
   have hi:i<its.length:=(Qs.mp hv).1;have hx:vs[i]?=some (vs[i]'(by rw[rr.length];exact hi)):=by simp
   obtain⟨d,e1,e2⟩:=hd.getV hx;have:=n2 i d e1;subst this;obtain⟨a,ys,ea,w1,w2⟩:=e2.tupV;obtain⟨u,eu,ru⟩:=rr.get hx;rw[hv] at eu;cases eu;rw[ea] at ru;cases(show v=QF a from ru);obtain⟨arr,r2,p2,_⟩:=I.tuple (aR gh w1);refine⟨a,arr.toArray,rfl,p2,?_⟩
   have:ys=[(ps.getD i (0,0)).1,(ps.getD i (0,0)).2].map V.int:=by
    cases w2 with | cons g1 w2=>cases w2 with | cons g2 w2=>
     cases w2;rw[g1.intV,g2.intV];rfl
   rw[this] at r2;simpa using gG r2
  have sz:its.toArray.size=ps.length:=by simp[nl]
  refine oW F.kind_max F.plain_max F.entry_max (F.args_max1 _) ?_;refine Qa (m:=Builtin.Builtins.bindParams "max" ["key","default"] 0 ⟨[],[]⟩) (wpAny_of_eq (a:=[none,none]) rfl (Qa (Qf ?_)));refine Qa (wpAny_pyIter_list hl (Qa (QS ?_)));have W:=Walks.list (prog:=X.prog) (w:=X.w) (A:=X.A.in1) (I.ok.hd hc) s.heap.objs.size l (QC lt) its.toArray
  have ap:(s.heap.push { cls:=.type "list_iterator",data:=.fields #[.ref l,.int 0 0] }).objs.size∉[s.heap.objs.size,l]:=λz=>by
   rw[QP] at z;simp only[Ql,QJ,or_false] at z;rcases z with z | z
   ·exact absurd z (Nat.succ_ne_self _)
   ·rw[<-z] at lt;exact absurd (JN (Nat.lt_succ_self _) lt) (QR _)
  rw[dI]
  refine Qf ⟨JW QQ _,qC (hv:=λg=>∀b o,s.heap.get? b=some o->g.get? b=some o) (bt:=btP ps) W (λi j vi vj t Q' E' hi hj hg hQ=>?_) (λg g' hg hk b o e=>?_) ap (by rw[sz];exact pos)
   (W.frame _ _ _ (show _/\_ from⟨⟨_,Qo _ rfl,rfl,rfl⟩,hl.push _⟩) λb _ o e=>Qe _ e) (λb o e=>Qe _ (Qe _ e)) (Qo _ rfl) λv g tk hv kept=>?_⟩
  ·obtain⟨a1,r1,rfl,p1,i1⟩:=at_ i vi (by simpa using hi)
   obtain⟨a2,r2,rfl,p2,i2⟩:=at_ j vj (by simpa using hj);have k1:IsTup t.heap a1 r1:=let⟨o,e,r⟩:=p1;⟨o,hg _ _ e,r⟩;have k2:IsTup t.heap a2 r2:=let⟨o,e,r⟩:=p2;⟨o,hg _ _ e,r⟩;exact HG.nB k1 k2 i1 i2 (by show X.A.units+1<cLine;have:=hr.units;lia) hQ
  ·have l0:=Qk e
   refine hk b o (λz=>?_) (λz=>?_) (hg b o e)
   ·rw[QO.mp z] at l0;exact QR _ l0
   ·rw[z,QP] at l0;exact absurd (JN (Nat.lt_succ_self _) l0) (QR _)
  ·rw[sz] at hv
   have I3:Inv X pins σ H { s with heap:=g,toks:=tk }:=I.kept (t':=tk) λb o e=>by
    have l0:=Qk e;refine kept b o (λz=>?_) (λz=>?_) (Qe _ (Qe _ e))
    ·rw[QO.mp z] at l0;exact QR _ l0
    ·rw[z,QP] at l0;exact absurd (JN (Nat.lt_succ_self _) l0) (QR _)
   have hv':its[Q2 (btP ps) (ps.length-1)]?=some v:=by simpa using hv
   have hi:=(Qs.mp hv').1;have hx:vs[Q2 (btP ps) (ps.length-1)]?=some (vs[Q2 (btP ps) (ps.length-1)]'(by rw[rr.length];exact hi)):=by simp
   obtain⟨u,eu,ru⟩:=rr.get hx;rw[hv'] at eu;cases eu;exact⟨_,H,I3,ru,q _ hx⟩
 ·unfold kD at e
  split at e
  ·rename_i es
   obtain⟨ps,et,e⟩:=ar e;split at e
   ·rename_i pos
    cases hd with | cons h1 h2=>
     cases h2;obtain⟨l,xs,rfl,h3,h4⟩:=h1.lstV;refine⟨G,l,xs,es,ps,rfl,gh,h3,h4,et,pos,λv hv=>?_⟩;obtain⟨d',e1,e2⟩:=h4.getV hv;rw[e] at e1;cases e1;exact q v G H (.refl gh) e2
   ·cases e
  ·cases e
end
end Dn
namespace L2
open PySem PySem.Spec PyProof.Rows
section
variable{κ:Type}[DecidableEq κ]
def gz(kvs:List (κ×V))(k:κ):Option V:=(kvs.find? λkv=>decide (kv.1=k)).map (·.2)
def jA(kvs:List (κ×V))(k:κ)(v:V):List (κ×V):=
 if(kvs.any λkv=>decide (kv.1=k))=true then kvs.map (λkv=>if kv.1=k then(kv.1,v) else kv) else kvs++[(k,v)]
def vE(kvs:List (κ×V))(k:κ):List (κ×V):=kvs.filter λkv=>decide (kv.1≠k)
theorem jy{p:κ×V}{r:List (κ×V)}{k:κ}(e:p.1=k):gz (p::r) k=some p.2:=by simp[gz,Zi,e]
theorem jB{p:κ×V}{r:List (κ×V)}{k:κ}(e:¬ p.1=k):gz (p::r) k=gz r k:=by simp[gz,Zi,e]
theorem l_(k:κ):∀kvs:List (κ×V),(kvs.any λkv=>decide (kv.1=k))=(gz kvs k).isSome
 |[]=>rfl
 |p::r=>by
  rw[List.any_cons]
  by_cases e:p.1=k
  ·simp only[jy e,decide_eq_true e,Bool.true_or,Option.isSome_some]
  ·rw[jB e,decide_eq_false e,Bool.false_or];exact l_ k r
theorem lN(kvs:List (κ×V))(k:κ)(v:V):(jA kvs k v).length<=kvs.length+1:=by
 unfold jA;split
 ·rw[Qz];lia
 ·rw[Qw,QI,JS];lia
theorem f7.isSome_eq{o:Option V}{u:Option Qb}(r:f7 o u):o.isSome=u.isSome:=by
 cases o with
 |none=>cases u with
  |none=>rfl
  |some _=>exact(show False from r).elim
 |some _=>cases u with
  |none=>exact(show False from r).elim
  |some _=>rfl
theorem f7.getD{o:Option V}{u:Option Qb}{d:V}{d':Qb}(r:f7 o u)(rd:aW d d'):aW (o.getD d) (u.getD d'):=by
 cases o with
 |none=>cases u with
  |none=>exact rd
  |some _=>exact(show False from r).elim
 |some _=>cases u with
  |none=>exact(show False from r).elim
  |some _=>exact r
theorem KV.val{kvs:List (κ×V)}{vs:List (κ×Qb)}(r:KV kvs vs)(k:κ):f7 (gz kvs k) (valueAt vs k):=by
 unfold KV at r
 induction r with
 |nil=>exact Zf
 |@cons p q ps qs h t ih=>
  obtain⟨h1,h2⟩:=h
  by_cases e:p.1=k
  ·have e':q.1=k:=h1.symm.trans e
   have b:valueAt (q::qs) k=some q.2:=by simp[valueAt,Zi,e']
   rw[jy e,b];exact h2
  ·have e':¬ q.1=k:=λz=>e (h1.trans z)
   have b:valueAt (q::qs) k=valueAt qs k:=by simp[valueAt,Zi,e']
   rw[jB e,b];exact ih
theorem KV.any{kvs:List (κ×V)}{vs:List (κ×Qb)}(r:KV kvs vs)(k:κ):(kvs.any λkv=>decide (kv.1=k))=vs.any λkv=>decide (kv.1=k):=by
 unfold KV at r
 induction r with
 |nil=>rfl
 |cons h t ih=>rw[List.any_cons,List.any_cons,ih,h.1]
theorem KV.repl{kvs:List (κ×V)}{vs:List (κ×Qb)}(r:KV kvs vs)(k:κ){y:V}{u:Qb}(ry:aW y u) :
  KV (kvs.map λkv=>if kv.1=k then(kv.1,y) else kv) (vs.map λkv=>if kv.1=k then(kv.1,u) else kv):=by
 unfold KV at r ⊢
 induction r with
 |nil=>exact .nil
 |@cons p q ps qs h t ih=>
  rw[QN,QN];refine .cons ?_ ih;obtain⟨h1,h2⟩:=h
  by_cases e:p.1=k
  ·rw[if_pos e,if_pos (h1.symm.trans e)];exact⟨h1,ry⟩
  ·rw[if_neg e,if_neg (λz=>e (h1.trans z))];exact⟨h1,h2⟩
theorem KV.put{kvs:List (κ×V)}{vs:List (κ×Qb)}(r:KV kvs vs)(k:κ){y:V}{u:Qb}(ry:aW y u):KV (jA kvs k y) (stored vs k u):=by
 unfold jA stored;rw[r.any k]
 by_cases e:(vs.any λkv=>decide (kv.1=k))=true
 ·rw[if_pos e,if_pos e];exact r.repl k ry
 ·rw[if_neg e,if_neg e];exact Paired.snoc r ⟨rfl,ry⟩
theorem KV.drop{kvs:List (κ×V)}{vs:List (κ×Qb)}(r:KV kvs vs)(k:κ):KV (vE kvs k) (without vs k):=by
 unfold KV at r ⊢;unfold vE without
 induction r with
 |nil=>exact .nil
 |@cons p q ps qs h t ih=>
  obtain⟨h1,h2⟩:=h;rw[List.filter_cons,List.filter_cons]
  by_cases e:p.1=k
  ·have a:¬ decide (p.1≠k)=true:=by simp[e]
   have b:¬ decide (q.1≠k)=true:=by simp[h1.symm.trans e]
   rw[if_neg a,if_neg b];exact ih
  ·have e':¬ q.1=k:=λz=>e (h1.trans z)
   have a:decide (p.1≠k)=true:=by simp[e]
   have b:decide (q.1≠k)=true:=by simp[e']
   rw[if_pos a,if_pos b];exact .cons ⟨h1,h2⟩ ih
theorem KV.keys{kvs:List (κ×V)}{vs:List (κ×Qb)}(r:KV kvs vs):kvs.map (·.1)=vs.map (·.1):=by
 unfold KV at r
 induction r with
 |nil=>rfl
 |cons h t ih=>rw[QN,QN,ih,h.1]
theorem KV.length{kvs:List (κ×V)}{vs:List (κ×Qb)}(r:KV kvs vs):kvs.length=vs.length:=Paired.length r
end
theorem rG{P:Qr}{w:Qu}{k:Key}{u:Qb}(r:aW (kV k) u):(bN P w).is k u=true:=by
 cases k with
 |inl i=>obtain⟨t,e⟩:=(show ∃t,u=Value.int i t from r);subst e;exact mj P w i t
 |inr x=>obtain⟨t,e⟩:=(show ∃t,u=Value.str x t from r);subst e;exact lW P w x t
theorem j9{P:Qr}{w:Qu}:∀{ks:List Key} {us:List Qb},aX (ks.map kV) us->ItemsAre (bN P w) ks us
 |[],_,r=>by rw[List.map_nil] at r;cases r;exact .nil
 |k::ks,_,r=>by
  rw[QN] at r;cases r with
  |cons h t=>exact .cons (rG h) (j9 t)
abbrev KT(H:Hp):List (List Key×V)->List (List Key×Addr×Qb)->Prop:=Paired λp q=>p.1=q.1/\H q.2.1=some (.tup (p.1.map kV))/\aW p.2 q.2.2
theorem KT.val{H:Hp}{kvs:List (List Key×V)}{xs:List (List Key×Addr×Qb)}(r:KT H kvs xs)(k:List Key):f7 (gz kvs k) ((atKey xs k).map (·.2)):=by
 induction r with
 |nil=>exact Zf
 |@cons p q ps qs h t ih=>
  obtain⟨h1,_,h2⟩:=h
  by_cases e:p.1=k
  ·have e':q.1=k:=h1.symm.trans e
   have b:atKey (q::qs) k=some q.2:=by simp[atKey,Zi,e']
   rw[jy e,b];exact h2
  ·have e':¬ q.1=k:=λz=>e (h1.trans z)
   have b:atKey (q::qs) k=atKey qs k:=by simp[atKey,Zi,e']
   rw[jB e,b];exact ih
theorem KT.repl{H:Hp}{kvs:List (List Key×V)}{xs:List (List Key×Addr×Qb)}(r:KT H kvs xs)(k:List Key){y:V}{u:Qb}(ry:aW y u) :
  KT H (kvs.map λkv=>if kv.1=k then(kv.1,y) else kv) (xs.map (putAt k u)):=by
 induction r with
 |nil=>exact .nil
 |@cons p q ps qs h t ih=>
  rw[QN,QN];refine .cons ?_ ih;obtain⟨h1,h2,h3⟩:=h;unfold putAt
  by_cases e:p.1=k
  ·rw[if_pos e,if_pos (h1.symm.trans e)];exact⟨h1,h2,ry⟩
  ·rw[if_neg e,if_neg (λz=>e (h1.trans z))];exact⟨h1,h2,h3⟩
theorem KT.put{H:Hp}{kvs:List (List Key×V)}{xs:List (List Key×Addr×Qb)}(r:KT H kvs xs)(k:List Key){b:Addr}{y:V}{u:Qb}(hb:H b=some (.tup (k.map kV)))(ry:aW y u) :
  KT H (jA kvs k y) (storedH xs k b u):=by
 have e:(kvs.any λkv=>decide (kv.1=k))=(atKey xs k).isSome:=by
  rw[l_,(r.val k).isSome_eq,Option.isSome_map]
 unfold jA storedH;rw[e]
 by_cases q:(atKey xs k).isSome=true
 ·rw[if_pos q,if_pos q];exact r.repl k ry
 ·rw[if_neg q,if_neg q];exact Paired.snoc r ⟨rfl,hb,ry⟩
theorem KT.keeps{H H':Hp}{kvs:List (List Key×V)}{xs:List (List Key×Addr×Qb)}(r:KT H kvs xs)(ht:∀b ys,H b=some (.tup ys)->H' b=some (.tup ys)):KT H' kvs xs:=
 Paired.mapP r λ_ _ z=>⟨z.1,ht _ _ z.2.1,z.2.2⟩
section
variable{P:Qr}{w:Qu}{H:Hp}{h:Heap}{a:Addr}
theorem vw{u:HO}(ok:HOk P w H h)(e:Rd H a u):bO P w H h a u:=e.ok ok
theorem rB{kvs:List (Key×V)}(ok:HOk P w H h)(e:Rd H a (.dK kvs)):kvs.length<=Qt/\(a==JY)=false/\∃vs,KV kvs vs/\h.DictOf (bN P w) a vs:=
 show bO P w H h a (.dK kvs) from vw ok e
theorem yj{kvs:List (Key×V)}(ok:HOk P w H h)(e:H a=some (.dK kvs)):kvs.length<=Qt/\(a==JY)=false/\∃vs,KV kvs vs/\h.DictOf (bN P w) a vs:=rB ok (.inl e)
theorem sW{ks:List Key}(ok:HOk P w H h)(e:H a=some (.tup (ks.map kV))):(tupleKind (bN P w)).is h ks a:=by
 obtain⟨_,its,r,o,h1,h2,n,h3⟩:=(show bO P w H h a (.tup (ks.map kV)) from ok a _ e);exact⟨o,its.toArray,n,h1,h2,h3,by simpa using j9 r⟩
theorem vG{kvs:List (List Key×V)}(ok:HOk P w H h)(e:Rd H a (.dT kvs)):kvs.length<=Qt/\(a==JY)=false/\
  ∃xs,KT H kvs xs/\h.DictOfH (tupleKind (bN P w)) a xs:=by
 obtain⟨z,y,xs,r,o,es,ep,h1,h2,h3,h4,h5⟩:=(show bO P w H h a (.dT kvs) from vw ok e);refine⟨z,y,xs,r,o,es,ep,h1,h2,h3,h4,λx hx=>?_,h5⟩
 have all:∀{l:List (List Key×V)} {m:List (List Key×Addr×Qb)},KT H l m->∀x∈m,(tupleKind (bN P w)).is h x.1 x.2.1:=by
  intro l m q
  induction q with
  |nil=>intro x hx;exact nomatch hx
  |@cons p q ps qs hq t ih=>
   intro x hx;rcases Ql.mp hx with e | hx
   ·subst e
    exact sW ok (by rw[<-hq.1];exact hq.2.1)
   ·exact ih x hx
 exact all r x hx
end
def jX(H:Hp)(a:Addr)(y:V)(r:Option V):Prop:=
 (∃kvs k,Rd H a (.dK kvs)/\y=kV k/\r=gz kvs k)\/∃kvs k b,Rd H a (.dT kvs)/\y=.ref b/\H b=some (.tup (k.map kV))/\r=gz kvs k
theorem jX.k{H:Hp}{a:Addr}{kvs:List (Key×V)}{k:Key}(e:H a=some (.dK kvs)):jX H a (kV k) (gz kvs k):=.inl ⟨kvs,k,.inl e,rfl,rfl⟩
theorem jX.t{H:Hp}{a b:Addr}{kvs:List (List Key×V)}{k:List Key}(e:H a=some (.dT kvs))(eb:H b=some (.tup (k.map kV))):jX H a (.ref b) (gz kvs k):=.inr ⟨kvs,k,b,.inl e,rfl,eb,rfl⟩
section
variable{X:Cx}{pins:List (Addr×Obj)}{σ:St}{H:Hp}{s:Qd}{a:Addr}{y v:V}{u r:Qb}{o:Option V}{A:QB}{E:Qb->Qd->Prop}
theorem Inv.big(I:Inv X pins σ H s):JY<s.heap.objs.size:=by
 have h:QD<s.heap.objs.size:=(I.mod.glob.keeps I.bk).lt;exact JN (by decide) h
theorem p0{Q:Qb->Qd->Prop}(hu:A.units+1<cLine)(I:Inv X pins σ H s)(g:jX H a y (some v))(ry:aW y u)(h:∀w' s',Inv X pins σ H s'->aW v w'->Q w' s') :
  Qg (Qi X.prog X.w) A (getItem (.ref a) u) Q E s:=by
 rcases g with⟨kvs,k,e,ey,l⟩ | ⟨kvs,k,b,e,ey,eb,l⟩
 ·subst ey
  obtain⟨z,hd,vs,rel,dd⟩:=rB I.hok e;obtain⟨w',hw,rw'⟩:=f7.some_of (v:=v) (o:=valueAt vs k) (by rw[l];exact rel.val k);exact wpAny_getItem_of (rG ry) dd.mapOf hw (h w' _ (I.tok _) rw')
 ·subst ey
  cases(show u=QF b from ry);obtain⟨z,hd,xs,rel,dd⟩:=vG I.hok e;obtain⟨w',hw,rw'⟩:=f7.some_of (v:=v) (o:=(atKey xs k).map (·.2)) (by rw[l];exact rel.val k);obtain⟨p,hp,hp2⟩:=Option.map_eq_some_iff.mp hw;refine wpAny_getItem_heap (tupleKind_room_in1 hu) (sW I.hok eb) dd hp ?_;rw[hp2];exact h w' _ (I.tok _) rw'
theorem tY{h':Heap}{t':Nat}{ob:HO}(I:Inv X pins σ H s)(mu:Mut (H a))(hs:JD a s.heap h')(he:∃q,h'.get? a=some q)(new:bO X.prog X.w (upd H a ob) h' a ob) :
  Inv X pins σ (upd H a ob) { s with heap:=h',toks:=t' }:=
 I.write (x:=a) (e:=a) mu (.inl rfl) (λb q hb z=>(hs.2 b hb).trans z) he new
theorem wN{P:Qr}{w:Qu}{H':Hp}{h':Heap}{kvs:List (Key×V)}{vs:List (Key×Qb)}(z:kvs.length<=Qt)(hd:(a==JY)=false)(rel:KV kvs vs)(dd:h'.DictOf (bN P w) a vs) :
  bO P w H' h' a (.dK kvs):=⟨z,hd,vs,rel,dd⟩
end
def x_(i:Expr):Prop:=∀ov iv,subscripted i false ov iv=operate [ov,iv] (getItem ov iv)
theorem tG{prog:Qr}{w:Qu}{A:QB}{E:Qb->Qd->Prop}{s:Qd}{env:Env}{value slice:Expr}{pos:Pos}{T id:String}{Q:Qb->Qd->Prop}
  (hl:typeLookup (.type T) "__getitem__" = pure (some (.builtin id))) (hs:x_ slice)
  (h:Qg (Qi prog w) A (eval value env) (λo s₁=>Qg (Qi prog w) A (eval slice env) (λi s₂=>s₂.TypeIs o T/\Qg (Qi prog w) A (getItem o i) Q E s₂) E s₁) E s) :
  Qg (Qi prog w) A (eval (.Subscript value slice pos) env) Q E s:=by
 refine Subscript_ (Q0 h (λo s₁ h₁=>Q0 h₁ (λi s₂ h₂=>?_) λ_ _ x=>x) λ_ _ x=>x);obtain⟨hT,h₂⟩:=h₂;unfold subscriptTail;refine Qa ?_;rw[getitemInPython_of_ne hT.not_modules];refine Qa (wpAny_specialOf hT hl ?_)
 have fin:Qg (Qi prog w) A (subscripted slice false o i) (λr s₃=>Qg (Qi prog w) A (letTemporaryGo value o r>>=λ_=>pure r) Q E s₃) E s₂:=by
  rw[hs o i];exact wpAny_operating (Q0 h₂ (λr s₃ h₃=>Qa (wpAny_letTemporaryGo (Qf h₃))) λ_ _ x=>x)
 first
  |exact Qf (Qa fin)
  |exact Qa (Qf (Qa fin))
  |exact Qa fin
theorem mK{X:Cx}{pins:List (Addr×Obj)}{σ:St}{H:Hp}{s:Qd}{a:Addr}{y:V}{o:Option V}(I:Inv X pins σ H s)(g:jX H a y o):s.TypeIs (.ref a) "dict":=by
 rcases g with⟨kvs,k,e,_,_⟩ | ⟨kvs,k,b,e,_,_,_⟩
 ·obtain⟨_,_,vs,_,dd⟩:=rB I.hok e
  exact dd.typeIs
 ·obtain⟨_,_,xs,_,dd⟩:=vG I.hok e
  exact dd.typeIs
def yB(td ty:TE):TE:=λσ H Q=>td σ H λx H1=>ty σ H1 λy H2=>∃a v,x=.ref a/\jX H2 a y (some v)/\Q v H2
section
variable{X:Cx}{o i e value:Expr}{pos pos' tpos:Pos}{td ty tv:TE}
theorem vq(hu:X.A.units+1<cLine)(ho:PE X o td)(hi:PE X i ty)(hs:x_ i):PE X (.Subscript o i pos) (yB td ty):=by
 intro pins s σ H Q I h;refine tG PySem.F.slot_dict_getitem.lookup hs (thn (ho pins s σ H _ I h) λu s1 ⟨x,H1,I1,rx,q1⟩=>thn (hi pins s1 σ H1 _ I1 q1) λiv s2 ⟨y,H2,I2,ry,a,v,ex,g,q2⟩=>?_);subst ex;obtain rfl:u=QF a:=rx;exact⟨mK I2 g,p0 hu I2 g ry λw' s3 I3 rw'=>⟨v,H2,I3,rw',q2⟩⟩
end
theorem rQ{P:Qr}{w:Qu}{H:Hp}(h:Heap)(hb:JY<h.objs.size):bO P w H (h.push { cls:=.type "dict",data:=.dict #[] }) h.objs.size (.dK []):=
 ⟨Nat.zero_le _,beq_eq_false_iff_ne.mpr (Ne.symm (QC hb)),[],.nil,Heap.DictOf.new h⟩
def nI:List (TE×TE)->St->Hp->(List (V×V)->Hp->Prop)->Prop
 |[],_,H,Q=>Q [] H
 |(tk,tv)::r,σ,H,Q=>tk σ H λx H1=>tv σ H1 λy H2=>nI r σ H2 λps H3=>Q ((x,y)::ps) H3
abbrev VV:List (V×V)->List (Qb×Qb)->Prop:=Paired λp q=>aW p.1 q.1/\aW p.2 q.2
def PPs(X:Cx)(pos:Pos)(keys:List (Option Expr))(values:List Expr)(trs:List (TE×TE)):Prop:=
 ∀(pins:List (Addr×Obj)) (s:Qd) (σ:St) (H:Hp) (Q:List (V×V)->Hp->Prop),Inv X pins σ H s->nI trs σ H Q->
  Qg (Qi X.prog X.w) X.A (evalPairs (pairTrees keys values X.env pos)) (λvs s'=>∃ps H',Inv X pins σ H' s'/\VV ps vs/\Q ps H') X.xe s
theorem uO{X:Cx}{pos:Pos}:PPs X pos [] [] []:=λpins s σ H Q I h=>pairTrees_nil_walk ⟨[],H,I,.nil,h⟩
theorem jg{X:Cx}{pos:Pos}{k v:Expr}{ks:List (Option Expr)}{vs:List Expr}{tk tv:TE}{trs:List (TE×TE)}(hk:PE X k tk)(hv:PE X v tv)(hr:PPs X pos ks vs trs) :
  PPs X pos (some k::ks) (v::vs) ((tk,tv)::trs):=λpins s σ H Q I h=>
 pairTrees_cons_walk (thn (hk pins s σ H _ I h) λu s1 ⟨x,H1,I1,rx,q1⟩=>thn (hv pins s1 σ H1 _ I1 q1) λw2 s2 ⟨y,H2,I2,ry,q2⟩=>
  thn (hr pins s2 σ H2 _ I2 q2) λws s3 ⟨ps,H3,I3,rel,q3⟩=>⟨(x,y)::ps,H3,I3,.cons ⟨rx,ry⟩ rel,q3⟩)
def eR(kvs more:List (Key×V)):List (Key×V):=more.foldl (λacc kv=>jA acc kv.1 kv.2) kvs
theorem KV.merge:∀{more:List (Key×V)} {rs:List (Key×Qb)} {kvs:List (Key×V)} {vs:List (Key×Qb)},KV more rs->KV kvs vs->KV (eR kvs more) (merged vs rs):=by
 intro more rs kvs vs r;unfold KV at r
 induction r generalizing kvs vs with
 |nil=>intro q;exact q
 |@cons p q ps qs h t ih=>
  intro r0
  have e:KV (jA kvs p.1 p.2) (stored vs q.1 q.2):=by
   have:=r0.put p.1 h.2;rw[<-h.1];exact this
  exact ih e
theorem gi:∀(more kvs:List (Key×V)),(eR kvs more).length<=kvs.length+more.length
 |[],kvs=>by show kvs.length<=kvs.length+0;lia
 |p::r,kvs=>by
  have h1:=gi r (jA kvs p.1 p.2);have h2:=lN kvs p.1 p.2;show(eR (jA kvs p.1 p.2) r).length<=_;rw[QI];lia
theorem jD{P:Qr}{w:Qu}:∀{kvs:List (Key×V)} {ws:List (Qb×Qb)},VV (kvs.map λkv=>(kV kv.1,kv.2)) ws->∃rs,Carries (bN P w) ws rs/\KV kvs rs
 |[],_,r=>by rw[List.map_nil] at r;cases r;exact⟨[],Zf,.nil⟩
 |p::kvs,_,r=>by
  rw[QN] at r;cases r with
  |@cons a b as bs h t=>
   obtain⟨rs,c,q⟩:=jD (P:=P) (w:=w) t;obtain⟨b1,b2⟩:=b;exact⟨(p.1,b2)::rs,⟨rG h.1,rfl,c⟩,.cons ⟨rfl,h.2⟩ q⟩
def yr(trs:List (TE×TE)):TE:=λσ H Q=>∀p,H p=none->nI trs σ (upd H p (.dK [])) λps H2=>H2 p=some (.dK [])/\∃kvs:List (Key×V),ps=kvs.map (λkv=>(kV kv.1,kv.2))/\kvs.length<=15/\Q (.ref p) (upd H2 p (.dK (eR [] kvs)))
theorem uP{X:Cx}{pos:Pos}{keys:List (Option Expr)}{values:List Expr}{trs:List (TE×TE)}(h:PPs X pos keys values trs)(hall:keys.all (·.isSome)=true)(hl:keys.length=values.length)(h0:keys≠[])
  (h15:keys.length<=15):PE X (.Dict keys values pos) (yr trs):=by
 intro pins s σ H Q I q;have hn:=I.hok.fresh (Qn s.heap.objs.size);have I1:=I.laid (a:=s.heap.objs.size) (o:=.dK []) (h':=s.heap.push { cls:=.type "dict",data:=.dict #[] }) (t':=s.toks) (λ_ _ q=>Qe _ q) (Qn _) (rQ s.heap I.big);refine wpAny_Dict_walk (knd:=bN X.prog X.w) hall hl h0 h15 (thn (h pins _ σ _ _ I1 (q _ hn)) λws s2 ⟨ps,H2,I2,rel,e,kvs,ep,lk,q2⟩=>?_);subst ep;obtain⟨rs,c,rk⟩:=jD (P:=X.prog) (w:=X.w) rel;obtain⟨z,hd,vs0,r0,dd⟩:=yj I2.hok e;cases r0;refine⟨rs,c,dd,λh' dd' hs=>⟨.ref s.heap.objs.size,_,?_,rfl,q2⟩⟩
 have hz:(eR [] kvs).length<=Qt:=by
  have h1:=gi kvs [];rw[JS] at h1;rw[sizeLine_eq];lia
 have he:∃q,h'.get? s.heap.objs.size=some q:=let⟨q,_,_,hq,_⟩:=dd';⟨q,hq⟩;exact tY I2 (by rw[e];exact Zf) hs he (wN hz hd (rk.merge .nil) dd')
end L2
namespace Dn
open PySem PySem.Spec PyProof.Rows L2
section
variable{X:Cx}{pos dpos:Pos}{ka kb kc va vb vc ix:Expr}{a b c:Str}{i j k:Int}{fi:Ev->Option D}
def eD3(a:Str)(i:Int)(b:Str)(j:Int)(c:Str)(k:Int)(fi:Ev->Option D):Ev->Option D:=λε=>match fi ε with
 |some (.str x)=>if x=a then some (.int i) else if x=b then some (.int j) else if x=c then some (.int k) else none
 |_=>none
theorem wa{m:Nat}(hr:Room m X.A)(h1:DE X ka (eC (.str a)))(h2:DE X va (eC (.int i)))(h3:DE X kb (eC (.str b)))(h4:DE X vb (eC (.int j)))(h5:DE X kc (eC (.str c)))(h6:DE X vc (eC (.int k)))(hi:DE X ix fi)(hs:x_ ix)
  (d1:a≠b:=by decide) (d2:a≠c:=by decide) (d3:b≠c:=by decide):DE X (.Subscript (.Dict [some ka,some kb,some kc] [va,vb,vc] dpos) ix pos) (eD3 a i b j c k fi):=by
 obtain⟨t1,p1,q1⟩:=h1;obtain⟨t2,p2,q2⟩:=h2;obtain⟨t3,p3,q3⟩:=h3;obtain⟨t4,p4,q4⟩:=h4;obtain⟨t5,p5,q5⟩:=h5;obtain⟨t6,p6,q6⟩:=h6;obtain⟨t7,p7,q7⟩:=hi;refine⟨_,vq (by have:=hr.units;lia) (uP (jg p1 p2 (jg p3 p4 (jg p5 p6 uO))) rfl rfl (by simp) (show 3<=15 by decide)) p7 hs,λHe G H σ ε d Q gh E ef q=>?_⟩;intro p hp;have g0:Grow G H G (upd H p (.dK [])):=.lay _ gh hp;refine q1 He G _ σ ε _ _ g0.gh (E.grow g0) rfl λv1 G1 H1 g1 w1=>?_;have G01:=g0.trans g1;refine q2 He G1 H1 σ ε _ _ G01.gh (E.grow G01) rfl λv2 G2 H2 g2 w2=>?_;have G02:=G01.trans g2;refine q3 He G2 H2 σ ε _ _ G02.gh (E.grow G02) rfl λv3 G3 H3 g3 w3=>?_;have G03:=G02.trans g3;refine q4 He G3 H3 σ ε _ _ G03.gh (E.grow G03) rfl λv4 G4 H4 g4 w4=>?_;have G04:=G03.trans g4;refine q5 He G4 H4 σ ε _ _ G04.gh (E.grow G04) rfl λv5 G5 H5 g5 w5=>?_;have G05:=G04.trans g5;refine q6 He G5 H5 σ ε _ _ G05.gh (E.grow G05) rfl λv6 G6 H6 g6 w6=>?_;have G06:=G05.trans g6;have gp:Grow G (upd H p (.dK [])) G6 H6:=⟨(g1.hh.trans (g2.hh.trans (g3.hh.trans (g4.hh.trans (g5.hh.trans g6.hh))))),G06.gg,G06.gh,(g1.trans (g2.trans (g3.trans (g4.trans (g5.trans g6))))).fo⟩;have hp6:H6 p=some (.dK []):=gp.hh _ _ ay
 have gn:G6 p=none:=gp.fo p _ ay (by
  cases e:G p with
  |none=>rfl
  |some o=>have:=gh _ _ e;rw[hp] at this;cases this)
 cases w1;cases w2;cases w3;cases w4;cases w5;cases w6;refine⟨hp6,[(.inr a,.int i),(.inr b,.int j),(.inr c,.int k)],rfl,show 3<=15 by decide,?_⟩;have gN:Grow G H G6 (upd H6 p (.dK (eR [] [(.inr a,.int i),(.inr b,.int j),(.inr c,.int k)]))):=⟨λu o e=>by rw[aA (aG e hp)];exact G06.hh u o e,G06.gg,λu o e=>by rw[aA (aG e gn)];exact G06.gh u o e,G06.fo⟩;unfold eD3 at ef;split at ef
 ·rename_i x ex
  refine q7 He G6 _ σ ε (.str x) _ gN.gh (E.grow gN) ex λv7 G7 H7 g7 w7=>?_;cases w7;have hd:H7 p=some (.dK (eR [] [(.inr a,.int i),(.inr b,.int j),(.inr c,.int k)])):=g7.hh _ _ ay
  have em:eR [] [(Za a,V.int i),(Za b,V.int j),(Za c,V.int k)]=[(Za a,V.int i),(Za b,V.int j),(Za c,V.int k)]:=by
   simp[eR,jA,d1,d2,d3]
  rw[em] at hd;have gq:=gN.trans g7
  by_cases x1:x=a
  ·rw[if_pos x1] at ef
   cases ef;subst x1;exact⟨p,.int i,rfl,by have:=jX.k (k:=.inr x) hd;simpa[gz,kV] using this,q _ G7 H7 gq (.int _)⟩
  ·rw[if_neg x1] at ef
   by_cases x2:x=b
   ·rw[if_pos x2] at ef
    cases ef;subst x2;exact⟨p,.int j,rfl,by have:=jX.k (k:=.inr x) hd;simpa[gz,kV,d1] using this,q _ G7 H7 gq (.int _)⟩
   ·rw[if_neg x2] at ef
    by_cases x3:x=c
    ·rw[if_pos x3] at ef
     cases ef;subst x3;exact⟨p,.int k,rfl,by have:=jX.k (k:=.inr x) hd;simpa[gz,kV,d2,d3] using this,q _ G7 H7 gq (.int _)⟩
    ·rw[if_neg x3] at ef;cases ef
 ·cases ef
end
def lkD:List (List Int×D)->List Int->Option D
 |[],_=>none
 |e::r,k=>if e.1=k then some e.2 else lkD r k
def ur:List (List Int×D)->List Int->D->List (List Int×D)
 |[],k,d=>[(k,d)]
 |e::r,k,d=>if e.1=k then(e.1,d)::r else e::ur r k d
def uq:dY->List Int->Addr->V->dY
 |[],k,b,v=>[(k,b,v)]
 |e::r,k,b,v=>if e.1=k then(e.1,e.2.1,v)::r else e::uq r k b v
section
variable{X:Cx}{pins:List (Addr×Obj)}{σ:L2.St}{G H:Hp}{s:Qd}
theorem DenM.mem{K:Qc}{G:Hp}{us:dY}{es:List (List Int×D)}(h:DenM K G us es):∀u∈us,SqT K G u.2.1 (u.1.map V.int):=
 DenM.ind (P:=λus _=>∀u∈us,SqT K G u.2.1 (u.1.map V.int)) (λ_ h=>nomatch h) (λhk _ _ y u hu=>(Ql.mp hu).elim (λe=>by subst e;exact hk) (y u)) h
theorem DenM.keys{K:Qc}{G:Hp}{us:dY}{es:List (List Int×D)}(h:DenM K G us es):us.map (·.1)=es.map (·.1):=
 DenM.ind (P:=λus es=>us.map (·.1)=es.map (·.1)) rfl (λ_ _ _ y=>by rw[QN,QN,y]) h
theorem DenM.len{K:Qc}{G:Hp}{us:dY}{es:List (List Int×D)}(h:DenM K G us es):us.length=es.length:=by simpa using congrArg List.length h.keys
theorem DenM.put{K:Qc}{G:Hp}{k:List Int}{b:Addr}{v:V}{d:D}(hb:SqT K G b (k.map V.int))(hv:Den K G v d){us:dY}{es:List (List Int×D)}(h:DenM K G us es):DenM K G (uq us k b v) (ur es k d):=
 DenM.ind (P:=λus es=>DenM K G (uq us k b v) (ur es k d)) (.cons hb hv .nil) (λhk hv' hs y=>by
  unfold uq ur;simp only;split
  ·exact .cons hk hv hs
  ·exact .cons hk hv' y) h
theorem DenM.look{K:Qc}{G:Hp}{k:List Int}{us:dY}{es:List (List Int×D)}(h:DenM K G us es):(us.map (·.1)).Nodup->∀{b:Addr} {v:V},(k,b,v)∈us->∃d,lkD es k=some d/\Den K G v d:=
 DenM.ind (P:=λus es=>(us.map (·.1)).Nodup->∀{b:Addr} {v:V},(k,b,v)∈us->∃d,lkD es k=some d/\Den K G v d) (λ_ {_ _} h=>nomatch h) (λ{k'} _ _ _ _ _ hk hv hs y nd {b v} h=>by
  rw[QN,Zy] at nd;unfold lkD;rcases Ql.mp h with e9 | h
  ·cases e9
   exact⟨_,if_pos rfl,hv⟩
  ·have:k'≠k:=λz=>nd.1 (by subst z;exact Q9.mpr ⟨_,h,rfl⟩)
   rw[if_neg this]
   exact y nd.2 h) h
end
end Dn
namespace RW2
open PySem PyProof.Rows
end RW2
namespace Dn
open PySem PySem.Spec PyProof.Rows L2 RW2
section
variable{X:Cx}{a:Expr}{pos:Pos}{fa:Ev->Option D}
theorem DenM.get{K:Qc}{G:Hp}{i:Nat}:∀{us:dY} {es:List (List Int×D)},DenM K G us es->∀{u},us[i]?=some u->∃d,es[i]?=some (u.1,d)/\SqT K G u.2.1 (u.1.map V.int)/\Den K G u.2.2 d:=by
 induction i with
 |zero=>intro us es m u e;cases m with | nil=>simp at e | cons hk hv hs=>simp at e;subst e;exact⟨_,rfl,hk,hv⟩
 |succ i ih=>intro us es m u e;cases m with | nil=>simp at e | cons hk hv hs=>simp at e;obtain⟨d,h1,h2⟩:=ih hs e;exact⟨d,by simpa using h1,h2⟩
end
section
variable{X:Cx}{a b c:Expr}{fa fb fc:Ev->Option D}{pos:Pos}
def wU:D->D->Option D:=λx y=>match x,y with | .tup [],.tup ys=>some (.tup ys) | x,y=>CatI.qV x y
end
def iz:Ev->Option Fl:=(sIf (av gtI (aa 5) (eC (.int 0))) (aE (cC 2 (e2 aK (aa 5) (eC (.int 1000)))) (a9 5 (e2 bT (aa 5) (eC (.int 1000))))) bg)
def iE:Ev->Option Fl:=(aE (a9 3 (e2 aK (e2 aJ (e2 aJ (e2 bh (aa 3) (eC (.int 69621))) (e2 aK (aa 4) (eC (.int 999983)))) (eC (.int 7))) (eC (.int 2147483629)))) (aE (a9 5 (e2 bu (aa 4) (e2 l6 (eC (.int 10)) (eC (.int 18))))) (aE (sIf (av ltI (aa 5) (eC (.int 0))) (cC 2 (e2 aK (aa 4) (eC (.int 1000)))) bg) (cR (cq (eC (.int 60))) (ak 6) iz))))
def fG:Ev->Option Fl:=(sIf (av ltI (ck cy (aa 2)) (aa 1)) (aE (a9 3 (e2 aK (e2 aJ (e2 aJ (e2 aJ (e2 l6 (aa 3) (eC (.int 3))) (e2 bh (eC (.int 40692)) (aa 3))) (e2 bh (eC (.int 7)) (aa 6))) (eC (.int 5))) (eC (.int 2147483629)))) (cC 2 (e2 aK (e2 bT (aa 3) (eC (.int 1009))) (eC (.int 1000))))) bg)
def vX:Ev->Option Fl:=(aE (ez 2 (cv aF)) (aE (a9 3 (eC (.int 29))) (aE (cR (f9 (eF (eSl (aa 0) cX (bj (eC (.int 63)))))) (ak 4) iE) (aE (cR (cq (au 1)) (ak 6) fG) (aZ (eF (eSl (aa 2) cX (bj (aa 1)))))))))
theorem ao{g g':Ev->Option Fl}{ε ε':Ev}(h:g ε=some (.nx ε')):aE g g' ε=g' ε':=by unfold aE;rw[h];rfl
theorem bB{g g':Ev->Option Fl}{ε:Ev}{d:D}(h:g ε=some (.rt d)):aE g g' ε=some (.rt d):=by unfold aE;rw[h];rfl
theorem bF{f:Ev->Option (List D)}{g:D->Ev->Option Ev}{gb:Ev->Option Fl}{ε:Ev}{ds:List D}(h:f ε=some ds):cR f g gb ε=cf g gb ds ε:=by unfold cR;rw[h];rfl
theorem eI{f:Ev->Option Bool}{g g':Ev->Option Fl}{ε:Ev}(h:f ε=some true):sIf f g g' ε=g ε:=by unfold sIf;rw[h];rfl
theorem eH{f:Ev->Option Bool}{g g':Ev->Option Fl}{ε:Ev}(h:f ε=some false):sIf f g g' ε=g' ε:=by unfold sIf;rw[h];rfl
theorem ba{i:Nat}{f:Ev->Option D}{ε:Ev}{d:D}(h:f ε=some d):a9 i f ε=some (.nx (ε.set i (.dat d))):=by unfold a9;rw[h];rfl
theorem b8{f:Ev->Option D}{ε:Ev}{d:D}(h:f ε=some d):aZ f ε=some (.rt d):=by unfold aZ;rw[h];rfl
theorem dR{f:Ev->Option (List D)}{ε:Ev}{ds:List D}(h:f ε=some ds):eF f ε=some (.lst ds):=by unfold eF;rw[h];rfl
theorem qA{F:List D->Option D}{fa:Ev->Option D}{ε:Ev}{x:D}(h1:fa ε=some x):aL F (ae fa aF) ε=F [x]:=by unfold aL ae;rw[h1];rfl
theorem qI{F:List D->Option D}{fa fb:Ev->Option D}{ε:Ev}{x y:D}(h1:fa ε=some x)(h2:fb ε=some y):aL F (ae fa (ae fb aF)) ε=F [x,y]:=by unfold aL ae;rw[h1,h2];rfl
theorem kI{F:List D->Option D}{g:Ev->Option (List D)}{ε:Ev}{b:Bool}(h:aL F g ε=some (.bl b)):kK (fm (aL F g)) ε=some (!b):=by unfold kK fm;rw[h];rfl
theorem dG{fa fb:Ev->Option D}{ε:Ev}{a b:Bool}(h1:fa ε=some (.bl a))(h2:fb ε=some (.bl b)):gQ fa fb ε=some (.bl (a&&b)):=by
 unfold gQ;rw[h1];cases a
 ·rfl
 ·show fb ε=_;rw[h2];rfl
theorem ll{fa fb fc:Ev->Option D}{ε:Ev}{a b c:Int}(h1:fa ε=some (.int a))(h2:fb ε=some (.int b))(h3:fc ε=some (.int c)):eCh leI leI fa fb fc ε=some (.bl (decide (a<=b)&&decide (b<=c))):=by
 unfold eCh;rw[h1,h2,h3];show(if decide (a<=b)=true then some (D.bl (decide (b<=c))) else some (.bl false))=_;cases decide (a<=b)<;>rfl
theorem bq{N ps:List Str}{g:Ev->Option Fl}{ds:List D}{d:D}(hl:ds.length=ps.length)(h:g (dZ N ds)=some (.rt d)):fnD N ps g ds=some d:=by
 unfold fnD;rw[if_pos hl,h]
theorem qE(xs:List D)(a b:Nat)(hb:b<=xs.length):Dn.gR xs (some (a:Int)) (some (b:Int))=(xs.drop a).take (b-a):=by
 unfold Dn.gR;rw[HT.k_,HT.k_,Nat.min_eq_left hb];rcases Nat.le_total a xs.length with h | h
 ·rw[Nat.min_eq_left h]
 ·rw[Nat.min_eq_right h,List.drop_eq_nil_of_le h,List.drop_length];simp
abbrev iL(l:List Int):List D:=l.map D.int
def Low(l:List Int):Prop:=∀v∈l,0<=v/\v<1000
theorem Low.snoc{l:List Int}{v:Int}(h:Low l)(h0:0<=v)(h1:v<1000):Low (l++[v]):=by
 intro u hu;rcases Jh.mp hu with z | z
 ·exact h u z
 ·rw[QO.mp z];exact⟨h0,h1⟩
theorem pA(A M S C k:Sl)(row:List Int)(rest:Int)(hl:Low row)(hz:row.length<900000) :
  ∃row' rest',iz [A,M,.own (iL row),S,C,.dat (.int rest),k]=some (.nx [A,M,.own (iL row'),S,C,.dat (.int rest'),k])/\Low row'/\row'.length<=row.length+1:=by
 by_cases h:0<rest
 ·refine⟨row++[rest%1000],rest/1000,?_,hl.snoc (by lia) (by lia),by simp⟩
  have:row.length<1000000:=by lia
  simp[iz,sIf,av,asB,e2,gtI,cU,aa,eC,aE,cC,a9,aK,bT,ql,h,this,iL]
 ·refine⟨row,rest,?_,hl,by simp⟩
  simp[iz,sIf,av,asB,e2,gtI,cU,aa,eC,bg,h]
theorem oD(A M S C:Sl):∀(l:List D) (k:Sl) (row:List Int) (rest:Int),Low row->row.length+l.length<900000->
  ∃row' rest' k',cf (ak 6) iz l [A,M,.own (iL row),S,C,.dat (.int rest),k]=some (.nx [A,M,.own (iL row'),S,C,.dat (.int rest'),k'])/\Low row'/\row'.length<=row.length+l.length
 |[],k,row,rest,hl,hz=>⟨row,rest,k,rfl,hl,by simp⟩
 |d::l,k,row,rest,hl,hz=>by
  simp only[QI] at hz;obtain⟨row1,rest1,e1,l1,z1⟩:=pA A M S C (.dat d) row rest hl (by lia);obtain⟨row2,rest2,k2,e2,l2,z2⟩:=oD A M S C l (.dat d) row1 rest1 l1 (by lia);refine⟨row2,rest2,k2,?_,l2,by simp only[QI];lia⟩;unfold cf;have t:ak 6 d [A,M,.own (iL row),S,C,.dat (.int rest),k]=some [A,M,.own (iL row),S,C,.dat (.int rest),.dat d]:=rfl;rw[t];show(iz _).bind _=_;rw[e1];exact e2
theorem qh(A M r k:Sl)(row:List Int)(seed cell:Int)(hl:Low row)(hs:0<=seed/\seed<2147483629)(hz:row.length<800000) :
  ∃row' seed' r' k',iE [A,M,.own (iL row),.dat (.int seed),.dat (.int cell),r,k]=some (.nx [A,M,.own (iL row'),.dat (.int seed'),.dat (.int cell),r',k'])/\Low row'/\(0<=seed'/\seed'<2147483629)/\row'.length<=row.length+61:=by
 have key:∃row1,sIf (av ltI (aa 5) (eC (.int 0))) (cC 2 (e2 aK (aa 4) (eC (.int 1000)))) bg [A,M,.own (iL row),.dat (.int ((seed*69621+cell%999983+7)%2147483629)),.dat (.int cell),.dat (.int (cell-1000000000000000000)),k] =
   some (.nx [A,M,.own (iL row1),.dat (.int ((seed*69621+cell%999983+7)%2147483629)),.dat (.int cell),.dat (.int (cell-1000000000000000000)),k])/\Low row1/\row1.length<=row.length+1:=by
  by_cases h:cell-1000000000000000000<0
  ·refine⟨row++[cell%1000],?_,hl.snoc (by lia) (by lia),by simp⟩
   have h2:row.length<1000000:=by lia
   simp[sIf,av,asB,e2,ltI,cU,aa,eC,cC,aK,h,h2,iL]
  ·refine⟨row,?_,hl,by simp⟩
   simp[sIf,av,asB,e2,ltI,cU,aa,eC,bg,h]
 obtain⟨row1,e1,l1,z1⟩:=key;obtain⟨row2,rest2,k2,e2',l2,z2⟩:=oD A M (.dat (.int ((seed*69621+cell%999983+7)%2147483629))) (.dat (.int cell)) (cg 60) k row1 (cell-1000000000000000000) l1 (by simp[cg];lia);refine⟨row2,(seed*69621+cell%999983+7)%2147483629,.dat (.int rest2),k2,?_,l2,by lia,by simp[cg] at z2;lia⟩
 have s1:a9 3 (e2 aK (e2 aJ (e2 aJ (e2 bh (aa 3) (eC (.int 69621))) (e2 aK (aa 4) (eC (.int 999983)))) (eC (.int 7))) (eC (.int 2147483629))) [A,M,.own (iL row),.dat (.int seed),.dat (.int cell),r,k] =
   some (.nx [A,M,.own (iL row),.dat (.int ((seed*69621+cell%999983+7)%2147483629)),.dat (.int cell),r,k]):=by
  simp[a9,e2,aK,aJ,bh,cU,aa,eC,j3]
 have s2:a9 5 (e2 bu (aa 4) (e2 l6 (eC (.int 10)) (eC (.int 18)))) [A,M,.own (iL row),.dat (.int ((seed*69621+cell%999983+7)%2147483629)),.dat (.int cell),r,k] =
   some (.nx [A,M,.own (iL row),.dat (.int ((seed*69621+cell%999983+7)%2147483629)),.dat (.int cell),.dat (.int (cell-1000000000000000000)),k]):=by
  simp[a9,e2,bu,l6,cU,aa,eC,pW]
 have r60:cq (eC (.int 60)) [A,M,.own (iL row1),.dat (.int ((seed*69621+cell%999983+7)%2147483629)),.dat (.int cell),.dat (.int (cell-1000000000000000000)),k]=some (cg 60):=rfl;unfold iE;rw[ao s1,ao s2,ao e1,bF r60];exact e2'
theorem lQ(A M:Sl):∀(l:List Int) (c r k:Sl) (row:List Int) (seed:Int),Low row->(0<=seed/\seed<2147483629)->row.length+61*l.length<800000->
  ∃row' seed' c' r' k',cf (ak 4) iE (iL l) [A,M,.own (iL row),.dat (.int seed),c,r,k]=some (.nx [A,M,.own (iL row'),.dat (.int seed'),c',r',k'])/\Low row'/\(0<=seed'/\seed'<2147483629)/\row'.length<=row.length+61*l.length
 |[],c,r,k,row,seed,hl,hs,hz=>⟨row,seed,c,r,k,rfl,hl,hs,by simp⟩
 |v::l,c,r,k,row,seed,hl,hs,hz=>by
  simp only[QI] at hz;obtain⟨row1,seed1,r1,k1,e1,l1,h1,z1⟩:=qh A M r k row seed v hl hs (by lia);obtain⟨row2,seed2,c2,r2,k2,e2,l2,h2,z2⟩:=lQ A M l (.dat (.int v)) r1 k1 row1 seed1 l1 h1 (by lia);refine⟨row2,seed2,c2,r2,k2,?_,l2,h2,by simp only[QI];lia⟩;show cf (ak 4) iE (.int v::iL l) _=_;unfold cf;have t:ak 4 (.int v) [A,M,.own (iL row),.dat (.int seed),c,r,k]=some [A,M,.own (iL row),.dat (.int seed),.dat (.int v),r,k]:=rfl;rw[t];show(iE _).bind _=_;rw[e1];exact e2
theorem ph(A c r:Sl)(m:Nat)(row:List Int)(seed:Int)(j:Nat)(hl:Low row)(hs:0<=seed/\seed<2147483629)(hz:row.length<900000) :
  ∃row' seed',fG [A,.dat (.int (m:Int)),.own (iL row),.dat (.int seed),c,r,.dat (.int (j:Int))]=some (.nx [A,.dat (.int (m:Int)),.own (iL row'),.dat (.int seed'),c,r,.dat (.int (j:Int))])/\Low row'/\(0<=seed'/\seed'<2147483629)/\row'.length<=row.length+1/\(row.length<m->row'.length=row.length+1)/\(m<=row.length->row'.length=row.length):=by
 by_cases h:row.length<m
 ·refine⟨row++[(seed ^ 3+40692*seed+7*(j:Int)+5)%2147483629/1009%1000],(seed ^ 3+40692*seed+7*(j:Int)+5)%2147483629,?_,hl.snoc (by lia) (by lia),by lia,by simp,by simp,by lia⟩
  have h2:(row.length:Int)<(m:Int):=by lia
  have h3:row.length<1000000:=by lia
  have h4:seed.natAbs<18446744073709551616:=by lia
  simp[fG,sIf,av,asB,e2,ltI,cU,aa,eC,ck,cy,aE,cC,a9,aK,bT,l6,aJ,bh,ql,pW,j3,h2,h3,h4,h,iL]
 ·refine⟨row,seed,?_,hl,hs,by lia,by lia,by lia⟩
  have h2:¬ (row.length:Int)<(m:Int):=by lia
  simp[fG,sIf,av,asB,e2,ltI,cU,aa,eC,ck,cy,bg,h]
theorem kC(A c r:Sl)(m:Nat):∀(l:List Nat) (k:Sl) (row:List Int) (seed:Int),Low row->(0<=seed/\seed<2147483629)->row.length+l.length<900000->m<=row.length+l.length->
  ∃row' seed' k',cf (ak 6) fG (l.map λ(i:Nat)=>D.int (i:Int)) [A,.dat (.int (m:Int)),.own (iL row),.dat (.int seed),c,r,k]=some (.nx [A,.dat (.int (m:Int)),.own (iL row'),.dat (.int seed'),c,r,k'])/\Low row'/\m<=row'.length/\row'.length<900000
 |[],k,row,seed,hl,hs,hz,hm=>⟨row,seed,k,rfl,hl,by simpa using hm,by simpa using hz⟩
 |j::l,k,row,seed,hl,hs,hz,hm=>by
  simp only[QI] at hz hm;obtain⟨row1,seed1,e1,l1,h1,z1,z2,z3⟩:=ph A c r m row seed j hl hs (by lia);obtain⟨row2,seed2,k2,e2,l2,h2,h3⟩:=kC A c r m l (.dat (.int (j:Int))) row1 seed1 l1 h1 (by lia) (by lia);refine⟨row2,seed2,k2,?_,l2,h2,h3⟩;show cf (ak 6) fG (.int (j:Int)::l.map λ(i:Nat)=>D.int (i:Int)) _=_;unfold cf;have t:ak 6 (.int (j:Int)) [A,.dat (.int (m:Int)),.own (iL row),.dat (.int seed),c,r,k]=some [A,.dat (.int (m:Int)),.own (iL row),.dat (.int seed),c,r,.dat (.int (j:Int))]:=rfl;rw[t];show(fG _).bind _=_;rw[e1];exact e2
theorem oj(xs:List D)(n:Nat):gR xs none (some (n:Int))=xs.take n:=by
 unfold gR;rw[HT.qy,HT.k_,List.drop_zero,Nat.sub_zero];rcases Nat.le_total n xs.length with h | h
 ·rw[Nat.min_eq_left h]
 ·rw[Nat.min_eq_right h,List.take_length,List.take_of_length_le h]
theorem uW(ns:List Int)(hn:ns.length<=63)(m:Nat)(hm:m<=5000) :
  ∃row:List Int,vX [.dat (.lst (iL ns)),.dat (.int (m:Int)),.un,.un,.un,.un,.un]=some (.rt (.lst (iL row)))/\row.length=m/\Low row:=by
 have hk:(iL ns).take 63=iL ns:=List.take_of_length_le (by simpa[iL] using hn);obtain⟨row1,seed1,c1,r1,k1,e1,l1,h1,z1⟩:=lQ (.dat (.lst (iL ns))) (.dat (.int (m:Int))) ns .un .un .un [] 29 (by intro v hv;cases hv) (by decide) (by simp;lia);obtain⟨row2,seed2,k2,e2',l2,h2,h3⟩:=kC (.dat (.lst (iL ns))) c1 r1 m (JB m) k1 row1 seed1 l1 h1 (by simp at z1 ⊢;lia) (by simp);refine⟨row2.take m,?_,by rw[List.length_take];lia,λv hv=>l2 v (List.mem_of_mem_take hv)⟩;have s1:ez 2 (cv aF) [.dat (.lst (iL ns)),.dat (.int (m:Int)),.un,.un,.un,.un,.un]=some (.nx [.dat (.lst (iL ns)),.dat (.int (m:Int)),.own (iL []),.un,.un,.un,.un]):=rfl;have s2:a9 3 (eC (.int 29)) [.dat (.lst (iL ns)),.dat (.int (m:Int)),.own (iL []),.un,.un,.un,.un]=some (.nx [.dat (.lst (iL ns)),.dat (.int (m:Int)),.own (iL []),.dat (.int 29),.un,.un,.un]):=rfl
 have s3:f9 (eF (eSl (aa 0) cX (bj (eC (.int 63))))) [.dat (.lst (iL ns)),.dat (.int (m:Int)),.own (iL []),.dat (.int 29),.un,.un,.un]=some (iL ns):=by
  show f9 _ _=_;have:eSl (aa 0) cX (bj (eC (.int 63))) [.dat (.lst (iL ns)),.dat (.int (m:Int)),.own (iL []),.dat (.int 29),.un,.un,.un]=some (gR (iL ns) none (some ((63:Nat):Int))):=rfl;unfold f9 eF;rw[this,oj,hk];rfl
 have s4:cq (au 1) [.dat (.lst (iL ns)),.dat (.int (m:Int)),.own (iL row1),.dat (.int seed1),c1,r1,k1]=some (cg m):=by
  have:(m:Int)<1000000/\-1000000<(m:Int):=by lia
  unfold cq;show(if(m:Int)<1000000/\-1000000<(m:Int) then some (cg (m:Int).toNat) else none)=_;rw[if_pos this,JX]
 have s5:aZ (eF (eSl (aa 2) cX (bj (aa 1)))) [.dat (.lst (iL ns)),.dat (.int (m:Int)),.own (iL row2),.dat (.int seed2),c1,r1,k2]=some (.rt (.lst (iL (row2.take m)))):=by
  have:eSl (aa 2) cX (bj (aa 1)) [.dat (.lst (iL ns)),.dat (.int (m:Int)),.own (iL row2),.dat (.int seed2),c1,r1,k2]=some (gR (iL row2) none (some (m:Int))):=rfl;unfold aZ eF;rw[this,oj];simp[iL,List.map_take]
 have e2'':cf (ak 6) fG (cg m) [.dat (.lst (iL ns)),.dat (.int (m:Int)),.own (iL row1),.dat (.int seed1),c1,r1,k1]=_:=e2';unfold vX;rw[ao s1,ao s2,ao (by rw[bF s3];exact e1),ao (by rw[bF s4];exact e2'')];exact s5
abbrev tg2:D->Ev->Option Ev:=fj 2 (ax (ak 0) (ax (ak 1) bw))
def iQ(rec:List D->Option D):Ev->Option Fl:=(aE (sIf (fq (fm (dk (c_ "list") (aa 1))) (fm (dk (c_ "tuple") (aa 1)))) (aE (sIf (fq (av d_ (dk (c_ "list") (aa 0)) (dk (c_ "list") (aa 1))) (av d_ (dk (c_ "tuple") (aa 0)) (dk (c_ "tuple") (aa 1)))) (aZ (eC (.bl false))) bg) (aZ (gQ (e2 bc (ck cy (aa 0)) (ck cy (aa 1))) (aL mx (ae (eF (eLC (rO (ae (au 0) (ae (au 1) aF))) 2 [] tg2 lg (aL rec (ae (au 0) (ae (au 1) aF))))) aF))))) bg) (aE (sIf (fq (av (isD false) (aa 0) (eC .non)) (av (isD false) (aa 1) (eC .non))) (aZ (gQ (e2 (isD false) (aa 0) (eC .non)) (e2 (isD false) (aa 1) (eC .non)))) bg) (aE (sIf (fq (av d_ (dk (c_ "bool") (aa 0)) (dk (c_ "bool") (aa 1))) (av d_ (dk (c_ "int") (aa 0)) (dk (c_ "int") (aa 1)))) (aZ (eC (.bl false))) bg) (aZ (e2 bc (aa 0) (aa 1))))))
def FrS:Nat->List D->Option D
 |0=>λ_=>none
 |n+1=>fnD ["a","b"] ["a","b"] (iQ (FrS n))
def OkS:Nat->D->Prop
 |0,_=>False
 |n+1,.tup ds=>ds.length<1000000/\∀d∈ds,OkS n d
 |n+1,.lst ds=>ds.length<1000000/\∀d∈ds,OkS n d
 |_+1,.dic _=>False
 |_+1,_=>True
theorem om{rec:List D->Option D}:∀(ds:List D) (s0 s1:Sl),(∀d∈ds,rec [d,d]=some (.bl true))->lcD tg2 lg (aL rec (ae (au 0) (ae (au 1) aF))) (jM ds ds) [s0,s1]=some (ds.map λ_=>D.bl true)
 |[],_,_,_=>rfl
 |d::ds,s0,s1,h=>by
  show((rec [d,d]).bind λv=>(lcD tg2 lg (aL rec (ae (au 0) (ae (au 1) aF))) (jM ds ds) [.dat d,.dat d]).bind λr=>some (v::r))=_;rw[h d (by simp),om ds _ _ λe he=>h e (by simp[he])];rfl
theorem lS:∀ds:List D,iV (ds.map λ_=>D.bl true)=some (ds.map λ_=>true)
 |[]=>rfl
 |d::ds=>by show(iV (ds.map λ_=>D.bl true)).bind _=_;rw[lS ds];rfl
theorem xR(ds:List D):mx [.lst (ds.map λ_=>D.bl true)]=some (.bl true):=by
 show(iV (ds.map λ_=>D.bl true)).bind _=_;rw[lS];show some (D.bl ((ds.map λ_=>true).all id))=_;simp
theorem mq{rec:List D->Option D}(d:D)(ds:List D)(hd:d=.tup ds\/d=.lst ds)(hz:ds.length<1000000)(h:∀e∈ds,rec [e,e]=some (.bl true)):iQ rec [.dat d,.dat d]=some (.rt (.bl true)):=by
 have c2:eF (eLC (rO (ae (au 0) (ae (au 1) aF))) 2 [] tg2 lg (aL rec (ae (au 0) (ae (au 1) aF)))) [.dat d,.dat d]=some (.lst (ds.map λ_=>D.bl true)):=by
  refine dR ?_;rw[iw (ds:=jM ds ds) (by rcases hd with rfl | rfl<;>rfl) (by simpa[jM] using hz)];exact om ds _ _ h
 have c1:e2 bc (ck cy (aa 0)) (ck cy (aa 1)) [.dat d,.dat d]=some (.bl true):=by
  have:e2 bc (ck cy (aa 0)) (ck cy (aa 1)) [.dat d,.dat d]=some (.bl (decide ((ds.length:Int)=(ds.length:Int)))):=by rcases hd with rfl | rfl<;>rfl
  rw[this];simp
 unfold iQ;refine bB ?_;rw[eI (by rcases hd with rfl | rfl<;>rfl),ao (ε':=[.dat d,.dat d]) (by rcases hd with rfl | rfl<;>rfl)];exact b8 (dG c1 ((qA c2).trans (xR ds)))
theorem lK:∀(n:Nat) (d:D),OkS n d->FrS n [d,d]=some (.bl true)
 |0,_,h=>h.elim
 |n+1,d,h=>by
  show fnD ["a","b"] ["a","b"] (iQ (FrS n)) [d,d]=_;refine bq rfl ?_;show iQ (FrS n) [.dat d,.dat d]=_;cases d with
  |non=>rfl
  |bl b=>cases b<;>rfl
  |int i=>
   have:iQ (FrS n) [.dat (.int i),.dat (.int i)]=some (.rt (.bl (decide (i=i)))):=rfl;rw[this];simp
  |str x=>
   have:iQ (FrS n) [.dat (.str x),.dat (.str x)]=some (.rt (.bl (decide (x=x)))):=rfl;rw[this];simp
  |dic ds=>exact h.elim
  |tup ds=>exact mq _ ds (.inl rfl) h.1 λe he=>lK n e (h.2 e he)
  |lst ds=>exact mq _ ds (.inr rfl) h.1 λe he=>lK n e (h.2 e he)
theorem iu{f:D->D->Option Bool}:∀(ds:List D),(∀d∈ds,f d d=some true)->iF f ds ds=some true
 |[],_=>rfl
 |d::ds,h=>by
  show((f d d).bind λa=>(iF f ds ds).bind λb=>some (a&&b))=_;rw[h d (by simp),iu ds λe he=>h e (by simp[he])];rfl
def OkQ:Nat->D->Prop
 |n+1,.tup ds=>∀d∈ds,OkQ n d
 |n+1,.lst ds=>∀d∈ds,OkQ n d
 |0,.tup _=>False
 |0,.lst _=>False
 |_,.dic _=>False
 |_,_=>True
theorem jI:∀(n:Nat) (d:D),OkQ n d->cm n d d=some true
 |0,.non,_=>rfl
 |0,.bl b,_=>by simp[cm,eqS]
 |0,.int i,_=>by simp[cm,eqS]
 |0,.str x,_=>by simp[cm,eqS]
 |0,.tup _,h=>h.elim
 |0,.lst _,h=>h.elim
 |0,.dic _,h=>h.elim
 |n+1,.dic _,h=>h.elim
 |n+1,.non,_=>rfl
 |n+1,.bl b,_=>by simp[cm,eqS]
 |n+1,.int i,_=>by simp[cm,eqS]
 |n+1,.str x,_=>by simp[cm,eqS]
 |n+1,.tup ds,h=>by
  show(iF (cm n) ds ds).map _=_;rw[iu ds λe he=>jI n e (h e he)];simp
 |n+1,.lst ds,h=>by
  show(if ds.length=ds.length then iF (cm n) ds ds else some false)=_;rw[if_pos rfl,iu ds λe he=>jI n e (h e he)]
theorem pK{d:D}(h:OkQ 9 d):d_ d d=some (.bl false):=by unfold d_;rw[jI 9 d h];rfl
theorem OkS.int{n:Nat}(h:0<n)(i:Int):OkS n (.int i):=by
 cases n with
 |zero=>cases h
 |succ n=>exact trivial
def b3(f:Nat->Int)(n:Nat):List Int:=(JB n).map f
theorem w8(row:List Int):row=b3 (λj=>row.getD j 0) row.length:=by
 apply Zm;intro i;unfold b3;rw[QG]
 by_cases h:i<row.length
 ·simp[h,Zt]
 ·have h':row.length<=i:=by lia
  rw[List.getElem?_eq_none h',List.getElem?_eq_none (by simpa using h')];rfl
theorem wF{row:List Int}{n:Nat}(hl:row.length=n)(hL:Low row):∃f:Nat->Int,row=b3 f n/\∀j,0<=f j/\f j<1000:=by
 refine⟨λj=>row.getD j 0,by rw[<-hl];exact w8 row,λj=>?_⟩
 by_cases h:j<row.length
 ·have:row.getD j 0=row[j]:=by simp[QX,h]
  show 0<=row.getD j 0/\row.getD j 0<1000;rw[this];exact hL _ (List.getElem_mem h)
 ·have:row.getD j 0=0:=by simp[QX,List.getElem?_eq_none (show row.length<=j by lia)]
  show 0<=row.getD j 0/\row.getD j 0<1000;rw[this];lia
theorem bQ{f:Ev->Option Bool}{g g':Ev->Option Fl}{ε:Ev}(p:Prop)[Decidable p](h:f ε=some (decide p))(hp:p):sIf f g g' ε=g ε:=eI (h.trans (by rw[decide_eq_true hp]))
theorem bJ{f:Ev->Option Bool}{g g':Ev->Option Fl}{ε:Ev}(p:Prop)[Decidable p](h:f ε=some (decide p))(hp:¬p):sIf f g g' ε=g' ε:=eH (h.trans (by rw[decide_eq_false hp]))
theorem zm{i j:Int}(h:-(2 ^ 64)<j/\j<2 ^ 64):bh (.int i) (.int j)=some (.int (i*j)):=by
 have c:j3 i j:=Q3 h;simp[bh,cU,c]
theorem mM{i j:Int}(h:-(2 ^ 64)<i/\i<2 ^ 64):bh (.int i) (.int j)=some (.int (i*j)):=by
 have c:j3 i j:=Jj h;simp[bh,cU,c]
theorem lF{i j:Int}(h:0<j):aK (.int i) (.int j)=some (.int (i%j)):=by
 simp[aK,cU,h]
theorem bD{op:D->D->Option D}{fa fb:Ev->Option D}{ε:Ev}{x y:D}(h1:fa ε=some x)(h2:fb ε=some y):e2 op fa fb ε=op x y:=by unfold e2;rw[h1,h2];rfl
theorem ix2{x y:D}(i:Int)(h:i=0\/i=1):ixD (.lst [x,y]) (.int i)=some (if i=0 then x else y):=by
 rcases h with rfl | rfl<;>rfl
theorem dA{g:D->Ev->Option Ev}{gb:Ev->Option Fl}(P:Nat->Ev->Prop):∀(ds:List D) (n:Nat),(∀i d,ds[i]?=some d->∀ε,P (n+i) ε->∃ε1 ε2,g d ε=some ε1/\(gb ε1=some (.nx ε2)\/gb ε1=some (.ct ε2))/\P (n+i+1) ε2)->
  ∀ε,P n ε->∃ε',cf g gb ds ε=some (.nx ε')/\P (n+ds.length) ε'
 |[],n,_,ε,h=>⟨ε,rfl,h⟩
 |d::ds,n,st,ε,h=>by
  obtain⟨ε1,ε2,e1,e2,h2⟩:=st 0 d rfl ε h
  obtain⟨ε3,e3,h3⟩:=dA P ds (n+1) (λi d' hd ε h'=>by
   have:=st (i+1) d' hd ε (by rw[show n+(i+1)=n+1+i by lia];exact h');rw[show n+(i+1)+1=n+1+i+1 by lia] at this
   exact this) ε2 h2
  refine⟨ε3,?_,by rw[QI,show n+(ds.length+1)=n+1+ds.length by lia];exact h3⟩;show(g d ε).bind _=_;rw[e1];show(gb ε1).bind _=_;rcases e2 with e2 | e2<;>(rw[e2];exact e3)
theorem pY{g:D->Ev->Option Ev}{gb:Ev->Option Fl}(P:Ev->Prop){ds:List D}(st:∀d∈ds,∀ε,P ε->∃ε1 ε2,g d ε=some ε1/\(gb ε1=some (.nx ε2)\/gb ε1=some (.ct ε2))/\P ε2){ε:Ev}(h:P ε):∃ε',cf g gb ds ε=some (.nx ε')/\P ε':=
 dA (λ_=>P) ds 0 (λi d hd ε h=>st d (Jp hd) ε h) ε h
theorem dh{n i:Nat}{d:D}(h:(cg n)[i]?=some d):d=.int (i:Int)/\i<n:=by
 unfold cg at h;rw[QG] at h;obtain⟨m,em,rfl⟩:=a_ h;obtain⟨hm,em⟩:=Qs.mp em;rw[List.getElem_range] at em;subst em;exact⟨rfl,by simpa using hm⟩
theorem tf{n:Nat}{d:D}(h:d∈cg n):∃i:Nat,d=.int (i:Int)/\i<n:=by
 obtain⟨i,hi⟩:=List.getElem?_of_mem h;exact⟨i,dh hi⟩
@[simp] theorem rngD_len (n:Nat):(cg n).length=n:=by simp[cg]
theorem eP{f:Ev->Option D}{ε:Ev}{j:Int}(h:f ε=some (.int j))(h1:0<=j)(h2:j<1000000):cq f ε=some (cg j.toNat):=by
 unfold cq;rw[h];show(if j<1000000/\-1000000<j then some (cg j.toNat) else none)=_;rw[if_pos (by lia)]
theorem bZ{f g:Ev->Option Bool}{ε:Ev}{a b:Bool}(h1:f ε=some a)(h2:g ε=some b):bz f g ε=some (a&&b):=by
 unfold bz;rw[h1];cases a
 ·rfl
 ·exact h2
theorem nL{f g:Ev->Option Bool}{ε:Ev}{a b:Bool}(h1:f ε=some a)(h2:g ε=some b):fq f g ε=some (a || b):=by
 unfold fq;rw[h1];cases a
 ·exact h2
 ·rfl
theorem rb{α:Type}(xs:List α)(j:Int)(h0:0<=j)(h1:j<xs.length):∃x∈xs,atI xs j=some x:=by
 have hj:j.toNat<xs.length:=by lia
 refine⟨xs[j.toNat],List.getElem_mem hj,?_⟩;unfold atI ixN;rw[if_pos h0,if_pos h1];simp[hj]
theorem dS{i:Nat}{f:Ev->Option D}{ε:Ev}{d:D}{ds:List D}(h:f ε=some d)(hi:ε[i]?=some (.own ds))(hl:ds.length<1000000):cC i f ε=some (.nx (ε.set i (.own (ds++[d])))):=by
 unfold cC;rw[h];show(match ε[i]? with | some (.own ds)=>_ | _=>none)=_;rw[hi];show(if ds.length<1000000 then _ else none)=_;rw[if_pos hl]
theorem jw(f:Nat->Int)(m a n:Nat)(h:a+n<=m):Dn.gR (iL (b3 f m)) (some (a:Int)) (some ((a+n:Nat):Int))=iL (b3 (λj=>f (a+j)) n):=by
 rw[qE _ _ _ (by simp[iL,b3];lia)];unfold iL b3;rw[show a+n-a=n by lia,<-List.map_drop,<-List.map_take,<-List.map_drop,<-List.map_take];congr 1;apply Zm;intro i;rw[QG,QG]
 by_cases hi:i<n
 ·rw[List.getElem?_take,if_pos hi,List.getElem?_drop]
  simp[Zt,hi,show a+i<m by lia]
 ·rw[List.getElem?_take,if_neg hi]
  simp[Zt,hi]
def vM:Ev->Option Fl:=(aE (sIf (av bc (e2 aK (e2 ixD (aa 0) (eC (.int 0))) (eC (.int 5))) (eC (.int 1))) (aZ (bx (ae (e2 bu (e2 ixD (aa 0) (eC (.int 1))) (eC (.int 500))) (ae (e2 bu (e2 ixD (aa 0) (eC (.int 2))) (eC (.int 500))) aF)))) bg) (aE (sIf (av bc (e2 aK (e2 ixD (aa 0) (eC (.int 0))) (eC (.int 5))) (eC (.int 2))) (aZ (bx (ae (e2 bh (e2 bu (e2 aK (e2 ixD (aa 0) (eC (.int 1))) (eC (.int 3))) (eC (.int 1))) (eC (.int 985))) (ae (e2 bh (e2 bu (e2 aK (e2 ixD (aa 0) (eC (.int 2))) (eC (.int 3))) (eC (.int 1))) (eC (.int 985))) aF)))) bg) (aZ (bx (ae (eC (.int 0)) (ae (eC (.int 0)) aF))))))
theorem sR(a0 a1 a2:Int):∃b0 b1,vM [.dat (.lst (iL [a0,a1,a2]))]=some (.rt (.tup [.int b0,.int b1])):=by
 unfold vM
 by_cases h1:a0%5=1
 ·exact⟨a1-500,a2-500,bB (by rw[bQ (a0%5=1) rfl h1];rfl)⟩
 ·by_cases h2:a0%5=2
  ·refine⟨(a1%3-1)*985,(a2%3-1)*985,(ao (by rw[bJ (a0%5=1) rfl h1];rfl)).trans (bB ?_)⟩
   rw[bQ (a0%5=2) rfl h2];refine b8 ?_;have c1:e2 bh (e2 bu (e2 aK (e2 ixD (aa 0) (eC (.int 1))) (eC (.int 3))) (eC (.int 1))) (eC (.int 985)) [.dat (.lst (iL [a0,a1,a2]))]=some (.int ((a1%3-1)*985)):=(bD (x:=.int (a1%3-1)) (y:=.int 985) rfl rfl).trans (zm (by decide));have c2:e2 bh (e2 bu (e2 aK (e2 ixD (aa 0) (eC (.int 2))) (eC (.int 3))) (eC (.int 1))) (eC (.int 985)) [.dat (.lst (iL [a0,a1,a2]))]=some (.int ((a2%3-1)*985)):=(bD (x:=.int (a2%3-1)) (y:=.int 985) rfl rfl).trans (zm (by decide));unfold bx ae;rw[c1,c2];rfl
  ·exact⟨0,0,(ao (by rw[bJ (a0%5=1) rfl h1];rfl)).trans ((ao (by rw[bJ (a0%5=2) rfl h2];rfl)).trans rfl)⟩
abbrev t6(a0 a1 a2 a3 a4 a5:Int):D:=.tup [.int a0,.int a1,.int a2,.int a3,.int a4,.int a5]
def yZ:Ev->Option Fl:=(aE (a9 2 (e2 bu (e2 aJ (e2 ixD (aa 1) (eC (.int 0))) (e2 aK (e2 ixD (aa 0) (eC (.int 0))) (eC (.int 9)))) (eC (.int 4)))) (aE (a9 3 (e2 bu (e2 aJ (e2 ixD (aa 1) (eC (.int 1))) (e2 aK (e2 ixD (aa 0) (eC (.int 1))) (eC (.int 9)))) (eC (.int 4)))) (aE (a9 4 (e2 aK (e2 ixD (aa 0) (eC (.int 4))) (eC (.int 6)))) (aZ (bx (ae (au 2) (ae (au 3) (ae (e2 aJ (aa 2) (e2 aK (e2 ixD (aa 0) (eC (.int 2))) (eC (.int 4)))) (ae (e2 aJ (aa 3) (e2 aK (e2 ixD (aa 0) (eC (.int 3))) (eC (.int 4)))) (ae (au 4) (ae (e2 aJ (aa 4) (e2 aK (e2 ixD (aa 0) (eC (.int 5))) (e2 bu (eC (.int 6)) (aa 4)))) aF)))))))))))
theorem fY{l:List Int}{n:Nat}(h:n+1<=l.length):∃d r,l=d::r/\n<=r.length:=by
 cases l with
 |nil=>cases h
 |cons d r=>exact⟨d,r,rfl,Nat.le_of_succ_le_succ h⟩
theorem uQ(l:List Int)(hl:6<=l.length)(b0 b1:Int):∃a0 a1 a2 a3 a4 a5,yZ [.dat (.lst (iL l)),.dat (.tup [.int b0,.int b1]),.un,.un,.un]=some (.rt (t6 a0 a1 a2 a3 a4 a5))/\(a0<=a2/\a1<=a3/\a4<=a5)/\0<=a4/\a5<=5:=by
 obtain⟨d0,d1,d2,d3,d4,d5,r,rfl⟩:∃d0 d1 d2 d3 d4 d5 r,l=d0::d1::d2::d3::d4::d5::r:=by
  obtain⟨d0,r0,rfl,h0⟩:=fY hl;obtain⟨d1,r1,rfl,h1⟩:=fY h0;obtain⟨d2,r2,rfl,h2⟩:=fY h1;obtain⟨d3,r3,rfl,h3⟩:=fY h2;obtain⟨d4,r4,rfl,h4⟩:=fY h3;obtain⟨d5,r5,rfl,h5⟩:=fY h4;exact⟨d0,d1,d2,d3,d4,d5,r5,rfl⟩
 have at_:∀(k:Nat) (v:Int),(d0::d1::d2::d3::d4::d5::r)[k]?=some v->ixD (.lst (iL (d0::d1::d2::d3::d4::d5::r))) (.int (k:Int))=some (.int v):=λk v h=>lb (by unfold iL;rw[QG,h];rfl);have w0:=at_ 0 d0 rfl;have w1:=at_ 1 d1 rfl;have w2:=at_ 2 d2 rfl;have w3:=at_ 3 d3 rfl;have w4:=at_ 4 d4 rfl;have w5:=at_ 5 d5 rfl;let m:=d4%6;refine⟨b0+d0%9-4,b1+d1%9-4,b0+d0%9-4+d2%4,b1+d1%9-4+d3%4,m,m+d5%(6-m),?_,⟨by lia,by lia,?_⟩,by lia,?_⟩
 ·unfold yZ
  refine(ao (ba (d:=.int (b0+d0%9-4)) ?_)).trans ?_
  ·refine(bD (x:=.int (b0+d0%9)) (y:=.int 4) ((bD (x:=.int b0) (y:=.int (d0%9)) rfl ((bD (x:=.int d0) (y:=.int 9) ((bD (y:=.int 0) rfl rfl).trans w0) rfl).trans rfl)).trans rfl) rfl).trans rfl
  refine(ao (ba (d:=.int (b1+d1%9-4)) ?_)).trans ?_
  ·refine(bD (x:=.int (b1+d1%9)) (y:=.int 4) ((bD (x:=.int b1) (y:=.int (d1%9)) rfl ((bD (x:=.int d1) (y:=.int 9) ((bD (y:=.int 1) rfl rfl).trans w1) rfl).trans rfl)).trans rfl) rfl).trans rfl
  refine(ao (ba (d:=.int m) ((bD (x:=.int d4) (y:=.int 6) ((bD (y:=.int 4) rfl rfl).trans w4) rfl).trans rfl))).trans ?_;refine b8 ?_;unfold bx ae
  rw[bD (op:=aJ) (fa:=aa 2) (x:=.int (b0+d0%9-4)) (y:=.int (d2%4)) rfl ((bD (x:=.int d2) (y:=.int 4) ((bD (y:=.int 2) rfl rfl).trans w2) rfl).trans rfl),
   bD (op:=aJ) (fa:=aa 3) (x:=.int (b1+d1%9-4)) (y:=.int (d3%4)) rfl ((bD (x:=.int d3) (y:=.int 4) ((bD (y:=.int 3) rfl rfl).trans w3) rfl).trans rfl),
   bD (op:=aJ) (fa:=aa 4) (x:=.int m) (y:=.int (d5%(6-m))) rfl ((bD (x:=.int d5) (y:=.int (6-m)) ((bD (y:=.int 5) rfl rfl).trans w5) rfl).trans (lF (by lia)))]
  rfl
 ·have hm:m=d4%6:=rfl
  have:=Int.emod_nonneg d5 (show 6-m≠0 by lia)
  lia
 ·have hm:m=d4%6:=rfl
  have:=Zz d5 (show 0<6-m by lia)
  lia
structure Stt where
 (x y z s p:Int)
def stD(q:Stt):D:=.tup [.int q.x,.int q.y,.int q.z,.int q.s,.int q.p]
theorem aV{op:D->D->Option D}{fa fb:Ev->Option D}{ε:Ev}{x y z:D}(h1:fa ε=some x)(h2:fb ε=some y)(h3:op x y=some z):e2 op fa fb ε=some z:=(bD h1 h2).trans h3
theorem aM{f:Ev->Option D}{g:Ev->Option (List D)}{ε:Ev}{x:D}{xs:List D}(h1:f ε=some x)(h2:g ε=some xs):ae f g ε=some (x::xs):=by unfold ae;rw[h1,h2];rfl
theorem fU{g:Ev->Option (List D)}{ε:Ev}{ds:List D}(h1:g ε=some ds)(h2:ds.length<=1000):bx g ε=some (.tup ds):=by unfold bx;rw[h1];show(if ds.length<=1000 then some (D.tup ds) else none)=_;rw[if_pos h2]
theorem aY{F:List D->Option D}{g:Ev->Option (List D)}{ε:Ev}{ds:List D}{d:D}(h1:g ε=some ds)(h2:F ds=some d):aL F g ε=some d:=by unfold aL;rw[h1];exact h2
theorem b9{op:D->D->Option D}{fa fb:Ev->Option D}{ε:Ev}{x y:D}{b:Bool}(h1:fa ε=some x)(h2:fb ε=some y)(h3:op x y=some (.bl b)):av op fa fb ε=some b:=by unfold av;rw[aV h1 h2 h3];rfl
theorem lG{F:List D->Option D}{g:Ev->Option (List D)}{ε:Ev}{b:Bool}(h:aL F g ε=some (.bl b)):fm (aL F g) ε=some b:=by unfold fm;rw[h];rfl
structure Hl where
 (x y t:Int)
def hD(h:Hl):D:=.tup [.int h.x,.int h.y,.int h.t]
abbrev hL(hs:List Hl):List D:=hs.map hD
structure Wd where
 (h z dx dy:Int)
def wD(q:Wd):D:=.tup [.int q.h,.int q.z,.int q.dx,.int q.dy]
abbrev wL(ws:List Wd):List D:=ws.map wD
structure Sh where
 (a b c d e f t u:Int)
def shD(q:Sh):D:=.tup [.int q.a,.int q.b,.int q.c,.int q.d,.int q.e,.int q.f,.int q.t,.int q.u]
abbrev shL(l:List Sh):List D:=l.map shD
theorem jb(f:Nat->Int)(m j:Nat)(h:j<m):ixD (.lst (iL (b3 f m))) (.int (j:Int))=some (.int (f j)):=
 lb (by unfold iL b3;rw[QG,QG,Zt h];rfl)
def uD:Ev->Option Fl:=(cC 3 (bx (ae (e2 bu (e2 aJ (e2 ixD (aa 1) (eC (.int 0))) (e2 aK (e2 ixD (aa 0) (e2 aJ (e2 bh (eC (.int 3)) (aa 4)) (eC (.int 1)))) (eC (.int 9)))) (eC (.int 4))) (ae (e2 bu (e2 aJ (e2 ixD (aa 1) (eC (.int 1))) (e2 aK (e2 ixD (aa 0) (e2 aJ (e2 bh (eC (.int 3)) (aa 4)) (eC (.int 2)))) (eC (.int 9)))) (eC (.int 4))) (ae (e2 aJ (eC (.int 1)) (e2 aK (e2 ixD (aa 0) (e2 aJ (e2 bh (eC (.int 3)) (aa 4)) (eC (.int 3)))) (eC (.int 5)))) aF)))))
def tu:Ev->Option Fl:=(aE (a9 6 (e2 ixD (eF (cv (ae (e2 aK (e2 ixD (aa 0) (e2 aJ (eC (.int 16)) (aa 4))) (eC (.int 24))) (ae (e2 aK (e2 aJ (aa 2) (e2 aK (e2 ixD (aa 0) (e2 aJ (eC (.int 16)) (aa 4))) (eC (.int 4)))) (eC (.int 24))) aF)))) (e2 aK (e2 bT (e2 ixD (aa 0) (eC (.int 0))) (eC (.int 30))) (eC (.int 2))))) (sIf (av (inD true) (aa 6) (aa 5)) (cC 5 (au 6)) bg))
def vm:Ev->Option Fl:=(aE (a9 8 (eF (eSl (aa 0) (bj (e2 aJ (eC (.int 22)) (e2 bh (eC (.int 4)) (aa 4)))) (bj (e2 aJ (eC (.int 26)) (e2 bh (eC (.int 4)) (aa 4))))))) (aE (a9 9 (e2 ixD (eF (cv (ae (e2 aK (e2 ixD (aa 8) (eC (.int 0))) (eC (.int 24))) (ae (e2 aK (e2 aJ (aa 2) (e2 aK (e2 bT (e2 ixD (aa 8) (eC (.int 0))) (eC (.int 7))) (eC (.int 6)))) (eC (.int 24))) aF)))) (e2 aK (e2 bT (e2 ixD (aa 8) (eC (.int 1))) (eC (.int 6))) (eC (.int 2))))) (cC 7 (bx (ae (au 9) (ae (e2 aK (e2 ixD (aa 8) (eC (.int 1))) (eC (.int 6))) (ae (e2 bu (e2 aK (e2 ixD (aa 8) (eC (.int 2))) (eC (.int 5))) (eC (.int 2))) (ae (e2 bu (e2 aK (e2 ixD (aa 8) (eC (.int 3))) (eC (.int 5))) (eC (.int 2))) aF))))))))
def uH(Fb:List D->Option D):Ev->Option Fl:=(aE (a9 11 (eF (eSl (aa 0) (bj (e2 aJ (eC (.int 91)) (e2 bh (eC (.int 8)) (aa 4)))) (bj (e2 aJ (eC (.int 99)) (e2 bh (eC (.int 8)) (aa 4))))))) (aE (a9 9 (e2 ixD (eF (cv (ae (e2 aK (e2 ixD (aa 11) (eC (.int 6))) (eC (.int 25))) (ae (au 2) aF)))) (e2 aK (e2 ixD (aa 11) (eC (.int 7))) (eC (.int 2))))) (cC 10 (e2 CatI.qV (aL Fb (ae (au 11) (ae (au 1) aF))) (bx (ae (au 9) (ae (e2 aJ (aa 9) (e2 aK (e2 bT (e2 ixD (aa 11) (eC (.int 7))) (eC (.int 2))) (e2 bu (eC (.int 25)) (aa 9)))) aF)))))))
def zt(Fb:List D->Option D):Ev->Option Fl:=(aE (ez 3 (cv aF)) (aE (cR (cq (e2 aK (e2 ixD (aa 0) (eC (.int 0))) (eC (.int 6)))) (ak 4) uD) (aE (ez 5 (cv aF)) (aE (cR (cq (e2 aK (e2 bT (e2 ixD (aa 0) (eC (.int 0))) (eC (.int 6))) (eC (.int 5)))) (ak 4) tu) (aE (ez 7 (cv aF)) (aE (sIf (av gtI (e2 aK (e2 ixD (aa 0) (eC (.int 21))) (eC (.int 4))) (eC (.int 0))) (ez 7 (eLC (cq (eC (.int 6))) 1 [0] (ak 0) lg (bx (ae (eC (.int 0)) (ae (au 0) (ae (e2 bu (e2 aK (e2 ixD (aa 1) (e2 aJ (eC (.int 78)) (e2 bh (eC (.int 2)) (aa 0)))) (eC (.int 5))) (eC (.int 2))) (ae (e2 bu (e2 aK (e2 ixD (aa 1) (e2 aJ (eC (.int 79)) (e2 bh (eC (.int 2)) (aa 0)))) (eC (.int 5))) (eC (.int 2))) aF))))))) bg) (aE (cR (cq (e2 aK (e2 bT (e2 ixD (aa 0) (eC (.int 21))) (eC (.int 4))) (eC (.int 14)))) (ak 4) vm) (aE (ez 10 (cv aF)) (aE (cR (cq (e2 aK (e2 ixD (aa 0) (eC (.int 90))) (eC (.int 4)))) (ak 4) (uH Fb)) (sFz 10 (sFz 7 (sFz 5 (sFz 3 (aZ (bx (ae (au 3) (ae (au 5) (ae (au 7) (ae (au 10) aF)))))))))))))))))))
def sP(Fb:List D->Option D):Prop:=∀(l:List Int) (_:6<=l.length) (b0 b1:Int),∃a0 a1 a2 a3 a4 a5,Fb [.lst (iL l),.tup [.int b0,.int b1]]=some (t6 a0 a1 a2 a3 a4 a5)/\(a0<=a2/\a1<=a3/\a4<=a5)/\0<=a4/\a5<=5
def jv(h:Hl):Prop:=1<=h.t/\h.t<=5
def js(q:Wd):Prop:=(0<=q.h/\q.h<=23)/\(0<=q.z/\q.z<=5)
def kT(q:Sh):Prop:=q.a<=q.c/\q.b<=q.d/\q.e<=q.f/\0<=q.e/\q.f<=5/\0<=q.t/\q.t<=q.u/\q.u<=24
section
variable(f:Nat->Int)(b0 b1 hour:Int)
abbrev eS(s3 s4 s5 s6 s7 s8 s9 s10 s11:Sl):Ev:=[.dat (.lst (iL (b3 f 120))),.dat (.tup [.int b0,.int b1]),.dat (.int hour),s3,s4,s5,s6,s7,s8,s9,s10,s11]
theorem sk0(k:Nat)(hk:k<6)(hs:List Hl)(hz:hs.length<1000)(s5 s6 s7 s8 s9 s10 s11:Sl):∃h:Hl,jv h/\uD (eS f b0 b1 hour (.own (hL hs)) (.dat (.int (k:Int))) s5 s6 s7 s8 s9 s10 s11)=some (.nx (eS f b0 b1 hour (.own (hL (hs++[h]))) (.dat (.int (k:Int))) s5 s6 s7 s8 s9 s10 s11)):=by
 have m:e2 bh (eC (.int 3)) (aa 4) (eS f b0 b1 hour (.own (hL hs)) (.dat (.int (k:Int))) s5 s6 s7 s8 s9 s10 s11)=some (.int (3*(k:Int))):=(bD (x:=.int 3) (y:=.int (k:Int)) rfl rfl).trans (mM (by decide))
 have at_:∀j:Nat,j<10->e2 ixD (aa 0) (e2 aJ (e2 bh (eC (.int 3)) (aa 4)) (eC (.int (j:Int)))) (eS f b0 b1 hour (.own (hL hs)) (.dat (.int (k:Int))) s5 s6 s7 s8 s9 s10 s11)=some (.int (f (3*k+j))):=λj hj=>by
  rw[bD (x:=(.lst (iL (b3 f 120)))) (y:=.int ((3*k+j:Nat):Int)) rfl ((bD (x:=.int (3*(k:Int))) (y:=.int (j:Int)) m rfl).trans (by show some (D.int _)=_;rw[show(3*(k:Int)+(j:Int))=((3*k+j:Nat):Int) by lia]))];exact jb f 120 _ (by lia)
 refine⟨⟨b0+f (3*k+1)%9-4,b1+f (3*k+2)%9-4,1+f (3*k+3)%5⟩,⟨by show 1<=1+_%_;lia,by show 1+_%_<=(5:Int);lia⟩,?_⟩;unfold uD;refine(dS (ds:=hL hs) (d:=hD ⟨b0+f (3*k+1)%9-4,b1+f (3*k+2)%9-4,1+f (3*k+3)%5⟩) ?_ rfl (by simp;lia)).trans ?_
 ·have a1:e2 ixD (aa 0) (e2 aJ (e2 bh (eC (.int 3)) (aa 4)) (eC (.int 1))) (eS f b0 b1 hour (.own (hL hs)) (.dat (.int (k:Int))) s5 s6 s7 s8 s9 s10 s11)=some (.int (f (3*k+1))):=at_ 1 (by decide)
  have a2:e2 ixD (aa 0) (e2 aJ (e2 bh (eC (.int 3)) (aa 4)) (eC (.int 2))) (eS f b0 b1 hour (.own (hL hs)) (.dat (.int (k:Int))) s5 s6 s7 s8 s9 s10 s11)=some (.int (f (3*k+2))):=at_ 2 (by decide);have a3:e2 ixD (aa 0) (e2 aJ (e2 bh (eC (.int 3)) (aa 4)) (eC (.int 3))) (eS f b0 b1 hour (.own (hL hs)) (.dat (.int (k:Int))) s5 s6 s7 s8 s9 s10 s11)=some (.int (f (3*k+3))):=at_ 3 (by decide);refine fU (aM (aV (aV rfl (aV a1 rfl rfl) rfl) rfl rfl) (aM (aV (aV rfl (aV a2 rfl rfl) rfl) rfl rfl) (aM (aV rfl (aV a3 rfl rfl) rfl) rfl))) (show 3<=1000 by decide)
 ·rw[show hL (hs++[⟨b0+f (3*k+1)%9-4,b1+f (3*k+2)%9-4,1+f (3*k+3)%5⟩])=hL hs++[hD ⟨b0+f (3*k+1)%9-4,b1+f (3*k+2)%9-4,1+f (3*k+3)%5⟩] by simp[hL]]
  rfl
theorem lj:∀l:List Int,j0 (iL l)=some (l.map V.int)
 |[]=>rfl
 |i::l=>by show(j0 (iL l)).bind _=_;rw[lj l];rfl
theorem sk1(k:Nat)(hk:k<5)(cs:List Int)(hz:cs.length<1000)(s3 s6 s7 s8 s9 s10 s11:Sl):∃(cs':List Int) (e6:Sl),cs'.length<=cs.length+1/\tu (eS f b0 b1 hour s3 (.dat (.int (k:Int))) (.own (iL cs)) s6 s7 s8 s9 s10 s11)=some (.nx (eS f b0 b1 hour s3 (.dat (.int (k:Int))) (.own (iL cs')) e6 s7 s8 s9 s10 s11)):=by
 have a1:e2 ixD (aa 0) (e2 aJ (eC (.int 16)) (aa 4)) (eS f b0 b1 hour s3 (.dat (.int (k:Int))) (.own (iL cs)) s6 s7 s8 s9 s10 s11)=some (.int (f (16+k))):=
  aV (y:=.int ((16+k:Nat):Int)) rfl (aV rfl rfl (by show some (D.int (16+(k:Int)))=_;rw[show(16+(k:Int))=((16+k:Nat):Int) by lia])) (jb f 120 _ (by lia))
 let c:Int:=if f 0/30%2=0 then f (16+k)%24 else(hour+f (16+k)%4)%24
 have c6:e2 ixD (eF (cv (ae (e2 aK (e2 ixD (aa 0) (e2 aJ (eC (.int 16)) (aa 4))) (eC (.int 24))) (ae (e2 aK (e2 aJ (aa 2) (e2 aK (e2 ixD (aa 0) (e2 aJ (eC (.int 16)) (aa 4))) (eC (.int 4)))) (eC (.int 24))) aF)))) (e2 aK (e2 bT (e2 ixD (aa 0) (eC (.int 0))) (eC (.int 30))) (eC (.int 2))) (eS f b0 b1 hour s3 (.dat (.int (k:Int))) (.own (iL cs)) s6 s7 s8 s9 s10 s11)=some (.int c):=by
  refine aV (x:=.lst [.int (f (16+k)%24),.int ((hour+f (16+k)%4)%24)]) (y:=.int (f 0/30%2)) (dR ?_) rfl ?_
  ·unfold cv
   rw[aM (aV a1 rfl rfl) (aM (aV (aV rfl (aV a1 rfl rfl) rfl) rfl rfl) rfl)];rfl
  ·rw[ix2 _ (by lia)]
   show some (if f 0/30%2=0 then D.int (f (16+k)%24) else D.int ((hour+f (16+k)%4)%24))=some (D.int (if f 0/30%2=0 then f (16+k)%24 else(hour+f (16+k)%4)%24));split<;>rfl
 have ci:av (inD true) (aa 6) (aa 5) (eS f b0 b1 hour s3 (.dat (.int (k:Int))) (.own (iL cs)) (.dat (.int c)) s7 s8 s9 s10 s11)=some (!inV (.int c) (cs.map V.int)):=b9 (x:=.int c) (y:=.lst (iL cs)) rfl rfl (by show(j0 (iL cs)).bind _=_;rw[lj];rfl);unfold tu;cases hb:inV (.int c) (cs.map V.int) with
 |true=>
  rw[hb] at ci;refine⟨cs,.dat (.int c),by lia,(ao (ba c6)).trans ?_⟩;exact(eH ci).trans rfl
 |false=>
  rw[hb] at ci;refine⟨cs++[c],.dat (.int c),by simp,(ao (ba c6)).trans ?_⟩;refine(eI ci).trans ((dS (ds:=iL cs) (d:=.int c) rfl rfl (by simp;lia)).trans ?_);rw[show iL (cs++[c])=iL cs++[.int c] by simp[iL]];rfl
theorem yF(c n m k:Nat)(F1 F2:Ev->Option D)(ε:Ev)(h1:F1 ε=some (.int ((c+m*k:Nat):Int)))(h2:F2 ε=some (.int ((c+m*k+n:Nat):Int)))(h0:aa 0 ε=some (.lst (iL (b3 f 120))))(hb:c+m*k+n<=120):eF (eSl (aa 0) (bj F1) (bj F2)) ε=some (.lst (iL (b3 (λj=>f (c+m*k+j)) n))):=by
 refine dR ?_;unfold eSl bj;rw[h0,h1,h2];show some (Dn.gR (iL (b3 f 120)) (some ((c+m*k:Nat):Int)) (some ((c+m*k+n:Nat):Int)))=_;rw[jw f 120 (c+m*k) n hb]
theorem sk2(k:Nat)(hk:k<14)(ws:List Wd)(hz:ws.length<1000)(s3 s5 s6 s8 s9 s10 s11:Sl):∃(w:Wd) (e8 e9:Sl),js w/\vm (eS f b0 b1 hour s3 (.dat (.int (k:Int))) s5 s6 (.own (wL ws)) s8 s9 s10 s11)=some (.nx (eS f b0 b1 hour s3 (.dat (.int (k:Int))) s5 s6 (.own (wL (ws++[w]))) e8 e9 s10 s11)):=by
 let g:Nat->Int:=λj=>f (22+4*k+j);have m:e2 bh (eC (.int 4)) (aa 4) (eS f b0 b1 hour s3 (.dat (.int (k:Int))) s5 s6 (.own (wL ws)) s8 s9 s10 s11)=some (.int (4*(k:Int))):=aV rfl rfl (mM (by decide));have c8:=yF f 22 4 4 k (e2 aJ (eC (.int 22)) (e2 bh (eC (.int 4)) (aa 4))) (e2 aJ (eC (.int 26)) (e2 bh (eC (.int 4)) (aa 4))) (eS f b0 b1 hour s3 (.dat (.int (k:Int))) s5 s6 (.own (wL ws)) s8 s9 s10 s11) (aV rfl m (by show some (D.int (22+4*(k:Int)))=_;rw[show(22+4*(k:Int))=((22+4*k:Nat):Int) by lia])) (aV rfl m (by show some (D.int (26+4*(k:Int)))=_;rw[show(26+4*(k:Int))=((22+4*k+4:Nat):Int) by lia])) rfl (by lia);let c:Int:=if g 1/6%2=0 then g 0%24 else(hour+g 0/7%6)%24
 have c9:e2 ixD (eF (cv (ae (e2 aK (e2 ixD (aa 8) (eC (.int 0))) (eC (.int 24))) (ae (e2 aK (e2 aJ (aa 2) (e2 aK (e2 bT (e2 ixD (aa 8) (eC (.int 0))) (eC (.int 7))) (eC (.int 6)))) (eC (.int 24))) aF)))) (e2 aK (e2 bT (e2 ixD (aa 8) (eC (.int 1))) (eC (.int 6))) (eC (.int 2))) (eS f b0 b1 hour s3 (.dat (.int (k:Int))) s5 s6 (.own (wL ws)) (.dat (.lst (iL (b3 g 4)))) s9 s10 s11)=some (.int c):=by
  refine aV (x:=.lst [.int (g 0%24),.int ((hour+g 0/7%6)%24)]) (y:=.int (g 1/6%2)) rfl rfl ?_;rw[ix2 _ (by lia)];show some (if g 1/6%2=0 then D.int (g 0%24) else D.int ((hour+g 0/7%6)%24))=some (D.int (if g 1/6%2=0 then g 0%24 else(hour+g 0/7%6)%24));split<;>rfl
 have hc:0<=c/\c<=23:=by
  show 0<=(if g 1/6%2=0 then g 0%24 else(hour+g 0/7%6)%24)/\(if g 1/6%2=0 then g 0%24 else(hour+g 0/7%6)%24)<=23;split<;>lia
 refine⟨⟨c,g 1%6,g 2%5-2,g 3%5-2⟩,.dat (.lst (iL (b3 g 4))),.dat (.int c),⟨hc,by show 0<=g 1%6;lia,by show g 1%6<=5;lia⟩,?_⟩;unfold vm;refine(ao (ba c8)).trans ?_;refine(ao (ba c9)).trans ?_;refine(dS (ds:=wL ws) (d:=wD ⟨c,g 1%6,g 2%5-2,g 3%5-2⟩) rfl rfl (by simp;lia)).trans ?_;rw[show wL (ws++[⟨c,g 1%6,g 2%5-2,g 3%5-2⟩])=wL ws++[wD ⟨c,g 1%6,g 2%5-2,g 3%5-2⟩] by simp[wL]];rfl
theorem sk3{Fb:List D->Option D}(hB:sP Fb)(hh:0<=hour/\hour<=24)(k:Nat)(hk:k<3)(ss:List Sh)(hz:ss.length<1000)(s3 s5 s6 s7 s8 s9 s11:Sl):∃(q:Sh) (e9 e11:Sl),kT q/\uH Fb (eS f b0 b1 hour s3 (.dat (.int (k:Int))) s5 s6 s7 s8 s9 (.own (shL ss)) s11)=some (.nx (eS f b0 b1 hour s3 (.dat (.int (k:Int))) s5 s6 s7 s8 e9 (.own (shL (ss++[q]))) e11)):=by
 let g:Nat->Int:=λj=>f (91+8*k+j);have m:e2 bh (eC (.int 8)) (aa 4) (eS f b0 b1 hour s3 (.dat (.int (k:Int))) s5 s6 s7 s8 s9 (.own (shL ss)) s11)=some (.int (8*(k:Int))):=aV rfl rfl (mM (by decide));have c11:=yF f 91 8 8 k (e2 aJ (eC (.int 91)) (e2 bh (eC (.int 8)) (aa 4))) (e2 aJ (eC (.int 99)) (e2 bh (eC (.int 8)) (aa 4))) (eS f b0 b1 hour s3 (.dat (.int (k:Int))) s5 s6 s7 s8 s9 (.own (shL ss)) s11) (aV rfl m (by show some (D.int (91+8*(k:Int)))=_;rw[show(91+8*(k:Int))=((91+8*k:Nat):Int) by lia])) (aV rfl m (by show some (D.int (99+8*(k:Int)))=_;rw[show(99+8*(k:Int))=((91+8*k+8:Nat):Int) by lia])) rfl (by lia);let c:Int:=if g 7%2=0 then g 6%25 else hour
 have c9:e2 ixD (eF (cv (ae (e2 aK (e2 ixD (aa 11) (eC (.int 6))) (eC (.int 25))) (ae (au 2) aF)))) (e2 aK (e2 ixD (aa 11) (eC (.int 7))) (eC (.int 2))) (eS f b0 b1 hour s3 (.dat (.int (k:Int))) s5 s6 s7 s8 s9 (.own (shL ss)) (.dat (.lst (iL (b3 g 8)))))=some (.int c):=by
  refine aV (x:=.lst [.int (g 6%25),.int hour]) (y:=.int (g 7%2)) rfl rfl ?_;rw[ix2 _ (by lia)];show some (if g 7%2=0 then D.int (g 6%25) else D.int hour)=some (D.int (if g 7%2=0 then g 6%25 else hour));split<;>rfl
 have hc:0<=c/\c<=24:=by
  show 0<=(if g 7%2=0 then g 6%25 else hour)/\(if g 7%2=0 then g 6%25 else hour)<=24;split<;>lia
 obtain⟨a0,a1,a2,a3,a4,a5,eb,⟨o1,o2,o3⟩,o4,o5⟩:=hB (b3 g 8) (by simp[b3]) b0 b1;have h1:=Int.emod_nonneg (g 7/2) (show 25-c≠0 by lia);have h2:=Zz (g 7/2) (show 0<25-c by lia);refine⟨⟨a0,a1,a2,a3,a4,a5,c,c+g 7/2%(25-c)⟩,.dat (.int c),.dat (.lst (iL (b3 g 8))),⟨o1,o2,o3,o4,o5,hc.1,by show c<=c+_;lia,by show c+_<=24;lia⟩,?_⟩;unfold uH;refine(ao (ba c11)).trans ?_;refine(ao (ba c9)).trans ?_;refine(dS (ds:=shL ss) (d:=shD ⟨a0,a1,a2,a3,a4,a5,c,c+g 7/2%(25-c)⟩) ?_ rfl (by simp;lia)).trans ?_
 ·exact aV (x:=t6 a0 a1 a2 a3 a4 a5) (y:=.tup [.int c,.int (c+g 7/2%(25-c))]) (aY rfl eb) (fU (aM rfl (aM (aV rfl (aV rfl rfl (lF (by lia))) rfl) rfl)) (show 2<=1000 by decide)) rfl
 ·rw[show shL (ss++[⟨a0,a1,a2,a3,a4,a5,c,c+g 7/2%(25-c)⟩])=shL ss++[shD ⟨a0,a1,a2,a3,a4,a5,c,c+g 7/2%(25-c)⟩] by simp[shL]];rfl
theorem tx{Fb:List D->Option D}(hB:sP Fb)(hh:0<=hour/\hour<=24):∃(hs:List Hl) (cs:List Int) (ws:List Wd) (ss:List Sh),zt Fb (eS f b0 b1 hour .un .un .un .un .un .un .un .un .un)=some (.rt (.tup [.lst (hL hs),.lst (iL cs),.lst (wL ws),.lst (shL ss)]))/\
  (hs.length<=5/\∀h∈hs,jv h)/\cs.length<=4/\(ws.length<=19/\∀w∈ws,js w)/\ss.length<=3/\∀q∈ss,kT q:=by
 have mem_snoc:∀{α:Type} {P:α->Prop} {l:List α} {a:α},(∀x∈l,P x)->P a->∀x∈l++[a],P x:=λ{α P l a} h1 h2 x hx=>by
  rcases Jh.mp hx with z | z
  ·exact h1 x z
  ·rw[QO.mp z];exact h2
 obtain⟨_,e1,hs,t4,hn,hok,rfl⟩:=dA (g:=ak 4) (gb:=uD) (λi ε=>∃(hs:List Hl) (s4:Sl),hs.length=i/\(∀h∈hs,jv h)/\ε=eS f b0 b1 hour (.own (hL hs)) s4 .un .un .un .un .un .un .un) (cg (f 0%6).toNat) 0 (λi d hd ε ⟨hs,s4,hn,hok,he⟩=>by
  obtain⟨rfl,hi⟩:=dh hd;subst he;obtain⟨h,ho,e⟩:=sk0 f b0 b1 hour i (by lia) hs (by lia) .un .un .un .un .un .un .un
  exact⟨_,_,rfl,.inl e,hs++[h],_,by simp[hn],mem_snoc hok ho,rfl⟩) (eS f b0 b1 hour (.own (hL [])) .un .un .un .un .un .un .un .un) ⟨[],_,rfl,(λh hh=>by cases hh),rfl⟩
 rw[rngD_len] at hn
 obtain⟨_,e2,cs,u4,u6,cn,rfl⟩:=dA (g:=ak 4) (gb:=tu) (λi ε=>∃(cs:List Int) (s4 s6:Sl),cs.length<=i/\ε=eS f b0 b1 hour (.own (hL hs)) s4 (.own (iL cs)) s6 .un .un .un .un .un) (cg (f 0/6%5).toNat) 0 (λi d hd ε ⟨cs,s4,s6,cn,he⟩=>by
  obtain⟨rfl,hi⟩:=dh hd;subst he;obtain⟨cs',e6,hl,e⟩:=sk1 f b0 b1 hour i (by lia) cs (by lia) (.own (hL hs)) s6 .un .un .un .un .un
  exact⟨_,_,rfl,.inl e,cs',_,_,by lia,rfl⟩) (eS f b0 b1 hour (.own (hL hs)) t4 (.own (iL [])) .un .un .un .un .un .un) ⟨[],_,_,Qn _,rfl⟩
 rw[rngD_len] at cn
 obtain⟨w0,l0,wk0,e3⟩:∃w0:List Wd,w0.length<=6/\(∀w∈w0,js w)/\sIf (av gtI (Dn.e2 aK (Dn.e2 ixD (aa 0) (eC (.int 21))) (eC (.int 4))) (eC (.int 0))) (ez 7 (eLC (cq (eC (.int 6))) 1 [0] (ak 0) lg (bx (ae (eC (.int 0)) (ae (au 0) (ae (Dn.e2 bu (Dn.e2 aK (Dn.e2 ixD (aa 1) (Dn.e2 aJ (eC (.int 78)) (Dn.e2 bh (eC (.int 2)) (aa 0)))) (eC (.int 5))) (eC (.int 2))) (ae (Dn.e2 bu (Dn.e2 aK (Dn.e2 ixD (aa 1) (Dn.e2 aJ (eC (.int 79)) (Dn.e2 bh (eC (.int 2)) (aa 0)))) (eC (.int 5))) (eC (.int 2))) aF))))))) bg (eS f b0 b1 hour (.own (hL hs)) u4 (.own (iL cs)) u6 (.own (wL [])) .un .un .un .un)=some (.nx (eS f b0 b1 hour (.own (hL hs)) u4 (.own (iL cs)) u6 (.own (wL w0)) .un .un .un .un)):=by
  by_cases h:f 21%4>0
  ·refine⟨[⟨0,0,f 78%5-2,f 79%5-2⟩,⟨0,1,f 80%5-2,f 81%5-2⟩,⟨0,2,f 82%5-2,f 83%5-2⟩,⟨0,3,f 84%5-2,f 85%5-2⟩,⟨0,4,f 86%5-2,f 87%5-2⟩,⟨0,5,f 88%5-2,f 89%5-2⟩],by simp,λw hw=>?_,?_⟩
   ·simp only[Ql,QJ,or_false] at hw
    rcases hw with rfl | rfl | rfl | rfl | rfl | rfl<;>exact⟨⟨by simp,by simp⟩,by simp,by simp⟩
   ·exact(bQ (f 21%4>0) rfl h).trans rfl
  ·refine⟨[],by simp,(λw hw=>by cases hw),?_⟩
   exact(bJ (f 21%4>0) rfl h).trans rfl
 obtain⟨_,e4,ws,v4,v8,v9,wn,wok,rfl⟩:=dA (g:=ak 4) (gb:=vm) (λi ε=>∃(ws:List Wd) (s4 s8 s9:Sl),ws.length=w0.length+i/\(∀w∈ws,js w)/\ε=eS f b0 b1 hour (.own (hL hs)) s4 (.own (iL cs)) u6 (.own (wL ws)) s8 s9 .un .un) (cg (f 21/4%14).toNat) 0 (λi d hd ε ⟨ws,s4,s8,s9,wn,wok,he⟩=>by
  obtain⟨rfl,hi⟩:=dh hd;subst he;obtain⟨w,e8,e9,wo,e⟩:=sk2 f b0 b1 hour i (by lia) ws (by lia) (.own (hL hs)) (.own (iL cs)) u6 s8 s9 .un .un
  exact⟨_,_,rfl,.inl e,ws++[w],_,_,_,by simp;lia,mem_snoc wok wo,rfl⟩) (eS f b0 b1 hour (.own (hL hs)) u4 (.own (iL cs)) u6 (.own (wL w0)) .un .un .un .un) ⟨w0,_,_,_,rfl,wk0,rfl⟩
 rw[rngD_len] at wn
 obtain⟨_,e5,ss,x4,x9,x11,sn,sok,rfl⟩:=dA (g:=ak 4) (gb:=uH Fb) (λi ε=>∃(ss:List Sh) (s4 s9 s11:Sl),ss.length=i/\(∀q∈ss,kT q)/\ε=eS f b0 b1 hour (.own (hL hs)) s4 (.own (iL cs)) u6 (.own (wL ws)) v8 s9 (.own (shL ss)) s11) (cg (f 90%4).toNat) 0 (λi d hd ε ⟨ss,s4,s9,s11,sn,sok,he⟩=>by
  obtain⟨rfl,hi⟩:=dh hd;subst he;obtain⟨q,e9,e11,qo,e⟩:=sk3 f b0 b1 hour hB hh i (by lia) ss (by lia) (.own (hL hs)) (.own (iL cs)) u6 (.own (wL ws)) v8 s9 s11
  exact⟨_,_,rfl,.inl e,ss++[q],_,_,_,by simp[sn],mem_snoc sok qo,rfl⟩) (eS f b0 b1 hour (.own (hL hs)) v4 (.own (iL cs)) u6 (.own (wL ws)) v8 v9 (.own (shL [])) .un) ⟨[],_,_,_,rfl,(λq hq=>by cases hq),rfl⟩
 rw[rngD_len] at sn;refine⟨hs,cs,ws,ss,?_,⟨by lia,hok⟩,by lia,⟨by lia,wok⟩,by lia,sok⟩;unfold zt;refine(ao rfl).trans ?_;refine(ao ((bF (eP (j:=f 0%6) rfl (by lia) (by lia))).trans e1)).trans ?_;refine(ao rfl).trans ?_;refine(ao ((bF (eP (j:=f 0/6%5) rfl (by lia) (by lia))).trans e2)).trans ?_;refine(ao rfl).trans ?_;refine(ao e3).trans ?_;refine(ao ((bF (eP (j:=f 21/4%14) rfl (by lia) (by lia))).trans e4)).trans ?_;refine(ao rfl).trans ?_;refine(ao ((bF (eP (j:=f 90%4) rfl (by lia) (by lia))).trans e5)).trans ?_;rfl
end
theorem oP{α:Type}{g:D->Ev->Option Ev}{ft:Ev->Option Bool}{fe:Ev->Option D}(P:Ev->Prop)(enc:α->D)(p:α->Bool)(h:α->D):∀(xs:List α),(∀x∈xs,∀ε,P ε->∃ε1,g (enc x) ε=some ε1/\P ε1/\ft ε1=some (p x)/\(p x=true->fe ε1=some (h x)))->
  ∀ε,P ε->lcD g ft fe (xs.map enc) ε=some ((xs.filter p).map h)
 |[],_,ε,_=>rfl
 |x::xs,st,ε,hp=>by
  obtain⟨ε1,e1,p1,e2,e3⟩:=st x (QL ..) ε hp;have ih:=oP P enc p h xs (λy hy=>st y (Qy _ hy)) ε1 p1;show(g (enc x) ε).bind _=_;rw[e1];show(ft ε1).bind _=_;rw[e2];show(if p x=true then _ else _)=_;cases hx:p x with
  |true=>
   rw[if_pos rfl,e3 hx];show(lcD g ft fe (xs.map enc) ε1).bind _=_;rw[ih,List.filter_cons_of_pos (by simpa using hx)];rfl
  |false=>
   rw[if_neg Qh,ih,List.filter_cons_of_neg (by simp[hx])]
theorem wG(n:Nat):cg n=(JB n).map λi:Nat=>D.int (i:Int):=rfl
theorem j_{α:Type}{g:D->Ev->Option Ev}{gb:Ev->Option Fl}(enc:α->D)(P:List α->Ev->Prop)(xs:List α):∀(rest done:List α),done++rest=xs->
  (∀done x rest,done++x::rest=xs->∀ε,P done ε->∃ε1 ε2,g (enc x) ε=some ε1/\(gb ε1=some (.nx ε2)\/gb ε1=some (.ct ε2))/\P (done++[x]) ε2)->∀ε,P done ε->∃ε',cf g gb (rest.map enc) ε=some (.nx ε')/\P xs ε'
 |[],done,hx,_,ε,hp=>⟨ε,rfl,by rw[<-hx,Q6];exact hp⟩
 |x::rest,done,hx,st,ε,hp=>by
  obtain⟨ε1,ε2,e1,e2,p2⟩:=st done x rest hx ε hp;obtain⟨ε3,e3,p3⟩:=j_ enc P xs rest (done++[x]) (by rw[List.append_assoc];exact hx) st ε2 p2;refine⟨ε3,?_,p3⟩;show(g (enc x) ε).bind _=_;rw[e1];show(gb ε1).bind _=_;rcases e2 with e2 | e2<;>(rw[e2];exact e3)
theorem qN{α:Type}{g:D->Ev->Option Ev}{gb:Ev->Option Fl}(enc:α->D)(P:List α->Ev->Prop)(xs:List α)
  (st:∀done x rest,done++x::rest=xs->∀ε,P done ε->∃ε1 ε2,g (enc x) ε=some ε1/\(gb ε1=some (.nx ε2)\/gb ε1=some (.ct ε2))/\P (done++[x]) ε2) (ε:Ev) (h:P [] ε):∃ε',cf g gb (xs.map enc) ε=some (.nx ε')/\P xs ε':=
 j_ enc P xs xs [] rfl st ε h
theorem uw{α:Type}(l:List α)(a:α):atI (l++[a]) (-1)=some a:=by
 unfold atI ixN;have h1:¬ (0:Int)<=-1:=by decide
 have h2:-(((l++[a]).length:Nat):Int)<=-1:=by simp;lia
 rw[if_neg h1,if_pos h2];have:(-1+(((l++[a]).length:Nat):Int)).toNat=l.length:=by simp;lia
 show(l++[a])[(-1+(((l++[a]).length:Nat):Int)).toNat]?=_;rw[this];simp
theorem rH(l:List D)(d:D):ixD (.lst (l++[d])) (.int (-1))=some d:=uw l d
theorem xA{fi:Ev->Option (List D)}{n:Nat}{ix:List Nat}{g:D->Ev->Option Ev}{ft:Ev->Option Bool}{fe:Ev->Option D}{ε:Ev}{ds rs:List D}(h:fi ε=some ds)(hl:ds.length<1000000)(h2:lcD g ft fe ds (prE n ix ε)=some rs):eLC fi n ix g ft fe ε=some rs:=(iw h hl).trans h2
structure Sk where
 (hs:List Hl)
 (cs:List Int)
 (ws:List Wd)
 (ss:List Sh)
def skD(k:Sk):D:=.tup [.lst (hL k.hs),.lst (iL k.cs),.lst (wL k.ws),.lst (shL k.ss)]
structure SkOk(k:Sk):Prop where
 hl:k.hs.length<=5
 hk:∀h∈k.hs,jv h
 cl:k.cs.length<=4
 wl:k.ws.length<=19
 wk:∀w∈k.ws,js w
 sl:k.ss.length<=3
 sk:∀q∈k.ss,kT q
structure SkW(k:Sk):Prop where
 hl:k.hs.length<=900
 hk:∀h∈k.hs,0<=h.t
 cl:k.cs.length<=900
 wl:k.ws.length<=99
 sl:k.ss.length<=900
theorem SkOk.w{k:Sk}(h:SkOk k):SkW k:=⟨by have:=h.hl;lia,λa b=>by have:=h.hk a b;unfold jv at this;lia,by have:=h.cl;lia,by have:=h.wl;lia,by have:=h.sl;lia⟩
theorem uk(k:Sk):OkQ 9 (skD k):=λd hd=>by
 simp only[Ql,QJ,or_false] at hd;rcases hd with rfl | rfl | rfl | rfl
 ·intro e he
  obtain⟨h,_,rfl⟩:=Q9.mp he;intro z hz;simp only[Ql,QJ,or_false] at hz;rcases hz with rfl | rfl | rfl<;>exact trivial
 ·intro e he
  obtain⟨h,_,rfl⟩:=Q9.mp he;exact trivial
 ·intro e he
  obtain⟨h,_,rfl⟩:=Q9.mp he;intro z hz;simp only[Ql,QJ,or_false] at hz;rcases hz with rfl | rfl | rfl | rfl<;>exact trivial
 ·intro e he
  obtain⟨h,_,rfl⟩:=Q9.mp he;intro z hz;simp only[Ql,QJ,or_false] at hz;rcases hz with rfl | rfl | rfl | rfl | rfl | rfl | rfl | rfl<;>exact trivial
structure SkLen(k:Sk):Prop where
 hl:k.hs.length<1000
 cl:k.cs.length<1000
 wl:k.ws.length<1000
 sl:k.ss.length<1000
theorem SkOk.len{k:Sk}(h:SkOk k):SkLen k:=⟨by have:=h.hl;lia,by have:=h.cl;lia,by have:=h.wl;lia,by have:=h.sl;lia⟩
def fL(h z:Int)(w:Wd):Prop:=w.z=z/\w.h<=h
instance (h z:Int) (w:Wd):Decidable (fL h z w):=by unfold fL;infer_instance
def iS(h z:Int)(acc:Option Wd)(w:Wd):Option Wd:=if fL h z w then(match acc with | none=>some w | some b=>if b.h<=w.h then some w else acc) else acc
def gf(h z:Int):List Wd->Option Wd->Option Wd
 |[],acc=>acc
 |w::r,acc=>gf h z r (iS h z acc w)
def jN(h z:Int)(ws:List Wd):D:=match gf h z ws none with | none=>.tup [.int 0,.int 0] | some b=>.tup [.int b.dx,.int b.dy]
def jU:Option Wd->D
 |none=>.non
 |some b=>wD b
def qg:Ev->Option Fl:=(aE (sIf (fq (av d_ (e2 ixD (aa 4) (eC (.int 1))) (aa 2)) (av gtI (e2 ixD (aa 4) (eC (.int 0))) (aa 1))) (λε=>some (.ct ε)) bg) (sIf (fq (av (isD false) (aa 3) (eC .non)) (av geI (e2 ixD (aa 4) (eC (.int 0))) (e2 ixD (aa 3) (eC (.int 0))))) (a9 3 (au 4)) bg))
def gWA:Ev->Option Fl:=(aE (a9 3 (eC .non)) (aE (cR (f9 (au 0)) (ak 4) qg) (aE (sIf (av (isD false) (aa 3) (eC .non)) (aZ (bx (ae (eC (.int 0)) (ae (eC (.int 0)) aF)))) bg) (aZ (bx (ae (e2 ixD (aa 3) (eC (.int 2))) (ae (e2 ixD (aa 3) (eC (.int 3))) aF)))))))
theorem tw(L:D)(h z:Int)(acc:Option Wd)(w:Wd):∃ε,(qg [.dat L,.dat (.int h),.dat (.int z),.dat (jU acc),.dat (wD w)]=some (.nx ε)\/qg [.dat L,.dat (.int h),.dat (.int z),.dat (jU acc),.dat (wD w)]=some (.ct ε))/\ε=[.dat L,.dat (.int h),.dat (.int z),.dat (jU (iS h z acc w)),.dat (wD w)]:=by
 have c:fq (av d_ (e2 ixD (aa 4) (eC (.int 1))) (aa 2)) (av gtI (e2 ixD (aa 4) (eC (.int 0))) (aa 1)) [.dat L,.dat (.int h),.dat (.int z),.dat (jU acc),.dat (wD w)]=some (!decide (w.z=z) || decide (w.h>h)):=nL rfl rfl;refine⟨_,?_,rfl⟩;unfold qg iS
 by_cases s:fL h z w
 ·rw[if_pos s]
  have c':=c.trans (show some (!decide (w.z=z) || decide (w.h>h))=some false by rw[decide_eq_true s.1,decide_eq_false (show ¬w.h>h by have:=s.2;lia)];rfl)
  left
  refine(ao ((eH c').trans rfl)).trans ?_;cases acc with
  |none=>rfl
  |some b=>
   have c2:fq (av (isD false) (aa 3) (eC .non)) (av geI (e2 ixD (aa 4) (eC (.int 0))) (e2 ixD (aa 3) (eC (.int 0)))) [.dat L,.dat (.int h),.dat (.int z),.dat (jU (some b)),.dat (wD w)]=some (false || decide (w.h>=b.h)):=nL rfl rfl;show sIf _ _ _ [.dat L,.dat (.int h),.dat (.int z),.dat (jU (some b)),.dat (wD w)]=some (.nx [.dat L,.dat (.int h),.dat (.int z),.dat (jU (if b.h<=w.h then some w else some b)),.dat (wD w)])
   by_cases g:b.h<=w.h
   ·rw[if_pos g]
    exact(eI (c2.trans (by rw[decide_eq_true (show w.h>=b.h from g)];rfl))).trans rfl
   ·rw[if_neg g]
    exact(eH (c2.trans (by rw[decide_eq_false (show ¬w.h>=b.h from g)];rfl))).trans rfl
 ·rw[if_neg s]
  right
  have c':=c.trans (show some (!decide (w.z=z) || decide (w.h>h))=some true by
   by_cases g:w.z=z
   ·rw[decide_eq_true g,decide_eq_true (show w.h>h by by_cases q:w.h>h;exact q;exact absurd ⟨g,by lia⟩ s)];rfl
   ·rw[decide_eq_false g];rfl)
  unfold aE;rw[eI c'];rfl
theorem oU(L:D)(h z:Int):∀(ws:List Wd) (acc:Option Wd) (s4:Sl),∃e4,cf (ak 4) qg (wL ws) [.dat L,.dat (.int h),.dat (.int z),.dat (jU acc),s4]=some (.nx [.dat L,.dat (.int h),.dat (.int z),.dat (jU (gf h z ws acc)),e4])
 |[],acc,s4=>⟨s4,rfl⟩
 |w::ws,acc,s4=>by
  obtain⟨ε,e,rfl⟩:=tw L h z acc w;obtain⟨e4,e'⟩:=oU L h z ws (iS h z acc w) (.dat (wD w));refine⟨e4,?_⟩;show(qg [.dat L,.dat (.int h),.dat (.int z),.dat (jU acc),.dat (wD w)]).bind _=_;rcases e with e | e<;>(rw[e];exact e')
theorem ya(ws:List Wd)(h z:Int):gWA [.dat (.lst (wL ws)),.dat (.int h),.dat (.int z),.un,.un]=some (.rt (jN h z ws)):=by
 obtain⟨e4,e⟩:=oU (.lst (wL ws)) h z ws none .un;unfold gWA;refine(ao rfl).trans ?_;refine(ao ((bF (ds:=wL ws) rfl).trans e)).trans ?_;unfold jN;cases gf h z ws none with
 |none=>rfl
 |some b=>rfl
theorem km(h z:Int):∀(ws:List Wd) (acc:Option Wd),(gf h z ws acc=acc/\∀(k:Nat) (w:Wd),ws[k]?=some w->fL h z w->∃b0,acc=some b0/\w.h<b0.h)\/
  ∃(i:Nat) (b:Wd),ws[i]?=some b/\gf h z ws acc=some b/\fL h z b/\(∀(k:Nat) (w:Wd),ws[k]?=some w->fL h z w->w.h<b.h\/(w.h=b.h/\k<=i))/\∀b0,acc=some b0->b0.h<=b.h
 |[],acc=>.inl ⟨rfl,λk w e=>by simp at e⟩
 |w::r,acc=>by
  have hn:iS h z acc w=some w/\fL h z w/\(∀b0,acc=some b0->b0.h<=w.h)\/iS h z acc w=acc/\(fL h z w->∃b0,acc=some b0/\w.h<b0.h):=by
   unfold iS
   by_cases s:fL h z w
   ·rw[if_pos s]
    cases acc with
    |none=>exact .inl ⟨rfl,s,λb0 e=>by cases e⟩
    |some b=>
     by_cases g:b.h<=w.h
     ·exact .inl ⟨by show(if b.h<=w.h then some w else some b)=_;rw[if_pos g],s,λb0 e=>by cases e;exact g⟩
     ·exact .inr ⟨by show(if b.h<=w.h then some w else some b)=_;rw[if_neg g],λ_=>⟨b,rfl,by lia⟩⟩
   ·rw[if_neg s]
    exact .inr ⟨rfl,λz=>absurd z s⟩
  rcases km h z r (iS h z acc w) with⟨e,all⟩ | ⟨i,b,ei,e,sb,all,le⟩
  ·rcases hn with⟨n1,n2,n3⟩ | ⟨n1,n2⟩
   ·refine .inr ⟨0,w,rfl,by show gf h z r _=_;rw[e,n1],n2,λk v ek sv=>?_,n3⟩
    cases k with
    |zero=>simp at ek;subst ek;exact .inr ⟨rfl,Qn _⟩
    |succ k=>
     obtain⟨b0,e0,l0⟩:=all k v (by simpa using ek) sv;rw[n1] at e0;cases e0;exact .inl l0
   ·refine .inl ⟨by show gf h z r _=_;rw[e,n1],λk v ek sv=>?_⟩
    cases k with
    |zero=>simp at ek;subst ek;exact n2 sv
    |succ k=>
     obtain⟨b0,e0,l0⟩:=all k v (by simpa using ek) sv;rw[n1] at e0;exact⟨b0,e0,l0⟩
  ·refine .inr ⟨i+1,b,by simpa using ei,e,sb,λk v ek sv=>?_,λb0 e0=>?_⟩
   ·cases k with
    |zero=>
     simp at ek;subst ek;rcases hn with⟨n1,n2,n3⟩ | ⟨n1,n2⟩
     ·have:=le w n1
      rcases Int.lt_or_eq_of_le this with l | l
      ·exact .inl l
      ·exact .inr ⟨l,Nat.zero_le _⟩
     ·obtain⟨b0,e0,l0⟩:=n2 sv
      have:=le b0 (n1.trans e0);exact .inl (by lia)
    |succ k=>
     rcases all k v (by simpa using ek) sv with l | ⟨l1,l2⟩
     ·exact .inl l
     ·exact .inr ⟨l1,by lia⟩
   ·rcases hn with⟨n1,n2,n3⟩ | ⟨n1,n2⟩
    ·have:=n3 b0 e0;have:=le w n1;lia
    ·exact le b0 (n1.trans e0)
abbrev lwT:Ev->Option Bool:=bz (av bc (e2 ixD (e2 ixD (aa 1) (aa 0)) (eC (.int 1))) (aa 2)) (av leI (e2 ixD (e2 ixD (aa 1) (aa 0)) (eC (.int 0))) (aa 3))
abbrev lwE:Ev->Option D:=bx (ae (e2 ixD (e2 ixD (aa 1) (aa 0)) (eC (.int 0))) (ae (au 0) aF))
def gLW:Ev->Option Fl:=(aE (a9 3 (eF (eLC (cq (ck cy (aa 0))) 1 [0,2,1] (ak 0) lwT lwE))) (aE (sIf (av bc (ck cy (aa 3)) (eC (.int 0))) (aZ (bx (ae (eC (.int 0)) (ae (eC (.int 0)) aF)))) bg) (aZ (lr (e2 ixD (aa 0) (e2 ixD (aL kD (ae (au 3) aF)) (eC (.int 1)))) (bj (eC (.int 2))) cX))))
def prD(p:Int×Int):D:=.tup [.int p.1,.int p.2]
abbrev prL(ps:List (Int×Int)):List D:=ps.map prD
def fA(h z:Int)(ws:List Wd):List Nat->List (Int×Int)
 |[]=>[]
 |k::ks=>match ws[k]? with
  |some w=>if fL h z w then(w.h,(k:Int))::fA h z ws ks else fA h z ws ks
  |none=>fA h z ws ks
theorem mi(h z:Int)(ws:List Wd):∀(ks:List Nat) (p:Int×Int),p∈fA h z ws ks↔∃(k:Nat) (w:Wd),k∈ks/\ws[k]?=some w/\fL h z w/\p=(w.h,(k:Int))
 |[],p=>⟨λe=>(by cases e),λ⟨k,w,e,_⟩=>(by cases e)⟩
 |k::ks,p=>by
  have ih:=mi h z ws ks p;unfold fA;cases ew:ws[k]? with
  |none=>
   show p∈fA h z ws ks↔_;rw[ih];constructor
   ·rintro⟨j,w,m,r⟩;exact⟨j,w,Qy _ m,r⟩
   ·rintro⟨j,w,m,e,r⟩
    rcases Ql.mp m with rfl | m
    ·rw[ew] at e;cases e
    ·exact⟨j,w,m,e,r⟩
  |some w=>
   show p∈(if fL h z w then(w.h,(k:Int))::fA h z ws ks else fA h z ws ks)↔_
   by_cases s:fL h z w
   ·rw[if_pos s,Ql,ih]
    constructor
    ·rintro(rfl | ⟨j,w',m,r⟩)
     ·exact⟨k,w,QL,ew,s,rfl⟩
     ·exact⟨j,w',Qy _ m,r⟩
    ·rintro⟨j,w',m,e,s',rfl⟩
     rcases Ql.mp m with rfl | m
     ·rw[ew] at e;cases e;exact .inl rfl
     ·exact .inr ⟨j,w',m,e,s',rfl⟩
   ·rw[if_neg s,ih]
    constructor
    ·rintro⟨j,w',m,r⟩;exact⟨j,w',Qy _ m,r⟩
    ·rintro⟨j,w',m,e,s',r⟩
     rcases Ql.mp m with rfl | m
     ·rw[ew] at e;cases e;exact absurd s' s
     ·exact⟨j,w',m,e,s',r⟩
theorem vN{ws:List Wd}{k:Nat}{w:Wd}(e:ws[k]?=some w):ixD (.lst (wL ws)) (.int (k:Int))=some (wD w):=lb (by unfold wL;rw[QG,e];rfl)
theorem vP(h z:Int)(ws:List Wd):∀(ks:List Nat) (_:∀k∈ks,k<ws.length) (s0:Sl),lcD (ak 0) lwT lwE (ks.map λ(i:Nat)=>D.int (i:Int)) [s0,.dat (.lst (wL ws)),.dat (.int z),.dat (.int h)]=some (prL (fA h z ws ks))
 |[],_,_=>rfl
 |k::ks,hk,s0=>by
  have kl:=hk k QL;have ew:ws[k]?=some ws[k]:=by simp[kl]
  have ih:=vP h z ws ks (λj hj=>hk j (Qy _ hj)) (.dat (.int (k:Int)));have i0:e2 ixD (aa 1) (aa 0) [.dat (.int (k:Int)),.dat (.lst (wL ws)),.dat (.int z),.dat (.int h)]=some (wD ws[k]):=vN ew;have c:lwT [.dat (.int (k:Int)),.dat (.lst (wL ws)),.dat (.int z),.dat (.int h)]=some (decide (ws[k].z=z)&&decide (ws[k].h<=h)):=bZ (b9 (aV i0 rfl rfl) rfl rfl) (b9 (aV i0 rfl rfl) rfl rfl);have ce:lwE [.dat (.int (k:Int)),.dat (.lst (wL ws)),.dat (.int z),.dat (.int h)]=some (prD (ws[k].h,(k:Int))):=fU (aM (aV i0 rfl rfl) rfl) (show 2<=1000 by decide);show(lwT [.dat (.int (k:Int)),.dat (.lst (wL ws)),.dat (.int z),.dat (.int h)]).bind (λb=>if b=true then(lwE [.dat (.int (k:Int)),.dat (.lst (wL ws)),.dat (.int z),.dat (.int h)]).bind λv=>(lcD (ak 0) lwT lwE (ks.map λ(i:Nat)=>D.int (i:Int)) [.dat (.int (k:Int)),.dat (.lst (wL ws)),.dat (.int z),.dat (.int h)]).bind λr=>some (v::r) else lcD (ak 0) lwT lwE (ks.map λ(i:Nat)=>D.int (i:Int)) [.dat (.int (k:Int)),.dat (.lst (wL ws)),.dat (.int z),.dat (.int h)])=_
  have es:fA h z ws (k::ks)=if fL h z ws[k] then(ws[k].h,(k:Int))::fA h z ws ks else fA h z ws ks:=by
   show(match ws[k]? with | some w=>_ | none=>_)=_;rw[ew]
  rw[c,ce,ih,es];show(if(decide (ws[k].z=z)&&decide (ws[k].h<=h))=true then some (prD (ws[k].h,(k:Int))::prL (fA h z ws ks)) else some (prL (fA h z ws ks)))=some (prL (if fL h z ws[k] then(ws[k].h,(k:Int))::fA h z ws ks else fA h z ws ks))
  by_cases s:fL h z ws[k]
  ·rw[if_pos s,decide_eq_true s.1,decide_eq_true s.2];rfl
  ·rw[if_neg s]
   by_cases g:ws[k].z=z
   ·rw[decide_eq_true g,decide_eq_false (λq=>s ⟨g,q⟩)];rfl
   ·rw[decide_eq_false g];rfl
theorem ju:∀ps:List (Int×Int),dN (prL ps)=some ps
 |[]=>rfl
 |p::ps=>by show(dN (prL ps)).bind _=_;rw[ju ps];rfl
theorem tN(ps:List (Int×Int))(h:∀p∈ps,0<=p.2/\p.2<100):btP ps=λi j=>decide ((ps.getD i (0,0)).1*100+(ps.getD i (0,0)).2>(ps.getD j (0,0)).1*100+(ps.getD j (0,0)).2):=by
 have hb:∀i,0<=(ps.getD i (0,0)).2/\(ps.getD i (0,0)).2<100:=λi=>by
  rw[show ps.getD i (0,0)=(ps[i]?).getD (0,0) from QX];cases e:ps[i]? with
  |none=>exact⟨by decide,by decide⟩
  |some p=>exact h p (Jp e)
 funext i j
 unfold btP;have h1:=hb i;have h2:=hb j;generalize ps.getD i (0,0)=p at h1 ⊢;generalize ps.getD j (0,0)=q at h2 ⊢;show(if p.1=q.1 then(if p.2=q.2 then false else decide (q.2<p.2)) else decide (q.1<p.1))=_
 by_cases g:p.1=q.1
 ·rw[if_pos g]
  by_cases g2:p.2=q.2
  ·rw[if_pos g2];exact(decide_eq_false (by lia)).symm
  ·rw[if_neg g2]
   by_cases g3:q.2<p.2
   ·rw[decide_eq_true g3,decide_eq_true (by lia)]
   ·rw[decide_eq_false g3,decide_eq_false (by lia)]
 ·rw[if_neg g]
  by_cases g3:q.1<p.1
  ·rw[decide_eq_true g3,decide_eq_true (by lia)]
  ·rw[decide_eq_false g3,decide_eq_false (by lia)]
theorem pN(ps:List (Int×Int))(h:∀p∈ps,0<=p.2/\p.2<100)(pos:0<ps.length):∃p∈ps,kD [.lst (prL ps)]=some (prD p)/\∀q∈ps,q.1*100+q.2<=p.1*100+p.2:=by
 obtain⟨b1,b2⟩:=argBest_gt (λi=>(ps.getD i (0,0)).1*100+(ps.getD i (0,0)).2) (ps.length-1);rw[<-tN ps h] at b1 b2;have hb:Q2 (btP ps) (ps.length-1)<ps.length:=by lia
 have eb:ps.getD (Q2 (btP ps) (ps.length-1)) (0,0)=ps[Q2 (btP ps) (ps.length-1)]:=by simp[QX,hb]
 refine⟨ps[Q2 (btP ps) (ps.length-1)],List.getElem_mem hb,?_,λq hq=>?_⟩
 ·show(dN (prL ps)).bind _=_
  rw[ju];show(if 0<ps.length then(prL ps)[Q2 (btP ps) (ps.length-1)]? else none)=_;rw[if_pos pos];unfold prL;rw[QG,List.getElem?_eq_getElem hb];rfl
 ·obtain⟨j,hj⟩:=List.getElem?_of_mem hq
  have jl:j<ps.length:=(Qs.mp hj).1;have:=b2 j (by lia);rw[eb] at this;have ej:ps.getD j (0,0)=q:=by simp[QX,hj]
  rw[ej] at this;exact this
theorem wZ(ws:List Wd)(hz:ws.length<100)(h z:Int):gLW [.dat (.lst (wL ws)),.dat (.int h),.dat (.int z),.un]=some (.rt (jN h z ws)):=by
 let ps:=fA h z ws (JB ws.length)
 have c3:eF (eLC (cq (ck cy (aa 0))) 1 [0,2,1] (ak 0) lwT lwE) [.dat (.lst (wL ws)),.dat (.int h),.dat (.int z),.un]=some (.lst (prL ps)):=by
  refine dR ?_
  rw[iw (ds:=cg ws.length) (by
   have:=eP (f:=ck cy (aa 0)) (ε:=[.dat (.lst (wL ws)),.dat (.int h),.dat (.int z),.un]) (j:=((wL ws).length:Int)) rfl (by lia) (by simp;lia)
   rw[this];simp) (by simp;lia)]
  exact vP h z ws (JB ws.length) (λk hk=>List.mem_range.mp hk) _
 have pm:=mi h z ws (JB ws.length);unfold gLW;refine(ao (ba c3)).trans ?_;have cl:av bc (ck cy (aa 3)) (eC (.int 0)) [.dat (.lst (wL ws)),.dat (.int h),.dat (.int z),.dat (.lst (prL ps))]=some (decide (((prL ps).length:Int)=0)):=rfl;rcases km h z ws none with⟨e,all⟩ | ⟨i,b,ei,e,sb,all,_⟩
 ·have en:ps=[]:=by
   refine List.eq_nil_iff_forall_not_mem.mpr λp hp=>?_;obtain⟨k,w,_,ew,sw,_⟩:=(pm p).mp hp;obtain⟨b0,e0,_⟩:=all k w ew sw;cases e0
  refine bB ((bQ _ cl (by rw[en];rfl)).trans ?_);unfold jN;rw[e];rfl
 ·have il:i<ws.length:=(Qs.mp ei).1
  have hi:(b.h,(i:Int))∈ps:=(pm _).mpr ⟨i,b,List.mem_range.mpr il,ei,sb,rfl⟩;have pos:0<ps.length:=List.length_pos_of_mem hi
  obtain⟨p,hp,em,hmax⟩:=pN ps (λp hp=>by
   obtain⟨k,w,hk,_,_,rfl⟩:=(pm p).mp hp;have:=List.mem_range.mp hk
   exact⟨by show(0:Int)<=k;lia,by show(k:Int)<100;lia⟩) pos
  obtain⟨k,w,hk,ew,sw,rfl⟩:=(pm p).mp hp;have kl:=List.mem_range.mp hk;have m1:=hmax _ hi;have m2:=all k w ew sw
  have ki:k=i:=by
   have m1':b.h*100+(i:Int)<=w.h*100+(k:Int):=m1;rcases m2 with l | ⟨l1,l2⟩<;>lia
  subst ki;rw[ei] at ew;cases ew;refine(ao ((bJ _ cl (λz=>by rw[Qz] at z;lia)).trans rfl)).trans ?_;refine b8 ?_;have ix:e2 ixD (aa 0) (e2 ixD (aL kD (ae (au 3) aF)) (eC (.int 1))) [.dat (.lst (wL ws)),.dat (.int h),.dat (.int z),.dat (.lst (prL ps))]=some (wD b):=aV (y:=.int (k:Int)) rfl (aV (aY rfl em) rfl rfl) (vN ei);show lr _ _ _ [.dat (.lst (wL ws)),.dat (.int h),.dat (.int z),.dat (.lst (prL ps))]=_;unfold lr jN;rw[ix,e];rfl
end Dn
namespace Fl
open PySem PySem.Spec PyProof.Rows L2 Dn
abbrev mN:List Str:=["_law_sky_here"]
abbrev dE:List Str:=["_law_sky_here"]
def iP:Ev->Option Fl:=(aZ (bx (ae (eF (kH (e2 ixD (aa 0) (eC (.int 0))))) (ae (eF (kH (e2 ixD (aa 0) (eC (.int 1))))) (ae (eF (kH (e2 ixD (aa 0) (eC (.int 2))))) (ae (eF (kH (e2 ixD (aa 0) (eC (.int 3))))) aF))))))
def fw:List D->Option D:=fnD mN dE iP
abbrev mf:List Str:=["_law_winds","_law_hour","_law_height","_law_some"]
abbrev dF:List Str:=["_law_winds","_law_hour","_law_height"]
def mh:Ev->Option Fl:=(aE (a9 3 (eF (eLC (cq (ck cy (aa 0))) 1 [0,2,1] (ak 0) (bz (av bc (e2 ixD (e2 ixD (aa 1) (aa 0)) (eC (.int 1))) (aa 2)) (av leI (e2 ixD (e2 ixD (aa 1) (aa 0)) (eC (.int 0))) (aa 3))) (bx (ae (e2 ixD (e2 ixD (aa 1) (aa 0)) (eC (.int 0))) (ae (au 0) aF)))))) (aE (sIf (av bc (ck cy (aa 3)) (eC (.int 0))) (aZ (bx (ae (eC (.int 0)) (ae (eC (.int 0)) aF)))) bg) (aZ (lr (e2 ixD (aa 0) (e2 ixD (aL kD (ae (au 3) aF)) (eC (.int 1)))) (bj (eC (.int 2))) cX))))
def dX:List D->Option D:=fnD mf dF mh
abbrev nV:List Str:=["_law_sky_here","_law_hour","_law_state_here","_law_order","_law_x","_law_y","_law_z","_law_sacks","_law_puffs","_law_step","_law_dx","_law_dy"]
abbrev eO:List Str:=["_law_sky_here","_law_hour","_law_state_here","_law_order"]
def jk:Ev->Option Fl:=(aE (gF (au 2) (cY 5 (ax (ak 4) (ax (ak 5) (ax (ak 6) (ax (ak 7) (ax (ak 8) bw))))))) (aE (a9 9 (eD3 "up" 1 "level" 0 "down" (-1) (au 3))) (aE (a9 6 (e2 aJ (aa 6) (aa 9))) (aE (sIf (bz (av (inD false) (aa 1) (e2 ixD (aa 0) (eC (.int 1)))) (av gtI (aa 6) (eC (.int 0)))) (a9 6 (e2 bu (aa 6) (eC (.int 1)))) bg) (aE (gF (aL dX (ae (e2 ixD (aa 0) (eC (.int 2))) (ae (au 1) (ae (au 6) aF)))) (cY 2 (ax (ak 10) (ax (ak 11) bw)))) (aZ (bx (ae (e2 aJ (aa 4) (aa 10)) (ae (e2 aJ (aa 5) (aa 11)) (ae (au 6) (ae (e2 bu (aa 7) (aL jt (ae (eC (.int 0)) (ae (au 9) aF)))) (ae (e2 bu (aa 8) (aL jt (ae (eC (.int 0)) (ae (kZ (aa 9)) aF)))) aF))))))))))))
def cE:List D->Option D:=fnD nV eO jk
abbrev jS:List Str:=["_law_hills","_law_x","_law_y"]
abbrev cK:List Str:=["_law_hills","_law_x","_law_y"]
def ee:Ev->Option Fl:=(aZ (aL rl (ae (eF (vg (eF (cv (ae (eC (.int 0)) aF))) (eF (eLC (f9 (au 0)) 3 [1,2] (fj 3 (ax (ak 0) (ax (ak 1) (ax (ak 2) bw)))) (bz (av bc (aa 0) (aa 3)) (av bc (aa 1) (aa 4))) (au 2))))) aF)))
def cI:List D->Option D:=fnD jS cK ee
abbrev qu:List Str:=["_law_box_here","_law_x","_law_y","_law_z"]
abbrev fX:List Str:=["_law_box_here","_law_x","_law_y","_law_z"]
def kz:Ev->Option Fl:=(aZ (gQ (e2 leI (e2 ixD (aa 0) (eC (.int 0))) (aa 1)) (gQ (e2 leI (aa 1) (e2 ixD (aa 0) (eC (.int 2)))) (gQ (e2 leI (e2 ixD (aa 0) (eC (.int 1))) (aa 2)) (gQ (e2 leI (aa 2) (e2 ixD (aa 0) (eC (.int 3)))) (gQ (e2 leI (e2 ixD (aa 0) (eC (.int 4))) (aa 3)) (e2 leI (aa 3) (e2 ixD (aa 0) (eC (.int 5))))))))))
def fW:List D->Option D:=fnD qu fX kz
abbrev mz:List Str:=["_law_shuts","_law_hour","_law_x","_law_y","_law_z"]
abbrev dO:List Str:=["_law_shuts","_law_hour","_law_x","_law_y","_law_z"]
def iO:Ev->Option Fl:=(aZ (e2 (inD false) (eC (.bl true)) (eF (eLC (f9 (au 0)) 1 [2,3,4,1] (ak 0) (bz (av leI (e2 ixD (aa 0) (eC (.int 6))) (aa 4)) (av leI (aa 4) (e2 ixD (aa 0) (eC (.int 7))))) (aL fW (ae (lr (aa 0) cX (bj (eC (.int 6)))) (ae (au 1) (ae (au 2) (ae (au 3) aF)))))))))
def dW:List D->Option D:=fnD mz dO iO
abbrev k9:List Str:=["_law_sky_here","_law_hour","_law_state_here"]
abbrev cZ:List Str:=["_law_sky_here","_law_hour","_law_state_here"]
def gZ:Ev->Option Fl:=(aE (sIf (av ltI (e2 ixD (aa 2) (eC (.int 2))) (aL cI (ae (e2 ixD (aa 0) (eC (.int 0))) (ae (e2 ixD (aa 2) (eC (.int 0))) (ae (e2 ixD (aa 2) (eC (.int 1))) aF))))) (aZ (eC (.str "hill"))) bg) (aE (sIf (fm (aL dW (ae (e2 ixD (aa 0) (eC (.int 3))) (ae (au 1) (ae (e2 ixD (aa 2) (eC (.int 0))) (ae (e2 ixD (aa 2) (eC (.int 1))) (ae (e2 ixD (aa 2) (eC (.int 2))) aF))))))) (aZ (eC (.str "shut"))) bg) (aZ (eC (.str "")))))
def eW:List D->Option D:=fnD k9 cZ gZ
abbrev nF:List Str:=["_law_sky_here","_law_hour","_law_state_here","_law_order"]
abbrev eN:List Str:=["_law_sky_here","_law_hour","_law_state_here","_law_order"]
def jF:Ev->Option Fl:=(aE (sIf (bz (av bc (aa 3) (eC (.str "up"))) (av bc (e2 ixD (aa 2) (eC (.int 3))) (eC (.int 0)))) (aZ (eC (.str "sacks"))) bg) (aE (sIf (bz (av bc (aa 3) (eC (.str "down"))) (av bc (e2 ixD (aa 2) (eC (.int 4))) (eC (.int 0)))) (aZ (eC (.str "puffs"))) bg) (aE (sIf (bz (av bc (aa 3) (eC (.str "up"))) (av bc (e2 ixD (aa 2) (eC (.int 2))) (eC (.int 5)))) (aZ (eC (.str "high"))) bg) (aE (sIf (bz (av bc (aa 3) (eC (.str "down"))) (av bc (e2 ixD (aa 2) (eC (.int 2))) (eC (.int 0)))) (aZ (eC (.str "low"))) bg) (aZ (aL eW (ae (au 0) (ae (e2 aJ (aa 1) (eC (.int 1))) (ae (aL cE (ae (au 0) (ae (au 1) (ae (au 2) (ae (au 3) aF))))) aF)))))))))
def bK:List D->Option D:=fnD nF eN jF
def cx:Ev->Option Fl:=(sIf (av bc (aL bK (ae (au 0) (ae (e2 aJ (aa 1) (aa 5)) (ae (au 8) (ae (au 9) aF))))) (eC (.str ""))) (cC 6 (bx (ae (e2 wU (aa 7) (bx (ae (au 9) aF))) (ae (aL cE (ae (au 0) (ae (e2 aJ (aa 1) (aa 5)) (ae (au 8) (ae (au 9) aF))))) aF)))) bg)
def dJ:Ev->Option Fl:=(cR (ko (bx (ae (eC (.str "up")) (ae (eC (.str "level")) (ae (eC (.str "down")) aF))))) (ak 9) (cx))
abbrev pR:List Str:=["winds","hour","height","blowing","wind"]
abbrev fS:List Str:=["winds","hour","height"]
def lC:Ev->Option Fl:=(aE (sIf (fq (av d_ (e2 ixD (aa 4) (eC (.int 1))) (aa 2)) (av gtI (e2 ixD (aa 4) (eC (.int 0))) (aa 1))) (λε=>some (.ct ε)) bg) (sIf (fq (av (isD false) (aa 3) (eC .non)) (av geI (e2 ixD (aa 4) (eC (.int 0))) (e2 ixD (aa 3) (eC (.int 0))))) (a9 3 (au 4)) bg))
def qr:Ev->Option Fl:=(aE (a9 3 (eC .non)) (aE (cR (f9 (au 0)) (ak 4) (lC)) (aE (sIf (av (isD false) (aa 3) (eC .non)) (aZ (bx (ae (eC (.int 0)) (ae (eC (.int 0)) aF)))) bg) (aZ (bx (ae (e2 ixD (aa 3) (eC (.int 2))) (ae (e2 ixD (aa 3) (eC (.int 3))) aF)))))))
def eB:List D->Option D:=fnD pR fS qr
abbrev qY:List Str:=["sky","hour","state","order","hills","cool","winds","shuts","x","y","height","sacks","puffs","dx","dy"]
abbrev ib:List Str:=["sky","hour","state","order"]
def mL:Ev->Option Fl:=(aE (gF (au 0) (cY 4 (ax (ak 4) (ax (ak 5) (ax (ak 6) (ax (ak 7) bw)))))) (aE (gF (au 2) (cY 5 (ax (ak 8) (ax (ak 9) (ax (ak 10) (ax (ak 11) (ax (ak 12) bw))))))) (aE (sIf (av bc (aa 3) (eC (.str "up"))) (uA 10 11 (ae (e2 aJ (aa 10) (eC (.int 1))) (ae (e2 bu (aa 11) (eC (.int 1))) aF))) (sIf (av bc (aa 3) (eC (.str "down"))) (uA 10 12 (ae (e2 bu (aa 10) (eC (.int 1))) (ae (e2 bu (aa 12) (eC (.int 1))) aF))) bg)) (aE (sIf (av (inD false) (aa 1) (aa 5)) (a9 10 (aL jt (ae (e2 bu (aa 10) (eC (.int 1))) (ae (eC (.int 0)) aF)))) bg) (aE (gF (aL eB (ae (au 6) (ae (au 1) (ae (au 10) aF)))) (cY 2 (ax (ak 13) (ax (ak 14) bw)))) (aZ (bx (ae (e2 aJ (aa 8) (aa 13)) (ae (e2 aJ (aa 9) (aa 14)) (ae (au 10) (ae (au 11) (ae (au 12) aF))))))))))))
def jC:List D->Option D:=fnD qY ib mL
abbrev ia:List Str:=["state","order","x","y","height","sacks","puffs"]
abbrev bS:List Str:=["state","order"]
def dD:Ev->Option Fl:=(aE (gF (au 0) (cY 5 (ax (ak 2) (ax (ak 3) (ax (ak 4) (ax (ak 5) (ax (ak 6) bw))))))) (aE (sIf (bz (av bc (aa 1) (eC (.str "up"))) (av ltI (aa 5) (eC (.int 1)))) (aZ (eC (.str "sacks"))) bg) (aE (sIf (bz (av bc (aa 1) (eC (.str "down"))) (av ltI (aa 6) (eC (.int 1)))) (aZ (eC (.str "puffs"))) bg) (aE (sIf (bz (av bc (aa 1) (eC (.str "up"))) (av bc (aa 4) (eC (.int 5)))) (aZ (eC (.str "high"))) bg) (aE (sIf (bz (av bc (aa 1) (eC (.str "down"))) (av bc (aa 4) (eC (.int 0)))) (aZ (eC (.str "low"))) bg) (aZ (eC (.str ""))))))))
def cw:List D->Option D:=fnD ia bS dD
abbrev l7:List Str:=["hills","x","y","tops"]
abbrev dU:List Str:=["hills","x","y"]
def fH:Ev->Option Fl:=(aE (a9 3 (eF (eLC (f9 (au 0)) 3 [1,2] (fj 3 (ax (ak 0) (ax (ak 1) (ax (ak 2) bw)))) (bz (av bc (aa 0) (aa 3)) (av bc (aa 1) (aa 4))) (au 2)))) (aZ (e2 lZ (au 3) (eC (.int 0)))))
def dM:List D->Option D:=fnD l7 dU fH
abbrev sH:List Str:=["box","x","y","height","x1","y1","x2","y2","low","high"]
abbrev hZ:List Str:=["box","x","y","height"]
def mw:Ev->Option Fl:=(aE (gF (au 0) (cY 6 (ax (ak 4) (ax (ak 5) (ax (ak 6) (ax (ak 7) (ax (ak 8) (ax (ak 9) bw)))))))) (aZ (gQ (eCh leI leI (aa 4) (aa 1) (aa 6)) (gQ (eCh leI leI (aa 5) (aa 2) (aa 7)) (eCh leI leI (aa 8) (aa 3) (aa 9))))))
def ic:List D->Option D:=fnD sH hZ mw
abbrev pe:List Str:=["shuts","hour","x","y","height","shut"]
abbrev fT:List Str:=["shuts","hour","x","y","height"]
def bG:Ev->Option Fl:=(sIf (bz (uu leI leI (e2 ixD (aa 5) (eC (.int 6))) (aa 1) (e2 ixD (aa 5) (eC (.int 7)))) (fm (aL ic (ae (lr (aa 5) cX (bj (eC (.int 6)))) (ae (au 2) (ae (au 3) (ae (au 4) aF))))))) (aZ (eC (.bl true))) bg)
def kB:Ev->Option Fl:=(aE (cR (f9 (au 0)) (ak 5) (bG)) (aZ (eC (.bl false))))
def f6:List D->Option D:=fnD pe fT kB
abbrev i7:List Str:=["sky","hour","state","hills","cool","winds","shuts","x","y","height","sacks","puffs"]
abbrev b7:List Str:=["sky","hour","state"]
def e_:Ev->Option Fl:=(aE (gF (au 0) (cY 4 (ax (ak 3) (ax (ak 4) (ax (ak 5) (ax (ak 6) bw)))))) (aE (gF (au 2) (cY 5 (ax (ak 7) (ax (ak 8) (ax (ak 9) (ax (ak 10) (ax (ak 11) bw))))))) (aE (sIf (av ltI (aa 9) (aL dM (ae (au 3) (ae (au 7) (ae (au 8) aF))))) (aZ (eC (.str "hill"))) bg) (aE (sIf (fm (aL f6 (ae (au 6) (ae (au 1) (ae (au 7) (ae (au 8) (ae (au 9) aF))))))) (aZ (eC (.str "shut"))) bg) (aZ (eC (.str "")))))))
def cT:List D->Option D:=fnD i7 b7 e_
abbrev uN:List Str:=["sky","hour","state","order","after","why"]
abbrev i_:List Str:=["sky","hour","state","order"]
def n9:Ev->Option Fl:=(aE (a9 4 (aL jC (ae (au 0) (ae (au 1) (ae (au 2) (ae (au 3) aF)))))) (aE (a9 5 (aL cw (ae (au 2) (ae (au 3) aF)))) (aE (sIf (av bc (aa 5) (eC (.str ""))) (a9 5 (aL cT (ae (au 0) (ae (e2 aJ (aa 1) (eC (.int 1))) (ae (au 4) aF))))) bg) (aZ (bx (ae (au 5) (ae (au 4) aF)))))))
def kU:List D->Option D:=fnD uN i_ n9
def bH(hs:List Hl)(x y:Int):List Int:=(hs.filter λh=>decide (h.x=x)&&decide (h.y=y)).map (·.t)
abbrev tgH:D->Ev->Option Ev:=fj 3 (ax (ak 0) (ax (ak 1) (ax (ak 2) bw)))
abbrev ftH:Ev->Option Bool:=bz (av bc (aa 0) (aa 3)) (av bc (aa 1) (aa 4))
theorem yh(h:Hl)(x y:Int):ftH [.dat (.int h.x),.dat (.int h.y),.dat (.int h.t),.dat (.int x),.dat (.int y)]=some (decide (h.x=x)&&decide (h.y=y)):=by
 have u1:av bc (aa 0) (aa 3) [.dat (.int h.x),.dat (.int h.y),.dat (.int h.t),.dat (.int x),.dat (.int y)]=some (decide (h.x=x)):=rfl;have u2:av bc (aa 1) (aa 4) [.dat (.int h.x),.dat (.int h.y),.dat (.int h.t),.dat (.int x),.dat (.int y)]=some (decide (h.y=y)):=rfl;unfold ftH bz;rw[u1,u2];cases decide (h.x=x)<;>rfl
theorem sJ(x y:Int):∀(hs:List Hl) (s0 s1 s2:Sl),lcD tgH ftH (au 2) (hL hs) [s0,s1,s2,.dat (.int x),.dat (.int y)]=some (iL (bH hs x y))
 |[],_,_,_=>rfl
 |h::hs,s0,s1,s2=>by
  show((ftH [.dat (.int h.x),.dat (.int h.y),.dat (.int h.t),.dat (.int x),.dat (.int y)]).bind λk=>if k=true then(some (D.int h.t)).bind λv=>(lcD tgH ftH (au 2) (hL hs) [.dat (.int h.x),.dat (.int h.y),.dat (.int h.t),.dat (.int x),.dat (.int y)]).bind λr=>some (v::r) else lcD tgH ftH (au 2) (hL hs) [.dat (.int h.x),.dat (.int h.y),.dat (.int h.t),.dat (.int x),.dat (.int y)])=_;rw[yh,sJ x y hs];unfold bH;rw[List.filter_cons];cases e:(decide (h.x=x)&&decide (h.y=y))<;>simp[iL]
def gr(hs:List Hl)(x y:Int):Int:=match bH hs x y with | []=>0 | m::r=>mxI m r
theorem pj(hs:List Hl)(hz:hs.length<1000000)(x y:Int):dM [.lst (hL hs),.int x,.int y]=some (.int (gr hs x y)):=by
 refine bq rfl ?_;show fH [.dat (.lst (hL hs)),.dat (.int x),.dat (.int y),.un]=_;unfold fH
 have c:eF (eLC (f9 (au 0)) 3 [1,2] tgH ftH (au 2)) [.dat (.lst (hL hs)),.dat (.int x),.dat (.int y),.un]=some (.lst (iL (bH hs x y))):=by
  refine dR ?_;rw[iw (ds:=hL hs) rfl (by simpa[hL] using hz)];exact sJ x y hs _ _ _
 rw[ao (ba c)];show aZ (e2 lZ (au 3) (eC (.int 0))) [.dat (.lst (hL hs)),.dat (.int x),.dat (.int y),.dat (.lst (iL (bH hs x y)))]=_;refine b8 ?_;show lZ (.lst (iL (bH hs x y))) (.int 0)=_;show(match cV (iL (bH hs x y)) with | some []=>some (D.int 0) | some (m::r)=>some (D.int (mxI m r)) | none=>none)=_;unfold gr;rw[show cV (iL (bH hs x y))=some (bH hs x y) from kx _];cases bH hs x y<;>rfl
theorem rA{hs:List Hl}{x y:Int}(ok:∀h∈hs,0<=h.t):∀v∈bH hs x y,0<=v:=λv hv=>by
 obtain⟨h,h1,rfl⟩:=Q9.mp hv;exact ok h (List.mem_filter.mp h1).1
theorem x6(hs:List Hl)(hz:hs.length<100000)(ok:∀h∈hs,0<=h.t)(x y:Int):cI [.lst (hL hs),.int x,.int y]=some (.int (gr hs x y)):=by
 refine bq rfl ?_;show ee [.dat (.lst (hL hs)),.dat (.int x),.dat (.int y)]=_;unfold ee
 have c:eF (eLC (f9 (au 0)) 3 [1,2] tgH ftH (au 2)) [.dat (.lst (hL hs)),.dat (.int x),.dat (.int y)]=some (.lst (iL (bH hs x y))):=by
  refine dR ?_;rw[iw (ds:=hL hs) rfl (by simp[hL];lia)];exact sJ x y hs _ _ _
 have tl:(bH hs x y).length<=hs.length:=by unfold bH;rw[Qz];exact List.length_filter_le _ _
 have c2:eF (vg (eF (cv (ae (eC (.int 0)) aF))) (eF (eLC (f9 (au 0)) 3 [1,2] tgH ftH (au 2)))) [.dat (.lst (hL hs)),.dat (.int x),.dat (.int y)]=some (.lst (iL (0::bH hs x y))):=by
  refine dR ?_;unfold vg;rw[c];show(if 1+(iL (bH hs x y)).length<=1000000 then some ([D.int 0]++iL (bH hs x y)) else none)=_;rw[if_pos (by simp[iL];lia)];rfl
 refine b8 ?_;rw[qA c2];show(match cV (iL (0::bH hs x y)) with | some (m::r)=>some (D.int (mxI m r)) | _=>none)=_;rw[show cV (iL (0::bH hs x y))=some (0::bH hs x y) from kx _];have tm:=rA (x:=x) (y:=y) ok;unfold gr
 revert tm
 cases bH hs x y with
 |nil=>intro _;rfl
 |cons m r=>
  intro tm;have h0:=tm m (by simp);show some (D.int (mxI (if m>0 then m else 0) r))=_;rw[show(if m>0 then m else 0)=m by split<;>lia]
def in6(q:Sh)(x y z:Int):Bool:=(decide (q.a<=x)&&decide (x<=q.c))&&((decide (q.b<=y)&&decide (y<=q.d))&&(decide (q.e<=z)&&decide (z<=q.f)))
theorem qt(q:Sh)(x y z:Int):ic [t6 q.a q.b q.c q.d q.e q.f,.int x,.int y,.int z]=some (.bl (in6 q x y z)):=by
 refine bq rfl ?_;unfold mw;refine(ao rfl).trans (b8 ?_);exact dG (ll rfl rfl rfl) (dG (ll rfl rfl rfl) (ll rfl rfl rfl))
theorem rC(q:Sh)(x y z:Int):fW [t6 q.a q.b q.c q.d q.e q.f,.int x,.int y,.int z]=some (.bl (in6 q x y z)):=by
 refine bq rfl ?_;unfold kz;refine b8 ?_;refine(dG (b:=decide (x<=q.c)&&(decide (q.b<=y)&&(decide (y<=q.d)&&(decide (q.e<=z)&&decide (z<=q.f))))) (a:=decide (q.a<=x)) rfl (dG rfl (dG rfl (dG rfl (dG rfl rfl))))).trans ?_;unfold in6;rw[Bool.and_assoc,Bool.and_assoc]
def whB(q:Sh)(h:Int):Bool:=decide (q.t<=h)&&decide (h<=q.u)
def dg(ss:List Sh)(h x y z:Int):Bool:=ss.any λq=>whB q h&&in6 q x y z
theorem kj(L:D)(h x y z:Int):∀(ss:List Sh) (s5:Sl),(dg ss h x y z=false->∃e5,cf (ak 5) bG (shL ss) [.dat L,.dat (.int h),.dat (.int x),.dat (.int y),.dat (.int z),s5]=some (.nx [.dat L,.dat (.int h),.dat (.int x),.dat (.int y),.dat (.int z),e5]))/\
  (dg ss h x y z=true->cf (ak 5) bG (shL ss) [.dat L,.dat (.int h),.dat (.int x),.dat (.int y),.dat (.int z),s5]=some (.rt (.bl true)))
 |[],s5=>⟨λ_=>⟨s5,rfl⟩,λh=>by cases h⟩
 |q::ss,s5=>by
  have c:bz (uu leI leI (e2 ixD (aa 5) (eC (.int 6))) (aa 1) (e2 ixD (aa 5) (eC (.int 7)))) (fm (aL ic (ae (lr (aa 5) cX (bj (eC (.int 6)))) (ae (au 2) (ae (au 3) (ae (au 4) aF)))))) [.dat L,.dat (.int h),.dat (.int x),.dat (.int y),.dat (.int z),.dat (shD q)]=some (whB q h&&in6 q x y z):=by
   refine bZ ?_ ?_
   ·unfold uu;rw[ll (a:=q.t) (b:=h) (c:=q.u) rfl rfl rfl];rfl
   ·exact lG (qt q x y z)
  obtain⟨k1,k2⟩:=kj L h x y z ss (.dat (shD q));have hb:dg (q::ss) h x y z=((whB q h&&in6 q x y z) || dg ss h x y z):=rfl
  have e0:cf (ak 5) bG (shL (q::ss)) [.dat L,.dat (.int h),.dat (.int x),.dat (.int y),.dat (.int z),s5]=(bG [.dat L,.dat (.int h),.dat (.int x),.dat (.int y),.dat (.int z),.dat (shD q)]).bind λr=>match r with
   |.nx ε2=>cf (ak 5) bG (shL ss) ε2 | .ct ε2=>cf (ak 5) bG (shL ss) ε2 | .bk ε2=>some (.nx ε2) | .rt v=>some (.rt v) | .ro v=>some (.ro v) | .xc c v=>some (.xc c v):=rfl
  rw[e0];unfold bG at e0 ⊢;cases ho:(whB q h&&in6 q x y z) with
  |true=>
   rw[ho] at c hb;rw[eI c];exact⟨λh=>(by rw[hb] at h;cases h),λ_=>rfl⟩
  |false=>
   rw[ho] at c hb;rw[eH c];exact⟨λh=>k1 (by rw[hb] at h;exact h),λh=>k2 (by rw[hb] at h;exact h)⟩
theorem ue(ss:List Sh)(h x y z:Int):f6 [.lst (shL ss),.int h,.int x,.int y,.int z]=some (.bl (dg ss h x y z)):=by
 refine bq rfl ?_;unfold kB;obtain⟨k1,k2⟩:=kj (.lst (shL ss)) h x y z ss .un;cases hb:dg ss h x y z with
 |false=>
  obtain⟨e5,e⟩:=k1 hb;exact(ao ((bF (ds:=shL ss) rfl).trans e)).trans rfl
 |true=>exact bB ((bF (ds:=shL ss) rfl).trans (k2 hb))
abbrev ftS:Ev->Option Bool:=bz (av leI (e2 ixD (aa 0) (eC (.int 6))) (aa 4)) (av leI (aa 4) (e2 ixD (aa 0) (eC (.int 7))))
abbrev feS:Ev->Option D:=aL fW (ae (lr (aa 0) cX (bj (eC (.int 6)))) (ae (au 1) (ae (au 2) (ae (au 3) aF))))
theorem sm(h x y z:Int):∀(ss:List Sh) (s0:Sl),∃bs:List Bool,lcD (ak 0) ftS feS (shL ss) [s0,.dat (.int x),.dat (.int y),.dat (.int z),.dat (.int h)]=some (bs.map D.bl)/\bs.any id=dg ss h x y z
 |[],_=>⟨[],rfl,rfl⟩
 |q::ss,s0=>by
  obtain⟨bs,e,hb⟩:=sm h x y z ss (.dat (shD q));have c:ftS [.dat (shD q),.dat (.int x),.dat (.int y),.dat (.int z),.dat (.int h)]=some (whB q h):=bZ (a:=decide (q.t<=h)) (b:=decide (h<=q.u)) rfl rfl;have e0:lcD (ak 0) ftS feS (shL (q::ss)) [s0,.dat (.int x),.dat (.int y),.dat (.int z),.dat (.int h)]=(ftS [.dat (shD q),.dat (.int x),.dat (.int y),.dat (.int z),.dat (.int h)]).bind λk=>if k=true then(feS [.dat (shD q),.dat (.int x),.dat (.int y),.dat (.int z),.dat (.int h)]).bind λv=>(lcD (ak 0) ftS feS (shL ss) [.dat (shD q),.dat (.int x),.dat (.int y),.dat (.int z),.dat (.int h)]).bind λr=>some (v::r) else lcD (ak 0) ftS feS (shL ss) [.dat (shD q),.dat (.int x),.dat (.int y),.dat (.int z),.dat (.int h)]:=rfl
  have hs:dg (q::ss) h x y z=((whB q h&&in6 q x y z) || dg ss h x y z):=rfl;rw[e0,c,hs];cases whB q h with
  |true=>
   refine⟨in6 q x y z::bs,?_,by rw[<-hb];rfl⟩;rw[show feS [.dat (shD q),.dat (.int x),.dat (.int y),.dat (.int z),.dat (.int h)]=some (.bl (in6 q x y z)) from rC q x y z];show(lcD (ak 0) ftS feS (shL ss) _).bind _=_;rw[e];rfl
  |false=>exact⟨bs,e,by rw[hb];rfl⟩
theorem sY:∀bs:List Bool,j0 (bs.map D.bl)=some (bs.map V.bl)
 |[]=>rfl
 |b::bs=>by show(j0 (bs.map D.bl)).bind _=_;rw[sY bs];rfl
theorem vR:∀bs:List Bool,inV (.bl true) (bs.map V.bl)=bs.any id
 |[]=>rfl
 |b::bs=>by
  show(eqV (.bl b) (.bl true) || inV (.bl true) (bs.map V.bl))=_;rw[vR bs];cases b<;>rfl
theorem nT(ss:List Sh)(hz:ss.length<1000000)(h x y z:Int):dW [.lst (shL ss),.int h,.int x,.int y,.int z]=some (.bl (dg ss h x y z)):=by
 refine bq rfl ?_;unfold iO;obtain⟨bs,e,hb⟩:=sm h x y z ss .un;refine b8 ?_;refine(bD (x:=.bl true) (y:=.lst (bs.map D.bl)) rfl (dR ?_)).trans ?_
 ·rw[iw (ds:=shL ss) rfl (by simpa using hz)];exact e
 ·show(j0 (bs.map D.bl)).bind _=_
  rw[sY,<-hb,<-vR];rfl
abbrev sk4(hs:List Hl)(cs:List Int)(ws:List Wd)(ss:List Sh):D:=.tup [.lst (hL hs),.lst (iL cs),.lst (wL ws),.lst (shL ss)]
def why(hs:List Hl)(ss:List Sh)(h:Int)(q:Stt):Str:=if q.z<gr hs q.x q.y then "hill" else if dg ss h q.x q.y q.z=true then "shut" else ""
section
variable(hs:List Hl)(cs:List Int)(ws:List Wd)(ss:List Sh)(hz:hs.length<=900)(ok:∀h∈hs,0<=h.t)(sz:ss.length<=900)(h:Int)(q:Stt)
include hz in
theorem v_:cT [sk4 hs cs ws ss,.int h,stD q]=some (.str (why hs ss h q)):=by
 refine bq rfl ?_;unfold e_;refine(ao rfl).trans ?_;refine(ao rfl).trans ?_;show aE _ _ [.dat (sk4 hs cs ws ss),.dat (.int h),.dat (stD q),.dat (.lst (hL hs)),.dat (.lst (iL cs)),.dat (.lst (wL ws)),.dat (.lst (shL ss)),.dat (.int q.x),.dat (.int q.y),.dat (.int q.z),.dat (.int q.s),.dat (.int q.p)]=_;have c1:av ltI (aa 9) (aL dM (ae (au 3) (ae (au 7) (ae (au 8) aF)))) [.dat (sk4 hs cs ws ss),.dat (.int h),.dat (stD q),.dat (.lst (hL hs)),.dat (.lst (iL cs)),.dat (.lst (wL ws)),.dat (.lst (shL ss)),.dat (.int q.x),.dat (.int q.y),.dat (.int q.z),.dat (.int q.s),.dat (.int q.p)]=some (decide (q.z<gr hs q.x q.y)):=b9 (x:=.int q.z) (y:=.int (gr hs q.x q.y)) rfl (aY rfl (pj hs (by lia) q.x q.y)) rfl;have c2:fm (aL f6 (ae (au 6) (ae (au 1) (ae (au 7) (ae (au 8) (ae (au 9) aF)))))) [.dat (sk4 hs cs ws ss),.dat (.int h),.dat (stD q),.dat (.lst (hL hs)),.dat (.lst (iL cs)),.dat (.lst (wL ws)),.dat (.lst (shL ss)),.dat (.int q.x),.dat (.int q.y),.dat (.int q.z),.dat (.int q.s),.dat (.int q.p)]=some (dg ss h q.x q.y q.z):=lG (aY rfl (ue ss h q.x q.y q.z));unfold why
 by_cases g1:q.z<gr hs q.x q.y
 ·rw[if_pos g1]
  exact bB ((bQ _ c1 g1).trans rfl)
 ·rw[if_neg g1]
  refine(ao ((bJ _ c1 g1).trans rfl)).trans ?_;cases hb:dg ss h q.x q.y q.z with
  |true=>
   rw[hb] at c2;rw[if_pos rfl];exact bB ((eI c2).trans rfl)
  |false=>
   rw[hb] at c2;rw[if_neg Qh];exact(ao ((eH c2).trans rfl)).trans rfl
include hz ok sz in
theorem sr:eW [sk4 hs cs ws ss,.int h,stD q]=some (.str (why hs ss h q)):=by
 refine bq rfl ?_;unfold gZ;show aE _ _ [.dat (sk4 hs cs ws ss),.dat (.int h),.dat (stD q)]=_;have c1:av ltI (e2 ixD (aa 2) (eC (.int 2))) (aL cI (ae (e2 ixD (aa 0) (eC (.int 0))) (ae (e2 ixD (aa 2) (eC (.int 0))) (ae (e2 ixD (aa 2) (eC (.int 1))) aF)))) [.dat (sk4 hs cs ws ss),.dat (.int h),.dat (stD q)]=some (decide (q.z<gr hs q.x q.y)):=b9 (x:=.int q.z) (y:=.int (gr hs q.x q.y)) rfl (aY rfl (x6 hs (by lia) ok q.x q.y)) rfl;have c2:fm (aL dW (ae (e2 ixD (aa 0) (eC (.int 3))) (ae (au 1) (ae (e2 ixD (aa 2) (eC (.int 0))) (ae (e2 ixD (aa 2) (eC (.int 1))) (ae (e2 ixD (aa 2) (eC (.int 2))) aF)))))) [.dat (sk4 hs cs ws ss),.dat (.int h),.dat (stD q)]=some (dg ss h q.x q.y q.z):=lG (aY rfl (nT ss (by lia) h q.x q.y q.z));unfold why
 by_cases g1:q.z<gr hs q.x q.y
 ·rw[if_pos g1]
  exact bB ((bQ _ c1 g1).trans rfl)
 ·rw[if_neg g1]
  refine(ao ((bJ _ c1 g1).trans rfl)).trans ?_;cases hb:dg ss h q.x q.y q.z with
  |true=>
   rw[hb] at c2;rw[if_pos rfl];exact bB ((eI c2).trans rfl)
  |false=>
   rw[hb] at c2;rw[if_neg Qh];exact(ao ((eH c2).trans rfl)).trans rfl
end
def wo(o:Str)(q:Stt):Str:=if o = "up"/\q.s<1 then "sacks" else if o = "down"/\q.p<1 then "puffs" else if o = "up"/\q.z=5 then "high" else if o = "down"/\q.z=0 then "low" else ""
theorem yv(o:Str)(q:Stt):cw [stD q,.str o]=some (.str (wo o q)):=by
 refine bq rfl ?_;unfold dD;refine(ao rfl).trans ?_;show aE _ _ [.dat (stD q),.dat (.str o),.dat (.int q.x),.dat (.int q.y),.dat (.int q.z),.dat (.int q.s),.dat (.int q.p)]=_;have b2:∀(P Q:Prop) [Decidable P] [Decidable Q],(decide P&&decide Q)=decide (P/\Q):=λP Q _ _=>by by_cases p:P<;>by_cases q:Q<;>simp[p,q]
 have c1:bz (av bc (aa 1) (eC (.str "up"))) (av ltI (aa 5) (eC (.int 1))) [.dat (stD q),.dat (.str o),.dat (.int q.x),.dat (.int q.y),.dat (.int q.z),.dat (.int q.s),.dat (.int q.p)]=some (decide (o = "up"/\q.s<1)):=by rw[<-b2];exact bZ rfl rfl
 have c2:bz (av bc (aa 1) (eC (.str "down"))) (av ltI (aa 6) (eC (.int 1))) [.dat (stD q),.dat (.str o),.dat (.int q.x),.dat (.int q.y),.dat (.int q.z),.dat (.int q.s),.dat (.int q.p)]=some (decide (o = "down"/\q.p<1)):=by rw[<-b2];exact bZ rfl rfl
 have c3:bz (av bc (aa 1) (eC (.str "up"))) (av bc (aa 4) (eC (.int 5))) [.dat (stD q),.dat (.str o),.dat (.int q.x),.dat (.int q.y),.dat (.int q.z),.dat (.int q.s),.dat (.int q.p)]=some (decide (o = "up"/\q.z=5)):=by rw[<-b2];exact bZ rfl rfl
 have c4:bz (av bc (aa 1) (eC (.str "down"))) (av bc (aa 4) (eC (.int 0))) [.dat (stD q),.dat (.str o),.dat (.int q.x),.dat (.int q.y),.dat (.int q.z),.dat (.int q.s),.dat (.int q.p)]=some (decide (o = "down"/\q.z=0)):=by rw[<-b2];exact bZ rfl rfl
 unfold wo
 by_cases g1:o = "up"/\q.s<1
 ·rw[if_pos g1];exact bB ((bQ _ c1 g1).trans rfl)
 ·rw[if_neg g1]
  refine(ao ((bJ _ c1 g1).trans rfl)).trans ?_
  by_cases g2:o = "down"/\q.p<1
  ·rw[if_pos g2];exact bB ((bQ _ c2 g2).trans rfl)
  ·rw[if_neg g2]
   refine(ao ((bJ _ c2 g2).trans rfl)).trans ?_
   by_cases g3:o = "up"/\q.z=5
   ·rw[if_pos g3];exact bB ((bQ _ c3 g3).trans rfl)
   ·rw[if_neg g3]
    refine(ao ((bJ _ c3 g3).trans rfl)).trans ?_
    by_cases g4:o = "down"/\q.z=0
    ·rw[if_pos g4];exact bB ((bQ _ c4 g4).trans rfl)
    ·rw[if_neg g4]
     exact(ao ((bJ _ c4 g4).trans rfl)).trans rfl
abbrev isO(o:Str):Prop:=o = "up"\/o = "level"\/o = "down"
def wv(h z:Int)(ws:List Wd):Int×Int:=match gf h z ws none with | none=>(0,0) | some b=>(b.dx,b.dy)
theorem lU(h z:Int)(ws:List Wd):jN h z ws=.tup [.int (wv h z ws).1,.int (wv h z ws).2]:=by unfold jN wv;cases gf h z ws none<;>rfl
theorem yy(ws:List Wd)(h z:Int):eB [.lst (wL ws),.int h,.int z]=some (.tup [.int (wv h z ws).1,.int (wv h z ws).2]):=by rw[<-lU];exact bq rfl (ya ws h z)
theorem yO(ws:List Wd)(hz:ws.length<100)(h z:Int):dX [.lst (wL ws),.int h,.int z]=some (.tup [.int (wv h z ws).1,.int (wv h z ws).2]):=by rw[<-lU];exact bq rfl (wZ ws hz h z)
def inC(cs:List Int)(h:Int):Bool:=inV (.int h) (cs.map V.int)
theorem qH(cs:List Int)(h:Int):inD false (.int h) (.lst (iL cs))=some (.bl (inC cs h)):=by show(j0 (iL cs)).bind _=_;rw[lj];rfl
def czP(c:Bool)(z:Int):Int:=if c=true then(if(0:Int)>z-1 then 0 else z-1) else z
def z1(o:Str)(q:Stt):Int:=if o = "up" then q.z+1 else if o = "down" then q.z-1 else q.z
def s1(o:Str)(q:Stt):Int:=if o = "up" then q.s-1 else q.s
def p1(o:Str)(q:Stt):Int:=if o = "down" then q.p-1 else q.p
def cQ(k:Sk)(h:Int)(q:Stt)(o:Str):Stt:=⟨q.x+(wv h (czP (inC k.cs h) (z1 o q)) k.ws).1,q.y+(wv h (czP (inC k.cs h) (z1 o q)) k.ws).2,czP (inC k.cs h) (z1 o q),s1 o q,p1 o q⟩
abbrev evP(k:Sk)(h:Int)(q:Stt)(o:Str)(z s p:Int)(a b:Sl):Ev:=[.dat (skD k),.dat (.int h),.dat (stD q),.dat (.str o),.dat (.lst (hL k.hs)),.dat (.lst (iL k.cs)),.dat (.lst (wL k.ws)),.dat (.lst (shL k.ss)),.dat (.int q.x),.dat (.int q.y),.dat (.int z),.dat (.int s),.dat (.int p),a,b]
theorem wV(k:Sk)(h:Int)(q:Stt)(o:Str):jC [skD k,.int h,stD q,.str o]=some (stD (cQ k h q o)):=by
 refine bq rfl ?_;unfold mL;refine(ao rfl).trans ?_;refine(ao rfl).trans ?_;show aE _ _ (evP k h q o q.z q.s q.p .un .un)=_;have c1:av bc (aa 3) (eC (.str "up")) (evP k h q o q.z q.s q.p .un .un)=some (decide (o = "up")):=rfl;have c2:av bc (aa 3) (eC (.str "down")) (evP k h q o q.z q.s q.p .un .un)=some (decide (o = "down")):=rfl;have cc:∀z s p,av (inD false) (aa 1) (aa 5) (evP k h q o z s p .un .un)=some (inC k.cs h):=λz s p=>b9 (x:=.int h) (y:=.lst (iL k.cs)) rfl rfl (qH k.cs h)
 have cool:∀z s p,sIf (av (inD false) (aa 1) (aa 5)) (a9 10 (aL jt (ae (e2 bu (aa 10) (eC (.int 1))) (ae (eC (.int 0)) aF)))) bg (evP k h q o z s p .un .un)=some (.nx (evP k h q o (czP (inC k.cs h) z) s p .un .un)):=λz s p=>by
  have:=cc z s p;unfold czP;cases hb:inC k.cs h with
  |true=>rw[hb] at this;rw[eI this,if_pos rfl];rfl
  |false=>rw[hb] at this;rw[eH this,if_neg Qh];rfl
 have fin:∀z s p,aE (sIf (av (inD false) (aa 1) (aa 5)) (a9 10 (aL jt (ae (e2 bu (aa 10) (eC (.int 1))) (ae (eC (.int 0)) aF)))) bg) (aE (gF (aL eB (ae (au 6) (ae (au 1) (ae (au 10) aF)))) (cY 2 (ax (ak 13) (ax (ak 14) bw)))) (aZ (bx (ae (e2 aJ (aa 8) (aa 13)) (ae (e2 aJ (aa 9) (aa 14)) (ae (au 10) (ae (au 11) (ae (au 12) aF)))))))) (evP k h q o z s p .un .un)=some (.rt (stD ⟨q.x+(wv h (czP (inC k.cs h) z) k.ws).1,q.y+(wv h (czP (inC k.cs h) z) k.ws).2,czP (inC k.cs h) z,s,p⟩)):=λz s p=>by
  refine(ao (cool z s p)).trans ?_;refine(ao (ε':=evP k h q o (czP (inC k.cs h) z) s p (.dat (.int (wv h (czP (inC k.cs h) z) k.ws).1)) (.dat (.int (wv h (czP (inC k.cs h) z) k.ws).2))) ?_).trans rfl;show((aL eB (ae (au 6) (ae (au 1) (ae (au 10) aF))) (evP k h q o (czP (inC k.cs h) z) s p .un .un)).bind λd=>(cY 2 (ax (ak 13) (ax (ak 14) bw)) d (evP k h q o (czP (inC k.cs h) z) s p .un .un)).map Fl.nx)=_;rw[aY (ds:=[.lst (wL k.ws),.int h,.int (czP (inC k.cs h) z)]) rfl (yy k.ws h (czP (inC k.cs h) z))];rfl
 unfold cQ z1 s1 p1
 by_cases g1:o = "up"
 ·have g2:¬o = "down":=λz=>by rw[g1] at z;exact absurd z (by decide)
  rw[if_pos g1,if_pos g1,if_neg g2];exact(ao (ε':=evP k h q o (q.z+1) (q.s-1) q.p .un .un) ((bQ _ c1 g1).trans rfl)).trans (fin _ _ _)
 ·rw[if_neg g1,if_neg g1]
  by_cases g2:o = "down"
  ·rw[if_pos g2,if_pos g2]
   exact(ao (ε':=evP k h q o (q.z-1) q.s (q.p-1) .un .un) ((bJ _ c1 g1).trans ((bQ _ c2 g2).trans rfl))).trans (fin _ _ _)
  ·rw[if_neg g2,if_neg g2]
   exact(ao (ε':=evP k h q o q.z q.s q.p .un .un) ((bJ _ c1 g1).trans ((bJ _ c2 g2).trans rfl))).trans (fin _ _ _)
def wh(k:Sk)(h:Int)(q:Stt)(o:Str):Str:=if wo o q = "" then why k.hs k.ss (h+1) (cQ k h q o) else wo o q
theorem rZ(k:Sk)(hk:k.hs.length<=900)(h:Int)(q:Stt)(o:Str):kU [skD k,.int h,stD q,.str o]=some (.tup [.str (wh k h q o),stD (cQ k h q o)]):=by
 refine bq rfl ?_;unfold n9;refine(ao (ba (d:=stD (cQ k h q o)) (aY (ds:=[skD k,.int h,stD q,.str o]) rfl (wV k h q o)))).trans ?_;refine(ao (ba (d:=.str (wo o q)) (aY (ds:=[stD q,.str o]) rfl (yv o q)))).trans ?_;have c:av bc (aa 5) (eC (.str "")) [.dat (skD k),.dat (.int h),.dat (stD q),.dat (.str o),.dat (stD (cQ k h q o)),.dat (.str (wo o q))]=some (decide (wo o q = "")):=rfl;unfold wh
 by_cases g:wo o q = ""
 ·rw[if_pos g]
  refine(ao ((bQ _ c g).trans (ba (d:=.str (why k.hs k.ss (h+1) (cQ k h q o))) (aY (ds:=[skD k,.int (h+1),stD (cQ k h q o)]) rfl ?_)))).trans rfl;exact v_ k.hs k.cs k.ws k.ss hk (h+1) (cQ k h q o)
 ·rw[if_neg g]
  exact(ao ((bJ _ c g).trans rfl)).trans rfl
abbrev Ods:List Str:=["up","level","down"]
def can(k:Sk)(h:Int)(q:Stt):List Str:=Ods.filter λo=>decide (wh k h q o = "")
def dz(o:Str):Int:=if o = "up" then 1 else if o = "level" then 0 else -1
def czL(c:Bool)(z:Int):Int:=if(c&&decide (z>0))=true then z-1 else z
def vn(k:Sk)(h:Int)(q:Stt)(o:Str):Stt:=⟨q.x+(wv h (czL (inC k.cs h) (q.z+dz o)) k.ws).1,q.y+(wv h (czL (inC k.cs h) (q.z+dz o)) k.ws).2,czL (inC k.cs h) (q.z+dz o),q.s-(if dz o>0 then dz o else 0),q.p-(if -dz o>0 then -dz o else 0)⟩
abbrev evQ(k:Sk)(h:Int)(q:Stt)(o:Str)(z:Int)(c a b:Sl):Ev:=[.dat (skD k),.dat (.int h),.dat (stD q),.dat (.str o),.dat (.int q.x),.dat (.int q.y),.dat (.int z),.dat (.int q.s),.dat (.int q.p),c,a,b]
theorem lD(k:Sk)(hw:k.ws.length<100)(h:Int)(q:Stt)(o:Str)(ho:isO o):cE [skD k,.int h,stD q,.str o]=some (stD (vn k h q o)):=by
 refine bq rfl ?_;unfold jk;refine(ao (ε':=evQ k h q o q.z .un .un .un) rfl).trans ?_
 have c9:eD3 "up" 1 "level" 0 "down" (-1) (au 3) (evQ k h q o q.z .un .un .un)=some (.int (dz o)):=by
  show(if o = "up" then some (D.int 1) else if o = "level" then some (.int 0) else if o = "down" then some (.int (-1)) else none)=_;unfold dz;rcases ho with rfl | rfl | rfl
  ·rw[if_pos rfl,if_pos rfl]
  ·rw[if_neg (by decide),if_pos rfl,if_neg (by decide),if_pos rfl]
  ·rw[if_neg (by decide),if_neg (by decide),if_pos rfl,if_neg (by decide),if_neg (by decide)]
 refine(ao (ba c9)).trans ?_;refine(ao (ε':=evQ k h q o (q.z+dz o) (.dat (.int (dz o))) .un .un) rfl).trans ?_
 have cc:bz (av (inD false) (aa 1) (e2 ixD (aa 0) (eC (.int 1)))) (av gtI (aa 6) (eC (.int 0))) (evQ k h q o (q.z+dz o) (.dat (.int (dz o))) .un .un)=some (inC k.cs h&&decide (q.z+dz o>0)):=
  bZ (b9 (x:=.int h) (y:=.lst (iL k.cs)) rfl rfl (qH k.cs h)) rfl
 refine(ao (ε':=evQ k h q o (czL (inC k.cs h) (q.z+dz o)) (.dat (.int (dz o))) .un .un) ?_).trans ?_
 ·unfold czL
  cases hb:(inC k.cs h&&decide (q.z+dz o>0)) with
  |true=>rw[hb] at cc;rw[eI cc,if_pos rfl];rfl
  |false=>rw[hb] at cc;rw[eH cc,if_neg Qh];rfl
 generalize hz:czL (inC k.cs h) (q.z+dz o)=z;refine(ao (ε':=evQ k h q o z (.dat (.int (dz o))) (.dat (.int (wv h z k.ws).1)) (.dat (.int (wv h z k.ws).2))) ?_).trans ?_
 ·show((aL dX (ae (e2 ixD (aa 0) (eC (.int 2))) (ae (au 1) (ae (au 6) aF))) (evQ k h q o z (.dat (.int (dz o))) .un .un)).bind λd=>(cY 2 (ax (ak 10) (ax (ak 11) bw)) d (evQ k h q o z (.dat (.int (dz o))) .un .un)).map Fl.nx)=_
  rw[aY (ds:=[.lst (wL k.ws),.int h,.int z]) rfl (yO k.ws hw h z)];rfl
 ·unfold vn
  rw[hz];rfl
structure StOk(q:Stt):Prop where
 z:0<=q.z
 s:0<=q.s
 p:0<=q.p
theorem yQ(q:Stt):wo "up" q=(if q.s<1 then("sacks" : Str) else if q.z=5 then("high" : Str) else("" : Str)):=by
 have n1:("up" : Str)≠"down":=by decide
 simp[wo,n1]
theorem oA(q:Stt):wo "down" q=(if q.p<1 then("puffs" : Str) else if q.z=0 then("low" : Str) else("" : Str)):=by
 have n1:("down" : Str)≠"up":=by decide
 simp[wo,n1]
theorem sO:dz "up" = 1:=if_pos rfl
theorem jH:dz "level" = 0:=(if_neg (by decide)).trans (if_pos rfl)
theorem la:dz "down" = -1:=(if_neg (by decide)).trans (if_neg (by decide))
theorem yt(q:Stt):z1 "up" q=q.z+1:=if_pos rfl
theorem rp(q:Stt):z1 "level" q=q.z:=(if_neg (by decide)).trans (if_neg (by decide))
theorem vo(q:Stt):z1 "down" q=q.z-1:=(if_neg (by decide)).trans (if_pos rfl)
theorem vK(q:Stt):s1 "up" q=q.s-1:=if_pos rfl
theorem l9(q:Stt):s1 "level" q=q.s:=if_neg (by decide)
theorem n_(q:Stt):s1 "down" q=q.s:=if_neg (by decide)
theorem vJ(q:Stt):p1 "up" q=q.p:=if_neg (by decide)
theorem mU(q:Stt):p1 "level" q=q.p:=if_neg (by decide)
theorem oX(q:Stt):p1 "down" q=q.p-1:=if_pos rfl
theorem y3(c:Bool)(z:Int)(hz:0<=z):czL c z=czP c z:=by
 unfold czL czP;cases c with
 |false=>rfl
 |true=>
  by_cases e:z>0
  ·rw[if_pos (by simp[e]),if_pos rfl,if_neg (by lia)]
  ·rw[if_neg (by simp[e]),if_pos rfl,if_pos (by lia)];lia
theorem xK{q:Stt}(hw:wo "down" q = ""):¬q.z=0:=λz=>by
 rw[oA,if_pos z] at hw;split at hw
 ·exact absurd hw (by decide)
 ·exact absurd hw (by decide)
theorem vT{o:Str}(ho:isO o){q:Stt}(hq:StOk q)(hw:wo o q = ""):0<=z1 o q/\q.z+dz o=z1 o q:=by
 have h0:=hq.z;rcases ho with rfl | rfl | rfl
 ·rw[yt,sO];lia
 ·rw[rp,jH];lia
 ·have:=xK hw
  rw[vo,la];lia
theorem nP(k:Sk)(h:Int)(q:Stt)(o:Str)(ho:isO o)(hq:StOk q)(hw:wo o q = ""):vn k h q o=cQ k h q o:=by
 obtain⟨g1,g2⟩:=vT ho hq hw
 have ss:q.s-(if dz o>0 then dz o else 0)=s1 o q:=by
  rcases ho with rfl | rfl | rfl
  ·rw[sO,vK,if_pos (by decide)]
  ·rw[jH,l9,if_neg (by decide)];lia
  ·rw[la,n_,if_neg (by decide)];lia
 have pp:q.p-(if -dz o>0 then -dz o else 0)=p1 o q:=by
  rcases ho with rfl | rfl | rfl
  ·rw[sO,vJ,if_neg (by decide)];lia
  ·rw[jH,mU,if_neg (by decide)];lia
  ·rw[la,oX,if_pos (by decide)];lia
 unfold vn cQ;rw[g2,y3 _ _ g1,ss,pp]
theorem wH(c:Bool)(z:Int)(hz:0<=z):0<=czP c z:=by
 unfold czP;split
 ·split<;>lia
 ·exact hz
theorem xY(k:Sk)(h:Int)(q:Stt)(o:Str)(ho:isO o)(hq:StOk q)(hw:wo o q = ""):StOk (cQ k h q o):=by
 have h1:=hq.s;have h2:=hq.p;refine⟨wH _ _ (vT ho hq hw).1,?_,?_⟩
 ·show 0<=s1 o q
  rcases ho with rfl | rfl | rfl
  ·rw[yQ] at hw
   rw[vK];split at hw
   ·exact absurd hw (by decide)
   ·lia
  ·rw[l9];exact h1
  ·rw[n_];exact h1
 ·show 0<=p1 o q
  rcases ho with rfl | rfl | rfl
  ·rw[vJ];exact h2
  ·rw[mU];exact h2
  ·rw[oA] at hw
   rw[oX];split at hw
   ·exact absurd hw (by decide)
   ·lia
theorem kY(k:Sk)(kk:SkW k)(h:Int)(q:Stt)(hq:StOk q)(o:Str)(ho:isO o):bK [skD k,.int h,stD q,.str o]=some (.str (wh k h q o)):=by
 refine bq rfl ?_;unfold jF;have b2:∀(P Q:Prop) [Decidable P] [Decidable Q],(decide P&&decide Q)=decide (P/\Q):=λP Q _ _=>by by_cases p:P<;>by_cases q:Q<;>simp[p,q]
 have c1:bz (av bc (aa 3) (eC (.str "up"))) (av bc (e2 ixD (aa 2) (eC (.int 3))) (eC (.int 0))) [.dat (skD k),.dat (.int h),.dat (stD q),.dat (.str o)]=some (decide (o = "up"/\q.s=0)):=by rw[<-b2];exact bZ rfl rfl
 have c2:bz (av bc (aa 3) (eC (.str "down"))) (av bc (e2 ixD (aa 2) (eC (.int 4))) (eC (.int 0))) [.dat (skD k),.dat (.int h),.dat (stD q),.dat (.str o)]=some (decide (o = "down"/\q.p=0)):=by rw[<-b2];exact bZ rfl rfl
 have c3:bz (av bc (aa 3) (eC (.str "up"))) (av bc (e2 ixD (aa 2) (eC (.int 2))) (eC (.int 5))) [.dat (skD k),.dat (.int h),.dat (stD q),.dat (.str o)]=some (decide (o = "up"/\q.z=5)):=by rw[<-b2];exact bZ rfl rfl
 have c4:bz (av bc (aa 3) (eC (.str "down"))) (av bc (e2 ixD (aa 2) (eC (.int 2))) (eC (.int 0))) [.dat (skD k),.dat (.int h),.dat (stD q),.dat (.str o)]=some (decide (o = "down"/\q.z=0)):=by rw[<-b2];exact bZ rfl rfl
 have h1:=hq.s;have h2:=hq.p;have sE:(o = "up"/\q.s<1)↔(o = "up"/\q.s=0):=⟨λ⟨a,b⟩=>⟨a,by lia⟩,λ⟨a,b⟩=>⟨a,by lia⟩⟩;have pE:(o = "down"/\q.p<1)↔(o = "down"/\q.p=0):=⟨λ⟨a,b⟩=>⟨a,by lia⟩,λ⟨a,b⟩=>⟨a,by lia⟩⟩
 have ew:wo o q=if o = "up"/\q.s=0 then("sacks" : Str) else if o = "down"/\q.p=0 then("puffs" : Str) else if o = "up"/\q.z=5 then("high" : Str) else if o = "down"/\q.z=0 then("low" : Str) else("" : Str):=by
  unfold wo;simp only[sE,pE]
 unfold wh
 by_cases g1:o = "up"/\q.s=0
 ·rw[if_pos g1] at ew
  rw[ew,if_neg (by decide)];exact bB ((bQ _ c1 g1).trans rfl)
 ·rw[if_neg g1] at ew
  refine(ao ((bJ _ c1 g1).trans rfl)).trans ?_
  by_cases g2:o = "down"/\q.p=0
  ·rw[if_pos g2] at ew
   rw[ew,if_neg (by decide)];exact bB ((bQ _ c2 g2).trans rfl)
  ·rw[if_neg g2] at ew
   refine(ao ((bJ _ c2 g2).trans rfl)).trans ?_
   by_cases g3:o = "up"/\q.z=5
   ·rw[if_pos g3] at ew
    rw[ew,if_neg (by decide)];exact bB ((bQ _ c3 g3).trans rfl)
   ·rw[if_neg g3] at ew
    refine(ao ((bJ _ c3 g3).trans rfl)).trans ?_
    by_cases g4:o = "down"/\q.z=0
    ·rw[if_pos g4] at ew
     rw[ew,if_neg (by decide)];exact bB ((bQ _ c4 g4).trans rfl)
    ·rw[if_neg g4] at ew
     refine(ao ((bJ _ c4 g4).trans rfl)).trans ?_;rw[if_pos ew];refine b8 (aY (ds:=[skD k,.int (h+1),stD (cQ k h q o)]) (aM rfl (aM rfl (aM (x:=stD (cQ k h q o)) ?_ rfl))) (sr k.hs k.cs k.ws k.ss kk.hl kk.hk kk.sl (h+1) (cQ k h q o)));rw[<-nP k h q o ho hq ew];exact aY (ds:=[skD k,.int h,stD q,.str o]) rfl (lD k (by have:=kk.wl;lia) h q o ho)
def rm(r:List Str×Stt):D:=.tup [.tup (r.1.map D.str),stD r.2]
def rL(k:Sk)(h:Int)(r:List Str×Stt)(o:Str):List Str×Stt:=(r.1++[o],cQ k h r.2 o)
def zM(k:Sk)(h:Int)(r:List Str×Stt):List (List Str×Stt):=(can k h r.2).map (rL k h r)
theorem uh{k:Sk}{h:Int}{q:Stt}{o:Str}(ho:o∈can k h q):isO o/\wo o q = "":=by
 obtain⟨h1,h2⟩:=List.mem_filter.mp ho;refine⟨by simpa using h1,?_⟩;have h3:wh k h q o = "":=by simpa using h2
 unfold wh at h3
 by_cases g:wo o q = ""
 ·exact g
 ·rw[if_neg g] at h3;exact h3
theorem um(l:List Str)(hl:l.length<=900)(o:Str):wU (.tup (l.map D.str)) (.tup [.str o])=some (.tup ((l++[o]).map D.str)):=by
 cases l with
 |nil=>rfl
 |cons x xs=>
  show(if(xs.map D.str).length+0<=1000 then some (D.tup (D.str x::xs.map D.str++[D.str o])) else none)=_;rw[if_pos (by rw[Qz];simp at hl;lia)];simp
section
variable(k:Sk)(kk:SkW k)(h:Int)(q:Stt)(m:Sl)
abbrev evF(rows:Sl)(at_:Nat)(L:List D)(a b c:Sl):Ev:=[.dat (skD k),.dat (.int h),.dat (stD q),m,rows,.dat (.int (at_:Int)),.own L,a,b,c]
include kk in
theorem rP(rows:Sl)(n:Nat)(L:List D)(hL:L.length<=900000)(r:List Str×Stt)(hr:r.1.length<=900)(hs:StOk r.2)(c:Sl):∃c',dJ (evF k h q m rows n L (.dat (.tup (r.1.map D.str))) (.dat (stD r.2)) c)=some (.nx (evF k h q m rows n (L++(zM k (h+(n:Int)) r).map rm) (.dat (.tup (r.1.map D.str))) (.dat (stD r.2)) c')):=by
 obtain⟨ε',e,c',rfl⟩:=qN (g:=ak 9) (gb:=cx) D.str (λdone ε=>∃c,ε=evF k h q m rows n (L++((done.filter λo=>decide (wh k (h+(n:Int)) r.2 o = "")).map (rL k (h+(n:Int)) r)).map rm) (.dat (.tup (r.1.map D.str))) (.dat (stD r.2)) c) Ods (λdone o rest hd ε ⟨c,he⟩=>by
  subst he;have dl:done.length<3:=by have:=congrArg List.length hd;simp at this;lia
  have ho:isO o:=by
   have:o∈Ods:=by rw[<-hd];simp
   simpa using this
  refine⟨_,evF k h q m rows n (L++(((done++[o]).filter λo=>decide (wh k (h+(n:Int)) r.2 o = "")).map (rL k (h+(n:Int)) r)).map rm) (.dat (.tup (r.1.map D.str))) (.dat (stD r.2)) (.dat (.str o)),rfl,.inl ?_,_,rfl⟩;generalize hX:L++((done.filter λo=>decide (wh k (h+(n:Int)) r.2 o = "")).map (rL k (h+(n:Int)) r)).map rm=X
  have lX:X.length<1000000:=by
   rw[<-hX,Qw,Qz,Qz];have:=List.length_filter_le (λo=>decide (wh k (h+(n:Int)) r.2 o = "")) done
   lia
  unfold cx;show sIf _ _ _ (evF k h q m rows n X (.dat (.tup (r.1.map D.str))) (.dat (stD r.2)) (.dat (.str o)))=_
  have c1:av bc (aL bK (ae (au 0) (ae (e2 aJ (aa 1) (aa 5)) (ae (au 8) (ae (au 9) aF))))) (eC (.str "")) (evF k h q m rows n X (.dat (.tup (r.1.map D.str))) (.dat (stD r.2)) (.dat (.str o)))=some (decide (wh k (h+(n:Int)) r.2 o = "")):=
   b9 (x:=.str (wh k (h+(n:Int)) r.2 o)) (y:=.str "") (aY (ds:=[skD k,.int (h+(n:Int)),stD r.2,.str o]) rfl (kY k kk (h+(n:Int)) r.2 hs o ho)) rfl rfl
  rw[List.filter_append,Jv,Jv,<-List.append_assoc,hX]
  by_cases g:wh k (h+(n:Int)) r.2 o = ""
  ·refine(bQ _ c1 g).trans ?_
   rw[List.filter_cons_of_pos (by simpa using g)]
   have gw:wo o r.2 = "":=by
    unfold wh at g
    by_cases g':wo o r.2 = ""
    ·exact g'
    ·rw[if_neg g'] at g;exact g
   have e1:bx (ae (e2 wU (aa 7) (bx (ae (au 9) aF))) (ae (aL cE (ae (au 0) (ae (e2 aJ (aa 1) (aa 5)) (ae (au 8) (ae (au 9) aF))))) aF)) (evF k h q m rows n X (.dat (.tup (r.1.map D.str))) (.dat (stD r.2)) (.dat (.str o)))=some (rm (rL k (h+(n:Int)) r o)):=by
    refine fU (aM (x:=.tup ((r.1++[o]).map D.str)) (aV (x:=.tup (r.1.map D.str)) (y:=.tup [.str o]) rfl rfl (um r.1 hr o)) (aM (x:=stD (cQ k (h+(n:Int)) r.2 o)) ?_ rfl)) (show 2<=1000 by decide);rw[<-nP k (h+(n:Int)) r.2 o ho hs gw];exact aY (ds:=[skD k,.int (h+(n:Int)),stD r.2,.str o]) rfl (lD k (by have:=kk.wl;lia) (h+(n:Int)) r.2 o ho)
   show(bx _ _).bind _=_;rw[e1];show(if X.length<1000000 then _ else _)=_;rw[if_pos lX];rfl
  ·refine(bJ _ c1 g).trans ?_
   rw[List.filter_cons_of_neg (by simpa using g)];simp only[List.filter_nil,List.map_nil,Q6]
   rfl) (evF k h q m rows n L (.dat (.tup (r.1.map D.str))) (.dat (stD r.2)) c) ⟨c,by simp⟩
 refine⟨c',?_⟩;unfold dJ;exact(bF (ds:=Ods.map D.str) rfl).trans e
end
theorem tL(k:Sk)(kk:SkW k):fw [skD k]=some (skD k):=by
 have hl:=kk.hl;have cl:=kk.cl;have wl:=kk.wl;have sl:=kk.sl;refine bq rfl ?_;unfold iP;refine b8 (fU (aM (x:=.lst (hL k.hs)) (dR ?_) (aM (x:=.lst (iL k.cs)) (dR ?_) (aM (x:=.lst (wL k.ws)) (dR ?_) (aM (x:=.lst (shL k.ss)) (dR ?_) rfl)))) (show 4<=1000 by decide))<;>rfl
end Fl
namespace Dn
open PySem PySem.Spec PyProof.Rows L2
structure Wq where
 (P:Qr)
 (w:Qu)
 (K:Qc)
 (mg:Str->Option Qb)
def FB(Z:Wq)(x:Str)(st:Stmt)(ps:List Str)(f:Addr)(fd:QY):Prop:=FA Z.K Z.mg x st ps f fd/\∀us:List Qb,us.length=ps.length->bindArgs fd ⟨us,[]⟩=pure (ps.zip us)
def FX(Z:Wq)(x:Str)(st:Stmt)(ps:List Str):Prop:=∃f fd,FB Z x st ps f fd
def OkD(Z:Wq)(x:Str)(st:Stmt)(ps:List Str)(n:Nat)(F:List D->Option D):Prop:=∃f fd,FB Z x st ps f fd/\∀base,FnOk Z.P Z.w Z.K Z.mg base CX0 n f fd ps (spF Z.K F)
section
variable{Z:Wq}{x:Str}{st:Stmt}{ps N:List Str}{k:Nat}{g:Ev->Option Fl}
theorem bdF(R:FX Z x st ps)(hb:∀(d:N.Nodup) (f:Addr) (base:Heap) (cdv:Qb) (A:QB) (outer:List Env) (s:Qd) (H:Hp) (E:XK),Room k (A.deeper (envOfC x (aI st) s.heap.objs.size f cdv))->DSs (gv CX0 Z.P Z.w Z.K Z.mg base N x (aI st) f cdv A outer s H E).nox (bA st) g)
  (S:FnScope N ps (aI st):=by exact⟨rfl,rfl,rfl,by decide +kernel,rfl,by decide +kernel,by decide +kernel⟩):OkD Z x st ps (k+1) (fnD N ps g):=
 let⟨f,fd,A⟩:=R;⟨f,fd,A,λbase=>oq A.1.fu S (hb S.nd f base)⟩
theorem yU{P:Qr}{w:Qu}{K:Qc}{mg:Str->Option Qb}{h:Heap}{f:Addr}{oc:Qb}{od an:Option Addr}{osl:Array (Option Qb)}{kV doc pm cdv ct:Qb}(X:K.In h)(G:h.Ns QD mg)
  (a:QZ K QD x=some (some (.ref f)))
  (l:K.lookup f=some ⟨oc,od,.func (Jd x x (cA st) (bA st) (aI st) .none kV doc pm an cdv ct),osl⟩)
  (c:Zn K cdv x=true) (k:Jx K (.ref f)=true)
  (hb:∀(kV doc pm:Qb) (an:Option Addr) (cdv ct:Qb) (us:List Qb),us.length=ps.length->bindArgs (Jd x x (cA st) (bA st) (aI st) .none kV doc pm an cdv ct) ⟨us,[]⟩=pure (ps.zip us)):FX ⟨P,w,K,mg⟩ x st ps:=
 ⟨f,_,zp X G a l c k hb,hb kV doc pm an cdv ct⟩
theorem xh{P:Qr}{w:Qu}{K:Qc}{mg:Str->Option Qb}{n:Nat}{F:List D->Option D}{y:Str}{fa:Addr}(H:OkD ⟨P,w,K,mg⟩ x st [y] n F)(hfa:mg x=some (.ref fa)) :
  ∃fd:QY,(∀(s:Qd) (v:Qb),BindsTo s fd ⟨[v],[]⟩ [(y,v)])/\∀base:Heap,K.In base->base.Ns QD mg->FnOk P w K mg base CX0 n fa fd [y] (spF K F):=by
 obtain⟨f,fd,⟨A,b⟩,G⟩:=H;have e:=A.mgf.symm.trans hfa;cases e;exact⟨fd,λs v=>.of_eq (b [v] rfl),λbase _ _=>G base⟩
end
theorem bU{α:Type}{p:List α->Prop}{n:Nat}(h:∀(a:α) (r:List α),r.length=n->p (a::r)):∀us:List α,us.length=n+1->p us
 |[],e=>by cases e
 |a::r,e=>h a r (Nat.succ.inj e)
theorem mW{α:Type}{p:List α->Prop}(h:p []):∀us:List α,us.length=0->p us
 |[],_=>h
 |_::_,e=>by cases e
theorem zQ{α:Type}{p:List α->Prop}(h:∀a0,p [a0]):∀us:List α,us.length=1->p us:=bU λa0=>(mW (h a0))
theorem zI{α:Type}{p:List α->Prop}(h:∀a0 a1,p [a0,a1]):∀us:List α,us.length=2->p us:=bU λa0=>bU λa1=>(mW (h a0 a1))
theorem yl{α:Type}{p:List α->Prop}(h:∀a0 a1 a2,p [a0,a1,a2]):∀us:List α,us.length=3->p us:=bU λa0=>bU λa1=>bU λa2=>(mW (h a0 a1 a2))
theorem zy{α:Type}{p:List α->Prop}(h:∀a0 a1 a2 a3,p [a0,a1,a2,a3]):∀us:List α,us.length=4->p us:=bU λa0=>bU λa1=>bU λa2=>bU λa3=>(mW (h a0 a1 a2 a3))
theorem zW{α:Type}{p:List α->Prop}(h:∀a0 a1 a2 a3 a4,p [a0,a1,a2,a3,a4]):∀us:List α,us.length=5->p us:=bU λa0=>bU λa1=>bU λa2=>bU λa3=>bU λa4=>(mW (h a0 a1 a2 a3 a4))
theorem zS{α:Type}{p:List α->Prop}(h:∀a0 a1 a2 a3 a4 a5,p [a0,a1,a2,a3,a4,a5]):∀us:List α,us.length=6->p us:=bU λa0=>bU λa1=>bU λa2=>bU λa3=>bU λa4=>bU λa5=>(mW (h a0 a1 a2 a3 a4 a5))
theorem zz{α:Type}{p:List α->Prop}(h:∀a0 a1 a2 a3 a4 a5 a6,p [a0,a1,a2,a3,a4,a5,a6]):∀us:List α,us.length=7->p us:=bU λa0=>bU λa1=>bU λa2=>bU λa3=>bU λa4=>bU λa5=>bU λa6=>(mW (h a0 a1 a2 a3 a4 a5 a6))
theorem zD{α:Type}{p:List α->Prop}(h:∀a0 a1 a2 a3 a4 a5 a6 a7,p [a0,a1,a2,a3,a4,a5,a6,a7]):∀us:List α,us.length=8->p us:=bU λa0=>bU λa1=>bU λa2=>bU λa3=>bU λa4=>bU λa5=>bU λa6=>bU λa7=>(mW (h a0 a1 a2 a3 a4 a5 a6 a7))
section
variable{X:Cx}{pos p:Pos}{x:Str}{st:Stmt}{ps:List Str}{k j:Nat}{e:Expr}{es:List Expr}{g:Ev->Option (List D)}{Fn:List D->Option D}{FO:List D->Option (List D)}
theorem cF(H:OkD ⟨X.prog,X.w,X.K,X.mg⟩ x st ps j Fn)(hr:Room k X.A)(ha:DA X (e::es) g)(hj:j<=k:=by decide)(hg:Gl X x:=by rfl)(hdb:(x==("__debug__" : Str))=false:=by decide)(he:Qj (e::es) X.env=(false,eval e X.env)::Qj es X.env:=by rfl)(hpl:(Ja pos (Qj es X.env)).any (·.1)=false:=by rfl) :
  DE X (.Call (.Name x p) (e::es) [] pos) (aL Fn g):=let⟨_,_,A,F⟩:=H;lR A.1 (F _) hr hj ha hg hdb he hpl
end
end Dn
namespace Ex
open PySem PySem.Spec PyProof.Rows L2
theorem Moves.un2{fs fs':List Addr}{n:Nat}{H H':Hp}{h0 h h':Heap}(u:Un fs [] H H' h0 h)(m:Moves fs' n H' h h')(hn:h0.objs.size<=n)(h1:∀b∈fs,b∈fs')(h2:∀b∈fs',b<h0.objs.size->b∈fs):Un fs [] H H' h0 h' where
 keep:=λb o e q z y=>m.keep b o (u.keep b o e q z y) (λk=>z (h2 b k (Qk e))) (.inl (Qv (Qk e) hn))
 slot:=λb o e q z y=>let⟨_,e1⟩:=u.slot b o e q z y;let⟨sl,e2⟩:=m.slot b _ e1 (h1 b z);⟨sl,e2⟩
 free:=u.free
 there:=λb o e y=>let⟨o1,e1⟩:=u.there b o e y;m.there b o1 e1
 tups:=u.tups
 frzs:=u.frzs
 tbls:=u.tbls
def CX1(P:Qr)(w:Qu):CXT:=λouter H s E e s'=>∃a cls dx H',e=.ref a/\s'.os=s.os/\AllBare s'.gens/\Un (frs outer) [] H H' s.heap s'.heap/\HOk P w H' s'.heap/\XAt s.heap.objs.size H' s'.heap a cls dx/\E cls (some dx) H'
def y_(X:Cx)(E:XK):Prop:=∀(pins:List (Addr×Obj)) (σ:L2.St) (H:Hp) (s:Qd) (a:Addr) (cls:Qb) (dx:Addr),Inv X pins σ H s->XAt X.s₀.heap.objs.size H s.heap a cls dx->E cls (some dx) H->X.xe (.ref a) s
theorem tX{P:Qr}{w:Qu}{K:Qc}{mg:Str->Option Qb}{base:Heap}{N:List Str}{qual:Str}{scope:Scope}{f:Addr}{cd:Qb}{A:QB}{outer:List Env}{s:Qd}{H:Hp}{E:XK} :
  y_ (gv (CX1 P w) P w K mg base N qual scope f cd A outer s H E) E:=by
 intro pins σ H' s' a cls dx I x q;refine rn (n:=s.heap.objs.size) (H:=H') I.ok.frames I.stack rfl (λb hb=>I.hok.fresh hb) x λh' m y=>?_;refine⟨a,cls,dx,H',rfl,I.os,I.bare,m.un2 I.base (Qn _) (λb z=>?_) (λb z l=>?_),m.hok I.stkFree I.hok,y,q⟩
 ·exact Qy _ z
 ·rcases Ql.mp (show b∈s.heap.objs.size::frs outer from z) with e | e
  ·exact absurd (e▸l) (QR _)
  ·exact e
theorem zV{X:Cx}{E:XK}(h:y_ X E):lL (CX1 X.prog X.w) X E:=by
 rintro pins σ H s e s' I ⟨a,cls,dx,H',rfl,os,bare,un,hok,x,q⟩;exact h pins σ H' s' a cls dx (I.call' os un hok bare λb z=>absurd z (by simp)) (x.le I.sz) q
theorem lP{P:Qr}{w:Qu}{K:Qc}{mg:Str->Option Qb}{base:Heap}{N:List Str}{qual:Str}{scope:Scope}{f:Addr}{cd:Qb}{A:QB}{outer:List Env}{s:Qd}{H:Hp}{E:XK}{CX:CXT} :
  PassesOwn (Qi P w) (gv CX P w K mg base N qual scope f cd A outer s H E).A (gv CX P w K mg base N qual scope f cd A outer s H E).env (gv CX P w K mg base N qual scope f cd A outer s H E).xe:=PassesOwn.leaving
structure XC(K:Qc)(C:Addr)(cd:ClassData):Prop where
 cls:PySem.W.clsIn K C=some cd
 sa:Qx K (.ref C) "__setattr__" = some (some (.builtin "object.__setattr__"))
 obj:PySem.W.mroIn K C (.type "object")=some true
 refuse:∀self,refuseLoop self "__setattr__" cd.mro=pure ()
 dict:cd.hasDict=true
section
variable{prog:Qr}{w:Qu}{A:QB}{E:Qb->Qd->Prop}{s:Qd}{K:Qc}{C x:Addr}{cd:ClassData}{mA:Str->Option Qb}{name:Str}{v:Qb}
theorem pk(I:s.heap.Inst x C mA):∃ox od,PySem.W.InstAt s.heap x ox C od:=by
 obtain⟨o,e,c,nc,d⟩:=I
 have no:JJ o=true:=by
  unfold JJ;split
  ·rename_i z;exact absurd z (nc _)
  ·rfl
 rcases d with⟨d,_⟩ | ⟨dx,d,_,⟨od,_,_,eo,_⟩⟩
 ·exact⟨o,none,e,c,no,by rw[d];trivial⟩
 ·exact⟨o,some od,e,c,no,by rw[d];exact eo⟩
theorem zg{M:Model}{A:QB}{E:Qb->Qd->Prop}{s:Qd}{α:Type}{d:Data}{r:α}{k:Sem α}{Q:α->Qd->Prop}(nc:∀c,d≠.cls c)(h:Qg M A k Q E s):Qg M A (match d with | .cls _=>pure r | _=>k) Q E s:=by
 cases d<;>first | exact h | exact absurd rfl (nc _)
theorem sN{dx:Addr}{m:Str->Option Qb}{ns:List Str}{tk:Tok}{Q:Fin->Qd->Prop}(hn:s.heap.Ns1 dx m)(hw:PySem.Within m ns)(hz:ns.length+1<=Qt)
  (hq:∀h' t,h'.Ns1 dx (λy=>if y=name then some v else m y)->JD dx s.heap h'->Q (.done (.ret .none)) { s with heap:=h',toks:=t }):Qg (Qi prog w) A (Builtin.ObjectAttr.storeInDict dx (.str name tk) name v) Q E s:=by
 unfold Builtin.ObjectAttr.storeInDict;refine Qa (Qf (Qa (wpAny_nsSet1 hn λh' n2 sb=>?_)));obtain⟨o,es,ep,e1,e2,e3⟩:=n2.count (PySem.Within.cons name v hw);refine Qa (wpAny_lookBehind e1 ?_ (Qf (hq h' _ n2 sb)));rw[e2];exact pastItsLine_dict (QK e3 (Nat.le_succ_of_le hz))
theorem zr{ns:List Str}{Q:Unit->Qd->Prop}(X:K.In s.heap)(c:XC K C cd)(hf:Qx K (.ref C) name=some none)(I:s.heap.Inst x C mA)(hw:PySem.Within mA ns)(hz:ns.length+1<=Qt)
  (hq:∀h' t,h'.Inst x C (λy=>if y=name then some v else mA y)->(∀b o,b≠x->(∀o0 dx,s.heap.get? x=some o0->o0.dict=some dx->b≠dx)->s.heap.get? b=some o->h'.get? b=some o)->
   (∀o0,s.heap.get? x=some o0->∃d,h'.get? x=some { o0 with dict:=some d }/\(o0.dict=none->s.heap.objs.size<=d)/\∀d0,o0.dict=some d0->d=d0)->Q () { s with heap:=h',toks:=t }) :
  Qg (Qi prog w) A (setAttr (.ref x) name v) Q E s:=by
 obtain⟨ox,od,J⟩:=pk I;refine PySem.W.set_plain X J c.sa ?_;have W0:=PySem.F.store_object;have inst:PySem.W.Looks (Qi prog w) s.heap (isInstance (.ref x) (.type "object")) true:=J.type.andThen (PySem.W.looks_mroIn X c.obj);refine codeAny_call_builtin W0.slot.plain W0.entry (@PySem.W.check_slot (Qi prog w) _ _ { s with toks:=s.toks+1 } "object.__setattr__" "object" "__setattr__" (.ref x) [.str name s.toks,v] [] _ W0.kind W0.split inst (W0.args (.ref x) (.str name s.toks) v) ?_);rw[PySem.W.osa_eq,refuse_eq];refine Qa (Qa (Zj (s:={ s with toks:=s.toks+1 }) J.type (Qa (Zj (s:={ s with toks:=s.toks+1 }) ((PySem.W.looks_clsIn X c.cls).andThen .now) ?_))));rw[c.refuse];refine Qf (Qa (Zj (s:={ s with toks:=s.toks+1 }) J.type (Qa (Zj (s:={ s with toks:=s.toks+1 }) (PySem.W.looks_findIn X hf) (Qa (Qf ?_))))));obtain⟨o,ho,hc,nc,hd⟩:=I;obtain⟨oc,odi,oda,osl⟩:=o;dsimp only at hc nc hd;subst hc;have cl:=PySem.W.looks_clsIn (M:=Qi prog w) X c.cls;refine Qa (Qf (Qa (Qa (wpAny_loadPart (s:={ s with toks:=s.toks+1 }) ho (Qa (Zj (s:={ s with toks:=s.toks+1 }) cl ?_))))));rw[c.dict];rcases hd with⟨hd,hm⟩ | ⟨dx,hd,ne,hn⟩
 ·subst hd
  rw[if_neg (by decide)];dsimp only;rw[if_neg (by simp[typeHasDict])];have xs:x≠s.heap.objs.size:=QC (Qk ho);refine zg nc (Qa (wpAny_alloc ?_));have ho1:(s.heap.push { cls:=.type "dict",data:=.dict #[] }).get? x=some { cls:=.ref C,data:=oda,slots:=osl }:=Qe _ ho;refine Qa (wpAny_update ho1 (Qf (a:=some s.heap.objs.size) ?_))
  have selfx:=QV (λo=>{ cls:=o.cls,dict:=some s.heap.objs.size,data:=o.data,slots:=o.slots }) ho1 (by
   have z:=(Heap.get?_some_iff.mp ho).2
   cases oda<;>first | rfl | exact z)
  have n0:((s.heap.push { cls:=.type "dict",data:=.dict #[] }).update x λo=>{ cls:=o.cls,dict:=some s.heap.objs.size,data:=o.data,slots:=o.slots }).Ns s.heap.objs.size (λ_=>none):=
   ⟨_,#[],_,(Qp _ _ xs).trans (Qo _ rfl),rfl,λe he=>absurd he (by simp),λ_=>rfl⟩
  refine sN (ns:=[]) (s:=⟨(s.heap.push { cls:=.type "dict",data:=.dict #[] }).update x λo=>{ cls:=o.cls,dict:=some s.heap.objs.size,data:=o.data,slots:=o.slots },s.gens,s.drawn,s.toks+1,s.os⟩) (Heap.Ns1.of_empty n0) PySem.Within.nil (by decide) λh' t n2 sb=>?_;have hx':=(sb.2 x xs).trans selfx;refine hq h' t ⟨_,hx',rfl,nc,.inr ⟨_,rfl,Ne.symm xs,?_⟩⟩ (λb o nb _ e=>?_) λo0 e0=>?_
  ·obtain⟨o',es,ep,e1,e2,e3,e4,e5⟩:=n2
   refine⟨o',es,ep,e1,e2,e3,e4,λy=>(e5 y).trans ?_⟩
   by_cases z:y=name
   ·simp[z]
   ·simp[z,hm]
  ·exact(sb.2 b (QC (Qk e))).trans ((Qp _ _ (Ne.symm nb)).trans (Qe _ e))
  ·obtain rfl:=Option.some.inj (ho.symm.trans e0)
   exact⟨_,hx',λ_=>Qn _,λd0 z=>(by cases z)⟩
 ·subst hd
  refine Qf (a:=(some dx)) (?_);refine sN (s:={ s with toks:=s.toks+1 }) hn hw hz λh' t n2 sb=>?_;refine hq h' t ⟨_,(sb.2 x (Ne.symm ne)).trans ho,rfl,nc,.inr ⟨dx,rfl,ne,n2⟩⟩ (λb o _ nb e=>(sb.2 b (nb _ dx ho rfl)).trans e) λo0 e0=>?_;obtain rfl:=Option.some.inj (ho.symm.trans e0);exact⟨dx,(sb.2 x (Ne.symm ne)).trans ho,λz=>(by cases z),λd0 z=>(Option.some.inj z)⟩
end
structure XG(K:Qc)(C:Addr):Prop where
 ga:Qx K (.ref C) "__getattribute__" = some (some (.builtin "BaseException.__getattribute__"))
 no:Qx K (.ref C) "__getattr__" = some none
 exc:PySem.W.mroIn K C (.type "BaseException")=some true
 dict:PySem.W.hasDictIn K C=true
theorem yW:builtinKind "BaseException.__getattribute__" = some .slot:=by decide +kernel
theorem yV:splitId "BaseException.__getattribute__" = some ("BaseException","__getattribute__"):=by decide +kernel
theorem yS:(Value.builtin "BaseException.__getattribute__" == Value.builtin "object.__getattribute__")=false:=by decide +kernel
section
variable{prog:Qr}{w:Qu}{A:QB}{E:Qb->Qd->Prop}{s:Qd}{K:Qc}{C x dx:Addr}{o:Obj}{mA:Str->Option Qb}{name:Str}{v:Qb}{b:Bool}
theorem zJ{Q:Qb->Qd->Prop}(X:K.In s.heap)(c:XG K C)(hf:Qx K (.ref C) name=some none)(ho:s.heap.get? x=some o)(hc:o.cls=.ref C)(nc:JJ o=true)(hd:o.dict=some dx)
  (hn:s.heap.Ns1 dx mA) (hv:mA name=some v) (hh:PySem.W.handedIn v=true) (hq:Q v { s with toks:=s.toks+1 }):Qg (Qi prog w) A (getAttr (.ref x) name b) Q E s:=by
 obtain⟨od,e,hl⟩:=o_ hn;have J:PySem.W.InstAt s.heap x o C (some od):=⟨ho,hc,nc,by rw[hd];exact e⟩;have found:=PySem.W.looks_find (M:=Qi prog w) X J (PySem.W.findObj_own c.dict hf rfl (by rw[hl,hv]));have inst:PySem.W.Looks (Qi prog w) s.heap (isInstance (.ref x) (.type "BaseException")) true:=J.type.andThen (PySem.W.looks_mroIn X c.exc);have FG:=PySem.F.attr_ValueError.ga;obtain⟨h,g,d,t,os⟩:=s;unfold getAttr;refine Qa (wpAny_mkText (?_));unfold getAttrBy;refine Q8 (Qa (J.type.at (Qa ((PySem.W.looks_findIn X c.ga).at ?_))));dsimp only;rw[yS,Bool.and_false,if_neg (by decide)];unfold getAttrByItsOwn;refine Qa ((PySem.W.looks_hook (mc:=.ref C) (r:=none) X c.no).at (Qa (wpAny_attempt (Q8 ?_))));unfold callGetattribute;rw[if_neg (by cases b<;>exact(by decide))];unfold boundAndCalled;rw[FG.bind];refine Qa (Qf (wpAny_call (codeAny_call_builtin FG.plain PySem.F.entry_bexc_ga (@PySem.W.check_slot (Qi prog w) _ _ ⟨h,g,d,t+1,os⟩ "BaseException.__getattribute__" "BaseException" "__getattribute__" (.ref x) [.str name t] [] _ yW yV inst (PySem.F.args_bexc_ga (.ref x) (.str name t)) ?_))));refine Qa (Qf (Qa (Qf (Qa (J.type.at (Qa (found.at (Qf ?_))))))));dsimp only;rw[PySem.W.handedOut_of hh];exact Qf hq
end
structure XO(K:Qc)(C:Addr)(bm:List Qb):Prop where
 ob:∃nm q N bs hdct sn sub ab col dd k0 k1 k2 k3 k5,K.lookup C=some (excClassObj nm q C N bs bm hdct sn sub ab col dd k0 k1 k2 k3 k5 "ValueError.__new__")
 val:bm.contains (.type "ValueError")=true
 exc:bm.contains (.type "BaseException")=true
 noA:bm.contains (.type "AttributeError")=false
 noN:bm.contains (.type "NameError")=false
section
variable{prog:Qr}{w:Qu}{A:QB}{E:Qb->Qd->Prop}{h:Heap}{g:Array GenState}{d:Drawn}{t:Nat}{os:OsState}{R:Result->Qd->Prop}
variable{nm q:Str}{C N:Addr}{bs bm:List Qb}{hdct:Bool}{sn:List Str}{sub:List Qb}{ab:Bool}{col:Option Bool}{dd:Option Addr}{k0 k1 k2 k3 k5:Option Qb}{rest:List Qb}
abbrev rR(C:Addr)(t:Addr):Obj:={ cls:=.ref C,data:=.fields #[.ref t,.none,.none,.none,.bool false,.none] }
abbrev tT(vs:List Qb):Obj:={ cls:=.type "tuple",data:=.seq vs.toArray }
theorem ma{b:Bool}{T:String}(e:bm.contains (.type T)=b):(QF C::bm).contains (.type T)=b:=by rw[List.contains_cons,e];rfl
theorem nC{M:Model}{Q:Unit->Qd->Prop}(hC:h.get? C=some (excClassObj nm q C N bs bm hdct sn sub ab col dd k0 k1 k2 k3 k5 "ValueError.__new__"))(hv:bm.contains (.type "ValueError")=true)(hq:Q () ⟨h,g,d,t,os⟩) :
  Qg M A (checkBuiltinCall "ValueError.__new__" ⟨.ref C::rest,[]⟩) Q E ⟨h,g,d,t,os⟩:=by
 have F:=PySem.F.excBase_ValueError;have c1:=ma (C:=C) hv;have c2:=F.noStar;simp only[F.newKind,checkBuiltinCall,F.newSplit,F.newRow]
 repeat first
  |refine Jt hC ?_
  |(refine Zu hC ?_
    rw[c1])
  |refine wpAny_staticBase_exc hC ?_
  |refine wpAny_madeBy_exc hC ?_
  |simp only[bne_self_eq_false,Bool.false_eq_true,if_false]
  |wp_step
 exact hq
theorem Ad(hC:h.get? C=some (excClassObj nm q C N bs bm hdct sn sub ab col dd k0 k1 k2 k3 k5 "ValueError.__new__"))(hv:bm.contains (.type "ValueError")=true)(ha:bm.contains (.type "AttributeError")=false)
  (hn:bm.contains (.type "NameError")=false) (hz:rest.length<=Qt) (hq:R (.ok (.ret (.ref (h.objs.size+1)))) ⟨(h.push (tT rest)).push (rR C h.objs.size),g,d,t,os⟩) :
  J1 (Qi prog w) A (.builtin "ValueError.__new__" ⟨.ref C::rest,[]⟩) R ⟨h,g,d,t,os⟩:=by
 have F:=PySem.F.excBase_ValueError;have c0:=F.ends;have c1:=ma (C:=C) hv;have c2:=ma (C:=C) ha;have c3:=ma (C:=C) hn;refine codeAny_builtinAt F.entry (?_)
 delta Builtin.«BaseException.__new__»
 refine PySem.wpAt_bind ?_;show PySem.wpAt _ _ _ (stack>>=_) _ _ _;refine PySem.wpAt_bind (PySem.wpAt_stack λp below=>PySem.wpAt_of_wpAny ?_)
 wp_walk
 refine PySem.wpAt_of_wpAny ?_;rw[F.owner]
 repeat first
  |with_reducible refine wpAny_madeHere_exc F.canon hC ?_
  |with_reducible refine Jt hC ?_
  |(with_reducible refine Zu hC ?_
    first | rw[c1] | rw[c2] | rw[c3])
  |wp_step
 show R _ _;rw[QP];exact hq
theorem zk(h:Heap)(C:Addr)(rest:List Qb):Heap.MadeExcOf h ((h.push (tT rest)).push (rR C h.objs.size)) (h.objs.size+1) (.ref C) rest where
 keeps:=λb o e=>Qe _ (Qe _ e)
 new:=Heap.get?_none_of_le (Nat.le_succ _)
 there:=⟨h.objs.size,Heap.get?_push_at (by rw[QP]) rfl,Heap.get?_none_of_le (Qn _),Qe _ (Qo _ rfl)⟩
theorem yk{K:Qc}{fI:Addr}{Q:Qb->Qd->Prop}(X:K.In h)(c:XO K C bm)(hi:Qx K (.ref C) "__init__" = some (some (.ref fI)))(hf:PySem.W.typeIn K (.ref fI)=some (.type "function"))(hz:rest.length<=Qt)
  (hq:∀h' e,h.objs.size<=e->Heap.MadeExcOf h h' e (.ref C) rest->Qg (Qi prog w) (A.under (.builtin "type.__call__" ⟨.ref C::rest,[]⟩)) (call (.ref fI) (.ref e::rest)) (λr s'=>r=.none/\Q (.ref e) s') E ⟨h',g,d,t,os⟩):Qg (Qi prog w) A (call (.ref C) rest) Q E ⟨h,g,d,t,os⟩:=by
 obtain⟨⟨nm,q,N,bs,hdct,sn,sub,ab,col,dd,k0,k1,k2,k3,k5,lk⟩,hv,_,ha,hn⟩:=c;have hC:=X _ _ lk;have F:=PySem.F.excBase_ValueError;have l1:=tc_lookup;have l2:=tc_bind (.ref C);have ty:(⟨h,g,d,t,os⟩:Qd).TypeIs (.ref C) "type":=⟨_,hC,rfl⟩;refine wpAny_call (codeAny_of_tree (?_));show Qg _ _ (callAny (QF C) _) _ _ _
 repeat any_goals first
  |assumption
  |with_reducible refine Jt hC ?_
  |wp_step
 refine⟨rfl,codeAny_call_builtin_at (Code.quiet_builtin _ (by decide +kernel)) entry_typeCall (wpAny_check_type_call_sub hC ?_)⟩
 repeat first
  |with_reducible refine Jt hC ?_
  |with_reducible refine wpAny_madeBy_exc hC ?_
  |wp_step
 refine codeAny_call_builtin_code (Code.quiet_builtin _ F.quiet) (nC hC hv (Ad hC hv ha hn hz ?_));have made:=zk h C rest;have hC1:=made.keeps _ _ hC;have X1:K.In ((h.push (tT rest)).push (rR C h.objs.size)):=X.keeps made.keeps;have at1:((h.push (tT rest)).push (rR C h.objs.size)).get? (h.objs.size+1)=some (rR C h.objs.size):=Heap.get?_push_at (by rw[QP]) rfl;have cc:(QF C::bm).contains (.ref C)=true:=by simp
 show Qg _ _ _ _ _ _;unfold isInstance
 repeat first
  |with_reducible refine Jt at1 ?_
  |wp_step
 show Qg _ _ (isSubtype (.ref C) (.ref C)) _ _ _;refine Zu hC1 ?_;rw[cc]
 repeat first
  |with_reducible refine Jt at1 ?_
  |wp_step
 show Qg _ _ (typeLookup (QF C) _) _ _ _;refine(PySem.W.looks_findIn X1 hi).at ?_;refine Q8 (Qa ((PySem.W.bind_fn X1 _ hf).at ?_));refine Qa (Q0 (hq _ _ (Nat.le_succ _) made) (λr s' z=>?_) λ_ _ z=>z);obtain⟨rfl,z⟩:=z
 wp_walk
 exact z
end
section
variable{prog:Qr}{w:Qu}{A:QB}{E:Qb->Qd->Prop}{s:Qd}{env:Env}{K:Qc}{C:Addr}{bm:List Qb}
theorem xp{M:Model}{x:Sem Qb}{Q:Flow->Qd->Prop}(c:XO K C bm)(hh:A.handled=none)
  (h:Qg M A x (λv s1=>∃e o vs,v=.ref e/\K.In s1.heap/\s1.heap.get? e=some o/\o.cls=.ref C/\o.data=.fields vs/\vs[1]?=some .none/\E (.ref e) s1) E s):Qg M A (raiseStmt env (some x) none) Q E s:=by
 obtain⟨⟨nm,q,N,bs,hdct,sn,sub,ab,col,dd,k0,k1,k2,k3,k5,lk⟩,_,hx,_,_⟩:=c;have cb:=ma (C:=C) hx;unfold raiseStmt;refine Qa (thn h λv s1 h1=>?_);obtain⟨e,o,vs,rfl,X,he,hc,hdt,h1,hE⟩:=h1;have hC:=X _ _ lk;obtain⟨hp,g,d,tk,os⟩:=s1;obtain⟨oc,od,oda,osl⟩:=o;dsimp only at hc hdt;subst hc hdt
 repeat first
  |with_reducible refine Jt he ?_
  |with_reducible refine Jt hC ?_
  |(with_reducible refine Zu hC ?_
    rw[cb])
  |wp_step
 rw[h1];refine Qf ?_;rw[if_neg (by decide)];exact Qf (wpAny_raiseNew_none hh hE)
theorem m_{e:Expr}{pos:Pos}{Q:Flow->Qd->Prop}(c:XO K C bm)(hh:A.handled=none)
  (h:Qg (Qi prog w) A (eval e env) (λv s1=>∃a o vs,v=.ref a/\K.In s1.heap/\s1.heap.get? a=some o/\o.cls=.ref C/\o.data=.fields vs/\vs[1]?=some .none/\E (.ref a) s1) E s) :
  Qg (Qi prog w) A (exec (.Raise (some e) none pos) env) Q E s:=by
 rw[arm_exec_Raise];refine Qa (JT (xp c hh ?_));exact Qa (thn h λv s1 h1=>Qa (JT (Qf h1)))
end
def EH(e C t:Addr)(od:Option Addr):HO:=.ext λh=>h.get? e=some { cls:=.ref C,dict:=od,data:=.fields #[.ref t,.none,.none,.none,.bool false,.none] }
def DH(dx:Addr)(fs:List (Str×V)):HO:=.ext λh=>∃mA,h.Ns1 dx mA/\(∀f,f7 (fs.lookup f) (mA f))/\PySem.Within mA (fs.map (·.1))
theorem EH.ok{P:Qr}{w:Qu}{H:Hp}{h:Heap}{e C t:Addr}{od:Option Addr}(x:h.get? e=some { cls:=.ref C,dict:=od,data:=.fields #[.ref t,.none,.none,.none,.bool false,.none] }):bO P w H h e (EH e C t od):=⟨x,⟨_,x⟩,λ_ _ p k=>k _ p⟩
theorem DH.ok{P:Qr}{w:Qu}{H:Hp}{h:Heap}{dx:Addr}{fs:List (Str×V)}{mA:Str->Option Qb}(n:h.Ns1 dx mA)(r:∀f,f7 (fs.lookup f) (mA f))(z:PySem.Within mA (fs.map (·.1))):bO P w H h dx (DH dx fs):=by
 refine⟨⟨mA,n,r,z⟩,?_,λh1 h2 p k=>?_⟩
 ·obtain⟨o,_,_,e,_⟩:=n;exact⟨o,e⟩
 ·obtain⟨m,n1,r1,z1⟩:=p;exact⟨m,n1.at k,r1,z1⟩
def Pur(X:Cx)(v:Expr)(σ:L2.St)(y:V):Prop:=∀(pins:List (Addr×Obj)) (s:Qd) (H:Hp) (Q:Qb->Qd->Prop),Inv X pins σ H s->(∀u s',Inv X pins σ H s'->aW y u->Q u s')->Qg (Qi X.prog X.w) X.A (eval v X.env) Q X.xe s
theorem jj{X:Cx}{σ:L2.St}{y:V}{i:Nat}{x:Str}{pos:Pos}(hσ:σ[i]?=some (some y))(hN:X.N[i]?=some x:=by rfl)(hv:Vis X.env.scope x:=by first | exact Jj rfl | exact Q3 (Jj rfl) | exact Q3 (Q3 rfl))
  (hd:(x==("__debug__" : Str))=false:=by decide) (hcd:(x==("__classdict__" : Str))=false:=by decide):Pur X (.Name x pos) σ y:=by
 intro pins s H Q I hq;refine thn (ik hN hv hd hcd pins s σ H (λv H1=>v=y/\H1=H) I ?_) λu s1 ⟨v,H1,I1,r,ev,eh⟩=>?_
 ·exact⟨y,hσ,rfl,rfl⟩
 ·subst ev eh
  exact hq u s1 I1 r
section
variable{X:Cx}{pins:List (Addr×Obj)}{σ:L2.St}{H:Hp}{s:Qd}{e C t dx:Addr}{cd:ClassData}{fs:List (Str×V)}{name:Str}{y:V}{i:Nat}
theorem ml{mA:Str->Option Qb}{u:Qb}(r:∀f,f7 (fs.lookup f) (mA f))(ry:aW y u)(f:Str):f7 (((name,y)::fs).lookup f) (if f=name then some u else mA f):=by
 by_cases z:f=name
 ·subst z
  rw[List.lookup_cons_self,if_pos rfl];exact ry
 ·have hb:(f==name)=false:=beq_eq_false_iff_ne.mpr z
  rw[if_neg z];simp only[List.lookup,hb];exact r f
theorem qk{u:Qb}{Q:Unit->Qd->Prop}(I:Inv X pins σ (upd H e (EH e C t none)) s)(c:XC X.K C cd)(hf:Qx X.K (.ref C) name=some none)(hn:H e=none)(ry:aW y u)
  (hq:∀s' dx,H dx=none->dx≠e->Inv X pins σ (upd (upd H e (EH e C t (some dx))) dx (DH dx [(name,y)])) s'->Q () s'):Qg (Qi X.prog X.w) X.A (setAttr (.ref e) name u) Q X.xe s:=by
 have x0:s.heap.get? e=some { cls:=.ref C,dict:=none,data:=.fields #[.ref t,.none,.none,.none,.bool false,.none] }:=(I.hok e _ ay).1;refine zr (mA:=λ_=>none) (ns:=[]) I.kIn c hf ⟨_,x0,rfl,(λ_ z=>nomatch z),.inl ⟨rfl,λ_=>rfl⟩⟩ PySem.Within.nil (by decide) λh' tk J kp at1=>?_;obtain⟨d,x1,fr,_⟩:=at1 _ x0;have fr:=fr rfl;have nd:(upd H e (EH e C t none)) d=none:=I.hok.fresh fr;have de:d≠e:=λz=>by rw[z,ay] at nd;cases nd
 have Hd:H d=none:=by rw[aA de] at nd;exact nd
 have n1:h'.Ns1 d (λf=>if f=name then some u else none):=by
  obtain⟨o,eo,_,_,z | ⟨d2,ed,_,n⟩⟩:=J
  ·obtain rfl:=Option.some.inj (x1.symm.trans eo)
   cases z.1
  ·obtain rfl:=Option.some.inj (x1.symm.trans eo)
   cases ed;exact n
 have keep:∀b o,b≠e->s.heap.get? b=some o->h'.get? b=some o:=λb o ne q=>kp b o ne (λo0 dx e0 ed=>by obtain rfl:=Option.some.inj (x0.symm.trans e0);cases ed) q;refine hq { s with heap:=h',toks:=tk } d Hd de (I.un (h':=h') (t':=tk) ⟨λb o q z _ _=>?_,λb o q z _ _=>?_,λb o q z _=>?_,λb o q _=>?_,λb xs q=>?_,λb o v q=>?_,λb ps q=>?_⟩ λb o q=>?_)
 ·exact keep b o (λk=>by rw[k,ay] at z;cases z) q
 ·exact⟨o.slots,keep b o (λk=>by rw[k,ay] at z;cases z) q⟩
 ·have be:b≠e:=λk=>by rw[k,ay] at z;cases z
  have bd:b≠d:=λk=>absurd (Qk q) (Nat.not_lt.mpr (k▸fr));rw[aA bd,aA be];rw[aA be] at z;exact z
 ·by_cases k:b=e
  ·subst k;exact⟨_,x1⟩
  ·exact⟨o,keep b o k q⟩
 ·have be:b≠e:=λk=>by rw[k,ay] at q;cases q
  rw[aA be] at q;rw[aA (aG q Hd),aA be];exact q
 ·have be:b≠e:=λk=>by rw[k,ay] at q;cases q
  rw[aA be] at q;rw[aA (aG q Hd),aA be];exact q
 ·have be:b≠e:=λk=>by rw[k,ay] at q;cases q
  rw[aA be] at q;exact⟨#[],by rw[aA (aG q Hd),aA be,q];simp⟩
 ·by_cases k:b=d
  ·subst k
   rw[ay] at q;cases q;refine DH.ok n1 (ml (mA:=λ_=>none) (λf=>trivial) ry) ?_;exact PySem.Within.cons name u PySem.Within.nil
  ·rw[aA k] at q
   by_cases k2:b=e
   ·subst k2
    rw[ay] at q;cases q;exact EH.ok x1
   ·rw[aA k2] at q
    have q0:upd H e (EH e C t none) b=some o:=by rw[aA k2];exact q
    refine(I.hok b o q0).stay (λc' v hc z=>keep c' v ?_ z) (λc' z=>?_) λc' xs z=>?_
    ·rcases hc with z | z
     ·rw[z];exact k2
     ·exact λk=>by rw[k,ay] at z;cases z
    ·have ce:c'≠e:=λk=>by rw[k,ay] at z;cases z
     rw[aA ce] at z;rw[aA (aG z Hd),aA ce];exact z
    ·have ce:c'≠e:=λk=>by rw[k,ay] at z;cases z
     rw[aA ce] at z;rw[aA (aG z Hd),aA ce];exact z
theorem sD{u:Qb}{Q:Unit->Qd->Prop}(I:Inv X pins σ (upd (upd H e (EH e C t (some dx))) dx (DH dx fs)) s)(c:XC X.K C cd)(hf:Qx X.K (.ref C) name=some none)(de:dx≠e)(hl:fs.length<1000)(ry:aW y u)
  (hq:∀s',Inv X pins σ (upd (upd H e (EH e C t (some dx))) dx (DH dx ((name,y)::fs))) s'->Q () s'):Qg (Qi X.prog X.w) X.A (setAttr (.ref e) name u) Q X.xe s:=by
 have x0:s.heap.get? e=some { cls:=.ref C,dict:=some dx,data:=.fields #[.ref t,.none,.none,.none,.bool false,.none] }:=(I.hok e (EH e C t (some dx)) (by rw[aA (Ne.symm de),ay])).1;obtain⟨⟨mA,n0,r0,w0⟩,_,_⟩:=I.hok dx (DH dx fs) ay;refine zr (mA:=mA) I.kIn c hf ⟨_,x0,rfl,(λ_ z=>nomatch z),.inr ⟨dx,rfl,de,n0⟩⟩ w0 (by rw[Qz];exact QK hl (by decide)) λh' tk J kp at1=>?_;obtain⟨d,x1,_,dd⟩:=at1 _ x0;obtain rfl:=dd dx rfl
 have n1:h'.Ns1 d (λf=>if f=name then some u else mA f):=by
  obtain⟨o,eo,_,_,z | ⟨d2,ed,_,n⟩⟩:=J
  ·obtain rfl:=Option.some.inj (x1.symm.trans eo)
   cases z.1
  ·obtain rfl:=Option.some.inj (x1.symm.trans eo)
   cases ed;exact n
 have keep:∀b o,b≠d->s.heap.get? b=some o->h'.get? b=some o:=λb o ne q=>by
  by_cases k:b=e
  ·subst k
   obtain rfl:=Option.some.inj (x0.symm.trans q);exact x1
  ·exact kp b o k (λo0 d2 e0 ed=>by obtain rfl:=Option.some.inj (x0.symm.trans e0);cases ed;exact ne) q
 have eq:upd (upd (upd H e (EH e C t (some d))) d (DH d fs)) d (DH d ((name,y)::fs))=upd (upd H e (EH e C t (some d))) d (DH d ((name,y)::fs)):=tV;refine hq { s with heap:=h',toks:=tk } ?_;rw[<-eq];refine I.write (x:=d) (e:=d) (o:=DH d ((name,y)::fs)) (t':=tk) (by rw[ay];trivial) (.inl rfl) keep ?_ (DH.ok n1 (ml r0 ry) ?_)
 ·obtain⟨o,_,_,k,_⟩:=n1;exact⟨o,k⟩
 ·exact PySem.Within.cons name u w0
end
section
variable{X:Cx}{σ:L2.St}{pos:Pos}
theorem mB{x:Str}{j:Nat}:Pur X (.Constant (.str x) j pos) σ (.str x):=λpins s H Q I hq=>
 Calls.Constant_str (hq _ _ (I.tok _) ⟨_,rfl⟩)
theorem ri{v:Expr}{i:Int}(h:Pur X v σ (.int i))(hd:i.natAbs.log2<1920):Pur X (.FormattedValue v (-1) none pos) σ (.str (toString i:String)):=λpins s H Q I hq=>by
 refine FormattedValue_plain (h pins s H _ I λu s1 I1 r=>?_);obtain⟨t,rfl⟩:=(show ∃t,u=Value.int i t from r);exact formatField_int_small hd (hq _ _ (I1.tok _) ⟨_,rfl⟩)
theorem qX{v:Expr}{x:Str}(h:Pur X v σ (.str x))(hz:x.length<=Qt):Pur X (.FormattedValue v (-1) none pos) σ (.str x):=λpins s H Q I hq=>by
 refine FormattedValue_plain (h pins s H _ I λu s1 I1 r=>?_);obtain⟨t,rfl⟩:=(show ∃t,u=Value.str x t from r);exact formatField_str (λt' tk=>hq _ _ (I1.tok _) ⟨_,rfl⟩) hz
theorem y8{es:List Expr}{xs:List Str}(h:Paired (λe x=>Pur X e σ (.str x)) es xs):∀{out:Str} {pins:List (Addr×Obj)} {s:Qd} {H:Hp} {Q:Qb->Qd->Prop},Inv X pins σ H s->out.length+(xs.map (·.length)).sum<=Qt->
  (∀u s',Inv X pins σ H s'->aW (.str (xs.foldl (· ++ ·) out)) u->Q u s')->Qg (Qi X.prog X.w) X.A (joinParts out (evalEach es X.env)) Q X.xe s:=by
 induction h with
 |nil=>
  intro out pins s H Q I hz hq;exact joinParts_nil (hq _ _ (I.tok _) ⟨_,rfl⟩) (by simpa using hz)
 |@cons e x es xs h _ ih=>
  intro out pins s H Q I hz hq;rw[QN,List.sum_cons] at hz;show Qg _ _ (joinParts out (eval e X.env::evalEach es X.env)) _ _ _;refine joinParts_cons (h pins s H _ I λu s1 I1 r=>?_);obtain⟨t,rfl⟩:=(show ∃t,u=Value.str x t from r);refine⟨by rw[strLen_append];omega,ih I1 (by rw[strLen_append];omega) hq⟩
theorem qT{e1 e2:Expr}{es:List Expr}{xs:List Str}(h:Paired (λe x=>Pur X e σ (.str x)) (e1::e2::es) xs)(hz:(xs.map (·.length)).sum<=Qt):Pur X (.JoinedStr (e1::e2::es) pos) σ (.str (xs.foldl (· ++ ·) Str.empty)):=λpins s H Q I hq=>
 JoinedStr_many (y8 h I (by show 0+_<=_;omega) hq)
end
section
variable{X:Cx}{pins:List (Addr×Obj)}{σ:L2.St}{H:Hp}{s:Qd}{e C t dx:Addr}{cd:ClassData}{fs:List (Str×V)}{name:Str}{y:V}{o value:Expr}{pos pos':Pos}
theorem qw{Q:Flow->Qd->Prop}(I:Inv X pins σ (upd H e (EH e C t none)) s)(c:XC X.K C cd)(hf:Qx X.K (.ref C) name=some none)(hn:H e=none)(hv:Pur X value σ y)(ho:Pur X o σ (.ref e))
  (hq:∀s' dx,H dx=none->dx≠e->Inv X pins σ (upd (upd H e (EH e C t (some dx))) dx (DH dx [(name,y)])) s'->Q .next s') (hs:Ju value (some (.Attribute o name pos')) pos.line X.env=pure false:=by rfl) :
  Qg (Qi X.prog X.w) X.A (exec (.Assign [.Attribute o name pos'] value pos) X.env) Q X.xe s:=by
 refine plainObj_wpAny_Assign_Attribute (hv pins s _ _ I λu s1 I1 ru=>ho pins s1 _ _ I1 λv s2 I2 rv=>?_) hs;obtain rfl:v=QF e:=rv;exact qk I2 c hf hn ru hq
theorem oE{Q:Flow->Qd->Prop}(I:Inv X pins σ (upd (upd H e (EH e C t (some dx))) dx (DH dx fs)) s)(c:XC X.K C cd)(hf:Qx X.K (.ref C) name=some none)(de:dx≠e)(hl:fs.length<1000)(hv:Pur X value σ y)(ho:Pur X o σ (.ref e))
  (hq:∀s',Inv X pins σ (upd (upd H e (EH e C t (some dx))) dx (DH dx ((name,y)::fs))) s'->Q .next s') (hs:Ju value (some (.Attribute o name pos')) pos.line X.env=pure false:=by rfl) :
  Qg (Qi X.prog X.w) X.A (exec (.Assign [.Attribute o name pos'] value pos) X.env) Q X.xe s:=by
 refine plainObj_wpAny_Assign_Attribute (hv pins s _ _ I λu s1 I1 ru=>ho pins s1 _ _ I1 λv s2 I2 rv=>?_) hs;obtain rfl:v=QF e:=rv;exact sD I2 c hf de hl ru hq
def tW(X:Cx)(st:List Stmt):TS:=λD σ H=>∀pins s,Inv X pins σ H s->Qg (Qi X.prog X.w) X.A (execs st X.env) (SP X pins D) X.xe s
theorem zb{st:List Stmt}:PSs X st (tW X st):=λpins s _ _ _ I h=>h pins s I
def tW1(X:Cx)(st:Stmt):TS:=λD σ H=>∀pins s,Inv X pins σ H s->Qg (Qi X.prog X.w) X.A (exec st X.env) (SP X pins D) X.xe s
theorem yH{st:Stmt}:PS X st (tW1 X st):=λpins s _ _ _ I h=>h pins s I
end
def spI(C:Addr)(f:List V->Option (List (Str×V))):Sp:=λvs H Q _=>∃e t H0 args fs,vs=.ref e::args/\H=upd H0 e (EH e C t none)/\H0 e=none/\f args=some fs/\∀dx,H0 dx=none->dx≠e->Q .non (upd (upd H0 e (EH e C t (some dx))) dx (DH dx fs))
theorem wR{X:Cx}{pins:List (Addr×Obj)}{σ:L2.St}{H:Hp}{s:Qd}{e C t dx:Addr}{fs:List (Str×V)}(I:Inv X pins σ (upd (upd H e (EH e C t (some dx))) dx (DH dx fs)) s)(he:H e=none)(hd:H dx=none)(de:dx≠e):Inv X pins σ (upd H dx (.xd fs)) s:=by
 have big:∀b,b≠e->b≠dx->(upd (upd H e (EH e C t (some dx))) dx (DH dx fs)) b=H b:=λb h1 h2=>by rw[aA h2,aA h1]
 have far:∀{b:Addr} {o:HO},(upd (upd H e (EH e C t (some dx))) dx (DH dx fs)) b=some o->(∀φ,o≠.ext φ)->b≠e/\b≠dx:=λ{b o} q n=>⟨λk=>by
   rw[k,aA (Ne.symm de),ay] at q;exact n _ (Option.some.inj q).symm,λk=>by
   rw[k,ay] at q
   exact n _ (Option.some.inj q).symm⟩
 refine I.un (h':=s.heap) (t':=s.toks) ⟨λb o q _ _ _=>q,λb o q _ _ _=>⟨o.slots,q⟩,λb o q z _=>?_,λb o q _=>⟨o,q⟩,λb xs q=>?_,λb o v q=>?_,λb ps q=>?_⟩ λb o q=>?_
 ·have k2:b≠dx:=λk=>by rw[k,ay] at z;cases z
  rw[aA k2] at z ⊢
  by_cases k1:b=e
  ·rw[k1];exact he
  ·rw[aA k1] at z;exact z
 ·obtain⟨k1,k2⟩:=far q (λφ z=>by cases z)
  rw[big b k1 k2] at q;rw[aA k2];exact q
 ·obtain⟨k1,k2⟩:=far q (λφ z=>by cases z)
  rw[big b k1 k2] at q;rw[aA k2];exact q
 ·obtain⟨k1,k2⟩:=far q (λφ z=>by cases z)
  rw[big b k1 k2] at q;exact⟨#[],by rw[aA k2,q];simp⟩
 ·by_cases k2:b=dx
  ·subst k2
   rw[ay] at q;cases q;obtain⟨⟨mA,n0,r0,_⟩,_,_⟩:=I.hok b (DH b fs) ay;exact⟨mA,n0,r0⟩
  ·rw[aA k2] at q
   have k1:b≠e:=λk=>by rw[k,he] at q;cases q
   have q0:=(big b k1 k2).trans q;refine(I.hok b o q0).stay (λc v _ z=>z) (λc z=>?_) λc xs z=>?_
   ·obtain⟨j1,j2⟩:=far z (λφ z=>by cases z)
    rw[big c j1 j2] at z;rw[aA j2];exact z
   ·obtain⟨j1,j2⟩:=far z (λφ z=>by cases z)
    rw[big c j1 j2] at z;rw[aA j2];exact z
theorem uy{X:Cx}{pins:List (Addr×Obj)}{σ:L2.St}{H:Hp}{s:Qd}{C fI:Addr}{bm:List Qb}{fd:QY}{ps:List Str}{k:Nat}{f:List V->Option (List (Str×V))}{us:List Qb}{vs:List V}{fs:List (Str×V)}{Q:Qb->Qd->Prop}
  (c:XO X.K C bm) (hi:Qx X.K (.ref C) "__init__" = some (some (.ref fI))) (ht:PySem.W.typeIn X.K (.ref fI)=some (.type "function")) (F:FnOk X.prog X.w X.K X.mg X.base CX0 k fI fd ps (spI C f)) (hr:Room (k+1) X.A) (hb:gP X.K fd ps [])
  (I:Inv X pins σ H s) (r:aX vs us) (hf:f vs=some fs) (hz:us.length<=Qt)
  (hq:∀s' a dx,H dx=none->Inv X pins σ (upd H dx (.xd fs)) s'->XN s.heap.objs.size (upd H dx (.xd fs)) s'.heap a (.ref C) dx->Q (.ref a) s'):Qg (Qi X.prog X.w) X.A (call (.ref C) us) Q X.xe s:=by
 obtain⟨hh,g,dw,tk,os⟩:=s;refine yk I.kIn c hi ht hz λh' e fr m=>?_;obtain⟨t,e0,_,_⟩:=m.there;have He:H e=none:=I.hok.fresh fr;have I1:Inv X pins σ (upd H e (EH e C t none)) ⟨h',g,dw,tk,os⟩:=I.laid (a:=e) (o:=EH e C t none) (h':=h') (t':=tk) m.keeps fr (EH.ok e0);have r2:aX (V.ref e::vs) (QF e::us):=.cons rfl r;have sp:spI C f (V.ref e::vs) (upd H e (EH e C t none)) (λv H2=>v=.non/\∃dx,H dx=none/\dx≠e/\H2=upd (upd H e (EH e C t (some dx))) dx (DH dx fs)) E0:=⟨e,t,H,vs,fs,rfl,rfl,He,hf,λdx h1 h2=>⟨rfl,dx,h1,h2,rfl⟩⟩
 have hl:(QF e::us++[]).length=ps.length:=by
  rw[Q6,<-r2.length];exact F.len _ _ _ _ sp
 refine wpAny_call (codeAny_mono (F.run _ X.stack _ _ ⟨QF e::us,[]⟩ (QF e::us) _ _ E0 (hr.make C us []) (I1.env0.make C us []) ?_ r2 sp) λr s' z=>?_)
 ·have:=hb ⟨h',g,dw,tk,os⟩ (QF e::us) I1.kIn hl
  rw[Q6] at this;exact this
 ·cases r with
  |error e=>exact Q1 z
  |ok fl=>
   cases fl with
   |ret u=>
    obtain⟨v,H',I3,rv,ev,dx,h1,h2,h3⟩:=I1.after z;subst ev h3;obtain rfl:u=QT:=rv;refine⟨rfl,hq s' e dx h1 (wR I3 He h1 h2) ⟨fr,?_,_,_,(I3.hok e (EH e C t (some dx)) (by rw[aA (Ne.symm h2),ay])).1,rfl,rfl,rfl,rfl⟩⟩;rw[aA (Ne.symm h2)];exact He
   |next=>exact Q1 z
   |brk=>exact Q1 z
   |cont=>exact Q1 z
def Mk2(X:Cx)(a:Addr):Cx:={ X with A:=X.A.mark (some (.ref a)),calm:=false,xe:=λ_ _=>False }
section
variable{X:Cx}{pins:List (Addr×Obj)}{σ:L2.St}{H:Hp}{s:Qd}{a:Addr}
theorem oZ(I:Inv X pins σ H s):Inv (Mk2 X a) pins σ H s:=
 ⟨⟨I.ok.mod,I.ok.kind,I.ok.glob,I.ok.blt,I.ok.above,I.ok.inj,I.ok.has,I.ok.cab,(λz=>by cases z),I.ok.frames,I.ok.stk,I.ok.exf,I.ok.bs,I.ok.bsz,I.ok.noex,I.ok.exfs,I.ok.funs,I.ok.frf⟩,I.os,I.bare,I.base,I.loc,I.cell,I.free,I.freeC,I.pin,I.hok,I.len⟩
theorem rY(ok:X.Ok)(I:Inv (Mk2 X a) pins σ H s):Inv X pins σ H s:=⟨ok,I.os,I.bare,I.base,I.loc,I.cell,I.free,I.freeC,I.pin,I.hok,I.len⟩
theorem zG{M:Model}{A:QB}{E:Qb->Qd->Prop}{n:Str}{i:Nat}{pos:Pos}{Q:Unit->Qd->Prop}(I:Inv X pins σ H s)(hl:X.env.kindOf n=some .local)(hN:X.N.Nodup)(hi:X.N[i]?=some n)
  (hq:∀s',Inv X pins (σ.set i none) H s'->Q () s'):Qg M A (do bindName X.env n .none;unbindBehindTheSuite X.env n pos) Q E s:=by
 obtain⟨m,hn,hm⟩:=id I.loc;refine wpAny_nameGoes_keeps hl hn (by rw[I.ok.kind];rfl) λh' v n2 sb=>hq _ ?_;have old:∀{b o},X.s₀.heap.get? b=some o->h'.get? b=s.heap.get? b:=λ{b o} e=>sb.2 b (QC (Qv (Qk e) I.ok.above));obtain⟨oL,_,_,hL,_⟩:=id hn;refine⟨I.ok,I.os,I.bare,⟨λb o e q z y=>(old e).trans (I.base.keep b o e q z y),λb o e q z y=>?_,I.base.free,λb o e y=>?_,I.base.tups,I.base.frzs,I.base.tbls⟩,⟨_,n2,λj y w e1 e2 e3=>?_⟩,λy c e=>?_,I.free,I.freeC,λp hp=>?_,λb o e=>?_,by rw[Jk];exact I.len⟩
 ·obtain⟨sl,k⟩:=I.base.slot b o e q z y
  exact⟨sl,(old e).trans k⟩
 ·obtain⟨o',k⟩:=I.base.there b o e y
  exact⟨o',(old e).trans k⟩
 ·have ji:j≠i:=λz=>by
   subst z;have hz:j<σ.length:=by rw[I.len];exact(Qs.mp e1).1
   rw[Zk hz] at e2;cases e2
  rw[List.getElem?_set_ne (Ne.symm ji)] at e2;obtain⟨u,r,q⟩:=hm j y w e1 e2 e3;refine⟨u,r,?_⟩;have yn:y≠n:=λz=>ji (jn hN e1 (z▸hi));rcases q with⟨k,e⟩ | ⟨k,c,e,z⟩
  ·exact .inl ⟨k,by show(if y=n then v else m y)=some u;rw[if_neg yn];exact e⟩
  ·exact .inr ⟨k,c,e,z.sameBut sb (I.cne y c e)⟩
 ·obtain⟨w,z⟩:=I.cell y c e
  exact⟨w,z.sameBut sb (I.cne y c e)⟩
 ·obtain⟨e,q,ne,nf,d⟩:=I.pin p hp
  exact⟨(sb.2 p.1 ne).trans e,q,ne,nf,d⟩
 ·refine(I.hok b o e).stay (λc v hc q=>(sb.2 c ?_).trans q) (λ_ q=>q) λ_ _ q=>q
  rintro rfl;rcases hc with z | z
  ·rw[<-z,I.free] at e;cases e
  ·rw[I.free] at z;cases z
theorem wW{s0 s1:Qd}{H0:Hp}{C dx:Addr}{bm:List Qb}{c n:Str}{i:Nat}{pc hpos:Pos}{b0:Stmt}{suite:List Stmt}{R:L2.St->Hp->Prop}{Q:Flow->Qd->Prop}(I0:Inv X pins σ H0 s0)(hst:X.stack=X.env::X.outer)(hfr:X.env.frame=some X.env.locals)
  (hos:s1.os=s0.os) (hba:AllBare s1.gens) (un:Un (frs X.stack) [] H0 H s0.heap s1.heap) (hok:HOk X.prog X.w H s1.heap) (x:XAt s0.heap.objs.size H s1.heap a (.ref C) dx) (k:XO X.K C bm) (hg:Gl X c) (hm:X.mg c=some (.ref C)) (hdb:(c==("__debug__" : Str))=false)
  (hl:X.env.kindOf n=some .local) (hN:X.N.Nodup) (hi:X.N[i]?=some n)
  (hsuite:∀oe s3,oe.cls=.ref C->oe.dict=some dx->JJ oe=true->Inv (Mk2 X a) ((a,oe)::pins) (σ.set i (some (.ref a))) H s3->
   Qg (Qi X.prog X.w) (Mk2 X a).A (execs (b0::suite) X.env) (λf s4=>f=.next/\∃σ4 H4,Inv (Mk2 X a) ((a,oe)::pins) σ4 H4 s4/\R σ4 H4) (λ_ _=>False) s3)
  (hQ:∀σ4 H4 s5,R σ4 H4->Inv X pins (σ4.set i none) H4 s5->Q .next s5) :
  Qg (Qi X.prog X.w) X.A (noteFrame (.ref a) X.env) (λ_ s2=>Qg (Qi X.prog X.w) X.A (setFlight (.ref a) none) (λ_ s3=>Qg (Qi X.prog X.w) X.A (handleBy (.ref a) X.env [.ExceptHandler (some (.Name c pc)) (some n) (b0::suite) hpos]) Q X.xe s3) X.xe s2) X.xe s1:=by
 have I1:Inv X pins σ H s1:=I0.call' hos un hok hba λb z=>absurd z (by simp);have fr:X.A.frames=some (X.env::X.outer):=I1.ok.frames.trans (congrArg some hst);have ff:s1.heap.FunFrames X.base (X.env::X.outer):=hst▸I1.stack;have free:∀b∈frs (X.env::X.outer),H b=none:=hst▸I1.stkFree;have hH:∀b,s1.heap.objs.size<=b->H b=none:=λb z=>I1.hok.fresh z;refine oV (n:=s0.heap.objs.size) (H:=H) fr ff hfr hH x λh2 m2 x2=>?_;refine iA (s:={ s1 with heap:=h2 }) (base:=X.base) (l:=X.env::X.outer) (kW m2 _ (λ_ z=>z) ff) x2 λh3 m3 x3=>?_;have m23:=m2.trans m3
 have to:∀{h':Heap},Moves (frs (X.env::X.outer)) s0.heap.objs.size H s1.heap h'->∀t,Inv X pins σ H ⟨h',s1.gens,s1.drawn,t,s1.os⟩:=λ{h'} m t=>
  I0.call' (s':=⟨h',s1.gens,s1.drawn,t,s1.os⟩) hos (Moves.un un (hst▸m) (Qn _)) (m.hok free hok) hba λb z=>absurd z (by simp)
 have nb:(QF a)≠byPass:=λz=>by cases z
 refine wpAny_handleBy_cons (codeAny_handlers_test ?_) nb;obtain⟨nm,q,N,bs,hdct,sn,sub,ab,col,dd,k0,k1,k2,k3,k5,lk⟩:=k.ob;have J3:=to m23 s1.toks;have hC:=J3.kIn _ _ lk;refine gM (X:=Mk2 X a) (oZ J3) hg hm ?_ hdb;obtain⟨g3,u3,oe3,vs3,T3,oT3,ts3,ea3,ec3,ed3,r3⟩:=id x3;refine wpAny_excMatches_sub_self hC ea3 ec3 k.exc ?_;refine codeAny_handlers_suite_as (?_);refine iA (s:=⟨h3,s1.gens,s1.drawn,s1.toks,s1.os⟩) (base:=X.base) (l:=X.env::X.outer) (kW m23 _ (λ_ z=>z) ff) x3 λh4 m4 x4=>?_;have J4:=to (m23.trans m4) s1.toks;obtain⟨g4,u4,oe,vs,T,oT,ts,ea,ec,ed,edat,r4⟩:=id x4;have nc:JJ oe=true:=by unfold JJ;rw[edat]
 have P4:Inv X ((a,oe)::pins) σ H ⟨h4,s1.gens,s1.drawn,s1.toks,s1.os⟩:=J4.pins_of λp hp=>by
  rcases Ql.mp hp with e | e
  ·subst e
   refine⟨ea,u4,λz=>?_,I0.nofs g4,λv z=>?_⟩
   ·have z:a=X.env.locals:=z
    exact absurd (Qv I0.lt g4) (by rw[z];exact QR _)
   ·rw[edat] at z;cases z
  ·exact J4.pin p (Qm _ e)
 refine cz (X:=Mk2 X a) (oZ P4) hN hi (.inl hl) (v:=.ref a) rfl (λs5 I5=>?_) (.inr hl);refine Q0 (hsuite oe s5 ec ed nc I5) (λf s6 z=>?_) λ_ _ z=>z.elim;obtain⟨rfl,σ4,H4,I6,rr⟩:=z;have I7:Inv X ((a,oe)::pins) σ4 H4 s6:=rY I0.ok I6;refine zG (I7.pins_of λp hp=>I7.pin p (Qm _ (Qy _ hp))) hl hN hi λs8 I8=>hQ σ4 H4 s8 rr I8
end
end Ex
namespace Dn
open PySem PySem.Spec PyProof.Rows L2
abbrev Out:=D ⊕ (Str×List (Str×D))
def spX(K:Qc)(mg:Str->Option Qb)(F:List D->Option Out):Sp:=λvs H Q E=>∃G ds r,aO G H/\DenL K G vs ds/\F ds=some r/\(∀d,r=.inl d->∀v G' H',Grow G H G' H'->Den K G' v d->Q v H')/\
 ∀c fs,r=.inr (c,fs)->∀cls dx G' H',Grow G H G' H'->mg c=some cls->XD K G' dx fs->E cls (some dx) H'
def fnX(N ps:List Str)(g:Ev->Option Fl):List D->Option Out:=λds=>if ds.length=ps.length then(match g (dZ N ds) with | some (.rt d)=>some (.inl d) | some (.nx _)=>some (.inl .non) | some (.ro rs)=>some (.inl (.lst rs)) | some (.xc c fs)=>some (.inr (c,fs)) | _=>none) else none
theorem rT{P:Qr}{w:Qu}{K:Qc}{mg:Str->Option Qb}{base:Heap}{x qual:Str}{st:Stmt}{f:Addr}{fd:QY}{N ps:List Str}{k:Nat}{g:Ev->Option Fl}(Fu:Fun K x qual st f fd)(S:FnScope N ps (aI st))
  (hb:∀(cdv:Qb) (A:QB) (outer:List Env) (s:Qd) (H:Hp) (E:XK),Room k (A.deeper (envOfC qual (aI st) s.heap.objs.size f cdv))->DSs (gv (Ex.CX1 P w) P w K mg base N qual (aI st) f cdv A outer s H E) (bA st) g) :
  FnOk P w K mg base (Ex.CX1 P w) (k+1) f fd ps (spX K mg (fnX N ps g)):=by
 obtain⟨oc,od,kV,doc,pm,an,cdv,ct,osl,rfl,lk,hcd⟩:=Fu.ex;refine vH lk hcd S (λvs H Q E h=>?_) λA outer s H vs Q E hr h=>?_
 ·obtain⟨G,ds,r,gh,hd,e,_⟩:=h
  rw[hd.length];unfold fnX at e;split at e
  ·assumption
  ·cases e
 ·obtain⟨G,ds,r,gh,hd,e,q1,q2⟩:=h
  obtain⟨t,h1,h2⟩:=hb cdv A outer s H E hr;refine⟨t,h1,?_⟩;unfold fnX at e;split at e
  ·split at e
   ·rename_i d e1
    cases e;exact h2 H G G H _ _ _ _ (cD gh hd) e1 λv G' H' g hd=>q1 _ rfl v G' H' g hd
   ·rename_i ε e1
    cases e;exact h2 H G G H _ _ _ _ (cD gh hd) e1 λσ G' H' S'=>q1 _ rfl _ G' H' S'.g .non
   ·rename_i rs e1
    cases e;exact h2 H G G H _ _ _ _ (cD gh hd) e1 λa xs G' H' g n1 n2 h3 d3=>q1 _ rfl _ _ H' (g.seal n1 n2 h3) (nY n2 d3)
   ·rename_i c fs e1
    cases e;exact h2 H G G H _ _ _ _ (cD gh hd) e1 λpins σ G' H' s' a dx cls I g' x m d=>Ex.tX pins σ H' s' a cls dx I x (q2 c fs rfl cls dx G' H' g' m d)
   ·cases e
  ·cases e
def OkX(Z:Wq)(x:Str)(st:Stmt)(ps:List Str)(n:Nat)(F:List D->Option Out):Prop:=∃f fd,FB Z x st ps f fd/\∀base,FnOk Z.P Z.w Z.K Z.mg base (Ex.CX1 Z.P Z.w) n f fd ps (spX Z.K Z.mg F)
theorem bdX{Z:Wq}{x:Str}{st:Stmt}{ps N:List Str}{k:Nat}{g:Ev->Option Fl}(R:FX Z x st ps) (hb:∀(d:N.Nodup) (f:Addr) (base:Heap) (cdv:Qb) (A:QB) (outer:List Env) (s:Qd) (H:Hp) (E:XK),Room k (A.deeper (envOfC x (aI st) s.heap.objs.size f cdv))->
   DSs (gv (Ex.CX1 Z.P Z.w) Z.P Z.w Z.K Z.mg base N x (aI st) f cdv A outer s H E) (bA st) g)
  (S:FnScope N ps (aI st):=by exact⟨rfl,rfl,rfl,by decide +kernel,rfl,by decide +kernel,by decide +kernel⟩):OkX Z x st ps (k+1) (fnX N ps g):=
 let⟨f,fd,A⟩:=R;⟨f,fd,A,λbase=>rT A.1.fu S (hb S.nd f base)⟩
def OkC(Z:Wq)(c:Str)(n:Nat)(C:Addr)(fD:List D->Option (List (Str×D))):Prop:=∃fI fd ps bm f,Z.mg c=some (.ref C)/\Jx Z.K (.ref C)=true/\Ex.XO Z.K C bm/\Qx Z.K (.ref C) "__init__" = some (some (.ref fI))/\
 PySem.W.typeIn Z.K (.ref fI)=some (.type "function")/\gP Z.K fd ps []/\(∀base,FnOk Z.P Z.w Z.K Z.mg base CX0 n fI fd ps (Ex.spI C f))/\
 ∀G vs ds fs',DenL Z.K G vs ds->fD ds=some fs'->∃fs,f vs=some fs/\vs.length<=1000/\∀k d,(k,d)∈fs'->∃v,fs.lookup k=some v/\Den Z.K G v d
section
variable{X:Cx}{pos:Pos}
def nh(c:Str)(fD:List D->Option (List (Str×D)))(g:Ev->Option (List D)):Ev->Option Fl:=λε=>(g ε).bind λds=>(fD ds).map λfs=>Fl.xc c fs
theorem qS{c:Str}{j k:Nat}{C:Addr}{fD:List D->Option (List (Str×D))}{e:Expr}{es:List Expr}{g:Ev->Option (List D)}{p cpos:Pos}(Hc:OkC ⟨X.prog,X.w,X.K,X.mg⟩ c j C fD)(hr:Room k X.A)(hcalm:X.calm=true)(ha:DA X (e::es) g)(hj:j+1<=k:=by decide)(hg:Gl X c:=by rfl)
  (hdb:(c==("__debug__" : Str))=false:=by decide) (he:Qj (e::es) X.env=(false,eval e X.env)::Qj es X.env:=by rfl) (hpl:(Ja cpos (Qj es X.env)).any (·.1)=false:=by rfl) :
  DS X (.Raise (some (.Call (.Name c p) (e::es) [] cpos)) none pos) (nh c fD g):=by
 obtain⟨fI,fd,ps,bm,f,hm,hk,xo,hi,ht,hb,hF,rel⟩:=Hc;obtain⟨t,a1,a2⟩:=ha;refine⟨_,Ex.yH,λHe Ge G H σ ε r W S ef P pins s I=>?_⟩;obtain⟨ds,e1,ef⟩:=ar ef;obtain⟨fs',e2,rfl⟩:=a_ ef;refine Ex.m_ xo (I.ok.hd hcalm) ?_;refine JM (gM I hg hm ?_ hdb);refine PySem.W.callWith_K (h₀:=X.base) I.ok.mod.kin hk (thn (a1 cpos pins s σ H (λvs H1=>∃G1,Grow G H G1 H1/\DenL X.K G1 vs ds) I (a2 He G H σ ε ds _ S.g.gh S.e e1 λvs G1 H1 g1 d1=>⟨G1,g1,d1⟩)) λus s1 ⟨vs,H1,I1,r1,G1,g1,d1⟩=>⟨I1.kIn,?_⟩) he hpl;obtain⟨fs,ff,fz,fl⟩:=rel G1 vs ds fs' d1 e2;refine Ex.uy xo hi ht (hF X.base) (hr.mono hj) hb I1 r1 ff (by show us.length<=Qt;rw[<-r1.length];exact QK fz (by decide)) λs' a dx hdx I' xn=>?_;obtain⟨oe,vs',q1,q2,q3,q4,q5⟩:=id xn.ob;refine⟨a,oe,vs',rfl,I'.kIn,q1,q2,q4,q5,?_⟩;have g2:=Grow.new (.xd fs) g1.gh hdx;refine P pins σ (upd G1 dx (.xd fs)) (upd H1 dx (.xd fs)) s' a dx (.ref C) I' ((S.g.trans g1).trans g2) (Ex.XAt.le (.inl xn) I1.sz) hm ⟨fs,ay,λn d z=>?_⟩;obtain⟨v,l,dn⟩:=fl n d z;exact⟨v,l,dn.mono g2.gg⟩
end
def Mk3(X:Cx)(a:Addr)(oe:Obj):Cx:={ Ex.Mk2 X a with pn:=(a,oe)::X.pn }
section
variable{X:Cx}{pins:List (Addr×Obj)}{σ:L2.St}{H:Hp}{s:Qd}{a dx C:Addr}{oe:Obj}
theorem uB(I:L2.Inv (Ex.Mk2 X a) ((a,oe)::pins) σ H s):L2.Inv (Mk3 X a oe) pins σ H s:=
 ⟨⟨I.ok.mod,I.ok.kind,I.ok.glob,I.ok.blt,I.ok.above,I.ok.inj,I.ok.has,I.ok.cab,I.ok.hd,I.ok.frames,I.ok.stk,I.ok.exf,I.ok.bs,I.ok.bsz,I.ok.noex,I.ok.exfs,I.ok.funs,I.ok.frf⟩,I.os,I.bare,I.base,I.loc,I.cell,I.free,I.freeC,
  λp hp=>I.pin p (by
   rcases Jh.mp (hp) with h | h
   ·rcases Ql.mp h with h | h
    ·exact Qm _ (h▸QL)
    ·exact JC _ h
   ·exact Qm _ (Qy _ h)),I.hok,I.len⟩
theorem rJ(ok:(Ex.Mk2 X a).Ok)(I:L2.Inv (Mk3 X a oe) pins σ H s):L2.Inv (Ex.Mk2 X a) ((a,oe)::pins) σ H s:=
 ⟨ok,I.os,I.bare,I.base,I.loc,I.cell,I.free,I.freeC,
  λp hp=>I.pin p (by
   rcases Jh.mp (hp) with h | h
   ·exact JC _ (Qy _ h)
   ·rcases Ql.mp h with h | h
    ·exact JC _ (h▸QL)
    ·exact Qm _ h),I.hok,I.len⟩
def zE(i:Nat)(a dx:Addr)(f:Str):TE:=λσ H Q=>σ[i]?=some (some (.ref a))/\∃vs v,H dx=some (.xd vs)/\vs.lookup f=some v/\Q v H
theorem nE{n f:Str}{i:Nat}{p q:Pos}(g:Ex.XG X.K C)(hf:Qx X.K (.ref C) f=some none)(hc:oe.cls=.ref C)(hd:oe.dict=some dx)(nc:JJ oe=true)
  (hN:X.N[i]?=some n:=by rfl) (hv:Vis X.env.scope n:=by first | exact Jj rfl | exact Q3 (Jj rfl) | exact Q3 (Q3 rfl)) (hdb:(n==("__debug__" : Str))=false:=by decide) (hcd:(n==("__classdict__" : Str))=false:=by decide)
  (hb:JU (.Name n p) f X.env (eval (.Name n p) X.env)=eval (.Name n p) X.env:=by rfl):PE (Mk3 X a oe) (.Attribute (.Name n p) f q) (zE i a dx f):=by
 intro pins s σ H Q I ⟨hσ,vs,v,hx,hl,hq⟩;refine uz hb (thn (ik (X:=Mk3 X a oe) hN hv hdb hcd pins s σ H (λv H1=>v=.ref a/\H1=H) I ⟨_,hσ,rfl,rfl⟩) λu s1 ⟨v1,H1,I1,r1,e1,e2⟩=>?_);subst e1 e2;obtain rfl:u=QF a:=r1;obtain⟨mA,n0,r0⟩:=I1.hok dx _ hx;have pin:=(I1.pin (a,oe) (JC _ QL)).1;have rv:=r0 f;rw[hl] at rv;cases hm:mA f with
 |none=>rw[hm] at rv;exact rv.elim
 |some w=>
  rw[hm] at rv;refine Ex.zJ I1.kIn g hf pin hc nc hd n0 hm ?_ ⟨v,H1,I1.tok _,rv,hq⟩;exact pz rv
end
def HV(X:Cx)(i:Nat)(C:Addr)(ve:Expr)(hv:List (Str×D)->Option D):Prop:=∀(a dx:Addr) (oe:Obj),oe.cls=.ref C->oe.dict=some dx->JJ oe=true->∃t,PE (Mk3 X a oe) ve t/\∀(G H:Hp) (σ:L2.St) (fs:List (Str×D)) (d:D) (Q:VK),
 σ[i]?=some (some (.ref a))->aO G H->XD X.K G dx fs->hv fs=some d->(∀v G' H',Grow G H G' H'->Den X.K G' v d->Q v H')->t σ H Q
theorem gK{α:Type}{n:Str}{d:α}:∀{fs:List (Str×α)},fs.lookup n=some d->(n,d)∈fs
 |(k,v)::r,e=>by
  by_cases z:n=k
  ·subst z
   rw[List.lookup_cons_self] at e;cases e;exact QL
  ·have hb:(n==k)=false:=beq_eq_false_iff_ne.mpr z
   simp only[List.lookup,hb] at e;exact Qy _ (gK e)
section
variable{X:Cx}{C:Addr}{i:Nat}{n f f2:Str}{p q p2 q2 pt:Pos}
theorem zw(g:Ex.XG X.K C)(hf:Qx X.K (.ref C) f=some none)(hN:X.N[i]?=some n:=by rfl)(hv:Vis X.env.scope n:=by first | exact Jj rfl | exact Q3 (Jj rfl) | exact Q3 (Q3 rfl))(hdb:(n==("__debug__" : Str))=false:=by decide)
  (hcd:(n==("__classdict__" : Str))=false:=by decide) (hb:JU (.Name n p) f X.env (eval (.Name n p) X.env)=eval (.Name n p) X.env:=by rfl):HV X i C (.Attribute (.Name n p) f q) (λfs=>fs.lookup f):=by
 intro a dx oe hc hd nc;refine⟨_,nE g hf hc hd nc hN hv hdb hcd hb,λG H σ fs d Q hσ gh ⟨vs,hx,hl⟩ e q=>⟨hσ,?_⟩⟩;obtain⟨v,l,dn⟩:=hl f d (gK e);exact⟨vs,v,gh _ _ hx,l,q v G H (.refl gh) dn⟩
theorem xD{x1}(g:Ex.XG X.K C)(hf:Qx X.K (.ref C) f=some none)(hf2:Qx X.K (.ref C) f2=some none)(hN:X.N[i]?=some n:=by rfl)(hv:Vis X.env.scope n:=by first | exact Jj rfl | exact Q3 (Jj rfl) | exact Q3 (Q3 rfl))
  (hdb:(n==("__debug__" : Str))=false:=by decide) (hcd:(n==("__classdict__" : Str))=false:=by decide) (hb:JU (.Name n p) f X.env (eval (.Name n p) X.env)=eval (.Name n p) X.env:=by rfl) (hb2:JU (.Name n p2) f2 X.env (eval (.Name n p2) X.env)=eval (.Name n p2) X.env:=by rfl)
  (hs:Qj [.Attribute (.Name n p) f q,.Attribute (.Name n p2) f2 q2] X.env=(false,eval (.Attribute (.Name n p) f q) X.env)::Qj [.Attribute (.Name n p2) f2 q2] X.env:=by rfl)
  (hs2:Qj [.Attribute (.Name n p2) f2 q2] X.env=(false,eval (.Attribute (.Name n p2) f2 q2) X.env)::Qj [] X.env:=by rfl) :
  HV X i C (.Tuple [.Attribute (.Name n p) f q,.Attribute (.Name n p2) f2 q2] x1 pt) (λfs=>(fs.lookup f).bind λx=>(fs.lookup f2).map λy=>.tup [x,y]):=by
 intro a dx oe hc hd nc;refine⟨_,sU (b4 (nE g hf hc hd nc hN hv hdb hcd hb) (b4 (nE g hf2 hc hd nc hN hv hdb hcd hb2) du hs2) hs),λG H σ fs d Q hσ gh ⟨vs,hx,hl⟩ e k=>⟨hσ,?_⟩⟩;obtain⟨x,e1,e⟩:=ar e;obtain⟨y,e2,rfl⟩:=a_ e;obtain⟨v,l,dn⟩:=hl f x (gK e1);obtain⟨v2,l2,dn2⟩:=hl f2 y (gK e2);refine⟨vs,v,gh _ _ hx,l,hσ,vs,v2,gh _ _ hx,l2,by show 2<=_;decide,λr hr=>?_⟩;have g2:=Grow.new (.tup [v,v2]) gh hr;exact k _ _ _ g2 (.tup (SqT.of ay) (.cons (dn.mono g2.gg) (.cons (dn2.mono g2.gg) .nil)))
theorem EnvD.dropU{K:Qc}{He G H:Hp}{σ:L2.St}{ε:Ev}{i:Nat}(E:EnvD K He G H σ ε){o:Option V}:EnvD K He G H (σ.set i o) (ε.set i .un) where
 len:=by rw[Jk,Jk];exact E.len
 dat:=λ{j d'} e=>by
  rw[Qq] at e ⊢
  by_cases z:i=j
  ·rw[if_pos z] at e;split at e<;>cases e
  ·rw[if_neg z] at e ⊢;exact E.dat e
 own:=λ{j d'} e=>by
  rw[Qq] at e ⊢
  by_cases z:i=j
  ·rw[if_pos z] at e;split at e<;>cases e
  ·rw[if_neg z] at e ⊢;exact E.own e
 apart:=λ{j k ds es a} e1 e2 e3 e4=>by
  rw[Qq] at e1 e2 e3 e4
  by_cases z:i=j
  ·rw[if_pos z] at e1;split at e1<;>cases e1
  ·by_cases z2:i=k
   ·rw[if_pos z2] at e2;split at e2<;>cases e2
   ·rw[if_neg z] at e1 e3
    rw[if_neg z2] at e2 e4;exact E.apart e1 e2 e3 e4
 odi:=λ{j d'} e=>by
  rw[Qq] at e ⊢
  by_cases z:i=j
  ·rw[if_pos z] at e;split at e<;>cases e
  ·rw[if_neg z] at e ⊢;exact E.odi e
 apartD:=λ{j k ds es a} e1 e2 e3 e4=>by
  rw[Qq] at e1 e2 e3 e4
  by_cases z:i=j
  ·rw[if_pos z] at e1;split at e1<;>cases e1
  ·by_cases z2:i=k
   ·rw[if_pos z2] at e2;split at e2<;>cases e2
   ·rw[if_neg z] at e1 e3
    rw[if_neg z2] at e2 e4;exact E.apartD e1 e2 e3 e4
end
def xl(i ie:Nat)(c:Str)(F:List D->Option Out)(g:Ev->Option (List D))(hv:List (Str×D)->Option D):Ev->Option Fl:=λε=>(g ε).bind λds=>(F ds).bind λr=>match r with
 |.inl d=>some (.nx (ε.set i (.dat d)))
 |.inr (c',fs)=>if c'=c then(hv fs).map λd=>.nx (((ε.set ie .un).set i (.dat d)).set ie .un) else none
theorem xw{X:Cx}{pos ap cp px pf pc px2 ap2 hpos:Pos}{x fn c n:Str}{i ie j k m:Nat}{st:Stmt}{ps:List Str}{F:List D->Option Out}{C:Addr}{fD:List D->Option (List (Str×D))}{e ve:Expr}{es:List Expr}{g:Ev->Option (List D)}{hv:List (Str×D)->Option D}
  (HF:OkX ⟨X.prog,X.w,X.K,X.mg⟩ fn st ps j F) (Hc:OkC ⟨X.prog,X.w,X.K,X.mg⟩ c m C fD) (hr:Room k X.A) (hN:X.N.Nodup) (ha:DA X (e::es) g) (hV:HV X ie C ve hv) (nox:∀e s,¬ X.xe e s) (hst:X.stack=X.env::X.outer) (hfr:X.env.frame=some X.env.locals)
  (hj:j<=k:=by decide) (hi:X.N[i]?=some x:=by rfl) (hie:X.N[ie]?=some n:=by rfl) (ne:i≠ie:=by decide) (hx:Loc X.env.scope x:=by first | exact Jj rfl | exact Q3 rfl) (hf:X.fn x=true\/X.env.scope.names.lookup x=some .local:=by first | exact .inl rfl | exact .inr rfl)
  (hl:X.env.kindOf n=some .local:=by rfl) (hg:Gl X fn:=by rfl) (hgc:Gl X c:=by rfl) (hdb:(fn==("__debug__" : Str))=false:=by decide) (hdc:(c==("__debug__" : Str))=false:=by decide)
  (he:Qj (e::es) X.env=(false,eval e X.env)::Qj es X.env:=by rfl) (hpl:(Ja cp (Qj es X.env)).any (·.1)=false:=by rfl)
  (hs:Ju (.Call (.Name fn pf) (e::es) [] cp) (some (.Name x px)) ap.line X.env=pure false:=by rfl) (hs2:Ju ve (some (.Name x px2)) ap2.line X.env=pure false:=by rfl) :
  DS X (.Try [.Assign [.Name x px] (.Call (.Name fn pf) (e::es) [] cp) ap] [.ExceptHandler (some (.Name c pc)) (some n) [.Assign [.Name x px2] ve ap2] hpos] [] [] pos) (xl i ie c F g hv):=by
 obtain⟨f,fd,⟨FA,_⟩,hF⟩:=HF;obtain⟨fI,fdI,psI,bm,ff,hm,_,xo,_⟩:=Hc;obtain⟨t,a1,a2⟩:=ha;refine⟨_,Ex.yH,λHe Ge G H σ ε r W S ef P pins s I=>?_⟩;obtain⟨ds,e1,ef1⟩:=ar ef;obtain⟨rr,e2,ef2⟩:=ar ef1
 clear ef ef1
 refine wpAny_Try_except (JG (wpAny_Assign_Name (JM (gM I hg FA.mgf ?_ hdb)) hs));refine PySem.W.callWith_K (h₀:=X.base) I.ok.mod.kin FA.fu.kp (Q0 (a1 cp pins s σ H (λvs H1=>∃G1,Grow G H G1 H1/\DenL X.K G1 vs ds) I (a2 He G H σ ε ds _ S.g.gh S.e e1 λvs G1 H1 g1 d1=>⟨G1,g1,d1⟩)) (λus s1 ⟨vs,H1,I1,r1,G1,g1,d1⟩=>⟨I1.kIn,?_⟩) λ_ _ z=>(nox _ _ z).elim) he hpl;have r2:aX vs ([]++us):=r1
 have SP:spX X.K X.mg F vs H1 (λv H2=>∃d G2,rr=.inl d/\Grow G1 H1 G2 H2/\Den X.K G2 v d) (λcls od H2=>∃c' fs dx G2,rr=.inr (c',fs)/\od=some dx/\Grow G1 H1 G2 H2/\X.mg c'=some cls/\XD X.K G2 dx fs):=
  ⟨G1,ds,rr,g1.gh,d1,e2,λd z v G2 H2 g2 dn=>⟨d,G2,z,g2,dn⟩,λc' fs z cls dx G2 H2 g2 m2 xd=>⟨c',fs,dx,G2,z,rfl,g2,m2,xd⟩⟩
 have hlen:([]++us++[]).length=ps.length:=by
  rw[Q6,<-r2.length];exact(hF X.base).len _ _ _ _ SP
 have bb:=FA.bi s1 ([]++us) I1.kIn hlen;rw[Q6] at bb;refine wpAny_call (codeAny_mono ((hF X.base).run X.A X.stack s1 H1 ⟨[]++us,[]⟩ ([]++us) vs _ _ (hr.mono hj) I1.env0 bb r2 SP) λres s2 z=>?_);cases res with
 |ok fl=>
  cases fl with
  |ret u=>
   obtain⟨v,H2,I2,rv,d,G2,er,g2,dn⟩:=I1.after z;subst er;cases ef2;refine cz I2 hN hi hx rv (λs3 I3=>?_) hf;exact JP (JP ⟨_,H2,I3,P _ G2 H2 ⟨S.g.trans (g1.trans g2),(S.e.grow (g1.trans g2)).put dn⟩⟩)
  |next=>exact Q1 z
  |brk=>exact Q1 z
  |cont=>exact Q1 z
 |error ex=>
  obtain⟨a,cls,dx,H2,rfl,os,bare,un,hok,xat,c',fs,dx',G2,er,ed,g2,m2,xd⟩:=z;cases ed;subst er;dsimp only at ef2;split at ef2
  ·rename_i ec
   subst ec;obtain⟨d,e3,rfl⟩:=a_ ef2;have ecl:cls=.ref C:=Option.some.inj (m2.symm.trans hm);subst ecl;refine Ex.wW (R:=λσ4 H4=>∃v G4,σ4=(σ.set ie (some (.ref a))).set i (some v)/\Grow G2 H2 G4 H4/\Den X.K G4 v d) I1 hst hfr os bare un hok xat xo hgc hm hdc hl hN hie (λoe s3 q1 q2 q3 I3=>?_) λσ4 H4 s5 ⟨v,G4,es4,g4,dn⟩ I5=>?_
   ·obtain⟨t2,p1,p2⟩:=hV a dx oe q1 q2 q3
    have I3':=uB I3;have len:ie<σ.length:=by rw[I.len];exact(Qs.mp hie).1
    refine JG (wpAny_Assign_Name (thn (p1 pins s3 _ H2 (λv H4=>∃G4,Grow G2 H2 G4 H4/\Den X.K G4 v d) I3' (p2 G2 H2 _ fs d _ (Zk len) g2.gh xd e3 λv G4 H4 g4 dn=>⟨G4,g4,dn⟩)) λu s4 ⟨v,H4,I4,rv,G4,g4,dn⟩=>?_) hs2);refine cz (X:=Mk3 X a oe) I4 hN hi hx rv (λs5 I5=>?_) hf;exact JP ⟨rfl,_,H4,rJ I3.ok I5,v,G4,rfl,g4,dn⟩
   ·subst es4
    refine⟨_,H4,I5,P _ G4 H4 ⟨S.g.trans (g1.trans (g2.trans g4)),?_⟩⟩;have E1:=S.e.grow (g1.trans (g2.trans g4));exact((E1.dropU (i:=ie) (o:=some (.ref a))).put dn).dropU
  ·cases ef2
def mth:Stmt->Stmt
 |.ClassDef _ _ _ b _ _ _ _ _ _ _=>b.getD 0 (.Pass ⟨0,0,0,0⟩)
 |s=>s
def r_(f g:Str)(fs:List (Str×D)):Option D:=(fs.lookup f).bind λx=>(fs.lookup g).map λy=>.tup [x,y]
def gm(i:Int):Bool:=decide (i.natAbs.log2<64)
def iD(x:Str):Bool:=decide (x.length<=1000)
theorem qa{i:Int}(h:gm i=true):(Jw (toString i)).length<=1000:=by
 have e:=int_text_length_le (k:=64) (by decide) (of_decide_eq_true h);rw[PySem.ofString_length];omega
def vF(Z:Wq)(c:Str)(n:Nat)(fD:List D->Option (List (Str×D)))(ns:List Str):Prop:=∃C,OkC Z c n C fD/\Ex.XG Z.K C/\∀f∈ns,Qx Z.K (.ref C) f=some none
def fD2(n1 n2:Str):List D->Option (List (Str×D))
 |[.int i,.str x]=>if(gm i&&iD x)=true then some [(n1,.int i),(n2,.str x)] else none
 |_=>none
def fV2(n1 n2 t1 t2:Str):List V->Option (List (Str×V))
 |[.int i,.str x]=>if(gm i&&iD x)=true then some [("said",.str ([t1,Jw (toString i),t2,x].foldl (· ++ ·) Str.empty)),(n2,.str x),(n1,.int i)] else none
 |_=>none
theorem zO{n1 n2 t1 t2:Str}(h1:n1≠"said")(h2:n2≠"said")(h3:n1≠n2){K:Qc}{G:Hp}{vs:List V}{ds:List D}{fs':List (Str×D)}(h:DenL K G vs ds)(e:fD2 n1 n2 ds=some fs') :
  ∃fs,fV2 n1 n2 t1 t2 vs=some fs/\vs.length<=1000/\∀k d,(k,d)∈fs'->∃v,fs.lookup k=some v/\Den K G v d:=by
 unfold fD2 at e;split at e
 ·rename_i i x
  cases h with
  |cons a r=>
   cases a;cases r with
   |cons b r=>
    cases b;cases r;split at e
    ·rename_i hs
     cases e;unfold fV2;refine⟨_,if_pos hs,by show 2<=_;decide,λk d hm=>?_⟩;have q1:(n1==("said" : Str))=false:=beq_eq_false_iff_ne.mpr h1;have q2:(n2==("said" : Str))=false:=beq_eq_false_iff_ne.mpr h2;have q3:(n1==n2)=false:=beq_eq_false_iff_ne.mpr h3;rcases Ql.mp hm with z | z
     ·cases z
      exact⟨.int i,by simp[List.lookup,q1,q3],.int i⟩
     ·rcases Ql.mp z with z | z
      ·cases z
       exact⟨.str x,by simp[List.lookup,q2],.str x⟩
      ·cases z
    ·cases e
 ·cases e
theorem ye{P:Qr}{w:Qu}{K:Qc}{mg:Str->Option Qb}{base:Heap}{qual n1 n2 t1 t2:Str}{st:Stmt}{f C:Addr}{fd:QY}{cd:ClassData}{p1 p2 p3 p4 p5 p6 p7 p8 p9 p10 p11 p12 p13 p14 p15 p16 p17 p18:Pos}{j1 j2:Nat}(Fu:Fun K "__init__" qual st f fd)(S:FnScope ["self",n1,n2] ["self",n1,n2] (aI st))
  (hb:bA st=[.Assign [.Attribute (.Name "self" p1) n1 p2] (.Name n1 p3) p4,.Assign [.Attribute (.Name "self" p5) n2 p6] (.Name n2 p7) p8,
   .Assign [.Attribute (.Name "self" p9) "said" p10] (.JoinedStr [.Constant (.str t1) j1 p11,.FormattedValue (.Name n1 p12) (-1) none p13,.Constant (.str t2) j2 p14,.FormattedValue (.Name n2 p15) (-1) none p16] p17) p18])
  (c:Ex.XC K C cd) (f1:Qx K (.ref C) n1=some none) (f2:Qx K (.ref C) n2=some none) (f3:Qx K (.ref C) "said" = some none) (hl:t1.length+t2.length<=1000)
  (v0:(aI st).names.lookup ("self" : Str)=some .local) (v1:(aI st).names.lookup n1=some .local) (v2:(aI st).names.lookup n2=some .local) (d1:(n1==("__debug__" : Str))=false) (d2:(n2==("__debug__" : Str))=false) (c1:(n1==("__classdict__" : Str))=false) (c2:(n2==("__classdict__" : Str))=false) :
  FnOk P w K mg base CX0 1 f fd ["self",n1,n2] (Ex.spI C (fV2 n1 n2 t1 t2)):=by
 refine Fu.ok (k:=0) S (λvs H Q E h=>?_) (λcdv A outer s H vs Q E hr h=>?_)
 ·obtain⟨e,t,H0,args,fs,rfl,_,_,ef,_⟩:=h
  unfold fV2 at ef;split at ef
  ·rfl
  ·cases ef
 ·obtain⟨e,t,H0,args,fs,rfl,rfl,He,ef,q⟩:=h
  refine⟨_,Ex.zb,λpins s1 I=>?_⟩;rw[hb];unfold fV2 at ef;split at ef
  ·rename_i i x
   split at ef
   ·rename_i hs
    cases ef;obtain⟨s1,s2⟩:=Bool.and_eq_true_iff.mp hs;have se:∀{X:Cx} {p:Pos},X.N=(["self",n1,n2]:List Str)->X.env.scope=aI st->Ex.Pur X (.Name "self" p) (start ["self",n1,n2] [.ref e,.int i,.str x]) (.ref e):=λ{X p} h1 h2=>Ex.jj (i:=0) rfl (by rw[h1];rfl) (by rw[h2];exact .inl v0);have a1:∀{X:Cx} {p:Pos},X.N=(["self",n1,n2]:List Str)->X.env.scope=aI st->Ex.Pur X (.Name n1 p) (start ["self",n1,n2] [.ref e,.int i,.str x]) (.int i):=λ{X p} h1 h2=>Ex.jj (i:=1) rfl (by rw[h1];rfl) (by rw[h2];exact .inl v1) d1 c1;have a2:∀{X:Cx} {p:Pos},X.N=(["self",n1,n2]:List Str)->X.env.scope=aI st->Ex.Pur X (.Name n2 p) (start ["self",n1,n2] [.ref e,.int i,.str x]) (.str x):=λ{X p} h1 h2=>Ex.jj (i:=2) rfl (by rw[h1];rfl) (by rw[h2];exact .inl v2) d2 c2;refine JG (Ex.qw I c f1 He (a1 rfl rfl) (se rfl rfl) λs3 dx hd ne I3=>?_);refine JG (Ex.oE I3 c f2 ne (by show 1<1000;decide) (a2 rfl rfl) (se rfl rfl) λs4 I4=>?_);refine JG (Ex.oE I4 c f3 ne (by show 2<1000;decide) (Ex.qT (xs:=[t1,Jw (toString i),t2,x]) (.cons Ex.mB (.cons (Ex.ri (a1 rfl rfl) (JN (of_decide_eq_true s1) (by decide))) (.cons Ex.mB (.cons (Ex.qX (a2 rfl rfl) (QK (of_decide_eq_true s2) (by decide))) .nil)))) ?_) (se rfl rfl) λs5 I5=>?_)
    ·have z1:=qa s1
     have z2:x.length<=1000:=of_decide_eq_true s2;have z3:(3000:Nat)<=Qt:=by decide
     simp only[List.map_nil,QN,List.sum_cons,List.sum_nil];omega
    ·exact JP ⟨_,_,I5,q dx hd ne⟩
   ·cases ef
  ·cases ef
abbrev wd:List Qb:=[.type "ValueError",.type "Exception",.type "BaseException",.type "object"]
theorem uU{P:Qr}{w:Qu}{K:Qc}{mg:Str->Option Qb}{h:Heap}{c qual n1 n2 t1 t2 nm q:Str}{st:Stmt}{C B N fI:Addr}{bs:List Qb}{sn:List Str}{sub:List Qb}{ab:Bool}{col:Option Bool}{dd:Option Addr}{k0 k1 k2 k3 k5:Option Qb}{oc:Qb}{od an:Option Addr}
  {osl:Array (Option Qb)} {kV doc pm cdv ct:Qb} {p1 p2 p3 p4 p5 p6 p7 p8 p9 p10 p11 p12 p13 p14 p15 p16 p17 p18:Pos} {j1 j2:Nat} (X:K.In h) (G:h.Ns QD mg)
  (hb:bA st=[.Assign [.Attribute (.Name "self" p1) n1 p2] (.Name n1 p3) p4,.Assign [.Attribute (.Name "self" p5) n2 p6] (.Name n2 p7) p8,
   .Assign [.Attribute (.Name "self" p9) "said" p10] (.JoinedStr [.Constant (.str t1) j1 p11,.FormattedValue (.Name n1 p12) (-1) none p13,.Constant (.str t2) j2 p14,.FormattedValue (.Name n2 p15) (-1) none p16] p17) p18])
  (hbi:∀(kV doc pm:Qb) (an:Option Addr) (cdv ct:Qb) (us:List Qb),us.length=3->bindArgs (Jd "__init__" qual (cA st) (bA st) (aI st) .none kV doc pm an cdv ct) ⟨us,[]⟩=pure ((["self",n1,n2]:List Str).zip us))
  (S:FnScope ["self",n1,n2] ["self",n1,n2] (aI st)) (sides:n1≠"said"/\n2≠"said"/\n1≠n2/\t1.length+t2.length<=1000/\(aI st).names.lookup ("self" : Str)=some .local/\(aI st).names.lookup n1=some .local/\(aI st).names.lookup n2=some .local/\
   (n1==("__debug__" : Str))=false/\(n2==("__debug__" : Str))=false/\(n1==("__classdict__" : Str))=false/\(n2==("__classdict__" : Str))=false)
  (a:QZ K QD c=some (some (.ref C))) (lk:K.lookup C=some (excClassObj nm q C N bs (.ref B::wd) true sn sub ab col dd k0 k1 k2 k3 k5 "ValueError.__new__"))
  (ci:Qx K (.ref C) "__init__" = some (some (.ref fI))) (l:K.lookup fI=some ⟨oc,od,.func (Jd "__init__" qual (cA st) (bA st) (aI st) .none kV doc pm an cdv ct),osl⟩) (cc:Zn K cdv qual=true)
  (kp:Jx K (.ref C)=true) (kf:Jx K (.ref fI)=true) (ty:PySem.W.typeIn K (.ref fI)=some (.type "function")) (sa:Qx K (.ref C) "__setattr__" = some (some (.builtin "object.__setattr__")))
  (ga:Qx K (.ref C) "__getattribute__" = some (some (.builtin "BaseException.__getattribute__"))) (gn:Qx K (.ref C) "__getattr__" = some none)
  (f1:Qx K (.ref C) n1=some none) (f2:Qx K (.ref C) n2=some none) (f3:Qx K (.ref C) "said" = some none):vF ⟨P,w,K,mg⟩ c 1 (fD2 n1 n2) [n1,n2]:=by
 obtain⟨e1,e2,e3,e4,v0,v1,v2,d1,d2,c1,c2⟩:=sides;have hc:PySem.W.clsIn K C=some { name:=nm,bases:=bs,mro:=.ref C :: .ref B::wd,ns:=N,qualname:=q,hasDict:=true,slotNames:=sn,subclasses:=sub,abstract:=ab,collection:=col,hasDel:=false }:=by unfold PySem.W.clsIn;rw[lk]
 have XCk:Ex.XC K C _:=⟨hc,sa,by unfold PySem.W.mroIn;rw[hc];rfl,λself=>by rw[refuseLoop_ref,refuseLoop_ref];exact PySem.F.store_ValueError.passes self,rfl⟩;have Fu:=nM (x:="__init__") (qual:=qual) l cc kf;refine⟨C,⟨fI,_,["self",n1,n2],.ref B::wd,fV2 n1 n2 t1 t2,?_,kp,⟨⟨nm,q,N,bs,true,sn,sub,ab,col,dd,k0,k1,k2,k3,k5,lk⟩,rfl,rfl,rfl,rfl⟩,ci,ty,Fu.binds (ps:=["self",n1,n2]) hbi,λbase=>ye Fu S hb XCk f1 f2 f3 e4 v0 v1 v2 d1 d2 c1 c2,λG vs ds fs' h e=>zO e1 e2 e3 h e⟩,⟨ga,gn,by unfold PySem.W.mroIn;rw[hc];rfl,by unfold PySem.W.hasDictIn;rw[hc];rfl⟩,λf hf=>?_⟩
 ·exact PySem.W.mg_of X G a
 ·rcases Ql.mp hf with z | z
  ·rw[z];exact f1
  ·rcases Ql.mp z with z | z
   ·rw[z];exact f2
   ·cases z
def efp(N:Nat):List Addr:=[N+1,N]
section
variable{X:Cx}{a:Expr}{pos:Pos}{fa:Ev->Option D}
def gS:Nat->List D->List D
 |_,[]=>[]
 |n,d::ds=>.tup [.int (n:Int),d]::gS (n+1) ds
theorem iC:∀(ds:List D) (n:Nat),(gS n ds).length=ds.length
 |[],_=>rfl
 |d::ds,n=>by show(gS (n+1) ds).length+1=ds.length+1;rw[iC ds]
theorem j8:∀(ds:List D) (n i:Nat) (d:D),ds[i]?=some d->(gS n ds)[i]?=some (.tup [.int ((n+i:Nat):Int),d])
 |[],_,i,_,e=>by simp at e
 |x::ds,n,0,d,e=>by simp at e;subst e;rfl
 |x::ds,n,i+1,d,e=>by
  have:=j8 ds (n+1) i d (by simpa using e);rw[show n+1+i=n+(i+1) by lia] at this;exact this
end
section
variable{P:Qr}{w:Qu}{A:QB}{E:Qb->Qd->Prop}{s:Qd}
theorem qB{it t:Addr}{i:Nat}{its:Array Qb}{Q:Qb->Qd->Prop}(hh:A.handled=none)(hit:s.heap.IsTupleIter it t i)(ht:s.heap.IsTuple t its)
  (hQ:∀x,its[i]?=some x->∀h',h'.IsTupleIter it t (i+1)->JD it s.heap h'->Q x { s with heap:=h' })
  (hE:its[i]?=none->∀h' e,Heap.ExtBut it s.heap h'->(∃o,h'.get? e=some o/\o.cls=.type "StopIteration")->E (.ref e) { s with heap:=h' }):Qg (Qi P w) A (QH (.ref it)) Q E s:=by
 obtain⟨oi,e1,e2,e3⟩:=id hit;obtain⟨ot,f1,_,n,f3⟩:=ht;unfold QH;refine Qa (Jc (name:=Jw "__next__") hit.typeIs Je (JH Je hit.typeIs F.entry_tuple_iterator_next ?_ (F.args_tuple_iterator_next_1 _)))
 change Qg _ _ (field (.ref it) 0>>=_) _ _ _;refine Qa (QM e1 e3 (x:=.ref t) rfl ?_)
 change Qg _ _ (field (.ref it) 1>>=_) _ _ _;refine Qa (QM e1 e3 (x:=.int i 0) rfl ?_)
 change Qg _ _ (Zo (.ref t)>>=_) _ _ _;refine Qa (QW f1 f3 ?_)
 cases g:its[i]? with
 |some x=>
  simp only[JX,g];refine Qa (J2 e1 e3 (by simp) (Qf ⟨x,rfl,Qf (hQ x g _ ⟨_,QV _ e1 (JQ (Jb e3 _)),(Obj.cls_mapFields ..).trans e2,?_⟩ (Zs ..))⟩));rw[Jb e3];simp[J5]
 |none=>
  simp only[JX,g];refine Qa (wpAny_rule (Qa (J2 e1 e3 (by simp) ?_)))
  change Qg _ _ (newExc (.type "StopIteration") []>>=_) _ _ _
  simp only[newExc,newTuple];refine Qa (Qa (QS ?_ (by size_fits)));refine Qa (m:=firstArgMember _ _) (wpAny_of_eq (a:=QT) (by first | rfl | (simp only[firstArgMember];rfl)) (QS ?_ (by size_fits)));simp only[raiseNew];refine Qa (wpAny_handled ?_);rw[show A.in1.handled=none from hh];exact Qa (Qf (wpAny_throw (hE g _ _ (((Zs ..).extBut.push _).push _) ⟨_,Qo _ rfl,rfl⟩)))
theorem pw(hh:A.handled=none)(it t:Addr)(ne:t≠it)(its:Array Qb):Draws P w A it [it,t] its.size (λi v=>its[i]?=some v) (λi h=>h.IsTupleIter it t i/\h.IsTuple t its) where
 live:=λ_ _ st=>let⟨o,e,_⟩:=st.1;⟨o,e⟩
 frame:=λ_ _ _ st k=>⟨st.1.at λo e=>k it (by simp) o e,st.2.at λo e=>k t (by simp) o e⟩
 item:=λi s Q E hi st hQ=>qB hh st.1 st.2 (λx ex h' st' sb=>hQ x h' s.toks ex ⟨st',st.2.extBut sb.extBut ne⟩ sb) λz=>by simp at z;lia
 done:=λs Q E st hE=>qB hh st.1 st.2 (λx ex=>by simp at ex) λ_=>hE
theorem pQ(l:Addr)(items:Array Qb)(n:Nat)(dct:Option Addr)(sl:Array (Option Qb)) :
  Meets (Builtin.«enumerate.__new__» ⟨[.type "enumerate",.ref l],[]⟩) (λ_ R s=>s.heap.get? l=some ⟨.type "tuple",dct,.seq items n,sl⟩/\
   R (.ok (.ret (.ref (s.heap.push { cls:=.type "tuple_iterator",data:=.fields #[.ref l,.int 0 0] }).objs.size)))
    { s with heap:=(s.heap.push { cls:=.type "tuple_iterator",data:=.fields #[.ref l,.int 0 0] }).push { cls:=.type "enumerate",data:=.fields #[.none,.bool false,.ref s.heap.objs.size,J5 0,.none,.none] } }):=
 .of_wp λprog w A R s h=>by
  obtain⟨hp,g,d,tk,os⟩:=s;obtain⟨hl,h⟩:=h;have hsub:=sub_enumerate;have hL:Heap.IsTuple (Shared.heap ⟨hp,g,d,tk,os⟩) l items:=⟨_,hl,rfl,n,rfl⟩
  wp_walk using AutoSeq1.wpAny_loadPart' hl
  refine wpAny_stack_any λsk=>Qf ?_;split
  ·rename_i c _ _ _ _ _
   cases(c==Value.type "enumerate")<;>(wp_walk using AutoSeq1.wpAny_loadPart' hl,Ze hL;exact⟨_,rfl,h⟩)
  ·wp_walk using AutoSeq1.wpAny_loadPart' hl,Ze hL;exact⟨_,rfl,h⟩
theorem nS{l:Addr}{items:Array Qb}{Q:Qb->Qd->Prop}(hL:s.heap.IsTuple l items)
  (h:∀h',IsEnum h' (s.heap.objs.size+1) s.heap.objs.size 0 .none->h'.IsTupleIter s.heap.objs.size l 0->(∀b o,s.heap.get? b=some o->h'.get? b=some o)->Q (.ref (s.heap.objs.size+1)) { s with heap:=h' }) :
  Qg (Qi P w) A (call (.type "enumerate") [.ref l]) Q E s:=by
 obtain⟨⟨c,dct,dt,sl⟩,hl,e1,n,e2⟩:=hL;obtain rfl:c=.type "tuple":=e1;obtain rfl:dt=.seq items n:=e2;refine callType_new F.called_enumerate (by decide) (F.typeCall_enumerate_1 _) (F.newCall_enumerate_1 _) (λobj=>F.args_object_init_2 obj _) F.entry_enumerate_new (pQ l items n dct sl) ⟨hl,?_⟩;generalize e3:s.heap.push { cls:=.type "tuple_iterator",data:=.fields #[.ref l,.int 0 0] }=h1;have hz:h1.objs.size=s.heap.objs.size+1:=by rw[<-e3];exact QP ..
 change _/\_
 rw[hz];have hE:=Qo h1 (o:={ cls:=.type "enumerate",data:=.fields #[.none,.bool false,.ref s.heap.objs.size,J5 0,.none,.none] }) rfl;rw[hz] at hE;have k1:∀b o,s.heap.get? b=some o->h1.get? b=some o:=λb o x=>by rw[<-e3];exact Qe _ x
 have k2:h1.IsTupleIter s.heap.objs.size l 0:=by rw[<-e3];exact⟨_,Qo _ rfl,rfl,rfl⟩
 exact⟨⟨_,hE,rfl⟩,h _ hE (k2.at λo x=>Qe _ x) λb o x=>Qe _ (k1 b o x)⟩
end
def yg(K:Qc)(l:Addr):It:=
 ⟨λi H=>∃xs x,SqT K H l xs/\xs[i]?=some x,
  λi H v H'=>∃p x,v=.ref p/\H p=none/\H'=upd H p (.tup [.int (i:Int),x])/\∀xs,SqT K H l xs->xs[i]?=some x,
  λi H=>∃xs,SqT K H l xs/\xs.length<=i⟩
theorem nR{P:Qr}{w:Qu}{K:Qc}{es:List Expr}{k0:Nat}{tpos:Pos}(N l:Nat)(p1:l<N) :
  Turn P w K (.Tuple es k0 tpos) (yg K l) (efp N) (N+1) (λi h=>(∃old,IsEnum h (N+1) N (i:Int) old)/\h.IsTupleIter N l i) where
 mem:=by simp[efp]
 obj:=λi h ⟨⟨old,h1⟩,h2⟩ c hc=>by
  simp only[efp,Ql,QJ,or_false] at hc;rcases hc with rfl | rfl
  ·exact⟨_,h1,λv z=>by cases(show Data.fields _=Data.cell v from z)⟩
  ·obtain⟨o,e,c,d⟩:=h2
   exact⟨o,e,λv z=>by rw[d] at z;cases z⟩
 keep:=λi h h' ⟨⟨old,h1⟩,h2⟩ k=>⟨⟨old,k _ (by simp[efp]) _ h1⟩,h2.at λo e=>k _ (by simp[efp]) o e⟩
 item:=by
  intro X hP hw hK hc i pins s σ H E I hf st hg;subst hP hw hK;obtain⟨⟨old,h1⟩,h2⟩:=st;obtain⟨xs,x,q1,ex⟩:=hg;obtain⟨its,r1,pl,_⟩:=I.tuple q1;obtain⟨u,eu,ru⟩:=r1.get ex;have D:=pw (P:=X.prog) (w:=X.w) (A:=X.A.in1) (I.ok.hd hc) N l (nN (by lia)) its.toArray;have hi:i<its.toArray.size:=by have:=(Qs.mp eu).1;simpa using this
  refine wpAny_pyNext_enum_itemD D h1 ⟨h2,pl⟩ hi (nN (by lia)) (by intro z;simp only[Ql,QJ,or_false] at z;rcases z with z | z<;>exact absurd z (nN (by lia))) λx' h' tk hx ho st' hT hsz hk=>⟨_,rfl,?_⟩
  have:x'=u:=by
   have e1:its[i]?=some x':=by simpa using hx
   rw[eu] at e1;exact(Option.some.inj e1).symm
  subst this;refine wpAny_letOwnedTupleGo_enum (s:={ s with heap:=h',toks:=tk+1 }) ho λh'' he' hs'=>?_;have zl:N+1<s.heap.objs.size:=Qk h1;have nn:H s.heap.objs.size=none:=I.hok.fresh (Qn _)
  have I1:Inv X pins σ (upd H s.heap.objs.size (.tup [.int (i:Int),x])) { s with heap:=s.heap.push { cls:=.type "tuple",data:=.seq #[.int i tk,x'] },toks:=tk+1 }:=
   I.laid (t':=tk+1) (λb o e=>Qe _ e) (Qn _) ⟨show 2<=Qt by decide,[.int i tk,x'],.cons ⟨tk,rfl⟩ (.cons ru .nil),⟨_,Qo _ rfl,rfl,_,rfl⟩⟩
  have ne:∀b∈efp N,b≠s.heap.objs.size:=λc hc=>by
   simp only[efp,Ql,QJ,or_false] at hc;rcases hc with rfl | rfl<;>exact nN (by lia)
  have f1:∀b∈efp N,ij X pins (upd H s.heap.objs.size (.tup [.int (i:Int),x])) b:=λc hc=>⟨by rw[aA (ne c hc)];exact(hf c hc).1,(hf c hc).2⟩
  have k2:∀c o,c∉efp N->(s.heap.push { cls:=.type "tuple",data:=.seq #[.int i tk,x'] }).get? c=some o->h''.get? c=some o:=λc o hc e=>by
   simp only[efp,Ql,QJ,or_false,not_or] at hc;refine hs'.extBut _ _ hc.1 ?_
   by_cases z:c=s.heap.objs.size
   ·subst z
    rw[Qo _ rfl] at e;cases e;exact hT
   ·exact hk c o hc.1 hc.2 ((Heap.get?_push_ne _ _ _ z).symm.trans e)
  have I2:=dP (h':=h'') (t':=tk+1) I1 k2 f1;refine⟨.ref s.heap.objs.size,_,I2,rfl,⟨_,x,rfl,nn,rfl,λzs hz=>?_⟩,⟨⟨_,by simpa using he'⟩,st'.1.at λo e=>hs'.extBut _ o (nN (by lia)) e⟩,λc hc=>(f1 c hc).1⟩;rw[I.tuple_inj hz q1];exact ex
 done:=by
  intro X hP hw hK hc i pins s σ H E I hf st hg;subst hP hw hK;obtain⟨⟨old,h1⟩,h2⟩:=st;obtain⟨xs,q1,he⟩:=hg;obtain⟨its,r1,pl,_⟩:=I.tuple q1;have n1:=r1.length;have nx:its.toArray[i]?=none:=by simp;lia
  have ty:s.TypeIs (.ref (N+1)) "enumerate":=⟨_,h1,rfl⟩;unfold pyNext;refine Qa (wpAny_attempt (Jc (name:=Jw "__next__") ty F.slot_enumerate_next (JH F.slot_enumerate_next ty F.entry_enumerate_next ?_ (F.args_enumerate_next_1 _))))
  change Qg _ _ (field (.ref (N+1)) 2>>=_) _ _ _
  refine Qa (QM h1 rfl (x:=.ref N) rfl (Qa (qB (I.ok.hd hc) h2 pl (λx ex=>by rw[nx] at ex;cases ex) λ_ h' e he' hx'=>?_)));obtain⟨o,ho,hc'⟩:=hx';refine Qa (wpAny_isInstance (T:="StopIteration") (b:=true) ⟨o,ho,hc'⟩ isSubtype_stop (Qf ⟨rfl,dP (t':=s.toks) I (λc o hc e=>?_) hf⟩));simp only[efp,Ql,QJ,or_false,not_or] at hc;exact he' c o hc.2 e
 self:=λ_ _ _ _ _ st h=>let⟨_,e⟩:=st.1;wpAny_pyIter_enum e h
section
variable{X:Cx}{a:Expr}{pos:Pos}{fa:Ev->Option D}
def tR(K:Qc)(ta:TA):TI:=λσ H R=>ta σ H λvs H1=>∃l xs,vs=[.ref l]/\SqT K H1 l xs/\R (yg K l) H1
theorem sS{es:List Expr}{k0:Nat}{tpos p:Pos}{ta:TA}(hg:Gl X "enumerate")(hm:X.mg "enumerate" = none)(ha:PA X [a] ta)(hs:Qj [a] X.env=[(false,eval a X.env)]:=by rfl) :
  PI X (.Tuple es k0 tpos) (.Call (.Name "enumerate" p) [a] [] pos) (tR X.K ta):=by
 intro pins s σ H R I h;refine Call_ (gH I hg hm boot_enumerate (JL (thn (ha pos pins s σ H _ I h) λus s1 ⟨vs,H1,I1,r1,q1⟩=>?_) hs rfl));obtain⟨l,xs,e,q1,q⟩:=q1;subst e
 cases r1 with | cons r rr=>
  cases rr;cases r;obtain⟨its,rv,pl,hz⟩:=I1.tuple q1;have lt:l<s1.heap.objs.size:=pl.lt;refine nS pl λh' he hit hk=>wpAny_pyIter_enum he ?_;refine⟨s1.heap.objs.size+1,efp s1.heap.objs.size,_,_,H1,rfl,I1.kept (t':=s1.toks) hk,nR s1.heap.objs.size l lt,⟨⟨_,he⟩,hit⟩,λc hc=>?_,q⟩
  have lc:s1.heap.objs.size<=c:=by
   simp only[efp,Ql,QJ,or_false] at hc;rcases hc with rfl | rfl<;>(show @LE.le Nat _ _ _;lia)
  exact I1.fpOk lc (I1.hok.fresh lc)
def tM(f:Ev->Option D):Ev->Option (List D):=λε=>match f ε with | some (.tup ds)=>some (gS 0 ds) | _=>none
theorem xx{es:List Expr}{k0:Nat}{tpos p:Pos}(h:DE X a fa)(hm:X.mg "enumerate" = none)(hg:Gl X "enumerate":=by rfl)(hs:Qj [a] X.env=[(false,eval a X.env)]:=by rfl) :
  DI X (.Tuple es k0 tpos) (.Call (.Name "enumerate" p) [a] [] pos) (tM fa):=by
 obtain⟨t,a1,a2⟩:=h;refine⟨_,sS hg hm (b4 a1 du hs) hs,λHe G H σ ε ds R gh E ef q=>?_⟩;unfold tM at ef;split at ef
 ·rename_i ds' e1
  cases ef;refine a2 He G H σ ε _ _ gh E e1 λv G1 H1 g1 d1=>?_;obtain⟨l,xs,rfl,w1,w2⟩:=d1.tupV;refine⟨l,xs,rfl,aR g1.gh w1,q _ G1 H1 g1 λi H2 s2=>?_⟩;have n1:=w2.length;refine⟨λhi=>?_,λhi=>⟨xs,aR s2 w1,by rw[iC] at hi;lia⟩,?_⟩
  ·rw[iC] at hi
   exact⟨xs,xs[i]'(by lia),aR s2 w1,by simp⟩
  ·rintro v H3 ⟨p',x,rfl,hn,rfl,w3⟩ d ed G2 s3 s4
   obtain⟨d',f1,f2⟩:=w2.getV (w3 xs (aR s2 w1));rw[j8 ds' 0 i d' f1,Nat.zero_add] at ed;cases ed;have g:=Grow.new (.tup [.int (i:Int),x]) s4 hn;exact⟨_,g,.tup (xs:=[.int (i:Int),x]) (.inl (.inl ay)) (.cons (.int _) (.cons ((f2.mono s3).mono g.gg) .nil))⟩
 ·cases ef
end
def gk(ε:Ev):Bool:=ε.all λs=>match s with | .own _=>false | .odi _=>false | _=>true
theorem sV{ε:Ev}(h:gk ε=true){i:Nat}{es:List D}(e:ε[i]?=some (.own es)):False:=by
 have:=Jm.mp h _ (Jp e);cases this
theorem rz{ε:Ev}(h:gk ε=true){i:Nat}{es:List (List Int×D)}(e:ε[i]?=some (.odi es)):False:=by
 have:=Jm.mp h _ (Jp e);cases this
theorem EnvD.over{K:Qc}{He G H G' H':Hp}{σ:L2.St}{ε:Ev}(E:EnvD K He G H σ ε)(no:gk ε=true)(gg:aO G G'):EnvD K He G' H' σ ε where
 len:=E.len
 dat:=λe=>let⟨v,h1,h2⟩:=E.dat e;⟨v,h1,h2.mono gg⟩
 own:=λe=>(sV no e).elim
 apart:=E.apart
 odi:=λe=>(rz no e).elim
 apartD:=E.apartD
theorem EnvD.drop{K:Qc}{He G H:Hp}{σ:L2.St}{ε:Ev}(E:EnvD K He G H σ ε)(i:Nat)(v:V):EnvD K He G H (σ.set i (some v)) (ε.set i .un) where
 len:=by rw[Jk,Jk];exact E.len
 dat:=λ{j d} e=>by
  rw[Qq] at e ⊢
  by_cases z:i=j
  ·rw[if_pos z] at e;split at e<;>cases e
  ·rw[if_neg z] at e ⊢;exact E.dat e
 own:=λ{j ds} e=>by
  rw[Qq] at e ⊢
  by_cases z:i=j
  ·rw[if_pos z] at e;split at e<;>cases e
  ·rw[if_neg z] at e ⊢;exact E.own e
 apart:=λ{j k ds es b} e1 e2 h1 h2=>by
  rw[Qq] at e1 e2 h1 h2
  by_cases z:i=j
  ·rw[if_pos z] at e1;split at e1<;>cases e1
  ·by_cases z2:i=k
   ·rw[if_pos z2] at e2;split at e2<;>cases e2
   ·rw[if_neg z] at e1 h1
    rw[if_neg z2] at e2 h2;exact E.apart e1 e2 h1 h2
 odi:=λ{j ds} e=>by
  rw[Qq] at e ⊢
  by_cases z:i=j
  ·rw[if_pos z] at e;split at e<;>cases e
  ·rw[if_neg z] at e ⊢;exact E.odi e
 apartD:=λ{j k ds es b} e1 e2 h1 h2=>by
  rw[Qq] at e1 e2 h1 h2
  by_cases z:i=j
  ·rw[if_pos z] at e1;split at e1<;>cases e1
  ·by_cases z2:i=k
   ·rw[if_pos z2] at e2;split at e2<;>cases e2
   ·rw[if_neg z] at e1 h1
    rw[if_neg z2] at e2 h2;exact E.apartD e1 e2 h1 h2
theorem pD{ε:Ev}(h:gk ε=true)(i:Nat):gk (ε.set i .un)=true:=by
 unfold gk at h ⊢;rw[Jm] at h ⊢;intro s hs;rcases List.mem_or_eq_of_mem_set hs with z | z
 ·exact h s z
 ·rw[z]
inductive LsIn:List D->D->Prop where
 |here (xs:List D):LsIn xs (.lst xs)
 |lst {es xs:List D} {d:D} (m:d∈xs) (h:LsIn es d):LsIn es (.lst xs)
 |tup {es xs:List D} {d:D} (m:d∈xs) (h:LsIn es d):LsIn es (.tup xs)
 |dic {es:List D} {ms:List (List Int×D)} {k:List Int} {d:D} (m:(k,d)∈ms) (h:LsIn es d):LsIn es (.dic ms)
def uni(A B:Hp):Hp:=λb=>match A b with | some o=>some o | none=>B b
section
variable{A B G:Hp}
theorem vD:aO A (uni A B):=λb o e=>by unfold uni;rw[e]
theorem vC(a:aO A G)(b:aO B G):aO B (uni A B):=λc o e=>by
 unfold uni;cases q:A c with
 |none=>exact e
 |some u=>
  have:=a c u q;rw[b c o e] at this;exact this.symm
theorem sC(a:aO A G)(b:aO B G):aO (uni A B) G:=λc o e=>by
 unfold uni at e;cases q:A c with
 |none=>rw[q] at e;exact b c o e
 |some u=>rw[q] at e;cases e;exact a c _ q
theorem wI{c:Addr}{o:HO}(e:uni A B c=some o):A c=some o\/B c=some o:=by
 unfold uni at e;cases q:A c with
 |none=>rw[q] at e;exact .inr e
 |some u=>rw[q] at e;exact .inl e
theorem qx{c:Addr}(a:A c=none)(b:B c=none):uni A B c=none:=by unfold uni;rw[a];exact b
end
section
variable{K:Qc}{G Gm:Hp}{P P':List D->Prop}
def Cl(K:Qc)(G Gm:Hp)(P:List D->Prop):Prop:=aO Gm G/\∀a xs,Gm a=some (.lst xs)->∃es,DenL K Gm xs es/\P es
theorem Cl.to(c:Cl K G Gm P)(h:∀es,P es->P' es):Cl K G Gm P':=⟨c.1,λa xs e=>let⟨es,d,p⟩:=c.2 a xs e;⟨es,d,h es p⟩⟩
theorem ip:Cl K G (λ_=>none) P:=⟨(λ_ _ e=>nomatch e),(λ_ _ e=>nomatch e)⟩
theorem jE(c:Cl K G Gm P){a:Addr}{o:HO}(e:G a=some o)(hl:∀xs,o=.lst xs->∃es,DenL K Gm xs es/\P es):Cl K G (upd Gm a o) P/\aO Gm (upd Gm a o):=by
 have s:aO Gm (upd Gm a o):=λb u q=>by
  by_cases z:b=a
  ·subst z
   have:=c.1 _ _ q;rw[e] at this;cases this;exact ay
  ·rw[aA z];exact q
 refine⟨⟨λb u q=>?_,λb xs q=>?_⟩,s⟩
 ·by_cases z:b=a
  ·subst z;rw[ay] at q;cases q;exact e
  ·rw[aA z] at q;exact c.1 b u q
 ·by_cases z:b=a
  ·subst z
   rw[ay] at q;cases q;obtain⟨es,d,p⟩:=hl xs rfl;exact⟨es,d.mono s,p⟩
  ·rw[aA z] at q
   obtain⟨es,d,p⟩:=c.2 b xs q;exact⟨es,d.mono s,p⟩
theorem qO{Gn:Hp}(c:Cl K G Gm P)(d:Cl K G Gn P):Cl K G (uni Gm Gn) P/\aO Gm (uni Gm Gn)/\aO Gn (uni Gm Gn):=by
 have s1:aO Gm (uni Gm Gn):=vD;have s2:aO Gn (uni Gm Gn):=vC c.1 d.1;refine⟨⟨sC c.1 d.1,λa xs e=>?_⟩,s1,s2⟩;rcases wI e with e | e
 ·obtain⟨es,q,p⟩:=c.2 a xs e;exact⟨es,q.mono s1,p⟩
 ·obtain⟨es,q,p⟩:=d.2 a xs e;exact⟨es,q.mono s2,p⟩
theorem sZ(c:Cl K G Gm P){a:Addr}{xs:List V}(h:SqT K G a xs):∃Gn,Cl K G Gn P/\aO Gm Gn/\SqT K Gn a xs:=by
 rcases h with(h | ⟨o,h⟩) | h
 ·obtain⟨c1,c2⟩:=jE c h (λ_ z=>nomatch z)
  exact⟨_,c1,c2,SqT.of ay⟩
 ·obtain⟨c1,c2⟩:=jE c h (λ_ z=>nomatch z)
  exact⟨_,c1,c2,.inl (.inr ⟨o,ay⟩)⟩
 ·exact⟨Gm,c,aO.refl _,.inr h⟩
theorem DenL.cl{vs:List V}{ds:List D}(h:DenL K G vs ds):∃Gm,Cl K G Gm (λl=>∃d∈ds,LsIn l d)/\DenL K Gm vs ds:=by
 refine DenL.rec (motive_1:=λv d _=>∃Gm,Cl K G Gm (λl=>LsIn l d)/\Den K Gm v d) (motive_2:=λus es _=>∃Gm,Cl K G Gm (λl=>∃p∈es,LsIn l p.2)/\DenM K Gm us es)
  (motive_3:=λvs ds _=>∃Gm,Cl K G Gm (λl=>∃d∈ds,LsIn l d)/\DenL K Gm vs ds) ?_ ?_ ?_ ?_ ?_ ?_ ?_ ?_ ?_ ?_ ?_ h
 ·exact⟨_,ip,.non⟩
 ·exact λb=>⟨_,ip,.bl b⟩
 ·exact λb=>⟨_,ip,.int b⟩
 ·exact λb=>⟨_,ip,.str b⟩
 ·rintro a xs ds h _ ⟨Gm,c,d⟩
  obtain⟨Gn,c1,s,h1⟩:=sZ c h;exact⟨Gn,c1.to λes ⟨d,m,q⟩=>.tup m q,.tup h1 (d.mono s)⟩
 ·rintro a xs ds h _ ⟨Gm,c,d⟩
  have c0:Cl K G Gm (λl=>LsIn l (.lst ds)):=c.to λes ⟨d,m,q⟩=>.lst m q
  have one:G a=some (.lst xs)->∃Gm,Cl K G Gm (λl=>LsIn l (.lst ds))/\Den K Gm (.ref a) (.lst ds):=λh=>by
   obtain⟨c1,s⟩:=jE c0 h (λys z=>by cases z;exact⟨ds,d,.here ds⟩);exact⟨_,c1,.lst (.inl ay) (d.mono s)⟩
  rcases h with h | ⟨ns,rfl,(h | ⟨o,h⟩) | h⟩
  ·exact one h
  ·exact one h
  ·obtain⟨c1,s⟩:=jE c0 h (λ_ z=>nomatch z)
   exact⟨_,c1,.lst (.inr ⟨ns,rfl,.inl (.inr ⟨o,ay⟩)⟩) (d.mono s)⟩
  ·exact⟨Gm,c0,.lst (.inr ⟨ns,rfl,.inr h⟩) d⟩
 ·rintro a us ep es h nd _ ⟨Gm,c,d⟩
  obtain⟨c1,s⟩:=jE (c.to (P':=λl=>LsIn l (.dic es)) λl ⟨p,m,q⟩=>.dic (k:=p.1) m q) h (λ_ z=>nomatch z);exact⟨_,c1,.dic ay nd (d.mono s)⟩
 ·exact⟨_,ip,.nil⟩
 ·rintro k b v d us es hk _ _ ⟨G1,c1,d1⟩ ⟨G2,c2,d2⟩
  obtain⟨c3,s1,s2⟩:=qO (c1.to (P':=λl=>∃p∈(k,d)::es,LsIn l p.2) λl q=>⟨_,QL ..,q⟩) (c2.to λl ⟨p,m,q⟩=>⟨p,Qy _ m,q⟩);obtain⟨G4,c4,s4,hk4⟩:=sZ c3 hk;exact⟨G4,c4,.cons hk4 (d1.mono (s1.trans s4)) (d2.mono (s2.trans s4))⟩
 ·exact⟨_,ip,.nil⟩
 ·rintro v d vs ds _ _ ⟨G1,c1,d1⟩ ⟨G2,c2,d2⟩
  obtain⟨c3,s1,s2⟩:=qO (c1.to (P':=λl=>∃p∈d::ds,LsIn l p) λl q=>⟨_,QL ..,q⟩) (c2.to λl ⟨p,m,q⟩=>⟨p,Qy _ m,q⟩);exact⟨_,c3,.cons (d1.mono s1) (d2.mono s2)⟩
end
def Nw(K:Qc)(Gv H0:Hp)(as:List D):Prop:=∀a xs,Gv a=some (.lst xs)->H0 a=none\/∃es,DenL K Gv xs es/\∃d∈as,LsIn es d
def qK(as es:List D):Prop:=(∀d∈as,¬ LsIn es d)/\∀ns:List Int,es≠ns.map D.int
section
variable{X:Cx}{a b c:Expr}{fa fb fc:Ev->Option D}{pos:Pos}{st:Stmt}{rest:List Stmt}
theorem wg{pins:List (Addr×Obj)}{σ:L2.St}{G Gv H0 H:Hp}{s:Qd}{as es:List D}{p:Addr}(I:Inv X pins σ H s)(gh:aO G H)(sv:aO Gv G)(nw:Nw X.K Gv H0 as)(hd:Den X.K Gv (.ref p) (.lst es))(fr:qK as es) :
  ∃xs,Gv p=some (.lst xs)/\DenL X.K Gv xs es/\H0 p=none:=by
 cases hd with
 |@lst _ xs _ h hs=>
  rcases h with h | ⟨ns,rfl,_⟩
  ·refine⟨xs,h,hs,?_⟩
   rcases nw p xs h with n | ⟨es',d',d,m,q⟩
   ·exact n
   ·have:=DenL.uniq I gh (hs.mono sv) (d'.mono sv)
    subst this;exact absurd q (fr.1 d m)
  ·exact absurd (DenL.uniq I gh (hs.mono sv) (lJ _ _ ns)) (fr.2 ns)
def DEm(X:Cx)(e:Expr)(f:Ev->Option D)(fl:Ev->Option (List D)):Prop:=∃t,PE X e t/\∀(He G H:Hp) (σ:L2.St) (ε:Ev) (d:D) (as:List D) (Q:VK),aO G H->EnvD X.K He G H σ ε->f ε=some d->fl ε=some as->
 (∀v Gv G' H',Grow G H G' H'->aO Gv G'->Den X.K Gv v d->Nw X.K Gv H as->Q v H')->t σ H Q
theorem r9{k j:Nat}{f:Addr}{fd:QY}{st:Stmt}{ps:List Str}{Fn:List D->Option D}{x:Str}{e:Expr}{es:List Expr}{g:Ev->Option (List D)}{p:Pos}
  (A:FA X.K X.mg x st ps f fd) (F:FnOk X.prog X.w X.K X.mg X.base CX0 j f fd ps (spF X.K Fn)) (hr:Room k X.A) (hj:j<=k) (ha:DA X (e::es) g) (hg:Gl X x:=by rfl) (hdb:(x==("__debug__" : Str))=false:=by decide)
  (he:Qj (e::es) X.env=(false,eval e X.env)::Qj es X.env:=by rfl) (hpl:(Ja pos (Qj es X.env)).any (·.1)=false:=by rfl):DEm X (.Call (.Name x p) (e::es) [] pos) (aL Fn g) g:=by
 obtain⟨t,a1,a2⟩:=ha;refine⟨_,oK (E:=E0) F (hr.mono hj) hg A.mgf A.fu.kp A.bi .nil vL a1 hdb he hpl,λHe G H σ ε d as Q gh E ef eg q=>?_⟩;obtain⟨ds,e1,ef⟩:=ar ef;rw[e1] at eg;cases eg;refine a2 He G H σ ε as _ gh E e1 λvs G1 H1 g1 d1=>?_;show spF X.K Fn (vs++[]) H1 Q E0;rw[Q6];obtain⟨Gm,c,d2⟩:=d1.cl;refine⟨Gm,as,d,c.1.trans g1.gh,d2,ef,λv G2 H2 g2 dv=>?_⟩;have s1:aO G1 H2:=g1.gh.trans g2.hh;refine q v G2 (uni G1 G2) H2 ⟨g1.hh.trans g2.hh,g1.gg.trans vD,sC s1 g2.gh,λb o h n=>?_⟩ (vC s1 g2.gh) dv λb xs h=>?_
 ·have n1:=g1.fo b o h n
  exact qx n1 (g2.fo b o (g1.hh b o h) (c.1.free n1))
 ·cases e3:Gm b with
  |some o=>
   have e4:=g2.gg b o e3;rw[h] at e4;cases e4;obtain⟨es,w1,w2⟩:=c.2 b xs e3;exact .inr ⟨es,w1.mono g2.gg,w2⟩
  |none=>
   refine .inl ?_;cases e4:H b with
   |none=>rfl
   |some o=>
    have:=g2.fo b o (g1.hh b o e4) e3;rw[h] at this;cases this
theorem cM{k j:Nat}{st:Stmt}{ps:List Str}{Fn:List D->Option D}{x:Str}{e:Expr}{es:List Expr}{g:Ev->Option (List D)}{p:Pos}(H:OkD ⟨X.prog,X.w,X.K,X.mg⟩ x st ps j Fn)(hr:Room k X.A)(ha:DA X (e::es) g)(hj:j<=k:=by decide)(hg:Gl X x:=by rfl)(hdb:(x==("__debug__" : Str))=false:=by decide)(he:Qj (e::es) X.env=(false,eval e X.env)::Qj es X.env:=by rfl)(hpl:(Ja pos (Qj es X.env)).any (·.1)=false:=by rfl) :
  DEm X (.Call (.Name x p) (e::es) [] pos) (aL Fn g) g:=let⟨_,_,A,F⟩:=H;r9 A.1 (F _) hr hj ha hg hdb he hpl
def MZ(X:Cx)(i:Nat)(ms:List Stmt)(f:Ev->List D->Prop):Prop:=∀(rest:List Stmt) (tr:TS),PSs X rest tr->∃t,PSs X (ms++rest) t/\∀(He Gv G H0 H:Hp) (σ:L2.St) (ε:Ev) (v:V) (d:D) (as:List D) (W:Ends),
 aO G H->aO Gv G->aO H0 H->EnvD X.K He G H σ ε->ε[i]?=some (.dat d)->σ[i]?=some (some v)->Den X.K Gv v d->Nw X.K Gv H0 as->f ε as->(∀H',aO H0 H'->tr W σ H')->t W σ H
def vy(ft:Ev->Option Bool)(f:Ev->List D->Prop):Ev->List D->Prop:=λε as=>ft ε=some false/\f ε as
theorem vt{i:Nat}{ft:Ev->Option Bool}{f:Ev->List D->Prop}{body:List Stmt}{ms:List Stmt}(hc:DT X c ft)(hm:MZ X i ms f):MZ X i (.If c body [] pos::ms) (vy ft f):=λrest tr h=>by
 obtain⟨tc,c1,c2⟩:=hc;obtain⟨t,a1,a2⟩:=hm rest tr h;refine⟨_,fM (qD c1 pB jd) a1,λHe Gv G H0 H σ ε v d as W gh sv hh E e1 e2 dv nw ef q=>?_⟩;refine c2 He G H σ ε false _ gh E ef.1 λG1 H1 g1=>?_;rw[if_neg Qh];exact a2 He Gv G1 H0 H1 σ ε v d as W g1.gh (sv.trans g1.gg) (hh.trans g1.hh) (E.grow g1) e1 e2 dv nw ef.2 q
def zIf(ft:Ev->Option Bool)(f:Ev->List D->Prop):Ev->List D->Prop:=λε as=>ft ε=some false\/ft ε=some true/\f ε as
theorem yN{i:Nat}{ft:Ev->Option Bool}{f:Ev->List D->Prop}{ms:List Stmt}(hc:DT X c ft)(hm:MZ X i ms f):MZ X i [.If c ms [] pos] (zIf ft f):=λrest tr h=>by
 obtain⟨tc,c1,c2⟩:=hc;obtain⟨t,a1,a2⟩:=hm [] _ jd;rw[Q6] at a1;refine⟨_,fM (qD c1 a1 jd) h,λHe Gv G H0 H σ ε v d as W gh sv hh E e1 e2 dv nw ef q=>?_⟩;rcases ef with ef | ⟨ef,e3⟩
 ·refine c2 He G H σ ε false _ gh E ef λG1 H1 g1=>?_
  rw[if_neg Qh];exact q H1 (hh.trans g1.hh)
 ·refine c2 He G H σ ε true _ gh E ef λG1 H1 g1=>?_
  rw[if_pos rfl];exact a2 He Gv G1 H0 H1 σ ε v d as _ g1.gh (sv.trans g1.gg) (hh.trans g1.hh) (E.grow g1) e1 e2 dv nw e3 q
theorem xy{st:Stmt}{t:TS}(h:PS X st t):PS X st (λW σ H=>∀pins s,Inv X pins σ H s->t W σ H):=λpins s σ H D I q=>h pins s σ H D I (q pins s I)
open Classical in
noncomputable def tD (i:Nat) (fe:Ev->Option D) (fl:Ev->Option (List D)) (fz:Ev->List D->Prop) (gr:Ev->Option Fl):Ev->Option Fl:=λε=>(fe ε).bind λd=>(fl ε).bind λas=>
 if gk ε=true/\i<ε.length/\fz (ε.set i (.dat d)) as then gr (ε.set i .un) else none
theorem vp{i:Nat}{fe:Ev->Option D}{fl:Ev->Option (List D)}{fz:Ev->List D->Prop}{gr:Ev->Option Fl}{ε:Ev}{d:D}{as:List D}(h1:fe ε=some d)(h2:fl ε=some as)(h3:gk ε=true)(h4:i<ε.length)(h5:fz (ε.set i (.dat d)) as) :
  tD i fe fl fz gr ε=gr (ε.set i .un):=by
 unfold tD;rw[h1,h2];exact if_pos ⟨h3,h4,h5⟩
theorem uS(i:Nat){x:Str}{e:Expr}{ms:List Stmt}{px pos1:Pos}{fe:Ev->Option D}{fl:Ev->Option (List D)}{fz:Ev->List D->Prop}{gr:Ev->Option Fl}
  (hN:X.N.Nodup) (he:DEm X e fe fl) (hm:MZ X i ms fz) (hrest:DSs X rest gr)
  (hi:X.N[i]?=some x:=by rfl) (hx:Loc X.env.scope x:=by first | exact Jj rfl | exact Q3 rfl) (hs:Ju e (some (.Name x px)) pos1.line X.env=pure false:=by rfl)
  (hf:X.fn x=true\/X.env.scope.names.lookup x=some .local:=by first | exact .inl rfl | exact .inr rfl) :
  DSs X (.Assign [.Name x px] e pos1::(ms++rest)) (tD i fe fl fz gr):=by
 obtain⟨te,e1,e2⟩:=he;obtain⟨tr,r1,r2⟩:=hrest;obtain⟨t,a1,a2⟩:=hm _ _ r1;refine⟨_,fM (m9 hN hi hx e1 hs hf) a1,λHe Ge G H σ ε q W S ef P=>?_⟩;obtain⟨d,e3,ef⟩:=ar ef;obtain⟨as,e4,ef⟩:=ar ef;split at ef
 case isFalse=>cases ef
 case isTrue hyp=>
  obtain⟨no,il,fz1⟩:=hyp;refine e2 He G H σ ε d as _ S.g.gh S.e e3 e4 λv Gv G1 H1 g1 sv dv nw=>?_;have il':i<σ.length:=by rw[S.e.len];exact il
  refine a2 He Gv G1 H H1 (σ.set i (some v)) (ε.set i (.dat d)) v d as W g1.gh sv g1.hh ((S.e.grow g1).put (dv.mono sv)) ?_ ?_ dv nw fz1 λH' hh=>?_
  ·rw[Qq,if_pos rfl,if_pos il]
  ·rw[Qq,if_pos rfl,if_pos il']
  ·exact r2 He Ge G H' _ _ q W ⟨⟨S.g.hh.trans hh,S.g.gg,S.g.gh.trans hh,S.g.fo⟩,(S.e.drop i v).over (pD no i) (aO.refl _)⟩ ef P
end
def oo:D->Bool
 |.non=>true
 |.bl _=>true
 |.int _=>true
 |.str _=>true
 |_=>false
theorem sx{K:Qc}{G G':Hp}{v:V}{d:D}(h:Den K G v d)(f:oo d=true):Den K G' v d:=by
 cases h with
 |non=>exact .non
 |bl b=>exact .bl b
 |int i=>exact .int i
 |str x=>exact .str x
 |tup=>cases f
 |lst=>cases f
 |dic=>cases f
theorem pq{K:Qc}{G G':Hp}{vs:List V}{ds:List D}(h:DenL K G vs ds):ds.all oo=true->DenL K G' vs ds:=
 DenL.ind (P:=λvs ds=>ds.all oo=true->DenL K G' vs ds) (λ_=>.nil) (λ{x d xs ds} h _ y f=>by
  rw[Zb,J6] at f
  exact .cons (sx h f.1) (y f.2)) h
section
variable{X:Cx}{elt tg iter:Expr}{ifs:List Expr}{sc:Scope}{cl:List (Str×Addr)}{tn fr:List Str}{ix:List Nat}{pos:Pos}{fi:Ev->Option (List D)}{g:D->Ev->Option Ev}{ft:Ev->Option Bool}{fe:Ev->Option D}
def ub(i k:Nat)(f:Ev->Option (List D)):Ev->Option Fl:=λε=>(f (fz1 k ε)).bind λrs=>if rs.all oo=true then some (.nx (ε.set i (.dat (.lst rs)))) else none
theorem wB(i k:Nat){y:Str}{py spos:Pos}(hc:X.calm=true)(hN:X.N.Nodup)(hi:DI X tg iter fi)(S:CompSc X sc cl tn fr ix)(ng:NoG g)
  (hg:∀C s₃ H₃ fp pins,DG (cxC X sc cl (tn++fr) C s₃ H₃ fp pins) tg g) (ht:∀C s₃ H₃ fp pins,DIf (cxC X sc cl (tn++fr) C s₃ H₃ fp pins) ifs ft) (he:∀C s₃ H₃ fp pins,DE (cxC X sc cl (tn++fr) C s₃ H₃ fp pins) elt fe)
  (hiN:X.N[i]?=some y:=by rfl) (hx:Loc X.env.scope y:=by first | exact Jj rfl | exact Q3 rfl) (hf:X.fn y=true\/X.env.scope.names.lookup y=some .local:=by first | exact .inl rfl | exact .inr rfl) (hsw:Ju (.ListComp elt [⟨tg,iter,ifs,0⟩] sc pos) (some (.Name y py)) spos.line X.env=pure true:=by rfl)
  (hs:∀x,Jr iter X.env x=pure x:=by intro _;rfl):DS X (.Assign [.Name y py] (.ListComp elt [⟨tg,iter,ifs,0⟩] sc pos) spos) (ub i k (eLC fi tn.length ix g ft fe)):=by
 refine⟨λW σ H=>∃He G ε rs,aO G H/\EnvD X.K He G H σ ε/\eLC fi tn.length ix g ft fe ε=some rs/\∀a xs G' H',Grow G H G' H'->H a=none->G' a=none->H' a=some (.lst xs)->DenL X.K G' xs rs->W.nx (σ.set i (some (.ref a))) H',λpins s σ H W I hq=>?_,λHe Ge G H σ ε r W S' e P=>?_⟩
 ·obtain⟨He,G,ε,rs,gh,E,ef,q⟩:=hq
  obtain⟨ds,ei,ef⟩:=ar ef;split at ef
  ·rename_i hz
   rw[exec_Assign_Name_used _ _ _ _ hsw];refine Qa (JT (Qa ?_));show Qg _ X.A (do let _<-comprehension (.ListComp elt [⟨tg,iter,ifs,0⟩] sc pos) sc X.env _ (newList []) false (eval iter X.env) (some (assign (.Name y py) X.env))) _ _ s
   refine Qa (Q0 (wpAny_comprehension_free (use:=some (assign (.Name y py) X.env)) (Q:=λ_ s'=>SP X pins W .next s') rfl hs S.clos S.kind S.names
    (k7 (Nv:=λ_ _ _=>True) (λ_ _ _ _ _ _ _ _=>trivial) (RR:=λacc C=>compPost (Qi X.prog X.w) X.A X.xe (some (assign (.Name y py) X.env)) (λ_ s'=>SP X pins W .next s') acc C) hc hi S ng hg ht (λC s H f p=>(he C s H f p).p) I gh E ei hz ef ?_)) (λ_ s' hq=>Qf (Qf hq)) λ_ _ e=>e)
   intro a xs G' H' C oC m s' IX hNs hC pC gr hn gn ha hd _;show Qg _ X.A (assign (.Name y py) X.env (.ref a)) _ _ _;refine wpAny_assign_Name (cz IX hN hiN hx (v:=.ref a) (u:=.ref a) rfl (λs2 I2=>?_) hf);obtain⟨q1,_⟩:=IX.pin (C,oC) (Qm _ (Qm _ (QO.mpr rfl)));obtain⟨w1,_⟩:=I2.pin (C,oC) (Qm _ (Qm _ (QO.mpr rfl)));refine⟨m,?_,λh' hs'=>⟨_,H',lh I2 hC pC hs',q a xs G' H' gr hn gn ha hd⟩⟩;obtain⟨o,es,ep,h1,h2⟩:=hNs;rw[q1] at h1;cases h1;exact⟨oC,es,ep,w1,h2⟩
  ·cases ef
 ·obtain⟨rs,e1,e⟩:=ar e
  split at e
  ·rename_i fl
   cases e;obtain⟨G1,S1⟩:=S'.freeze k;refine⟨He,G1,_,rs,S1.g.gh,S1.e,e1,λa xs G' H' gr hn gn ha hd=>?_⟩;have gn0:G a=none:=S'.g.gh.free hn
   have g2:Grow G H (upd G a (.lst xs)) H':=⟨gr.hh,λb o e=>by rw[aA (aG e gn0)];exact e,λb o e=>by
    unfold upd at e
    by_cases z:b=a
    ·rw[if_pos z] at e;cases e;rw[z];exact ha
    ·rw[if_neg z] at e;exact gr.hh _ _ (S'.g.gh b o e),λb o e z=>by rw[aA (aG e hn)];exact z⟩
   exact P _ _ H' ⟨S'.g.trans g2,(S'.e.grow g2).put (.lst (.inl ay) (pq hd fl))⟩
  ·cases e
end
section
variable{X:Cx}{c:Expr}{fc:Ev->Option D}
def zAs(i:Nat)(fc:Ev->Option D):Ev->List D->Prop:=λε as=>∃es dc,ε[i]?=some (.dat (.lst es))/\fc ε=some dc/\qK as es/\es.length<1000000
theorem yM(i:Nat){x:Str}{p1 p3 p4:Pos}(hc:DE X c fc)
  (hi:X.N[i]?=some x:=by rfl) (hvx:Vis X.env.scope x:=by first | exact Jj rfl | exact Q3 (Jj rfl) | exact Q3 (Q3 rfl)) (hdx:(x==("__debug__" : Str))=false:=by decide) (hcx:(x==("__classdict__" : Str))=false:=by decide)
  (hb1:JU (.Name x p1) "append" X.env (eval (.Name x p1) X.env)=eval (.Name x p1) X.env:=by rfl)
  (hfew:((Ja p4 (Qj [c] X.env)).all (λx=>!x.1)&&(backToKw p4 (Zl [] X.env)).all (λx=>x.1.isSome)
   && decide (([c]:List Expr).length+([]:List Keyword).length+(if([]:List Keyword).isEmpty then 0 else 1)<30))=true:=by rfl)
  (hl1:(p3.endLine==p4.line)=true:=by rfl) (hst:Qj [c] X.env=(false,eval c X.env)::Qj [] X.env:=by rfl) (hpl:(Ja p4 (Qj [] X.env)).any (·.1)=false:=by rfl)
  (hw1:Ju (.Call (.Attribute (.Name x p1) "append" p3) [c] [] p4) none p4.line X.env=pure false:=by rfl) :
  MZ X i [.Expr (.Call (.Attribute (.Name x p1) "append" p3) [c] [] p4) p4] (zAs i fc):=λrest tr h=>by
 obtain⟨tc,c1,c2⟩:=hc;have s1:=xy (oy (pos:=p4) (vQ PySem.F.plainAttrs_list PySem.F.slot_list_append PySem.F.type_list_append ig (ik (i:=i) (pos:=p1) hi hvx hdx hcx) (b4 c1 du hst) hb1 hfew hl1 hst hpl) hw1);refine⟨_,fM s1 h,λHe Gv G H0 H σ ε v d as W gh sv hh E e1 e2 dv nw ef q=>?_⟩;obtain⟨es,dc,z1,z5,f2,z4⟩:=ef;rw[e1] at z1;cases z1;intro pins s I;refine⟨v,e2,?_⟩;have ua:∃p,v=.ref p:=by cases dv;exact⟨_,rfl⟩
 obtain⟨r,rfl⟩:=ua;obtain⟨ys,w1,w2,w3⟩:=wg I gh sv nw dv f2;have hr:H r=some (.lst ys):=gh _ _ (sv _ _ w1);refine⟨.inl ⟨rfl,ys,SqL.of hr⟩,?_⟩;refine c2 He G H σ ε dc _ gh E z5 λw G2 H2 g2 dw=>?_;refine⟨r,ys,w,rfl,rfl,g2.hh _ _ hr,by rw[w2.length];exact JN z4 (by decide),?_⟩;refine q _ λb o hb=>?_;rw[aA (aG hb w3)];exact g2.hh _ _ (hh _ _ hb)
end
open PySem.W
section tree
variable{α β:Type}
end tree
def zU(ns:List Int):D:=.tup (ns.map D.int)
theorem jc{es:List D}{l:List Int}:¬ LsIn es (zU l):=λz=>by
 cases z with
 |tup m h=>
  obtain⟨i,_,rfl⟩:=Q9.mp m;cases h
theorem lp{es ds:List D}(h:LsIn es (.lst ds))(n:∀d∈ds,¬ LsIn es d):es=ds:=by
 cases h with
 |here=>rfl
 |lst m h=>exact absurd h (n _ m)
theorem wA{es:List D}{k:Sk}(z:LsIn es (skD k)):es=hL k.hs\/es=iL k.cs\/es=wL k.ws\/es=shL k.ss:=by
 unfold skD at z;cases z with
 |tup m h=>
  simp only[Ql,List.mem_nil_iff,or_false] at m;rcases m with rfl | rfl | rfl | rfl
  ·refine .inl (lp h λd hd=>?_)
   obtain⟨x,_,rfl⟩:=Q9.mp hd;exact jc (l:=[x.x,x.y,x.t])
  ·refine .inr (.inl (lp h λd hd=>?_))
   obtain⟨x,_,rfl⟩:=Q9.mp hd;exact λz=>nomatch z
  ·refine .inr (.inr (.inl (lp h λd hd=>?_)))
   obtain⟨x,_,rfl⟩:=Q9.mp hd;exact jc (l:=[x.h,x.z,x.dx,x.dy])
  ·refine .inr (.inr (.inr (lp h λd hd=>?_)))
   obtain⟨x,_,rfl⟩:=Q9.mp hd;exact jc (l:=[x.a,x.b,x.c,x.d,x.e,x.f,x.t,x.u])
def Odd(d:D):Prop:=(∃xs,d=.lst xs)\/∃xs,d=.tup xs/\xs.length≠3/\xs.length≠4/\xs.length≠8
theorem tU{d:D}{r:List D}{k:Sk}(o:Odd d):¬ LsIn (d::r) (skD k):=λz=>by
 rcases wA z with e | e | e | e
 ·cases g:k.hs with
  |nil=>rw[g] at e;cases e
  |cons x l=>
   rw[g] at e;injection e with e _
   rcases o with⟨xs,rfl⟩ | ⟨xs,rfl,n3,n4,n8⟩
   ·cases e
   ·injection e with e;rw[e] at n3;exact n3 rfl
 ·cases g:k.cs with
  |nil=>rw[g] at e;cases e
  |cons x l=>
   rw[g] at e;injection e with e _
   rcases o with⟨xs,rfl⟩ | ⟨xs,rfl,n3,n4,n8⟩<;>cases e
 ·cases g:k.ws with
  |nil=>rw[g] at e;cases e
  |cons x l=>
   rw[g] at e;injection e with e _
   rcases o with⟨xs,rfl⟩ | ⟨xs,rfl,n3,n4,n8⟩
   ·cases e
   ·injection e with e;rw[e] at n4;exact n4 rfl
 ·cases g:k.ss with
  |nil=>rw[g] at e;cases e
  |cons x l=>
   rw[g] at e;injection e with e _
   rcases o with⟨xs,rfl⟩ | ⟨xs,rfl,n3,n4,n8⟩
   ·cases e
   ·injection e with e;rw[e] at n8;exact n8 rfl
end Dn
namespace Lw
open PySem PySem.Spec PyProof.Rows L2 Dn
open Fl
def top(i:Nat):Stmt:=PySem.Challenge.pw_ballastbook_k12_a_row_of_orders_flown.main.body.getD i (.Pass ⟨0,0,0,0⟩)
abbrev gx:List D->Option (List (Str×D)):=fD2 "at" "why"
abbrev gB(Z:Wq):Prop:=vF Z "Stopped" 1 gx ["at","why"]
abbrev jm:List Str:=["_law_script","_law_many","_law_row_here","_law_seed","_law_cell","_law_rest","_law_k"]
abbrev cB:List Str:=["_law_script","_law_many"]
def h9:Ev->Option Fl:=(sIf (av gtI (aa 5) (eC (.int 0))) (aE (cC 2 (e2 aK (aa 5) (eC (.int 1000)))) (a9 5 (e2 bT (aa 5) (eC (.int 1000))))) bg)
def g9:Ev->Option Fl:=(aE (a9 3 (e2 aK (e2 aJ (e2 aJ (e2 bh (aa 3) (eC (.int 69621))) (e2 aK (aa 4) (eC (.int 999983)))) (eC (.int 7))) (eC (.int 2147483629)))) (aE (a9 5 (e2 bu (aa 4) (e2 l6 (eC (.int 10)) (eC (.int 18))))) (aE (sIf (av ltI (aa 5) (eC (.int 0))) (cC 2 (e2 aK (aa 4) (eC (.int 1000)))) bg) (cR (cq (eC (.int 60))) (ak 6) (h9)))))
def gO:Ev->Option Fl:=(sIf (av ltI (ck cy (aa 2)) (aa 1)) (aE (a9 3 (e2 aK (e2 aJ (e2 aJ (e2 aJ (e2 l6 (aa 3) (eC (.int 3))) (e2 bh (eC (.int 40692)) (aa 3))) (e2 bh (eC (.int 7)) (aa 6))) (eC (.int 5))) (eC (.int 2147483629)))) (cC 2 (e2 aK (e2 bT (aa 3) (eC (.int 1009))) (eC (.int 1000))))) bg)
def fC:Ev->Option Fl:=(aE (ez 2 (cv aF)) (aE (a9 3 (eC (.int 29))) (aE (cR (f9 (eF (eSl (aa 0) cX (bj (eC (.int 63)))))) (ak 4) (g9)) (aE (cR (cq (au 1)) (ak 6) (gO)) (aZ (eF (eSl (aa 2) cX (bj (aa 1)))))))))
def dj:List D->Option D:=fnD jm cB fC
abbrev fv(Z:Wq):Prop:=OkD Z "_law_numbers" (top 19) cB 1 dj
abbrev lV:List Str:=["_law_d"]
abbrev dH:List Str:=["_law_d"]
def mP:Ev->Option Fl:=(aE (sIf (av bc (e2 aK (e2 ixD (aa 0) (eC (.int 0))) (eC (.int 5))) (eC (.int 1))) (aZ (bx (ae (e2 bu (e2 ixD (aa 0) (eC (.int 1))) (eC (.int 500))) (ae (e2 bu (e2 ixD (aa 0) (eC (.int 2))) (eC (.int 500))) aF)))) bg) (aE (sIf (av bc (e2 aK (e2 ixD (aa 0) (eC (.int 0))) (eC (.int 5))) (eC (.int 2))) (aZ (bx (ae (e2 bh (e2 bu (e2 aK (e2 ixD (aa 0) (eC (.int 1))) (eC (.int 3))) (eC (.int 1))) (eC (.int 985))) (ae (e2 bh (e2 bu (e2 aK (e2 ixD (aa 0) (eC (.int 2))) (eC (.int 3))) (eC (.int 1))) (eC (.int 985))) aF)))) bg) (aZ (bx (ae (eC (.int 0)) (ae (eC (.int 0)) aF))))))
def fP:List D->Option D:=fnD lV dH mP
abbrev i5(Z:Wq):Prop:=OkD Z "_law_base" (top 21) dH 1 fP
abbrev nr:List Str:=["_law_d","_law_base_here","_law_x","_law_y","_law_low"]
abbrev eX:List Str:=["_law_d","_law_base_here"]
def nu:Ev->Option Fl:=(aE (a9 2 (e2 bu (e2 aJ (e2 ixD (aa 1) (eC (.int 0))) (e2 aK (e2 ixD (aa 0) (eC (.int 0))) (eC (.int 9)))) (eC (.int 4)))) (aE (a9 3 (e2 bu (e2 aJ (e2 ixD (aa 1) (eC (.int 1))) (e2 aK (e2 ixD (aa 0) (eC (.int 1))) (eC (.int 9)))) (eC (.int 4)))) (aE (a9 4 (e2 aK (e2 ixD (aa 0) (eC (.int 4))) (eC (.int 6)))) (aZ (bx (ae (au 2) (ae (au 3) (ae (e2 aJ (aa 2) (e2 aK (e2 ixD (aa 0) (eC (.int 2))) (eC (.int 4)))) (ae (e2 aJ (aa 3) (e2 aK (e2 ixD (aa 0) (eC (.int 3))) (eC (.int 4)))) (ae (au 4) (ae (e2 aJ (aa 4) (e2 aK (e2 ixD (aa 0) (eC (.int 5))) (e2 bu (eC (.int 6)) (aa 4)))) aF)))))))))))
def gI:List D->Option D:=fnD nr eX nu
abbrev jh(Z:Wq):Prop:=OkD Z "_law_box" (top 22) eX 1 gI
abbrev mZ:List Str:=["_law_d","_law_base_here","_law_hour","_law_hills","_law_j","_law_cool","_law_one","_law_winds","_law_w","_law_first","_law_shuts","_law_s"]
abbrev eM:List Str:=["_law_d","_law_base_here","_law_hour"]
def j5:Ev->Option Fl:=(cC 3 (bx (ae (e2 bu (e2 aJ (e2 ixD (aa 1) (eC (.int 0))) (e2 aK (e2 ixD (aa 0) (e2 aJ (e2 bh (eC (.int 3)) (aa 4)) (eC (.int 1)))) (eC (.int 9)))) (eC (.int 4))) (ae (e2 bu (e2 aJ (e2 ixD (aa 1) (eC (.int 1))) (e2 aK (e2 ixD (aa 0) (e2 aJ (e2 bh (eC (.int 3)) (aa 4)) (eC (.int 2)))) (eC (.int 9)))) (eC (.int 4))) (ae (e2 aJ (eC (.int 1)) (e2 aK (e2 ixD (aa 0) (e2 aJ (e2 bh (eC (.int 3)) (aa 4)) (eC (.int 3)))) (eC (.int 5)))) aF)))))
def jW:Ev->Option Fl:=(aE (a9 6 (e2 ixD (eF (cv (ae (e2 aK (e2 ixD (aa 0) (e2 aJ (eC (.int 16)) (aa 4))) (eC (.int 24))) (ae (e2 aK (e2 aJ (aa 2) (e2 aK (e2 ixD (aa 0) (e2 aJ (eC (.int 16)) (aa 4))) (eC (.int 4)))) (eC (.int 24))) aF)))) (e2 aK (e2 bT (e2 ixD (aa 0) (eC (.int 0))) (eC (.int 30))) (eC (.int 2))))) (sIf (av (inD true) (aa 6) (aa 5)) (cC 5 (au 6)) bg))
def j4:Ev->Option Fl:=(aE (a9 8 (eF (eSl (aa 0) (bj (e2 aJ (eC (.int 22)) (e2 bh (eC (.int 4)) (aa 4)))) (bj (e2 aJ (eC (.int 26)) (e2 bh (eC (.int 4)) (aa 4))))))) (aE (a9 9 (e2 ixD (eF (cv (ae (e2 aK (e2 ixD (aa 8) (eC (.int 0))) (eC (.int 24))) (ae (e2 aK (e2 aJ (aa 2) (e2 aK (e2 bT (e2 ixD (aa 8) (eC (.int 0))) (eC (.int 7))) (eC (.int 6)))) (eC (.int 24))) aF)))) (e2 aK (e2 bT (e2 ixD (aa 8) (eC (.int 1))) (eC (.int 6))) (eC (.int 2))))) (cC 7 (bx (ae (au 9) (ae (e2 aK (e2 ixD (aa 8) (eC (.int 1))) (eC (.int 6))) (ae (e2 bu (e2 aK (e2 ixD (aa 8) (eC (.int 2))) (eC (.int 5))) (eC (.int 2))) (ae (e2 bu (e2 aK (e2 ixD (aa 8) (eC (.int 3))) (eC (.int 5))) (eC (.int 2))) aF))))))))
def jV:Ev->Option Fl:=(aE (a9 11 (eF (eSl (aa 0) (bj (e2 aJ (eC (.int 91)) (e2 bh (eC (.int 8)) (aa 4)))) (bj (e2 aJ (eC (.int 99)) (e2 bh (eC (.int 8)) (aa 4))))))) (aE (a9 9 (e2 ixD (eF (cv (ae (e2 aK (e2 ixD (aa 11) (eC (.int 6))) (eC (.int 25))) (ae (au 2) aF)))) (e2 aK (e2 ixD (aa 11) (eC (.int 7))) (eC (.int 2))))) (cC 10 (e2 CatI.qV (aL gI (ae (au 11) (ae (au 1) aF))) (bx (ae (au 9) (ae (e2 aJ (aa 9) (e2 aK (e2 bT (e2 ixD (aa 11) (eC (.int 7))) (eC (.int 2))) (e2 bu (eC (.int 25)) (aa 9)))) aF)))))))
def nK:Ev->Option Fl:=(aE (ez 3 (cv aF)) (aE (cR (cq (e2 aK (e2 ixD (aa 0) (eC (.int 0))) (eC (.int 6)))) (ak 4) (j5)) (aE (ez 5 (cv aF)) (aE (cR (cq (e2 aK (e2 bT (e2 ixD (aa 0) (eC (.int 0))) (eC (.int 6))) (eC (.int 5)))) (ak 4) (jW)) (aE (ez 7 (cv aF)) (aE (sIf (av gtI (e2 aK (e2 ixD (aa 0) (eC (.int 21))) (eC (.int 4))) (eC (.int 0))) (ez 7 (eLC (cq (eC (.int 6))) 1 [0] (ak 0) lg (bx (ae (eC (.int 0)) (ae (au 0) (ae (e2 bu (e2 aK (e2 ixD (aa 1) (e2 aJ (eC (.int 78)) (e2 bh (eC (.int 2)) (aa 0)))) (eC (.int 5))) (eC (.int 2))) (ae (e2 bu (e2 aK (e2 ixD (aa 1) (e2 aJ (eC (.int 79)) (e2 bh (eC (.int 2)) (aa 0)))) (eC (.int 5))) (eC (.int 2))) aF))))))) bg) (aE (cR (cq (e2 aK (e2 bT (e2 ixD (aa 0) (eC (.int 21))) (eC (.int 4))) (eC (.int 14)))) (ak 4) (j4)) (aE (ez 10 (cv aF)) (aE (cR (cq (e2 aK (e2 ixD (aa 0) (eC (.int 90))) (eC (.int 4)))) (ak 4) (jV)) (sFz 10 (sFz 7 (sFz 5 (sFz 3 (aZ (bx (ae (au 3) (ae (au 5) (ae (au 7) (ae (au 10) aF)))))))))))))))))))
def gy:List D->Option D:=fnD mZ eM nK
abbrev jL(Z:Wq):Prop:=OkD Z "_law_sky" (top 23) eM 2 gy
abbrev ky(Z:Wq):Prop:=OkD Z "wind_at" (top 12) fS 1 eB
abbrev mO(Z:Wq):Prop:=OkD Z "led_to" (top 15) ib 2 jC
abbrev dQ(Z:Wq):Prop:=OkD Z "why_not_ordered" (top 14) bS 1 cw
abbrev iU(Z:Wq):Prop:=OkD Z "ground_at" (top 4) dU 1 dM
abbrev mG(Z:Wq):Prop:=OkD Z "inside" (top 2) hZ 1 ic
abbrev kF(Z:Wq):Prop:=OkD Z "shut_at" (top 6) fT 2 f6
abbrev fg(Z:Wq):Prop:=OkD Z "why_not_stand" (top 7) b7 3 cT
abbrev ou(Z:Wq):Prop:=OkD Z "tried" (top 16) i_ 4 kU
abbrev uG:List Str:=["sky","hour","state","orders","told","at","order","why","after"]
abbrev jf:List Str:=["sky","hour","state","orders"]
def bX:Ev->Option Fl:=(aE (gF (aL kU (ae (au 0) (ae (e2 aJ (aa 1) (aa 5)) (ae (e2 ixD (aa 4) (kZ (eC (.int 1)))) (ae (au 6) aF))))) (cY 2 (ax (ak 7) (ax (ak 8) bw)))) (aE (sIf (av d_ (aa 7) (eC (.str ""))) (nh "Stopped" gx (ae (au 5) (ae (au 7) aF))) bg) (cC 4 (au 8))))
def eJ:Ev->Option Fl:=(aE (ez 4 (cv (ae (au 2) aF))) (aE (cR (tM (au 3)) (fj 2 (ax (ak 5) (ax (ak 6) bw))) (bX)) (sFz 4 (aZ (au 4)))))
def F_flown:List D->Option Out:=fnX uG jf eJ
abbrev oa(Z:Wq):Prop:=OkX Z "flown" (top 17) jf 5 F_flown
abbrev jR:List Str:=["_law_sky_here","_law_hour","_law_state_here","_law_orders","_law_found","e"]
abbrev cJ:List Str:=["_law_sky_here","_law_hour","_law_state_here","_law_orders"]
def gc:Ev->Option Fl:=(aE (a9 4 (eC .non)) (aE (xl 4 5 "Stopped" F_flown (ae (au 0) (ae (au 1) (ae (au 2) (ae (au 3) aF)))) (r_ "at" "why")) (aZ (au 4))))
def cH:List D->Option D:=fnD jR cJ gc
abbrev gd(Z:Wq):Prop:=OkD Z "_law_answer" (top 33) cJ 6 cH
abbrev iY:List Str:=["_law_found","_law_due"]
abbrev bV:List Str:=["_law_found","_law_due"]
def iW(rec:List D->Option D):Ev->Option Fl:=(aE (sIf (fq (fm (dk (c_ "list") (aa 1))) (fm (dk (c_ "tuple") (aa 1)))) (aE (sIf (fq (av d_ (dk (c_ "list") (aa 0)) (dk (c_ "list") (aa 1))) (av d_ (dk (c_ "tuple") (aa 0)) (dk (c_ "tuple") (aa 1)))) (aZ (eC (.bl false))) bg) (aZ (gQ (e2 bc (ck cy (aa 0)) (ck cy (aa 1))) (aL mx (ae (eF (eLC (rO (ae (au 0) (ae (au 1) aF))) 2 [] (fj 2 (ax (ak 0) (ax (ak 1) bw))) lg (aL rec (ae (au 0) (ae (au 1) aF))))) aF))))) bg) (aE (sIf (fq (av (isD false) (aa 0) (eC .non)) (av (isD false) (aa 1) (eC .non))) (aZ (gQ (e2 (isD false) (aa 0) (eC .non)) (e2 (isD false) (aa 1) (eC .non)))) bg) (aE (sIf (fq (av d_ (dk (c_ "bool") (aa 0)) (dk (c_ "bool") (aa 1))) (av d_ (dk (c_ "int") (aa 0)) (dk (c_ "int") (aa 1)))) (aZ (eC (.bl false))) bg) (aZ (e2 bc (aa 0) (aa 1))))))
def cu:Nat->List D->Option D
 |0=>λ_=>none
 |n+1=>fnD iY bV (iW (cu n))
def cO:List D->Option D:=cu 4
abbrev iR(Z:Wq):Prop:=OkD Z "_law_same" (top 20) bV 4 cO
abbrev k8:List Str:=["_law_d","_law_base_here","_law_most","_law_x","_law_y"]
abbrev c7:List Str:=["_law_d","_law_base_here","_law_most"]
def hG:Ev->Option Fl:=(aE (a9 3 (e2 bu (e2 aJ (e2 ixD (aa 1) (eC (.int 0))) (e2 aK (e2 ixD (aa 0) (eC (.int 0))) (eC (.int 7)))) (eC (.int 3)))) (aE (a9 4 (e2 bu (e2 aJ (e2 ixD (aa 1) (eC (.int 1))) (e2 aK (e2 ixD (aa 0) (eC (.int 1))) (eC (.int 7)))) (eC (.int 3)))) (aZ (bx (ae (au 3) (ae (au 4) (ae (e2 aK (e2 ixD (aa 0) (eC (.int 2))) (eC (.int 6))) (ae (e2 aK (e2 ixD (aa 0) (eC (.int 3))) (e2 aJ (aa 2) (eC (.int 1)))) (ae (e2 aK (e2 ixD (aa 0) (eC (.int 4))) (e2 aJ (aa 2) (eC (.int 1)))) aF)))))))))
def eQ:List D->Option D:=fnD k8 c7 hG
abbrev h_(Z:Wq):Prop:=OkD Z "_law_state" (top 24) c7 1 eQ
abbrev iK(Z:Wq):Prop:=OkD Z "_law_wind" (top 25) dF 1 dX
abbrev gC(Z:Wq):Prop:=OkD Z "_law_led" (top 30) eO 2 cE
abbrev f_(Z:Wq):Prop:=OkD Z "_law_ground" (top 26) cK 1 cI
abbrev ke(Z:Wq):Prop:=OkD Z "_law_in" (top 27) fX 1 fW
abbrev iX(Z:Wq):Prop:=OkD Z "_law_shut" (top 28) dO 2 dW
abbrev gL(Z:Wq):Prop:=OkD Z "_law_stand" (top 29) cZ 3 eW
abbrev jQ(Z:Wq):Prop:=OkD Z "_law_why" (top 31) eN 4 bK
abbrev n5:List Str:=["_law_sky_here","_law_hour","_law_state_here","_law_d","_law_orders","_law_due","_law_room","_law_at","_law_some","_law_order","_law_why_here","_law_rest"]
abbrev eK:List Str:=["_law_sky_here","_law_hour","_law_state_here","_law_d"]
def eA:Ev->Option Fl:=(cC 4 (e2 ixD (bx (ae (eC (.str "up")) (ae (eC (.str "level")) (ae (eC (.str "down")) aF)))) (e2 aK (e2 ixD (aa 3) (e2 aJ (eC (.int 19)) (aa 11))) (eC (.int 3)))))
def bP:Ev->Option Fl:=(aE (ub 8 5 (eLC (ko (bx (ae (eC (.str "up")) (ae (eC (.str "level")) (ae (eC (.str "down")) aF))))) 1 [0,1,7,5] (ak 0) (av bc (aL bK (ae (au 1) (ae (e2 aJ (aa 2) (aa 3)) (ae (e2 ixD (aa 4) (kZ (eC (.int 1)))) (ae (au 0) aF))))) (eC (.str ""))) (au 0))) (aE (a9 9 (e2 ixD (bx (ae (eC (.str "up")) (ae (eC (.str "level")) (ae (eC (.str "down")) aF)))) (e2 aK (e2 ixD (aa 3) (e2 aJ (eC (.int 1)) (aa 7))) (eC (.int 3))))) (aE (sIf (bz (av gtI (ck cy (aa 8)) (eC (.int 0))) (av gtI (e2 aK (e2 ixD (aa 3) (e2 aJ (eC (.int 10)) (aa 7))) (eC (.int 7))) (eC (.int 0)))) (a9 9 (e2 ixD (aa 8) (e2 aK (e2 ixD (aa 3) (e2 aJ (eC (.int 1)) (aa 7))) (ck cy (aa 8))))) bg) (aE (cC 4 (au 9)) (aE (a9 10 (aL bK (ae (au 0) (ae (e2 aJ (aa 1) (aa 7)) (ae (e2 ixD (aa 5) (kZ (eC (.int 1)))) (ae (au 9) aF)))))) (aE (sIf (av d_ (aa 10) (eC (.str ""))) (aE (cR (cq (e2 aK (e2 bT (e2 ixD (aa 3) (eC (.int 0))) (eC (.int 9))) (e2 bu (e2 aJ (eC (.int 1)) (aa 6)) (ck cy (aa 4))))) (ak 11) (eA)) (aZ (bx (ae (ck (λd=>ui [d]) (aa 4)) (ae (bx (ae (au 7) (ae (au 10) aF))) aF))))) bg) (cC 5 (aL cE (ae (au 0) (ae (e2 aJ (aa 1) (aa 7)) (ae (e2 ixD (aa 5) (kZ (eC (.int 1)))) (ae (au 9) aF))))))))))))
def gJ:Ev->Option Fl:=(aE (ez 4 (cv aF)) (aE (ez 5 (cv (ae (au 2) aF))) (aE (a9 6 (aL kh (ae (eC (.int 8)) (ae (e2 bu (eC (.int 24)) (aa 1)) aF)))) (aE (cR (cq (aL kh (ae (e2 aK (e2 ixD (aa 3) (eC (.int 0))) (eC (.int 9))) (ae (au 6) aF)))) (ak 7) (bP)) (sFz 5 (aZ (bx (ae (ck (λd=>ui [d]) (aa 4)) (ae (au 5) aF)))))))))
def gE:List D->Option D:=fnD n5 eK gJ
abbrev jq(Z:Wq):Prop:=OkD Z "_law_row" (top 34) eK 5 gE
abbrev iT(Z:Wq):Prop:=OkD Z "_law_copy" (top 32) dE 1 fw
abbrev y4:List Str:=["_law_script","_law_numbers_here","_law_base_here","_law_hour","_law_sky_here","_law_k","_law_state_here","_law_orders","_law_due","_law_handed","_law_found"]
abbrev oB:List Str:=["_law_script"]
noncomputable def gU:Ev->Option Fl:=(aE (a9 6 (aL eQ (ae (eF (eSl (aa 1) (bj (e2 aJ (eC (.int 130)) (e2 bh (eC (.int 6)) (aa 5)))) (bj (e2 aJ (eC (.int 136)) (e2 bh (eC (.int 6)) (aa 5)))))) (ae (au 2) (ae (eC (.int 6)) aF))))) (aE (gF (aL gE (ae (au 4) (ae (au 3) (ae (au 6) (ae (eF (eSl (aa 1) (bj (e2 aJ (eC (.int 142)) (e2 bh (eC (.int 28)) (aa 5)))) (bj (e2 aJ (eC (.int 170)) (e2 bh (eC (.int 28)) (aa 5)))))) aF))))) (cY 2 (ax (ak 7) (ax (ak 8) bw)))) (aE (a9 9 (aL fw (ae (au 4) aF))) (tD 10 (aL cH (ae (au 9) (ae (au 3) (ae (au 6) (ae (au 7) aF))))) (ae (au 9) (ae (au 3) (ae (au 6) (ae (au 7) aF)))) (vy (kK (fm (aL cO (ae (au 10) (ae (au 8) aF))))) (zIf (fm (dk (c_ "list") (aa 10))) (zAs 10 (au 6)))) (sIf (fq (kK (fm (aL cO (ae (aL cH (ae (au 9) (ae (au 3) (ae (au 6) (ae (au 7) aF))))) (ae (au 8) aF))))) (av d_ (aa 9) (aa 4))) (aZ (eC (.bl false))) bg)))))
noncomputable def vA:Ev->Option Fl:=(aE (a9 1 (aL dj (ae (au 0) (ae (eC (.int 200)) aF)))) (aE (a9 2 (aL fP (ae (eF (eSl (aa 1) cX (bj (eC (.int 3))))) aF))) (aE (a9 3 (e2 aK (e2 ixD (aa 1) (eC (.int 3))) (eC (.int 25)))) (aE (a9 4 (aL gy (ae (eF (eSl (aa 1) (bj (eC (.int 10))) (bj (eC (.int 130))))) (ae (au 2) (ae (au 3) aF))))) (aE (cR (cq (eC (.int 2))) (ak 5) (gU)) (aZ (eC (.bl true))))))))
noncomputable def ow:List D->Option D:=fnD y4 oB vA
abbrev qz(Z:Wq):Prop:=OkD Z "law" (top 35) oB 7 ow
structure Md(Z:Wq):Prop where
 b_all:Z.mg "all" = none
 b_bool:Z.mg "bool" = none
 b_enumerate:Z.mg "enumerate" = none
 b_int:Z.mg "int" = none
 b_isinstance:Z.mg "isinstance" = none
 b_len:Z.mg "len" = none
 b_list:Z.mg "list" = none
 b_max:Z.mg "max" = none
 b_min:Z.mg "min" = none
 b_range:Z.mg "range" = none
 b_tuple:Z.mg "tuple" = none
 b_zip:Z.mg "zip" = none
 g_TOP_HEIGHT:∃t,Z.mg "TOP_HEIGHT" = some (.int 5 t)
theorem jG{Z:Wq}(R:FX Z "_law_numbers" (top 19) cB)(M:Md Z):fv Z:=bdF R λd _ _ _ _ _ _ _ _ hr=>(aj (fO 2 d (cW aC)) (aj (a8 3 d ag) (aj (cG Q7 rfl (fR (DF.de (iJ (af 0) fV (bI (DE.db ag))))) (az 4 d) (aj (a8 3 d (ai aQ (DE.db (ai aP (DE.db (ai aP (DE.db (ai bR (af 3) (DE.db ag))) (DE.db (ai aQ (af 4) (DE.db ag))))) (DE.db ag))) (DE.db ag))) (aj (a8 5 d (ai br (af 4) (DE.db (ai sF (DE.db ag) (DE.db ag))))) (aj (bp (aN kQ (af 5) (DE.db ag) (aH _)) (aw (dr 2 (ai aQ (af 4) (DE.db ag)))) aT) (aw (cG Q7 rfl (bY ag M.b_range) (az 6 d) (aw (bp (aN kJ (af 5) (DE.db ag) (aH _)) (aj (dr 2 (ai aQ (af 5) (DE.db ag))) (aw (a8 5 d (ai da (af 5) (DE.db ag))))) aT)))))))) (aj (cG Q7 rfl (bY (aq 1) M.b_range) (az 6 d) (aw (bp (aN kQ (DE.db (fE (af 2) M.b_len)) (af 1) (aH _)) (aj (a8 3 d (ai aQ (DE.db (ai aP (DE.db (ai aP (DE.db (ai aP (DE.db (ai sF (af 3) (DE.db ag))) (DE.db (ai bR (DE.db ag) (af 3))))) (DE.db (ai bR (DE.db ag) (af 6))))) (DE.db ag))) (DE.db ag))) (aw (dr 2 (ai aQ (DE.db (ai da (af 3) (DE.db ag))) (DE.db ag))))) aT))) (aw (aS (DF.de (iJ (af 2) fV (bI (af 1))))))))))
theorem lY{Z:Wq}(R:FX Z "_law_base" (top 21) dH)(M:Md Z):i5 Z:=bdF R λd _ _ _ _ _ _ _ _ hr=>(aj (bp (aN (bo hr) (DE.db (ai aQ (DE.db (aD (af 0) (DE.db ag))) (DE.db ag))) (DE.db ag) (aH _)) (aw (aS (bC (ah (ai br (DE.db (aD (af 0) (DE.db ag))) (DE.db ag)) (ah (ai br (DE.db (aD (af 0) (DE.db ag))) (DE.db ag)) aC))))) aT) (aj (bp (aN (bo hr) (DE.db (ai aQ (DE.db (aD (af 0) (DE.db ag))) (DE.db ag))) (DE.db ag) (aH _)) (aw (aS (bC (ah (ai bR (DE.db (ai br (DE.db (ai aQ (DE.db (aD (af 0) (DE.db ag))) (DE.db ag))) (DE.db ag))) (DE.db ag)) (ah (ai bR (DE.db (ai br (DE.db (ai aQ (DE.db (aD (af 0) (DE.db ag))) (DE.db ag))) (DE.db ag))) (DE.db ag)) aC))))) aT) (aw (aS (bC (ah ag (ah ag aC)))))))
theorem nA{Z:Wq}(R:FX Z "_law_box" (top 22) eX)(M:Md Z):jh Z:=bdF R λd _ _ _ _ _ _ _ _ hr=>(aj (a8 2 d (ai br (DE.db (ai aP (DE.db (aD (af 1) (DE.db ag))) (DE.db (ai aQ (DE.db (aD (af 0) (DE.db ag))) (DE.db ag))))) (DE.db ag))) (aj (a8 3 d (ai br (DE.db (ai aP (DE.db (aD (af 1) (DE.db ag))) (DE.db (ai aQ (DE.db (aD (af 0) (DE.db ag))) (DE.db ag))))) (DE.db ag))) (aj (a8 4 d (ai aQ (DE.db (aD (af 0) (DE.db ag))) (DE.db ag))) (aw (aS (bC (ah (aq 2) (ah (aq 3) (ah (ai aP (af 2) (DE.db (ai aQ (DE.db (aD (af 0) (DE.db ag))) (DE.db ag)))) (ah (ai aP (af 3) (DE.db (ai aQ (DE.db (aD (af 0) (DE.db ag))) (DE.db ag)))) (ah (aq 4) (ah (ai aP (af 4) (DE.db (ai aQ (DE.db (aD (af 0) (DE.db ag))) (DE.db (ai br (DE.db ag) (af 4)))))) aC))))))))))))
theorem ni{Z:Wq}(R:FX Z "_law_sky" (top 23) eM)(M:Md Z)(h__law_box:jh Z):jL Z:=bdF R λd _ _ _ _ _ _ _ _ hr=>(aj (fO 3 d (cW aC)) (aj (cG Q7 rfl (bY (ai aQ (DE.db (aD (af 0) (DE.db ag))) (DE.db ag)) M.b_range) (az 4 d) (aw (dr 3 (bC (ah (ai br (DE.db (ai aP (DE.db (aD (af 1) (DE.db ag))) (DE.db (ai aQ (DE.db (aD (af 0) (DE.db (ai aP (DE.db (ai bR (DE.db ag) (af 4))) (DE.db ag))))) (DE.db ag))))) (DE.db ag)) (ah (ai br (DE.db (ai aP (DE.db (aD (af 1) (DE.db ag))) (DE.db (ai aQ (DE.db (aD (af 0) (DE.db (ai aP (DE.db (ai bR (DE.db ag) (af 4))) (DE.db ag))))) (DE.db ag))))) (DE.db ag)) (ah (ai aP (DE.db ag) (DE.db (ai aQ (DE.db (aD (af 0) (DE.db (ai aP (DE.db (ai bR (DE.db ag) (af 4))) (DE.db ag))))) (DE.db ag)))) aC))))))) (aj (fO 5 d (cW aC)) (aj (cG Q7 rfl (bY (ai aQ (DE.db (ai da (DE.db (aD (af 0) (DE.db ag))) (DE.db ag))) (DE.db ag)) M.b_range) (az 4 d) (aj (a8 6 d (aD (DE.db (DF.de (cW (ah (ai aQ (DE.db (aD (af 0) (DE.db (ai aP (DE.db ag) (af 4))))) (DE.db ag)) (ah (ai aQ (DE.db (ai aP (af 2) (DE.db (ai aQ (DE.db (aD (af 0) (DE.db (ai aP (DE.db ag) (af 4))))) (DE.db ag))))) (DE.db ag)) aC))))) (DE.db (ai aQ (DE.db (ai da (DE.db (aD (af 0) (DE.db ag))) (DE.db ag))) (DE.db ag))))) (aw (bp (aN qQ (af 6) (af 5) (by with_unfolding_all rfl)) (aw (dr 5 (aq 6))) aT)))) (aj (fO 7 d (cW aC)) (aj (bp (aN kJ (DE.db (ai aQ (DE.db (aD (af 0) (DE.db ag))) (DE.db ag))) (DE.db ag) (aH _)) (aw (xE 7 (tn:=["_law_level"]) (fr:=["_law_d"]) (ix:=[0]) rfl d (bY ag M.b_range) (eV (by rfl) (by exact⟨⟨rfl,rfl⟩,trivial⟩) (by exact⟨rfl,trivial⟩) (by rfl) (by rfl) (by rfl) (by rfl) (by rfl)) (b6 _) (λ_ _ _ _ _=>(az 0 (show(((["_law_level"]:List Str)++(["_law_d"]:List Str)):List Str).Nodup by decide +kernel))) (λ_ _ _ _ _=>og) (λ_ _ _ _ _=>(bC (ah ag (ah (aq 0) (ah (ai br (DE.db (ai aQ (DE.db (aD (af 1) (DE.db (ai aP (DE.db ag) (DE.db (ai bR (DE.db ag) (af 0))))))) (DE.db ag))) (DE.db ag)) (ah (ai br (DE.db (ai aQ (DE.db (aD (af 1) (DE.db (ai aP (DE.db ag) (DE.db (ai bR (DE.db ag) (af 0))))))) (DE.db ag))) (DE.db ag)) aC)))))))) aT) (aj (cG Q7 rfl (bY (ai aQ (DE.db (ai da (DE.db (aD (af 0) (DE.db ag))) (DE.db ag))) (DE.db ag)) M.b_range) (az 4 d) (aj (a8 8 d (DF.de (iJ (af 0) (bI (DE.db (ai aP (DE.db ag) (DE.db (ai bR (DE.db ag) (af 4)))))) (bI (DE.db (ai aP (DE.db ag) (DE.db (ai bR (DE.db ag) (af 4))))))))) (aj (a8 9 d (aD (DE.db (DF.de (cW (ah (ai aQ (DE.db (aD (af 8) (DE.db ag))) (DE.db ag)) (ah (ai aQ (DE.db (ai aP (af 2) (DE.db (ai aQ (DE.db (ai da (DE.db (aD (af 8) (DE.db ag))) (DE.db ag))) (DE.db ag))))) (DE.db ag)) aC))))) (DE.db (ai aQ (DE.db (ai da (DE.db (aD (af 8) (DE.db ag))) (DE.db ag))) (DE.db ag))))) (aw (dr 7 (bC (ah (aq 9) (ah (ai aQ (DE.db (aD (af 8) (DE.db ag))) (DE.db ag)) (ah (ai br (DE.db (ai aQ (DE.db (aD (af 8) (DE.db ag))) (DE.db ag))) (DE.db ag)) (ah (ai br (DE.db (ai aQ (DE.db (aD (af 8) (DE.db ag))) (DE.db ag))) (DE.db ag)) aC)))))))))) (aj (fO 10 d (cW aC)) (aj (cG Q7 rfl (bY (ai aQ (DE.db (aD (af 0) (DE.db ag))) (DE.db ag)) M.b_range) (az 4 d) (aj (a8 11 d (DF.de (iJ (af 0) (bI (DE.db (ai aP (DE.db ag) (DE.db (ai bR (DE.db ag) (af 4)))))) (bI (DE.db (ai aP (DE.db ag) (DE.db (ai bR (DE.db ag) (af 4))))))))) (aj (a8 9 d (aD (DE.db (DF.de (cW (ah (ai aQ (DE.db (aD (af 11) (DE.db ag))) (DE.db ag)) (ah (aq 2) aC))))) (DE.db (ai aQ (DE.db (aD (af 11) (DE.db ag))) (DE.db ag))))) (aw (dr 10 (ai vY (DE.db (cF h__law_box hr (ah (aq 11) (ah (aq 1) aC)))) (DE.db (bC (ah (aq 9) (ah (ai aP (af 9) (DE.db (ai aQ (DE.db (ai da (DE.db (aD (af 11) (DE.db ag))) (DE.db ag))) (DE.db (ai br (DE.db ag) (af 9)))))) aC)))))))))) (aw (kn 10 (kn 7 (kn 5 (kn 3 (aS (bC (ah (aq 3) (ah (aq 5) (ah (aq 7) (ah (aq 10) aC))))))))))))))))))))
theorem qq{Z:Wq}(R:FX Z "wind_at" (top 12) fS)(M:Md Z):ky Z:=bdF R λd _ _ _ _ _ _ _ _ hr=>(aj (a8 3 d fQ) (aj (cG Q7 rfl (fR (aq 0)) (az 4 d) (aj (bp (DW.dt (jP (aN (fN hr) (DE.db (aD (af 4) (DE.db ag))) (af 2) (aH _)) (gA (aN kJ (DE.db (aD (af 4) (DE.db ag))) (af 1) (aH _))))) (aw mr) aT) (aw (bp (DW.dt (jP (aN ku (af 3) (DE.db fQ) (aH _)) (gA (aN yz (DE.db (aD (af 4) (DE.db ag))) (DE.db (aD (af 3) (DE.db ag))) (aH _))))) (aw (a8 3 d (aq 4))) aT)))) (aj (bp (aN ku (af 3) (DE.db fQ) (aH _)) (aw (aS (bC (ah ag (ah ag aC))))) aT) (aw (aS (bC (ah (aD (af 3) (DE.db ag)) (ah (aD (af 3) (DE.db ag)) aC))))))))
theorem rD{Z:Wq}(R:FX Z "led_to" (top 15) ib)(M:Md Z)(h_wind_at:ky Z):mO Z:=bdF R λd _ _ _ _ _ _ _ _ hr=>(aj (dq (aq 0) (di rfl (aB (az 4 d) (aB (az 5 d) (aB (az 6 d) (aB (az 7 d) bL)))))) (aj (dq (aq 2) (di rfl (aB (az 8 d) (aB (az 9 d) (aB (az 10 d) (aB (az 11 d) (aB (az 12 d) bL))))))) (aj (bp (aN (bo hr) (af 3) (DE.db aU) (aH _)) (aw (si 10 11 d (ah (ai aP (af 10) (DE.db ag)) (ah (ai br (af 11) (DE.db ag)) aC)))) (aw (bp (aN (bo hr) (af 3) (DE.db aU) (aH _)) (aw (si 10 12 d (ah (ai br (af 10) (DE.db ag)) (ah (ai br (af 12) (DE.db ag)) aC)))) aT))) (aj (bp (aN q_ (af 1) (af 5) (by with_unfolding_all rfl)) (aw (a8 10 d (cP (lH rfl) M.b_max (by rfl) (ah (ai br (af 10) (DE.db ag)) (ah ag aC))))) aT) (aj (dq (cF h_wind_at hr (ah (aq 6) (ah (aq 1) (ah (aq 10) aC)))) (di rfl (aB (az 13 d) (aB (az 14 d) bL)))) (aw (aS (bC (ah (ai aP (af 8) (af 13)) (ah (ai aP (af 9) (af 14)) (ah (aq 10) (ah (aq 11) (ah (aq 12) aC)))))))))))))
theorem hU{Z:Wq}(R:FX Z "why_not_ordered" (top 14) bS)(M:Md Z):dQ Z:=let⟨_,gi_TOP_HEIGHT⟩:=M.g_TOP_HEIGHT;bdF R λd _ _ _ _ _ _ _ _ hr=>(aj (dq (aq 0) (di rfl (aB (az 2 d) (aB (az 3 d) (aB (az 4 d) (aB (az 5 d) (aB (az 6 d) bL))))))) (aj (bp (DW.dt (cj (aN (bo hr) (af 1) (DE.db aU) (aH _)) (bM (aN kQ (af 5) (DE.db ag) (aH _))))) (aw (aS aU)) aT) (aj (bp (DW.dt (cj (aN (bo hr) (af 1) (DE.db aU) (aH _)) (bM (aN kQ (af 6) (DE.db ag) (aH _))))) (aw (aS aU)) aT) (aj (bp (DW.dt (cj (aN (bo hr) (af 1) (DE.db aU) (aH _)) (bM (aN (bo hr) (af 4) (DE.db (uI rfl gi_TOP_HEIGHT)) (aH _))))) (aw (aS aU)) aT) (aj (bp (DW.dt (cj (aN (bo hr) (af 1) (DE.db aU) (aH _)) (bM (aN (bo hr) (af 4) (DE.db ag) (aH _))))) (aw (aS aU)) aT) (aw (aS aU)))))))
theorem mD{Z:Wq}(R:FX Z "ground_at" (top 4) dU)(M:Md Z):iU Z:=bdF R λd _ _ _ _ _ _ _ _ hr=>(aj (rF 3 (tn:=["hill_x","hill_y","top"]) (fr:=["x","y"]) (ix:=[1,2]) rfl d (fR (aq 0)) (eV (by rfl) (by exact⟨⟨rfl,rfl⟩,⟨rfl,rfl⟩,trivial⟩) (by exact⟨rfl,rfl,trivial⟩) (by rfl) (by rfl) (by rfl) (by rfl) (by rfl)) (n6 (cN (b6 _) (cN (b6 _) (cN (b6 _) ly)))) (λ_ _ _ _ _=>(lx rfl (aB (az 0 (show(((["hill_x","hill_y","top"]:List Str)++(["x","y"]:List Str)):List Str).Nodup by decide +kernel)) (aB (az 1 (show(((["hill_x","hill_y","top"]:List Str)++(["x","y"]:List Str)):List Str).Nodup by decide +kernel)) (aB (az 2 (show(((["hill_x","hill_y","top"]:List Str)++(["x","y"]:List Str)):List Str).Nodup by decide +kernel)) bL))))) (λ_ _ _ _ _=>(gX (DW.dt (cj (aN (bo hr) (af 0) (af 3) (aH _)) (bM (aN (bo hr) (af 1) (af 4) (aH _))))))) (λ_ _ _ _ _=>(aq 2))) (aw (aS (rg (aq 3) ag rfl M.b_max))))
theorem rN{Z:Wq}(R:FX Z "inside" (top 2) hZ)(M:Md Z):mG Z:=bdF R λd _ _ _ _ _ _ _ _ hr=>(aj (dq (aq 0) (di rfl (aB (az 4 d) (aB (az 5 d) (aB (az 6 d) (aB (az 7 d) (aB (az 8 d) (aB (az 9 d) bL)))))))) (aw (aS (eU (qP cL cL (af 4) (af 1) (af 6)) (eU (qP cL cL (af 5) (af 2) (af 7)) (kS (qP cL cL (af 8) (af 3) (af 9))))))))
theorem pH{Z:Wq}(R:FX Z "shut_at" (top 6) fT)(M:Md Z)(h_inside:mG Z):kF Z:=bdF R λd _ _ _ _ _ _ _ _ hr=>(aj (cG Q7 rfl (fR (aq 0)) (az 5 d) (aw (bp (DW.dt (cj (zf cL cL (DE.db (aD (af 5) (DE.db ag))) (af 1) (DE.db (aD (af 5) (DE.db ag)))) (bM (cS (DE.db (cF h_inside hr (ah (nH (af 5) fV (bI (DE.db ag))) (ah (aq 2) (ah (aq 3) (ah (aq 4) aC)))))))))) (aw (aS jr)) aT))) (aw (aS jr)))
theorem i8{Z:Wq}(R:FX Z "why_not_stand" (top 7) b7)(M:Md Z)(h_ground_at:iU Z)(h_shut_at:kF Z):fg Z:=bdF R λd _ _ _ _ _ _ _ _ hr=>(aj (dq (aq 0) (di rfl (aB (az 3 d) (aB (az 4 d) (aB (az 5 d) (aB (az 6 d) bL)))))) (aj (dq (aq 2) (di rfl (aB (az 7 d) (aB (az 8 d) (aB (az 9 d) (aB (az 10 d) (aB (az 11 d) bL))))))) (aj (bp (aN kQ (af 9) (DE.db (cF h_ground_at hr (ah (aq 3) (ah (aq 7) (ah (aq 8) aC))))) (aH _)) (aw (aS aU)) aT) (aj (bp (cS (DE.db (cF h_shut_at hr (ah (aq 6) (ah (aq 1) (ah (aq 7) (ah (aq 8) (ah (aq 9) aC)))))))) (aw (aS aU)) aT) (aw (aS aU))))))
theorem tO{Z:Wq}(R:FX Z "tried" (top 16) i_)(M:Md Z)(h_led_to:mO Z)(h_why_not_ordered:dQ Z)(h_why_not_stand:fg Z):ou Z:=bdF R λd _ _ _ _ _ _ _ _ hr=>(aj (a8 4 d (cF h_led_to hr (ah (aq 0) (ah (aq 1) (ah (aq 2) (ah (aq 3) aC)))))) (aj (a8 5 d (cF h_why_not_ordered hr (ah (aq 2) (ah (aq 3) aC)))) (aj (bp (aN (bo hr) (af 5) (DE.db aU) (aH _)) (aw (a8 5 d (cF h_why_not_stand hr (ah (aq 0) (ah (ai aP (af 1) (DE.db ag)) (ah (aq 4) aC)))))) aT) (aw (aS (bC (ah (aq 5) (ah (aq 4) aC))))))))
theorem tj{Z:Wq}(R:FX Z "flown" (top 17) jf)(M:Md Z)(h_tried:ou Z)(hc_Stopped:gB Z):oa Z:=let⟨C_Stopped,hC_Stopped,hG_Stopped,hn_Stopped⟩:=hc_Stopped;bdX R λd _ _ _ _ _ _ _ _ hr=>(aj (fO 4 d (cW (ah (aq 2) aC))) (aj (cG Ex.lP rfl (xx (aq 3) M.b_enumerate) (lx rfl (aB (az 5 d) (aB (az 6 d) bL))) (aj (dq (cF h_tried hr (ah (aq 0) (ah (ai aP (af 1) (af 5)) (ah (aD (af 4) (DE.db (iG (DE.db ag)))) (ah (aq 6) aC))))) (di rfl (aB (az 7 d) (aB (az 8 d) bL)))) (aj (bp (aN (fN hr) (af 7) (DE.db aU) (aH _)) (aw (qS hC_Stopped hr rfl (ah (aq 5) (ah (aq 7) aC)))) aT) (aw (dr 4 (aq 8)))))) (aw (kn 4 (aS (aq 4))))))
theorem jZ{Z:Wq}(R:FX Z "_law_answer" (top 33) cJ)(M:Md Z)(h_flown:oa Z)(hc_Stopped:gB Z):gd Z:=let⟨C_Stopped,hC_Stopped,hG_Stopped,hn_Stopped⟩:=hc_Stopped;bdF R λd _ _ _ _ _ _ _ _ hr=>(aj (a8 4 d fQ) (aj (xw h_flown hC_Stopped hr d (ah (aq 0) (ah (aq 1) (ah (aq 2) (ah (aq 3) aC)))) (xD hG_Stopped (hn_Stopped "at" (by decide)) (hn_Stopped "why" (by decide))) (λ_ _ z=>z) rfl rfl (i:=4) (ie:=5)) (aw (aS (aq 4)))))
theorem iM{Z:Wq}{f:Addr}{fd:QY}(R:FA Z.K Z.mg "_law_same" (top 20) bV f fd)(M:Md Z):∀(n:Nat) (base:Heap),FnOk Z.P Z.w Z.K Z.mg base CX0 (0+n) f fd bV (spF Z.K (cu n))
 |0,_=>uj
 |n+1,base=>by
  have GR:=iM R M n base;have sc:FnScope iY bV (aI (top 20)):=⟨rfl,rfl,rfl,by decide +kernel,rfl,by decide +kernel,by decide +kernel⟩;have d:=sc.nd;exact oq R.fu sc λcdv A outer s H E hr=>(aj (bp (DW.dt (jP (cS (DE.db (dC (T:="list") (by simp) (af 1) M.b_isinstance M.b_list (by rfl)))) (gA (cS (DE.db (dC (T:="tuple") (by simp) (af 1) M.b_isinstance M.b_tuple (by rfl))))))) (aj (bp (DW.dt (jP (aN (fN hr) (DE.db (dC (T:="list") (by simp) (af 0) M.b_isinstance M.b_list (by rfl))) (DE.db (dC (T:="list") (by simp) (af 1) M.b_isinstance M.b_list (by rfl))) (aH _)) (gA (aN (fN hr) (DE.db (dC (T:="tuple") (by simp) (af 0) M.b_isinstance M.b_tuple (by rfl))) (DE.db (dC (T:="tuple") (by simp) (af 1) M.b_isinstance M.b_tuple (by rfl))) (aH _))))) (aw (aS jr)) aT) (aw (aS (eU (dB (bo hr) (DE.db (fE (af 0) M.b_len)) (DE.db (fE (af 1) M.b_len)) (aH _)) (kS (cP (xN rfl) M.b_all (by rfl) (ah (DF.de (sX (tn:=["_law_one","_law_other"]) (fr:=[]) (ix:=[]) rfl (xT (ah (aq 0) (ah (aq 1) aC)) M.b_zip) (eV (by rfl) (by exact trivial) (by exact trivial) (by rfl) (by rfl) (by rfl) (by rfl) (by rfl)) (n6 (cN (b6 _) (cN (b6 _) ly))) (λ_ _ _ _ _=>(lx rfl (aB (az 0 (show(((["_law_one","_law_other"]:List Str)++([]:List Str)):List Str).Nodup by decide +kernel)) (aB (az 1 (show(((["_law_one","_law_other"]:List Str)++([]:List Str)):List Str).Nodup by decide +kernel)) bL)))) (λ_ _ _ _ _=>og) (λ_ _ _ _ _=>(lR R GR hr (Qn _) (ah (aq 0) (ah (aq 1) aC)))))) aC))))))) aT) (aj (bp (DW.dt (jP (aN ku (af 0) (DE.db fQ) (aH _)) (gA (aN ku (af 1) (DE.db fQ) (aH _))))) (aw (aS (eU (dB ku (af 0) (DE.db fQ) (aH _)) (kS (dB ku (af 1) (DE.db fQ) (aH _)))))) aT) (aj (bp (DW.dt (jP (aN (fN hr) (DE.db (dC (T:="bool") (by simp) (af 0) M.b_isinstance M.b_bool (by rfl))) (DE.db (dC (T:="bool") (by simp) (af 1) M.b_isinstance M.b_bool (by rfl))) (aH _)) (gA (aN (fN hr) (DE.db (dC (T:="int") (by simp) (af 0) M.b_isinstance M.b_int (by rfl))) (DE.db (dC (T:="int") (by simp) (af 1) M.b_isinstance M.b_int (by rfl))) (aH _))))) (aw (aS jr)) aT) (aw (aS (dB (bo hr) (af 0) (af 1) (aH _)))))))
theorem mE{Z:Wq}(R:FX Z "_law_same" (top 20) bV)(M:Md Z):iR Z:=let⟨f,fd,A⟩:=R;⟨f,fd,A,λbase=>(iM A.1 M 4 base).mono (by decide)⟩
theorem lB{Z:Wq}(R:FX Z "_law_state" (top 24) c7)(M:Md Z):h_ Z:=bdF R λd _ _ _ _ _ _ _ _ hr=>(aj (a8 3 d (ai br (DE.db (ai aP (DE.db (aD (af 1) (DE.db ag))) (DE.db (ai aQ (DE.db (aD (af 0) (DE.db ag))) (DE.db ag))))) (DE.db ag))) (aj (a8 4 d (ai br (DE.db (ai aP (DE.db (aD (af 1) (DE.db ag))) (DE.db (ai aQ (DE.db (aD (af 0) (DE.db ag))) (DE.db ag))))) (DE.db ag))) (aw (aS (bC (ah (aq 3) (ah (aq 4) (ah (ai aQ (DE.db (aD (af 0) (DE.db ag))) (DE.db ag)) (ah (ai aQ (DE.db (aD (af 0) (DE.db ag))) (DE.db (ai aP (af 2) (DE.db ag)))) (ah (ai aQ (DE.db (aD (af 0) (DE.db ag))) (DE.db (ai aP (af 2) (DE.db ag)))) aC))))))))))
theorem lT{Z:Wq}(R:FX Z "_law_wind" (top 25) dF)(M:Md Z):iK Z:=bdF R λd _ _ _ _ _ _ _ _ hr=>(aj (rF 3 (tn:=["_law_k"]) (fr:=["_law_winds","_law_height","_law_hour"]) (ix:=[0,2,1]) rfl d (bY (fE (af 0) M.b_len) M.b_range) (eV (by rfl) (by exact⟨⟨rfl,rfl⟩,⟨rfl,rfl⟩,⟨rfl,rfl⟩,trivial⟩) (by exact⟨rfl,rfl,rfl,trivial⟩) (by rfl) (by rfl) (by rfl) (by rfl) (by rfl)) (b6 _) (λ_ _ _ _ _=>(az 0 (show(((["_law_k"]:List Str)++(["_law_winds","_law_height","_law_hour"]:List Str)):List Str).Nodup by decide +kernel))) (λ_ _ _ _ _=>(gX (DW.dt (cj (aN (bo hr) (DE.db (aD (DE.db (aD (af 1) (af 0))) (DE.db ag))) (af 2) (aH _)) (bM (aN cL (DE.db (aD (DE.db (aD (af 1) (af 0))) (DE.db ag))) (af 3) (aH _))))))) (λ_ _ _ _ _=>(bC (ah (aD (DE.db (aD (af 1) (af 0))) (DE.db ag)) (ah (aq 0) aC))))) (aj (bp (aN (bo hr) (DE.db (fE (af 3) M.b_len)) (DE.db ag) (aH _)) (aw (aS (bC (ah ag (ah ag aC))))) aT) (aw (aS (nH (DE.db (aD (af 0) (DE.db (aD (DE.db (cP (tS hr rfl) M.b_max (by rfl) (ah (aq 3) aC))) (DE.db ag))))) (bI (DE.db ag)) fV)))))
theorem mY{Z:Wq}(R:FX Z "_law_led" (top 30) eO)(M:Md Z)(h__law_wind:iK Z):gC Z:=bdF R λd _ _ _ _ _ _ _ _ hr=>(aj (dq (aq 2) (di rfl (aB (az 4 d) (aB (az 5 d) (aB (az 6 d) (aB (az 7 d) (aB (az 8 d) bL))))))) (aj (a8 9 d (wa hr aU (show DE _ _ (eC (.int 1)) from ag) aU (show DE _ _ (eC (.int 0)) from ag) aU (show DE _ _ (eC (.int (-1))) from(iG (DE.db ag))) (aq 3) (λ_ _=>rfl))) (aj (a8 6 d (ai aP (af 6) (af 9))) (aj (bp (DW.dt (cj (aN q_ (af 1) (DE.db (aD (af 0) (DE.db ag))) (by with_unfolding_all rfl)) (bM (aN kJ (af 6) (DE.db ag) (aH _))))) (aw (a8 6 d (ai br (af 6) (DE.db ag)))) aT) (aj (dq (cF h__law_wind hr (ah (aD (af 0) (DE.db ag)) (ah (aq 1) (ah (aq 6) aC)))) (di rfl (aB (az 10 d) (aB (az 11 d) bL)))) (aw (aS (bC (ah (ai aP (af 4) (af 10)) (ah (ai aP (af 5) (af 11)) (ah (aq 6) (ah (ai br (af 7) (DE.db (cP (lH rfl) M.b_max (by rfl) (ah ag (ah (aq 9) aC))))) (ah (ai br (af 8) (DE.db (cP (lH rfl) M.b_max (by rfl) (ah ag (ah (iG (af 9)) aC))))) aC)))))))))))))
theorem j6{Z:Wq}(R:FX Z "_law_ground" (top 26) cK)(M:Md Z):f_ Z:=bdF R λd _ _ _ _ _ _ _ _ hr=>(aw (aS (cP (vh rfl) M.b_max (by rfl) (ah (DF.de (wJ (DE.db (DF.de (cW (ah ag aC)))) (DE.db (DF.de (sX (tn:=["_law_a","_law_b","_law_top"]) (fr:=["_law_x","_law_y"]) (ix:=[1,2]) rfl (fR (aq 0)) (eV (by rfl) (by exact⟨⟨rfl,rfl⟩,⟨rfl,rfl⟩,trivial⟩) (by exact⟨rfl,rfl,trivial⟩) (by rfl) (by rfl) (by rfl) (by rfl) (by rfl)) (n6 (cN (b6 _) (cN (b6 _) (cN (b6 _) ly)))) (λ_ _ _ _ _=>(lx rfl (aB (az 0 (show(((["_law_a","_law_b","_law_top"]:List Str)++(["_law_x","_law_y"]:List Str)):List Str).Nodup by decide +kernel)) (aB (az 1 (show(((["_law_a","_law_b","_law_top"]:List Str)++(["_law_x","_law_y"]:List Str)):List Str).Nodup by decide +kernel)) (aB (az 2 (show(((["_law_a","_law_b","_law_top"]:List Str)++(["_law_x","_law_y"]:List Str)):List Str).Nodup by decide +kernel)) bL))))) (λ_ _ _ _ _=>(gX (DW.dt (cj (aN (bo hr) (af 0) (af 3) (aH _)) (bM (aN (bo hr) (af 1) (af 4) (aH _))))))) (λ_ _ _ _ _=>(aq 2))))))) aC))))
theorem pX{Z:Wq}(R:FX Z "_law_in" (top 27) fX)(M:Md Z):ke Z:=bdF R λd _ _ _ _ _ _ _ _ hr=>(aw (aS (eU (dB cL (DE.db (aD (af 0) (DE.db ag))) (af 1) (aH _)) (eU (dB cL (af 1) (DE.db (aD (af 0) (DE.db ag))) (aH _)) (eU (dB cL (DE.db (aD (af 0) (DE.db ag))) (af 2) (aH _)) (eU (dB cL (af 2) (DE.db (aD (af 0) (DE.db ag))) (aH _)) (eU (dB cL (DE.db (aD (af 0) (DE.db ag))) (af 3) (aH _)) (kS (dB cL (af 3) (DE.db (aD (af 0) (DE.db ag))) (aH _))))))))))
theorem l4{Z:Wq}(R:FX Z "_law_shut" (top 28) dO)(M:Md Z)(h__law_in:ke Z):iX Z:=bdF R λd _ _ _ _ _ _ _ _ hr=>(aw (aS (dB q_ (DE.db jr) (DE.db (DF.de (sX (tn:=["_law_one"]) (fr:=["_law_x","_law_y","_law_z","_law_hour"]) (ix:=[2,3,4,1]) rfl (fR (aq 0)) (eV (by rfl) (by exact⟨⟨rfl,rfl⟩,⟨rfl,rfl⟩,⟨rfl,rfl⟩,⟨rfl,rfl⟩,trivial⟩) (by exact⟨rfl,rfl,rfl,rfl,trivial⟩) (by rfl) (by rfl) (by rfl) (by rfl) (by rfl)) (b6 _) (λ_ _ _ _ _=>(az 0 (show(((["_law_one"]:List Str)++(["_law_x","_law_y","_law_z","_law_hour"]:List Str)):List Str).Nodup by decide +kernel))) (λ_ _ _ _ _=>(gX (DW.dt (cj (aN cL (DE.db (aD (af 0) (DE.db ag))) (af 4) (aH _)) (bM (aN cL (af 4) (DE.db (aD (af 0) (DE.db ag))) (aH _))))))) (λ_ _ _ _ _=>(cF h__law_in hr (ah (nH (af 0) fV (bI (DE.db ag))) (ah (aq 1) (ah (aq 2) (ah (aq 3) aC))))))))) (by with_unfolding_all rfl))))
theorem lu{Z:Wq}(R:FX Z "_law_stand" (top 29) cZ)(M:Md Z)(h__law_ground:f_ Z)(h__law_shut:iX Z):gL Z:=bdF R λd _ _ _ _ _ _ _ _ hr=>(aj (bp (aN kQ (DE.db (aD (af 2) (DE.db ag))) (DE.db (cF h__law_ground hr (ah (aD (af 0) (DE.db ag)) (ah (aD (af 2) (DE.db ag)) (ah (aD (af 2) (DE.db ag)) aC))))) (aH _)) (aw (aS aU)) aT) (aj (bp (cS (DE.db (cF h__law_shut hr (ah (aD (af 0) (DE.db ag)) (ah (aq 1) (ah (aD (af 2) (DE.db ag)) (ah (aD (af 2) (DE.db ag)) (ah (aD (af 2) (DE.db ag)) aC)))))))) (aw (aS aU)) aT) (aw (aS aU))))
theorem nt{Z:Wq}(R:FX Z "_law_why" (top 31) eN)(M:Md Z)(h__law_led:gC Z)(h__law_stand:gL Z):jQ Z:=bdF R λd _ _ _ _ _ _ _ _ hr=>(aj (bp (DW.dt (cj (aN (bo hr) (af 3) (DE.db aU) (aH _)) (bM (aN (bo hr) (DE.db (aD (af 2) (DE.db ag))) (DE.db ag) (aH _))))) (aw (aS aU)) aT) (aj (bp (DW.dt (cj (aN (bo hr) (af 3) (DE.db aU) (aH _)) (bM (aN (bo hr) (DE.db (aD (af 2) (DE.db ag))) (DE.db ag) (aH _))))) (aw (aS aU)) aT) (aj (bp (DW.dt (cj (aN (bo hr) (af 3) (DE.db aU) (aH _)) (bM (aN (bo hr) (DE.db (aD (af 2) (DE.db ag))) (DE.db ag) (aH _))))) (aw (aS aU)) aT) (aj (bp (DW.dt (cj (aN (bo hr) (af 3) (DE.db aU) (aH _)) (bM (aN (bo hr) (DE.db (aD (af 2) (DE.db ag))) (DE.db ag) (aH _))))) (aw (aS aU)) aT) (aw (aS (cF h__law_stand hr (ah (aq 0) (ah (ai aP (af 1) (DE.db ag)) (ah (cF h__law_led hr (ah (aq 0) (ah (aq 1) (ah (aq 2) (ah (aq 3) aC))))) aC))))))))))
theorem nJ{Z:Wq}(R:FX Z "_law_row" (top 34) eK)(M:Md Z)(h__law_why:jQ Z)(h__law_led:gC Z):jq Z:=bdF R λd _ _ _ _ _ _ _ _ hr=>(aj (fO 4 d (cW aC)) (aj (fO 5 d (cW (ah (aq 2) aC))) (aj (a8 6 d (cP (oR rfl) M.b_min (by rfl) (ah ag (ah (ai br (DE.db ag) (af 1)) aC)))) (aj (cG Q7 rfl (bY (cP (oR rfl) M.b_min (by rfl) (ah (ai aQ (DE.db (aD (af 3) (DE.db ag))) (DE.db ag)) (ah (aq 6) aC))) M.b_range) (az 7 d) (aj (wB 8 5 (tn:=["_law_one"]) (fr:=["_law_sky_here","_law_hour","_law_at","_law_due"]) (ix:=[0,1,7,5]) rfl d (xI (bC (ah aU (ah aU (ah aU aC))))) (eV (by rfl) (by exact⟨⟨rfl,rfl⟩,⟨rfl,rfl⟩,⟨rfl,rfl⟩,⟨rfl,rfl⟩,trivial⟩) (by exact⟨rfl,rfl,rfl,rfl,trivial⟩) (by rfl) (by rfl) (by rfl) (by rfl) (by rfl)) (b6 _) (λ_ _ _ _ _=>(az 0 (show(((["_law_one"]:List Str)++(["_law_sky_here","_law_hour","_law_at","_law_due"]:List Str)):List Str).Nodup by decide +kernel))) (λ_ _ _ _ _=>(gX (aN (bo hr) (DE.db (cF h__law_why hr (ah (aq 1) (ah (ai aP (af 2) (af 3)) (ah (aD (af 4) (DE.db (iG (DE.db ag)))) (ah (aq 0) aC)))))) (DE.db aU) (aH _)))) (λ_ _ _ _ _=>(aq 0))) (aj (a8 9 d (aD (DE.db (bC (ah aU (ah aU (ah aU aC))))) (DE.db (ai aQ (DE.db (aD (af 3) (DE.db (ai aP (DE.db ag) (af 7))))) (DE.db ag))))) (aj (bp (DW.dt (cj (aN kJ (DE.db (fE (af 8) M.b_len)) (DE.db ag) (aH _)) (bM (aN kJ (DE.db (ai aQ (DE.db (aD (af 3) (DE.db (ai aP (DE.db ag) (af 7))))) (DE.db ag))) (DE.db ag) (aH _))))) (aw (a8 9 d (aD (af 8) (DE.db (ai aQ (DE.db (aD (af 3) (DE.db (ai aP (DE.db ag) (af 7))))) (DE.db (fE (af 8) M.b_len))))))) aT) (aj (dr 4 (aq 9)) (aj (a8 10 d (cF h__law_why hr (ah (aq 0) (ah (ai aP (af 1) (af 7)) (ah (aD (af 5) (DE.db (iG (DE.db ag)))) (ah (aq 9) aC)))))) (aj (bp (aN (fN hr) (af 10) (DE.db aU) (aH _)) (aj (cG Q7 rfl (bY (ai aQ (DE.db (ai da (DE.db (aD (af 3) (DE.db ag))) (DE.db ag))) (DE.db (ai br (DE.db (ai aP (DE.db ag) (af 6))) (DE.db (fE (af 4) M.b_len))))) M.b_range) (az 11 d) (aw (dr 4 (aD (DE.db (bC (ah aU (ah aU (ah aU aC))))) (DE.db (ai aQ (DE.db (aD (af 3) (DE.db (ai aP (DE.db ag) (af 11))))) (DE.db ag))))))) (aw (aS (bC (ah (kd (af 4) M.b_tuple) (ah (bC (ah (aq 7) (ah (aq 10) aC))) aC)))))) aT) (aw (dr 5 (cF h__law_led hr (ah (aq 0) (ah (ai aP (af 1) (af 7)) (ah (aD (af 5) (DE.db (iG (DE.db ag)))) (ah (aq 9) aC)))))))))))))) (aw (kn 5 (aS (bC (ah (kd (af 4) M.b_tuple) (ah (aq 5) aC))))))))))
theorem mS{Z:Wq}(R:FX Z "_law_copy" (top 32) dE)(M:Md Z):iT Z:=bdF R λd _ _ _ _ _ _ _ _ hr=>(aw (aS (bC (ah (DF.de (ja (DE.db (aD (af 0) (DE.db ag))) M.b_list)) (ah (DF.de (ja (DE.db (aD (af 0) (DE.db ag))) M.b_list)) (ah (DF.de (ja (DE.db (aD (af 0) (DE.db ag))) M.b_list)) (ah (DF.de (ja (DE.db (aD (af 0) (DE.db ag))) M.b_list)) aC)))))))
theorem yE{Z:Wq}(R:FX Z "law" (top 35) oB)(M:Md Z)(h__law_numbers:fv Z)(h__law_base:i5 Z)(h__law_sky:jL Z)(h__law_answer:gd Z)(h__law_same:iR Z)(h__law_state:h_ Z)(h__law_row:jq Z)(h__law_copy:iT Z):qz Z:=bdF R λd _ _ _ _ _ _ _ _ hr=>(aj (a8 1 d (cF h__law_numbers hr (ah (aq 0) (ah ag aC)))) (aj (a8 2 d (cF h__law_base hr (ah (DF.de (iJ (af 1) fV (bI (DE.db ag)))) aC))) (aj (a8 3 d (ai aQ (DE.db (aD (af 1) (DE.db ag))) (DE.db ag))) (aj (a8 4 d (cF h__law_sky hr (ah (DF.de (iJ (af 1) (bI (DE.db ag)) (bI (DE.db ag)))) (ah (aq 2) (ah (aq 3) aC))))) (aj (cG Q7 rfl (bY ag M.b_range) (az 5 d) (aj (a8 6 d (cF h__law_state hr (ah (DF.de (iJ (af 1) (bI (DE.db (ai aP (DE.db ag) (DE.db (ai bR (DE.db ag) (af 5)))))) (bI (DE.db (ai aP (DE.db ag) (DE.db (ai bR (DE.db ag) (af 5)))))))) (ah (aq 2) (ah ag aC))))) (aj (dq (cF h__law_row hr (ah (aq 4) (ah (aq 3) (ah (aq 6) (ah (DF.de (iJ (af 1) (bI (DE.db (ai aP (DE.db ag) (DE.db (ai bR (DE.db ag) (af 5)))))) (bI (DE.db (ai aP (DE.db ag) (DE.db (ai bR (DE.db ag) (af 5)))))))) aC))))) (di rfl (aB (az 7 d) (aB (az 8 d) bL)))) (aj (a8 9 d (cF h__law_copy hr (ah (aq 4) aC))) (uS 10 d (cM h__law_answer hr (ah (aq 9) (ah (aq 3) (ah (aq 6) (ah (aq 7) aC))))) (vt (rX (cS (DE.db (cF h__law_same hr (ah (aq 10) (ah (aq 8) aC)))))) (yN (cS (DE.db (dC (T:="list") (by simp) (af 10) M.b_isinstance M.b_list (by rfl)))) (yM 10 (aq 6)))) (aw (bp (DW.dt (jP (rX (cS (DE.db (cF h__law_same hr (ah (cF h__law_answer hr (ah (aq 9) (ah (aq 3) (ah (aq 6) (ah (aq 7) aC))))) (ah (aq 8) aC)))))) (gA (aN (fN hr) (af 9) (af 4) (aH _))))) (aw (aS jr)) aT))))))) (aw (aS jr)))))))
theorem w_{Z:Wq}(M:Md Z)(Q_Stopped:gB Z)(A0:FX Z "_law_numbers" (top 19) cB)(A1:FX Z "_law_base" (top 21) dH)(A2:FX Z "_law_box" (top 22) eX)(A3:FX Z "_law_sky" (top 23) eM)(A4:FX Z "wind_at" (top 12) fS)(A5:FX Z "led_to" (top 15) ib)(A6:FX Z "why_not_ordered" (top 14) bS)(A7:FX Z "ground_at" (top 4) dU)(A8:FX Z "inside" (top 2) hZ)(A9:FX Z "shut_at" (top 6) fT)(A10:FX Z "why_not_stand" (top 7) b7)(A11:FX Z "tried" (top 16) i_)(A12:FX Z "flown" (top 17) jf)(A13:FX Z "_law_answer" (top 33) cJ)(A14:FX Z "_law_same" (top 20) bV)(A15:FX Z "_law_state" (top 24) c7)(A16:FX Z "_law_wind" (top 25) dF)(A17:FX Z "_law_led" (top 30) eO)(A18:FX Z "_law_ground" (top 26) cK)(A19:FX Z "_law_in" (top 27) fX)(A20:FX Z "_law_shut" (top 28) dO)(A21:FX Z "_law_stand" (top 29) cZ)(A22:FX Z "_law_why" (top 31) eN)(A23:FX Z "_law_row" (top 34) eK)(A24:FX Z "_law_copy" (top 32) dE)(A25:FX Z "law" (top 35) oB):qz Z:=
 have H0:=jG A0 M;have H1:=lY A1 M;have H2:=nA A2 M;have H3:=ni A3 M H2;have H4:=qq A4 M;have H5:=rD A5 M H4;have H6:=hU A6 M;have H7:=mD A7 M;have H8:=rN A8 M;have H9:=pH A9 M H8;have H10:=i8 A10 M H7 H9;have H11:=tO A11 M H5 H6 H10;have H12:=tj A12 M H11 Q_Stopped;have H13:=jZ A13 M H12 Q_Stopped;have H14:=mE A14 M;have H15:=lB A15 M;have H16:=lT A16 M;have H17:=mY A17 M H16;have H18:=j6 A18 M;have H19:=pX A19 M;have H20:=l4 A20 M H19;have H21:=lu A21 M H18 H20;have H22:=nt A22 M H17 H21;have H23:=nJ A23 M H22 H17;have H24:=mS A24 M;have H25:=yE A25 M H0 H1 H3 H13 H14 H15 H23 H24
 H25
theorem zu{P:Qr}{w:Qu}{K:Qc}{h:Heap}{mg:Str->Option Qb}{t_TOP_HEIGHT:Tok}(X:K.In h)(G:h.Ns QD mg)
  (z_all:QZ K QD "all" = some none)
  (z_bool:QZ K QD "bool" = some none)
  (z_enumerate:QZ K QD "enumerate" = some none)
  (z_int:QZ K QD "int" = some none)
  (z_isinstance:QZ K QD "isinstance" = some none)
  (z_len:QZ K QD "len" = some none)
  (z_list:QZ K QD "list" = some none)
  (z_max:QZ K QD "max" = some none)
  (z_min:QZ K QD "min" = some none)
  (z_range:QZ K QD "range" = some none)
  (z_tuple:QZ K QD "tuple" = some none)
  (z_zip:QZ K QD "zip" = some none)
  (y_TOP_HEIGHT:QZ K QD "TOP_HEIGHT" = some (some (.int 5 t_TOP_HEIGHT))):Md ⟨P,w,K,mg⟩:=⟨QU X G z_all,QU X G z_bool,QU X G z_enumerate,QU X G z_int,QU X G z_isinstance,QU X G z_len,QU X G z_list,QU X G z_max,QU X G z_min,QU X G z_range,QU X G z_tuple,QU X G z_zip,⟨_,PySem.W.mg_of X G y_TOP_HEIGHT⟩⟩
theorem walk{l:PySem.W.OpenLaw}{q:Qr}{loose:List Str}{XP:(Str->Option Qb)->Heap->Prop}{YP:Qu->Heap->Prop}{d:DefRec}{K:Params->Qc}(hn:l.most=some 63)(hdf:d.params.defaults=[])(hnm:d.name = "law")
  (hY:∀(w:Qu) (h:Heap),YP w h->(K w.params).In h) (worth:∀ns:List Int,ns.length<=63->ow [.lst (ns.map D.int)]=some (.bl true))
  (F:∀(w:Qu) (mg:Str->Option Qb) (h:Heap),(K w.params).In h->h.Ns QD mg->qz ⟨l.prog,w,K w.params,mg⟩) :
  PySem.W.WalkO q loose XP YP l.row.toRowW d [] (λf vs=>PySem.call f vs):=
 L2.uJ (n:=63) (k:=7) (x:="_law_script") (CX:=λ_=>CX0) (sp:=λw=>spF (K w.params) ow) hn (by decide) hdf ⟨rfl,by decide,by decide⟩ hY (λw mg fa h a b c=>xh (F w mg h a b) (by rw[<-hnm];exact c))
  (λw H a ns hl _ hS=>⟨H,[.lst (ns.map D.int)],.bl true,aO.refl _,.one (.lst (.inr ⟨ns,rfl,hS⟩) (lJ _ _ ns)),worth ns hl,λv G' H' g hd=>hd.blV⟩) λ_ _ _ _ _ z=>z
theorem vZ:Lw.fC=vX:=rfl
theorem wb(ns:List Int)(hn:ns.length<=63)(m:Nat)(hm:m<=5000):∃f:Nat->Int,Lw.dj [.lst (iL ns),.int (m:Int)]=some (.lst (iL (b3 f m)))/\∀j,0<=f j/\f j<1000:=by
 obtain⟨row,e,h1,h2⟩:=uW ns hn m hm;obtain⟨f,rfl,hf⟩:=wF h1 h2;exact⟨f,bq rfl (by rw[vZ];exact e),hf⟩
theorem oF:∀n,cu n=FrS n
 |0=>rfl
 |n+1=>by
  show fnD _ _ (iW (cu n))=fnD _ _ (iQ (FrS n));rw[oF n];rfl
theorem wy(d:D)(h:OkS 4 d):cO [d,d]=some (.bl true):=by
 unfold cO;rw[oF];exact lK 4 d h
theorem uZ(a0 a1 a2:Int):∃b0 b1,Lw.fP [.lst (iL [a0,a1,a2])]=some (.tup [.int b0,.int b1]):=by
 obtain⟨b0,b1,e⟩:=sR a0 a1 a2;exact⟨b0,b1,bq rfl e⟩
theorem yb:sP Lw.gI:=λl hl b0 b1=>by
 obtain⟨a0,a1,a2,a3,a4,a5,e,h⟩:=uQ l hl b0 b1;exact⟨a0,a1,a2,a3,a4,a5,bq rfl e,h⟩
theorem wc(f:Nat->Int)(b0 b1 hour:Int)(hh:0<=hour/\hour<=24):∃k:Sk,Lw.gy [.lst (iL (b3 f 120)),.tup [.int b0,.int b1],.int hour]=some (skD k)/\SkOk k:=by
 obtain⟨hs,cs,ws,ss,e,⟨h1,h2⟩,h3,⟨h4,h5⟩,h6,h7⟩:=tx f b0 b1 hour yb hh;exact⟨⟨hs,cs,ws,ss⟩,bq rfl e,h1,h2,h3,h4,h5,h6,h7⟩
theorem oz{f:Ev->Option D}{g:D->Ev->Option Ev}{ε ε':Ev}{d:D}(h:f ε=some d)(h2:g d ε=some ε'):gF f g ε=some (.nx ε'):=by
 unfold gF;rw[h];show(g d ε).map Fl.nx=_;rw[h2];rfl
theorem rK(k:Sk)(h:Int)(q:Stt)(o:Str):iD (wh k h q o)=true:=by
 unfold wh wo why
 repeat' split
 all_goals decide
theorem nO{α:Type}(xs:List α)(enc:α->D)(j:Int)(h0:0<=j)(h1:j<(xs.length:Int)):∃x∈xs,ixD (.lst (xs.map enc)) (.int j)=some (enc x)/\ixD (.tup (xs.map enc)) (.int j)=some (enc x):=by
 obtain⟨d,hd,e⟩:=rb (xs.map enc) j h0 (by rw[Qz];exact h1);obtain⟨x,hx,rfl⟩:=Q9.mp hd;exact⟨x,hx,e,e⟩
theorem sml:∀n:Nat,n<=8->gm (n:Int)=true:=λn h=>(by decide +kernel:∀n:Fin 9,gm (n.val:Int)=true) ⟨n,by omega⟩
theorem o7{g:D->Ev->Option Ev}{gb:Ev->Option Fl}(P:Nat->Ev->Prop)(R:D->Prop):∀(ds:List D) (n:Nat),(∀i d,ds[i]?=some d->∀ε,P (n+i) ε->∃ε1,g d ε=some ε1/\((∃ε2,gb ε1=some (.nx ε2)/\P (n+i+1) ε2)\/∃r,gb ε1=some (.rt r)/\R r))->
  ∀ε,P n ε->(∃ε',cf g gb ds ε=some (.nx ε')/\P (n+ds.length) ε')\/∃r,cf g gb ds ε=some (.rt r)/\R r
 |[],n,_,ε,p=>.inl ⟨ε,rfl,p⟩
 |d::ds,n,st,ε,p=>by
  obtain⟨ε1,e1,z⟩:=st 0 d rfl ε p;rcases z with⟨ε2,e2,p2⟩ | ⟨r,e2,hr⟩
  ·have e:cf g gb (d::ds) ε=cf g gb ds ε2:=by
    show(g d ε).bind _=_;rw[e1];show(gb ε1).bind _=_;rw[e2];rfl
   rw[e,QI,show n+(ds.length+1)=(n+1)+ds.length by omega]
   exact o7 P R ds (n+1) (λi d' hi ε p=>by
    have:=st (i+1) d' (by simpa using hi) ε (by rw[show n+(i+1)=n+1+i by omega];exact p);rw[show n+(i+1)=n+1+i by omega] at this
    exact this) ε2 p2
  ·refine .inr ⟨r,?_,hr⟩
   show(g d ε).bind _=_;rw[e1];show(gb ε1).bind _=_;rw[e2];rfl
section
variable(k:Sk)(kk:SkW k)(h:Int)(q:Stt)
inductive Pth:List Str->List Stt->Stt->Prop where
 |nil:Pth [] [] q
 |snoc {os:List Str} {qs:List Stt} {p:Stt} {o:Str} (c:Pth os qs p) (ho:isO o) (hw:wh k (h+(os.length:Int)) p o = ""):Pth (os++[o]) (qs++[p]) (cQ k (h+(os.length:Int)) p o)
theorem vB{k:Sk}{h:Int}{p:Stt}{o:Str}(e:wh k h p o = ""):wo o p = "":=by
 unfold wh at e
 by_cases z:wo o p = ""
 ·exact z
 ·rw[if_neg z] at e;exact e
variable{k h q}
theorem Pth.len{os:List Str}{qs:List Stt}{p:Stt}(c:Pth k h q os qs p):qs.length=os.length:=by
 induction c with
 |nil=>rfl
 |snoc c ho hw ih=>rw[Qw,Qw,ih];rfl
theorem Pth.st(hq:StOk q){os:List Str}{qs:List Stt}{p:Stt}(c:Pth k h q os qs p):StOk p:=by
 induction c with
 |nil=>exact hq
 |snoc c ho hw ih=>exact xY k _ _ _ ho ih (vB hw)
theorem Pth.head{os:List Str}{qs:List Stt}{p:Stt}(c:Pth k h q os qs p):∃r,(qs++[p])=q::r:=by
 induction c with
 |nil=>exact⟨[],rfl⟩
 |snoc c ho hw ih=>obtain⟨r,e⟩:=ih;exact⟨r++[_],by rw[e];rfl⟩
variable(k h q)
abbrev EF(ord:D)(L:List Stt)(s5 s6 s7 s8:Sl):Ev:=[.dat (skD k),.dat (.int h),.dat (stD q),.dat ord,.own (L.map stD),s5,s6,s7,s8]
abbrev tgF:D->Ev->Option Ev:=fj 2 (ax (ak 5) (ax (ak 6) bw))
theorem oN(r:List Stt)(p:Stt):ixD (.lst ((r++[p]).map stD)) (.int (-1))=some (stD p):=by rw[Jv];exact rH _ _
include kk
theorem vI(ord:D)(n:Nat)(hn:n<=8)(o:Str)(r:List Stt)(hr:r.length<=8)(p:Stt)(a b:Sl):bX (EF k h q ord (r++[p]) (.dat (.int (n:Int))) (.dat (.str o)) a b) =
  some (if wh k (h+(n:Int)) p o = "" then Fl.nx (EF k h q ord (r++[p]++[cQ k (h+(n:Int)) p o]) (.dat (.int (n:Int))) (.dat (.str o)) (.dat (.str (wh k (h+(n:Int)) p o))) (.dat (stD (cQ k (h+(n:Int)) p o)))) else Fl.xc "Stopped" [("at",.int (n:Int)),("why",.str (wh k (h+(n:Int)) p o))]):=by
 unfold bX;refine(ao (oz (ε':=EF k h q ord (r++[p]) (.dat (.int (n:Int))) (.dat (.str o)) (.dat (.str (wh k (h+(n:Int)) p o))) (.dat (stD (cQ k (h+(n:Int)) p o)))) (aY (ds:=[skD k,.int (h+(n:Int)),stD p,.str o]) (aM rfl (aM rfl (aM (aV rfl rfl (oN r p)) rfl))) (rZ k kk.hl _ p o)) rfl)).trans ?_;generalize hw:wh k (h+(n:Int)) p o=w;have ws:iD w=true:=by rw[<-hw];exact rK _ _ _ _
 have c:av d_ (aa 7) (eC (.str "")) (EF k h q ord (r++[p]) (.dat (.int (n:Int))) (.dat (.str o)) (.dat (.str w)) (.dat (stD (cQ k (h+(n:Int)) p o))))=some (!decide (w = "")):=rfl
 by_cases e:w = ""
 ·rw[if_pos e]
  refine(ao (eH (c.trans (by rw[decide_eq_true e];rfl)))).trans ?_;refine(dS rfl rfl (by rw[Qz,Qw,QI,JS];omega)).trans ?_;unfold EF;rw[Jv (l₁:=r++[p])];rfl
 ·rw[if_neg e]
  have x:sIf (av d_ (aa 7) (eC (.str ""))) (nh "Stopped" gx (ae (au 5) (ae (au 7) aF))) bg (EF k h q ord (r++[p]) (.dat (.int (n:Int))) (.dat (.str o)) (.dat (.str w)) (.dat (stD (cQ k (h+(n:Int)) p o))))=some (.xc "Stopped" [("at",.int (n:Int)),("why",.str w)]):=by
   refine(eI (c.trans (by rw[decide_eq_false e];rfl))).trans ?_;show Option.map (λfs=>Fl.xc "Stopped" fs) (if(gm (n:Int)&&iD w)=true then some [("at",D.int (n:Int)),("why",.str w)] else none)=_;rw[if_pos (show(gm (n:Int)&&iD w)=true by rw[ws,sml n hn];rfl)];rfl
  unfold aE;rw[x];rfl
theorem mQ(ord:D){os:List Str}{qs:List Stt}{p:Stt}(c:Pth k h q os qs p):os.length<=8->∀rest,∃s5 s6 s7 s8,cf tgF bX (gS 0 (os.map D.str++rest)) (EF k h q ord [q] .un .un .un .un)=cf tgF bX (gS os.length rest) (EF k h q ord (qs++[p]) s5 s6 s7 s8):=by
 induction c with
 |nil=>exact λ_ rest=>⟨_,_,_,_,rfl⟩
 |@snoc os qs p o c ho hw ih=>
  intro hl rest;rw[Qw,QI,JS] at hl;obtain⟨s5,s6,s7,s8,e⟩:=ih (by omega) (D.str o::rest);refine⟨.dat (.int (os.length:Int)),.dat (.str o),.dat (.str (wh k (h+(os.length:Int)) p o)),.dat (stD (cQ k (h+(os.length:Int)) p o)),?_⟩;rw[Jv,List.append_assoc];refine e.trans ?_;rw[Qw];show(bX (EF k h q ord (qs++[p]) (.dat (.int (os.length:Int))) (.dat (.str o)) s7 s8)).bind _=_;rw[vI k kk h q ord os.length (by omega) o qs (by have:=c.len;omega) p s7 s8,if_pos hw];rfl
theorem pM{os:List Str}{qs:List Stt}{p:Stt}(c:Pth k h q os qs p)(hl:os.length<=8):F_flown [skD k,.int h,stD q,.tup (os.map D.str)]=some (.inl (.lst ((qs++[p]).map stD))):=by
 obtain⟨s5,s6,s7,s8,e⟩:=mQ k kk h q (.tup (os.map D.str)) c hl [];rw[Q6] at e
 have w:eJ [.dat (skD k),.dat (.int h),.dat (stD q),.dat (.tup (os.map D.str)),.un,.un,.un,.un,.un]=some (.rt (.lst ((qs++[p]).map stD))):=by
  unfold eJ;refine(ao (ε':=EF k h q (.tup (os.map D.str)) [q] .un .un .un .un) rfl).trans ?_;exact(ao ((bF (ds:=gS 0 (os.map D.str)) rfl).trans e)).trans rfl
 unfold F_flown fnX;refine(if_pos rfl).trans ?_;show(match eJ [.dat (skD k),.dat (.int h),.dat (stD q),.dat (.tup (os.map D.str)),.un,.un,.un,.un,.un] with | some (.rt d)=>some (Sum.inl d) | some (.nx _)=>some (.inl .non) | some (.ro rs)=>some (.inl (.lst rs)) | some (.xc c fs)=>some (.inr (c,fs)) | _=>none)=_;rw[w]
theorem nj{os:List Str}{qs:List Stt}{p:Stt}(c:Pth k h q os qs p)(hl:os.length<=8){o:Str}(tl:List Str)(hw:wh k (h+(os.length:Int)) p o≠"") :
  F_flown [skD k,.int h,stD q,.tup ((os++o::tl).map D.str)]=some (.inr ("Stopped",[("at",.int (os.length:Int)),("why",.str (wh k (h+(os.length:Int)) p o))])):=by
 obtain⟨s5,s6,s7,s8,e⟩:=mQ k kk h q (.tup ((os++o::tl).map D.str)) c hl ((o::tl).map D.str);rw[<-Jv] at e
 have w:eJ [.dat (skD k),.dat (.int h),.dat (stD q),.dat (.tup ((os++o::tl).map D.str)),.un,.un,.un,.un,.un]=some (.xc "Stopped" [("at",.int (os.length:Int)),("why",.str (wh k (h+(os.length:Int)) p o))]):=by
  unfold eJ;refine(ao (ε':=EF k h q (.tup ((os++o::tl).map D.str)) [q] .un .un .un .un) rfl).trans ?_
  have x:cR (tM (au 3)) (fj 2 (ax (ak 5) (ax (ak 6) bw))) bX (EF k h q (.tup ((os++o::tl).map D.str)) [q] .un .un .un .un)=some (.xc "Stopped" [("at",.int (os.length:Int)),("why",.str (wh k (h+(os.length:Int)) p o))]):=by
   refine(bF (ds:=gS 0 ((os++o::tl).map D.str)) rfl).trans (e.trans ?_);show(bX (EF k h q (.tup ((os++o::tl).map D.str)) (qs++[p]) (.dat (.int (os.length:Int))) (.dat (.str o)) s7 s8)).bind _=_;rw[vI k kk h q _ os.length (by omega) o qs (by have:=c.len;omega) p s7 s8,if_neg hw];rfl
  unfold aE;rw[x];rfl
 unfold F_flown fnX;refine(if_pos rfl).trans ?_;show(match eJ [.dat (skD k),.dat (.int h),.dat (stD q),.dat (.tup ((os++o::tl).map D.str)),.un,.un,.un,.un,.un] with | some (.rt d)=>some (Sum.inl d) | some (.nx _)=>some (.inl .non) | some (.ro rs)=>some (.inl (.lst rs)) | some (.xc c fs)=>some (.inr (c,fs)) | _=>none)=_;rw[w]
omit kk
def Res(os:List Str)(due:D):Prop:=(∃qs p,Pth k h q os qs p/\os.length<=8/\due=.lst ((qs++[p]).map stD))\/
 ∃o1 qs p o tl,Pth k h q o1 qs p/\o1.length<=8/\wh k (h+(o1.length:Int)) p o≠""/\os=o1++o::tl/\due=.tup [.int (o1.length:Int),.str (wh k (h+(o1.length:Int)) p o)]
include kk
theorem qf{os:List Str}{due:D}(r:Res k h q os due):cH [skD k,.int h,stD q,.tup (os.map D.str)]=some due:=by
 refine bq rfl ?_;unfold gc;refine(ao rfl).trans ?_
 have t:xl 4 5 "Stopped" F_flown (ae (au 0) (ae (au 1) (ae (au 2) (ae (au 3) aF)))) (r_ "at" "why") [.dat (skD k),.dat (.int h),.dat (stD q),.dat (.tup (os.map D.str)),.dat .non,.un]=some (.nx [.dat (skD k),.dat (.int h),.dat (stD q),.dat (.tup (os.map D.str)),.dat due,.un]):=by
  show((F_flown [skD k,.int h,stD q,.tup (os.map D.str)]).bind λr=>match r with
   |.inl d=>some (Fl.nx [.dat (skD k),.dat (.int h),.dat (stD q),.dat (.tup (os.map D.str)),.dat d,.un])
   |.inr (c',fs)=>if c' = "Stopped" then(r_ "at" "why" fs).map λd=>Fl.nx [.dat (skD k),.dat (.int h),.dat (stD q),.dat (.tup (os.map D.str)),.dat d,.un] else none)=_
  rcases r with⟨qs,p,c,hl,rfl⟩ | ⟨o1,qs,p,o,tl,c,hl,hw,rfl,rfl⟩
  ·rw[pM k kk h q c hl];rfl
  ·rw[nj k kk h q c hl tl hw];rfl
 exact(ao t).trans rfl
omit kk
theorem tF(l:List Stt)(z:l.length<1000000):OkS 4 (.lst (l.map stD)):=⟨by rw[Qz];exact z,λd hd=>by
 obtain⟨x,_,rfl⟩:=Q9.mp hd
 exact⟨show 5<1000000 by decide,λe he=>by
  simp only[Ql,List.mem_nil_iff,or_false] at he
  rcases he with rfl | rfl | rfl | rfl | rfl<;>trivial⟩⟩
theorem ug{os:List Str}{due:D}(r:Res k h q os due):OkS 4 due:=by
 rcases r with⟨qs,p,c,hl,rfl⟩ | ⟨o1,qs,p,o,tl,c,hl,hw,rfl,rfl⟩
 ·exact tF _ (by rw[Qw,c.len];show _+1<_;omega)
 ·exact⟨show 2<1000000 by decide,λe he=>by
   simp only[Ql,List.mem_nil_iff,or_false] at he
   rcases he with rfl | rfl<;>trivial⟩
variable(g:Nat->Int)
abbrev ER(O:List Str)(L:List Stt)(room:Int)(s7 s8 s9 s10 s11:Sl):Ev:=[.dat (skD k),.dat (.int h),.dat (stD q),.dat (.lst (iL (b3 g 28))),.own (O.map D.str),.own (L.map stD),.dat (.int room),s7,s8,s9,s10,s11]
abbrev ori:Ev->Option D:=bx (ae (eC (.str "up")) (ae (eC (.str "level")) (ae (eC (.str "down")) aF)))
theorem wq(O:List Str)(L:List Stt)(room:Int)(c n:Nat)(hc:c+n<28)(s8 s9 s10 s11:Sl):e2 ixD (aa 3) (e2 aJ (eC (.int (c:Int))) (aa 7)) (ER k h q g O L room (.dat (.int (n:Int))) s8 s9 s10 s11)=some (.int (g (c+n))):=by
 refine aV (y:=.int ((c+n:Nat):Int)) rfl ?_ (jb g 28 (c+n) hc);show some (D.int ((c:Int)+(n:Int)))=_;rw[show((c+n:Nat):Int)=(c:Int)+(n:Int) by omega]
theorem s_{o:Str}(ho:o∈Ods):isO o:=by simpa[isO] using ho
include kk
theorem u9(hg:∀j,0<=g j)(hq:StOk q){os:List Str}{qs:List Stt}{p:Stt}(c:Pth k h q os qs p)(room:Int)(h8:room<=8)(hn:(os.length:Int)<room)(s8 s9 s10 s11:Sl) :
  (∃ε2,bP (ER k h q g os (qs++[p]) room (.dat (.int (os.length:Int))) s8 s9 s10 s11)=some (.nx ε2)/\∃os' qs' p' t7 t8 t9 t10 t11,ε2=ER k h q g os' (qs'++[p']) room t7 t8 t9 t10 t11/\Pth k h q os' qs' p'/\os'.length=os.length+1)\/
  ∃r,bP (ER k h q g os (qs++[p]) room (.dat (.int (os.length:Int))) s8 s9 s10 s11)=some (.rt r)/\∃os' due,r=.tup [.tup (os'.map D.str),due]/\Res k h q os' due:=by
 have st:=c.st hq;generalize hN:os.length=n at *;have n8:n<8:=by omega
 have cl:(can k (h+(n:Int)) p).length<=3:=List.length_filter_le _ Ods
 have s1:ub 8 5 (eLC (ko ori) 1 [0,1,7,5] (ak 0) (av bc (aL bK (ae (au 1) (ae (e2 aJ (aa 2) (aa 3)) (ae (e2 ixD (aa 4) (kZ (eC (.int 1)))) (ae (au 0) aF))))) (eC (.str ""))) (au 0)) (ER k h q g os (qs++[p]) room (.dat (.int (n:Int))) s8 s9 s10 s11)=some (.nx (ER k h q g os (qs++[p]) room (.dat (.int (n:Int))) (.dat (.lst ((can k (h+(n:Int)) p).map D.str))) s9 s10 s11)):=by
  have e:eLC (ko ori) 1 [0,1,7,5] (ak 0) (av bc (aL bK (ae (au 1) (ae (e2 aJ (aa 2) (aa 3)) (ae (e2 ixD (aa 4) (kZ (eC (.int 1)))) (ae (au 0) aF))))) (eC (.str ""))) (au 0) (fz1 5 (ER k h q g os (qs++[p]) room (.dat (.int (n:Int))) s8 s9 s10 s11))=some ((can k (h+(n:Int)) p).map D.str):=
   xA (ds:=Ods.map D.str) rfl (by decide) (oP (λε=>∃s0,ε=[s0,.dat (skD k),.dat (.int h),.dat (.int (n:Int)),.dat (.lst ((qs++[p]).map stD))]) D.str (λo=>decide (wh k (h+(n:Int)) p o = "")) D.str Ods (λo ho ε ⟨s0,he⟩=>by
    subst he
    exact⟨[.dat (.str o),.dat (skD k),.dat (.int h),.dat (.int (n:Int)),.dat (.lst ((qs++[p]).map stD))],rfl,⟨_,rfl⟩,b9 (x:=.str (wh k (h+(n:Int)) p o)) (y:=.str "") (aY (ds:=[skD k,.int (h+(n:Int)),stD p,.str o]) (aM rfl (aM rfl (aM (aV rfl rfl (oN qs p)) rfl))) (kY k kk _ p st o (s_ ho))) rfl rfl,λ_=>rfl⟩) _ ⟨_,rfl⟩)
  unfold ub;rw[e];refine if_pos ?_;rw[List.all_map];exact Jm.mpr λ_ _=>rfl
 obtain⟨o2,ho2,_,e2'⟩:=nO Ods D.str (g (1+n)%3) (by omega) (by show _<(3:Int);omega)
 have s2:a9 9 (e2 ixD ori (e2 aK (e2 ixD (aa 3) (e2 aJ (eC (.int 1)) (aa 7))) (eC (.int 3)))) (ER k h q g os (qs++[p]) room (.dat (.int (n:Int))) (.dat (.lst ((can k (h+(n:Int)) p).map D.str))) s9 s10 s11)=some (.nx (ER k h q g os (qs++[p]) room (.dat (.int (n:Int))) (.dat (.lst ((can k (h+(n:Int)) p).map D.str))) (.dat (.str o2)) s10 s11)):=
  ba (aV (x:=.tup (Ods.map D.str)) (y:=.int (g (1+n)%3)) rfl (aV (wq k h q g os (qs++[p]) room 1 n (by omega) _ _ _ _) rfl (lF (by decide))) e2')
 obtain⟨o,ho,s3⟩:∃o,isO o/\sIf (bz (av gtI (ck cy (aa 8)) (eC (.int 0))) (av gtI (e2 aK (e2 ixD (aa 3) (e2 aJ (eC (.int 10)) (aa 7))) (eC (.int 7))) (eC (.int 0)))) (a9 9 (e2 ixD (aa 8) (e2 aK (e2 ixD (aa 3) (e2 aJ (eC (.int 1)) (aa 7))) (ck cy (aa 8))))) bg (ER k h q g os (qs++[p]) room (.dat (.int (n:Int))) (.dat (.lst ((can k (h+(n:Int)) p).map D.str))) (.dat (.str o2)) s10 s11)=some (.nx (ER k h q g os (qs++[p]) room (.dat (.int (n:Int))) (.dat (.lst ((can k (h+(n:Int)) p).map D.str))) (.dat (.str o)) s10 s11)):=by
  have ln:∀s9,ck cy (aa 8) (ER k h q g os (qs++[p]) room (.dat (.int (n:Int))) (.dat (.lst ((can k (h+(n:Int)) p).map D.str))) s9 s10 s11)=some (.int ((can k (h+(n:Int)) p).length:Int)):=λs9=>by
   show some (D.int (((can k (h+(n:Int)) p).map D.str).length:Int))=_;rw[Qz]
  have cc:=bZ (f:=av gtI (ck cy (aa 8)) (eC (.int 0))) (g:=av gtI (e2 aK (e2 ixD (aa 3) (e2 aJ (eC (.int 10)) (aa 7))) (eC (.int 7))) (eC (.int 0))) (b9 (ln (.dat (.str o2))) rfl rfl) (b9 (aV (wq k h q g os (qs++[p]) room 10 n (by omega) (.dat (.lst ((can k (h+(n:Int)) p).map D.str))) (.dat (.str o2)) s10 s11) rfl (lF (by decide))) rfl rfl);cases hb:(decide (((can k (h+(n:Int)) p).length:Int)>0)&&decide (g (10+n)%7>0)) with
  |false=>exact⟨o2,s_ ho2,(eH (cc.trans (congrArg some hb))).trans rfl⟩
  |true=>
   have pos:((can k (h+(n:Int)) p).length:Int)>0:=of_decide_eq_true (J6 _ _▸hb).1;obtain⟨o3,ho3,e3,_⟩:=nO (can k (h+(n:Int)) p) D.str (g (1+n)%((can k (h+(n:Int)) p).length:Int)) (Int.emod_nonneg _ (by omega)) (Zz _ pos);refine⟨o3,(uh ho3).1,(eI (cc.trans (congrArg some hb))).trans ?_⟩;exact ba (aV (x:=.lst ((can k (h+(n:Int)) p).map D.str)) (y:=.int (g (1+n)%((can k (h+(n:Int)) p).length:Int))) rfl (aV (wq k h q g os (qs++[p]) room 1 n (by omega) _ _ _ _) (ln _) (lF pos)) e3)
 generalize (can k (h+(n:Int)) p).map D.str=C at *
 have s4:cC 4 (au 9) (ER k h q g os (qs++[p]) room (.dat (.int (n:Int))) (.dat (.lst C)) (.dat (.str o)) s10 s11)=some (.nx (ER k h q g (os++[o]) (qs++[p]) room (.dat (.int (n:Int))) (.dat (.lst C)) (.dat (.str o)) s10 s11)):=by
  refine(dS rfl rfl (by rw[Qz];omega)).trans ?_;unfold ER;rw[Jv (l₁:=os)];rfl
 have s5:a9 10 (aL bK (ae (au 0) (ae (e2 aJ (aa 1) (aa 7)) (ae (e2 ixD (aa 5) (kZ (eC (.int 1)))) (ae (au 9) aF))))) (ER k h q g (os++[o]) (qs++[p]) room (.dat (.int (n:Int))) (.dat (.lst C)) (.dat (.str o)) s10 s11)=some (.nx (ER k h q g (os++[o]) (qs++[p]) room (.dat (.int (n:Int))) (.dat (.lst C)) (.dat (.str o)) (.dat (.str (wh k (h+(n:Int)) p o))) s11)):=
  ba (aY (ds:=[skD k,.int (h+(n:Int)),stD p,.str o]) (aM rfl (aM rfl (aM (aV rfl rfl (oN qs p)) rfl))) (kY k kk _ p st o ho))
 have c6:av d_ (aa 10) (eC (.str "")) (ER k h q g (os++[o]) (qs++[p]) room (.dat (.int (n:Int))) (.dat (.lst C)) (.dat (.str o)) (.dat (.str (wh k (h+(n:Int)) p o))) s11)=some (!decide (wh k (h+(n:Int)) p o = "")):=rfl
 by_cases e:wh k (h+(n:Int)) p o = ""
 ·left
  refine⟨_,?_,os++[o],qs++[p],cQ k (h+(n:Int)) p o,.dat (.int (n:Int)),.dat (.lst C),.dat (.str o),.dat (.str (wh k (h+(n:Int)) p o)),s11,rfl,by subst hN;exact .snoc c ho e,by rw[Qw,hN];rfl⟩;unfold bP;refine(ao s1).trans ((ao s2).trans ((ao s3).trans ((ao s4).trans ((ao s5).trans ((ao ((eH (c6.trans (by rw[decide_eq_true e];rfl))).trans rfl)).trans ?_)))));refine(dS (d:=stD (cQ k (h+(n:Int)) p o)) (aY (ds:=[skD k,.int (h+(n:Int)),stD p,.str o]) (aM rfl (aM rfl (aM (aV rfl rfl (oN qs p)) rfl))) ((lD k (by have:=kk.wl;omega) _ p o ho).trans (by rw[nP k _ p o ho st (vB e)]))) rfl (by rw[Qz,Qw,c.len,hN];show n+1<_;omega)).trans ?_;unfold ER;rw[Jv (l₁:=qs++[p])];rfl
 ·right
  have lc:0<=g 0/9%(room-(n:Int)):=Int.emod_nonneg _ (by omega);have lc2:g 0/9%(room-(n:Int))<room-(n:Int):=Zz _ (by omega)
  have it:cq (e2 aK (e2 bT (e2 ixD (aa 3) (eC (.int 0))) (eC (.int 9))) (e2 bu (e2 aJ (eC (.int 1)) (aa 6)) (ck cy (aa 4)))) (ER k h q g (os++[o]) (qs++[p]) room (.dat (.int (n:Int))) (.dat (.lst C)) (.dat (.str o)) (.dat (.str (wh k (h+(n:Int)) p o))) s11)=some (cg (g 0/9%(room-(n:Int))).toNat):=by
   refine eP (aV (x:=.int (g 0/9)) (y:=.int (room-(n:Int))) rfl ?_ (lF (by omega))) lc (by omega);show some (D.int (1+room-(((os++[o]).map D.str).length:Int)))=_;rw[Qz,Qw,hN,show(1+room-((n+[o].length:Nat):Int))=room-(n:Int) by rw[List.length_singleton];omega]
  obtain⟨ε',f1,tl,t11,rfl,tl8⟩:=dA (g:=ak 11) (gb:=eA) (λi ε=>∃tl t11,ε=ER k h q g (os++o::tl) (qs++[p]) room (.dat (.int (n:Int))) (.dat (.lst C)) (.dat (.str o)) (.dat (.str (wh k (h+(n:Int)) p o))) t11/\tl.length=i) (cg (g 0/9%(room-(n:Int))).toNat) 0 (λi d hd ε ⟨tl,t11,he,ht⟩=>by
   obtain⟨rfl,hi⟩:=dh hd;subst he;obtain⟨o4,_,_,e4⟩:=nO Ods D.str (g (19+i)%3) (by omega) (by show _<(3:Int);omega);refine⟨ER k h q g (os++o::tl) (qs++[p]) room (.dat (.int (n:Int))) (.dat (.lst C)) (.dat (.str o)) (.dat (.str (wh k (h+(n:Int)) p o))) (.dat (.int (i:Int))),ER k h q g (os++o::(tl++[o4])) (qs++[p]) room (.dat (.int (n:Int))) (.dat (.lst C)) (.dat (.str o)) (.dat (.str (wh k (h+(n:Int)) p o))) (.dat (.int (i:Int))),rfl,.inl ?_,_,_,rfl,by rw[Qw,ht];rfl⟩;unfold eA;refine(dS (d:=.str o4) (ds:=(os++o::tl).map D.str) (aV (x:=.tup (Ods.map D.str)) (y:=.int (g (19+i)%3)) rfl (aV (x:=.int (g (19+i))) (y:=.int 3) (aV (y:=.int ((19+i:Nat):Int)) rfl ?_ (jb g 28 (19+i) (by omega))) rfl (lF (by decide))) e4) rfl (by rw[Qz,Qw,QI,hN,ht];omega)).trans ?_
   ·show some (D.int ((19:Int)+(i:Int)))=_
    rw[show((19+i:Nat):Int)=(19:Int)+(i:Int) by omega]
   ·unfold ER
    rw[show os++o::(tl++[o4])=(os++o::tl)++[o4] by simp,Jv (l₁:=os++o::tl)]
    rfl) _ ⟨[],s11,rfl,rfl⟩
  refine⟨.tup [.tup ((os++o::tl).map D.str),.tup [.int (n:Int),.str (wh k (h+(n:Int)) p o)]],?_,os++o::tl,_,rfl,.inr ⟨os,qs,p,o,tl,c,by omega,by rw[hN];exact e,rfl,by rw[hN]⟩⟩;unfold bP;refine(ao s1).trans ((ao s2).trans ((ao s3).trans ((ao s4).trans ((ao s5).trans (bB ?_)))));refine(eI (c6.trans (by rw[decide_eq_false e];rfl))).trans ?_;exact(ao ((bF it).trans f1)).trans rfl
theorem rP(hg:∀j,0<=g j)(hq:StOk q)(h0:0<=h)(h24:h<=24):∃os due,gE [skD k,.int h,stD q,.lst (iL (b3 g 28))]=some (.tup [.tup (os.map D.str),due])/\Res k h q os due:=by
 generalize hroom:(if 24-h<8 then 24-h else 8)=room;have r0:0<=room/\room<=8:=by subst hroom;split<;>omega
 generalize hm:(if room<g 0%9 then room else g 0%9)=m;have m0:0<=m/\m<=room:=by subst hm;split<;>omega
 have it:cq (aL kh (ae (e2 aK (e2 ixD (aa 3) (eC (.int 0))) (eC (.int 9))) (ae (au 6) aF))) (ER k h q g [] [q] room .un .un .un .un .un)=some (cg m.toNat):=by
  refine eP (j:=m) ?_ m0.1 (by omega);show some (D.int (if room<g 0%9 then room else g 0%9))=_;rw[hm]
 have start:∀gr,aE (ez 4 (cv aF)) (aE (ez 5 (cv (ae (au 2) aF))) (aE (a9 6 (aL kh (ae (eC (.int 8)) (ae (e2 bu (eC (.int 24)) (aa 1)) aF)))) gr)) [.dat (skD k),.dat (.int h),.dat (stD q),.dat (.lst (iL (b3 g 28))),.un,.un,.un,.un,.un,.un,.un,.un]=gr (ER k h q g [] [q] room .un .un .un .un .un):=λgr=>by
  refine(ao rfl).trans ((ao rfl).trans (ao ((ba (d:=.int room) ?_).trans rfl)));show some (D.int (if 24-h<8 then 24-h else 8))=_;rw[hroom]
 rcases o7 (g:=ak 7) (gb:=bP) (λi ε=>∃os qs p t7 t8 t9 t10 t11,ε=ER k h q g os (qs++[p]) room t7 t8 t9 t10 t11/\Pth k h q os qs p/\os.length=i) (λr=>∃os' due,r=.tup [.tup (os'.map D.str),due]/\Res k h q os' due) (cg m.toNat) 0 (λi d hd ε ⟨os,qs,p,t7,t8,t9,t10,t11,he,c,hl⟩=>by
  obtain⟨rfl,hi⟩:=dh hd;subst he;rw[Nat.zero_add] at hl;subst hl;rw[Nat.zero_add]
  exact⟨_,rfl,u9 k kk h q g hg hq c room r0.2 (by omega) t8 t9 t10 t11⟩) _ ⟨[],[],q,.un,.un,.un,.un,.un,rfl,.nil,rfl⟩ with⟨ε',e,os,qs,p,t7,t8,t9,t10,t11,rfl,c,hl⟩ | ⟨r,e,os',due,rfl,R⟩
 ·rw[Nat.zero_add,show(cg m.toNat).length=m.toNat by rw[wG,Qz,List.length_range]] at hl
  refine⟨os,.lst ((qs++[p]).map stD),bq rfl ?_,.inl ⟨qs,p,c,by omega,rfl⟩⟩;unfold gJ;refine(start _).trans ?_;exact(ao ((bF it).trans e)).trans rfl
 ·refine⟨os',due,bq rfl ?_,R⟩
  unfold gJ;refine(start _).trans (bB ((bF it).trans e))
end
theorem rS(g:Nat->Int)(b0 b1:Int):eQ [.lst (iL (b3 g 6)),.tup [.int b0,.int b1],.int 6]=some (stD ⟨b0+g 0%7-3,b1+g 1%7-3,g 2%6,g 3%7,g 4%7⟩):=by
 refine bq rfl ?_;unfold hG;refine(ao rfl).trans ((ao rfl).trans ?_);exact b8 (fU (aM rfl (aM rfl (aM rfl (aM (aV (x:=.int (g 3)) (y:=.int 7) rfl rfl (lF (by omega))) (aM (aV (x:=.int (g 4)) (y:=.int 7) rfl rfl (lF (by omega))) rfl))))) (show 5<=1000 by decide))
theorem qp(k k':Sk)(h:Int)(q:Stt){os:List Str}{es:List D}(r:Res k h q os (.lst es)):qK [skD k',.int h,stD q,.tup (os.map D.str)] es/\es.length<1000000:=by
 rcases r with⟨qs,p,c,hl,e⟩ | ⟨o1,qs,p,o,tl,c,hl,hw,_,e⟩
 ·injection e with e
  obtain⟨z,hz⟩:=c.head;have hs:es.length<1000000:=by rw[e,Qz,Qw,c.len];show _+1<_;omega
  refine⟨⟨λd hd=>?_,λns hn=>?_⟩,hs⟩
  ·rw[e,hz]
   have od:Odd (stD q):=.inr ⟨_,rfl,by show(5:Nat)≠3;decide,by show(5:Nat)≠4;decide,by show(5:Nat)≠8;decide⟩;simp only[Ql,List.mem_nil_iff,or_false] at hd;rcases hd with rfl | rfl | rfl | rfl
   ·exact tU od
   ·intro z;cases z
   ·exact jc (l:=[q.x,q.y,q.z,q.s,q.p])
   ·intro z
    cases z with
    |tup m z=>
     obtain⟨x,_,rfl⟩:=Q9.mp m;cases z
  ·rw[e,hz] at hn
   cases ns with
   |nil=>cases hn
   |cons n ns=>injection hn with hn _;cases hn
 ·cases e
abbrev evL(A:Sl)(f:Nat->Int)(b0 b1 h:Int)(k:Sk)(s5 s6 s7 s8 s9 s10:Sl):Ev:=[A,.dat (.lst (iL (b3 f 200))),.dat (.tup [.int b0,.int b1]),.dat (.int h),.dat (skD k),s5,s6,s7,s8,s9,s10]
theorem zL(A:Sl)(f:Nat->Int)(b0 b1 h:Int)(k:Sk)(i:Nat)(hi:i<2)(s6 s7 s8 s9 s10:Sl):eF (eSl (aa 1) (bj (e2 aJ (eC (.int 130)) (e2 bh (eC (.int 6)) (aa 5)))) (bj (e2 aJ (eC (.int 136)) (e2 bh (eC (.int 6)) (aa 5))))) (evL A f b0 b1 h k (.dat (.int (i:Int))) s6 s7 s8 s9 s10)=some (.lst (iL (b3 (λj=>f (130+6*i+j)) 6))):=by
 have m:e2 bh (eC (.int 6)) (aa 5) (evL A f b0 b1 h k (.dat (.int (i:Int))) s6 s7 s8 s9 s10)=some (.int (6*(i:Int))):=aV rfl rfl (mM (by decide));refine dR ?_;have hc:=jw f 200 (130+6*i) 6 (by omega);unfold eSl bj;rw[bD (op:=aJ) (x:=.int 130) (y:=.int (6*(i:Int))) rfl m,bD (op:=aJ) (x:=.int 136) (y:=.int (6*(i:Int))) rfl m];show some (Dn.gR (iL (b3 f 200)) (some (130+6*(i:Int))) (some (136+6*(i:Int))))=_;rw[show(130+6*(i:Int))=((130+6*i:Nat):Int) by omega,show(136+6*(i:Int))=((130+6*i+6:Nat):Int) by omega,hc]
theorem zq(A:Sl)(f:Nat->Int)(b0 b1 h:Int)(k:Sk)(i:Nat)(hi:i<2)(s6 s7 s8 s9 s10:Sl):eF (eSl (aa 1) (bj (e2 aJ (eC (.int 142)) (e2 bh (eC (.int 28)) (aa 5)))) (bj (e2 aJ (eC (.int 170)) (e2 bh (eC (.int 28)) (aa 5))))) (evL A f b0 b1 h k (.dat (.int (i:Int))) s6 s7 s8 s9 s10)=some (.lst (iL (b3 (λj=>f (142+28*i+j)) 28))):=by
 have m:e2 bh (eC (.int 28)) (aa 5) (evL A f b0 b1 h k (.dat (.int (i:Int))) s6 s7 s8 s9 s10)=some (.int (28*(i:Int))):=aV rfl rfl (mM (by decide));refine dR ?_;have hc:=jw f 200 (142+28*i) 28 (by omega);unfold eSl bj;rw[bD (op:=aJ) (x:=.int 142) (y:=.int (28*(i:Int))) rfl m,bD (op:=aJ) (x:=.int 170) (y:=.int (28*(i:Int))) rfl m];show some (Dn.gR (iL (b3 f 200)) (some (142+28*(i:Int))) (some (170+28*(i:Int))))=_;rw[show(142+28*(i:Int))=((142+28*i:Nat):Int) by omega,show(170+28*(i:Int))=((142+28*i+28:Nat):Int) by omega,hc]
theorem tJ(A:D)(f:Nat->Int)(hf:∀j,0<=f j)(b0 b1 h:Int)(h0:0<=h)(h24:h<=24)(k:Sk)(kk:SkOk k)(i:Nat)(hi:i<2)(d6 d7 d8 d9:Sl)(z:gk [d6,d7,d8,d9]=true):∃t6 t7 t8 t9,gU (evL (.dat A) f b0 b1 h k (.dat (.int (i:Int))) d6 d7 d8 d9 .un)=some (.nx (evL (.dat A) f b0 b1 h k (.dat (.int (i:Int))) (.dat t6) (.dat t7) (.dat t8) (.dat t9) .un)):=by
 let g6:Nat->Int:=λj=>f (130+6*i+j);let q:Stt:=⟨b0+g6 0%7-3,b1+g6 1%7-3,g6 2%6,g6 3%7,g6 4%7⟩;have hq:StOk q:=⟨by show 0<=g6 2%6;omega,by show 0<=g6 3%7;omega,by show 0<=g6 4%7;omega⟩;obtain⟨os,due,er,R⟩:=rP k kk.w h q (λj=>f (142+28*i+j)) (λj=>hf _) hq h0 h24;have ea:=qf k kk.w h q R;have sd:=wy due (ug k h q R);refine⟨stD q,.tup (os.map D.str),due,skD k,?_⟩;unfold gU;refine(ao (ba (d:=stD q) (aY (ds:=[.lst (iL (b3 g6 6)),.tup [.int b0,.int b1],.int 6]) (aM (zL (.dat A) f b0 b1 h k i hi _ _ _ _ _) rfl) (rS g6 b0 b1)))).trans ?_;refine(ao (oz (ε':=evL (.dat A) f b0 b1 h k (.dat (.int (i:Int))) (.dat (stD q)) (.dat (.tup (os.map D.str))) (.dat due) d9 .un) (aY (ds:=[skD k,.int h,stD q,.lst (iL (b3 (λj=>f (142+28*i+j)) 28))]) (aM rfl (aM rfl (aM rfl (aM (zq (.dat A) f b0 b1 h k i hi (.dat (stD q)) d7 d8 d9 .un) rfl)))) er) rfl)).trans ?_;refine(ao (ba (d:=skD k) (aY (ds:=[skD k]) rfl (tL k kk.w)))).trans ?_;have n2:av d_ (aa 9) (aa 4) (evL (.dat A) f b0 b1 h k (.dat (.int (i:Int))) (.dat (stD q)) (.dat (.tup (os.map D.str))) (.dat due) (.dat (skD k)) .un)=some false:=b9 (x:=skD k) (y:=skD k) rfl rfl (pK (uk k));refine(vp (d:=due) (as:=[skD k,.int h,stD q,.tup (os.map D.str)]) (aY (ds:=[skD k,.int h,stD q,.tup (os.map D.str)]) rfl ea) rfl ?_ ?_ ?_).trans ?_
 ·rfl
 ·exact(by decide:10<11)
 ·refine⟨kI ((qI rfl rfl).trans sd),?_⟩
  cases due with
  |lst es=>
   obtain⟨fr,z⟩:=qp k k h q R;exact .inr ⟨rfl,es,stD q,rfl,rfl,fr,z⟩
  |_=>exact .inl rfl
 ·refine(eH ?_).trans rfl
  exact(nL (kI ((qI (aY (ds:=[skD k,.int h,stD q,.tup (os.map D.str)]) rfl ea) rfl).trans sd)) n2)
theorem worth(ns:List Int)(hn:ns.length<=63):ow [.lst (ns.map D.int)]=some (.bl true):=by
 obtain⟨f,e1,hf⟩:=wb ns hn 200 (by decide);obtain⟨b0,b1,eb⟩:=uZ (f 0) (f 1) (f 2);obtain⟨k,es,kk⟩:=wc (λj=>f (10+j)) b0 b1 (f 3%25) (by omega);refine bq rfl ?_;unfold vA;refine(ao (ba (d:=.lst (iL (b3 f 200))) e1)).trans ?_;refine(ao (ba (d:=.tup [.int b0,.int b1]) eb)).trans ?_;refine(ao (ba (d:=.int (f 3%25)) rfl)).trans ?_;refine(ao (ba (d:=skD k) es)).trans ?_
 obtain⟨ε',e,s5,d6,d7,d8,d9,rfl,_⟩:=pY (g:=ak 5) (gb:=gU) (λε=>∃s5 d6 d7 d8 d9,ε=evL (.dat (.lst (iL ns))) f b0 b1 (f 3%25) k s5 d6 d7 d8 d9 .un/\gk [d6,d7,d8,d9]=true) (ds:=cg 2) (λd hd ε ⟨s5,d6,d7,d8,d9,he,z⟩=>by
  obtain⟨i,rfl,hi⟩:=tf hd;subst he;obtain⟨t6,t7,t8,t9,e2⟩:=tJ (.lst (iL ns)) f (λj=>(hf j).1) b0 b1 (f 3%25) (by omega) (by omega) k kk i hi d6 d7 d8 d9 z
  exact⟨_,_,rfl,.inl e2,_,_,_,_,_,rfl,rfl⟩) (ε:=evL (.dat (.lst (iL ns))) f b0 b1 (f 3%25) k .un .un .un .un .un .un) ⟨_,_,_,_,_,rfl,rfl⟩
 refine(ao ((bF (ds:=cg 2) rfl).trans e)).trans ?_;rfl
end Lw
open PySem PySem.W PyProof.Rows
set_option maxRecDepth 100000 in
set_option maxHeartbeats 0 in
theorem PySem.Challenge.cw_ballastbook_k12_a_row_of_orders_flown_holds : PySem.Challenge.rw_ballastbook_k12_a_row_of_orders_flown.Holds := by
 w_on;o_law;k_head;(case hw=>w_witness2)
 k_fill
 refine Lw.walk (l:=PySem.Challenge.rw_ballastbook_k12_a_row_of_orders_flown) rfl rfl rfl (λw h Y=>PySem.W.kIn_of Y) Lw.worth ?F
 case F=>
  intro w mg h KX G;refine' Lw.w_ ?qM ?qC_Stopped ?qA0 ?qA1 ?qA2 ?qA3 ?qA4 ?qA5 ?qA6 ?qA7 ?qA8 ?qA9 ?qA10 ?qA11 ?qA12 ?qA13 ?qA14 ?qA15 ?qA16 ?qA17 ?qA18 ?qA19 ?qA20 ?qA21 ?qA22 ?qA23 ?qA24 ?qA25
  case qM=>
   refine' Lw.zu KX G ?qz_all ?qz_bool ?qz_enumerate ?qz_int ?qz_isinstance ?qz_len ?qz_list ?qz_max ?qz_min ?qz_range ?qz_tuple ?qz_zip ?qy_TOP_HEIGHT
   (case qz_all=>k_is)
   (case qz_bool=>k_is)
   (case qz_enumerate=>k_is)
   (case qz_int=>k_is)
   (case qz_isinstance=>k_is)
   (case qz_len=>k_is)
   (case qz_list=>k_is)
   (case qz_max=>k_is)
   (case qz_min=>k_is)
   (case qz_range=>k_is)
   (case qz_tuple=>k_is)
   (case qz_zip=>k_is)
   (case qy_TOP_HEIGHT=>k_is)
  case qC_Stopped=>
   refine' Dn.uU (st:=Dn.mth (Lw.top 10)) (qual:="Stopped.__init__") KX G rfl ?qi ?qs ?qd ?q1 ?q2 ?q3 ?q4 ?q5 ?q6 ?q7 ?q8 ?q9 ?q10 ?q11 ?q12 ?q13 ?q14
   case qi=>intro _ _ _ _ _ _;exact Dn.yl λ_ _ _=>rfl
   case qs=>exact⟨rfl,rfl,rfl,by decide +kernel,rfl,by decide +kernel,by decide +kernel⟩
   case qd=>exact⟨by decide,by decide,by decide,by decide,rfl,rfl,rfl,by decide,by decide,by decide,by decide⟩
   (case q1=>k_is)
   (case q2=>k_is)
   (case q3=>k_is)
   (case q4=>k_is)
   (case q5=>k_is)
   (case q6=>k_is)
   (case q7=>k_is)
   (case q8=>k_is)
   (case q9=>k_is)
   (case q10=>k_is)
   (case q11=>k_is)
   (case q12=>k_is)
   (case q13=>k_is)
   (case q14=>k_is)
  all_goals
   apply Dn.yU KX G
   k_is
   k_is
   k_is
   k_is
   intro _ _ _ _ _ _
   first | exact Dn.zQ λ_=>rfl | exact Dn.zI λ_ _=>rfl | exact Dn.yl λ_ _ _=>rfl | exact Dn.zy λ_ _ _ _=>rfl | exact Dn.zW λ_ _ _ _ _=>rfl | exact Dn.zS λ_ _ _ _ _ _=>rfl | exact Dn.zz λ_ _ _ _ _ _ _=>rfl | exact Dn.zD λ_ _ _ _ _ _ _ _=>rfl
#print axioms PySem.Challenge.cw_ballastbook_k12_a_row_of_orders_flown_holds
