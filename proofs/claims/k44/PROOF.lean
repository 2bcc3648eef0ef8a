import PyProof.Rows.All
import Wide.FinOn
import OpenK.KLine
import OpenK.KWalk
import KE.KRevSl
import KE.KItem
import KE.KFromBytes
import KE.KDictList
import KE.KIsAll
import KE.KRevIter
import KE.KDictOf
import KE.KxBytes
import KE.KSortTup
import KE.KSortAsk
import Lean
import PyProof.EqAt
import PyProof.EqKinds
import PyProof.TupleCall
import PyProof.NeKinds
import PySem.Challenge.RW_ballastbook_k44_winds_and_shuttings_told
set_option Elab.async false
set_option linter.all false
set_option maxRecDepth 100000
set_option maxHeartbeats 4100000
open PySem renaming Value → Qa, wpAny_bind → Qc, Shared → Qd, wpAny → Qf, wpAny_pure → Qg, model → Qh, sizeLine → Qj, starEach → Qn, Program → Qq, World → Qw, mainGlobals → Qx, Around → QC, FuncData → QE, compareOp → QH, wpAny_field → QU, wpAny_loadPart_at → QY, wpAny_holding → QZ, assignEach → Q0, binaryOp → Q2, Spec → Q6, wpAny_mono → Jb, wpAny_truthy_bool → Jc, backTo → Je, wpAny_newObj_type → Jg, mem_of_lookup → Jh, wpAny_isSubtype_exc → Ji, IsPair → Jl, wpAny_callSpecial?_slot → Jr, wpAny_Call_Name_kw → Jx, wpAny_seqItems → JC, sysModules → JD, foldedSetIterable → JI, behindInMarks → JM, bootBuiltins → JS, swapsWith → JT, wpAny_setField_rec → JW, excClassObj → J8, holding → J9, wpAny_call_entry → Ze, wpAny_execs_nil → Zn, Within → Zs, codeAny_mono → Zt, boot_len → Zw, wpAny_execs_cons → Zz, wpAny_call → ZD, wpAny_standAt → ZH, sliceBounds → ZK, wpAny_passesOwn → ZN, wpAny_loadPart' → ZO
open PySem.W renaming Frag → Qb, findIn → Qr, nsIn → QJ, mg_none_of → QQ, keepIn → Q4, fnOf → Q9, emptyDict → Jf, instObj → JE, kia_one → JH, hasDictIn → JJ, mg_of → JN, clsIn → JO, mroIn → JP, kitOne → JQ, codeIn → Za, notCls → Zb, callWith_K → Zo, plainGet → ZA, looks_findIn → ZC
open PySem.Heap renaming get?_push_of_some → Qe, lt_size → Qk, get?_push_size → Qp, get?_update_other → QP, size_push → Jd, get?_update_self → JA, SameBut → JF, get?_none_of_le → J1
open Nat renaming le_refl → Qi, lt_of_lt_of_le → Qy, ne_of_lt → Qz, zero_le → QA, le_trans → QF, lt_of_le_of_lt → QI, lt_irrefl → Jm, add_le_add_left → Jt, lt_trans → Jv, le_succ_of_le → Zr
open PySem.Value renaming ref → Ql, none → QT, bool → Zy
open List renaming mem_cons → Qm, not_mem_nil → Qt, mem_append_right → Qu, size_toArray → Qv, getElem?_eq_some_iff → QB, length_cons → QD, mem_cons_of_mem → QG, getElem?_map → QK, getElem?_set → QL, contains_cons → QM, length_append → QN, mem_cons_self → QV, mem_singleton → QW, length_map → QX, map_cons → Q3, getElem?_append_right → Q5, range → Q7, mem_append → Q8, getElem?_append_left → Jk, lookup → Jn, mem_append_left → Jo, getElem?_replicate → Jq, nodup_cons → Js, getD_eq_getElem?_getD → Jw, replicate → Jy, length_replicate → Jz, ext_getElem? → JK, getElem?_set_self → JR, append_nil → JX, length_set → JY, getElem?_set_ne → J2, getElem?_modify → J6, pairwise_iff_getElem → J7, length_take → Zc, mem_map → Zi, find?_cons → Zp, length_singleton → Zu, nodup_nil → Zx, mem_of_getElem? → ZE, all_eq_true → ZG, all_cons → ZI, map_take → ZJ, filterMap_cons → ZL, getElem?_range → ZM
open Bool renaming false_ne_true → Qo, and_eq_false_iff → QR, eq_iff_iff → Jj, not_eq_true' → JL, and_eq_true → ZF, or_eq_true → ZP
open Or renaming inl → Qs, inr → Ju
open PySem.Builtin.SmallTypes renaming nextOf → QO, ownedTupleIsFree → Jp
open False renaming elim → QS
open PySem.PassesOwn renaming never → Ja
open PySem.Obj renaming data_mapFields → JB, mapFields → Zm, isFreed_of_fields → Zv
open True renaming intro → JG
open PyProof.Rows renaming callWith_type1 → JU
open PySem.W.Looks renaming here → JV
open Array renaming getElem?_eq_some_iff → JZ
open PySem.F renaming slot_tuple_iterator_next → J0, args_tuple_add_2 → Zd, slot_list_append → Zg, type_list_append → Zh, entry_tuple_add → Zj, plainAttrs_list → Zk, slot_tuple_add → Zq
open PySem.Builtin.Slice renaming slicePlaces → J5
open PySem.Builtin.Tuple renaming tupleExact → Zf
open PySem.Builtin.Dict renaming updateFrom → Zl
namespace L2
open PySem PySem.Spec PyProof.Rows
abbrev Key:=Sum Int Str
def nu:Key->Qa->Bool
 |.inl k,v=>Value.isInt k v
 |.inr x,v=>Value.isStrOf x v
def Bb(w:Qw):Key->Int
 |.inl k=>hashInt k
 |.inr x=>hashStr w x
theorem b8:∀{k:Key} {v:Qa},nu k v=true->(∃i t,k=Sum.inl i/\v=Value.int i t)\/(∃x t,k=Sum.inr x/\v=Value.str x t)
 |.inl i,v,h=>by
  obtain⟨t,e⟩:=Value.isInt_shape (k:=i) (v:=v) h;exact .inl ⟨i,t,rfl,e⟩
 |.inr x,v,h=>by
  obtain⟨t,e⟩:=Value.isStrOf_shape (x:=x) (v:=v) h;exact .inr ⟨x,t,rfl,e⟩
theorem sH(i:Int)(t:Tok):nu (.inl i) (.int i t)=true:=by simp[nu,Value.isInt]
theorem tH(x:Str)(t:Tok):nu (.inr x) (.str x t)=true:=by simp[nu,Value.isStrOf]
theorem yb(a b:Int):decide ((Sum.inl a:Key)=Sum.inl b)=(a==b):=by
 by_cases e:a=b
 ·subst e;simp
 ·have h:¬ (Sum.inl a:Key)=Sum.inl b:=λq=>e (Sum.inl.inj q)
  rw[decide_eq_false h];exact(beq_eq_false_iff_ne.mpr e).symm
theorem zB(a b:Str):decide ((Sum.inr a:Key)=Sum.inr b)=decide (a=b):=by
 by_cases e:a=b
 ·subst e;simp
 ·have h:¬ (Sum.inr a:Key)=Sum.inr b:=λq=>e (Sum.inr.inj q)
  rw[decide_eq_false h,decide_eq_false e]
theorem yU(a:Int)(b:Str):decide ((Sum.inl a:Key)=Sum.inr b)=false:=decide_eq_false (λq=>nomatch q)
theorem yk(a:Str)(b:Int):decide ((Sum.inr a:Key)=Sum.inl b)=false:=decide_eq_false (λq=>nomatch q)
def bZ(prog:Qq)(w:Qw):PySem.KeyKind prog w Key where
 is:=nu
 hash:=Bb w
 inj:=λv a b ha hb=>by
  rcases b8 ha with⟨i,t,rfl,rfl⟩ | ⟨x,t,rfl,rfl⟩
  ·rcases b8 hb with⟨j,u,rfl,e⟩ | ⟨y,u,rfl,e⟩
   ·injection e with e1 _;rw[e1]
   ·exact nomatch e
  ·rcases b8 hb with⟨j,u,rfl,e⟩ | ⟨y,u,rfl,e⟩
   ·exact nomatch e
   ·injection e with e1 _;rw[e1]
 byValue:=λk v h=>by
  rcases b8 h with⟨i,t,rfl,rfl⟩ | ⟨x,t,rfl,rfl⟩<;>rfl
 pyHash:=λhv h=>by
  rcases b8 hv with⟨i,t,rfl,rfl⟩ | ⟨x,t,rfl,rfl⟩
  ·exact wpAny_pyHash_int h
  ·exact wpAny_pyHash_str h
 eqBool:=λhu hv h=>by
  rcases b8 hu with⟨i,t,rfl,rfl⟩ | ⟨x,t,rfl,rfl⟩
  ·rcases b8 hv with⟨j,u,rfl,rfl⟩ | ⟨y,u,rfl,rfl⟩
   ·rw[yb] at h;exact wpAny_eqBool_int h
   ·rw[yU] at h;exact SeqAt.EqAt.int_str i t y u _ _ _ _ h
  ·rcases b8 hv with⟨j,u,rfl,rfl⟩ | ⟨y,u,rfl,rfl⟩
   ·rw[yk] at h;exact SeqAt.EqAt.str_int x t j u _ _ _ _ h
   ·rw[zB] at h;exact wpAny_eqBool_str h
 «strs»:=λk x t v h=>by
  rcases b8 h with⟨i,u,rfl,e⟩ | ⟨y,u,rfl,e⟩
  ·exact nomatch e
  ·injection e with e1 _
   subst e1;cases v<;>rfl
theorem oQ(prog:Qq)(w:Qw)(i:Int)(t:Tok):(bZ prog w).is (.inl i) (.int i t)=true:=sH i t
theorem pM(prog:Qq)(w:Qw)(x:Str)(t:Tok):(bZ prog w).is (.inr x) (.str x t)=true:=tH x t
inductive V where
 |non | bl (b:Bool) | int (i:Int) | str (x:Str) | byt (b:Array UInt8) | flt (b:UInt64) | ref (a:Addr) | ty (n:String)
 deriving DecidableEq
def aV:V->Qa->Prop
 |.non,u=>u=QT
 |.bl b,u=>u=Zy b
 |.int i,u=>∃t,u=Value.int i t
 |.str x,u=>∃t,u=Value.str x t
 |.byt b,u=>∃t,u=Value.bytes b t
 |.flt b,u=>∃t,u=Value.float b t
 |.ref a,u=>u=Ql a
 |.ty n,u=>u=Value.type n
abbrev a8:List V->List Qa->Prop:=Paired aV
theorem a8.length{xs:List V}{us:List Qa}(r:a8 xs us):xs.length=us.length:=Paired.length r
theorem a8.get:∀{xs:List V} {us:List Qa} {i:Nat} {x:V},a8 xs us->xs[i]?=some x->∃u,us[i]?=some u/\aV x u
 |_,_,_,_,.nil,e=>by simp at e
 |_,_,0,_,.cons r _,e=>by simp at e;subst e;exact⟨_,rfl,r⟩
 |_,_,i+1,x,.cons _ t,e=>by
  obtain⟨u,h1,h2⟩:=a8.get (i:=i) (x:=x) t (by simpa using e);exact⟨u,by simpa using h1,h2⟩
theorem a8.set{x:V}{u:Qa}(r:aV x u):∀{xs:List V} {us:List Qa} (i:Nat),a8 xs us->a8 (xs.set i x) (us.set i u)
 |_,_,_,.nil=>.nil
 |_,_,0,.cons _ t=>.cons r t
 |_,_,i+1,.cons q t=>.cons q (a8.set r i t)
theorem a8.append:∀{xs ys:List V} {us ws:List Qa},a8 xs us->a8 ys ws->a8 (xs++ys) (us++ws)
 |_,_,_,_,.nil,s=>s
 |_,_,_,_,.cons r t,s=>.cons r (a8.append t s)
theorem a8.take:∀{xs:List V} {us:List Qa} (n:Nat),a8 xs us->a8 (xs.take n) (us.take n)
 |_,_,0,_=>.nil
 |_,_,_+1,.nil=>.nil
 |_,_,n+1,.cons r t=>.cons r (a8.take n t)
theorem a8.drop:∀{xs:List V} {us:List Qa} (n:Nat),a8 xs us->a8 (xs.drop n) (us.drop n)
 |_,_,0,r=>r
 |_,_,_+1,.nil=>.nil
 |_,_,n+1,.cons _ t=>a8.drop n t
def gy:Option V->Option Qa->Prop
 |some v,some u=>aV v u
 |none,none=>True
 |_,_=>False
def KV{κ:Type}:List (κ×V)->List (κ×Qa)->Prop:=Paired λ(p:κ×V) (q:κ×Qa)=>p.1=q.1/\aV p.2 q.2
def kV:Key->V
 |.inl i=>.int i
 |.inr x=>.str x
inductive HO where
 |lst (xs:List V)
 |tup (xs:List V)
 |dK (kvs:List (Key×V)) | dT (kvs:List (List Key×V))
 |set (S:Int->Bool) (n:Nat)
 |ins (C dx:Addr) (fs:List (Str×V))
 |own (x:Addr)
 |xd (fs:List (Str×V))
 |met (f x:Addr)
 |rng (lo hi:Int)
 |frz (o:Obj) (u:HO)
 |tbl (ps:Array Qa)
 |ext (φ:Heap->Prop)
abbrev Hp:=Addr->Option HO
def upd(H:Hp)(a:Addr)(o:HO):Hp:=λb=>if b=a then some o else H b
theorem upd_same{H:Hp}{a:Addr}{o:HO}:upd H a o a=some o:=by unfold upd;rw[if_pos rfl]
theorem ao{H:Hp}{a b:Addr}{o:HO}(h:b≠a):upd H a o b=H b:=by unfold upd;rw[if_neg h]
theorem AS{H:Hp}{a b:Addr}{o u:HO}(h:H a=some o)(h':H b=some u)(d:o≠u):a≠b:=by
 intro e;subst e;rw[h] at h';exact d (Option.some.inj h')
theorem ak{H:Hp}{a b:Addr}{o:HO}(h:H a=some o)(h':H b=none):a≠b:=by
 intro e;subst e;rw[h] at h';cases h'
section
variable(P:Qq)(w:Qw)
def cw(H:Hp)(h:Heap)(a:Addr):HO->Prop
 |.lst xs=>xs.length<=Qj/\∃(its:List Qa) (n:Nat),a8 xs its/\h.get? a=some { cls:=.type "list",data:=.seq its.toArray n }
 |.tup xs=>xs.length<=Qj/\∃its:List Qa,a8 xs its/\IsTup h a its.toArray
 |.dK kvs=>kvs.length<=Qj/\(a==JD)=false/\∃vs,KV kvs vs/\h.DictOf (bZ P w) a vs
 |.dT kvs=>kvs.length<=Qj/\(a==JD)=false/\∃xs:List (List Key×Addr×Qa),
   Paired (λ(p:List Key×V) (q:List Key×Addr×Qa)=>p.1=q.1/\H q.2.1=some (.tup (p.1.map kV))/\aV p.2 q.2.2) kvs xs/\
   ∃o es ep,h.get? a=some o/\o.ExactDict/\o.data=.dict es ep/\es.toList=xs.map (entryOfKey (tupleKind (bZ P w)))/\(xs.map (·.1)).Nodup
 |.set S n=>h.SetOf (intKind P w) a S n
 |.ins C dx fs=>H dx=some (.own a)/\fs.length<=1000/\dx≠a/\h.get? a=some (JE C dx)/\
   ∃mA,h.Ns1 dx mA/\(∀f,gy (fs.lookup f) (mA f))/\Zs mA (fs.map (·.1))
 |.own _=>∃o,h.get? a=some o
 |.xd fs=>∃mA,h.Ns1 a mA/\∀f,gy (fs.lookup f) (mA f)
 |.rng lo hi=>∃t u v,h.get? a=some { cls:=.type "range",data:=.fields #[.int lo t,.int hi u,.int 1 v] }
 |.frz o u=>h.get? a=some o/\cw H h a u
 |.tbl ps=>h.get? a=some { cls:=.none,data:=.fields ps }
 |.met f x=>h.get? a=some (PySem.W.methodObj (.ref f) (.ref x))
 |.ext φ=>φ h/\(∃o,h.get? a=some o)/\∀h1 h2:Heap,φ h1->(∀o,h1.get? a=some o->h2.get? a=some o)->φ h2
def HOk(H:Hp)(h:Heap):Prop:=∀a o,H a=some o->cw P w H h a o
end
section
variable{P:Qq}{w:Qw}{H H':Hp}{h h':Heap}{a:Addr}{o:HO}
theorem cw.lt(x:cw P w H h a o):a<h.objs.size:=by
 cases o with
 |lst xs=>obtain⟨_,_,_,_,e⟩:=x;exact Qk e
 |tup xs=>obtain⟨_,_,_,p⟩:=x;exact p.lt
 |dK kvs=>obtain⟨_,_,_,_,o,_,_,e,_⟩:=x;exact Qk e
 |dT kvs=>obtain⟨_,_,_,_,o,_,_,e,_⟩:=x;exact Qk e
 |set S n=>obtain⟨o,_,_,_,e,_⟩:=x;exact Qk e
 |ins C dx fs=>obtain⟨_,_,_,e,_⟩:=x;exact Qk e
 |own y=>obtain⟨_,e⟩:=x;exact Qk e
 |xd fs=>obtain⟨_,⟨_,_,_,e,_⟩,_⟩:=x;exact Qk e
 |rng lo hi=>obtain⟨_,_,_,e⟩:=x;exact Qk e
 |frz ob u=>obtain⟨e,_⟩:=x;exact Qk e
 |tbl ps=>exact Qk (show h.get? a=some _ from x)
 |met f y=>exact Qk (show h.get? a=some _ from x)
 |ext φ=>obtain⟨_,⟨_,e⟩,_⟩:=x;exact Qk e
theorem Paired.mapP{α β:Type}{F G:α->β->Prop}:∀{l₁:List α} {l₂:List β},Paired F l₁ l₂->(∀a b,F a b->G a b)->Paired G l₁ l₂
 |_,_,.nil,_=>.nil
 |_,_,.cons r t,f=>.cons (f _ _ r) (Paired.mapP t f)
theorem cw.stay(x:cw P w H h a o)(k:∀b u,(b=a\/H b=some (.own a))->h.get? b=some u->h'.get? b=some u)
  (ho:∀b,H b=some (.own a)->H' b=some (.own a)) (ht:∀b xs,H b=some (.tup xs)->H' b=some (.tup xs)):cw P w H' h' a o:=by
 induction o with
 |lst xs=>obtain⟨z,its,n,r,e⟩:=x;exact⟨z,its,n,r,k _ _ (.inl rfl) e⟩
 |tup xs=>obtain⟨z,its,r,ob,e,c⟩:=x;exact⟨z,its,r,ob,k _ _ (.inl rfl) e,c⟩
 |dK kvs=>obtain⟨z,y,vs,r,ob,es,ep,e,c⟩:=x;exact⟨z,y,vs,r,ob,es,ep,k _ _ (.inl rfl) e,c⟩
 |dT kvs=>
  obtain⟨z,y,xs,r,ob,es,ep,e,c⟩:=x;exact⟨z,y,xs,Paired.mapP r λp q z=>⟨z.1,ht _ _ z.2.1,z.2.2⟩,ob,es,ep,k _ _ (.inl rfl) e,c⟩
 |set S n=>obtain⟨ob,es,ep,t,e,c⟩:=x;exact⟨ob,es,ep,t,k _ _ (.inl rfl) e,c⟩
 |ins C dx fs=>
  obtain⟨d,z,ne,e,mA,⟨od,es,ep,e2,c⟩,r⟩:=x;exact⟨ho _ d,z,ne,k _ _ (.inl rfl) e,mA,⟨od,es,ep,k _ _ (.inr d) e2,c⟩,r⟩
 |own y=>obtain⟨ob,e⟩:=x;exact⟨ob,k _ _ (.inl rfl) e⟩
 |xd fs=>obtain⟨mA,⟨od,es,ep,e,c⟩,r⟩:=x;exact⟨mA,⟨od,es,ep,k _ _ (.inl rfl) e,c⟩,r⟩
 |rng lo hi=>obtain⟨t,u,v,e⟩:=x;exact⟨t,u,v,k _ _ (.inl rfl) e⟩
 |frz ob u ih=>obtain⟨e,q⟩:=x;exact⟨k _ _ (.inl rfl) e,ih q⟩
 |tbl ps=>
  have e:h.get? a=some { cls:=.none,data:=.fields ps }:=x;show h'.get? a=some { cls:=.none,data:=.fields ps };exact k a _ (.inl rfl) e
 |met f y=>
  have e:h.get? a=some (PySem.W.methodObj (.ref f) (.ref y)):=x;show h'.get? a=some (PySem.W.methodObj (.ref f) (.ref y));exact k a _ (.inl rfl) e
 |ext φ=>obtain⟨p,⟨o,e⟩,st⟩:=x;exact⟨st _ _ p λo q=>k _ _ (.inl rfl) q,⟨o,k _ _ (.inl rfl) e⟩,st⟩
theorem HOk.lt(x:HOk P w H h)(e:H a=some o):a<h.objs.size:=(x a o e).lt
theorem HOk.fresh(x:HOk P w H h)(e:h.objs.size<=a):H a=none:=by
 cases q:H a with
 |none=>rfl
 |some u=>exact absurd (Qy (x.lt q) e) (Jm _)
theorem HOk.kept(x:HOk P w H h)(k:∀b u,h.get? b=some u->h'.get? b=some u):HOk P w H h':=λa o e=>
 (x a o e).stay (λb u _ q=>k b u q) (λ_ q=>q) λ_ _ q=>q
theorem HOk.laid(x:HOk P w H h)(k:∀b u,h.get? b=some u->h'.get? b=some u)(hp:h.objs.size<=a)(new:cw P w (upd H a o) h' a o):HOk P w (upd H a o) h':=λb u e=>by
 have hn:=x.fresh hp
 by_cases hb:b=a
 ·subst hb;rw[upd_same] at e;cases e;exact new
 ·rw[ao hb] at e
  exact(x b u e).stay (λc v _ q=>k c v q) (λc q=>by rw[ao (ak q hn)];exact q) λc xs q=>by rw[ao (ak q hn)];exact q
end
def Rd(H:Hp)(a:Addr)(u:HO):Prop:=H a=some u\/∃o,H a=some (.frz o u)
theorem Rd.ok{P:Qq}{w:Qw}{H:Hp}{h:Heap}{a:Addr}{u:HO}(r:Rd H a u)(x:HOk P w H h):cw P w H h a u:=by
 rcases r with r | ⟨o,r⟩
 ·exact x a u r
 ·obtain⟨_,q⟩:=x a _ r
  exact q
def Mut:Option HO->Prop
 |some (.lst _)=>True
 |some (.dK _)=>True
 |some (.dT _)=>True
 |some (.set _ _)=>True
 |some (.ins _ _ _)=>True
 |some (.ext _)=>True
 |_=>False
section
variable{P:Qq}{w:Qw}{H:Hp}{h h':Heap}{x e:Addr}{o':HO}
theorem HOk.write(ok:HOk P w H h)(mu:Mut (H x))(he:e=x\/H e=some (.own x))(k:∀b u,b≠e->h.get? b=some u->h'.get? b=some u)(heo:∃u,h'.get? e=some u)
  (new:cw P w (upd H x o') h' x o'):HOk P w (upd H x o') h':=λb u q=>by
 have nown:∀c y,H c=some (.own y)->c≠x:=λc y r z=>by subst z;rw[r] at mu;exact mu
 have ntup:∀c xs,H c=some (.tup xs)->c≠x:=λc xs r z=>by subst z;rw[r] at mu;exact mu
 by_cases hb:b=x
 ·subst hb;rw[upd_same] at q;cases q;exact new
 ·rw[ao hb] at q
  by_cases hbe:b=e
  ·have q':H b=some (.own x):=by
    rcases he with z | z
    ·exact absurd (hbe.trans z) hb
    ·rw[hbe];exact z
   rw[q] at q';cases q';obtain⟨v,hv⟩:=heo;exact⟨v,by rw[hbe];exact hv⟩
  ·refine(ok b u q).stay (λc v hc r=>k c v ?_ r) (λc r=>by rw[ao (nown c b r)];exact r) λc xs r=>by rw[ao (ntup c xs r)];exact r
   rcases hc with rfl | hc
   ·exact hbe
   ·rintro rfl
    rcases he with z | z
    ·exact nown c b hc z
    ·rw[hc] at z;cases z;exact hb rfl
end
structure Un(fs ex:List Addr)(H H':Hp)(h h':Heap):Prop where
 keep:∀b o,h.get? b=some o->H b=none->b∉fs->b∉ex->h'.get? b=some o
 slot:∀b o,h.get? b=some o->H b=none->b∈fs->b∉ex->∃sl,h'.get? b=some { o with slots:=sl }
 free:∀b o,h.get? b=some o->H b=none->b∉ex->H' b=none
 there:∀b o,h.get? b=some o->b∉ex->∃o',h'.get? b=some o'
 tups:∀b xs,H b=some (.tup xs)->H' b=some (.tup xs)
 frzs:∀b o u,H b=some (.frz o u)->H' b=some (.frz o u)
 tbls:∀b ps,H b=some (.tbl ps)->∃more,H' b=some (.tbl (ps++more))
section
variable{fs fs' ex ex':List Addr}{H H1 H2:Hp}{h h1 h2 h':Heap}{a x e:Addr}{o:HO}
theorem Un.any(u:Un fs ex H H1 h h1){b:Addr}{ob:Obj}(q:h.get? b=some ob)(n:H b=none)(hx:b∉ex):∃sl,h1.get? b=some { ob with slots:=sl }:=by
 by_cases hb:b∈fs
 ·exact u.slot b ob q n hb hx
 ·exact⟨ob.slots,u.keep b ob q n hb hx⟩
theorem Un.kept(k:∀b u,h.get? b=some u->h'.get? b=some u):Un fs ex H H h h':=
 ⟨λb ob q _ _ _=>k b ob q,λb ob q _ _ _=>⟨ob.slots,k b ob q⟩,λ_ _ _ n _=>n,λb ob q _=>⟨ob,k b ob q⟩,λ_ _ q=>q,λ_ _ _ q=>q,λ_ ps q=>⟨#[],by rw[q];simp⟩⟩
theorem Un.refl:Un fs ex H H h h:=Un.kept λ_ _ q=>q
theorem Un.laid(k:∀b u,h.get? b=some u->h'.get? b=some u)(hp:h.objs.size<=a)(hn:H a=none):Un fs ex H (upd H a o) h h' where
 keep:=λb u q _ _ _=>k b u q
 slot:=λb u q _ _ _=>⟨u.slots,k b u q⟩
 free:=λb u q n _=>by rw[ao (Qz (Qy (Qk q) hp))];exact n
 there:=λb u q _=>⟨u,k b u q⟩
 tups:=λb xs q=>by rw[ao (ak q hn)];exact q
 frzs:=λb u xs q=>by rw[ao (ak q hn)];exact q
 tbls:=λb ps q=>⟨#[],by rw[ao (ak q hn),q];simp⟩
theorem Un.write(mu:Mut (H x))(he:e=x\/H e=some (.own x))(k:∀b u,b≠e->h.get? b=some u->h'.get? b=some u)(heo:∃u,h'.get? e=some u):Un fs ex H (upd H x o) h h':=by
 have hx:∀b,H b=none->b≠x:=λb n z=>by subst z;rw[n] at mu;exact mu
 have hb:∀b,H b=none->b≠e:=λb n z=>by
  subst z;rcases he with r | r
  ·exact hx b n r
  ·rw[n] at r;cases r
 have hm:∀b u,H b=some u->¬ Mut (some u)->b≠x:=λb u q nm z=>by subst z;rw[q] at mu;exact nm mu
 refine⟨λb u q n _ _=>k b u (hb b n) q,λb u q n _ _=>⟨u.slots,k b u (hb b n) q⟩,λb u q n _=>by rw[ao (hx b n)];exact n,λb u q _=>?_,
  λb xs q=>by rw[ao (hm b _ q λz=>z)];exact q,λb u xs q=>by rw[ao (hm b _ q λz=>z)];exact q,λb ps q=>⟨#[],by rw[ao (hm b _ q λz=>z),q];simp⟩⟩
 by_cases hbe:b=e
 ·subst hbe;exact heo
 ·exact⟨u,k b u hbe q⟩
end
def trk(h:Heap)(H:Hp):List Addr:=(Q7 h.objs.size).filter λa=>(H a).isSome
def nB(h:Heap)(H:Hp):Heap:=PySem.W.hideAll h (trk h H)
theorem tO(h:Heap)(H:Hp):(nB h H).objs.size=h.objs.size:=PySem.W.hideAll_size _ _
theorem vA{h:Heap}{H:Hp}{b:Addr}{o:Obj}(e:h.get? b=some o)(n:H b=none):(nB h H).get? b=some o:=
 PySem.W.hideAll_get _ e λhm=>by
  have q:(H b).isSome=true:=(List.mem_filter.mp hm).2;rw[n] at q;simp at q
theorem xa{h:Heap}{H:Hp}{b:Addr}{o:Obj}(e:(nB h H).get? b=some o):h.get? b=some o/\H b=none:=by
 have e':h.get? b=some o:=PySem.W.of_hideAll (trk h H) e;refine⟨e',?_⟩;cases q:H b with
 |none=>rfl
 |some x=>
  have hm:b∈trk h H:=List.mem_filter.mpr ⟨List.mem_range.mpr (Qk e'),by simp[q]⟩;have z:(nB h H).get? b=none:=PySem.W.hideAll_none (trk h H) hm;rw[z] at e;cases e
structure Mod(K:Qb)(mg:Str->Option Qa)(base:Heap):Prop where
 kin:K.In base
 glob:base.Ns Qx mg
 blt:∃mb,base.Ns builtinsNs mb/\∀x:Str,x≠"__name__"->mb x=JS x
 nolimit:base.NoLimit
structure Cx where
 prog:Qq
 w:Qw
 K:Qb
 mg:Str->Option Qa
 base:Heap
 A:QC
 N:List Str
 s₀:Qd
 H₀:Hp
 env:Env
 outer:List Env
 stack:List Env
 ex:List Addr
 fn:Str->Bool
 calm:Bool
 pn:List (Addr×Obj)
 xe:Qa->Qd->Prop
def frs(l:List Env):List Addr:=l.filterMap (·.frame)
abbrev Cx.fs(X:Cx):List Addr:=frs X.outer
def Vis(sc:Scope)(x:Str):Prop:=sc.names.lookup x=some .local\/sc.names.lookup x=some .cell\/sc.names.lookup x=some .free
def Loc(sc:Scope)(x:Str):Prop:=sc.names.lookup x=some .local\/sc.names.lookup x=some .cell
def A2(env:Env)(h:Heap)(m:Str->Option Qa)(x:Str)(u:Qa):Prop:=
 (env.kindOf x=some .local/\m x=some u)\/((env.kindOf x=some .cell\/env.kindOf x=some .free)/\∃c,env.cells.lookup x=some c/\h.IsCell c (some u))
structure Cx.Ok(X:Cx):Prop where
 mod:Mod X.K X.mg X.base
 kind:X.env.scope.kind=.function
 glob:X.env.globals=Qx
 blt:X.env.builtins=builtinsNs
 above:X.s₀.heap.objs.size<=X.env.locals
 inj:∀x y c,X.env.cells.lookup x=some c->X.env.cells.lookup y=some c->x=y
 has:∀x,(X.env.kindOf x=some .cell\/X.env.kindOf x=some .free)->∃c,X.env.cells.lookup x=some c
 cab:∀x c,X.fn x=true->X.env.cells.lookup x=some c->X.s₀.heap.objs.size<=c
 hd:X.calm=true->X.A.handled=none
 frames:X.A.frames=some X.stack
 stk:X.stack=X.outer\/(X.stack=X.env::X.outer/\X.env.frame=some X.env.locals)
 exf:∀b∈X.ex,b≠X.env.locals/\∀x c,X.env.cells.lookup x=some c->c≠b
 bs:∀b o,X.base.get? b=some o->X.s₀.heap.get? b=some o/\X.H₀ b=none
 bsz:X.base.objs.size<=X.s₀.heap.objs.size
 noex:∀b o,X.base.get? b=some o->b∉X.ex
 exfs:∀b∈X.ex,b∉X.fs
 funs:X.s₀.heap.FunFrames X.base X.outer
 frf:∀b∈X.fs,X.H₀ b=none
structure Inv(X:Cx)(pins:List (Addr×Obj))(σ:List (Option V))(H:Hp)(s:Qd):Prop where
 ok:X.Ok
 os:s.os=X.s₀.os
 bare:AllBare s.gens
 base:Un X.fs X.ex X.H₀ H X.s₀.heap s.heap
 loc:∃m,s.heap.Ns X.env.locals m/\∀(i:Nat) (x:Str) (v:V),X.N[i]?=some x->σ[i]?=some (some v)->Vis X.env.scope x->∃u,aV v u/\A2 X.env s.heap m x u
 cell:∀x c,X.env.cells.lookup x=some c->∃v,s.heap.IsCell c v
 free:H X.env.locals=none
 freeC:∀x c,X.env.cells.lookup x=some c->H c=none
 pin:∀p∈X.pn++pins,s.heap.get? p.1=some p.2/\H p.1=none/\p.1≠X.env.locals/\p.1∉X.fs/\∀v,p.2.data≠.cell v
 hok:HOk X.prog X.w H s.heap
 len:σ.length=X.N.length
section
variable{X:Cx}{pins:List (Addr×Obj)}{σ:List (Option V)}{H H':Hp}{s:Qd}{h':Heap}
theorem Cx.Ok.nofr(ok:X.Ok){b:Addr}{o:Obj}(e:X.base.get? b=some o):b∉X.fs:=λhb=>by
 have:=(ok.funs.mem hb).1;rw[e] at this;cases this
theorem Inv.bs(I:Inv X pins σ H s):∀b o,X.base.get? b=some o->s.heap.get? b=some o/\H b=none:=λb o e=>
 ⟨I.base.keep b o (I.ok.bs b o e).1 (I.ok.bs b o e).2 (I.ok.nofr e) (I.ok.noex b o e),I.base.free b o (I.ok.bs b o e).1 (I.ok.bs b o e).2 (I.ok.noex b o e)⟩
theorem Inv.bk(I:Inv X pins σ H s):∀b o,X.base.get? b=some o->s.heap.get? b=some o:=λb o e=>(I.bs b o e).1
theorem Inv.mod(I:Inv X pins σ H s):Mod X.K X.mg X.base:=I.ok.mod
theorem Inv.kIn(I:Inv X pins σ H s):X.K.In s.heap:=I.ok.mod.kin.keeps I.bk
theorem Inv.lt(I:Inv X pins σ H s):X.env.locals<s.heap.objs.size:=let⟨_,hn,_⟩:=I.loc;hn.lt
theorem Inv.sz(I:Inv X pins σ H s):X.s₀.heap.objs.size<=s.heap.objs.size:=QF I.ok.above (Nat.le_of_lt I.lt)
theorem Inv.nofs(I:Inv X pins σ H s){a:Addr}(h:s.heap.objs.size<=a):a∉X.fs:=λhb=>by
 obtain⟨_,o,ho,_⟩:=I.ok.funs.mem hb;exact absurd (Qy (Qk ho) (QF I.sz h)) (Jm _)
theorem Inv.cne(I:Inv X pins σ H s):∀x c,X.env.cells.lookup x=some c->c≠X.env.locals:=λx c e z=>by
 obtain⟨v,o,ho,hd⟩:=I.cell x c e;obtain⟨m,⟨o',es,ep,ho',hd',_⟩,_⟩:=I.loc;rw[z,ho'] at ho;cases ho;rw[hd'] at hd;cases hd
theorem Inv.funs(I:Inv X pins σ H s):s.heap.FunFrames X.base X.outer:=by
 have all:∀(l:List Env),(∀b∈frs l,b∈X.fs)->X.s₀.heap.FunFrames X.base l->s.heap.FunFrames X.base l:=by
  intro l
  induction l with
  |nil=>intro _ _;trivial
  |cons env r ih=>
   intro hs hl;obtain⟨hk,⟨L,o,hf,hn,ho,hd⟩,hr⟩:=hl;have hL:L∈X.fs:=hs L (by unfold frs;rw[ZL,hf];exact QV);obtain⟨sl,e⟩:=I.base.slot L o ho (I.ok.frf L hL) hL λz=>I.ok.exfs L z hL;exact⟨hk,⟨L,_,hf,hn,e,hd⟩,ih (λb hb=>hs b (by unfold frs;rw[ZL,hf];exact QG _ hb)) hr⟩
 exact all X.outer (λ_ hb=>hb) I.ok.funs
theorem Inv.stack(I:Inv X pins σ H s):s.heap.FunFrames X.base X.stack:=by
 rcases I.ok.stk with e | ⟨e,hf⟩
 ·rw[e];exact I.funs
 ·rw[e]
  obtain⟨m,hn,_⟩:=I.loc;refine .cons (by rw[I.ok.kind];decide) hf hn ?_ I.funs;exact J1 (QF I.ok.bsz I.ok.above)
theorem Inv.stkSub(I:Inv X pins σ H s):∀b∈frs X.stack,b∈X.env.locals::X.fs:=λb hb=>by
 rcases I.ok.stk with e | ⟨e,hf⟩
 ·rw[e] at hb;exact QG _ hb
 ·rw[e] at hb
  unfold frs at hb;rw[ZL,hf] at hb;exact hb
theorem Inv.stkFree(I:Inv X pins σ H s):∀b∈frs X.stack,H b=none:=λb hb=>by
 rcases Qm.mp (I.stkSub b hb) with e | hb
 ·rw[e];exact I.free
 ·obtain⟨_,o,ho,_⟩:=I.ok.funs.mem hb
  exact I.base.free b o ho (I.ok.frf b hb) λz=>I.ok.exfs b z hb
theorem Inv.step{g':Array GenState}{t':Nat}{d':Drawn}{ch:List Addr}(I:Inv X pins σ H s)
  (hch:∀b∈ch,(b∈X.ex\/X.s₀.heap.objs.size<=b)/\b≠X.env.locals/\(∀x c,X.env.cells.lookup x=some c->c≠b)/\∀p∈X.pn++pins,p.1≠b)
  (keep:∀b o,b≠X.env.locals->b∉X.fs->b∉ch->s.heap.get? b=some o->H b=none->h'.get? b=some o)
  (slot:∀b o,b≠X.env.locals->b∈X.fs->b∉ch->s.heap.get? b=some o->H b=none->∃sl,h'.get? b=some { o with slots:=sl }) (free:∀b o,b∉ch->s.heap.get? b=some o->H b=none->H' b=none)
  (there:∀b o,b∉ch->s.heap.get? b=some o->∃o',h'.get? b=some o')
  (tups:∀b xs,H b=some (.tup xs)->H' b=some (.tup xs)) (frzs:∀b o u,H b=some (.frz o u)->H' b=some (.frz o u)) (tbls:∀b ps,H b=some (.tbl ps)->∃more,H' b=some (.tbl (ps++more)))
  (ns:∀m,s.heap.Ns X.env.locals m->h'.Ns X.env.locals m) (hok:HOk X.prog X.w H' h') (hg:AllBare g') :
  Inv X pins σ H' { s with heap:=h',gens:=g',drawn:=d',toks:=t' }:=by
 have neL:∀b o,X.s₀.heap.get? b=some o->b≠X.env.locals:=λb o e=>Qz (Qy (Qk e) I.ok.above)
 have neC:∀b o,X.s₀.heap.get? b=some o->b∉X.ex->b∉ch:=λb o e hx hb=>by
  rcases(hch b hb).1 with z | z
  ·exact hx z
  ·exact absurd (Qy (Qk e) z) (Jm _)
 have cellK:∀x c,X.env.cells.lookup x=some c->∀v,s.heap.IsCell c v->h'.IsCell c v:=λx c e v ⟨o,ho,hd⟩=>by
  have nch:c∉ch:=λz=>(hch c z).2.2.1 x c e rfl
  by_cases hc:c∈X.fs
  ·obtain⟨sl,q⟩:=slot c o (I.cne x c e) hc nch ho (I.freeC x c e)
   exact⟨_,q,hd⟩
  ·exact⟨o,keep c o (I.cne x c e) hc nch ho (I.freeC x c e),hd⟩
 refine⟨I.ok,I.os,hg,⟨λb o e n hb hx=>?_,λb o e n hb hx=>?_,λb o e n hx=>?_,λb o e hx=>?_,λb xs e=>tups b xs (I.base.tups b xs e),λb o xs e=>frzs b o xs (I.base.frzs b o xs e),λb ps e=>?_⟩,?_,λx c e=>?_,?_,λx c e=>?_,λp hp=>?_,hok,I.len⟩
 ·exact keep b o (neL b o e) hb (neC b o e hx) (I.base.keep b o e n hb hx) (I.base.free b o e n hx)
 ·obtain⟨sl,e1⟩:=I.base.slot b o e n hb hx
  obtain⟨sl',e2⟩:=slot b _ (neL b o e) hb (neC b o e hx) e1 (I.base.free b o e n hx);exact⟨sl',e2⟩
 ·obtain⟨o',e1⟩:=I.base.there b o e hx
  exact free b o' (neC b o e hx) e1 (I.base.free b o e n hx)
 ·obtain⟨o',e1⟩:=I.base.there b o e hx
  exact there b o' (neC b o e hx) e1
 ·obtain⟨m1,e1⟩:=I.base.tbls b ps e
  obtain⟨m2,e2⟩:=tbls b _ e1;exact⟨m1++m2,by rw[e2,Array.append_assoc]⟩
 ·obtain⟨m,hn,hl⟩:=I.loc
  refine⟨m,ns m hn,λi x v e1 e2 e3=>?_⟩;obtain⟨u,r,l⟩:=hl i x v e1 e2 e3;refine⟨u,r,?_⟩;rcases l with l | ⟨k,c,e,z⟩
  ·exact .inl l
  ·exact .inr ⟨k,c,e,cellK x c e _ z⟩
 ·obtain⟨v,z⟩:=I.cell x c e
  exact⟨v,cellK x c e v z⟩
 ·obtain⟨m,⟨o,_,_,ho,_⟩,_⟩:=I.loc
  exact free _ o (λz=>(hch _ z).2.1 rfl) ho I.free
 ·obtain⟨v,o,ho,hd⟩:=I.cell x c e
  exact free c o (λz=>(hch c z).2.2.1 x c e rfl) ho (I.freeC x c e)
 ·obtain⟨e,n,ne,nf,d⟩:=I.pin p hp
  have nch:p.1∉ch:=λz=>(hch p.1 z).2.2.2 p hp rfl;exact⟨keep p.1 p.2 ne nf nch e n,free p.1 p.2 nch e n,ne,nf,d⟩
theorem Inv.un{t':Nat}(I:Inv X pins σ H s)(u:Un X.fs [] H H' s.heap h')(hok:HOk X.prog X.w H' h'):Inv X pins σ H' { s with heap:=h',toks:=t' }:=by
 obtain⟨m,⟨o,es,ep,ho,r⟩,_⟩:=id I.loc;obtain⟨sl,hL⟩:=u.any ho I.free (by simp)
 exact I.step (g':=s.gens) (d':=s.drawn) (ch:=[]) (λ_ z=>nomatch z) (λb o _ hb _ e n=>u.keep b o e n hb (by simp)) (λb o _ hb _ e n=>u.slot b o e n hb (by simp)) (λb o _ e n=>u.free b o e n (by simp)) (λb o _ e=>u.there b o e (by simp)) u.tups u.frzs u.tbls (λm' hm=>by
  obtain⟨o',es',ep',ho',r'⟩:=hm;rw[ho] at ho';cases ho'
  exact⟨_,es',ep',hL,r'⟩) hok I.bare
theorem Inv.call{g':Array GenState}{t':Nat}{d':Drawn}{ch:List Addr}(I:Inv X pins σ H s)(u:Un (frs X.stack) ch H H' s.heap h')(hok:HOk X.prog X.w H' h')(hg:AllBare g')
  (hch:∀b∈ch,(b∈X.ex\/X.s₀.heap.objs.size<=b)/\b≠X.env.locals/\(∀x c,X.env.cells.lookup x=some c->c≠b)/\∀p∈X.pn++pins,p.1≠b) :
  Inv X pins σ H' { s with heap:=h',gens:=g',drawn:=d',toks:=t' }:=by
 obtain⟨m,⟨o,es,ep,ho,r⟩,_⟩:=id I.loc;obtain⟨sl,hL⟩:=u.any ho I.free λz=>(hch _ z).2.1 rfl
 exact I.step (ch:=ch) hch (λb o hL hb hc e n=>u.keep b o e n (λz=>(Qm.mp (I.stkSub b z)).elim hL hb) hc) (λb o _ _ hc e n=>u.any e n hc) (λb o hc e n=>u.free b o e n hc) (λb o hc e=>u.there b o e hc) u.tups u.frzs u.tbls (λm' hm=>by
  obtain⟨o',es',ep',ho',r'⟩:=hm;rw[ho] at ho';cases ho'
  exact⟨_,es',ep',hL,r'⟩) hok hg
theorem Inv.turned{t':Nat}{it:Addr}(I:Inv X pins σ H s)(k:∀b o,b≠it->s.heap.get? b=some o->h'.get? b=some o)(hn:H it=none)(hL:it≠X.env.locals)
  (h1:it∈X.ex\/X.s₀.heap.objs.size<=it) (h2:∀x c,X.env.cells.lookup x=some c->c≠it) (h3:∀p∈X.pn++pins,p.1≠it):Inv X pins σ H { s with heap:=h',toks:=t' }:=by
 have nit:∀b u,H b=some u->b≠it:=λb u e z=>by rw[z,hn] at e;cases e
 refine I.step (g':=s.gens) (d':=s.drawn) (ch:=[it]) (λb hb=>?_) (λb o _ _ hc e _=>k b o (λz=>hc (by simp[z])) e) (λb o _ _ hc e _=>⟨o.slots,k b o (λz=>hc (by simp[z])) e⟩) (λ_ _ _ _ n=>n)
  (λb o hc e=>⟨o,k b o (λz=>hc (by simp[z])) e⟩) (λ_ _ e=>e) (λ_ _ _ e=>e) (λb ps e=>⟨#[],by rw[e];simp⟩) (λm hm=>?_) (λb u e=>?_) I.bare
 ·have e:b=it:=by simpa using hb
  subst e;exact⟨h1,hL,h2,h3⟩
 ·obtain⟨o,es,ep,ho,r⟩:=hm
  exact⟨o,es,ep,k _ o (Ne.symm hL) ho,r⟩
 ·refine(I.hok b u e).stay (λc v hc q=>k c v ?_ q) (λ_ q=>q) λ_ _ q=>q
  rcases hc with z | z
  ·rw[z];exact nit b u e
  ·exact nit c _ z
theorem Inv.tok(I:Inv X pins σ H s)(t:Nat):Inv X pins σ H { s with toks:=t }:=I.un (h':=s.heap) (t':=t) Un.refl I.hok
theorem Inv.kept{t':Nat}(I:Inv X pins σ H s)(k:∀b u,s.heap.get? b=some u->h'.get? b=some u):Inv X pins σ H { s with heap:=h',toks:=t' }:=I.un (Un.kept k) (I.hok.kept k)
theorem Inv.laid{a:Addr}{o:HO}{t':Nat}(I:Inv X pins σ H s)(k:∀b u,s.heap.get? b=some u->h'.get? b=some u)(hp:s.heap.objs.size<=a)(new:cw X.prog X.w (upd H a o) h' a o) :
  Inv X pins σ (upd H a o) { s with heap:=h',toks:=t' }:=I.un (Un.laid k hp (I.hok.fresh hp)) (I.hok.laid k hp new)
theorem Inv.write{x e:Addr}{o:HO}{t':Nat}(I:Inv X pins σ H s)(mu:Mut (H x))(he:e=x\/H e=some (.own x))(k:∀b u,b≠e->s.heap.get? b=some u->h'.get? b=some u)(heo:∃u,h'.get? e=some u)
  (new:cw X.prog X.w (upd H x o) h' x o):Inv X pins σ (upd H x o) { s with heap:=h',toks:=t' }:=I.un (Un.write mu he k heo) (I.hok.write mu he k heo new)
theorem Inv.pins_of{pins':List (Addr×Obj)}(I:Inv X pins σ H s)(h:∀p∈pins',s.heap.get? p.1=some p.2/\H p.1=none/\p.1≠X.env.locals/\p.1∉X.fs/\∀v,p.2.data≠.cell v):Inv X pins' σ H s:=
 ⟨I.ok,I.os,I.bare,I.base,I.loc,I.cell,I.free,I.freeC,λp hp=>(Q8.mp hp).elim (λz=>I.pin p (Jo _ z)) (h p),I.hok,I.len⟩
theorem l8{N:List Str}(hN:N.Nodup){i j:Nat}{x:Str}(a:N[i]?=some x)(b:N[j]?=some x):i=j:=by
 obtain⟨h1,e1⟩:=QB.mp a;obtain⟨h2,e2⟩:=QB.mp b;exact(List.getElem_inj hN).mp (e1.trans e2.symm)
theorem sS{M:Model}{A:QC}{E:Qa->Qd->Prop}{i:Nat}{x:Str}{v:V}{u:Qa}{Q:Unit->Qd->Prop}(I:Inv X pins σ H s)(hN:X.N.Nodup)(hi:X.N[i]?=some x)(hx:Loc X.env.scope x)(r:aV v u)
  (h:∀s',Inv X pins (σ.set i (some v)) H s'->(∃a,JF a s.heap s'.heap/\(a=X.env.locals\/X.env.cells.lookup x=some a))->Q () s') (hf:X.fn x=true\/X.env.scope.names.lookup x=some .local:=by first | exact .inl rfl | exact .inr rfl | assumption):Qf M A (storeName X.env x u) Q E s:=by
 obtain⟨m,hn,hl⟩:=id I.loc;have hcls:(X.env.scope.kind == .class || (X.env.scope.kind == .module&&X.env.locals != X.env.globals))=false:=by rw[I.ok.kind];rfl
 have hiσ:i<σ.length:=by rw[I.len];exact(QB.mp hi).1
 have cne:=I.cne
 have tracked:∀{a:Addr} {h':Heap},(∃o,s.heap.get? a=some o/\H a=none)->JF a s.heap h'->HOk X.prog X.w H h':=λ{a h'} ha hs b ob e=>by
  obtain⟨_,_,hfree⟩:=ha;refine(I.hok b ob e).stay (λc w' hc q=>(hs.2 c ?_).trans q) (λ_ q=>q) λ_ _ q=>q;rintro rfl;rcases hc with rfl | hc
  ·rw[hfree] at e;cases e
  ·rw[hfree] at hc;cases hc
 rcases hx with hk | hk
 ·refine wpAny_storeName_local hk hn (λh' hn' hs=>?_) hcls
  obtain⟨oL,_,_,hoL,_⟩:=id hn;refine h _ ⟨I.ok,I.os,I.bare,⟨λb o e n hb hx=>?_,λb o e n hb hx=>?_,I.base.free,λb o e hx=>?_,I.base.tups,I.base.frzs,I.base.tbls⟩,⟨_,hn',λj y v' e1 e2 e3=>?_⟩,λy c e=>?_,I.free,I.freeC,λp hp=>?_,tracked ⟨oL,hoL,I.free⟩ hs,by simpa using I.len⟩ ⟨_,hs,.inl rfl⟩
  ·exact(hs.2 b (Qz (Qy (Qk e) I.ok.above))).trans (I.base.keep b o e n hb hx)
  ·obtain⟨sl,e1⟩:=I.base.slot b o e n hb hx
   exact⟨sl,(hs.2 b (Qz (Qy (Qk e) I.ok.above))).trans e1⟩
  ·obtain⟨o',e1⟩:=I.base.there b o e hx
   exact⟨o',(hs.2 b (Qz (Qy (Qk e) I.ok.above))).trans e1⟩
  ·by_cases hj:j=i
   ·subst hj
    rw[hi] at e1;cases e1;rw[JR hiσ] at e2;cases e2;exact⟨u,r,.inl ⟨hk,by simp⟩⟩
   ·rw[J2 (Ne.symm hj)] at e2
    obtain⟨u',r',q⟩:=hl j y v' e1 e2 e3;refine⟨u',r',?_⟩;rcases q with⟨k,e⟩ | ⟨k,c,e,z⟩
    ·refine .inl ⟨k,?_⟩
     have:y≠x:=λe=>hj (l8 hN e1 (e▸hi));simp[this,e]
    ·exact .inr ⟨k,c,e,z.sameBut hs (cne y c e)⟩
  ·obtain⟨w',z⟩:=I.cell y c e
   exact⟨w',z.sameBut hs (cne y c e)⟩
  ·obtain⟨e,n,ne,nf,d⟩:=I.pin p hp
   exact⟨(hs.2 p.1 ne).trans e,n,ne,nf,d⟩
 ·have hfn:X.fn x=true:=by
   rcases hf with z | z
   ·exact z
   ·rw[z] at hk;cases hk
  obtain⟨c,hc⟩:=I.ok.has x (.inl hk);obtain⟨w',z⟩:=I.cell x c hc;refine wpAny_storeName_cell I.ok.kind hk hc z (λh' hc' hs=>?_);obtain⟨oc,hoc,hocd⟩:=id z;refine h { s with heap:=h' } ⟨I.ok,I.os,I.bare,⟨λb o e n hb hx=>?_,λb o e n hb hx=>?_,I.base.free,λb o e hx=>?_,I.base.tups,I.base.frzs,I.base.tbls⟩,⟨m,hn.sameBut hs (Ne.symm (cne x c hc)),λj y v' e1 e2 e3=>?_⟩,λy c' e=>?_,I.free,I.freeC,λp hp=>?_,tracked ⟨oc,hoc,I.freeC x c hc⟩ hs,by simpa using I.len⟩ ⟨c,hs,.inr hc⟩
  ·exact(hs.2 b (Qz (Qy (Qk e) (I.ok.cab x c hfn hc)))).trans (I.base.keep b o e n hb hx)
  ·obtain⟨sl,e1⟩:=I.base.slot b o e n hb hx
   exact⟨sl,(hs.2 b (Qz (Qy (Qk e) (I.ok.cab x c hfn hc)))).trans e1⟩
  ·obtain⟨o',e1⟩:=I.base.there b o e hx
   exact⟨o',(hs.2 b (Qz (Qy (Qk e) (I.ok.cab x c hfn hc)))).trans e1⟩
  ·by_cases hj:j=i
   ·subst hj
    rw[hi] at e1;cases e1;rw[JR hiσ] at e2;cases e2;exact⟨u,r,.inr ⟨.inl hk,c,hc,hc'⟩⟩
   ·rw[J2 (Ne.symm hj)] at e2
    obtain⟨u',r',q⟩:=hl j y v' e1 e2 e3;refine⟨u',r',?_⟩;rcases q with q | ⟨k,c',e,z'⟩
    ·exact .inl q
    ·refine .inr ⟨k,c',e,z'.sameBut hs ?_⟩
     rintro rfl;exact hj (l8 hN e1 (I.ok.inj _ _ _ e hc▸hi))
  ·by_cases hcc:c'=c
   ·subst hcc;exact⟨_,hc'⟩
   ·obtain⟨w2,z2⟩:=I.cell y c' e
    exact⟨w2,z2.sameBut hs hcc⟩
  ·obtain⟨e,n,ne,nf,d⟩:=I.pin p hp
   refine⟨(hs.2 p.1 ?_).trans e,n,ne,nf,d⟩;intro q;rw[q,hoc] at e;have q':oc=p.2:=Option.some.inj e;exact d w' (by rw[<-q'];exact hocd)
theorem iq{M:Model}{A:QC}{E:Qa->Qd->Prop}{i:Nat}{x:Str}{v:V}{u:Qa}{Q:Unit->Qd->Prop}(I:Inv X pins σ H s)(hN:X.N.Nodup)(hi:X.N[i]?=some x)(hx:Loc X.env.scope x)(r:aV v u)
  (h:∀s',Inv X pins (σ.set i (some v)) H s'->Q () s') (hf:X.fn x=true\/X.env.scope.names.lookup x=some .local:=by first | exact .inl rfl | exact .inr rfl | assumption):Qf M A (storeName X.env x u) Q E s:=
 sS I hN hi hx r (λs' I' _=>h s' I') hf
theorem Inv.call'{s':Qd}{ch:List Addr}(I:Inv X pins σ H s)(ho:s'.os=s.os)(u:Un (frs X.stack) ch H H' s.heap s'.heap)(hok:HOk X.prog X.w H' s'.heap)(hg:AllBare s'.gens)
  (hch:∀b∈ch,(b∈X.ex\/X.s₀.heap.objs.size<=b)/\b≠X.env.locals/\(∀x c,X.env.cells.lookup x=some c->c≠b)/\∀p∈X.pn++pins,p.1≠b):Inv X pins σ H' s':=by
 obtain⟨h',g',d',t',o'⟩:=s';have e:o'=s.os:=ho;subst e;exact I.call (g':=g') (t':=t') (d':=d') u hok hg hch
end
abbrev XK:=Qa->Option Addr->Hp->Prop
abbrev St:=List (Option V)
abbrev VK:=V->Hp->Prop
abbrev TE:=St->Hp->VK->Prop
abbrev TT:=St->Hp->(Bool->Hp->Prop)->Prop
abbrev TA:=St->Hp->(List V->Hp->Prop)->Prop
structure Ends where
 nx:St->Hp->Prop
 rt:VK
 bk:St->Hp->Prop:=λ_ _=>False
 ct:St->Hp->Prop:=λ_ _=>False
abbrev TS:=Ends->St->Hp->Prop
def EP(X:Cx)(pins:List (Addr×Obj))(σ:St)(Q:VK)(u:Qa)(s':Qd):Prop:=∃v H',Inv X pins σ H' s'/\aV v u/\Q v H'
def TP(X:Cx)(pins:List (Addr×Obj))(σ:St)(Q:Bool->Hp->Prop)(b:Bool)(s':Qd):Prop:=∃H',Inv X pins σ H' s'/\Q b H'
def AP(X:Cx)(pins:List (Addr×Obj))(σ:St)(Q:List V->Hp->Prop)(us:List Qa)(s':Qd):Prop:=∃vs H',Inv X pins σ H' s'/\a8 vs us/\Q vs H'
def SP(X:Cx)(pins:List (Addr×Obj))(D:Ends)(f:Flow)(s':Qd):Prop:=
 match f with
 |.next=>∃σ' H',Inv X pins σ' H' s'/\D.nx σ' H'
 |.brk=>∃σ' H',Inv X pins σ' H' s'/\D.bk σ' H'
 |.cont=>∃σ' H',Inv X pins σ' H' s'/\D.ct σ' H'
 |.ret u=>∃v σ' H',Inv X pins σ' H' s'/\aV v u/\D.rt v H'
def PE(X:Cx)(e:Expr)(t:TE):Prop:=
 ∀(pins:List (Addr×Obj)) (s:Qd) (σ:St) (H:Hp) (Q:VK),Inv X pins σ H s->t σ H Q->Qf (Qh X.prog X.w) X.A (eval e X.env) (EP X pins σ Q) X.xe s
def PT(X:Cx)(e:Expr)(t:TT):Prop:=
 ∀(pins:List (Addr×Obj)) (s:Qd) (σ:St) (H:Hp) (Q:Bool->Hp->Prop),Inv X pins σ H s->t σ H Q->Qf (Qh X.prog X.w) X.A (isTrue e X.env (eval e X.env)) (TP X pins σ Q) X.xe s
def PW(X:Cx)(e:Expr)(t:TT):Prop:=
 ∀(whole:Sem Qa) (pins:List (Addr×Obj)) (s:Qd) (σ:St) (H:Hp) (Q:Bool->Hp->Prop),Inv X pins σ H s->t σ H Q->Qf (Qh X.prog X.w) X.A (isTrue e X.env whole) (TP X pins σ Q) X.xe s
theorem PW.pt{X:Cx}{e:Expr}{t:TT}(h:PW X e t):PT X e t:=h _
def PA(X:Cx)(es:List Expr)(t:TA):Prop:=
 ∀(pos:Pos) (pins:List (Addr×Obj)) (s:Qd) (σ:St) (H:Hp) (Q:List V->Hp->Prop),Inv X pins σ H s->t σ H Q->Qf (Qh X.prog X.w) X.A (spliced (Je pos (Qn es X.env))) (AP X pins σ Q) X.xe s
def PS(X:Cx)(st:Stmt)(t:TS):Prop:=
 ∀(pins:List (Addr×Obj)) (s:Qd) (σ:St) (H:Hp) (D:Ends),Inv X pins σ H s->t D σ H->Qf (Qh X.prog X.w) X.A (exec st X.env) (SP X pins D) X.xe s
def PSs(X:Cx)(st:List Stmt)(t:TS):Prop:=
 ∀(pins:List (Addr×Obj)) (s:Qd) (σ:St) (H:Hp) (D:Ends),Inv X pins σ H s->t D σ H->Qf (Qh X.prog X.w) X.A (execs st X.env) (SP X pins D) X.xe s
theorem thn{α:Type}{t:Sem α}{Q Q':α->Qd->Prop}{M:Model}{A:QC}{E:Qa->Qd->Prop}{s:Qd}(h:Qf M A t Q E s)(hQ:∀a s,Q a s->Q' a s):Qf M A t Q' E s:=Jb h hQ λ_ _ x=>x
section
variable{X:Cx}
theorem bin{a b:Expr}{ta tb:TE}(ha:PE X a ta)(hb:PE X b tb){pins:List (Addr×Obj)}{s:Qd}{σ:St}{H:Hp}{R:V->V->Hp->Prop}(I:Inv X pins σ H s)(h:ta σ H λx H1=>tb σ H1 λy H2=>R x y H2)
  {α:Type} {Q:α->Qd->Prop} {f:Qa->Qa->Sem α}
  (hf:∀v u s2 x y H2,Inv X pins σ H2 s2->aV x v->aV y u->R x y H2->Qf (Qh X.prog X.w) X.A (f v u) Q X.xe s2) :
  Qf (Qh X.prog X.w) X.A (eval a X.env) (λv s₁=>Qf (Qh X.prog X.w) X.A (eval b X.env) (λu s₂=>Qf (Qh X.prog X.w) X.A (f v u) Q X.xe s₂) X.xe s₁) X.xe s:=by
 refine thn (ha pins s σ H _ I h) λv s1 ⟨x,H1,I1,r1,q1⟩=>?_;refine thn (hb pins s1 σ H1 _ I1 q1) λu s2 ⟨y,H2,I2,r2,q2⟩=>?_;exact hf v u s2 x y H2 I2 r1 r2 q2
def qh(i:Nat):TE:=λσ H Q=>∃v,σ[i]?=some (some v)/\Q v H
def tC(v:V):TE:=λ_ H Q=>Q v H
theorem jw{i:Nat}{x:Str}{pos:Pos}(hN:X.N[i]?=some x)(hv:Vis X.env.scope x)(hd:(x==("__debug__" : Str))=false:=by decide)(hcd:(x==("__classdict__" : Str))=false:=by decide):PE X (.Name x pos) (qh i):=by
 intro pins s σ H Q I h;obtain⟨v,e,h⟩:=h;obtain⟨m,hn,hl⟩:=I.loc;obtain⟨u,r,l⟩:=hl i x v hN e hv;have fin:EP X pins σ Q u s:=⟨v,H,I,r,h⟩;rcases l with⟨hk,hm⟩ | ⟨hk,c,hc,hcell⟩
 ·exact wpAny_Name (wpAny_loadName_local I.ok.kind hk hn hm fin) hd
 ·rcases hk with hk | hk
  ·exact wpAny_Name (wpAny_loadName_cell I.ok.kind hk hc hcell fin) hd
  ·exact wpAny_Name (wpAny_loadName_free I.ok.kind hk hc hcell fin hcd) hd
theorem bG{i j pos}:PE X (.Constant (.int i) j pos) (tC (.int i)):=λ_ _ _ H _ I h=>wpAny_Constant_int ⟨.int i,H,I.tok _,⟨_,rfl⟩,h⟩
theorem xY{b j pos}:PE X (.Constant (.bool b) j pos) (tC (.bl b)):=λ_ _ _ H _ I h=>Constant_bool ⟨.bl b,H,I,rfl,h⟩
theorem vm{j pos}:PE X (.Constant .none j pos) (tC .non):=λ_ _ _ H _ I h=>Constant_none ⟨.non,H,I,rfl,h⟩
theorem aU{x j pos}:PE X (.Constant (.str x) j pos) (tC (.str x)):=λ_ _ _ H _ I h=>Calls.Constant_str ⟨.str x,H,I.tok _,⟨_,rfl⟩,h⟩
def Gl(X:Cx)(x:Str):Prop:=X.env.kindOf x=some .globalImplicit
theorem fZ{E:Qa->Qd->Prop}{pins:List (Addr×Obj)}{s:Qd}{σ:St}{H:Hp}{x:Str}{u:Qa}{pos:Pos}{Q:Qa->Qd->Prop}(I:Inv X pins σ H s)(hg:Gl X x)(hm:X.mg x=some u)(h:Q u s)
  (hd:(x==("__debug__" : Str))=false:=by decide):Qf (Qh X.prog X.w) X.A (eval (.Name x pos) X.env) Q E s:=
 Calls.Name_function_global I.ok.kind hg (Calls.loadGlobal_global (by rw[I.ok.glob];exact I.mod.glob.keeps I.bk) hm h) hd
theorem kc{E:Qa->Qd->Prop}{pins:List (Addr×Obj)}{s:Qd}{σ:St}{H:Hp}{x:Str}{u:Qa}{pos:Pos}{Q:Qa->Qd->Prop}(I:Inv X pins σ H s)(hg:Gl X x)(hm:X.mg x=none)(hv:JS x=some u)(h:Q u s)
  (hn:x≠"__name__":=by decide) (hd:(x==("__debug__" : Str))=false:=by decide):Qf (Qh X.prog X.w) X.A (eval (.Name x pos) X.env) Q E s:=by
 obtain⟨mb,h1,h2⟩:=I.mod.blt;exact Calls.Name_function_global I.ok.kind hg (Calls.loadGlobal_builtin (by rw[I.ok.glob];exact I.mod.glob.keeps I.bk) hm (by rw[I.ok.blt];exact h1.keeps I.bk) ((h2 x hn).trans hv) h) hd
theorem kW{x:Str}{v:V}{u:Qa}{pos:Pos}(hg:Gl X x)(hm:X.mg x=some u)(r:aV v u)(hd:(x==("__debug__" : Str))=false:=by decide):PE X (.Name x pos) (tC v):=
 λ_ _ _ H _ I h=>fZ I hg hm ⟨v,H,I,r,h⟩ hd
theorem wm{x:Str}{v:V}{u:Qa}{pos:Pos}(hg:Gl X x)(hm:X.mg x=none)(hv:JS x=some u)(r:aV v u)(hn:x≠"__name__":=by decide)(hd:(x==("__debug__" : Str))=false:=by decide):PE X (.Name x pos) (tC v):=
 λ_ _ _ H _ I h=>kc I hg hm hv ⟨v,H,I,r,h⟩ hn hd
def t2I(ta tb:TE)(k:Int->Int->Hp->Prop):St->Hp->Prop:=λσ H=>ta σ H λx H1=>tb σ H1 λy H2=>∃i j,x=.int i/\y=.int j/\k i j H2
variable{a b:Expr}{ta tb:TE}{pos:Pos}
def PC(X:Cx)(op:CmpOp)(a b:Expr)(t:TE):Prop:=
 ∀(pins:List (Addr×Obj)) (s:Qd) (σ:St) (H:Hp) (Q:VK),Inv X pins σ H s->t σ H Q->
  Qf (Qh X.prog X.w) X.A (eval a X.env) (λv s₁=>Qf (Qh X.prog X.w) X.A (eval b X.env) (λu s₂=>Qf (Qh X.prog X.w) X.A (QH op v u) (EP X pins σ Q) X.xe s₂) X.xe s₁) X.xe s
theorem uG(b:Expr){op:CmpOp}(h:op≠.In)(h2:op≠.NotIn):JM op b=false:=by
 have e1:(op==CmpOp.In)=false:=by cases op<;>first | rfl | exact absurd rfl h
 have e2:(op==CmpOp.NotIn)=false:=by cases op<;>first | rfl | exact absurd rfl h2
 cases b<;>simp[JM,e1,e2]
def zK(p:Int->Int->Bool)(ta tb:TE):TE:=λσ H Q=>t2I ta tb (λi j H2=>Q (.bl (p i j)) H2) σ H
abbrev A0:TE->TE->TE:=zK λi j=>decide (i=j)
theorem yS{op:CmpOp}{p:Int->Int->Bool}(ha:PE X a ta)(hb:PE X b tb)
  (rule:∀(i j:Int) (t u:Tok) (Q:Qa->Qd->Prop) (s:Qd),Q (.bool (p i j)) s->Qf (Qh X.prog X.w) X.A (QH op (.int i t) (.int j u)) Q X.xe s):PC X op a b (zK p ta tb):=by
 intro pins s σ H Q I h;refine bin ha hb I h λv u s2 x y H2 I2 rx ry q=>?_;obtain⟨i,j,rfl,rfl,q⟩:=q;obtain⟨t,rfl⟩:=rx;obtain⟨t',rfl⟩:=ry;exact rule i j t t' _ s2 ⟨.bl _,H2,I2,rfl,q⟩
theorem yC(ha:PE X a ta)(hb:PE X b tb):PC X .Eq a b (A0 ta tb):=yS ha hb λ_ _ _ _ _ _ h=>eq_int (by rw[Bool.beq_eq_decide_eq];exact h)
def BC(ta:TE):TE:=λσ H Q=>ta σ H λx H1=>Q (.bl (decide (x=.non))) H1
theorem aV.none_iff{x:V}{v:Qa}(r:aV x v):(v==QT)=decide (x=.non):=by
 cases x with
 |non=>cases r;rfl
 |bl _=>cases r;rfl
 |int _=>obtain⟨t,rfl⟩:=r;rfl
 |str _=>obtain⟨t,rfl⟩:=r;rfl
 |byt _=>obtain⟨t,rfl⟩:=r;rfl
 |flt _=>obtain⟨t,rfl⟩:=r;rfl
 |ref _=>cases r;rfl
 |ty _=>cases r;rfl
theorem qM{j pos'}(ha:PE X a ta):PC X .Is a (.Constant .none j pos') (BC ta):=by
 intro pins s σ H Q I h;refine thn (ha pins s σ H _ I h) λv s1 ⟨x,H1,I1,r1,q1⟩=>?_;exact Constant_none (is_none_gen ⟨.bl _,H1,I1,by rw[r1.none_iff];rfl,q1⟩)
def tB(t:TE):TT:=λσ H Q=>t σ H λx H1=>∃c,x=.bl c/\Q c H1
theorem n9{op:CmpOp}{t:TE}(h:PC X op a b t)(h1:JM op b=false:=by first | exact uG _ (by decide) (by decide) | rfl):PT X (.Compare a [op] [b] pos) (tB t):=by
 intro pins s σ H Q I hw;refine wpAny_isTrue_Compare1 (thn (h pins s σ H _ I hw) λv s1 h1=>thn h1 λu s2 h2=>thn h2 λc s3 ⟨x,H1,I1,r1,q1⟩=>?_) h1;obtain⟨d,rfl,q⟩:=q1;cases r1;exact Jc ⟨H1,I1,q⟩
theorem yr{e:Expr}{t:TE}(h:PE X e t)(he:∀whole,isTrue e X.env whole=(do let v<-whole;standAt e.pos;J9 [v] (truthy v)):=by intro _;rfl):PT X e (tB t):=by
 intro pins s σ H Q I hw;refine isTrue_plain (thn (h pins s σ H _ I hw) λv s1 ⟨x,H1,I1,r1,q1⟩=>?_) (he _);obtain⟨d,rfl,q⟩:=q1;cases r1;exact Jc ⟨H1,I1,q⟩
variable{tA tB':TT}{rest:List Expr}
def Bh(t u:TT):TT:=λσ H Q=>t σ H λc H1=>if c=true then u σ H1 Q else Q false H1
def tOr(t u:TT):TT:=λσ H Q=>t σ H λc H1=>if c=true then Q true H1 else u σ H1 Q
def BG(t:TT):TT:=λσ H Q=>t σ H λc H1=>Q (!c) H1
theorem xf(ha:PT X a tA):PW X (.BoolOp .And [a] pos) tA:=by
 intro wh pins s σ H Q I h;refine isTrue_and (thn (ha pins s σ H Q I h) λc s1 e=>?_);cases c with
 |true=>exact isTrue_and_nil e
 |false=>exact e
theorem u9(ha:PT X a tA):PW X (.BoolOp .Or [a] pos) tA:=by
 intro wh pins s σ H Q I h;refine isTrue_or (thn (ha pins s σ H Q I h) λc s1 e=>?_);cases c with
 |false=>exact isTrue_or_nil e
 |true=>exact e
theorem yY(ha:PT X a tA)(hb:PW X (.BoolOp .And (b::rest) pos) tB'):PW X (.BoolOp .And (a::b::rest) pos) (Bh tA tB'):=by
 intro wh pins s σ H Q I h;refine isTrue_and (thn (ha pins s σ H _ I h) λc s1 ⟨H1,I1,q1⟩=>?_);cases c with
 |true=>exact hb wh pins s1 σ H1 Q I1 q1
 |false=>exact⟨H1,I1,q1⟩
theorem xV(ha:PT X a tA)(hb:PW X (.BoolOp .Or (b::rest) pos) tB'):PW X (.BoolOp .Or (a::b::rest) pos) (tOr tA tB'):=by
 intro wh pins s σ H Q I h;refine isTrue_or (thn (ha pins s σ H _ I h) λc s1 ⟨H1,I1,q1⟩=>?_);cases c with
 |true=>exact⟨H1,I1,q1⟩
 |false=>exact hb wh pins s1 σ H1 Q I1 q1
theorem om(ha:PT X a tA):PT X (.UnaryOp .Not a pos) (BG tA):=by
 intro pins s σ H Q I h;exact isTrue_not (ha pins s σ H (λc H1=>Q (!c) H1) I h)
def AU(ta tb:TE):TE:=λσ H Q=>ta σ H λx H1=>∃c,x=.bl c/\if c=true then tb σ H1 Q else Q (.bl false) H1
def By(ta tb:TE):TE:=λσ H Q=>ta σ H λx H1=>∃c,x=.bl c/\if c=true then Q (.bl true) H1 else tb σ H1 Q
theorem yW{op}{t:TE}(h:PE X a t):PE X (.BoolOp op [a] pos) t:=λpins s σ H Q I hw=>BoolOp_one (h pins s σ H Q I hw)
theorem zm(ha:PE X a ta)(hb:PE X (.BoolOp .And (b::rest) pos) tb):PE X (.BoolOp .And (a::b::rest) pos) (AU ta tb):=by
 intro pins s σ H Q I h;refine BoolOp_and (thn (ha pins s σ H _ I h) λv s1 ⟨x,H1,I1,r1,q1⟩=>?_);obtain⟨c,rfl,q1⟩:=q1;cases r1;refine Jc ?_;cases c with
 |true=>exact hb pins s1 σ H1 Q I1 q1
 |false=>exact⟨.bl false,H1,I1,rfl,q1⟩
theorem AY(ha:PE X a ta)(hb:PE X (.BoolOp .Or (b::rest) pos) tb):PE X (.BoolOp .Or (a::b::rest) pos) (By ta tb):=by
 intro pins s σ H Q I h;refine BoolOp_or (thn (ha pins s σ H _ I h) λv s1 ⟨x,H1,I1,r1,q1⟩=>?_);obtain⟨c,rfl,q1⟩:=q1;cases r1;refine Jc ?_;cases c with
 |false=>exact hb pins s1 σ H1 Q I1 q1
 |true=>exact⟨.bl true,H1,I1,rfl,q1⟩
end
def SqL(K:Qb)(H:Hp)(a:Addr)(xs:List V):Prop:=
 Rd H a (.lst xs)\/
  ∃(o:Obj) (its:Array Qa) (n:Nat),K.lookup a=some o/\o.cls=.type "list"/\o.dict=none/\o.data=.seq its n/\its.size<=Qj/\a8 xs its.toList
def SqT(K:Qb)(H:Hp)(a:Addr)(xs:List V):Prop:=
 Rd H a (.tup xs)\/
  ∃(o:Obj) (its:Array Qa) (n:Nat),K.lookup a=some o/\o.cls=.type "tuple"/\o.data=.seq its n/\its.size<=Qj/\a8 xs its.toList
def Bg:Qa->Option V
 |.none=>some .non
 |.bool b=>some (.bl b)
 |.int i _=>some (.int i)
 |.str x _=>some (.str x)
 |.bytes b _=>some (.byt b)
 |.float b _=>some (.flt b)
 |.ref a=>some (.ref a)
 |.type n=>some (.ty n)
 |_=>none
theorem aV.abs{x:V}{u:Qa}(r:aV x u):Bg u=some x:=by
 cases x with
 |non=>cases r;rfl
 |bl _=>cases r;rfl
 |int _=>obtain⟨t,rfl⟩:=r;rfl
 |str _=>obtain⟨t,rfl⟩:=r;rfl
 |byt _=>obtain⟨t,rfl⟩:=r;rfl
 |flt _=>obtain⟨t,rfl⟩:=r;rfl
 |ref _=>cases r;rfl
 |ty _=>cases r;rfl
theorem aV.inj{x y:V}{u:Qa}(r:aV x u)(q:aV y u):x=y:=Option.some.inj (r.abs.symm.trans q.abs)
theorem a8.inj:∀{xs ys:List V} {us:List Qa},a8 xs us->a8 ys us->xs=ys:=λ{xs ys us} h=>by
 induction h generalizing ys with
 |nil=>intro g;cases g;rfl
 |cons r t ih=>intro g;cases g with | cons r' t'=>rw[r.inj r',ih t']
section
variable{X:Cx}{pins:List (Addr×Obj)}{σ:St}{H:Hp}{s:Qd}{a:Addr}{xs ys:List V}
theorem SqL.of{K:Qb}(h:H a=some (.lst xs)):SqL K H a xs:=.inl (.inl h)
theorem SqT.of{K:Qb}(h:H a=some (.tup xs)):SqT K H a xs:=.inl (.inl h)
theorem Inv.list(I:Inv X pins σ H s)(h:SqL X.K H a xs):∃its:List Qa,a8 xs its/\PlainL s.heap a its.toArray/\xs.length<=Qj:=by
 rcases h with h | ⟨o,its,n,hk,hc,hd,hs,hz,r⟩
 ·obtain⟨z,its,n,r,e⟩:=h.ok I.hok
  exact⟨its,r,⟨_,n,e,rfl,rfl,rfl⟩,z⟩
 ·refine⟨its.toList,r,⟨o,n,I.kIn a o hk,hc,hd,by simpa using hs⟩,?_⟩
  have e:=r.length;simp only[Array.length_toList] at e
  lia
theorem Inv.tuple(I:Inv X pins σ H s)(h:SqT X.K H a xs):∃its:List Qa,a8 xs its/\IsTup s.heap a its.toArray/\xs.length<=Qj:=by
 rcases h with h | ⟨o,its,n,hk,hc,hs,hz,r⟩
 ·obtain⟨z,its,r,p⟩:=h.ok I.hok
  exact⟨its,r,p,z⟩
 ·refine⟨its.toList,r,⟨o,I.kIn a o hk,hc,n,by simpa using hs⟩,?_⟩
  have e:=r.length;simp only[Array.length_toList] at e
  lia
theorem Inv.list_inj(I:Inv X pins σ H s)(h:SqL X.K H a xs)(h':SqL X.K H a ys):xs=ys:=by
 obtain⟨its,r,⟨o,n,e,_,_,d⟩,_⟩:=I.list h;obtain⟨its',r',⟨o',n',e',_,_,d'⟩,_⟩:=I.list h';rw[e] at e';cases e';rw[d] at d';injection d' with d1 _
 have:its=its':=by simpa using congrArg Array.toList d1
 subst this;exact r.inj r'
theorem Inv.tuple_inj(I:Inv X pins σ H s)(h:SqT X.K H a xs)(h':SqT X.K H a ys):xs=ys:=by
 obtain⟨its,r,⟨o,e,_,n,d⟩,_⟩:=I.tuple h;obtain⟨its',r',⟨o',e',_,n',d'⟩,_⟩:=I.tuple h';rw[e] at e';cases e';rw[d] at d';injection d' with d1 _
 have:its=its':=by simpa using congrArg Array.toList d1
 subst this;exact r.inj r'
end
abbrev Cx.wish(X:Cx)(E:Qa->Qd->Prop):Cx:={ X with xe:=E }
abbrev Cx.nox(X:Cx):Cx:=X.wish λ_ _=>False
theorem Cx.Ok.wish{X:Cx}(ok:X.Ok)(E:Qa->Qd->Prop):(X.wish E).Ok:=
 ⟨ok.mod,ok.kind,ok.glob,ok.blt,ok.above,ok.inj,ok.has,ok.cab,ok.hd,ok.frames,ok.stk,ok.exf,ok.bs,ok.bsz,ok.noex,ok.exfs,ok.funs,ok.frf⟩
theorem Cx.Ok.unwish{X:Cx}{E:Qa->Qd->Prop}(ok:(X.wish E).Ok):X.Ok:=
 ⟨ok.mod,ok.kind,ok.glob,ok.blt,ok.above,ok.inj,ok.has,ok.cab,ok.hd,ok.frames,ok.stk,ok.exf,ok.bs,ok.bsz,ok.noex,ok.exfs,ok.funs,ok.frf⟩
section
variable{X:Cx}{pins:List (Addr×Obj)}{σ:St}{H:Hp}{s:Qd}{E:Qa->Qd->Prop}
theorem Inv.wish(I:Inv X pins σ H s)(E:Qa->Qd->Prop):Inv (X.wish E) pins σ H s:=⟨I.ok.wish E,I.os,I.bare,I.base,I.loc,I.cell,I.free,I.freeC,I.pin,I.hok,I.len⟩
theorem Inv.unwish(I:Inv (X.wish E) pins σ H s):Inv X pins σ H s:=⟨I.ok.unwish,I.os,I.bare,I.base,I.loc,I.cell,I.free,I.freeC,I.pin,I.hok,I.len⟩
theorem SP.unwish{D:Ends}{f:Flow}{s':Qd}(h:SP (X.wish E) pins D f s'):SP X pins D f s':=by
 cases f with
 |next=>obtain⟨σ',H',I,q⟩:=h;exact⟨σ',H',I.unwish,q⟩
 |brk=>obtain⟨σ',H',I,q⟩:=h;exact⟨σ',H',I.unwish,q⟩
 |cont=>obtain⟨σ',H',I,q⟩:=h;exact⟨σ',H',I.unwish,q⟩
 |ret u=>obtain⟨v,σ',H',I,r,q⟩:=h;exact⟨v,σ',H',I.unwish,r,q⟩
theorem PSs.nox{st:List Stmt}{t:TS}(h:PSs X.nox st t):PSs X st t:=λpins s σ H D I hw=>
 Jb (h pins s σ H D (I.wish _) hw) (λ_ _ q=>q.unwish) λ_ _ z=>QS z
end
section
variable{X:Cx}{st:Stmt}{rest:List Stmt}{t u:TS}{e:Expr}{te:TE}{pos:Pos}
def zQ:TS:=λD σ H=>D.nx σ H
def A4(t u:TS):TS:=λD σ H=>t { D with nx:=u D } σ H
theorem bp:PSs X [] zQ:=λ_ _ σ H _ I h=>Zn ⟨σ,H,I,h⟩
theorem ar(h1:PS X st t)(h2:PSs X rest u):PSs X (st::rest) (A4 t u):=by
 intro pins s σ H D I h;refine Zz (thn (h1 pins s σ H { D with nx:=u D } I h) λf s1 q=>?_);cases f with
 |next=>
  obtain⟨σ',H',I',q⟩:=q;exact h2 pins s1 σ' H' D I' q
 |ret v=>exact q
 |brk=>exact q
 |cont=>exact q
theorem aH(h1:PS X st t):PSs X [st] t:=by
 intro pins s σ H D I h;refine Zz (thn (h1 pins s σ H D I h) λf s1 q=>?_);cases f with
 |next=>exact Zn q
 |ret v=>exact q
 |brk=>exact q
 |cont=>exact q
theorem Inv.quiet{pins:List (Addr×Obj)}{σ:St}{H:Hp}{s:Qd}(I:Inv X pins σ H s):interactive X.env=false:=by simp[interactive,I.ok.kind]
def AR(te:TE):TS:=λD σ H=>te σ H λ_ H1=>D.nx σ H1
theorem eL(he:PE X e te)(hs:JT e none pos.line X.env=pure false:=by rfl):PS X (.Expr e pos) (AR te):=by
 intro pins s σ H D I h;exact wpAny_Expr_any (thn (he pins s σ H _ I h) λv s1 ⟨x,H1,I1,r1,q1⟩=>⟨σ,H1,I1,q1⟩) I.quiet hs
def Bo(te:TE):TS:=λD σ H=>te σ H D.rt
theorem br(he:PE X e te):PS X (.Return (some e) pos) (Bo te):=by
 intro pins s σ H D I h;exact wpAny_Return_some (thn (he pins s σ H _ I h) λv s1 ⟨x,H1,I1,r1,q1⟩=>⟨x,σ,H1,I1,r1,q1⟩)
def Br(c:TT)(t u:TS):TS:=λD σ H=>c σ H λb H1=>if b=true then t D σ H1 else u D σ H1
theorem cj{c:Expr}{a b:List Stmt}{tc:TT}(hc:PT X c tc)(ha:PSs X a t)(hb:PSs X b u):PS X (.If c a b pos) (Br tc t u):=by
 intro pins s σ H D I h;refine wpAny_If (thn (hc pins s σ H _ I h) λd s1 ⟨H1,I1,q1⟩=>?_);cases d with
 |true=>exact ha pins s1 σ H1 D I1 q1
 |false=>exact hb pins s1 σ H1 D I1 q1
def t_:TS:=λ_ _ _=>False
theorem vj:PS X st t_:=λ_ _ _ _ _ _ h=>h.elim
end
abbrev TG:=V->St->Hp->(St->Hp->Prop)->Prop
abbrev TGs:=List V->St->Hp->(St->Hp->Prop)->Prop
def PG(X:Cx)(target:Expr)(t:TG):Prop:=
 ∀(pins:List (Addr×Obj)) (s:Qd) (σ:St) (H:Hp) (v:V) (u:Qa) (Q:St->Hp->Prop),Inv X pins σ H s->aV v u->t v σ H Q->
  Qf (Qh X.prog X.w) X.A (assign target X.env u) (λ_ s'=>∃σ' H',Inv X pins σ' H' s'/\Q σ' H') X.xe s
def PGs(X:Cx)(ts:List Expr)(t:TGs):Prop:=
 ∀(pins:List (Addr×Obj)) (s:Qd) (σ:St) (H:Hp) (vs:List V) (us:List Qa) (Q:St->Hp->Prop),Inv X pins σ H s->a8 vs us->t vs σ H Q->
  Qf (Qh X.prog X.w) X.A (assignInOrder ((Q0 ts X.env).map (·.2)) us) (λ_ s'=>∃σ' H',Inv X pins σ' H' s'/\Q σ' H') X.xe s
abbrev yB:=V->V->V->Hp->(Hp->Prop)->Prop
def zU(X:Cx)(t:yB):Prop:=
 ∀(pins:List (Addr×Obj)) (s:Qd) (σ:St) (H:Hp) (o i v:V) (ov iv u:Qa) (Q:Hp->Prop),Inv X pins σ H s->aV o ov->aV i iv->aV v u->t o i v H Q->
  Qf (Qh X.prog X.w) X.A (setItem ov iv u) (λ_ s'=>∃H',Inv X pins σ H' s'/\Q H') X.xe s
section
variable{X:Cx}{pos:Pos}
def xX(i:Nat):TG:=λv σ H Q=>Q (σ.set i (some v)) H
theorem di{i:Nat}{x:Str}(hN:X.N.Nodup)(hi:X.N[i]?=some x)(hx:Loc X.env.scope x)(hf:X.fn x=true\/X.env.scope.names.lookup x=some .local:=by first | exact .inl rfl | exact .inr rfl | assumption):PG X (.Name x pos) (xX i):=by
 intro pins s σ H v u Q I r h;exact wpAny_assign_Name (iq I hN hi hx r (λs' I'=>⟨_,H,I',h⟩) hf)
def Ba:TGs:=λvs σ H Q=>vs=[]/\Q σ H
def Ag(t:TG)(u:TGs):TGs:=λvs σ H Q=>∃v r,vs=v::r/\t v σ H λσ' H'=>u r σ' H' Q
theorem nU:PGs X [] Ba:=by
 intro pins s σ H vs us Q I r h;obtain⟨e,h⟩:=h;subst e;cases r;exact assignInOrder_nil ⟨σ,H,I,h⟩
theorem du{e:Expr}{es:List Expr}{t:TG}{u:TGs}(h1:PG X e t)(h2:PGs X es u)
  (hs:(Q0 (e::es) X.env).map (·.2)=assign e X.env::(Q0 es X.env).map (·.2):=by rfl):PGs X (e::es) (Ag t u):=by
 intro pins s σ H vs us Q I r h;obtain⟨v,vr,e1,h⟩:=h;subst e1;cases r with
 |cons r rr=>
  rw[hs];refine assignInOrder_cons (thn (h1 pins s σ H _ _ _ I r h) λ_ s1 ⟨σ1,H1,I1,q1⟩=>?_);exact h2 pins s1 σ1 H1 _ _ Q I1 rr q1
def Bq(K:Qb)(n:Nat)(t:TGs):TG:=λv σ H Q=>∃a xs,v=.ref a/\SqT K H a xs/\xs.length=n/\t xs σ H Q
theorem oK{es:List Expr}{k:Nat}{t:TGs}{n:Nat}(hc:X.calm=true)(h:PGs X es t)
  (hn:(Q0 es X.env).length=n:=by rfl) (hst:(Q0 es X.env).findIdx? (·.1)=none:=by rfl):PG X (.Tuple es k pos) (Bq X.K n t):=by
 intro pins s σ H v u Q I r hw;obtain⟨a,xs,e1,hq,hl,hw⟩:=hw;subst e1;cases r;obtain⟨its,rv,ht,hz⟩:=I.tuple hq;refine assign_Tuple_tuple (I.ok.hd hc) ht (by simp[hn,<-hl,rv.length]) hst λh' hx=>?_;have I1:Inv X pins σ H { s with heap:=h' }:=I.kept (t':=s.toks) λb o e=>hx b o (Qz (Qk e)) e;exact h pins _ σ H xs _ Q I1 (by simpa using rv) hw
def A5(to ti:TE)(t:yB):TG:=λv σ H Q=>to σ H λo H1=>ti σ H1 λi H2=>t o i v H2 λH3=>Q σ H3
theorem za{o i:Expr}{to ti:TE}{t:yB}(ho:PE X o to)(hi:PE X i ti)(hs:zU X t)
  (ha:∀v,assign (.Subscript o i pos) X.env v=(do
   let ov<-J9 [v] (eval o X.env);let iv<-J9 [v,ov] (eval i X.env)
   standAt pos
   J9 [v,ov,iv] (setItem ov iv v)
   release [v,ov,iv] []):=by intro _;rfl):PG X (.Subscript o i pos) (A5 to ti t):=by
 intro pins s σ H v u Q I r h;rw[ha];refine Qc (QZ (thn (ho pins s σ H _ I h) λov s1 ⟨x,H1,I1,r1,q1⟩=>?_));refine Qc (QZ (thn (hi pins s1 σ H1 _ I1 q1) λiv s2 ⟨y,H2,I2,r2,q2⟩=>?_));refine Qc (ZH (Qc (QZ (thn (hs pins s2 σ H2 x y v ov iv u _ I2 r1 r2 r q2) λ_ s3 ⟨H3,I3,q3⟩=>?_))));exact wpAny_release ⟨σ,H3,I3,q3⟩
def zY(te:TE)(g:TG):TS:=λD σ H=>te σ H λx H1=>g x σ H1 D.nx
theorem nX{tg e:Expr}{te:TE}{g:TG}(he:PE X e te)(hg:PG X tg g)(hs:swapsWithSole [tg] e pos.line X.env=pure false:=by rfl)(hw:swappedStores [tg] e X.env=pure none:=by rfl)
  (h1:(Q0 [tg] X.env).map (·.2)=[assign tg X.env]:=by rfl):PS X (.Assign [tg] e pos) (zY te g):=by
 intro pins s σ H D I h;refine wpAny_Assign_stores (thn (he pins s σ H _ I h) λv s1 ⟨x,H1,I1,r1,q1⟩=>?_) hs hw;rw[h1];exact thn (hg pins s1 σ H1 x v _ I1 r1 q1) λ_ s2 q=>q
theorem bg{i:Nat}{x:Str}{e:Expr}{te:TE}{pos':Pos}(hN:X.N.Nodup)(hi:X.N[i]?=some x)(hx:Loc X.env.scope x)(he:PE X e te)(hs:JT e (some (.Name x pos')) pos.line X.env=pure false:=by rfl)(hf:X.fn x=true\/X.env.scope.names.lookup x=some .local:=by first | exact .inl rfl | exact .inr rfl | assumption) :
  PS X (.Assign [.Name x pos'] e pos) (zY te (xX i)):=by
 intro pins s σ H D I h;refine wpAny_Assign_Name (thn (he pins s σ H _ I h) λv s1 ⟨y,H1,I1,r1,q1⟩=>?_) hs;exact iq I1 hN hi hx r1 (λs2 I2=>⟨_,H1,I2,q1⟩) hf
end
structure It where
 go:Nat->Hp->Prop
 yld:Nat->Hp->V->Hp->Prop
 stop:Nat->Hp->Prop
def jU(X:Cx)(pins:List (Addr×Obj))(H:Hp)(b:Addr):Prop:=
 H b=none/\b≠X.env.locals/\b∉X.fs/\(b∈X.ex\/X.s₀.heap.objs.size<=b)/\(∀x c,X.env.cells.lookup x=some c->c≠b)/\∀p∈X.pn++pins,p.1≠b
theorem Inv.fpOk{X:Cx}{pins:List (Addr×Obj)}{σ:St}{H H':Hp}{s:Qd}{b:Addr}(I:Inv X pins σ H s)(hb:s.heap.objs.size<=b)(hn:H' b=none):jU X pins H' b:=by
 refine⟨hn,Nat.ne_of_gt (Qy I.lt hb),I.nofs hb,.inr (QF I.sz hb),λx c e z=>?_,λp hp z=>?_⟩
 ·obtain⟨v,q⟩:=I.cell x c e
  exact absurd (Qy q.lt (by rw[z];exact hb)) (Jm _)
 ·exact absurd (Qy (Qk (I.pin p hp).1) (by rw[z];exact hb)) (Jm _)
structure Turn(P:Qq)(w:Qw)(K:Qb)(tg:Expr)(J:It)(fp:List Addr)(it:Addr)(tn:Nat->Heap->Prop):Prop where
 mem:it∈fp
 obj:∀i h,tn i h->∀b∈fp,∃o,h.get? b=some o/\∀v,o.data≠.cell v
 keep:∀i h h',tn i h->(∀b∈fp,∀o,h.get? b=some o->h'.get? b=some o)->tn i h'
 item:∀(X:Cx),X.prog=P->X.w=w->X.K=K->X.calm=true->∀(i:Nat) (pins:List (Addr×Obj)) (s:Qd) (σ:St) (H:Hp) (E:Qa->Qd->Prop),Inv X pins σ H s->(∀b∈fp,jU X pins H b)->tn i s.heap->J.go i H->
  Qf (Qh P w) X.A (pyNext (.ref it)) (λr s1=>∃u,r=some u/\
   Qf (Qh P w) X.A (letOwnedTupleGo tg (.ref it) u) (λ_ s2=>∃x H',Inv X pins σ H' s2/\aV x u/\J.yld i H x H'/\tn (i+1) s2.heap/\∀b∈fp,H' b=none) E s1) E s
 done:∀(X:Cx),X.prog=P->X.w=w->X.K=K->X.calm=true->∀(i:Nat) (pins:List (Addr×Obj)) (s:Qd) (σ:St) (H:Hp) (E:Qa->Qd->Prop),Inv X pins σ H s->(∀b∈fp,jU X pins H b)->tn i s.heap->J.stop i H->
  Qf (Qh P w) X.A (pyNext (.ref it)) (λr s1=>r=none/\Inv X pins σ H s1) E s
 self:∀(A:QC) (i:Nat) (s:Qd) (Q:Qa->Qd->Prop) (E:Qa->Qd->Prop),tn i s.heap->Q (.ref it) s->Qf (Qh P w) A (pyIter (.ref it)) Q E s
abbrev TI:=St->Hp->(It->Hp->Prop)->Prop
def PIE(X:Cx)(pins:List (Addr×Obj))(σ:St)(tg:Expr)(R:It->Hp->Prop)(itv:Qa)(s2:Qd):Prop:=
 ∃(it:Addr) (fp:List Addr) (tn:Nat->Heap->Prop) (J:It) (H':Hp),itv=.ref it/\Inv X pins σ H' s2/\Turn X.prog X.w X.K tg J fp it tn/\tn 0 s2.heap/\(∀b∈fp,jU X pins H' b)/\R J H'
def PI(X:Cx)(tg iter:Expr)(wi:TI):Prop:=
 ∀(pins:List (Addr×Obj)) (s:Qd) (σ:St) (H:Hp) (R:It->Hp->Prop),Inv X pins σ H s->wi σ H R->
  Qf (Qh X.prog X.w) X.A (eval iter X.env) (λv s1=>Qf (Qh X.prog X.w) X.A (pyIter v) (PIE X pins σ tg R) X.xe s1) X.xe s
theorem ux{M:Model}{A:QC}{E:Qa->Qd->Prop}{s:Qd}{tg:Expr}{it:Addr}{u:Qa}{o:Obj}{n:String}{vs:Array Qa}{Q:Unit->Qd->Prop}(ho:s.heap.get? it=some o)(hc:o.cls=.type n)(hd:o.data=.fields vs)
  (hn:["enumerate","zip","dict_itemiterator","dict_reverseitemiterator","odict_iterator","itertools.zip_longest","itertools.pairwise"].contains n=false) (hQ:Q () s):Qf M A (letOwnedTupleGo tg (.ref it) u) Q E s:=by
 unfold letOwnedTupleGo
 cases tg<;>first
  |exact Qg hQ
  |(cases u<;>first
    |exact Qg hQ
    |(refine Qc (wpAny_load ho ?_)
      rw[hc,hd];show Qf M A (if(["enumerate","zip","dict_itemiterator","dict_reverseitemiterator","odict_iterator","itertools.zip_longest","itertools.pairwise"].contains n&&vs[0]?==some (rawInt _))=true then _ else _) Q E s;rw[if_neg (by intro h;rw[hn,Bool.false_and] at h;cases h)]
      exact Qg hQ))
def Itl(K:Qb)(a:Addr):It:=
 ⟨λi H=>∃xs x,SqL K H a xs/\xs[i]?=some x,λi H x H'=>H'=H/\∀xs,SqL K H a xs->xs[i]?=some x,λi H=>∃xs,SqL K H a xs/\xs.length<=i⟩
def Itt(K:Qb)(a:Addr):It:=
 ⟨λi H=>∃xs x,SqT K H a xs/\xs[i]?=some x,λi H x H'=>H'=H/\∀xs,SqT K H a xs->xs[i]?=some x,λi H=>∃xs,SqT K H a xs/\xs.length<=i⟩
def Itr(lo:Int)(n:Nat):It:=⟨λi _=>i<n,λi H x H'=>H'=H/\x=.int (lo+i),λi _=>n<=i⟩
theorem tF{P:Qq}{w:Qw}{K:Qb}{tg:Expr}(a it:Addr):Turn P w K tg (Itl K a) [it] it (λi h=>h.IsListIter it a i) where
 mem:=by simp
 obj:=λi h st b hb=>by
  have e:b=it:=by simpa using hb
  subst e;obtain⟨o,e,c,d⟩:=st;exact⟨o,e,λv z=>by rw[d] at z;cases z⟩
 keep:=λi h h' st k=>st.at λo e=>k it (by simp) o e
 item:=by
  intro X hP hw hK hc i pins s σ H E I hf st hg;subst hP hw hK;obtain⟨xs,x,hq,hx⟩:=hg;obtain⟨its,rv,p,hz⟩:=I.list hq;obtain⟨u,hu,ru⟩:=rv.get hx;obtain⟨f0,f1,f2,f3,f4,f5⟩:=hf it (by simp);refine wpAny_pyNext_list_item st p.isList (x:=u) (by simpa using hu) λh' st' sb=>?_;have I1:Inv X pins σ H { s with heap:=h' }:=I.turned (t':=s.toks) (λb o hb e=>(sb.2 b hb).trans e) f0 f1 f3 f4 f5;obtain⟨o,e,c,d⟩:=id st';exact⟨u,rfl,ux (s:={ s with heap:=h' }) e c d (by decide) ⟨x,H,I1,ru,⟨rfl,λys hy=>by rw[I.list_inj hy hq];exact hx⟩,st',λb hb=>(hf b hb).1⟩⟩
 done:=by
  intro X hP hw hK hc i pins s σ H E I hf st hg;subst hP hw hK;obtain⟨xs,hq,hx⟩:=hg;obtain⟨its,rv,p,hz⟩:=I.list hq;obtain⟨f0,f1,f2,f3,f4,f5⟩:=hf it (by simp);have hl:=rv.length;exact wpAny_pyNext_list_end (I.ok.hd hc) st p.isList (by simp;lia) λh' eb=>⟨rfl,I.turned (t':=s.toks) (λb o hb e=>eb b o hb e) f0 f1 f3 f4 f5⟩
 self:=λ_ _ _ _ _ st h=>wpAny_pyIter_listiter st h
theorem qC{P:Qq}{w:Qw}{K:Qb}{tg:Expr}(a it:Addr):Turn P w K tg (Itt K a) [it] it (λi h=>h.IsTupleIter it a i) where
 mem:=by simp
 obj:=λi h st b hb=>by
  have e:b=it:=by simpa using hb
  subst e;obtain⟨o,e,c,d⟩:=st;exact⟨o,e,λv z=>by rw[d] at z;cases z⟩
 keep:=λi h h' st k=>st.at λo e=>k it (by simp) o e
 item:=by
  intro X hP hw hK hc i pins s σ H E I hf st hg;subst hP hw hK;obtain⟨xs,x,hq,hx⟩:=hg;obtain⟨its,rv,p,hz⟩:=I.tuple hq;obtain⟨u,hu,ru⟩:=rv.get hx;obtain⟨f0,f1,f2,f3,f4,f5⟩:=hf it (by simp);refine wpAny_pyNext_tuple_item st (show s.heap.IsTuple a its.toArray from p) (x:=u) (by simpa using hu) λh' st' sb=>?_;have I1:Inv X pins σ H { s with heap:=h' }:=I.turned (t':=s.toks) (λb o hb e=>(sb.2 b hb).trans e) f0 f1 f3 f4 f5;obtain⟨o,e,c,d⟩:=id st';exact⟨u,rfl,ux (s:={ s with heap:=h' }) e c d (by decide) ⟨x,H,I1,ru,⟨rfl,λys hy=>by rw[I.tuple_inj hy hq];exact hx⟩,st',λb hb=>(hf b hb).1⟩⟩
 done:=by
  intro X hP hw hK hc i pins s σ H E I hf st hg;subst hP hw hK;obtain⟨xs,hq,hx⟩:=hg;obtain⟨its,rv,p,hz⟩:=I.tuple hq;obtain⟨f0,f1,f2,f3,f4,f5⟩:=hf it (by simp);have hl:=rv.length;exact wpAny_pyNext_tuple_end (I.ok.hd hc) st (show s.heap.IsTuple a its.toArray from p) (by simp;lia) λh' eb=>⟨rfl,I.turned (t':=s.toks) (λb o hb e=>eb b o hb e) f0 f1 f3 f4 f5⟩
 self:=λ_ _ _ _ _ st h=>wpAny_pyIter_tupleiter st h
theorem qf{P:Qq}{w:Qw}{K:Qb}{tg:Expr}(it:Addr)(lo:Int)(n:Nat):Turn P w K tg (Itr lo n) [it] it (λi h=>IsRangeIter h it (lo+(i:Nat)*1) ((n:Int)-(i:Nat)) 1) where
 mem:=by simp
 obj:=λi h st b hb=>by
  have e:b=it:=by simpa using hb
  subst e
  exact⟨_,st,λv z=>by
   have z':Data.fields _=Data.cell v:=z
   cases z'⟩
 keep:=λi h h' st k=>k it (by simp) _ st
 item:=by
  intro X hP hw hK hc i pins s σ H E I hf st hg;subst hP hw hK;obtain⟨f0,f1,f2,f3,f4,f5⟩:=hf it (by simp);have W:=Walks.range (prog:=X.prog) (w:=X.w) (I.ok.hd hc) it lo 1 n;refine W.item i s _ _ hg st λv h' tk hv st' kk=>?_;obtain⟨t,rfl⟩:=hv;have I1:Inv X pins σ H { s with heap:=h',toks:=tk }:=I.turned (λb o hb e=>kk b o (by simpa using hb) e) f0 f1 f3 f4 f5;refine⟨_,rfl,ux (s:={ s with heap:=h',toks:=tk }) (n:="range_iterator") st' rfl rfl (by decide) ⟨.int (lo+i),H,I1,⟨t,?_⟩,⟨rfl,rfl⟩,st',λb hb=>(hf b hb).1⟩⟩;rw[Int.mul_one]
 done:=by
  intro X hP hw hK hc i pins s σ H E I hf st hg;subst hP hw hK;obtain⟨f0,f1,f2,f3,f4,f5⟩:=hf it (by simp);exact wpAny_pyNext_range_end (I.ok.hd hc) st (by have:n<=i:=hg;lia) λh' eb=>⟨rfl,I.turned (t':=s.toks) (λb o hb e=>eb b o hb e) f0 f1 f3 f4 f5⟩
 self:=λ_ _ _ _ _ st h=>wpAny_pyIter_rangeiter st h
section
variable{X:Cx}{tg:Expr}
def Am(K:Qb)(tl:TE):TI:=λσ H R=>tl σ H λx H1=>∃a,x=.ref a/\(∃xs,SqL K H1 a xs)/\R (Itl K a) H1
def Bv(K:Qb)(tl:TE):TI:=λσ H R=>tl σ H λx H1=>∃a,x=.ref a/\(∃xs,SqT K H1 a xs)/\R (Itt K a) H1
theorem hX{l:Expr}{tl:TE}(hl:PE X l tl):PI X tg l (Am X.K tl):=by
 intro pins s σ H R I h;refine thn (hl pins s σ H _ I h) λv s1 ⟨x,H1,I1,r1,q1⟩=>?_;obtain⟨a,e,⟨xs,hq⟩,q⟩:=q1;subst e;cases r1;obtain⟨its,rv,p,hz⟩:=I1.list hq;refine wpAny_pyIter_list p.isList ?_;refine⟨s1.heap.objs.size,[s1.heap.objs.size],_,_,H1,rfl,I1.kept (t':=s1.toks) λb o e=>Qe _ e,tF a _,⟨_,Qp _ rfl,rfl,rfl⟩,λb hb=>?_,q⟩;have e:b=s1.heap.objs.size:=by simpa using hb
 subst e;exact I1.fpOk (Qi _) (I1.hok.fresh (Qi _))
theorem vk{l:Expr}{tl:TE}(hl:PE X l tl):PI X tg l (Bv X.K tl):=by
 intro pins s σ H R I h;refine thn (hl pins s σ H _ I h) λv s1 ⟨x,H1,I1,r1,q1⟩=>?_;obtain⟨a,e,⟨xs,hq⟩,q⟩:=q1;subst e;cases r1;obtain⟨its,rv,p,hz⟩:=I1.tuple hq;refine wpAny_pyIter_tuple (show s1.heap.IsTuple a its.toArray from p) ?_;refine⟨s1.heap.objs.size,[s1.heap.objs.size],_,_,H1,rfl,I1.kept (t':=s1.toks) λb o e=>Qe _ e,qC a _,⟨_,Qp _ rfl,rfl,rfl⟩,λb hb=>?_,q⟩;have e:b=s1.heap.objs.size:=by simpa using hb
 subst e;exact I1.fpOk (Qi _) (I1.hok.fresh (Qi _))
theorem uX{pins:List (Addr×Obj)}{σ:St}{H:Hp}{s:Qd}{R:It->Hp->Prop}{E:Qa->Qd->Prop}{lo hi:Int}{t u v:Tok}{tk:Nat}(I:Inv X pins σ H s)(h1:-(2 ^ 62)<=lo)(h2:lo<2 ^ 62)(h3:-(2 ^ 62)<=hi)(h4:hi<2 ^ 62)
  (q:R (Itr lo (hi-lo).toNat) H):Qf (Qh X.prog X.w) X.A (pyIter (.ref s.heap.objs.size)) (PIE X pins σ tg R) E { s with heap:=s.heap.push { cls:=.type "range",data:=.fields #[.int lo t,.int hi u,.int 1 v] },toks:=tk }:=by
 refine wpAny_pyIter_range (IsRange.new ..) (small_one h1 h2 h3 h4) ?_;have I1:Inv X pins σ H { s with heap:=s.heap.push { cls:=.type "range",data:=.fields #[.int lo t,.int hi u,.int 1 v] },toks:=tk }:=I.kept λb o e=>Qe _ e
 refine⟨(s.heap.push { cls:=.type "range",data:=.fields #[.int lo t,.int hi u,.int 1 v] }).objs.size,[(s.heap.push { cls:=.type "range",data:=.fields #[.int lo t,.int hi u,.int 1 v] }).objs.size],_,_,H,rfl,
  I1.kept (t':=tk) λb o e=>Qe _ e,qf _ lo (hi-lo).toNat,?_,λb hb=>?_,q⟩
 ·have e1:lo+((0:Nat):Int)*1=lo:=by simp
  have e2:(((hi-lo).toNat:Nat):Int)-((0:Nat):Int)=Builtin.Range.rangeSize lo hi 1:=by rw[rangeSize_one];split<;>lia
  show IsRangeIter _ _ (lo+((0:Nat):Int)*1) ((((hi-lo).toNat:Nat):Int)-((0:Nat):Int)) 1;rw[e1,e2];exact Qp _ rfl
 ·have e:b=(s.heap.push { cls:=.type "range",data:=.fields #[.int lo t,.int hi u,.int 1 v] }).objs.size:=by simpa using hb
  subst e;exact I1.fpOk (Qi _) (I1.hok.fresh (Qi _))
def Aa(ta:TA):TI:=λσ H R=>ta σ H λvs H1=>∃j:Int,vs=[.int j]/\-(2 ^ 62)<=j/\j<2 ^ 62/\R (Itr 0 j.toNat) H1
theorem j4{a:Expr}{ta:TA}{p pos:Pos}(hg:Gl X "range")(hm:X.mg "range" = none)(ha:PA X [a] ta)(hs:Qn [a] X.env=[(false,eval a X.env)]:=by rfl):PI X tg (.Call (.Name "range" p) [a] [] pos) (Aa ta):=by
 intro pins s σ H R I h;refine Call_ (kc I hg hm boot_range (JU (thn (ha pos pins s σ H _ I h) λus s1 ⟨vs,H1,I1,r1,q1⟩=>?_) hs rfl));obtain⟨j,e,q1,q2,q⟩:=q1;subst e;cases r1 with
 |cons r rr=>
  cases rr;obtain⟨t,rfl⟩:=r;exact call_range_1 (uX I1 (by lia) (by lia) q1 q2 (by simpa using q))
def Bi(wi:TI)(g:TG)(tb:TS):TS:=λD σ H=>wi σ H λJ H1=>∃W:Nat->Nat->St->Hp->Prop,(∃m,W 0 m σ H1)/\∀i m σ H,W i m σ H->
 (J.stop i H/\D.nx σ H)\/(J.go i H/\∃N:St->Hp->Prop,(∀σ' H',N σ' H'->∃m',m'<m/\W (i+1) m' σ' H')/\∀x H',J.yld i H x H'->g x σ H' λσ2 H2=>tb { D with nx:=N,ct:=N,bk:=D.nx } σ2 H2)
def lg(fp:List Addr)(h:Heap):List (Addr×Obj):=fp.filterMap λb=>(h.get? b).map λo=>(b,o)
theorem gL{fp:List Addr}{h:Heap}{b:Addr}{o:Obj}(hb:b∈fp)(e:h.get? b=some o):(b,o)∈lg fp h:=List.mem_filterMap.mpr ⟨b,hb,by rw[e];rfl⟩
theorem sr{fp:List Addr}{h:Heap}{p:Addr×Obj}(hp:p∈lg fp h):p.1∈fp/\h.get? p.1=some p.2:=by
 obtain⟨b,hb,e⟩:=List.mem_filterMap.mp hp;cases q:h.get? b with
 |none=>rw[q] at e;cases e
 |some o=>
  rw[q] at e;have e':(b,o)=p:=Option.some.inj e;subst e';exact⟨hb,q⟩
theorem Inv.pinned{pins:List (Addr×Obj)}{σ:St}{H:Hp}{s:Qd}{fp:List Addr}(I:Inv X pins σ H s)(hf:∀b∈fp,jU X pins H b)(ho:∀b∈fp,∃o,s.heap.get? b=some o/\∀v,o.data≠.cell v):Inv X (pins++lg fp s.heap) σ H s:=
 I.pins_of λp hp=>(Q8.mp hp).elim (λz=>I.pin p (Qu _ z)) λz=>by
  obtain⟨hb,e⟩:=sr z;obtain⟨f0,f1,f2,_⟩:=hf p.1 hb;obtain⟨o,e',d⟩:=ho p.1 hb;rw[e] at e';cases e';exact⟨e,f0,f1,f2,d⟩
theorem Inv.unpinned{pins pl:List (Addr×Obj)}{σ:St}{H:Hp}{s:Qd}(I:Inv X (pins++pl) σ H s):Inv X pins σ H s:=I.pins_of λp hp=>I.pin p (Qu _ (Jo _ hp))
theorem jq{iter:Expr}{body:List Stmt}{wi:TI}{g:TG}{tb:TS}{pos:Pos}(hp:PassesOwn (Qh X.prog X.w) X.A X.env X.xe)(hc:X.calm=true)(hi:PI X tg iter wi)(hg:PG X tg g)(hb:PSs X body tb)
  (hs:∀x,JI iter X.env x=pure x:=by intro _;rfl):PS X (.For tg iter body [] pos) (Bi wi g tb):=by
 intro pins s σ H D I h;refine wpAny_For (thn (hi pins s σ H _ I h) λv s1 h1=>thn h1 λitv s2 h2=>?_) hs;obtain⟨it,fp,tn,J,H2,e,I2,T,st2,f2,W,⟨m0,w0⟩,turn⟩:=h2;subst e;have stat:∀{H':Hp},(∀b∈fp,H' b=none)->∀b∈fp,jU X pins H' b:=λhn b hb=>⟨hn b hb,(f2 b hb).2⟩;refine codeAny_forLoop_any (λn s'=>∃i σ' H',Inv X pins σ' H' s'/\tn i s'.heap/\(∀b∈fp,H' b=none)/\W i n σ' H') ?_ m0 ⟨0,σ,H2,I2,st2,λb hb=>(f2 b hb).1,w0⟩;rintro n s3 ⟨i,σ3,H3,I3,st3,fr3,w3⟩;rcases turn i n σ3 H3 w3 with⟨stop,qn⟩ | ⟨go,N,hN,step⟩
 ·refine ZN hp (thn (T.done X rfl rfl rfl hc i pins s3 σ3 H3 X.xe I3 (stat fr3) st3 stop) λr s4 ⟨hr,I4⟩=>?_)
  subst hr;exact Zn ⟨σ3,H3,I4,qn⟩
 ·refine ZN hp (thn (T.item X rfl rfl rfl hc i pins s3 σ3 H3 X.xe I3 (stat fr3) st3 go) λr s4 ⟨u,hr,h4⟩=>?_)
  subst hr;refine ZN hp (thn h4 λ_ s5 ⟨x,H5,I5,r5,y5,st5,fr5⟩=>?_);have I5':=I5.pinned (stat fr5) (T.obj _ _ st5);refine ZN hp (thn (hg _ s5 σ3 H5 x u _ I5' r5 (step x H5 y5)) λ_ s6 ⟨σ6,H6,I6,q6⟩=>?_);refine ZN hp (thn (hb _ s6 σ6 H6 _ I6 q6) λf s7 q7=>?_)
  have again:∀{σ7:St} {H7:Hp},Inv X (pins++lg fp s5.heap) σ7 H7 s7->N σ7 H7->∃m,m<n/\∃i σ' H',Inv X pins σ' H' s7/\tn i s7.heap/\(∀b∈fp,H' b=none)/\W i m σ' H':=λ{σ7 H7} I7 n7=>by
   obtain⟨m',hm,w7⟩:=hN σ7 H7 n7;refine⟨m',hm,i+1,σ7,H7,I7.unpinned,T.keep _ _ _ st5 λb hb o e=>(I7.pin (b,o) (Qu _ (Qu _ (gL hb e)))).1,λb hb=>?_,w7⟩;obtain⟨o,e,d⟩:=T.obj _ _ st5 b hb;exact(I7.pin (b,o) (Qu _ (Qu _ (gL hb e)))).2.1
  cases f with
  |next=>obtain⟨σ7,H7,I7,n7⟩:=q7;exact again I7 n7
  |cont=>obtain⟨σ7,H7,I7,n7⟩:=q7;exact again I7 n7
  |brk=>obtain⟨σ7,H7,I7,q7⟩:=q7;exact⟨σ7,H7,I7.unpinned,q7⟩
  |ret v=>obtain⟨x7,σ7,H7,I7,r7,q7⟩:=q7;exact⟨x7,σ7,H7,I7.unpinned,r7,q7⟩
end
theorem vT{K:Qb}{a:Addr}{xs:List V}{g:TG}{tb:TS}{D:Ends}{σ:St}{H:Hp}(Pv:Nat->St->Hp->Prop)(h0:Pv 0 σ H)(hl:∀i σ H,i<=xs.length->Pv i σ H->SqT K H a xs)
  (hs:∀i x σ H,xs[i]?=some x->Pv i σ H->g x σ H λσ2 H2=>tb { D with nx:=Pv (i+1),ct:=Pv (i+1),bk:=D.nx } σ2 H2) (hd:∀σ H,Pv xs.length σ H->D.nx σ H) :
  ∃W:Nat->Nat->St->Hp->Prop,(∃m,W 0 m σ H)/\∀i m σ H,W i m σ H->
   ((Itt K a).stop i H/\D.nx σ H)\/((Itt K a).go i H/\∃N:St->Hp->Prop,(∀σ' H',N σ' H'->∃m',m'<m/\W (i+1) m' σ' H')/\∀x H',(Itt K a).yld i H x H'->g x σ H' λσ2 H2=>tb { D with nx:=N,ct:=N,bk:=D.nx } σ2 H2):=by
 refine⟨λi m σ H=>m=xs.length-i/\i<=xs.length/\Pv i σ H,⟨xs.length,by simp,QA _,h0⟩,?_⟩;rintro i m σ H ⟨rfl,hi,p⟩;have q:=hl i σ H hi p
 by_cases hlt:i<xs.length
 ·refine .inr ⟨⟨xs,xs[i],q,by simp[hlt]⟩,Pv (i+1),λσ' H' p'=>⟨xs.length-(i+1),by lia,rfl,hlt,p'⟩,λx H' y=>?_⟩
  obtain⟨e,y⟩:=y;subst e;exact hs i x σ _ (y xs q) p
 ·have e:i=xs.length:=by lia
  subst e;exact .inl ⟨⟨xs,q,Qi _⟩,hd σ H p⟩
theorem mU{lo:Int}{n:Nat}{g:TG}{tb:TS}{D:Ends}{σ:St}{H:Hp}(Pv:Nat->St->Hp->Prop)(h0:Pv 0 σ H)
  (hs:∀i σ H,i<n->Pv i σ H->g (.int (lo+i)) σ H λσ2 H2=>tb { D with nx:=Pv (i+1),ct:=Pv (i+1),bk:=D.nx } σ2 H2) (hd:∀σ H,Pv n σ H->D.nx σ H) :
  ∃W:Nat->Nat->St->Hp->Prop,(∃m,W 0 m σ H)/\∀i m σ H,W i m σ H->
   ((Itr lo n).stop i H/\D.nx σ H)\/((Itr lo n).go i H/\∃N:St->Hp->Prop,(∀σ' H',N σ' H'->∃m',m'<m/\W (i+1) m' σ' H')/\∀x H',(Itr lo n).yld i H x H'->g x σ H' λσ2 H2=>tb { D with nx:=N,ct:=N,bk:=D.nx } σ2 H2):=by
 refine⟨λi m σ H=>m=n-i/\i<=n/\Pv i σ H,⟨n,by simp,QA _,h0⟩,?_⟩;rintro i m σ H ⟨rfl,hi,p⟩
 by_cases hlt:i<n
 ·refine .inr ⟨hlt,Pv (i+1),λσ' H' p'=>⟨n-(i+1),by lia,rfl,hlt,p'⟩,λx H' y=>?_⟩
  obtain⟨e,y⟩:=y;subst e y;exact hs i σ _ hlt p
 ·have e:i=n:=by lia
  subst e;exact .inl ⟨Qi _,hd σ H p⟩
abbrev R2:=V->V->Hp->VK->Prop
def OpR(X:Cx)(f:Qa->Qa->Sem Qa)(r:R2):Prop:=
 ∀(pins:List (Addr×Obj)) (s:Qd) (σ:St) (H:Hp) (x y:V) (v u:Qa) (Q:VK),Inv X pins σ H s->aV x v->aV y u->r x y H Q->
  Qf (Qh X.prog X.w) X.A (f v u) (EP X pins σ Q) X.xe s
def UnR(X:Cx)(f:Qa->Sem Qa)(r:V->Hp->VK->Prop):Prop:=
 ∀(pins:List (Addr×Obj)) (s:Qd) (σ:St) (H:Hp) (x:V) (v:Qa) (Q:VK),Inv X pins σ H s->aV x v->r x H Q->
  Qf (Qh X.prog X.w) X.A (f v) (EP X pins σ Q) X.xe s
def ie(X:Cx)(f:Qa)(r:List V->Hp->VK->Prop):Prop:=
 ∀(pins:List (Addr×Obj)) (s:Qd) (σ:St) (H:Hp) (xs:List V) (us:List Qa) (Q:VK),Inv X pins σ H s->a8 xs us->r xs H Q->
  Qf (Qh X.prog X.w) X.A (call f us) (EP X pins σ Q) X.xe s
def A7(X:Cx)(r:V->Hp->(Bool->Hp->Prop)->Prop):Prop:=
 ∀(pins:List (Addr×Obj)) (s:Qd) (σ:St) (H:Hp) (x:V) (v:Qa) (Q:Bool->Hp->Prop),Inv X pins σ H s->aV x v->r x H Q->
  Qf (Qh X.prog X.w) X.A (truthy v) (TP X pins σ Q) X.xe s
def tOp(r:R2)(ta tb:TE):TE:=λσ H Q=>ta σ H λx H1=>tb σ H1 λy H2=>r x y H2 Q
def tUn(r:V->Hp->VK->Prop)(ta:TE):TE:=λσ H Q=>ta σ H λx H1=>r x H1 Q
def rI(C:Int->Int->Prop)(g:Int->Int->V):R2:=λx y H Q=>∃i j,x=.int i/\y=.int j/\C i j/\Q (g i j) H
def rI0(g:Int->Int->V):R2:=λx y H Q=>∃i j,x=.int i/\y=.int j/\Q (g i j) H
def rU(g:Int->V):V->Hp->VK->Prop:=λx H Q=>∃i,x=.int i/\Q (g i) H
section
variable{X:Cx}{a b c:Expr}{ta tb tc:TE}{pos:Pos}
theorem ym(ha:PE X a ta)(hb:PE X b tb){pins:List (Addr×Obj)}{s:Qd}{σ:St}{H:Hp}{R:V->V->Hp->Prop}(I:Inv X pins σ H s)
  (h:ta σ H λx H1=>tb σ H1 λy H2=>R x y H2) {Q:Qa->Qd->Prop} {f:Qa->Qa->Sem Qa}
  (hf:∀v u s2 x y H2,Inv X pins σ H2 s2->aV x v->aV y u->R x y H2->Qf (Qh X.prog X.w) X.A (f v u) Q X.xe s2) :
  Qf (Qh X.prog X.w) X.A (eval a X.env) (λv s₁=>Qf (Qh X.prog X.w) X.A (eval b X.env) (λu s₂=>Qf (Qh X.prog X.w) X.A (f v u) Q X.xe s₂) X.xe s₁) X.xe s:=by
 refine thn (ha pins s σ H _ I h) λv s1 ⟨x,H1,I1,r1,q1⟩=>?_;refine thn (hb pins s1 σ H1 _ I1 q1) λu s2 ⟨y,H2,I2,r2,q2⟩=>?_;exact hf v u s2 x y H2 I2 r1 r2 q2
theorem gH{op:Operator}{r:R2}(ho:OpR X (Q2 op) r)(ha:PE X a ta)(hb:PE X b tb):PE X (.BinOp a op b pos) (tOp r ta tb):=by
 intro pins s σ H Q I h;exact wpAny_BinOp (ym ha hb I h λv u s2 x y H2 I2 rx ry q=>ho pins s2 σ H2 x y v u Q I2 rx ry q)
theorem Ao{op:UnaryOp}{r:V->Hp->VK->Prop}(ho:UnR X (unaryOp op) r)(ha:PE X a ta):PE X (.UnaryOp op a pos) (tUn r ta):=by
 intro pins s σ H Q I h;exact UnaryOp_ (thn (ha pins s σ H _ I h) λv s1 ⟨x,H1,I1,r1,q1⟩=>ho pins s1 σ H1 x v Q I1 r1 q1)
theorem opI{f:Qa->Qa->Sem Qa}{C:Int->Int->Prop}{g:Int->Int->Int}
  (rule:∀(i j:Int) (t u:Tok) (s:Qd) (Q:Qa->Qd->Prop) (E:Qa->Qd->Prop),C i j->Q (.int (g i j) s.toks) { s with toks:=s.toks+1 }->Qf (Qh X.prog X.w) X.A (f (.int i t) (.int j u)) Q E s) :
  OpR X f (rI C λi j=>.int (g i j)):=by
 intro pins s σ H x y v u Q I rx ry h;obtain⟨i,j,rfl,rfl,hc,q⟩:=h;obtain⟨t,rfl⟩:=rx;obtain⟨t',rfl⟩:=ry;exact rule i j t t' s _ _ hc ⟨.int (g i j),H,I.tok _,⟨_,rfl⟩,q⟩
theorem Al{f:Qa->Qa->Sem Qa}{g:Int->Int->Int}
  (rule:∀(i j:Int) (t u:Tok) (s:Qd) (Q:Qa->Qd->Prop) (E:Qa->Qd->Prop),Q (.int (g i j) s.toks) { s with toks:=s.toks+1 }->Qf (Qh X.prog X.w) X.A (f (.int i t) (.int j u)) Q E s) :
  OpR X f (rI0 λi j=>.int (g i j)):=by
 intro pins s σ H x y v u Q I rx ry h;obtain⟨i,j,rfl,rfl,q⟩:=h;obtain⟨t,rfl⟩:=rx;obtain⟨t',rfl⟩:=ry;exact rule i j t t' s _ _ ⟨.int (g i j),H,I.tok _,⟨_,rfl⟩,q⟩
theorem wq{f:Qa->Qa->Sem Qa}{g:Int->Int->Bool}
  (rule:∀(i j:Int) (t u:Tok) (s:Qd) (Q:Qa->Qd->Prop) (E:Qa->Qd->Prop),Q (.bool (g i j)) s->Qf (Qh X.prog X.w) X.A (f (.int i t) (.int j u)) Q E s) :
  OpR X f (rI0 λi j=>.bl (g i j)):=by
 intro pins s σ H x y v u Q I rx ry h;obtain⟨i,j,rfl,rfl,q⟩:=h;obtain⟨t,rfl⟩:=rx;obtain⟨t',rfl⟩:=ry;exact rule i j t t' s _ _ ⟨.bl (g i j),H,I,rfl,q⟩
def tN(i j:Int):Prop:=0<j/\j<1073741824
def tm(i j:Int):Prop:=0<=j/\j<=1000000/\i.natAbs<2 ^ 64
def mE(i j:Int):Prop:=(-(2 ^ 64)<i/\i<2 ^ 64)\/(-(2 ^ 64)<j/\j<2 ^ 64)
theorem mE.ok{i j:Int}(h:mE i j):IntMulOk i j:=by
 rcases h with⟨h1,h2⟩ | ⟨h1,h2⟩
 ·exact .of_left (intBits_le_64 h1 h2)
 ·exact .of_right (intBits_le_64 h1 h2)
theorem uh:OpR X (Q2 .Add) (rI0 λi j=>.int (i+j)):=Al λ_ _ _ _ _ _ _ q=>add_int q
theorem zu:OpR X (Q2 .Sub) (rI0 λi j=>.int (i-j)):=Al λ_ _ _ _ _ _ _ q=>sub_int q
theorem yc:OpR X (Q2 .Mult) (rI mE λi j=>.int (i*j)):=opI λ_ _ _ _ _ _ _ hc q=>mul_int q hc.ok
theorem wZ:OpR X (Q2 .FloorDiv) (rI tN λi j=>.int (i/j)):=opI λi j _ _ _ _ _ hc q=>by
 have h1:(0:Int)<j:=hc.1;have h2:j<1073741824:=hc.2;exact floordiv_int (by lia) (by rw[Int.fdiv_eq_ediv_of_nonneg i (by lia)];exact q) (.inl (PyProof.noPylong_small (by lia)))
theorem zz:OpR X (Q2 .Mod) (rI (λ_ j=>0<j) λi j=>.int (i%j)):=opI λi j _ _ _ _ _ hc q=>by
 have h1:(0:Int)<j:=hc;exact mod_int' (by lia) (by rw[Int.fmod_eq_emod_of_nonneg i (by lia)];exact q)
theorem zg:OpR X (Q2 .Pow) (rI tm λi j=>.int (i ^ j.toNat)):=opI λ_ _ _ _ _ _ _ hc q=>pow_int_small hc.1 hc.2.1 hc.2.2 q
theorem unI{f:Qa->Sem Qa}{g:Int->Int}
  (rule:∀(i:Int) (t:Tok) (s:Qd) (Q:Qa->Qd->Prop) (E:Qa->Qd->Prop),Q (.int (g i) s.toks) { s with toks:=s.toks+1 }->Qf (Qh X.prog X.w) X.A (f (.int i t)) Q E s) :
  UnR X f (rU λi=>.int (g i)):=by
 intro pins s σ H x v Q I rx h;obtain⟨i,rfl,q⟩:=h;obtain⟨t,rfl⟩:=rx;exact rule i t s _ _ ⟨.int (g i),H,I.tok _,⟨_,rfl⟩,q⟩
theorem zC:UnR X (unaryOp .USub) (rU λi=>.int (-i)):=unI λ_ _ _ _ _ q=>neg_int q
end
def zo:V->V->Bool
 |.non,.non=>true | .non,.int _=>true | .int _,.non=>true | .non,.bl _=>true | .bl _,.non=>true | .non,.str _=>true | .str _,.non=>true
 |.int _,.int _=>true | .bl _,.bl _=>true | .str _,.str _=>true | .byt _,.byt _=>true
 |.int _,.str _=>true | .str _,.int _=>true | .bl _,.str _=>true | .str _,.bl _=>true
 |_,_=>false
def rEq:R2:=λx y H Q=>zo x y=true/\Q (.bl (decide (x=y))) H
def rNe:R2:=λx y H Q=>zo x y=true/\Q (.bl (!decide (x=y))) H
theorem rf{i j:Int}:decide (V.int i=V.int j)=(i==j):=by
 rw[Jj];simp
theorem vC{i j:Bool}:decide (V.bl i=V.bl j)=(i==j):=by
 rw[Jj];simp
theorem rN{i j:Str}:decide (V.str i=V.str j)=(i==j):=by
 rw[Jj];simp
theorem rh{i j:Array UInt8}:decide (V.byt i=V.byt j)=(i.toList==j.toList):=by
 rw[Jj];cases i;cases j;simp
section
variable{X:Cx}{a b c:Expr}{ta tb tc:TE}{pos:Pos}
theorem bo{pins:List (Addr×Obj)}{σ:St}{H:Hp}{s:Qd}{Q:VK}{k k':Bool}(I:Inv X pins σ H s)(q:Q (.bl k) H)(e:k=k'):EP X pins σ Q (.bool k') s:=by
 subst e;exact⟨.bl k,H,I,rfl,q⟩
theorem iQ:OpR X (QH .Eq) rEq:=by
 intro pins s σ H x y v u Q I rx ry h;obtain⟨hs,q⟩:=h;cases x with
 |non=>
  cases rx;cases y with
  |non=>cases ry;exact PySem.EqNone.eq_none_none (bo I q (by simp))
  |bl j=>cases ry;exact PySem.EqNone.eq_none_bool (bo I q (by simp))
  |int j=>obtain⟨t',rfl⟩:=ry;exact PySem.EqNone.eq_none_int (bo I q (by simp))
  |str j=>obtain⟨t',rfl⟩:=ry;exact PySem.EqNone.eq_none_str (bo I q (by simp))
  |_=>exact absurd (show false=true from hs) Qo
 |bl i=>
  cases rx;cases y with
  |non=>cases ry;exact PySem.EqNone.eq_bool_none (bo I q (by simp))
  |bl j=>cases ry;exact eq_bool (bo I q vC)
  |str j=>obtain⟨t',rfl⟩:=ry;exact PySem.EqMixed.eq_bool_str (bo I q (by simp))
  |_=>exact absurd (show false=true from hs) Qo
 |int i=>
  obtain⟨t,rfl⟩:=rx;cases y with
  |non=>cases ry;exact PySem.EqNone.eq_int_none (bo I q (by simp))
  |int j=>obtain⟨t',rfl⟩:=ry;exact eq_int (bo I q rf)
  |str j=>obtain⟨t',rfl⟩:=ry;exact PySem.EqMixed.eq_int_str (bo I q (by simp))
  |_=>exact absurd (show false=true from hs) Qo
 |str i=>
  obtain⟨t,rfl⟩:=rx;cases y with
  |non=>cases ry;exact PySem.EqNone.eq_str_none (bo I q (by simp))
  |bl j=>cases ry;exact PySem.EqMixed.eq_str_bool (bo I q (by simp))
  |int j=>obtain⟨t',rfl⟩:=ry;exact PySem.EqMixed.eq_str_int (bo I q (by simp))
  |str j=>obtain⟨t',rfl⟩:=ry;exact eq_str (bo I q rN)
  |_=>exact absurd (show false=true from hs) Qo
 |byt i=>
  obtain⟨t,rfl⟩:=rx;cases y with
  |byt j=>obtain⟨t',rfl⟩:=ry;exact PySem.W.eq_bytes (bo I q rh)
  |_=>exact absurd (show false=true from hs) Qo
 |_=>cases y<;>exact absurd (show false=true from hs) Qo
theorem Ax:OpR X (QH .NotEq) rNe:=by
 intro pins s σ H x y v u Q I rx ry h;obtain⟨hs,q⟩:=h;cases x with
 |non=>
  cases rx;cases y with
  |non=>cases ry;exact PySem.EqNone.ne_none_none (bo I q (by simp))
  |bl j=>cases ry;exact PySem.EqNone.ne_none_bool (bo I q (by simp))
  |int j=>obtain⟨t',rfl⟩:=ry;exact PySem.EqNone.ne_none_int (bo I q (by simp))
  |str j=>obtain⟨t',rfl⟩:=ry;exact PySem.EqNone.ne_none_str (bo I q (by simp))
  |_=>exact absurd (show false=true from hs) Qo
 |bl i=>
  cases rx;cases y with
  |non=>cases ry;exact PySem.EqNone.ne_bool_none (bo I q (by simp))
  |bl j=>cases ry;exact ne_bool (bo I q (congrArg not vC))
  |str j=>obtain⟨t',rfl⟩:=ry;exact PySem.EqMixed.ne_bool_str (bo I q (by simp))
  |_=>exact absurd (show false=true from hs) Qo
 |int i=>
  obtain⟨t,rfl⟩:=rx;cases y with
  |non=>cases ry;exact PySem.EqNone.ne_int_none (bo I q (by simp))
  |int j=>obtain⟨t',rfl⟩:=ry;exact ne_int (bo I q (congrArg not rf))
  |str j=>obtain⟨t',rfl⟩:=ry;exact PySem.EqMixed.ne_int_str (bo I q (by simp))
  |_=>exact absurd (show false=true from hs) Qo
 |str i=>
  obtain⟨t,rfl⟩:=rx;cases y with
  |non=>cases ry;exact PySem.EqNone.ne_str_none (bo I q (by simp))
  |bl j=>cases ry;exact PySem.EqMixed.ne_str_bool (bo I q (by simp))
  |int j=>obtain⟨t',rfl⟩:=ry;exact PySem.EqMixed.ne_str_int (bo I q (by simp))
  |str j=>obtain⟨t',rfl⟩:=ry;exact ne_str (bo I q (congrArg not rN))
  |_=>exact absurd (show false=true from hs) Qo
 |byt i=>
  obtain⟨t,rfl⟩:=rx;cases y with
  |byt j=>obtain⟨t',rfl⟩:=ry;exact PySem.W.ne_bytes (bo I q (congrArg not rh))
  |_=>exact absurd (show false=true from hs) Qo
 |_=>cases y<;>exact absurd (show false=true from hs) Qo
theorem xS:OpR X (QH .Lt) (rI0 λi j=>.bl (decide (i<j))):=wq λ_ _ _ _ _ _ _ q=>lt_int q
theorem xE:OpR X (QH .LtE) (rI0 λi j=>.bl (decide (i<=j))):=wq λ_ _ _ _ _ _ _ q=>le_int q
theorem xT:OpR X (QH .Gt) (rI0 λi j=>.bl (decide (j<i))):=wq λ_ _ _ _ _ _ _ q=>gt_int q
theorem xC:OpR X (QH .GtE) (rI0 λi j=>.bl (decide (j<=i))):=wq λ_ _ _ _ _ _ _ q=>ge_int q
theorem yM:OpR X (QH .Is) (λx y H Q=>y=.non/\Q (.bl (decide (x=.non))) H):=by
 intro pins s σ H x y v u Q I rx ry h;obtain⟨rfl,q⟩:=h;cases ry;refine is_none_gen (bo I q ?_)
 cases x<;>first
  |(cases rx;rfl)
  |(obtain⟨t,rfl⟩:=rx;rfl)
theorem aJ(b:Expr){op:CmpOp}(h:op≠.In:=by decide)(h2:op≠.NotIn:=by decide):JM op b=false:=by
 have e1:(op==CmpOp.In)=false:=by cases op<;>first | rfl | exact absurd rfl h
 have e2:(op==CmpOp.NotIn)=false:=by cases op<;>first | rfl | exact absurd rfl h2
 cases b<;>simp[JM,e1,e2]
theorem wN{op:CmpOp}{r:R2}(ho:OpR X (QH op) r)(ha:PE X a ta)(hb:PE X b tb)(hm:JM op b=false):PE X (.Compare a [op] [b] pos) (tOp r ta tb):=by
 intro pins s σ H Q I h;exact wpAny_Compare1 (ym ha hb I h λv u s2 x y H2 I2 rx ry q=>ho pins s2 σ H2 x y v u Q I2 rx ry q) hm
def xN(t:TE):TT:=λσ H Q=>t σ H λx H'=>∃k,x=.bl k/\Q k H'
theorem cn{op:CmpOp}{r:R2}(ho:OpR X (QH op) r)(ha:PE X a ta)(hb:PE X b tb)(hm:JM op b=false):PT X (.Compare a [op] [b] pos) (xN (tOp r ta tb)):=by
 intro pins s σ H Q I h
 refine wpAny_isTrue_Compare1 (thn (ha pins s σ H _ I h) λv s1 ⟨x,H1,I1,r1,q1⟩=>thn (hb pins s1 σ H1 _ I1 q1) λu s2 ⟨y,H2,I2,r2,q2⟩=>
  thn (ho pins s2 σ H2 x y v u _ I2 r1 r2 q2) λc s3 ⟨z,H3,I3,r3,k,e,q3⟩=>?_) hm
 subst e;cases r3;exact Jc ⟨H3,I3,q3⟩
def ze(r r':R2)(ta tb tc:TE):TE:=λσ H Q=>ta σ H λx H1=>tb σ H1 λy H2=>r x y H2 λz H3=>∃k,z=.bl k/\
 (if k=true then tc σ H3 λw' H4=>r' y w' H4 Q else Q (.bl false) H3)
theorem uD{op op':CmpOp}{r r':R2}(ho:OpR X (QH op) r)(ho':OpR X (QH op') r')(ha:PE X a ta)(hb:PE X b tb)(hc:PE X c tc)
  (hm:lastMarks [op,op'] [b,c]=false:=by with_unfolding_all rfl):PT X (.Compare a [op,op'] [b,c] pos) (xN (ze r r' ta tb tc)):=by
 intro pins s σ H Q I h
 refine isTrue_chain (thn (ha pins s σ H _ I h) λv s1 ⟨x,H1,I1,r1,q1⟩=>test_link (thn (hb pins s1 σ H1 _ I1 q1) λu s2 ⟨y,H2,I2,r2,q2⟩=>
  thn (ho pins s2 σ H2 x y v u _ I2 r1 r2 q2) λd s3 ⟨z,H3,I3,r3,k,e,q3⟩=>?_)) hm
 subst e;cases r3;refine Jc ?_;cases k with
 |false=>
  obtain⟨k',e',q'⟩:=q3;cases e';exact ite_ff ⟨H3,I3,q'⟩
 |true=>
  refine ite_tt (test_last (thn (hc pins s3 σ H3 _ I3 q3) λw' s4 ⟨z',H4,I4,r4,q4⟩=>thn (ho' pins s4 σ H4 y z' u w' _ I4 r2 r4 q4) λd' s5 ⟨z2,H5,I5,r5,k2,e2,q5⟩=>?_));subst e2;cases r5;exact Jc ⟨H5,I5,q5⟩
def AW(K:Qb)(x:V)(H:Hp)(k:Bool):Prop:=
 match x with
 |.non=>k=false
 |.bl b=>k=b
 |.int i=>k=(i != 0)
 |.str y=>y.length<=Qj/\k=((y.length:Int) != 0)
 |.byt y=>y.size<=Qj/\k=((y.size:Int) != 0)
 |.ref p=>(∃xs,SqL K H p xs/\k = !xs.isEmpty)\/(∃xs,SqT K H p xs/\k = !xs.isEmpty)\/∃kvs,H p=some (.dK kvs)/\k = !kvs.isEmpty
 |_=>False
theorem qK{κ:Type}{kvs:List (κ×V)}{vs:List (κ×Qa)}(r:KV kvs vs):(!vs.isEmpty) = !kvs.isEmpty:=by
 cases r<;>rfl
theorem lE{xs:List V}{its:List Qa}(r:a8 xs its):(!its.toArray.isEmpty) = !xs.isEmpty:=by
 cases r<;>simp
theorem lM:(Qj:Nat)<2 ^ 63:=by rw[sizeLine_eq];decide
theorem yf:A7 X (λx H Q=>∃k,AW X.K x H k/\Q k H):=by
 intro pins s σ H x v Q I rx h;obtain⟨k,e,q⟩:=h;have hl:=lM;have hs:Qj=16777216:=sizeLine_eq;cases x with
 |non=>
  cases rx;have e':k=false:=e;subst e';exact truthy_none ⟨H,I,q⟩
 |bl b=>
  cases rx;have e':k=b:=e;subst e';exact Jc ⟨H,I,q⟩
 |int i=>
  obtain⟨t,rfl⟩:=rx;have e':k=(i != 0):=e;subst e';exact PySem.P.truthy_int ⟨H,I,q⟩
 |str y=>
  obtain⟨t,rfl⟩:=rx;obtain⟨hy,e'⟩:y.length<=Qj/\k=((y.length:Int) != 0):=e;subst e';exact PySem.P.truthy_str (by lia) ⟨H,I.tok _,q⟩
 |byt y=>
  obtain⟨t,rfl⟩:=rx;obtain⟨hy,e'⟩:y.size<=Qj/\k=((y.size:Int) != 0):=e;subst e';exact PySem.W.truthy_bytes (by lia) ⟨H,I.tok _,q⟩
 |ref p=>
  cases rx;have e':(∃xs,SqL X.K H p xs/\k = !xs.isEmpty)\/(∃xs,SqT X.K H p xs/\k = !xs.isEmpty)\/∃kvs,H p=some (.dK kvs)/\k = !kvs.isEmpty:=e;rcases e' with⟨xs,hx,e'⟩ | ⟨xs,hx,e'⟩ | ⟨kvs,hx,e'⟩
  ·subst e'
   obtain⟨its,r,pl,hz⟩:=I.list hx;have hlen:=r.length;exact wpAny_truthy_list pl.isList (by simp only[Qv];lia) ⟨H,I.tok _,by rw[lE r];exact q⟩
  ·subst e'
   obtain⟨its,r,pl,hz⟩:=I.tuple hx;have hlen:=r.length;exact truthy_tuple pl (by simp only[Qv];lia) ⟨H,I.tok _,by rw[lE r];exact q⟩
  ·subst e'
   obtain⟨hz,hS,vs,r,m⟩:kvs.length<=Qj/\(p==JD)=false/\∃vs,KV kvs vs/\s.heap.DictOf (bZ X.prog X.w) p vs:=I.hok p _ hx;have hlen:kvs.length=vs.length:=Paired.length r;exact wpAny_truthy_dict hS m (by lia) ⟨H,I.tok _,by rw[qK r];exact q⟩
 |_=>exact(show False from e).elim
theorem mi(ha:PE X a ta)(he:∀whole,isTrue a X.env whole=(do let v<-whole;standAt a.pos;J9 [v] (truthy v))) :
  PT X a (λσ H Q=>ta σ H λx H'=>∃k,AW X.K x H' k/\Q k H'):=by
 intro pins s σ H Q I h;exact isTrue_plain (thn (ha pins s σ H _ I h) λv s1 ⟨x,H1,I1,r1,q1⟩=>yf pins s1 σ H1 x v Q I1 r1 q1) (he _)
theorem pA{x:V}{us:List Qa}(r:a8 [x] us):∃u,us=[u]/\aV x u:=by
 cases r with
 |cons r1 r2=>cases r2;exact⟨_,rfl,r1⟩
theorem xU{x y:V}{us:List Qa}(r:a8 [x,y] us):∃u w',us=[u,w']/\aV x u/\aV y w':=by
 cases r with
 |cons r1 r2=>
  cases r2 with
  |cons r3 r4=>cases r4;exact⟨_,_,rfl,r1,r3⟩
theorem tK(hc:X.calm=true):ie X (.builtin "max") (λxs H Q=>∃i j,xs=[.int i,.int j]/\Q (.int (if j>i then j else i)) H):=by
 intro pins s σ H xs us Q I r h;obtain⟨i,j,rfl,q⟩:=h;obtain⟨u,w',rfl,⟨t,rfl⟩,⟨t',rfl⟩⟩:=xU r;refine max_two_ints (I.ok.hd hc) λh' tk k=>⟨_,H,I.kept k,?_,q⟩
 by_cases hj:j>i
 ·rw[if_pos hj,if_pos hj];exact⟨_,rfl⟩
 ·rw[if_neg hj,if_neg hj];exact⟨_,rfl⟩
theorem sT(hc:X.calm=true):ie X (.builtin "min") (λxs H Q=>∃i j,xs=[.int i,.int j]/\Q (.int (if j<i then j else i)) H):=by
 intro pins s σ H xs us Q I r h;obtain⟨i,j,rfl,q⟩:=h;obtain⟨u,w',rfl,⟨t,rfl⟩,⟨t',rfl⟩⟩:=xU r;refine min_two_ints (I.ok.hd hc) λh' tk k=>⟨_,H,I.kept k,?_,q⟩
 by_cases hj:j<i
 ·rw[if_pos hj,if_pos hj];exact⟨_,rfl⟩
 ·rw[if_neg hj,if_neg hj];exact⟨_,rfl⟩
end
structure ObjM(h:Heap)(x dx C:Addr)(mA:Str->Option Qa):Prop where
 obj:h.get? x=some (JE C dx)
 ns:h.Ns1 dx mA
 ne:dx≠x
theorem mL{h:Heap}{dx:Addr}{mA:Str->Option Qa}(n:h.Ns1 dx mA):∃od,h.get? dx=some od/\∀name,PySem.W.lookIn name od=some (mA name):=by
 obtain⟨o,es,ep,ho,hd,hk,_,hm⟩:=n;refine⟨o,ho,λname=>?_⟩;have e:=hm name;unfold nsFind findBy at e;rw[<-Array.find?_toList] at e;unfold PySem.W.lookIn;rw[hd];dsimp only;split
 ·rename_i y q
  rw[q] at e;exact congrArg some e
 ·rename_i q
  rw[q] at e
  have a:es.toList.any (·.refKey)=false:=by
   rw[List.any_eq_false];intro y hy;obtain⟨z,t,hkey⟩:=hk y (Array.mem_toList_iff.mp hy);simp[DictEntry.refKey,hkey]
  have a':¬ es.toList.any (·.refKey)=true:=by rw[a];exact Qo
  rw[if_neg a'];exact congrArg some e
theorem ObjM.look{h:Heap}{x dx C:Addr}{mA:Str->Option Qa}(I:ObjM h x dx C mA):∃od,PySem.W.InstAt h x (JE C dx) C (some od)/\∀name,PySem.W.lookIn name od=some (mA name):=
 let⟨od,ho,hl⟩:=mL I.ns
 ⟨od,⟨I.obj,rfl,rfl,ho⟩,hl⟩
section
variable{prog:Qq}{w:Qw}{A:QC}{E:Qa->Qd->Prop}{s:Qd}{K:Qb}{x dx C f:Addr}{mA:Str->Option Qa}{name:Str}{v:Qa}
theorem vS{expr:Bool}{Q:Qa->Qd->Prop}(X:K.In s.heap)(I:ObjM s.heap x dx C mA)(hg:ZA K C name=true)(hh:JJ K C=true)
  (ha:Qr K (.ref C) name=some none) (hv:mA name=some v) (hv':PySem.W.handedIn v=true) (h:Q v { s with toks:=s.toks+1 }) :
  Qf (Qh prog w) A (getAttr (.ref x) name expr) Q E s:=by
 obtain⟨od,J,hl⟩:=I.look;exact PySem.W.get_value X J (PySem.W.plainGet_of hg).1 (PySem.W.findObj_own hh ha rfl (by rw[hl,hv])) hv' h
theorem tX{pl:Sem Bool}{Q:Qa×List Qa->Qd->Prop}(X:K.In s.heap)(I:ObjM s.heap x dx C mA)(hg:ZA K C name=true)
  (hf:Qr K (.ref C) name=some (some (.ref f))) (ht:PySem.W.isFn K (.ref f)=true) (hv:mA name=none) (h:Q (.ref f,[.ref x]) s) :
  Qf (Qh prog w) A (getMethod (.ref x) name pl) Q E s:=by
 obtain⟨od,J,hl⟩:=I.look;exact PySem.W.method_fn X J (PySem.W.plainGet_of hg).1 (PySem.W.plainGet_of hg).2 hf (beq_iff_eq.mp ht) (by show(PySem.W.lookIn name od).map (·.isSome)=some false;rw[hl,hv];rfl) h
theorem wV{ns:List Str}{Q:Unit->Qd->Prop}(X:K.In s.heap)(I:ObjM s.heap x dx C mA)
  (hs:Qr K (.ref C) "__setattr__" = some (some (.builtin "object.__setattr__"))) (hp:PySem.W.plainOver K C=true) (ht:PySem.W.takerIn K C name=some none) (hh:JJ K C=true)
  (hw:Zs mA ns) (hsz:ns.length<=Qj)
  (h:∀h',ObjM h' x dx C (λy=>if y=name then some v else mA y)->JF dx s.heap h'->Q () { s with heap:=h',toks:=s.toks+2 }) :
  Qf (Qh prog w) A (setAttr (.ref x) name v) Q E s:=by
 obtain⟨od,J,hl⟩:=I.look;refine PySem.W.set_plain X J hs (PySem.W.osa_open (s:={ s with toks:=s.toks+1 }) (r:=none) X J hp ht λb=>?_);obtain⟨cd,hc,hd'⟩:=PySem.W.any_some hh;have hx:s.heap.get? x=some ⟨.ref C,some dx,.plain,#[]⟩:=I.obj;refine Qc (Qg (Qc (Qc (wpAny_loadPart hx (Qc (JV (s:={ s with toks:=s.toks+1 }) (PySem.W.looks_clsIn X hc) ?_))))));rw[hd'];refine Qg (a:=some dx) (Qc (Qg (Qc ?_)));refine wpAny_nsSet1 (s:={ s with toks:=s.toks+1 }) I.ns λh' hn2 hs2=>?_;obtain⟨oD,esD,epD,hoD,hdD,hcD⟩:=hn2.count (PySem.Within.cons name v hw);refine Qc (wpAny_lookBehind hoD (by rw[hdD];exact pastItsLine_dict (QF hcD (by rw[QD];lia))) ?_);exact Qg (h _ ⟨(hs2.2 _ (Ne.symm I.ne)).trans I.obj,hn2,I.ne⟩ hs2)
theorem vp{R:Result->Qd->Prop}{vs:List Qa}{kw:List (Str×Qa)}(X:K.In s.heap)(hm:PySem.W.makesIn K C=true)
  (hi:Qr K (.ref C) "__init__" = some (some (.ref f))) (hf:PySem.W.typeIn K (.ref f)=some (.type "function"))
  (h:codeAny (Qh prog w) (A.under (.builtin "type.__call__" ⟨.ref C::vs,kw⟩)) (.call (.ref f) ⟨.ref (s.heap.objs.size+1)::vs,kw⟩) (PySem.W.InitBack (s.heap.objs.size+1) R)
   { s with heap:=(s.heap.push Jf).push (JE C s.heap.objs.size) }) :
  codeAny (Qh prog w) A (.call (.ref C) ⟨vs,kw⟩) R s:=by
 obtain⟨hh,g,d,t,os⟩:=s;exact PySem.W.make_core (PySem.W.makes_of X hm) (ZC X hi) (λself=>PySem.W.bind_fn X self hf) (.inl rfl) h
end
def bJ(f:Str)(v:V):List (Str×V)->List (Str×V)
 |[]=>[(f,v)]
 |(g,x)::r=>if g=f then(g,v)::r else(g,x)::bJ f v r
theorem fY(f g:Str)(v:V):∀fs:List (Str×V),(bJ f v fs).lookup g=if g=f then some v else fs.lookup g
 |[]=>by
  show Jn g [(f,v)]=_
  by_cases h:g=f
  ·have hb:(g==f)=true:=beq_iff_eq.mpr h
   simp only[Jn,hb,if_pos h]
  ·have hb:(g==f)=false:=beq_eq_false_iff_ne.mpr h
   simp only[Jn,hb,if_neg h]
 |(k,x)::r=>by
  have ih:=fY f g v r;rw[show bJ f v ((k,x)::r)=(if k=f then(k,v)::r else(k,x)::bJ f v r) from rfl]
  by_cases hk:k=f
  ·rw[if_pos hk]
   by_cases h:g=k
   ·have hb:(g==k)=true:=beq_iff_eq.mpr h
    simp only[Jn,hb,if_pos (h.trans hk)]
   ·have hb:(g==k)=false:=beq_eq_false_iff_ne.mpr h
    simp only[Jn,hb,if_neg (λe:g=f=>h (e.trans hk.symm))]
  ·rw[if_neg hk]
   by_cases h:g=k
   ·have hb:(g==k)=true:=beq_iff_eq.mpr h
    simp only[Jn,hb,if_neg (λe:g=f=>hk (h.symm.trans e))]
   ·have hb:(g==k)=false:=beq_eq_false_iff_ne.mpr h
    simp only[Jn,hb];exact ih
theorem kg(f:Str)(v:V):∀fs:List (Str×V),f∈(bJ f v fs).map (·.1)/\∀g,g∈fs.map (·.1)->g∈(bJ f v fs).map (·.1)
 |[]=>⟨by simp[bJ],λg h=>by simp at h⟩
 |(k,x)::r=>by
  obtain⟨i1,i2⟩:=kg f v r;rw[show bJ f v ((k,x)::r)=(if k=f then(k,v)::r else(k,x)::bJ f v r) from rfl]
  by_cases hk:k=f
  ·rw[if_pos hk]
   subst hk;exact⟨by simp,λg h=>by simpa using h⟩
  ·rw[if_neg hk]
   refine⟨?_,λg h=>?_⟩
   ·rw[Q3]
    exact QG _ i1
   ·rw[Q3] at h ⊢
    rcases Qm.mp h with e | e
    ·exact Qm.mpr (.inl e)
    ·exact QG _ (i2 g e)
theorem i_(f:Str)(v:V):∀fs:List (Str×V),(bJ f v fs).length<=fs.length+1
 |[]=>by simp[bJ]
 |(k,x)::r=>by
  have ih:=i_ f v r;rw[show bJ f v ((k,x)::r)=(if k=f then(k,v)::r else(k,x)::bJ f v r) from rfl]
  by_cases hk:k=f
  ·rw[if_pos hk,QD,QD];lia
  ·rw[if_neg hk,QD,QD];lia
theorem gy.some_of{v:V}{o:Option Qa}(r:gy (some v) o):∃u,o=some u/\aV v u:=by
 cases o with
 |none=>exact(show False from r).elim
 |some u=>exact⟨u,rfl,r⟩
theorem gy.none_of{o:Option Qa}(r:gy none o):o=none:=by
 cases o with
 |none=>rfl
 |some u=>exact(show False from r).elim
theorem sW{v:V}{u:Qa}(r:aV v u):PySem.W.handedIn u=true:=by
 cases v with
 |non=>cases(show u=QT from r);rfl
 |bl b=>cases(show u=Zy b from r);rfl
 |int i=>obtain⟨t,e⟩:=(show ∃t,u=Value.int i t from r);cases e;rfl
 |str x=>obtain⟨t,e⟩:=(show ∃t,u=Value.str x t from r);cases e;rfl
 |byt b=>obtain⟨t,e⟩:=(show ∃t,u=Value.bytes b t from r);cases e;rfl
 |flt b=>obtain⟨t,e⟩:=(show ∃t,u=Value.float b t from r);cases e;rfl
 |ref a=>cases(show u=Ql a from r);rfl
 |ty n=>cases(show u=Value.type n from r);rfl
section
variable{P:Qq}{w:Qw}{H H':Hp}{h h':Heap}{a C dx:Addr}{fs fs':List (Str×V)}
theorem ot(hok:HOk P w H h)(e:H a=some (.ins C dx fs)):∃mA,ObjM h a dx C mA/\(∀f,gy (fs.lookup f) (mA f))/\Zs mA (fs.map (·.1))/\fs.length<=1000/\H dx=some (.own a):=by
 obtain⟨d,z,ne,ob,mA,n,r,q⟩:=(show cw P w H h a (.ins C dx fs) from hok a _ e);exact⟨mA,⟨ob,n,ne⟩,r,q,z,d⟩
end
structure Cls(K:Qb)(C:Addr):Prop where
 pg:ZA K C Str.empty=true
 hd:JJ K C=true
 po:PySem.W.plainOver K C=true
 sa:Qr K (.ref C) "__setattr__" = some (some (.builtin "object.__setattr__"))
theorem Cls.get{K:Qb}{C:Addr}(c:Cls K C)(f:Str):ZA K C f=true:=c.pg
def iu(K:Qb)(C:Addr)(f:Str):Prop:=Qr K (.ref C) f=some none
theorem iu.taker{K:Qb}{C:Addr}{f:Str}(n:iu K C f):PySem.W.takerIn K C f=some none:=by
 unfold PySem.W.takerIn;rw[show Qr K (.ref C) f=some none from n];rfl
structure Meth(K:Qb)(C:Addr)(m:Str)(f:Addr):Prop where
 at_:Qr K (.ref C) m=some (some (.ref f))
 fn:PySem.W.isFn K (.ref f)=true
 kp:Q4 K (.ref f)=true
section
variable{X:Cx}{pins:List (Addr×Obj)}{σ:St}{H:Hp}{s:Qd}{a C dx:Addr}{fs:List (Str×V)}{f:Str}{v:V}{A:QC}{E:Qa->Qd->Prop}
theorem l_{b:Bool}{Q:Qa->Qd->Prop}(I:Inv X pins σ H s)(e:H a=some (.ins C dx fs))(c:Cls X.K C)(n:iu X.K C f)(l:fs.lookup f=some v)
  (h:∀u s',Inv X pins σ H s'->aV v u->Q u s'):Qf (Qh X.prog X.w) A (getAttr (.ref a) f b) Q E s:=by
 obtain⟨mA,O,r,_,_,_⟩:=ot I.hok e;obtain⟨u,hu,ru⟩:=gy.some_of (v:=v) (o:=mA f) (by rw[<-l];exact r f);exact vS I.kIn O (c.get f) c.hd n hu (sW ru) (h u _ (I.tok _) ru)
theorem jo{m:Str}{g:Addr}{pl:Sem Bool}{Q:Qa×List Qa->Qd->Prop}(I:Inv X pins σ H s)(e:H a=some (.ins C dx fs))(c:Cls X.K C)(k:Meth X.K C m g)(l:fs.lookup m=none)
  (h:Q (.ref g,[.ref a]) s):Qf (Qh X.prog X.w) A (getMethod (.ref a) m pl) Q E s:=by
 obtain⟨mA,O,r,_,_,_⟩:=ot I.hok e;have hn:mA m=none:=gy.none_of (by rw[<-l];exact r m);exact tX I.kIn O (c.get m) k.at_ k.fn hn h
theorem lH{y:V}{u:Qa}{Q:Unit->Qd->Prop}(I:Inv X pins σ H s)(e:H a=some (.ins C dx fs))(c:Cls X.K C)(n:iu X.K C f)(hl:fs.length<1000)(ry:aV y u)
  (h:∀s',Inv X pins σ (upd H a (.ins C dx (bJ f y fs))) s'->Q () s'):Qf (Qh X.prog X.w) A (setAttr (.ref a) f u) Q E s:=by
 obtain⟨mA,O,r,wi,_,ho⟩:=ot I.hok e;have hz:(fs.map (·.1)).length<=Qj:=by rw[QX,sizeLine_eq];lia
 refine wV I.kIn O c.sa c.po n.taker c.hd wi hz λh' O' sb=>h _ ?_;have hd:∃o,h'.get? dx=some o:=let⟨o,_,_,e',_⟩:=O'.ns;⟨o,e'⟩;refine I.write (x:=a) (e:=dx) (by rw[e];exact JG) (.inr ho) (λb q hb z=>(sb.2 b hb).trans z) hd ?_;refine⟨by rw[ao O.ne];exact ho,?_,O.ne,O'.obj,_,O'.ns,λg=>?_,λg hg=>?_⟩
 ·have:=i_ f y fs;lia
 ·show gy ((bJ f y fs).lookup g) (if g=f then some u else mA g)
  rw[fY]
  by_cases q:g=f
  ·rw[if_pos q,if_pos q];exact ry
  ·rw[if_neg q,if_neg q];exact r g
 ·by_cases q:g=f
  ·rw[q];exact(kg f y fs).1
  ·refine(kg f y fs).2 g (wi g λz=>hg ?_)
   show(if g=f then some u else mA g)=none;rw[if_neg q];exact z
theorem Inv.made(I:Inv X pins σ H s):Inv X pins σ (upd (upd H s.heap.objs.size (.own (s.heap.objs.size+1))) (s.heap.objs.size+1) (.ins C s.heap.objs.size []))
  { s with heap:=(s.heap.push Jf).push (JE C s.heap.objs.size) }:=by
 have e1:(s.heap.push Jf).get? s.heap.objs.size=some Jf:=Qp s.heap rfl
 have e2:((s.heap.push Jf).push (JE C s.heap.objs.size)).get? (s.heap.objs.size+1)=some (JE C s.heap.objs.size):=by
  have:=Qp (s.heap.push Jf) (o:=JE C s.heap.objs.size) rfl;rwa [Jd] at this
 have e3:(s.heap.push Jf).Ns s.heap.objs.size (λ_=>none):=⟨Jf,#[],_,e1,rfl,(λe he=>absurd he (by simp)),λ_=>rfl⟩;have I1:=I.laid (a:=s.heap.objs.size) (o:=.own (s.heap.objs.size+1)) (h':=s.heap.push Jf) (t':=s.toks) (λb u q=>Qe _ q) (Qi _) ⟨_,e1⟩;refine I1.laid (a:=s.heap.objs.size+1) (o:=.ins C s.heap.objs.size []) (t':=s.toks) (λb u q=>Qe _ q) (Nat.le_of_eq (Jd _ _)) ?_;have ne:s.heap.objs.size≠s.heap.objs.size+1:=Qz (Nat.lt_succ_self _);refine⟨by rw[ao ne,upd_same],QA _,ne,e2,λ_=>none,(Heap.Ns1.of_empty e3).at λo q=>Qe _ q,λ_=>JG,λy hy=>absurd rfl hy⟩
theorem xg{prog:Qq}{w:Qw}{env:Env}{e:Expr}{f:Str}{pos:Pos}{s:Qd}{Q:Qa->Qd->Prop}(hb:attributeBase e f env (eval e env)=eval e env)
  (h:Qf (Qh prog w) A (eval e env) (λo s₁=>Qf (Qh prog w) A (getAttr o f true) Q E s₁) E s):Qf (Qh prog w) A (eval (.Attribute e f pos) env) Q E s:=
 Attribute_any_ h (by rw[arm_eval_Attribute,hb])
end
def BB(K:Qb)(ta:TE)(f:Str):TE:=λσ H Q=>ta σ H λx H1=>∃a C dx fs v,x=.ref a/\H1 a=some (.ins C dx fs)/\Cls K C/\iu K C f/\fs.lookup f=some v/\Q v H1
def Bp(K:Qb)(ta tv:TE)(f:Str):TS:=λD σ H=>tv σ H λy H1=>ta σ H1 λx H2=>∃a C dx fs,x=.ref a/\H2 a=some (.ins C dx fs)/\Cls K C/\iu K C f/\fs.length<1000/\
 D.nx σ (upd H2 a (.ins C dx (bJ f y fs)))
def Ap(X:Cx)(op:Operator)(rd:V->V->Hp->VK->Prop):Prop:=
 ∀(pins:List (Addr×Obj)) (s:Qd) (σ:St) (H:Hp) (x y:V) (u v:Qa) (Q:VK),Inv X pins σ H s->aV x u->aV y v->rd x y H Q->Qf (Qh X.prog X.w) X.A (inplaceOp op u v) (EP X pins σ Q) X.xe s
def w9(K:Qb)(ta tv:TE)(rd:V->V->Hp->VK->Prop)(f:Str):TS:=λD σ H=>ta σ H λx H1=>∃a C dx fs v,x=.ref a/\H1 a=some (.ins C dx fs)/\Cls K C/\iu K C f/\fs.lookup f=some v/\
 tv σ H1 λy H2=>rd v y H2 λz H3=>∃dx' fs',H3 a=some (.ins C dx' fs')/\fs'.length<1000/\D.nx σ (upd H3 a (.ins C dx' (bJ f z fs')))
section
variable{X:Cx}{o e value:Expr}{f:Str}{pos pos' tpos:Pos}{ta tv:TE}
theorem dq(he:PE X e ta)(hb:attributeBase e f X.env (eval e X.env)=eval e X.env):PE X (.Attribute e f pos) (BB X.K ta f):=by
 intro pins s σ H Q I h;refine xg hb (thn (he pins s σ H _ I h) λu s1 ⟨x,H1,I1,rx,a,C,dx,fs,v,ex,ea,c,n,l,q⟩=>?_);subst ex;obtain rfl:u=Ql a:=rx;exact l_ I1 ea c n l λu' s2 I2 ru=>⟨v,H1,I2,ru,q⟩
theorem gM(ha:PE X o ta)(hv:PE X value tv)(hs:JT value (some (.Attribute o f pos')) pos.line X.env=pure false):PS X (.Assign [.Attribute o f pos'] value pos) (Bp X.K ta tv f):=by
 intro pins s σ H D I h;refine plainObj_wpAny_Assign_Attribute (thn (hv pins s σ H _ I h) λu s1 ⟨y,H1,I1,ry,q⟩=>thn (ha pins s1 σ H1 _ I1 q) λov s2 ⟨x,H2,I2,rx,a,C,dx,fs,ex,ea,c,n,l,q2⟩=>?_) hs;subst ex;obtain rfl:ov=Ql a:=rx;exact lH I2 ea c n l ry λs3 I3=>⟨σ,_,I3,q2⟩
theorem sR{op:Operator}{rd:V->V->Hp->VK->Prop}(ha:PE X o ta)(hv:PE X value tv)(hop:Ap X op rd):PS X (.AugAssign (.Attribute o f tpos) op value pos) (w9 X.K ta tv rd f):=by
 intro pins s σ H D I h;refine wpAny_AugAssign_AttributeAny (thn (ha pins s σ H _ I h) λov s1 ⟨x,H1,I1,rx,a,C,dx,fs,v,ex,ea,c,n,l,q⟩=>?_);subst ex;obtain rfl:ov=Ql a:=rx;refine l_ I1 ea c n l λu s2 I2 ru=>thn (hv pins s2 σ H1 _ I2 q) λw3 s3 ⟨y,H2,I3,ry,q3⟩=>thn (hop pins s3 σ H2 v y u w3 _ I3 ru ry q3) λw4 s4 ⟨z,H3,I4,rz,dx',fs',ea',l',q4⟩=>?_;exact lH I4 ea' c n l' rz λs5 I5=>⟨σ,_,I5,q4⟩
def Bw:V->V->Hp->VK->Prop:=λx y H Q=>∃i j,x=.int i/\y=.int j/\Q (.int (i+j)) H
theorem zw:Ap X .Add Bw:=by
 rintro pins s σ H x y u v Q I rx ry ⟨i,j,rfl,rfl,q⟩;obtain⟨t,rfl⟩:=(show ∃t,u=Value.int i t from rx);obtain⟨t',rfl⟩:=(show ∃t',v=Value.int j t' from ry);exact PyProof.Rows.iadd_int ⟨.int (i+j),H,I.tok _,⟨_,rfl⟩,q⟩
theorem ya{pl:Sem Bool}{m:Str}{apos:Pos}{args:List Expr}{pins:List (Addr×Obj)}{s:Qd}{σ:St}{H:Hp}{Q:Qa->Qd->Prop}{te:TE}(he:PE X e te)(I:Inv X pins σ H s)
  (h:te σ H λx H1=>∃a C dx fs g,x=.ref a/\H1 a=some (.ins C dx fs)/\Cls X.K C/\Meth X.K C m g/\fs.lookup m=none/\
   ∀s1,Inv X pins σ H1 s1->Qf (Qh X.prog X.w) X.A (callWith pos (.ref g) [.ref a] (Je pos (Qn args X.env)) (backToKw pos (keywordEach [] X.env))) Q X.xe s1)
  (ht:eval (.Call (.Attribute e m apos) args [] pos) X.env=(do
   let ov<-eval e X.env
   standAt apos.atName
   let(f,first)<-J9 [ov] (getMethod ov m pl)
   callWith pos f first (Je pos (Qn args X.env)) (backToKw pos (keywordEach [] X.env)))) :
  Qf (Qh X.prog X.w) X.A (eval (.Call (.Attribute e m apos) args [] pos) X.env) Q X.xe s:=by
 refine PySem.W.methodCall_KW (pl:=pl) (thn (he pins s σ H _ I h) λu s1 ⟨x,H1,I1,rx,a,C,dx,fs,g,ex,ea,c,k,l,q⟩=>?_) ht;subst ex;obtain rfl:u=Ql a:=rx;exact jo I1 ea c k l (q s1 I1)
end
structure Room(k:Nat)(A:QC):Prop where
 hd:A.handled=none
 dp:A.depth+3*k+5<recursionLimit
 un:A.units+16*k+200<cLine
theorem Room.mono{j k:Nat}{A:QC}(r:Room k A)(h:j<=k):Room j A:=⟨r.hd,by have:=r.dp;lia,by have:=r.un;lia⟩
theorem Room.deeper{k:Nat}{A:QC}(r:Room (k+1) A)(env:Env):Room k (A.deeper env):=
 ⟨r.hd,by have:=r.dp;show A.depth+1+3*k+5<_;lia,by have:=r.un;show A.units+3+16*k+200<_;lia⟩
theorem qz{A:QC}{C:Addr}{us:List Qa}{kw:List (Str×Qa)}:(A.under (.builtin "type.__call__" ⟨.ref C::us,kw⟩)).depth=A.depth+1:=by
 first | rfl | simp[Around.under,Code.weight,Code.isCreation,Code.isGuard,Code.isCaller,Code.frames,Code.isFrame,guardIds]
theorem qt{A:QC}{C:Addr}{us:List Qa}{kw:List (Str×Qa)}:(A.under (.builtin "type.__call__" ⟨.ref C::us,kw⟩)).units=A.units+1:=by
 first | rfl | simp[Around.under,Code.cUnits,Code.frames,Code.isFrame]
theorem Room.make{k:Nat}{A:QC}(r:Room (k+1) A)(C:Addr)(us:List Qa)(kw:List (Str×Qa)):Room k (A.under (.builtin "type.__call__" ⟨.ref C::us,kw⟩)):=
 ⟨r.hd,by have:=r.dp;rw[qz];lia,by have:=r.un;rw[qt];lia⟩
theorem Room.depth{k:Nat}{A:QC}(r:Room k A):A.depth<recursionLimit:=by have:=r.dp;lia
theorem Room.units{k:Nat}{A:QC}(r:Room k A):A.units+64<cLine:=by have:=r.un;lia
def xj:TA:=λ_ H Q=>Q [] H
def pN(ta:TE)(tr:TA):TA:=λσ H Q=>ta σ H λx H1=>tr σ H1 λxs H2=>Q (x::xs) H2
section
variable{X:Cx}{e:Expr}{es:List Expr}{te:TE}{t:TA}{pos:Pos}
theorem ax:PA X [] xj:=λ_ _ _ _ H Q I h=>Calls.spliced_nil ⟨[],H,I,.nil,h⟩
theorem ag(ha:PE X e te)(hr:PA X es t)(hs:Qn (e::es) X.env=(false,eval e X.env)::Qn es X.env:=by rfl):PA X (e::es) (pN te t):=by
 intro pos pins s σ H Q I h;rw[hs];show Qf _ _ (spliced ((false,eval e X.env)::Je pos (Qn es X.env))) _ _ s;refine Calls.spliced_cons (thn (ha pins s σ H _ I h) λu s1 ⟨x,H1,I1,r1,q1⟩=>?_);exact thn (hr pos pins s1 σ H1 _ I1 q1) λus s2 ⟨xs,H2,I2,r2,q2⟩=>⟨x::xs,H2,I2,.cons r1 r2,q2⟩
def A9(t:TA):TE:=λσ H Q=>t σ H λxs H1=>xs.length<=Qj/\∀p,H1 p=none->Q (.ref p) (upd H1 p (.tup xs))
def A3(t:TA):TE:=λσ H Q=>t σ H λxs H1=>xs.length<=Qj/\∀p,H1 p=none->Q (.ref p) (upd H1 p (.lst xs))
theorem eV{x1}(h:PA X es t):PE X (.Tuple es x1 pos) (A9 t):=by
 intro pins s σ H Q I hq;refine wpAny_Tuple_spliced (thn (h pos pins s σ H _ I hq) λus s1 ⟨xs,H1,I1,r,z,q⟩=>⟨by rw[<-r.length];exact z,?_⟩);have hf:H1 s1.heap.objs.size=none:=I1.hok.fresh (Qi _);refine⟨.ref s1.heap.objs.size,upd H1 s1.heap.objs.size (.tup xs),I1.laid (t':=s1.toks) (λb u e=>Qe _ e) (Qi _) ?_,rfl,q _ hf⟩;exact⟨z,us,r,⟨_,Qp _ rfl,rfl,_,rfl⟩⟩
theorem cR(h:PA X es t):PE X (.List es pos) (A3 t):=by
 intro pins s σ H Q I hq;refine wpAny_List_spliced (thn (h pos pins s σ H _ I hq) λus s1 ⟨xs,H1,I1,r,z,q⟩=>⟨by rw[<-r.length];exact z,?_⟩);have hf:H1 s1.heap.objs.size=none:=I1.hok.fresh (Qi _);refine⟨.ref s1.heap.objs.size,upd H1 s1.heap.objs.size (.lst xs),I1.laid (t':=s1.toks) (λb u e=>Qe _ e) (Qi _) ?_,rfl,q _ hf⟩;exact⟨z,us,0,r,Qp _ rfl⟩
end
abbrev Sp:=List V->Hp->VK->XK->Prop
abbrev CXT:=List Env->Hp->Qd->XK->Qa->Qd->Prop
structure Env0(P:Qq)(w:Qw)(K:Qb)(mg:Str->Option Qa)(base:Heap)(A:QC)(outer:List Env)(s:Qd)(H:Hp):Prop where
 frames:A.frames=some outer
 mod:Mod K mg base
 bs:∀b o,base.get? b=some o->s.heap.get? b=some o/\H b=none
 bsz:base.objs.size<=s.heap.objs.size
 funs:s.heap.FunFrames base outer
 frf:∀b∈frs outer,H b=none
 hok:HOk P w H s.heap
 bare:AllBare s.gens
def CE(outer:List Env)(P:Qq)(w:Qw)(H:Hp)(s:Qd)(Q:VK)(u:Qa)(s':Qd):Prop:=
 ∃v H',s'.os=s.os/\AllBare s'.gens/\Un (frs outer) [] H H' s.heap s'.heap/\HOk P w H' s'.heap/\aV v u/\Q v H'
def CR(CX:CXT)(outer:List Env)(P:Qq)(w:Qw)(H:Hp)(s:Qd)(Q:VK)(E:XK)(r:Result)(s':Qd):Prop:=
 match r with
 |.ok (.ret u)=>CE outer P w H s Q u s'
 |.ok _=>False
 |.error e=>CX outer H s E e s'
structure FnOk(P:Qq)(w:Qw)(K:Qb)(mg:Str->Option Qa)(base:Heap)(CX:CXT)(k:Nat)(f:Addr)(fd:QE)(ps:List Str)(sp:Sp):Prop where
 len:∀vs H Q E,sp vs H Q E->vs.length=ps.length
 run:∀(A:QC) (outer:List Env) (s:Qd) (H:Hp) (args:Args) (us:List Qa) (vs:List V) (Q:VK) (E:XK),Room k A->Env0 P w K mg base A outer s H->BindsTo s fd args (ps.zip us)->a8 vs us->sp vs H Q E->
  codeAny (Qh P w) A (.call (.ref f) args) (CR CX outer P w H s Q E) s
theorem FnOk.mono{P:Qq}{w:Qw}{K:Qb}{mg:Str->Option Qa}{base:Heap}{CX:CXT}{j k:Nat}{f:Addr}{fd:QE}{ps:List Str}{sp:Sp}(F:FnOk P w K mg base CX j f fd ps sp)(h:j<=k) :
  FnOk P w K mg base CX k f fd ps sp:=⟨F.len,λA outer s H args us vs Q E hr=>F.run A outer s H args us vs Q E (hr.mono h)⟩
theorem Env0.make{P:Qq}{w:Qw}{K:Qb}{mg:Str->Option Qa}{base:Heap}{A:QC}{outer:List Env}{s:Qd}{H:Hp}(e:Env0 P w K mg base A outer s H)(C:Addr)(us:List Qa)(kw:List (Str×Qa)) :
  Env0 P w K mg base (A.under (.builtin "type.__call__" ⟨.ref C::us,kw⟩)) outer s H:=⟨by first | exact e.frames | (simpa[Around.under,Code.envs,Code.isFrame,pushEnvs] using e.frames),e.mod,e.bs,e.bsz,e.funs,e.frf,e.hok,e.bare⟩
section
variable{X:Cx}{pins:List (Addr×Obj)}{σ:St}{H:Hp}{s s':Qd}
theorem Inv.env0(I:Inv X pins σ H s):Env0 X.prog X.w X.K X.mg X.base X.A X.stack s H:=
 ⟨I.ok.frames,I.ok.mod,I.bs,QF I.ok.bsz I.sz,I.stack,I.stkFree,I.hok,I.bare⟩
theorem Inv.after{Q:VK}{u:Qa}(I:Inv X pins σ H s)(h:CE X.stack X.prog X.w H s Q u s'):EP X pins σ Q u s':=by
 obtain⟨v,H',os,bare,un,hok,r,q⟩:=h;obtain⟨hh,g,d,t,os'⟩:=s';obtain rfl:os'=s.os:=os;exact⟨v,H',I.call (h':=hh) (g':=g) (d':=d) (t':=t) (ch:=[]) un hok bare (λb z=>absurd z (by simp)),r,q⟩
end
def xO(sp:Sp)(dvs:List V)(E:XK)(t:TA):TE:=λσ H Q=>t σ H λvs H1=>sp (vs++dvs) H1 Q E
def xQ(C:Addr)(m:Str)(sp:Sp)(dvs:List V)(E:XK)(ta:TE)(t:TA):TE:=λσ H Q=>ta σ H λx H1=>∃a dx fs,x=.ref a/\H1 a=some (.ins C dx fs)/\fs.lookup m=none/\
 t σ H1 λvs H2=>sp (x::(vs++dvs)) H2 Q E
def AC(C:Addr)(sp:Sp)(dvs:List V)(E:XK)(t:TA):TE:=λσ H Q=>t σ H λvs H1=>∀x dx,H1 x=none->H1 dx=none->dx≠x->
 sp (.ref x::(vs++dvs)) (upd (upd H1 dx (.own x)) x (.ins C dx [])) (λv H2=>v=.non/\Q (.ref x) H2) E
def fC(K:Qb)(fd:QE)(ps:List Str)(ds:List Qa):Prop:=
 ∀(s:Qd) (us:List Qa),K.In s.heap->(us++ds).length=ps.length->BindsTo s fd ⟨us,[]⟩ (ps.zip (us++ds))
theorem fC.all{K:Qb}{fd:QE}{ps:List Str}(h:∀us:List Qa,us.length=ps.length->bindArgs fd ⟨us,[]⟩=pure (ps.zip us)):fC K fd ps []:=λs us _ hl=>by
 rw[JX] at hl ⊢;exact .of_eq (h us hl)
def gW(CX:CXT)(X:Cx)(E:XK):Prop:=∀(pins:List (Addr×Obj)) (σ:St) (H:Hp) (s:Qd) (e:Qa) (s':Qd),Inv X pins σ H s->CX X.stack H s E e s'->X.xe e s'
section
variable{X:Cx}{CX:CXT}{k:Nat}{f C:Addr}{fd:QE}{ps:List Str}{sp:Sp}{dvs:List V}{ds:List Qa}{E:XK}{x m:Str}{p pos apos:Pos}{e o:Expr}{es:List Expr}{ta:TE}{t:TA}
theorem qW{pins:List (Addr×Obj)}{σ:St}{H:Hp}{s:Qd}{Q:VK}{us:List Qa}{vs:List V}(F:FnOk X.prog X.w X.K X.mg X.base CX k f fd ps sp)(hr:Room k X.A)(hb:fC X.K fd ps ds)(hd:a8 dvs ds)(hx:gW CX X E)
  (I:Inv X pins σ H s) (r:a8 vs us) (h:sp (vs++dvs) H Q E):Qf (Qh X.prog X.w) X.A (call (.ref f) us) (EP X pins σ Q) X.xe s:=by
 have r2:a8 (vs++dvs) (us++ds):=r.append hd;have hl:(us++ds).length=ps.length:=by rw[<-r2.length];exact F.len _ _ _ _ h
 refine ZD (Zt (F.run X.A X.stack s H ⟨us,[]⟩ (us++ds) (vs++dvs) Q E hr I.env0 (hb s us I.kIn hl) r2 h) λr s' hq=>?_);cases r with
 |error e=>exact hx pins σ H s e s' I hq
 |ok fl=>
  cases fl with
  |ret u=>exact I.after hq
  |next=>exact QS hq
  |brk=>exact QS hq
  |cont=>exact QS hq
theorem bV(F:FnOk X.prog X.w X.K X.mg X.base CX k f fd ps sp)(hr:Room k X.A)(hg:Gl X x)(hm:X.mg x=some (.ref f))(hk:Q4 X.K (.ref f)=true)(hb:fC X.K fd ps ds)(hd:a8 dvs ds)(hx:gW CX X E)
  (ha:PA X (e::es) t) (hdb:(x==("__debug__" : Str))=false:=by decide) (he:Qn (e::es) X.env=(false,eval e X.env)::Qn es X.env:=by rfl) (hpl:(Je pos (Qn es X.env)).any (·.1)=false:=by rfl) :
  PE X (.Call (.Name x p) (e::es) [] pos) (xO sp dvs E t):=by
 intro pins s σ H Q I h;refine Jx (fZ I hg hm ?_ hdb);refine Zo (h₀:=X.base) I.ok.mod.kin hk (thn (ha pos pins s σ H _ I h) λus s1 ⟨vs,H1,I1,r,q⟩=>⟨I1.kIn,?_⟩) he hpl;exact qW F hr hb hd hx I1 r q
theorem gU{pl:Sem Bool}(he:PE X o ta)(c:Cls X.K C)(hm:Meth X.K C m f)(F:FnOk X.prog X.w X.K X.mg X.base CX k f fd ps sp)(hr:Room k X.A)(hb:fC X.K fd ps ds)(hd:a8 dvs ds)(hx:gW CX X E)(ha:PA X (e::es) t)
  (hst:Qn (e::es) X.env=(false,eval e X.env)::Qn es X.env:=by rfl) (hpl:(Je pos (Qn es X.env)).any (·.1)=false:=by rfl)
  (ht:eval (.Call (.Attribute o m apos) (e::es) [] pos) X.env=(do
   let ov<-eval o X.env
   standAt apos.atName
   let(f,first)<-J9 [ov] (getMethod ov m pl)
   callWith pos f first (Je pos (Qn (e::es) X.env)) (backToKw pos (keywordEach [] X.env))):=by rfl) :
  PE X (.Call (.Attribute o m apos) (e::es) [] pos) (xQ C m sp dvs E ta t):=by
 intro pins s σ H Q I h;refine PySem.W.methodCall_KW (pl:=pl) (thn (he pins s σ H _ I h) λu s1 ⟨x,H1,I1,rx,a,dx,fs,ex,ea,l,q⟩=>?_) ht;subst ex;obtain rfl:u=Ql a:=rx;refine jo I1 ea c hm l ?_;refine Zo (first:=[.ref a]) (h₀:=X.base) I.ok.mod.kin hm.kp (thn (ha pos pins s1 σ H1 _ I1 q) λus s2 ⟨vs,H2,I2,r,q2⟩=>⟨I2.kIn,?_⟩) hst hpl;exact qW (us:=.ref a::us) (vs:=.ref a::vs) F hr hb hd hx I2 (.cons rfl r) q2
theorem eO{pl:Sem Bool}(he:PE X o ta)(c:Cls X.K C)(hm:Meth X.K C m f)(F:FnOk X.prog X.w X.K X.mg X.base CX k f fd ps sp)(hr:Room k X.A)(hb:fC X.K fd ps ds)(hd:a8 dvs ds)(hx:gW CX X E)
  (ht:eval (.Call (.Attribute o m apos) [] [] pos) X.env=(do
   let ov<-eval o X.env
   standAt apos.atName
   let(f,first)<-J9 [ov] (getMethod ov m pl)
   callWith pos f first (Je pos (Qn [] X.env)) (backToKw pos (keywordEach [] X.env))):=by rfl) :
  PE X (.Call (.Attribute o m apos) [] [] pos) (xQ C m sp dvs E ta xj):=by
 intro pins s σ H Q I h;refine PySem.W.methodCall_KW (pl:=pl) (thn (he pins s σ H _ I h) λu s1 ⟨x,H1,I1,rx,a,dx,fs,ex,ea,l,q⟩=>?_) ht;subst ex;obtain rfl:u=Ql a:=rx;refine jo I1 ea c hm l ?_;exact PySem.W.callWith_K0 (first:=[.ref a]) I1.kIn hm.kp (qW (us:=[.ref a]) (vs:=[.ref a]) F hr hb hd hx I1 (.cons rfl .nil) q)
structure Mk(K:Qb)(C f:Addr):Prop where
 makes:PySem.W.makesIn K C=true
 init:Qr K (.ref C) "__init__" = some (some (.ref f))
 fn:PySem.W.isFn K (.ref f)=true
 kp:Q4 K (.ref C)=true
theorem vq{pins:List (Addr×Obj)}{σ:St}{H:Hp}{s:Qd}{Q:VK}{us:List Qa}{vs:List V}(M:Mk X.K C f)(F:FnOk X.prog X.w X.K X.mg X.base CX k f fd ps sp)(hr:Room (k+1) X.A)(hb:fC X.K fd ps ds)(hd:a8 dvs ds)
  (hx:gW CX X E) (I:Inv X pins σ H s) (r:a8 vs us)
  (h:∀x dx,H x=none->H dx=none->dx≠x->sp (.ref x::(vs++dvs)) (upd (upd H dx (.own x)) x (.ins C dx [])) (λv H2=>v=.non/\Q (.ref x) H2) E) :
  Qf (Qh X.prog X.w) X.A (call (.ref C) us) (EP X pins σ Q) X.xe s:=by
 have hq:=h (s.heap.objs.size+1) s.heap.objs.size (I.hok.fresh (Nat.le_succ _)) (I.hok.fresh (Qi _)) (Qz (Nat.lt_succ_self _));have I2:=Inv.made (C:=C) I;have r2:a8 (V.ref (s.heap.objs.size+1)::(vs++dvs)) (Ql (s.heap.objs.size+1)::(us++ds)):=.cons rfl (r.append hd)
 have hl:(Ql (s.heap.objs.size+1)::us++ds).length=ps.length:=by
  have e:=r2.length;rw[F.len _ _ _ _ hq] at e;exact e.symm
 refine ZD (vp (f:=f) I.kIn M.makes M.init (beq_iff_eq.mp M.fn) (Zt (F.run _ X.stack _ _ ⟨Ql (s.heap.objs.size+1)::us,[]⟩ (Ql (s.heap.objs.size+1)::(us++ds)) _ _ E (hr.make C us [])
  (I2.env0.make C us []) (hb _ (Ql (s.heap.objs.size+1)::us) I2.kIn hl) r2 hq) λr s' hq'=>?_))
 cases r with
 |error e=>exact hx pins σ _ _ e s' I2 hq'
 |ok fl=>
  cases fl with
  |ret u=>
   obtain⟨v,H',I3,rv,ev,q3⟩:=I2.after hq';subst ev;exact⟨rv,⟨V.ref (s.heap.objs.size+1),H',I3,rfl,q3⟩⟩
  |next=>exact QS hq'
  |brk=>exact QS hq'
  |cont=>exact QS hq'
theorem wu(M:Mk X.K C f)(F:FnOk X.prog X.w X.K X.mg X.base CX k f fd ps sp)(hr:Room (k+1) X.A)(hg:Gl X x)(hm:X.mg x=some (.ref C))(hb:fC X.K fd ps ds)(hd:a8 dvs ds)(hx:gW CX X E)
  (ha:PA X (e::es) t) (hdb:(x==("__debug__" : Str))=false:=by decide) (he:Qn (e::es) X.env=(false,eval e X.env)::Qn es X.env:=by rfl) (hpl:(Je pos (Qn es X.env)).any (·.1)=false:=by rfl) :
  PE X (.Call (.Name x p) (e::es) [] pos) (AC C sp dvs E t):=by
 intro pins s σ H Q I h;refine Jx (fZ I hg hm ?_ hdb);refine Zo (h₀:=X.base) I.ok.mod.kin M.kp (thn (ha pos pins s σ H _ I h) λus s1 ⟨vs,H1,I1,r,q⟩=>⟨I1.kIn,?_⟩) he hpl;exact vq M F hr hb hd hx I1 r q
end
structure FnScope(N P:List Str)(sc:Scope):Prop where
 kind:sc.kind=.function
 co:sc.isCoroutine=false
 gen:sc.isGenerator=false
 nd:N.Nodup
 pre:N.take P.length=P
 par:∀x∈P,sc.names.lookup x=some .local\/sc.names.lookup x=some .cell
 nofree:∀y∈sc.names,y.2≠.free
theorem mP{kindOf:Str->Option NameKind}{x:Str}:∀{binds:List (Str×Qa)} {m:Str->Option Qa},(∀v,(x,v)∉binds)->bindL kindOf binds m x=m x
 |[],_,_=>rfl
 |(n,v)::r,m,h=>by
  unfold bindL;rw[mP λw hw=>h w (QG _ hw)];split
  ·have:x≠n:=by rintro rfl;exact h v QV
   simp[this]
  ·rfl
theorem mJ{kindOf:Str->Option NameKind}{x:Str}:∀{binds:List (Str×Qa)} {m:Str->Option Qa},(∀v,(x,v)∉binds)->bindC kindOf binds m x=m x
 |[],_,_=>rfl
 |(n,v)::r,m,h=>by
  unfold bindC;rw[mJ λw hw=>h w (QG _ hw)];split
  ·rfl
  ·have:x≠n:=by rintro rfl;exact h v QV
   simp[this]
theorem nh{kindOf:Str->Option NameKind}{x:Str}{v:Qa}:∀{P:List Str} {vs:List Qa} {i:Nat} {m:Str->Option Qa},P.Nodup->P[i]?=some x->vs[i]?=some v->kindOf x=some .local->
  bindL kindOf (P.zip vs) m x=some v
 |[],_,_,_,_,h,_,_=>by simp at h
 |_::_,[],_,_,_,_,h,_=>by simp at h
 |p::P,w::vs,0,m,nd,h1,h2,hk=>by
  simp at h1 h2;subst h1;subst h2;show bindL kindOf ((p,w)::P.zip vs) m p=_;unfold bindL;rw[mP λv hv=>(Js.mp nd).1 (List.of_mem_zip hv).1,if_pos hk];simp
 |p::P,w::vs,i+1,m,nd,h1,h2,hk=>by
  show bindL kindOf ((p,w)::P.zip vs) m x=_;unfold bindL;exact nh (i:=i) (Js.mp nd).2 (by simpa using h1) (by simpa using h2) hk
theorem nk{kindOf:Str->Option NameKind}{x:Str}{v:Qa}:∀{P:List Str} {vs:List Qa} {i:Nat} {m:Str->Option Qa},P.Nodup->P[i]?=some x->vs[i]?=some v->kindOf x≠some .local->
  bindC kindOf (P.zip vs) m x=some v
 |[],_,_,_,_,h,_,_=>by simp at h
 |_::_,[],_,_,_,_,h,_=>by simp at h
 |p::P,w::vs,0,m,nd,h1,h2,hk=>by
  simp at h1 h2;subst h1;subst h2;show bindC kindOf ((p,w)::P.zip vs) m p=_;unfold bindC;rw[mJ λv hv=>(Js.mp nd).1 (List.of_mem_zip hv).1,if_neg hk];simp
 |p::P,w::vs,i+1,m,nd,h1,h2,hk=>by
  show bindC kindOf ((p,w)::P.zip vs) m x=_;unfold bindC;exact nk (i:=i) (Js.mp nd).2 (by simpa using h1) (by simpa using h2) hk
def iT(N:List Str)(vs:List V):St:=vs.map some++Jy (N.length-vs.length) none
def ik(CX:CXT)(P:Qq)(w:Qw)(K:Qb)(mg:Str->Option Qa)(base:Heap)(N:List Str)(qual:Str)(scope:Scope)(f:Addr)(cd:Qa)(A:QC)(outer:List Env)(s:Qd)(H:Hp)(E:XK):Cx where
 prog:=P
 w:=w
 K:=K
 mg:=mg
 base:=base
 A:=A.deeper (envOfC qual scope s.heap.objs.size f cd)
 N:=N
 s₀:=s
 H₀:=H
 env:=envOfC qual scope s.heap.objs.size f cd
 outer:=outer
 stack:=envOfC qual scope s.heap.objs.size f cd::outer
 ex:=[]
 calm:=true
 fn:=λ_=>true
 pn:=[]
 xe:=λe s'=>Qf (Qh P w) (A.deeper (envOfC qual scope s.heap.objs.size f cd)) (leaving (envOfC qual scope s.heap.objs.size f cd) e) (λ_ s''=>CX outer H s E e s'') (λe' s''=>CX outer H s E e' s'') s'
theorem ph{sc:Scope}{n:Nat}{x:Str}(h:sc.names.lookup x=some .cell):∃c,(cellsFrom n sc.names []).lookup x=some c:=by
 have q:=PySem.W.cellsFrom_some sc.names n [] (.inl h);exact Option.isSome_iff_exists.mp q
theorem sx{CX:CXT}{P:Qq}{w:Qw}{K:Qb}{mg:Str->Option Qa}{base:Heap}{N ps:List Str}{qual:Str}{scope:Scope}{f:Addr}{cd:Qa}{A:QC}{outer:List Env}{s s1:Qd}{H:Hp}{E:XK}{us:List Qa}{vs:List V}
  (S:FnScope N ps scope) (hd:A.handled=none) (e0:Env0 P w K mg base A outer s H) (hl:vs.length=ps.length) (r:a8 vs us)
  (x:InCallC s s.heap.objs.size (bindL (envOfC qual scope s.heap.objs.size f cd).kindOf (ps.zip us) λ_=>none) (cellsFrom (s.heap.objs.size+1) scope.names []) (bindC (envOfC qual scope s.heap.objs.size f cd).kindOf (ps.zip us) λ_=>none) s1) :
  Inv (ik CX P w K mg base N qual scope f cd A outer s H E) [] (iT N vs) H s1:=by
 have hpl:ps.length<=N.length:=by have:=congrArg List.length S.pre;rw[Zc] at this;lia
 obtain⟨h1,tk,rfl,hk⟩:=x.done;have noA:∀b:Addr,b∉(ik CX P w K mg base N qual scope f cd A outer s H E).ex:=λb z=>absurd (show b∈([]:List Addr) from z) (by simp)
 refine⟨⟨e0.mod,S.kind,rfl,rfl,Qi _,λy z c h1 h2=>?_,λy hy=>?_,λy c _ h=>?_,λ_=>hd,Around.frames_deeper e0.frames,.inr ⟨rfl,rfl⟩,λb z=>absurd z (noA b),e0.bs,e0.bsz,λb _ _=>noA b,λb z=>absurd z (noA b),e0.funs,e0.frf⟩,
  rfl,e0.bare,Un.kept hk,⟨_,x.toInCall.ns,λi y v h1 h2 h3=>?_⟩,λy c h=>⟨_,x.cell y c h⟩,e0.hok.fresh (Qi _),λy c h=>?_,λp hp=>absurd (show p∈([]:List (Addr×Obj)) from hp) (by simp),e0.hok.kept hk,?_⟩
 ·exact name_of_addr x.apart (Jh h1) (Jh h2)
 ·have hy:scope.names.lookup y=some .cell\/scope.names.lookup y=some .free:=hy
  rcases hy with hy | hy
  ·exact ph hy
  ·exact absurd rfl (S.nofree _ (Jh hy))
 ·exact Nat.le_of_lt (x.above y c (Jh h))
 ·have hi:i<vs.length:=by
   unfold iT at h2
   by_cases hi:i<vs.length
   ·exact hi
   ·rw[Q5 (by simpa using hi)] at h2
    rw[Jq] at h2;split at h2<;>cases h2
  have ha:vs[i]?=some v:=by
   unfold iT at h2;rw[Jk (by simpa using hi),QK] at h2;cases e:vs[i]? with
   |none=>rw[e] at h2;cases h2
   |some a=>rw[e] at h2;cases h2;rfl
  obtain⟨u,hu,rv⟩:=r.get ha
  have hp:ps[i]?=some y:=by
   rw[<-S.pre,List.getElem?_take_of_lt (by lia)];exact h1
  have ndP:ps.Nodup:=by rw[<-S.pre];exact S.nd.sublist (List.take_sublist _ _)
  refine⟨u,rv,?_⟩;rcases S.par y (ZE hp) with k | k
  ·exact .inl ⟨k,nh ndP hp hu k⟩
  ·obtain⟨c,e⟩:=ph (n:=s.heap.objs.size+1) k
   refine .inr ⟨.inl k,c,e,?_⟩;have q:=x.cell y c e;rw[nk ndP hp hu (by show scope.names.lookup y≠_;rw[k];decide)] at q;exact q
 ·exact e0.hok.fresh (Nat.le_of_lt (x.above y c (Jh h)))
 ·unfold iT
  show _=N.length;rw[QN,QX,Jz]
  lia
theorem mr{CX:CXT}{P:Qq}{w:Qw}{K:Qb}{mg:Str->Option Qa}{base:Heap}{k:Nat}{f:Addr}{name qual:Str}{params:Arguments}{body:List Stmt}{scope:Scope}{dV kV doc pm cdv ct oc:Qa}{an od:Option Addr}
  {osl:Array (Option Qa)} {N ps:List Str} {sp:Sp} (lk:K.lookup f=some ⟨oc,od,.func (Q9 name qual params body scope dV kV doc pm an cdv ct),osl⟩) (hcd:Za K cdv qual=true) (S:FnScope N ps scope)
  (len:∀vs H Q E,sp vs H Q E->vs.length=ps.length)
  (hbody:∀(A:QC) (outer:List Env) (s:Qd) (H:Hp) (vs:List V) (Q:VK) (E:XK),Room k (A.deeper (envOfC qual scope s.heap.objs.size f cdv))->sp vs H Q E->
   ∃t,PSs (ik CX P w K mg base N qual scope f cdv A outer s H E) body t/\t { nx:=λ_ H'=>Q .non H',rt:=Q } (iT N vs) H) :
  FnOk P w K mg base CX (k+1) f (Q9 name qual params body scope dV kV doc pm an cdv ct) ps sp:=by
 refine⟨len,λA outer s H args us vs Q E hr e0 hb r hsp=>?_⟩;have hl:=len _ _ _ _ hsp;have KX:K.In s.heap:=e0.mod.kin.keeps λb o e=>(e0.bs b o e).1;have lim:s.heap.NoLimit:=e0.mod.nolimit.keeps λb o e=>(e0.bs b o e).1
 have hkind:∀y∈ps.zip us,scope.names.lookup y.1=some .local\/(scope.names.lookup y.1=some .cell/\((cellsFrom (s.heap.objs.size+1) scope.names []).lookup y.1).isSome=true):=λ⟨n,v⟩ hy=>by
  rcases S.par n (List.of_mem_zip hy).1 with q | q
  ·exact .inl q
  ·exact .inr ⟨q,PySem.W.cellsFrom_some _ _ _ (.inl q)⟩
 refine codeAny_call_function hr.depth (KX _ _ lk) rfl S.co S.gen rfl (PySem.W.codeRec_of KX hcd) (hb _ _ _ _ ?_);refine wpAny_newFunctionEnv_cells S.kind hkind λenv he s1 x=>?_;subst he;refine⟨lim.keeps x.toInCall.keep,codeAny_func ?_⟩;obtain⟨t,ht,hq⟩:=hbody A outer s H vs Q E (hr.deeper _) hsp;have I:Inv (ik CX P w K mg base N qual scope f cdv A outer s H E) [] (iT N vs) H s1:=sx S hr.hd e0 hl r x;refine Jb (ht [] s1 (iT N vs) H _ I hq) (λfl s' hs=>?_) λe s' hs=>hs
 have fin:∀{σ':St} {H':Hp} {v:V} {u:Qa},Inv (ik CX P w K mg base N qual scope f cdv A outer s H E) [] σ' H' s'->aV v u->Q v H'->CE outer P w H s Q u s':=
  λ{σ' H' v u} J rv q=>⟨v,H',J.os,J.bare,J.base,J.hok,rv,q⟩
 cases fl with
 |ret u=>
  obtain⟨v,σ',H',J,rv,q⟩:=hs;exact fin J rv q
 |next=>
  obtain⟨σ',H',J,q⟩:=hs;exact fin (v:=V.non) (u:=QT) J rfl q
 |brk=>
  obtain⟨_,_,_,q⟩:=hs;exact QS q
 |cont=>
  obtain⟨_,_,_,q⟩:=hs;exact QS q
section
variable{X:Cx}{x:Str}{p pos:Pos}{e:Expr}{es:List Expr}{t:TA}{id T:String}{r:List V->Hp->VK->Prop}
def tCB(r:List V->Hp->VK->Prop)(t:TA):TE:=λσ H Q=>t σ H λvs H1=>r vs H1 Q
theorem d6(hc:ie X (.builtin id) r)(hg:Gl X x)(hm:X.mg x=none)(hv:JS x=some (.builtin id))(ha:PA X (e::es) t)(hn:x≠"__name__":=by decide)(hdb:(x==("__debug__" : Str))=false:=by decide)
  (he:Qn (e::es) X.env=(false,eval e X.env)::Qn es X.env:=by rfl) (hpl:(Je pos (Qn es X.env)).any (·.1)=false:=by rfl):PE X (.Call (.Name x p) (e::es) [] pos) (tCB r t):=by
 intro pins s σ H Q I h;refine Jx (kc I hg hm hv ?_ hn hdb);exact PyProof.Rows.callWith_builtin1 (thn (ha pos pins s σ H _ I h) λus s1 ⟨vs,H1,I1,r1,q1⟩=>hc pins s1 σ H1 vs us Q I1 r1 q1) he hpl
theorem bw(hc:ie X (.type T) r)(hg:Gl X x)(hm:X.mg x=none)(hv:JS x=some (.type T))(ha:PA X (e::es) t)(hn:x≠"__name__":=by decide)(hdb:(x==("__debug__" : Str))=false:=by decide)
  (he:Qn (e::es) X.env=(false,eval e X.env)::Qn es X.env:=by rfl) (hpl:(Je pos (Qn es X.env)).any (·.1)=false:=by rfl):PE X (.Call (.Name x p) (e::es) [] pos) (tCB r t):=by
 intro pins s σ H Q I h;refine Jx (kc I hg hm hv ?_ hn hdb);exact JU (thn (ha pos pins s σ H _ I h) λus s1 ⟨vs,H1,I1,r1,q1⟩=>hc pins s1 σ H1 vs us Q I1 r1 q1) he hpl
end
end L2
namespace HT
open PySem PyProof.Rows
section
open PySem.SeqAt
open PySem.AutoSeq1 (wpAny_loadPart')
open PySem.MeetsSeq PySem.MeetsSeq2 PySem.MeetsSeq3
end
section
variable{prog:Qq}{w:Qw}{A:QC}{E:Qa->Qd->Prop}{s:Qd}
theorem vR{t b:Addr}{vs ws:List Qa}{Q:Qa->Qd->Prop}(ht:IsTup s.heap t vs.toArray)(hb:IsTup s.heap b ws.toArray)(hv:vs≠[])
  (h1:ws=[]->Q (.ref t) s) (h2:ws≠[]->Q (.ref s.heap.objs.size) { s with heap:=s.heap.push { cls:=.type "tuple",data:=.seq (vs++ws).toArray } })
  (hsz:vs.length+ws.length<=Qj):Qf (Qh prog w) A (Q2 .Add (.ref t) (.ref b)) Q E s:=by
 obtain⟨⟨cls,dd,data,sl⟩,ho,hc,n,hd⟩:=id ht;obtain⟨⟨cls2,dd2,data2,sl2⟩,ho2,hc2,n2,hd2⟩:=id hb;simp only at hc hd hc2 hd2;subst hc hd hc2 hd2;have e:vs.toArray++ws.toArray=(vs++ws).toArray:=by simp
 by_cases hw:ws=[]
 ·exact concat_meets ⟨_,ho,rfl⟩ ⟨_,ho2,rfl⟩ noFill_tuple_add seq_tuple_add Zq Zj (Zd _ _)
   (tuple_addW1 t b vs.toArray ws.toArray n n2 dd dd2 sl sl2 (by simpa using hv) (by simp[hw])) ⟨ho,ho2,h1 hw⟩
 ·refine concat_meets ⟨_,ho,rfl⟩ ⟨_,ho2,rfl⟩ noFill_tuple_add seq_tuple_add Zq Zj (Zd _ _)
   (tuple_addW2 t b vs.toArray ws.toArray n n2 dd dd2 sl sl2 (by simpa using hv) (by simpa using hw) (by rw[Qv,Qv];exact hsz)) ⟨ho,ho2,?_⟩
  rw[e];exact h2 hw
def sIx(n d:Nat):Option Int->Nat
 |none=>d
 |some v=>if v<0 then(v+(n:Int)).toNat else min v.toNat n
theorem uP(n d:Nat):sIx n d none=d:=rfl
theorem nS(n d k:Nat):sIx n d (some (k:Int))=min k n:=by
 show(if(k:Int)<0 then((k:Int)+(n:Int)).toNat else min (k:Int).toNat n)=min k n;rw[if_neg (by lia),Int.toNat_natCast]
theorem yI(n d:Nat)(hd:d<=n)(o:Option Int):sIx n d o<=n:=by
 cases o with
 |none=>exact hd
 |some v=>
  show(if v<0 then(v+(n:Int)).toNat else min v.toNat n)<=n
  by_cases hv:v<0
  ·rw[if_pos hv];lia
  ·rw[if_neg hv];exact Nat.min_le_right _ _
theorem rb(v:Int)(n d:Nat):(if v<0 then max (v+(n:Int)) 0 else min v (n:Int))=((sIx n d (some v):Nat):Int):=by
 show(if v<0 then max (v+(n:Int)) 0 else min v (n:Int))=(((if v<0 then(v+(n:Int)).toNat else min v.toNat n):Nat):Int)
 by_cases hv:v<0
 ·simp only[if_pos hv];lia
 ·simp only[if_neg hv];lia
theorem qi(lo hi:Option Int)(n:Nat):Builtin.Slice.sliceAdjust lo hi 1 (n:Int)=(((sIx n 0 lo:Nat):Int),((sIx n n hi:Nat):Int)):=by
 have h1:¬ ((1:Int)<0):=by lia
 unfold Builtin.Slice.sliceAdjust;simp only[h1,if_false];refine Prod.ext ?_ ?_
 ·cases lo with
  |none=>rfl
  |some v=>exact rb v n 0
 ·cases hi with
  |none=>rfl
  |some v=>exact rb v n n
theorem qE(i j:Nat):J5 (i:Int) (j:Int) 1=j-i:=by
 unfold J5;have h1:(1:Int)>0:=by lia
 simp only[h1,if_true,Int.ediv_one];split<;>lia
theorem lp{v:Qa}{o:Option Int}{Q:Option Int->Qd->Prop}(p:IsPart v o)(h:Q o s):Qf (Qh prog w) A (Builtin.Slice.slicePartIndex v) Q E s:=by
 cases p with
 |none=>exact slicePart_none h
 |int i t=>exact slicePart_int h
theorem j7{sl:Addr}{vl vu:Qa}{lo hi:Option Int}{n:Nat}{Q:Int×Int×Nat->Qd->Prop}(hs:s.heap.IsSliceOf sl vl vu .none)(pl:IsPart vl lo)(pu:IsPart vu hi)
  (h:Q (((sIx n 0 lo:Nat):Int),1,sIx n n hi-sIx n 0 lo) s):Qf (Qh prog w) A (Builtin.Slice.sliceApplied (.ref sl) (pure (n:Int))) Q E s:=by
 obtain⟨os,hos,hcs,hds⟩:=id hs;unfold Builtin.Slice.sliceApplied Builtin.Slice.sliceFields;refine Qc (Qc (QU hos hds (x:=vl) rfl (Qc (QU hos hds (x:=vu) rfl (Qc (QU hos hds (x:=.none) rfl (Qg ?_)))))));refine Qc (slicePart_none ?_);show Qf _ _ (if((1:Int)==0)=true then _ else _) _ _ s;rw[if_neg (by decide)];refine Qc (lp pl (Qc (lp pu (Qc (Qg ?_)))));show Qf _ _ (match Builtin.Slice.sliceAdjust lo hi 1 (n:Int) with | (lo,hi)=>pure (lo,(1:Int),J5 lo hi 1)) _ _ s;rw[qi lo hi n];show Qf _ _ (pure (((sIx n 0 lo:Nat):Int),(1:Int),J5 ((sIx n 0 lo:Nat):Int) ((sIx n n hi:Nat):Int) 1)) _ _ s;rw[qE];exact Qg h
theorem vv(xs:Array Qa)(i k:Nat):((Q7 k).filterMap λ(m:Nat)=>xs[((i:Int)+(m:Int)*1).toNat]?).toArray=((xs.toList.drop i).take k).toArray:=by
 have e:(λ(m:Nat)=>xs[((i:Int)+(m:Int)*1).toNat]?)=λm=>xs[i+m]?:=by
  funext m
  have:((i:Int)+(m:Int)*1).toNat=i+m:=by lia
  rw[this]
 rw[e];have:=pick_run xs i k;rw[List.filterMap_map] at this;have e2:((λx=>xs[x]?)∘λx=>i+x)=λm=>xs[i+m]?:=rfl;rw[e2] at this;rw[this]
theorem jL{t sl:Addr}{items:Array Qa}{vl vu:Qa}{lo hi:Option Int}{Q:Qa->Qd->Prop}(ht:IsTup s.heap t items)(hs:s.heap.IsSliceOf sl vl vu .none)(pl:IsPart vl lo)(pu:IsPart vu hi)
  (hw:¬ (sIx items.size 0 lo=0/\sIx items.size items.size hi=items.size))
  (h:Q (.ref s.heap.objs.size) { s with heap:=s.heap.push { cls:=.type "tuple",data:=.seq ((items.toList.drop (sIx items.size 0 lo)).take (sIx items.size items.size hi-sIx items.size 0 lo)).toArray } })
  (hsz:items.size<=Qj):Qf (Qh prog w) A (getItem (.ref t) (.ref sl)) Q E s:=by
 have htake:sizeOk (.seq ((items.toList.drop (sIx items.size 0 lo)).take (sIx items.size items.size hi-sIx items.size 0 lo)).toArray):=by
  show((items.toList.drop (sIx items.size 0 lo)).take (sIx items.size items.size hi-sIx items.size 0 lo)).toArray.size<=Qj;rw[Qv,Zc,List.length_drop,Array.length_toList]
  lia
 have hj:sIx items.size items.size hi<=items.size:=yI _ _ (Qi _) hi;obtain⟨os,hos,hcs,hds⟩:=id hs;have hTs:s.TypeIs (.ref sl) "slice":=⟨os,hos,hcs⟩;unfold getItem
 try with_reducible refine QZ ?_
 first | refine Qc (Qg ?_) | skip
 refine Qc (wpAny_sequenceKey ht.typeIs (by decide) ?_)
 refine Qc (Jr (name:=Str.ofString "__getitem__") ht.typeIs PyProof.Rows.slot_tuple_getitem
  (Ze PyProof.Rows.slot_tuple_getitem ht.typeIs entry_tuple_getitem ?_ (args_tuple_getitem _ _)))
 show Qf _ _ (Builtin.Tuple.tupleItemsOf (.ref t)>>=_) _ _ s;refine Qc (tupleItemsOf_ ht ?_);refine Qc (wpAny_typeOf hTs ?_);rw[if_pos (by decide)];refine Qc (j7 hs pl pu ?_)
 have hno:¬ ((((sIx items.size 0 lo:Nat):Int)==0&&(1:Int)==1&&(sIx items.size items.size hi-sIx items.size 0 lo)==items.size)=true):=by
  intro q;rw[ZF,ZF] at q;have q1:((sIx items.size 0 lo:Nat):Int)=0:=eq_of_beq q.1.1;have q2:sIx items.size items.size hi-sIx items.size 0 lo=items.size:=eq_of_beq q.2;exact hw ⟨by lia,by lia⟩
 show Qf _ _ (if(((sIx items.size 0 lo:Nat):Int)==0&&(1:Int)==1&&(sIx items.size items.size hi-sIx items.size 0 lo)==items.size)=true then _ else _) _ _ s;rw[if_neg hno,vv]
 first
  |exact Qc (m:=Zf _) (Jg (Qg ⟨_,rfl,Qg h⟩) htake)
  |exact Qc (m:=Zf _) (Jg (Qc (Qg (Qg ⟨_,rfl,Qg h⟩))) htake)
  |exact Qc (Qc (m:=Zf _) (Jg (Qg (Qg ⟨_,rfl,Qg h⟩)) htake))
  |exact Qc (Qc (m:=Zf _) (Jg (Qg ⟨_,rfl,Qg h⟩) htake))
end
end HT
namespace L2
open PySem PySem.Spec PyProof.Rows
abbrev TO:=St->Hp->(Option Int->Hp->Prop)->Prop
def PO(X:Cx)(e:Option Expr)(t:TO):Prop:=
 ∀(pins:List (Addr×Obj)) (s:Qd) (σ:St) (H:Hp) (Q:Option Int->Hp->Prop),Inv X pins σ H s->t σ H Q->
  Qf (Qh X.prog X.w) X.A (evalPart e X.env) (λu s'=>∃o H',Inv X pins σ H' s'/\IsPart u o/\Q o H') X.xe s
def vK:TO:=λ_ H Q=>Q none H
def AX(t:TE):TO:=λσ H Q=>t σ H λx H1=>∃i,x=.int i/\Q (some i) H1
section
variable{X:Cx}{e:Expr}{te:TE}{lo hi:Option Expr}{tl th:TO}{pos p2:Pos}
theorem vE:PO X none vK:=by
 intro pins s σ H Q I h;rw[evalPart_none];exact Qg ⟨none,H,I,.none,h⟩
theorem wH(h:PE X e te):PO X (some e) (AX te):=by
 intro pins s σ H Q I hw;rw[evalPart_some];refine thn (h pins s σ H _ I hw) λu s1 ⟨x,H1,I1,r1,q1⟩=>?_;obtain⟨i,rfl,q⟩:=q1;obtain⟨t,rfl⟩:=r1;exact⟨some i,H1,I1,.int i t,q⟩
def SlR(X:Cx)(r:V->Option Int->Option Int->Hp->VK->Prop):Prop:=
 ∀(pins:List (Addr×Obj)) (s:Qd) (σ:St) (H:Hp) (x:V) (v vl vu:Qa) (lo hi:Option Int) (sl:Addr) (Q:VK),Inv X pins σ H s->aV x v->s.heap.IsSliceOf sl vl vu .none->IsPart vl lo->IsPart vu hi->r x lo hi H Q->
  ∃T id,typeLookup (.type T) "__getitem__" = pure (some (.builtin id))/\s.TypeIs v T/\Qf (Qh X.prog X.w) X.A (getItem v (.ref sl)) (EP X pins σ Q) X.xe s
def tSl(r:V->Option Int->Option Int->Hp->VK->Prop)(te:TE)(tl th:TO):TE:=λσ H Q=>te σ H λx H1=>tl σ H1 λl H2=>th σ H2 λu H3=>r x l u H3 Q
theorem pz{r:V->Option Int->Option Int->Hp->VK->Prop}(hr:SlR X r)(he:PE X e te)(hl:PO X lo tl)(hu:PO X hi th):PE X (.Subscript e (.Slice lo hi none p2) pos) (tSl r te tl th):=by
 intro pins s σ H Q I h;refine Subscript_ (thn (he pins s σ H _ I h) λv s1 ⟨x,H1,I1,r1,q1⟩=>?_);refine wpAny_Slice (thn (hl pins s1 σ H1 _ I1 q1) λvl s2 ⟨l,H2,I2,pl,q2⟩=>thn (hu pins s2 σ H2 _ I2 q2) λvu s3 ⟨u,H3,I3,pu,q3⟩=>?_);rw[evalPart_none];refine Qg ?_;have I4:Inv X pins σ H3 { s3 with heap:=s3.heap.push { cls:=.type "slice",data:=.fields #[vl,vu,.none] } }:=I3.kept (t':=s3.toks) λb ob q=>Qe _ q;obtain⟨T,id,hT,ht,hg⟩:=hr pins { s3 with heap:=s3.heap.push { cls:=.type "slice",data:=.fields #[vl,vu,.none] } } σ H3 x v vl vu l u s3.heap.objs.size Q I4 r1 (Heap.IsSliceOf.new ..) pl pu q3;show Qf (Qh X.prog X.w) X.A (subscriptTail e (.Slice lo hi none p2) v (.ref s3.heap.objs.size)) (EP X pins σ Q) X.xe { s3 with heap:=s3.heap.push { cls:=.type "slice",data:=.fields #[vl,vu,.none] } };exact tail_any (ops:=[.ref s3.heap.objs.size,v]) ht hT hg (by with_unfolding_all rfl)
def nT(xs:List V)(lo hi:Option Int):List V:=(xs.drop (HT.sIx xs.length 0 lo)).take (HT.sIx xs.length xs.length hi-HT.sIx xs.length 0 lo)
theorem kC(xs:List V)(lo hi:Option Int):(nT xs lo hi).length<=xs.length:=by
 unfold nT;rw[Zc,List.length_drop]
 lia
def Bd(K:Qb):V->Option Int->Option Int->Hp->VK->Prop:=λx lo hi H Q=>∃a xs,x=.ref a/\SqT K H a xs/\
 ¬ (HT.sIx xs.length 0 lo=0/\HT.sIx xs.length xs.length hi=xs.length)/\∀p,H p=none->Q (.ref p) (upd H p (.tup (nT xs lo hi)))
theorem yT:SlR X (Bd X.K):=by
 intro pins s σ H x v vl vu lo hi sl Q I rx hs pl pu h;obtain⟨a,xs,rfl,hx,hw,q⟩:=h;cases rx;obtain⟨its,r,ht,hz⟩:=I.tuple hx;have hlen:its.toArray.size=xs.length:=by rw[Qv];exact r.length.symm
 refine⟨"tuple",_,PyProof.Rows.slot_tuple_getitem.lookup,ht.typeIs,?_⟩;refine HT.jL ht hs pl pu (by rw[hlen];exact hw) ?_ (by rw[hlen];exact hz);rw[hlen];refine⟨.ref s.heap.objs.size,_,I.laid (t':=s.toks) (o:=.tup (nT xs lo hi)) (λb ob q=>Qe _ q) (Qi _) ?_,rfl,q _ (I.hok.fresh (Qi _))⟩;exact⟨QF (kC xs lo hi) hz,_,(r.drop (HT.sIx xs.length 0 lo)).take (HT.sIx xs.length xs.length hi-HT.sIx xs.length 0 lo),IsTup.new _ _⟩
def AO(K:Qb):R2:=λx y H Q=>∃a b xs ys,x=.ref a/\y=.ref b/\SqT K H a xs/\SqT K H b ys/\xs≠[]/\xs.length+ys.length<=Qj/\
 (ys=[]->Q (.ref a) H)/\(ys≠[]->∀p,H p=none->Q (.ref p) (upd H p (.tup (xs++ys))))
theorem a8.nil_iff{xs:List V}{us:List Qa}(r:a8 xs us):us=[]↔xs=[]:=by
 cases r with
 |nil=>simp
 |cons _ _=>simp
theorem kY:OpR X (Q2 .Add) (AO X.K):=by
 intro pins s σ H x y v u Q I rx ry h;obtain⟨a,b,xs,ys,rfl,rfl,ha,hb,hx,hz,q1,q2⟩:=h;cases rx;cases ry;obtain⟨its,r1,p1,_⟩:=I.tuple ha;obtain⟨its2,r2,p2,_⟩:=I.tuple hb;refine HT.vR p1 p2 (λz=>hx (r1.nil_iff.mp z)) (λz=>⟨.ref a,H,I,rfl,q1 (r2.nil_iff.mp z)⟩) (λz=>?_) (by rw[<-r1.length,<-r2.length];exact hz);refine⟨.ref s.heap.objs.size,_,I.laid (t':=s.toks) (o:=.tup (xs++ys)) (λb ob q=>Qe _ q) (Qi _) ?_,rfl,q2 (λw=>z (r2.nil_iff.mpr w)) _ (I.hok.fresh (Qi _))⟩;exact⟨by rw[QN];exact hz,_,r1.append r2,IsTup.new _ _⟩
end
def ixN(n:Nat)(i:Int):Option Nat:=if 0<=i then(if i<n then some i.toNat else none) else if -(n:Int)<=i then some (i+n).toNat else none
def atI{α:Type}(xs:List α)(i:Int):Option α:=(ixN xs.length i).bind λj=>xs[j]?
theorem rZ{n:Nat}{i:Int}{j:Nat}(h:ixN n i=some j):seqIndex? i n=some j/\j<n/\-(n:Int)<=i/\i<n:=by
 unfold ixN at h
 by_cases h0:0<=i
 ·rw[if_pos h0] at h
  by_cases h1:i<n
  ·rw[if_pos h1] at h
   have e:i.toNat=j:=Option.some.inj h;exact⟨by rw[seqIndex_of h0 h1,e],by lia,by lia,h1⟩
  ·rw[if_neg h1] at h;cases h
 ·rw[if_neg h0] at h
  by_cases h1:-(n:Int)<=i
  ·rw[if_pos h1] at h
   have e:(i+n).toNat=j:=Option.some.inj h;exact⟨by rw[seqIndex_neg (by lia) h1,e],by lia,h1,by lia⟩
  ·rw[if_neg h1] at h;cases h
theorem rE{α:Type}{xs:List α}{i:Int}{v:α}(h:atI xs i=some v):∃j,seqIndex? i xs.length=some j/\xs[j]?=some v/\j<xs.length/\-(xs.length:Int)<=i/\i<xs.length:=by
 unfold atI at h;cases e:ixN xs.length i with
 |none=>rw[e] at h;cases h
 |some j=>
  rw[e] at h;obtain⟨h1,h2,h3,h4⟩:=rZ e;exact⟨j,h1,h,h2,h3,h4⟩
theorem rq{α:Type}{xs:List α}{j:Nat}{v:α}(h:xs[j]?=some v):atI xs (j:Int)=some v:=by
 have hj:j<xs.length:=(QB.mp h).1
 have e:ixN xs.length (j:Int)=some j:=by
  unfold ixN;rw[if_pos (by lia),if_pos (by lia)];simp
 unfold atI;rw[e];exact h
def nR(b:Expr):Prop:=∀o i,subscripted b false o i=operate [o,i] (getItem o i)
def IxR(X:Cx)(r:R2):Prop:=
 ∀(value slice:Expr) (pins:List (Addr×Obj)) (s:Qd) (σ:St) (H:Hp) (x y:V) (v u:Qa) (Q:VK),Inv X pins σ H s->aV x v->aV y u->r x y H Q->
  subscripted slice false v u=operate [v,u] (getItem v u)->Qf (Qh X.prog X.w) X.A (subscriptTail value slice v u) (EP X pins σ Q) X.xe s
def MtR(X:Cx)(id:String)(r:V->List V->Hp->VK->Prop):Prop:=
 ∀(pins:List (Addr×Obj)) (s:Qd) (σ:St) (H:Hp) (x:V) (xs:List V) (v:Qa) (us:List Qa) (Q:VK),Inv X pins σ H s->aV x v->a8 xs us->r x xs H Q->
  Qf (Qh X.prog X.w) X.A (call (.builtin id) (v::us)) (EP X pins σ Q) X.xe s
section
variable{X:Cx}{a b:Expr}{ta tb:TE}{pos:Pos}
theorem IxR.or{r r':R2}(h:IxR X r)(h':IxR X r'):IxR X (λx y H Q=>r x y H Q\/r' x y H Q):=by
 intro value slice pins s σ H x y v u Q I rx ry q hs;rcases q with q | q
 ·exact h value slice pins s σ H x y v u Q I rx ry q hs
 ·exact h' value slice pins s σ H x y v u Q I rx ry q hs
theorem dN{r:R2}(hr:IxR X r)(ha:PE X a ta)(hb:PE X b tb)(hs:nR b):PE X (.Subscript a b pos) (tOp r ta tb):=by
 intro pins s σ H Q I h;exact Subscript_ (ym ha hb I h λv u s2 x y H2 I2 rx ry q=>hr a b pins s2 σ H2 x y v u Q I2 rx ry q (hs _ _))
def Bu(K:Qb):R2:=λx y H Q=>∃p xs i v,x=.ref p/\y=.int i/\SqL K H p xs/\atI xs i=some v/\Q v H
def Bm(K:Qb):R2:=λx y H Q=>∃p xs i v,x=.ref p/\y=.int i/\SqT K H p xs/\atI xs i=some v/\Q v H
theorem vP:IxR X (Bu X.K):=by
 intro value slice pins s σ H x y v u Q I rx ry h hs;obtain⟨p,xs,i,z,rfl,rfl,hq,he,q⟩:=h;cases rx;obtain⟨t,rfl⟩:=ry;obtain⟨its,r,pl,hz⟩:=I.list hq;obtain⟨j,h1,h2,h3,h4,h5⟩:=rE he;obtain⟨w,ew,rw'⟩:=r.get h2;have hl:=r.length;have hn:=lM;have fin:EP X pins σ Q w s:=⟨z,H,I,rw',q⟩
 by_cases h0:0<=i
 ·have hj:i.toNat=j:=by
   rw[seqIndex_of h0 h5] at h1;exact Option.some.inj h1
  exact item_listR pl.isList h0 (by lia) (by rw[hj];simpa using ew) fin hs
 ·have hj:(i+(its.toArray.size:Int)).toNat=j:=by
   rw[seqIndex_neg (by lia) h4] at h1;rw[Qv,<-hl];exact Option.some.inj h1
  exact subscriptTail_builtinR (x:=w) pl.isList.typeIs slot_list_getitem.lookup
   (wpAny_getItem_list_neg (Q:=λr s'=>r=w/\EP X pins σ Q r s') pl.isList (by lia) (by rw[Qv]<;>lia) (by lia) (by rw[hj];simpa using ew) ⟨rfl,fin⟩) hs
theorem cB:IxR X (Bm X.K):=by
 intro value slice pins s σ H x y v u Q I rx ry h hs;obtain⟨p,xs,i,z,rfl,rfl,hq,he,q⟩:=h;cases rx;obtain⟨t,rfl⟩:=ry;obtain⟨its,r,pl,hz⟩:=I.tuple hq;obtain⟨j,h1,h2,h3,h4,h5⟩:=rE he;obtain⟨w,ew,rw'⟩:=r.get h2;have hl:=r.length;have hn:=lM;have fin:EP X pins σ Q w s:=⟨z,H,I,rw',q⟩
 exact subscriptTail_builtinR (x:=w) pl.typeIs slot_tuple_getitem.lookup
  (getItem_tuple (j:=j) (Q:=λr s'=>r=w/\EP X pins σ Q r s') pl (by lia) (by lia) (by rw[Qv,<-hl];exact h1) (by simpa using ew) ⟨rfl,fin⟩) hs
theorem qA(its:List Qa)(n j:Nat)(u:Qa):Obj.mapSeq (·.setIfInBounds j u) { cls:=.type "list",data:=.seq its.toArray n }={ cls:=.type "list",data:=.seq (its.set j u).toArray n }:=by
 simp[Obj.mapSeq]
theorem Inv.lst{pins:List (Addr×Obj)}{σ:St}{H:Hp}{s:Qd}{p:Addr}{xs:List V}(I:Inv X pins σ H s)(h:H p=some (.lst xs)) :
  ∃(its:List Qa) (n:Nat),a8 xs its/\s.heap.get? p=some { cls:=.type "list",data:=.seq its.toArray n }/\xs.length<=Qj:=by
 obtain⟨z,its,n,r,e⟩:=I.hok p _ h;exact⟨its,n,r,e,z⟩
theorem Inv.lstUpd{pins:List (Addr×Obj)}{σ:St}{H:Hp}{s:Qd}{p:Addr}{xs ys:List V}{its its':List Qa}{n n':Nat}{f:Obj->Obj}(I:Inv X pins σ H s)(h:H p=some (.lst xs))
  (ho:s.heap.get? p=some { cls:=.type "list",data:=.seq its.toArray n }) (hf:f { cls:=.type "list",data:=.seq its.toArray n }={ cls:=.type "list",data:=.seq its'.toArray n' }) (r:a8 ys its') (hz:ys.length<=Qj) (t:Nat) :
  Inv X pins σ (upd H p (.lst ys)) { s with heap:=s.heap.update p f,toks:=t }:=by
 have e:(s.heap.update p f).get? p=some { cls:=.type "list",data:=.seq its'.toArray n' }:=by
  rw[JA f ho (by rw[hf]<;>rfl),hf]
 refine I.write (x:=p) (e:=p) (by rw[h];trivial) (.inl rfl) (λb u hb q=>(QP _ _ (Ne.symm hb)).trans q) ⟨_,e⟩ ?_;exact⟨hz,its',n',r,e⟩
def Aq:V->V->V->Hp->(Hp->Prop)->Prop:=λo i v H Q=>∃p xs k j,o=.ref p/\i=.int k/\H p=some (.lst xs)/\ixN xs.length k=some j/\Q (upd H p (.lst (xs.set j v)))
theorem tY:zU X Aq:=by
 intro pins s σ H o i v ov iv u Q I ro ri rv h;obtain⟨p,xs,k,j,rfl,rfl,hp,hj,q⟩:=h;cases ro;obtain⟨t,rfl⟩:=ri;obtain⟨its,n,r,ho,hz⟩:=I.lst hp;obtain⟨h1,h2,h3,h4⟩:=rZ hj;have hl:=r.length;have hn:=lM
 have I':Inv X pins σ (upd H p (.lst (xs.set j v))) { s with heap:=s.heap.update p (Obj.mapSeq (·.setIfInBounds j u)) }:=
  I.lstUpd hp ho (qA its n j u) (r.set rv j) (by rw[JY];exact hz) s.toks
 by_cases h0:0<=k
 ·have hk:k.toNat=j:=by
   rw[seqIndex_of h0 h4] at h1;exact Option.some.inj h1
  exact PySem.W.ki_setAt ho h0 (by lia) (by rw[Qv,<-hl];exact h4) (by rw[hk];exact⟨_,I',q⟩)
 ·have hk:(k+(its.toArray.size:Int)).toNat=j:=by
   rw[seqIndex_neg (by lia) h3] at h1;rw[Qv,<-hl];exact Option.some.inj h1
  exact PySem.W.ki_setBack ho (by lia) (by rw[Qv,<-hl];exact h3) (by lia) (by rw[hk];exact⟨_,I',q⟩)
theorem oJ(lo hi:Option Int)(n:Nat):(ZK lo hi none n).1=((HT.sIx n 0 lo:Nat):Int)/\(ZK lo hi none n).2.1=((HT.sIx n n hi:Nat):Int)/\(ZK lo hi none n).2.2=1:=by
 refine⟨?_,?_,rfl⟩
 ·cases lo with
  |none=>simp[ZK,HT.sIx]
  |some i=>
   simp only[ZK,HT.sIx,Option.getD_none,show(1:Int)>0 by decide,if_true]
   by_cases h:i<0
   ·simp only[h,if_true]<;>lia
   ·simp only[h,if_false]<;>lia
 ·cases hi with
  |none=>simp[ZK,HT.sIx]
  |some i=>
   simp only[ZK,HT.sIx,Option.getD_none,show(1:Int)>0 by decide,if_true]
   by_cases h:i<0
   ·simp only[h,if_true]<;>lia
   ·simp only[h,if_false]<;>lia
theorem mC(its:List Qa)(lo hi:Option Int):slicePick its.toArray lo hi none=((its.drop (HT.sIx its.length 0 lo)).take (HT.sIx its.length its.length hi-HT.sIx its.length 0 lo)).toArray:=by
 obtain⟨h1,h2,h3⟩:=oJ lo hi its.toArray.size;unfold slicePick;rw[h1,h2,h3];simp only[sliceRange_one,pick_run,Qv]<;>rfl
def BE(K:Qb):V->Option Int->Option Int->Hp->VK->Prop:=λx lo hi H Q=>∃a xs,x=.ref a/\SqL K H a xs/\∀p,H p=none->Q (.ref p) (upd H p (.lst (nT xs lo hi)))
theorem wC:SlR X (BE X.K):=by
 intro pins s σ H x v vl vu lo hi sl Q I rx hs pl pu h;obtain⟨a,xs,rfl,hx,q⟩:=h;cases rx;obtain⟨its,r,ht,hz⟩:=I.list hx;have hlen:=r.length;refine⟨"list",_,slot_list_getitem.lookup,ht.isList.typeIs,?_⟩;refine wpAny_getItem_list_slice ht.isList hs pl pu .none (by simp) ?_ (by rw[Qv]<;>lia);rw[mC,<-hlen];refine⟨.ref s.heap.objs.size,_,I.laid (t':=s.toks) (o:=.lst (nT xs lo hi)) (λb ob q=>Qe _ q) (Qi _) ?_,rfl,q _ (I.hok.fresh (Qi _))⟩;exact⟨QF (kC xs lo hi) hz,_,0,(r.drop (HT.sIx xs.length 0 lo)).take (HT.sIx xs.length xs.length hi-HT.sIx xs.length 0 lo),Qp _ rfl⟩
def ib:V->Bool
 |.non=>true
 |.bl _=>true
 |.int _=>true
 |.str _=>true
 |_=>false
def eqV:V->V->Bool
 |.non,.non=>true
 |.bl a,.bl b=>a==b
 |.bl a,.int b=>(if a then 1 else 0)==b
 |.int a,.bl b=>a==(if b then 1 else 0)
 |.int a,.int b=>a==b
 |.str a,.str b=>a==b
 |_,_=>false
theorem qR{A:QC}{s:Qd}{y x:V}{u v:Qa}(ry:aV y u)(rx:aV x v)(fy:ib y=true)(fx:ib x=true):SeqAt.EqAt A s u v (eqV y x):=by
 cases y with
 |non=>
  cases ry;cases x with
  |non=>cases rx;exact SeqAt.EqAt.same _
  |bl b=>cases rx;exact SeqAt.EqAt.none_bool b
  |int b=>obtain⟨t,rfl⟩:=rx;exact SeqAt.EqAt.none_int b t
  |str b=>obtain⟨t,rfl⟩:=rx;exact SeqAt.EqAt.none_str b t
  |_=>exact absurd (show false=true from fx) Qo
 |bl a=>
  cases ry;cases x with
  |non=>cases rx;exact SeqAt.EqAt.bool_none a
  |bl b=>cases rx;exact SeqAt.EqAt.bool_bool a b
  |int b=>obtain⟨t,rfl⟩:=rx;exact SeqAt.EqAt.bool_int a b t
  |str b=>obtain⟨t,rfl⟩:=rx;exact SeqAt.EqAt.bool_str a b t
  |_=>exact absurd (show false=true from fx) Qo
 |int a=>
  obtain⟨t',rfl⟩:=ry;cases x with
  |non=>cases rx;exact SeqAt.EqAt.int_none a t'
  |bl b=>cases rx;exact SeqAt.EqAt.int_bool a t' b
  |int b=>obtain⟨t,rfl⟩:=rx;exact SeqAt.EqAt.int_int a t' b t
  |str b=>obtain⟨t,rfl⟩:=rx;exact SeqAt.EqAt.int_str a t' b t
  |_=>exact absurd (show false=true from fx) Qo
 |str a=>
  obtain⟨t',rfl⟩:=ry;cases x with
  |non=>cases rx;exact SeqAt.EqAt.str_none a t'
  |bl b=>cases rx;exact SeqAt.EqAt.str_bool a t' b
  |int b=>obtain⟨t,rfl⟩:=rx;exact SeqAt.EqAt.str_int a t' b t
  |str b=>obtain⟨t,rfl⟩:=rx;exact SeqAt.EqAt.str_str a t' b t
  |_=>exact absurd (show false=true from fx) Qo
 |_=>exact absurd (show false=true from fy) Qo
def eqU(x:V)(u:Qa):Bool:=match u with
 |.none=>eqV .non x
 |.bool b=>eqV (.bl b) x
 |.int i _=>eqV (.int i) x
 |.str z _=>eqV (.str z) x
 |_=>false
theorem uz{x y:V}{u:Qa}(r:aV y u)(f:ib y=true):eqU x u=eqV y x:=by
 cases y with
 |non=>cases r;rfl
 |bl b=>cases r;rfl
 |int i=>obtain⟨t,rfl⟩:=r;rfl
 |str z=>obtain⟨t,rfl⟩:=r;rfl
 |_=>exact absurd (show false=true from f) Qo
theorem jG{x:V}:∀{xs:List V} {us:List Qa},a8 xs us->xs.all ib=true->us.any (eqU x)=xs.any λy=>eqV y x
 |_,_,.nil,_=>rfl
 |y::xs,u::us,.cons r t,f=>by
  rw[ZI,ZF] at f;rw[List.any_cons,List.any_cons,uz r f.1,jG t f.2]
theorem iM{A:QC}{s:Qd}{x:V}{v:Qa}(rx:aV x v)(fx:ib x=true):∀{xs:List V} {us:List Qa},a8 xs us->xs.all ib=true->∀u∈us,SeqAt.EqAt A s u v (eqU x u)
 |_,_,.nil,_=>λu hu=>by cases hu
 |y::xs,u::us,.cons r t,f=>λu' hu=>by
  rw[ZI,ZF] at f;rcases Qm.mp hu with rfl | hu
  ·rw[uz r f.1];exact qR r rx f.1 fx
  ·exact iM rx fx t f.2 u' hu
def inV(x:V)(xs:List V):Bool:=xs.any λy=>eqV y x
def rIn(K:Qb)(neg:Bool):R2:=λx y H Q=>∃p xs,y=.ref p/\(SqL K H p xs\/SqT K H p xs)/\ib x=true/\xs.all ib=true/\Q (.bl (if neg then !inV x xs else inV x xs)) H
theorem sI:OpR X (QH .In) (rIn X.K false):=by
 intro pins s σ H x y v u Q I rx ry h;obtain⟨p,xs,rfl,hq,fx,fs,q⟩:=h;cases ry;rcases hq with hq | hq
 ·obtain⟨its,r,pl,hz⟩:=I.list hq
  refine SeqAt.in_listAt (eqU x) pl.isList (λw hw=>iM rx fx r fs w (by simpa using hw)) ⟨.bl _,H,I,rfl,?_⟩;rw[show its.toArray.any (eqU x)=its.any (eqU x) by simp,jG r fs];exact q
 ·obtain⟨its,r,pl,hz⟩:=I.tuple hq
  refine SeqAt.in_tupleAt (eqU x) pl (λw hw=>iM rx fx r fs w (by simpa using hw)) ⟨.bl _,H,I,rfl,?_⟩;rw[show its.toArray.any (eqU x)=its.any (eqU x) by simp,jG r fs];exact q
theorem oa:OpR X (QH .NotIn) (rIn X.K true):=by
 intro pins s σ H x y v u Q I rx ry h;obtain⟨p,xs,rfl,hq,fx,fs,q⟩:=h;cases ry;rcases hq with hq | hq
 ·obtain⟨its,r,pl,hz⟩:=I.list hq
  refine SeqAt.notIn_listAt (eqU x) pl.isList (λw hw=>iM rx fx r fs w (by simpa using hw)) ⟨.bl _,H,I,rfl,?_⟩;rw[show its.toArray.any (eqU x)=its.any (eqU x) by simp,jG r fs];exact q
 ·obtain⟨its,r,pl,hz⟩:=I.tuple hq
  refine SeqAt.notIn_tupleAt (eqU x) pl (λw hw=>iM rx fx r fs w (by simpa using hw)) ⟨.bl _,H,I,rfl,?_⟩;rw[show its.toArray.any (eqU x)=its.any (eqU x) by simp,jG r fs];exact q
theorem dh:ie X (.builtin "len") (λxs H Q=>∃p ys,xs=[.ref p]/\(SqL X.K H p ys\/SqT X.K H p ys)/\Q (.int ys.length) H):=by
 intro pins s σ H xs us Q I r h;obtain⟨p,ys,rfl,hq,q⟩:=h;obtain⟨u,rfl,rx⟩:=pA r;cases rx;have hn:=lM;rcases hq with hq | hq
 ·obtain⟨its,r',pl,hz⟩:=I.list hq
  have hlen:=r'.length;exact Calls.call_len_list pl.isList (by simp only[Qv]<;>lia) ⟨.int ys.length,H,I.tok _,⟨s.toks+1,by rw[Qv,hlen]⟩,q⟩
 ·obtain⟨its,r',pl,hz⟩:=I.tuple hq
  have hlen:=r'.length;exact len_tuple pl (by simp only[Qv]<;>lia) ⟨.int ys.length,H,I.tok _,⟨s.toks+1,by rw[Qv,hlen]⟩,q⟩
theorem bh:ie X (.type "list") (λxs H Q=>∃p ys,xs=[.ref p]/\(SqL X.K H p ys\/SqT X.K H p ys)/\∀l,H l=none->Q (.ref l) (upd H l (.lst ys))):=by
 intro pins s σ H xs us Q I r h;obtain⟨p,ys,rfl,hq,q⟩:=h;obtain⟨u,rfl,rx⟩:=pA r;cases rx
 have fin:∀(its:List Qa),a8 ys its->ys.length<=Qj->∀(h':Heap) (c':Nat),(∀b o',s.heap.get? b=some o'->h'.get? b=some o')->
   h'.get? s.heap.objs.size=some { cls:=.type "list",dict:=none,data:=.seq its.toArray c',slots:=#[] }->EP X pins σ Q (.ref s.heap.objs.size) { s with heap:=h' }:=λits r' hz h' c' kp e=>
  ⟨.ref s.heap.objs.size,_,I.laid (t':=s.toks) kp (Qi _) (show cw X.prog X.w _ h' _ (.lst ys) from⟨hz,its,c',r',e⟩),rfl,q _ (I.hok.fresh (Qi _))⟩
 rcases hq with hq | hq
 ·obtain⟨its,r',pl,hz⟩:=I.list hq
  have hlen:=r'.length;obtain⟨o,ho,hc,n,hd⟩:=pl.isList;exact call_list_seq p (.inl rfl) ho hc hd (λh' c' kp e=>fin its r' hz h' c' kp e) (by simp only[Qv]<;>lia)
 ·obtain⟨its,r',pl,hz⟩:=I.tuple hq
  have hlen:=r'.length;obtain⟨o,ho,hc,n,hd⟩:=pl;exact call_list_seq p (.inr rfl) ho hc hd (λh' c' kp e=>fin its r' hz h' c' kp e) (by simp only[Qv]<;>lia)
theorem jm:ie X (.type "tuple") (λxs H Q=>∃p ys,xs=[.ref p]/\((SqL X.K H p ys/\∀l,H l=none->Q (.ref l) (upd H l (.tup ys)))\/(SqT X.K H p ys/\Q (.ref p) H))):=by
 intro pins s σ H xs us Q I r h;obtain⟨p,ys,rfl,h⟩:=h;obtain⟨u,rfl,rx⟩:=pA r;cases rx;rcases h with⟨hq,q⟩ | ⟨hq,q⟩
 ·obtain⟨its,r',pl,hz⟩:=I.list hq
  have hlen:=r'.length;refine call_tuple_list pl.isList (λh' kp=>?_) (by simp only[Qv]<;>lia);have I1:Inv X pins σ H { s with heap:=h' }:=I.kept (t':=s.toks) kp
  have I2:Inv X pins σ (upd H h'.objs.size (.tup ys)) { s with heap:=h'.push { cls:=.type "tuple",data:=.seq its.toArray } }:=
   I1.laid (t':=s.toks) (λb o e=>Qe _ e) (Qi _) (show cw X.prog X.w _ _ _ (.tup ys) from⟨hz,its,r',IsTup.new _ _⟩)
  exact⟨.ref h'.objs.size,_,I2,rfl,q _ (I1.hok.fresh (Qi _))⟩
 ·obtain⟨its,r',pl,hz⟩:=I.tuple hq
  exact call_tuple_same pl ⟨.ref p,H,I,rfl,q⟩
def tyV(K:Qb)(T:String)(x:V)(H:Hp):Prop:=match x with
 |.str _=>T = "str"
 |.int _=>T = "int"
 |.ref p=>(T = "list"/\∃xs,SqL K H p xs)\/(T = "tuple"/\∃o,K.lookup p=some o/\o.cls=.type "tuple"/\o.dict=none)\/
   (T = "dict"/\((∃kvs,H p=some (.dK kvs))\/∃kvs,H p=some (.dT kvs)))\/(T = "set"/\∃S n,H p=some (.set S n))
 |_=>False
theorem yz{pins:List (Addr×Obj)}{σ:St}{H:Hp}{s:Qd}{T:String}{x:V}{v:Qa}(I:Inv X pins σ H s)(r:aV x v)(ty:tyV X.K T x H) :
  s.TypeIs v T/\∀a,v=.ref a->∃ob,s.heap.get? a=some ob/\ob.dict=none:=by
 cases x with
 |str z=>
  obtain⟨t,rfl⟩:=r;cases(show T = "str" from ty);exact⟨typeIs_str s z t,λ_ e=>nomatch e⟩
 |int i=>
  obtain⟨t,rfl⟩:=r;cases(show T = "int" from ty);exact⟨typeIs_int s i t,λ_ e=>nomatch e⟩
 |ref p=>
  cases r;rcases ty with⟨rfl,xs,hq⟩ | ⟨rfl,o,hk,hc,hd⟩ | ⟨rfl,hk⟩ | ⟨rfl,S,n,hk⟩
  ·obtain⟨its,_,pl,_⟩:=I.list hq
   refine⟨pl.isList.typeIs,λa e=>?_⟩;cases e;obtain⟨o,n,e,c,hd,_⟩:=pl;exact⟨o,e,hd⟩
  ·refine⟨⟨o,I.kIn p o hk,hc⟩,λa e=>?_⟩
   cases e;exact⟨o,I.kIn _ o hk,hd⟩
  ·have z:∃o,s.heap.get? p=some o/\o.ExactDict:=by
    rcases hk with⟨kvs,hk⟩ | ⟨kvs,hk⟩
    ·obtain⟨_,_,_,_,o,_,_,e,ex,_⟩:=I.hok p _ hk
     exact⟨o,e,ex⟩
    ·obtain⟨_,_,_,_,o,_,_,e,ex,_⟩:=I.hok p _ hk
     exact⟨o,e,ex⟩
   obtain⟨o,e,ex⟩:=z;refine⟨⟨o,e,ex.1⟩,λa e2=>?_⟩;cases e2;exact⟨o,e,ex.2.1⟩
  ·obtain⟨o,_,_,_,e,ex,_⟩:=I.hok p _ hk
   refine⟨⟨o,e,ex.1⟩,λa e2=>?_⟩;cases e2;exact⟨o,e,ex.2.1⟩
 |_=>exact QS ty
def tBM(K:Qb)(T:String)(r:V->List V->Hp->VK->Prop)(to:TE)(t:TA):TE:=λσ H Q=>to σ H λx H1=>tyV K T x H1/\t σ H1 λxs H2=>r x xs H2 Q
variable{o e:Expr}{es:List Expr}{to:TE}{t:TA}{name:Str}{apos cpos:Pos}{T id:String}{r:V->List V->Hp->VK->Prop}
theorem rT(pa:PlainAttrs T)(slot:Slot T name id)(hty:typeOf (.builtin id)=pure (.type "method_descriptor"))(hm:MtR X id r)(ho:PE X o to)(ha:PA X (e::es) t)
  (hbase:attributeBase o name X.env (eval o X.env)=eval o X.env:=by rfl)
  (hfew:((Je cpos (Qn (e::es) X.env)).all (λx=>!x.1)&&(backToKw cpos (keywordEach [] X.env)).all (λx=>x.1.isSome)
   && decide ((e::es).length+([]:List Keyword).length+(if([]:List Keyword).isEmpty then 0 else 1)<30))=true:=by rfl)
  (hline:(apos.endLine==cpos.line)=true:=by rfl) (hs:Qn (e::es) X.env=(false,eval e X.env)::Qn es X.env:=by rfl) (hplain:(Je cpos (Qn es X.env)).any (·.1)=false:=by rfl) :
  PE X (.Call (.Attribute o name apos) (e::es) [] cpos) (tBM X.K T r to t):=by
 intro pins s σ H Q I h;refine wpAny_Call_method_late hbase hfew hline rfl (thn (ho pins s σ H _ I h) λv s1 ⟨x,H1,I1,r1,ty,q1⟩=>?_);obtain⟨h1,h2⟩:=yz I1 r1 ty;refine⟨T,id,pa,slot,hty,h1,h2,?_⟩;have hA:=ha cpos pins s1 σ H1 _ I1 q1;rw[hs] at hA ⊢;refine Calls.callWith_builtin (by show(false || (Je cpos (Qn es X.env)).any (·.1))=false;rw[hplain]<;>rfl) (Calls.evalArgs_plain ?_);exact thn hA λus s2 ⟨vs,H2,I2,r2,q2⟩=>hm pins s2 σ H2 x vs v us Q I2 r1 r2 q2
end
def MtM(X:Cx)(id:String)(r:V->List V->Hp->VK->Prop):Prop:=
 ∀(pins:List (Addr×Obj)) (s:Qd) (σ:St) (H:Hp) (x:V) (xs:List V) (v:Qa) (us:List Qa) (Q:VK),Inv X pins σ H s->aV x v->a8 xs us->r x xs H Q->
  Qf (Qh X.prog X.w) X.A (call (.builtin id) (v::us)) (EP X pins σ Q) X.xe s
theorem a8.one:∀{x:V} {us:List Qa},a8 [x] us->∃u,us=[u]/\aV x u:=λh=>by
 cases h with | cons r t=>cases t;exact⟨_,rfl,r⟩
theorem a8.two:∀{x y:V} {us:List Qa},a8 [x,y] us->∃u v,us=[u,v]/\aV x u/\aV y v:=λh=>by
 cases h with | cons r t=>cases t with | cons q t=>cases t;exact⟨_,_,rfl,r,q⟩
section
variable{X:Cx}{pins:List (Addr×Obj)}{σ:St}{H:Hp}{s:Qd}{l b:Addr}{xs ys zs:List V}
theorem Inv.lset{its its':List Qa}{n:Nat}{f:Array Qa->Array Qa}{t':Nat}(I:Inv X pins σ H s)(hH:H l=some (.lst xs))
  (e:s.heap.get? l=some { cls:=.type "list",data:=.seq its.toArray n }) (hf:f its.toArray=its'.toArray) (hv:a8 ys its') (hz:ys.length<=Qj) :
  Inv X pins σ (upd H l (.lst ys)) { s with heap:=s.heap.update l (Obj.mapSeq f),toks:=t' }:=by
 have q:=PySem.IsL.update e f;rw[hf] at q;refine I.write (x:=l) (e:=l) (by rw[hH];exact trivial) (.inl rfl) (λb' u hb hu=>(QP s.heap (Obj.mapSeq f) (Ne.symm hb)).trans hu) ⟨_,q⟩ ?_;exact⟨hz,its',_,hv,q⟩
theorem Inv.lnew{its:List Qa}{t':Nat}(I:Inv X pins σ H s)(hv:a8 ys its)(hz:ys.length<=Qj) :
  Inv X pins σ (upd H s.heap.objs.size (.lst ys)) { s with heap:=s.heap.push { cls:=.type "list",data:=.seq its.toArray },toks:=t' }:=
 I.laid (λ_ _ q=>Qe _ q) (Qi _) ⟨hz,its,0,hv,Qp _ rfl⟩
theorem Inv.fresh(I:Inv X pins σ H s):H s.heap.objs.size=none:=I.hok.fresh (Qi _)
theorem Inv.lstM(I:Inv X pins σ H s)(hH:H l=some (.lst xs)):xs.length<=Qj/\∃(its:List Qa) (n:Nat),a8 xs its/\xs.length=its.length/\s.heap.get? l=some { cls:=.type "list",data:=.seq its.toArray n }:=by
 obtain⟨z,its,n,r,e⟩:=I.hok l _ hH;exact⟨z,its,n,r,r.length,e⟩
end
section
variable{X:Cx}
def xi:V->List V->Hp->VK->Prop:=λx vs H Q=>∃l xs y,x=.ref l/\vs=[y]/\H l=some (.lst xs)/\xs.length<Qj/\Q .non (upd H l (.lst (xs++[y])))
theorem gz:MtM X "list.append" xi:=by
 intro pins s σ H x vs v us Q I rx rv h;obtain⟨l,xs,y,rfl,rfl,hH,hz,q⟩:=h;cases rx;obtain⟨u,rfl,ru⟩:=rv.one;obtain⟨z,its,n,r,hl,e⟩:=I.lstM hH;refine call_meets F.slot_list_append ⟨_,e,rfl⟩ F.entry_list_append (F.args_list_append_2 _ _) (PySem.list_append l its.toArray n u (by rw[Qv];lia)) ⟨e,?_⟩;refine⟨.non,_,I.lset (its':=its++[u]) hH e (by simp) (r.append (.cons ru .nil)) ?_,rfl,q⟩;rw[QN,Zu]
 lia
def Bj:R2:=λx y H Q=>∃l b xs zs,x=.ref l/\y=.ref b/\H l=some (.lst xs)/\H b=some (.lst zs)/\xs.length+zs.length<=Qj/\∀p,H p=none->Q (.ref p) (upd H p (.lst (xs++zs)))
theorem nH:OpR X (Q2 .Add) Bj:=by
 intro pins s σ H x y v u Q I rx ry h;obtain⟨l,b,xs,zs,rfl,rfl,hH,hB,hz,q⟩:=h;cases rx;cases ry;obtain⟨z,its,n,r,hl,e⟩:=I.lstM hH;obtain⟨z2,its2,n2,r2,hl2,e2⟩:=I.lstM hB;refine PySem.P.add_list e e2 ?_ (by rw[Qv,Qv];lia);have ea:its.toArray++its2.toArray=(its++its2).toArray:=by simp
 rw[ea];exact⟨.ref _,_,I.lnew (t':=s.toks) (r.append r2) (by rw[QN];lia),rfl,q _ I.fresh⟩
end
end L2
namespace Att
open PySem PySem.W PySem.Calls PyProof.Rows
theorem kN{P:Params}{h:Heap}:∀(ns:List Int) (vs:List Qa),WellAll P h vs (ns.map WData.int)->IntsAre vs ns:=by
 intro ns
 induction ns with
 |nil=>
  intro vs w;rw[List.map_nil] at w;cases w;exact .nil
 |cons n ns ih=>
  intro vs w;rw[Q3] at w;cases w with
  |cons a b=>
   cases a;exact .cons _ _ (ih _ b)
theorem sQ{l:OpenLaw}{n:Nat}(hn:l.most=some n){P:Params}{h:Heap}{args:List WData}{vals:List Qa}
  (hpre:l.row.toRowW.claim.pre args=true) (hwl:WellAll P h vals args) :
  ∃a vs ns,vals=[Ql a]/\args=[WData.list (ns.map WData.int)]/\h.get? a=some { cls:=.type "list",data:=.seq vs.toArray }/\IntsAre vs ns/\ns.length<=n:=by
 have hsh:WShape.hasAll [] args [.list .int]=true:=(pre_splitW hpre).1;have hc:l.pre.holds [] { args:=args }=true:=(pre_splitW hpre).2;obtain⟨d,r,rfl,h1,h2⟩:=hasAllW_cons hsh;obtain rfl:=hasAllW_nil h2;obtain⟨xs,rfl,h3⟩:=hasW_list h1;obtain⟨ns,rfl⟩:=items_int h3
 have hlen:ns.length<=n:=by
  unfold OpenLaw.pre at hc
  have h4:(WTm.not (.lt (.lit (.int (n:Int))) (.len (.arg 0)))).holds [] { args:=[.list (ns.map .int)] }=true:=by
   have h4:=(holds_andW hc).1;rw[hn] at h4;exact h4
  have h5:=condW_of h4 (w_not (w_lt w_lit (w_len_list (w_arg rfl))));rw[QX] at h5;refine Nat.le_of_not_lt λq=>?_;have q':(n:Int)<((ns.length:Nat):Int):=by lia
  first
   |(rw[decide_eq_true q'] at h5;exact absurd h5 (by decide))
   |(simp at h5;lia)
 cases hwl with
 |cons w1 w2=>
  cases w2;cases w1 with
  |list ho hall=>exact⟨_,_,ns,rfl,rfl,ho,kN ns _ hall,hlen⟩
theorem sU(l:OpenLaw)(args:List WData):l.row.toRowW.claim.post args (.bool true) args=true:=
 postW_of (r:=l.row.toRowW) (X:=(true==true))
  (show WShape.has [] (.bool true) .bool=true by first | rfl | decide | simp[WShape.has,WShape.arms,WShape.armsAll])
  (show(WTm.eq .res (.lit (.bool true))).value [] { args:=args,res:=some (.bool true),after:=args }=some (.bool (true==true)) from w_eq_bool (w_res rfl) w_lit) rfl
theorem pL{l:OpenLaw}{n:Nat}{q:Qq}{loose:List Str}{XP:(Str->Option Qa)->Heap->Prop}{YP:Qw->Heap->Prop}{d:DefRec}
  (hn:l.most=some n) (hdf:d.params.defaults=[])
  (call:∀(w:Qw) (s₀ s₁:Qd) (mg mb:Str->Option Qa) (fa:Addr) (o:Obj) (pm cd doc:Qa) (a:Addr) (vs:List Qa) (ns:List Int),
   Ground q loose [] XP w s₀ mg mb s₁.heap->YP w s₁.heap->
   s₁.heap.get? fa=some o->o.data=.func (docDef d.name d.params d.body d.scope pm cd doc)->s₁.heap.CodeRec cd d.name->mg d.name=some (.ref fa)->
   s₁.heap.get? a=some { cls:=.type "list",data:=.seq vs.toArray }->IntsAre vs ns->ns.length<=n->s₁.gens=#[]->
   codeAny (Qh l.prog w) callerA (.call (.ref fa) ⟨[.ref a],[]⟩) (λr s'=>r=.ok (.ret (.bool true))/\OldK s₁.heap s'.heap/\s'.os=s₁.os/\AllBare s'.gens) s₁) :
  WalkO q loose XP YP l.row.toRowW d [] (λf vs=>PySem.call f vs):=by
 intro w s₀ s₁ mg mb G Y fa o pm cd doc dV kV ho hd hcd hD hmg hg args vals as hpre hlay hrd hwl hlo;obtain rfl:dV=.none:=Dflts.none hD hdf;obtain rfl:kV=.none:=Dflts.noKw hD;obtain⟨a,vs,ns,rfl,rfl,hobj,hints,hlen⟩:=sQ hn hpre hwl;refine enter_call (Zt (call w s₀ s₁ mg mb fa o pm cd doc a vs ns G Y ho (fd_plain hd) hcd hmg hobj hints hlen hg) λr s' hq=>?_);obtain⟨rfl,h2,h3,h4⟩:=hq;exact⟨.inl ⟨.bool true,.bool true,[],rfl,λ_=>rfl,.bool true,sU l _,λ_=>⟨List.Pairwise.nil,λ_ hm=>(nomatch hm)⟩⟩,h2,h3,h4⟩
end Att
namespace L2
open PySem PySem.Spec PyProof.Rows
theorem nr:∀{vs:List Qa} {ns:List Int},IntsAre vs ns->a8 (ns.map V.int) vs
 |_,_,.nil=>.nil
 |_,_,.cons n t h=>.cons ⟨t,rfl⟩ (nr h)
def yx(H:Hp):Prop:=∀b,H b=none\/∃o xs,H b=some (.frz o (.lst xs))
theorem t7{P:Qq}{w:Qw}{K:Qb}{mg mb:Str->Option Qa}{CX:CXT}{k:Nat}{fa a:Addr}{fd:QE}{x:Str}{sp:Sp}{s₁:Qd}{vs:List Qa}{ns:List Int}
  (KX:K.In s₁.heap) (hns:s₁.heap.Ns Qx mg) (hb:s₁.heap.Ns builtinsNs mb) (hbb:∀x:Str,x≠"__name__"->mb x=JS x) (hlim:s₁.heap.NoLimit) (hg:s₁.gens=#[])
  (ha:s₁.heap.get? a=some { cls:=.type "list",data:=.seq vs.toArray }) (hi:IntsAre vs ns) (hl:ns.length<=Qj) (hr:Room k callerA)
  (F:∀base:Heap,K.In base->base.Ns Qx mg->FnOk P w K mg base CX k fa fd [x] sp) (hbind:∀(s:Qd) (u:Qa),BindsTo s fd ⟨[u],[]⟩ [(x,u)])
  (hsp:∀H:Hp,yx H->SqL K H a (ns.map V.int)->sp [.ref a] H (λv _=>v=.bl true) λ_ _ _=>False)
  (hCX:∀H e s',CX [] H s₁ (λ_ _ _=>False) e s'->False) :
  codeAny (Qh P w) callerA (.call (.ref fa) ⟨[.ref a],[]⟩) (λr s'=>r=.ok (.ret (.bool true))/\OldK s₁.heap s'.heap/\s'.os=s₁.os/\AllBare s'.gens) s₁:=by
 have rv:=nr hi;have lenV:=hi.length
 have core:∀H:Hp,yx H->SqL K H a (ns.map V.int)->HOk P w H s₁.heap->(∀b,H b≠none->b=a)->(H a≠none->K.lookup a=none)->
   codeAny (Qh P w) callerA (.call (.ref fa) ⟨[.ref a],[]⟩) (λr s'=>r=.ok (.ret (.bool true))/\OldK s₁.heap s'.heap/\s'.os=s₁.os/\AllBare s'.gens) s₁:=by
  intro H hO hS hok hA hK;have base_of:∀{b:Addr} {o:Obj},s₁.heap.get? b=some o->H b=none->(nB s₁.heap H).get? b=some o:=λe n=>vA e n
  have noA:∀{b:Addr} {o:Obj} {es:Array DictEntry} {ep:Nat},s₁.heap.get? b=some o->o.data=.dict es ep->H b=none:=λ{b o es ep} e d=>by
   cases q:H b with
   |none=>rfl
   |some u=>
    have e':b=a:=hA b (by rw[q];simp);subst e';rw[ha] at e;cases e;have d':Data.seq vs.toArray _=Data.dict es ep:=d;cases d'
  have nsK:∀{b:Addr} {m:Str->Option Qa},s₁.heap.Ns b m->(nB s₁.heap H).Ns b m:=λ{b m} ⟨o,es,ep,e,d,r⟩=>⟨o,es,ep,base_of e (noA e d),d,r⟩
  have hKb:K.In (nB s₁.heap H):=λb o e=>base_of (KX b o e) (by
   cases q:H b with
   |none=>rfl
   |some u=>
    have e':b=a:=hA b (by rw[q];simp);subst e'
    rw[hK (by rw[q];simp)] at e;cases e)
  have hM:Mod K mg (nB s₁.heap H):=⟨hKb,nsK hns,⟨mb,nsK hb,hbb⟩,let⟨mc,h1,h2⟩:=hlim;⟨mc,nsK h1,h2⟩⟩;have e0:Env0 P w K mg (nB s₁.heap H) callerA [] s₁ H:=⟨rfl,hM,λb o e=>xa e,Nat.le_of_eq (tO _ _),trivial,λb hb=>absurd (show b∈([]:List Addr) from hb) (by simp),hok,.of_eq hg⟩;refine Zt ((F _ hKb (nsK hns)).run callerA [] s₁ H ⟨[.ref a],[]⟩ [.ref a] [.ref a] _ _ hr e0 (hbind s₁ (.ref a)) (.cons rfl .nil) (hsp H hO hS)) λr s' h=>?_;cases r with
  |error e=>exact(hCX H e s' h).elim
  |ok fl=>
   cases fl with
   |next=>exact QS h
   |brk=>exact QS h
   |cont=>exact QS h
   |ret u=>
    obtain⟨v,H',os,bare,un,hok',r',q⟩:=h;have q':v=.bl true:=q;subst q';obtain rfl:u=Zy true:=r';refine⟨rfl,OldK.of_keep λb o e=>?_,os,bare⟩;cases q:H b with
    |none=>exact un.keep b o e q (by intro z;exact absurd (show b∈([]:List Addr) from z) (by simp)) (by simp)
    |some u=>
     rcases hO b with z | ⟨ob,xs,z⟩
     ·rw[q] at z;cases z
     ·have z2:=un.frzs b ob _ z
      obtain⟨e1,_⟩:=hok b _ z;obtain⟨e2,_⟩:=hok' b _ z2;rw[e] at e1;cases e1;exact e2
 cases hk:K.lookup a with
 |some o=>
  have e:=KX a o hk;rw[ha] at e;cases e;refine core (λ_=>none) (λ_=>.inl rfl) (.inr ⟨_,vs.toArray,_,hk,rfl,rfl,rfl,by rw[Qv,lenV];exact hl,by simpa using rv⟩) (λb u z=>by have z':(none:Option HO)=some u:=z;cases z') (λb z=>absurd rfl z) λz=>absurd rfl z
 |none=>
  refine core (λb=>if b=a then some (.frz { cls:=.type "list",data:=.seq vs.toArray } (.lst (ns.map V.int))) else none) (λb=>?_) (.inl (.inr ⟨{ cls:=.type "list",data:=.seq vs.toArray },if_pos rfl⟩)) (λb u z=>?_) (λb z=>?_) λ_=>hk
  ·by_cases hb:b=a
   ·exact .inr ⟨_,_,if_pos hb⟩
   ·exact .inl (if_neg hb)
  ·by_cases hb:b=a
   ·have z':=(if_pos hb).symm.trans z
    cases z';subst hb;exact⟨ha,by rw[QX];exact hl,vs,_,rv,ha⟩
   ·have z':=(if_neg hb).symm.trans z
    cases z'
  ·by_cases hb:b=a
   ·exact hb
   ·exact absurd (if_neg hb) z
theorem vL{l:PySem.W.OpenLaw}{n k:Nat}{q:Qq}{loose:List Str}{XP:(Str->Option Qa)->Heap->Prop}{YP:Qw->Heap->Prop}{d:DefRec}{K:Params->Qb}{CX:Qw->CXT}{sp:Qw->Sp}{x:Str}
  (hn:l.most=some n) (hn2:n<=Qj) (hdf:d.params.defaults=[]) (hr:Room k callerA)
  (hY:∀(w:Qw) (h:Heap),YP w h->(K w.params).In h)
  (F:∀(w:Qw) (mg:Str->Option Qa) (fa:Addr) (h:Heap),(K w.params).In h->h.Ns Qx mg->mg d.name=some (.ref fa)->
   ∃fd:QE,(∀(s:Qd) (u:Qa),BindsTo s fd ⟨[u],[]⟩ [(x,u)])/\
    ∀base:Heap,(K w.params).In base->base.Ns Qx mg->FnOk l.prog w (K w.params) mg base (CX w) k fa fd [x] (sp w))
  (hsp:∀(w:Qw) (H:Hp) (a:Addr) (ns:List Int),ns.length<=n->yx H->SqL (K w.params) H a (ns.map V.int)->sp w [.ref a] H (λv _=>v=.bl true) λ_ _ _=>False)
  (hCX:∀(w:Qw) (H:Hp) (s:Qd) (e:Qa) (s':Qd),CX w [] H s (λ_ _ _=>False) e s'->False) :
  PySem.W.WalkO q loose XP YP l.row.toRowW d [] (λf vs=>PySem.call f vs):=by
 refine Att.pL hn hdf λw s₀ s₁ mg mb fa o pm cd doc a vs ns G Y ho hd hcd hmg hobj hints hlen hg=>?_;have KX:=hY w _ Y;obtain⟨fd,hb,hF⟩:=F w mg fa _ KX G.T.g hmg;exact t7 KX G.T.g G.T.b G.T.builtins G.T.nolimit hg hobj hints (QF hlen hn2) hr hF hb (λH hO hS=>hsp w H a ns hlen hO hS) λH e s'=>hCX w H s₁ e s'
def c_(s:Stmt):Arguments:=match s with
 |.FunctionDef _ a _ _ _ _ _ _ _ _=>a
 |_=>{ posonlyargs:=[],args:=[],vararg:=none,kwonlyargs:=[],kw_defaults:=[],kwarg:=none,defaults:=[] }
def bL(s:Stmt):List Stmt:=match s with
 |.FunctionDef _ _ b _ _ _ _ _ _ _=>b
 |_=>[]
def aA(s:Stmt):Scope:=match s with
 |.FunctionDef _ _ _ _ _ _ sc _ _ _=>sc
 |_=>{ kind:=.function,names:=[],isGenerator:=false,isCoroutine:=false }
abbrev CX0:CXT:=λ_ _ _ _ _ _=>False
abbrev E0:XK:=λ_ _ _=>False
theorem cg{X:Cx}:gW CX0 X E0:=λ_ _ _ _ _ _ _ h=>h.elim
structure Fun(K:Qb)(x qual:Str)(st:Stmt)(f:Addr)(fd:QE):Prop where
 ex:∃(oc:Qa) (od:Option Addr) (kV doc pm:Qa) (an:Option Addr) (cdv ct:Qa) (osl:Array (Option Qa)),
  fd=Q9 x qual (c_ st) (bL st) (aA st) .none kV doc pm an cdv ct/\K.lookup f=some ⟨oc,od,.func fd,osl⟩/\Za K cdv qual=true
 kp:Q4 K (.ref f)=true
section
variable{P:Qq}{w:Qw}{K:Qb}{mg:Str->Option Qa}{base:Heap}
theorem Fun.ok{x qual:Str}{st:Stmt}{f:Addr}{fd:QE}{N ps:List Str}{k:Nat}{sp:Sp}(F:Fun K x qual st f fd)(S:FnScope N ps (aA st))(len:∀vs H Q E,sp vs H Q E->vs.length=ps.length)
  (hbody:∀(cdv:Qa) (A:QC) (outer:List Env) (s:Qd) (H:Hp) (vs:List V) (Q:VK) (E:XK),Room k (A.deeper (envOfC qual (aA st) s.heap.objs.size f cdv))->sp vs H Q E->
   ∃t,PSs (ik CX0 P w K mg base N qual (aA st) f cdv A outer s H E).nox (bL st) t/\t { nx:=λ_ H'=>Q .non H',rt:=Q } (iT N vs) H):FnOk P w K mg base CX0 (k+1) f fd ps sp:=by
 obtain⟨oc,od,kV,doc,pm,an,cdv,ct,osl,rfl,lk,hcd⟩:=F.ex;refine mr lk hcd S len λA outer s H vs Q E hr hsp=>?_;obtain⟨t,h,q⟩:=hbody cdv A outer s H vs Q E hr hsp;exact⟨t,h.nox,q⟩
theorem Fun.binds{x qual:Str}{st:Stmt}{f:Addr}{fd:QE}{ps:List Str}(F:Fun K x qual st f fd)
  (h:∀(kV doc pm:Qa) (an:Option Addr) (cdv ct:Qa) (us:List Qa),us.length=ps.length->bindArgs (Q9 x qual (c_ st) (bL st) (aA st) .none kV doc pm an cdv ct) ⟨us,[]⟩=pure (ps.zip us)):fC K fd ps []:=by
 obtain⟨oc,od,kV,doc,pm,an,cdv,ct,osl,rfl,lk,hcd⟩:=F.ex;exact .all (h kV doc pm an cdv ct)
theorem nO{x qual:Str}{st:Stmt}{f:Addr}{oc:Qa}{od an:Option Addr}{osl:Array (Option Qa)}{kV doc pm cdv ct:Qa}(l:K.lookup f=some ⟨oc,od,.func (Q9 x qual (c_ st) (bL st) (aA st) .none kV doc pm an cdv ct),osl⟩)
  (c:Za K cdv qual=true) (k:Q4 K (.ref f)=true):Fun K x qual st f (Q9 x qual (c_ st) (bL st) (aA st) .none kV doc pm an cdv ct):=⟨⟨oc,od,kV,doc,pm,an,cdv,ct,osl,rfl,l,c⟩,k⟩
end
theorem tp{n:Nat}(h:n<=1000):n<Qj:=QI h (by decide)
section
variable{X:Cx}
theorem pv(i:Nat){x:Str}{pos:Pos}(hN:X.N[i]?=some x:=by rfl)(hv:Vis X.env.scope x:=by first | exact Qs rfl | exact Ju (Qs rfl) | exact Ju (Ju rfl))(hd:(x==("__debug__" : Str))=false:=by decide)
  (hcd:(x==("__classdict__" : Str))=false:=by decide):PE X (.Name x pos) (qh i):=jw hN hv hd hcd
end
theorem b9{c A B:Prop}[Decidable c](h1:c->A)(h2:¬ c->B):if c then A else B:=by
 by_cases h:c
 ·rw[if_pos h]
  exact h1 h
 ·rw[if_neg h]
  exact h2 h
def aD(H H':Hp):Prop:=∀b o,H b=some o->H' b=some o
theorem aD.refl(H:Hp):aD H H:=λ_ _ h=>h
theorem aD.trans{H H1 H2:Hp}(a:aD H H1)(b:aD H1 H2):aD H H2:=λc o h=>b c o (a c o h)
theorem aD.free{H H':Hp}(e:aD H H'){l:Addr}(h:H' l=Option.none):H l=Option.none:=by
 cases q:H l with
 |none=>rfl
 |some o=>
  rw[e l o q] at h;cases h
theorem aD.seq{K:Qb}{H H':Hp}{a:Addr}{xs:List V}(e:aD H H')(h:SqL K H a xs):SqL K H' a xs:=by
 rcases h with(h | ⟨o,h⟩) | h
 ·exact .inl (.inl (e _ _ h))
 ·exact .inl (.inr ⟨o,e _ _ h⟩)
 ·exact .inr h
end L2
namespace Ex
open PySem PySem.Spec PyProof.Rows L2
structure Moves(fs:List Addr)(n:Nat)(H:Hp)(h h':Heap):Prop where
 keep:∀b o,h.get? b=some o->b∉fs->(b<n\/H b≠none)->h'.get? b=some o
 slot:∀b o,h.get? b=some o->b∈fs->∃sl,h'.get? b=some { o with slots:=sl }
 there:∀b o,h.get? b=some o->∃o',h'.get? b=some o'
theorem Moves.trans{fs:List Addr}{n:Nat}{H:Hp}{h1 h2 h3:Heap}(x:Moves fs n H h1 h2)(y:Moves fs n H h2 h3):Moves fs n H h1 h3 where
 keep:=λb o e z q=>y.keep b o (x.keep b o e z q) z q
 slot:=λb o e z=>let⟨_,e1⟩:=x.slot b o e z;let⟨sl,e2⟩:=y.slot b _ e1 z;⟨sl,e2⟩
 there:=λb o e=>let⟨o1,e1⟩:=x.there b o e;y.there b o1 e1
theorem Moves.un{fs:List Addr}{n:Nat}{H H':Hp}{h0 h h':Heap}(u:Un fs [] H H' h0 h)(m:Moves fs n H' h h')(hn:h0.objs.size<=n):Un fs [] H H' h0 h' where
 keep:=λb o e q z y=>m.keep b o (u.keep b o e q z y) z (.inl (Qy (Qk e) hn))
 slot:=λb o e q z y=>let⟨_,e1⟩:=u.slot b o e q z y;let⟨sl,e2⟩:=m.slot b _ e1 z;⟨sl,e2⟩
 free:=u.free
 there:=λb o e y=>let⟨o1,e1⟩:=u.there b o e y;m.there b o1 e1
 tups:=u.tups
 frzs:=u.frzs
 tbls:=u.tbls
theorem Moves.hok{P:Qq}{w:Qw}{fs:List Addr}{n:Nat}{H:Hp}{h h':Heap}(m:Moves fs n H h h')(hf:∀b∈fs,H b=none)(k:HOk P w H h):HOk P w H h':=λb o e=>by
 refine(k b o e).stay (λc v hc q=>?_) (λ_ q=>q) λ_ _ q=>q
 have tr:H c≠none:=by
  rcases hc with z | z
  ·rw[z,e];exact λx=>by cases x
  ·rw[z];exact λx=>by cases x
 exact m.keep c v q (λz=>tr (hf c z)) (.inr tr)
structure XT(n:Nat)(H:Hp)(h:Heap)(a:Addr)(cls:Qa)(dx:Addr)(fl:Qa):Prop where
 ge:n<=a
 un:H a=none
 ob:∃oe vs T oT ts,h.get? a=some oe/\oe.cls=cls/\oe.dict=some dx/\oe.data=.fields vs/\vs[1]?=some (.ref T)/\n<=T/\T≠a/\H T=none/\h.get? T=some oT/\oT.data=.fields ts/\ts[3]?=some fl
structure XN(n:Nat)(H:Hp)(h:Heap)(a:Addr)(cls:Qa)(dx:Addr):Prop where
 ge:n<=a
 un:H a=none
 ob:∃oe vs,h.get? a=some oe/\oe.cls=cls/\oe.dict=some dx/\oe.data=.fields vs/\vs[1]?=some .none
def XAt(n:Nat)(H:Hp)(h:Heap)(a:Addr)(cls:Qa)(dx:Addr):Prop:=XN n H h a cls dx\/XT n H h a cls dx .none
theorem XT.le{n n':Nat}{H:Hp}{h:Heap}{a dx:Addr}{cls fl:Qa}(x:XT n H h a cls dx fl)(l:n'<=n):XT n' H h a cls dx fl:=by
 obtain⟨g,u,oe,vs,T,oT,ts,e1,e2,e3,e4,e5,e6,e7⟩:=x;exact⟨QF l g,u,oe,vs,T,oT,ts,e1,e2,e3,e4,e5,QF l e6,e7⟩
theorem XAt.le{n n':Nat}{H:Hp}{h:Heap}{a dx:Addr}{cls:Qa}(x:XAt n H h a cls dx)(l:n'<=n):XAt n' H h a cls dx:=
 x.elim (λx=>.inl ⟨QF l x.ge,x.un,x.ob⟩) λx=>.inr (x.le l)
section
variable{M:Model}{A:QC}{E:Qa->Qd->Prop}{s:Qd}{base:Heap}{env:Env}{outer:List Env}{L a dx:Addr}{cls:Qa}{n:Nat}{H:Hp}
theorem p9{fs:List Addr}{h h':Heap}(x:Heap.SlotsOnly fs h h'):Moves fs n H h h':=
 ⟨λb o e z _=>(x.2.1 b z).trans e,λb o e _=>x.2.2 b o e,λb o e=>let⟨_,q⟩:=x.2.2 b o e;⟨_,q⟩⟩
theorem j8{fs:List Addr}{h:Heap}{b:Addr}{f:Obj->Obj}(hb:n<=b)(hu:H b=none)(hfs:b∉fs)(hat:∃o,(h.update b f).get? b=some o):Moves fs n H h (h.update b f) where
 keep:=λc o e _ q=>by
  have ne:b≠c:=λz=>by
   subst z;rcases q with q | q
   ·exact absurd q (Nat.not_lt.mpr hb)
   ·exact q hu
  rw[QP _ _ ne];exact e
 slot:=λc o e z=>⟨o.slots,by rw[QP _ _ (λq:b=c=>hfs (q▸z))];exact e⟩
 there:=λc o e=>by
  by_cases q:b=c
  ·subst q;exact hat
  ·exact⟨o,by rw[QP _ _ q];exact e⟩
theorem qu{fs:List Addr}{h:Heap}(o:Obj):Moves fs n H h (h.push o):=
 ⟨λ_ _ e _ _=>Qe _ e,λb u e _=>⟨u.slots,Qe _ e⟩,λb u e=>⟨u,Qe _ e⟩⟩
theorem lq{l:List Env}(hl:s.heap.FunFrames base l){b:Addr}{o:Obj}{vs:Array Qa}(e:s.heap.get? b=some o)(d:o.data=.fields vs):b∉frs l:=λhm=>by
 obtain⟨_,u,hu,hn⟩:=hl.mem hm;rw[e] at hu;cases hu;exact hn vs d
theorem n_{fs:List Addr}{h h':Heap}(m:Moves fs n H h h'):∀(l:List Env),(∀b∈frs l,b∈fs)->h.FunFrames base l->h'.FunFrames base l:=by
 intro l
 induction l with
 |nil=>exact λ_ _=>trivial
 |cons v r ih=>
  intro hs hl;obtain⟨hk,⟨L,o,hf,hn,ho,hd⟩,hr⟩:=hl
  have sub:∀b,b=L\/b∈frs r->b∈frs (v::r):=λb z=>by
   show b∈List.filterMap _ _;rw[ZL,hf];exact Qm.mpr z
  obtain⟨sl,e⟩:=m.slot L o ho (hs L (sub L (.inl rfl)));exact⟨hk,⟨L,_,hf,hn,e,hd⟩,ih (λb z=>hs b (sub b (.inr z))) hr⟩
theorem pW{o:Obj}{f:Array Qa->Array Qa}:(Zm f o).dict=o.dict:=by
 obtain⟨c,d,dt,sl⟩:=o;cases dt<;>rfl
theorem ka{l:List Env}{fl:Qa}{Q:Unit->Qd->Prop}(hl:s.heap.FunFrames base l)(x:XT n H s.heap a cls dx fl)
  (hq:∀h',Moves (frs l) n H s.heap h'->XT n H h' a cls dx .none->Q () { s with heap:=h' }):Qf M A (setFlight (.ref a) none) Q E s:=by
 obtain⟨g,u,oe,vs,T,oT,ts,ea,ec,ed,edat,e1,gT,ne,uT,eT,edT,e3⟩:=x;have i3:3<ts.size:=(JZ.mp e3).1;unfold setFlight;refine Qc (QU ea edat e1 ?_);rw[if_pos (by simp:(Ql T != QT)=true)];have self:=JA (Zm (·.setIfInBounds 3 QT)) eT (Zv (JB edT _));refine wpAny_setField eT edT i3 (hq _ (j8 gT uT (lq hl eT edT) ⟨_,self⟩) ⟨g,u,oe,vs,T,_,_,?_,ec,ed,edat,e1,gT,ne,uT,self,JB edT _,?_⟩)
 ·rw[QP _ _ ne];exact ea
 ·simp[i3]
theorem oP{head:Qa}{had:Bool}{oe:Obj}{vs:Array Qa}{Q:Unit->Qd->Prop}(hfr:A.frames=some (env::outer))(hl:s.heap.FunFrames base (env::outer))(hf:env.frame=some L)
  (hH:∀b,s.heap.objs.size<=b->H b=none) (g:n<=a) (u:H a=none) (ea:s.heap.get? a=some oe) (edat:oe.data=.fields vs) (i1:1<vs.size)
  (hq:∀h',Moves (frs (env::outer)) n H s.heap h'->XT n H h' a oe.cls (oe.dict.getD 0) (rawInt L)->(∃o,h'.get? a=some o/\o.dict=oe.dict)->Q () { s with heap:=h' }) (hdx:∃d,oe.dict=some d) :
  Qf M A (do let fo<-frameOf env;let pl<-entryPlaceOf L had;let b<-EntryCells.newEntry head fo .none (rawInt L) .none pl;setField (.ref a) 1 b) Q E s:=by
 refine Qc (wpAny_frameOf_fun hfr hl hf λh1 hs=>Qc (wpAny_entryPlaceOf λpl hpl=>?_));unfold EntryCells.newEntry;unfold newFields;refine Qc (Jg (?_) (hpl.sizeOk5 _ _ _ _ _));have naf:a∉frs (env::outer):=lq hl ea edat;have a1:h1.get? a=some oe:=(hs.2.1 a naf).trans ea;generalize hts:([head,Ql L,QT,rawInt L,QT]++(if pl.isEmpty then Jy 6 QT else pl)).toArray=ts;have t3:ts[3]?=some (rawInt L):=by rw[<-hts];simp
 have a2:(h1.push { cls:=.type "traceback",dict:=none,data:=.fields ts }).get? a=some oe:=Qe _ a1;have neT:a≠h1.objs.size:=Qz (Qk a1);have selfA:=JA (Zm (·.setIfInBounds 1 (Ql h1.objs.size))) a2 (Zv (JB edat _));have sz:h1.objs.size=s.heap.objs.size:=hs.1;refine wpAny_setField a2 edat i1 (hq _ ((p9 hs).trans ((qu _).trans (j8 g u naf ⟨_,selfA⟩))) ?_ ⟨_,selfA,?_⟩)
 ·refine⟨g,u,_,_,h1.objs.size,_,ts,selfA,?_,?_,JB edat _,by simp[i1],?_,Ne.symm neT,hH _ (Nat.le_of_eq sz.symm),(QP _ _ neT).trans (Qp _ rfl),rfl,t3⟩
  ·exact Obj.cls_mapFields _ _
  ·obtain⟨d,hd⟩:=hdx
   rw[pW,hd];rfl
  ·exact QF g (Nat.le_of_lt (Qk a1))
 ·exact pW
theorem si{Q:Unit->Qd->Prop}(hfr:A.frames=some (env::outer))(hl:s.heap.FunFrames base (env::outer))(hf:env.frame=some L)(hH:∀b,s.heap.objs.size<=b->H b=none)(x:XAt n H s.heap a cls dx)
  (hq:∀h',Moves (frs (env::outer)) n H s.heap h'->XT n H h' a cls dx (rawInt L)->Q () { s with heap:=h' }):Qf M A (noteFrame (.ref a) env) Q E s:=by
 unfold noteFrame;simp only[hf];rcases x with⟨g,u,oe,vs,ea,ec,ed,edat,e1⟩ | ⟨g,u,oe,vs,T,oT,ts,ea,ec,ed,edat,e1,gT,ne,uT,eT,edT,e3⟩
 ·refine Qc (QU ea edat e1 ?_)
  rw[if_neg (by decide)];refine oP (n:=n) (H:=H) hfr hl hf hH g u ea edat (JZ.mp e1).1 (λh' m x _=>hq h' m ?_) ⟨_,ed⟩;rw[ec,ed] at x;exact x
 ·have i3:3<ts.size:=(JZ.mp e3).1
  refine Qc (QU ea edat e1 ?_);rw[if_pos (by simp:(Ql T != QT)=true)];refine Qc (QU eT edT e3 ?_);rw[if_neg (by simp[rawInt]:¬ (QT==rawInt L)=true)];have self:=JA (Zm (·.setIfInBounds 3 QT)) eT (Zv (JB edT _));have mv:Moves (frs (env::outer)) n H s.heap (s.heap.update T (Zm (·.setIfInBounds 3 QT))):=j8 gT uT (lq hl eT edT) ⟨_,self⟩;refine Qc (wpAny_setField eT edT i3 ?_);have ea':=(QP s.heap (Zm (·.setIfInBounds 3 QT)) ne).trans ea;refine oP (n:=n) (H:=H) (base:=base) (s:={ s with heap:=s.heap.update T (Zm (·.setIfInBounds 3 QT)) }) hfr ?_ hf (λb hb=>hH b ?_) g u ea' edat (JZ.mp e1).1 (λh' m x _=>hq h' (mv.trans m) ?_) ⟨_,ed⟩
  ·refine hl.of_keeps λb o e nf=>⟨o,?_,rfl⟩
   rw[QP _ _ (λz:T=b=>nf ts (by subst z;rw[eT] at e;cases e;exact edT))];exact e
  ·have:=hb
   rw[Heap.size_after_update] at this;exact this
  ·rw[ec,ed] at x
   exact x
theorem uw{Q:Unit->Qd->Prop}(hfr:A.frames=some (env::outer))(hl:s.heap.FunFrames base (env::outer))(hf:env.frame=some L)(hH:∀b,s.heap.objs.size<=b->H b=none)(x:XAt n H s.heap a cls dx)
  (hq:∀h',Moves (frs (env::outer)) n H s.heap h'->XAt n H h' a cls dx->Q () { s with heap:=h' }):Qf M A (leaving env (.ref a)) Q E s:=by
 unfold leaving;refine Qc (si hfr hl hf hH x λh' m y=>?_);refine ka (base:=base) (l:=env::outer) ?_ y λh2 m2 y2=>hq h2 (m.trans m2) (.inr y2);exact n_ m _ (λ_ z=>z) hl
end
end Ex
namespace Dn
open PySem PySem.Spec PyProof.Rows L2
inductive D where
 |non | bl (b:Bool) | int (i:Int) | str (x:Str) | tup (xs:List D) | lst (xs:List D) | dic (es:List (List Int×D))
 deriving Inhabited
def AM(ns:List Int):Int:=reduceHash (Builtin.Tuple.tupleHashOf (ns.map hashInt))
abbrev nE:=List (List Int×Addr×V)
structure EntOk(p:List Int×Addr×V)(e:DictEntry):Prop where
 hash:e.hash=AM p.1
 key:e.key=.ref p.2.1
 val:aV p.2.2 e.val
def DAt(a:Addr)(us:nE)(ep:Nat):Heap->Prop:=λh=>(a==JD)=false/\us.length<=1000000/\∃o raw,h.get? a=some o/\o.ExactDict/\o.data=.dict raw ep/\Paired EntOk us raw.toList
def RdI(K:Qb)(G:Hp)(a:Addr)(xs:List V):Prop:=G a=some (.lst xs)\/∃ns:List Int,xs=ns.map V.int/\SqL K G a xs
theorem RdI.sq{K:Qb}{G:Hp}{a:Addr}{xs:List V}(h:RdI K G a xs):SqL K G a xs:=h.elim (λh=>SqL.of h) λ⟨_,_,h⟩=>h
theorem RdI.mono{K:Qb}{G G':Hp}{a:Addr}{xs:List V}(e:aD G G')(h:RdI K G a xs):RdI K G' a xs:=h.elim (λh=>.inl (e _ _ h)) λ⟨n,z,h⟩=>.inr ⟨n,z,e.seq h⟩
mutual
inductive Den(K:Qb)(G:Hp):V->D->Prop where
 |non:Den K G .non .non
 |bl (b:Bool):Den K G (.bl b) (.bl b)
 |int (i:Int):Den K G (.int i) (.int i)
 |str (x:Str):Den K G (.str x) (.str x)
 |tup {a:Addr} {xs:List V} {ds:List D} (h:SqT K G a xs) (hs:DenL K G xs ds):Den K G (.ref a) (.tup ds)
 |lst {a:Addr} {xs:List V} {ds:List D} (h:RdI K G a xs) (hs:DenL K G xs ds):Den K G (.ref a) (.lst ds)
 |dic {a:Addr} {us:nE} {ep:Nat} {es:List (List Int×D)} (h:G a=some (.ext (DAt a us ep))) (nd:(us.map (·.1)).Nodup) (hs:DenM K G us es):Den K G (.ref a) (.dic es)
inductive DenM(K:Qb)(G:Hp):nE->List (List Int×D)->Prop where
 |nil:DenM K G [] []
 |cons {k:List Int} {b:Addr} {v:V} {d:D} {us:nE} {es:List (List Int×D)} (hk:SqT K G b (k.map V.int)) (hv:Den K G v d) (hs:DenM K G us es):DenM K G ((k,b,v)::us) ((k,d)::es)
inductive DenL(K:Qb)(G:Hp):List V->List D->Prop where
 |nil:DenL K G [] []
 |cons {x:V} {d:D} {xs:List V} {ds:List D} (h:Den K G x d) (hs:DenL K G xs ds):DenL K G (x::xs) (d::ds)
end
theorem aE{K:Qb}{H H':Hp}{a:Addr}{xs:List V}(e:aD H H')(h:SqT K H a xs):SqT K H' a xs:=by
 rcases h with(h | ⟨o,h⟩) | h
 ·exact .inl (.inl (e _ _ h))
 ·exact .inl (.inr ⟨o,e _ _ h⟩)
 ·exact .inr h
theorem Den.mono{K:Qb}{G G':Hp}(e:aD G G'){v:V}{d:D}(h:Den K G v d):Den K G' v d:=
 Den.rec (motive_1:=λv d _=>Den K G' v d) (motive_2:=λu e _=>DenM K G' u e) (motive_3:=λv d _=>DenL K G' v d) .non .bl .int .str (λh _ y=>.tup (aE e h) y) (λh _ y=>.lst (h.mono e) y) (λh n _ y=>.dic (e _ _ h) n y) .nil (λk _ _ y z=>.cons (aE e k) y z) .nil (λ_ _ y z=>.cons y z) h
theorem DenM.mono{K:Qb}{G G':Hp}(e:aD G G'){us:nE}{es:List (List Int×D)}(h:DenM K G us es):DenM K G' us es:=
 DenM.rec (motive_1:=λv d _=>Den K G' v d) (motive_2:=λu e _=>DenM K G' u e) (motive_3:=λv d _=>DenL K G' v d) .non .bl .int .str (λh _ y=>.tup (aE e h) y) (λh _ y=>.lst (h.mono e) y) (λh n _ y=>.dic (e _ _ h) n y) .nil (λk _ _ y z=>.cons (aE e k) y z) .nil (λ_ _ y z=>.cons y z) h
theorem DenL.mono{K:Qb}{G G':Hp}(e:aD G G'){v:List V}{d:List D}(h:DenL K G v d):DenL K G' v d:=
 DenL.rec (motive_1:=λv d _=>Den K G' v d) (motive_2:=λu e _=>DenM K G' u e) (motive_3:=λv d _=>DenL K G' v d) .non .bl .int .str (λh _ y=>.tup (aE e h) y) (λh _ y=>.lst (h.mono e) y) (λh n _ y=>.dic (e _ _ h) n y) .nil (λk _ _ y z=>.cons (aE e k) y z) .nil (λ_ _ y z=>.cons y z) h
section
variable{K:Qb}{G:Hp}
theorem DenL.ind{P:List V->List D->Prop}(n:P [] [])(c:∀{x:V} {d:D} {xs:List V} {ds:List D},Den K G x d->DenL K G xs ds->P xs ds->P (x::xs) (d::ds)){xs:List V}{ds:List D}(h:DenL K G xs ds):P xs ds:=
 DenL.rec (motive_1:=λ_ _ _=>True) (motive_2:=λ_ _ _=>True) (motive_3:=λxs ds _=>P xs ds) trivial (λ_=>trivial) (λ_=>trivial) (λ_=>trivial) (λ_ _ _=>trivial) (λ_ _ _=>trivial) (λ_ _ _ _=>trivial) trivial (λ_ _ _ _ _=>trivial) n (λh hs _ y=>c h hs y) h
theorem DenL.length{xs:List V}{ds:List D}(h:DenL K G xs ds):xs.length=ds.length:=
 DenL.ind (P:=λxs ds=>xs.length=ds.length) rfl (λ_ _ y=>congrArg (· + 1) y) h
theorem DenL.get{xs:List V}{ds:List D}{i:Nat}{d:D}(h:DenL K G xs ds):ds[i]?=some d->∃x,xs[i]?=some x/\Den K G x d:=by
 revert i
 refine DenL.ind (P:=λxs ds=>∀{i:Nat},ds[i]?=some d->∃x,xs[i]?=some x/\Den K G x d) (λ{i} e=>nomatch e) (λ{x d' xs ds} h _ y {i} e=>?_) h;cases i with
 |zero=>cases e;exact⟨_,rfl,h⟩
 |succ i=>exact y (i:=i) e
theorem DenL.getV{xs:List V}{ds:List D}{i:Nat}{x:V}(h:DenL K G xs ds):xs[i]?=some x->∃d,ds[i]?=some d/\Den K G x d:=by
 revert i
 refine DenL.ind (P:=λxs ds=>∀{i:Nat},xs[i]?=some x->∃d,ds[i]?=some d/\Den K G x d) (λ{i} e=>nomatch e) (λ{x' d' xs ds} h _ y {i} e=>?_) h;cases i with
 |zero=>cases e;exact⟨_,rfl,h⟩
 |succ i=>exact y (i:=i) e
theorem DenL.append{xs ys:List V}{ds es:List D}(h:DenL K G xs ds)(s:DenL K G ys es):DenL K G (xs++ys) (ds++es):=
 DenL.ind (P:=λxs ds=>DenL K G (xs++ys) (ds++es)) s (λh _ y=>.cons h y) h
theorem DenL.take{xs:List V}{ds:List D}(n:Nat)(h:DenL K G xs ds):DenL K G (xs.take n) (ds.take n):=by
 refine DenL.ind (P:=λxs ds=>∀n,DenL K G (xs.take n) (ds.take n)) (λn=>?_) (λh _ y n=>?_) h n
 ·cases n<;>exact .nil
 ·cases n with
  |zero=>exact .nil
  |succ n=>exact .cons h (y n)
theorem DenL.drop{xs:List V}{ds:List D}(n:Nat)(h:DenL K G xs ds):DenL K G (xs.drop n) (ds.drop n):=by
 refine DenL.ind (P:=λxs ds=>∀n,DenL K G (xs.drop n) (ds.drop n)) (λn=>?_) (λh hs y n=>?_) h n
 ·cases n<;>exact .nil
 ·cases n with
  |zero=>exact .cons h hs
  |succ n=>exact y n
theorem DenL.set{x:V}{d:D}(r:Den K G x d){xs:List V}{ds:List D}(i:Nat)(h:DenL K G xs ds):DenL K G (xs.set i x) (ds.set i d):=by
 refine DenL.ind (P:=λxs ds=>∀i,DenL K G (xs.set i x) (ds.set i d)) (λn=>.nil) (λq t y i=>?_) h i;cases i with
 |zero=>exact .cons r t
 |succ i=>exact .cons q (y i)
theorem DenL.one{x:V}{d:D}(h:Den K G x d):DenL K G [x] [d]:=.cons h .nil
end
structure Grow(G H G' H':Hp):Prop where
 hh:aD H H'
 gg:aD G G'
 gh:aD G' H'
 fo:∀a o,H a=some o->G a=none->G' a=none
theorem Grow.refl{G H:Hp}(h:aD G H):Grow G H G H:=⟨aD.refl _,aD.refl _,h,λ_ _ _ e=>e⟩
theorem Grow.trans{G H G1 H1 G2 H2:Hp}(a:Grow G H G1 H1)(b:Grow G1 H1 G2 H2):Grow G H G2 H2:=
 ⟨a.hh.trans b.hh,a.gg.trans b.gg,b.gh,λc o h e=>b.fo c o (a.hh c o h) (a.fo c o h e)⟩
theorem Grow.new{G H:Hp}{p:Addr}(o:HO)(gh:aD G H)(hn:H p=none):Grow G H (upd G p o) (upd H p o) where
 hh:=λb u e=>by rw[ao (ak e hn)];exact e
 gg:=λb u e=>by rw[ao (ak (gh b u e) hn)];exact e
 gh:=λb u e=>by
  unfold upd at e ⊢
  by_cases z:b=p
  ·rw[if_pos z] at e ⊢;exact e
  ·rw[if_neg z] at e ⊢;exact gh b u e
 fo:=λa u e g=>by rw[ao (ak e hn)];exact g
theorem Grow.lay{G H:Hp}{p:Addr}(o:HO)(gh:aD G H)(hn:H p=none):Grow G H G (upd H p o) where
 hh:=λb u e=>by rw[ao (ak e hn)];exact e
 gg:=aD.refl _
 gh:=λb u e=>by rw[ao (ak (gh b u e) hn)];exact gh b u e
 fo:=λa u e g=>g
inductive Sl where
 |un | dat (d:D) | own (ds:List D) | odi (es:List (List Int×D))
abbrev Ev:=List Sl
structure EnvD(K:Qb)(He G H:Hp)(σ:L2.St)(ε:Ev):Prop where
 len:σ.length=ε.length
 dat:∀{i:Nat} {d:D},ε[i]?=some (.dat d)->∃v,σ[i]?=some (some v)/\Den K G v d
 own:∀{i:Nat} {ds:List D},ε[i]?=some (.own ds)->∃a xs,σ[i]?=some (some (.ref a))/\H a=some (.lst xs)/\G a=none/\He a=none/\DenL K G xs ds
 apart:∀{i j:Nat} {ds es:List D} {a:Addr},ε[i]?=some (.own ds)->ε[j]?=some (.own es)->σ[i]?=some (some (.ref a))->σ[j]?=some (some (.ref a))->i=j
 odi:∀{i:Nat} {es:List (List Int×D)},ε[i]?=some (.odi es)->∃a us ep,σ[i]?=some (some (.ref a))/\H a=some (.ext (DAt a us ep))/\G a=none/\He a=none/\(us.map (·.1)).Nodup/\DenM K G us es
 apartD:∀{i j:Nat} {ds es:List (List Int×D)} {a:Addr},ε[i]?=some (.odi ds)->ε[j]?=some (.odi es)->σ[i]?=some (some (.ref a))->σ[j]?=some (some (.ref a))->i=j
theorem EnvD.grow{K:Qb}{He G H G' H':Hp}{σ:L2.St}{ε:Ev}(E:EnvD K He G H σ ε)(g:Grow G H G' H'):EnvD K He G' H' σ ε where
 len:=E.len
 dat:=λe=>let⟨v,h1,h2⟩:=E.dat e;⟨v,h1,h2.mono g.gg⟩
 own:=λe=>let⟨a,xs,h1,h2,h3,h4,h5⟩:=E.own e;⟨a,xs,h1,g.hh _ _ h2,g.fo _ _ h2 h3,h4,h5.mono g.gg⟩
 apart:=E.apart
 odi:=λe=>let⟨a,us,ep,h1,h2,h3,h4,h5,h6⟩:=E.odi e;⟨a,us,ep,h1,g.hh _ _ h2,g.fo _ _ h2 h3,h4,h5,h6.mono g.gg⟩
 apartD:=E.apartD
structure Sta(K:Qb)(He Ge G H:Hp)(σ:L2.St)(ε:Ev):Prop where
 g:Grow Ge He G H
 e:EnvD K He G H σ ε
theorem Sta.grow{K:Qb}{He Ge G H G' H':Hp}{σ:L2.St}{ε:Ev}(S:Sta K He Ge G H σ ε)(g:Grow G H G' H'):Sta K He Ge G' H' σ ε:=⟨S.g.trans g,S.e.grow g⟩
def DE(X:Cx)(e:Expr)(f:Ev->Option D):Prop:=∃t,PE X e t/\∀(He G H:Hp) (σ:L2.St) (ε:Ev) (d:D) (Q:VK),aD G H->EnvD X.K He G H σ ε->f ε=some d->
 (∀v G' H',Grow G H G' H'->Den X.K G' v d->Q v H')->t σ H Q
def DF(X:Cx)(e:Expr)(f:Ev->Option (List D)):Prop:=∃t,PE X e t/\∀(He G H:Hp) (σ:L2.St) (ε:Ev) (ds:List D) (Q:VK),aD G H->EnvD X.K He G H σ ε->f ε=some ds->
 (∀a xs G' H',Grow G H G' H'->H a=none->G' a=none->H' a=some (.lst xs)->DenL X.K G' xs ds->Q (.ref a) H')->t σ H Q
def DT(X:Cx)(e:Expr)(f:Ev->Option Bool):Prop:=∃t,PT X e t/\∀(He G H:Hp) (σ:L2.St) (ε:Ev) (b:Bool) (Q:Bool->Hp->Prop),aD G H->EnvD X.K He G H σ ε->f ε=some b->
 (∀G' H',Grow G H G' H'->Q b H')->t σ H Q
def DW(X:Cx)(e:Expr)(f:Ev->Option Bool):Prop:=∃t,PW X e t/\∀(He G H:Hp) (σ:L2.St) (ε:Ev) (b:Bool) (Q:Bool->Hp->Prop),aD G H->EnvD X.K He G H σ ε->f ε=some b->
 (∀G' H',Grow G H G' H'->Q b H')->t σ H Q
def DA(X:Cx)(es:List Expr)(f:Ev->Option (List D)):Prop:=∃t,PA X es t/\∀(He G H:Hp) (σ:L2.St) (ε:Ev) (ds:List D) (Q:List V->Hp->Prop),aD G H->EnvD X.K He G H σ ε->f ε=some ds->
 (∀vs G' H',Grow G H G' H'->DenL X.K G' vs ds->Q vs H')->t σ H Q
theorem DW.dt{X:Cx}{e:Expr}{f:Ev->Option Bool}(h:DW X e f):DT X e f:=let⟨t,h1,h2⟩:=h;⟨t,h1.pt,h2⟩
theorem Grow.seal{G H G' H':Hp}{a:Addr}{xs:List V}(g:Grow G H G' H')(hn:H a=none)(gn:G' a=none)(ha:H' a=some (.lst xs)):Grow G H (upd G' a (.lst xs)) H':=
 ⟨g.hh,λb o e=>by rw[ao (ak (g.gg b o e) gn)];exact g.gg b o e,λb o e=>by
   unfold upd at e
   by_cases z:b=a
   ·rw[if_pos z] at e;cases e;rw[z];exact ha
   ·rw[if_neg z] at e;exact g.gh b o e,λb o e z=>by rw[ao (ak e hn)];exact g.fo b o e z⟩
theorem qS{K:Qb}{G':Hp}{a:Addr}{xs:List V}{ds:List D}(gn:G' a=none)(hd:DenL K G' xs ds):Den K (upd G' a (.lst xs)) (.ref a) (.lst ds):=
 .lst (.inl upd_same) (hd.mono λb o e=>by rw[ao (ak e gn)];exact e)
def eF(f:Ev->Option (List D)):Ev->Option D:=λε=>(f ε).map D.lst
theorem DF.de{X:Cx}{e:Expr}{f:Ev->Option (List D)}(h:DF X e f):DE X e (eF f):=by
 obtain⟨t,h1,h2⟩:=h;refine⟨t,h1,λHe G H σ ε d Q gh E ef q=>?_⟩;unfold eF at ef;cases e1:f ε with
 |none=>rw[e1] at ef;cases ef
 |some ds=>
  rw[e1] at ef;cases ef;refine h2 He G H σ ε ds Q gh E e1 λa xs G' H' g hn gn ha hd=>?_;exact q _ _ _ (g.seal hn gn ha) (qS gn hd)
inductive Fl where
 |nx (ε:Ev) | rt (d:D) | bk (ε:Ev) | ct (ε:Ev) | ro (ds:List D) | xc (c:Str) (fs:List (Str×D))
def XD(K:Qb)(G:Hp)(dx:Addr)(fs:List (Str×D)):Prop:=∃vs,G dx=some (.xd vs)/\∀n d,(n,d)∈fs->∃v,vs.lookup n=some v/\Den K G v d
def we(X:Cx)(He Ge:Hp)(r:Fl)(W:Ends):Prop:=match r with
 |.nx ε=>∀σ G H,Sta X.K He Ge G H σ ε->W.nx σ H
 |.bk ε=>∀σ G H,Sta X.K He Ge G H σ ε->W.bk σ H
 |.ct ε=>∀σ G H,Sta X.K He Ge G H σ ε->W.ct σ H
 |.rt d=>∀v G H,Grow Ge He G H->Den X.K G v d->W.rt v H
 |.ro ds=>∀a xs G H,Grow Ge He G H->He a=none->G a=none->H a=some (.lst xs)->DenL X.K G xs ds->W.rt (.ref a) H
 |.xc c fs=>∀(pins:List (Addr×Obj)) (σ:L2.St) (G H:Hp) (s:Qd) (a dx:Addr) (cls:Qa),L2.Inv X pins σ H s->Grow Ge He G H->Ex.XAt X.s₀.heap.objs.size H s.heap a cls dx->X.mg c=some cls->XD X.K G dx fs->X.xe (.ref a) s
def DS(X:Cx)(st:Stmt)(g:Ev->Option Fl):Prop:=∃t,PS X st t/\∀(He Ge G H:Hp) (σ:L2.St) (ε:Ev) (r:Fl) (W:Ends),Sta X.K He Ge G H σ ε->g ε=some r->we X He Ge r W->t W σ H
def DSs(X:Cx)(st:List Stmt)(g:Ev->Option Fl):Prop:=∃t,PSs X st t/\∀(He Ge G H:Hp) (σ:L2.St) (ε:Ev) (r:Fl) (W:Ends),Sta X.K He Ge G H σ ε->g ε=some r->we X He Ge r W->t W σ H
def cY(K:Qb)(G H:Hp)(v:V)(d:D):Prop:=Den K G v d\/∃a xs ds,v=.ref a/\d=.lst ds/\H a=some (.lst xs)/\DenL K G xs ds
theorem cY.grow{K:Qb}{G H G' H':Hp}{v:V}{d:D}(h:cY K G H v d)(g:Grow G H G' H'):cY K G' H' v d:=by
 rcases h with h | ⟨a,xs,ds,h1,h2,h3,h4⟩
 ·exact .inl (h.mono g.gg)
 ·exact .inr ⟨a,xs,ds,h1,h2,g.hh _ _ h3,h4.mono g.gg⟩
theorem cY.int{K:Qb}{G H:Hp}{v:V}{i:Int}(h:cY K G H v (.int i)):v=.int i:=by
 rcases h with h | ⟨_,_,_,_,h,_⟩
 ·cases h;rfl
 ·cases h
theorem cY.bl{K:Qb}{G H:Hp}{v:V}{i:Bool}(h:cY K G H v (.bl i)):v=.bl i:=by
 rcases h with h | ⟨_,_,_,_,h,_⟩
 ·cases h;rfl
 ·cases h
theorem cY.str{K:Qb}{G H:Hp}{v:V}{i:Str}(h:cY K G H v (.str i)):v=.str i:=by
 rcases h with h | ⟨_,_,_,_,h,_⟩
 ·cases h;rfl
 ·cases h
theorem cY.non{K:Qb}{G H:Hp}{v:V}(h:cY K G H v .non):v=.non:=by
 rcases h with h | ⟨_,_,_,_,h,_⟩
 ·cases h;rfl
 ·cases h
theorem cY.tup{K:Qb}{G H:Hp}{v:V}{ds:List D}(gh:aD G H)(h:cY K G H v (.tup ds)):∃a xs,v=.ref a/\SqT K G a xs/\SqT K H a xs/\DenL K G xs ds:=by
 rcases h with h | ⟨_,_,_,_,h,_⟩
 ·cases h with | tup h hs=>exact⟨_,_,rfl,h,aE gh h,hs⟩
 ·cases h
theorem cY.lst{K:Qb}{G H:Hp}{v:V}{ds:List D}(gh:aD G H)(h:cY K G H v (.lst ds)):∃a xs,v=.ref a/\SqL K H a xs/\DenL K G xs ds:=by
 rcases h with h | ⟨a,xs,ds',h1,h,h3,h4⟩
 ·cases h with | lst h hs=>exact⟨_,_,rfl,gh.seq h.sq,hs⟩
 ·cases h;exact⟨a,xs,h1,.of h3,h4⟩
def DB(X:Cx)(e:Expr)(f:Ev->Option D):Prop:=∃t,PE X e t/\∀(He G H:Hp) (σ:L2.St) (ε:Ev) (d:D) (Q:VK),aD G H->EnvD X.K He G H σ ε->f ε=some d->
 (∀v G' H',Grow G H G' H'->cY X.K G' H' v d->Q v H')->t σ H Q
theorem DE.db{X:Cx}{e:Expr}{f:Ev->Option D}(h:DE X e f):DB X e f:=
 let⟨t,h1,h2⟩:=h;⟨t,h1,λHe G H σ ε d Q gh E ef q=>h2 He G H σ ε d Q gh E ef λv G' H' g hd=>q v G' H' g (.inl hd)⟩
section
variable{X:Cx}{a b c:Expr}{fa fb fc:Ev->Option D}{pos:Pos}
def aM(i:Nat):Ev->Option D:=λε=>match ε[i]? with | some (.dat d)=>some d | _=>none
def ai(i:Nat):Ev->Option D:=λε=>match ε[i]? with | some (.dat d)=>some d | some (.own ds)=>some (.lst ds) | _=>none
def eC(d:D):Ev->Option D:=λ_=>some d
theorem aG(i:Nat){x:Str}{pos:Pos}(hN:X.N[i]?=some x:=by rfl)(hv:Vis X.env.scope x:=by first | exact Qs rfl | exact Ju (Qs rfl) | exact Ju (Ju rfl))(hd:(x==("__debug__" : Str))=false:=by decide)
  (hcd:(x==("__classdict__" : Str))=false:=by decide):DE X (.Name x pos) (aM i):=by
 refine⟨_,jw hN hv hd hcd,λHe G H σ ε d Q gh E ef q=>?_⟩;unfold aM at ef;split at ef
 ·rename_i d' e
  cases ef;obtain⟨v,h1,h2⟩:=E.dat e;exact⟨v,h1,q v G H (.refl gh) h2⟩
 ·cases ef
theorem ah(i:Nat){x:Str}{pos:Pos}(hN:X.N[i]?=some x:=by rfl)(hv:Vis X.env.scope x:=by first | exact Qs rfl | exact Ju (Qs rfl) | exact Ju (Ju rfl))(hd:(x==("__debug__" : Str))=false:=by decide)
  (hcd:(x==("__classdict__" : Str))=false:=by decide):DB X (.Name x pos) (ai i):=by
 refine⟨_,jw hN hv hd hcd,λHe G H σ ε d Q gh E ef q=>?_⟩;unfold ai at ef;split at ef
 ·rename_i d' e
  cases ef;obtain⟨v,h1,h2⟩:=E.dat e;exact⟨v,h1,q v G H (.refl gh) (.inl h2)⟩
 ·rename_i ds e
  cases ef;obtain⟨l,xs,h1,h2,h3,h4,h5⟩:=E.own e;exact⟨_,h1,q _ G H (.refl gh) (.inr ⟨l,xs,ds,rfl,rfl,h2,h5⟩)⟩
 ·cases ef
theorem iJ{e:Expr}{v:V}{d:D}(h:PE X e (tC v))(hd:∀G,Den X.K G v d):DE X e (eC d):=
 ⟨_,h,λHe G H σ ε d' Q gh E ef q=>by cases ef;exact q v G H (.refl gh) (hd G)⟩
theorem ae{i j pos}:DE X (.Constant (.int i) j pos) (eC (.int i)):=iJ bG λ_=>.int i
theorem uc{i j pos}:DE X (.Constant (.bool i) j pos) (eC (.bl i)):=iJ xY λ_=>.bl i
theorem oy{j pos}:DE X (.Constant .none j pos) (eC .non):=iJ vm λ_=>.non
theorem aO{x j pos}:DE X (.Constant (.str x) j pos) (eC (.str x)):=iJ aU λ_=>.str x
theorem bB{x:Str}{i:Int}{t:Tok}{pos:Pos}(hg:Gl X x)(hm:X.mg x=some (.int i t))(hd:(x==("__debug__" : Str))=false:=by decide):DE X (.Name x pos) (eC (.int i)):=
 iJ (kW (v:=.int i) hg hm ⟨t,rfl⟩ hd) λ_=>.int i
def e2(op:D->D->Option D)(fa fb:Ev->Option D):Ev->Option D:=λε=>(fa ε).bind λx=>(fb ε).bind λy=>op x y
def OpD(X:Cx)(f:Qa->Qa->Sem Qa)(op:D->D->Option D):Prop:=∃r,OpR X f r/\∀(G H:Hp) (x y:V) (dx dy d:D) (Q:VK),aD G H->cY X.K G H x dx->cY X.K G H y dy->op dx dy=some d->
 (∀v G' H',Grow G H G' H'->Den X.K G' v d->Q v H')->r x y H Q
theorem aw{α β:Type}{o:Option α}{f:α->Option β}{y:β}(h:o.bind f=some y):∃x,o=some x/\f x=some y:=by
 cases o with
 |none=>cases h
 |some x=>exact⟨x,rfl,h⟩
theorem two{ta tb:TE}{He G H:Hp}{σ:L2.St}{ε:Ev}{op:D->D->Option D}{r:R2}{d:D}{Q:VK}
  (ha:∀(He G H:Hp) (σ:L2.St) (ε:Ev) (d:D) (Q:VK),aD G H->EnvD X.K He G H σ ε->fa ε=some d->(∀v G' H',Grow G H G' H'->cY X.K G' H' v d->Q v H')->ta σ H Q)
  (hb:∀(He G H:Hp) (σ:L2.St) (ε:Ev) (d:D) (Q:VK),aD G H->EnvD X.K He G H σ ε->fb ε=some d->(∀v G' H',Grow G H G' H'->cY X.K G' H' v d->Q v H')->tb σ H Q)
  (ho:∀(G H:Hp) (x y:V) (dx dy d:D) (Q:VK),aD G H->cY X.K G H x dx->cY X.K G H y dy->op dx dy=some d->(∀v G' H',Grow G H G' H'->Den X.K G' v d->Q v H')->r x y H Q)
  (gh:aD G H) (E:EnvD X.K He G H σ ε) (ef:e2 op fa fb ε=some d) (q:∀v G' H',Grow G H G' H'->Den X.K G' v d->Q v H'):tOp r ta tb σ H Q:=by
 obtain⟨x,e1,ef⟩:=aw ef;obtain⟨y,e2,ef⟩:=aw ef;refine ha He G H σ ε x _ gh E e1 λv G1 H1 g1 d1=>?_;refine hb He G1 H1 σ ε y _ g1.gh (E.grow g1) e2 λu G2 H2 g2 d2=>?_;exact ho G2 H2 v u x y d Q g2.gh (d1.grow g2) d2 ef λw G3 H3 g3 d3=>q w G3 H3 (g1.trans (g2.trans g3)) d3
theorem aq{op:Operator}{f:D->D->Option D}(ho:OpD X (Q2 op) f)(ha:DB X a fa)(hb:DB X b fb):DE X (.BinOp a op b pos) (e2 f fa fb):=by
 obtain⟨r,h1,h2⟩:=ho;obtain⟨ta,a1,a2⟩:=ha;obtain⟨tb,b1,b2⟩:=hb;exact⟨_,gH h1 a1 b1,λHe G H σ ε d Q gh E ef q=>two a2 b2 h2 gh E ef q⟩
theorem hG{op:CmpOp}{f:D->D->Option D}(ho:OpD X (QH op) f)(ha:DB X a fa)(hb:DB X b fb)(hm:JM op b=false):DE X (.Compare a [op] [b] pos) (e2 f fa fb):=by
 obtain⟨r,h1,h2⟩:=ho;obtain⟨ta,a1,a2⟩:=ha;obtain⟨tb,b1,b2⟩:=hb;exact⟨_,wN h1 a1 b1 hm,λHe G H σ ε d Q gh E ef q=>two a2 b2 h2 gh E ef q⟩
def asB:Option D->Option Bool
 |some (.bl b)=>some b
 |_=>none
theorem oS{o:Option D}{b:Bool}(h:asB o=some b):o=some (.bl b):=by
 unfold asB at h;split at h
 ·cases h;rfl
 ·cases h
theorem Den.blV{K:Qb}{G:Hp}{v:V}{b:Bool}(h:Den K G v (.bl b)):v=.bl b:=by cases h;rfl
def aX(op:D->D->Option D)(fa fb:Ev->Option D):Ev->Option Bool:=λε=>asB (e2 op fa fb ε)
theorem bc{op:CmpOp}{f:D->D->Option D}(ho:OpD X (QH op) f)(ha:DB X a fa)(hb:DB X b fb)(hm:JM op b=false):DT X (.Compare a [op] [b] pos) (aX f fa fb):=by
 obtain⟨r,h1,h2⟩:=ho;obtain⟨ta,a1,a2⟩:=ha;obtain⟨tb,b1,b2⟩:=hb;refine⟨_,cn h1 a1 b1 hm,λHe G H σ ε k Q gh E ef q=>?_⟩;refine two a2 b2 h2 gh E (oS ef) λv G' H' g hd=>?_;exact⟨k,hd.blV,q G' H' g⟩
theorem yv{r:R2}{f:D->D->Option D}(hr:IxR X r)(ho:∀(G H:Hp) (x y:V) (dx dy d:D) (Q:VK),aD G H->cY X.K G H x dx->cY X.K G H y dy->f dx dy=some d->(∀v G' H',Grow G H G' H'->Den X.K G' v d->Q v H')->r x y H Q)
  (ha:DB X a fa) (hb:DB X b fb) (hs:nR b):DE X (.Subscript a b pos) (e2 f fa fb):=by
 obtain⟨ta,a1,a2⟩:=ha;obtain⟨tb,b1,b2⟩:=hb;exact⟨_,dN hr a1 b1 hs,λHe G H σ ε d Q gh E ef q=>two a2 b2 ho gh E ef q⟩
def eZ(g:Int->Int->Option D):D->D->Option D:=λx y=>match x,y with | .int i,.int j=>g i j | _,_=>none
theorem mH{g:Int->Int->Option D}{x y d:D}(h:eZ g x y=some d):∃i j,x=.int i/\y=.int j/\g i j=some d:=by
 unfold eZ at h;split at h
 ·exact⟨_,_,rfl,rfl,h⟩
 ·cases h
theorem rB{f:Qa->Qa->Sem Qa}{C:Int->Int->Prop}{g:Int->Int->V}{k:Int->Int->Option D}(ho:OpR X f (rI C g))(hk:∀i j d,k i j=some d->C i j/\∀G,Den X.K G (g i j) d):OpD X f (eZ k):=
 ⟨_,ho,λG H x y dx dy d Q gh hx hy e q=>by
  obtain⟨i,j,rfl,rfl,e⟩:=mH e;obtain⟨c,hd⟩:=hk i j d e
  exact⟨i,j,hx.int,hy.int,c,q _ G H (.refl gh) (hd G)⟩⟩
theorem lN{f:Qa->Qa->Sem Qa}{g:Int->Int->V}{k:Int->Int->Option D}(ho:OpR X f (rI0 g))(hk:∀i j d,k i j=some d->∀G,Den X.K G (g i j) d):OpD X f (eZ k):=
 ⟨_,ho,λG H x y dx dy d Q gh hx hy e q=>by
  obtain⟨i,j,rfl,rfl,e⟩:=mH e
  exact⟨i,j,hx.int,hy.int,q _ G H (.refl gh) (hk i j d e G)⟩⟩
def bq:D->D->Option D:=eZ λi j=>some (.int (i+j))
def cZ:D->D->Option D:=eZ λi j=>some (.int (i-j))
instance (i j:Int):Decidable (mE i j):=by unfold mE;infer_instance
instance (i j:Int):Decidable (tN i j):=by unfold tN;infer_instance
instance (i j:Int):Decidable (tm i j):=by unfold tm;infer_instance
def cE:D->D->Option D:=eZ λi j=>if mE i j then some (.int (i*j)) else none
def ky:D->D->Option D:=eZ λi j=>if tN i j then some (.int (i/j)) else none
def aW:D->D->Option D:=eZ λi j=>if 0<j then some (.int (i%j)) else none
def pX:D->D->Option D:=eZ λi j=>if tm i j then some (.int (i ^ j.toNat)) else none
theorem bj:OpD X (Q2 .Add) bq:=lN uh λi j d e G=>by cases e;exact .int _
theorem cv:OpD X (Q2 .Sub) cZ:=lN zu λi j d e G=>by cases e;exact .int _
theorem eA:OpD X (Q2 .Mult) cE:=rB yc λi j d e=>by
 split at e
 ·rename_i h;cases e;exact⟨h,λG=>.int _⟩
 ·cases e
theorem nM:OpD X (Q2 .FloorDiv) ky:=rB wZ λi j d e=>by
 split at e
 ·rename_i h;cases e;exact⟨h,λG=>.int _⟩
 ·cases e
theorem aP:OpD X (Q2 .Mod) aW:=rB zz λi j d e=>by
 split at e
 ·rename_i h;cases e;exact⟨h,λG=>.int _⟩
 ·cases e
theorem ub:OpD X (Q2 .Pow) pX:=rB zg λi j d e=>by
 split at e
 ·rename_i h;cases e;exact⟨h,λG=>.int _⟩
 ·cases e
def ltI:D->D->Option D:=eZ λi j=>some (.bl (decide (i<j)))
def leI:D->D->Option D:=eZ λi j=>some (.bl (decide (i<=j)))
def gtI:D->D->Option D:=eZ λi j=>some (.bl (decide (j<i)))
theorem il:OpD X (QH .Lt) ltI:=lN xS λi j d e G=>by cases e;exact .bl _
theorem cJ:OpD X (QH .LtE) leI:=lN xE λi j d e G=>by cases e;exact .bl _
theorem gw:OpD X (QH .Gt) gtI:=lN xT λi j d e G=>by cases e;exact .bl _
def eqS:D->D->Option Bool
 |.non,.non=>some true | .non,.int _=>some false | .int _,.non=>some false | .non,.bl _=>some false | .bl _,.non=>some false | .non,.str _=>some false | .str _,.non=>some false
 |.int i,.int j=>some (decide (i=j)) | .bl i,.bl j=>some (decide (i=j)) | .str i,.str j=>some (decide (i=j))
 |.int _,.str _=>some false | .str _,.int _=>some false | .bl _,.str _=>some false | .str _,.bl _=>some false
 |_,_=>none
theorem oW{K:Qb}{G H:Hp}{x y:V}{dx dy:D}{k:Bool}(hx:cY K G H x dx)(hy:cY K G H y dy)(e:eqS dx dy=some k):zo x y=true/\decide (x=y)=k:=by
 unfold eqS at e;split at e<;>first | (cases e;done) | skip
 all_goals first
  |(cases hx.non) | (cases hx.int) | (cases hx.bl) | (cases hx.str)
 all_goals first
  |(cases hy.non) | (cases hy.int) | (cases hy.bl) | (cases hy.str)
 all_goals (refine⟨rfl,?_⟩;cases e;simp)
def pG:D->Bool
 |.non=>true
 |_=>false
theorem cY.isNon{K:Qb}{G H:Hp}{v:V}{d:D}(h:cY K G H v d):decide (v=.non)=pG d:=by
 rcases h with h | ⟨a,xs,ds,rfl,rfl,_⟩
 ·cases h<;>simp[Dn.pG]
 ·simp[Dn.pG]
def isD(neg:Bool):D->D->Option D:=λx y=>match y with | .non=>some (.bl (if neg then !pG x else pG x)) | _=>none
theorem se:OpD X (QH .Is) (isD false):=⟨_,yM,λG H x y dx dy d Q gh hx hy e q=>by
 unfold isD at e;split at e
 ·cases e;exact⟨hy.non,q _ G H (.refl gh) (by rw[hx.isNon];exact .bl _)⟩
 ·cases e⟩
def AN:D->Option D
 |.int i=>some (.int (-i))
 |_=>none
def ij(fa:Ev->Option D):Ev->Option D:=λε=>(fa ε).bind AN
theorem fL(ha:DB X a fa):DE X (.UnaryOp .USub a pos) (ij fa):=by
 obtain⟨ta,a1,a2⟩:=ha;refine⟨_,Ao zC a1,λHe G H σ ε d Q gh E ef q=>?_⟩;obtain⟨x,e1,ef⟩:=aw ef;refine a2 He G H σ ε x _ gh E e1 λv G1 H1 g1 d1=>?_;unfold AN at ef;split at ef
 ·cases ef;exact⟨_,d1.int,q _ G1 H1 g1 (.int _)⟩
 ·cases ef
def ixD:D->D->Option D:=λx y=>match x,y with | .lst xs,.int i=>atI xs i | .tup xs,.int i=>atI xs i | _,_=>none
theorem rJ{K:Qb}{G:Hp}{xs:List V}{ds:List D}{i:Int}{d:D}(h:DenL K G xs ds)(e:atI ds i=some d):∃v,atI xs i=some v/\Den K G v d:=by
 unfold atI at e ⊢;rw[h.length];cases e1:ixN ds.length i with
 |none=>rw[e1] at e;cases e
 |some j=>
  rw[e1] at e;exact h.get e
theorem aR(ha:DB X a fa)(hb:DB X b fb)(hs:nR b:=by intro _ _;rfl):DE X (.Subscript a b pos) (e2 ixD fa fb):=
 yv (vP.or cB) (λG H x y dx dy d Q gh hx hy e q=>by
  unfold ixD at e;split at e
  ·obtain⟨p,xs,rfl,h1,h2⟩:=hx.lst gh
   obtain⟨v,h3,h4⟩:=rJ h2 e;exact .inl ⟨p,xs,_,v,rfl,hy.int,h1,h3,q _ G H (.refl gh) h4⟩
  ·obtain⟨p,xs,rfl,h0,h1,h2⟩:=hx.tup gh
   obtain⟨v,h3,h4⟩:=rJ h2 e;exact .inr ⟨p,xs,_,v,rfl,hy.int,h1,h3,q _ G H (.refl gh) h4⟩
  ·cases e) ha hb hs
def aZ:Ev->Option (List D):=λ_=>some []
def aj(f:Ev->Option D)(g:Ev->Option (List D)):Ev->Option (List D):=λε=>(f ε).bind λd=>(g ε).bind λds=>some (d::ds)
theorem aB:DA X [] aZ:=⟨_,ax,λHe G H σ ε ds Q gh E ef q=>by cases ef;exact q [] G H (.refl gh) .nil⟩
theorem aa{e:Expr}{es:List Expr}{f:Ev->Option D}{g:Ev->Option (List D)}(h:DE X e f)(hs:DA X es g)(hst:Qn (e::es) X.env=(false,eval e X.env)::Qn es X.env:=by rfl):DA X (e::es) (aj f g):=by
 obtain⟨t,a1,a2⟩:=h;obtain⟨u,b1,b2⟩:=hs;refine⟨_,ag a1 b1 hst,λHe G H σ ε ds Q gh E ef q=>?_⟩;obtain⟨x,e1,ef⟩:=aw ef;obtain⟨xs,e2,ef⟩:=aw ef;cases ef;refine a2 He G H σ ε x _ gh E e1 λv G1 H1 g1 d1=>?_;refine b2 He G1 H1 σ ε xs _ g1.gh (E.grow g1) e2 λvs G2 H2 g2 d2=>?_;exact q _ G2 H2 (g1.trans g2) (.cons (d1.mono g2.gg) d2)
def gq(g:Ev->Option (List D)):Ev->Option D:=λε=>(g ε).bind λds=>if ds.length<=1000 then some (.tup ds) else none
theorem rC{n:Nat}(h:n<=1000):n<=Qj:=Nat.le_of_lt (tp h)
theorem bu{es:List Expr}{g:Ev->Option (List D)}{x1}(h:DA X es g):DE X (.Tuple es x1 pos) (gq g):=by
 obtain⟨t,a1,a2⟩:=h;refine⟨_,eV a1,λHe G H σ ε d Q gh E ef q=>?_⟩;obtain⟨ds,e1,ef⟩:=aw ef;split at ef
 ·rename_i hl
  cases ef;refine a2 He G H σ ε ds _ gh E e1 λvs G1 H1 g1 d1=>⟨by rw[d1.length];exact rC hl,λp hp=>?_⟩;have g2:=Grow.new (.tup vs) g1.gh hp;exact q _ _ _ (g1.trans g2) (.tup (SqT.of upd_same) (d1.mono g2.gg))
 ·cases ef
def kh(g:Ev->Option (List D)):Ev->Option (List D):=λε=>(g ε).bind λds=>if ds.length<=1000 then some ds else none
theorem Grow.gnone{G H G' H':Hp}{p:Addr}(g:Grow G H G' H')(h:H' p=none):G' p=none:=g.gh.free h
theorem dQ{es:List Expr}{g:Ev->Option (List D)}(h:DA X es g):DF X (.List es pos) (kh g):=by
 obtain⟨t,a1,a2⟩:=h;refine⟨_,cR a1,λHe G H σ ε ds Q gh E ef q=>?_⟩;obtain⟨ds',e1,ef⟩:=aw ef;split at ef
 ·rename_i hl
  cases ef;refine a2 He G H σ ε _ _ gh E e1 λvs G1 H1 g1 d1=>⟨by rw[d1.length];exact rC hl,λp hp=>?_⟩;exact q p vs G1 _ (g1.trans (.lay _ g1.gh hp)) (g1.hh.free hp) (g1.gnone hp) upd_same d1
 ·cases ef
def DO(X:Cx)(e:Option Expr)(f:Ev->Option (Option Int)):Prop:=∃t,PO X e t/\∀(He G H:Hp) (σ:L2.St) (ε:Ev) (d:Option Int) (Q:Option Int->Hp->Prop),aD G H->EnvD X.K He G H σ ε->f ε=some d->
 (∀G' H',Grow G H G' H'->Q d H')->t σ H Q
def eP:Ev->Option (Option Int):=λ_=>some none
def bP(f:Ev->Option D):Ev->Option (Option Int):=λε=>match f ε with | some (.int i)=>some (some i) | _=>none
theorem gc:DO X none eP:=⟨_,vE,λHe G H σ ε d Q gh E ef q=>by cases ef;exact q G H (.refl gh)⟩
theorem bX{e:Expr}{f:Ev->Option D}(h:DB X e f):DO X (some e) (bP f):=by
 obtain⟨t,a1,a2⟩:=h;refine⟨_,wH a1,λHe G H σ ε d Q gh E ef q=>?_⟩;unfold bP at ef;split at ef
 ·rename_i i e1
  cases ef;exact a2 He G H σ ε _ _ gh E e1 λv G1 H1 g1 d1=>⟨i,d1.int,q G1 H1 g1⟩
 ·cases ef
def iY(xs:List D)(lo hi:Option Int):List D:=(xs.drop (HT.sIx xs.length 0 lo)).take (HT.sIx xs.length xs.length hi-HT.sIx xs.length 0 lo)
theorem rM{K:Qb}{G:Hp}{xs:List V}{ds:List D}(lo hi:Option Int)(h:DenL K G xs ds):DenL K G (nT xs lo hi) (iY ds lo hi):=by
 unfold nT iY;rw[h.length];exact(h.drop _).take _
def eSl(fa:Ev->Option D)(fl fh:Ev->Option (Option Int)):Ev->Option (List D):=λε=>(fa ε).bind λx=>(fl ε).bind λlo=>(fh ε).bind λhi=>match x with | .lst xs=>some (iY xs lo hi) | _=>none
theorem jD{lo hi:Option Expr}{fl fh:Ev->Option (Option Int)}{p2:Pos}(ha:DB X a fa)(hl:DO X lo fl)(hh:DO X hi fh):DF X (.Subscript a (.Slice lo hi none p2) pos) (eSl fa fl fh):=by
 obtain⟨ta,a1,a2⟩:=ha;obtain⟨tl,b1,b2⟩:=hl;obtain⟨th,c1,c2⟩:=hh;refine⟨_,pz wC a1 b1 c1,λHe G H σ ε ds Q gh E ef q=>?_⟩;obtain⟨x,e1,ef⟩:=aw ef;obtain⟨l,e2,ef⟩:=aw ef;obtain⟨u,e3,ef⟩:=aw ef;refine a2 He G H σ ε x _ gh E e1 λv G1 H1 g1 d1=>?_;refine b2 He G1 H1 σ ε l _ g1.gh (E.grow g1) e2 λG2 H2 g2=>?_;refine c2 He G2 H2 σ ε u _ g2.gh ((E.grow g1).grow g2) e3 λG3 H3 g3=>?_;split at ef
 ·cases ef
  obtain⟨p,xs,rfl,h1,h2⟩:=((d1.grow g2).grow g3).lst g3.gh;refine⟨p,xs,rfl,h1,λp' hp=>?_⟩;have g:=g1.trans (g2.trans g3);exact q p' _ G3 _ (g.trans (.lay _ g3.gh hp)) (g.hh.free hp) (g3.gnone hp) upd_same (rM l u h2)
 ·cases ef
def vi(fa:Ev->Option D)(fl fh:Ev->Option (Option Int)):Ev->Option D:=λε=>(fa ε).bind λx=>(fl ε).bind λlo=>(fh ε).bind λhi=>match x with
 |.tup xs=>if HT.sIx xs.length 0 lo=0/\HT.sIx xs.length xs.length hi=xs.length then none else some (.tup (iY xs lo hi))
 |_=>none
theorem nF{lo hi:Option Expr}{fl fh:Ev->Option (Option Int)}{p2:Pos}(ha:DB X a fa)(hl:DO X lo fl)(hh:DO X hi fh):DE X (.Subscript a (.Slice lo hi none p2) pos) (vi fa fl fh):=by
 obtain⟨ta,a1,a2⟩:=ha;obtain⟨tl,b1,b2⟩:=hl;obtain⟨th,c1,c2⟩:=hh;refine⟨_,pz yT a1 b1 c1,λHe G H σ ε ds Q gh E ef q=>?_⟩;obtain⟨x,e1,ef⟩:=aw ef;obtain⟨l,e2,ef⟩:=aw ef;obtain⟨u,e3,ef⟩:=aw ef;refine a2 He G H σ ε x _ gh E e1 λv G1 H1 g1 d1=>?_;refine b2 He G1 H1 σ ε l _ g1.gh (E.grow g1) e2 λG2 H2 g2=>?_;refine c2 He G2 H2 σ ε u _ g2.gh ((E.grow g1).grow g2) e3 λG3 H3 g3=>?_;split at ef
 ·split at ef
  ·cases ef
  ·rename_i hw
   cases ef;obtain⟨p,xs,rfl,h0,h1,h2⟩:=((d1.grow g2).grow g3).tup g3.gh;refine⟨p,xs,rfl,h1,by rw[h2.length];exact hw,λp' hp=>?_⟩;have g4:=Grow.new (.tup (nT xs l u)) g3.gh hp;exact q _ _ _ ((g1.trans (g2.trans g3)).trans g4) (.tup (SqT.of upd_same) ((rM l u h2).mono g4.gg))
 ·cases ef
def kG(f g:Ev->Option Bool):Ev->Option Bool:=λε=>(f ε).bind λk=>if k=true then g ε else some false
def g_(f g:Ev->Option Bool):Ev->Option Bool:=λε=>(f ε).bind λk=>if k=true then some true else g ε
def dj(f:Ev->Option Bool):Ev->Option Bool:=λε=>(f ε).map λk=>!k
section
variable{f g:Ev->Option Bool}{rest:List Expr}
theorem rQ(h:DT X a f):DW X (.BoolOp .And [a] pos) f:=let⟨t,h1,h2⟩:=h;⟨t,xf h1,h2⟩
theorem gk(h:DT X a f):DW X (.BoolOp .Or [a] pos) f:=let⟨t,h1,h2⟩:=h;⟨t,u9 h1,h2⟩
theorem uI(h:DT X a f)(hr:DW X (.BoolOp .And (b::rest) pos) g):DW X (.BoolOp .And (a::b::rest) pos) (kG f g):=by
 obtain⟨t,a1,a2⟩:=h;obtain⟨u,b1,b2⟩:=hr;refine⟨_,yY a1 b1,λHe G H σ ε k Q gh E ef q=>?_⟩;obtain⟨c,e1,ef⟩:=aw ef;refine a2 He G H σ ε c _ gh E e1 λG1 H1 g1=>?_;cases c with
 |true=>
  rw[if_pos rfl] at ef ⊢;exact b2 He G1 H1 σ ε k _ g1.gh (E.grow g1) ef λG2 H2 g2=>q _ _ (g1.trans g2)
 |false=>
  rw[if_neg Qo] at ef ⊢;cases ef;exact q _ _ g1
theorem gE(h:DT X a f)(hr:DW X (.BoolOp .Or (b::rest) pos) g):DW X (.BoolOp .Or (a::b::rest) pos) (g_ f g):=by
 obtain⟨t,a1,a2⟩:=h;obtain⟨u,b1,b2⟩:=hr;refine⟨_,xV a1 b1,λHe G H σ ε k Q gh E ef q=>?_⟩;obtain⟨c,e1,ef⟩:=aw ef;refine a2 He G H σ ε c _ gh E e1 λG1 H1 g1=>?_;cases c with
 |true=>
  rw[if_pos rfl] at ef ⊢;cases ef;exact q _ _ g1
 |false=>
  rw[if_neg Qo] at ef ⊢;exact b2 He G1 H1 σ ε k _ g1.gh (E.grow g1) ef λG2 H2 g2=>q _ _ (g1.trans g2)
theorem j6(h:DT X a f):DT X (.UnaryOp .Not a pos) (dj f):=by
 obtain⟨t,a1,a2⟩:=h;refine⟨_,om a1,λHe G H σ ε k Q gh E ef q=>?_⟩;unfold dj at ef;cases e1:f ε with
 |none=>rw[e1] at ef;cases ef
 |some c=>
  rw[e1] at ef;cases ef;exact a2 He G H σ ε c _ gh E e1 q
end
def oN(fa fb:Ev->Option D):Ev->Option D:=λε=>(fa ε).bind λx=>match x with | .bl k=>if k=true then fb ε else some (.bl false) | _=>none
def eOr(fa fb:Ev->Option D):Ev->Option D:=λε=>(fa ε).bind λx=>match x with | .bl k=>if k=true then some (.bl true) else fb ε | _=>none
theorem lR{op}(h:DE X a fa):DE X (.BoolOp op [a] pos) fa:=let⟨t,h1,h2⟩:=h;⟨t,yW h1,h2⟩
theorem oi{rest:List Expr}(h:DE X a fa)(hr:DE X (.BoolOp .And (b::rest) pos) fb):DE X (.BoolOp .And (a::b::rest) pos) (oN fa fb):=by
 obtain⟨t,a1,a2⟩:=h;obtain⟨u,b1,b2⟩:=hr;refine⟨_,zm a1 b1,λHe G H σ ε d Q gh E ef q=>?_⟩;obtain⟨x,e1,ef⟩:=aw ef;refine a2 He G H σ ε x _ gh E e1 λv G1 H1 g1 d1=>?_;split at ef
 ·rename_i k
  refine⟨k,d1.blV,?_⟩;cases k with
  |true=>
   rw[if_pos rfl] at ef ⊢;exact b2 He G1 H1 σ ε d _ g1.gh (E.grow g1) ef λv G2 H2 g2=>q _ _ _ (g1.trans g2)
  |false=>
   rw[if_neg Qo] at ef ⊢;cases ef;exact q _ _ _ g1 (.bl _)
 ·cases ef
theorem vw{rest:List Expr}(h:DE X a fa)(hr:DE X (.BoolOp .Or (b::rest) pos) fb):DE X (.BoolOp .Or (a::b::rest) pos) (eOr fa fb):=by
 obtain⟨t,a1,a2⟩:=h;obtain⟨u,b1,b2⟩:=hr;refine⟨_,AY a1 b1,λHe G H σ ε d Q gh E ef q=>?_⟩;obtain⟨x,e1,ef⟩:=aw ef;refine a2 He G H σ ε x _ gh E e1 λv G1 H1 g1 d1=>?_;split at ef
 ·rename_i k
  refine⟨k,d1.blV,?_⟩;cases k with
  |true=>
   rw[if_pos rfl] at ef ⊢;cases ef;exact q _ _ _ g1 (.bl _)
  |false=>
   rw[if_neg Qo] at ef ⊢;exact b2 He G1 H1 σ ε d _ g1.gh (E.grow g1) ef λv G2 H2 g2=>q _ _ _ (g1.trans g2)
 ·cases ef
def zh:D->Option Bool
 |.non=>some false
 |.bl b=>some b
 |.int i=>some (i != 0)
 |.str _=>none
 |.tup xs=>some (!xs.isEmpty)
 |.lst xs=>some (!xs.isEmpty)
 |.dic _=>none
theorem DenL.emp{K:Qb}{G:Hp}{xs:List V}{ds:List D}(h:DenL K G xs ds):xs.isEmpty=ds.isEmpty:=by cases h<;>rfl
def gI(fa:Ev->Option D):Ev->Option Bool:=λε=>(fa ε).bind zh
theorem cO(ha:DB X a fa)(he:∀whole,isTrue a X.env whole=(do let v<-whole;standAt a.pos;J9 [v] (truthy v)):=by intro _;rfl):DT X a (gI fa):=by
 obtain⟨ta,a1,a2⟩:=ha;refine⟨_,mi a1 he,λHe G H σ ε k Q gh E ef q=>?_⟩;obtain⟨x,e1,ef⟩:=aw ef;refine a2 He G H σ ε x _ gh E e1 λv G1 H1 g1 d1=>⟨k,?_,q _ _ g1⟩;unfold zh at ef;split at ef
 ·cases d1.non;cases ef;rfl
 ·cases d1.bl;cases ef;rfl
 ·cases d1.int;cases ef;rfl
 ·cases ef
 ·cases ef
  obtain⟨p,xs,rfl,h0,h1,h2⟩:=d1.tup g1.gh;exact .inr (.inl ⟨xs,h1,by rw[h2.emp]⟩)
 ·cases ef
  obtain⟨p,xs,rfl,h1,h2⟩:=d1.lst g1.gh;exact .inl ⟨xs,h1,by rw[h2.emp]⟩
 ·cases ef
end
def spF(K:Qb)(F:List D->Option D):Sp:=λvs H Q _=>∃G ds d,aD G H/\DenL K G vs ds/\F ds=some d/\∀v G' H',Grow G H G' H'->Den K G' v d->Q v H'
def bf(N:List Str)(ds:List D):Ev:=ds.map Sl.dat++Jy (N.length-ds.length) Sl.un
section
variable{X:Cx}{a b c:Expr}{fa fb fc:Ev->Option D}{pos:Pos}
def bt(F:List D->Option D)(g:Ev->Option (List D)):Ev->Option D:=λε=>(g ε).bind F
def eQ(op:D->Option D)(fa:Ev->Option D):Ev->Option D:=λε=>(fa ε).bind op
def eR(op:D->D)(fa:Ev->Option D):Ev->Option D:=λε=>(fa ε).map op
theorem xb{k:Nat}{f:Addr}{fd:QE}{ps:List Str}{Fn:List D->Option D}{x:Str}{e:Expr}{es:List Expr}{g:Ev->Option (List D)}{p:Pos}
  (F:FnOk X.prog X.w X.K X.mg X.base CX0 k f fd ps (spF X.K Fn)) (hr:Room k X.A) (hm:X.mg x=some (.ref f)) (hk:Q4 X.K (.ref f)=true) (hb:fC X.K fd ps [])
  (ha:DA X (e::es) g) (hg:Gl X x:=by rfl) (hdb:(x==("__debug__" : Str))=false:=by decide) (he:Qn (e::es) X.env=(false,eval e X.env)::Qn es X.env:=by rfl) (hpl:(Je pos (Qn es X.env)).any (·.1)=false:=by rfl) :
  DE X (.Call (.Name x p) (e::es) [] pos) (bt Fn g):=by
 obtain⟨t,a1,a2⟩:=ha;refine⟨_,bV (E:=E0) F hr hg hm hk hb .nil cg a1 hdb he hpl,λHe G H σ ε d Q gh E ef q=>?_⟩;obtain⟨ds,e1,ef⟩:=aw ef;refine a2 He G H σ ε ds _ gh E e1 λvs G1 H1 g1 d1=>?_;show spF X.K Fn (vs++[]) H1 Q E0;rw[JX];exact⟨G1,ds,d,g1.gh,d1,ef,λv G2 H2 g2 d2=>q v G2 H2 (g1.trans g2) d2⟩
def fU:D->Option D
 |.lst xs=>some (.int xs.length)
 |.tup xs=>some (.int xs.length)
 |_=>none
theorem gN{p:Pos}(ha:DB X a fa)(hm:X.mg "len" = none)(hg:Gl X "len":=by rfl)(hst:Qn [a] X.env=(false,eval a X.env)::Qn [] X.env:=by rfl)(hpl:(Je pos (Qn [] X.env)).any (·.1)=false:=by rfl):DE X (.Call (.Name "len" p) [a] [] pos) (eQ fU fa):=by
 obtain⟨ta,a1,a2⟩:=ha;refine⟨_,d6 dh hg hm Zw (ag a1 ax hst) (by decide) (by decide) hst hpl,λHe G H σ ε d Q gh E ef q=>?_⟩;obtain⟨x,e1,ef⟩:=aw ef;refine a2 He G H σ ε x _ gh E e1 λv G1 H1 g1 d1=>?_;unfold fU at ef;split at ef
 ·cases ef
  obtain⟨p,xs,rfl,h1,h2⟩:=d1.lst g1.gh;exact⟨p,xs,rfl,.inl h1,q _ _ _ g1 (by rw[h2.length];exact .int _)⟩
 ·cases ef
  obtain⟨p,xs,rfl,h0,h1,h2⟩:=d1.tup g1.gh;exact⟨p,xs,rfl,.inr h1,q _ _ _ g1 (by rw[h2.length];exact .int _)⟩
 ·cases ef
def rn(X:Cx)(f:Qa)(op:List D->Option D):Prop:=∃r,ie X f r/\∀(G H:Hp) (vs:List V) (ds:List D) (d:D) (Q:VK),aD G H->DenL X.K G vs ds->op ds=some d->
 (∀v G' H',Grow G H G' H'->Den X.K G' v d->Q v H')->r vs H Q
theorem dU{id:String}{op:List D->Option D}{x:Str}{e:Expr}{es:List Expr}{g:Ev->Option (List D)}{p:Pos}(hc:rn X (.builtin id) op)(hm:X.mg x=none)(hv:JS x=some (.builtin id))(ha:DA X (e::es) g)(hg:Gl X x:=by rfl)
  (hn:x≠"__name__":=by decide) (hdb:(x==("__debug__" : Str))=false:=by decide) (he:Qn (e::es) X.env=(false,eval e X.env)::Qn es X.env:=by rfl) (hpl:(Je pos (Qn es X.env)).any (·.1)=false:=by rfl) :
  DE X (.Call (.Name x p) (e::es) [] pos) (bt op g):=by
 obtain⟨r,c1,c2⟩:=hc;obtain⟨t,a1,a2⟩:=ha;refine⟨_,d6 c1 hg hm hv a1 hn hdb he hpl,λHe G H σ ε d Q gh E ef q=>?_⟩;obtain⟨ds,e1,ef⟩:=aw ef;refine a2 He G H σ ε ds _ gh E e1 λvs G1 H1 g1 d1=>?_;exact c2 G1 H1 vs ds d Q g1.gh d1 ef λv G2 H2 g2 d2=>q v G2 H2 (g1.trans g2) d2
def pO:List D->Option D
 |[.int i,.int j]=>some (.int (if j>i then j else i))
 |_=>none
def mY:List D->Option D
 |[.int i,.int j]=>some (.int (if j<i then j else i))
 |_=>none
theorem Den.intV{K:Qb}{G:Hp}{v:V}{i:Int}(h:Den K G v (.int i)):v=.int i:=by cases h;rfl
theorem kT(hc:X.calm=true):rn X (.builtin "max") pO:=⟨_,tK hc,λG H vs ds d Q gh hd e q=>by
 unfold pO at e;split at e
 ·cases e
  cases hd with | cons h1 h2=>cases h2 with | cons h2 h3=>cases h3;exact⟨_,_,by rw[h1.intV,h2.intV],q _ _ _ (.refl gh) (.int _)⟩
 ·cases e⟩
theorem kS(hc:X.calm=true):rn X (.builtin "min") mY:=⟨_,sT hc,λG H vs ds d Q gh hd e q=>by
 unfold mY at e;split at e
 ·cases e
  cases hd with | cons h1 h2=>cases h2 with | cons h2 h3=>cases h3;exact⟨_,_,by rw[h1.intV,h2.intV],q _ _ _ (.refl gh) (.int _)⟩
 ·cases e⟩
def u_:List D->Option D
 |[.lst xs]=>some (.tup xs)
 |[.tup xs]=>some (.tup xs)
 |_=>none
theorem Den.lstV{K:Qb}{G:Hp}{v:V}{ds:List D}(h:Den K G v (.lst ds)):∃a xs,v=.ref a/\SqL K G a xs/\DenL K G xs ds:=by cases h with | lst h hs=>exact⟨_,_,rfl,h.sq,hs⟩
theorem Den.tupV{K:Qb}{G:Hp}{v:V}{ds:List D}(h:Den K G v (.tup ds)):∃a xs,v=.ref a/\SqT K G a xs/\DenL K G xs ds:=by cases h with | tup h hs=>exact⟨_,_,rfl,h,hs⟩
def uH(fa:Ev->Option D):Ev->Option (List D):=λε=>match fa ε with | some (.lst xs)=>some xs | some (.tup xs)=>some xs | _=>none
theorem wg{p:Pos}(ha:DB X a fa)(hm:X.mg "list" = none)(hg:Gl X "list":=by rfl)(hst:Qn [a] X.env=(false,eval a X.env)::Qn [] X.env:=by rfl)(hpl:(Je pos (Qn [] X.env)).any (·.1)=false:=by rfl):DF X (.Call (.Name "list" p) [a] [] pos) (uH fa):=by
 obtain⟨ta,a1,a2⟩:=ha;refine⟨_,bw bh hg hm (by rfl) (ag a1 ax hst) (by decide) (by decide) hst hpl,λHe G H σ ε d Q gh E ef q=>?_⟩;unfold uH at ef;split at ef
 ·rename_i e1
  cases ef;refine a2 He G H σ ε _ _ gh E e1 λv G1 H1 g1 d1=>?_;obtain⟨p,xs,rfl,h1,h2⟩:=d1.lst g1.gh;exact⟨p,xs,rfl,.inl h1,λl hl=>q l xs G1 _ (g1.trans (.lay _ g1.gh hl)) (g1.hh.free hl) (g1.gnone hl) upd_same h2⟩
 ·rename_i e1
  cases ef;refine a2 He G H σ ε _ _ gh E e1 λv G1 H1 g1 d1=>?_;obtain⟨p,xs,rfl,h0,h1,h2⟩:=d1.tup g1.gh;exact⟨p,xs,rfl,.inr h1,λl hl=>q l xs G1 _ (g1.trans (.lay _ g1.gh hl)) (g1.hh.free hl) (g1.gnone hl) upd_same h2⟩
 ·cases ef
def tyD:D->String
 |.non=>"NoneType" | .bl _=>"bool" | .int _=>"int" | .str _=>"str" | .tup _=>"tuple" | .lst _=>"list" | .dic _=>"dict"
def eB(T:String)(d:D):D:=.bl (tyD d==T || (tyD d == "bool" && T == "int"))
theorem xp{K:Qb}{t T:String}(hT:T = "list"\/T = "tuple"\/T = "bool"\/T = "int"\/T = "str")(ht:t = "NoneType"\/t = "bool"\/t = "int"\/t = "str"\/t = "tuple"\/t = "list"\/t = "dict") :
  JQ K (.type t) (.type T)=some (t==T || (t == "bool" && T == "int")):=by
 rcases hT with rfl | rfl | rfl | rfl | rfl<;>rcases ht with rfl | rfl | rfl | rfl | rfl | rfl | rfl<;>rfl
theorem xk(d:D):tyD d = "NoneType"\/tyD d = "bool"\/tyD d = "int"\/tyD d = "str"\/tyD d = "tuple"\/tyD d = "list"\/tyD d = "dict":=by cases d<;>simp[tyD]
theorem tZ{T:String}(hT:T = "list"\/T = "tuple"\/T = "bool"\/T = "int"\/T = "str"):ie X (.builtin "isinstance") (λxs H Q=>∃G v d,xs=[v,.ty T]/\aD G H/\cY X.K G H v d/\∃k,eB T d=.bl k/\Q (.bl k) H):=by
 intro pins s σ H xs us Q I rv h;obtain⟨G,v,d,rfl,gh,hd,k,ek,q⟩:=h;obtain⟨u,u2,rfl,r1,r2⟩:=rv.two;have e2:u2=Value.type T:=r2;subst e2
 have kt:JQ X.K (.type (tyD d)) (.type T)=some k:=by
  rw[xp hT (xk d)];unfold eB at ek;injection ek with ek
  rw[ek]
 have fin:∀tk,EP X pins σ Q (.bool k) { s with toks:=tk }:=λtk=>⟨.bl k,H,I.tok tk,rfl,q⟩;cases d with
 |non=>cases hd.non;cases(show u=QT from r1);exact JH PySem.W.kitx_none I.kIn JG kt (λz=>nomatch z) fin
 |bl y=>cases hd.bl;cases(show u=Zy y from r1);exact JH PySem.W.kitx_bool I.kIn JG kt (λz=>nomatch z) fin
 |int i=>cases hd.int;obtain⟨t,z⟩:=(show ∃t,u=Value.int i t from r1);cases z;exact JH PySem.W.kitx_int I.kIn JG kt (λz=>nomatch z) fin
 |str i=>cases hd.str;obtain⟨t,z⟩:=(show ∃t,u=Value.str i t from r1);cases z;exact JH PySem.W.kitx_str I.kIn JG kt (λz=>nomatch z) fin
 |tup ds=>
  obtain⟨p,ys,rfl,h0,h1,h2⟩:=hd.tup gh;cases(show u=Ql p from r1);obtain⟨its,_,⟨o,h3,h4,_⟩,_⟩:=I.tuple h1;exact JH PySem.W.kitx_tuple I.kIn ⟨o,h3,h4⟩ kt (λz=>nomatch z) fin
 |lst ds=>
  obtain⟨p,ys,rfl,h1,h2⟩:=hd.lst gh;cases(show u=Ql p from r1);obtain⟨its,_,⟨o,n,h3,h4,_⟩,_⟩:=I.list h1;exact JH PySem.W.kitx_list I.kIn ⟨o,h3,h4⟩ kt (λz=>nomatch z) fin
 |dic es=>
  rcases hd with hd | ⟨_,_,_,_,z,_⟩
  ·cases hd with
   |@dic p us ep _ h nd hs=>
    cases(show u=Ql p from r1);obtain⟨⟨_,_,o,raw,h3,h4,_⟩,_,_⟩:=(show cw X.prog X.w H s.heap p (.ext (DAt p us ep)) from I.hok p _ (gh _ _ h));exact JH PySem.W.kitx_dict I.kIn ⟨o,h3,h4.1⟩ kt (λz=>nomatch z) fin
  ·cases z
theorem dS{T:String}{p p2:Pos}{x:Str}(hT:T = "list"\/T = "tuple"\/T = "bool"\/T = "int"\/T = "str")(ha:DB X a fa)(hm:X.mg "isinstance" = none)(hm2:X.mg x=none)(hv:JS x=some (.type T))(hv0:JS "isinstance" = some (.builtin "isinstance"):=by rfl)(hg:Gl X "isinstance":=by rfl)(hg2:Gl X x:=by rfl)(hn2:x≠"__name__":=by decide)(hd2:(x==("__debug__" : Str))=false:=by decide)
  (hst:Qn [a,.Name x p2] X.env=(false,eval a X.env)::Qn [.Name x p2] X.env:=by rfl) (hst2:Qn [.Name x p2] X.env=(false,eval (.Name x p2) X.env)::Qn [] X.env:=by rfl) (hpl:(Je pos (Qn [.Name x p2] X.env)).any (·.1)=false:=by rfl) :
  DE X (.Call (.Name "isinstance" p) [a,.Name x p2] [] pos) (eR (eB T) fa):=by
 obtain⟨ta,a1,a2⟩:=ha;refine⟨_,d6 (tZ hT) hg hm hv0 (ag a1 (ag (wm (v:=.ty T) hg2 hm2 hv rfl hn2 hd2) ax hst2) hst) (by decide) (by decide) hst hpl,λHe G H σ ε d Q gh E ef q=>?_⟩;unfold eR at ef;cases e1:fa ε with
 |none=>rw[e1] at ef;cases ef
 |some y=>
  rw[e1] at ef;cases ef;refine a2 He G H σ ε y _ gh E e1 λv G1 H1 g1 d1=>?_;exact⟨G1,v,y,rfl,g1.gh,d1,_,rfl,q _ _ _ g1 (.bl _)⟩
end
theorem EnvD.put{K:Qb}{He G H:Hp}{σ:L2.St}{ε:Ev}{i:Nat}{v:V}{d:D}(E:EnvD K He G H σ ε)(h:Den K G v d):EnvD K He G H (σ.set i (some v)) (ε.set i (.dat d)) where
 len:=by rw[JY,JY];exact E.len
 dat:=λ{j d'} e=>by
  rw[QL] at e ⊢
  by_cases z:i=j
  ·rw[if_pos z] at e ⊢
   subst z;rw[E.len];split at e
   ·rename_i hl;cases e;exact⟨v,by rw[if_pos hl],h⟩
   ·cases e
  ·rw[if_neg z] at e ⊢
   exact E.dat e
 own:=λ{j ds} e=>by
  rw[QL] at e ⊢
  by_cases z:i=j
  ·rw[if_pos z] at e;split at e<;>cases e
  ·rw[if_neg z] at e ⊢
   exact E.own e
 apart:=λ{j k ds es a} e1 e2 h1 h2=>by
  rw[QL] at e1 e2 h1 h2
  by_cases z:i=j
  ·rw[if_pos z] at e1;split at e1<;>cases e1
  ·by_cases z2:i=k
   ·rw[if_pos z2] at e2;split at e2<;>cases e2
   ·rw[if_neg z] at e1 h1
    rw[if_neg z2] at e2 h2;exact E.apart e1 e2 h1 h2
 odi:=λ{j ds} e=>by
  rw[QL] at e ⊢
  by_cases z:i=j
  ·rw[if_pos z] at e;split at e<;>cases e
  ·rw[if_neg z] at e ⊢
   exact E.odi e
 apartD:=λ{j k ds es a} e1 e2 h1 h2=>by
  rw[QL] at e1 e2 h1 h2
  by_cases z:i=j
  ·rw[if_pos z] at e1;split at e1<;>cases e1
  ·by_cases z2:i=k
   ·rw[if_pos z2] at e2;split at e2<;>cases e2
   ·rw[if_neg z] at e1 h1
    rw[if_neg z2] at e2 h2;exact E.apartD e1 e2 h1 h2
theorem EnvD.putO{K:Qb}{He G H G' H':Hp}{σ:L2.St}{ε:Ev}{i:Nat}{a:Addr}{xs:List V}{ds:List D}(E:EnvD K He G H σ ε)(g:Grow G H G' H')(heH:aD He H)(hn:H a=none)(gn:G' a=none)(ha:H' a=some (.lst xs))(hd:DenL K G' xs ds) :
  EnvD K He G' H' (σ.set i (some (.ref a))) (ε.set i (.own ds)) where
 len:=by rw[JY,JY];exact E.len
 dat:=λ{j d'} e=>by
  rw[QL] at e ⊢
  by_cases z:i=j
  ·rw[if_pos z] at e;split at e<;>cases e
  ·rw[if_neg z] at e ⊢
   exact(E.grow g).dat e
 own:=λ{j ds'} e=>by
  rw[QL] at e ⊢
  by_cases z:i=j
  ·rw[if_pos z] at e ⊢
   subst z;rw[E.len];split at e
   ·rename_i hl;cases e;exact⟨a,xs,by rw[if_pos hl],ha,gn,heH.free hn,hd⟩
   ·cases e
  ·rw[if_neg z] at e ⊢
   exact(E.grow g).own e
 apart:=λ{j k ds' es b} e1 e2 h1 h2=>by
  rw[QL] at e1 e2 h1 h2
  have key:∀{m:Nat} {es:List D},ε[m]?=some (.own es)->σ[m]?=some (some (.ref a))->False:=λ{m es} q1 q2=>by
   obtain⟨b',ys,w1,w2,_⟩:=E.own q1;rw[q2] at w1;cases w1;rw[hn] at w2;cases w2
  by_cases z:i=j
  ·by_cases z2:i=k
   ·rw[<-z,<-z2]
   ·rw[if_pos z] at h1
    rw[if_neg z2] at e2 h2;split at h1
    ·cases h1;exact(key e2 h2).elim
    ·cases h1
  ·by_cases z2:i=k
   ·rw[if_neg z] at e1 h1
    rw[if_pos z2] at h2;split at h2
    ·cases h2;exact(key e1 h1).elim
    ·cases h2
   ·rw[if_neg z] at e1 h1
    rw[if_neg z2] at e2 h2;exact E.apart e1 e2 h1 h2
 odi:=λ{j ds'} e=>by
  rw[QL] at e ⊢
  by_cases z:i=j
  ·rw[if_pos z] at e;split at e<;>cases e
  ·rw[if_neg z] at e ⊢
   exact(E.grow g).odi e
 apartD:=λ{j k ds es a} e1 e2 h1 h2=>by
  rw[QL] at e1 e2 h1 h2
  by_cases z:i=j
  ·rw[if_pos z] at e1;split at e1<;>cases e1
  ·by_cases z2:i=k
   ·rw[if_pos z2] at e2;split at e2<;>cases e2
   ·rw[if_neg z] at e1 h1
    rw[if_neg z2] at e2 h2;exact E.apartD e1 e2 h1 h2
theorem Sta.write{K:Qb}{He Ge G H:Hp}{σ:L2.St}{ε:Ev}{i:Nat}{a:Addr}{xs ys:List V}{ds es:List D}(S:Sta K He Ge G H σ ε)(ei:ε[i]?=some (.own ds))(hs:σ[i]?=some (some (.ref a)))(ha:H a=some (.lst xs))(hd:DenL K G ys es) :
  Sta K He Ge G (upd H a (.lst ys)) σ (ε.set i (.own es)):=by
 obtain⟨a',xs',h1,h2,h3,h4,h5⟩:=S.e.own ei;rw[hs] at h1;cases h1;have keep:∀{b:Addr} {o:HO},b≠a->H b=some o->upd H a (.lst ys) b=some o:=λ{b o} n e=>by rw[ao n];exact e
 refine⟨⟨λb o e=>keep (ak e h4) (S.g.hh b o e),S.g.gg,λb o e=>keep (ak e h3) (S.g.gh b o e),S.g.fo⟩,?_⟩;have hil:i<ε.length:=(QB.mp ei).1;refine⟨by rw[JY];exact S.e.len,λ{j d} e=>?_,λ{j fs} e=>?_,λ{j k fs gs b} e1 e2 w1 w2=>?_,λ{j fs} e=>?_,λ{j k fs gs b} e1 e2 w1 w2=>?_⟩
 ·rw[QL] at e
  by_cases z:i=j
  ·rw[if_pos z] at e;split at e<;>cases e
  ·rw[if_neg z] at e;exact S.e.dat e
 ·rw[QL] at e
  by_cases z:i=j
  ·rw[if_pos z,if_pos (z▸hil)] at e
   cases e;subst z;exact⟨a,ys,hs,upd_same,h3,h4,hd⟩
  ·rw[if_neg z] at e
   obtain⟨b,zs,w1,w2,w3,w4,w5⟩:=S.e.own e;refine⟨b,zs,w1,keep (λq=>z ?_) w2,w3,w4,w5⟩;subst q;exact S.e.apart ei e hs w1
 ·have own_of:∀{m:Nat} {fs:List D},(ε.set i (.own es))[m]?=some (.own fs)->∃gs,ε[m]?=some (.own gs):=λ{m fs} e=>by
   rw[QL] at e
   by_cases z:i=m
   ·subst z;exact⟨_,ei⟩
   ·rw[if_neg z] at e;exact⟨_,e⟩
  obtain⟨_,q1⟩:=own_of e1;obtain⟨_,q2⟩:=own_of e2;exact S.e.apart q1 q2 w1 w2
 ·rw[QL] at e
  by_cases z:i=j
  ·rw[if_pos z] at e;split at e<;>cases e
  ·rw[if_neg z] at e
   obtain⟨b,us,ep,w1,w2,w3⟩:=S.e.odi e;exact⟨b,us,ep,w1,keep (λq=>by subst q;rw[ha] at w2;cases w2) w2,w3⟩
 ·have odi_of:∀{m:Nat} {fs:List (List Int×D)},(ε.set i (.own es))[m]?=some (.odi fs)->ε[m]?=some (.odi fs):=λ{m fs} e=>by
   rw[QL] at e
   by_cases z:i=m
   ·rw[if_pos z] at e;split at e<;>cases e
   ·rw[if_neg z] at e;exact e
  exact S.e.apartD (odi_of e1) (odi_of e2) w1 w2
def fzS:Sl->Sl
 |.own ds=>.dat (.lst ds)
 |.odi es=>.dat (.dic es)
 |x=>x
def fz1(i:Nat)(ε:Ev):Ev:=ε.modify i fzS
theorem Sta.freeze{K:Qb}{He Ge G H:Hp}{σ:L2.St}{ε:Ev}(S:Sta K He Ge G H σ ε)(i:Nat):∃G',Sta K He Ge G' H σ (fz1 i ε):=by
 unfold fz1;cases ei:ε[i]? with
 |none=>
  have:ε.modify i fzS=ε:=by
   apply JK;intro j;rw[J6]
   by_cases z:i=j
   ·subst z;rw[ei];rfl
   ·simp[z]
  rw[this];exact⟨G,S⟩
 |some sl=>
  cases sl with
  |un=>
   have:ε.modify i fzS=ε:=by
    apply JK;intro j;rw[J6]
    by_cases z:i=j
    ·subst z;rw[ei];simp[fzS]
    ·simp[z]
   rw[this];exact⟨G,S⟩
  |dat d=>
   have:ε.modify i fzS=ε:=by
    apply JK;intro j;rw[J6]
    by_cases z:i=j
    ·subst z;rw[ei];simp[fzS]
    ·simp[z]
   rw[this];exact⟨G,S⟩
  |own ds=>
   obtain⟨a,xs,h1,h2,h3,h4,h5⟩:=S.e.own ei;have s2:aD G (upd G a (.lst xs)):=λb o e=>by rw[ao (ak e h3)];exact e
   have gt:∀j,(ε.modify i fzS)[j]?=if i=j then some (.dat (.lst ds)) else ε[j]?:=λj=>by
    rw[J6]
    by_cases z:i=j
    ·subst z;rw[ei];simp[fzS]
    ·simp[z]
   refine⟨upd G a (.lst xs),⟨S.g.hh,S.g.gg.trans s2,λb o e=>?_,λb o e z=>?_⟩,⟨by rw[List.length_modify];exact S.e.len,λ{j d} e=>?_,λ{j fs} e=>?_,λ{j k fs gs b} e1 e2 w1 w2=>?_,λ{j fs} e=>?_,λ{j k fs gs b} e1 e2 w1 w2=>?_⟩⟩
   ·unfold upd at e
    by_cases z:b=a
    ·rw[if_pos z] at e;cases e;rw[z];exact h2
    ·rw[if_neg z] at e;exact S.g.gh b o e
   ·rw[ao (ak e h4)];exact S.g.fo b o e z
   ·rw[gt] at e
    split at e
    ·rename_i z;subst z;cases e;exact⟨_,h1,.lst (.inl upd_same) (h5.mono s2)⟩
    ·obtain⟨v,w1,w2⟩:=S.e.dat e;exact⟨v,w1,w2.mono s2⟩
   ·rw[gt] at e
    split at e
    ·cases e
    ·rename_i z
     obtain⟨b,zs,w1,w2,w3,w4,w5⟩:=S.e.own e;refine⟨b,zs,w1,w2,?_,w4,w5.mono s2⟩;rw[ao (λq=>z (by subst q;exact S.e.apart ei e h1 w1))];exact w3
   ·rw[gt] at e1 e2
    split at e1
    ·cases e1
    ·split at e2
     ·cases e2
     ·exact S.e.apart e1 e2 w1 w2
   ·rw[gt] at e
    split at e
    ·cases e
    ·obtain⟨b,us,ep,w1,w2,w3,w4,w5,w6⟩:=S.e.odi e
     refine⟨b,us,ep,w1,w2,?_,w4,w5,w6.mono s2⟩;rw[ao (λq=>by subst q;rw[h2] at w2;cases w2)];exact w3
   ·rw[gt] at e1 e2
    split at e1
    ·cases e1
    ·split at e2
     ·cases e2
     ·exact S.e.apartD e1 e2 w1 w2
  |odi es=>
   obtain⟨a,us,ep,h1,h2,h3,h4,h5,h6⟩:=S.e.odi ei;have s2:aD G (upd G a (.ext (DAt a us ep))):=λb o e=>by rw[ao (ak e h3)];exact e
   have gt:∀j,(ε.modify i fzS)[j]?=if i=j then some (.dat (.dic es)) else ε[j]?:=λj=>by
    rw[J6]
    by_cases z:i=j
    ·subst z;rw[ei];simp[fzS]
    ·simp[z]
   refine⟨upd G a (.ext (DAt a us ep)),⟨S.g.hh,S.g.gg.trans s2,λb o e=>?_,λb o e z=>?_⟩,⟨by rw[List.length_modify];exact S.e.len,λ{j d} e=>?_,λ{j fs} e=>?_,λ{j k fs gs b} e1 e2 w1 w2=>?_,λ{j fs} e=>?_,λ{j k fs gs b} e1 e2 w1 w2=>?_⟩⟩
   ·unfold upd at e
    by_cases z:b=a
    ·rw[if_pos z] at e;cases e;rw[z];exact h2
    ·rw[if_neg z] at e;exact S.g.gh b o e
   ·rw[ao (ak e h4)];exact S.g.fo b o e z
   ·rw[gt] at e
    split at e
    ·rename_i z;subst z;cases e;exact⟨_,h1,.dic upd_same h5 (h6.mono s2)⟩
    ·obtain⟨v,w1,w2⟩:=S.e.dat e;exact⟨v,w1,w2.mono s2⟩
   ·rw[gt] at e
    split at e
    ·cases e
    ·obtain⟨b,zs,w1,w2,w3,w4,w5⟩:=S.e.own e
     refine⟨b,zs,w1,w2,?_,w4,w5.mono s2⟩;rw[ao (λq=>by subst q;rw[h2] at w2;cases w2)];exact w3
   ·rw[gt] at e1 e2
    split at e1
    ·cases e1
    ·split at e2
     ·cases e2
     ·exact S.e.apart e1 e2 w1 w2
   ·rw[gt] at e
    split at e
    ·cases e
    ·rename_i z
     obtain⟨b,us',ep',w1,w2,w3,w4,w5,w6⟩:=S.e.odi e;refine⟨b,us',ep',w1,w2,?_,w4,w5,w6.mono s2⟩;rw[ao (λq=>z (by subst q;exact S.e.apartD ei e h1 w1))];exact w3
   ·rw[gt] at e1 e2
    split at e1
    ·cases e1
    ·split at e2
     ·cases e2
     ·exact S.e.apartD e1 e2 w1 w2
theorem Grow.base{Ge He G1 H1 G H:Hp}(a:Grow Ge He G1 H1)(b:Grow G1 He G H):Grow Ge He G H:=⟨b.hh,a.gg.trans b.gg,b.gh,λc o h e=>b.fo c o h (a.fo c o h e)⟩
theorem Grow.self{Ge He G1 H1:Hp}(a:Grow Ge He G1 H1):Grow G1 He G1 H1:=⟨a.hh,aD.refl _,a.gh,λ_ _ _ e=>e⟩
section
variable{X:Cx}{a b c:Expr}{fa fb fc:Ev->Option D}{pos:Pos}{st:Stmt}{rest:List Stmt}{g g':Ev->Option Fl}
def ck:Ev->Option Fl:=λε=>some (.nx ε)
def aT(g g':Ev->Option Fl):Ev->Option Fl:=λε=>(g ε).bind λr=>match r with | .nx ε'=>g' ε' | r=>some r
theorem ba:DSs X [] ck:=⟨_,bp,λHe Ge G H σ ε r W S e P=>by cases e;exact P σ G H S⟩
theorem aC(h:DS X st g):DSs X [st] g:=let⟨t,h1,h2⟩:=h;⟨_,aH h1,h2⟩
theorem ay(h:DS X st g)(hs:DSs X rest g'):DSs X (st::rest) (aT g g'):=by
 obtain⟨t,a1,a2⟩:=h;obtain⟨u,b1,b2⟩:=hs;refine⟨_,ar a1 b1,λHe Ge G H σ ε r W S e P=>?_⟩;obtain⟨r1,e1,e⟩:=aw e;refine a2 He Ge G H σ ε r1 _ S e1 ?_;cases r1 with
 |nx ε'=>exact λσ' G' H' S'=>b2 He Ge G' H' σ' ε' r W S' e P
 |rt d=>cases e;exact P
 |ro ds=>cases e;exact P
 |xc c fs=>cases e;exact P
 |bk ε'=>cases e;exact P
 |ct ε'=>cases e;exact P
def sFz(i:Nat)(g:Ev->Option Fl):Ev->Option Fl:=λε=>g (fz1 i ε)
theorem xM(i:Nat)(h:DS X st g):DS X st (sFz i g):=let⟨t,h1,h2⟩:=h;⟨t,h1,λHe Ge G H σ ε r W S e P=>let⟨G',S'⟩:=S.freeze i;h2 He Ge G' H σ _ r W S' e P⟩
def dm(f:Ev->Option D):Ev->Option Fl:=λε=>(f ε).map Fl.rt
theorem bz{α β:Type}{o:Option α}{f:α->β}{y:β}(h:o.map f=some y):∃x,o=some x/\f x=y:=by
 cases o with
 |none=>cases h
 |some x=>exact⟨x,rfl,Option.some.inj h⟩
theorem cf(h:DE X a fa):DS X (.Return (some a) pos) (dm fa):=by
 obtain⟨t,a1,a2⟩:=h;refine⟨_,br a1,λHe Ge G H σ ε r W S e P=>?_⟩;obtain⟨d,e1,rfl⟩:=bz e;exact a2 He G H σ ε d _ S.g.gh S.e e1 λv G' H' g hd=>P v G' H' (S.g.trans g) hd
def BH(i:Nat):Ev->Option Fl:=λε=>match ε[i]? with | some (.own ds)=>some (.ro ds) | _=>none
def sIf(f:Ev->Option Bool)(g g':Ev->Option Fl):Ev->Option Fl:=λε=>(f ε).bind λk=>if k=true then g ε else g' ε
theorem bY{f:Ev->Option Bool}{s1 s2:List Stmt}(hc:DT X c f)(h1:DSs X s1 g)(h2:DSs X s2 g'):DS X (.If c s1 s2 pos) (sIf f g g'):=by
 obtain⟨t,c1,c2⟩:=hc;obtain⟨ta,a1,a2⟩:=h1;obtain⟨tb,b1,b2⟩:=h2;refine⟨_,cj c1 a1 b1,λHe Ge G H σ ε r W S e P=>?_⟩;obtain⟨k,e1,e⟩:=aw e;refine c2 He G H σ ε k _ S.g.gh S.e e1 λG1 H1 g1=>?_;cases k with
 |true=>
  rw[if_pos rfl] at e ⊢;exact a2 He Ge G1 H1 σ ε r W (S.grow g1) e P
 |false=>
  rw[if_neg Qo] at e ⊢;exact b2 He Ge G1 H1 σ ε r W (S.grow g1) e P
def cG(i:Nat)(f:Ev->Option D):Ev->Option Fl:=λε=>(f ε).map λd=>Fl.nx (ε.set i (.dat d))
theorem cz(i:Nat){x:Str}{pos':Pos}(hN:X.N.Nodup)(ha:DE X a fa)(hi:X.N[i]?=some x:=by rfl)(hx:Loc X.env.scope x:=by first | exact Qs rfl | exact Ju rfl)(hs:JT a (some (.Name x pos')) pos.line X.env=pure false:=by rfl)
  (hf:X.fn x=true\/X.env.scope.names.lookup x=some .local:=by first | exact .inl rfl | exact .inr rfl):DS X (.Assign [.Name x pos'] a pos) (cG i fa):=by
 obtain⟨t,a1,a2⟩:=ha;refine⟨_,bg hN hi hx a1 hs hf,λHe Ge G H σ ε r W S e P=>?_⟩;obtain⟨d,e1,rfl⟩:=bz e;exact a2 He G H σ ε d _ S.g.gh S.e e1 λv G' H' g hd=>P _ G' H' ⟨S.g.trans g,(S.e.grow g).put hd⟩
def kM(i:Nat)(f:Ev->Option (List D)):Ev->Option Fl:=λε=>(f ε).map λd=>Fl.nx (ε.set i (.own d))
theorem nK(i:Nat){x:Str}{pos':Pos}{f:Ev->Option (List D)}(hN:X.N.Nodup)(ha:DF X a f)(hi:X.N[i]?=some x:=by rfl)(hx:Loc X.env.scope x:=by first | exact Qs rfl | exact Ju rfl)(hs:JT a (some (.Name x pos')) pos.line X.env=pure false:=by rfl)
  (hf:X.fn x=true\/X.env.scope.names.lookup x=some .local:=by first | exact .inl rfl | exact .inr rfl):DS X (.Assign [.Name x pos'] a pos) (kM i f):=by
 obtain⟨t,a1,a2⟩:=ha;refine⟨_,bg hN hi hx a1 hs hf,λHe Ge G H σ ε r W S e P=>?_⟩;obtain⟨d,e1,rfl⟩:=bz e;exact a2 He G H σ ε d _ S.g.gh S.e e1 λl xs G' H' g hn gn hl hd=>P _ G' H' ⟨S.g.trans g,S.e.putO g S.g.hh hn gn hl hd⟩
def jg(i:Nat)(f:Ev->Option D):Ev->Option Fl:=λε=>(f ε).bind λd=>match ε[i]? with
 |some (.own ds)=>if ds.length<1000000 then some (.nx (ε.set i (.own (ds++[d])))) else none
 |_=>none
theorem jZ(i:Nat){x:Str}{p1 p2:Pos}(ha:DE X a fa)(hN:X.N[i]?=some x:=by rfl)(hv:Vis X.env.scope x:=by first | exact Qs rfl | exact Ju (Qs rfl))(hd:(x==("__debug__" : Str))=false:=by decide)
  (hcd:(x==("__classdict__" : Str))=false:=by decide)
  (hbase:attributeBase (.Name x p1) "append" X.env (eval (.Name x p1) X.env)=eval (.Name x p1) X.env:=by rfl)
  (hfew:((Je pos (Qn [a] X.env)).all (λx=>!x.1)&&(backToKw pos (keywordEach [] X.env)).all (λx=>x.1.isSome)
   && decide (([a]:List Expr).length+([]:List Keyword).length+(if([]:List Keyword).isEmpty then 0 else 1)<30))=true:=by rfl)
  (hline:(p2.endLine==pos.line)=true:=by rfl) (hs:Qn [a] X.env=(false,eval a X.env)::Qn [] X.env:=by rfl) (hplain:(Je pos (Qn [] X.env)).any (·.1)=false:=by rfl)
  (hsw:JT (.Call (.Attribute (.Name x p1) "append" p2) [a] [] pos) none pos.line X.env=pure false:=by rfl) :
  DS X (.Expr (.Call (.Attribute (.Name x p1) "append" p2) [a] [] pos) pos) (jg i fa):=by
 obtain⟨t,a1,a2⟩:=ha;refine⟨_,eL (rT Zk Zg Zh gz (jw hN hv hd hcd) (ag a1 ax hs) hbase hfew hline hs hplain) hsw,λHe Ge G H σ ε r W S e P=>?_⟩;obtain⟨d,e1,e⟩:=aw e;split at e
 ·rename_i ds ei
  split at e
  ·rename_i hl
   cases e;obtain⟨l,xs,h1,h2,h3,h4,h5⟩:=S.e.own ei;refine⟨_,h1,.inl ⟨rfl,xs,SqL.of h2⟩,?_⟩;refine a2 He G H σ ε d _ S.g.gh S.e e1 λv G' H' g hd=>?_;have S':=S.grow g;obtain⟨l',xs',w1,w2,w3,w4,w5⟩:=S'.e.own ei;rw[h1] at w1;cases w1
   have hz:xs'.length<Qj:=by
    rw[w5.length];exact Jv hl (by decide)
   exact⟨l,xs',v,rfl,rfl,w2,hz,P σ G' _ (S'.write ei h1 w2 (w5.append (.one hd)))⟩
  ·cases e
 ·cases e
def ni(i:Nat)(fk f:Ev->Option D):Ev->Option Fl:=λε=>(f ε).bind λd=>(fk ε).bind λk=>match ε[i]?,k with
 |some (.own ds),.int j=>(ixN ds.length j).map λm=>.nx (ε.set i (.own (ds.set m d)))
 |_,_=>none
theorem oh(i:Nat){x:Str}{p1 p2:Pos}{k:Expr}{fk:Ev->Option D}(ha:DE X a fa)(hk:DB X k fk)(hN:X.N[i]?=some x:=by rfl)(hv:Vis X.env.scope x:=by first | exact Qs rfl | exact Ju (Qs rfl))(hd:(x==("__debug__" : Str))=false:=by decide)
  (hcd:(x==("__classdict__" : Str))=false:=by decide)
  (hasg:∀v,assign (.Subscript (.Name x p1) k p2) X.env v=(do
   let ov<-J9 [v] (eval (.Name x p1) X.env);let iv<-J9 [v,ov] (eval k X.env)
   standAt p2
   J9 [v,ov,iv] (setItem ov iv v)
   release [v,ov,iv] []):=by intro _;rfl)
  (hs:swapsWithSole [.Subscript (.Name x p1) k p2] a pos.line X.env=pure false:=by rfl) (hw:swappedStores [.Subscript (.Name x p1) k p2] a X.env=pure none:=by rfl)
  (h1:(Q0 [.Subscript (.Name x p1) k p2] X.env).map (·.2)=[assign (.Subscript (.Name x p1) k p2) X.env]:=by rfl) :
  DS X (.Assign [.Subscript (.Name x p1) k p2] a pos) (ni i fk fa):=by
 obtain⟨t,a1,a2⟩:=ha;obtain⟨u,b1,b2⟩:=hk;refine⟨_,nX a1 (za (jw hN hv hd hcd) b1 tY hasg) hs hw h1,λHe Ge G H σ ε r W S e P=>?_⟩;obtain⟨d,e1,e⟩:=aw e;obtain⟨dk,e2,e⟩:=aw e;split at e
 ·rename_i ds j ei
  obtain⟨m,em,rfl⟩:=bz e;refine a2 He G H σ ε d _ S.g.gh S.e e1 λv G1 H1 g1 hd1=>?_;have S1:=S.grow g1;obtain⟨l,xs,w1,w2,w3,w4,w5⟩:=S1.e.own ei;refine⟨_,w1,?_⟩;refine b2 He G1 H1 σ ε _ _ S1.g.gh S1.e e2 λv2 G2 H2 g2 hd2=>?_;have S2:=S1.grow g2;obtain⟨l',xs',z1,z2,z3,z4,z5⟩:=S2.e.own ei;rw[w1] at z1;cases z1;exact⟨l,xs',j,m,rfl,hd2.int,z2,by rw[z5.length];exact em,P σ G2 _ (S2.write ei w1 z2 (.set (hd1.mono g2.gg) m z5))⟩
 ·cases e
def DG(X:Cx)(tg:Expr)(g:D->Ev->Option Ev):Prop:=∃t,PG X tg t/\∀(He G H:Hp) (σ:L2.St) (ε ε':Ev) (v:V) (d:D) (Q:L2.St->Hp->Prop),aD G H->EnvD X.K He G H σ ε->Den X.K G v d->g d ε=some ε'->
 (∀σ',EnvD X.K He G H σ' ε'->Q σ' H)->t v σ H Q
def DGs(X:Cx)(ts:List Expr)(g:List D->Ev->Option Ev):Prop:=∃t,PGs X ts t/\∀(He G H:Hp) (σ:L2.St) (ε ε':Ev) (vs:List V) (ds:List D) (Q:L2.St->Hp->Prop),aD G H->EnvD X.K He G H σ ε->DenL X.K G vs ds->g ds ε=some ε'->
 (∀σ',EnvD X.K He G H σ' ε'->Q σ' H)->t vs σ H Q
def az(i:Nat):D->Ev->Option Ev:=λd ε=>some (ε.set i (.dat d))
theorem aL(i:Nat){x:Str}(hN:X.N.Nodup)(hi:X.N[i]?=some x:=by rfl)(hx:Loc X.env.scope x:=by first | exact Qs rfl | exact Ju rfl)(hf:X.fn x=true\/X.env.scope.names.lookup x=some .local:=by first | exact .inl rfl | exact .inr rfl):DG X (.Name x pos) (az i):=
 ⟨_,di hN hi hx hf,λHe G H σ ε ε' v d Q gh E hd e q=>by cases e;exact q _ (E.put hd)⟩
def cI:List D->Ev->Option Ev:=λds ε=>match ds with | []=>some ε | _=>none
def aF(g:D->Ev->Option Ev)(g':List D->Ev->Option Ev):List D->Ev->Option Ev:=λds ε=>match ds with | d::r=>(g d ε).bind (g' r) | []=>none
theorem fq:DGs X [] cI:=⟨_,nU,λHe G H σ ε ε' vs ds Q gh E hd e q=>by
 cases hd with
 |nil=>cases e;exact⟨rfl,q _ E⟩
 |cons _ _=>cases e⟩
theorem aQ{e:Expr}{es:List Expr}{g1:D->Ev->Option Ev}{g2:List D->Ev->Option Ev}(h1:DG X e g1)(h2:DGs X es g2)(hs:(Q0 (e::es) X.env).map (·.2)=assign e X.env::(Q0 es X.env).map (·.2):=by rfl):DGs X (e::es) (aF g1 g2):=by
 obtain⟨t,a1,a2⟩:=h1;obtain⟨u,b1,b2⟩:=h2;refine⟨_,du a1 b1 hs,λHe G H σ ε ε' vs ds Q gh E hd e q=>?_⟩;cases hd with
 |nil=>cases e
 |cons h3 h4=>
  obtain⟨ε1,e1,e⟩:=aw e;exact⟨_,_,rfl,a2 He G H σ ε ε1 _ _ _ gh E h3 e1 λσ1 E1=>b2 He G H σ1 ε1 ε' _ _ _ gh E1 h4 e q⟩
def i8(n:Nat)(g:List D->Ev->Option Ev):D->Ev->Option Ev:=λd ε=>match d with | .tup ds=>if ds.length=n then g ds ε else none | _=>none
theorem oz{es:List Expr}{k:Nat}{g:List D->Ev->Option Ev}{n:Nat}(hc:X.calm=true)(h:DGs X es g)(hn:(Q0 es X.env).length=n:=by rfl)(hst:(Q0 es X.env).findIdx? (·.1)=none:=by rfl):DG X (.Tuple es k pos) (i8 n g):=by
 obtain⟨t,a1,a2⟩:=h;refine⟨_,oK hc a1 hn hst,λHe G H σ ε ε' v d Q gh E hd e q=>?_⟩;unfold i8 at e;split at e
 ·split at e
  ·rename_i hl
   obtain⟨p,xs,rfl,h1,h2⟩:=hd.tupV;exact⟨p,xs,rfl,aE gh h1,by rw[h2.length];exact hl,a2 He G H σ ε ε' _ _ _ gh E h2 e q⟩
  ·cases e
 ·cases e
def my(f:Ev->Option D)(g:D->Ev->Option Ev):Ev->Option Fl:=λε=>(f ε).bind λd=>(g d ε).map Fl.nx
theorem k_{tg:Expr}{g:D->Ev->Option Ev}(he:DE X a fa)(hg:DG X tg g)(hs:swapsWithSole [tg] a pos.line X.env=pure false:=by rfl)(hw:swappedStores [tg] a X.env=pure none:=by rfl)
  (h1:(Q0 [tg] X.env).map (·.2)=[assign tg X.env]:=by rfl):DS X (.Assign [tg] a pos) (my fa g):=by
 obtain⟨t,a1,a2⟩:=he;obtain⟨u,b1,b2⟩:=hg;refine⟨_,nX a1 b1 hs hw h1,λHe Ge G H σ ε r W S e P=>?_⟩;obtain⟨d,e1,e⟩:=aw e;obtain⟨ε',e2,rfl⟩:=bz e;exact a2 He G H σ ε d _ S.g.gh S.e e1 λv G' H' g hd=>b2 He G' H' σ ε ε' v d _ g.gh (S.e.grow g) hd e2 λσ' E'=>P σ' G' H' ⟨S.g.trans g,E'⟩
def ItD(K:Qb)(J:It)(ds:List D)(G:Hp):Prop:=∀(i:Nat) (H2:Hp),aD G H2->(i<ds.length->J.go i H2)/\(ds.length<=i->J.stop i H2)/\
 ∀x H3,J.yld i H2 x H3->∀d,ds[i]?=some d->∀G2,aD G G2->aD G2 H2->∃G3,Grow G2 H2 G3 H3/\Den K G3 x d
def DI(X:Cx)(tg iter:Expr)(f:Ev->Option (List D)):Prop:=∃wi,PI X tg iter wi/\∀(He G H:Hp) (σ:L2.St) (ε:Ev) (ds:List D) (R:It->Hp->Prop),aD G H->EnvD X.K He G H σ ε->f ε=some ds->
 (∀J G' H',Grow G H G' H'->ItD X.K J ds G'->R J H')->wi σ H R
def mG(f:Ev->Option D):Ev->Option (List D):=λε=>match f ε with | some (.lst ds)=>some ds | _=>none
theorem r9{tg:Expr}(h:DE X a fa):DI X tg a (mG fa):=by
 obtain⟨t,a1,a2⟩:=h;refine⟨_,hX a1,λHe G H σ ε ds R gh E ef q=>?_⟩;unfold mG at ef;split at ef
 ·rename_i e1
  cases ef;refine a2 He G H σ ε _ _ gh E e1 λv G1 H1 g1 d1=>?_;obtain⟨p,xs,rfl,h1,h2⟩:=d1.lstV;refine⟨p,rfl,⟨xs,g1.gh.seq h1⟩,q _ G1 H1 g1 λi H2 s2=>⟨λhi=>?_,λhi=>⟨xs,s2.seq h1,by rw[h2.length];exact hi⟩,?_⟩⟩
  ·have hi':i<xs.length:=by rw[h2.length];exact hi
   exact⟨xs,xs[i],s2.seq h1,by simp[hi']⟩
  ·rintro x H3 ⟨rfl,y⟩ d ed G2 s3 s4
   obtain⟨x',e3,e4⟩:=h2.get ed;have:=y xs (s2.seq h1);rw[e3] at this;cases this;exact⟨G2,.refl s4,e4.mono s3⟩
 ·cases ef
def um(f:Ev->Option D):Ev->Option (List D):=λε=>match f ε with | some (.tup ds)=>some ds | _=>none
theorem yZ{tg:Expr}(h:DE X a fa):DI X tg a (um fa):=by
 obtain⟨t,a1,a2⟩:=h;refine⟨_,vk a1,λHe G H σ ε ds R gh E ef q=>?_⟩;unfold um at ef;split at ef
 ·rename_i e1
  cases ef;refine a2 He G H σ ε _ _ gh E e1 λv G1 H1 g1 d1=>?_;obtain⟨p,xs,rfl,h1,h2⟩:=d1.tupV;refine⟨p,rfl,⟨xs,aE g1.gh h1⟩,q _ G1 H1 g1 λi H2 s2=>⟨λhi=>?_,λhi=>⟨xs,aE s2 h1,by rw[h2.length];exact hi⟩,?_⟩⟩
  ·have hi':i<xs.length:=by rw[h2.length];exact hi
   exact⟨xs,xs[i],aE s2 h1,by simp[hi']⟩
  ·rintro x H3 ⟨rfl,y⟩ d ed G2 s3 s4
   obtain⟨x',e3,e4⟩:=h2.get ed;have:=y xs (aE s2 h1);rw[e3] at this;cases this;exact⟨G2,.refl s4,e4.mono s3⟩
 ·cases ef
def d_(n:Nat):List D:=(Q7 n).map λi=>.int (i:Nat)
def iW(f:Ev->Option D):Ev->Option (List D):=λε=>match f ε with | some (.int j)=>if j<1000000/\-1000000<j then some (d_ j.toNat) else none | _=>none
theorem gC{tg:Expr}{p:Pos}(h:DE X a fa)(hm:X.mg "range" = none)(hg:Gl X "range":=by rfl)(hs:Qn [a] X.env=[(false,eval a X.env)]:=by rfl):DI X tg (.Call (.Name "range" p) [a] [] pos) (iW fa):=by
 obtain⟨t,a1,a2⟩:=h;refine⟨_,j4 hg hm (ag a1 ax hs) hs,λHe G H σ ε ds R gh E ef q=>?_⟩;unfold iW at ef;split at ef
 ·rename_i j e1
  split at ef
  ·rename_i hj
   cases ef;refine a2 He G H σ ε _ _ gh E e1 λv G1 H1 g1 d1=>?_;refine⟨j,by rw[d1.intV],by lia,by lia,q _ G1 H1 g1 λi H2 s2=>⟨λhi=>?_,λhi=>?_,?_⟩⟩
   ·show i<j.toNat
    simpa[d_] using hi
   ·show j.toNat<=i
    simpa[d_] using hi
   ·rintro x H3 ⟨rfl,rfl⟩ d ed G2 s3 s4
    refine⟨G2,.refl s4,?_⟩;unfold d_ at ed;rw[QK] at ed;obtain⟨m,em,rfl⟩:=bz ed;obtain⟨hm,em⟩:=QB.mp em;rw[List.getElem_range] at em;subst em;rw[Int.zero_add];exact .int _
  ·cases ef
 ·cases ef
def eS(g:D->Ev->Option Ev)(gb:Ev->Option Fl):List D->Ev->Option Fl
 |[],ε=>some (.nx ε)
 |d::ds,ε=>(g d ε).bind λε1=>(gb ε1).bind λr=>match r with
  |.nx ε2=>eS g gb ds ε2
  |.ct ε2=>eS g gb ds ε2
  |.bk ε2=>some (.nx ε2)
  |.rt v=>some (.rt v)
  |.ro v=>some (.ro v)
  |.xc c v=>some (.xc c v)
def ig(f:Ev->Option (List D))(g:D->Ev->Option Ev)(gb:Ev->Option Fl):Ev->Option Fl:=λε=>(f ε).bind λds=>eS g gb ds ε
theorem gQ{tg iter:Expr}{body:List Stmt}{f:Ev->Option (List D)}{g:D->Ev->Option Ev}{gb:Ev->Option Fl}(hp:PassesOwn (Qh X.prog X.w) X.A X.env X.xe)(hc:X.calm=true)(hi:DI X tg iter f)(hg:DG X tg g)(hb:DSs X body gb)
  (hs:∀x,JI iter X.env x=pure x:=by intro _;rfl):DS X (.For tg iter body [] pos) (ig f g gb):=by
 obtain⟨wi,i1,i2⟩:=hi;obtain⟨tg',g1,g2⟩:=hg;obtain⟨tb,b1,b2⟩:=hb;refine⟨_,jq hp hc i1 g1 b1 hs,λHe Ge G H σ ε r W S e P=>?_⟩;obtain⟨ds,e1,e⟩:=aw e;refine i2 He G H σ ε ds _ S.g.gh S.e e1 λJ G1 H1 gr it=>?_;have S1:=S.grow gr;refine⟨λi m σ H=>m=ds.length-i/\i<=ds.length/\∃G ε,Sta X.K He G1 G H σ ε/\eS g gb (ds.drop i) ε=some r,⟨ds.length,by simp,QA _,G1,ε,⟨S1.g.self,S1.e⟩,by simpa using e⟩,?_⟩;rintro i m σ2 H2 ⟨rfl,hi,G2,ε2,S2,e2⟩;obtain⟨go,stop,yld⟩:=it i H2 (S2.g.gg.trans S2.g.gh)
 by_cases hlt:i<ds.length
 ·refine .inr ⟨go hlt,λσ' H'=>i+1<=ds.length/\∃G ε,Sta X.K He G1 G H' σ' ε/\eS g gb (ds.drop (i+1)) ε=some r,λσ' H' ⟨q1,q2⟩=>⟨ds.length-(i+1),by lia,rfl,q1,q2⟩,λx H3 y=>?_⟩
  have ed:ds[i]?=some ds[i]:=by simp[hlt]
  obtain⟨G3,gr3,dx⟩:=yld x H3 y _ ed G2 S2.g.gg S2.g.gh;have S3:=S2.grow gr3;rw[List.drop_eq_getElem_cons hlt] at e2;obtain⟨ε3,e3,e2⟩:=aw e2;obtain⟨r4,e4,e2⟩:=aw e2;refine g2 He G3 H3 σ2 ε2 ε3 x ds[i] _ S3.g.gh S3.e dx e3 λσ4 E4=>?_;refine b2 He G1 G3 H3 σ4 ε3 r4 _ ⟨S3.g,E4⟩ e4 ?_;cases r4 with
  |nx ε5=>exact λσ5 G5 H5 S5=>⟨hlt,G5,ε5,S5,e2⟩
  |ct ε5=>exact λσ5 G5 H5 S5=>⟨hlt,G5,ε5,S5,e2⟩
  |bk ε5=>cases e2;exact λσ5 G5 H5 S5=>P σ5 G5 H5 ⟨S1.g.base S5.g,S5.e⟩
  |rt d=>cases e2;exact λv G5 H5 g5 d5=>P v G5 H5 (S1.g.base g5) d5
  |ro ds=>cases e2;exact λa xs G5 H5 g5 n1 n2 h5 d5=>P a xs G5 H5 (S1.g.base g5) n1 n2 h5 d5
  |xc c fs=>cases e2;exact λpins σ5 G5 H5 s5 a dx cls I5 g5 x5 m5 d5=>P pins σ5 G5 H5 s5 a dx cls I5 (S1.g.base g5) x5 m5 d5
 ·have e5:i=ds.length:=by lia
  subst e5;rw[List.drop_length] at e2;cases e2;exact .inl ⟨stop (Qi _),P σ2 G2 H2 ⟨S1.g.base S2.g,S2.e⟩⟩
end
theorem jE{K:Qb}{H:Hp}{vs:List V}{ds:List D}{N:List Str}{i:Nat}{s:Sl}(e:(bf N ds)[i]?=some s):(∃d,s=.dat d/\ds[i]?=some d)\/s=.un:=by
 unfold bf at e
 by_cases h:i<ds.length
 ·rw[Jk (by simpa using h),QK] at e
  obtain⟨d,e1,rfl⟩:=bz e;exact .inl ⟨d,rfl,e1⟩
 ·rw[Q5 (by simpa using h),Jq] at e
  split at e
  ·cases e;exact .inr rfl
  ·cases e
theorem eg{K:Qb}{G H:Hp}{vs:List V}{ds:List D}{N:List Str}(gh:aD G H)(h:DenL K G vs ds):Sta K H G G H (L2.iT N vs) (bf N ds):=by
 refine⟨.refl gh,?_,λ{i d} e=>?_,λ{i d} e=>?_,λ{i j ds' es a} e _ _ _=>?_,λ{i d} e=>?_,λ{i j ds' es a} e _ _ _=>?_⟩
 ·unfold L2.iT bf
  simp[h.length]
 ·rcases jE (K:=K) (H:=H) (vs:=vs) e with⟨d',e1,e2⟩ | e1
  ·cases e1
   obtain⟨v,h1,h2⟩:=h.get e2;refine⟨v,?_,h2⟩;unfold L2.iT;have hl:i<vs.length:=(QB.mp h1).1;rw[Jk (by simpa using hl),QK,h1];rfl
  ·cases e1
 ·rcases jE (K:=K) (H:=H) (vs:=vs) e with⟨d',e1,e2⟩ | e1<;>cases e1
 ·rcases jE (K:=K) (H:=H) (vs:=vs) e with⟨d',e1,e2⟩ | e1<;>cases e1
 ·rcases jE (K:=K) (H:=H) (vs:=vs) e with⟨d',e1,e2⟩ | e1<;>cases e1
 ·rcases jE (K:=K) (H:=H) (vs:=vs) e with⟨d',e1,e2⟩ | e1<;>cases e1
section
variable{P:Qq}{w:Qw}{K:Qb}{mg:Str->Option Qa}{base:Heap}
theorem yp{x qual:Str}{st:Stmt}{f:Addr}{fd:QE}{N ps:List Str}{k:Nat}{F:List D->Option D}(g:Ev->Option Fl)(Fu:Fun K x qual st f fd)(S:FnScope N ps (aA st))(hlen:∀ds d,F ds=some d->ds.length=ps.length)
  (hg:∀ds d,F ds=some d->g (bf N ds)=some (.rt d)\/(∃ε,g (bf N ds)=some (.nx ε)/\d=.non)\/∃rs,g (bf N ds)=some (.ro rs)/\d=.lst rs)
  (hb:∀(cdv:Qa) (A:QC) (outer:List Env) (s:Qd) (H:Hp) (E:XK),Room k (A.deeper (envOfC qual (aA st) s.heap.objs.size f cdv))->DSs (ik CX0 P w K mg base N qual (aA st) f cdv A outer s H E).nox (bL st) g):FnOk P w K mg base CX0 (k+1) f fd ps (spF K F):=by
 refine Fu.ok S (λvs H Q E h=>?_) (λcdv A outer s H vs Q E hr h=>?_)
 ·obtain⟨G,ds,d,gh,hd,e,q⟩:=h
  rw[hd.length];exact hlen ds d e
 ·obtain⟨G,ds,d,gh,hd,e,q⟩:=h
  obtain⟨t,h1,h2⟩:=hb cdv A outer s H E hr;refine⟨t,h1,?_⟩;rcases hg ds d e with e1 | ⟨ε,e1,rfl⟩ | ⟨rs,e1,rfl⟩
  ·exact h2 H G G H _ _ _ _ (eg gh hd) e1 λv G' H' g hd=>q v G' H' g hd
  ·exact h2 H G G H _ _ _ _ (eg gh hd) e1 λσ G' H' S'=>q _ G' H' S'.g .non
  ·exact h2 H G G H _ _ _ _ (eg gh hd) e1 λa xs G' H' g n1 n2 h3 d3=>q _ _ H' (g.seal n1 n2 h3) (qS n2 d3)
end
def fnD(N ps:List Str)(g:Ev->Option Fl):List D->Option D:=λds=>if ds.length=ps.length then(match g (bf N ds) with | some (.rt d)=>some d | some (.nx _)=>some .non | some (.ro rs)=>some (.lst rs) | _=>none) else none
section
variable{P:Qq}{w:Qw}{K:Qb}{mg:Str->Option Qa}{base:Heap}
theorem rS{x qual:Str}{st:Stmt}{f:Addr}{fd:QE}{N ps:List Str}{k:Nat}{g:Ev->Option Fl}(Fu:Fun K x qual st f fd)(S:FnScope N ps (aA st))
  (hb:∀(cdv:Qa) (A:QC) (outer:List Env) (s:Qd) (H:Hp) (E:XK),Room k (A.deeper (envOfC qual (aA st) s.heap.objs.size f cdv))->DSs (ik CX0 P w K mg base N qual (aA st) f cdv A outer s H E).nox (bL st) g):FnOk P w K mg base CX0 (k+1) f fd ps (spF K (fnD N ps g)):=by
 refine yp g Fu S (λds d e=>?_) (λds d e=>?_) hb
 ·unfold fnD at e
  split at e
  ·assumption
  ·cases e
 ·unfold fnD at e
  split at e
  ·split at e
   ·rename_i d' e1;cases e;exact .inl e1
   ·rename_i ε e1;cases e;exact .inr (.inl ⟨ε,e1,rfl⟩)
   ·rename_i rs e1;cases e;exact .inr (.inr ⟨rs,e1,rfl⟩)
   ·cases e
  ·cases e
theorem wR{f:Addr}{fd:QE}{ps:List Str}{k:Nat}:FnOk P w K mg base CX0 k f fd ps (spF K λ_=>none):=
 ⟨λvs H Q E ⟨_,_,_,_,_,e,_⟩=>(by cases e),λA outer s H args us vs Q E _ _ _ _ ⟨_,_,_,_,_,e,_⟩=>(by cases e)⟩
structure FA(K:Qb)(mg:Str->Option Qa)(x:Str)(st:Stmt)(ps:List Str)(f:Addr)(fd:QE):Prop where
 fu:Fun K x x st f fd
 bi:fC K fd ps []
 mgf:mg x=some (.ref f)
theorem AH{h:Heap}{x:Str}{st:Stmt}{ps:List Str}{f:Addr}{oc:Qa}{od an:Option Addr}{osl:Array (Option Qa)}{kV doc pm cdv ct:Qa}(X:K.In h)(G:h.Ns Qx mg)
  (a:QJ K Qx x=some (some (.ref f)))
  (l:K.lookup f=some ⟨oc,od,.func (Q9 x x (c_ st) (bL st) (aA st) .none kV doc pm an cdv ct),osl⟩)
  (c:Za K cdv x=true) (k:Q4 K (.ref f)=true)
  (hb:∀(kV doc pm:Qa) (an:Option Addr) (cdv ct:Qa) (us:List Qa),us.length=ps.length->bindArgs (Q9 x x (c_ st) (bL st) (aA st) .none kV doc pm an cdv ct) ⟨us,[]⟩=pure (ps.zip us)) :
  FA K mg x st ps f (Q9 x x (c_ st) (bL st) (aA st) .none kV doc pm an cdv ct):=
 ⟨nO l c k,(nO l c k).binds hb,JN X G a⟩
end
section
variable{X:Cx}{a b c:Expr}{fa fb fc:Ev->Option D}{pos:Pos}
theorem pZ{k j:Nat}{f:Addr}{fd:QE}{st:Stmt}{ps:List Str}{Fn:List D->Option D}{x:Str}{e:Expr}{es:List Expr}{g:Ev->Option (List D)}{p:Pos}
  (A:FA X.K X.mg x st ps f fd) (F:FnOk X.prog X.w X.K X.mg X.base CX0 j f fd ps (spF X.K Fn)) (hr:Room k X.A) (hj:j<=k)
  (ha:DA X (e::es) g) (hg:Gl X x:=by rfl) (hdb:(x==("__debug__" : Str))=false:=by decide) (he:Qn (e::es) X.env=(false,eval e X.env)::Qn es X.env:=by rfl) (hpl:(Je pos (Qn es X.env)).any (·.1)=false:=by rfl) :
  DE X (.Call (.Name x p) (e::es) [] pos) (bt Fn g):=xb F (hr.mono hj) A.mgf A.fu.kp A.bi ha hg hdb he hpl
def eCh(f f':D->D->Option D)(fa fb fc:Ev->Option D):Ev->Option D:=λε=>(fa ε).bind λx=>(fb ε).bind λy=>(f x y).bind λz=>match z with | .bl k=>if k=true then(fc ε).bind λw=>f' y w else some (.bl false) | _=>none
end
theorem sj(K:Qb)(G:Hp):∀ns:List Int,DenL K G (ns.map V.int) (ns.map D.int)
 |[]=>.nil
 |n::r=>.cons (.int n) (sj K G r)
def cxC(X:Cx)(sc:Scope)(cl:List (Str×Addr))(N':List Str)(C:Addr)(s₃:Qd)(H₃:Hp)(fp:List Addr)(pins:List (Addr×Obj)):Cx where
 prog:=X.prog
 w:=X.w
 K:=X.K
 mg:=X.mg
 base:=X.base
 A:=X.A
 N:=N'
 s₀:=s₃
 H₀:=H₃
 env:=compEnvC sc cl C X.env
 outer:=X.stack
 stack:=X.stack
 ex:=fp
 fn:=λ_=>false
 calm:=true
 pn:=X.pn++pins
 xe:=λ_ _=>False
structure CompSc(X:Cx)(sc:Scope)(cl:List (Str×Addr))(tn fr:List Str)(ix:List Nat):Prop where
 kind:sc.kind=.function
 nocell:∀y∈sc.names,y.2≠.cell
 names:∀y∈sc.names,y.2=.local->sc.names.lookup y.1=some .local
 clos:closureFor sc X.env=pure cl
 len:ix.length=fr.length
 at_:∀(k:Nat) (x:Str),fr[k]?=some x->∃j,ix[k]?=some j/\X.N[j]?=some x/\X.env.scope.names.lookup x=some .cell
 sub:∀x c,cl.lookup x=some c->X.env.cells.lookup x=some c
 has:∀x,((relabel sc X.env).names.lookup x=some .cell\/(relabel sc X.env).names.lookup x=some .free)->∃c,cl.lookup x=some c
 frc:∀x∈fr,(relabel sc X.env).names.lookup x=some .cell
def prS(n:Nat)(ix:List Nat)(σ:L2.St):L2.St:=Jy n none++ix.map λi=>σ.getD i none
def Bc:Sl->Sl
 |.dat d=>.dat d
 |_=>.un
def prE(n:Nat)(ix:List Nat)(ε:Ev):Ev:=Jy n Sl.un++ix.map λi=>Bc (ε.getD i .un)
theorem uQ{X:Cx}{sc:Scope}{cl:List (Str×Addr)}{tn fr:List Str}{ix:List Nat}{pins:List (Addr×Obj)}{σ:L2.St}{H₃:Hp}{s₃:Qd}{fp:List Addr}{h₁:Heap}{tk:Nat}{m:Str->Option Qa}
  (S:CompSc X sc cl tn fr ix) (hc:X.calm=true) (I:Inv X pins σ H₃ s₃) (hf:∀b∈fp,jU X pins H₃ b) (hlt:∀b∈fp,b<s₃.heap.objs.size) (hn:h₁.Ns s₃.heap.objs.size m) (hk:∀b o,s₃.heap.get? b=some o->h₁.get? b=some o) :
  Inv (cxC X sc cl (tn++fr) s₃.heap.objs.size s₃ H₃ fp pins) [] (prS tn.length ix σ) H₃ { s₃ with heap:=h₁,toks:=tk }:=by
 have ncell:∀{x:Str} {c:Addr},X.env.cells.lookup x=some c->c<s₃.heap.objs.size:=λ{x c} e=>let⟨v,q⟩:=I.cell x c e;q.lt
 have hfs:∀b,b∈frs X.stack->b<s₃.heap.objs.size:=λb hb=>by
  rcases Qm.mp (I.stkSub b hb) with z | z
  ·rw[z];exact I.lt
  ·exact Nat.lt_of_not_le λq=>I.nofs q z
 refine⟨⟨I.ok.mod,?_,I.ok.glob,I.ok.blt,Qi _,?_,?_,?_,?_,I.ok.frames,.inl rfl,?_,?_,?_,?_,?_,?_,?_⟩,rfl,I.bare,Un.kept hk,⟨m,hn,?_⟩,?_,?_,?_,?_,I.hok.kept hk,?_⟩
 ·exact S.kind
 ·intro x y c h1 h2;exact I.ok.inj x y c (S.sub x c h1) (S.sub y c h2)
 ·intro x hx;exact S.has x hx
 ·intro x c h;cases h
 ·intro _;exact I.ok.hd hc
 ·intro b hb
  exact⟨Qz (hlt b hb),λx c e=>(hf b hb).2.2.2.2.1 x c (S.sub x c e)⟩
 ·exact I.bs
 ·exact QF I.ok.bsz I.sz
 ·intro b o e hb
  rcases(hf b hb).2.2.2.1 with z | z
  ·exact I.ok.noex b o e z
  ·exact absurd (Qy (Qk e) (QF I.ok.bsz z)) (Jm _)
 ·intro b hb z
  rcases Qm.mp (I.stkSub b z) with q | q
  ·exact(hf b hb).2.1 q
  ·exact(hf b hb).2.2.1 q
 ·exact I.stack
 ·exact I.stkFree
 ·intro i x v h1 h2 hv
  have hi:tn.length<=i:=by
   refine Nat.le_of_not_lt λq=>?_;unfold prS at h2;rw[Jk (by simpa using q),Jq] at h2;split at h2<;>cases h2
  have h1':fr[i-tn.length]?=some x:=by
   have:(tn++fr)[i]?=some x:=h1;rwa [Q5 hi] at this
  obtain⟨j,e1,e2,e3⟩:=S.at_ _ x h1'
  have h2':σ[j]?=some (some v):=by
   unfold prS at h2;rw[Q5 (by simpa using hi),Jz,QK,e1] at h2;have h3:σ.getD j none=some v:=Option.some.inj h2;rw[Jw] at h3;cases q:σ[j]? with
   |none=>rw[q] at h3;cases h3
   |some o=>rw[q] at h3;exact congrArg some h3
  obtain⟨mm,hm,hl⟩:=I.loc;obtain⟨u,r,l⟩:=hl j x v e2 h2' (.inr (.inl e3));refine⟨u,r,.inr ⟨.inl (S.frc x (ZE h1')),?_⟩⟩;rcases l with⟨k1,_⟩ | ⟨_,c,k2,k3⟩
  ·have:X.env.kindOf x=some .cell:=e3
   rw[this] at k1;cases k1
  ·obtain⟨c',k4⟩:=S.has x (.inl (S.frc x (ZE h1')))
   have:=S.sub x c' k4;rw[k2] at this;cases this;exact⟨c,k4,k3.keeps hk⟩
 ·intro x c e
  obtain⟨v,q⟩:=I.cell x c (S.sub x c e);exact⟨v,q.keeps hk⟩
 ·exact I.hok.fresh (Qi _)
 ·intro x c e;exact I.freeC x c (S.sub x c e)
 ·intro p hp
  have hp':p∈X.pn++pins:=(Q8.mp hp).elim (λin1=>in1) λin2=>by cases in2
  obtain⟨q1,q2,q3,q4,q5⟩:=I.pin p hp';refine⟨hk _ _ q1,q2,Qz (Qk q1),λz=>?_,q5⟩;rcases Qm.mp (I.stkSub _ z) with w | w
  ·exact q3 w
  ·exact q4 w
 ·unfold prS
  show _=(tn++fr).length;rw[QN,QN,Jz,QX,S.len]
theorem vz{K:Qb}{He G H:Hp}{σ:L2.St}{ε:Ev}(n:Nat)(ix:List Nat)(E:EnvD K He G H σ ε):EnvD K He G H (prS n ix σ) (prE n ix ε):=by
 have look:∀{i:Nat} {s:Sl},(prE n ix ε)[i]?=some s->s=.un\/∃j d,n<=i/\ix[i-n]?=some j/\ε[j]?=some (.dat d)/\s=.dat d:=λ{i s} e=>by
  unfold prE at e
  by_cases h:i<n
  ·rw[Jk (by simpa using h),Jq,if_pos h] at e
   cases e;exact .inl rfl
  ·rw[Q5 (by simpa using h),Jz,QK] at e
   obtain⟨j,e1,rfl⟩:=bz e;rw[show ε.getD j .un=(ε[j]?).getD .un from Jw];cases q:ε[j]? with
   |none=>exact .inl rfl
   |some sl=>
    cases sl with
    |un=>exact .inl rfl
    |own ds=>exact .inl rfl
    |odi ds=>exact .inl rfl
    |dat d=>exact .inr ⟨j,d,by lia,e1,q,rfl⟩
 refine⟨by simp[prS,prE],λ{i d} e=>?_,λ{i ds} e=>?_,λ{i j ds es a} e _ _ _=>?_,λ{i ds} e=>?_,λ{i j ds es a} e _ _ _=>?_⟩
 ·rcases look e with z | ⟨j,d',h1,h2,h3,h4⟩
  ·cases z
  ·cases h4
   obtain⟨v,w1,w2⟩:=E.dat h3;refine⟨v,?_,w2⟩;unfold prS;rw[Q5 (by simpa using h1),Jz,QK,h2];show some (σ.getD j none)=_;rw[Jw,w1];rfl
 ·rcases look e with z | ⟨j,d',h1,h2,h3,h4⟩
  ·cases z
  ·cases h4
 ·rcases look e with z | ⟨j,d',h1,h2,h3,h4⟩
  ·cases z
  ·cases h4
 ·rcases look e with z | ⟨j,d',h1,h2,h3,h4⟩
  ·cases z
  ·cases h4
 ·rcases look e with z | ⟨j,d',h1,h2,h3,h4⟩
  ·cases z
  ·cases h4
def NoO(ε:Ev):Prop:=∀(j:Nat) es,ε[j]?≠some (.own es)
def NoG(g:D->Ev->Option Ev):Prop:=∀d ε ε',g d ε=some ε'->NoO ε->NoO ε'
def xh(g:List D->Ev->Option Ev):Prop:=∀d ε ε',g d ε=some ε'->NoO ε->NoO ε'
theorem eJ(i:Nat):NoG (az i):=λd ε ε' e h j es q=>by
 cases e;rw[QL] at q;split at q
 ·split at q<;>cases q
 ·exact h j es q
theorem nL:xh cI:=λd ε ε' e h=>by
 unfold cI at e;split at e
 ·cases e;exact h
 ·cases e
theorem gF{g1:D->Ev->Option Ev}{g2:List D->Ev->Option Ev}(h1:NoG g1)(h2:xh g2):xh (aF g1 g2):=λd ε ε' e h=>by
 unfold aF at e;split at e
 ·obtain⟨ε1,e1,e⟩:=aw e
  exact h2 _ _ _ e (h1 _ _ _ e1 h)
 ·cases e
theorem qY{n:Nat}{g:List D->Ev->Option Ev}(h:xh g):NoG (i8 n g):=λd ε ε' e hn=>by
 unfold i8 at e;split at e
 ·split at e
  ·exact h _ _ _ e hn
  ·cases e
 ·cases e
theorem yF(n:Nat)(ix:List Nat)(ε:Ev):NoO (prE n ix ε):=λi es e=>by
 unfold prE at e
 by_cases h:i<n
 ·rw[Jk (by simpa using h),Jq,if_pos h] at e
  cases e
 ·rw[Q5 (by simpa using h),Jz,QK] at e
  obtain⟨j,e1,e2⟩:=bz e
  revert e2
  cases ε.getD j .un<;>intro z<;>cases z
def DIf(X:Cx)(ifs:List Expr)(f:Ev->Option Bool):Prop:=∃t:TT,(∀(pins:List (Addr×Obj)) (s:Qd) (σ:L2.St) (H:Hp) (Q:Bool->Hp->Prop),Inv X pins σ H s->t σ H Q->
  Qf (Qh X.prog X.w) X.A (forIn ifs true λc r=>if r=true then do let ok<-isTrue c X.env (eval c X.env);pure (ForInStep.yield ok) else pure (ForInStep.yield r)) (TP X pins σ Q) X.xe s)/\
 ∀(He G H:Hp) (σ:L2.St) (ε:Ev) (b:Bool) (Q:Bool->Hp->Prop),aD G H->EnvD X.K He G H σ ε->f ε=some b->(∀G' H',Grow G H G' H'->Q b H')->t σ H Q
def lB:Ev->Option Bool:=λ_=>some true
theorem oF{X:Cx}:DIf X [] lB:=⟨λσ H Q=>Q true H,λpins s σ H Q I h=>wpAny_tests_nil ⟨H,I,h⟩,λHe G H σ ε b Q gh E e q=>by cases e;exact q G H (.refl gh)⟩
theorem wK{X:Cx}{c:Expr}{f:Ev->Option Bool}(h:DT X c f):DIf X [c] f:=by
 obtain⟨t,h1,h2⟩:=h;exact⟨t,λpins s σ H Q I hq=>wpAny_tests_one (h1 pins s σ H Q I hq),h2⟩
def lcD(g:D->Ev->Option Ev)(ft:Ev->Option Bool)(fe:Ev->Option D):List D->Ev->Option (List D)
 |[],_=>some []
 |d::ds,ε=>(g d ε).bind λε1=>(ft ε1).bind λk=>if k=true then(fe ε1).bind λv=>(lcD g ft fe ds ε1).bind λr=>some (v::r) else lcD g ft fe ds ε1
theorem iN{prog:Qq}{w:Qw}{A:QC}{R:Result->Qd->Prop}{t0:Qd}{elt tg iter:Expr}{ifs:List Expr}{sc:Scope}{pos:Pos}{it acc:Qa}{ce:Env}(J:Nat->Qd->Prop)
  (step:∀k t,J k t->Qf (Qh prog w) A (pyNext it) (λo t1=>match o with | none=>R (.ok .next) t1 | some v=>Qf (Qh prog w) A (letOwnedTupleGo tg it v) (λ_ t2=>Qf (Qh prog w) A (assign tg ce v) (λ_ t3=>
   Qf (Qh prog w) A (forIn ifs true λc r=>if r=true then do let ok<-isTrue c ce (eval c ce);pure (ForInStep.yield ok) else pure (ForInStep.yield r)) (λyes t4=>if yes=true then Qf (Qh prog w) A (eval elt ce) (λx t5=>
    Qf (Qh prog w) A (call (.builtin "list.append") [acc,x]) (λ_ t6=>∃j,j<k/\J j t6) (λ_ _=>False) t5) (λ_ _=>False) t4 else ∃j,j<k/\J j t4) (λ_ _=>False) t3) (λ_ _=>False) t2) (λ_ _=>False) t1) (λ_ _=>False) t)
  (k0:Nat) (h0:J k0 t0):codeAny (Qh prog w) A (.compLoop (.ListComp elt [⟨tg,iter,ifs,0⟩] sc pos) 0 it acc ce) R t0:=by
 refine codeAny_loop rfl J (λk t hJ=>?_) k0 h0;show Qf _ A ((compTurn (.ListComp elt [⟨tg,iter,ifs,0⟩] sc pos) 0 it acc ce).onRaise (λx=>do noteFrame x ce;theTreesLotGoes x)) _ _ t;refine wpAny_noted ?_;rw[compTurn_list];refine Qc (ZH (Qc (Jb (step k t hJ) (λo t1 q1=>?_) λ_ _ z=>z.elim)));cases o with
 |none=>exact Qg q1
 |some v=>
  refine Qc (Jb q1 (λ_ t2 q2=>Qc (Jb q2 (λ_ t3 q3=>Qc (Jb q3 (λyes t4 q4=>?_) λ_ _ z=>z.elim)) λ_ _ z=>z.elim)) λ_ _ z=>z.elim);cases yes with
  |true=>exact Qc (Qc (Jb q4 (λx t5 q5=>Qc (Jb q5 (λ_ t6 q6=>Qg (Qg ⟨rfl,q6⟩)) λ_ _ z=>z.elim)) λ_ _ z=>z.elim))
  |false=>exact Qg ⟨rfl,q4⟩
section
variable{X:Cx}{elt tg iter:Expr}{ifs:List Expr}{sc:Scope}{cl:List (Str×Addr)}{tn fr:List Str}{ix:List Nat}{pos:Pos}{fi:Ev->Option (List D)}{g:D->Ev->Option Ev}{ft:Ev->Option Bool}{fe:Ev->Option D}
def DEp(Nv:Hp->Hp->V->Prop)(X:Cx)(e:Expr)(f:Ev->Option D):Prop:=∃t,PE X e t/\∀(He G H:Hp) (σ:L2.St) (ε:Ev) (d:D) (Q:VK),aD G H->EnvD X.K He G H σ ε->f ε=some d->
 (∀v G' H',Grow G H G' H'->Den X.K G' v d->Nv H G' v->Q v H')->t σ H Q
theorem DE.p{X:Cx}{e:Expr}{f:Ev->Option D}(h:DE X e f):DEp (λ_ _ _=>True) X e f:=
 let⟨t,h1,h2⟩:=h;⟨t,h1,λHe G H σ ε d Q gh E ef q=>h2 He G H σ ε d Q gh E ef λv G' H' g hd=>q v G' H' g hd trivial⟩
def tT(Nl:Hp->Hp->List V->Prop)(X:Cx)(pins:List (Addr×Obj))(σ:L2.St)(G H:Hp)(ds:List D)(RR:Qa->Addr->Result->Qd->Prop):Prop:=
 ∀(a:Addr) (xs:List V) (G' H':Hp) (C:Addr) (oC:Obj) (m:Str->Option Qa) (s':Qd),Inv X (pins++[(C,oC)]) σ H' s'->s'.heap.Ns C m->X.s₀.heap.objs.size<=C->(∀p∈X.pn++pins,p.1≠C)->
  Grow G H G' H'->H a=none->G' a=none->H' a=some (.lst xs)->DenL X.K G' xs ds->Nl H G' xs->RR (.ref a) C (.ok .next) s'
variable{Nv:Hp->Hp->V->Prop}{Nl:Hp->Hp->List V->Prop}(n0:∀H G,Nl H G [])(nm:∀H G G' xs,aD G G'->Nl H G xs->Nl H G' xs)(ns:∀H H1 G G' xs v,aD H H1->aD G H1->aD G G'->Nl H G xs->Nv H1 G' v->Nl H G' (xs++[v]))
include n0 nm ns
theorem oO{pins:List (Addr×Obj)}{σ:L2.St}{H He G G1 H3:Hp}{s3:Qd}{ε:Ev}{ds rs:List D}{RR:Qa->Addr->Result->Qd->Prop}{it Dd:Addr}{fp:List Addr}{tn':Nat->Heap->Prop}{J:It}{h₁:Heap}{m:Str->Option Qa}{tk:Nat}
  (hc:X.calm=true) (S:CompSc X sc cl tn fr ix) (ng:NoG g)
  (hg:∀C s₃ H₃ fp pins,DG (cxC X sc cl (tn++fr) C s₃ H₃ fp pins) tg g) (ht:∀C s₃ H₃ fp pins,DIf (cxC X sc cl (tn++fr) C s₃ H₃ fp pins) ifs ft) (he:∀C s₃ H₃ fp pins,DEp Nv (cxC X sc cl (tn++fr) C s₃ H₃ fp pins) elt fe)
  (I3:Inv X pins σ H3 s3) (E:EnvD X.K He G H σ ε) (hz:ds.length<1000000) (er:lcD g ft fe ds (prE tn.length ix ε)=some rs) (after:tT Nl X pins σ G H rs RR)
  (T:Turn X.prog X.w X.K tg J fp it tn') (itd:ItD X.K J ds G1) (f3:∀b∈fp,jU X pins H3 b) (lt3:∀b∈fp,b<s3.heap.objs.size) (st3:tn' 0 s3.heap) (gr3:Grow G H G1 H3)
  (eD:H3 Dd=some (.lst [])) (nD:H Dd=none) (gD:G1 Dd=none) (hn:h₁.Ns s3.heap.objs.size m) (hk:∀b o,s3.heap.get? b=some o->h₁.get? b=some o) :
  codeAny (Qh X.prog X.w) X.A (.compStart (.ListComp elt [⟨tg,iter,ifs,0⟩] sc pos) 0 (.ref it) (.ref Dd) (compEnvC sc cl s3.heap.objs.size X.env)) (RR (.ref Dd) s3.heap.objs.size) { s3 with heap:=h₁,toks:=tk }:=by
 have I4:=uQ (tk:=tk) S hc I3 f3 lt3 hn hk;have st4:tn' 0 h₁:=T.keep _ _ _ st3 λb hb o e=>hk b o e;obtain⟨tgt,g1,g2⟩:=hg s3.heap.objs.size s3 H3 fp pins;obtain⟨tt,t1,t2⟩:=ht s3.heap.objs.size s3 H3 fp pins;obtain⟨te,e1,e2⟩:=he s3.heap.objs.size s3 H3 fp pins
 have stat:∀{H':Hp},(∀b∈fp,H' b=none)->∀b∈fp,jU (cxC X sc cl (tn++fr) s3.heap.objs.size s3 H3 fp pins) [] H' b:=λ{H'} hn b hb=>by
  obtain⟨_,q1,q2,q3,q4,q5⟩:=f3 b hb;refine⟨hn b hb,Qz (lt3 b hb),λz=>?_,.inl hb,λx c e=>q4 x c (S.sub x c e),λp hp=>q5 p ?_⟩
  ·rcases Qm.mp (I3.stkSub b z) with w | w
   ·exact q1 w
   ·exact q2 w
  ·rcases Q8.mp hp with w | w
   ·exact w
   ·cases w
 have loop:∀s':Qd,s'={ s3 with heap:=h₁,toks:=tk }->codeAny (Qh X.prog X.w) X.A (.compLoop (.ListComp elt [⟨tg,iter,ifs,0⟩] sc pos) 0 (.ref it) (.ref Dd) (compEnvC sc cl s3.heap.objs.size X.env)) (RR (.ref Dd) s3.heap.objs.size) s':=by
  rintro s' rfl
  refine iN (λn s'=>∃(i:Nat) (σ':L2.St) (G' H':Hp) (ε':Ev) (xs:List V) (dn rest:List D),n=ds.length+1-i/\i<=ds.length/\Inv (cxC X sc cl (tn++fr) s3.heap.objs.size s3 H3 fp pins) [] σ' H' s'/\tn' i s'.heap/\(∀b∈fp,H' b=none)/\
   Grow G H G' H'/\aD G1 G'/\EnvD X.K He G' H' σ' ε'/\NoO ε'/\H' Dd=some (.lst xs)/\G' Dd=none/\DenL X.K G' xs dn/\Nl H G' xs/\xs.length<=i/\lcD g ft fe (ds.drop i) ε'=some rest/\rs=dn++rest) ?_ (ds.length+1)
   ⟨0,_,G1,H3,_,[],[],rs,rfl,QA _,I4,st4,λb hb=>(f3 b hb).1,gr3,aD.refl _,vz tn.length ix (E.grow gr3),yF _ _ _,eD,gD,.nil,n0 _ _,Qi _,by simpa using er,rfl⟩
  rintro n s5 ⟨i,σ',G',H',ε',xs,dn,rest,rfl,hi,I5,st5,fr5,gr5,sG,E5,no5,hD,hGD,hden,hNv,hxl,el,ers⟩;obtain⟨go,stop,yld⟩:=itd i H' (sG.trans gr5.gh)
  by_cases hlt:i<ds.length
  ·refine thn (T.item (cxC X sc cl (tn++fr) s3.heap.objs.size s3 H3 fp pins) rfl rfl rfl rfl i [] s5 σ' H' (λ_ _=>False) I5 (stat fr5) st5 (go hlt)) λr s6 ⟨u,hr,h6⟩=>?_
   subst hr;refine thn h6 λ_ s7 ⟨x,H7,I7,r7,y7,st7,fr7⟩=>?_;have I7':=I7.pinned (stat fr7) (T.obj _ _ st7);have ed:ds[i]?=some ds[i]:=by simp[hlt]
   obtain⟨G7,gr7,dx⟩:=yld x H7 y7 _ ed G' sG gr5.gh;rw[List.drop_eq_getElem_cons hlt] at el;obtain⟨ε8,e8,el⟩:=aw el;obtain⟨k,e9,el⟩:=aw el;refine thn (g1 _ s7 σ' H7 x u (λσ8 H8=>H8=H7/\EnvD X.K He G7 H7 σ8 ε8) I7' r7 (g2 He G7 H7 σ' ε' ε8 x ds[i] _ gr7.gh (E5.grow gr7) dx e8 λσ8 E8=>⟨rfl,E8⟩)) λ_ s8 ⟨σ8,H8,I8,e10,E8⟩=>?_;subst e10;refine thn (t1 _ s8 σ8 H8 (λb H9=>b=k/\∃G9,Grow G7 H8 G9 H9) I8 (t2 He G7 H8 σ8 ε8 k _ gr7.gh E8 e9 λG9 H9 gr9=>⟨rfl,G9,gr9⟩)) λok s9 ⟨H9,I9,ek,G9,gr9⟩=>?_;subst ek
   have again:∀{s10:Qd} {G10 H10:Hp} {ys:List V} {dn' rest':List D},Inv (cxC X sc cl (tn++fr) s3.heap.objs.size s3 H3 fp pins) ([]++lg fp s7.heap) σ8 H10 s10->Grow G H G10 H10->aD G1 G10->EnvD X.K He G10 H10 σ8 ε8->H10 Dd=some (.lst ys)->G10 Dd=none->DenL X.K G10 ys dn'->Nl H G10 ys->ys.length<=i+1->
     lcD g ft fe (ds.drop (i+1)) ε8=some rest'->rs=dn'++rest'->∃m,m<ds.length+1-i/\∃(i:Nat) (σ':L2.St) (G' H':Hp) (ε':Ev) (xs:List V) (dn rest:List D),m=ds.length+1-i/\i<=ds.length/\Inv (cxC X sc cl (tn++fr) s3.heap.objs.size s3 H3 fp pins) [] σ' H' s10/\tn' i s10.heap/\(∀b∈fp,H' b=none)/\
   Grow G H G' H'/\aD G1 G'/\EnvD X.K He G' H' σ' ε'/\NoO ε'/\H' Dd=some (.lst xs)/\G' Dd=none/\DenL X.K G' xs dn/\Nl H G' xs/\xs.length<=i/\lcD g ft fe (ds.drop i) ε'=some rest/\rs=dn++rest:=λ{s10 G10 H10 ys dn' rest'} I10 gr10 sG10 E10 hD10 hG10 den10 nv10 len10 el10 ers10=>by
    refine⟨ds.length+1-(i+1),by lia,i+1,σ8,G10,H10,ε8,ys,dn',rest',rfl,hlt,I10.unpinned,T.keep _ _ _ st7 λb hb o e=>(I10.pin (b,o) (Qu _ (Qu _ (gL hb e)))).1,λb hb=>?_,gr10,sG10,E10,ng _ _ _ e8 no5,hD10,hG10,den10,nv10,len10,el10,ers10⟩;obtain⟨o,e,d⟩:=T.obj _ _ st7 b hb;exact(I10.pin (b,o) (Qu _ (Qu _ (gL hb e)))).2.1
   have gr9':=gr5.trans (gr7.trans gr9);have sG9:aD G1 G9:=sG.trans (gr7.gg.trans gr9.gg);have hD9:H9 Dd=some (.lst xs):=gr9.hh _ _ (gr7.hh _ _ hD);have hG9:G9 Dd=none:=gr9.fo _ _ (gr7.hh _ _ hD) (gr7.fo _ _ hD hGD);cases ok with
   |false=>
    rw[if_neg Qo] at el;rw[if_neg Qo];exact again I9 gr9' sG9 (E8.grow gr9) hD9 hG9 (hden.mono (gr7.gg.trans gr9.gg)) (nm _ _ _ _ (gr7.gg.trans gr9.gg) hNv) (by lia) el ers
   |true=>
    rw[if_pos rfl] at el;rw[if_pos rfl];obtain⟨vd,e11,el⟩:=aw el;obtain⟨rest',e12,el⟩:=aw el;cases el;refine thn (e1 _ s9 σ8 H9 (λy H10=>∃G10,Grow G9 H9 G10 H10/\Den X.K G10 y vd/\Nv H9 G10 y) I9 (e2 He G9 H9 σ8 ε8 vd _ gr9.gh (E8.grow gr9) e11 λy G10 H10 gr10 dy ny=>⟨G10,gr10,dy,ny⟩)) λuv s10 ⟨y,H10,I10,r10,G10,gr10,dy,ny⟩=>?_;have hD10:=gr10.hh _ _ hD9;have hG10:=gr10.fo _ _ hD9 hG9;have hl:xs.length<Qj:=QI hxl (Jv (Jv hlt hz) (by decide));refine thn (gz _ s10 σ8 H10 (.ref Dd) [y] (.ref Dd) [uv] (λ_ H11=>H11=upd H10 Dd (.lst (xs++[y]))) I10 rfl (.cons r10 .nil) ⟨Dd,xs,y,rfl,rfl,hD10,hl,rfl⟩) λ_ s11 ⟨_,H11,I11,_,e13⟩=>?_;subst e13;have gr10':=gr9'.trans gr10;have keep:∀{b:Addr} {o:HO},b≠Dd->H10 b=some o->upd H10 Dd (.lst (xs++[y])) b=some o:=λ{b o} nb e=>by rw[ao nb];exact e
    refine again I11 ⟨λb o e=>keep (ak e nD) (gr10'.hh b o e),gr10'.gg,λb o e=>keep (ak e hG10) (gr10'.gh b o e),gr10'.fo⟩ (sG9.trans gr10.gg) ?_ upd_same hG10 (((hden.mono (gr7.gg.trans gr9.gg)).mono gr10.gg).append (.one dy)) (ns _ _ _ _ _ _ gr9'.hh gr9.gh gr10.gg (nm _ _ _ _ (gr7.gg.trans gr9.gg) hNv) ny) (by rw[QN];simp;lia) e12 (by rw[ers];simp);have E10:=(E8.grow gr9).grow gr10
    exact⟨E10.len,E10.dat,λ{j es} e=>by
     obtain⟨b,zs,w1,w2,w3,w4,w5⟩:=E10.own e;exact(ng _ _ _ e8 no5 _ _ e).elim,E10.apart,λ{j es} e=>by
     obtain⟨b,zs,ep,w1,w2,w3,w4,w5,w6⟩:=E10.odi e
     exact⟨b,zs,ep,w1,keep (λq=>by subst q;rw[hD10] at w2;cases w2) w2,w3,w4,w5,w6⟩,E10.apartD⟩
  ·have e5:i=ds.length:=by lia
   subst e5;rw[List.drop_length] at el;cases el;refine thn (T.done (cxC X sc cl (tn++fr) s3.heap.objs.size s3 H3 fp pins) rfl rfl rfl rfl ds.length [] s5 σ' H' (λ_ _=>False) I5 (stat fr5) st5 (stop (Qi _))) λr s6 ⟨hr,I6⟩=>?_;subst hr;obtain⟨m6,⟨oC,es,ep,ho,hdt,hrest⟩,_⟩:=id I6.loc;have IX:Inv X pins σ H' s6:=I3.call' I6.os I6.base I6.hok I6.bare λb hb=>⟨(f3 b hb).2.2.2.1,(f3 b hb).2.1,(f3 b hb).2.2.2.2.1,(f3 b hb).2.2.2.2.2⟩;have pC:∀p∈X.pn++pins,p.1≠s3.heap.objs.size:=λp hp=>Qz (Qk (I3.pin p hp).1)
   have IX':Inv X (pins++[(s3.heap.objs.size,oC)]) σ H' s6:=IX.pins_of λp hp=>by
    rcases Q8.mp hp with older | newer
    ·exact IX.pin p (Qu _ older)
    ·rw[QW.mp newer]
     exact⟨ho,I6.free,Ne.symm (Qz I3.lt),I3.nofs (Qi _),λv q=>by rw[hdt] at q;cases q⟩
   exact after Dd xs G' H' s3.heap.objs.size oC m6 s6 IX' ⟨oC,es,ep,ho,hdt,hrest⟩ I3.sz pC gr5 nD hGD hD (by rw[ers,JX];exact hden) hNv
 exact codeAny_compStart_list (loop _ rfl) (T.self X.A 0 _ _ _ st4 (loop _ rfl))
theorem rP{pins:List (Addr×Obj)}{σ:L2.St}{H He G:Hp}{s:Qd}{ε:Ev}{ds rs:List D}{RR:Qa->Addr->Result->Qd->Prop}(hc:X.calm=true)(hi:DI X tg iter fi)(S:CompSc X sc cl tn fr ix)(ng:NoG g)
  (hg:∀C s₃ H₃ fp pins,DG (cxC X sc cl (tn++fr) C s₃ H₃ fp pins) tg g) (ht:∀C s₃ H₃ fp pins,DIf (cxC X sc cl (tn++fr) C s₃ H₃ fp pins) ifs ft) (he:∀C s₃ H₃ fp pins,DEp Nv (cxC X sc cl (tn++fr) C s₃ H₃ fp pins) elt fe)
  (I:Inv X pins σ H s) (gh:aD G H) (E:EnvD X.K He G H σ ε) (ei:fi ε=some ds) (hz:ds.length<1000000) (er:lcD g ft fe ds (prE tn.length ix ε)=some rs) (after:tT Nl X pins σ G H rs RR) :
  Qf (Qh X.prog X.w) X.A (eval iter X.env) (λx s₁=>Qf (Qh X.prog X.w) X.A (pyIter x) (λit s₂=>Qf (Qh X.prog X.w) X.A (newList []) (λacc s₃=>
   Qf (Qh X.prog X.w) X.A (newFunctionEnv sc X.env.globals cl [] X.env.qual none .none (some X.env)) (λcenv s₄=>
    codeAny (Qh X.prog X.w) X.A (.compStart (.ListComp elt [⟨tg,iter,ifs,0⟩] sc pos) 0 it acc { cenv with scope:=relabel sc X.env }) (RR acc cenv.locals) s₄) X.xe s₃) X.xe s₂) X.xe s₁) X.xe s:=by
 obtain⟨wi,i1,i2⟩:=hi;refine thn (i1 pins s σ H (λJ H'=>∃G1,Grow G H G1 H'/\ItD X.K J ds G1) I (i2 He G H σ ε ds _ gh E ei λJ G' H' gr itd=>⟨G',gr,itd⟩)) λv s1 h1=>thn h1 λitv s2 h2=>?_;obtain⟨it,fp,tn',J,H2,rfl,I2,T,st2,f2,G1,gr,itd⟩:=h2;refine Jg (wpAny_newFunctionEnv S.nocell (by intro y hy;simp at hy) (λh₁ hns₁ hsb₁=>?_) S.kind);dsimp only at hns₁ hsb₁ ⊢;have fr2:H2 s2.heap.objs.size=none:=I2.hok.fresh (Qi _)
 have I3:Inv X pins σ (upd H2 s2.heap.objs.size (.lst [])) { s2 with heap:=s2.heap.push { cls:=.type "list",dict:=none,data:=.seq ([]:List Qa).toArray } }:=
  I2.laid (t':=s2.toks) (o:=.lst []) (λb ob q=>Qe _ q) (Qi _) ⟨QA _,[],0,.nil,Qp _ rfl⟩
 have fpD:∀b∈fp,b≠s2.heap.objs.size:=λb hb z=>by
  obtain⟨o,e,_⟩:=T.obj 0 _ st2 b hb;exact absurd (Qk e) (by rw[z];exact Jm _)
 have f3:∀b∈fp,jU X pins (upd H2 s2.heap.objs.size (.lst [])) b:=λb hb=>⟨by rw[ao (fpD b hb)];exact(f2 b hb).1,(f2 b hb).2⟩
 have lt3:∀b∈fp,b<(s2.heap.push { cls:=.type "list",dict:=none,data:=.seq ([]:List Qa).toArray }).objs.size:=λb hb=>by
  obtain⟨o,e,_⟩:=T.obj 0 _ st2 b hb;rw[Jd];exact Nat.lt_succ_of_lt (Qk e)
 have st3:tn' 0 (s2.heap.push { cls:=.type "list",dict:=none,data:=.seq ([]:List Qa).toArray }):=T.keep _ _ _ st2 λb hb o e=>Qe _ e;have gr3:Grow G H G1 (upd H2 s2.heap.objs.size (.lst [])):=gr.trans (.lay _ gr.gh fr2);have nD:H s2.heap.objs.size=none:=gr.hh.free fr2;have gD:G1 s2.heap.objs.size=none:=gr.gh.free fr2;exact oO n0 nm ns (s3:={ s2 with heap:=s2.heap.push { cls:=.type "list",dict:=none,data:=.seq ([]:List Qa).toArray } }) hc S ng hg ht he I3 E hz er after T itd f3 lt3 st3 gr3 upd_same nD gD hns₁ λb o e=>hsb₁.extBut b o (Qz (Qk e)) (Qe _ e)
omit n0 nm ns
theorem ou{pins:List (Addr×Obj)}{σ:L2.St}{H':Hp}{s':Qd}{C:Addr}{oC:Obj}{h':Heap}(IX:Inv X (pins++[(C,oC)]) σ H' s')(hC:X.s₀.heap.objs.size<=C)(pC:∀p∈X.pn++pins,p.1≠C)(hs:JF C s'.heap h') :
  Inv X pins σ H' { s' with heap:=h' }:=by
 obtain⟨q1,q2,q3,q4,q5⟩:=IX.pin (C,oC) (Qu _ (Qu _ (QW.mpr rfl)));refine IX.unpinned.turned (t':=s'.toks) (it:=C) (λb o hb e=>hs.extBut b o hb e) q2 q3 (.inr hC) (λx c e z=>?_) pC;obtain⟨v,w⟩:=IX.cell x c e;rw[z] at w;obtain⟨o,w1,w2⟩:=id w;rw[q1] at w1;cases w1;exact q5 _ w2
def eLC(fi:Ev->Option (List D))(n:Nat)(ix:List Nat)(g:D->Ev->Option Ev)(ft:Ev->Option Bool)(fe:Ev->Option D):Ev->Option (List D):=λε=>(fi ε).bind λds=>if ds.length<1000000 then lcD g ft fe ds (prE n ix ε) else none
include n0 nm ns in
theorem yd(hc:X.calm=true)(hi:DI X tg iter fi)(S:CompSc X sc cl tn fr ix)(ng:NoG g)
  (hg:∀C s₃ H₃ fp pins,DG (cxC X sc cl (tn++fr) C s₃ H₃ fp pins) tg g) (ht:∀C s₃ H₃ fp pins,DIf (cxC X sc cl (tn++fr) C s₃ H₃ fp pins) ifs ft) (he:∀C s₃ H₃ fp pins,DEp Nv (cxC X sc cl (tn++fr) C s₃ H₃ fp pins) elt fe)
  (hs:∀x,JI iter X.env x=pure x:=by intro _;rfl):∃t,PE X (.ListComp elt [⟨tg,iter,ifs,0⟩] sc pos) t/\∀(He G H:Hp) (σ:L2.St) (ε:Ev) (ds:List D) (Q:VK),aD G H->EnvD X.K He G H σ ε->eLC fi tn.length ix g ft fe ε=some ds->
   (∀a xs G' H',Grow G H G' H'->H a=none->G' a=none->H' a=some (.lst xs)->DenL X.K G' xs ds->Nl H G' xs->Q (.ref a) H')->t σ H Q:=by
 refine⟨λσ H Q=>∃He G ε rs,aD G H/\EnvD X.K He G H σ ε/\eLC fi tn.length ix g ft fe ε=some rs/\∀a xs G' H',Grow G H G' H'->H a=none->G' a=none->H' a=some (.lst xs)->DenL X.K G' xs rs->Nl H G' xs->Q (.ref a) H',λpins s σ H Q I hq=>?_,
  λHe G H σ ε ds Q gh E ef q=>⟨He,G,ε,ds,gh,E,ef,q⟩⟩
 obtain⟨He,G,ε,rs,gh,E,ef,q⟩:=hq;obtain⟨ds,ei,ef⟩:=aw ef;split at ef
 ·rename_i hz
  rw[eval_ListComp];refine wpAny_comprehension_free (use:=none) rfl hs S.clos S.kind S.names (rP n0 nm ns (RR:=λacc C=>compPost (Qh X.prog X.w) X.A X.xe none (EP X pins σ Q) acc C) hc hi S ng hg ht he I gh E ei hz ef ?_);intro a xs G' H' C oC m s' IX hNs hC pC gr hn gn ha hd nv;exact⟨m,hNs,λh' hs'=>⟨.ref a,H',ou IX hC pC hs',rfl,q a xs G' H' gr hn gn ha hd nv⟩⟩
 ·cases ef
theorem xr(hc:X.calm=true)(hi:DI X tg iter fi)(S:CompSc X sc cl tn fr ix)(ng:NoG g)
  (hg:∀C s₃ H₃ fp pins,DG (cxC X sc cl (tn++fr) C s₃ H₃ fp pins) tg g) (ht:∀C s₃ H₃ fp pins,DIf (cxC X sc cl (tn++fr) C s₃ H₃ fp pins) ifs ft) (he:∀C s₃ H₃ fp pins,DE (cxC X sc cl (tn++fr) C s₃ H₃ fp pins) elt fe)
  (hs:∀x,JI iter X.env x=pure x:=by intro _;rfl):DF X (.ListComp elt [⟨tg,iter,ifs,0⟩] sc pos) (eLC fi tn.length ix g ft fe):=
 let⟨t,h1,h2⟩:=yd (Nv:=λ_ _ _=>True) (Nl:=λ_ _ _=>True) (λ_ _=>trivial) (λ_ _ _ _ _ _=>trivial) (λ_ _ _ _ _ _ _ _ _ _ _=>trivial) hc hi S ng hg ht (λC s H f p=>(he C s H f p).p) hs
 ⟨t,h1,λHe G H σ ε ds Q gh E ef q=>h2 He G H σ ε ds Q gh E ef λa xs G' H' g n1 n2 h3 d3 _=>q a xs G' H' g n1 n2 h3 d3⟩
theorem yl{i:Nat}{y:Str}{py spos:Pos}{W':Ends->L2.St->Hp->Prop}{gg:Ev->Option Fl}(hc:X.calm=true)(hN:X.N.Nodup)(hi:DI X tg iter fi)(S:CompSc X sc cl tn fr ix)(ng:NoG g)
  (hg:∀C s₃ H₃ fp pins,DG (cxC X sc cl (tn++fr) C s₃ H₃ fp pins) tg g) (ht:∀C s₃ H₃ fp pins,DIf (cxC X sc cl (tn++fr) C s₃ H₃ fp pins) ifs ft) (he:∀C s₃ H₃ fp pins,DE (cxC X sc cl (tn++fr) C s₃ H₃ fp pins) elt fe)
  (hiN:X.N[i]?=some y) (hx:Loc X.env.scope y) (hf:X.fn y=true\/X.env.scope.names.lookup y=some .local) (hsw:JT (.ListComp elt [⟨tg,iter,ifs,0⟩] sc pos) (some (.Name y py)) spos.line X.env=pure true)
  (hs:∀x,JI iter X.env x=pure x)
  (hgg:∀(He Ge G H:Hp) (σ:L2.St) (ε:Ev) (r:Fl) (W:Ends),Sta X.K He Ge G H σ ε->gg ε=some r->we X He Ge r W->∃rs,eLC fi tn.length ix g ft fe ε=some rs/\∀a xs G' H',Grow G H G' H'->H a=none->G' a=none->H' a=some (.lst xs)->DenL X.K G' xs rs->W.nx (σ.set i (some (.ref a))) H') :
  DS X (.Assign [.Name y py] (.ListComp elt [⟨tg,iter,ifs,0⟩] sc pos) spos) gg:=by
 refine⟨λW σ H=>∃He G ε rs,aD G H/\EnvD X.K He G H σ ε/\eLC fi tn.length ix g ft fe ε=some rs/\∀a xs G' H',Grow G H G' H'->H a=none->G' a=none->H' a=some (.lst xs)->DenL X.K G' xs rs->W.nx (σ.set i (some (.ref a))) H',λpins s σ H W I hq=>?_,
  λHe Ge G H σ ε r W S' e P=>let⟨rs,e1,e2⟩:=hgg He Ge G H σ ε r W S' e P;⟨He,G,ε,rs,S'.g.gh,S'.e,e1,e2⟩⟩
 obtain⟨He,G,ε,rs,gh,E,ef,q⟩:=hq;obtain⟨ds,ei,ef⟩:=aw ef;split at ef
 ·rename_i hz
  rw[exec_Assign_Name_used _ _ _ _ hsw];refine Qc (ZH (Qc ?_));show Qf _ X.A (do let _<-comprehension (.ListComp elt [⟨tg,iter,ifs,0⟩] sc pos) sc X.env _ (newList []) false (eval iter X.env) (some (assign (.Name y py) X.env))) _ _ s
  refine Qc (Jb (wpAny_comprehension_free (use:=some (assign (.Name y py) X.env)) (Q:=λ_ s'=>SP X pins W .next s') rfl hs S.clos S.kind S.names
   (rP (Nv:=λ_ _ _=>True) (Nl:=λ_ _ _=>True) (λ_ _=>trivial) (λ_ _ _ _ _ _=>trivial) (λ_ _ _ _ _ _ _ _ _ _ _=>trivial) (RR:=λacc C=>compPost (Qh X.prog X.w) X.A X.xe (some (assign (.Name y py) X.env)) (λ_ s'=>SP X pins W .next s') acc C) hc hi S ng hg ht (λC s H f p=>(he C s H f p).p) I gh E ei hz ef ?_)) (λ_ s' hq=>Qg (Qg hq)) λ_ _ e=>e)
  intro a xs G' H' C oC m s' IX hNs hC pC gr hn gn ha hd _;show Qf _ X.A (assign (.Name y py) X.env (.ref a)) _ _ _;refine wpAny_assign_Name (iq IX hN hiN hx (v:=.ref a) (u:=.ref a) rfl (λs2 I2=>?_) hf);obtain⟨q1,_⟩:=IX.pin (C,oC) (Qu _ (Qu _ (QW.mpr rfl)));obtain⟨w1,_⟩:=I2.pin (C,oC) (Qu _ (Qu _ (QW.mpr rfl)));refine⟨m,?_,λh' hs'=>⟨_,H',ou I2 hC pC hs',q a xs G' H' gr hn gn ha hd⟩⟩;obtain⟨o,es,ep,h1,h2⟩:=hNs;rw[q1] at h1;cases h1;exact⟨oC,es,ep,w1,h2⟩
 ·cases ef
theorem yK(i:Nat){y:Str}{py spos:Pos}(hc:X.calm=true)(hN:X.N.Nodup)(hi:DI X tg iter fi)(S:CompSc X sc cl tn fr ix)(ng:NoG g)
  (hg:∀C s₃ H₃ fp pins,DG (cxC X sc cl (tn++fr) C s₃ H₃ fp pins) tg g) (ht:∀C s₃ H₃ fp pins,DIf (cxC X sc cl (tn++fr) C s₃ H₃ fp pins) ifs ft) (he:∀C s₃ H₃ fp pins,DE (cxC X sc cl (tn++fr) C s₃ H₃ fp pins) elt fe)
  (hiN:X.N[i]?=some y:=by rfl) (hx:Loc X.env.scope y:=by first | exact Qs rfl | exact Ju rfl) (hf:X.fn y=true\/X.env.scope.names.lookup y=some .local:=by first | exact .inl rfl | exact .inr rfl) (hsw:JT (.ListComp elt [⟨tg,iter,ifs,0⟩] sc pos) (some (.Name y py)) spos.line X.env=pure true:=by rfl)
  (hs:∀x,JI iter X.env x=pure x:=by intro _;rfl):DS X (.Assign [.Name y py] (.ListComp elt [⟨tg,iter,ifs,0⟩] sc pos) spos) (kM i (eLC fi tn.length ix g ft fe)):=
 yl (i:=i) (W':=λ_ _ _=>True) hc hN hi S ng hg ht he hiN hx hf hsw hs λHe Ge G H σ ε r W S' e P=>by
  obtain⟨rs,e1,rfl⟩:=bz e;exact⟨rs,e1,λa xs G' H' gr hn gn ha hd=>P _ G' H' ⟨S'.g.trans gr,S'.e.putO gr S'.g.hh hn gn ha hd⟩⟩
end
section
variable{X:Cx}{a b c:Expr}{fa fb fc:Ev->Option D}{pos:Pos}
def xW(K:Qb):R2:=λx y H Q=>∃l b xs zs,x=.ref l/\y=.ref b/\SqL K H l xs/\SqL K H b zs/\xs.length+zs.length<=Qj/\∀p,H p=none->Q (.ref p) (upd H p (.lst (xs++zs)))
theorem kP:OpR X (Q2 .Add) (xW X.K):=by
 intro pins s σ H x y v u Q I rx ry h;obtain⟨l,b,xs,zs,rfl,rfl,hH,hB,hz,q⟩:=h;cases rx;cases ry;obtain⟨its,r,pl,z⟩:=I.list hH;obtain⟨its2,r2,pl2,z2⟩:=I.list hB;have hl:=r.length;have hl2:=r2.length;obtain⟨⟨cls,dd,data,sl⟩,ho,hc,n,hd⟩:=id pl.isList;obtain⟨⟨cls2,dd2,data2,sl2⟩,ho2,hc2,n2,hd2⟩:=id pl2.isList;simp only at hc hd hc2 hd2;subst hc hd hc2 hd2;have ea:its.toArray++its2.toArray=(its++its2).toArray:=by simp
 refine concat_meets ⟨_,ho,rfl⟩ ⟨_,ho2,rfl⟩ noFill_list_add seq_list_add PySem.F.slot_list_add PySem.F.entry_list_add (PySem.F.args_list_add_2 _ _) (list_addW l b its.toArray its2.toArray n n2 dd dd2 sl sl2 (by simp;lia)) ⟨ho,ho2,?_⟩;rw[ea];exact⟨.ref _,_,I.lnew (t':=s.toks) (r.append r2) (by rw[QN];lia),rfl,q _ I.fresh⟩
def zW(fa fb:Ev->Option D):Ev->Option (List D):=λε=>(fa ε).bind λx=>(fb ε).bind λy=>match x,y with | .lst xs,.lst ys=>if xs.length+ys.length<=1000000 then some (xs++ys) else none | _,_=>none
theorem yR(ha:DB X a fa)(hb:DB X b fb):DF X (.BinOp a .Add b pos) (zW fa fb):=by
 obtain⟨ta,a1,a2⟩:=ha;obtain⟨tb,b1,b2⟩:=hb;refine⟨_,gH kP a1 b1,λHe G H σ ε ds Q gh E ef q=>?_⟩;obtain⟨x,e1,ef⟩:=aw ef;obtain⟨y,e2,ef⟩:=aw ef;refine a2 He G H σ ε x _ gh E e1 λv G1 H1 g1 d1=>?_;refine b2 He G1 H1 σ ε y _ g1.gh (E.grow g1) e2 λu G2 H2 g2 d2=>?_;split at ef
 ·split at ef
  ·rename_i hz
   cases ef;obtain⟨p,xs,rfl,h1,h2⟩:=(d1.grow g2).lst g2.gh;obtain⟨p',ys,rfl,h3,h4⟩:=d2.lst g2.gh;have g:=g1.trans g2;refine⟨p,p',xs,ys,rfl,rfl,h1,h3,?_,λl hl=>q l _ G2 _ (g.trans (.lay _ g2.gh hl)) (g.hh.free hl) (g2.gnone hl) upd_same (h2.append h4)⟩;rw[h2.length,h4.length];exact QF hz (by decide)
  ·cases ef
 ·cases ef
theorem DenL.nil_iff{K:Qb}{G:Hp}{xs:List V}{ds:List D}(h:DenL K G xs ds):xs=[]↔ds=[]:=by cases h<;>simp
end
namespace CatI
def vJ:D->D->Option D:=λx y=>match x,y with | .tup (x0::xs),.tup (y0::ys)=>if xs.length+ys.length<=1000 then some (.tup (x0::xs++y0::ys)) else none | _,_=>none
end CatI
section
variable{X:Cx}{a b c:Expr}{fa fb fc:Ev->Option D}{pos:Pos}
theorem qq:OpD X (Q2 .Add) CatI.vJ:=⟨_,kY,λG H x y dx dy d Q gh hx hy e q=>by
 unfold CatI.vJ at e;split at e
 ·split at e
  ·rename_i hz
   cases e;obtain⟨p,xs,rfl,h0,h1,h2⟩:=hx.tup gh;obtain⟨p',ys,rfl,h3,h4,h5⟩:=hy.tup gh;have n1:xs≠[]:=λz=>by have:=h2.nil_iff.mp z;cases this
   have n2:ys≠[]:=λz=>by have:=h5.nil_iff.mp z;cases this
   refine⟨p,p',xs,ys,rfl,rfl,h1,h4,n1,?_,λz=>absurd z n2,λ_ l hl=>?_⟩
   ·rw[h2.length,h5.length]
    simp only[QD];exact QF (Nat.add_le_add (Qi _) (Qi _)) (le_line2 hz)
   ·have g:=Grow.new (.tup (xs++ys)) gh hl
    exact q _ _ _ g (.tup (SqT.of upd_same) ((h2.append h5).mono g.gg))
  ·cases e
 ·cases e⟩
where
 le_line2 {m n:Nat} (h:m+n<=1000):m+1+(n+1)<=Qj:=QF (by lia:m+1+(n+1)<=2000) (by decide)
theorem ke{p:Pos}(ha:DB X a fa)(hm:X.mg "tuple" = none)(hg:Gl X "tuple":=by rfl)(hst:Qn [a] X.env=(false,eval a X.env)::Qn [] X.env:=by rfl)(hpl:(Je pos (Qn [] X.env)).any (·.1)=false:=by rfl):DE X (.Call (.Name "tuple" p) [a] [] pos) (eQ (λd=>u_ [d]) fa):=by
 obtain⟨ta,a1,a2⟩:=ha;refine⟨_,bw jm hg hm (by rfl) (ag a1 ax hst) (by decide) (by decide) hst hpl,λHe G H σ ε d Q gh E ef q=>?_⟩;obtain⟨x,e1,ef⟩:=aw ef;refine a2 He G H σ ε x _ gh E e1 λv G1 H1 g1 d1=>?_;dsimp only[u_] at ef;split at ef
 ·rename_i xs0 e0
  cases e0;cases ef;obtain⟨p,xs,rfl,h1,h2⟩:=d1.lst g1.gh;refine⟨p,xs,rfl,.inl ⟨h1,λl hl=>?_⟩⟩;have g:=Grow.new (.tup xs) g1.gh hl;exact q _ _ _ (g1.trans g) (.tup (SqT.of upd_same) (h2.mono g.gg))
 ·rename_i xs0 e0
  cases e0;cases ef;obtain⟨p,xs,rfl,h0,h1,h2⟩:=d1.tup g1.gh;exact⟨p,xs,rfl,.inr ⟨h1,q _ _ _ g1 (.tup h0 h2)⟩⟩
 ·cases ef
abbrev Ch:=D->Ev->Option D
def PCh(X:Cx)(ops:List CmpOp)(es:List Expr)(t:V->TE):Prop:=
 ∀(cp:Pos) (pins:List (Addr×Obj)) (s:Qd) (σ:L2.St) (H:Hp) (x:V) (v:Qa) (Q:VK),Inv X pins σ H s->aV x v->t x σ H Q->Qf (Qh X.prog X.w) X.A (compareChain cp v ops (evalEach es X.env)) (EP X pins σ Q) X.xe s
def DCh(X:Cx)(ops:List CmpOp)(es:List Expr)(f:Ch):Prop:=∃t,PCh X ops es t/\∀(He G H:Hp) (σ:L2.St) (ε:Ev) (x:V) (dx d:D) (Q:VK),aD G H->EnvD X.K He G H σ ε->cY X.K G H x dx->f dx ε=some d->
 (∀v G' H',Grow G H G' H'->Den X.K G' v d->Q v H')->t x σ H Q
def mT(f:D->D->Option D)(fb:Ev->Option D):Ch:=λx ε=>(fb ε).bind λy=>f x y
def jk(f:D->D->Option D)(fb:Ev->Option D)(r:Ch):Ch:=λx ε=>(fb ε).bind λy=>(f x y).bind λz=>match z with | .bl k=>if k=true then r y ε else some (.bl false) | _=>none
theorem nZ{op:CmpOp}{f:D->D->Option D}(ho:OpD X (QH op) f)(hb:DB X b fb)(he:evalEach [b] X.env=[eval b X.env]:=by rfl):DCh X [op] [b] (mT f fb):=by
 obtain⟨r,o1,o2⟩:=ho;obtain⟨tb,b1,b2⟩:=hb;refine⟨λx σ H Q=>tb σ H λy H1=>r x y H1 Q,λcp pins s σ H x v Q I rx h=>?_,λHe G H σ ε x dx d Q gh E hx ef q=>?_⟩
 ·rw[he]
  exact chain_last (thn (b1 pins s σ H _ I h) λu s1 ⟨y,H1,I1,r1,q1⟩=>o1 pins s1 σ H1 x y v u Q I1 rx r1 q1)
 ·obtain⟨y,e1,ef⟩:=aw ef
  refine b2 He G H σ ε y _ gh E e1 λv G1 H1 g1 d1=>?_;exact o2 G1 H1 x v dx y d Q g1.gh (hx.grow g1) d1 ef λw G2 H2 g2 d2=>q w G2 H2 (g1.trans g2) d2
theorem jc{op op':CmpOp}{ops:List CmpOp}{b':Expr}{bs:List Expr}{f:D->D->Option D}{r:Ch}(ho:OpD X (QH op) f)(hb:DB X b fb)(hr:DCh X (op'::ops) (b'::bs) r)
  (he:evalEach (b::b'::bs) X.env=eval b X.env::eval b' X.env::evalEach bs X.env:=by rfl) (he':evalEach (b'::bs) X.env=eval b' X.env::evalEach bs X.env:=by rfl):DCh X (op::op'::ops) (b::b'::bs) (jk f fb r):=by
 obtain⟨rr,o1,o2⟩:=ho;obtain⟨tb,b1,b2⟩:=hb;obtain⟨tr,r1,r2⟩:=hr;refine⟨λx σ H Q=>tb σ H λy H1=>rr x y H1 λz H2=>∃k,z=.bl k/\(if k=true then tr y σ H2 Q else Q (.bl false) H2),λcp pins s σ H x v Q I rx h=>?_,λHe G H σ ε x dx d Q gh E hx ef q=>?_⟩
 ·rw[he]
  refine chain_link (thn (b1 pins s σ H _ I h) λu s1 ⟨y,H1,I1,ry,q1⟩=>thn (o1 pins s1 σ H1 x y v u _ I1 rx ry q1) λd' s2 ⟨z,H2,I2,rz,k,e,q2⟩=>?_);subst e;cases rz;refine Jc ?_;cases k with
  |false=>exact ite_ff ⟨.bl false,H2,I2,rfl,q2⟩
  |true=>
   have h5:=r1 cp pins s2 σ H2 y u Q I2 ry q2;rw[he'] at h5;exact ite_tt h5
 ·obtain⟨y,e1,ef⟩:=aw ef
  obtain⟨z,e2,ef⟩:=aw ef;refine b2 He G H σ ε y _ gh E e1 λv G1 H1 g1 d1=>?_;split at ef
  ·rename_i k
   refine o2 G1 H1 x v dx y (.bl k) _ g1.gh (hx.grow g1) d1 e2 λw G2 H2 g2 d2=>⟨k,d2.blV,?_⟩;cases k with
   |true=>
    rw[if_pos rfl] at ef ⊢;exact r2 He G2 H2 σ ε v y d Q g2.gh ((E.grow g1).grow g2) (d1.grow g2) ef λw G3 H3 g3 d3=>q w G3 H3 (g1.trans (g2.trans g3)) d3
   |false=>
    rw[if_neg Qo] at ef ⊢;cases ef;exact q _ _ _ (g1.trans g2) (.bl _)
  ·cases ef
def sJ(fa:Ev->Option D)(r:Ch):Ev->Option D:=λε=>(fa ε).bind λx=>r x ε
theorem qw{op op':CmpOp}{ops:List CmpOp}{b':Expr}{bs:List Expr}{r:Ch}(ha:DB X a fa)(hr:DCh X (op::op'::ops) (b::b'::bs) r)(he:evalEach (b::b'::bs) X.env=eval b X.env::eval b' X.env::evalEach bs X.env:=by rfl)
  (hm:lastMarks (op::op'::ops) (b::b'::bs)=false:=by with_unfolding_all rfl):DE X (.Compare a (op::op'::ops) (b::b'::bs) pos) (sJ fa r):=by
 obtain⟨ta,a1,a2⟩:=ha;obtain⟨tr,r1,r2⟩:=hr;refine⟨λσ H Q=>ta σ H λx H1=>tr x σ H1 Q,λpins s σ H Q I h=>?_,λHe G H σ ε d Q gh E ef q=>?_⟩
 ·refine Compare_chain (thn (a1 pins s σ H _ I h) λv s1 ⟨x,H1,I1,rx,q1⟩=>?_) hm
  have h5:=r1 pos pins s1 σ H1 x v Q I1 rx q1;rw[he] at h5;exact h5
 ·obtain⟨x,e1,ef⟩:=aw ef
  refine a2 He G H σ ε x _ gh E e1 λv G1 H1 g1 d1=>?_;exact r2 He G1 H1 σ ε v x d Q g1.gh (E.grow g1) d1 ef λw G2 H2 g2 d2=>q w G2 H2 (g1.trans g2) d2
def BI(i j:Nat)(g:Ev->Option (List D)):Ev->Option Fl:=λε=>match g ε with | some [x,y]=>some (.nx ((ε.set i (.dat x)).set j (.dat y))) | _=>none
end
section
variable{prog:Qq}{w:Qw}{Ar:QC}{Ex:Qa->Qd->Prop}
theorem sA{I L:Addr}{xs:Array Qa}(apart:L≠I):∀(k i:Nat) (t:Qd) (Q:List Qa->Qd->Prop) (_:t.heap.IsListIter I L i) (_:t.heap.IsList L xs) (_:i+k<=xs.size)
  (_:∀g,g.IsListIter I L (i+k)->JF I t.heap g->Q ((xs.toList.drop i).take k) { t with heap:=g }),Qf (Qh prog w) Ar (draw (.ref I) k) Q Ex t:=by
 intro k
 induction k with
 |zero=>intro i t Q itr ls room want;exact Qg (want t.heap itr (Heap.SameBut.refl ..))
 |succ k ih=>
  intro i t Q itr ls room want;have there:i<xs.size:=Qy (Nat.lt_add_of_pos_right (Nat.succ_pos k)) room;refine Qc (m:=pyNext (.ref I)) (wpAny_pyNext_list_item itr ls (x:=xs[i]) (by simp[there]) λg1 itr1 same1=>?_);refine Qc (QZ (ih (i+1) _ _ itr1 (ls.extBut same1.extBut apart) (by lia) λg2 itr2 same2=>Qg ?_))
  have e:(xs.toList.drop i).take (k+1)=xs[i]::(xs.toList.drop (i+1)).take k:=by
   rw[List.drop_eq_getElem_cons (by simpa using there),List.take_succ_cons];simp
  have c:i+(k+1)=i+1+k:=by lia
  have fin:=want g2 (c▸itr2) (same1.trans same2);rw[e] at fin;exact fin
theorem jY{t:Qd}{L:Addr}{xs:Array Qa}{Q:List Qa->Qd->Prop}(hh:Ar.handled=none)(ls:t.heap.IsList L xs)
  (want:∀g,Heap.ExtBut t.heap.objs.size t.heap g->Q xs.toList { t with heap:=g }):Qf (Qh prog w) Ar (unpackItems (.ref L) xs.size none) Q Ex t:=by
 have apart:L≠t.heap.objs.size:=let⟨_,there,_⟩:=ls;Qz (Qk there);unfold unpackItems notIterableAtAll;refine Qc (Qc (wpAny_specialOf ls.typeIs slot_list_iter.lookup (Qg ?_)));rw[if_neg Qo];refine Qc (QZ (wpAny_pyIter_list ls ?_));refine Qc (QZ (sA apart xs.size 0 _ _ ⟨_,Qp _ rfl,rfl,rfl⟩ (ls.push _) (Nat.le_of_eq (Nat.zero_add _)) λg1 itr1 same1=>?_));rw[List.drop_zero,List.take_of_length_le (Nat.le_of_eq (by simp)),if_neg (by simp)];refine Qc (QZ (wpAny_pyNext_list_end hh itr1 ((ls.push _).extBut same1.extBut apart) (by simp) λg2 ext2=>?_));exact(if_neg (show ¬ (none:Option Qa).isSome=true by simp)).symm▸Qg (want g2 λb o away e=>ext2 b o away (same1.extBut b o away (Qe _ e)))
theorem jB{t:Qd}{ev:Env}{es:List Expr}{x1}{pos:Pos}{L:Addr}{xs:Array Qa}{Q:Unit->Qd->Prop}(hh:Ar.handled=none)(ls:t.heap.IsList L xs)
  (many:(Q0 es ev).length=xs.size) (nostar:(Q0 es ev).findIdx? (·.1)=none)
  (rest:∀g,Heap.ExtBut t.heap.objs.size t.heap g->Qf (Qh prog w) Ar (assignInOrder ((Q0 es ev).map (·.2)) xs.toList) Q Ex { t with heap:=g }):Qf (Qh prog w) Ar (assign (.Tuple es x1 pos) ev (.ref L)) Q Ex t:=by
 rw[assign_Tuple];refine Qc (ZH ?_);unfold unpack;rw[many,nostar];exact Qc (QZ (jY hh ls rest))
end
section
variable{X:Cx}{pos:Pos}
theorem vY{es:List Expr}{k:Nat}{t:TGs}{n:Nat}(hc:X.calm=true)(h:PGs X es t)
  (hn:(Q0 es X.env).length=n:=by rfl) (hst:(Q0 es X.env).findIdx? (·.1)=none:=by rfl):PG X (.Tuple es k pos) (λv σ H Q=>∃a xs,v=.ref a/\SqL X.K H a xs/\xs.length=n/\t xs σ H Q):=by
 intro pins s σ H v u Q I r hw;obtain⟨a,xs,e1,hq,hl,hw⟩:=hw;subst e1;cases r;obtain⟨its,rv,ht,hz⟩:=I.list hq;refine jB (I.ok.hd hc) ht.isList (by simp[hn,<-hl,rv.length]) hst λh' hx=>?_;have I1:Inv X pins σ H { s with heap:=h' }:=I.kept (t':=s.toks) λb o e=>hx b o (Qz (Qk e)) e;exact h pins _ σ H xs _ Q I1 (by simpa using rv) hw
def jn(n:Nat)(g:List D->Ev->Option Ev):D->Ev->Option Ev:=λd ε=>match d with | .tup ds=>if ds.length=n then g ds ε else none | .lst ds=>if ds.length=n then g ds ε else none | _=>none
theorem Ad{tg:Expr}{t t':TG}(h:PG X tg t)(h':PG X tg t'):PG X tg (λv σ H Q=>t v σ H Q\/t' v σ H Q):=by
 intro pins s σ H v u Q I r hw;rcases hw with hw | hw
 ·exact h pins s σ H v u Q I r hw
 ·exact h' pins s σ H v u Q I r hw
theorem lO{es:List Expr}{k:Nat}{g:List D->Ev->Option Ev}{n:Nat}(hc:X.calm=true)(h:DGs X es g)(hn:(Q0 es X.env).length=n:=by rfl)(hst:(Q0 es X.env).findIdx? (·.1)=none:=by rfl):DG X (.Tuple es k pos) (jn n g):=by
 obtain⟨t,a1,a2⟩:=h;refine⟨_,Ad (oK hc a1 hn hst) (vY hc a1 hn hst),λHe G H σ ε ε' v d Q gh E hd e q=>?_⟩;unfold jn at e;split at e
 ·split at e
  ·rename_i hl
   obtain⟨p,xs,rfl,h1,h2⟩:=hd.tupV;exact .inl ⟨p,xs,rfl,aE gh h1,by rw[h2.length];exact hl,a2 He G H σ ε ε' _ _ _ gh E h2 e q⟩
  ·cases e
 ·split at e
  ·rename_i hl
   obtain⟨p,xs,rfl,h1,h2⟩:=hd.lstV;exact .inr ⟨p,xs,rfl,gh.seq h1,by rw[h2.length];exact hl,a2 He G H σ ε ε' _ _ _ gh E h2 e q⟩
  ·cases e
 ·cases e
end
def AtL(X:Cx):List Str->List Nat->Prop
 |[],[]=>True
 |x::fr,j::ix=>(X.N[j]?=some x/\X.env.scope.names.lookup x=some .cell)/\AtL X fr ix
 |_,_=>False
theorem AtL.len{X:Cx}:∀{fr:List Str} {ix:List Nat},AtL X fr ix->ix.length=fr.length
 |[],[],_=>rfl
 |_::_,_::_,h=>congrArg (· + 1) (AtL.len h.2)
 |[],_::_,h=>h.elim
 |_::_,[],h=>h.elim
theorem AtL.get{X:Cx}:∀{fr:List Str} {ix:List Nat} (k:Nat) (x:Str),AtL X fr ix->fr[k]?=some x->∃j,ix[k]?=some j/\X.N[j]?=some x/\X.env.scope.names.lookup x=some .cell
 |[],_,k,x,_,e=>by simp at e
 |_::_,[],_,_,h,_=>h.elim
 |y::fr,j::ix,0,x,h,e=>by simp at e;subst e;exact⟨j,rfl,h.1.1,h.1.2⟩
 |y::fr,j::ix,k+1,x,h,e=>by
  obtain⟨j',h1,h2⟩:=AtL.get k x h.2 (by simpa using e);exact⟨j',by simpa using h1,h2⟩
def tS(X:Cx):List (Str×Addr)->Prop
 |[]=>True
 |p::cl=>X.env.cells.lookup p.1=some p.2/\tS X cl
theorem tS.mem{X:Cx}:∀{cl:List (Str×Addr)},tS X cl->∀p∈cl,X.env.cells.lookup p.1=some p.2
 |[],_,_,h=>by cases h
 |q::cl,h,p,hp=>by
  rcases Qm.mp hp with z | z
  ·rw[z];exact h.1
  ·exact tS.mem h.2 p z
theorem ic{cl:List (Str×Addr)}{x:Str}(h:(cl.map (·.1)).contains x=true):∃c,cl.lookup x=some c:=by
 induction cl with
 |nil=>simp at h
 |cons p cl ih=>
  rw[Q3,QM] at h;obtain⟨y,c0⟩:=p;cases e:(x==y) with
  |true=>exact⟨c0,by unfold Jn;rw[e]⟩
  |false=>
   have h':(x==y || (cl.map (·.1)).contains x)=true:=h;rw[e,Bool.false_or] at h';obtain⟨c,hc⟩:=ih h';exact⟨c,by unfold Jn;rw[e];exact hc⟩
theorem hU{X:Cx}{sc:Scope}{cl:List (Str×Addr)}{tn fr:List Str}{ix:List Nat}(clos:closureFor sc X.env=pure cl)(hat:AtL X fr ix)(sub:tS X cl)
  (kind:sc.kind=.function) (nc:(sc.names.all λy=>!(y.2 == .cell))=true)
  (nm:(sc.names.all λy=>!(y.2 == .local) || (sc.names.lookup y.1==some .local))=true)
  (hs:((relabel sc X.env).names.all λy=>!(y.2 == .cell || y.2 == .free) || (cl.map (·.1)).contains y.1)=true)
  (fc:(fr.all λx=>(relabel sc X.env).names.lookup x==some .cell)=true):CompSc X sc cl tn fr ix where
 kind:=kind
 nocell:=λy hy e=>by
  have:=ZG.mp nc y hy;rw[e] at this;exact absurd this (by decide)
 names:=λy hy e=>by
  have:=ZG.mp nm y hy;rw[e] at this;exact eq_of_beq this
 clos:=clos
 len:=hat.len
 at_:=λk x e=>hat.get k x e
 sub:=λx c e=>sub.mem _ (Jh e)
 has:=λx h=>by
  rcases h with h | h
  ·have:=ZG.mp hs _ (Jh h)
   exact ic this
  ·have:=ZG.mp hs _ (Jh h)
   exact ic this
 frc:=λx hx=>eq_of_beq (ZG.mp fc x hx)
theorem tQ{fi:Ev->Option (List D)}{n:Nat}{ix:List Nat}{g:D->Ev->Option Ev}{ft:Ev->Option Bool}{fe:Ev->Option D}{ε:Ev}{ds:List D}(h:fi ε=some ds)(hl:ds.length<1000000):eLC fi n ix g ft fe ε=lcD g ft fe ds (prE n ix ε):=by
 unfold eLC;rw[h];show(if ds.length<1000000 then _ else none)=_;rw[if_pos hl]
def oI(f:D->D->Option Bool):List D->List D->Option Bool
 |x::xs,y::ys=>(f x y).bind λa=>(oI f xs ys).bind λb=>some (a&&b)
 |_,_=>some true
def gv:Nat->D->D->Option Bool
 |0,x,y=>eqS x y
 |n+1,x,y=>match x,y with
  |.tup xs,.tup ys=>(oI (gv n) xs ys).map λb=>b&&xs.length==ys.length
  |.lst xs,.lst ys=>if xs.length=ys.length then oI (gv n) xs ys else some false
  |x,y=>eqS x y
def fQ(f:D->D->Option Bool)(xs ys:List D)(j:Nat):Bool:=match xs[j]?,ys[j]? with
 |some x,some y=>(f x y).getD false
 |_,_=>false
theorem dH{f:D->D->Option Bool}:∀{xs ys:List D} {b:Bool},oI f xs ys=some b->b=(Q7 (min xs.length ys.length)).all (fQ f xs ys)/\∀j x y,xs[j]?=some x->ys[j]?=some y->f x y=some (fQ f xs ys j)
 |[],ys,b,e=>by cases e;exact⟨by simp,λj x y h _=>by simp at h⟩
 |x::xs,[],b,e=>by cases e;exact⟨by simp,λj x y _ h=>by simp at h⟩
 |x::xs,y::ys,b,e=>by
  obtain⟨a,e1,e⟩:=aw e;obtain⟨c,e2,e⟩:=aw e;cases e;obtain⟨h1,h2⟩:=dH e2;have sh:∀j,fQ f (x::xs) (y::ys) (j+1)=fQ f xs ys j:=λj=>by unfold fQ;simp
  have s0:fQ f (x::xs) (y::ys) 0=a:=by unfold fQ;simp[e1]
  refine⟨?_,λj u v hu hv=>?_⟩
  ·have hm:min (x::xs).length (y::ys).length=min xs.length ys.length+1:=by simp only[QD];lia
   rw[hm,List.range_succ_eq_map,ZI,s0,List.all_map,h1];congr 1
  ·cases j with
   |zero=>simp at hu hv;subst hu hv;rw[s0,e1]
   |succ j=>rw[sh];exact h2 j u v (by simpa using hu) (by simpa using hv)
theorem iV{d:D}{b:Bool}(h:eqS d d=some b):b=true:=by
 cases d<;>simp[eqS] at h<;>first | exact h | exact h.symm
theorem j9{f:D->D->Option Bool}(hf:∀d b,f d d=some b->b=true):∀{ds:List D} {b:Bool},oI f ds ds=some b->b=true
 |[],b,e=>by cases e;rfl
 |d::ds,b,e=>by
  obtain⟨a,e1,e⟩:=aw e;obtain⟨c,e2,e⟩:=aw e;cases e;rw[hf d a e1,j9 hf e2];rfl
theorem je:∀(n:Nat) (d:D) (b:Bool),gv n d d=some b->b=true
 |0,d,b,e=>iV e
 |n+1,.tup xs,b,e=>by
  obtain⟨c,e1,rfl⟩:=bz e;rw[j9 (je n) e1];simp
 |n+1,.lst xs,b,e=>by
  have e':(if xs.length=xs.length then oI (gv n) xs xs else some false)=some b:=e;rw[if_pos rfl] at e';exact j9 (je n) e'
 |n+1,.non,b,e=>iV (d:=.non) e
 |n+1,.bl k,b,e=>iV (d:=.bl k) e
 |n+1,.int k,b,e=>iV (d:=.int k) e
 |n+1,.str k,b,e=>iV (d:=.str k) e
section
variable{X:Cx}{pins:List (Addr×Obj)}{σ:L2.St}{G H:Hp}{s:Qd}
theorem oV(I:Inv X pins σ H s){a:Addr}{xs ys:List V}(h1:SqT X.K H a xs)(h2:SqL X.K H a ys):False:=by
 obtain⟨its,_,⟨o,e1,c1,_⟩,_⟩:=I.tuple h1;obtain⟨its2,_,⟨o2,n,e2,c2,_⟩,_⟩:=I.list h2;rw[e1] at e2;cases e2;rw[c1] at c2;exact absurd (Value.type.inj c2) (by decide)
theorem t9{x y:V}{u:Qa}(hx:L2.aV x u)(hy:L2.aV y u):x=y:=by
 cases x<;>cases y<;>simp only[L2.aV] at hx hy<;>first | rfl | (subst hx;cases hy;done) | (subst hx;cases hy;rfl) | (obtain⟨t,rfl⟩:=hx;obtain⟨t',e⟩:=hy;cases e;first | rfl | done) | (obtain⟨t,rfl⟩:=hx;cases hy) | (subst hx;obtain⟨t',e⟩:=hy;cases e)
theorem kR(I:Inv X pins σ H s)(gh:aD G H){a:Addr}{us:nE}{ep:Nat}(h:G a=some (.ext (DAt a us ep))):DAt a us ep s.heap:=(show cw X.prog X.w H s.heap a (.ext (DAt a us ep)) from I.hok a _ (gh _ _ h)).1
theorem mQ(I:Inv X pins σ H s)(gh:aD G H){a:Addr}{xs:List V}{us:nE}{ep:Nat}(h1:SqT X.K H a xs)(h:G a=some (.ext (DAt a us ep))):False:=by
 obtain⟨its,_,⟨o,e1,c1,_⟩,_⟩:=I.tuple h1;obtain⟨_,_,o2,raw,e2,⟨c2,_⟩,_⟩:=kR I gh h;rw[e1] at e2;cases e2;rw[c1] at c2;exact absurd (Value.type.inj c2) (by decide)
theorem nA(I:Inv X pins σ H s)(gh:aD G H){a:Addr}{xs:List V}{us:nE}{ep:Nat}(h1:SqL X.K H a xs)(h:G a=some (.ext (DAt a us ep))):False:=by
 obtain⟨its,_,⟨o,n,e1,c1,_⟩,_⟩:=I.list h1;obtain⟨_,_,o2,raw,e2,⟨c2,_⟩,_⟩:=kR I gh h;rw[e1] at e2;cases e2;rw[c1] at c2;exact absurd (Value.type.inj c2) (by decide)
theorem kq:∀{k k':List Int},k.map V.int=k'.map V.int->k=k'
 |[],[],_=>rfl
 |[],_::_,e=>by cases e
 |_::_,[],e=>by cases e
 |a::k,b::k',e=>by
  rw[Q3,Q3] at e;injection e with e1 e2
  cases e1;rw[kq e2]
theorem sN(I:Inv X pins σ H s)(gh:aD G H):∀{raw:List DictEntry} {us vs:nE} {es fs:List (List Int×D)},DenM X.K G us es->DenM X.K G vs fs->Paired EntOk us raw->Paired EntOk vs raw->us=vs:=by
 intro raw
 induction raw with
 |nil=>intro us vs es fs _ _ p p';cases p;cases p';rfl
 |cons r rs ih=>
  intro us vs es fs m m' p p';cases p with
  |cons q qs=>
   cases p' with
   |cons q' qs'=>
    cases m with
    |cons hk hv hs=>
     cases m' with
     |cons hk' hv' hs'=>
      have e0:=q.key.symm.trans q'.key;injection e0 with e0
      simp only at e0;subst e0;have ek:=kq (I.tuple_inj (aE gh hk) (aE gh hk'));subst ek;have ev:=t9 q.val q'.val;simp only at ev;subst ev;rw[ih hs hs' qs qs']
theorem DenL.uniq(I:Inv X pins σ H s)(gh:aD G H){vs:List V}{ds es:List D}(h:DenL X.K G vs ds):DenL X.K G vs es->ds=es:=by
 refine DenL.rec (motive_1:=λv d _=>∀e,Den X.K G v e->d=e) (motive_2:=λu d _=>∀e,DenM X.K G u e->d=e) (motive_3:=λv d _=>∀e,DenL X.K G v e->d=e) ?_ ?_ ?_ ?_ ?_ ?_ ?_ ?_ ?_ ?_ ?_ h es
 ·intro e w;cases w;rfl
 ·intro b e w;cases w;rfl
 ·intro b e w;cases w;rfl
 ·intro b e w;cases w;rfl
 ·intro a xs ds h _ y e w
  cases w with
  |tup h' hs'=>
   have:=I.tuple_inj (aE gh h) (aE gh h');subst this;rw[y _ hs']
  |lst h' _=>exact(oV I (aE gh h) (gh.seq h'.sq)).elim
  |dic h' _ _=>exact(mQ I gh (aE gh h) h').elim
 ·intro a xs ds h _ y e w
  cases w with
  |lst h' hs'=>
   have:=I.list_inj (gh.seq h.sq) (gh.seq h'.sq);subst this;rw[y _ hs']
  |tup h' _=>exact(oV I (aE gh h') (gh.seq h.sq)).elim
  |dic h' _ _=>exact(nA I gh (gh.seq h.sq) h').elim
 ·intro a us ep es h nd hs y e w
  cases w with
  |tup h' _=>exact(mQ I gh (aE gh h') h).elim
  |lst h' _=>exact(nA I gh (gh.seq h'.sq) h).elim
  |dic h' nd' hs'=>
   obtain⟨_,_,o,raw,e,_,e1,p⟩:=kR I gh h;obtain⟨_,_,o',raw',e',_,e1',p'⟩:=kR I gh h';rw[e] at e';cases e';rw[e1] at e1';cases e1';have z:=sN I gh hs hs' p p';subst z;rw[y _ hs']
 ·intro e w;cases w;rfl
 ·intro k b v d us es _ _ _ y z e w
  cases w with
  |cons _ h' hs'=>rw[y _ h',z _ hs']
 ·intro e w;cases w;rfl
 ·intro v d vs ds _ _ y z e w
  cases w with
  |cons h' hs'=>rw[y _ h',z _ hs']
theorem o8{K:Qb}{G:Hp}{x y:V}{dx dy:D}{b:Bool}(hx:Den K G x dx)(hy:Den K G y dy)(e:eqS dx dy=some b):ib x=true/\ib y=true/\eqV x y=b:=by
 cases hx<;>cases hy<;>simp[eqS] at e<;>subst e<;>refine⟨rfl,rfl,?_⟩<;>first | rfl | (simp[eqV];done) | (rw[Jj];simp[eqV])
theorem fv{x y:V}{xs ys:List V}{ds es:List D}{its its2:List Qa}{n:Nat}{A:QC}(hs:DenL X.K G xs ds)(hs':DenL X.K G ys es)(r:a8 xs its)(r2:a8 ys its2)
  (step:∀{dx dy:D} {x y:V} {v u:Qa} {b:Bool},Den X.K G x dx->Den X.K G y dy->aV x v->aV y u->gv n dx dy=some b->SeqAt.EqAt A s v u b)
  (pr:∀j x y,ds[j]?=some x->es[j]?=some y->gv n x y=some (fQ (gv n) ds es j)) :
  ∀j (h1:j<its.toArray.size) (h2:j<its2.toArray.size),SeqAt.EqAt A s its.toArray[j] its2.toArray[j] (fQ (gv n) ds es j):=by
 intro j h1 h2;have l1:=r.length;have l2:=r2.length;have h1':j<its.length:=by simpa using h1
 have h2':j<its2.length:=by simpa using h2
 have hx:xs[j]?=some xs[j]:=by simp[show j<xs.length by lia]
 have hy:ys[j]?=some ys[j]:=by simp[show j<ys.length by lia]
 obtain⟨dx,e1,d1⟩:=hs.getV hx;obtain⟨dy,e2,d2⟩:=hs'.getV hy;obtain⟨v,e3,r3⟩:=r.get hx;obtain⟨u,e4,r4⟩:=r2.get hy
 have ev:its.toArray[j]=v:=by
  have:=(QB.mp e3).2;simpa using this
 have eu:its2.toArray[j]=u:=by
  have:=(QB.mp e4).2;simpa using this
 rw[ev,eu];exact step d1 d2 r3 r4 (pr j dx dy e1 e2)
theorem o9(I:Inv X pins σ H s)(gh:aD G H):∀(n:Nat) (A:QC),A.units+n<cLine->∀{dx dy:D} {x y:V} {v u:Qa} {b:Bool},Den X.K G x dx->Den X.K G y dy->aV x v->aV y u->gv n dx dy=some b->SeqAt.EqAt A s v u b:=by
 intro n
 induction n with
 |zero=>
  intro A hu dx dy x y v u b hx hy rx ry e;obtain⟨f1,f2,e1⟩:=o8 hx hy e;rw[<-e1];exact qR rx ry f1 f2
 |succ n ih=>
  intro A hu dx dy x y v u b hx hy rx ry e;have hu1:A.in1.units+n<cLine:=by show A.units+1+n<cLine;lia
  have step:=λ{dx dy:D} {x y:V} {v u:Qa} {b:Bool}=>ih A.in1 hu1 (dx:=dx) (dy:=dy) (x:=x) (y:=y) (v:=v) (u:=u) (b:=b)
  have flat:∀{b},eqS dx dy=some b->SeqAt.EqAt A s v u b:=λ{b} e=>by
   obtain⟨f1,f2,e1⟩:=o8 hx hy e;rw[<-e1];exact qR rx ry f1 f2
  cases hx with
  |@tup a xs ds h hs=>
   cases hy with
   |@tup a' ys es h' hs'=>
    cases(show v=Ql a from rx);cases(show u=Ql a' from ry)
    by_cases z:a=a'
    ·subst z
     have:=I.tuple_inj (aE gh h) (aE gh h');subst this;have:=DenL.uniq I gh hs hs';subst this;rw[je _ _ _ e];exact SeqAt.EqAt.same _
    ·obtain⟨c,e1,rfl⟩:=bz e
     obtain⟨q1,q2⟩:=dH e1;obtain⟨its,r,p1,_⟩:=I.tuple (aE gh h);obtain⟨its2,r2,p2,_⟩:=I.tuple (aE gh h');have l1:its.toArray.size=ds.length:=by simp[<-r.length,hs.length]
     have l2:its2.toArray.size=es.length:=by simp[<-r2.length,hs'.length]
     refine SeqAt.EqAt.of_refs z ?_;have:=SeqAt.RcAt.tuples (e:=fQ (gv n) ds es) p1 p2 (by lia) (fv (x:=.non) (y:=.non) hs hs' r r2 step q2);rw[l1,l2,<-q1] at this;exact this
   |lst h' hs'=>exact flat e
   |dic _ _ _=>exact flat e
   |non=>exact flat e
   |bl _=>exact flat e
   |int _=>exact flat e
   |str _=>exact flat e
  |@lst a xs ds h hs=>
   cases hy with
   |@lst a' ys es h' hs'=>
    cases(show v=Ql a from rx);cases(show u=Ql a' from ry)
    by_cases z:a=a'
    ·subst z
     have:=I.list_inj (gh.seq h.sq) (gh.seq h'.sq);subst this;have:=DenL.uniq I gh hs hs';subst this;rw[je _ _ _ e];exact SeqAt.EqAt.same _
    ·have e':(if ds.length=es.length then oI (gv n) ds es else some false)=some b:=e
     obtain⟨its,r,p1,_⟩:=I.list (gh.seq h.sq);obtain⟨its2,r2,p2,_⟩:=I.list (gh.seq h'.sq);have l1:its.toArray.size=ds.length:=by simp[<-r.length,hs.length]
     have l2:its2.toArray.size=es.length:=by simp[<-r2.length,hs'.length]
     refine SeqAt.EqAt.of_refs z ?_
     by_cases hl:ds.length=es.length
     ·rw[if_pos hl] at e'
      obtain⟨q1,q2⟩:=dH e';have:=SeqAt.RcAt.lists (e:=fQ (gv n) ds es) p1.isList p2.isList (by rw[l1,l2,hl]) (by lia) (fv (x:=.non) (y:=.non) hs hs' r r2 step q2);rw[l1] at this;rw[<-hl,Nat.min_self] at q1;rw[q1];exact this
     ·rw[if_neg hl] at e'
      cases e';exact SeqAt.RcAt.lists_lengths p1.isList p2.isList (by rw[l1,l2];simpa using hl) (by lia)
   |tup h' hs'=>exact flat e
   |dic _ _ _=>exact flat e
   |non=>exact flat e
   |bl _=>exact flat e
   |int _=>exact flat e
   |str _=>exact flat e
  |dic _ _ _=>cases hy<;>exact flat e
  |non=>cases hy<;>exact flat e
  |bl _=>cases hy<;>exact flat e
  |int _=>cases hy<;>exact flat e
  |str _=>cases hy<;>exact flat e
end
section
variable{X:Cx}
def AK(K:Qb)(neg:Bool):R2:=λx y H Q=>∃G dx dy b,aD G H/\cY K G H x dx/\cY K G H y dy/\gv 9 dx dy=some b/\Q (.bl (if neg then !b else b)) H
theorem yE(hu:X.A.units+64<cLine):OpR X (QH .Eq) (AK X.K false):=by
 intro pins s σ H x y v u Q I rx ry h;obtain⟨G,dx,dy,b,gh,hx,hy,e,q⟩:=h;have step:=λ{dx dy:D} {x y:V} {v u:Qa} {b:Bool}=>o9 I gh 8 X.A.in1 (by show X.A.units+1+8<cLine;lia) (dx:=dx) (dy:=dy) (x:=x) (y:=y) (v:=v) (u:=u) (b:=b);have fin:∀{k:Bool},k=b->EP X pins σ Q (.bool k) s:=λ{k} z=>⟨.bl k,H,I,rfl,by rw[z];exact q⟩
 have scl:eqS dx dy=some b->Qf (Qh X.prog X.w) X.A (QH .Eq v u) (EP X pins σ Q) X.xe s:=λe=>by
  obtain⟨h1,h2⟩:=oW hx hy e;exact iQ pins s σ H x y v u Q I rx ry ⟨h1,by rw[h2];exact q⟩
 cases dx with
 |tup ds=>
  cases dy with
  |tup es=>
   obtain⟨a,xs,rfl,_,h1,h2⟩:=hx.tup gh;obtain⟨a',ys,rfl,_,h3,h4⟩:=hy.tup gh;cases rx;cases ry;obtain⟨c,e1,e2⟩:=bz e;obtain⟨q1,q2⟩:=dH e1;obtain⟨its,r,p1,_⟩:=I.tuple h1;obtain⟨its2,r2,p2,_⟩:=I.tuple h3;have l1:its.toArray.size=ds.length:=by simp[<-r.length,h2.length]
   have l2:its2.toArray.size=es.length:=by simp[<-r2.length,h4.length]
   refine SeqAt.RcAt.tuples (e:=fQ (gv 8) ds es) p1 p2 (by lia) (fv (x:=.non) (y:=.non) h2 h4 r r2 step q2) X.prog X.w X.xe _ (fin ?_);rw[l1,l2,<-q1];exact e2
  |_=>exact scl e
 |lst ds=>
  cases dy with
  |lst es=>
   obtain⟨a,xs,rfl,h1,h2⟩:=hx.lst gh;obtain⟨a',ys,rfl,h3,h4⟩:=hy.lst gh;cases rx;cases ry;have e':(if ds.length=es.length then oI (gv 8) ds es else some false)=some b:=e;obtain⟨its,r,p1,_⟩:=I.list h1;obtain⟨its2,r2,p2,_⟩:=I.list h3;have l1:its.toArray.size=ds.length:=by simp[<-r.length,h2.length]
   have l2:its2.toArray.size=es.length:=by simp[<-r2.length,h4.length]
   by_cases hl:ds.length=es.length
   ·rw[if_pos hl] at e'
    obtain⟨q1,q2⟩:=dH e';refine SeqAt.RcAt.lists (e:=fQ (gv 8) ds es) p1.isList p2.isList (by rw[l1,l2,hl]) (by lia) (fv (x:=.non) (y:=.non) h2 h4 r r2 step q2) X.prog X.w X.xe _ (fin ?_);rw[l1];rw[<-hl,Nat.min_self] at q1;exact q1.symm
   ·rw[if_neg hl] at e'
    cases e';exact SeqAt.RcAt.lists_lengths p1.isList p2.isList (by rw[l1,l2];simpa using hl) (by lia) X.prog X.w X.xe _ (fin rfl)
  |_=>exact scl e
 |_=>cases dy<;>exact scl e
theorem zj(hu:X.A.units+64<cLine):OpR X (QH .NotEq) (AK X.K true):=by
 intro pins s σ H x y v u Q I rx ry h;obtain⟨G,dx,dy,b,gh,hx,hy,e,q⟩:=h;have step:=λ{dx dy:D} {x y:V} {v u:Qa} {b:Bool}=>o9 I gh 8 X.A.in1 (by show X.A.units+1+8<cLine;lia) (dx:=dx) (dy:=dy) (x:=x) (y:=y) (v:=v) (u:=u) (b:=b);have fin:∀{k:Bool},k = !b->EP X pins σ Q (.bool k) s:=λ{k} z=>⟨.bl k,H,I,rfl,by rw[z];exact q⟩
 have scl:eqS dx dy=some b->Qf (Qh X.prog X.w) X.A (QH .NotEq v u) (EP X pins σ Q) X.xe s:=λe=>by
  obtain⟨h1,h2⟩:=oW hx hy e;exact Ax pins s σ H x y v u Q I rx ry ⟨h1,by rw[h2];exact q⟩
 cases dx with
 |tup ds=>
  cases dy with
  |tup es=>
   obtain⟨a,xs,rfl,_,h1,h2⟩:=hx.tup gh;obtain⟨a',ys,rfl,_,h3,h4⟩:=hy.tup gh;cases rx;cases ry;obtain⟨c,e1,e2⟩:=bz e;obtain⟨q1,q2⟩:=dH e1;obtain⟨its,r,p1,_⟩:=I.tuple h1;obtain⟨its2,r2,p2,_⟩:=I.tuple h3;have l1:its.toArray.size=ds.length:=by simp[<-r.length,h2.length]
   have l2:its2.toArray.size=es.length:=by simp[<-r2.length,h4.length]
   refine SeqAt.RcNeAt.tuples (e:=fQ (gv 8) ds es) p1 p2 (by lia) (fv (x:=.non) (y:=.non) h2 h4 r r2 step q2) X.prog X.w X.xe _ (fin ?_);rw[l1,l2,<-q1];exact congrArg not e2
  |_=>exact scl e
 |lst ds=>
  cases dy with
  |lst es=>
   obtain⟨a,xs,rfl,h1,h2⟩:=hx.lst gh;obtain⟨a',ys,rfl,h3,h4⟩:=hy.lst gh;cases rx;cases ry;have e':(if ds.length=es.length then oI (gv 8) ds es else some false)=some b:=e;obtain⟨its,r,p1,_⟩:=I.list h1;obtain⟨its2,r2,p2,_⟩:=I.list h3;have l1:its.toArray.size=ds.length:=by simp[<-r.length,h2.length]
   have l2:its2.toArray.size=es.length:=by simp[<-r2.length,h4.length]
   by_cases hl:ds.length=es.length
   ·rw[if_pos hl] at e'
    obtain⟨q1,q2⟩:=dH e';refine SeqAt.RcNeAt.lists (e:=fQ (gv 8) ds es) p1.isList p2.isList (by rw[l1,l2,hl]) (by lia) (fv (x:=.non) (y:=.non) h2 h4 r r2 step q2) X.prog X.w X.xe _ (fin ?_);rw[l1];rw[<-hl,Nat.min_self] at q1;rw[q1]
   ·rw[if_neg hl] at e'
    cases e';exact SeqAt.RcNeAt.lists_lengths p1.isList p2.isList (by rw[l1,l2];simpa using hl) (by lia) X.prog X.w X.xe _ (fin rfl)
  |_=>exact scl e
 |_=>cases dy<;>exact scl e
def kd:D->D->Option D:=λx y=>(gv 9 x y).map D.bl
def oq:D->D->Option D:=λx y=>(gv 9 x y).map λb=>D.bl (!b)
theorem gV{k:Nat}(hr:Room k X.A):OpD X (QH .Eq) kd:=⟨_,yE hr.units,λG H x y dx dy d Q gh hx hy e q=>by
 obtain⟨b,e1,rfl⟩:=bz e
 exact⟨G,dx,dy,b,gh,hx,hy,e1,q _ G H (.refl gh) (.bl _)⟩⟩
theorem oE{k:Nat}(hr:Room k X.A):OpD X (QH .NotEq) oq:=⟨_,zj hr.units,λG H x y dx dy d Q gh hx hy e q=>by
 obtain⟨b,e1,rfl⟩:=bz e
 exact⟨G,dx,dy,b,gh,hx,hy,e1,q _ G H (.refl gh) (.bl _)⟩⟩
end
def kI:List D->Option (List Bool)
 |[]=>some []
 |.bl b::ds=>(kI ds).bind λr=>some (b::r)
 |_=>none
theorem sv{K:Qb}{G:Hp}{xs:List V}{ds:List D}{ns:List Bool}(h:DenL K G xs ds):kI ds=some ns->xs=ns.map V.bl:=by
 refine DenL.ind (P:=λxs ds=>∀ns,kI ds=some ns->xs=ns.map V.bl) (λns e=>by cases e;rfl) (λ{x d xs ds} h _ y ns e=>?_) h ns;cases d with
 |bl i=>
  obtain⟨r,e1,e2⟩:=aw (show(kI ds).bind _=some ns from e);cases e2;rw[h.blV,y _ e1];rfl
 |_=>cases e
theorem oR:∀{bs:List Bool} {us:List Qa},a8 (bs.map V.bl) us->us=bs.map Zy
 |[],_,.nil=>rfl
 |b::bs,_,.cons r rs=>by rw[oR rs,show _=Zy b from r];rfl
theorem mX:∀bs:List Bool,(Q7 bs.length).all (λi=>(bs[i]?).getD true)=bs.all id
 |[]=>rfl
 |b::bs=>by
  rw[QD,List.range_succ_eq_map,ZI,List.all_map,ZI,<-mX bs];rfl
section
variable{X:Cx}{a b c:Expr}{fa fb fc:Ev->Option D}{pos:Pos}
def o_:List D->Option D
 |[.lst ds]=>(kI ds).bind λbs=>some (.bl (bs.all id))
 |_=>none
theorem yu(hc:X.calm=true):rn X (.builtin "all") o_:=by
 refine⟨λxs H Q=>∃(l:Addr) (bs:List Bool),xs=[.ref l]/\SqL X.K H l (bs.map V.bl)/\Q (.bl (bs.all id)) H,λpins s σ H xs us Q I rv h=>?_,λG H vs ds d Q gh hd e q=>?_⟩
 ·obtain⟨l,bs,rfl,hq,q⟩:=h
  obtain⟨u,rfl,ru⟩:=rv.one;cases ru;obtain⟨its,rr,pl,hz⟩:=I.list hq;have ei:=oR rr;subst ei;have hl:=pl.isList;have lt:l<s.heap.objs.size:=let⟨_,there,_⟩:=hl;Qk there;apply call_all_walk;apply wpAny_pyIter_list hl;refine⟨s.heap.objs.size,_,_,_,_,_,λi=>(bs[i]?).getD true,rfl,Walks.list (A:=X.A.in1) (I.ok.hd hc) _ l (Qz lt) _,⟨⟨_,Qp _ rfl,rfl,rfl⟩,hl.push _⟩,λi v t Q' E' hv hQ=>?_,λg tk kept=>?_⟩
  ·have hv':(bs.map Zy)[i]?=some v:=by simpa using hv
   rw[QK] at hv';obtain⟨k,ek,rfl⟩:=bz hv';have hQ2:Q' k t:=by simpa[ek] using hQ
   exact Jc hQ2
  ·refine⟨.bl (bs.all id),H,I.kept (t':=tk) λb o e=>kept b o (λz=>?_) (Qe _ e),?_,q⟩
   ·rw[QW.mp z] at e
    exact absurd (Qk e) (Jm _)
   ·have hn:(bs.map Zy).toArray.size=bs.length:=by simp
    rw[hn,mX];rfl
 ·unfold o_ at e
  split at e
  ·obtain⟨bs,eb,e⟩:=aw e
   cases e
   cases hd with | cons h1 h2=>
    cases h2;obtain⟨l,xs,rfl,h3,h4⟩:=h1.lstV;have:=sv h4 eb;subst this;exact⟨l,bs,rfl,gh.seq h3,q _ G H (.refl gh) (.bl _)⟩
  ·cases e
end
theorem nN{a b:Nat}(h:a≠b):@Ne Addr a b:=h
def SIt(t:Bool)(h:Heap)(it l:Addr)(i:Nat):Prop:=match t with | true=>h.IsTupleIter it l i | false=>h.IsListIter it l i
def SSq(t:Bool)(h:Heap)(l:Addr)(xs:Array Qa):Prop:=match t with | true=>h.IsTuple l xs | false=>h.IsList l xs
def SqB(t:Bool)(K:Qb)(H:Hp)(l:Addr)(xs:List V):Prop:=match t with | true=>SqT K H l xs | false=>SqL K H l xs
theorem SIt.to{t:Bool}{h h':Heap}{it l:Addr}{i:Nat}(q:SIt t h it l i)(k:∀o,h.get? it=some o->h'.get? it=some o):SIt t h' it l i:=by
 cases t with
 |true=>exact let⟨o,e,r⟩:=q;⟨o,k o e,r⟩
 |false=>exact let⟨o,e,r⟩:=q;⟨o,k o e,r⟩
theorem SSq.to{t:Bool}{h h':Heap}{l:Addr}{xs:Array Qa}(q:SSq t h l xs)(k:∀o,h.get? l=some o->h'.get? l=some o):SSq t h' l xs:=by
 cases t with
 |true=>exact let⟨o,e,r⟩:=q;⟨o,k o e,r⟩
 |false=>exact let⟨o,e,r⟩:=q;⟨o,k o e,r⟩
theorem SIt.there{t:Bool}{h:Heap}{it l:Addr}{i:Nat}(q:SIt t h it l i):∃o,h.get? it=some o/\∀v,o.data≠.cell v:=by
 cases t with
 |true=>exact let⟨o,e,c,d⟩:=q;⟨o,e,λv z=>by rw[d] at z;cases z⟩
 |false=>exact let⟨o,e,c,d⟩:=q;⟨o,e,λv z=>by rw[d] at z;cases z⟩
theorem SSq.lt{t:Bool}{h:Heap}{l:Addr}{xs:Array Qa}(q:SSq t h l xs):l<h.objs.size:=by
 cases t with
 |true=>exact let⟨o,e,r⟩:=q;Qk e
 |false=>exact let⟨o,e,r⟩:=q;Qk e
theorem gG{X:Cx}{pins:List (Addr×Obj)}{σ:L2.St}{H:Hp}{s:Qd}{t:Bool}{a:Addr}{xs:List V}(I:Inv X pins σ H s)(h:SqB t X.K H a xs):∃its:List Qa,a8 xs its/\SSq t s.heap a its.toArray:=by
 cases t with
 |true=>exact let⟨its,r,p,_⟩:=I.tuple h;⟨its,r,p⟩
 |false=>exact let⟨its,r,p,_⟩:=I.list h;⟨its,r,p.isList⟩
theorem jM{X:Cx}{pins:List (Addr×Obj)}{σ:L2.St}{H:Hp}{s:Qd}{t:Bool}{a:Addr}{xs ys:List V}(I:Inv X pins σ H s)(h:SqB t X.K H a xs)(h':SqB t X.K H a ys):xs=ys:=by
 cases t with
 |true=>exact I.tuple_inj h h'
 |false=>exact I.list_inj h h'
section
variable{prog:Qq}{w:Qw}{A:QC}{E:Qa->Qd->Prop}{s:Qd}
theorem zt{it l:Addr}{i:Nat}{items:Array Qa}{x:Qa}{Q:Qa->Qd->Prop}(ht:s.heap.IsTupleIter it l i)(hl:s.heap.IsTuple l items)(hx:items[i]?=some x)
  (q:∀h',h'.IsTupleIter it l (i+1)->JF it s.heap h'->Q x { s with heap:=h' }):Qf (Qh prog w) A (QO (.ref it)) Q E s:=by
 obtain⟨o,e1,e2,e3⟩:=id ht;obtain⟨u,e4,_,m,e5⟩:=hl;unfold QO;refine Qc (Jr (name:=Str.ofString "__next__") ht.typeIs J0 (Ze J0 ht.typeIs F.entry_tuple_iterator_next ?_ (F.args_tuple_iterator_next_1 _)))
 change Qf _ _ (field (.ref it) 0>>=_) _ _ s
 refine Qc (QU e1 e3 (x:=.ref l) rfl ?_)
 change Qf _ _ (if(Ql l==QT)=true then _ else _) _ _ s
 rw[if_neg (show ¬((Ql l==QT)=true) from λz=>Bool.noConfusion z)]
 change Qf _ _ (field (.ref it) 1>>=_) _ _ s
 refine Qc (QU e1 e3 (x:=.int i 0) rfl ?_)
 change Qf _ _ (seqItems? (.ref l)>>=_) _ _ s
 refine Qc (JC e4 e5 ?_);simp only[hx,Int.toNat_natCast];refine Qc (wpAny_setField e1 e3 (by simp) (Qg ⟨x,rfl,Qg (q _ ⟨_,JA _ e1 (Zv (JB e3 _)),(Obj.cls_mapFields ..).trans e2,?_⟩ (Heap.SameBut.update ..))⟩));rw[JB e3];simp[rawInt]
theorem qp{it l:Addr}{i:Nat}{items:Array Qa}{Q:Qa->Qd->Prop}(hh:A.handled=none)(ht:s.heap.IsTupleIter it l i)(hl:s.heap.IsTuple l items)(hx:items[i]?=none)
  (q:∀h' e,Heap.ExtBut it s.heap h'->(∃o,h'.get? e=some o/\o.cls=.type "StopIteration")->E (.ref e) { s with heap:=h' }):Qf (Qh prog w) A (QO (.ref it)) Q E s:=by
 obtain⟨o,e1,e2,e3⟩:=id ht;obtain⟨u,e4,_,m,e5⟩:=hl;unfold QO;refine Qc (Jr (name:=Str.ofString "__next__") ht.typeIs J0 (Ze J0 ht.typeIs F.entry_tuple_iterator_next ?_ (F.args_tuple_iterator_next_1 _)))
 change Qf _ _ (field (.ref it) 0>>=_) _ _ s
 refine Qc (QU e1 e3 (x:=.ref l) rfl ?_)
 change Qf _ _ (if(Ql l==QT)=true then _ else _) _ _ s
 rw[if_neg (show ¬((Ql l==QT)=true) from λz=>Bool.noConfusion z)]
 change Qf _ _ (field (.ref it) 1>>=_) _ _ s
 refine Qc (QU e1 e3 (x:=.int i 0) rfl ?_)
 change Qf _ _ (seqItems? (.ref l)>>=_) _ _ s
 refine Qc (JC e4 e5 ?_);simp only[hx,Int.toNat_natCast];refine Qc (wpAny_rule (Qc (wpAny_setField e1 e3 (by simp) ?_)))
 change Qf _ _ (newExc (.type "StopIteration") []>>=_) _ _ _
 refine Qc ?_;simp only[newTuple,newExc];refine Qc (Jg (Qc (m:=firstArgMember _ _) (wpAny_of_eq (a:=QT) (by first | rfl | (simp only[firstArgMember];rfl)) (Jg ?_ (by size_fits)))) (by size_fits));simp only[raiseNew];refine Qc (wpAny_handled ?_);rw[hh];exact Qc (Qg (wpAny_throw (q _ _ (((Heap.SameBut.update ..).extBut.push _).push _) ⟨_,Qp _ rfl,rfl⟩)))
theorem yj{t:Bool}{it l:Addr}{i:Nat}{items:Array Qa}{x:Qa}{Q:Qa->Qd->Prop}(ht:SIt t s.heap it l i)(hl:SSq t s.heap l items)(hx:items[i]?=some x)
  (q:∀h',SIt t h' it l (i+1)->JF it s.heap h'->Q x { s with heap:=h' }):Qf (Qh prog w) A (QO (.ref it)) Q E s:=by
 cases t with
 |true=>exact zt ht hl hx q
 |false=>exact wpAny_nextOf_list_item ht hl hx q
theorem pq{t:Bool}{it l:Addr}{i:Nat}{items:Array Qa}{Q:Qa->Qd->Prop}(hh:A.handled=none)(ht:SIt t s.heap it l i)(hl:SSq t s.heap l items)(hx:items[i]?=none)
  (q:∀h' e,Heap.ExtBut it s.heap h'->(∃o,h'.get? e=some o/\o.cls=.type "StopIteration")->E (.ref e) { s with heap:=h' }):Qf (Qh prog w) A (QO (.ref it)) Q E s:=by
 cases t with
 |true=>exact qp hh ht hl hx q
 |false=>exact wpAny_nextOf_list_end hh ht hl hx q
theorem vF{t:Bool}{N l1 l2:Nat}{k:Nat}{xs ys:Array Qa}{x y a b:Qa}{Q:Qa->Qd->Prop}(p1:l1<N)(p2:l2<N)(hz:IsZip s.heap (N+4) (N+2) (N+3) .none)
  (hI:Jl s.heap (N+2) (.ref N) (.ref (N+1))) (hO:Jl s.heap (N+3) a b) (h1:SIt t s.heap N l1 k) (h2:SIt t s.heap (N+1) l2 k) (g1:SSq t s.heap l1 xs) (g2:SSq t s.heap l2 ys) (hx:xs[k]?=some x) (hy:ys[k]?=some y)
  (q:∀h',IsZip h' (N+4) (N+2) (N+3) (rawInt s.heap.objs.size)->Jl h' (N+3) x y->SIt t h' N l1 (k+1)->SIt t h' (N+1) l2 (k+1)->Jl h' s.heap.objs.size x y->
   (∀c o,c≠N+4->c≠N+3->c≠N->c≠N+1->s.heap.get? c=some o->h'.get? c=some o)->Q (.ref s.heap.objs.size) { s with heap:=h' }) :
  Qf (Qh prog w) A (Builtin.«zip.__next__» ⟨[.ref (N+4)],[]⟩) (λfin s'=>∃v,fin=.done (.ret v)/\Q v s') E s:=by
 change Qf _ _ (field (.ref (N+4)) 2>>=_) _ _ _
 refine Qc (QU hz rfl (x:=.bool false) rfl ?_);change Qf _ _ (field (.ref (N+4)) 3>>=_) _ _ _;refine Qc (QU hz rfl (x:=.ref (N+2)) rfl (Qc (JC hI rfl ?_)))
 change Qf _ _ (Jp (.ref (N+4))>>=_) _ _ _
 refine Qc ?_;unfold Jp;refine Qc (QU hz rfl (x:=.none) rfl (Qg ?_));simp only[if_true];refine Qc (wpAny_rule (Qc (QU hz rfl (x:=.ref (N+3)) rfl (Qc (JW hz (by simp) λu1 z1 s1=>?_)))))
 replace z1:IsZip u1 (N+4) (N+2) (N+3) .ellipsis:=z1
 refine Qc ?_;simp only[List.forIn_cons,List.forIn_nil,List.zipIdx_cons,List.zipIdx_nil];refine Qc (Qc (wpAny_onRaise ?_));change Qf _ _ (QO (.ref N)>>=_) _ _ _;refine Qc (yj (h1.to λo e=>s1.extBut _ o (nN (by lia)) e) (g1.to λo e=>s1.extBut _ o (nN (by lia)) e) hx λu2 i2 s2=>Qg ?_);have o2:Jl u2 (N+3) a b:=s2.extBut _ _ (nN (by lia)) (s1.extBut _ _ (nN (by lia)) hO);refine Qc (JC o2 rfl (Qc (wpAny_updateSeq_pair o2 λu3 o3 s3=>?_)))
 replace o3:Jl u3 (N+3) x b:=o3
 refine Qc (wpAny_letGo (Qg (Qc (Qc (wpAny_onRaise ?_)))))
 change Qf _ _ (QO (.ref (N+1))>>=_) _ _ _
 refine Qc (yj (h2.to λo e=>s3.extBut _ o (nN (by lia)) (s2.extBut _ o (nN (by lia)) (s1.extBut _ o (nN (by lia)) e))) (g2.to λo e=>s3.extBut _ o (nN (by lia)) (s2.extBut _ o (nN (by lia)) (s1.extBut _ o (nN (by lia)) e))) hy λu4 i4 s4=>Qg ?_);have o4:Jl u4 (N+3) x b:=s4.extBut _ _ (nN (by lia)) o3;refine Qc (JC o4 rfl (Qc (wpAny_updateSeq_pair o4 λu5 o5 s5=>?_)))
 replace o5:Jl u5 (N+3) x y:=o5
 refine Qc (wpAny_letGo (Qg (Qg (Qc (JC o5 rfl (Qc (wpAny_newTuple ?_)))))));have sz:u5.objs.size=s.heap.objs.size:=by rw[s5.1,s4.1,s3.1,s2.1,s1.1]
 have z5:IsZip u5 (N+4) (N+2) (N+3) .ellipsis:=s5.extBut _ _ (nN (by lia)) (s4.extBut _ _ (nN (by lia)) (s3.extBut _ _ (nN (by lia)) (s2.extBut _ _ (nN (by lia)) z1)));have k5:∀c o,c≠N+4->c≠N+3->c≠N->c≠N+1->s.heap.get? c=some o->u5.get? c=some o:=λc o c1 c2 c3 c4 e=>s5.extBut _ _ c2 (s4.extBut _ _ c4 (s3.extBut _ _ c2 (s2.extBut _ _ c3 (s1.extBut _ _ c1 e))));have a5:SIt t u5 N l1 (k+1):=i2.to λo e=>s5.extBut _ o (nN (by lia)) (s4.extBut _ o (nN (by lia)) (s3.extBut _ o (nN (by lia)) e));have b5:SIt t u5 (N+1) l2 (k+1):=i4.to λo e=>s5.extBut _ o (nN (by lia)) e;have zl:N+4<u5.objs.size:=Qk z5
 change Qf _ _ (Builtin.SmallTypes.ownedTupleHandOut (.ref (N+4)) (.ref u5.objs.size)>>=_) _ _ _
 refine Qc ?_;unfold Builtin.SmallTypes.ownedTupleHandOut;have z6:IsZip (u5.push { cls:=.type "tuple",data:=.seq #[x,y] }) (N+4) (N+2) (N+3) .ellipsis:=Qe _ z5;refine Qc (JW z6 (by simp) λu7 z7 s7=>?_)
 replace z7:IsZip u7 (N+4) (N+2) (N+3) (rawInt u5.objs.size):=z7
 refine JW z7 (by simp) λu8 z8 s8=>?_
 replace z8:IsZip u8 (N+4) (N+2) (N+3) (rawInt u5.objs.size):=z8
 have up:∀c o,c≠N+4->u5.get? c=some o->u8.get? c=some o:=λc o c1 e=>s8.extBut _ _ c1 (s7.extBut _ _ c1 (Qe _ e));have t8:Jl u8 u5.objs.size x y:=s8.extBut _ _ (nN (by lia)) (s7.extBut _ _ (nN (by lia)) (Qp _ rfl));rw[sz] at z8 t8;refine Qg ⟨_,rfl,?_⟩;change Q (.ref u5.objs.size) _;rw[sz];exact q u8 z8 (up _ _ (nN (by lia)) o5) (a5.to λo e=>up _ o (nN (by lia)) e) (b5.to λo e=>up _ o (nN (by lia)) e) t8 λc o c1 c2 c3 c4 e=>up c o c1 (k5 c o c1 c2 c3 c4 e)
theorem yP{t:Bool}{N l1 l2:Nat}{k:Nat}{xs ys:Array Qa}{a b:Qa}{Q:Fin->Qd->Prop}(hh:A.handled=none)(p1:l1<N)(p2:l2<N)(hz:IsZip s.heap (N+4) (N+2) (N+3) .none)
  (hI:Jl s.heap (N+2) (.ref N) (.ref (N+1))) (hO:Jl s.heap (N+3) a b) (h1:SIt t s.heap N l1 k) (h2:SIt t s.heap (N+1) l2 k) (g1:SSq t s.heap l1 xs) (g2:SSq t s.heap l2 ys) (he:xs[k]?=none\/ys[k]?=none)
  (q:∀h' e,(∀c o,c≠N+4->c≠N+3->c≠N->c≠N+1->s.heap.get? c=some o->h'.get? c=some o)->(∃o,h'.get? e=some o/\o.cls=.type "StopIteration")->E (.ref e) { s with heap:=h' }) :
  Qf (Qh prog w) A (Builtin.«zip.__next__» ⟨[.ref (N+4)],[]⟩) Q E s:=by
 change Qf _ _ (field (.ref (N+4)) 2>>=_) _ _ _
 refine Qc (QU hz rfl (x:=.bool false) rfl ?_);change Qf _ _ (field (.ref (N+4)) 3>>=_) _ _ _;refine Qc (QU hz rfl (x:=.ref (N+2)) rfl (Qc (JC hI rfl ?_)))
 change Qf _ _ (Jp (.ref (N+4))>>=_) _ _ _
 refine Qc ?_;unfold Jp;refine Qc (QU hz rfl (x:=.none) rfl (Qg ?_));simp only[if_true];refine Qc (wpAny_rule (Qc (QU hz rfl (x:=.ref (N+3)) rfl (Qc (JW hz (by simp) λu1 z1 s1=>?_)))))
 replace z1:IsZip u1 (N+4) (N+2) (N+3) .ellipsis:=z1
 refine Qc ?_;simp only[List.forIn_cons,List.forIn_nil,List.zipIdx_cons,List.zipIdx_nil];refine Qc (Qc (wpAny_onRaise ?_));change Qf _ _ (QO (.ref N)>>=_) _ _ _
 have fin:∀{h h':Heap} {e:Addr},IsZip h (N+4) (N+2) (N+3) .ellipsis->JF (N+4) h h'->(∃o,h.get? e=some o/\o.cls=.type "StopIteration")->∃o,h'.get? e=some o/\o.cls=.type "StopIteration":=λ{h h' e} hz sb ⟨o,h1,h2⟩=>
  ⟨o,sb.extBut _ _ (λz=>by rw[z,hz] at h1;cases h1;simp at h2) h1,h2⟩
 cases ex:xs[k]? with
 |none=>
  refine Qc (pq hh (h1.to λo e=>s1.extBut _ o (nN (by lia)) e) (g1.to λo e=>s1.extBut _ o (nN (by lia)) e) ex λu2 e s2 he=>?_);have z2:IsZip u2 (N+4) (N+2) (N+3) .ellipsis:=s2 _ _ (nN (by lia)) z1;exact JW z2 (by simp) λu3 _ s3=>q u3 e (λc o c1 _ c3 _ x=>s3.extBut _ _ c1 (s2 _ _ c3 (s1.extBut _ _ c1 x))) (fin z2 s3 he)
 |some x=>
  have ey:ys[k]?=none:=by
   rcases he with z | z
   ·rw[ex] at z;cases z
   ·exact z
  refine Qc (yj (h1.to λo e=>s1.extBut _ o (nN (by lia)) e) (g1.to λo e=>s1.extBut _ o (nN (by lia)) e) ex λu2 i2 s2=>Qg ?_);have o2:Jl u2 (N+3) a b:=s2.extBut _ _ (nN (by lia)) (s1.extBut _ _ (nN (by lia)) hO);refine Qc (JC o2 rfl (Qc (wpAny_updateSeq_pair o2 λu3 o3 s3=>?_)));refine Qc (wpAny_letGo (Qg (Qc (Qc (wpAny_onRaise ?_)))))
  change Qf _ _ (QO (.ref (N+1))>>=_) _ _ _
  refine Qc (pq hh (h2.to λo e=>s3.extBut _ o (nN (by lia)) (s2.extBut _ o (nN (by lia)) (s1.extBut _ o (nN (by lia)) e))) (g2.to λo e=>s3.extBut _ o (nN (by lia)) (s2.extBut _ o (nN (by lia)) (s1.extBut _ o (nN (by lia)) e))) ey λu4 e s4 he=>?_);have z4:IsZip u4 (N+4) (N+2) (N+3) .ellipsis:=s4 _ _ (nN (by lia)) (s3.extBut _ _ (nN (by lia)) (s2.extBut _ _ (nN (by lia)) z1));exact JW z4 (by simp) λu5 _ s5=>q u5 e (λc o c1 c2 c3 c4 x=>s5.extBut _ _ c1 (s4 _ _ c4 (s3.extBut _ _ c2 (s2.extBut _ _ c3 (s1.extBut _ _ c1 x))))) (fin z4 s5 he)
theorem yO{t:Bool}{N l1 l2:Nat}{k:Nat}{xs ys:Array Qa}{x y a b:Qa}{Q:Option Qa->Qd->Prop}(p1:l1<N)(p2:l2<N)(hz:IsZip s.heap (N+4) (N+2) (N+3) .none)
  (hI:Jl s.heap (N+2) (.ref N) (.ref (N+1))) (hO:Jl s.heap (N+3) a b) (h1:SIt t s.heap N l1 k) (h2:SIt t s.heap (N+1) l2 k) (g1:SSq t s.heap l1 xs) (g2:SSq t s.heap l2 ys) (hx:xs[k]?=some x) (hy:ys[k]?=some y)
  (q:∀h',IsZip h' (N+4) (N+2) (N+3) (rawInt s.heap.objs.size)->Jl h' (N+3) x y->SIt t h' N l1 (k+1)->SIt t h' (N+1) l2 (k+1)->Jl h' s.heap.objs.size x y->
   (∀c o,c≠N+4->c≠N+3->c≠N->c≠N+1->s.heap.get? c=some o->h'.get? c=some o)->Q (some (.ref s.heap.objs.size)) { s with heap:=h' }) :
  Qf (Qh prog w) A (pyNext (.ref (N+4))) Q E s:=by
 have ty:s.TypeIs (.ref (N+4)) "zip":=⟨_,hz,rfl⟩;unfold pyNext;exact Qc (wpAny_attempt (Jr (name:=Str.ofString "__next__") ty F.slot_zip_next (Ze F.slot_zip_next ty F.entry_zip_next (vF p1 p2 hz hI hO h1 h2 g1 g2 hx hy λh' a1 a2 a3 a4 a5 a6=>Qg (q h' a1 a2 a3 a4 a5 a6)) (F.args_zip_next_1 _))))
theorem qT{t:Bool}{N l1 l2:Nat}{k:Nat}{xs ys:Array Qa}{a b:Qa}{Q:Option Qa->Qd->Prop}(hh:A.handled=none)(p1:l1<N)(p2:l2<N)(hz:IsZip s.heap (N+4) (N+2) (N+3) .none)
  (hI:Jl s.heap (N+2) (.ref N) (.ref (N+1))) (hO:Jl s.heap (N+3) a b) (h1:SIt t s.heap N l1 k) (h2:SIt t s.heap (N+1) l2 k) (g1:SSq t s.heap l1 xs) (g2:SSq t s.heap l2 ys) (he:xs[k]?=none\/ys[k]?=none)
  (q:∀h',(∀c o,c≠N+4->c≠N+3->c≠N->c≠N+1->s.heap.get? c=some o->h'.get? c=some o)->Q none { s with heap:=h' }):Qf (Qh prog w) A (pyNext (.ref (N+4))) Q E s:=by
 have ty:s.TypeIs (.ref (N+4)) "zip":=⟨_,hz,rfl⟩;unfold pyNext;refine Qc (wpAny_attempt (Jr (name:=Str.ofString "__next__") ty F.slot_zip_next (Ze F.slot_zip_next ty F.entry_zip_next (yP hh p1 p2 hz hI hO h1 h2 g1 g2 he λh' e hk ⟨o,w1,w2⟩=>?_) (F.args_zip_next_1 _))));exact Qc (wpAny_isInstance (T:="StopIteration") (b:=true) ⟨o,w1,w2⟩ isSubtype_stop (Qg (q _ hk)))
end
def kz(t:Bool)(h:Heap)(l1 l2:Addr):Heap:=
 ((((h.push { cls:=.type (if t then "tuple_iterator" else "list_iterator"),data:=.fields #[.ref l1,.int 0 0] }).push { cls:=.type (if t then "tuple_iterator" else "list_iterator"),data:=.fields #[.ref l2,.int 0 0] }).push
  { cls:=.type "tuple",data:=.seq #[.ref h.objs.size,.ref (h.objs.size+1)] }).push { cls:=.type "tuple",data:=.seq #[.none,.none] }).push
  { cls:=.type "zip",data:=.fields #[.none,.bool false,.bool false,.ref (h.objs.size+2),.ref (h.objs.size+3)] }
theorem vc(l1 l2:Addr)(xs ys:Array Qa):Meets (Builtin.«zip.__new__» ⟨[.type "zip",.ref l1,.ref l2],[]⟩) (λ_ R s=>s.heap.IsTuple l1 xs/\s.heap.IsTuple l2 ys/\
   R (.ok (.ret (.ref (s.heap.objs.size+4)))) { s with heap:=kz true s.heap l1 l2 }):=
 .of_wp λprog w A R s h=>by
  obtain⟨hp,g,d,tk,os⟩:=s;obtain⟨q1,q2,h⟩:=h;have hsub:=sub_zip;have w1:Heap.IsTuple (Shared.heap ⟨hp,g,d,tk,os⟩) l1 xs:=q1;have w2:Heap.IsTuple (Shared.heap ⟨hp.push { cls:=.type "tuple_iterator",data:=.fields #[.ref l1,.int 0 0] },g,d,tk,os⟩) l2 ys:=Heap.IsTuple.push q2 _
  wp_walk using wpAny_pyIter_tuple w1,wpAny_pyIter_tuple w2
  simp only[Jd] at *;exact⟨_,rfl,h⟩
theorem uB(t:Bool)(h:Heap)(l1 l2:Addr):IsZip (kz t h l1 l2) (h.objs.size+4) (h.objs.size+2) (h.objs.size+3) .none/\Jl (kz t h l1 l2) (h.objs.size+2) (.ref h.objs.size) (.ref (h.objs.size+1))/\
  Jl (kz t h l1 l2) (h.objs.size+3) .none .none/\SIt t (kz t h l1 l2) h.objs.size l1 0/\SIt t (kz t h l1 l2) (h.objs.size+1) l2 0/\∀c o,h.get? c=some o->(kz t h l1 l2).get? c=some o:=by
 have lay:∀(g:Heap) (o:Obj) (n:Nat),g.objs.size=n->o.isFreed=false->(g.push o).get? n=some o:=λg o n e f=>by rw[<-e];exact Qp _ f
 unfold kz;refine⟨lay _ _ _ (by simp[Jd]) rfl,?_,?_,?_,?_,λc o e=>?_⟩
 ·exact Qe _ (Qe _ (lay _ _ _ (by simp[Jd]) rfl))
 ·exact Qe _ (lay _ _ _ (by simp[Jd]) rfl)
 ·cases t<;>exact⟨_,Qe _ (Qe _ (Qe _ (Qe _ (lay _ _ _ rfl rfl)))),rfl,rfl⟩
 ·cases t<;>exact⟨_,Qe _ (Qe _ (Qe _ (lay _ _ _ (by simp[Jd]) rfl))),rfl,rfl⟩
 ·exact Qe _ (Qe _ (Qe _ (Qe _ (Qe _ e))))
theorem sX{prog:Qq}{w:Qw}{A:QC}{E:Qa->Qd->Prop}{s:Qd}{t:Bool}{l1 l2:Addr}{xs ys:Array Qa}{Q:Qa->Qd->Prop}(g1:SSq t s.heap l1 xs)(g2:SSq t s.heap l2 ys)
  (q:∀h',IsZip h' (s.heap.objs.size+4) (s.heap.objs.size+2) (s.heap.objs.size+3) .none->Jl h' (s.heap.objs.size+2) (.ref s.heap.objs.size) (.ref (s.heap.objs.size+1))->Jl h' (s.heap.objs.size+3) .none .none->
   SIt t h' s.heap.objs.size l1 0->SIt t h' (s.heap.objs.size+1) l2 0->(∀c o,s.heap.get? c=some o->h'.get? c=some o)->Q (.ref (s.heap.objs.size+4)) { s with heap:=h' }):Qf (Qh prog w) A (call (.type "zip") [.ref l1,.ref l2]) Q E s:=by
 cases t with
 |false=>exact call_zip_2 g1 g2 λh' a1 a2 a3 a4 a5 _ a6=>q h' a1 a2 a3 a4 a5 a6
 |true=>
  obtain⟨a1,a2,a3,a4,a5,a6⟩:=uB true s.heap l1 l2;exact callType_new F.called_zip (by decide) (F.typeCall_zip_2 _ _) (F.newCall_zip_2 _ _) (λob=>F.args_object_init_3 ob _ _) F.entry_zip_new (vc l1 l2 xs ys) ⟨g1,g2,⟨_,a1,rfl⟩,q _ a1 a2 a3 a4 a5 a6⟩
theorem f9{X:Cx}{pins:List (Addr×Obj)}{σ:L2.St}{H:Hp}{s:Qd}{h':Heap}{t':Nat}{fp:List Addr}(I:Inv X pins σ H s)(k:∀b o,b∉fp->s.heap.get? b=some o->h'.get? b=some o)(hf:∀b∈fp,jU X pins H b):Inv X pins σ H { s with heap:=h',toks:=t' }:=by
 refine I.step (g':=s.gens) (d':=s.drawn) (ch:=fp) (λb hb=>⟨(hf b hb).2.2.2.1,(hf b hb).2.1,(hf b hb).2.2.2.2.1,(hf b hb).2.2.2.2.2⟩) (λb o _ _ hc e _=>k b o hc e) (λb o _ _ hc e _=>⟨o.slots,k b o hc e⟩) (λ_ _ _ _ n=>n) (λb o hc e=>⟨o,k b o hc e⟩) (λ_ _ e=>e) (λ_ _ _ e=>e)
  (λb ps e=>⟨#[],by rw[e];simp⟩) (λm hm=>?_) (λb u e=>?_) I.bare
 ·obtain⟨o,es,ep,ho,r⟩:=hm
  exact⟨o,es,ep,k _ o (λz=>(hf _ z).2.1 rfl) ho,r⟩
 ·refine(I.hok b u e).stay (λc v hc q=>k c v (λz=>?_) q) (λ_ q=>q) λ_ _ q=>q
  have nc:=(hf c z).1;rcases hc with w | w
  ·rw[w,e] at nc;cases nc
  ·rw[w] at nc;cases nc
def Itz(t:Bool)(K:Qb)(l1 l2:Addr):It:=
 ⟨λi H=>∃xs ys x y,SqB t K H l1 xs/\SqB t K H l2 ys/\xs[i]?=some x/\ys[i]?=some y,
  λi H v H'=>∃p x y,v=.ref p/\H p=none/\H'=upd H p (.tup [x,y])/\(∀xs,SqB t K H l1 xs->xs[i]?=some x)/\(∀ys,SqB t K H l2 ys->ys[i]?=some y),
  λi H=>∃xs ys,SqB t K H l1 xs/\SqB t K H l2 ys/\(xs.length<=i\/ys.length<=i)⟩
def zfp(N:Nat):List Addr:=[N+4,N+2,N+3,N,N+1]
theorem va{P:Qq}{w:Qw}{K:Qb}{es:List Expr}{k0:Nat}{tpos:Pos}(t:Bool)(N l1 l2:Nat)(p1:l1<N)(p2:l2<N) :
  Turn P w K (.Tuple es k0 tpos) (Itz t K l1 l2) (zfp N) (N+4) (λi h=>IsZip h (N+4) (N+2) (N+3) .none/\Jl h (N+2) (.ref N) (.ref (N+1))/\(∃a b,Jl h (N+3) a b)/\SIt t h N l1 i/\SIt t h (N+1) l2 i) where
 mem:=by simp[zfp]
 obj:=λi h ⟨h1,h2,⟨a,b,h3⟩,h4,h5⟩ c hc=>by
  simp only[zfp,Qm,Qt,or_false] at hc;rcases hc with rfl | rfl | rfl | rfl | rfl
  ·exact⟨_,h1,λv z=>by cases(show Data.fields _=Data.cell v from z)⟩
  ·exact⟨_,h2,λv z=>by cases(show Data.seq _ _=Data.cell v from z)⟩
  ·exact⟨_,h3,λv z=>by cases(show Data.seq _ _=Data.cell v from z)⟩
  ·exact h4.there
  ·exact h5.there
 keep:=λi h h' ⟨h1,h2,⟨a,b,h3⟩,h4,h5⟩ k=>⟨k _ (by simp[zfp]) _ h1,k _ (by simp[zfp]) _ h2,⟨a,b,k _ (by simp[zfp]) _ h3⟩,h4.to λo e=>k _ (by simp[zfp]) o e,h5.to λo e=>k _ (by simp[zfp]) o e⟩
 item:=by
  intro X hP hw hK hc i pins s σ H E I hf st hg;subst hP hw hK;obtain⟨h1,h2,⟨a,b,h3⟩,h4,h5⟩:=st;obtain⟨xs,ys,x,y,q1,q2,ex,ey⟩:=hg;obtain⟨is1,r1,g1⟩:=gG I q1;obtain⟨is2,r2,g2⟩:=gG I q2;obtain⟨u,eu,ru⟩:=r1.get ex;obtain⟨v,ev,rv⟩:=r2.get ey;refine yO p1 p2 h1 h2 h3 h4 h5 g1 g2 (x:=u) (y:=v) (by simpa using eu) (by simpa using ev) λh' a1 a2 a3 a4 a5 a6=>⟨_,rfl,?_⟩;refine wpAny_letOwnedTupleGo_zip (s:={ s with heap:=h' }) a1 λh'' b1 b2=>?_;have zl:N+4<s.heap.objs.size:=Qk h1;have nn:H s.heap.objs.size=none:=I.hok.fresh (Qi _)
  have I1:Inv X pins σ (upd H s.heap.objs.size (.tup [x,y])) { s with heap:=s.heap.push { cls:=.type "tuple",data:=.seq #[u,v] } }:=
   I.laid (t':=s.toks) (λb o e=>Qe _ e) (Qi _) ⟨show 2<=Qj by decide,[u,v],.cons ru (.cons rv .nil),⟨_,Qp _ rfl,rfl,_,rfl⟩⟩
  have ne:∀b∈zfp N,b≠s.heap.objs.size:=λc hc=>by
   simp only[zfp,Qm,Qt,or_false] at hc;rcases hc with rfl | rfl | rfl | rfl | rfl<;>exact nN (by lia)
  have f1:∀b∈zfp N,jU X pins (upd H s.heap.objs.size (.tup [x,y])) b:=λc hc=>⟨by rw[ao (ne c hc)];exact(hf c hc).1,(hf c hc).2⟩
  have k2:∀c o,c∉zfp N->(s.heap.push { cls:=.type "tuple",data:=.seq #[u,v] }).get? c=some o->h''.get? c=some o:=λc o hc e=>by
   simp only[zfp,Qm,Qt,or_false,not_or] at hc;obtain⟨c1,c2,c3,c4,c5⟩:=hc;refine b2.extBut _ _ c1 ?_
   by_cases z:c=s.heap.objs.size
   ·subst z
    rw[Qp _ rfl] at e;cases e;exact a5
   ·exact a6 c o c1 c3 c4 c5 ((Heap.get?_push_ne _ _ _ z).symm.trans e)
  have I2:=f9 (h':=h'') (t':=s.toks) I1 k2 f1;refine⟨.ref s.heap.objs.size,_,I2,rfl,⟨_,x,y,rfl,nn,rfl,λzs hz=>?_,λzs hz=>?_⟩,⟨b1,b2.extBut _ _ (nN (by lia)) (a6 _ _ (nN (by lia)) (nN (by lia)) (nN (by lia)) (nN (by lia)) h2),⟨_,_,b2.extBut _ _ (nN (by lia)) a2⟩,a3.to λo e=>b2.extBut _ o (nN (by lia)) e,a4.to λo e=>b2.extBut _ o (nN (by lia)) e⟩,λc hc=>(f1 c hc).1⟩
  ·rw[jM I hz q1];exact ex
  ·rw[jM I hz q2];exact ey
 done:=by
  intro X hP hw hK hc i pins s σ H E I hf st hg;subst hP hw hK;obtain⟨h1,h2,⟨a,b,h3⟩,h4,h5⟩:=st;obtain⟨xs,ys,q1,q2,he⟩:=hg;obtain⟨is1,r1,g1⟩:=gG I q1;obtain⟨is2,r2,g2⟩:=gG I q2;have n1:=r1.length;have n2:=r2.length;refine qT (I.ok.hd hc) p1 p2 h1 h2 h3 h4 h5 g1 g2 (he.elim (λz=>.inl (by simp;lia)) λz=>.inr (by simp;lia)) λh' hk=>⟨rfl,f9 (t':=s.toks) I (λc o hc e=>?_) hf⟩;simp only[zfp,Qm,Qt,or_false,not_or] at hc;exact hk c o hc.1 hc.2.2.1 hc.2.2.2.1 hc.2.2.2.2 e
 self:=λ_ _ _ _ _ st h=>wpAny_pyIter_zip st.1 h
section
variable{X:Cx}{a b:Expr}{pos:Pos}
def AQ(K:Qb)(ta:TA):TI:=λσ H R=>ta σ H λvs H1=>∃t l1 l2 xs ys,vs=[.ref l1,.ref l2]/\SqB t K H1 l1 xs/\SqB t K H1 l2 ys/\R (Itz t K l1 l2) H1
theorem zx{es:List Expr}{k0:Nat}{tpos p:Pos}{ta:TA}(hg:Gl X "zip")(hm:X.mg "zip" = none)(ha:PA X [a,b] ta)(hs:Qn [a,b] X.env=[(false,eval a X.env),(false,eval b X.env)]:=by rfl)(hs2:Qn [b] X.env=[(false,eval b X.env)]:=by rfl) :
  PI X (.Tuple es k0 tpos) (.Call (.Name "zip" p) [a,b] [] pos) (AQ X.K ta):=by
 intro pins s σ H R I h;refine Call_ (kc I hg hm boot_zip (JU (thn (ha pos pins s σ H _ I h) λus s1 ⟨vs,H1,I1,r1,q1⟩=>?_) (by rw[hs,hs2]) (by rw[hs2];rfl)));obtain⟨t,l1,l2,xs,ys,e,q1,q2,q⟩:=q1;subst e
 cases r1 with | cons r rr=>cases rr with | cons r' rr=>
  cases rr;cases r;cases r';obtain⟨is1,w1,g1⟩:=gG I1 q1;obtain⟨is2,w2,g2⟩:=gG I1 q2;refine sX g1 g2 λh' a1 a2 a3 a4 a5 a6=>wpAny_pyIter_zip a1 ?_;refine⟨s1.heap.objs.size+4,zfp s1.heap.objs.size,_,_,H1,rfl,I1.kept (t':=s1.toks) a6,va t s1.heap.objs.size l1 l2 g1.lt g2.lt,⟨a1,a2,⟨_,_,a3⟩,a4,a5⟩,λc hc=>?_,q⟩
  have lc:s1.heap.objs.size<=c:=by
   simp only[zfp,Qm,Qt,or_false] at hc;rcases hc with rfl | rfl | rfl | rfl | rfl<;>(show @LE.le Nat _ _ _;lia)
  exact I1.fpOk lc (I1.hok.fresh lc)
def lS(xs ys:List D):List D:=List.zipWith (λx y=>D.tup [x,y]) xs ys
def tf(f:Ev->Option (List D)):Ev->Option (List D):=λε=>match f ε with
 |some [.lst xs,.lst ys]=>some (lS xs ys)
 |some [.tup xs,.tup ys]=>some (lS xs ys)
 |_=>none
theorem xH{K:Qb}{G:Hp}{t:Bool}{l1 l2:Addr}{xs ys:List V}{ds es:List D}(h1:SqB t K G l1 xs)(h2:SqB t K G l2 ys)(d1:DenL K G xs ds)(d2:DenL K G ys es):ItD K (Itz t K l1 l2) (lS ds es) G:=by
 intro i H2 s2
 have up:∀{l:Addr} {zs:List V},SqB t K G l zs->SqB t K H2 l zs:=λ{l zs} h=>by
  cases t with
  |true=>exact aE s2 h
  |false=>exact s2.seq h
 have n1:=d1.length;have n2:=d2.length;have nz:(lS ds es).length=min ds.length es.length:=by simp[lS]
 refine⟨λhi=>?_,λhi=>⟨xs,ys,up h1,up h2,by rw[nz] at hi;lia⟩,?_⟩
 ·rw[nz] at hi
  exact⟨xs,ys,xs[i]'(by lia),ys[i]'(by lia),up h1,up h2,by simp,by simp⟩
 ·rintro v H3 ⟨p,x,y,rfl,hn,rfl,w1,w2⟩ d ed G2 s3 s4
  have e1:=w1 xs (up h1);have e2:=w2 ys (up h2);obtain⟨d1',f1,f2⟩:=d1.getV e1;obtain⟨d2',f3,f4⟩:=d2.getV e2;have:(lS ds es)[i]?=some (.tup [d1',d2']):=by simp[lS,List.getElem?_zipWith,f1,f3]
  rw[this] at ed;cases ed;have g:=Grow.new (.tup [x,y]) s4 hn;refine⟨_,g,.tup (xs:=[x,y]) (.inl (.inl upd_same)) (.cons ((f2.mono s3).mono g.gg) (.cons ((f4.mono s3).mono g.gg) .nil))⟩
theorem uE{es:List Expr}{k0:Nat}{tpos p:Pos}{f:Ev->Option (List D)}(h:DA X [a,b] f)(hm:X.mg "zip" = none)(hg:Gl X "zip":=by rfl)(hs:Qn [a,b] X.env=[(false,eval a X.env),(false,eval b X.env)]:=by rfl)(hs2:Qn [b] X.env=[(false,eval b X.env)]:=by rfl) :
  DI X (.Tuple es k0 tpos) (.Call (.Name "zip" p) [a,b] [] pos) (tf f):=by
 obtain⟨t,a1,a2⟩:=h;refine⟨_,zx hg hm a1 hs hs2,λHe G H σ ε ds R gh E ef q=>?_⟩;unfold tf at ef;split at ef
 ·rename_i e1
  cases ef;refine a2 He G H σ ε _ _ gh E e1 λvs G1 H1 g1 hd=>?_
  cases hd with | cons h1 hd=>cases hd with | cons h2 hd=>
   cases hd;obtain⟨l1,xs,rfl,w1,w2⟩:=h1.lstV;obtain⟨l2,ys,rfl,w3,w4⟩:=h2.lstV;exact⟨false,l1,l2,xs,ys,rfl,g1.gh.seq w1,g1.gh.seq w3,q _ G1 H1 g1 (xH (t:=false) w1 w3 w2 w4)⟩
 ·rename_i e1
  cases ef;refine a2 He G H σ ε _ _ gh E e1 λvs G1 H1 g1 hd=>?_
  cases hd with | cons h1 hd=>cases hd with | cons h2 hd=>
   cases hd;obtain⟨l1,xs,rfl,w1,w2⟩:=h1.tupV;obtain⟨l2,ys,rfl,w3,w4⟩:=h2.tupV;exact⟨true,l1,l2,xs,ys,rfl,aE g1.gh w1,aE g1.gh w3,q _ G1 H1 g1 (xH (t:=true) w1 w3 w2 w4)⟩
 ·cases ef
end
def flD:D->Option V
 |.non=>some .non
 |.bl b=>some (.bl b)
 |.int i=>some (.int i)
 |.str x=>some (.str x)
 |_=>none
def qX:List D->Option (List V)
 |[]=>some []
 |d::ds=>(flD d).bind λv=>(qX ds).bind λr=>some (v::r)
def Bz:D->Option (List D)
 |.lst ds=>some ds
 |.tup ds=>some ds
 |_=>none
def inD(neg:Bool):D->D->Option D:=λx y=>(flD x).bind λv=>(Bz y).bind λds=>(qX ds).bind λvs=>some (.bl (if neg then !inV v vs else inV v vs))
theorem r8{K:Qb}{G:Hp}{v w:V}{d:D}(h:Den K G v d)(e:flD d=some w):v=w/\ib v=true:=by
 cases h<;>cases e<;>exact⟨rfl,rfl⟩
theorem kZ{K:Qb}{G:Hp}:∀{xs:List V} {ds:List D} {ws:List V},DenL K G xs ds->qX ds=some ws->xs=ws/\xs.all ib=true
 |_,_,_,.nil,e=>by cases e;exact⟨rfl,rfl⟩
 |_,_,_,.cons h hs,e=>by
  obtain⟨v,e1,e⟩:=aw e;obtain⟨r,e2,e⟩:=aw e;cases e;obtain⟨rfl,f1⟩:=r8 h e1;obtain⟨rfl,f2⟩:=kZ hs e2;exact⟨rfl,by rw[ZI,f1,f2];rfl⟩
section
variable{X:Cx}{a b c:Expr}{fa fb fc:Ev->Option D}{pos:Pos}
theorem rp{neg:Bool}(G H:Hp)(x y:V)(dx dy d:D)(Q:VK)(gh:aD G H)(hx:cY X.K G H x dx)(hy:cY X.K G H y dy)(e:inD neg dx dy=some d)(q:∀v G' H',Grow G H G' H'->Den X.K G' v d->Q v H'):rIn X.K neg x y H Q:=by
 obtain⟨v,e1,e⟩:=aw e;obtain⟨ds,e2,e⟩:=aw e;obtain⟨vs,e3,e⟩:=aw e;cases e
 have hx':Den X.K G x dx:=by
  rcases hx with h | ⟨_,_,_,_,rfl,_⟩
  ·exact h
  ·cases e1
 obtain⟨rfl,f1⟩:=r8 hx' e1;cases dy with
 |lst es=>
  cases e2;obtain⟨p,xs,rfl,h1,h2⟩:=hy.lst gh;obtain⟨rfl,f2⟩:=kZ h2 e3;exact⟨p,_,rfl,.inl h1,f1,f2,q _ G H (.refl gh) (.bl _)⟩
 |tup es=>
  cases e2;obtain⟨p,xs,rfl,_,h1,h2⟩:=hy.tup gh;obtain⟨rfl,f2⟩:=kZ h2 e3;exact⟨p,_,rfl,.inr h1,f1,f2,q _ G H (.refl gh) (.bl _)⟩
 |_=>cases e2
theorem Az:OpD X (QH .In) (inD false):=⟨_,sI,rp⟩
theorem uu:OpD X (QH .NotIn) (inD true):=⟨_,oa,rp⟩
end
section
variable{X:Cx}{a b c:Expr}{fa fb fc:Ev->Option D}{pos:Pos}
def gu(f f':D->D->Option D)(fa fb fc:Ev->Option D):Ev->Option Bool:=λε=>asB (eCh f f' fa fb fc ε)
theorem lz{op op':CmpOp}{f f':D->D->Option D}(ho:OpD X (QH op) f)(ho':OpD X (QH op') f')(ha:DB X a fa)(hb:DB X b fb)(hc:DB X c fc)(hm:lastMarks [op,op'] [b,c]=false:=by with_unfolding_all rfl) :
  DT X (.Compare a [op,op'] [b,c] pos) (gu f f' fa fb fc):=by
 obtain⟨r,o1,o2⟩:=ho;obtain⟨r',p1,p2⟩:=ho';obtain⟨ta,a1,a2⟩:=ha;obtain⟨tb,b1,b2⟩:=hb;obtain⟨tc,c1,c2⟩:=hc;refine⟨_,uD o1 p1 a1 b1 c1 hm,λHe G H σ ε k Q gh E ef q=>?_⟩;obtain⟨x,e1,ef⟩:=aw (oS ef);obtain⟨y,e2,ef⟩:=aw ef;obtain⟨z,e3,ef⟩:=aw ef;refine a2 He G H σ ε x _ gh E e1 λv G1 H1 g1 d1=>?_;refine b2 He G1 H1 σ ε y _ g1.gh (E.grow g1) e2 λu G2 H2 g2 d2=>?_;split at ef
 ·rename_i j
  refine o2 G2 H2 v u x y (.bl j) _ g2.gh (d1.grow g2) d2 e3 λw G3 H3 g3 d3=>⟨j,d3.blV,?_⟩;cases j with
  |true=>
   rw[if_pos rfl] at ef ⊢;obtain⟨w',e4,ef⟩:=aw ef;refine c2 He G3 H3 σ ε w' _ g3.gh (((E.grow g1).grow g2).grow g3) e4 λv4 G4 H4 g4 d4=>?_;exact p2 G4 H4 u v4 y w' (.bl k) _ g4.gh ((d2.grow g3).grow g4) d4 ef λv5 G5 H5 g5 d5=>⟨k,d5.blV,q G5 H5 (g1.trans (g2.trans (g3.trans (g4.trans g5))))⟩
  |false=>
   rw[if_neg Qo] at ef ⊢;cases ef;exact⟨false,rfl,q _ _ (g1.trans (g2.trans g3))⟩
 ·cases ef
end
structure Wq where
 (P:Qq)
 (w:Qw)
 (K:Qb)
 (mg:Str->Option Qa)
def FB(Z:Wq)(x:Str)(st:Stmt)(ps:List Str)(f:Addr)(fd:QE):Prop:=FA Z.K Z.mg x st ps f fd/\∀us:List Qa,us.length=ps.length->bindArgs fd ⟨us,[]⟩=pure (ps.zip us)
def FX(Z:Wq)(x:Str)(st:Stmt)(ps:List Str):Prop:=∃f fd,FB Z x st ps f fd
def OkD(Z:Wq)(x:Str)(st:Stmt)(ps:List Str)(n:Nat)(F:List D->Option D):Prop:=∃f fd,FB Z x st ps f fd/\∀base,FnOk Z.P Z.w Z.K Z.mg base CX0 n f fd ps (spF Z.K F)
section
variable{Z:Wq}{x:Str}{st:Stmt}{ps N:List Str}{k:Nat}{g:Ev->Option Fl}
theorem bdF(R:FX Z x st ps)(hb:∀(d:N.Nodup) (f:Addr) (base:Heap) (cdv:Qa) (A:QC) (outer:List Env) (s:Qd) (H:Hp) (E:XK),Room k (A.deeper (envOfC x (aA st) s.heap.objs.size f cdv))->DSs (ik CX0 Z.P Z.w Z.K Z.mg base N x (aA st) f cdv A outer s H E).nox (bL st) g)
  (S:FnScope N ps (aA st):=by exact⟨rfl,rfl,rfl,by decide +kernel,rfl,by decide +kernel,by decide +kernel⟩):OkD Z x st ps (k+1) (fnD N ps g):=
 let⟨f,fd,A⟩:=R;⟨f,fd,A,λbase=>rS A.1.fu S (hb S.nd f base)⟩
theorem zR{P:Qq}{w:Qw}{K:Qb}{mg:Str->Option Qa}{h:Heap}{f:Addr}{oc:Qa}{od an:Option Addr}{osl:Array (Option Qa)}{kV doc pm cdv ct:Qa}(X:K.In h)(G:h.Ns Qx mg)
  (a:QJ K Qx x=some (some (.ref f)))
  (l:K.lookup f=some ⟨oc,od,.func (Q9 x x (c_ st) (bL st) (aA st) .none kV doc pm an cdv ct),osl⟩)
  (c:Za K cdv x=true) (k:Q4 K (.ref f)=true)
  (hb:∀(kV doc pm:Qa) (an:Option Addr) (cdv ct:Qa) (us:List Qa),us.length=ps.length->bindArgs (Q9 x x (c_ st) (bL st) (aA st) .none kV doc pm an cdv ct) ⟨us,[]⟩=pure (ps.zip us)):FX ⟨P,w,K,mg⟩ x st ps:=
 ⟨f,_,AH X G a l c k hb,hb kV doc pm an cdv ct⟩
theorem yG{P:Qq}{w:Qw}{K:Qb}{mg:Str->Option Qa}{n:Nat}{F:List D->Option D}{y:Str}{fa:Addr}(H:OkD ⟨P,w,K,mg⟩ x st [y] n F)(hfa:mg x=some (.ref fa)) :
  ∃fd:QE,(∀(s:Qd) (v:Qa),BindsTo s fd ⟨[v],[]⟩ [(y,v)])/\∀base:Heap,K.In base->base.Ns Qx mg->FnOk P w K mg base CX0 n fa fd [y] (spF K F):=by
 obtain⟨f,fd,⟨A,b⟩,G⟩:=H;have e:=A.mgf.symm.trans hfa;cases e;exact⟨fd,λs v=>.of_eq (b [v] rfl),λbase _ _=>G base⟩
end
theorem jt{α:Type}{p:List α->Prop}{n:Nat}(h:∀(a:α) (r:List α),r.length=n->p (a::r)):∀us:List α,us.length=n+1->p us
 |[],e=>by cases e
 |a::r,e=>h a r (Nat.succ.inj e)
theorem vo{α:Type}{p:List α->Prop}(h:p []):∀us:List α,us.length=0->p us
 |[],_=>h
 |_::_,e=>by cases e
theorem sL{α:Type}{p:List α->Prop}(h:∀a0,p [a0]):∀us:List α,us.length=1->p us:=jt λa0=>(vo (h a0))
theorem wj{α:Type}{p:List α->Prop}(h:∀a0 a1,p [a0,a1]):∀us:List α,us.length=2->p us:=jt λa0=>jt λa1=>(vo (h a0 a1))
theorem zL{α:Type}{p:List α->Prop}(h:∀a0 a1 a2,p [a0,a1,a2]):∀us:List α,us.length=3->p us:=jt λa0=>jt λa1=>jt λa2=>(vo (h a0 a1 a2))
theorem zN{α:Type}{p:List α->Prop}(h:∀a0 a1 a2 a3,p [a0,a1,a2,a3]):∀us:List α,us.length=4->p us:=jt λa0=>jt λa1=>jt λa2=>jt λa3=>(vo (h a0 a1 a2 a3))
theorem Bl{α:Type}{p:List α->Prop}(h:∀a0 a1 a2 a3 a4,p [a0,a1,a2,a3,a4]):∀us:List α,us.length=5->p us:=jt λa0=>jt λa1=>jt λa2=>jt λa3=>jt λa4=>(vo (h a0 a1 a2 a3 a4))
section
variable{X:Cx}{pos p:Pos}{x:Str}{st:Stmt}{ps:List Str}{k j:Nat}{e:Expr}{es:List Expr}{g:Ev->Option (List D)}{Fn:List D->Option D}{FO:List D->Option (List D)}
theorem cF(H:OkD ⟨X.prog,X.w,X.K,X.mg⟩ x st ps j Fn)(hr:Room k X.A)(ha:DA X (e::es) g)(hj:j<=k:=by decide)(hg:Gl X x:=by rfl)(hdb:(x==("__debug__" : Str))=false:=by decide)(he:Qn (e::es) X.env=(false,eval e X.env)::Qn es X.env:=by rfl)(hpl:(Je pos (Qn es X.env)).any (·.1)=false:=by rfl) :
  DE X (.Call (.Name x p) (e::es) [] pos) (bt Fn g):=let⟨_,_,A,F⟩:=H;pZ A.1 (F _) hr hj ha hg hdb he hpl
end
end Dn
namespace Ex
open PySem PySem.Spec PyProof.Rows L2
theorem Moves.un2{fs fs':List Addr}{n:Nat}{H H':Hp}{h0 h h':Heap}(u:Un fs [] H H' h0 h)(m:Moves fs' n H' h h')(hn:h0.objs.size<=n)(h1:∀b∈fs,b∈fs')(h2:∀b∈fs',b<h0.objs.size->b∈fs):Un fs [] H H' h0 h' where
 keep:=λb o e q z y=>m.keep b o (u.keep b o e q z y) (λk=>z (h2 b k (Qk e))) (.inl (Qy (Qk e) hn))
 slot:=λb o e q z y=>let⟨_,e1⟩:=u.slot b o e q z y;let⟨sl,e2⟩:=m.slot b _ e1 (h1 b z);⟨sl,e2⟩
 free:=u.free
 there:=λb o e y=>let⟨o1,e1⟩:=u.there b o e y;m.there b o1 e1
 tups:=u.tups
 frzs:=u.frzs
 tbls:=u.tbls
def CX1(P:Qq)(w:Qw):CXT:=λouter H s E e s'=>∃a cls dx H',e=.ref a/\s'.os=s.os/\AllBare s'.gens/\Un (frs outer) [] H H' s.heap s'.heap/\HOk P w H' s'.heap/\XAt s.heap.objs.size H' s'.heap a cls dx/\E cls (some dx) H'
def As(X:Cx)(E:XK):Prop:=∀(pins:List (Addr×Obj)) (σ:L2.St) (H:Hp) (s:Qd) (a:Addr) (cls:Qa) (dx:Addr),Inv X pins σ H s->XAt X.s₀.heap.objs.size H s.heap a cls dx->E cls (some dx) H->X.xe (.ref a) s
theorem gO{P:Qq}{w:Qw}{K:Qb}{mg:Str->Option Qa}{base:Heap}{N:List Str}{qual:Str}{scope:Scope}{f:Addr}{cd:Qa}{A:QC}{outer:List Env}{s:Qd}{H:Hp}{E:XK} :
  As (ik (CX1 P w) P w K mg base N qual scope f cd A outer s H E) E:=by
 intro pins σ H' s' a cls dx I x q;refine uw (n:=s.heap.objs.size) (H:=H') I.ok.frames I.stack rfl (λb hb=>I.hok.fresh hb) x λh' m y=>?_;refine⟨a,cls,dx,H',rfl,I.os,I.bare,m.un2 I.base (Qi _) (λb z=>?_) (λb z l=>?_),m.hok I.stkFree I.hok,y,q⟩
 ·exact QG _ z
 ·rcases Qm.mp (show b∈s.heap.objs.size::frs outer from z) with e | e
  ·exact absurd (e▸l) (Jm _)
  ·exact e
theorem l9{X:Cx}{E:XK}(h:As X E):gW (CX1 X.prog X.w) X E:=by
 rintro pins σ H s e s' I ⟨a,cls,dx,H',rfl,os,bare,un,hok,x,q⟩;exact h pins σ H' s' a cls dx (I.call' os un hok bare λb z=>absurd z (by simp)) (x.le I.sz) q
theorem iE{P:Qq}{w:Qw}{K:Qb}{mg:Str->Option Qa}{base:Heap}{N:List Str}{qual:Str}{scope:Scope}{f:Addr}{cd:Qa}{A:QC}{outer:List Env}{s:Qd}{H:Hp}{E:XK}{CX:CXT} :
  PassesOwn (Qh P w) (ik CX P w K mg base N qual scope f cd A outer s H E).A (ik CX P w K mg base N qual scope f cd A outer s H E).env (ik CX P w K mg base N qual scope f cd A outer s H E).xe:=PassesOwn.leaving
structure XC(K:Qb)(C:Addr)(cd:ClassData):Prop where
 cls:JO K C=some cd
 sa:Qr K (.ref C) "__setattr__" = some (some (.builtin "object.__setattr__"))
 obj:JP K C (.type "object")=some true
 refuse:∀self,refuseLoop self "__setattr__" cd.mro=pure ()
 dict:cd.hasDict=true
section
variable{prog:Qq}{w:Qw}{A:QC}{E:Qa->Qd->Prop}{s:Qd}{K:Qb}{C x:Addr}{cd:ClassData}{mA:Str->Option Qa}{name:Str}{v:Qa}
theorem sM(I:s.heap.Inst x C mA):∃ox od,PySem.W.InstAt s.heap x ox C od:=by
 obtain⟨o,e,c,nc,d⟩:=I
 have no:Zb o=true:=by
  unfold Zb;split
  ·rename_i z;exact absurd z (nc _)
  ·rfl
 rcases d with⟨d,_⟩ | ⟨dx,d,_,⟨od,_,_,eo,_⟩⟩
 ·exact⟨o,none,e,c,no,by rw[d];trivial⟩
 ·exact⟨o,some od,e,c,no,by rw[d];exact eo⟩
theorem AD{M:Model}{A:QC}{E:Qa->Qd->Prop}{s:Qd}{α:Type}{d:Data}{r:α}{k:Sem α}{Q:α->Qd->Prop}(nc:∀c,d≠.cls c)(h:Qf M A k Q E s):Qf M A (match d with | .cls _=>pure r | _=>k) Q E s:=by
 cases d<;>first | exact h | exact absurd rfl (nc _)
theorem uf{dx:Addr}{m:Str->Option Qa}{ns:List Str}{tk:Tok}{Q:Fin->Qd->Prop}(hn:s.heap.Ns1 dx m)(hw:Zs m ns)(hz:ns.length+1<=Qj)
  (hq:∀h' t,h'.Ns1 dx (λy=>if y=name then some v else m y)->JF dx s.heap h'->Q (.done (.ret .none)) { s with heap:=h',toks:=t }):Qf (Qh prog w) A (Builtin.ObjectAttr.storeInDict dx (.str name tk) name v) Q E s:=by
 unfold Builtin.ObjectAttr.storeInDict;refine Qc (Qg (Qc (wpAny_nsSet1 hn λh' n2 sb=>?_)));obtain⟨o,es,ep,e1,e2,e3⟩:=n2.count (PySem.Within.cons name v hw);refine Qc (wpAny_lookBehind e1 ?_ (Qg (hq h' _ n2 sb)));rw[e2];exact pastItsLine_dict (QF e3 (Zr hz))
theorem BD{ns:List Str}{Q:Unit->Qd->Prop}(X:K.In s.heap)(c:XC K C cd)(hf:Qr K (.ref C) name=some none)(I:s.heap.Inst x C mA)(hw:Zs mA ns)(hz:ns.length+1<=Qj)
  (hq:∀h' t,h'.Inst x C (λy=>if y=name then some v else mA y)->(∀b o,b≠x->(∀o0 dx,s.heap.get? x=some o0->o0.dict=some dx->b≠dx)->s.heap.get? b=some o->h'.get? b=some o)->
   (∀o0,s.heap.get? x=some o0->∃d,h'.get? x=some { o0 with dict:=some d }/\(o0.dict=none->s.heap.objs.size<=d)/\∀d0,o0.dict=some d0->d=d0)->Q () { s with heap:=h',toks:=t }) :
  Qf (Qh prog w) A (setAttr (.ref x) name v) Q E s:=by
 obtain⟨ox,od,J⟩:=sM I;refine PySem.W.set_plain X J c.sa ?_;have W0:=PySem.F.store_object;have inst:PySem.W.Looks (Qh prog w) s.heap (isInstance (.ref x) (.type "object")) true:=J.type.andThen (PySem.W.looks_mroIn X c.obj);refine codeAny_call_builtin W0.slot.plain W0.entry (@PySem.W.check_slot (Qh prog w) _ _ { s with toks:=s.toks+1 } "object.__setattr__" "object" "__setattr__" (.ref x) [.str name s.toks,v] [] _ W0.kind W0.split inst (W0.args (.ref x) (.str name s.toks) v) ?_);rw[PySem.W.osa_eq,refuse_eq];refine Qc (Qc (JV (s:={ s with toks:=s.toks+1 }) J.type (Qc (JV (s:={ s with toks:=s.toks+1 }) ((PySem.W.looks_clsIn X c.cls).andThen .now) ?_))));rw[c.refuse];refine Qg (Qc (JV (s:={ s with toks:=s.toks+1 }) J.type (Qc (JV (s:={ s with toks:=s.toks+1 }) (ZC X hf) (Qc (Qg ?_))))));obtain⟨o,ho,hc,nc,hd⟩:=I;obtain⟨oc,odi,oda,osl⟩:=o;dsimp only at hc nc hd;subst hc;have cl:=PySem.W.looks_clsIn (M:=Qh prog w) X c.cls;refine Qc (Qg (Qc (Qc (wpAny_loadPart (s:={ s with toks:=s.toks+1 }) ho (Qc (JV (s:={ s with toks:=s.toks+1 }) cl ?_))))));rw[c.dict];rcases hd with⟨hd,hm⟩ | ⟨dx,hd,ne,hn⟩
 ·subst hd
  rw[if_neg (by decide)];dsimp only;rw[if_neg (by simp[typeHasDict])];have xs:x≠s.heap.objs.size:=Qz (Qk ho);refine AD nc (Qc (wpAny_alloc ?_));have ho1:(s.heap.push { cls:=.type "dict",data:=.dict #[] }).get? x=some { cls:=.ref C,data:=oda,slots:=osl }:=Qe _ ho;refine Qc (wpAny_update ho1 (Qg (a:=some s.heap.objs.size) ?_))
  have selfx:=JA (λo=>{ cls:=o.cls,dict:=some s.heap.objs.size,data:=o.data,slots:=o.slots }) ho1 (by
   have z:=(Heap.get?_some_iff.mp ho).2
   cases oda<;>first | rfl | exact z)
  have n0:((s.heap.push { cls:=.type "dict",data:=.dict #[] }).update x λo=>{ cls:=o.cls,dict:=some s.heap.objs.size,data:=o.data,slots:=o.slots }).Ns s.heap.objs.size (λ_=>none):=
   ⟨_,#[],_,(QP _ _ xs).trans (Qp _ rfl),rfl,λe he=>absurd he (by simp),λ_=>rfl⟩
  refine uf (ns:=[]) (s:=⟨(s.heap.push { cls:=.type "dict",data:=.dict #[] }).update x λo=>{ cls:=o.cls,dict:=some s.heap.objs.size,data:=o.data,slots:=o.slots },s.gens,s.drawn,s.toks+1,s.os⟩) (Heap.Ns1.of_empty n0) PySem.Within.nil (by decide) λh' t n2 sb=>?_;have hx':=(sb.2 x xs).trans selfx;refine hq h' t ⟨_,hx',rfl,nc,.inr ⟨_,rfl,Ne.symm xs,?_⟩⟩ (λb o nb _ e=>?_) λo0 e0=>?_
  ·obtain⟨o',es,ep,e1,e2,e3,e4,e5⟩:=n2
   refine⟨o',es,ep,e1,e2,e3,e4,λy=>(e5 y).trans ?_⟩
   by_cases z:y=name
   ·simp[z]
   ·simp[z,hm]
  ·exact(sb.2 b (Qz (Qk e))).trans ((QP _ _ (Ne.symm nb)).trans (Qe _ e))
  ·obtain rfl:=Option.some.inj (ho.symm.trans e0)
   exact⟨_,hx',λ_=>Qi _,λd0 z=>(by cases z)⟩
 ·subst hd
  refine Qg (a:=(some dx)) (?_);refine uf (s:={ s with toks:=s.toks+1 }) hn hw hz λh' t n2 sb=>?_;refine hq h' t ⟨_,(sb.2 x (Ne.symm ne)).trans ho,rfl,nc,.inr ⟨dx,rfl,ne,n2⟩⟩ (λb o _ nb e=>(sb.2 b (nb _ dx ho rfl)).trans e) λo0 e0=>?_;obtain rfl:=Option.some.inj (ho.symm.trans e0);exact⟨dx,(sb.2 x (Ne.symm ne)).trans ho,λz=>(by cases z),λd0 z=>(Option.some.inj z)⟩
end
structure XG(K:Qb)(C:Addr):Prop where
 ga:Qr K (.ref C) "__getattribute__" = some (some (.builtin "BaseException.__getattribute__"))
 no:Qr K (.ref C) "__getattr__" = some none
 exc:JP K C (.type "BaseException")=some true
 dict:JJ K C=true
theorem AZ:builtinKind "BaseException.__getattribute__" = some .slot:=by decide +kernel
theorem Ae:splitId "BaseException.__getattribute__" = some ("BaseException","__getattribute__"):=by decide +kernel
theorem An:(Value.builtin "BaseException.__getattribute__" == Value.builtin "object.__getattribute__")=false:=by decide +kernel
structure XO(K:Qb)(C:Addr)(bm:List Qa):Prop where
 ob:∃nm q N bs hdct sn sub ab col dd k0 k1 k2 k3 k5,K.lookup C=some (J8 nm q C N bs bm hdct sn sub ab col dd k0 k1 k2 k3 k5 "ValueError.__new__")
 val:bm.contains (.type "ValueError")=true
 exc:bm.contains (.type "BaseException")=true
 noA:bm.contains (.type "AttributeError")=false
 noN:bm.contains (.type "NameError")=false
section
variable{prog:Qq}{w:Qw}{A:QC}{E:Qa->Qd->Prop}{h:Heap}{g:Array GenState}{d:Drawn}{t:Nat}{os:OsState}{R:Result->Qd->Prop}
variable{nm q:Str}{C N:Addr}{bs bm:List Qa}{hdct:Bool}{sn:List Str}{sub:List Qa}{ab:Bool}{col:Option Bool}{dd:Option Addr}{k0 k1 k2 k3 k5:Option Qa}{rest:List Qa}
abbrev tV(C:Addr)(t:Addr):Obj:={ cls:=.ref C,data:=.fields #[.ref t,.none,.none,.none,.bool false,.none] }
abbrev wW(vs:List Qa):Obj:={ cls:=.type "tuple",data:=.seq vs.toArray }
theorem pE{b:Bool}{T:String}(e:bm.contains (.type T)=b):(Ql C::bm).contains (.type T)=b:=by rw[QM,e];rfl
theorem qm{M:Model}{Q:Unit->Qd->Prop}(hC:h.get? C=some (J8 nm q C N bs bm hdct sn sub ab col dd k0 k1 k2 k3 k5 "ValueError.__new__"))(hv:bm.contains (.type "ValueError")=true)(hq:Q () ⟨h,g,d,t,os⟩) :
  Qf M A (checkBuiltinCall "ValueError.__new__" ⟨.ref C::rest,[]⟩) Q E ⟨h,g,d,t,os⟩:=by
 have F:=PySem.F.excBase_ValueError;have c1:=pE (C:=C) hv;have c2:=F.noStar;simp only[F.newKind,checkBuiltinCall,F.newSplit,F.newRow]
 repeat first
  |refine QY hC ?_
  |(refine Ji hC ?_
    rw[c1])
  |refine wpAny_staticBase_exc hC ?_
  |refine wpAny_madeBy_exc hC ?_
  |simp only[bne_self_eq_false,Bool.false_eq_true,if_false]
  |wp_step
 exact hq
theorem A_(hC:h.get? C=some (J8 nm q C N bs bm hdct sn sub ab col dd k0 k1 k2 k3 k5 "ValueError.__new__"))(hv:bm.contains (.type "ValueError")=true)(ha:bm.contains (.type "AttributeError")=false)
  (hn:bm.contains (.type "NameError")=false) (hz:rest.length<=Qj) (hq:R (.ok (.ret (.ref (h.objs.size+1)))) ⟨(h.push (wW rest)).push (tV C h.objs.size),g,d,t,os⟩) :
  codeAny (Qh prog w) A (.builtin "ValueError.__new__" ⟨.ref C::rest,[]⟩) R ⟨h,g,d,t,os⟩:=by
 have F:=PySem.F.excBase_ValueError;have c0:=F.ends;have c1:=pE (C:=C) hv;have c2:=pE (C:=C) ha;have c3:=pE (C:=C) hn;refine codeAny_builtinAt F.entry (?_)
 delta Builtin.«BaseException.__new__»
 refine PySem.wpAt_bind ?_;show PySem.wpAt _ _ _ (stack>>=_) _ _ _;refine PySem.wpAt_bind (PySem.wpAt_stack λp below=>PySem.wpAt_of_wpAny ?_)
 wp_walk
 refine PySem.wpAt_of_wpAny ?_;rw[F.owner]
 repeat first
  |with_reducible refine wpAny_madeHere_exc F.canon hC ?_
  |with_reducible refine QY hC ?_
  |(with_reducible refine Ji hC ?_
    first | rw[c1] | rw[c2] | rw[c3])
  |wp_step
 show R _ _;rw[Jd];exact hq
theorem AV(h:Heap)(C:Addr)(rest:List Qa):Heap.MadeExcOf h ((h.push (wW rest)).push (tV C h.objs.size)) (h.objs.size+1) (.ref C) rest where
 keeps:=λb o e=>Qe _ (Qe _ e)
 new:=J1 (Nat.le_succ _)
 there:=⟨h.objs.size,Heap.get?_push_at (by rw[Jd]) rfl,J1 (Qi _),Qe _ (Qp _ rfl)⟩
theorem AG{K:Qb}{fI:Addr}{Q:Qa->Qd->Prop}(X:K.In h)(c:XO K C bm)(hi:Qr K (.ref C) "__init__" = some (some (.ref fI)))(hf:PySem.W.typeIn K (.ref fI)=some (.type "function"))(hz:rest.length<=Qj)
  (hq:∀h' e,h.objs.size<=e->Heap.MadeExcOf h h' e (.ref C) rest->Qf (Qh prog w) (A.under (.builtin "type.__call__" ⟨.ref C::rest,[]⟩)) (call (.ref fI) (.ref e::rest)) (λr s'=>r=.none/\Q (.ref e) s') E ⟨h',g,d,t,os⟩):Qf (Qh prog w) A (call (.ref C) rest) Q E ⟨h,g,d,t,os⟩:=by
 obtain⟨⟨nm,q,N,bs,hdct,sn,sub,ab,col,dd,k0,k1,k2,k3,k5,lk⟩,hv,_,ha,hn⟩:=c;have hC:=X _ _ lk;have F:=PySem.F.excBase_ValueError;have l1:=tc_lookup;have l2:=tc_bind (.ref C);have ty:(⟨h,g,d,t,os⟩:Qd).TypeIs (.ref C) "type":=⟨_,hC,rfl⟩;refine ZD (codeAny_of_tree (?_));show Qf _ _ (callAny (Ql C) _) _ _ _
 repeat any_goals first
  |assumption
  |with_reducible refine QY hC ?_
  |wp_step
 refine⟨rfl,codeAny_call_builtin_at (Code.quiet_builtin _ (by decide +kernel)) entry_typeCall (wpAny_check_type_call_sub hC ?_)⟩
 repeat first
  |with_reducible refine QY hC ?_
  |with_reducible refine wpAny_madeBy_exc hC ?_
  |wp_step
 refine codeAny_call_builtin_code (Code.quiet_builtin _ F.quiet) (qm hC hv (A_ hC hv ha hn hz ?_));have made:=AV h C rest;have hC1:=made.keeps _ _ hC;have X1:K.In ((h.push (wW rest)).push (tV C h.objs.size)):=X.keeps made.keeps;have at1:((h.push (wW rest)).push (tV C h.objs.size)).get? (h.objs.size+1)=some (tV C h.objs.size):=Heap.get?_push_at (by rw[Jd]) rfl;have cc:(Ql C::bm).contains (.ref C)=true:=by simp
 show Qf _ _ _ _ _ _;unfold isInstance
 repeat first
  |with_reducible refine QY at1 ?_
  |wp_step
 show Qf _ _ (isSubtype (.ref C) (.ref C)) _ _ _;refine Ji hC1 ?_;rw[cc]
 repeat first
  |with_reducible refine QY at1 ?_
  |wp_step
 show Qf _ _ (typeLookup (Ql C) _) _ _ _;refine(ZC X1 hi).at ?_;refine QZ (Qc ((PySem.W.bind_fn X1 _ hf).at ?_));refine Qc (Jb (hq _ _ (Nat.le_succ _) made) (λr s' z=>?_) λ_ _ z=>z);obtain⟨rfl,z⟩:=z
 wp_walk
 exact z
end
section
variable{prog:Qq}{w:Qw}{A:QC}{E:Qa->Qd->Prop}{s:Qd}{env:Env}{K:Qb}{C:Addr}{bm:List Qa}
theorem zD{M:Model}{x:Sem Qa}{Q:Flow->Qd->Prop}(c:XO K C bm)(hh:A.handled=none)
  (h:Qf M A x (λv s1=>∃e o vs,v=.ref e/\K.In s1.heap/\s1.heap.get? e=some o/\o.cls=.ref C/\o.data=.fields vs/\vs[1]?=some .none/\E (.ref e) s1) E s):Qf M A (raiseStmt env (some x) none) Q E s:=by
 obtain⟨⟨nm,q,N,bs,hdct,sn,sub,ab,col,dd,k0,k1,k2,k3,k5,lk⟩,_,hx,_,_⟩:=c;have cb:=pE (C:=C) hx;unfold raiseStmt;refine Qc (thn h λv s1 h1=>?_);obtain⟨e,o,vs,rfl,X,he,hc,hdt,h1,hE⟩:=h1;have hC:=X _ _ lk;obtain⟨hp,g,d,tk,os⟩:=s1;obtain⟨oc,od,oda,osl⟩:=o;dsimp only at hc hdt;subst hc hdt
 repeat first
  |with_reducible refine QY he ?_
  |with_reducible refine QY hC ?_
  |(with_reducible refine Ji hC ?_
    rw[cb])
  |wp_step
 rw[h1];refine Qg ?_;rw[if_neg (by decide)];exact Qg (wpAny_raiseNew_none hh hE)
theorem qG{e:Expr}{pos:Pos}{Q:Flow->Qd->Prop}(c:XO K C bm)(hh:A.handled=none)
  (h:Qf (Qh prog w) A (eval e env) (λv s1=>∃a o vs,v=.ref a/\K.In s1.heap/\s1.heap.get? a=some o/\o.cls=.ref C/\o.data=.fields vs/\vs[1]?=some .none/\E (.ref a) s1) E s) :
  Qf (Qh prog w) A (exec (.Raise (some e) none pos) env) Q E s:=by
 rw[arm_exec_Raise];refine Qc (ZH (zD c hh ?_));exact Qc (thn h λv s1 h1=>Qc (ZH (Qg h1)))
end
def EH(e C t:Addr)(od:Option Addr):HO:=.ext λh=>h.get? e=some { cls:=.ref C,dict:=od,data:=.fields #[.ref t,.none,.none,.none,.bool false,.none] }
def DH(dx:Addr)(fs:List (Str×V)):HO:=.ext λh=>∃mA,h.Ns1 dx mA/\(∀f,gy (fs.lookup f) (mA f))/\Zs mA (fs.map (·.1))
theorem EH.ok{P:Qq}{w:Qw}{H:Hp}{h:Heap}{e C t:Addr}{od:Option Addr}(x:h.get? e=some { cls:=.ref C,dict:=od,data:=.fields #[.ref t,.none,.none,.none,.bool false,.none] }):cw P w H h e (EH e C t od):=⟨x,⟨_,x⟩,λ_ _ p k=>k _ p⟩
theorem DH.ok{P:Qq}{w:Qw}{H:Hp}{h:Heap}{dx:Addr}{fs:List (Str×V)}{mA:Str->Option Qa}(n:h.Ns1 dx mA)(r:∀f,gy (fs.lookup f) (mA f))(z:Zs mA (fs.map (·.1))):cw P w H h dx (DH dx fs):=by
 refine⟨⟨mA,n,r,z⟩,?_,λh1 h2 p k=>?_⟩
 ·obtain⟨o,_,_,e,_⟩:=n;exact⟨o,e⟩
 ·obtain⟨m,n1,r1,z1⟩:=p;exact⟨m,n1.at k,r1,z1⟩
def Pur(X:Cx)(v:Expr)(σ:L2.St)(y:V):Prop:=∀(pins:List (Addr×Obj)) (s:Qd) (H:Hp) (Q:Qa->Qd->Prop),Inv X pins σ H s->(∀u s',Inv X pins σ H s'->aV y u->Q u s')->Qf (Qh X.prog X.w) X.A (eval v X.env) Q X.xe s
theorem oX{X:Cx}{σ:L2.St}{y:V}{i:Nat}{x:Str}{pos:Pos}(hσ:σ[i]?=some (some y))(hN:X.N[i]?=some x:=by rfl)(hv:Vis X.env.scope x:=by first | exact Qs rfl | exact Ju (Qs rfl) | exact Ju (Ju rfl))
  (hd:(x==("__debug__" : Str))=false:=by decide) (hcd:(x==("__classdict__" : Str))=false:=by decide):Pur X (.Name x pos) σ y:=by
 intro pins s H Q I hq;refine thn (jw hN hv hd hcd pins s σ H (λv H1=>v=y/\H1=H) I ?_) λu s1 ⟨v,H1,I1,r,ev,eh⟩=>?_
 ·exact⟨y,hσ,rfl,rfl⟩
 ·subst ev eh
  exact hq u s1 I1 r
section
variable{X:Cx}{pins:List (Addr×Obj)}{σ:L2.St}{H:Hp}{s:Qd}{e C t dx:Addr}{cd:ClassData}{fs:List (Str×V)}{name:Str}{y:V}{i:Nat}
theorem vy{mA:Str->Option Qa}{u:Qa}(r:∀f,gy (fs.lookup f) (mA f))(ry:aV y u)(f:Str):gy (((name,y)::fs).lookup f) (if f=name then some u else mA f):=by
 by_cases z:f=name
 ·subst z
  rw[List.lookup_cons_self,if_pos rfl];exact ry
 ·have hb:(f==name)=false:=beq_eq_false_iff_ne.mpr z
  rw[if_neg z];simp only[Jn,hb];exact r f
theorem sk{u:Qa}{Q:Unit->Qd->Prop}(I:Inv X pins σ (upd H e (EH e C t none)) s)(c:XC X.K C cd)(hf:Qr X.K (.ref C) name=some none)(hn:H e=none)(ry:aV y u)
  (hq:∀s' dx,H dx=none->dx≠e->Inv X pins σ (upd (upd H e (EH e C t (some dx))) dx (DH dx [(name,y)])) s'->Q () s'):Qf (Qh X.prog X.w) X.A (setAttr (.ref e) name u) Q X.xe s:=by
 have x0:s.heap.get? e=some { cls:=.ref C,dict:=none,data:=.fields #[.ref t,.none,.none,.none,.bool false,.none] }:=(I.hok e _ upd_same).1;refine BD (mA:=λ_=>none) (ns:=[]) I.kIn c hf ⟨_,x0,rfl,(λ_ z=>nomatch z),.inl ⟨rfl,λ_=>rfl⟩⟩ PySem.Within.nil (by decide) λh' tk J kp at1=>?_;obtain⟨d,x1,fr,_⟩:=at1 _ x0;have fr:=fr rfl;have nd:(upd H e (EH e C t none)) d=none:=I.hok.fresh fr;have de:d≠e:=λz=>by rw[z,upd_same] at nd;cases nd
 have Hd:H d=none:=by rw[ao de] at nd;exact nd
 have n1:h'.Ns1 d (λf=>if f=name then some u else none):=by
  obtain⟨o,eo,_,_,z | ⟨d2,ed,_,n⟩⟩:=J
  ·obtain rfl:=Option.some.inj (x1.symm.trans eo)
   cases z.1
  ·obtain rfl:=Option.some.inj (x1.symm.trans eo)
   cases ed;exact n
 have keep:∀b o,b≠e->s.heap.get? b=some o->h'.get? b=some o:=λb o ne q=>kp b o ne (λo0 dx e0 ed=>by obtain rfl:=Option.some.inj (x0.symm.trans e0);cases ed) q;refine hq { s with heap:=h',toks:=tk } d Hd de (I.un (h':=h') (t':=tk) ⟨λb o q z _ _=>?_,λb o q z _ _=>?_,λb o q z _=>?_,λb o q _=>?_,λb xs q=>?_,λb o v q=>?_,λb ps q=>?_⟩ λb o q=>?_)
 ·exact keep b o (λk=>by rw[k,upd_same] at z;cases z) q
 ·exact⟨o.slots,keep b o (λk=>by rw[k,upd_same] at z;cases z) q⟩
 ·have be:b≠e:=λk=>by rw[k,upd_same] at z;cases z
  have bd:b≠d:=λk=>absurd (Qk q) (Nat.not_lt.mpr (k▸fr));rw[ao bd,ao be];rw[ao be] at z;exact z
 ·by_cases k:b=e
  ·subst k;exact⟨_,x1⟩
  ·exact⟨o,keep b o k q⟩
 ·have be:b≠e:=λk=>by rw[k,upd_same] at q;cases q
  rw[ao be] at q;rw[ao (ak q Hd),ao be];exact q
 ·have be:b≠e:=λk=>by rw[k,upd_same] at q;cases q
  rw[ao be] at q;rw[ao (ak q Hd),ao be];exact q
 ·have be:b≠e:=λk=>by rw[k,upd_same] at q;cases q
  rw[ao be] at q;exact⟨#[],by rw[ao (ak q Hd),ao be,q];simp⟩
 ·by_cases k:b=d
  ·subst k
   rw[upd_same] at q;cases q;refine DH.ok n1 (vy (mA:=λ_=>none) (λf=>trivial) ry) ?_;exact PySem.Within.cons name u PySem.Within.nil
  ·rw[ao k] at q
   by_cases k2:b=e
   ·subst k2
    rw[upd_same] at q;cases q;exact EH.ok x1
   ·rw[ao k2] at q
    have q0:upd H e (EH e C t none) b=some o:=by rw[ao k2];exact q
    refine(I.hok b o q0).stay (λc' v hc z=>keep c' v ?_ z) (λc' z=>?_) λc' xs z=>?_
    ·rcases hc with z | z
     ·rw[z];exact k2
     ·exact λk=>by rw[k,upd_same] at z;cases z
    ·have ce:c'≠e:=λk=>by rw[k,upd_same] at z;cases z
     rw[ao ce] at z;rw[ao (ak z Hd),ao ce];exact z
    ·have ce:c'≠e:=λk=>by rw[k,upd_same] at z;cases z
     rw[ao ce] at z;rw[ao (ak z Hd),ao ce];exact z
end
section
variable{X:Cx}{pins:List (Addr×Obj)}{σ:L2.St}{H:Hp}{s:Qd}{e C t dx:Addr}{cd:ClassData}{fs:List (Str×V)}{name:Str}{y:V}{o value:Expr}{pos pos':Pos}
theorem ua{Q:Flow->Qd->Prop}(I:Inv X pins σ (upd H e (EH e C t none)) s)(c:XC X.K C cd)(hf:Qr X.K (.ref C) name=some none)(hn:H e=none)(hv:Pur X value σ y)(ho:Pur X o σ (.ref e))
  (hq:∀s' dx,H dx=none->dx≠e->Inv X pins σ (upd (upd H e (EH e C t (some dx))) dx (DH dx [(name,y)])) s'->Q .next s') (hs:JT value (some (.Attribute o name pos')) pos.line X.env=pure false:=by rfl) :
  Qf (Qh X.prog X.w) X.A (exec (.Assign [.Attribute o name pos'] value pos) X.env) Q X.xe s:=by
 refine plainObj_wpAny_Assign_Attribute (hv pins s _ _ I λu s1 I1 ru=>ho pins s1 _ _ I1 λv s2 I2 rv=>?_) hs;obtain rfl:v=Ql e:=rv;exact sk I2 c hf hn ru hq
def tW(X:Cx)(st:List Stmt):TS:=λD σ H=>∀pins s,Inv X pins σ H s->Qf (Qh X.prog X.w) X.A (execs st X.env) (SP X pins D) X.xe s
theorem rL{st:List Stmt}:PSs X st (tW X st):=λpins s _ _ _ I h=>h pins s I
def tW1(X:Cx)(st:Stmt):TS:=λD σ H=>∀pins s,Inv X pins σ H s->Qf (Qh X.prog X.w) X.A (exec st X.env) (SP X pins D) X.xe s
theorem Ah{st:Stmt}:PS X st (tW1 X st):=λpins s _ _ _ I h=>h pins s I
end
def spI(C:Addr)(f:List V->Option (List (Str×V))):Sp:=λvs H Q _=>∃e t H0 args fs,vs=.ref e::args/\H=upd H0 e (EH e C t none)/\H0 e=none/\f args=some fs/\∀dx,H0 dx=none->dx≠e->Q .non (upd (upd H0 e (EH e C t (some dx))) dx (DH dx fs))
theorem yA{X:Cx}{pins:List (Addr×Obj)}{σ:L2.St}{H:Hp}{s:Qd}{e C t dx:Addr}{fs:List (Str×V)}(I:Inv X pins σ (upd (upd H e (EH e C t (some dx))) dx (DH dx fs)) s)(he:H e=none)(hd:H dx=none)(de:dx≠e):Inv X pins σ (upd H dx (.xd fs)) s:=by
 have big:∀b,b≠e->b≠dx->(upd (upd H e (EH e C t (some dx))) dx (DH dx fs)) b=H b:=λb h1 h2=>by rw[ao h2,ao h1]
 have far:∀{b:Addr} {o:HO},(upd (upd H e (EH e C t (some dx))) dx (DH dx fs)) b=some o->(∀φ,o≠.ext φ)->b≠e/\b≠dx:=λ{b o} q n=>⟨λk=>by
   rw[k,ao (Ne.symm de),upd_same] at q;exact n _ (Option.some.inj q).symm,λk=>by
   rw[k,upd_same] at q
   exact n _ (Option.some.inj q).symm⟩
 refine I.un (h':=s.heap) (t':=s.toks) ⟨λb o q _ _ _=>q,λb o q _ _ _=>⟨o.slots,q⟩,λb o q z _=>?_,λb o q _=>⟨o,q⟩,λb xs q=>?_,λb o v q=>?_,λb ps q=>?_⟩ λb o q=>?_
 ·have k2:b≠dx:=λk=>by rw[k,upd_same] at z;cases z
  rw[ao k2] at z ⊢
  by_cases k1:b=e
  ·rw[k1];exact he
  ·rw[ao k1] at z;exact z
 ·obtain⟨k1,k2⟩:=far q (λφ z=>by cases z)
  rw[big b k1 k2] at q;rw[ao k2];exact q
 ·obtain⟨k1,k2⟩:=far q (λφ z=>by cases z)
  rw[big b k1 k2] at q;rw[ao k2];exact q
 ·obtain⟨k1,k2⟩:=far q (λφ z=>by cases z)
  rw[big b k1 k2] at q;exact⟨#[],by rw[ao k2,q];simp⟩
 ·by_cases k2:b=dx
  ·subst k2
   rw[upd_same] at q;cases q;obtain⟨⟨mA,n0,r0,_⟩,_,_⟩:=I.hok b (DH b fs) upd_same;exact⟨mA,n0,r0⟩
  ·rw[ao k2] at q
   have k1:b≠e:=λk=>by rw[k,he] at q;cases q
   have q0:=(big b k1 k2).trans q;refine(I.hok b o q0).stay (λc v _ z=>z) (λc z=>?_) λc xs z=>?_
   ·obtain⟨j1,j2⟩:=far z (λφ z=>by cases z)
    rw[big c j1 j2] at z;rw[ao j2];exact z
   ·obtain⟨j1,j2⟩:=far z (λφ z=>by cases z)
    rw[big c j1 j2] at z;rw[ao j2];exact z
def Mk2(X:Cx)(a:Addr):Cx:={ X with A:=X.A.mark (some (.ref a)),calm:=false,xe:=λ_ _=>False }
section
variable{X:Cx}{pins:List (Addr×Obj)}{σ:L2.St}{H:Hp}{s:Qd}{a:Addr}
theorem oB(I:Inv X pins σ H s):Inv (Mk2 X a) pins σ H s:=
 ⟨⟨I.ok.mod,I.ok.kind,I.ok.glob,I.ok.blt,I.ok.above,I.ok.inj,I.ok.has,I.ok.cab,(λz=>by cases z),I.ok.frames,I.ok.stk,I.ok.exf,I.ok.bs,I.ok.bsz,I.ok.noex,I.ok.exfs,I.ok.funs,I.ok.frf⟩,I.os,I.bare,I.base,I.loc,I.cell,I.free,I.freeC,I.pin,I.hok,I.len⟩
theorem uO(ok:X.Ok)(I:Inv (Mk2 X a) pins σ H s):Inv X pins σ H s:=⟨ok,I.os,I.bare,I.base,I.loc,I.cell,I.free,I.freeC,I.pin,I.hok,I.len⟩
theorem BA{M:Model}{A:QC}{E:Qa->Qd->Prop}{n:Str}{i:Nat}{pos:Pos}{Q:Unit->Qd->Prop}(I:Inv X pins σ H s)(hl:X.env.kindOf n=some .local)(hN:X.N.Nodup)(hi:X.N[i]?=some n)
  (hq:∀s',Inv X pins (σ.set i none) H s'->Q () s'):Qf M A (do bindName X.env n .none;unbindBehindTheSuite X.env n pos) Q E s:=by
 obtain⟨m,hn,hm⟩:=id I.loc;refine wpAny_nameGoes_keeps hl hn (by rw[I.ok.kind];rfl) λh' v n2 sb=>hq _ ?_;have old:∀{b o},X.s₀.heap.get? b=some o->h'.get? b=s.heap.get? b:=λ{b o} e=>sb.2 b (Qz (Qy (Qk e) I.ok.above));obtain⟨oL,_,_,hL,_⟩:=id hn;refine⟨I.ok,I.os,I.bare,⟨λb o e q z y=>(old e).trans (I.base.keep b o e q z y),λb o e q z y=>?_,I.base.free,λb o e y=>?_,I.base.tups,I.base.frzs,I.base.tbls⟩,⟨_,n2,λj y w e1 e2 e3=>?_⟩,λy c e=>?_,I.free,I.freeC,λp hp=>?_,λb o e=>?_,by rw[JY];exact I.len⟩
 ·obtain⟨sl,k⟩:=I.base.slot b o e q z y
  exact⟨sl,(old e).trans k⟩
 ·obtain⟨o',k⟩:=I.base.there b o e y
  exact⟨o',(old e).trans k⟩
 ·have ji:j≠i:=λz=>by
   subst z;have hz:j<σ.length:=by rw[I.len];exact(QB.mp e1).1
   rw[JR hz] at e2;cases e2
  rw[J2 (Ne.symm ji)] at e2;obtain⟨u,r,q⟩:=hm j y w e1 e2 e3;refine⟨u,r,?_⟩;have yn:y≠n:=λz=>ji (l8 hN e1 (z▸hi));rcases q with⟨k,e⟩ | ⟨k,c,e,z⟩
  ·exact .inl ⟨k,by show(if y=n then v else m y)=some u;rw[if_neg yn];exact e⟩
  ·exact .inr ⟨k,c,e,z.sameBut sb (I.cne y c e)⟩
 ·obtain⟨w,z⟩:=I.cell y c e
  exact⟨w,z.sameBut sb (I.cne y c e)⟩
 ·obtain⟨e,q,ne,nf,d⟩:=I.pin p hp
  exact⟨(sb.2 p.1 ne).trans e,q,ne,nf,d⟩
 ·refine(I.hok b o e).stay (λc v hc q=>(sb.2 c ?_).trans q) (λ_ q=>q) λ_ _ q=>q
  rintro rfl;rcases hc with z | z
  ·rw[<-z,I.free] at e;cases e
  ·rw[I.free] at z;cases z
end
end Ex
namespace Dn
open PySem PySem.Spec PyProof.Rows L2
abbrev Out:=D ⊕ (Str×List (Str×D))
def spX(K:Qb)(mg:Str->Option Qa)(F:List D->Option Out):Sp:=λvs H Q E=>∃G ds r,aD G H/\DenL K G vs ds/\F ds=some r/\(∀d,r=.inl d->∀v G' H',Grow G H G' H'->Den K G' v d->Q v H')/\
 ∀c fs,r=.inr (c,fs)->∀cls dx G' H',Grow G H G' H'->mg c=some cls->XD K G' dx fs->E cls (some dx) H'
def fnX(N ps:List Str)(g:Ev->Option Fl):List D->Option Out:=λds=>if ds.length=ps.length then(match g (bf N ds) with | some (.rt d)=>some (.inl d) | some (.nx _)=>some (.inl .non) | some (.ro rs)=>some (.inl (.lst rs)) | some (.xc c fs)=>some (.inr (c,fs)) | _=>none) else none
theorem uN{P:Qq}{w:Qw}{K:Qb}{mg:Str->Option Qa}{base:Heap}{x qual:Str}{st:Stmt}{f:Addr}{fd:QE}{N ps:List Str}{k:Nat}{g:Ev->Option Fl}(Fu:Fun K x qual st f fd)(S:FnScope N ps (aA st))
  (hb:∀(cdv:Qa) (A:QC) (outer:List Env) (s:Qd) (H:Hp) (E:XK),Room k (A.deeper (envOfC qual (aA st) s.heap.objs.size f cdv))->DSs (ik (Ex.CX1 P w) P w K mg base N qual (aA st) f cdv A outer s H E) (bL st) g) :
  FnOk P w K mg base (Ex.CX1 P w) (k+1) f fd ps (spX K mg (fnX N ps g)):=by
 obtain⟨oc,od,kV,doc,pm,an,cdv,ct,osl,rfl,lk,hcd⟩:=Fu.ex;refine mr lk hcd S (λvs H Q E h=>?_) λA outer s H vs Q E hr h=>?_
 ·obtain⟨G,ds,r,gh,hd,e,_⟩:=h
  rw[hd.length];unfold fnX at e;split at e
  ·assumption
  ·cases e
 ·obtain⟨G,ds,r,gh,hd,e,q1,q2⟩:=h
  obtain⟨t,h1,h2⟩:=hb cdv A outer s H E hr;refine⟨t,h1,?_⟩;unfold fnX at e;split at e
  ·split at e
   ·rename_i d e1
    cases e;exact h2 H G G H _ _ _ _ (eg gh hd) e1 λv G' H' g hd=>q1 _ rfl v G' H' g hd
   ·rename_i ε e1
    cases e;exact h2 H G G H _ _ _ _ (eg gh hd) e1 λσ G' H' S'=>q1 _ rfl _ G' H' S'.g .non
   ·rename_i rs e1
    cases e;exact h2 H G G H _ _ _ _ (eg gh hd) e1 λa xs G' H' g n1 n2 h3 d3=>q1 _ rfl _ _ H' (g.seal n1 n2 h3) (qS n2 d3)
   ·rename_i c fs e1
    cases e;exact h2 H G G H _ _ _ _ (eg gh hd) e1 λpins σ G' H' s' a dx cls I g' x m d=>Ex.gO pins σ H' s' a cls dx I x (q2 c fs rfl cls dx G' H' g' m d)
   ·cases e
  ·cases e
def OkX(Z:Wq)(x:Str)(st:Stmt)(ps:List Str)(n:Nat)(F:List D->Option Out):Prop:=∃f fd,FB Z x st ps f fd/\∀base,FnOk Z.P Z.w Z.K Z.mg base (Ex.CX1 Z.P Z.w) n f fd ps (spX Z.K Z.mg F)
theorem bdX{Z:Wq}{x:Str}{st:Stmt}{ps N:List Str}{k:Nat}{g:Ev->Option Fl}(R:FX Z x st ps) (hb:∀(d:N.Nodup) (f:Addr) (base:Heap) (cdv:Qa) (A:QC) (outer:List Env) (s:Qd) (H:Hp) (E:XK),Room k (A.deeper (envOfC x (aA st) s.heap.objs.size f cdv))->
   DSs (ik (Ex.CX1 Z.P Z.w) Z.P Z.w Z.K Z.mg base N x (aA st) f cdv A outer s H E) (bL st) g)
  (S:FnScope N ps (aA st):=by exact⟨rfl,rfl,rfl,by decide +kernel,rfl,by decide +kernel,by decide +kernel⟩):OkX Z x st ps (k+1) (fnX N ps g):=
 let⟨f,fd,A⟩:=R;⟨f,fd,A,λbase=>uN A.1.fu S (hb S.nd f base)⟩
def Mk3(X:Cx)(a:Addr)(oe:Obj):Cx:={ Ex.Mk2 X a with pn:=(a,oe)::X.pn }
section
variable{X:Cx}{pins:List (Addr×Obj)}{σ:L2.St}{H:Hp}{s:Qd}{a dx C:Addr}{oe:Obj}
theorem wk(I:L2.Inv (Ex.Mk2 X a) ((a,oe)::pins) σ H s):L2.Inv (Mk3 X a oe) pins σ H s:=
 ⟨⟨I.ok.mod,I.ok.kind,I.ok.glob,I.ok.blt,I.ok.above,I.ok.inj,I.ok.has,I.ok.cab,I.ok.hd,I.ok.frames,I.ok.stk,I.ok.exf,I.ok.bs,I.ok.bsz,I.ok.noex,I.ok.exfs,I.ok.funs,I.ok.frf⟩,I.os,I.bare,I.base,I.loc,I.cell,I.free,I.freeC,
  λp hp=>I.pin p (by
   rcases Q8.mp (hp) with h | h
   ·rcases Qm.mp h with h | h
    ·exact Qu _ (h▸QV)
    ·exact Jo _ h
   ·exact Qu _ (QG _ h)),I.hok,I.len⟩
theorem uC(ok:(Ex.Mk2 X a).Ok)(I:L2.Inv (Mk3 X a oe) pins σ H s):L2.Inv (Ex.Mk2 X a) ((a,oe)::pins) σ H s:=
 ⟨ok,I.os,I.bare,I.base,I.loc,I.cell,I.free,I.freeC,
  λp hp=>I.pin p (by
   rcases Q8.mp (hp) with h | h
   ·exact Jo _ (QG _ h)
   ·rcases Qm.mp h with h | h
    ·exact Jo _ (h▸QV)
    ·exact Qu _ h),I.hok,I.len⟩
end
def mth:Stmt->Stmt
 |.ClassDef _ _ _ b _ _ _ _ _ _ _=>b.getD 0 (.Pass ⟨0,0,0,0⟩)
 |s=>s
abbrev eU:List Qa:=[.type "ValueError",.type "Exception",.type "BaseException",.type "object"]
def sXe(F:List D->Option Out)(g:Ev->Option (List D)):Ev->Option Fl:=λε=>(g ε).bind λds=>(F ds).bind λr=>match r with
 |.inl _=>some (.nx ε)
 |.inr (c,fs)=>some (.xc c fs)
theorem kj{X:Cx}{ap cp pf:Pos}{fn:Str}{j k:Nat}{st:Stmt}{ps:List Str}{F:List D->Option Out}{e:Expr}{es:List Expr}{g:Ev->Option (List D)}
  (HF:OkX ⟨X.prog,X.w,X.K,X.mg⟩ fn st ps j F) (hr:Room k X.A) (ha:DA X (e::es) g) (hj:j<=k:=by decide)
  (hg:Gl X fn:=by rfl) (hdb:(fn==("__debug__" : Str))=false:=by decide)
  (he:Qn (e::es) X.env=(false,eval e X.env)::Qn es X.env:=by rfl) (hpl:(Je cp (Qn es X.env)).any (·.1)=false:=by rfl)
  (hs:JT (.Call (.Name fn pf) (e::es) [] cp) none ap.line X.env=pure false:=by rfl) :
  DS X (.Expr (.Call (.Name fn pf) (e::es) [] cp) ap) (sXe F g):=by
 obtain⟨f,fd,⟨FA,_⟩,hF⟩:=HF;obtain⟨t,a1,a2⟩:=ha;refine⟨_,Ex.Ah,λHe Ge G H σ ε r W S ef P pins s I=>?_⟩;obtain⟨ds,e1,ef1⟩:=aw ef;obtain⟨rr,e2,ef2⟩:=aw ef1
 clear ef ef1
 refine wpAny_Expr_any (Jx (fZ I hg FA.mgf ?_ hdb)) I.quiet hs;refine Zo (h₀:=X.base) I.ok.mod.kin FA.fu.kp (thn (a1 cp pins s σ H (λvs H1=>∃G1,Grow G H G1 H1/\DenL X.K G1 vs ds) I (a2 He G H σ ε ds _ S.g.gh S.e e1 λvs G1 H1 g1 d1=>⟨G1,g1,d1⟩)) λus s1 ⟨vs,H1,I1,r1,G1,g1,d1⟩=>⟨I1.kIn,?_⟩) he hpl;have r2:a8 vs ([]++us):=r1
 have SP:spX X.K X.mg F vs H1 (λv H2=>∃d G2,rr=.inl d/\Grow G1 H1 G2 H2) (λcls od H2=>∃c' fs dx G2,rr=.inr (c',fs)/\od=some dx/\Grow G1 H1 G2 H2/\X.mg c'=some cls/\XD X.K G2 dx fs):=
  ⟨G1,ds,rr,g1.gh,d1,e2,λd z v G2 H2 g2 dn=>⟨d,G2,z,g2⟩,λc' fs z cls dx G2 H2 g2 m2 xd=>⟨c',fs,dx,G2,z,rfl,g2,m2,xd⟩⟩
 have hlen:([]++us++[]).length=ps.length:=by
  rw[JX,<-r2.length];exact(hF X.base).len _ _ _ _ SP
 have bb:=FA.bi s1 ([]++us) I1.kIn hlen;rw[JX] at bb;refine ZD (Zt ((hF X.base).run X.A X.stack s1 H1 ⟨[]++us,[]⟩ ([]++us) vs _ _ (hr.mono hj) I1.env0 bb r2 SP) λres s2 z=>?_);cases res with
 |ok fl=>
  cases fl with
  |ret u=>
   obtain⟨v,H2,I2,rv,d,G2,er,g2⟩:=I1.after z;subst er;cases ef2;exact⟨σ,H2,I2,P σ G2 H2 ⟨S.g.trans (g1.trans g2),S.e.grow (g1.trans g2)⟩⟩
  |next=>exact QS z
  |brk=>exact QS z
  |cont=>exact QS z
 |error ex=>
  obtain⟨a,cls,dx,H2,rfl,os,bare,un,hok,xat,c',fs,dx',G2,er,ed,g2,m2,xd⟩:=z;cases ed;subst er;cases ef2;exact P pins σ G2 H2 s2 a dx cls (I1.call' os un hok bare λb z=>absurd z (by simp)) (S.g.trans (g1.trans g2)) (xat.le I1.sz) m2 xd
def fV0:List V->Option (List (Str×V))
 |[.str x]=>some [("said",.str x)]
 |_=>none
structure OkE(Z:Wq)(c:Str)(C:Addr)(bm:List Qa):Prop where
 mg:Z.mg c=some (.ref C)
 kp:Q4 Z.K (.ref C)=true
 xo:Ex.XO Z.K C bm
 exc:JP Z.K C (.type "BaseException")=some true
 dict:JJ Z.K C=true
 ob:JP Z.K C (.type "object")=some true
 run:∃(fI:Addr) (fd:QE) (x:Str) (tk:Tok),Qr Z.K (.ref C) "__init__" = some (some (.ref fI))/\PySem.W.typeIn Z.K (.ref fI)=some (.type "function")/\
  (∀(s:Qd) (e:Qa),Z.K.In s.heap->BindsTo s fd ⟨[e],[]⟩ [("self",e),("said",.str x tk)])/\∀base,FnOk Z.P Z.w Z.K Z.mg base CX0 1 fI fd ["self","said"] (Ex.spI C fV0)
theorem uo{X:Cx}{pins:List (Addr×Obj)}{σ:L2.St}{H:Hp}{s:Qd}{C:Addr}{bm:List Qa}{c:Str}{Q:Qa->Qd->Prop}(Hc:OkE ⟨X.prog,X.w,X.K,X.mg⟩ c C bm)(hr:Room 2 X.A)(I:Inv X pins σ H s)
  (hq:∀s' a dx fs,H dx=none->Inv X pins σ (upd H dx (.xd fs)) s'->Ex.XN s.heap.objs.size (upd H dx (.xd fs)) s'.heap a (.ref C) dx->Q (.ref a) s'):Qf (Qh X.prog X.w) X.A (call (.ref C) []) Q X.xe s:=by
 obtain⟨fI,fd,x,tx,hi,ht,hb,F⟩:=Hc.run;obtain⟨hh,g,dw,tk,os⟩:=s;refine Ex.AG I.kIn Hc.xo hi ht (QA _) λh' e fr m=>?_;obtain⟨t,e0,_,_⟩:=m.there;have He:H e=none:=I.hok.fresh fr;have I1:Inv X pins σ (upd H e (Ex.EH e C t none)) ⟨h',g,dw,tk,os⟩:=I.laid (a:=e) (o:=Ex.EH e C t none) (h':=h') (t':=tk) m.keeps fr (Ex.EH.ok e0);have r2:a8 [V.ref e,V.str x] [Ql e,Value.str x tx]:=.cons rfl (.cons ⟨tx,rfl⟩ .nil);have sp:Ex.spI C fV0 [V.ref e,V.str x] (upd H e (Ex.EH e C t none)) (λv H2=>v=.non/\∃dx,H dx=none/\dx≠e/\H2=upd (upd H e (Ex.EH e C t (some dx))) dx (Ex.DH dx [("said",.str x)])) E0:=⟨e,t,H,[.str x],_,rfl,rfl,He,rfl,λdx h1 h2=>⟨rfl,dx,h1,h2,rfl⟩⟩;refine ZD (Zt ((F X.base).run _ X.stack _ _ ⟨[Ql e],[]⟩ [Ql e,Value.str x tx] _ _ E0 ((hr.mono (by decide)).make C [] []) (I1.env0.make C [] []) (hb ⟨h',g,dw,tk,os⟩ (Ql e) I1.kIn) r2 sp) λr s' z=>?_);cases r with
 |error e=>exact QS z
 |ok fl=>
  cases fl with
  |ret u=>
   obtain⟨v,H',I3,rv,ev,dx,h1,h2,h3⟩:=I1.after z;subst ev h3;obtain rfl:u=QT:=rv;refine⟨rfl,hq s' e dx _ h1 (Ex.yA I3 He h1 h2) ⟨fr,?_,_,_,(I3.hok e (Ex.EH e C t (some dx)) (by rw[ao (Ne.symm h2),upd_same])).1,rfl,rfl,rfl,rfl⟩⟩;rw[ao (Ne.symm h2)];exact He
  |next=>exact QS z
  |brk=>exact QS z
  |cont=>exact QS z
def dF(c:Str):Ev->Option Fl:=λ_=>some (.xc c [])
theorem cq{X:Cx}{pos:Pos}{c:Str}{k:Nat}{C:Addr}{bm:List Qa}{p cpos:Pos}(Hc:OkE ⟨X.prog,X.w,X.K,X.mg⟩ c C bm)(hr:Room k X.A)(hcalm:X.calm=true)(hj:2<=k:=by decide)(hg:Gl X c:=by rfl)
  (hdb:(c==("__debug__" : Str))=false:=by decide):DS X (.Raise (some (.Call (.Name c p) [] [] cpos)) none pos) (dF c):=by
 refine⟨_,Ex.Ah,λHe Ge G H σ ε r W S ef P pins s I=>?_⟩;cases ef;refine Ex.qG Hc.xo (I.ok.hd hcalm) ?_;refine Jx (fZ I hg Hc.mg ?_ hdb);refine PySem.W.callWith_K0 I.kIn Hc.kp ?_;refine uo Hc (hr.mono hj) I λs' a dx fs hdx I' xn=>?_;obtain⟨oe,vs',q1,q2,q3,q4,q5⟩:=id xn.ob;refine⟨a,oe,vs',rfl,I'.kIn,q1,q2,q4,q5,?_⟩;have g2:=Grow.new (.xd fs) S.g.gh hdx;exact P pins σ (upd G dx (.xd fs)) (upd H dx (.xd fs)) s' a dx (.ref C) I' (S.g.trans g2) (Ex.XAt.le (.inl xn) I.sz) Hc.mg ⟨fs,upd_same,λn d z=>by cases z⟩
theorem bQ{P:Qq}{w:Qw}{K:Qb}{mg:Str->Option Qa}{h:Heap}{c qual nm q:Str}{st:Stmt}{C N fI T:Addr}{bs bm:List Qa}{sn:List Str}{sub:List Qa}{ab:Bool}{col:Option Bool}{dd:Option Addr}{k0 k1 k2 k3 k5:Option Qa}{od an:Option Addr}
  {osl:Array (Option Qa)} {kV doc pm cdv ct:Qa} {p1 p2 p3 p4:Pos} {x:Str} {tk:Tok} {tc:Qa} {td:Option Addr} {ts:Array (Option Qa)} {tn:Nat} (X:K.In h) (G:h.Ns Qx mg)
  (hb:bL st=[.Assign [.Attribute (.Name "self" p1) "said" p2] (.Name "said" p3) p4])
  (hbi:∀(s:Qd) (kV doc pm:Qa) (an:Option Addr) (cdv ct e:Qa),s.heap.get? T=some ⟨tc,td,.seq #[.str x tk] tn,ts⟩->BindsTo s (Q9 "__init__" qual (c_ st) (bL st) (aA st) (.ref T) kV doc pm an cdv ct) ⟨[e],[]⟩ [("self",e),("said",.str x tk)])
  (S:FnScope ["self","said"] ["self","said"] (aA st)) (v0:(aA st).names.lookup ("self" : Str)=some .local) (v1:(aA st).names.lookup ("said" : Str)=some .local)
  (a:QJ K Qx c=some (some (.ref C))) (lk:K.lookup C=some (J8 nm q C N bs bm true sn sub ab col dd k0 k1 k2 k3 k5 "ValueError.__new__"))
  (hbm:bm.contains (.type "ValueError")=true/\bm.contains (.type "BaseException")=true/\bm.contains (.type "AttributeError")=false/\bm.contains (.type "NameError")=false/\bm.contains (.type "object")=true) (hrf:∀self,refuseLoop self "__setattr__" (.ref C::bm)=pure ())
  (ci:Qr K (.ref C) "__init__" = some (some (.ref fI))) (l:K.lookup fI=some ⟨.type "function",od,.func (Q9 "__init__" qual (c_ st) (bL st) (aA st) (.ref T) kV doc pm an cdv ct),osl⟩) (lt:K.lookup T=some ⟨tc,td,.seq #[.str x tk] tn,ts⟩) (cc:Za K cdv qual=true)
  (kp:Q4 K (.ref C)=true) (sa:Qr K (.ref C) "__setattr__" = some (some (.builtin "object.__setattr__")))
  (f3:Qr K (.ref C) "said" = some none):OkE ⟨P,w,K,mg⟩ c C bm:=by
 have hc:JO K C=some { name:=nm,bases:=bs,mro:=.ref C::bm,ns:=N,qualname:=q,hasDict:=true,slotNames:=sn,subclasses:=sub,abstract:=ab,collection:=col,hasDel:=false }:=by unfold JO;rw[lk]
 have mro:∀T:String,bm.contains (.type T)=true->JP K C (.type T)=some true:=λT hT=>by
  unfold JP;rw[hc];show(if(List.isEmpty (Ql C::bm))=true then none else some (List.contains (Ql C::bm) (.type T)))=_;rw[if_neg (λz=>nomatch z),QM,hT,Bool.or_true]
 have ty:PySem.W.typeIn K (.ref fI)=some (.type "function"):=by show Option.map _ (Jn fI K)=_;rw[l];rfl
 have ob:=mro "object" hbm.2.2.2.2;have XCk:Ex.XC K C _:=⟨hc,sa,ob,hrf,rfl⟩;refine⟨JN X G a,kp,⟨⟨nm,q,N,bs,true,sn,sub,ab,col,dd,k0,k1,k2,k3,k5,lk⟩,hbm.1,hbm.2.1,hbm.2.2.1,hbm.2.2.2.1⟩,mro _ hbm.2.1,by unfold JJ;rw[hc];rfl,ob,fI,_,x,tk,ci,ty,λs e ks=>hbi s kV doc pm an cdv ct e (ks _ _ lt),λbase=>?_⟩;refine mr (k:=0) l cc S (λvs H Q E h=>?_) (λA outer s H vs Q E hr h=>?_)
 ·obtain⟨e,t,H0,args,fs,rfl,_,_,ef,_⟩:=h
  unfold fV0 at ef;split at ef
  ·rfl
  ·cases ef
 ·obtain⟨e,t,H0,args,fs,rfl,rfl,He,ef,q⟩:=h
  refine⟨_,Ex.rL,λpins s1 I=>?_⟩;rw[hb];unfold fV0 at ef;split at ef
  ·rename_i y
   cases ef;refine Zz (Ex.ua I XCk f3 He (Ex.oX (i:=1) (y:=.str y) rfl rfl (.inl v1)) (Ex.oX (i:=0) (y:=.ref e) rfl rfl (.inl v0)) λs3 dx hd ne I3=>?_);exact Zn ⟨_,_,I3,q dx hd ne⟩
  ·cases ef
def Ite(K:Qb)(l:Addr):It:=
 ⟨λi H=>∃xs x,SqL K H l xs/\xs[i]?=some x,
  λi H v H'=>∃p x,v=.ref p/\H p=none/\H'=upd H p (.tup [.int (i:Int),x])/\∀xs,SqL K H l xs->xs[i]?=some x,
  λi H=>∃xs,SqL K H l xs/\xs.length<=i⟩
def efp(N:Nat):List Addr:=[N+1,N]
theorem sy{P:Qq}{w:Qw}{K:Qb}{es:List Expr}{k0:Nat}{tpos:Pos}(N l:Nat)(p1:l<N) :
  Turn P w K (.Tuple es k0 tpos) (Ite K l) (efp N) (N+1) (λi h=>(∃old,IsEnum h (N+1) N (i:Int) old)/\h.IsListIter N l i) where
 mem:=by simp[efp]
 obj:=λi h ⟨⟨old,h1⟩,h2⟩ c hc=>by
  simp only[efp,Qm,Qt,or_false] at hc;rcases hc with rfl | rfl
  ·exact⟨_,h1,λv z=>by cases(show Data.fields _=Data.cell v from z)⟩
  ·obtain⟨o,e,c,d⟩:=h2
   exact⟨o,e,λv z=>by rw[d] at z;cases z⟩
 keep:=λi h h' ⟨⟨old,h1⟩,h2⟩ k=>⟨⟨old,k _ (by simp[efp]) _ h1⟩,h2.at λo e=>k _ (by simp[efp]) o e⟩
 item:=by
  intro X hP hw hK hc i pins s σ H E I hf st hg;subst hP hw hK;obtain⟨⟨old,h1⟩,h2⟩:=st;obtain⟨xs,x,q1,ex⟩:=hg;obtain⟨its,r1,pl,_⟩:=I.list q1;obtain⟨u,eu,ru⟩:=r1.get ex;have D:=Draws.list (prog:=X.prog) (w:=X.w) (A:=X.A.in1) (I.ok.hd hc) N l (nN (by lia)) its.toArray;have hi:i<its.toArray.size:=by have:=(QB.mp eu).1;simpa using this
  refine wpAny_pyNext_enum_itemD D h1 ⟨h2,pl.isList⟩ hi (nN (by lia)) (by intro z;simp only[Qm,Qt,or_false] at z;rcases z with z | z<;>exact absurd z (nN (by lia))) λx' h' tk hx ho st' hT hsz hk=>⟨_,rfl,?_⟩
  have:x'=u:=by
   have e1:its[i]?=some x':=by simpa using hx
   rw[eu] at e1;exact(Option.some.inj e1).symm
  subst this;refine wpAny_letOwnedTupleGo_enum (s:={ s with heap:=h',toks:=tk+1 }) ho λh'' he' hs'=>?_;have zl:N+1<s.heap.objs.size:=Qk h1;have nn:H s.heap.objs.size=none:=I.hok.fresh (Qi _)
  have I1:Inv X pins σ (upd H s.heap.objs.size (.tup [.int (i:Int),x])) { s with heap:=s.heap.push { cls:=.type "tuple",data:=.seq #[.int i tk,x'] },toks:=tk+1 }:=
   I.laid (t':=tk+1) (λb o e=>Qe _ e) (Qi _) ⟨show 2<=Qj by decide,[.int i tk,x'],.cons ⟨tk,rfl⟩ (.cons ru .nil),⟨_,Qp _ rfl,rfl,_,rfl⟩⟩
  have ne:∀b∈efp N,b≠s.heap.objs.size:=λc hc=>by
   simp only[efp,Qm,Qt,or_false] at hc;rcases hc with rfl | rfl<;>exact nN (by lia)
  have f1:∀b∈efp N,jU X pins (upd H s.heap.objs.size (.tup [.int (i:Int),x])) b:=λc hc=>⟨by rw[ao (ne c hc)];exact(hf c hc).1,(hf c hc).2⟩
  have k2:∀c o,c∉efp N->(s.heap.push { cls:=.type "tuple",data:=.seq #[.int i tk,x'] }).get? c=some o->h''.get? c=some o:=λc o hc e=>by
   simp only[efp,Qm,Qt,or_false,not_or] at hc;refine hs'.extBut _ _ hc.1 ?_
   by_cases z:c=s.heap.objs.size
   ·subst z
    rw[Qp _ rfl] at e;cases e;exact hT
   ·exact hk c o hc.1 hc.2 ((Heap.get?_push_ne _ _ _ z).symm.trans e)
  have I2:=f9 (h':=h'') (t':=tk+1) I1 k2 f1;refine⟨.ref s.heap.objs.size,_,I2,rfl,⟨_,x,rfl,nn,rfl,λzs hz=>?_⟩,⟨⟨_,by simpa using he'⟩,st'.1.at λo e=>hs'.extBut _ o (nN (by lia)) e⟩,λc hc=>(f1 c hc).1⟩;rw[I.list_inj hz q1];exact ex
 done:=by
  intro X hP hw hK hc i pins s σ H E I hf st hg;subst hP hw hK;obtain⟨⟨old,h1⟩,h2⟩:=st;obtain⟨xs,q1,he⟩:=hg;obtain⟨its,r1,pl,_⟩:=I.list q1;have n1:=r1.length;have nx:its.toArray[i]?=none:=by simp;lia
  have ty:s.TypeIs (.ref (N+1)) "enumerate":=⟨_,h1,rfl⟩;unfold pyNext;refine Qc (wpAny_attempt (Jr (name:=Str.ofString "__next__") ty F.slot_enumerate_next (Ze F.slot_enumerate_next ty F.entry_enumerate_next ?_ (F.args_enumerate_next_1 _))))
  change Qf _ _ (field (.ref (N+1)) 2>>=_) _ _ _
  refine Qc (QU h1 rfl (x:=.ref N) rfl (Qc (wpAny_nextOf_list_end (I.ok.hd hc) h2 pl.isList nx λh' e he' hx'=>?_)));obtain⟨o,ho,hc'⟩:=hx';refine Qc (wpAny_isInstance (T:="StopIteration") (b:=true) ⟨o,ho,hc'⟩ isSubtype_stop (Qg ⟨rfl,f9 (t':=s.toks) I (λc o hc e=>?_) hf⟩));simp only[efp,Qm,Qt,or_false,not_or] at hc;exact he' c o hc.2 e
 self:=λ_ _ _ _ _ st h=>let⟨_,e⟩:=st.1;wpAny_pyIter_enum e h
section
variable{X:Cx}{a:Expr}{pos:Pos}{fa:Ev->Option D}
def zF(K:Qb)(ta:TA):TI:=λσ H R=>ta σ H λvs H1=>∃l xs,vs=[.ref l]/\SqL K H1 l xs/\R (Ite K l) H1
theorem rY{es:List Expr}{k0:Nat}{tpos p:Pos}{ta:TA}(hg:Gl X "enumerate")(hm:X.mg "enumerate" = none)(ha:PA X [a] ta)(hs:Qn [a] X.env=[(false,eval a X.env)]:=by rfl) :
  PI X (.Tuple es k0 tpos) (.Call (.Name "enumerate" p) [a] [] pos) (zF X.K ta):=by
 intro pins s σ H R I h;refine Call_ (kc I hg hm boot_enumerate (JU (thn (ha pos pins s σ H _ I h) λus s1 ⟨vs,H1,I1,r1,q1⟩=>?_) hs rfl));obtain⟨l,xs,e,q1,q⟩:=q1;subst e
 cases r1 with | cons r rr=>
  cases rr;cases r;obtain⟨its,rv,pl,hz⟩:=I1.list q1;have lt:l<s1.heap.objs.size:=let⟨_,there,_⟩:=pl.isList;Qk there;refine call_enumerate_list pl.isList λh' he hit hsz hk=>wpAny_pyIter_enum he ?_;refine⟨s1.heap.objs.size+1,efp s1.heap.objs.size,_,_,H1,rfl,I1.kept (t':=s1.toks) hk,sy s1.heap.objs.size l lt,⟨⟨_,he⟩,hit⟩,λc hc=>?_,q⟩
  have lc:s1.heap.objs.size<=c:=by
   simp only[efp,Qm,Qt,or_false] at hc;rcases hc with rfl | rfl<;>(show @LE.le Nat _ _ _;lia)
  exact I1.fpOk lc (I1.hok.fresh lc)
def iI:Nat->List D->List D
 |_,[]=>[]
 |n,d::ds=>.tup [.int (n:Int),d]::iI (n+1) ds
theorem kb:∀(ds:List D) (n:Nat),(iI n ds).length=ds.length
 |[],_=>rfl
 |d::ds,n=>by show(iI (n+1) ds).length+1=ds.length+1;rw[kb ds]
theorem m9:∀(ds:List D) (n i:Nat) (d:D),ds[i]?=some d->(iI n ds)[i]?=some (.tup [.int ((n+i:Nat):Int),d])
 |[],_,i,_,e=>by simp at e
 |x::ds,n,0,d,e=>by simp at e;subst e;rfl
 |x::ds,n,i+1,d,e=>by
  have:=m9 ds (n+1) i d (by simpa using e);rw[show n+1+i=n+(i+1) by lia] at this;exact this
def oZ(f:Ev->Option D):Ev->Option (List D):=λε=>match f ε with | some (.lst ds)=>some (iI 0 ds) | _=>none
theorem vZ{es:List Expr}{k0:Nat}{tpos p:Pos}(h:DE X a fa)(hm:X.mg "enumerate" = none)(hg:Gl X "enumerate":=by rfl)(hs:Qn [a] X.env=[(false,eval a X.env)]:=by rfl) :
  DI X (.Tuple es k0 tpos) (.Call (.Name "enumerate" p) [a] [] pos) (oZ fa):=by
 obtain⟨t,a1,a2⟩:=h;refine⟨_,rY hg hm (ag a1 ax hs) hs,λHe G H σ ε ds R gh E ef q=>?_⟩;unfold oZ at ef;split at ef
 ·rename_i ds' e1
  cases ef;refine a2 He G H σ ε _ _ gh E e1 λv G1 H1 g1 d1=>?_;obtain⟨l,xs,rfl,w1,w2⟩:=d1.lstV;refine⟨l,xs,rfl,g1.gh.seq w1,q _ G1 H1 g1 λi H2 s2=>?_⟩;have n1:=w2.length;refine⟨λhi=>?_,λhi=>⟨xs,s2.seq w1,by rw[kb] at hi;lia⟩,?_⟩
  ·rw[kb] at hi
   exact⟨xs,xs[i]'(by lia),s2.seq w1,by simp⟩
  ·rintro v H3 ⟨p',x,rfl,hn,rfl,w3⟩ d ed G2 s3 s4
   obtain⟨d',f1,f2⟩:=w2.getV (w3 xs (s2.seq w1));rw[m9 ds' 0 i d' f1,Nat.zero_add] at ed;cases ed;have g:=Grow.new (.tup [.int (i:Int),x]) s4 hn;exact⟨_,g,.tup (xs:=[.int (i:Int),x]) (.inl (.inl upd_same)) (.cons (.int _) (.cons ((f2.mono s3).mono g.gg) .nil))⟩
 ·cases ef
end
end Dn
namespace RW2
open PySem PyProof.Rows
end RW2
namespace Dn
open PySem PySem.Spec PyProof.Rows L2 RW2
section
variable{X:Cx}{a b c:Expr}{fa fb fc:Ev->Option D}{pos:Pos}
theorem vM(l b:Addr)(items items2:Array Qa)(n n2:Nat)(d1 d2:Option Addr)(s1 s2:Array (Option Qa))(hc0:items.isEmpty=true):Meets (Builtin.«tuple.__add__» ⟨[.ref l,.ref b],[]⟩) (λ_ R s=>s.heap.get? l=some ⟨.type "tuple",d1,.seq items n,s1⟩/\s.heap.get? b=some ⟨.type "tuple",d2,.seq items2 n2,s2⟩/\R (.ok (.ret (Ql b))) s):=
 .of_wp λprog w A R s h=>by
  obtain⟨hp,gs,dr,tk,os⟩:=s;obtain⟨hl,hb,h⟩:=h;have q1:=AutoSeq1.sub_tuple_tuple;have q2:=AutoSeq1.sub_list_tuple
  (wp_walk using ZO hl,ZO hb);exact⟨_,rfl,h⟩
def xy(K:Qb):R2:=λx y H Q=>∃a b ys,x=.ref a/\y=.ref b/\SqT K H a []/\SqT K H b ys/\Q (.ref b) H
theorem vI:OpR X (Q2 .Add) (xy X.K):=by
 intro pins s σ H x y v u Q I rx ry h;obtain⟨a,b,ys,rfl,rfl,ha,hb,q⟩:=h;cases rx;cases ry;obtain⟨its,r1,⟨⟨cls,dd,data,sl⟩,ho,hc,n,hd⟩,_⟩:=I.tuple ha;obtain⟨its2,r2,⟨⟨cls2,dd2,data2,sl2⟩,ho2,hc2,n2,hd2⟩,_⟩:=I.tuple hb;simp only at hc hd hc2 hd2;subst hc hd hc2 hd2;cases r1;exact concat_meets ⟨_,ho,rfl⟩ ⟨_,ho2,rfl⟩ noFill_tuple_add seq_tuple_add Zq Zj (Zd _ _) (vM a b #[] its2.toArray n n2 dd dd2 sl sl2 rfl) ⟨ho,ho2,.ref b,H,I,rfl,q⟩
def ug:D->D->Option D:=λx y=>match x,y with | .tup [],.tup ys=>some (.tup ys) | x,y=>CatI.vJ x y
theorem nQ:OpD X (Q2 .Add) ug:=by
 obtain⟨r,o1,o2⟩:=qq (X:=X);refine⟨λx y H Q=>r x y H Q\/xy X.K x y H Q,λpins s σ H x y v u Q I rx ry h=>?_,λG H x y dx dy d Q gh hx hy e q=>?_⟩
 ·rcases h with h | h
  ·exact o1 pins s σ H x y v u Q I rx ry h
  ·exact vI pins s σ H x y v u Q I rx ry h
 ·unfold ug at e
  split at e
  ·rename_i ys
   cases e;obtain⟨p,xs,rfl,h0,h1,h2⟩:=hx.tup gh;obtain⟨p',zs,rfl,h3,h4,h5⟩:=hy.tup gh;cases h2;exact .inr ⟨p,p',zs,rfl,rfl,h1,h4,q _ G H (.refl gh) (.tup h3 h5)⟩
  ·exact .inl (o2 G H x y _ _ d Q gh hx hy e q)
end
section
variable{X:Cx}
theorem wD(l b:Addr)(items items2:Array Qa)(n n2:Nat)(d1 d2:Option Addr)(s1 s2:Array (Option Qa))(hc0:items.isEmpty=false)(hc1:items2.isEmpty=true):Meets (Builtin.«tuple.__add__» ⟨[.ref l,.ref b],[]⟩) (λ_ R s=>s.heap.get? l=some ⟨.type "tuple",d1,.seq items n,s1⟩/\s.heap.get? b=some ⟨.type "tuple",d2,.seq items2 n2,s2⟩/\R (.ok (.ret (Ql l))) s):=
 .of_wp λprog w A R s h=>by
  obtain⟨hp,gs,dr,tk,os⟩:=s;obtain⟨hl,hb,h⟩:=h;have q1:=AutoSeq1.sub_tuple_tuple;have q2:=AutoSeq1.sub_list_tuple
  (wp_walk using ZO hl,ZO hb);exact⟨_,rfl,h⟩
def xu(K:Qb):R2:=λx y H Q=>∃a b z zs,x=.ref a/\y=.ref b/\SqT K H a (z::zs)/\SqT K H b []/\Q (.ref a) H
theorem v_:OpR X (Q2 .Add) (xu X.K):=by
 intro pins s σ H x y v u Q I rx ry h;obtain⟨a,b,z,zs,rfl,rfl,ha,hb,q⟩:=h;cases rx;cases ry;obtain⟨its,r1,⟨⟨cls,dd,data,sl⟩,ho,hc,n,hd⟩,_⟩:=I.tuple ha;obtain⟨its2,r2,⟨⟨cls2,dd2,data2,sl2⟩,ho2,hc2,n2,hd2⟩,_⟩:=I.tuple hb;simp only at hc hd hc2 hd2;subst hc hd hc2 hd2;cases r2
 have ne:its.toArray.isEmpty=false:=by
  cases r1;rfl
 exact concat_meets ⟨_,ho,rfl⟩ ⟨_,ho2,rfl⟩ noFill_tuple_add seq_tuple_add Zq Zj (Zd _ _) (wD a b its.toArray #[] n n2 dd dd2 sl sl2 ne rfl) ⟨ho,ho2,.ref a,H,I,rfl,q⟩
def sC:D->D->Option D:=λx y=>match x,y with | .tup (z::zs),.tup []=>some (.tup (z::zs)) | x,y=>ug x y
theorem rH:OpD X (Q2 .Add) sC:=by
 obtain⟨r,o1,o2⟩:=nQ (X:=X);refine⟨λx y H Q=>r x y H Q\/xu X.K x y H Q,λpins s σ H x y v u Q I rx ry h=>?_,λG H x y dx dy d Q gh hx hy e q=>?_⟩
 ·rcases h with h | h
  ·exact o1 pins s σ H x y v u Q I rx ry h
  ·exact v_ pins s σ H x y v u Q I rx ry h
 ·unfold sC at e
  split at e
  ·rename_i z zs
   cases e;obtain⟨p,xs,rfl,h0,h1,h2⟩:=hx.tup gh;obtain⟨p',ws,rfl,h3,h4,h5⟩:=hy.tup gh;cases h5;cases h2 with | cons a1 a2=>exact .inr ⟨p,p',_,_,rfl,rfl,h1,h4,q _ G H (.refl gh) (.tup h0 (.cons a1 a2))⟩
  ·exact .inl (o2 G H x y dx dy d Q gh hx hy e q)
end
end Dn
namespace Ex
open PySem PySem.Spec PyProof.Rows L2
section
variable{prog:Qq}{w:Qw}{A:QC}{E:Qa->Qd->Prop}{s:Qd}{K:Qb}{C x:Addr}{o od:Obj}
structure XK1(K:Qb)(C:Addr):Prop extends XG K C where
 cl:Qr K (.ref C) "__class__" = some (some (.builtin "object.__class__"))
 gs:PySem.W.specialIn K (.builtin "object.__class__") "__get__" = some (some (.builtin "getset_descriptor.__get__"))
 tk:PySem.W.takesIn K (.builtin "object.__class__")=some true
 ob:JP K C (.type "object")=some true
theorem yo{Q:Option Qa->Qd->Prop}(X:K.In s.heap)(c:XK1 K C)(J:PySem.W.InstAt s.heap x o C (some od))(hq:Q (some (.ref C)) { s with toks:=s.toks+1 }):Qf (Qh prog w) A (getAttr? (.ref x) "__class__") Q E s:=by
 have hf:PySem.W.findObj K C (some od) "__class__" = some (.bind (.builtin "getset_descriptor.__get__") (.builtin "object.__class__")):=PySem.W.findObj_data (by obtain⟨cd,hc,_⟩:=PySem.W.any_some c.dict;rw[hc];rfl) c.cl c.gs c.tk;have found:=PySem.W.looks_find (M:=Qh prog w) X J hf;have inst:PySem.W.Looks (Qh prog w) s.heap (isInstance (.ref x) (.type "BaseException")) true:=J.type.andThen (PySem.W.looks_mroIn X c.exc);have FG:=PySem.F.attr_ValueError.ga;obtain⟨h,g,d,t,os⟩:=s;unfold getAttr?;refine Qc (wpAny_mkText (?_));unfold getAttrBy?;apply Qc;apply wpAny_attempt;unfold getAttrBy;refine QZ (Qc (J.type.at (Qc ((ZC X c.ga).at ?_))));dsimp only;rw[An,Bool.and_false,if_neg (by decide)];unfold getAttrByItsOwn;refine Qc ((PySem.W.looks_hook (mc:=.ref C) (r:=none) X c.no).at (Qc (wpAny_attempt (QZ ?_))));unfold callGetattribute;rw[if_neg (by decide)];unfold boundAndCalled;rw[FG.bind];refine Qc (Qg (ZD (codeAny_call_builtin FG.plain PySem.F.entry_bexc_ga (@PySem.W.check_slot (Qh prog w) _ _ ⟨h,g,d,t+1,os⟩ "BaseException.__getattribute__" "BaseException" "__getattribute__" (.ref x) [.str "__class__" t] [] _ AZ Ae inst (PySem.F.args_bexc_ga (.ref x) (.str "__class__" t)) ?_))));refine Qc (Qg (Qc (Qg (Qc (J.type.at (Qc (found.at ?_)))))));dsimp only;show Qf _ _ (J9 [_] (call _ [_,.ref x,.ref C])>>=λv=>ret v) _ _ _;refine Qc (QZ (ZD (PySem.W.class_get (s:=⟨h,g,d,t+1,os⟩) (ox:=o) (od:=some od) X J c.ob (Qg ?_))));exact PySem.W.handed_on rfl (Qg hq)
theorem vg(c:XK1 K C):PySem.W.KitX K (.ref x) (.ref C) (λh=>PySem.W.InstAt h x o C (some od)) where
 ty:=λ_ _ _ I=>I.type
 it:=λM1 h1 X1 _=>by
  obtain⟨cd,c1,_⟩:=PySem.W.any_some c.dict;unfold JO at c1;split at c1
  ·rename_i l1
   intro A1 Q1 E1 s1 k1 q1;unfold isType loadHead;have a1:=k1 _ _ (X1 _ _ l1);apply Qc;exact wpAny_loadPart a1 (Qg q1)
  ·cases c1
 ne:=λh1 t1 d1 i1 n1 s1 X1 e1=>by
  obtain⟨cd,c1,_⟩:=PySem.W.any_some c.dict;cases z1:(Ql C==Ql t1) with
  |false=>rfl
  |true=>
   cases Value.ref.inj (beq_iff_eq.mp z1);unfold JO at c1;split at c1
   ·rename_i l1
    cases((X1 _ _ l1).symm.trans e1)
   ·cases c1
 ca:=λX I k=>yo X c I k
end
section
variable{M:Model}{A:QC}{E:Qa->Qd->Prop}{nm q nm' q':Str}{C N B N':Addr}{bs bm bs' bm':List Qa}{hdct hdct':Bool}{sn sn':List Str}{sub sub':List Qa}{ab ab':Bool}{col col':Option Bool}{dd dd':Option Addr}{k0 k1 k2 k3 k5 j0 j1 j2 j3 j5:Option Qa}{newId newId':String}
theorem vN{h:Heap}{g:Array GenState}{d:Drawn}{t:Nat}{os:OsState}{e:Addr}{oe:Obj}{Q:Bool->Qd->Prop}(hC:h.get? C=some (J8 nm q C N bs bm hdct sn sub ab col dd k0 k1 k2 k3 k5 newId))
  (hB:h.get? B=some (J8 nm' q' B N' bs' bm' hdct' sn' sub' ab' col' dd' j0 j1 j2 j3 j5 newId')) (he:h.get? e=some oe) (hcls:oe.cls=.ref C) (b1:bm'.contains (.type "BaseException")=true) (b2:bm.contains (.ref B)=true)
  (hq:Q true ⟨h,g,d,t,os⟩):Qf M A (excMatches (.ref e) (.ref B)) Q E ⟨h,g,d,t,os⟩:=by
 have c1:(Ql B::bm').contains (.type "BaseException")=true:=by rw[QM,b1];simp
 have c2:(Ql C::bm).contains (.ref B)=true:=by rw[QM,b2];simp
 have nt:=tc_notTuple;unfold excMatches
 repeat (first | (with_reducible refine QY he ?_;rw[hcls]) | with_reducible refine QY hB ?_ | (with_reducible refine Ji hB ?_;rw[c1]) | (with_reducible refine Ji hC ?_;rw[c2]) | wp_step)
 exact hq
end
end Ex
namespace Dn
open PySem PySem.Spec PyProof.Rows L2
section
variable{X:Cx}{a dx C:Addr}{oe:Obj}
def AE(K:Qb)(C a dx:Addr):List V->Hp->VK->Prop:=λxs H Q=>∃vs D b,xs=[.ref a,.ref D]/\H dx=some (.xd vs)/\JQ K (.ref C) (.ref D)=some b/\Q (.bl b) H
theorem uj(g:Ex.XK1 X.K C)(hc:oe.cls=.ref C)(hd:oe.dict=some dx)(nc:Zb oe=true):ie (Mk3 X a oe) (.builtin "isinstance") (AE X.K C a dx):=by
 rintro pins s σ H xs us Q I rv ⟨vs,D,b,rfl,hx,hk,q⟩
 cases rv with | cons r1 rv=>cases rv with | cons r2 rv=>
  cases rv;cases r1;cases r2;obtain⟨mA,n0,r0⟩:=I.hok dx _ hx;obtain⟨od,e,hl⟩:=mL n0;have pin:=(I.pin (a,oe) (Jo _ QV)).1;have J:PySem.W.InstAt s.heap a oe C (some od):=⟨pin,hc,nc,by rw[hd];exact e⟩;exact JH (Ex.vg g) I.kIn J hk (λz=>nomatch z) λtk=>⟨.bl b,H,I.tok tk,rfl,q⟩
end
theorem uq{X:Cx}{a:Addr}{oe:Obj}{pins:List (Addr×Obj)}{σ:L2.St}{H:Hp}{s:Qd}{st:List Stmt}{t:TS}{R:L2.St->Hp->Prop}(I:Inv (Ex.Mk2 X a) ((a,oe)::pins) σ H s)(h:PSs (Mk3 X a oe) st t)(q:t ⟨R,λ_ _=>False,λ_ _=>False,λ_ _=>False⟩ σ H) :
  Qf (Qh X.prog X.w) (Ex.Mk2 X a).A (execs st X.env) (λf s4=>f=.next/\∃σ4 H4,Inv (Ex.Mk2 X a) ((a,oe)::pins) σ4 H4 s4/\R σ4 H4) (λ_ _=>False) s:=by
 refine Jb (h pins s σ H _ (wk I) q) (λf s4 z=>?_) λ_ _ z=>z.elim;cases f with
 |next=>obtain⟨σ4,H4,I4,r⟩:=z;exact⟨rfl,σ4,H4,uC I.ok I4,r⟩
 |brk=>obtain⟨_,_,_,r⟩:=z;exact r.elim
 |cont=>obtain⟨_,_,_,r⟩:=z;exact r.elim
 |ret u=>obtain⟨_,_,_,_,_,r⟩:=z;exact r.elim
theorem ur{X:Cx}{e:Expr}:DE X e (λ_=>none):=⟨λ_ _ _=>False,λ_ _ _ _ _ _ h=>h.elim,λ_ _ _ _ _ _ _ _ _ e=>by cases e⟩
theorem gP{K:Qb}{He G H:Hp}(σ:L2.St):EnvD K He G H σ (Jy σ.length Sl.un):=by
 have no:∀{i:Nat} {x:Sl},(Jy σ.length Sl.un)[i]?=some x->x=.un:=λ{i x} e=>by
  rw[Jq] at e;split at e
  ·cases e;rfl
  ·cases e
 exact⟨by simp,λe=>(nomatch no e),λe=>(nomatch no e),λe=>(nomatch no e),λe=>(nomatch no e),λe=>(nomatch no e)⟩
section
variable{X:Cx}{elt tg iter:Expr}{sc:Scope}{cl:List (Str×Addr)}{tn fr:List Str}{ix:List Nat}{pos:Pos}{wi:TI}{g:D->Ev->Option Ev}
def Bn(K:Qb)(wi:TI):TE:=λσ H Q=>wi σ H λJ H'=>aD H H'/\ItD K J [] H'/\∀a H'',aD H' H''->H' a=none->H'' a=some (.lst [])->Q (.ref a) H''
theorem nG(hc:X.calm=true)(hi:PI X tg iter wi)(S:CompSc X sc cl tn fr ix)(ng:NoG g)(hg:∀C s₃ H₃ fp pins,DG (cxC X sc cl (tn++fr) C s₃ H₃ fp pins) tg g)(hs:∀x,JI iter X.env x=pure x:=by intro _;rfl) :
  PE X (.ListComp elt [⟨tg,iter,[],0⟩] sc pos) (Bn X.K wi):=by
 intro pins s σ H Q I h;rw[eval_ListComp];refine wpAny_comprehension_free (use:=none) rfl hs S.clos S.kind S.names (thn (hi pins s σ H _ I h) λv s1 h1=>thn h1 λitv s2 h2=>?_);obtain⟨it,fp,tn',J,H2,rfl,I2,T,st2,f2,hh,itd,q⟩:=h2;refine Jg (wpAny_newFunctionEnv S.nocell (by intro y hy;simp at hy) (λh₁ hns₁ hsb₁=>?_) S.kind);dsimp only at hns₁ hsb₁ ⊢;have fr2:H2 s2.heap.objs.size=none:=I2.hok.fresh (Qi _)
 have I3:Inv X pins σ (upd H2 s2.heap.objs.size (.lst [])) { s2 with heap:=s2.heap.push { cls:=.type "list",dict:=none,data:=.seq ([]:List Qa).toArray } }:=
  I2.laid (t':=s2.toks) (o:=.lst []) (λb ob q=>Qe _ q) (Qi _) ⟨QA _,[],0,.nil,Qp _ rfl⟩
 have fpD:∀b∈fp,b≠s2.heap.objs.size:=λb hb z=>by
  obtain⟨o,e,_⟩:=T.obj 0 _ st2 b hb;exact absurd (Qk e) (by rw[z];exact Jm _)
 have f3:∀b∈fp,jU X pins (upd H2 s2.heap.objs.size (.lst [])) b:=λb hb=>⟨by rw[ao (fpD b hb)];exact(f2 b hb).1,(f2 b hb).2⟩
 have lt3:∀b∈fp,b<(s2.heap.push { cls:=.type "list",dict:=none,data:=.seq ([]:List Qa).toArray }).objs.size:=λb hb=>by
  obtain⟨o,e,_⟩:=T.obj 0 _ st2 b hb;rw[Jd];exact Nat.lt_succ_of_lt (Qk e)
 have st3:tn' 0 (s2.heap.push { cls:=.type "list",dict:=none,data:=.seq ([]:List Qa).toArray }):=T.keep _ _ _ st2 λb hb o e=>Qe _ e
 refine oO (Nv:=λ_ _ _=>True) (Nl:=λ_ _ _=>True) (λ_ _=>trivial) (λ_ _ _ _ _ _=>trivial) (λ_ _ _ _ _ _ _ _ _ _ _=>trivial) (He:=H2) (G:=H2) (H:=H2) (G1:=H2) (ε:=Jy σ.length .un) (ds:=[]) (rs:=[]) (fe:=λ_=>none) (ft:=lB)
  (s3:={ s2 with heap:=s2.heap.push { cls:=.type "list",dict:=none,data:=.seq ([]:List Qa).toArray } }) hc S ng hg (λ_ _ _ _ _=>oF) (λ_ _ _ _ _=>ur.p) I3 (gP σ) (by decide) rfl ?_ T itd f3 lt3 st3 (.lay _ (aD.refl _) fr2) upd_same fr2 fr2 hns₁ λb o e=>hsb₁.extBut b o (Qz (Qk e)) (Qe _ e)
 intro a xs G' H' C oC m s' IX hNs hC pC gr hn gn ha hd nv;cases hd;exact⟨m,hNs,λh' hs'=>⟨.ref a,H',ou IX hC pC hs',rfl,q a H' gr.hh hn ha⟩⟩
end
end Dn
namespace L2
open PySem PySem.Spec PyProof.Rows
section
variable{κ:Type}[DecidableEq κ]
def cH(kvs:List (κ×V))(k:κ):Option V:=(kvs.find? λkv=>decide (kv.1=k)).map (·.2)
def dM(kvs:List (κ×V))(k:κ)(v:V):List (κ×V):=
 if(kvs.any λkv=>decide (kv.1=k))=true then kvs.map (λkv=>if kv.1=k then(kv.1,v) else kv) else kvs++[(k,v)]
theorem cN{p:κ×V}{r:List (κ×V)}{k:κ}(e:p.1=k):cH (p::r) k=some p.2:=by simp[cH,Zp,e]
theorem cP{p:κ×V}{r:List (κ×V)}{k:κ}(e:¬ p.1=k):cH (p::r) k=cH r k:=by simp[cH,Zp,e]
theorem iH(k:κ):∀kvs:List (κ×V),(kvs.any λkv=>decide (kv.1=k))=(cH kvs k).isSome
 |[]=>rfl
 |p::r=>by
  rw[List.any_cons]
  by_cases e:p.1=k
  ·simp only[cN e,decide_eq_true e,Bool.true_or,Option.isSome_some]
  ·rw[cP e,decide_eq_false e,Bool.false_or];exact iH k r
theorem pP(k j:κ)(y:V):∀kvs:List (κ×V),cH (kvs.map λkv=>if kv.1=k then(kv.1,y) else kv) j=(cH kvs j).map λx=>if j=k then y else x
 |[]=>rfl
 |p::r=>by
  have ih:=pP k j y r;rw[Q3]
  by_cases h:p.1=k
  ·rw[if_pos h]
   by_cases e:p.1=j
   ·rw[cN (p:=(p.1,y)) e,cN e,Option.map_some,if_pos (e.symm.trans h)]
   ·rw[cP (p:=(p.1,y)) e,cP e,ih]
  ·rw[if_neg h]
   by_cases e:p.1=j
   ·rw[cN (p:=p) e,cN e,Option.map_some,if_neg (λz=>h (e.trans z))]
   ·rw[cP (p:=p) e,cP e,ih]
theorem mZ(k j:κ)(y:V):∀kvs:List (κ×V),cH kvs k=none->cH (kvs++[(k,y)]) j=if j=k then some y else cH kvs j
 |[],_=>by
  by_cases e:k=j
  ·rw[if_pos e.symm];exact cN (p:=(k,y)) e
  ·rw[if_neg (λz=>e z.symm)];exact cP (p:=(k,y)) e
 |p::r,hn=>by
  rw[List.cons_append];have hk:¬ p.1=k:=λz=>by rw[cN z] at hn;cases hn
  rw[cP hk] at hn;have ih:=mZ k j y r hn
  by_cases e:p.1=j
  ·rw[cN e,cN e,if_neg (λz=>hk (e.trans z))]
  ·rw[cP e,cP e,ih]
theorem pU(kvs:List (κ×V))(k j:κ)(y:V):cH (dM kvs k y) j=if j=k then some y else cH kvs j:=by
 unfold dM
 by_cases a:(kvs.any λkv=>decide (kv.1=k))=true
 ·rw[if_pos a,pP]
  rw[iH] at a
  by_cases e:j=k
  ·obtain⟨x,hx⟩:=Option.isSome_iff_exists.mp a
   rw[if_pos e,e,hx,Option.map_some,if_pos rfl]
  ·rw[if_neg e]
   cases cH kvs j with
   |none=>rfl
   |some x=>rw[Option.map_some,if_neg e]
 ·rw[if_neg a]
  refine mZ k j y kvs ?_;rw[iH] at a;cases q:cH kvs k with
  |none=>rfl
  |some x=>rw[q] at a;exact(a rfl).elim
theorem iX(kvs:List (κ×V))(k:κ)(v:V):(dM kvs k v).length<=kvs.length+1:=by
 unfold dM;split
 ·rw[QX];lia
 ·rw[QN,QD,List.length_nil];lia
theorem gy.isSome_eq{o:Option V}{u:Option Qa}(r:gy o u):o.isSome=u.isSome:=by
 cases o with
 |none=>cases u with
  |none=>rfl
  |some _=>exact(show False from r).elim
 |some _=>cases u with
  |none=>exact(show False from r).elim
  |some _=>rfl
theorem KV.val{kvs:List (κ×V)}{vs:List (κ×Qa)}(r:KV kvs vs)(k:κ):gy (cH kvs k) (valueAt vs k):=by
 unfold KV at r
 induction r with
 |nil=>exact JG
 |@cons p q ps qs h t ih=>
  obtain⟨h1,h2⟩:=h
  by_cases e:p.1=k
  ·have e':q.1=k:=h1.symm.trans e
   have b:valueAt (q::qs) k=some q.2:=by simp[valueAt,Zp,e']
   rw[cN e,b];exact h2
  ·have e':¬ q.1=k:=λz=>e (h1.trans z)
   have b:valueAt (q::qs) k=valueAt qs k:=by simp[valueAt,Zp,e']
   rw[cP e,b];exact ih
theorem KV.any{kvs:List (κ×V)}{vs:List (κ×Qa)}(r:KV kvs vs)(k:κ):(kvs.any λkv=>decide (kv.1=k))=vs.any λkv=>decide (kv.1=k):=by
 unfold KV at r
 induction r with
 |nil=>rfl
 |cons h t ih=>rw[List.any_cons,List.any_cons,ih,h.1]
theorem KV.repl{kvs:List (κ×V)}{vs:List (κ×Qa)}(r:KV kvs vs)(k:κ){y:V}{u:Qa}(ry:aV y u) :
  KV (kvs.map λkv=>if kv.1=k then(kv.1,y) else kv) (vs.map λkv=>if kv.1=k then(kv.1,u) else kv):=by
 unfold KV at r ⊢
 induction r with
 |nil=>exact .nil
 |@cons p q ps qs h t ih=>
  rw[Q3,Q3];refine .cons ?_ ih;obtain⟨h1,h2⟩:=h
  by_cases e:p.1=k
  ·rw[if_pos e,if_pos (h1.symm.trans e)];exact⟨h1,ry⟩
  ·rw[if_neg e,if_neg (λz=>e (h1.trans z))];exact⟨h1,h2⟩
theorem KV.put{kvs:List (κ×V)}{vs:List (κ×Qa)}(r:KV kvs vs)(k:κ){y:V}{u:Qa}(ry:aV y u):KV (dM kvs k y) (stored vs k u):=by
 unfold dM stored;rw[r.any k]
 by_cases e:(vs.any λkv=>decide (kv.1=k))=true
 ·rw[if_pos e,if_pos e];exact r.repl k ry
 ·rw[if_neg e,if_neg e];exact Paired.snoc r ⟨rfl,ry⟩
theorem KV.length{kvs:List (κ×V)}{vs:List (κ×Qa)}(r:KV kvs vs):kvs.length=vs.length:=Paired.length r
end
theorem rO{P:Qq}{w:Qw}{k:Key}{u:Qa}(r:aV (kV k) u):(bZ P w).is k u=true:=by
 cases k with
 |inl i=>obtain⟨t,e⟩:=(show ∃t,u=Value.int i t from r);subst e;exact oQ P w i t
 |inr x=>obtain⟨t,e⟩:=(show ∃t,u=Value.str x t from r);subst e;exact pM P w x t
theorem nq{P:Qq}{w:Qw}:∀{ks:List Key} {us:List Qa},a8 (ks.map kV) us->ItemsAre (bZ P w) ks us
 |[],_,r=>by rw[List.map_nil] at r;cases r;exact .nil
 |k::ks,_,r=>by
  rw[Q3] at r;cases r with
  |cons h t=>exact .cons (rO h) (nq t)
abbrev KT(H:Hp):List (List Key×V)->List (List Key×Addr×Qa)->Prop:=Paired λp q=>p.1=q.1/\H q.2.1=some (.tup (p.1.map kV))/\aV p.2 q.2.2
theorem KT.val{H:Hp}{kvs:List (List Key×V)}{xs:List (List Key×Addr×Qa)}(r:KT H kvs xs)(k:List Key):gy (cH kvs k) ((atKey xs k).map (·.2)):=by
 induction r with
 |nil=>exact JG
 |@cons p q ps qs h t ih=>
  obtain⟨h1,_,h2⟩:=h
  by_cases e:p.1=k
  ·have e':q.1=k:=h1.symm.trans e
   have b:atKey (q::qs) k=some q.2:=by simp[atKey,Zp,e']
   rw[cN e,b];exact h2
  ·have e':¬ q.1=k:=λz=>e (h1.trans z)
   have b:atKey (q::qs) k=atKey qs k:=by simp[atKey,Zp,e']
   rw[cP e,b];exact ih
theorem KT.repl{H:Hp}{kvs:List (List Key×V)}{xs:List (List Key×Addr×Qa)}(r:KT H kvs xs)(k:List Key){y:V}{u:Qa}(ry:aV y u) :
  KT H (kvs.map λkv=>if kv.1=k then(kv.1,y) else kv) (xs.map (putAt k u)):=by
 induction r with
 |nil=>exact .nil
 |@cons p q ps qs h t ih=>
  rw[Q3,Q3];refine .cons ?_ ih;obtain⟨h1,h2,h3⟩:=h;unfold putAt
  by_cases e:p.1=k
  ·rw[if_pos e,if_pos (h1.symm.trans e)];exact⟨h1,h2,ry⟩
  ·rw[if_neg e,if_neg (λz=>e (h1.trans z))];exact⟨h1,h2,h3⟩
theorem KT.put{H:Hp}{kvs:List (List Key×V)}{xs:List (List Key×Addr×Qa)}(r:KT H kvs xs)(k:List Key){b:Addr}{y:V}{u:Qa}(hb:H b=some (.tup (k.map kV)))(ry:aV y u) :
  KT H (dM kvs k y) (storedH xs k b u):=by
 have e:(kvs.any λkv=>decide (kv.1=k))=(atKey xs k).isSome:=by
  rw[iH,(r.val k).isSome_eq,Option.isSome_map]
 unfold dM storedH;rw[e]
 by_cases q:(atKey xs k).isSome=true
 ·rw[if_pos q,if_pos q];exact r.repl k ry
 ·rw[if_neg q,if_neg q];exact Paired.snoc r ⟨rfl,hb,ry⟩
theorem KT.keeps{H H':Hp}{kvs:List (List Key×V)}{xs:List (List Key×Addr×Qa)}(r:KT H kvs xs)(ht:∀b ys,H b=some (.tup ys)->H' b=some (.tup ys)):KT H' kvs xs:=
 Paired.mapP r λ_ _ z=>⟨z.1,ht _ _ z.2.1,z.2.2⟩
section
variable{P:Qq}{w:Qw}{H:Hp}{h:Heap}{a:Addr}
theorem xB{u:HO}(ok:HOk P w H h)(e:Rd H a u):cw P w H h a u:=e.ok ok
theorem rG{kvs:List (Key×V)}(ok:HOk P w H h)(e:Rd H a (.dK kvs)):kvs.length<=Qj/\(a==JD)=false/\∃vs,KV kvs vs/\h.DictOf (bZ P w) a vs:=
 show cw P w H h a (.dK kvs) from xB ok e
theorem xF{kvs:List (Key×V)}(ok:HOk P w H h)(e:H a=some (.dK kvs)):kvs.length<=Qj/\(a==JD)=false/\∃vs,KV kvs vs/\h.DictOf (bZ P w) a vs:=rG ok (.inl e)
theorem qI{ks:List Key}(ok:HOk P w H h)(e:H a=some (.tup (ks.map kV))):(tupleKind (bZ P w)).is h ks a:=by
 obtain⟨_,its,r,o,h1,h2,n,h3⟩:=(show cw P w H h a (.tup (ks.map kV)) from ok a _ e);exact⟨o,its.toArray,n,h1,h2,h3,by simpa using nq r⟩
theorem uK{kvs:List (List Key×V)}(ok:HOk P w H h)(e:Rd H a (.dT kvs)):kvs.length<=Qj/\(a==JD)=false/\
  ∃xs,KT H kvs xs/\h.DictOfH (tupleKind (bZ P w)) a xs:=by
 obtain⟨z,y,xs,r,o,es,ep,h1,h2,h3,h4,h5⟩:=(show cw P w H h a (.dT kvs) from xB ok e);refine⟨z,y,xs,r,o,es,ep,h1,h2,h3,h4,λx hx=>?_,h5⟩
 have all:∀{l:List (List Key×V)} {m:List (List Key×Addr×Qa)},KT H l m->∀x∈m,(tupleKind (bZ P w)).is h x.1 x.2.1:=by
  intro l m q
  induction q with
  |nil=>intro x hx;exact nomatch hx
  |@cons p q ps qs hq t ih=>
   intro x hx;rcases Qm.mp hx with e | hx
   ·subst e
    exact qI ok (by rw[<-hq.1];exact hq.2.1)
   ·exact ih x hx
 exact all r x hx
theorem Av{kvs:List (List Key×V)}(ok:HOk P w H h)(e:H a=some (.dT kvs)):kvs.length<=Qj/\(a==JD)=false/\
  ∃xs,KT H kvs xs/\h.DictOfH (tupleKind (bZ P w)) a xs:=uK ok (.inl e)
end
def jy(H:Hp)(a:Addr)(y:V)(r:Option V):Prop:=
 (∃kvs k,Rd H a (.dK kvs)/\y=kV k/\r=cH kvs k)\/∃kvs k b,Rd H a (.dT kvs)/\y=.ref b/\H b=some (.tup (k.map kV))/\r=cH kvs k
def qx(H:Hp)(a:Addr)(y v:V)(H':Hp):Prop:=
 (∃kvs k,H a=some (.dK kvs)/\y=kV k/\kvs.length<Qj/\H'=upd H a (.dK (dM kvs k v)))\/
 ∃kvs k b,H a=some (.dT kvs)/\y=.ref b/\H b=some (.tup (k.map kV))/\kvs.length<Qj/\H'=upd H a (.dT (dM kvs k v))
theorem jy.k{H:Hp}{a:Addr}{kvs:List (Key×V)}{k:Key}(e:H a=some (.dK kvs)):jy H a (kV k) (cH kvs k):=.inl ⟨kvs,k,.inl e,rfl,rfl⟩
theorem qx.k{H:Hp}{a:Addr}{kvs:List (Key×V)}{k:Key}{v:V}(e:H a=some (.dK kvs))(hl:kvs.length<Qj):qx H a (kV k) v (upd H a (.dK (dM kvs k v))):=.inl ⟨kvs,k,e,rfl,hl,rfl⟩
section
variable{X:Cx}{pins:List (Addr×Obj)}{σ:St}{H:Hp}{s:Qd}{a:Addr}{y v:V}{u r:Qa}{o:Option V}{A:QC}{E:Qa->Qd->Prop}
theorem Inv.big(I:Inv X pins σ H s):JD<s.heap.objs.size:=by
 have h:Qx<s.heap.objs.size:=(I.mod.glob.keeps I.bk).lt;exact Jv (by decide) h
theorem su{Q:Qa->Qd->Prop}(hu:A.units+1<cLine)(I:Inv X pins σ H s)(g:jy H a y (some v))(ry:aV y u)(h:∀w' s',Inv X pins σ H s'->aV v w'->Q w' s') :
  Qf (Qh X.prog X.w) A (getItem (.ref a) u) Q E s:=by
 rcases g with⟨kvs,k,e,ey,l⟩ | ⟨kvs,k,b,e,ey,eb,l⟩
 ·subst ey
  obtain⟨z,hd,vs,rel,dd⟩:=rG I.hok e;obtain⟨w',hw,rw'⟩:=gy.some_of (v:=v) (o:=valueAt vs k) (by rw[l];exact rel.val k);exact wpAny_getItem_of (rO ry) dd.mapOf hw (h w' _ (I.tok _) rw')
 ·subst ey
  cases(show u=Ql b from ry);obtain⟨z,hd,xs,rel,dd⟩:=uK I.hok e;obtain⟨w',hw,rw'⟩:=gy.some_of (v:=v) (o:=(atKey xs k).map (·.2)) (by rw[l];exact rel.val k);obtain⟨p,hp,hp2⟩:=Option.map_eq_some_iff.mp hw;refine wpAny_getItem_heap (tupleKind_room_in1 hu) (qI I.hok eb) dd hp ?_;rw[hp2];exact h w' _ (I.tok _) rw'
theorem nP{h':Heap}{t':Nat}{ob:HO}(I:Inv X pins σ H s)(mu:Mut (H a))(hs:JF a s.heap h')(he:∃q,h'.get? a=some q)(new:cw X.prog X.w (upd H a ob) h' a ob) :
  Inv X pins σ (upd H a ob) { s with heap:=h',toks:=t' }:=
 I.write (x:=a) (e:=a) mu (.inl rfl) (λb q hb z=>(hs.2 b hb).trans z) he new
theorem qe{P:Qq}{w:Qw}{H':Hp}{h':Heap}{kvs:List (Key×V)}{vs:List (Key×Qa)}(z:kvs.length<=Qj)(hd:(a==JD)=false)(rel:KV kvs vs)(dd:h'.DictOf (bZ P w) a vs) :
  cw P w H' h' a (.dK kvs):=⟨z,hd,vs,rel,dd⟩
theorem tj{H':Hp}{Q:Unit->Qd->Prop}(hu:A.units+1<cLine)(I:Inv X pins σ H s)(g:qx H a y v H')(ry:aV y u)(rv:aV v r)(h:∀s',Inv X pins σ H' s'->Q () s') :
  Qf (Qh X.prog X.w) A (setItem (.ref a) u r) Q E s:=by
 rcases g with⟨kvs,k,e,ey,l,eH⟩ | ⟨kvs,k,b,e,ey,eb,l,eH⟩
 ·subst ey eH
  obtain⟨z,hd,vs,rel,dd⟩:=xF I.hok e;have hz:vs.length<=Qj:=by rw[<-rel.length];exact z
  have hl:(dM kvs k v).length<=Qj:=by have:=iX kvs k v;lia
  refine wpAny_setItem_pairs (hsz:=hz) (rO ry) dd λh' dd' hs=>h _ ?_;have he:∃q,h'.get? a=some q:=let⟨q,_,_,hq,_⟩:=dd';⟨q,hq⟩;exact nP I (by rw[e];exact JG) hs he (qe hl hd (rel.put k rv) dd')
 ·subst ey eH
  cases(show u=Ql b from ry);obtain⟨z,hd,xs,rel,dd⟩:=Av I.hok e;have hz:xs.length<=Qj:=by rw[<-Paired.length rel];exact z
  have hl:(dM kvs k v).length<=Qj:=by have:=iX kvs k v;lia
  refine wpAny_setItem_heap (hsz:=hz) (tupleKind_room_in1 hu) (qI I.hok eb) dd λh' dd' hs=>h _ ?_;obtain⟨q,es,ep,hq,h2,h3,h4,_,h5⟩:=dd';refine nP I (by rw[e];exact JG) hs ⟨q,hq⟩ ⟨hl,hd,_,(rel.put k eb rv).keeps λc ys ec=>?_,q,es,ep,hq,h2,h3,h4,h5⟩;rw[ao (AS ec e (λz=>nomatch z))];exact ec
end
def zS(i:Expr):Prop:=∀ov iv,subscripted i false ov iv=operate [ov,iv] (getItem ov iv)
theorem wQ{prog:Qq}{w:Qw}{A:QC}{E:Qa->Qd->Prop}{s:Qd}{env:Env}{value slice:Expr}{pos:Pos}{T id:String}{Q:Qa->Qd->Prop}
  (hl:typeLookup (.type T) "__getitem__" = pure (some (.builtin id))) (hs:zS slice)
  (h:Qf (Qh prog w) A (eval value env) (λo s₁=>Qf (Qh prog w) A (eval slice env) (λi s₂=>s₂.TypeIs o T/\Qf (Qh prog w) A (getItem o i) Q E s₂) E s₁) E s) :
  Qf (Qh prog w) A (eval (.Subscript value slice pos) env) Q E s:=by
 refine Subscript_ (Jb h (λo s₁ h₁=>Jb h₁ (λi s₂ h₂=>?_) λ_ _ x=>x) λ_ _ x=>x);obtain⟨hT,h₂⟩:=h₂;unfold subscriptTail;refine Qc ?_;rw[getitemInPython_of_ne hT.not_modules];refine Qc (wpAny_specialOf hT hl ?_)
 have fin:Qf (Qh prog w) A (subscripted slice false o i) (λr s₃=>Qf (Qh prog w) A (letTemporaryGo value o r>>=λ_=>pure r) Q E s₃) E s₂:=by
  rw[hs o i];exact wpAny_operating (Jb h₂ (λr s₃ h₃=>Qc (wpAny_letTemporaryGo (Qg h₃))) λ_ _ x=>x)
 first
  |exact Qg (Qc fin)
  |exact Qc (Qg (Qc fin))
  |exact Qc fin
theorem pH{X:Cx}{pins:List (Addr×Obj)}{σ:St}{H:Hp}{s:Qd}{a:Addr}{y:V}{o:Option V}(I:Inv X pins σ H s)(g:jy H a y o):s.TypeIs (.ref a) "dict":=by
 rcases g with⟨kvs,k,e,_,_⟩ | ⟨kvs,k,b,e,_,_,_⟩
 ·obtain⟨_,_,vs,_,dd⟩:=rG I.hok e
  exact dd.typeIs
 ·obtain⟨_,_,xs,_,dd⟩:=uK I.hok e
  exact dd.typeIs
def xG(td ty:TE):TE:=λσ H Q=>td σ H λx H1=>ty σ H1 λy H2=>∃a v,x=.ref a/\jy H2 a y (some v)/\Q v H2
def xR(td ty tv:TE):TS:=λD σ H=>tv σ H λv H1=>td σ H1 λx H2=>ty σ H2 λy H3=>∃a H4,x=.ref a/\qx H3 a y v H4/\D.nx σ H4
section
variable{X:Cx}{o i e value:Expr}{pos pos' tpos:Pos}{td ty tv:TE}
theorem cx(hu:X.A.units+1<cLine)(ho:PE X o td)(hi:PE X i ty)(hs:zS i):PE X (.Subscript o i pos) (xG td ty):=by
 intro pins s σ H Q I h;refine wQ PySem.F.slot_dict_getitem.lookup hs (thn (ho pins s σ H _ I h) λu s1 ⟨x,H1,I1,rx,q1⟩=>thn (hi pins s1 σ H1 _ I1 q1) λiv s2 ⟨y,H2,I2,ry,a,v,ex,g,q2⟩=>?_);subst ex;obtain rfl:u=Ql a:=rx;exact⟨pH I2 g,su hu I2 g ry λw' s3 I3 rw'=>⟨v,H2,I3,rw',q2⟩⟩
theorem jJ(hu:X.A.units+1<cLine)(ho:PE X o td)(hi:PE X i ty)(hv:PE X value tv)(hs:JT value (some (.Subscript o i pos')) pos.line X.env=pure false) :
  PS X (.Assign [.Subscript o i pos'] value pos) (xR td ty tv):=by
 intro pins s σ H D I h;refine wpAny_Assign_Subscript (thn (hv pins s σ H _ I h) λr s1 ⟨v,H1,I1,rv,q1⟩=>thn (ho pins s1 σ H1 _ I1 q1) λu s2 ⟨x,H2,I2,rx,q2⟩=>thn (hi pins s2 σ H2 _ I2 q2) λiv s3 ⟨y,H3,I3,ry,a,H4,ex,g,q3⟩=>?_) hs;subst ex;obtain rfl:u=Ql a:=rx;exact tj hu I3 g ry rv λs4 I4=>⟨σ,H4,I4,q3⟩
end
theorem pD{P:Qq}{w:Qw}{H:Hp}(h:Heap)(hb:JD<h.objs.size):cw P w H (h.push { cls:=.type "dict",data:=.dict #[] }) h.objs.size (.dK []):=
 ⟨QA _,beq_eq_false_iff_ne.mpr (Ne.symm (Qz hb)),[],.nil,Heap.DictOf.new h⟩
def y_:TE:=λ_ H Q=>∀p,H p=none->Q (.ref p) (upd H p (.dK []))
section
variable{X:Cx}{pos:Pos}
theorem uW:PE X (.Dict [] [] pos) y_:=λpins s σ H Q I h=>
 wpAny_Dict_empty ⟨.ref s.heap.objs.size,_,I.laid (a:=s.heap.objs.size) (o:=.dK []) (t':=s.toks) (λ_ _ q=>Qe _ q) (Qi _) (pD s.heap I.big),rfl,h _ (I.hok.fresh (Qi _))⟩
end
def q9:List (TE×TE)->St->Hp->(List (V×V)->Hp->Prop)->Prop
 |[],_,H,Q=>Q [] H
 |(tk,tv)::r,σ,H,Q=>tk σ H λx H1=>tv σ H1 λy H2=>q9 r σ H2 λps H3=>Q ((x,y)::ps) H3
abbrev VV:List (V×V)->List (Qa×Qa)->Prop:=Paired λp q=>aV p.1 q.1/\aV p.2 q.2
def PPs(X:Cx)(pos:Pos)(keys:List (Option Expr))(values:List Expr)(trs:List (TE×TE)):Prop:=
 ∀(pins:List (Addr×Obj)) (s:Qd) (σ:St) (H:Hp) (Q:List (V×V)->Hp->Prop),Inv X pins σ H s->q9 trs σ H Q->
  Qf (Qh X.prog X.w) X.A (evalPairs (pairTrees keys values X.env pos)) (λvs s'=>∃ps H',Inv X pins σ H' s'/\VV ps vs/\Q ps H') X.xe s
theorem w_{X:Cx}{pos:Pos}:PPs X pos [] [] []:=λpins s σ H Q I h=>pairTrees_nil_walk ⟨[],H,I,.nil,h⟩
theorem fG{X:Cx}{pos:Pos}{k v:Expr}{ks:List (Option Expr)}{vs:List Expr}{tk tv:TE}{trs:List (TE×TE)}(hk:PE X k tk)(hv:PE X v tv)(hr:PPs X pos ks vs trs) :
  PPs X pos (some k::ks) (v::vs) ((tk,tv)::trs):=λpins s σ H Q I h=>
 pairTrees_cons_walk (thn (hk pins s σ H _ I h) λu s1 ⟨x,H1,I1,rx,q1⟩=>thn (hv pins s1 σ H1 _ I1 q1) λw2 s2 ⟨y,H2,I2,ry,q2⟩=>
  thn (hr pins s2 σ H2 _ I2 q2) λws s3 ⟨ps,H3,I3,rel,q3⟩=>⟨(x,y)::ps,H3,I3,.cons ⟨rx,ry⟩ rel,q3⟩)
def jv(kvs more:List (Key×V)):List (Key×V):=more.foldl (λacc kv=>dM acc kv.1 kv.2) kvs
theorem KV.merge:∀{more:List (Key×V)} {rs:List (Key×Qa)} {kvs:List (Key×V)} {vs:List (Key×Qa)},KV more rs->KV kvs vs->KV (jv kvs more) (merged vs rs):=by
 intro more rs kvs vs r;unfold KV at r
 induction r generalizing kvs vs with
 |nil=>intro q;exact q
 |@cons p q ps qs h t ih=>
  intro r0
  have e:KV (dM kvs p.1 p.2) (stored vs q.1 q.2):=by
   have:=r0.put p.1 h.2;rw[<-h.1];exact this
  exact ih e
theorem jh:∀(more kvs:List (Key×V)),(jv kvs more).length<=kvs.length+more.length
 |[],kvs=>by show kvs.length<=kvs.length+0;lia
 |p::r,kvs=>by
  have h1:=jh r (dM kvs p.1 p.2);have h2:=iX kvs p.1 p.2;show(jv (dM kvs p.1 p.2) r).length<=_;rw[QD];lia
theorem lZ{P:Qq}{w:Qw}:∀{kvs:List (Key×V)} {ws:List (Qa×Qa)},VV (kvs.map λkv=>(kV kv.1,kv.2)) ws->∃rs,Carries (bZ P w) ws rs/\KV kvs rs
 |[],_,r=>by rw[List.map_nil] at r;cases r;exact⟨[],JG,.nil⟩
 |p::kvs,_,r=>by
  rw[Q3] at r;cases r with
  |@cons a b as bs h t=>
   obtain⟨rs,c,q⟩:=lZ (P:=P) (w:=w) t;obtain⟨b1,b2⟩:=b;exact⟨(p.1,b2)::rs,⟨rO h.1,rfl,c⟩,.cons ⟨rfl,h.2⟩ q⟩
def AI(trs:List (TE×TE)):TE:=λσ H Q=>∀p,H p=none->q9 trs σ (upd H p (.dK [])) λps H2=>H2 p=some (.dK [])/\∃kvs:List (Key×V),ps=kvs.map (λkv=>(kV kv.1,kv.2))/\kvs.length<=15/\Q (.ref p) (upd H2 p (.dK (jv [] kvs)))
theorem wY{X:Cx}{pos:Pos}{keys:List (Option Expr)}{values:List Expr}{trs:List (TE×TE)}(h:PPs X pos keys values trs)(hall:keys.all (·.isSome)=true)(hl:keys.length=values.length)(h0:keys≠[])
  (h15:keys.length<=15):PE X (.Dict keys values pos) (AI trs):=by
 intro pins s σ H Q I q;have hn:=I.hok.fresh (Qi s.heap.objs.size);have I1:=I.laid (a:=s.heap.objs.size) (o:=.dK []) (h':=s.heap.push { cls:=.type "dict",data:=.dict #[] }) (t':=s.toks) (λ_ _ q=>Qe _ q) (Qi _) (pD s.heap I.big);refine wpAny_Dict_walk (knd:=bZ X.prog X.w) hall hl h0 h15 (thn (h pins _ σ _ _ I1 (q _ hn)) λws s2 ⟨ps,H2,I2,rel,e,kvs,ep,lk,q2⟩=>?_);subst ep;obtain⟨rs,c,rk⟩:=lZ (P:=X.prog) (w:=X.w) rel;obtain⟨z,hd,vs0,r0,dd⟩:=xF I2.hok e;cases r0;refine⟨rs,c,dd,λh' dd' hs=>⟨.ref s.heap.objs.size,_,?_,rfl,q2⟩⟩
 have hz:(jv [] kvs).length<=Qj:=by
  have h1:=jh kvs [];rw[List.length_nil] at h1;rw[sizeLine_eq];lia
 have he:∃q,h'.get? s.heap.objs.size=some q:=let⟨q,_,_,hq,_⟩:=dd';⟨q,hq⟩;exact nP I2 (by rw[e];exact JG) hs he (qe hz hd (rk.merge .nil) dd')
end L2
namespace Ex
open PySem PySem.Spec PyProof.Rows L2
section
variable{M:Model}{A:QC}{E:Qa->Qd->Prop}{nm q nm' q':Str}{C N B N':Addr}{bs bm bs' bm':List Qa}{hdct hdct':Bool}{sn sn':List Str}{sub sub':List Qa}{ab ab':Bool}{col col':Option Bool}{dd dd':Option Addr}{k0 k1 k2 k3 k5 j0 j1 j2 j3 j5:Option Qa}{newId newId':String}
theorem zV{h:Heap}{g:Array GenState}{d:Drawn}{t:Nat}{os:OsState}{e:Addr}{oe:Obj}{Q:Bool->Qd->Prop}(hC:h.get? C=some (J8 nm q C N bs bm hdct sn sub ab col dd k0 k1 k2 k3 k5 newId))
  (hB:h.get? B=some (J8 nm' q' B N' bs' bm' hdct' sn' sub' ab' col' dd' j0 j1 j2 j3 j5 newId')) (he:h.get? e=some oe) (hcls:oe.cls=.ref C) (b1:bm'.contains (.type "BaseException")=true) (c2:(Ql C::bm).contains (.ref B)=false)
  (hq:Q false ⟨h,g,d,t,os⟩):Qf M A (excMatches (.ref e) (.ref B)) Q E ⟨h,g,d,t,os⟩:=by
 have c1:(Ql B::bm').contains (.type "BaseException")=true:=by rw[QM,b1];simp
 have nt:=tc_notTuple;unfold excMatches
 repeat (first | (with_reducible refine QY he ?_;rw[hcls]) | with_reducible refine QY hB ?_ | (with_reducible refine Ji hB ?_;rw[c1]) | (with_reducible refine Ji hC ?_;rw[c2]) | wp_step)
 exact hq
end
section
variable{X:Cx}{pins:List (Addr×Obj)}{σ:L2.St}{H:Hp}{a:Addr}
def Ai(X:Cx)(C:Addr)(bm:List Qa)(x:ExceptHandler):Prop:=∃c pc n b0 suite hpos D bmD,x=.ExceptHandler (some (.Name c pc)) n (b0::suite) hpos/\Gl X c/\X.mg c=some (.ref D)/\XO X.K D bmD/\(Ql C::bm).contains (.ref D)=false/\(c==("__debug__" : Str))=false
theorem xI{s:Qd}{C dx N0:Addr}{bm:List Qa}{Q:Flow->Qd->Prop}{rest:List ExceptHandler}(I:Inv X pins σ H s)(k:XO X.K C bm)(x:XT N0 H s.heap a (.ref C) dx .none):∀{pre:List ExceptHandler},(∀x∈pre,Ai X C bm x)->Qf (Qh X.prog X.w) X.A (handleBy (.ref a) X.env rest) Q X.xe s->Qf (Qh X.prog X.w) X.A (handleBy (.ref a) X.env (pre++rest)) Q X.xe s
 |[],_,h=>h
 |y::pre,hp,h=>by
  obtain⟨c,pc,n,b0,suite,hpos,D,bmD,rfl,hg,hm,kD,ne,hdb⟩:=hp y QV;have ih:=xI (rest:=rest) I k x (pre:=pre) (λz hz=>hp z (QG _ hz)) h;have nb:(Ql a)≠byPass:=λz=>by cases z
  refine wpAny_handleBy_cons (codeAny_handlers_test ?_) nb;obtain⟨nm,q,N,bs,hdct,sn,sub,ab,col,dd,k0,k1,k2,k3,k5,lk⟩:=k.ob;obtain⟨nm',q',N',bs',hdct',sn',sub',ab',col',dd',j0,j1,j2,j3,j5,lkB⟩:=kD.ob;have hC:=I.kIn _ _ lk;have hB:=I.kIn _ _ lkB;refine fZ (X:=Mk2 X a) (oB I) hg hm ?_ hdb;obtain⟨g3,u3,oe3,vs3,T3,oT3,ts3,ea3,ec3,ed3,r3⟩:=id x;obtain⟨h0,g0,d0,t0,o0⟩:=s;refine zV hC hB ea3 ec3 kD.exc ne ?_;exact ih
theorem vQ{s0 s1:Qd}{H0:Hp}{C B dx:Addr}{bm bm':List Qa}{c n:Str}{i:Nat}{pc hpos:Pos}{b0:Stmt}{suite:List Stmt}{R:L2.St->Hp->Prop}{Q:Flow->Qd->Prop}{pre:List ExceptHandler}(hp:∀x∈pre,Ai X C bm x)(I0:Inv X pins σ H0 s0)(hst:X.stack=X.env::X.outer)(hfr:X.env.frame=some X.env.locals)
  (hos:s1.os=s0.os) (hba:AllBare s1.gens) (un:Un (frs X.stack) [] H0 H s0.heap s1.heap) (hok:HOk X.prog X.w H s1.heap) (x:XAt s0.heap.objs.size H s1.heap a (.ref C) dx) (k:XO X.K C bm) (kB:XO X.K B bm') (sb:bm.contains (.ref B)=true) (hg:Gl X c) (hm:X.mg c=some (.ref B)) (hdb:(c==("__debug__" : Str))=false)
  (hl:X.env.kindOf n=some .local) (hN:X.N.Nodup) (hi:X.N[i]?=some n)
  (hsuite:∀oe s3,oe.cls=.ref C->oe.dict=some dx->Zb oe=true->Inv (Mk2 X a) ((a,oe)::pins) (σ.set i (some (.ref a))) H s3->
   Qf (Qh X.prog X.w) (Mk2 X a).A (execs (b0::suite) X.env) (λf s4=>f=.next/\∃σ4 H4,Inv (Mk2 X a) ((a,oe)::pins) σ4 H4 s4/\R σ4 H4) (λ_ _=>False) s3)
  (hQ:∀σ4 H4 s5,R σ4 H4->Inv X pins (σ4.set i none) H4 s5->Q .next s5) :
  Qf (Qh X.prog X.w) X.A (noteFrame (.ref a) X.env) (λ_ s2=>Qf (Qh X.prog X.w) X.A (setFlight (.ref a) none) (λ_ s3=>Qf (Qh X.prog X.w) X.A (handleBy (.ref a) X.env (pre++[.ExceptHandler (some (.Name c pc)) (some n) (b0::suite) hpos])) Q X.xe s3) X.xe s2) X.xe s1:=by
 have I1:Inv X pins σ H s1:=I0.call' hos un hok hba λb z=>absurd z (by simp);have fr:X.A.frames=some (X.env::X.outer):=I1.ok.frames.trans (congrArg some hst);have ff:s1.heap.FunFrames X.base (X.env::X.outer):=hst▸I1.stack;have free:∀b∈frs (X.env::X.outer),H b=none:=hst▸I1.stkFree;have hH:∀b,s1.heap.objs.size<=b->H b=none:=λb z=>I1.hok.fresh z;refine si (n:=s0.heap.objs.size) (H:=H) fr ff hfr hH x λh2 m2 x2=>?_;refine ka (s:={ s1 with heap:=h2 }) (base:=X.base) (l:=X.env::X.outer) (n_ m2 _ (λ_ z=>z) ff) x2 λh3 m3 x3=>?_;have m23:=m2.trans m3
 have to:∀{h':Heap},Moves (frs (X.env::X.outer)) s0.heap.objs.size H s1.heap h'->∀t,Inv X pins σ H ⟨h',s1.gens,s1.drawn,t,s1.os⟩:=λ{h'} m t=>
  I0.call' (s':=⟨h',s1.gens,s1.drawn,t,s1.os⟩) hos (Moves.un un (hst▸m) (Qi _)) (m.hok free hok) hba λb z=>absurd z (by simp)
 have nb:(Ql a)≠byPass:=λz=>by cases z
 refine xI (to m23 s1.toks) k x3 hp ?_;refine wpAny_handleBy_cons (codeAny_handlers_test ?_) nb;obtain⟨nm,q,N,bs,hdct,sn,sub,ab,col,dd,k0,k1,k2,k3,k5,lk⟩:=k.ob;obtain⟨nm',q',N',bs',hdct',sn',sub',ab',col',dd',j0,j1,j2,j3,j5,lkB⟩:=kB.ob;have J3:=to m23 s1.toks;have hC:=J3.kIn _ _ lk;have hB:=J3.kIn _ _ lkB;refine fZ (X:=Mk2 X a) (oB J3) hg hm ?_ hdb;obtain⟨g3,u3,oe3,vs3,T3,oT3,ts3,ea3,ec3,ed3,r3⟩:=id x3;refine vN hC hB ea3 ec3 kB.exc sb ?_;refine codeAny_handlers_suite_as (?_);refine ka (s:=⟨h3,s1.gens,s1.drawn,s1.toks,s1.os⟩) (base:=X.base) (l:=X.env::X.outer) (n_ m23 _ (λ_ z=>z) ff) x3 λh4 m4 x4=>?_;have J4:=to (m23.trans m4) s1.toks;obtain⟨g4,u4,oe,vs,T,oT,ts,ea,ec,ed,edat,r4⟩:=id x4;have nc:Zb oe=true:=by unfold Zb;rw[edat]
 have P4:Inv X ((a,oe)::pins) σ H ⟨h4,s1.gens,s1.drawn,s1.toks,s1.os⟩:=J4.pins_of λp hp=>by
  rcases Qm.mp hp with e | e
  ·subst e
   refine⟨ea,u4,λz=>?_,I0.nofs g4,λv z=>?_⟩
   ·have z:a=X.env.locals:=z
    exact absurd (Qy I0.lt g4) (by rw[z];exact Jm _)
   ·rw[edat] at z;cases z
  ·exact J4.pin p (Qu _ e)
 refine iq (X:=Mk2 X a) (oB P4) hN hi (.inl hl) (v:=.ref a) rfl (λs5 I5=>?_) (.inr hl);refine Jb (hsuite oe s5 ec ed nc I5) (λf s6 z=>?_) λ_ _ z=>z.elim;obtain⟨rfl,σ4,H4,I6,rr⟩:=z;have I7:Inv X ((a,oe)::pins) σ4 H4 s6:=uO I0.ok I6;refine BA (I7.pins_of λp hp=>I7.pin p (Qu _ (QG _ hp))) hl hN hi λs8 I8=>hQ σ4 H4 s8 rr I8
end
end Ex
namespace Dn
open PySem PySem.Spec PyProof.Rows L2
open PySem.W
section tree
variable{α β:Type}
end tree
def Kp(h g:Heap):Prop:=∀b o,h.get? b=some o->g.get? b=some o
end Dn
namespace RW2
open PySem PyProof.Rows PySem.W
theorem nj:typeLookup (.type "list") "keys" = pure none:=by rw[typeLookup_type,builtinLookup_eq_fast];kernel_rfl
section
variable{prog:Qq}{w:Qw}{A:QC}{E:Qa->Qd->Prop}{s:Qd}
theorem sF{a:Addr}{its:Array Qa}{Q:Option Qa->Qd->Prop}(x:PlainL s.heap a its)(hA:A.handled=none)
  (h:∀h' tk,(∀b o,s.heap.get? b=some o->h'.get? b=some o)->Q none { s with heap:=h',toks:=tk }):Qf (Qh prog w) A (getAttr? (.ref a) "keys") Q E s:=by
 obtain⟨⟨c,dct,dat,sl⟩,k,hx,hc,hd,hdat⟩:=x;simp only at hc hdat hd;subst hc hdat hd;rcases s with⟨hp,g,d,tk,os⟩
 have tyA:∀tk',(⟨hp,g,d,tk',os⟩:Qd).TypeIs (.ref a) "list":=λ_=>⟨_,hx,rfl⟩;have f1:=sub_AttributeError;have f3:=PySem.F.slot_list_getattribute.lookup;have f4:=PySem.F.slot_list_getattribute.bind (.ref a);have noHook:=am_list_getattr_none;have f6:=nj;unfold getAttr? getAttrBy?;unfold getAttrBy
 repeat (any_goals (first | assumption | exact tyA _ | ((with_reducible show Qf _ _ (call (Value.builtin "list.__getattribute__") _ _) _ _ _);refine call_meets PySem.F.slot_list_getattribute (tyA _) am_entry_list_getattribute (PySem.F.args_list_getattribute_2 _ _) (meets_getattribute_miss_list a its k sl "keys" _ nj (by decide) (by size_fits)) ⟨hx,hA,λh' tk' e hx'=>?_⟩) | wp_step))
 have⟨t',u',he⟩:=hx'.there;show Qf _ _ (getattributeRaised _ _ _ _ _ _ _) (λ_ _=>_) _ _;unfold getattributeRaised
 repeat (any_goals (first | wp_step | assumption))
 exact h h' tk' λb o e=>hx'.keeps b o e
end
end RW2
namespace Dn
open PySem PySem.Spec PyProof.Rows L2
def kf:Ev->Option Fl:=(sIf (aX gtI (ai 5) (eC (.int 0))) (aT (jg 2 (e2 aW (ai 5) (eC (.int 1000)))) (cG 5 (e2 ky (ai 5) (eC (.int 1000))))) ck)
def jX:Ev->Option Fl:=(aT (cG 3 (e2 aW (e2 bq (e2 bq (e2 cE (ai 3) (eC (.int 69621))) (e2 aW (ai 4) (eC (.int 999983)))) (eC (.int 7))) (eC (.int 2147483629)))) (aT (cG 5 (e2 cZ (ai 4) (e2 pX (eC (.int 10)) (eC (.int 18))))) (aT (sIf (aX ltI (ai 5) (eC (.int 0))) (jg 2 (e2 aW (ai 4) (eC (.int 1000)))) ck) (ig (iW (eC (.int 60))) (az 6) kf))))
def iB:Ev->Option Fl:=(sIf (aX ltI (eQ fU (ai 2)) (ai 1)) (aT (cG 3 (e2 aW (e2 bq (e2 bq (e2 bq (e2 pX (ai 3) (eC (.int 3))) (e2 cE (eC (.int 40692)) (ai 3))) (e2 cE (eC (.int 7)) (ai 6))) (eC (.int 5))) (eC (.int 2147483629)))) (jg 2 (e2 aW (e2 ky (ai 3) (eC (.int 1009))) (eC (.int 1000))))) ck)
def yH:Ev->Option Fl:=(aT (kM 2 (kh aZ)) (aT (cG 3 (eC (.int 29))) (aT (ig (mG (eF (eSl (ai 0) eP (bP (eC (.int 63)))))) (az 4) jX) (aT (ig (iW (aM 1)) (az 6) iB) (dm (eF (eSl (ai 2) eP (bP (ai 1)))))))))
theorem au{g g':Ev->Option Fl}{ε ε':Ev}(h:g ε=some (.nx ε')):aT g g' ε=g' ε':=by unfold aT;rw[h];rfl
theorem kU{g g':Ev->Option Fl}{ε:Ev}{d:D}(h:g ε=some (.rt d)):aT g g' ε=some (.rt d):=by unfold aT;rw[h];rfl
theorem dW{f:Ev->Option (List D)}{g:D->Ev->Option Ev}{gb:Ev->Option Fl}{ε:Ev}{ds:List D}(h:f ε=some ds):ig f g gb ε=eS g gb ds ε:=by unfold ig;rw[h];rfl
theorem dA{f:Ev->Option Bool}{g g':Ev->Option Fl}{ε:Ev}(h:f ε=some true):sIf f g g' ε=g ε:=by unfold sIf;rw[h];rfl
theorem fz{f:Ev->Option Bool}{g g':Ev->Option Fl}{ε:Ev}(h:f ε=some false):sIf f g g' ε=g' ε:=by unfold sIf;rw[h];rfl
theorem jP{i:Nat}{f:Ev->Option D}{ε:Ev}{d:D}(h:f ε=some d):cG i f ε=some (.nx (ε.set i (.dat d))):=by unfold cG;rw[h];rfl
theorem ja{f:Ev->Option D}{ε:Ev}{d:D}(h:f ε=some d):dm f ε=some (.rt d):=by unfold dm;rw[h];rfl
theorem lG{f:Ev->Option (List D)}{ε:Ev}{ds:List D}(h:f ε=some ds):eF f ε=some (.lst ds):=by unfold eF;rw[h];rfl
theorem qD{F:List D->Option D}{fa:Ev->Option D}{ε:Ev}{x:D}(h1:fa ε=some x):bt F (aj fa aZ) ε=F [x]:=by unfold bt aj;rw[h1];rfl
theorem iA{F:List D->Option D}{fa fb:Ev->Option D}{ε:Ev}{x y:D}(h1:fa ε=some x)(h2:fb ε=some y):bt F (aj fa (aj fb aZ)) ε=F [x,y]:=by unfold bt aj;rw[h1,h2];rfl
theorem tq{F:List D->Option D}{g:Ev->Option (List D)}{ε:Ev}{b:Bool}(h:bt F g ε=some (.bl b)):dj (gI (bt F g)) ε=some (!b):=by unfold dj gI;rw[h];rfl
theorem oA{fa fb:Ev->Option D}{ε:Ev}{a b:Bool}(h1:fa ε=some (.bl a))(h2:fb ε=some (.bl b)):oN fa fb ε=some (.bl (a&&b)):=by
 unfold oN;rw[h1];cases a
 ·rfl
 ·show fb ε=_;rw[h2];rfl
theorem vh{fa fb:Ev->Option D}{ε:Ev}{a b:Bool}(h1:fa ε=some (.bl a))(h2:fb ε=some (.bl b)):eOr fa fb ε=some (.bl (a || b)):=by
 unfold eOr;rw[h1];cases a
 ·show fb ε=_;rw[h2];rfl
 ·rfl
theorem zH{fa fb fc:Ev->Option D}{ε:Ev}{a b c:Int}(h1:fa ε=some (.int a))(h2:fb ε=some (.int b))(h3:fc ε=some (.int c)):eCh leI leI fa fb fc ε=some (.bl (decide (a<=b)&&decide (b<=c))):=by
 unfold eCh;rw[h1,h2,h3];show(if decide (a<=b)=true then some (D.bl (decide (b<=c))) else some (.bl false))=_;cases decide (a<=b)<;>rfl
theorem eX{N ps:List Str}{g:Ev->Option Fl}{ds:List D}{d:D}(hl:ds.length=ps.length)(h:g (bf N ds)=some (.rt d)):fnD N ps g ds=some d:=by
 unfold fnD;rw[if_pos hl,h]
theorem uL(xs:List D)(a b:Nat)(hb:b<=xs.length):Dn.iY xs (some (a:Int)) (some (b:Int))=(xs.drop a).take (b-a):=by
 unfold Dn.iY;rw[HT.nS,HT.nS,Nat.min_eq_left hb];rcases Nat.le_total a xs.length with h | h
 ·rw[Nat.min_eq_left h]
 ·rw[Nat.min_eq_right h,List.drop_eq_nil_of_le h,List.drop_length];simp
abbrev iL(l:List Int):List D:=l.map D.int
def Low(l:List Int):Prop:=∀v∈l,0<=v/\v<1000
theorem Low.snoc{l:List Int}{v:Int}(h:Low l)(h0:0<=v)(h1:v<1000):Low (l++[v]):=by
 intro u hu;rcases Q8.mp hu with z | z
 ·exact h u z
 ·rw[QW.mp z];exact⟨h0,h1⟩
theorem sP(A M S C k:Sl)(row:List Int)(rest:Int)(hl:Low row)(hz:row.length<900000) :
  ∃row' rest',kf [A,M,.own (iL row),S,C,.dat (.int rest),k]=some (.nx [A,M,.own (iL row'),S,C,.dat (.int rest'),k])/\Low row'/\row'.length<=row.length+1:=by
 by_cases h:0<rest
 ·refine⟨row++[rest%1000],rest/1000,?_,hl.snoc (by lia) (by lia),by simp⟩
  have:row.length<1000000:=by lia
  simp[kf,sIf,aX,asB,e2,gtI,eZ,ai,eC,aT,jg,cG,aW,ky,tN,h,this,iL]
 ·refine⟨row,rest,?_,hl,by simp⟩
  simp[kf,sIf,aX,asB,e2,gtI,eZ,ai,eC,ck,h]
theorem rV(A M S C:Sl):∀(l:List D) (k:Sl) (row:List Int) (rest:Int),Low row->row.length+l.length<900000->
  ∃row' rest' k',eS (az 6) kf l [A,M,.own (iL row),S,C,.dat (.int rest),k]=some (.nx [A,M,.own (iL row'),S,C,.dat (.int rest'),k'])/\Low row'/\row'.length<=row.length+l.length
 |[],k,row,rest,hl,hz=>⟨row,rest,k,rfl,hl,by simp⟩
 |d::l,k,row,rest,hl,hz=>by
  simp only[QD] at hz;obtain⟨row1,rest1,e1,l1,z1⟩:=sP A M S C (.dat d) row rest hl (by lia);obtain⟨row2,rest2,k2,e2,l2,z2⟩:=rV A M S C l (.dat d) row1 rest1 l1 (by lia);refine⟨row2,rest2,k2,?_,l2,by simp only[QD];lia⟩;unfold eS;have t:az 6 d [A,M,.own (iL row),S,C,.dat (.int rest),k]=some [A,M,.own (iL row),S,C,.dat (.int rest),.dat d]:=rfl;rw[t];show(kf _).bind _=_;rw[e1];exact e2
theorem sV(A M r k:Sl)(row:List Int)(seed cell:Int)(hl:Low row)(hs:0<=seed/\seed<2147483629)(hz:row.length<800000) :
  ∃row' seed' r' k',jX [A,M,.own (iL row),.dat (.int seed),.dat (.int cell),r,k]=some (.nx [A,M,.own (iL row'),.dat (.int seed'),.dat (.int cell),r',k'])/\Low row'/\(0<=seed'/\seed'<2147483629)/\row'.length<=row.length+61:=by
 have key:∃row1,sIf (aX ltI (ai 5) (eC (.int 0))) (jg 2 (e2 aW (ai 4) (eC (.int 1000)))) ck [A,M,.own (iL row),.dat (.int ((seed*69621+cell%999983+7)%2147483629)),.dat (.int cell),.dat (.int (cell-1000000000000000000)),k] =
   some (.nx [A,M,.own (iL row1),.dat (.int ((seed*69621+cell%999983+7)%2147483629)),.dat (.int cell),.dat (.int (cell-1000000000000000000)),k])/\Low row1/\row1.length<=row.length+1:=by
  by_cases h:cell-1000000000000000000<0
  ·refine⟨row++[cell%1000],?_,hl.snoc (by lia) (by lia),by simp⟩
   have h2:row.length<1000000:=by lia
   simp[sIf,aX,asB,e2,ltI,eZ,ai,eC,jg,aW,h,h2,iL]
  ·refine⟨row,?_,hl,by simp⟩
   simp[sIf,aX,asB,e2,ltI,eZ,ai,eC,ck,h]
 obtain⟨row1,e1,l1,z1⟩:=key;obtain⟨row2,rest2,k2,e2',l2,z2⟩:=rV A M (.dat (.int ((seed*69621+cell%999983+7)%2147483629))) (.dat (.int cell)) (d_ 60) k row1 (cell-1000000000000000000) l1 (by simp[d_];lia);refine⟨row2,(seed*69621+cell%999983+7)%2147483629,.dat (.int rest2),k2,?_,l2,by lia,by simp[d_] at z2;lia⟩
 have s1:cG 3 (e2 aW (e2 bq (e2 bq (e2 cE (ai 3) (eC (.int 69621))) (e2 aW (ai 4) (eC (.int 999983)))) (eC (.int 7))) (eC (.int 2147483629))) [A,M,.own (iL row),.dat (.int seed),.dat (.int cell),r,k] =
   some (.nx [A,M,.own (iL row),.dat (.int ((seed*69621+cell%999983+7)%2147483629)),.dat (.int cell),r,k]):=by
  simp[cG,e2,aW,bq,cE,eZ,ai,eC,mE]
 have s2:cG 5 (e2 cZ (ai 4) (e2 pX (eC (.int 10)) (eC (.int 18)))) [A,M,.own (iL row),.dat (.int ((seed*69621+cell%999983+7)%2147483629)),.dat (.int cell),r,k] =
   some (.nx [A,M,.own (iL row),.dat (.int ((seed*69621+cell%999983+7)%2147483629)),.dat (.int cell),.dat (.int (cell-1000000000000000000)),k]):=by
  simp[cG,e2,cZ,pX,eZ,ai,eC,tm]
 have r60:iW (eC (.int 60)) [A,M,.own (iL row1),.dat (.int ((seed*69621+cell%999983+7)%2147483629)),.dat (.int cell),.dat (.int (cell-1000000000000000000)),k]=some (d_ 60):=rfl;unfold jX;rw[au s1,au s2,au e1,dW r60];exact e2'
theorem pb(A M:Sl):∀(l:List Int) (c r k:Sl) (row:List Int) (seed:Int),Low row->(0<=seed/\seed<2147483629)->row.length+61*l.length<800000->
  ∃row' seed' c' r' k',eS (az 4) jX (iL l) [A,M,.own (iL row),.dat (.int seed),c,r,k]=some (.nx [A,M,.own (iL row'),.dat (.int seed'),c',r',k'])/\Low row'/\(0<=seed'/\seed'<2147483629)/\row'.length<=row.length+61*l.length
 |[],c,r,k,row,seed,hl,hs,hz=>⟨row,seed,c,r,k,rfl,hl,hs,by simp⟩
 |v::l,c,r,k,row,seed,hl,hs,hz=>by
  simp only[QD] at hz;obtain⟨row1,seed1,r1,k1,e1,l1,h1,z1⟩:=sV A M r k row seed v hl hs (by lia);obtain⟨row2,seed2,c2,r2,k2,e2,l2,h2,z2⟩:=pb A M l (.dat (.int v)) r1 k1 row1 seed1 l1 h1 (by lia);refine⟨row2,seed2,c2,r2,k2,?_,l2,h2,by simp only[QD];lia⟩;show eS (az 4) jX (.int v::iL l) _=_;unfold eS;have t:az 4 (.int v) [A,M,.own (iL row),.dat (.int seed),c,r,k]=some [A,M,.own (iL row),.dat (.int seed),.dat (.int v),r,k]:=rfl;rw[t];show(jX _).bind _=_;rw[e1];exact e2
theorem tJ(A c r:Sl)(m:Nat)(row:List Int)(seed:Int)(j:Nat)(hl:Low row)(hs:0<=seed/\seed<2147483629)(hz:row.length<900000) :
  ∃row' seed',iB [A,.dat (.int (m:Int)),.own (iL row),.dat (.int seed),c,r,.dat (.int (j:Int))]=some (.nx [A,.dat (.int (m:Int)),.own (iL row'),.dat (.int seed'),c,r,.dat (.int (j:Int))])/\Low row'/\(0<=seed'/\seed'<2147483629)/\row'.length<=row.length+1/\(row.length<m->row'.length=row.length+1)/\(m<=row.length->row'.length=row.length):=by
 by_cases h:row.length<m
 ·refine⟨row++[(seed ^ 3+40692*seed+7*(j:Int)+5)%2147483629/1009%1000],(seed ^ 3+40692*seed+7*(j:Int)+5)%2147483629,?_,hl.snoc (by lia) (by lia),by lia,by simp,by simp,by lia⟩
  have h2:(row.length:Int)<(m:Int):=by lia
  have h3:row.length<1000000:=by lia
  have h4:seed.natAbs<18446744073709551616:=by lia
  simp[iB,sIf,aX,asB,e2,ltI,eZ,ai,eC,eQ,fU,aT,jg,cG,aW,ky,pX,bq,cE,tN,tm,mE,h2,h3,h4,h,iL]
 ·refine⟨row,seed,?_,hl,hs,by lia,by lia,by lia⟩
  have h2:¬ (row.length:Int)<(m:Int):=by lia
  simp[iB,sIf,aX,asB,e2,ltI,eZ,ai,eC,eQ,fU,ck,h]
theorem m_(A c r:Sl)(m:Nat):∀(l:List Nat) (k:Sl) (row:List Int) (seed:Int),Low row->(0<=seed/\seed<2147483629)->row.length+l.length<900000->m<=row.length+l.length->
  ∃row' seed' k',eS (az 6) iB (l.map λ(i:Nat)=>D.int (i:Int)) [A,.dat (.int (m:Int)),.own (iL row),.dat (.int seed),c,r,k]=some (.nx [A,.dat (.int (m:Int)),.own (iL row'),.dat (.int seed'),c,r,k'])/\Low row'/\m<=row'.length/\row'.length<900000
 |[],k,row,seed,hl,hs,hz,hm=>⟨row,seed,k,rfl,hl,by simpa using hm,by simpa using hz⟩
 |j::l,k,row,seed,hl,hs,hz,hm=>by
  simp only[QD] at hz hm;obtain⟨row1,seed1,e1,l1,h1,z1,z2,z3⟩:=tJ A c r m row seed j hl hs (by lia);obtain⟨row2,seed2,k2,e2,l2,h2,h3⟩:=m_ A c r m l (.dat (.int (j:Int))) row1 seed1 l1 h1 (by lia) (by lia);refine⟨row2,seed2,k2,?_,l2,h2,h3⟩;show eS (az 6) iB (.int (j:Int)::l.map λ(i:Nat)=>D.int (i:Int)) _=_;unfold eS;have t:az 6 (.int (j:Int)) [A,.dat (.int (m:Int)),.own (iL row),.dat (.int seed),c,r,k]=some [A,.dat (.int (m:Int)),.own (iL row),.dat (.int seed),c,r,.dat (.int (j:Int))]:=rfl;rw[t];show(iB _).bind _=_;rw[e1];exact e2
theorem kQ(xs:List D)(n:Nat):iY xs none (some (n:Int))=xs.take n:=by
 unfold iY;rw[HT.uP,HT.nS,List.drop_zero,Nat.sub_zero];rcases Nat.le_total n xs.length with h | h
 ·rw[Nat.min_eq_left h]
 ·rw[Nat.min_eq_right h,List.take_length,List.take_of_length_le h]
theorem wb(ns:List Int)(hn:ns.length<=63)(m:Nat)(hm:m<=5000) :
  ∃row:List Int,yH [.dat (.lst (iL ns)),.dat (.int (m:Int)),.un,.un,.un,.un,.un]=some (.rt (.lst (iL row)))/\row.length=m/\Low row:=by
 have hk:(iL ns).take 63=iL ns:=List.take_of_length_le (by simpa[iL] using hn);obtain⟨row1,seed1,c1,r1,k1,e1,l1,h1,z1⟩:=pb (.dat (.lst (iL ns))) (.dat (.int (m:Int))) ns .un .un .un [] 29 (by intro v hv;cases hv) (by decide) (by simp;lia);obtain⟨row2,seed2,k2,e2',l2,h2,h3⟩:=m_ (.dat (.lst (iL ns))) c1 r1 m (Q7 m) k1 row1 seed1 l1 h1 (by simp at z1 ⊢;lia) (by simp);refine⟨row2.take m,?_,by rw[Zc];lia,λv hv=>l2 v (List.mem_of_mem_take hv)⟩;have s1:kM 2 (kh aZ) [.dat (.lst (iL ns)),.dat (.int (m:Int)),.un,.un,.un,.un,.un]=some (.nx [.dat (.lst (iL ns)),.dat (.int (m:Int)),.own (iL []),.un,.un,.un,.un]):=rfl;have s2:cG 3 (eC (.int 29)) [.dat (.lst (iL ns)),.dat (.int (m:Int)),.own (iL []),.un,.un,.un,.un]=some (.nx [.dat (.lst (iL ns)),.dat (.int (m:Int)),.own (iL []),.dat (.int 29),.un,.un,.un]):=rfl
 have s3:mG (eF (eSl (ai 0) eP (bP (eC (.int 63))))) [.dat (.lst (iL ns)),.dat (.int (m:Int)),.own (iL []),.dat (.int 29),.un,.un,.un]=some (iL ns):=by
  show mG _ _=_;have:eSl (ai 0) eP (bP (eC (.int 63))) [.dat (.lst (iL ns)),.dat (.int (m:Int)),.own (iL []),.dat (.int 29),.un,.un,.un]=some (iY (iL ns) none (some ((63:Nat):Int))):=rfl;unfold mG eF;rw[this,kQ,hk];rfl
 have s4:iW (aM 1) [.dat (.lst (iL ns)),.dat (.int (m:Int)),.own (iL row1),.dat (.int seed1),c1,r1,k1]=some (d_ m):=by
  have:(m:Int)<1000000/\-1000000<(m:Int):=by lia
  unfold iW;show(if(m:Int)<1000000/\-1000000<(m:Int) then some (d_ (m:Int).toNat) else none)=_;rw[if_pos this,Int.toNat_natCast]
 have s5:dm (eF (eSl (ai 2) eP (bP (ai 1)))) [.dat (.lst (iL ns)),.dat (.int (m:Int)),.own (iL row2),.dat (.int seed2),c1,r1,k2]=some (.rt (.lst (iL (row2.take m)))):=by
  have:eSl (ai 2) eP (bP (ai 1)) [.dat (.lst (iL ns)),.dat (.int (m:Int)),.own (iL row2),.dat (.int seed2),c1,r1,k2]=some (iY (iL row2) none (some (m:Int))):=rfl;unfold dm eF;rw[this,kQ];simp[iL,ZJ]
 have e2'':eS (az 6) iB (d_ m) [.dat (.lst (iL ns)),.dat (.int (m:Int)),.own (iL row1),.dat (.int seed1),c1,r1,k1]=_:=e2';unfold yH;rw[au s1,au s2,au (by rw[dW s3];exact e1),au (by rw[dW s4];exact e2'')];exact s5
abbrev tg2:D->Ev->Option Ev:=i8 2 (aF (az 0) (aF (az 1) cI))
def kl(rec:List D->Option D):Ev->Option Fl:=(aT (sIf (g_ (gI (eR (eB "list") (ai 1))) (gI (eR (eB "tuple") (ai 1)))) (aT (sIf (g_ (aX oq (eR (eB "list") (ai 0)) (eR (eB "list") (ai 1))) (aX oq (eR (eB "tuple") (ai 0)) (eR (eB "tuple") (ai 1)))) (dm (eC (.bl false))) ck) (dm (oN (e2 kd (eQ fU (ai 0)) (eQ fU (ai 1))) (bt o_ (aj (eF (eLC (tf (aj (aM 0) (aj (aM 1) aZ))) 2 [] tg2 lB (bt rec (aj (aM 0) (aj (aM 1) aZ))))) aZ))))) ck) (aT (sIf (g_ (aX (isD false) (ai 0) (eC .non)) (aX (isD false) (ai 1) (eC .non))) (dm (oN (e2 (isD false) (ai 0) (eC .non)) (e2 (isD false) (ai 1) (eC .non)))) ck) (aT (sIf (g_ (aX oq (eR (eB "bool") (ai 0)) (eR (eB "bool") (ai 1))) (aX oq (eR (eB "int") (ai 0)) (eR (eB "int") (ai 1)))) (dm (eC (.bl false))) ck) (dm (e2 kd (ai 0) (ai 1))))))
def FrS:Nat->List D->Option D
 |0=>λ_=>none
 |n+1=>fnD ["a","b"] ["a","b"] (kl (FrS n))
def OkS:Nat->D->Prop
 |0,_=>False
 |n+1,.tup ds=>ds.length<1000000/\∀d∈ds,OkS n d
 |n+1,.lst ds=>ds.length<1000000/\∀d∈ds,OkS n d
 |_+1,.dic _=>False
 |_+1,_=>True
theorem r6{rec:List D->Option D}:∀(ds:List D) (s0 s1:Sl),(∀d∈ds,rec [d,d]=some (.bl true))->lcD tg2 lB (bt rec (aj (aM 0) (aj (aM 1) aZ))) (lS ds ds) [s0,s1]=some (ds.map λ_=>D.bl true)
 |[],_,_,_=>rfl
 |d::ds,s0,s1,h=>by
  show((rec [d,d]).bind λv=>(lcD tg2 lB (bt rec (aj (aM 0) (aj (aM 1) aZ))) (lS ds ds) [.dat d,.dat d]).bind λr=>some (v::r))=_;rw[h d (by simp),r6 ds _ _ λe he=>h e (by simp[he])];rfl
theorem oU:∀ds:List D,kI (ds.map λ_=>D.bl true)=some (ds.map λ_=>true)
 |[]=>rfl
 |d::ds=>by show(kI (ds.map λ_=>D.bl true)).bind _=_;rw[oU ds];rfl
theorem zp(ds:List D):o_ [.lst (ds.map λ_=>D.bl true)]=some (.bl true):=by
 show(kI (ds.map λ_=>D.bl true)).bind _=_;rw[oU];show some (D.bl ((ds.map λ_=>true).all id))=_;simp
theorem pK{rec:List D->Option D}(d:D)(ds:List D)(hd:d=.tup ds\/d=.lst ds)(hz:ds.length<1000000)(h:∀e∈ds,rec [e,e]=some (.bl true)):kl rec [.dat d,.dat d]=some (.rt (.bl true)):=by
 have c2:eF (eLC (tf (aj (aM 0) (aj (aM 1) aZ))) 2 [] tg2 lB (bt rec (aj (aM 0) (aj (aM 1) aZ)))) [.dat d,.dat d]=some (.lst (ds.map λ_=>D.bl true)):=by
  refine lG ?_;rw[tQ (ds:=lS ds ds) (by rcases hd with rfl | rfl<;>rfl) (by simpa[lS] using hz)];exact r6 ds _ _ h
 have c1:e2 kd (eQ fU (ai 0)) (eQ fU (ai 1)) [.dat d,.dat d]=some (.bl true):=by
  have:e2 kd (eQ fU (ai 0)) (eQ fU (ai 1)) [.dat d,.dat d]=some (.bl (decide ((ds.length:Int)=(ds.length:Int)))):=by rcases hd with rfl | rfl<;>rfl
  rw[this];simp
 unfold kl;refine kU ?_;rw[dA (by rcases hd with rfl | rfl<;>rfl),au (ε':=[.dat d,.dat d]) (by rcases hd with rfl | rfl<;>rfl)];exact ja (oA c1 ((qD c2).trans (zp ds)))
theorem ow:∀(n:Nat) (d:D),OkS n d->FrS n [d,d]=some (.bl true)
 |0,_,h=>h.elim
 |n+1,d,h=>by
  show fnD ["a","b"] ["a","b"] (kl (FrS n)) [d,d]=_;refine eX rfl ?_;show kl (FrS n) [.dat d,.dat d]=_;cases d with
  |non=>rfl
  |bl b=>cases b<;>rfl
  |int i=>
   have:kl (FrS n) [.dat (.int i),.dat (.int i)]=some (.rt (.bl (decide (i=i)))):=rfl;rw[this];simp
  |str x=>
   have:kl (FrS n) [.dat (.str x),.dat (.str x)]=some (.rt (.bl (decide (x=x)))):=rfl;rw[this];simp
  |dic ds=>exact h.elim
  |tup ds=>exact pK _ ds (.inl rfl) h.1 λe he=>ow n e (h.2 e he)
  |lst ds=>exact pK _ ds (.inr rfl) h.1 λe he=>ow n e (h.2 e he)
def bU(f:Nat->Int)(n:Nat):List Int:=(Q7 n).map f
theorem yw(row:List Int):row=bU (λj=>row.getD j 0) row.length:=by
 apply JK;intro i;unfold bU;rw[QK]
 by_cases h:i<row.length
 ·simp[h,ZM]
 ·have h':row.length<=i:=by lia
  rw[List.getElem?_eq_none h',List.getElem?_eq_none (by simpa using h')];rfl
theorem zv{row:List Int}{n:Nat}(hl:row.length=n)(hL:Low row):∃f:Nat->Int,row=bU f n/\∀j,0<=f j/\f j<1000:=by
 refine⟨λj=>row.getD j 0,by rw[<-hl];exact yw row,λj=>?_⟩
 by_cases h:j<row.length
 ·have:row.getD j 0=row[j]:=by simp[Jw,h]
  show 0<=row.getD j 0/\row.getD j 0<1000;rw[this];exact hL _ (List.getElem_mem h)
 ·have:row.getD j 0=0:=by simp[Jw,List.getElem?_eq_none (show row.length<=j by lia)]
  show 0<=row.getD j 0/\row.getD j 0<1000;rw[this];lia
theorem nC{f:Ev->Option Bool}{g g':Ev->Option Fl}{ε:Ev}(p:Prop)[Decidable p](h:f ε=some (decide p))(hp:p):sIf f g g' ε=g ε:=dA (h.trans (by rw[decide_eq_true hp]))
theorem lu{f:Ev->Option Bool}{g g':Ev->Option Fl}{ε:Ev}(p:Prop)[Decidable p](h:f ε=some (decide p))(hp:¬p):sIf f g g' ε=g' ε:=fz (h.trans (by rw[decide_eq_false hp]))
theorem zZ{i j:Int}(h:-(2 ^ 64)<j/\j<2 ^ 64):cE (.int i) (.int j)=some (.int (i*j)):=by
 have c:mE i j:=Ju h;simp[cE,eZ,c]
theorem o6{i j:Int}(h:-(2 ^ 64)<i/\i<2 ^ 64):cE (.int i) (.int j)=some (.int (i*j)):=by
 have c:mE i j:=Qs h;simp[cE,eZ,c]
theorem yX{i j:Int}(h:0<j):aW (.int i) (.int j)=some (.int (i%j)):=by
 simp[aW,eZ,h]
theorem cM{op:D->D->Option D}{fa fb:Ev->Option D}{ε:Ev}{x y:D}(h1:fa ε=some x)(h2:fb ε=some y):e2 op fa fb ε=op x y:=by unfold e2;rw[h1,h2];rfl
theorem jV{g:D->Ev->Option Ev}{gb:Ev->Option Fl}(P:Nat->Ev->Prop):∀(ds:List D) (n:Nat),(∀i d,ds[i]?=some d->∀ε,P (n+i) ε->∃ε1 ε2,g d ε=some ε1/\(gb ε1=some (.nx ε2)\/gb ε1=some (.ct ε2))/\P (n+i+1) ε2)->
  ∀ε,P n ε->∃ε',eS g gb ds ε=some (.nx ε')/\P (n+ds.length) ε'
 |[],n,_,ε,h=>⟨ε,rfl,h⟩
 |d::ds,n,st,ε,h=>by
  obtain⟨ε1,ε2,e1,e2,h2⟩:=st 0 d rfl ε h
  obtain⟨ε3,e3,h3⟩:=jV P ds (n+1) (λi d' hd ε h'=>by
   have:=st (i+1) d' hd ε (by rw[show n+(i+1)=n+1+i by lia];exact h');rw[show n+(i+1)+1=n+1+i+1 by lia] at this
   exact this) ε2 h2
  refine⟨ε3,?_,by rw[QD,show n+(ds.length+1)=n+1+ds.length by lia];exact h3⟩;show(g d ε).bind _=_;rw[e1];show(gb ε1).bind _=_;rcases e2 with e2 | e2<;>(rw[e2];exact e3)
theorem mq{n i:Nat}{d:D}(h:(d_ n)[i]?=some d):d=.int (i:Int)/\i<n:=by
 unfold d_ at h;rw[QK] at h;obtain⟨m,em,rfl⟩:=bz h;obtain⟨hm,em⟩:=QB.mp em;rw[List.getElem_range] at em;subst em;exact⟨rfl,by simpa using hm⟩
@[simp] theorem rngD_len (n:Nat):(d_ n).length=n:=by simp[d_]
theorem nY{f:Ev->Option D}{ε:Ev}{j:Int}(h:f ε=some (.int j))(h1:0<=j)(h2:j<1000000):iW f ε=some (d_ j.toNat):=by
 unfold iW;rw[h];show(if j<1000000/\-1000000<j then some (d_ j.toNat) else none)=_;rw[if_pos (by lia)]
theorem wz{f g:Ev->Option Bool}{ε:Ev}{a b:Bool}(h1:f ε=some a)(h2:g ε=some b):kG f g ε=some (a&&b):=by
 unfold kG;rw[h1];cases a
 ·rfl
 ·exact h2
theorem qv{f g:Ev->Option Bool}{ε:Ev}{a b:Bool}(h1:f ε=some a)(h2:g ε=some b):g_ f g ε=some (a || b):=by
 unfold g_;rw[h1];cases a
 ·exact h2
 ·rfl
theorem wy{f:Ev->Option Bool}{ε:Ev}{a:Bool}(h1:f ε=some a):dj f ε=some (!a):=by unfold dj;rw[h1];rfl
theorem uS{α:Type}(xs:List α)(j:Int)(h0:0<=j)(h1:j<xs.length):∃x∈xs,atI xs j=some x:=by
 have hj:j.toNat<xs.length:=by lia
 refine⟨xs[j.toNat],List.getElem_mem hj,?_⟩;unfold atI ixN;rw[if_pos h0,if_pos h1];simp[hj]
theorem oH{i:Nat}{f:Ev->Option D}{ε:Ev}{d:D}{ds:List D}(h:f ε=some d)(hi:ε[i]?=some (.own ds))(hl:ds.length<1000000):jg i f ε=some (.nx (ε.set i (.own (ds++[d])))):=by
 unfold jg;rw[h];show(match ε[i]? with | some (.own ds)=>_ | _=>none)=_;rw[hi];show(if ds.length<1000000 then _ else none)=_;rw[if_pos hl]
theorem mj(f:Nat->Int)(m a n:Nat)(h:a+n<=m):Dn.iY (iL (bU f m)) (some (a:Int)) (some ((a+n:Nat):Int))=iL (bU (λj=>f (a+j)) n):=by
 rw[uL _ _ _ (by simp[iL,bU];lia)];unfold iL bU;rw[show a+n-a=n by lia,<-List.map_drop,<-ZJ,<-List.map_drop,<-ZJ];congr 1;apply JK;intro i;rw[QK,QK]
 by_cases hi:i<n
 ·rw[List.getElem?_take,if_pos hi,List.getElem?_drop]
  simp[ZM,hi,show a+i<m by lia]
 ·rw[List.getElem?_take,if_neg hi]
  simp[ZM,hi]
abbrev t6(a0 a1 a2 a3 a4 a5:Int):D:=.tup [.int a0,.int a1,.int a2,.int a3,.int a4,.int a5]
def AL:Ev->Option Fl:=(aT (cG 2 (e2 cZ (e2 bq (e2 ixD (ai 1) (eC (.int 0))) (e2 aW (e2 ixD (ai 0) (eC (.int 0))) (eC (.int 9)))) (eC (.int 4)))) (aT (cG 3 (e2 cZ (e2 bq (e2 ixD (ai 1) (eC (.int 1))) (e2 aW (e2 ixD (ai 0) (eC (.int 1))) (eC (.int 9)))) (eC (.int 4)))) (aT (cG 4 (e2 aW (e2 ixD (ai 0) (eC (.int 4))) (eC (.int 6)))) (dm (gq (aj (aM 2) (aj (aM 3) (aj (e2 bq (ai 2) (e2 aW (e2 ixD (ai 0) (eC (.int 2))) (eC (.int 4)))) (aj (e2 bq (ai 3) (e2 aW (e2 ixD (ai 0) (eC (.int 3))) (eC (.int 4)))) (aj (aM 4) (aj (e2 bq (ai 4) (e2 aW (e2 ixD (ai 0) (eC (.int 5))) (e2 cZ (eC (.int 6)) (ai 4)))) aZ)))))))))))
theorem jd{l:List Int}{n:Nat}(h:n+1<=l.length):∃d r,l=d::r/\n<=r.length:=by
 cases l with
 |nil=>cases h
 |cons d r=>exact⟨d,r,rfl,Nat.le_of_succ_le_succ h⟩
theorem wX(l:List Int)(hl:6<=l.length)(b0 b1:Int):∃a0 a1 a2 a3 a4 a5,AL [.dat (.lst (iL l)),.dat (.tup [.int b0,.int b1]),.un,.un,.un]=some (.rt (t6 a0 a1 a2 a3 a4 a5))/\(a0<=a2/\a1<=a3/\a4<=a5)/\0<=a4/\a5<=5:=by
 obtain⟨d0,d1,d2,d3,d4,d5,r,rfl⟩:∃d0 d1 d2 d3 d4 d5 r,l=d0::d1::d2::d3::d4::d5::r:=by
  obtain⟨d0,r0,rfl,h0⟩:=jd hl;obtain⟨d1,r1,rfl,h1⟩:=jd h0;obtain⟨d2,r2,rfl,h2⟩:=jd h1;obtain⟨d3,r3,rfl,h3⟩:=jd h2;obtain⟨d4,r4,rfl,h4⟩:=jd h3;obtain⟨d5,r5,rfl,h5⟩:=jd h4;exact⟨d0,d1,d2,d3,d4,d5,r5,rfl⟩
 have at_:∀(k:Nat) (v:Int),(d0::d1::d2::d3::d4::d5::r)[k]?=some v->ixD (.lst (iL (d0::d1::d2::d3::d4::d5::r))) (.int (k:Int))=some (.int v):=λk v h=>rq (by unfold iL;rw[QK,h];rfl);have w0:=at_ 0 d0 rfl;have w1:=at_ 1 d1 rfl;have w2:=at_ 2 d2 rfl;have w3:=at_ 3 d3 rfl;have w4:=at_ 4 d4 rfl;have w5:=at_ 5 d5 rfl;let m:=d4%6;refine⟨b0+d0%9-4,b1+d1%9-4,b0+d0%9-4+d2%4,b1+d1%9-4+d3%4,m,m+d5%(6-m),?_,⟨by lia,by lia,?_⟩,by lia,?_⟩
 ·unfold AL
  refine(au (jP (d:=.int (b0+d0%9-4)) ?_)).trans ?_
  ·refine(cM (x:=.int (b0+d0%9)) (y:=.int 4) ((cM (x:=.int b0) (y:=.int (d0%9)) rfl ((cM (x:=.int d0) (y:=.int 9) ((cM (y:=.int 0) rfl rfl).trans w0) rfl).trans rfl)).trans rfl) rfl).trans rfl
  refine(au (jP (d:=.int (b1+d1%9-4)) ?_)).trans ?_
  ·refine(cM (x:=.int (b1+d1%9)) (y:=.int 4) ((cM (x:=.int b1) (y:=.int (d1%9)) rfl ((cM (x:=.int d1) (y:=.int 9) ((cM (y:=.int 1) rfl rfl).trans w1) rfl).trans rfl)).trans rfl) rfl).trans rfl
  refine(au (jP (d:=.int m) ((cM (x:=.int d4) (y:=.int 6) ((cM (y:=.int 4) rfl rfl).trans w4) rfl).trans rfl))).trans ?_;refine ja ?_;unfold gq aj
  rw[cM (op:=bq) (fa:=ai 2) (x:=.int (b0+d0%9-4)) (y:=.int (d2%4)) rfl ((cM (x:=.int d2) (y:=.int 4) ((cM (y:=.int 2) rfl rfl).trans w2) rfl).trans rfl),
   cM (op:=bq) (fa:=ai 3) (x:=.int (b1+d1%9-4)) (y:=.int (d3%4)) rfl ((cM (x:=.int d3) (y:=.int 4) ((cM (y:=.int 3) rfl rfl).trans w3) rfl).trans rfl),
   cM (op:=bq) (fa:=ai 4) (x:=.int m) (y:=.int (d5%(6-m))) rfl ((cM (x:=.int d5) (y:=.int (6-m)) ((cM (y:=.int 5) rfl rfl).trans w5) rfl).trans (yX (by lia)))]
  rfl
 ·have hm:m=d4%6:=rfl
  have:=Int.emod_nonneg d5 (show 6-m≠0 by lia)
  lia
 ·have hm:m=d4%6:=rfl
  have:=Int.emod_lt_of_pos d5 (show 0<6-m by lia)
  lia
theorem aK{op:D->D->Option D}{fa fb:Ev->Option D}{ε:Ev}{x y z:D}(h1:fa ε=some x)(h2:fb ε=some y)(h3:op x y=some z):e2 op fa fb ε=some z:=(cM h1 h2).trans h3
theorem aY{f:Ev->Option D}{g:Ev->Option (List D)}{ε:Ev}{x:D}{xs:List D}(h1:f ε=some x)(h2:g ε=some xs):aj f g ε=some (x::xs):=by unfold aj;rw[h1,h2];rfl
theorem eM{g:Ev->Option (List D)}{ε:Ev}{ds:List D}(h1:g ε=some ds)(h2:ds.length<=1000):gq g ε=some (.tup ds):=by unfold gq;rw[h1];show(if ds.length<=1000 then some (D.tup ds) else none)=_;rw[if_pos h2]
theorem nW{op:D->D->Option D}{fa fb:Ev->Option D}{ε:Ev}{x y:D}{b:Bool}(h1:fa ε=some x)(h2:fb ε=some y)(h3:op x y=some (.bl b)):aX op fa fb ε=some b:=by unfold aX;rw[aK h1 h2 h3];rfl
theorem rF{F:List D->Option D}{g:Ev->Option (List D)}{ε:Ev}{b:Bool}(h:bt F g ε=some (.bl b)):gI (bt F g) ε=some b:=by unfold gI;rw[h];rfl
theorem rR{α:Type}{g:D->Ev->Option Ev}{ft:Ev->Option Bool}{fe:Ev->Option D}(P:Ev->Prop)(enc:α->D)(p:α->Bool)(h:α->D):∀(xs:List α),(∀x∈xs,∀ε,P ε->∃ε1,g (enc x) ε=some ε1/\P ε1/\ft ε1=some (p x)/\(p x=true->fe ε1=some (h x)))->
  ∀ε,P ε->lcD g ft fe (xs.map enc) ε=some ((xs.filter p).map h)
 |[],_,ε,_=>rfl
 |x::xs,st,ε,hp=>by
  obtain⟨ε1,e1,p1,e2,e3⟩:=st x (QV ..) ε hp;have ih:=rR P enc p h xs (λy hy=>st y (QG _ hy)) ε1 p1;show(g (enc x) ε).bind _=_;rw[e1];show(ft ε1).bind _=_;rw[e2];show(if p x=true then _ else _)=_;cases hx:p x with
  |true=>
   rw[if_pos rfl,e3 hx];show(lcD g ft fe (xs.map enc) ε1).bind _=_;rw[ih,List.filter_cons_of_pos (by simpa using hx)];rfl
  |false=>
   rw[if_neg Qo,ih,List.filter_cons_of_neg (by simp[hx])]
theorem vX{α:Type}{g:D->Ev->Option Ev}{fe:Ev->Option D}(P:Ev->Prop)(enc:α->D)(h:α->D)(xs:List α)(st:∀x∈xs,∀ε,P ε->∃ε1,g (enc x) ε=some ε1/\P ε1/\fe ε1=some (h x))(ε:Ev)(hp:P ε) :
  lcD g lB fe (xs.map enc) ε=some (xs.map h):=by
 rw[rR (ft:=lB) P enc (λ_=>true) h xs (λx hx ε hp=>let⟨ε1,a,b,c⟩:=st x hx ε hp;⟨ε1,a,b,rfl,λ_=>c⟩) ε hp,List.filter_eq_self.mpr λ_ _=>rfl]
theorem r_{α:Type}(l:List α):l=[]\/∃r a,l=r++[a]:=by
 cases h:l.reverse with
 |nil=>exact .inl (by simpa using h)
 |cons a r=>exact .inr ⟨r.reverse,a,by rw[<-List.reverse_reverse l,h,List.reverse_cons]⟩
theorem wG{i:Nat}{f:Ev->Option (List D)}{ε:Ev}{ds:List D}(h:f ε=some ds):kM i f ε=some (.nx (ε.set i (.own ds))):=by unfold kM;rw[h];rfl
theorem zG{fi:Ev->Option (List D)}{n:Nat}{ix:List Nat}{g:D->Ev->Option Ev}{ft:Ev->Option Bool}{fe:Ev->Option D}{ε:Ev}{ds rs:List D}(h:fi ε=some ds)(hl:ds.length<1000000)(h2:lcD g ft fe ds (prE n ix ε)=some rs):eLC fi n ix g ft fe ε=some rs:=(tQ h hl).trans h2
end Dn
namespace RW2
open PySem PyProof.Rows PySem.W L2
theorem xD:entryFor table "dict.update.loop" = some Builtin.«dict.update.loop»:=entryFor_of_tree (by kernel_rfl)
theorem rW:plainId "dict.update.loop" = true:=by decide +kernel
abbrev Tk(prog:Qq)(w:Qw):=tupleKind (bZ prog w)
abbrev PsL:=List (List L2.Key×Addr×Qa)
def et(ps:PsL):PsL:=ps.foldl (λxs p=>storedH xs p.1 p.2.1 p.2.2) []
theorem ir(ps:PsL)(p:List L2.Key×Addr×Qa):et (ps++[p])=storedH (et ps) p.1 p.2.1 p.2.2:=by unfold et;rw[List.foldl_append];rfl
theorem qL{xs:PsL}{k:List L2.Key}{a:Addr}{v:Qa}{x:List L2.Key×Addr×Qa}(h:x∈storedH xs k a v):(∃y∈xs,x.1=y.1/\x.2.1=y.2.1)\/(x.1=k/\x.2.1=a):=by
 unfold storedH at h;split at h
 ·obtain⟨y0,hy,rfl⟩:=Zi.mp h
  refine .inl ⟨y0,hy,?_⟩;unfold putAt;split<;>exact⟨rfl,rfl⟩
 ·rcases Q8.mp h with h5 | h5
  ·exact .inl ⟨x,h5,rfl,rfl⟩
  ·rw[QW.mp h5];exact .inr ⟨rfl,rfl⟩
theorem ll:∀(n:Nat) (ps:PsL),ps.length=n->∀x∈et ps,∃p∈ps,x.1=p.1/\x.2.1=p.2.1
 |0,ps,hn,x,h=>by
  have:ps=[]:=List.eq_nil_of_length_eq_zero hn;subst this;cases h
 |n+1,ps,hn,x,h=>by
  rcases Dn.r_ ps with rfl | ⟨r,p,rfl⟩
  ·cases h
  ·rw[ir] at h
   rcases qL h with⟨y,hy,e1,e2⟩ | ⟨e1,e2⟩
   ·obtain⟨q,hq,f1,f2⟩:=ll n r (by simpa using hn) y hy
    exact⟨q,Jo _ hq,e1.trans f1,e2.trans f2⟩
   ·exact⟨p,by simp,e1,e2⟩
theorem qP(xs:PsL)(k:List L2.Key)(a:Addr)(v:Qa):(storedH xs k a v).length<=xs.length+1:=by
 unfold storedH;split<;>simp
theorem lQ:∀(n:Nat) (ps:PsL),ps.length=n->(et ps).length<=n
 |0,ps,hn=>by
  have:ps=[]:=List.eq_nil_of_length_eq_zero hn;subst this;exact Qi _
 |n+1,ps,hn=>by
  rcases Dn.r_ ps with rfl | ⟨r,p,rfl⟩
  ·simp at hn
  ·rw[ir]
   have:=lQ n r (by simpa using hn);have:=qP (et r) p.1 p.2.1 p.2.2
   lia
section
variable{prog:Qq}{w:Qw}{A:QC}{E:Qa->Qd->Prop}{s:Qd}
theorem ve{h g:Heap}{k:List L2.Key}{a:Addr}(x:(Tk prog w).is h k a)(kp:Dn.Kp h g):(Tk prog w).is g k a:=let⟨o,its,n,e,r⟩:=x;⟨o,its,n,kp _ _ e,r⟩
theorem lW{h g:Heap}{d:Addr}{xs:PsL}(x:h.DictOfH (Tk prog w) d xs)(same:∀o,h.get? d=some o->g.get? d=some o)(ks:∀y∈xs,(Tk prog w).is g y.1 y.2.1):g.DictOfH (Tk prog w) d xs:=
 let⟨o,es,ep,e,c,dd,el,_,nd⟩:=x;⟨o,es,ep,same o e,c,dd,el,ks,nd⟩
theorem uJ{R:Result->Qd->Prop}{It d:Addr}{h0:Heap}{ps:PsL}{fp wr:List Addr}{Pv:Nat->Qa->Prop}{St:Nat->Heap->Prop}(W:Walks prog w A.in1 It fp wr ps.length Pv St)(dn:d∉fp)(hu:A.units+1<cLine)
  (hp:∀i v,Pv i v->∃(a:Addr) (p:List L2.Key×Addr×Qa),v=.ref a/\ps[i]?=some p/\IsTup h0 a #[.ref p.2.1,p.2.2]) (hk:∀p∈ps,(Tk prog w).is h0 p.1 p.2.1) (d0:h0.get? d=none) (w0:∀b∈wr,h0.get? b=none) (hz:ps.length<Qj) :
  ∀(k i:Nat) (t:Qd) (tok:Tok),i+k=ps.length->St i t.heap->Dn.Kp h0 t.heap->t.heap.DictOfH (Tk prog w) d (et (ps.take i))->
   (∀g tk,Dn.Kp h0 g->g.DictOfH (Tk prog w) d (et ps)->R (.ok (.ret .none)) { t with heap:=g,toks:=tk })->codeAny (Qh prog w) A (.builtin "dict.update.loop" ⟨[.ref d,.ref It,.int i tok,.none],[]⟩) R t:=by
 have dw:d∉wr:=λz=>dn (W.sub _ z);have step:∀{t:Qd} {g:Heap},Dn.Kp h0 t.heap->(∀b o,b∉wr->t.heap.get? b=some o->g.get? b=some o)->Dn.Kp h0 g:=λ{t g} kp kept b o e=>kept b o (λz=>by rw[w0 b z] at e;cases e) (kp b o e)
 have keys:∀{g:Heap} (i:Nat),Dn.Kp h0 g->∀y∈et (ps.take i),(Tk prog w).is g y.1 y.2.1:=λ{g} i kp y hy=>by
  obtain⟨p,hp',e1,e2⟩:=ll _ _ rfl y hy;rw[e1,e2];exact ve (hk p (List.mem_of_mem_take hp')) kp
 intro k
 induction k with
 |zero=>
  intro i t tok ei st kp hd want;refine codeAny_builtin xD ?_;rw[Around.under_plainId rW _];show Qf _ A.in1 (pyNext (.ref It)>>=λ_=>_) _ _ t;have ei':i=ps.length:=by lia
  subst ei';refine Qc (W.done t _ _ st λg tk kept=>?_);show Qf _ _ (Builtin.Dict.addKeywords d []>>=λ_=>ret .none) _ _ _;refine Qc (Qg (Qg (want g tk (step kp kept) ?_)));rw[List.take_length] at hd;have ks:=keys (g:=g) ps.length (step kp kept);rw[List.take_length] at ks;exact lW hd (λo e=>kept d o dw e) ks
 |succ k ih=>
  intro i t tok ei st kp hd want;refine codeAny_builtin xD ?_;rw[Around.under_plainId rW _];show Qf _ A.in1 (pyNext (.ref It)>>=λ_=>_) _ _ t;have lt:i<ps.length:=by lia
  refine Qc (W.item i t _ _ lt st λv g tk hpv st1 kept=>?_);obtain⟨a,p,rfl,hpi,tu⟩:=hp i v hpv;have kp1:=step kp kept;have hd1:g.DictOfH (Tk prog w) d (et (ps.take i)):=lW hd (λo e=>kept d o dw e) (keys i kp1);obtain⟨o,o1,o2,n,o3⟩:=tu;have ty:({ t with heap:=g,toks:=tk }:Qd).TypeIs (.ref a) "tuple":=⟨o,kp1 _ _ o1,o2⟩;dsimp only;refine Qc (QZ (Qc (wpAny_tryCatch ?_)));unfold Builtin.Dict.pairItems;refine Qc (wpAny_typeOf ty ?_);rw[if_pos (by decide)];refine Qc (JC (kp1 _ _ o1) o3 (Qg ?_));show Qf _ _ (J9 [Ql p.2.1,p.2.2] (dictSet d (.ref p.2.1) p.2.2)) _ _ _
  have hz1:(et (ps.take i)).length<=Qj:=by
   have:=lQ _ (ps.take i) rfl;rw[Zc] at this
   lia
  refine QZ (wpAny_dictSet_heap (knd:=Tk prog w) (hsz:=hz1) (show A.in1.units<cLine from hu) (ve (hk p (ZE hpi)) kp1) hd1 λg2 hd2 same=>?_);have kp2:Dn.Kp h0 g2:=λb o e=>(same.2 b (λz=>by rw[z,d0] at e;cases e)).trans (kp1 b o e);refine Qg ⟨plainId_quiet rW _,ih (i+1) _ _ (by lia) (W.frame _ _ _ st1 λb q o e=>(same.2 b (λz=>dn (by rw[<-z];exact q))).trans e) kp2 ?_ λg3 tk3 kp3 hd3=>want g3 tk3 kp3 hd3⟩;rw[List.take_add_one,hpi];show g2.DictOfH (Tk prog w) d (et (ps.take i++[p]));rw[ir];exact hd2
theorem vU{l:Addr}{its:List Qa}{ps:PsL}{Q:Qa->Qd->Prop}(x:PlainL s.heap l its.toArray)(hA:A.handled=none)(hu:A.units+2<cLine)(len:its.length=ps.length)(hz:ps.length<Qj)
  (hp:∀(i:Nat) v,its[i]?=some v->∃(a:Addr) (p:List L2.Key×Addr×Qa),v=.ref a/\ps[i]?=some p/\IsTup s.heap a #[.ref p.2.1,p.2.2]) (hk:∀p∈ps,(Tk prog w).is s.heap p.1 p.2.1)
  (h:∀g tk,Dn.Kp s.heap g->g.DictOfH (Tk prog w) s.heap.objs.size (et ps)->Q (.ref s.heap.objs.size) { s with heap:=g,toks:=tk }):Qf (Qh prog w) A (call (.type "dict") [.ref l]) Q E s:=by
 refine callType_codes (Q₁:=λob s₁=>ob=.ref s.heap.objs.size/\s₁={ s with heap:=s.heap.push { cls:=.type "dict",data:=.dict #[] } }) PySem.F.kt_called_dict (PySem.F.kt_typeCall_dict_1 _) PySem.F.entry_dict_init (kt_code_dict_new _ ⟨rfl,rfl⟩) ?_;rintro ob s₁ ⟨rfl,rfl⟩;have new0:(s.heap.push { cls:=.type "dict",data:=.dict #[] }).DictOfH (Tk prog w) s.heap.objs.size []:=⟨_,#[],_,Qp _ rfl,⟨rfl,rfl,rfl⟩,rfl,rfl,(λy hy=>nomatch hy),Zx⟩;have kp0:Dn.Kp s.heap (s.heap.push { cls:=.type "dict",data:=.dict #[] }):=λb o e=>Qe _ e;have ty:({ s with heap:=s.heap.push { cls:=.type "dict",data:=.dict #[] } }:Qd).TypeIs (.ref s.heap.objs.size) "dict":=⟨_,Qp _ rfl,rfl⟩;refine⟨ty,PySem.F.args_dict_init_2 _ _,?_⟩;unfold Builtin.«dict.__init__» Builtin.Dict.selfAndRest;refine Qc (Qc (wpAny_notOrdered_dict ty ?_));show Qf _ _ (pure (s.heap.objs.size,[Ql l])) (λ_ _=>_) _ _;refine Qg ?_;show Qf _ _ (Zl "dict.__init__" s.heap.objs.size (.ref l) [] .none) (λ_ _=>_) _ _;unfold Zl;have xl:=x.keeps (h':=s.heap.push { cls:=.type "dict",data:=.dict #[] }) kp0;refine Qc (wpAny_typeOf (T:="list") (let⟨o,ho,hc,_⟩:=xl.isList;⟨o,ho,hc⟩) ?_);rw[if_pos (by decide)];refine Qc (sF (s:={ s with heap:=s.heap.push { cls:=.type "dict",data:=.dict #[] } }) xl (show A.in1.in1.handled=none from hA) λh1 tk1 kp1=>?_);rw[if_pos (show(none:Option Qa).isNone=true from rfl)];refine Qc (wpAny_rule ?_);have x1:PlainL h1 l its.toArray:=xl.keeps kp1;have lt1:l<h1.objs.size:=x1.lt;have kp01:Dn.Kp s.heap h1:=λb o e=>kp1 b o (kp0 b o e);have dl:s.heap.objs.size<h1.objs.size:=Qk (kp1 _ _ (Qp _ rfl));refine Qc (wpAny_pyIter_list (s:={ s with heap:=h1,toks:=tk1 }) x1.isList (Qg ⟨plainId_quiet rW _,?_⟩));have W:=Walks.list (prog:=prog) (w:=w) (A:=A.in1.in1) (show A.in1.in1.handled=none from hA) h1.objs.size l (Qz lt1) its.toArray;have sz:its.toArray.size=ps.length:=by simp[len]
 rw[sz] at W;have lts:l<s.heap.objs.size:=x.lt;refine uJ (A:=A.in1) (h0:=s.heap) (ps:=ps) W ?_ (show A.units+1+1<cLine by lia) (λi v hv=>hp i v (by simpa using hv)) hk (J1 (Qi _)) (λb hb=>?_) hz ps.length 0 _ _ (Nat.zero_add _) ?_ ?_ ?_ λg tk kp hd=>⟨rfl,h g tk kp hd⟩
 ·simp only[Qm,Qt,or_false,not_or]
  exact⟨Qz dl,Nat.ne_of_gt lts⟩
 ·rw[QW.mp hb];exact J1 (Nat.le_of_lt dl)
 ·exact⟨⟨_,Qp _ rfl,rfl,rfl⟩,x1.isList.push _⟩
 ·exact λb o e=>Qe _ (kp01 b o e)
 ·exact lW new0 (λo e=>Qe _ (kp1 _ _ e)) λy hy=>by cases hy
end
open PySem.Spec
section
variable{prog:Qq}{w:Qw}{A:QC}{E:Qa->Qd->Prop}{s:Qd}
theorem qB{Kt:Type}[DecidableEq Kt]{knd:KeyKind prog w Kt}{a:Addr}{more:List (Kt×Qa)}{Q:Qa->Qd->Prop}(ha:s.heap.DictOf knd a more)(hs:(a==JD)=false)(hz:more.length<=Qj)
  (h:∀g,Dn.Kp s.heap g->g.DictOf knd s.heap.objs.size more->Q (.ref s.heap.objs.size) { s with heap:=g }):Qf (Qh prog w) A (call (.type "dict") [.ref a]) Q E s:=by
 refine callType_codes (Q₁:=λob s₁=>ob=.ref s.heap.objs.size/\s₁={ s with heap:=s.heap.push { cls:=.type "dict",data:=.dict #[] } }) PySem.F.kt_called_dict (PySem.F.kt_typeCall_dict_1 _) PySem.F.entry_dict_init (kt_code_dict_new _ ⟨rfl,rfl⟩) ?_;rintro ob s₁ ⟨rfl,rfl⟩;have new0:(s.heap.push { cls:=.type "dict",data:=.dict #[] }).DictOf knd s.heap.objs.size []:=⟨_,#[],_,Qp _ rfl,⟨rfl,rfl,rfl⟩,rfl,(λe he=>nomatch he),.nil,Zx⟩;have lt:a<s.heap.objs.size:=let⟨_,_,_,e,_⟩:=id ha;Qk e;have ha1:=ha.push { cls:=.type "dict",data:=.dict #[] };have ty:=Heap.DictOf.typeIs (s:={ s with heap:=s.heap.push { cls:=.type "dict",data:=.dict #[] } }) new0;have tya:=Heap.DictOf.typeIs (s:={ s with heap:=s.heap.push { cls:=.type "dict",data:=.dict #[] } }) ha1;refine⟨ty,PySem.F.args_dict_init_2 _ _,?_⟩;unfold Builtin.«dict.__init__» Builtin.Dict.selfAndRest;refine Qc (Qc (wpAny_notOrdered_dict ty ?_));show Qf _ _ (pure (s.heap.objs.size,[Ql a])) (λ_ _=>_) _ _;refine Qg ?_;show Qf _ _ (Zl "dict.__init__" s.heap.objs.size (.ref a) [] .none) (λ_ _=>_) _ _;unfold Zl Builtin.Dict.merge Builtin.Dict.readDirectly;refine Qc (wpAny_typeOf tya ?_);rw[if_neg (by decide)];refine Qc (Qc (Qc (wpAny_isInstance tya isSubtype_dict_dict ?_)));rw[if_neg (by decide)];refine Qc (wpAny_specialOf tya PySem.F.slot_dict_iter.lookup (Qg ?_));rw[if_pos (beq_self_eq_true _)];refine Qc (Qg (wpAny_mergeDict (hsz:=by simpa using hz) (Nat.ne_of_gt lt) hs new0 ha1 λg d1 _ d3=>?_));have nd:(more.map (·.1)).Nodup:=let⟨_,_,_,_,_,_,_,_,n⟩:=ha;n;rw[merged_nil_of_nodup more nd] at d1;show Qf (Qh prog w) _ (Builtin.Dict.addKeywords s.heap.objs.size []>>=_) _ _ _;refine Qc (Qg (Qg ⟨rfl,h g (λb o e=>?_) d1⟩));exact(d3.2 b (Qz (Qk e))).trans (Qe _ e)
end
end RW2
namespace L2
open PySem PySem.Spec PyProof.Rows
theorem kO{X:Cx}:ie X (.type "dict") (λxs H Q=>∃p kvs,xs=[.ref p]/\Rd H p (.dK kvs)/\∀l,H l=none->Q (.ref l) (upd H l (.dK kvs))):=by
 rintro pins s σ H xs us Q I r ⟨p,kvs,rfl,rd,q⟩;obtain⟨u,rfl,rx⟩:=pA r;cases rx;obtain⟨hz,hs,vs,rel,dd⟩:=rG I.hok rd;refine RW2.qB dd hs (by rw[<-rel.length];exact hz) λg kp d=>?_;exact⟨.ref s.heap.objs.size,_,I.laid (t':=s.toks) (λb o e=>kp b o e) (Qi _) (qe hz (beq_eq_false_iff_ne.mpr (Ne.symm (Qz I.big))) rel d),rfl,q _ (I.hok.fresh (Qi _))⟩
end L2
namespace Dn
open PySem PySem.Spec PyProof.Rows L2
theorem dX(f:Nat->Int)(m j:Nat)(h:j<m):ixD (.lst (iL (bU f m))) (.int (j:Int))=some (.int (f j)):=
 rq (by unfold iL bU;rw[QK,QK,ZM h];rfl)
section
variable(f:Nat->Int)(b0 b1 hour:Int)
theorem oo:∀l:List Int,qX (iL l)=some (l.map V.int)
 |[]=>rfl
 |i::l=>by show(qX (iL l)).bind _=_;rw[oo l];rfl
end
end Dn
namespace Lw
open PySem PySem.Spec PyProof.Rows L2 Dn
def top(i:Nat):Stmt:=PySem.Challenge.pw_ballastbook_k44_winds_and_shuttings_told.main.body.getD i (.Pass ⟨0,0,0,0⟩)
abbrev s_(Z:Wq):Prop:=∃C bm,OkE Z "BadBox" C bm
abbrev jR(Z:Wq):Prop:=∃C bm,OkE Z "BadHeight" C bm
abbrev qJ(Z:Wq):Prop:=∃C bm,OkE Z "BadHour" C bm
abbrev qb(Z:Wq):Prop:=∃C bm,OkE Z "BadPlace" C bm
abbrev qr(Z:Wq):Prop:=∃C bm,OkE Z "BadWind" C bm
abbrev wL(Z:Wq):Prop:=∃C bm,OkE Z "Full" C bm
abbrev rD(Z:Wq):Prop:=∃C bm,OkE Z "Past" C bm
abbrev vD(Z:Wq):Prop:=∃C bm,OkE Z "Twice" C bm
abbrev lF:List Str:=["_law_script","_law_many","_law_row","_law_seed","_law_cell","_law_rest","_law_k"]
abbrev dO:List Str:=["_law_script","_law_many"]
def jO:Ev->Option Fl:=(sIf (aX gtI (ai 5) (eC (.int 0))) (aT (jg 2 (e2 aW (ai 5) (eC (.int 1000)))) (cG 5 (e2 ky (ai 5) (eC (.int 1000))))) ck)
def jH:Ev->Option Fl:=(aT (cG 3 (e2 aW (e2 bq (e2 bq (e2 cE (ai 3) (eC (.int 69621))) (e2 aW (ai 4) (eC (.int 999983)))) (eC (.int 7))) (eC (.int 2147483629)))) (aT (cG 5 (e2 cZ (ai 4) (e2 pX (eC (.int 10)) (eC (.int 18))))) (aT (sIf (aX ltI (ai 5) (eC (.int 0))) (jg 2 (e2 aW (ai 4) (eC (.int 1000)))) ck) (ig (iW (eC (.int 60))) (az 6) (jO)))))
def jT:Ev->Option Fl:=(sIf (aX ltI (eQ fU (ai 2)) (ai 1)) (aT (cG 3 (e2 aW (e2 bq (e2 bq (e2 bq (e2 pX (ai 3) (eC (.int 3))) (e2 cE (eC (.int 40692)) (ai 3))) (e2 cE (eC (.int 7)) (ai 6))) (eC (.int 5))) (eC (.int 2147483629)))) (jg 2 (e2 aW (e2 ky (ai 3) (eC (.int 1009))) (eC (.int 1000))))) ck)
def iG:Ev->Option Fl:=(aT (kM 2 (kh aZ)) (aT (cG 3 (eC (.int 29))) (aT (ig (mG (eF (eSl (ai 0) eP (bP (eC (.int 63)))))) (az 4) (jH)) (aT (ig (iW (aM 1)) (az 6) (jT)) (dm (eF (eSl (ai 2) eP (bP (ai 1)))))))))
def fH:List D->Option D:=fnD lF dO iG
abbrev iK(Z:Wq):Prop:=OkD Z "_law_numbers" (top 83) dO 1 fH
abbrev kA:List Str:=["_law_found","_law_due"]
abbrev cQ:List Str:=["_law_found","_law_due"]
def ko(rec:List D->Option D):Ev->Option Fl:=(aT (sIf (g_ (gI (eR (eB "list") (ai 1))) (gI (eR (eB "tuple") (ai 1)))) (aT (sIf (g_ (aX oq (eR (eB "list") (ai 0)) (eR (eB "list") (ai 1))) (aX oq (eR (eB "tuple") (ai 0)) (eR (eB "tuple") (ai 1)))) (dm (eC (.bl false))) ck) (dm (oN (e2 kd (eQ fU (ai 0)) (eQ fU (ai 1))) (bt o_ (aj (eF (eLC (tf (aj (aM 0) (aj (aM 1) aZ))) 2 [] (i8 2 (aF (az 0) (aF (az 1) cI))) lB (bt rec (aj (aM 0) (aj (aM 1) aZ))))) aZ))))) ck) (aT (sIf (g_ (aX (isD false) (ai 0) (eC .non)) (aX (isD false) (ai 1) (eC .non))) (dm (oN (e2 (isD false) (ai 0) (eC .non)) (e2 (isD false) (ai 1) (eC .non)))) ck) (aT (sIf (g_ (aX oq (eR (eB "bool") (ai 0)) (eR (eB "bool") (ai 1))) (aX oq (eR (eB "int") (ai 0)) (eR (eB "int") (ai 1)))) (dm (eC (.bl false))) ck) (dm (e2 kd (ai 0) (ai 1))))))
def d7:Nat->List D->Option D
 |0=>λ_=>none
 |n+1=>fnD kA cQ (ko (d7 n))
def cX:List D->Option D:=d7 5
abbrev iF(Z:Wq):Prop:=OkD Z "_law_same" (top 84) cQ 5 cX
abbrev pw:List Str:=["_law_d"]
abbrev gf:List Str:=["_law_d"]
def iw:Ev->Option Fl:=(aT (sIf (aX kd (e2 aW (e2 ixD (ai 0) (eC (.int 0))) (eC (.int 5))) (eC (.int 1))) (dm (gq (aj (e2 cZ (e2 ixD (ai 0) (eC (.int 1))) (eC (.int 500))) (aj (e2 cZ (e2 ixD (ai 0) (eC (.int 2))) (eC (.int 500))) aZ)))) ck) (aT (sIf (aX kd (e2 aW (e2 ixD (ai 0) (eC (.int 0))) (eC (.int 5))) (eC (.int 2))) (dm (gq (aj (e2 cE (e2 cZ (e2 aW (e2 ixD (ai 0) (eC (.int 1))) (eC (.int 3))) (eC (.int 1))) (eC (.int 985))) (aj (e2 cE (e2 cZ (e2 aW (e2 ixD (ai 0) (eC (.int 2))) (eC (.int 3))) (eC (.int 1))) (eC (.int 985))) aZ)))) ck) (dm (gq (aj (eC (.int 0)) (aj (eC (.int 0)) aZ))))))
def ip:List D->Option D:=fnD pw gf iw
abbrev ki(Z:Wq):Prop:=OkD Z "_law_base" (top 85) gf 1 ip
abbrev qU:List Str:=["_law_d","_law_base_here","_law_x","_law_y","_law_low"]
abbrev gY:List Str:=["_law_d","_law_base_here"]
def qQ:Ev->Option Fl:=(aT (cG 2 (e2 cZ (e2 bq (e2 ixD (ai 1) (eC (.int 0))) (e2 aW (e2 ixD (ai 0) (eC (.int 0))) (eC (.int 9)))) (eC (.int 4)))) (aT (cG 3 (e2 cZ (e2 bq (e2 ixD (ai 1) (eC (.int 1))) (e2 aW (e2 ixD (ai 0) (eC (.int 1))) (eC (.int 9)))) (eC (.int 4)))) (aT (cG 4 (e2 aW (e2 ixD (ai 0) (eC (.int 4))) (eC (.int 6)))) (dm (gq (aj (aM 2) (aj (aM 3) (aj (e2 bq (ai 2) (e2 aW (e2 ixD (ai 0) (eC (.int 2))) (eC (.int 4)))) (aj (e2 bq (ai 3) (e2 aW (e2 ixD (ai 0) (eC (.int 3))) (eC (.int 4)))) (aj (aM 4) (aj (e2 bq (ai 4) (e2 aW (e2 ixD (ai 0) (eC (.int 5))) (e2 cZ (eC (.int 6)) (ai 4)))) aZ)))))))))))
def ju:List D->Option D:=fnD qU gY qQ
abbrev lD(Z:Wq):Prop:=OkD Z "_law_box" (top 86) gY 1 ju
abbrev lV:List Str:=["_law_d","_law_base_here","_law_hills","_law_j","_law_cool"]
abbrev dP:List Str:=["_law_d","_law_base_here"]
def cK:Ev->Option Fl:=(jg 2 (gq (aj (e2 cZ (e2 bq (e2 ixD (ai 1) (eC (.int 0))) (e2 aW (e2 ixD (ai 0) (e2 bq (e2 cE (eC (.int 3)) (ai 3)) (eC (.int 1)))) (eC (.int 11)))) (eC (.int 5))) (aj (e2 cZ (e2 bq (e2 ixD (ai 1) (eC (.int 1))) (e2 aW (e2 ixD (ai 0) (e2 bq (e2 cE (eC (.int 3)) (ai 3)) (eC (.int 2)))) (eC (.int 11)))) (eC (.int 5))) (aj (e2 bq (eC (.int 1)) (e2 aW (e2 ixD (ai 0) (e2 bq (e2 cE (eC (.int 3)) (ai 3)) (eC (.int 3)))) (eC (.int 5)))) aZ)))))
def cL:Ev->Option Fl:=(sIf (aX (inD true) (e2 aW (e2 ixD (ai 0) (e2 bq (eC (.int 16)) (ai 3))) (eC (.int 24))) (ai 4)) (jg 4 (e2 aW (e2 ixD (ai 0) (e2 bq (eC (.int 16)) (ai 3))) (eC (.int 24)))) ck)
def b_:Ev->Option Fl:=(jg 2 (gq (aj (e2 cZ (e2 bq (e2 ixD (ai 1) (eC (.int 0))) (e2 aW (e2 bq (e2 cE (eC (.int 10)) (ai 3)) (e2 ixD (ai 0) (eC (.int 22)))) (eC (.int 27)))) (eC (.int 13))) (aj (e2 cZ (e2 bq (e2 ixD (ai 1) (eC (.int 1))) (e2 aW (e2 bq (e2 cE (eC (.int 11)) (ai 3)) (e2 ixD (ai 0) (eC (.int 23)))) (eC (.int 27)))) (eC (.int 13))) (aj (e2 bq (eC (.int 1)) (e2 aW (ai 3) (eC (.int 5)))) aZ)))))
def fE:Ev->Option Fl:=(aT (kM 2 (kh aZ)) (aT (ig (iW (e2 aW (e2 ixD (ai 0) (eC (.int 0))) (eC (.int 6)))) (az 3) (cK)) (aT (kM 4 (kh aZ)) (aT (ig (iW (e2 aW (e2 ky (e2 ixD (ai 0) (eC (.int 0))) (eC (.int 6))) (eC (.int 6)))) (az 3) (cL)) (aT (sIf (aX kd (e2 aW (e2 ixD (ai 0) (eC (.int 24))) (eC (.int 9))) (eC (.int 1))) (kM 4 (eLC (iW (eC (.int 24))) 1 [0] (az 0) lB (e2 aW (e2 bq (e2 cE (eC (.int 7)) (ai 0)) (e2 ixD (ai 1) (eC (.int 23)))) (eC (.int 24))))) ck) (aT (sIf (aX ltI (e2 aW (e2 ixD (ai 0) (eC (.int 24))) (eC (.int 9))) (eC (.int 2))) (ig (iW (e2 cZ (eC (.int 20)) (eQ fU (ai 2)))) (az 3) (b_)) ck) (sFz 4 (sFz 2 (dm (gq (aj (aM 2) (aj (aM 4) aZ))))))))))))
def cU:List D->Option D:=fnD lV dP fE
abbrev iy(Z:Wq):Prop:=OkD Z "_law_opening" (top 93) dP 1 cU
abbrev jx:List Str:=["_law_x","_law_y"]
abbrev gZ:List Str:=["_law_x","_law_y"]
def qy:Ev->Option Fl:=(dm (eOr (e2 ltI (bt mY (aj (aM 0) (aj (aM 1) aZ))) (ij (eC (.int 999)))) (e2 gtI (bt pO (aj (aM 0) (aj (aM 1) aZ))) (eC (.int 999)))))
def ee:List D->Option D:=fnD jx gZ qy
abbrev ly(Z:Wq):Prop:=OkD Z "_law_off" (top 91) gZ 1 ee
abbrev iC:List Str:=["_law_box_here","_law_x1","_law_y1","_law_x2","_law_y2","_law_low","_law_high"]
abbrev dZ:List Str:=["_law_box_here"]
def lh:Ev->Option Fl:=(aT (my (aM 0) (jn 6 (aF (az 1) (aF (az 2) (aF (az 3) (aF (az 4) (aF (az 5) (aF (az 6) cI)))))))) (aT (sIf (g_ (gI (bt ee (aj (aM 1) (aj (aM 2) aZ)))) (g_ (gI (bt ee (aj (aM 3) (aj (aM 4) aZ)))) (g_ (aX gtI (ai 1) (ai 3)) (aX gtI (ai 2) (ai 4))))) (dm (eC (.bl true))) ck) (dm (eOr (e2 ltI (ai 5) (eC (.int 0))) (eOr (e2 gtI (ai 6) (eC (.int 5))) (e2 gtI (ai 5) (ai 6)))))))
def cT:List D->Option D:=fnD iC dZ lh
abbrev iZ(Z:Wq):Prop:=OkD Z "_law_bad_box" (top 92) dZ 2 cT
abbrev eI:List Str:=["x","y"]
abbrev eK:List Str:=["x","y"]
def mB:Ev->Option Fl:=(sIf (dj (kG (gu leI leI (ij (eC (.int 999))) (ai 0) (eC (.int 999))) (gu leI leI (ij (eC (.int 999))) (ai 1) (eC (.int 999))))) (dF "BadPlace") ck)
def gj:List D->Option Out:=fnX eI eK mB
abbrev jj(Z:Wq):Prop:=OkX Z "check_place" (top 67) eK 3 gj
abbrev jK:List Str:=["hill","x","y","top"]
abbrev fg:List Str:=["hill"]
def oj:Ev->Option Fl:=(aT (my (aM 0) (jn 3 (aF (az 1) (aF (az 2) (aF (az 3) cI))))) (aT (sXe gj (aj (aM 1) (aj (aM 2) aZ))) (sIf (dj (gu leI leI (eC (.int 1)) (ai 3) (eC (.int 5)))) (dF "BadHeight") ck)))
def hZ:List D->Option Out:=fnX jK fg oj
abbrev jC(Z:Wq):Prop:=OkX Z "check_hill" (top 76) fg 4 hZ
abbrev eW:List Str:=["hour","first","last"]
abbrev dE:List Str:=["hour","first","last"]
def kK:Ev->Option Fl:=(sIf (dj (gu leI leI (ai 1) (ai 0) (ai 2))) (dF "BadHour") ck)
def bT:List D->Option Out:=fnX eW dE kK
abbrev dG(Z:Wq):Prop:=OkX Z "check_between" (top 73) dE 3 bT
abbrev dD:List Str:=["hills","cool","hill","at","hour"]
abbrev dC:List Str:=["hills","cool"]
def cD:Ev->Option Fl:=(sXe hZ (aj (aM 2) aZ))
def cA:Ev->Option Fl:=(aT (sXe bT (aj (aM 4) (aj (eC (.int 0)) (aj (e2 cZ (eC (.int 24)) (eC (.int 1))) aZ)))) (sIf (aX (inD false) (ai 4) (eF (eSl (ai 1) eP (bP (ai 3))))) (dF "Twice") ck))
def ia:Ev->Option Fl:=(aT (sIf (g_ (aX gtI (eQ fU (ai 0)) (eC (.int 20))) (aX gtI (eQ fU (ai 1)) (eC (.int 24)))) (dF "Full") ck) (aT (ig (mG (aM 0)) (az 2) (cD)) (ig (oZ (aM 1)) (i8 2 (aF (az 3) (aF (az 4) cI))) (cA))))
def dB:List D->Option Out:=fnX dD dC ia
abbrev h_(Z:Wq):Prop:=OkX Z "check_opening" (top 77) dC 5 dB
abbrev i9:List Str:=["height"]
abbrev d9:List Str:=["height"]
def lT:Ev->Option Fl:=(sIf (dj (gu leI leI (eC (.int 0)) (ai 0) (eC (.int 5)))) (dF "BadHeight") ck)
def fV:List D->Option Out:=fnX i9 d9 lT
abbrev iP(Z:Wq):Prop:=OkX Z "check_height" (top 68) d9 3 fV
abbrev jS:List Str:=["now","wind","first","height","dx","dy"]
abbrev e_:List Str:=["now","wind"]
def nV:Ev->Option Fl:=(aT (my (aM 1) (jn 4 (aF (az 2) (aF (az 3) (aF (az 4) (aF (az 5) cI)))))) (aT (sXe bT (aj (aM 2) (aj (eC (.int 0)) (aj (e2 cZ (eC (.int 24)) (eC (.int 1))) aZ)))) (aT (sIf (aX ltI (ai 2) (ai 0)) (dF "Past") ck) (aT (sXe fV (aj (aM 3) aZ)) (sIf (dj (kG (gu leI leI (ij (eC (.int 2))) (ai 4) (eC (.int 2))) (gu leI leI (ij (eC (.int 2))) (ai 5) (eC (.int 2))))) (dF "BadWind") ck)))))
def eY:List D->Option Out:=fnX jS e_ nV
abbrev jF(Z:Wq):Prop:=OkX Z "check_wind" (top 74) e_ 4 eY
abbrev q_:List Str:=["box","x1","y1","x2","y2","low","high"]
abbrev gR:List Str:=["box"]
def qZ:Ev->Option Fl:=(aT (my (aM 0) (jn 6 (aF (az 1) (aF (az 2) (aF (az 3) (aF (az 4) (aF (az 5) (aF (az 6) cI)))))))) (dm (oN (sJ (ij (eC (.int 999))) (jk leI (ai 1) (jk leI (ai 3) (mT leI (eC (.int 999)))))) (oN (sJ (ij (eC (.int 999))) (jk leI (ai 2) (jk leI (ai 4) (mT leI (eC (.int 999)))))) (sJ (eC (.int 0)) (jk leI (ai 5) (jk leI (ai 6) (mT leI (eC (.int 5))))))))))
def hV:List D->Option D:=fnD q_ gR qZ
abbrev lC(Z:Wq):Prop:=OkD Z "good_box" (top 4) gR 1 hV
abbrev kE:List Str:=["box"]
abbrev f7:List Str:=["box"]
def pj:Ev->Option Fl:=(sIf (dj (gI (bt hV (aj (aM 0) aZ)))) (dF "BadBox") ck)
def iO:List D->Option Out:=fnX kE f7 pj
abbrev kr(Z:Wq):Prop:=OkX Z "check_box" (top 70) f7 3 iO
abbrev jI:List Str:=["now","box","first","last"]
abbrev fj:List Str:=["now","box","first","last"]
def oM:Ev->Option Fl:=(aT (sXe iO (aj (aM 1) aZ)) (aT (sXe bT (aj (aM 2) (aj (eC (.int 0)) (aj (eC (.int 24)) aZ)))) (aT (sXe bT (aj (aM 3) (aj (aM 2) (aj (eC (.int 24)) aZ)))) (sIf (aX leI (ai 2) (ai 0)) (dF "Past") ck))))
def fm:List D->Option Out:=fnX jI fj oM
abbrev jA(Z:Wq):Prop:=OkX Z "check_shut" (top 75) fj 4 fm
abbrev qc:List Str:=["_law_flags","_law_names"]
abbrev gi:List Str:=["_law_flags"]
def pS:Ev->Option Fl:=(aT (cG 1 (eF (kh (aj (eC (.str "BadName")) (aj (eC (.str "Taken")) (aj (eC (.str "NoBalloon")) (aj (eC (.str "BadHour")) (aj (eC (.str "Past")) (aj (eC (.str "Late")) (aj (eC (.str "BadPlace")) (aj (eC (.str "BadHeight")) (aj (eC (.str "BadLoad")) (aj (eC (.str "BadWind")) aZ))))))))))))) (aT (cG 1 (eF (zW (ai 1) (eF (kh (aj (eC (.str "BadBox")) (aj (eC (.str "BadOrder")) (aj (eC (.str "Twice")) (aj (eC (.str "NotAloft")) (aj (eC (.str "NotLost")) (aj (eC (.str "NotLow")) (aj (eC (.str "OutOfSight")) (aj (eC (.str "NoHold")) (aj (eC (.str "Full")) aZ)))))))))))))) (dm (e2 CatI.vJ (gq (aj (eC (.str "no")) aZ)) (eQ (λd=>u_ [d]) (eF (eLC (tf (aj (aM 1) (aj (aM 0) aZ))) 2 [] (i8 2 (aF (az 0) (aF (az 1) cI))) (gI (ai 1)) (aM 0))))))))
def km:List D->Option D:=fnD qc gi pS
abbrev kF(Z:Wq):Prop:=OkD Z "_law_only" (top 100) gi 1 km
abbrev lj:List Str:=["_law_call","_law_deed","_law_part"]
abbrev dR:List Str:=["_law_call"]
def jQ:Ev->Option Fl:=(sIf (gI (eR (eB "tuple") (ai 2))) (cG 1 (e2 ug (ai 1) (ai 2))) (cG 1 (e2 ug (ai 1) (gq (aj (aM 2) aZ)))))
def lU:Ev->Option Fl:=(aT (sIf (aX kd (e2 ixD (ai 0) (eC (.int 0))) (eC (.str "drift"))) (dm (gq (aj (eC (.str "drift")) (aj (eQ (λd=>u_ [d]) (e2 ixD (ai 0) (eC (.int 1)))) aZ)))) ck) (aT (cG 1 (gq aZ)) (aT (ig (um (aM 0)) (az 2) (jQ)) (dm (aM 1)))))
def lP:List D->Option D:=fnD lj dR lU
abbrev iU(Z:Wq):Prop:=OkD Z "_law_deed_of" (top 94) dR 1 lP
abbrev dI:List Str:=["_law_call","_law_d","_law_parts","_law_at","_law_some","_law_part","_law_k"]
abbrev f_:List Str:=["_law_call","_law_d"]
def dJ:Ev->Option Fl:=(aT (kM 2 (uH (ai 0))) (aT (cG 3 (e2 bq (eC (.int 1)) (e2 aW (e2 ixD (ai 1) (eC (.int 0))) (e2 cZ (eQ fU (ai 2)) (eC (.int 1)))))) (aT (cG 4 (eF (kh (aj (ij (eC (.int 1))) (aj (eC (.int 6)) (aj (eC (.int 7)) (aj (eC (.int 5)) (aj (eC (.int 24)) (aj (eC (.int 25)) (aj (eC (.int 1000)) (aj (ij (eC (.int 1000))) (aj (eC (.int 3)) (aj (ij (eC (.int 999))) (aj (eC (.int 999)) (aj (eC (.int 0)) aZ))))))))))))))) (aT (cG 5 (e2 ixD (ai 2) (ai 3))) (aT (sIf (gI (eR (eB "str") (ai 5))) (ni 2 (ai 3) (e2 ixD (eF (kh (aj (eC (.str "")) (aj (eC (.str "A")) (aj (eC (.str "abcdefg")) (aj (eC (.str "a1")) (aj (aM 5) aZ))))))) (e2 aW (e2 ixD (ai 1) (eC (.int 1))) (eC (.int 5))))) ck) (aT (sIf (gI (eR (eB "int") (ai 5))) (ni 2 (ai 3) (e2 ixD (ai 4) (e2 aW (e2 ixD (ai 1) (eC (.int 1))) (eC (.int 12))))) ck) (aT (sIf (gI (eR (eB "tuple") (ai 5))) (aT (cG 6 (e2 aW (e2 ixD (ai 1) (eC (.int 2))) (eQ fU (ai 5)))) (ni 2 (ai 3) (e2 sC (e2 sC (vi (ai 5) eP (bP (ai 6))) (gq (aj (e2 ixD (ai 4) (e2 aW (e2 ixD (ai 1) (eC (.int 1))) (eC (.int 12)))) aZ))) (vi (ai 5) (bP (e2 bq (ai 6) (eC (.int 1)))) eP)))) ck) (dm (eQ (λd=>u_ [d]) (ai 2))))))))))
def eN:List D->Option D:=fnD dI f_ dJ
abbrev kn(Z:Wq):Prop:=OkD Z "_law_bent" (top 103) f_ 1 eN
structure Md(Z:Wq):Prop where
 b_all:Z.mg "all" = none
 b_bool:Z.mg "bool" = none
 b_enumerate:Z.mg "enumerate" = none
 b_int:Z.mg "int" = none
 b_isinstance:Z.mg "isinstance" = none
 b_len:Z.mg "len" = none
 b_list:Z.mg "list" = none
 b_max:Z.mg "max" = none
 b_min:Z.mg "min" = none
 b_range:Z.mg "range" = none
 b_str:Z.mg "str" = none
 b_tuple:Z.mg "tuple" = none
 b_zip:Z.mg "zip" = none
 g_BOOK_EDGE:∃t,Z.mg "BOOK_EDGE" = some (.int 999 t)
 g_LAST_HOUR:∃t,Z.mg "LAST_HOUR" = some (.int 24 t)
 g_MOST_COOL:∃t,Z.mg "MOST_COOL" = some (.int 24 t)
 g_MOST_HILLS:∃t,Z.mg "MOST_HILLS" = some (.int 20 t)
 g_STRONGEST:∃t,Z.mg "STRONGEST" = some (.int 2 t)
 g_TOP_HEIGHT:∃t,Z.mg "TOP_HEIGHT" = some (.int 5 t)
 g_WIND_HOURS:∃t,Z.mg "WIND_HOURS" = some (.int 24 t)
theorem me{Z:Wq}(R:FX Z "_law_numbers" (top 83) dO)(M:Md Z):iK Z:=bdF R λd _ _ _ _ _ _ _ _ hr=>(ay (nK 2 d (dQ aB)) (ay (cz 3 d ae) (ay (gQ Ja rfl (r9 (DF.de (jD (ah 0) gc (bX (DE.db ae))))) (aL 4 d) (ay (cz 3 d (aq aP (DE.db (aq bj (DE.db (aq bj (DE.db (aq eA (ah 3) (DE.db ae))) (DE.db (aq aP (ah 4) (DE.db ae))))) (DE.db ae))) (DE.db ae))) (ay (cz 5 d (aq cv (ah 4) (DE.db (aq ub (DE.db ae) (DE.db ae))))) (ay (bY (bc il (ah 5) (DE.db ae) (aJ _)) (aC (jZ 2 (aq aP (ah 4) (DE.db ae)))) ba) (aC (gQ Ja rfl (gC ae M.b_range) (aL 6 d) (aC (bY (bc gw (ah 5) (DE.db ae) (aJ _)) (ay (jZ 2 (aq aP (ah 5) (DE.db ae))) (aC (cz 5 d (aq nM (ah 5) (DE.db ae))))) ba)))))))) (ay (gQ Ja rfl (gC (aG 1) M.b_range) (aL 6 d) (aC (bY (bc il (DE.db (gN (ah 2) M.b_len)) (ah 1) (aJ _)) (ay (cz 3 d (aq aP (DE.db (aq bj (DE.db (aq bj (DE.db (aq bj (DE.db (aq ub (ah 3) (DE.db ae))) (DE.db (aq eA (DE.db ae) (ah 3))))) (DE.db (aq eA (DE.db ae) (ah 6))))) (DE.db ae))) (DE.db ae))) (aC (jZ 2 (aq aP (DE.db (aq nM (ah 3) (DE.db ae))) (DE.db ae))))) ba))) (aC (cf (DF.de (jD (ah 2) gc (bX (ah 1))))))))))
theorem kH{Z:Wq}{f:Addr}{fd:QE}(R:FA Z.K Z.mg "_law_same" (top 84) cQ f fd)(M:Md Z):∀(n:Nat) (base:Heap),FnOk Z.P Z.w Z.K Z.mg base CX0 (0+n) f fd cQ (spF Z.K (d7 n))
 |0,_=>wR
 |n+1,base=>by
  have GR:=kH R M n base;have sc:FnScope kA cQ (aA (top 84)):=⟨rfl,rfl,rfl,by decide +kernel,rfl,by decide +kernel,by decide +kernel⟩;have d:=sc.nd;exact rS R.fu sc λcdv A outer s H E hr=>(ay (bY (DW.dt (gE (cO (DE.db (dS (T:="list") (by simp) (ah 1) M.b_isinstance M.b_list (by rfl)))) (gk (cO (DE.db (dS (T:="tuple") (by simp) (ah 1) M.b_isinstance M.b_tuple (by rfl))))))) (ay (bY (DW.dt (gE (bc (oE hr) (DE.db (dS (T:="list") (by simp) (ah 0) M.b_isinstance M.b_list (by rfl))) (DE.db (dS (T:="list") (by simp) (ah 1) M.b_isinstance M.b_list (by rfl))) (aJ _)) (gk (bc (oE hr) (DE.db (dS (T:="tuple") (by simp) (ah 0) M.b_isinstance M.b_tuple (by rfl))) (DE.db (dS (T:="tuple") (by simp) (ah 1) M.b_isinstance M.b_tuple (by rfl))) (aJ _))))) (aC (cf uc)) ba) (aC (cf (oi (hG (gV hr) (DE.db (gN (ah 0) M.b_len)) (DE.db (gN (ah 1) M.b_len)) (aJ _)) (lR (dU (yu rfl) M.b_all (by rfl) (aa (DF.de (xr (tn:=["_law_one","_law_other"]) (fr:=[]) (ix:=[]) rfl (uE (aa (aG 0) (aa (aG 1) aB)) M.b_zip) (hU (by rfl) (by exact trivial) (by exact trivial) (by rfl) (by rfl) (by rfl) (by rfl) (by rfl)) (qY (gF (eJ _) (gF (eJ _) nL))) (λ_ _ _ _ _=>(oz rfl (aQ (aL 0 (show(((["_law_one","_law_other"]:List Str)++([]:List Str)):List Str).Nodup by decide +kernel)) (aQ (aL 1 (show(((["_law_one","_law_other"]:List Str)++([]:List Str)):List Str).Nodup by decide +kernel)) fq)))) (λ_ _ _ _ _=>oF) (λ_ _ _ _ _=>(pZ R GR hr (Qi _) (aa (aG 0) (aa (aG 1) aB)))))) aB))))))) ba) (ay (bY (DW.dt (gE (bc se (ah 0) (DE.db oy) (aJ _)) (gk (bc se (ah 1) (DE.db oy) (aJ _))))) (aC (cf (oi (hG se (ah 0) (DE.db oy) (aJ _)) (lR (hG se (ah 1) (DE.db oy) (aJ _)))))) ba) (ay (bY (DW.dt (gE (bc (oE hr) (DE.db (dS (T:="bool") (by simp) (ah 0) M.b_isinstance M.b_bool (by rfl))) (DE.db (dS (T:="bool") (by simp) (ah 1) M.b_isinstance M.b_bool (by rfl))) (aJ _)) (gk (bc (oE hr) (DE.db (dS (T:="int") (by simp) (ah 0) M.b_isinstance M.b_int (by rfl))) (DE.db (dS (T:="int") (by simp) (ah 1) M.b_isinstance M.b_int (by rfl))) (aJ _))))) (aC (cf uc)) ba) (aC (cf (hG (gV hr) (ah 0) (ah 1) (aJ _)))))))
theorem pT{Z:Wq}(R:FX Z "_law_same" (top 84) cQ)(M:Md Z):iF Z:=let⟨f,fd,A⟩:=R;⟨f,fd,A,λbase=>(kH A.1 M 5 base).mono (by decide)⟩
theorem pB{Z:Wq}(R:FX Z "_law_base" (top 85) gf)(M:Md Z):ki Z:=bdF R λd _ _ _ _ _ _ _ _ hr=>(ay (bY (bc (gV hr) (DE.db (aq aP (DE.db (aR (ah 0) (DE.db ae))) (DE.db ae))) (DE.db ae) (aJ _)) (aC (cf (bu (aa (aq cv (DE.db (aR (ah 0) (DE.db ae))) (DE.db ae)) (aa (aq cv (DE.db (aR (ah 0) (DE.db ae))) (DE.db ae)) aB))))) ba) (ay (bY (bc (gV hr) (DE.db (aq aP (DE.db (aR (ah 0) (DE.db ae))) (DE.db ae))) (DE.db ae) (aJ _)) (aC (cf (bu (aa (aq eA (DE.db (aq cv (DE.db (aq aP (DE.db (aR (ah 0) (DE.db ae))) (DE.db ae))) (DE.db ae))) (DE.db ae)) (aa (aq eA (DE.db (aq cv (DE.db (aq aP (DE.db (aR (ah 0) (DE.db ae))) (DE.db ae))) (DE.db ae))) (DE.db ae)) aB))))) ba) (aC (cf (bu (aa ae (aa ae aB)))))))
theorem qV{Z:Wq}(R:FX Z "_law_box" (top 86) gY)(M:Md Z):lD Z:=bdF R λd _ _ _ _ _ _ _ _ hr=>(ay (cz 2 d (aq cv (DE.db (aq bj (DE.db (aR (ah 1) (DE.db ae))) (DE.db (aq aP (DE.db (aR (ah 0) (DE.db ae))) (DE.db ae))))) (DE.db ae))) (ay (cz 3 d (aq cv (DE.db (aq bj (DE.db (aR (ah 1) (DE.db ae))) (DE.db (aq aP (DE.db (aR (ah 0) (DE.db ae))) (DE.db ae))))) (DE.db ae))) (ay (cz 4 d (aq aP (DE.db (aR (ah 0) (DE.db ae))) (DE.db ae))) (aC (cf (bu (aa (aG 2) (aa (aG 3) (aa (aq bj (ah 2) (DE.db (aq aP (DE.db (aR (ah 0) (DE.db ae))) (DE.db ae)))) (aa (aq bj (ah 3) (DE.db (aq aP (DE.db (aR (ah 0) (DE.db ae))) (DE.db ae)))) (aa (aG 4) (aa (aq bj (ah 4) (DE.db (aq aP (DE.db (aR (ah 0) (DE.db ae))) (DE.db (aq cv (DE.db ae) (ah 4)))))) aB))))))))))))
theorem mf{Z:Wq}(R:FX Z "_law_opening" (top 93) dP)(M:Md Z):iy Z:=bdF R λd _ _ _ _ _ _ _ _ hr=>(ay (nK 2 d (dQ aB)) (ay (gQ Ja rfl (gC (aq aP (DE.db (aR (ah 0) (DE.db ae))) (DE.db ae)) M.b_range) (aL 3 d) (aC (jZ 2 (bu (aa (aq cv (DE.db (aq bj (DE.db (aR (ah 1) (DE.db ae))) (DE.db (aq aP (DE.db (aR (ah 0) (DE.db (aq bj (DE.db (aq eA (DE.db ae) (ah 3))) (DE.db ae))))) (DE.db ae))))) (DE.db ae)) (aa (aq cv (DE.db (aq bj (DE.db (aR (ah 1) (DE.db ae))) (DE.db (aq aP (DE.db (aR (ah 0) (DE.db (aq bj (DE.db (aq eA (DE.db ae) (ah 3))) (DE.db ae))))) (DE.db ae))))) (DE.db ae)) (aa (aq bj (DE.db ae) (DE.db (aq aP (DE.db (aR (ah 0) (DE.db (aq bj (DE.db (aq eA (DE.db ae) (ah 3))) (DE.db ae))))) (DE.db ae)))) aB))))))) (ay (nK 4 d (dQ aB)) (ay (gQ Ja rfl (gC (aq aP (DE.db (aq nM (DE.db (aR (ah 0) (DE.db ae))) (DE.db ae))) (DE.db ae)) M.b_range) (aL 3 d) (aC (bY (bc uu (DE.db (aq aP (DE.db (aR (ah 0) (DE.db (aq bj (DE.db ae) (ah 3))))) (DE.db ae))) (ah 4) (by with_unfolding_all rfl)) (aC (jZ 4 (aq aP (DE.db (aR (ah 0) (DE.db (aq bj (DE.db ae) (ah 3))))) (DE.db ae)))) ba))) (ay (bY (bc (gV hr) (DE.db (aq aP (DE.db (aR (ah 0) (DE.db ae))) (DE.db ae))) (DE.db ae) (aJ _)) (aC (yK 4 (tn:=["_law_j"]) (fr:=["_law_d"]) (ix:=[0]) rfl d (gC ae M.b_range) (hU (by rfl) (by exact⟨⟨rfl,rfl⟩,trivial⟩) (by exact⟨rfl,trivial⟩) (by rfl) (by rfl) (by rfl) (by rfl) (by rfl)) (eJ _) (λ_ _ _ _ _=>(aL 0 (show(((["_law_j"]:List Str)++(["_law_d"]:List Str)):List Str).Nodup by decide +kernel))) (λ_ _ _ _ _=>oF) (λ_ _ _ _ _=>(aq aP (DE.db (aq bj (DE.db (aq eA (DE.db ae) (ah 0))) (DE.db (aR (ah 1) (DE.db ae))))) (DE.db ae))))) ba) (ay (bY (bc il (DE.db (aq aP (DE.db (aR (ah 0) (DE.db ae))) (DE.db ae))) (DE.db ae) (aJ _)) (aC (gQ Ja rfl (gC (aq cv (DE.db ae) (DE.db (gN (ah 2) M.b_len))) M.b_range) (aL 3 d) (aC (jZ 2 (bu (aa (aq cv (DE.db (aq bj (DE.db (aR (ah 1) (DE.db ae))) (DE.db (aq aP (DE.db (aq bj (DE.db (aq eA (DE.db ae) (ah 3))) (DE.db (aR (ah 0) (DE.db ae))))) (DE.db ae))))) (DE.db ae)) (aa (aq cv (DE.db (aq bj (DE.db (aR (ah 1) (DE.db ae))) (DE.db (aq aP (DE.db (aq bj (DE.db (aq eA (DE.db ae) (ah 3))) (DE.db (aR (ah 0) (DE.db ae))))) (DE.db ae))))) (DE.db ae)) (aa (aq bj (DE.db ae) (DE.db (aq aP (ah 3) (DE.db ae)))) aB)))))))) ba) (aC (xM 4 (xM 2 (cf (bu (aa (aG 2) (aa (aG 4) aB)))))))))))))
theorem qo{Z:Wq}(R:FX Z "_law_off" (top 91) gZ)(M:Md Z):ly Z:=bdF R λd _ _ _ _ _ _ _ _ hr=>(aC (cf (vw (hG il (DE.db (dU (kS rfl) M.b_min (by rfl) (aa (aG 0) (aa (aG 1) aB)))) (DE.db (fL (DE.db ae))) (aJ _)) (lR (hG gw (DE.db (dU (kT rfl) M.b_max (by rfl) (aa (aG 0) (aa (aG 1) aB)))) (DE.db ae) (aJ _))))))
theorem lY{Z:Wq}(R:FX Z "_law_bad_box" (top 92) dZ)(M:Md Z)(h__law_off:ly Z):iZ Z:=bdF R λd _ _ _ _ _ _ _ _ hr=>(ay (k_ (aG 0) (lO rfl (aQ (aL 1 d) (aQ (aL 2 d) (aQ (aL 3 d) (aQ (aL 4 d) (aQ (aL 5 d) (aQ (aL 6 d) fq)))))))) (ay (bY (DW.dt (gE (cO (DE.db (cF h__law_off hr (aa (aG 1) (aa (aG 2) aB))))) (gE (cO (DE.db (cF h__law_off hr (aa (aG 3) (aa (aG 4) aB))))) (gE (bc gw (ah 1) (ah 3) (aJ _)) (gk (bc gw (ah 2) (ah 4) (aJ _))))))) (aC (cf uc)) ba) (aC (cf (vw (hG il (ah 5) (DE.db ae) (aJ _)) (vw (hG gw (ah 6) (DE.db ae) (aJ _)) (lR (hG gw (ah 5) (ah 6) (aJ _)))))))))
theorem mF{Z:Wq}(R:FX Z "check_place" (top 67) eK)(M:Md Z)(he_BadPlace:qb Z):jj Z:=let⟨_,gi_BOOK_EDGE⟩:=M.g_BOOK_EDGE;let⟨_,_,hE_BadPlace⟩:=he_BadPlace;bdX R λd _ _ _ _ _ _ _ _ hr=>(aC (bY (j6 (DW.dt (uI (lz cJ cJ (DE.db (fL (DE.db (bB rfl gi_BOOK_EDGE)))) (ah 0) (DE.db (bB rfl gi_BOOK_EDGE))) (rQ (lz cJ cJ (DE.db (fL (DE.db (bB rfl gi_BOOK_EDGE)))) (ah 1) (DE.db (bB rfl gi_BOOK_EDGE))))))) (aC (cq hE_BadPlace hr rfl)) ba))
theorem oG{Z:Wq}(R:FX Z "check_hill" (top 76) fg)(M:Md Z)(h_check_place:jj Z)(he_BadHeight:jR Z):jC Z:=let⟨_,gi_TOP_HEIGHT⟩:=M.g_TOP_HEIGHT;let⟨_,_,hE_BadHeight⟩:=he_BadHeight;bdX R λd _ _ _ _ _ _ _ _ hr=>(ay (k_ (aG 0) (lO rfl (aQ (aL 1 d) (aQ (aL 2 d) (aQ (aL 3 d) fq))))) (ay (kj h_check_place hr (aa (aG 1) (aa (aG 2) aB))) (aC (bY (j6 (lz cJ cJ (DE.db ae) (ah 3) (DE.db (bB rfl gi_TOP_HEIGHT)))) (aC (cq hE_BadHeight hr rfl)) ba))))
theorem kJ{Z:Wq}(R:FX Z "check_between" (top 73) dE)(M:Md Z)(he_BadHour:qJ Z):dG Z:=let⟨_,_,hE_BadHour⟩:=he_BadHour;bdX R λd _ _ _ _ _ _ _ _ hr=>(aC (bY (j6 (lz cJ cJ (ah 1) (ah 0) (ah 2))) (aC (cq hE_BadHour hr rfl)) ba))
theorem kL{Z:Wq}(R:FX Z "check_opening" (top 77) dC)(M:Md Z)(h_check_hill:jC Z)(h_check_between:dG Z)(he_Full:wL Z)(he_Twice:vD Z):h_ Z:=let⟨_,gi_MOST_COOL⟩:=M.g_MOST_COOL;let⟨_,gi_MOST_HILLS⟩:=M.g_MOST_HILLS;let⟨_,gi_WIND_HOURS⟩:=M.g_WIND_HOURS;let⟨_,_,hE_Full⟩:=he_Full;let⟨_,_,hE_Twice⟩:=he_Twice;bdX R λd _ _ _ _ _ _ _ _ hr=>(ay (bY (DW.dt (gE (bc gw (DE.db (gN (ah 0) M.b_len)) (DE.db (bB rfl gi_MOST_HILLS)) (aJ _)) (gk (bc gw (DE.db (gN (ah 1) M.b_len)) (DE.db (bB rfl gi_MOST_COOL)) (aJ _))))) (aC (cq hE_Full hr rfl)) ba) (ay (gQ Ex.iE rfl (r9 (aG 0)) (aL 2 d) (aC (kj h_check_hill hr (aa (aG 2) aB)))) (aC (gQ Ex.iE rfl (vZ (aG 1) M.b_enumerate) (oz rfl (aQ (aL 3 d) (aQ (aL 4 d) fq))) (ay (kj h_check_between hr (aa (aG 4) (aa ae (aa (aq cv (DE.db (bB rfl gi_WIND_HOURS)) (DE.db ae)) aB)))) (aC (bY (bc Az (ah 4) (DE.db (DF.de (jD (ah 1) gc (bX (ah 3))))) (by with_unfolding_all rfl)) (aC (cq hE_Twice hr rfl)) ba)))))))
theorem lI{Z:Wq}(R:FX Z "check_height" (top 68) d9)(M:Md Z)(he_BadHeight:jR Z):iP Z:=let⟨_,gi_TOP_HEIGHT⟩:=M.g_TOP_HEIGHT;let⟨_,_,hE_BadHeight⟩:=he_BadHeight;bdX R λd _ _ _ _ _ _ _ _ hr=>(aC (bY (j6 (lz cJ cJ (DE.db ae) (ah 0) (DE.db (bB rfl gi_TOP_HEIGHT)))) (aC (cq hE_BadHeight hr rfl)) ba))
theorem nJ{Z:Wq}(R:FX Z "check_wind" (top 74) e_)(M:Md Z)(h_check_between:dG Z)(h_check_height:iP Z)(he_BadWind:qr Z)(he_Past:rD Z):jF Z:=let⟨_,gi_STRONGEST⟩:=M.g_STRONGEST;let⟨_,gi_WIND_HOURS⟩:=M.g_WIND_HOURS;let⟨_,_,hE_BadWind⟩:=he_BadWind;let⟨_,_,hE_Past⟩:=he_Past;bdX R λd _ _ _ _ _ _ _ _ hr=>(ay (k_ (aG 1) (lO rfl (aQ (aL 2 d) (aQ (aL 3 d) (aQ (aL 4 d) (aQ (aL 5 d) fq)))))) (ay (kj h_check_between hr (aa (aG 2) (aa ae (aa (aq cv (DE.db (bB rfl gi_WIND_HOURS)) (DE.db ae)) aB)))) (ay (bY (bc il (ah 2) (ah 0) (aJ _)) (aC (cq hE_Past hr rfl)) ba) (ay (kj h_check_height hr (aa (aG 3) aB)) (aC (bY (j6 (DW.dt (uI (lz cJ cJ (DE.db (fL (DE.db (bB rfl gi_STRONGEST)))) (ah 4) (DE.db (bB rfl gi_STRONGEST))) (rQ (lz cJ cJ (DE.db (fL (DE.db (bB rfl gi_STRONGEST)))) (ah 5) (DE.db (bB rfl gi_STRONGEST))))))) (aC (cq hE_BadWind hr rfl)) ba))))))
theorem qO{Z:Wq}(R:FX Z "good_box" (top 4) gR)(M:Md Z):lC Z:=let⟨_,gi_BOOK_EDGE⟩:=M.g_BOOK_EDGE;let⟨_,gi_TOP_HEIGHT⟩:=M.g_TOP_HEIGHT;bdF R λd _ _ _ _ _ _ _ _ hr=>(ay (k_ (aG 0) (lO rfl (aQ (aL 1 d) (aQ (aL 2 d) (aQ (aL 3 d) (aQ (aL 4 d) (aQ (aL 5 d) (aQ (aL 6 d) fq)))))))) (aC (cf (oi (qw (DE.db (fL (DE.db (bB rfl gi_BOOK_EDGE)))) (jc cJ (ah 1) (jc cJ (ah 3) (nZ cJ (DE.db (bB rfl gi_BOOK_EDGE)))))) (oi (qw (DE.db (fL (DE.db (bB rfl gi_BOOK_EDGE)))) (jc cJ (ah 2) (jc cJ (ah 4) (nZ cJ (DE.db (bB rfl gi_BOOK_EDGE)))))) (lR (qw (DE.db ae) (jc cJ (ah 5) (jc cJ (ah 6) (nZ cJ (DE.db (bB rfl gi_TOP_HEIGHT))))))))))))
theorem pJ{Z:Wq}(R:FX Z "check_box" (top 70) f7)(M:Md Z)(h_good_box:lC Z)(he_BadBox:s_ Z):kr Z:=let⟨_,_,hE_BadBox⟩:=he_BadBox;bdX R λd _ _ _ _ _ _ _ _ hr=>(aC (bY (j6 (cO (DE.db (cF h_good_box hr (aa (aG 0) aB))))) (aC (cq hE_BadBox hr rfl)) ba))
theorem nI{Z:Wq}(R:FX Z "check_shut" (top 75) fj)(M:Md Z)(h_check_box:kr Z)(h_check_between:dG Z)(he_Past:rD Z):jA Z:=let⟨_,gi_LAST_HOUR⟩:=M.g_LAST_HOUR;let⟨_,_,hE_Past⟩:=he_Past;bdX R λd _ _ _ _ _ _ _ _ hr=>(ay (kj h_check_box hr (aa (aG 1) aB)) (ay (kj h_check_between hr (aa (aG 2) (aa ae (aa (bB rfl gi_LAST_HOUR) aB)))) (ay (kj h_check_between hr (aa (aG 3) (aa (aG 2) (aa (bB rfl gi_LAST_HOUR) aB)))) (aC (bY (bc cJ (ah 2) (ah 0) (aJ _)) (aC (cq hE_Past hr rfl)) ba)))))
theorem pY{Z:Wq}(R:FX Z "_law_only" (top 100) gi)(M:Md Z):kF Z:=bdF R λd _ _ _ _ _ _ _ _ hr=>(ay (cz 1 d (DF.de (dQ (aa aO (aa aO (aa aO (aa aO (aa aO (aa aO (aa aO (aa aO (aa aO (aa aO aB))))))))))))) (ay (cz 1 d (DF.de (yR (ah 1) (DE.db (DF.de (dQ (aa aO (aa aO (aa aO (aa aO (aa aO (aa aO (aa aO (aa aO (aa aO aB))))))))))))))) (aC (cf (aq qq (DE.db (bu (aa aO aB))) (DE.db (ke (DE.db (DF.de (xr (tn:=["_law_name","_law_flag"]) (fr:=[]) (ix:=[]) rfl (uE (aa (aG 1) (aa (aG 0) aB)) M.b_zip) (hU (by rfl) (by exact trivial) (by exact trivial) (by rfl) (by rfl) (by rfl) (by rfl) (by rfl)) (qY (gF (eJ _) (gF (eJ _) nL))) (λ_ _ _ _ _=>(oz rfl (aQ (aL 0 (show(((["_law_name","_law_flag"]:List Str)++([]:List Str)):List Str).Nodup by decide +kernel)) (aQ (aL 1 (show(((["_law_name","_law_flag"]:List Str)++([]:List Str)):List Str).Nodup by decide +kernel)) fq)))) (λ_ _ _ _ _=>(wK (cO (ah 1)))) (λ_ _ _ _ _=>(aG 0))))) M.b_tuple)))))))
theorem lA{Z:Wq}(R:FX Z "_law_deed_of" (top 94) dR)(M:Md Z):iU Z:=bdF R λd _ _ _ _ _ _ _ _ hr=>(ay (bY (bc (gV hr) (DE.db (aR (ah 0) (DE.db ae))) (DE.db aO) (aJ _)) (aC (cf (bu (aa aO (aa (ke (DE.db (aR (ah 0) (DE.db ae))) M.b_tuple) aB))))) ba) (ay (cz 1 d (bu aB)) (ay (gQ Ja rfl (yZ (aG 0)) (aL 2 d) (aC (bY (cO (DE.db (dS (T:="tuple") (by simp) (ah 2) M.b_isinstance M.b_tuple (by rfl)))) (aC (cz 1 d (aq nQ (ah 1) (ah 2)))) (aC (cz 1 d (aq nQ (ah 1) (DE.db (bu (aa (aG 2) aB))))))))) (aC (cf (aG 1))))))
theorem pk{Z:Wq}(R:FX Z "_law_bent" (top 103) f_)(M:Md Z):kn Z:=bdF R λd _ _ _ _ _ _ _ _ hr=>(ay (nK 2 d (wg (ah 0) M.b_list)) (ay (cz 3 d (aq bj (DE.db ae) (DE.db (aq aP (DE.db (aR (ah 1) (DE.db ae))) (DE.db (aq cv (DE.db (gN (ah 2) M.b_len)) (DE.db ae))))))) (ay (cz 4 d (DF.de (dQ (aa (fL (DE.db ae)) (aa ae (aa ae (aa ae (aa ae (aa ae (aa ae (aa (fL (DE.db ae)) (aa ae (aa (fL (DE.db ae)) (aa ae (aa ae aB))))))))))))))) (ay (cz 5 d (aR (ah 2) (ah 3))) (ay (bY (cO (DE.db (dS (T:="str") (by simp) (ah 5) M.b_isinstance M.b_str (by rfl)))) (aC (oh 2 (aR (DE.db (DF.de (dQ (aa aO (aa aO (aa aO (aa aO (aa (aG 5) aB)))))))) (DE.db (aq aP (DE.db (aR (ah 1) (DE.db ae))) (DE.db ae)))) (ah 3))) ba) (ay (bY (cO (DE.db (dS (T:="int") (by simp) (ah 5) M.b_isinstance M.b_int (by rfl)))) (aC (oh 2 (aR (ah 4) (DE.db (aq aP (DE.db (aR (ah 1) (DE.db ae))) (DE.db ae)))) (ah 3))) ba) (ay (bY (cO (DE.db (dS (T:="tuple") (by simp) (ah 5) M.b_isinstance M.b_tuple (by rfl)))) (ay (cz 6 d (aq aP (DE.db (aR (ah 1) (DE.db ae))) (DE.db (gN (ah 5) M.b_len)))) (aC (oh 2 (aq rH (DE.db (aq rH (DE.db (nF (ah 5) gc (bX (ah 6)))) (DE.db (bu (aa (aR (ah 4) (DE.db (aq aP (DE.db (aR (ah 1) (DE.db ae))) (DE.db ae)))) aB))))) (DE.db (nF (ah 5) (bX (DE.db (aq bj (ah 6) (DE.db ae)))) gc))) (ah 3)))) ba) (aC (cf (ke (ah 2) M.b_tuple))))))))))
theorem z_{P:Qq}{w:Qw}{K:Qb}{h:Heap}{mg:Str->Option Qa}{t_BOOK_EDGE:Tok}{t_LAST_HOUR:Tok}{t_MOST_COOL:Tok}{t_MOST_HILLS:Tok}{t_STRONGEST:Tok}{t_TOP_HEIGHT:Tok}{t_WIND_HOURS:Tok}(X:K.In h)(G:h.Ns Qx mg)
  (z_all:QJ K Qx "all" = some none)
  (z_bool:QJ K Qx "bool" = some none)
  (z_enumerate:QJ K Qx "enumerate" = some none)
  (z_int:QJ K Qx "int" = some none)
  (z_isinstance:QJ K Qx "isinstance" = some none)
  (z_len:QJ K Qx "len" = some none)
  (z_list:QJ K Qx "list" = some none)
  (z_max:QJ K Qx "max" = some none)
  (z_min:QJ K Qx "min" = some none)
  (z_range:QJ K Qx "range" = some none)
  (z_str:QJ K Qx "str" = some none)
  (z_tuple:QJ K Qx "tuple" = some none)
  (z_zip:QJ K Qx "zip" = some none)
  (y_BOOK_EDGE:QJ K Qx "BOOK_EDGE" = some (some (.int 999 t_BOOK_EDGE)))
  (y_LAST_HOUR:QJ K Qx "LAST_HOUR" = some (some (.int 24 t_LAST_HOUR)))
  (y_MOST_COOL:QJ K Qx "MOST_COOL" = some (some (.int 24 t_MOST_COOL)))
  (y_MOST_HILLS:QJ K Qx "MOST_HILLS" = some (some (.int 20 t_MOST_HILLS)))
  (y_STRONGEST:QJ K Qx "STRONGEST" = some (some (.int 2 t_STRONGEST)))
  (y_TOP_HEIGHT:QJ K Qx "TOP_HEIGHT" = some (some (.int 5 t_TOP_HEIGHT)))
  (y_WIND_HOURS:QJ K Qx "WIND_HOURS" = some (some (.int 24 t_WIND_HOURS))):Md ⟨P,w,K,mg⟩:=⟨QQ X G z_all,QQ X G z_bool,QQ X G z_enumerate,QQ X G z_int,QQ X G z_isinstance,QQ X G z_len,QQ X G z_list,QQ X G z_max,QQ X G z_min,QQ X G z_range,QQ X G z_str,QQ X G z_tuple,QQ X G z_zip,⟨_,JN X G y_BOOK_EDGE⟩,⟨_,JN X G y_LAST_HOUR⟩,⟨_,JN X G y_MOST_COOL⟩,⟨_,JN X G y_MOST_HILLS⟩,⟨_,JN X G y_STRONGEST⟩,⟨_,JN X G y_TOP_HEIGHT⟩,⟨_,JN X G y_WIND_HOURS⟩⟩
abbrev sB:Stmt:=top 81
def cm(st:Stmt)(j:Nat):Stmt:=match st with
 |.ClassDef _ _ _ b _ _ _ _ _ _ _=>b.getD j (.Pass ⟨0,0,0,0⟩)
 |s=>s
def lk(fs:List (Str×V))(n:Str):Option V:=fs.lookup n
structure BS where
 hills:List V
 cool:List V
 hour:Int
 winds:List V
 shuts:List V
 bal:List V
 deeds:List V
 holds:List V
abbrev atN:List Str:=["hills","cool","hour","winds","shuts","balloons","deeds","holds"]
structure BkM(C:Addr)(H:Hp)(b dx:Addr)(fs:List (Str×V))(a1 a2 a3 a4 a5 a6 a7:Addr)(S:BS):Prop where
 b:H b=some (.ins C dx fs)
 l1:lk fs "hills" = some (.ref a1)
 l2:lk fs "cool" = some (.ref a2)
 l0:lk fs "hour" = some (.int S.hour)
 l3:lk fs "winds" = some (.ref a3)
 l4:lk fs "shuts" = some (.ref a4)
 l5:lk fs "balloons" = some (.ref a5)
 l6:lk fs "deeds" = some (.ref a6)
 l7:lk fs "holds" = some (.ref a7)
 e1:H a1=some (.lst S.hills)
 e2:H a2=some (.lst S.cool)
 e3:H a3=some (.lst S.winds)
 e4:H a4=some (.lst S.shuts)
 e5:H a5=some (.lst S.bal)
 e6:H a6=some (.lst S.deeds)
 e7:H a7=some (.lst S.holds)
 nd:[a1,a2,a3,a4,a5,a6,a7].Nodup
 no:∀m:Str,m∉atN->lk fs m=none
 few:fs.length<=100
def Bk(C:Addr)(H:Hp)(b:Addr)(as:List Addr)(S:BS):Prop:=∃dx fs a1 a2 a3 a4 a5 a6 a7,as=[a1,a2,a3,a4,a5,a6,a7]/\BkM C H b dx fs a1 a2 a3 a4 a5 a6 a7 S
theorem Bk.same{C b:Addr}{H H':Hp}{as:List Addr}{S:BS}(h:Bk C H b as S)(g:aD H H'):Bk C H' b as S:=by
 obtain⟨dx,fs,a1,a2,a3,a4,a5,a6,a7,rfl,m⟩:=h;exact⟨dx,fs,a1,a2,a3,a4,a5,a6,a7,rfl,g _ _ m.b,m.l1,m.l2,m.l0,m.l3,m.l4,m.l5,m.l6,m.l7,g _ _ m.e1,g _ _ m.e2,g _ _ m.e3,g _ _ m.e4,g _ _ m.e5,g _ _ m.e6,g _ _ m.e7,m.nd,m.no,m.few⟩
theorem a_{H:Hp}{p:Addr}(o:HO)(h:H p=none):aD H (upd H p o):=λb u q=>by rw[ao (ak q h)];exact q
def Out(H H':Hp)(b:Addr)(as:List Addr):Prop:=∀q o,q≠b->q∉as->H q=some o->H' q=some o
structure NoA(K:Qb)(C:Addr):Prop where
 cl:Cls K C
 n:∀m∈atN,iu K C m
section
variable{P:Qq}{w:Qw}{K:Qb}{mg:Str->Option Qa}{base:Heap}{f C:Addr}{fd:QE}
theorem scS(st:Stmt)(h:FnScope ["self"] ["self"] (aA st):=by exact⟨rfl,rfl,rfl,by decide +kernel,rfl,by decide +kernel,by decide +kernel⟩):FnScope ["self"] ["self"] (aA st):=h
def x_(C:Addr):Sp:=λvs H Q _=>∃b as S,vs=[.ref b]/\Bk C H b as S/\Q (.int S.hour) H
theorem zq(F:Fun K "now" "Book.now" (cm sB 19) f fd)(n:NoA K C):FnOk P w K mg base CX0 1 f fd ["self"] (x_ C):=by
 refine F.ok (scS (cm sB 19)) (λvs H Q E h=>?_) (λcdv A outer s H vs Q E hr h=>?_)
 ·obtain⟨b,as,S,rfl,_⟩:=h
  rfl
 obtain⟨b,as,S,rfl,⟨dx,fs,a1,a2,a3,a4,a5,a6,a7,rfl,m⟩,q⟩:=h;refine⟨_,aH (br (dq (pv 0) rfl)),?_⟩;exact⟨_,rfl,b,C,dx,fs,_,rfl,m.b,n.cl,n.n _ (by decide),m.l0,q⟩
def vB(C:Addr):Sp:=λvs H Q _=>∃b as S,vs=[.ref b]/\Bk C H b as S/\∀p,H p=none->Q (.ref p) (upd H p (.lst S.deeds))
theorem wB(F:Fun K "done" "Book.done" (cm sB 21) f fd)(n:NoA K C)(ml:mg "list" = none):FnOk P w K mg base CX0 1 f fd ["self"] (vB C):=by
 refine F.ok (scS (cm sB 21)) (λvs H Q E h=>?_) (λcdv A outer s H vs Q E hr h=>?_)
 ·obtain⟨b,as,S,rfl,_⟩:=h
  rfl
 obtain⟨b,as,S,rfl,⟨dx,fs,a1,a2,a3,a4,a5,a6,a7,rfl,m⟩,q⟩:=h;refine⟨_,aH (br (bw bh (by rfl) ml (by rfl) (ag (dq (pv 0) rfl) ax))),?_⟩;exact⟨_,rfl,b,C,dx,fs,_,rfl,m.b,n.cl,n.n _ (by decide),m.l6,a6,_,rfl,.inl (SqL.of m.e6),λl hl=>q l hl⟩
def ud(C:Addr):Sp:=λvs H Q _=>∃b as S,vs=[.ref b]/\Bk C H b as S/\∀l1 l2 l3 l4 p H',aD H H'->(∀l∈[l1,l2,l3,l4,p],H l=none)->[l1,l2,l3,l4].Nodup->H' l1=some (.lst S.hills)->H' l2=some (.lst S.cool)->H' l3=some (.lst S.winds)->H' l4=some (.lst S.shuts)->
 H' p=some (.tup [.ref l1,.ref l2,.ref l3,.ref l4])->Q (.ref p) H'
theorem zE(F:Fun K "sky" "Book.sky" (cm sB 20) f fd)(n:NoA K C)(ml:mg "list" = none):FnOk P w K mg base CX0 1 f fd ["self"] (ud C):=by
 refine F.ok (scS (cm sB 20)) (λvs H Q E h=>?_) (λcdv A outer s H vs Q E hr h=>?_)
 ·obtain⟨b,as,S,rfl,_⟩:=h
  rfl
 obtain⟨b,as,S,rfl,⟨dx,fs,a1,a2,a3,a4,a5,a6,a7,rfl,m⟩,q⟩:=h
 refine⟨_,aH (br (eV (ag (bw bh (by rfl) ml (by rfl) (ag (dq (pv 0) rfl) ax)) (ag (bw bh (by rfl) ml (by rfl) (ag (dq (pv 0) rfl) ax))
  (ag (bw bh (by rfl) ml (by rfl) (ag (dq (pv 0) rfl) ax)) (ag (bw bh (by rfl) ml (by rfl) (ag (dq (pv 0) rfl) ax)) ax)))))),?_⟩
 refine⟨_,rfl,b,C,dx,fs,_,rfl,m.b,n.cl,n.n _ (by decide),m.l1,a1,_,rfl,.inl (SqL.of m.e1),λp1 h1=>?_⟩;have g1:=a_ (.lst S.hills) h1;refine⟨_,rfl,b,C,dx,fs,_,rfl,g1 _ _ m.b,n.cl,n.n _ (by decide),m.l2,a2,_,rfl,.inl (SqL.of (g1 _ _ m.e2)),λp2 h2=>?_⟩;have g2:=a_ (.lst S.cool) h2;have g12:=g1.trans g2;refine⟨_,rfl,b,C,dx,fs,_,rfl,g12 _ _ m.b,n.cl,n.n _ (by decide),m.l3,a3,_,rfl,.inl (SqL.of (g12 _ _ m.e3)),λp3 h3=>?_⟩;have g3:=a_ (.lst S.winds) h3;have g123:=g12.trans g3;refine⟨_,rfl,b,C,dx,fs,_,rfl,g123 _ _ m.b,n.cl,n.n _ (by decide),m.l4,a4,_,rfl,.inl (SqL.of (g123 _ _ m.e4)),λp4 h4=>?_⟩;have g4:=a_ (.lst S.shuts) h4;refine⟨(by show 4<=Qj;decide),λp hp=>?_⟩;have g5:=a_ (.tup [.ref p1,.ref p2,.ref p3,.ref p4]) hp;have e1:upd H p1 (.lst S.hills) p1=some (.lst S.hills):=upd_same;have e2:upd (upd H p1 (.lst S.hills)) p2 (.lst S.cool) p2=some (.lst S.cool):=upd_same;have e3:upd (upd (upd H p1 (.lst S.hills)) p2 (.lst S.cool)) p3 (.lst S.winds) p3=some (.lst S.winds):=upd_same;have e4:upd (upd (upd (upd H p1 (.lst S.hills)) p2 (.lst S.cool)) p3 (.lst S.winds)) p4 (.lst S.shuts) p4=some (.lst S.shuts):=upd_same;have n12:p1≠p2:=ak e1 h2;have n13:p1≠p3:=ak (g2 _ _ e1) h3;have n14:p1≠p4:=ak (g3 _ _ (g2 _ _ e1)) h4;have n23:p2≠p3:=ak e2 h3;have n24:p2≠p4:=ak (g3 _ _ e2) h4;have n34:p3≠p4:=ak e3 h4;refine q p1 p2 p3 p4 p _ (g123.trans (g4.trans g5)) (λl hl=>?_) (by simp[n12,n13,n14,n23,n24,n34]) (g5 _ _ (g4 _ _ (g3 _ _ (g2 _ _ e1)))) (g5 _ _ (g4 _ _ (g3 _ _ e2))) (g5 _ _ (g4 _ _ e3)) (g5 _ _ e4) upd_same;simp only[Qm,Qt,or_false] at hl;rcases hl with rfl | rfl | rfl | rfl | rfl
 ·exact h1
 ·exact g1.free h2
 ·exact g12.free h3
 ·exact g123.free h4
 ·exact(g123.trans g4).free hp
end
structure BT where
 hills:List D
 cool:List D
 hour:Int
 winds:List D
 shuts:List D
 bal:List V
 deeds:List D
 holds:List V
structure BV(K:Qb)(G:Hp)(S:BS)(T:BT):Prop where
 hills:DenL K G S.hills T.hills
 cool:DenL K G S.cool T.cool
 hour:S.hour=T.hour
 winds:DenL K G S.winds T.winds
 shuts:DenL K G S.shuts T.shuts
 bal:S.bal=T.bal
 deeds:DenL K G S.deeds T.deeds
 holds:S.holds=T.holds
structure BkD(K:Qb)(C:Addr)(G H:Hp)(b:Addr)(as:List Addr)(T:BT):Prop where
 gh:aD G H
 gb:G b=none
 ga:∀a∈as,G a=none
 at_:∃S,Bk C H b as S/\BV K G S T
structure Mv(G H G' H':Hp)(b:Addr)(as as':List Addr):Prop where
 gg:aD G G'
 gh:aD G' H'
 out:Out H H' b as
 fo:∀a o,H a=some o->G a=none->G' a=none
 new:∀a∈as',a∈as\/H a=none
 st:∀a o,H a=some o->∃o',H' a=some o'
theorem BV.mono{K:Qb}{G G':Hp}{S:BS}{T:BT}(g:aD G G')(h:BV K G S T):BV K G' S T:=⟨h.hills.mono g,h.cool.mono g,h.hour,h.winds.mono g,h.shuts.mono g,h.bal,h.deeds.mono g,h.holds⟩
theorem Bk.ins{C b:Addr}{H:Hp}{as:List Addr}{S:BS}(h:Bk C H b as S):∃dx fs,H b=some (.ins C dx fs):=let⟨dx,fs,_,_,_,_,_,_,_,_,m⟩:=h;⟨dx,fs,m.b⟩
theorem Bk.has{C b a:Addr}{H:Hp}{as:List Addr}{S:BS}(h:Bk C H b as S)(m:a∈as):∃xs,H a=some (.lst xs):=by
 obtain⟨dx,fs,a1,a2,a3,a4,a5,a6,a7,rfl,k⟩:=h;simp only[Qm,Qt,or_false] at m;rcases m with rfl | rfl | rfl | rfl | rfl | rfl | rfl
 ·exact⟨_,k.e1⟩
 ·exact⟨_,k.e2⟩
 ·exact⟨_,k.e3⟩
 ·exact⟨_,k.e4⟩
 ·exact⟨_,k.e5⟩
 ·exact⟨_,k.e6⟩
 ·exact⟨_,k.e7⟩
theorem BkD.grow{K:Qb}{C b:Addr}{G H G' H':Hp}{as:List Addr}{T:BT}(h:BkD K C G H b as T)(g:Grow G H G' H'):BkD K C G' H' b as T:=by
 obtain⟨S,k,v⟩:=h.at_;obtain⟨dx,fs,e⟩:=k.ins;exact⟨g.gh,g.fo _ _ e h.gb,λa m=>let⟨xs,z⟩:=k.has m;g.fo _ _ z (h.ga a m),S,k.same g.hh,v.mono g.gg⟩
theorem Mv.grow{G H G1 H1 G2 H2:Hp}{b:Addr}{as as':List Addr}(g:Grow G H G1 H1)(m:Mv G1 H1 G2 H2 b as as'):Mv G H G2 H2 b as as':=
 ⟨g.gg.trans m.gg,m.gh,λq o n1 n2 e=>m.out q o n1 n2 (g.hh _ _ e),λa o e z=>m.fo a o (g.hh _ _ e) (g.fo a o e z),λa h=>(m.new a h).imp id λz=>g.hh.free z,λa o e=>m.st a o (g.hh _ _ e)⟩
theorem Mv.trans{G H G1 H1 G2 H2:Hp}{b:Addr}{as:List Addr}(m:Mv G H G1 H1 b as as)(n:Mv G1 H1 G2 H2 b as as)(gb:G2 b=none)(ga:∀a∈as,G2 a=none):Mv G H G2 H2 b as as where
 gg:=m.gg.trans n.gg
 gh:=n.gh
 out:=λq o n1 n2 e=>n.out q o n1 n2 (m.out q o n1 n2 e)
 fo:=λa o e z=>by
  by_cases w:a=b\/a∈as
  ·exact w.elim (λz=>by rw[z];exact gb) (ga a)
  ·rw[not_or] at w
   exact n.fo a o (m.out a o w.1 w.2 e) (m.fo a o e z)
 new:=λ_ h=>.inl h
 st:=λa o e=>let⟨o',e'⟩:=m.st a o e;n.st a o' e'
theorem Mv.behind{G H G1 H1 G2 H2:Hp}{b:Addr}{as as':List Addr}(m:Mv G H G1 H1 b as as')(g:Grow G1 H1 G2 H2):Mv G H G2 H2 b as as':=
 ⟨m.gg.trans g.gg,g.gh,λq o n1 n2 e=>g.hh _ _ (m.out q o n1 n2 e),λa o e z=>let⟨o',e'⟩:=m.st a o e;g.fo a o' e' (m.fo a o e z),m.new,λa o e=>let⟨o',e'⟩:=m.st a o e;⟨o',g.hh _ _ e'⟩⟩
theorem Bk.app3{C b:Addr}{H:Hp}{as:List Addr}{S:BS}(h:Bk C H b as S):∃a∈as,(∃dx fs,H b=some (.ins C dx fs)/\lk fs "winds" = some (.ref a))/\H a=some (.lst S.winds)/\∀y H',aD H H'->Bk C (upd H' a (.lst (S.winds++[y]))) b as { S with winds:=S.winds++[y] }:=by
 obtain⟨dx,fs,a1,a2,a3,a4,a5,a6,a7,rfl,m⟩:=h;refine⟨a3,by simp,⟨dx,fs,m.b,m.l3⟩,m.e3,λy H' g=>⟨dx,fs,a1,a2,a3,a4,a5,a6,a7,rfl,?_⟩⟩;have nb:b≠a3:=λz=>by have:=m.b;rw[z,m.e3] at this;cases this
 have nd:=m.nd;simp only[Js,Qm,Qt,not_or,or_false,not_false_eq_true,Zx,and_true] at nd;obtain⟨⟨n12,n13,n14,n15,n16,n17⟩,⟨n23,n24,n25,n26,n27⟩,⟨n34,n35,n36,n37⟩,⟨n45,n46,n47⟩,⟨n56,n57⟩,n67⟩:=nd;exact{ m with b:=by rw[ao nb];exact g _ _ m.b,e1:=by rw[ao n13];exact g _ _ m.e1,e2:=by rw[ao n23];exact g _ _ m.e2,e3:=upd_same,e4:=by rw[ao (Ne.symm n34)];exact g _ _ m.e4,e5:=by rw[ao (Ne.symm n35)];exact g _ _ m.e5,e6:=by rw[ao (Ne.symm n36)];exact g _ _ m.e6,e7:=by rw[ao (Ne.symm n37)];exact g _ _ m.e7 }
theorem Bk.app4{C b:Addr}{H:Hp}{as:List Addr}{S:BS}(h:Bk C H b as S):∃a∈as,(∃dx fs,H b=some (.ins C dx fs)/\lk fs "shuts" = some (.ref a))/\H a=some (.lst S.shuts)/\∀y H',aD H H'->Bk C (upd H' a (.lst (S.shuts++[y]))) b as { S with shuts:=S.shuts++[y] }:=by
 obtain⟨dx,fs,a1,a2,a3,a4,a5,a6,a7,rfl,m⟩:=h;refine⟨a4,by simp,⟨dx,fs,m.b,m.l4⟩,m.e4,λy H' g=>⟨dx,fs,a1,a2,a3,a4,a5,a6,a7,rfl,?_⟩⟩;have nb:b≠a4:=λz=>by have:=m.b;rw[z,m.e4] at this;cases this
 have nd:=m.nd;simp only[Js,Qm,Qt,not_or,or_false,not_false_eq_true,Zx,and_true] at nd;obtain⟨⟨n12,n13,n14,n15,n16,n17⟩,⟨n23,n24,n25,n26,n27⟩,⟨n34,n35,n36,n37⟩,⟨n45,n46,n47⟩,⟨n56,n57⟩,n67⟩:=nd;exact{ m with b:=by rw[ao nb];exact g _ _ m.b,e1:=by rw[ao n14];exact g _ _ m.e1,e2:=by rw[ao n24];exact g _ _ m.e2,e3:=by rw[ao n34];exact g _ _ m.e3,e4:=upd_same,e5:=by rw[ao (Ne.symm n45)];exact g _ _ m.e5,e6:=by rw[ao (Ne.symm n46)];exact g _ _ m.e6,e7:=by rw[ao (Ne.symm n47)];exact g _ _ m.e7 }
theorem Bk.app6{C b:Addr}{H:Hp}{as:List Addr}{S:BS}(h:Bk C H b as S):∃a∈as,(∃dx fs,H b=some (.ins C dx fs)/\lk fs "deeds" = some (.ref a))/\H a=some (.lst S.deeds)/\∀y H',aD H H'->Bk C (upd H' a (.lst (S.deeds++[y]))) b as { S with deeds:=S.deeds++[y] }:=by
 obtain⟨dx,fs,a1,a2,a3,a4,a5,a6,a7,rfl,m⟩:=h;refine⟨a6,by simp,⟨dx,fs,m.b,m.l6⟩,m.e6,λy H' g=>⟨dx,fs,a1,a2,a3,a4,a5,a6,a7,rfl,?_⟩⟩;have nb:b≠a6:=λz=>by have:=m.b;rw[z,m.e6] at this;cases this
 have nd:=m.nd;simp only[Js,Qm,Qt,not_or,or_false,not_false_eq_true,Zx,and_true] at nd;obtain⟨⟨n12,n13,n14,n15,n16,n17⟩,⟨n23,n24,n25,n26,n27⟩,⟨n34,n35,n36,n37⟩,⟨n45,n46,n47⟩,⟨n56,n57⟩,n67⟩:=nd;exact{ m with b:=by rw[ao nb];exact g _ _ m.b,e1:=by rw[ao n16];exact g _ _ m.e1,e2:=by rw[ao n26];exact g _ _ m.e2,e3:=by rw[ao n36];exact g _ _ m.e3,e4:=by rw[ao n46];exact g _ _ m.e4,e5:=by rw[ao n56];exact g _ _ m.e5,e6:=upd_same,e7:=by rw[ao (Ne.symm n67)];exact g _ _ m.e7 }
theorem qg{C b a:Addr}{G H:Hp}{as:List Addr}{S:BS}{o:HO}(gh:aD G H)(ga:G a=none)(m:a∈as):Mv G H G (upd H a o) b as as where
 gg:=aD.refl _
 gh:=λq u e=>by rw[ao (λz=>by rw[z,ga] at e;cases e)];exact gh _ _ e
 out:=λq u _ n e=>by rw[ao (λz=>n (by rw[z];exact m))];exact e
 fo:=λ_ _ _ z=>z
 new:=λ_ h=>.inl h
 st:=λx u e=>by
  by_cases z:x=a
  ·subst z;exact⟨o,upd_same⟩
  ·exact⟨u,by rw[ao z];exact e⟩
section
variable{P:Qq}{w:Qw}{K:Qb}{mg:Str->Option Qa}{base:Heap}{f C:Addr}{fd:QE}
def og(K:Qb)(C:Addr):Sp:=λvs H Q _=>∃G b as T,vs=[.ref b]/\BkD K C G H b as T/\T.deeds.length<60/\Q .non H
theorem wI(F:Fun K "check_room" "Book.check_room" (cm sB 1) f fd)(n:NoA K C)(ml:mg "len" = none)(hd:∃t,mg "MOST_DEEDS" = some (.int 60 t)):FnOk P w K mg base CX0 1 f fd ["self"] (og K C):=by
 refine F.ok (scS (cm sB 1)) (λvs H Q E h=>?_) (λcdv A outer s H vs Q E hr h=>?_)
 ·obtain⟨G,b,as,T,rfl,_⟩:=h
  rfl
 obtain⟨G,b,as,T,rfl,k,few,q⟩:=h;obtain⟨t,hd⟩:=hd;obtain⟨S,⟨dx,fs,a1,a2,a3,a4,a5,a6,a7,rfl,m⟩,v⟩:=k.at_;refine⟨_,aH (cj (cn xC (d6 dh rfl ml Zw (ag (dq (pv 0) rfl) ax)) (kW (v:=.int 60) rfl hd ⟨_,rfl⟩) (aJ _)) (aH vj) bp),?_⟩;refine⟨_,rfl,b,C,dx,fs,_,rfl,m.b,n.cl,n.n _ (by decide),m.l6,a6,_,rfl,.inl (SqL.of m.e6),_,_,rfl,rfl,_,rfl,?_⟩;refine b9 (λc=>absurd (of_decide_eq_true c) ?_) λ_=>q;rw[v.deeds.length];omega
def kX(K:Qb)(C:Addr):Sp:=λvs H Q _=>∃G b as T v d,vs=[.ref b,v]/\BkD K C G H b as T/\Den K G v d/\T.deeds.length<1000/\∀H',Mv G H G H' b as as->BkD K C G H' b as { T with deeds:=T.deeds++[d] }->Q (.int (T.deeds.length+1)) H'
theorem uR(F:Fun K "noted" "Book.noted" (cm sB 2) f fd)(n:NoA K C)(ml:mg "len" = none):FnOk P w K mg base CX0 1 f fd ["self","deed"] (kX K C):=by
 have SC:FnScope ["self","deed"] ["self","deed"] (aA (cm sB 2)):=⟨rfl,rfl,rfl,by decide +kernel,rfl,by decide +kernel,by decide +kernel⟩;refine F.ok SC (λvs H Q E h=>?_) (λcdv A outer s H vs Q E hr h=>?_)
 ·obtain⟨G,b,as,T,v,d,rfl,_⟩:=h
  rfl
 obtain⟨G,b,as,T,v,d,rfl,k,dv,few,q⟩:=h;obtain⟨S,bk,bv⟩:=k.at_;obtain⟨a,ha,⟨dx,fs,e0,l6⟩,e6,next⟩:=bk.app6;refine⟨_,ar (eL (rT Zk Zg Zh gz (dq (pv 0) rfl) (ag (pv 1) ax))) (aH (br (d6 dh rfl ml Zw (ag (dq (pv 0) rfl) ax)))),?_⟩;have hl:=bv.deeds.length;have M:=qg (C:=C) (b:=b) (S:=S) (o:=.lst (S.deeds++[v])) k.gh (k.ga _ ha) ha;refine⟨_,rfl,b,C,dx,fs,_,rfl,e0,n.cl,n.n _ (by decide),l6,⟨.inl ⟨rfl,_,SqL.of e6⟩,_,rfl,a,_,_,rfl,rfl,e6,?_,?_⟩⟩
 ·rw[hl];exact Jv few (by decide)
 have B:=next v H (aD.refl _);obtain⟨dx',fs',e0',l6'⟩:∃dx' fs',upd H a (.lst (S.deeds++[v])) b=some (.ins C dx' fs')/\lk fs' "deeds" = some (.ref a):=⟨dx,fs,by rw[ao (λz=>by rw[z,e6] at e0;cases e0)];exact e0,l6⟩;refine⟨_,rfl,b,C,dx',fs',_,rfl,e0',n.cl,n.n _ (by decide),l6',a,_,rfl,.inl (SqL.of upd_same),?_⟩;have Z:=q _ M ⟨M.gh,k.gb,k.ga,_,B,{ bv with deeds:=bv.deeds.append (.one dv) }⟩;rw[QN,hl];exact Z
end
section
variable{Z:Wq}{base:Heap}{f C:Addr}{fd:QE}
def MO(Z:Wq)(C:Addr)(m:Str)(ps:List Str)(sp:Sp):Prop:=∃f fd,Meth Z.K C m f/\fC Z.K fd ps []/\∀base,FnOk Z.P Z.w Z.K Z.mg base CX0 1 f fd ps sp
theorem gJ{K:Qb}{G:Hp}:∀ns:List Int,DenL K G (ns.map V.int) (ns.map D.int)
 |[]=>.nil
 |n::r=>.cons (.int n) (gJ r)
def uU(Z:Wq)(C:Addr):Sp:=λvs H Q E=>∃G b as T x h dx dy r,vs=[.ref b,.int x,.int h,.int dx,.int dy]/\BkD Z.K C G H b as T/\T.deeds.length<60/\T.winds.length<1000/\eY [.int T.hour,.tup [.int x,.int h,.int dx,.int dy]]=some r/\
 (∀d,r=.inl d->∀G' H',Mv G H G' H' b as as->BkD Z.K C G' H' b as { T with winds:=T.winds++[.tup [.int x,.int h,.int dx,.int dy]],deeds:=T.deeds++[.tup [.str "wind",.int x,.int h,.int dx,.int dy]] }->Q (.int (T.deeds.length+1)) H')/\
 ∀c fs,r=.inr (c,fs)->∀cls dx' G' H',Grow G H G' H'->Z.mg c=some cls->XD Z.K G' dx' fs->E cls (some dx') H'
theorem vW(F:Fun Z.K "wind" "Book.wind" (cm sB 8) f fd)(n:NoA Z.K C)(HR:MO Z C "check_room" ["self"] (og Z.K C))(HN:MO Z C "noted" ["self","deed"] (kX Z.K C))(HC:jF Z):FnOk Z.P Z.w Z.K Z.mg base (Ex.CX1 Z.P Z.w) 6 f fd ["self","first","height","dx","dy"] (uU Z C):=by
 obtain⟨fc,fdc,⟨FA,_⟩,hF⟩:=HC;obtain⟨fR,fdR,mR,bR,hR⟩:=HR;obtain⟨fN,fdN,mN,bN,hN⟩:=HN;obtain⟨oc,od,kV,doc,pm,an,cdv,ct,osl,rfl,lkk,hcd⟩:=F.ex;have SC:FnScope ["self","first","height","dx","dy"] ["self","first","height","dx","dy"] (aA (cm sB 8)):=⟨rfl,rfl,rfl,by decide +kernel,rfl,by decide +kernel,by decide +kernel⟩;refine mr (k:=5) lkk hcd SC (λvs H Q E h=>?_) λA outer s H vs Q E hr h=>?_
 ·obtain⟨G,b,as,T,x,h,dx,dy,r,rfl,_⟩:=h
  rfl
 obtain⟨G,b,as,T,x,h,dx,dy,r,rfl,k,few,fw,er,q1,q2⟩:=h
 refine⟨_,ar (eL (eO (pv 0) n.cl mR (hR base) (hr.mono (by decide)) bR .nil cg))
  (ar (eL (bV (hF base) (hr.mono (by decide)) rfl FA.mgf FA.fu.kp FA.bi .nil (Ex.l9 Ex.gO) (ag (dq (pv 0) rfl) (ag (eV (ag (pv 1) (ag (pv 2) (ag (pv 3) (ag (pv 4) ax))))) ax))))
  (ar (eL (rT Zk Zg Zh gz (dq (pv 0) rfl) (ag (eV (ag (pv 1) (ag (pv 2) (ag (pv 3) (ag (pv 4) ax))))) ax)))
  (aH (br (gU (pv 0) n.cl mN (hN base) (hr.mono (by decide)) bN .nil cg (ag (eV (ag aU (ag (pv 1) (ag (pv 2) (ag (pv 3) (ag (pv 4) ax)))))) ax)))))),?_⟩
 obtain⟨S,bk,bv⟩:=k.at_;obtain⟨a3,h3,⟨dxb,fsb,e0,l3⟩,e3,next⟩:=bk.app3;obtain⟨dxc,fsc,a1',a2',a3',a4',a5',a6',a7',eas,m⟩:=bk;obtain⟨rfl,rfl⟩:dxc=dxb/\fsc=fsb:=by have:=m.b.symm.trans e0;cases this;exact⟨rfl,rfl⟩
 have hl:=bv.deeds.length;have hw:=bv.winds.length;refine⟨_,rfl,b,dxc,fsc,rfl,e0,m.no _ (by decide),G,b,as,T,rfl,k,few,?_⟩;refine⟨_,rfl,b,C,dxc,fsc,_,rfl,e0,n.cl,n.n _ (by decide),m.l0,_,rfl,_,rfl,_,rfl,_,rfl,(by show 4<=Qj;decide),λp1 hp1=>?_⟩;have g1:=Grow.new (.tup [.int x,.int h,.int dx,.int dy]) k.gh hp1;refine⟨_,[.int T.hour,.tup [.int x,.int h,.int dx,.int dy]],r,g1.gh,.cons (bv.hour▸.int _) (.cons (.tup (SqT.of upd_same) (gJ [x,h,dx,dy])) .nil),er,λd rd v G2 H2 g2 _=>?_,λc fs rc cls dx' G' H' g m xd=>q2 c fs rc cls dx' G' H' (g1.trans g) m xd⟩;have g12:=g1.trans g2;refine⟨_,rfl,b,C,dxc,fsc,_,rfl,g12.hh _ _ e0,n.cl,n.n _ (by decide),l3,.inl ⟨rfl,_,SqL.of (g12.hh _ _ e3)⟩,_,rfl,_,rfl,_,rfl,_,rfl,(by show 4<=Qj;decide),λp3 hp3=>?_⟩;have g3:=Grow.new (.tup [.int x,.int h,.int dx,.int dy]) g12.gh hp3;have g13:=g12.trans g3;have k3:=k.grow g13;refine⟨a3,_,_,rfl,rfl,g13.hh _ _ e3,?_,?_⟩
 ·rw[hw];exact Jv fw (by decide)
 have M4:=qg (C:=C) (b:=b) (S:=S) (o:=.lst (S.winds++[.ref p3])) k3.gh (k3.ga _ h3) h3;have k4:BkD Z.K C _ _ b as { T with winds:=T.winds++[.tup [.int x,.int h,.int dx,.int dy]] }:=⟨M4.gh,k3.gb,k3.ga,_,next (.ref p3) _ g13.hh,let v:=bv.mono g13.gg;{ v with winds:=v.winds.append (.one (.tup (SqT.of upd_same) (gJ [x,h,dx,dy]))) }⟩;have M04:=Mv.grow g13 M4;generalize upd (upd H2 p3 _) a3 _=H4 at *;generalize upd G2 p3 _=G4 at *;obtain⟨S4,⟨dx4,fs4,b1,b2,b3,b4,b5,b6,b7,ea4,m4⟩,bv4⟩:=k4.at_;refine⟨_,rfl,b,dx4,fs4,rfl,m4.b,m4.no _ (by decide),_,rfl,_,rfl,_,rfl,_,rfl,(by show 5<=Qj;decide),λp5 hp5=>?_⟩;have g5:=Grow.new (.tup [.str "wind",.int x,.int h,.int dx,.int dy]) k4.gh hp5;refine⟨_,b,as,_,_,.tup [.str "wind",.int x,.int h,.int dx,.int dy],rfl,k4.grow g5,.tup (SqT.of upd_same) (.cons (.str _) (gJ [x,h,dx,dy])),(Jv few (by decide)),λH' mv bk'=>?_⟩;exact q1 d rd _ H' (M04.trans (Mv.grow g5 mv) bk'.gb bk'.ga) bk'
end
section
variable{Z:Wq}{base:Heap}{f C:Addr}{fd:QE}
def tP(Z:Wq)(C:Addr):Sp:=λvs H Q E=>∃G b as T bx ds x y r,vs=[.ref b,bx,.int x,.int y]/\BkD Z.K C G H b as T/\T.deeds.length<60/\T.shuts.length<1000/\Den Z.K G bx (.tup ds)/\ds≠[]/\ds.length<1000/\fm [.int T.hour,.tup ds,.int x,.int y]=some r/\
 (∀d,r=.inl d->∀G' H',Mv G H G' H' b as as->BkD Z.K C G' H' b as { T with shuts:=T.shuts++[.tup (ds++[.int x,.int y])],deeds:=T.deeds++[.tup (.str "shut" :: ds++[.int x,.int y])] }->Q (.int (T.deeds.length+1)) H')/\
 ∀c fs,r=.inr (c,fs)->∀cls dx' G' H',Grow G H G' H'->Z.mg c=some cls->XD Z.K G' dx' fs->E cls (some dx') H'
theorem wM(F:Fun Z.K "shut" "Book.shut" (cm sB 9) f fd)(n:NoA Z.K C)(HR:MO Z C "check_room" ["self"] (og Z.K C))(HN:MO Z C "noted" ["self","deed"] (kX Z.K C))(HC:jA Z):FnOk Z.P Z.w Z.K Z.mg base (Ex.CX1 Z.P Z.w) 6 f fd ["self","box","first","last"] (tP Z C):=by
 obtain⟨fc,fdc,⟨FA,_⟩,hF⟩:=HC;obtain⟨fR,fdR,mR,bR,hR⟩:=HR;obtain⟨fN,fdN,mN,bN,hN⟩:=HN;obtain⟨oc,od,kV,doc,pm,an,cdv,ct,osl,rfl,lkk,hcd⟩:=F.ex;have SC:FnScope ["self","box","first","last"] ["self","box","first","last"] (aA (cm sB 9)):=⟨rfl,rfl,rfl,by decide +kernel,rfl,by decide +kernel,by decide +kernel⟩;refine mr (k:=5) lkk hcd SC (λvs H Q E h=>?_) λA outer s H vs Q E hr h=>?_
 ·obtain⟨G,b,as,T,bx,ds,x,y,r,rfl,_⟩:=h
  rfl
 obtain⟨G,b,as,T,bx,ds,x,y,r,rfl,k,few,fw,dbx,dne,dle,er,q1,q2⟩:=h
 refine⟨_,ar (eL (eO (pv 0) n.cl mR (hR base) (hr.mono (by decide)) bR .nil cg))
  (ar (eL (bV (hF base) (hr.mono (by decide)) rfl FA.mgf FA.fu.kp FA.bi .nil (Ex.l9 Ex.gO) (ag (dq (pv 0) rfl) (ag (pv 1) (ag (pv 2) (ag (pv 3) ax))))))
  (ar (eL (rT Zk Zg Zh gz (dq (pv 0) rfl) (ag (gH kY (pv 1) (eV (ag (pv 2) (ag (pv 3) ax)))) ax)))
  (aH (br (gU (pv 0) n.cl mN (hN base) (hr.mono (by decide)) bN .nil cg (ag (gH kY (gH kY (eV (ag aU ax)) (pv 1)) (eV (ag (pv 2) (ag (pv 3) ax)))) ax)))))),?_⟩
 obtain⟨S,bk,bv⟩:=k.at_;obtain⟨a3,h3,⟨dxb,fsb,e0,l3⟩,e3,next⟩:=bk.app4;obtain⟨dxc,fsc,a1',a2',a3',a4',a5',a6',a7',eas,m⟩:=bk;obtain⟨rfl,rfl⟩:dxc=dxb/\fsc=fsb:=by have:=m.b.symm.trans e0;cases this;exact⟨rfl,rfl⟩
 have hl:=bv.deeds.length;have hw:=bv.shuts.length;obtain⟨abx,xs,rfl,sq,dl⟩:=dbx.tupV;have xl:=dl.length;have xne:xs≠[]:=λz=>by subst z;cases dl;exact dne rfl
 have xl2:xs.length<1000:=by rw[xl];exact dle
 have big:(2000:Nat)<=Qj:=by decide
 refine⟨_,rfl,b,dxc,fsc,rfl,e0,m.no _ (by decide),G,b,as,T,rfl,k,few,?_⟩;refine⟨_,rfl,b,C,dxc,fsc,_,rfl,e0,n.cl,n.n _ (by decide),m.l0,_,rfl,_,rfl,_,rfl,?_⟩;refine⟨G,[.int T.hour,.tup ds,.int x,.int y],r,k.gh,.cons (bv.hour▸.int _) (.cons dbx (.cons (.int x) (.cons (.int y) .nil))),er,λd rd v G2 H2 g12 _=>?_,λc fs rc cls dx' G' H' g m xd=>q2 c fs rc cls dx' G' H' g m xd⟩;refine⟨_,rfl,b,C,dxc,fsc,_,rfl,g12.hh _ _ e0,n.cl,n.n _ (by decide),l3,.inl ⟨rfl,_,SqL.of (g12.hh _ _ e3)⟩,_,rfl,_,rfl,_,rfl,(by show 2<=Qj;decide),λp2 hp2=>?_⟩;have g2:=Grow.new (.tup [.int x,.int y]) g12.gh hp2;have ga2:=g12.trans g2;refine⟨abx,p2,xs,[.int x,.int y],rfl,rfl,aE (k.gh.trans ga2.hh) sq,SqT.of upd_same,xne,(by show xs.length+2<=Qj;omega),λz=>(by cases z),λ_ p3 hp3=>?_⟩;have g3:=Grow.new (.tup (xs++[.int x,.int y])) ga2.gh hp3;have g13:=ga2.trans g3;have k3:=k.grow g13;refine⟨a3,_,_,rfl,rfl,g13.hh _ _ e3,?_,?_⟩
 ·rw[hw];exact Jv fw (by decide)
 have M4:=qg (C:=C) (b:=b) (S:=S) (o:=.lst (S.shuts++[.ref p3])) k3.gh (k3.ga _ h3) h3;have k4:BkD Z.K C _ _ b as { T with shuts:=T.shuts++[.tup (ds++[.int x,.int y])] }:=⟨M4.gh,k3.gb,k3.ga,_,next (.ref p3) _ g13.hh,let v:=bv.mono g13.gg;{ v with shuts:=v.shuts.append (.one (.tup (SqT.of upd_same) ((dl.mono g13.gg).append (gJ [x,y])))) }⟩;have M04:=Mv.grow g13 M4;have sq4:=aE M4.gh (aE g13.gg sq);have sg4:=aE g13.gg sq;have dl4:=dl.mono g13.gg;generalize upd (upd (upd H2 p2 _) p3 _) a3 _=H4 at *;generalize upd (upd G2 p2 _) p3 _=G4 at *;obtain⟨S4,⟨dx4,fs4,b1,b2,b3,b4,b5,b6,b7,ea4,m4⟩,bv4⟩:=k4.at_;refine⟨_,rfl,b,dx4,fs4,rfl,m4.b,m4.no _ (by decide),(by show 1<=Qj;decide),λp5 hp5=>?_⟩;have g5:=Grow.new (.tup [.str "shut"]) k4.gh hp5;refine⟨_,rfl,p5,abx,[.str "shut"],xs,rfl,rfl,SqT.of upd_same,aE g5.hh sq4,(by simp),(by show 1+xs.length<=Qj;omega),λz=>absurd z xne,λ_ p6 hp6=>?_⟩;have g6:=Grow.new (.tup ([.str "shut"]++xs)) g5.gh hp6;have g56:=g5.trans g6;refine⟨_,rfl,_,rfl,(by show 2<=Qj;decide),λp7 hp7=>?_⟩;have g7:=Grow.new (.tup [.int x,.int y]) g56.gh hp7;have g57:=g56.trans g7;refine⟨p6,p7,[.str "shut"]++xs,[.int x,.int y],rfl,rfl,SqT.of (g7.hh _ _ upd_same),SqT.of upd_same,(by simp),(by rw[QN];show(1+xs.length)+2<=Qj;omega),λz=>(by cases z),λ_ p8 hp8=>?_⟩;have g8:=Grow.new (.tup ([.str "shut"]++xs++[.int x,.int y])) g57.gh hp8;have g58:=g57.trans g8;refine⟨_,b,as,_,_,.tup (.str "shut" :: ds++[.int x,.int y]),rfl,k4.grow g58,.tup (SqT.of upd_same) (((DenL.one (.str _)).append (dl4.mono g58.gg)).append (gJ [x,y])),(Jv few (by decide)),λH' mv bk'=>?_⟩;exact q1 d rd _ H' (M04.trans (Mv.grow g58 mv) bk'.gb bk'.ga) bk'
end
theorem uM{X:Cx}{tg:Expr}:PG X tg (λ_ _ _ _=>False):=λ_ _ _ _ _ _ _ _ _ h=>h.elim
theorem pss_no{X:Cx}{st:List Stmt}:PSs X st t_:=λ_ _ _ _ _ _ h=>h.elim
theorem qk{f:Str}{v:V}{fs:List (Str×V)}:lk (bJ f v fs) f=some v:=by unfold lk;rw[fY,if_pos rfl]
theorem bF{f g:Str}{v:V}{fs:List (Str×V)}(h:g≠f):lk (bJ f v fs) g=lk fs g:=by unfold lk;rw[fY,if_neg h]
theorem zA{f:Str}{v u:V}:∀{fs:List (Str×V)},lk fs f=some u->(bJ f v fs).length=fs.length
 |[],h=>nomatch h
 |(k,x)::r,h=>by
  rw[show bJ f v ((k,x)::r)=(if k=f then(k,v)::r else(k,x)::bJ f v r) from rfl]
  by_cases e:k=f
  ·rw[if_pos e];rfl
  ·rw[if_neg e,QD,QD]
   have e2:(f==k)=false:=beq_eq_false_iff_ne.mpr (Ne.symm e);unfold lk at h;rw[List.lookup_cons,e2] at h;exact congrArg (· + 1) (zA h)
def tX0(K:Qb)(mg:Str->Option Qa)(c:Str)(E:XK):TS:=λ_ _ H=>∃G,aD G H/\∀cls dx G' H',Grow G H G' H'->mg c=some cls->XD K G' dx []->E cls (some dx) H'
theorem sm{P:Qq}{w:Qw}{K:Qb}{mg:Str->Option Qa}{base:Heap}{N:List Str}{qual:Str}{sc:Scope}{f:Addr}{cdv:Qa}{A:QC}{outer:List Env}{s:Qd}{H:Hp}{E:XK}{c:Str}{k:Nat}{C:Addr}{bm:List Qa}{p cpos pos:Pos}(Hc:OkE ⟨P,w,K,mg⟩ c C bm)
  (hr:Room k (A.deeper (envOfC qual sc s.heap.objs.size f cdv))) (hj:2<=k:=by decide) (hg:Gl (ik (Ex.CX1 P w) P w K mg base N qual sc f cdv A outer s H E) c:=by rfl) (hdb:(c==("__debug__" : Str))=false:=by decide) :
  PS (ik (Ex.CX1 P w) P w K mg base N qual sc f cdv A outer s H E) (.Raise (some (.Call (.Name c p) [] [] cpos)) none pos) (tX0 K mg c E):=by
 obtain⟨t,t1,t2⟩:DS (ik (Ex.CX1 P w) P w K mg base N qual sc f cdv A outer s H E) (.Raise (some (.Call (.Name c p) [] [] cpos)) none pos) (dF c):=cq Hc hr rfl hj hg hdb;intro pins s1 σ H1 D I ⟨G,gh,q⟩;exact t1 pins s1 σ H1 D I (t2 H1 G G H1 σ _ (.xc c []) D ⟨Grow.refl gh,gP σ⟩ rfl λpins σ G' H' s' a dx cls I g' x m d=>Ex.gO pins σ H' s' a cls dx I x (q cls dx G' H' g' m d))
section
variable{Z:Wq}{base:Heap}{f C:Addr}{fd:QE}
def xP:Sp:=λvs H Q _=>∃b l,vs=[b,.ref l]/\H l=some (.lst [])/\∀p,H p=none->Q (.ref p) (upd H p (.dK []))
abbrev A8:List Str:=["self","pairs","orders","name","order"]
theorem sZ(F:Fun Z.K "orders_given" "Book.orders_given" (cm sB 11) f fd):FnOk Z.P Z.w Z.K Z.mg base CX0 1 f fd ["self","pairs"] xP:=by
 have SC:FnScope A8 ["self","pairs"] (aA (cm sB 11)):=⟨rfl,rfl,rfl,by decide +kernel,rfl,by decide +kernel,by decide +kernel⟩;refine F.ok SC (λvs H Q E h=>?_) (λcdv A outer s H vs Q E hr h=>?_)
 ·obtain⟨b,l,rfl,_⟩:=h
  rfl
 obtain⟨b,l,rfl,hl,q⟩:=h;refine⟨_,ar (bg (i:=2) SC.nd rfl (Qs rfl) uW) (ar (jq Ja rfl (hX (pv 1)) uM pss_no) (aH (br (pv 2)))),?_⟩;intro p hp;have g:=a_ (.dK []) hp;refine⟨_,rfl,l,rfl,⟨[],SqL.of (g _ _ hl)⟩,λi _ σ' H'=>i=0/\σ'=_/\H'=_,⟨0,rfl,rfl,rfl⟩,λi m σ' H' ⟨e1,e2,e3⟩=>?_⟩;subst e1 e2 e3;exact .inl ⟨⟨[],SqL.of (g _ _ hl),Qi _⟩,_,rfl,q p hp⟩
def rm(Z:Wq)(C:Addr):Sp:=λvs H Q E=>∃G b as T l,vs=[.ref b,.ref l]/\BkD Z.K C G H b as T/\T.deeds.length<60/\T.bal=[]/\
 (T.hour<24->H l=some (.lst [])/\∀G' H' as',Mv G H G' H' b as as'->BkD Z.K C G' H' b as' { T with hour:=T.hour+1,deeds:=T.deeds++[.tup [.str "drift",.tup []]] }->Q (.int (T.deeds.length+1)) H')/\
 (24<=T.hour->∀cls dx' G' H',Grow G H G' H'->Z.mg "Late" = some cls->XD Z.K G' dx' []->E cls (some dx') H')
abbrev A6:List Str:=["self","orders","given","sky","after","at","balloon"]
theorem ue{LC:Addr}{lbm:List Qa}(F:Fun Z.K "drift" "Book.drift" (cm sB 12) f fd)(n:NoA Z.K C)(ml:Z.mg "enumerate" = none)(mt:Z.mg "tuple" = none)(hL:∃t,Z.mg "LAST_HOUR" = some (.int 24 t))(HR:MO Z C "check_room" ["self"] (og Z.K C))(HN:MO Z C "noted" ["self","deed"] (kX Z.K C))
  (HO:MO Z C "orders_given" ["self","pairs"] xP) (HS:MO Z C "sky" ["self"] (ud C)) (HL:OkE Z "Late" LC lbm):FnOk Z.P Z.w Z.K Z.mg base (Ex.CX1 Z.P Z.w) 6 f fd ["self","orders"] (rm Z C):=by
 obtain⟨fR,fdR,mR,bR,hR⟩:=HR;obtain⟨fN,fdN,mN,bN,hN⟩:=HN;obtain⟨fO,fdO,mO,bO,hO⟩:=HO;obtain⟨fS,fdS,mS,bS,hS⟩:=HS;obtain⟨tL,hL⟩:=hL;obtain⟨oc,od,kV,doc,pm,an,cdv,ct,osl,rfl,lkk,hcd⟩:=F.ex;have SC:FnScope A6 ["self","orders"] (aA (cm sB 12)):=⟨rfl,rfl,rfl,by decide +kernel,rfl,by decide +kernel,by decide +kernel⟩;refine mr (k:=5) lkk hcd SC (λvs H Q E h=>?_) λA outer s H vs Q E hr h=>?_
 ·obtain⟨G,b,as,T,l,rfl,_⟩:=h
  rfl
 obtain⟨G,b,as,T,l,rfl,k,few,hb0,q1,q2⟩:=h
 refine⟨_,ar (eL (eO (pv 0) n.cl mR (hR base) (hr.mono (by decide)) bR .nil cg))
  (ar (cj (cn xC (dq (pv 0) rfl) (kW (v:=.int 24) rfl hL ⟨_,rfl⟩) (aJ _)) (aH (sm HL hr)) bp)
  (ar (bg (i:=2) SC.nd rfl (Qs rfl) (gU (pv 0) n.cl mO (hO base) (hr.mono (by decide)) bO .nil cg (ag (pv 1) ax)))
  (ar (bg (i:=3) SC.nd rfl (Qs rfl) (eO (pv 0) n.cl mS (hS base) (hr.mono (by decide)) bS .nil cg))
  (ar (bg (i:=4) SC.nd rfl (Qs rfl) (cR ax))
  (ar (jq Ex.iE rfl (rY rfl ml (ag (dq (pv 0) rfl) ax)) uM pss_no)
  (ar (gM (pv 0) (pv 4) rfl)
  (ar (sR (pv 0) bG zw)
  (aH (br (gU (pv 0) n.cl mN (hN base) (hr.mono (by decide)) bN .nil cg (ag (eV (ag aU (ag (bw jm (by rfl) mt (by rfl) (ag (nG (tn:=["name","order"]) (fr:=[]) (ix:=[]) rfl (hX (pv 1)) (hU (by rfl) (by exact trivial) (by exact trivial) (by rfl) (by rfl) (by rfl) (by rfl) (by rfl)) (qY (n:=2) (gF (eJ _) (gF (eJ _) nL))) (λ_ _ _ _ _=>oz rfl (aQ (aL 0 (show(((["name","order"]:List Str)++([]:List Str)):List Str).Nodup by decide +kernel)) (aQ (aL 1 (show(((["name","order"]:List Str)++([]:List Str)):List Str).Nodup by decide +kernel)) fq)))) ax)) ax))) ax))))))))))),?_⟩
 obtain⟨S,bk,bv⟩:=k.at_;have bk0:=bk;obtain⟨dx,fs,a1,a2,a3,a4,a5,a6,a7,eas,m⟩:=bk;have hl:=bv.deeds.length;refine⟨_,rfl,b,dx,fs,rfl,m.b,m.no _ (by decide),G,b,as,T,rfl,k,few,?_⟩;refine⟨_,rfl,b,C,dx,fs,_,rfl,m.b,n.cl,n.n _ (by decide),m.l0,_,_,rfl,rfl,_,rfl,?_⟩;refine b9 (λc=>⟨G,k.gh,q2 (by rw[<-bv.hour];exact of_decide_eq_true c)⟩) λc=>?_;have lt:T.hour<24:=by rw[<-bv.hour];exact Int.not_le.mp λz=>c (decide_eq_true z)
 obtain⟨hl0,q⟩:=q1 lt;refine⟨_,rfl,b,dx,fs,rfl,m.b,m.no _ (by decide),_,rfl,_,l,rfl,hl0,λp2 hp2=>?_⟩;have g2:=a_ (.dK []) hp2;generalize upd H p2 (.dK [])=H2 at *;refine⟨_,rfl,b,dx,fs,rfl,g2 _ _ m.b,m.no _ (by decide),b,as,S,rfl,bk0.same g2,λl1 l2 l3 l4 p3 H3 g3 _ _ _ _ _ _ _=>?_⟩;refine⟨QA _,λp4 hp4=>?_⟩;have g4:=g2.trans (g3.trans (a_ (.lst []) hp4));have n4:H p4=none:=(g2.trans g3).free hp4;have e4:upd H3 p4 (.lst []) p4=some (.lst []):=upd_same;generalize upd H3 p4 (.lst [])=H4 at *;have e5:H a5=some (.lst []):=by rw[m.e5,bv.bal,hb0]
 refine⟨_,rfl,b,C,dx,fs,_,rfl,g4 _ _ m.b,n.cl,n.n _ (by decide),m.l5,a5,[],rfl,SqL.of (g4 _ _ e5),λi _ σ' H'=>i=0/\σ'=_/\H'=_,⟨0,rfl,rfl,rfl⟩,λi _ σ' H' ⟨z1,z2,z3⟩=>?_⟩;subst z1 z2;have z4:=z3.symm;subst z4;refine .inl ⟨⟨[],SqL.of (g4 _ _ e5),Qi _⟩,?_⟩;have b4:=g4 _ _ m.b;have few1:fs.length<1000:=QI m.few (by decide);have le1:(bJ "balloons" (.ref p4) fs).length=fs.length:=zA m.l5;refine⟨_,rfl,_,rfl,b,C,dx,fs,rfl,b4,n.cl,n.n _ (by decide),few1,?_⟩;have le2:(bJ "hour" (.int (S.hour+1)) (bJ "balloons" (.ref p4) fs)).length=fs.length:=by rw[zA (u:=.int S.hour) (by rw[bF (by decide)];exact m.l0)];exact le1
 refine⟨_,rfl,b,C,dx,bJ "balloons" (.ref p4) fs,.int S.hour,rfl,upd_same,n.cl,n.n _ (by decide),(by show lk _ _=_;rw[bF (by decide)];exact m.l0),_,_,rfl,rfl,dx,bJ "balloons" (.ref p4) fs,upd_same,by rw[le1];exact few1,?_⟩;have e8:upd (upd H4 b (.ins C dx (bJ "balloons" (.ref p4) fs))) b (.ins C dx (bJ "hour" (.int (S.hour+1)) (bJ "balloons" (.ref p4) fs))) b=some (.ins C dx (bJ "hour" (.int (S.hour+1)) (bJ "balloons" (.ref p4) fs))):=upd_same;have k8:∀q o,q≠b->H4 q=some o->upd (upd H4 b (.ins C dx (bJ "balloons" (.ref p4) fs))) b (.ins C dx (bJ "hour" (.int (S.hour+1)) (bJ "balloons" (.ref p4) fs))) q=some o:=λq o z e=>by rw[ao z,ao z];exact e
 generalize upd (upd H4 b (.ins C dx (bJ "balloons" (.ref p4) fs))) b (.ins C dx (bJ "hour" (.int (S.hour+1)) (bJ "balloons" (.ref p4) fs)))=H8 at *;have nb:∀{q:Addr} {xs:List V},H q=some (.lst xs)->q≠b:=λe z=>by rw[z,m.b] at e;cases e
 have nb4:p4≠b:=λz=>by rw[z,m.b] at n4;cases n4
 have n4':∀{q:Addr} {o:HO},H q=some o->q≠p4:=λe=>ak e n4;have kp:∀q o,q≠b->H q=some o->H8 q=some o:=λq o z e=>k8 q o z (g4 _ _ e);have gH8:aD G H8:=λq o e=>kp q o (λz=>by rw[z,k.gb] at e;cases e) (k.gh _ _ e)
 have bk8:BkD Z.K C G H8 b [a1,a2,a3,a4,p4,a6,a7] { T with hour:=T.hour+1 }:=by
  refine⟨gH8,k.gb,λa ha=>?_,{ S with hour:=S.hour+1,bal:=[] },⟨dx,bJ "hour" (.int (S.hour+1)) (bJ "balloons" (.ref p4) fs),a1,a2,a3,a4,p4,a6,a7,rfl,?_⟩,{ bv with hour:=by rw[bv.hour],bal:=hb0.symm }⟩
  ·subst eas
   simp only[Qm,Qt,or_false] at ha;rcases ha with rfl | rfl | rfl | rfl | rfl | rfl | rfl
   ·exact k.ga _ (by simp)
   ·exact k.ga _ (by simp)
   ·exact k.ga _ (by simp)
   ·exact k.ga _ (by simp)
   ·exact k.gh.free n4
   ·exact k.ga _ (by simp)
   ·exact k.ga _ (by simp)
  ·have nd:=m.nd
   simp only[Js,Qm,Qt,not_or,or_false,not_false_eq_true,Zx,and_true] at nd;obtain⟨⟨n12,n13,n14,n15,n16,n17⟩,⟨n23,n24,n25,n26,n27⟩,⟨n34,n35,n36,n37⟩,⟨n45,n46,n47⟩,⟨n56,n57⟩,n67⟩:=nd;refine⟨e8,?_,?_,qk,?_,?_,?_,?_,?_,kp _ _ (nb m.e1) m.e1,kp _ _ (nb m.e2) m.e2,kp _ _ (nb m.e3) m.e3,kp _ _ (nb m.e4) m.e4,k8 _ _ nb4 e4,kp _ _ (nb m.e6) m.e6,kp _ _ (nb m.e7) m.e7,?_,λx hx=>?_,by rw[le2];exact m.few⟩
   ·rw[bF (by decide),bF (by decide)];exact m.l1
   ·rw[bF (by decide),bF (by decide)];exact m.l2
   ·rw[bF (by decide),bF (by decide)];exact m.l3
   ·rw[bF (by decide),bF (by decide)];exact m.l4
   ·rw[bF (by decide)];exact qk
   ·rw[bF (by decide),bF (by decide)];exact m.l6
   ·rw[bF (by decide),bF (by decide)];exact m.l7
   ·simp[n12,n13,n14,n16,n17,n23,n24,n26,n27,n34,n36,n37,n46,n47,n67,n4' m.e1,n4' m.e2,n4' m.e3,n4' m.e4,Ne.symm (n4' m.e6),Ne.symm (n4' m.e7)]
   ·rw[bF (λz=>hx (by rw[z];decide)),bF (λz=>hx (by rw[z];decide))];exact m.no x hx
 have hl8:H8 l=some (.lst []):=kp _ _ (nb hl0) hl0;obtain⟨S8,⟨dx8,fs8,b1,b2,b3,b4',b5,b6,b7,ea8,m8⟩,bv8⟩:=bk8.at_;refine⟨_,rfl,b,dx8,fs8,rfl,m8.b,m8.no _ (by decide),_,rfl,l,rfl,⟨_,SqL.of hl8⟩,aD.refl _,?_,λa9 H9 g9 hn9 ha9=>?_⟩
 ·intro i H' s2
  exact⟨λz=>absurd z (Nat.not_lt_zero _),λ_=>⟨[],SqL.of (s2 _ _ hl8),QA _⟩,λx H3 _ d z=>by cases z⟩
 have G9:Grow G H8 G H9:=⟨g9,aD.refl _,gH8.trans g9,λ_ _ _ e=>e⟩;refine⟨a9,[],rfl,.inl ⟨SqL.of ha9,λpt hpt=>⟨(by show 2<=Qj;decide),λpd hpd=>?_⟩⟩⟩;have gt:=Grow.new (.tup []) G9.gh hpt;have gd:=Grow.new (.tup [.str "drift",.ref pt]) gt.gh hpd;have gg:=G9.trans (gt.trans gd);refine⟨_,b,_,_,_,.tup [.str "drift",.tup []],rfl,bk8.grow gg,.tup (SqT.of upd_same) (.cons (.str _) (.cons (.tup (SqT.of (gd.gg _ _ upd_same)) .nil) .nil)),(Jv few (by decide)),λH' mv bk'=>?_⟩;have M9:=Mv.grow gg mv;refine q _ H' _ ⟨M9.gg,M9.gh,λx o z1 z2 e=>M9.out x o z1 (λz=>?_) (kp x o z1 e),λa o e z=>?_,λa ha=>?_,λa o e=>?_⟩ bk'
 ·rw[eas] at z2
  simp only[Qm,Qt,or_false,not_or] at z z2;obtain⟨y1,y2,y3,y4,y5,y6,y7⟩:=z2;rcases z with z | z | z | z | z | z | z
  ·exact y1 z
  ·exact y2 z
  ·exact y3 z
  ·exact y4 z
  ·exact n4' e z
  ·exact y6 z
  ·exact y7 z
 ·by_cases y:a=b
  ·rw[y];exact bk'.gb
  ·exact M9.fo a o (kp a o y e) z
 ·rw[eas]
  simp only[Qm,Qt,or_false] at ha ⊢;rcases ha with z | z | z | z | z | z | z
  ·exact .inl (.inl z)
  ·exact .inl (.inr (.inl z))
  ·exact .inl (.inr (.inr (.inl z)))
  ·exact .inl (.inr (.inr (.inr (.inl z))))
  ·exact .inr (by rw[z];exact n4)
  ·exact .inl (.inr (.inr (.inr (.inr (.inr (.inl z))))))
  ·exact .inl (.inr (.inr (.inr (.inr (.inr (.inr z))))))
 ·by_cases y:a=b
  ·rw[y];exact M9.st b _ m8.b
  ·exact M9.st a o (kp a o y e)
end
inductive Doing(T:BT):D->Dn.Out->BT->Prop where
 |wind {x h dx dy:Int} {r:Dn.Out} (e:eY [.int T.hour,.tup [.int x,.int h,.int dx,.int dy]]=some r):Doing T (.tup [.str "wind",.int x,.int h,.int dx,.int dy]) r { T with winds:=T.winds++[.tup [.int x,.int h,.int dx,.int dy]],deeds:=T.deeds++[.tup [.str "wind",.int x,.int h,.int dx,.int dy]] }
 |shut {ds:List D} {x y:Int} {r:Dn.Out} (n:ds≠[]) (l:ds.length<1000) (e:fm [.int T.hour,.tup ds,.int x,.int y]=some r):Doing T (.tup [.str "shut",.tup ds,.int x,.int y]) r { T with shuts:=T.shuts++[.tup (ds++[.int x,.int y])],deeds:=T.deeds++[.tup (.str "shut" :: ds++[.int x,.int y])] }
 |drift (h:T.hour<24):Doing T (.tup [.str "drift",.lst []]) (.inl .non) { T with hour:=T.hour+1,deeds:=T.deeds++[.tup [.str "drift",.tup []]] }
 |late {ps:List D} {T':BT} (h:24<=T.hour):Doing T (.tup [.str "drift",.lst ps]) (.inr ("Late",[])) T'
def MX(Z:Wq)(C:Addr)(m:Str)(ps:List Str)(sp:Sp):Prop:=∃f fd,Meth Z.K C m f/\fC Z.K fd ps []/\∀base,FnOk Z.P Z.w Z.K Z.mg base (Ex.CX1 Z.P Z.w) 6 f fd ps sp
structure Few(T:BT):Prop where
 deeds:T.deeds.length<60
 winds:T.winds.length<1000
 shuts:T.shuts.length<1000
 bal:T.bal=[]
section
variable{Z:Wq}{base:Heap}{f C:Addr}{fd:QE}
def wA(Z:Wq)(C:Addr):Sp:=λvs H Q E=>∃G b as T v d r T',vs=[.ref b,v]/\BkD Z.K C G H b as T/\Few T/\Den Z.K G v d/\Doing T d r T'/\(∀z,r=.inl z->∀G' H' as',Mv G H G' H' b as as'->BkD Z.K C G' H' b as' T'->Q (.int (T.deeds.length+1)) H')/\
 ∀c fs,r=.inr (c,fs)->∀cls dx' G' H',Grow G H G' H'->Z.mg c=some cls->XD Z.K G' dx' fs->E cls (some dx') H'
theorem Ay(F:Fun Z.K "_law_do" "_law_do" (top 98) f fd)(n:NoA Z.K C)(ml:Z.mg "list" = none)(HW:MX Z C "wind" ["self","first","height","dx","dy"] (uU Z C))(HS:MX Z C "shut" ["self","box","first","last"] (tP Z C))(HD:MX Z C "drift" ["self","orders"] (rm Z C)) :
  FnOk Z.P Z.w Z.K Z.mg base (Ex.CX1 Z.P Z.w) 7 f fd ["_law_book","_law_call"] (wA Z C):=by
 obtain⟨fW,fdW,mW,bW,hW⟩:=HW;obtain⟨fS,fdS,mS,bS,hS⟩:=HS;obtain⟨fD,fdD,mD,bD,hD⟩:=HD;obtain⟨oc,od,kV,doc,pm,an,cdv,ct,osl,rfl,lkk,hcd⟩:=F.ex;have SC:FnScope ["_law_book","_law_call"] ["_law_book","_law_call"] (aA (top 98)):=⟨rfl,rfl,rfl,by decide +kernel,rfl,by decide +kernel,by decide +kernel⟩;refine mr (k:=6) lkk hcd SC (λvs H Q E h=>?_) λA outer s H vs Q E hr h=>?_
 ·obtain⟨G,b,as,T,v,d,r,T',rfl,_⟩:=h
  rfl
 obtain⟨G,b,as,T,v,d,r,T',rfl,k,few,dv,dg,q1,q2⟩:=h
 refine⟨_,ar (cj (cn iQ (dN cB (pv 1) bG (λ_ _=>rfl)) aU (aJ _)) (aH (br (gU (pv 0) n.cl mW (hW base) hr bW .nil (Ex.l9 Ex.gO) (ag (dN cB (pv 1) bG (λ_ _=>rfl)) (ag (dN cB (pv 1) bG (λ_ _=>rfl)) (ag (dN cB (pv 1) bG (λ_ _=>rfl)) (ag (dN cB (pv 1) bG (λ_ _=>rfl)) ax))))))) bp)
  (ar (cj (cn iQ (dN cB (pv 1) bG (λ_ _=>rfl)) aU (aJ _)) (aH (br (gU (pv 0) n.cl mS (hS base) hr bS .nil (Ex.l9 Ex.gO) (ag (dN cB (pv 1) bG (λ_ _=>rfl)) (ag (dN cB (pv 1) bG (λ_ _=>rfl)) (ag (dN cB (pv 1) bG (λ_ _=>rfl)) ax)))))) bp)
  (ar (cj (cn iQ (dN cB (pv 1) bG (λ_ _=>rfl)) aU (aJ _)) pss_no bp)
  (ar (cj (cn iQ (dN cB (pv 1) bG (λ_ _=>rfl)) aU (aJ _)) (aH (br (gU (pv 0) n.cl mD (hD base) hr bD .nil (Ex.l9 Ex.gO) (ag (bw bh (by rfl) ml (by rfl) (ag (dN cB (pv 1) bG (λ_ _=>rfl)) ax)) ax)))) bp) pss_no))),?_⟩
 obtain⟨S,bk,bv⟩:=k.at_;obtain⟨dx,fs,a1,a2,a3,a4,a5,a6,a7,eas,m⟩:=bk
 obtain⟨av,xs,rfl,sq,dl⟩:∃a xs,v=.ref a/\SqT Z.K H a xs/\∃ds,d=.tup ds/\DenL Z.K G xs ds:=by
  have:∃ds,d=.tup ds:=by cases dg<;>exact⟨_,rfl⟩
  obtain⟨ds,rfl⟩:=this;obtain⟨a,xs,rfl,sq,dl⟩:=dv.tupV;exact⟨a,xs,rfl,aE k.gh sq,ds,rfl,dl⟩
 obtain⟨ds,rfl,dl⟩:=dl;cases dg with
 |wind e=>
  rcases dl with _ | ⟨d0,_ | ⟨d1,_ | ⟨d2,_ | ⟨d3,_ | ⟨d4,_ | _⟩⟩⟩⟩⟩
  cases d0;cases d1;cases d2;cases d3;cases d4;refine⟨_,rfl,av,_,_,_,rfl,rfl,sq,rfl,rfl,_,rfl,?_⟩;refine b9 (λ_=>?_) λc=>absurd (decide_eq_true rfl) c;refine⟨_,rfl,b,dx,fs,rfl,m.b,m.no _ (by decide),_,rfl,av,_,_,_,rfl,rfl,sq,rfl,_,rfl,av,_,_,_,rfl,rfl,sq,rfl,_,rfl,av,_,_,_,rfl,rfl,sq,rfl,_,rfl,av,_,_,_,rfl,rfl,sq,rfl,?_⟩;exact⟨G,b,as,T,_,_,_,_,_,rfl,k,few.deeds,few.winds,e,λd rd G' H' mv bk=>q1 d rd G' H' as mv bk,q2⟩
 |shut ne le e=>
  rcases dl with _ | ⟨d0,_ | ⟨d1,_ | ⟨d2,_ | ⟨d3,_ | _⟩⟩⟩⟩
  cases d0;cases d2;cases d3;refine⟨_,rfl,av,_,_,_,rfl,rfl,sq,rfl,rfl,_,rfl,?_⟩;refine b9 (λc=>absurd c (by decide)) λ_=>?_;refine⟨_,rfl,av,_,_,_,rfl,rfl,sq,rfl,rfl,_,rfl,?_⟩;refine b9 (λ_=>?_) λc=>absurd (decide_eq_true rfl) c;refine⟨_,rfl,b,dx,fs,rfl,m.b,m.no _ (by decide),_,rfl,av,_,_,_,rfl,rfl,sq,rfl,_,rfl,av,_,_,_,rfl,rfl,sq,rfl,_,rfl,av,_,_,_,rfl,rfl,sq,rfl,?_⟩;exact⟨G,b,as,T,_,_,_,_,_,rfl,k,few.deeds,few.shuts,d1,ne,le,e,λd rd G' H' mv bk=>q1 d rd G' H' as mv bk,q2⟩
 |drift lt=>
  rcases dl with _ | ⟨d0,_ | ⟨d1,_ | _⟩⟩
  cases d0;refine⟨_,rfl,av,_,_,_,rfl,rfl,sq,rfl,rfl,_,rfl,?_⟩;refine b9 (λc=>absurd c (by decide)) λ_=>?_;refine⟨_,rfl,av,_,_,_,rfl,rfl,sq,rfl,rfl,_,rfl,?_⟩;refine b9 (λc=>absurd c (by decide)) λ_=>?_;refine⟨_,rfl,av,_,_,_,rfl,rfl,sq,rfl,rfl,_,rfl,?_⟩;refine b9 (λc=>absurd c (by decide)) λ_=>?_;refine⟨_,rfl,av,_,_,_,rfl,rfl,sq,rfl,rfl,_,rfl,?_⟩;refine b9 (λ_=>?_) λc=>absurd (decide_eq_true rfl) c;obtain⟨al,ys,rfl,rl,dy⟩:=d1.lstV;cases dy;refine⟨_,rfl,b,dx,fs,rfl,m.b,m.no _ (by decide),_,rfl,av,_,_,_,rfl,rfl,sq,rfl,al,[],rfl,.inl (k.gh.seq rl),λl hl=>?_⟩;have g:=Grow.lay (.lst []) k.gh hl;refine⟨G,b,as,T,l,rfl,k.grow g,few.deeds,few.bal,λ_=>⟨upd_same,λG' H' as' mv bk=>q1 _ rfl G' H' as' (Mv.grow g mv) bk⟩,λh=>absurd lt (Int.not_lt.mpr h)⟩
 |late le=>
  rcases dl with _ | ⟨d0,_ | ⟨d1,_ | _⟩⟩
  cases d0;refine⟨_,rfl,av,_,_,_,rfl,rfl,sq,rfl,rfl,_,rfl,?_⟩;refine b9 (λc=>absurd c (by decide)) λ_=>?_;refine⟨_,rfl,av,_,_,_,rfl,rfl,sq,rfl,rfl,_,rfl,?_⟩;refine b9 (λc=>absurd c (by decide)) λ_=>?_;refine⟨_,rfl,av,_,_,_,rfl,rfl,sq,rfl,rfl,_,rfl,?_⟩;refine b9 (λc=>absurd c (by decide)) λ_=>?_;refine⟨_,rfl,av,_,_,_,rfl,rfl,sq,rfl,rfl,_,rfl,?_⟩;refine b9 (λ_=>?_) λc=>absurd (decide_eq_true rfl) c;obtain⟨al,ys,rfl,rl,dy⟩:=d1.lstV;refine⟨_,rfl,b,dx,fs,rfl,m.b,m.no _ (by decide),_,rfl,av,_,_,_,rfl,rfl,sq,rfl,al,ys,rfl,.inl (k.gh.seq rl),λl hl=>?_⟩;have g:=Grow.lay (.lst ys) k.gh hl;refine⟨G,b,as,T,l,rfl,k.grow g,few.deeds,few.bal,λh=>absurd h (Int.not_lt.mpr le),λ_ cls dx' G' H' g'=>q2 _ _ rfl cls dx' G' H' (g.trans g')⟩
end
structure ExA(Z:Wq)(B:Addr)(c:Str)(C:Addr):Prop where
 ok:OkE Z c C (.ref B::eU)
 kk:Ex.XK1 Z.K C
theorem zk{K:Qb}{C:Addr}:JQ K (.ref C) (.ref C)=some true:=by
 unfold JQ;rw[if_pos (beq_self_eq_true _)]
theorem yt{K:Qb}{B C D:Addr}(h1:Ex.XO K C (.ref B::eU))(h2:Ex.XO K D (.ref B::eU))(ne:C≠D)(nb:D≠B):JQ K (.ref C) (.ref D)=some false:=by
 obtain⟨nm,q,N,bs,hd,sn,sub,ab,col,dd,k0,k1,k2,k3,k5,l1⟩:=h1.ob;obtain⟨nm',q',N',bs',hd',sn',sub',ab',col',dd',j0,j1,j2,j3,j5,l2⟩:=h2.ob;unfold JQ PySem.W.kitCls;rw[if_neg (λz=>ne (Value.ref.inj (beq_iff_eq.mp z)))];have c2:(JO K D).isSome=true:=by unfold JO;rw[l2];rfl
 have t2:PySem.W.typeIn K (.ref D)=some (.type "type"):=by show Option.map _ (Jn D K)=_;rw[l2];rfl
 obtain⟨cd,c1,m1⟩:∃cd,JO K C=some cd/\cd.mro=.ref C :: .ref B::eU:=by unfold JO;rw[l1];exact⟨_,rfl,rfl⟩
 simp only[c2,t2,beq_self_eq_true,Bool.and_self,if_true];show JP K C (.ref D)=_;unfold JP;rw[c1];show(if cd.mro.isEmpty=true then none else some (cd.mro.contains (Ql D)))=_;rw[m1];have e1:(Ql D==Ql C)=false:=beq_eq_false_iff_ne.mpr λz=>ne (Value.ref.inj z).symm;have e2:(Ql D==Ql B)=false:=beq_eq_false_iff_ne.mpr λz=>nb (Value.ref.inj z);rw[if_neg (λz=>nomatch z),QM,QM,e1,e2];rfl
def isx(c:Str)(p1 p2 p3 p4:Pos):Expr:=.Call (.Name "isinstance" p1) [.Name "e" p2,.Name c p3] [] p4
section
variable{X:Cx}{a dx C D:Addr}{oe:Obj}{c:Str}{p1 p2 p3 p4:Pos}
theorem cy(g:Ex.XK1 X.K C)(hc:oe.cls=.ref C)(hd:oe.dict=some dx)(nc:Zb oe=true)(hN:X.N[4]?=some ("e" : Str))(hv:Vis X.env.scope "e")(hg:Gl X "isinstance")(hm:X.mg "isinstance" = none)(hgc:Gl X c)(mc:X.mg c=some (.ref D))(dc:(c==("__debug__" : Str))=false)
  (he:Qn [.Name "e" p2,.Name c p3] X.env=(false,eval (.Name "e" p2) X.env)::Qn [.Name c p3] X.env) (he2:Qn [.Name c p3] X.env=(false,eval (.Name c p3) X.env)::Qn [] X.env) (hpl:(Je p4 (Qn [.Name c p3] X.env)).any (·.1)=false) :
  PE (Mk3 X a oe) (isx c p1 p2 p3 p4) (tCB (AE X.K C a dx) (pN (qh 4) (pN (tC (.ref D)) xj))):=
 d6 (X:=Mk3 X a oe) (uj g hc hd nc) hg hm PyProof.Rows.boot_isinstance (ag (jw hN hv) (ag (kW (v:=.ref D) hgc mc rfl dc) ax he2) he) (by decide) (by decide) he hpl
end
theorem rg{X:Cx}{pins:List (Addr×Obj)}{s:Qd}{σ:L2.St}{H:Hp}{D:Ends}{st:List Stmt}{t:TS}(I:Inv X pins σ H s)(h:PSs X st t)(q:t D σ H):Qf (Qh X.prog X.w) X.A (execs st X.env) (SP X pins D) X.xe s:=h pins s σ H D I q
theorem wU{X:Cx}{pins:List (Addr×Obj)}{s:Qd}{σ:L2.St}{He Ge G H:Hp}{D:Ends}{st:List Stmt}{g:Ev->Option Fl}{ε:Ev}{r:Fl}(I:Inv X pins σ H s)(h:DSs X st g)(S:Sta X.K He Ge G H σ ε)(e:g ε=some r)(P:we X He Ge r D) :
  Qf (Qh X.prog X.w) X.A (execs st X.env) (SP X pins D) X.xe s:=let⟨_,t1,t2⟩:=h;t1 pins s σ H D I (t2 He Ge G H σ ε r D S e P)
def nms:List Str:=["BadName","Taken","NoBalloon","BadHour","Past","Late","BadPlace","BadHeight","BadLoad","BadWind","BadBox","BadOrder","Twice","NotAloft","NotLost","NotLow","OutOfSight","NoHold","Full"]
theorem ra{K:Qb}{G:Hp}:∀bs:List Bool,DenL K G (bs.map V.bl) (bs.map D.bl)
 |[]=>.nil
 |b::r=>.cons (.bl b) (ra r)
structure Cls19(Z:Wq)(B:Addr)(c:Nat->Addr):Prop where
 b:OkE Z "BookError" B eU
 ex:∀i,i<19->ExA Z B (nms.getD i "") (c i)
 inj:∀i j,i<19->j<19->c i=c j->i=j
 nb:∀i,i<19->c i≠B
theorem Cls19.kit{Z:Wq}{B:Addr}{c:Nat->Addr}(h:Cls19 Z B c){i j:Nat}(hi:i<19)(hj:j<19):JQ Z.K (.ref (c j)) (.ref (c i))=some (decide (i=j)):=by
 by_cases e:i=j
 ·subst e;rw[decide_eq_true rfl];exact zk
 ·rw[decide_eq_false e];exact yt (h.ex j hj).ok.xo (h.ex i hi).ok.xo (λz=>e (h.inj i j hi hj z.symm)) (h.nb i hi)
def zy(j:Nat):List Bool:=(Q7 19).map λi=>decide (i=j)
abbrev Ab:List Str:=["_law_book","_law_call","_law_found","_law_flags","e"]
def u0:Ev->Option Fl:=aT (sIf (aX gtI (eQ fU (ai 3)) (eC (.int 0))) (dm (bt km (aj (aM 3) aZ))) ck) (dm (aM 2))
theorem wc:∀j,j<19->u0 [.un,.un,.dat .non,.dat (.lst ((zy j).map D.bl)),.un]=some (.rt (.tup [.str "no",.str (nms.getD j "")]))
 |0,_=>by rfl
 |1,_=>by rfl
 |2,_=>by rfl
 |3,_=>by rfl
 |4,_=>by rfl
 |5,_=>by rfl
 |6,_=>by rfl
 |7,_=>by rfl
 |8,_=>by rfl
 |9,_=>by rfl
 |10,_=>by rfl
 |11,_=>by rfl
 |12,_=>by rfl
 |13,_=>by rfl
 |14,_=>by rfl
 |15,_=>by rfl
 |16,_=>by rfl
 |17,_=>by rfl
 |18,_=>by rfl
 |n+19,h=>absurd h (by omega)
theorem w8{K:Qb}{He G H:Hp}{v1 v2:V}{p:Addr}{bs:List Bool}(hp:G p=some (.lst (bs.map V.bl))):EnvD K He G H [some v1,some v2,some .non,some (.ref p),none] [.un,.un,.dat .non,.dat (.lst (bs.map D.bl)),.un] where
 len:=rfl
 dat:=λ{i d} e=>by
  match i,e with
  |0,e=>cases e
  |1,e=>cases e
  |4,e=>cases e
  |2,e=>cases e;exact⟨_,rfl,.non⟩
  |3,e=>cases e;exact⟨_,rfl,.lst (.inl hp) (ra bs)⟩
 own:=λ{i d} e=>by match i,e with | 0,e=>cases e | 1,e=>cases e | 2,e=>cases e | 3,e=>cases e | 4,e=>cases e
 apart:=λ{i j d d' a} e=>by match i,e with | 0,e=>cases e | 1,e=>cases e | 2,e=>cases e | 3,e=>cases e | 4,e=>cases e
 odi:=λ{i d} e=>by match i,e with | 0,e=>cases e | 1,e=>cases e | 2,e=>cases e | 3,e=>cases e | 4,e=>cases e
 apartD:=λ{i j d d' a} e=>by match i,e with | 0,e=>cases e | 1,e=>cases e | 2,e=>cases e | 3,e=>cases e | 4,e=>cases e
structure Ahead(Z:Wq)(B:Addr)(c:Nat->Addr)(n:Str)(S:Addr)(bS:List Qa):Prop where
 mg:Z.mg n=some (.ref S)
 xo:Ex.XO Z.K S bS
 nb:S≠B
 nc:∀i,i<19->S≠c i
theorem Ahead.no{Z:Wq}{B S:Addr}{c:Nat->Addr}{n:Str}{bS:List Qa}(h:Ahead Z B c n S bS){j:Nat}(hj:j<19):(Ql (c j) :: .ref B::eU).contains (.ref S)=false:=by
 have e1:(Ql S==Ql (c j))=false:=beq_eq_false_iff_ne.mpr λz=>h.nc j hj (Value.ref.inj z);have e2:(Ql S==Ql B)=false:=beq_eq_false_iff_ne.mpr λz=>h.nb (Value.ref.inj z);rw[QM,QM,e1,e2];rfl
def xJ(Z:Wq)(C:Addr):Sp:=λvs H Q _=>∃G b as T v d r T',vs=[.ref b,v]/\BkD Z.K C G H b as T/\Few T/\Den Z.K G v d/\Doing T d r T'/\(∀z,r=.inl z->∀G' H' as',Mv G H G' H' b as as'->BkD Z.K C G' H' b as' T'->Q (.int (T.deeds.length+1)) H')/\
 ∀x fs,r=.inr (x,fs)->(∃j,j<19/\nms.getD j "" = x)/\∀v' G' H',Grow G H G' H'->Den Z.K G' v' (.tup [.str "no",.str x])->Q v' H'
theorem yq{Z:Wq}{base:Heap}{f C B SA NA:Addr}{fd:QE}{c:Nat->Addr}{bS bN:List Qa}(F:Fun Z.K "_law_try" "_law_try" (top 101) f fd)(M:Md Z)(HD:∃f fd,FA Z.K Z.mg "_law_do" (top 98) ["_law_book","_law_call"] f fd/\∀base,FnOk Z.P Z.w Z.K Z.mg base (Ex.CX1 Z.P Z.w) 7 f fd ["_law_book","_law_call"] (wA Z C))
  (HO:kF Z) (cs:Cls19 Z B c) (aS:Ahead Z B c "Stopped" SA bS) (aN:Ahead Z B c "NothingFits" NA bN):FnOk Z.P Z.w Z.K Z.mg base CX0 8 f fd ["_law_book","_law_call"] (xJ Z C):=by
 obtain⟨fD,fdD,FD,hD⟩:=HD;have S:FnScope Ab ["_law_book","_law_call"] (aA (top 101)):=⟨rfl,rfl,rfl,by decide +kernel,rfl,by decide +kernel,by decide +kernel⟩;refine F.ok (k:=7) S (λvs H Q E h=>?_) (λcdv A outer s H vs Q E hr h=>?_)
 ·obtain⟨G,b,as,T,v,d,r,T',rfl,_⟩:=h
  rfl
 obtain⟨G,b,as,T,v,d,r,T',rfl,k,few,dv,dg,q1,q2⟩:=h;refine⟨_,ar (bg (i:=2) S.nd rfl (Qs rfl) vm) (ar (bg (i:=3) S.nd rfl (Qs rfl) (cR ax)) Ex.rL),?_⟩;refine⟨QA _,λp3 hp3 pins s1 I=>?_⟩;have g3:Grow G H G (upd H p3 (.lst [])):=.lay _ k.gh hp3;have h3:upd H p3 (.lst []) p3=some (.lst []):=upd_same;generalize upd H p3 (.lst [])=H1 at *;have k1:=k.grow g3;refine Zz (wpAny_Try_except (Zz (wpAny_Assign_Name (Jx (fZ I rfl FD.mgf ?_ (by decide))) rfl)));refine Zo (h₀:=base) I.ok.mod.kin FD.fu.kp (Jb ((ag (pv 0) (ag (pv 1) ax)) _ pins s1 _ H1 (λvs H2=>vs=[.ref b,v]/\H2=H1) I ⟨_,rfl,_,rfl,rfl,rfl⟩) (λus s2 ⟨vs,H2,I2,rv,ev,eh⟩=>⟨I2.kIn,?_⟩) λ_ _ z=>z.elim) rfl rfl;subst ev eh;have r2:a8 [.ref b,v] ([]++us):=rv
 have SPD:wA Z C [.ref b,v] H2 (λv' H'=>v'=.int (T.deeds.length+1)/\(∃z,r=.inl z)/\∃G' as',Mv G H2 G' H' b as as'/\BkD Z.K C G' H' b as' T') (λcls od H'=>∃x fs dx' G',r=.inr (x,fs)/\od=some dx'/\Grow G H2 G' H'/\Z.mg x=some cls/\XD Z.K G' dx' fs):=
  ⟨G,b,as,T,v,d,r,T',rfl,k1,few,dv,dg,λz e G' H' as' mv bk=>⟨rfl,⟨z,e⟩,G',as',mv,bk⟩,λx fs e cls dx' G' H' g m xd=>⟨x,fs,dx',G',e,rfl,g,m,xd⟩⟩
 have hlen:([]++us++[]).length=2:=by rw[JX,<-r2.length];rfl
 have bb:=FD.bi s2 ([]++us) I2.kIn hlen;rw[JX] at bb;refine ZD (Zt ((hD base).run _ _ s2 H2 ⟨[]++us,[]⟩ ([]++us) [.ref b,v] _ _ hr I2.env0 bb r2 SPD) λres s3 z=>?_)
 have np:p3≠b/\p3∉as:=by
  obtain⟨S0,bk,_⟩:=k.at_;obtain⟨_,_,e⟩:=bk.ins;constructor
  ·intro z;rw[<-z,hp3] at e;cases e
  ·intro z;obtain⟨_,e⟩:=bk.has z;rw[hp3] at e;cases e
 cases res with
 |ok fl=>
  cases fl with
  |ret u=>
   obtain⟨v4,H4,I4,rv4,ev,⟨z,ez⟩,G',as',mv,bk⟩:=I2.after z;subst ev;refine iq I4 S.nd (i:=2) rfl (Qs rfl) rv4 (λs5 I5=>?_) (.inl rfl);refine Zn (Zn ?_);refine rg I5 (ar (cj (cn xT (d6 dh rfl M.b_len Zw (ag (pv 3) ax)) bG (aJ _)) Ex.rL bp) (aH (br (pv 2)))) ?_;refine⟨_,rfl,p3,[],rfl,.inl (SqL.of (mv.out _ _ np.1 np.2 h3)),_,_,rfl,rfl,_,rfl,?_⟩;refine b9 (λc=>absurd c (by decide)) λ_=>?_;exact⟨_,rfl,q1 z ez G' H4 as' (Mv.grow g3 mv) bk⟩
  |next=>exact QS z
  |brk=>exact QS z
  |cont=>exact QS z
 |error ex=>
  obtain⟨a,cls,dxe,H4,rfl,os4,bare,un,hok,xat,x,fs,dx',G4,er,ed,g4,mc,xd⟩:=z;cases ed;obtain⟨⟨j,hj,ex⟩,q3⟩:=q2 x fs er;have A:=cs.ex j hj;rw[ex] at A;have ecl:cls=.ref (c j):=Option.some.inj (mc.symm.trans A.ok.mg);subst ecl;obtain⟨vs,hv,_⟩:=xd;have hv:=g4.gh _ _ hv;refine Ex.vQ (R:=λσ4 H5=>∃p,σ4=[some (.ref b),some v,some .non,some (.ref p),some (.ref a)]/\aD H4 H5/\H4 p=none/\H5 p=some (.lst ((zy j).map V.bl))) (pre:=[_,_]) ?_ I2 rfl rfl os4 bare un hok xat A.ok.xo cs.b.xo (by simp) rfl cs.b.mg (by decide) rfl S.nd (i:=4) rfl (λoe s4 oc odd nc I4=>?_) λσ4 H5 s5 hR I5=>?_
  ·intro y hy
   obtain rfl | hy:=Qm.mp hy
   ·exact⟨_,_,_,_,_,_,SA,bS,rfl,rfl,aS.mg,aS.xo,aS.no hj,by decide⟩
   ·obtain rfl | hy:=Qm.mp hy
    ·exact⟨_,_,_,_,_,_,NA,bN,rfl,rfl,aN.mg,aN.xo,aN.no hj,by decide⟩
    ·cases hy
  ·refine uq I4 (ar (bg (i:=3) S.nd rfl (Qs rfl) (cR (ag (cy A.kk oc odd nc rfl (Qs rfl) rfl M.b_isinstance rfl (cs.ex 0 (by decide)).ok.mg (by decide) rfl rfl rfl) (ag (cy A.kk oc odd nc rfl (Qs rfl) rfl M.b_isinstance rfl (cs.ex 1 (by decide)).ok.mg (by decide) rfl rfl rfl) (ag (cy A.kk oc odd nc rfl (Qs rfl) rfl M.b_isinstance rfl (cs.ex 2 (by decide)).ok.mg (by decide) rfl rfl rfl) (ag (cy A.kk oc odd nc rfl (Qs rfl) rfl M.b_isinstance rfl (cs.ex 3 (by decide)).ok.mg (by decide) rfl rfl rfl) ax)))))) (ar (bg (i:=3) S.nd rfl (Qs rfl) (gH nH (pv 3) (cR (ag (cy A.kk oc odd nc rfl (Qs rfl) rfl M.b_isinstance rfl (cs.ex 4 (by decide)).ok.mg (by decide) rfl rfl rfl) (ag (cy A.kk oc odd nc rfl (Qs rfl) rfl M.b_isinstance rfl (cs.ex 5 (by decide)).ok.mg (by decide) rfl rfl rfl) (ag (cy A.kk oc odd nc rfl (Qs rfl) rfl M.b_isinstance rfl (cs.ex 6 (by decide)).ok.mg (by decide) rfl rfl rfl) (ag (cy A.kk oc odd nc rfl (Qs rfl) rfl M.b_isinstance rfl (cs.ex 7 (by decide)).ok.mg (by decide) rfl rfl rfl) ax))))))) (ar (bg (i:=3) S.nd rfl (Qs rfl) (gH nH (pv 3) (cR (ag (cy A.kk oc odd nc rfl (Qs rfl) rfl M.b_isinstance rfl (cs.ex 8 (by decide)).ok.mg (by decide) rfl rfl rfl) (ag (cy A.kk oc odd nc rfl (Qs rfl) rfl M.b_isinstance rfl (cs.ex 9 (by decide)).ok.mg (by decide) rfl rfl rfl) (ag (cy A.kk oc odd nc rfl (Qs rfl) rfl M.b_isinstance rfl (cs.ex 10 (by decide)).ok.mg (by decide) rfl rfl rfl) (ag (cy A.kk oc odd nc rfl (Qs rfl) rfl M.b_isinstance rfl (cs.ex 11 (by decide)).ok.mg (by decide) rfl rfl rfl) ax))))))) (ar (bg (i:=3) S.nd rfl (Qs rfl) (gH nH (pv 3) (cR (ag (cy A.kk oc odd nc rfl (Qs rfl) rfl M.b_isinstance rfl (cs.ex 12 (by decide)).ok.mg (by decide) rfl rfl rfl) (ag (cy A.kk oc odd nc rfl (Qs rfl) rfl M.b_isinstance rfl (cs.ex 13 (by decide)).ok.mg (by decide) rfl rfl rfl) (ag (cy A.kk oc odd nc rfl (Qs rfl) rfl M.b_isinstance rfl (cs.ex 14 (by decide)).ok.mg (by decide) rfl rfl rfl) (ag (cy A.kk oc odd nc rfl (Qs rfl) rfl M.b_isinstance rfl (cs.ex 15 (by decide)).ok.mg (by decide) rfl rfl rfl) ax))))))) (aH (bg (i:=3) S.nd rfl (Qs rfl) (gH nH (pv 3) (cR (ag (cy A.kk oc odd nc rfl (Qs rfl) rfl M.b_isinstance rfl (cs.ex 16 (by decide)).ok.mg (by decide) rfl rfl rfl) (ag (cy A.kk oc odd nc rfl (Qs rfl) rfl M.b_isinstance rfl (cs.ex 17 (by decide)).ok.mg (by decide) rfl rfl rfl) (ag (cy A.kk oc odd nc rfl (Qs rfl) rfl M.b_isinstance rfl (cs.ex 18 (by decide)).ok.mg (by decide) rfl rfl rfl) ax))))))))))) ?_
   refine⟨_,rfl,vs,c 0,_,rfl,hv,cs.kit (by decide) hj,_,rfl,vs,c 1,_,rfl,hv,cs.kit (by decide) hj,_,rfl,vs,c 2,_,rfl,hv,cs.kit (by decide) hj,_,rfl,vs,c 3,_,rfl,hv,cs.kit (by decide) hj,(by show 4<=Qj;decide),λp5 hp5=>?_⟩;have g0:=a_ (.lst [V.bl (decide (0=j)),V.bl (decide (1=j)),V.bl (decide (2=j)),V.bl (decide (3=j))]) hp5;refine⟨_,rfl,_,rfl,vs,c 4,_,rfl,g0 _ _ hv,cs.kit (by decide) hj,_,rfl,vs,c 5,_,rfl,g0 _ _ hv,cs.kit (by decide) hj,_,rfl,vs,c 6,_,rfl,g0 _ _ hv,cs.kit (by decide) hj,_,rfl,vs,c 7,_,rfl,g0 _ _ hv,cs.kit (by decide) hj,(by show 4<=Qj;decide),λa1 ha1=>?_⟩;have u1:=a_ (.lst [V.bl (decide (4=j)),V.bl (decide (5=j)),V.bl (decide (6=j)),V.bl (decide (7=j))]) ha1;refine⟨p5,a1,_,_,rfl,rfl,u1 _ _ upd_same,upd_same,(by show 8<=Qj;decide),λb1 hb1=>?_⟩;have w1:=g0.trans (u1.trans (a_ (.lst ([V.bl (decide (0=j)),V.bl (decide (1=j)),V.bl (decide (2=j)),V.bl (decide (3=j))]++[V.bl (decide (4=j)),V.bl (decide (5=j)),V.bl (decide (6=j)),V.bl (decide (7=j))])) hb1));have f1:=(g0.trans u1).free hb1;refine⟨_,rfl,_,rfl,vs,c 8,_,rfl,w1 _ _ hv,cs.kit (by decide) hj,_,rfl,vs,c 9,_,rfl,w1 _ _ hv,cs.kit (by decide) hj,_,rfl,vs,c 10,_,rfl,w1 _ _ hv,cs.kit (by decide) hj,_,rfl,vs,c 11,_,rfl,w1 _ _ hv,cs.kit (by decide) hj,(by show 4<=Qj;decide),λa2 ha2=>?_⟩;have u2:=a_ (.lst [V.bl (decide (8=j)),V.bl (decide (9=j)),V.bl (decide (10=j)),V.bl (decide (11=j))]) ha2;refine⟨b1,a2,_,_,rfl,rfl,u2 _ _ upd_same,upd_same,(by show 12<=Qj;decide),λb2 hb2=>?_⟩;have w2:=w1.trans (u2.trans (a_ (.lst (([V.bl (decide (0=j)),V.bl (decide (1=j)),V.bl (decide (2=j)),V.bl (decide (3=j))]++[V.bl (decide (4=j)),V.bl (decide (5=j)),V.bl (decide (6=j)),V.bl (decide (7=j))])++[V.bl (decide (8=j)),V.bl (decide (9=j)),V.bl (decide (10=j)),V.bl (decide (11=j))])) hb2));have f2:=(w1.trans u2).free hb2;refine⟨_,rfl,_,rfl,vs,c 12,_,rfl,w2 _ _ hv,cs.kit (by decide) hj,_,rfl,vs,c 13,_,rfl,w2 _ _ hv,cs.kit (by decide) hj,_,rfl,vs,c 14,_,rfl,w2 _ _ hv,cs.kit (by decide) hj,_,rfl,vs,c 15,_,rfl,w2 _ _ hv,cs.kit (by decide) hj,(by show 4<=Qj;decide),λa3 ha3=>?_⟩;have u3:=a_ (.lst [V.bl (decide (12=j)),V.bl (decide (13=j)),V.bl (decide (14=j)),V.bl (decide (15=j))]) ha3;refine⟨b2,a3,_,_,rfl,rfl,u3 _ _ upd_same,upd_same,(by show 16<=Qj;decide),λb3 hb3=>?_⟩;have w3:=w2.trans (u3.trans (a_ (.lst ((([V.bl (decide (0=j)),V.bl (decide (1=j)),V.bl (decide (2=j)),V.bl (decide (3=j))]++[V.bl (decide (4=j)),V.bl (decide (5=j)),V.bl (decide (6=j)),V.bl (decide (7=j))])++[V.bl (decide (8=j)),V.bl (decide (9=j)),V.bl (decide (10=j)),V.bl (decide (11=j))])++[V.bl (decide (12=j)),V.bl (decide (13=j)),V.bl (decide (14=j)),V.bl (decide (15=j))])) hb3));have f3:=(w2.trans u3).free hb3;refine⟨_,rfl,_,rfl,vs,c 16,_,rfl,w3 _ _ hv,cs.kit (by decide) hj,_,rfl,vs,c 17,_,rfl,w3 _ _ hv,cs.kit (by decide) hj,_,rfl,vs,c 18,_,rfl,w3 _ _ hv,cs.kit (by decide) hj,(by show 3<=Qj;decide),λa4 ha4=>?_⟩;have u4:=a_ (.lst [V.bl (decide (16=j)),V.bl (decide (17=j)),V.bl (decide (18=j))]) ha4;refine⟨b3,a4,_,_,rfl,rfl,u4 _ _ upd_same,upd_same,(by show 19<=Qj;decide),λb4 hb4=>?_⟩;have w4:=w3.trans (u4.trans (a_ (.lst (((([V.bl (decide (0=j)),V.bl (decide (1=j)),V.bl (decide (2=j)),V.bl (decide (3=j))]++[V.bl (decide (4=j)),V.bl (decide (5=j)),V.bl (decide (6=j)),V.bl (decide (7=j))])++[V.bl (decide (8=j)),V.bl (decide (9=j)),V.bl (decide (10=j)),V.bl (decide (11=j))])++[V.bl (decide (12=j)),V.bl (decide (13=j)),V.bl (decide (14=j)),V.bl (decide (15=j))])++[V.bl (decide (16=j)),V.bl (decide (17=j)),V.bl (decide (18=j))])) hb4));have f4:=(w3.trans u4).free hb4;exact⟨b4,rfl,w4,f4,upd_same⟩
  ·obtain⟨p,rfl,g5,hn5,hp5⟩:=hR
   have gs:=Grow.seal (a:=p) ⟨g5,aD.refl G4,g4.gh.trans g5,λ_ _ _ e=>e⟩ hn5 (g4.gh.free hn5) hp5
   refine wU (He:=H5) (Ge:=_) (G:=_) (ε:=[.un,.un,.dat .non,.dat (.lst ((zy j).map D.bl)),.un]) (r:=.rt (.tup [.str "no",.str (nms.getD j "")])) (g:=u0) I5
    (ay (bY (bc gw (DE.db (gN (ah 3) M.b_len)) (DE.db ae) (aJ _)) (aC (cf (cF HO hr (aa (aG 3) aB)))) ba) (aC (cf (aG 2))))
    ⟨Grow.refl gs.gh,w8 upd_same⟩ (wc j hj) (λv' G' H' g dn=>?_)
   rw[ex] at dn;exact q3 v' G' H' (g3.trans (g4.trans (gs.trans g))) dn
abbrev tk(x:Str):L2.Key:=.inr x
structure MK(K:Qb)(G:Hp)(kvs:List (L2.Key×V))(T:BT):Prop where
 few:kvs.length<=100
 hills:∃v,cH kvs (tk "hills")=some v/\Den K G v (.lst T.hills)
 cool:∃v,cH kvs (tk "cool")=some v/\Den K G v (.lst T.cool)
 hour:cH kvs (tk "hour")=some (.int T.hour)
 winds:∃v,cH kvs (tk "winds")=some v/\Den K G v (.lst T.winds)
 shuts:∃v,cH kvs (tk "shuts")=some v/\Den K G v (.lst T.shuts)
 fleet:∃v,cH kvs (tk "fleet")=some v/\Den K G v (.lst [])
 deeds:∃v,cH kvs (tk "deeds")=some v/\Den K G v (.lst T.deeds)
def MA(K:Qb)(G:Hp)(a:Addr)(T:BT):Prop:=∃kvs,G a=some (.dK kvs)/\MK K G kvs T
theorem MK.mono{K:Qb}{G G':Hp}{kvs:List (L2.Key×V)}{T:BT}(h:MK K G kvs T)(g:aD G G'):MK K G' kvs T:=by
 have f:∀{k:L2.Key} {d:D},(∃v,cH kvs k=some v/\Den K G v d)->∃v,cH kvs k=some v/\Den K G' v d:=λ⟨v,e,d⟩=>⟨v,e,d.mono g⟩;exact⟨h.few,f h.hills,f h.cool,h.hour,f h.winds,f h.shuts,f h.fleet,f h.deeds⟩
theorem MA.mono{K:Qb}{G G':Hp}{a:Addr}{T:BT}(h:MA K G a T)(g:aD G G'):MA K G' a T:=let⟨kvs,e,m⟩:=h;⟨kvs,g _ _ e,m.mono g⟩
theorem Grow.sealO{G H G' H':Hp}{a:Addr}{o:HO}(g:Grow G H G' H')(hn:H a=none)(gn:G' a=none):Grow G H (upd G' a o) (upd H' a o) where
 hh:=λb u e=>by rw[ao (ak e hn)];exact g.hh _ _ e
 gg:=λb u e=>by have z:=g.gg _ _ e;rw[ao (ak z gn)];exact z
 gh:=λb u e=>by
  by_cases z:b=a
  ·subst z;rw[upd_same] at e;rw[upd_same];exact e
  ·rw[ao z] at e;rw[ao z];exact g.gh _ _ e
 fo:=λb u e z=>by rw[ao (ak e hn)];exact g.fo _ _ e z
section
variable{Z:Wq}{base:Heap}{f C:Addr}{fd:QE}
abbrev T0(hs cs:List D):BT:=⟨hs,cs,0,[],[],[],[],[]⟩
def pI(Z:Wq):Sp:=λvs H Q _=>∃G v1 v2 hs cs,vs=[v1,v2]/\aD G H/\Den Z.K G v1 (.lst hs)/\Den Z.K G v2 (.lst cs)/\∀a G' H',Grow G H G' H'->MA Z.K G' a (T0 hs cs)->Q (.ref a) H'
theorem sO(F:Fun Z.K "_law_opened" "_law_opened" (top 89) f fd):FnOk Z.P Z.w Z.K Z.mg base CX0 1 f fd ["_law_hills","_law_cool"] (pI Z):=by
 have SC:FnScope ["_law_hills","_law_cool"] ["_law_hills","_law_cool"] (aA (top 89)):=⟨rfl,rfl,rfl,by decide +kernel,rfl,by decide +kernel,by decide +kernel⟩;refine F.ok SC (λvs H Q E h=>?_) (λcdv A outer s H vs Q E hr h=>?_)
 ·obtain⟨G,v1,v2,hs,cs,rfl,_⟩:=h
  rfl
 obtain⟨G,v1,v2,hs,cs,rfl,gh,d1,d2,q⟩:=h;refine⟨_,aH (br (wY (fG aU (pv 0) (fG aU (pv 1) (fG aU bG (fG aU (cR ax) (fG aU (cR ax) (fG aU (cR ax) (fG aU (cR ax) w_))))))) rfl rfl (by decide) (by decide))),?_⟩;intro p hp;have g0:Grow G H G (upd H p (.dK [])):=.lay _ gh hp;have e0:upd H p (.dK []) p=some (.dK []):=upd_same;refine⟨_,rfl,_,rfl,QA _,λp1 h1=>?_⟩;have g1:=g0.trans (Grow.new (.lst []) g0.gh h1);refine⟨QA _,λp2 h2=>?_⟩;have g2:=g1.trans (Grow.new (.lst []) g1.gh h2);refine⟨QA _,λp3 h3=>?_⟩;have g3:=g2.trans (Grow.new (.lst []) g2.gh h3);refine⟨QA _,λp4 h4=>?_⟩;have g4:=g3.trans (Grow.new (.lst []) g3.gh h4);have gp:∀{X:Hp},aD X H->X p=none:=λz=>z.free hp;have hs0:aD (upd H p (.dK [])) _:=(Grow.new (.lst []) g0.gh h1).hh.trans ((Grow.new (.lst []) g1.gh h2).hh.trans ((Grow.new (.lst []) g2.gh h3).hh.trans (Grow.new (.lst []) g3.gh h4).hh));refine⟨hs0 _ _ e0,[(tk "hills",v1),(tk "cool",v2),(tk "hour",.int 0),(tk "winds",.ref p1),(tk "shuts",.ref p2),(tk "fleet",.ref p3),(tk "deeds",.ref p4)],rfl,(by decide:(7:Nat)<=15),?_⟩;have n1:p1≠p:=Ne.symm (ak e0 h1);have f1:=(Grow.new (.lst []) g0.gh h1).hh;have f2:=f1.trans (Grow.new (.lst []) g1.gh h2).hh;have f3:=f2.trans (Grow.new (.lst []) g2.gh h3).hh;have n2:p2≠p:=Ne.symm (ak (f1 _ _ e0) h2);have n3:p3≠p:=Ne.symm (ak (f2 _ _ e0) h3);have n4:p4≠p:=Ne.symm (ak (f3 _ _ e0) h4);have gn:upd (upd (upd (upd G p1 (.lst [])) p2 (.lst [])) p3 (.lst [])) p4 (.lst []) p=none:=by rw[ao (Ne.symm n4),ao (Ne.symm n3),ao (Ne.symm n2),ao (Ne.symm n1)];exact gp gh
 have ge:=Grow.sealO (o:=.dK (jv [] [(tk "hills",v1),(tk "cool",v2),(tk "hour",.int 0),(tk "winds",.ref p1),(tk "shuts",.ref p2),(tk "fleet",.ref p3),(tk "deeds",.ref p4)])) g4 hp gn;have c2:=(Grow.new (.lst []) g1.gh h2).gg;have c3:=(Grow.new (.lst []) g2.gh h3).gg;have c4:=(Grow.new (.lst []) g3.gh h4).gg;have cp:aD (upd (upd (upd (upd G p1 (.lst [])) p2 (.lst [])) p3 (.lst [])) p4 (.lst [])) _:=a_ (.dK (jv [] [(tk "hills",v1),(tk "cool",v2),(tk "hour",.int 0),(tk "winds",.ref p1),(tk "shuts",.ref p2),(tk "fleet",.ref p3),(tk "deeds",.ref p4)])) gn;exact q p _ _ ge ⟨_,upd_same,(by decide:(7:Nat)<=100),⟨v1,rfl,d1.mono ge.gg⟩,⟨v2,rfl,d2.mono ge.gg⟩,rfl,⟨_,rfl,.lst (.inl (cp _ _ (c4 _ _ (c3 _ _ (c2 _ _ upd_same))))) .nil⟩,⟨_,rfl,.lst (.inl (cp _ _ (c4 _ _ (c3 _ _ upd_same)))) .nil⟩,⟨_,rfl,.lst (.inl (cp _ _ (c4 _ _ upd_same))) .nil⟩,⟨_,rfl,.lst (.inl (cp _ _ upd_same)) .nil⟩⟩
def tU(Z:Wq):Sp:=λvs H Q _=>∃G a kvs T,vs=[.ref a]/\aD G H/\H a=some (.dK kvs)/\MK Z.K G kvs T/\∀p G' H',Grow G H G' H'->Den Z.K G' (.ref p) (.tup [.lst T.hills,.lst T.cool,.lst T.winds,.lst T.shuts])->Q (.ref p) H'
theorem zb(F:Fun Z.K "_law_air" "_law_air" (top 90) f fd):FnOk Z.P Z.w Z.K Z.mg base CX0 1 f fd ["_law_model"] (tU Z):=by
 have SC:FnScope ["_law_model"] ["_law_model"] (aA (top 90)):=⟨rfl,rfl,rfl,by decide +kernel,rfl,by decide +kernel,by decide +kernel⟩;refine F.ok SC (λvs H Q E h=>?_) (λcdv A outer s H vs Q E hr h=>?_)
 ·obtain⟨G,a,kvs,T,rfl,_⟩:=h
  rfl
 obtain⟨G,a,kvs,T,rfl,gh,ha,m,q⟩:=h;have hu:=QI (Jt (by decide:1<=64) _) hr.units;refine⟨_,aH (br (eV (ag (cx hu (pv 0) aU (λ_ _=>rfl)) (ag (cx hu (pv 0) aU (λ_ _=>rfl)) (ag (cx hu (pv 0) aU (λ_ _=>rfl)) (ag (cx hu (pv 0) aU (λ_ _=>rfl)) ax)))))),?_⟩;obtain⟨w1,e1,d1⟩:=m.hills;obtain⟨w2,e2,d2⟩:=m.cool;obtain⟨w3,e3,d3⟩:=m.winds;obtain⟨w4,e4,d4⟩:=m.shuts;have gt:∀{x:Str} {v:V},cH kvs (tk x)=some v->jy H a (.str x) (some v):=λ{x v} e=>by rw[<-e];exact jy.k (k:=tk x) ha
 refine⟨_,rfl,a,_,rfl,gt e1,_,rfl,a,_,rfl,gt e2,_,rfl,a,_,rfl,gt e3,_,rfl,a,_,rfl,gt e4,(by show 4<=Qj;decide),λp hp=>?_⟩;have g:=Grow.new (.tup [w1,w2,w3,w4]) gh hp;exact q p _ _ g (.tup (SqT.of upd_same) (.cons (d1.mono g.gg) (.cons (d2.mono g.gg) (.cons (d3.mono g.gg) (.cons (d4.mono g.gg) .nil)))))
end
def tDe(K:Qb)(f:Ev->Option D):TE:=λσ H Q=>∃He G ε d,aD G H/\EnvD K He G H σ ε/\f ε=some d/\∀v G' H',Grow G H G' H'->Den K G' v d->Q v H'
theorem cV{X:Cx}{e:Expr}{f:Ev->Option D}(h:DE X e f):PE X e (tDe X.K f):=by
 obtain⟨t,p1,p2⟩:=h;rintro pins s σ H Q I ⟨He,G,ε,d,gh,E,e,q⟩;exact p1 pins s σ H Q I (p2 He G H σ ε d Q gh E e q)
theorem jN{K:Qb}{He G H:Hp}{σ:L2.St}{i:Nat}{v:V}{d:D}(hv:σ[i]?=some (some v))(dn:Den K G v d):EnvD K He G H σ ((Jy σ.length Sl.un).set i (.dat d)):=by
 have e:σ.set i (some v)=σ:=JK λj=>by
  by_cases z:i=j
  ·subst z
   obtain⟨lt,_⟩:=QB.mp hv;rw[JR lt,hv]
  ·rw[J2 z]
 have:=(gP (K:=K) (He:=He) (G:=G) (H:=H) σ).put (i:=i) dn;rw[e] at this;exact this
theorem jW{kvs:List (L2.Key×V)}{k:L2.Key}{v u:V}(h:cH kvs k=some u):(dM kvs k v).length=kvs.length:=by
 unfold dM;rw[iH,h,if_pos (show(some u).isSome=true from rfl),QX]
theorem mn{kvs:List (L2.Key×V)}{k:L2.Key}{v:V}:cH (dM kvs k v) k=some v:=by rw[pU,if_pos rfl]
theorem lJ{kvs:List (L2.Key×V)}{k j:L2.Key}{v:V}(h:j≠k):cH (dM kvs k v) j=cH kvs j:=by rw[pU,if_neg h]
section
variable{K:Qb}{G:Hp}{kvs:List (L2.Key×V)}{T:BT}
theorem MK.deed(m:MK K G kvs T){v:V}{ds:List D}(d:Den K G v (.lst ds)):MK K G (dM kvs (tk "deeds") v) { T with deeds:=ds }:=by
 obtain⟨_,e,_⟩:=m.deeds;refine⟨by rw[jW e];exact m.few,?_,?_,?_,?_,?_,?_,⟨v,mn,d⟩⟩<;>rw[lJ (by decide)]
 ·exact m.hills
 ·exact m.cool
 ·exact m.hour
 ·exact m.winds
 ·exact m.shuts
 ·exact m.fleet
theorem MK.wind(m:MK K G kvs T){v:V}{ds:List D}(d:Den K G v (.lst ds)):MK K G (dM kvs (tk "winds") v) { T with winds:=ds }:=by
 obtain⟨_,e,_⟩:=m.winds;refine⟨by rw[jW e];exact m.few,?_,?_,?_,⟨v,mn,d⟩,?_,?_,?_⟩<;>rw[lJ (by decide)]
 ·exact m.hills
 ·exact m.cool
 ·exact m.hour
 ·exact m.shuts
 ·exact m.fleet
 ·exact m.deeds
theorem MK.shut(m:MK K G kvs T){v:V}{ds:List D}(d:Den K G v (.lst ds)):MK K G (dM kvs (tk "shuts") v) { T with shuts:=ds }:=by
 obtain⟨_,e,_⟩:=m.shuts;refine⟨by rw[jW e];exact m.few,?_,?_,?_,?_,⟨v,mn,d⟩,?_,?_⟩<;>rw[lJ (by decide)]
 ·exact m.hills
 ·exact m.cool
 ·exact m.hour
 ·exact m.winds
 ·exact m.fleet
 ·exact m.deeds
theorem MK.flt(m:MK K G kvs T){v:V}(d:Den K G v (.lst [])):MK K G (dM kvs (tk "fleet") v) T:=by
 obtain⟨_,e,_⟩:=m.fleet;refine⟨by rw[jW e];exact m.few,?_,?_,?_,?_,?_,⟨v,mn,d⟩,?_⟩<;>rw[lJ (by decide)]
 ·exact m.hills
 ·exact m.cool
 ·exact m.hour
 ·exact m.winds
 ·exact m.shuts
 ·exact m.deeds
theorem MK.hr(m:MK K G kvs T){n:Int}:MK K G (dM kvs (tk "hour") (.int n)) { T with hour:=n }:=by
 refine⟨by rw[jW m.hour];exact m.few,?_,?_,mn,?_,?_,?_,?_⟩<;>rw[lJ (by decide)]
 ·exact m.hills
 ·exact m.cool
 ·exact m.winds
 ·exact m.shuts
 ·exact m.fleet
 ·exact m.deeds
end
structure DIn(K:Qb)(G H:Hp)(p:Addr)(Gk Hk:Hp)(kvs:List (L2.Key×V))(T:BT):Prop where
 g:Grow G H Gk Hk
 hn:H p=none
 at_:Hk p=some (.dK kvs)
 gp:Gk p=none
 m:MK K Gk kvs T
section
variable{K:Qb}{G H Gk Hk G' H':Hp}{p:Addr}{kvs:List (L2.Key×V)}{T T':BT}
theorem DIn.step(i:DIn K G H p Gk Hk kvs T)(g:Grow Gk Hk G' H'):DIn K G H p G' H' kvs T:=⟨i.g.trans g,i.hn,g.hh _ _ i.at_,g.fo _ _ i.at_ i.gp,i.m.mono g.gg⟩
theorem DIn.put(i:DIn K G H p Gk Hk kvs T){k:L2.Key}{v:V}(m:MK K Gk (dM kvs k v) T'):DIn K G H p Gk (upd Hk p (.dK (dM kvs k v))) (dM kvs k v) T' where
 g:=⟨λb u e=>by rw[ao (ak e i.hn)];exact i.g.hh _ _ e,i.g.gg,λb u e=>by rw[ao (ak e i.gp)];exact i.g.gh _ _ e,i.g.fo⟩
 hn:=i.hn
 at_:=upd_same
 gp:=i.gp
 m:=m
theorem DIn.fin(i:DIn K G H p Gk Hk kvs T):Grow G H (upd Gk p (.dK kvs)) Hk/\MA K (upd Gk p (.dK kvs)) p T:=by
 refine⟨⟨i.g.hh,λb u e=>?_,λb u e=>?_,λb u e z=>?_⟩,kvs,upd_same,i.m.mono (a_ _ i.gp)⟩
 ·have y:=i.g.gg _ _ e
  rw[ao (ak y i.gp)];exact y
 ·by_cases z:b=p
  ·subst z;rw[upd_same] at e;cases e;exact i.at_
  ·rw[ao z] at e;exact i.g.gh _ _ e
 ·rw[ao (ak e i.hn)];exact i.g.fo _ _ e z
end
abbrev BF:List Str:=["_law_model","_law_call","_law_hour","_law_fleet","_law_one","_law_wanted","_law_sky"]
theorem vn{K:Qb}{G H Gk Hk:Hp}{p:Addr}{kvs:List (L2.Key×V)}{T:BT}{x:Str}{f:Ev->Option D}{D:Ends}{σ:L2.St}{ds:List Dn.D}{d1:Dn.D}{ε:Ev}(h0:σ[0]?=some (some (.ref p)))(i:DIn K G H p Gk Hk kvs T)(hv:∃v,cH kvs (tk x)=some v/\Den K Gk v (.lst ds))(hl:ds.length<1000)
  (E:EnvD K Hk Gk Hk σ ε) (e:f ε=some (.lst [d1])) (q:∀G' H' v',DIn K G H p G' H' kvs T->Grow Gk Hk G' H'->Den K G' v' (.lst (ds++[d1]))->D.nx σ (upd H' p (.dK (dM kvs (tk x) v')))) :
  xR (qh 0) (tC (.str x)) (tOp (xW K) (xG (qh 0) (tC (.str x))) (tDe K f)) D σ Hk:=by
 obtain⟨v,ev,dv⟩:=hv;refine⟨_,h0,p,v,rfl,?_,Hk,Gk,ε,_,i.g.gh,E,e,λv1 G1 H1 g1 dn=>?_⟩
 ·rw[<-ev];exact jy.k (k:=tk x) i.at_
 obtain⟨la,xs,rfl,sa,da⟩:=dv.lstV;obtain⟨lb,zs,rfl,sb,db⟩:=dn.lstV;have i1:=i.step g1;have z1:=da.length;have z2:=db.length;have big:(2000:Nat)<=Qj:=by decide
 refine⟨la,lb,xs,zs,rfl,rfl,(i.g.gh.trans g1.hh).seq sa,g1.gh.seq sb,?_,λp2 hp2=>?_⟩
 ·rw[z1,z2];show ds.length+1<=Qj;omega
 have g2:=Grow.new (.lst (xs++zs)) i1.g.gh hp2;have i2:=i1.step g2;refine⟨_,h0,p,_,rfl,qx.k (k:=tk x) i2.at_ (QI i.m.few (by decide)),q _ _ (.ref p2) i2 (g1.trans g2) (.lst (.inl upd_same) (((da.mono (g1.gg)).append db).mono g2.gg))⟩
theorem qF{X:Cx}(hA:X.A.handled=none)(hu:X.A.units+2<cLine):ie X (.type "dict") (λxs H Q=>∃l,xs=[.ref l]/\SqL X.K H l []/\∀p,Q (.ref p) H):=by
 rintro pins s σ H xs us Q I r ⟨l,rfl,sl,q⟩;obtain⟨u,rfl,rx⟩:=pA r;cases rx;obtain⟨its,rv,pl,_⟩:=I.list sl;cases rv;exact RW2.vU (its:=[]) (ps:=[]) pl hA hu rfl (by decide) (λi v h=>nomatch h) (λp h=>nomatch h) λg tk kp _=>⟨.ref s.heap.objs.size,H,I.kept kp,rfl,q _⟩
section
variable{Z:Wq}{base:Heap}{f C:Addr}{fd:QE}
def zM(Z:Wq):Sp:=λvs H Q _=>∃G am v d T T' z,vs=[.ref am,v]/\aD G H/\MA Z.K G am T/\Few T/\Den Z.K G v d/\(∀x y ds,d=.tup [.str "shut",.tup ds,x,y]->∃a b c d e g:Int,ds=[.int a,.int b,.int c,.int d,.int e,.int g])/\Doing T d (.inl z) T'/\∀a G' H',Grow G H G' H'->MA Z.K G' a T'->Q (.ref a) H'
theorem Ak(F:Fun Z.K "_law_done_by" "_law_done_by" (top 97) f fd)(M:Md Z)(md:Z.mg "dict" = none)(HD:iU Z)(HA:∃f fd,FA Z.K Z.mg "_law_air" (top 90) ["_law_model"] f fd/\∀base,FnOk Z.P Z.w Z.K Z.mg base CX0 1 f fd ["_law_model"] (tU Z)) :
  FnOk Z.P Z.w Z.K Z.mg base CX0 3 f fd ["_law_model","_law_call"] (zM Z):=by
 have SC:FnScope BF ["_law_model","_law_call"] (aA (top 97)):=⟨rfl,rfl,rfl,by decide +kernel,rfl,by decide +kernel,by decide +kernel⟩;refine F.ok (k:=2) SC (λvs H Q E h=>?_) (λcdv A outer s H vs Q E hr h=>?_)
 ·obtain⟨G,am,v,d,T,T',z,rfl,_⟩:=h
  rfl
 obtain⟨G,am,v,d,T,T',z,rfl,gh,ma,few,dv,six,dg,q⟩:=h;have hu:=QI (Jt (by decide:1<=64) _) hr.units;have hu2:=QI (Jt (by decide:2<=64) _) hr.units;obtain⟨fA,fdA,FAA,hA⟩:=HA
 refine⟨_,ar (bg (i:=0) SC.nd rfl (Qs rfl) (bw kO (by rfl) md (by rfl) (ag (pv 0) ax)))
  (ar (jJ hu (pv 0) aU (gH kP (cx hu (pv 0) aU (λ_ _=>rfl)) (cV (DF.de (dQ (aa (cF HD hr (aa (aG 1) aB)) aB))))) rfl)
  (ar (bg (i:=2) SC.nd rfl (Ju rfl) (cx hu (pv 0) aU (λ_ _=>rfl)))
  (ar (bg (i:=3) SC.nd rfl (Qs rfl) (cx hu (pv 0) aU (λ_ _=>rfl)))
  (ar (cj (cn iQ (dN cB (pv 1) bG (λ_ _=>rfl)) aU (aJ _))
   (aH (jJ hu (pv 0) aU (gH kP (cx hu (pv 0) aU (λ_ _=>rfl)) (cV (DF.de (dQ (aa (nF (ah 1) (bX (DE.db ae)) gc) aB))))) rfl))
   (aH (cj (cn iQ (dN cB (pv 1) bG (λ_ _=>rfl)) aU (aJ _))
    (aH (jJ hu (pv 0) aU (gH kP (cx hu (pv 0) aU (λ_ _=>rfl)) (cV (DF.de (dQ (aa (aq qq (DE.db (aR (ah 1) (DE.db ae))) (DE.db (nF (ah 1) (bX (DE.db ae)) gc))) aB))))) rfl))
    (aH (cj (cn iQ (dN cB (pv 1) bG (λ_ _=>rfl)) aU (aJ _)) pss_no
     (aH (cj (cn iQ (dN cB (pv 1) bG (λ_ _=>rfl)) aU (aJ _))
      (ar (bg (i:=5) SC.nd rfl (Ju rfl) (bw (qF hr.hd hu2) (by rfl) md (by rfl) (ag (bw bh (by rfl) M.b_list (by rfl) (ag (dN cB (pv 1) bG (λ_ _=>rfl)) ax)) ax)))
      (ar (bg (i:=6) SC.nd rfl (Ju rfl) (bV (hA base) (hr.mono (by decide)) rfl FAA.mgf FAA.fu.kp FAA.bi .nil cg (ag (pv 0) ax)))
      (ar (jJ hu (pv 0) aU (nG (tn:=["_law_one"]) (fr:=["_law_sky","_law_hour","_law_wanted"]) (ix:=[6,2,5]) rfl (hX (pv 3)) (hU (by rfl) (by exact⟨⟨rfl,rfl⟩,⟨rfl,rfl⟩,⟨rfl,rfl⟩,trivial⟩) (by exact⟨rfl,rfl,rfl,trivial⟩) (by rfl) (by rfl) (by rfl) (by rfl) (by rfl)) (eJ _) (λ_ _ _ _ _=>aL 0 (show(((["_law_one"]:List Str)++(["_law_sky","_law_hour","_law_wanted"]:List Str)):List Str).Nodup by decide +kernel))) rfl)
      (aH (jJ hu (pv 0) aU (gH uh (pv 2) bG) rfl)))))
      pss_no)))))))
  (aH (br (pv 0))))))),?_⟩
 obtain⟨kvs,ea,mk⟩:=ma;have gt:∀{Hk:Hp} {p:Addr} {kv:List (L2.Key×V)} {x:Str} {v:V},Hk p=some (.dK kv)->cH kv (tk x)=some v->jy Hk p (.str x) (some v):=λ{Hk p kv x v} ha e=>by rw[<-e];exact jy.k (k:=tk x) ha
 refine⟨_,rfl,am,kvs,rfl,.inl (gh _ _ ea),λp hp=>?_⟩;have i0:DIn Z.K G H p G (upd H p (.dK kvs)) kvs T:=⟨.lay _ gh hp,hp,upd_same,gh.free hp,mk⟩;have ld:T.deeds.length<1000:=Jv few.deeds (by decide);cases dg with
 |@wind x h dx dy _ e=>
  refine vn (ds:=T.deeds) (d1:=.tup [.str "wind",.int x,.int h,.int dx,.int dy]) rfl i0 mk.deeds ld (jN (i:=1) rfl dv) rfl λG1 H1 v1 i1 g1 dn=>?_;have i2:=i1.put (i1.m.deed dn);obtain⟨wf,ef,df⟩:=i2.m.fleet;refine⟨_,rfl,p,_,rfl,gt i2.at_ i2.m.hour,_,rfl,p,_,rfl,gt i2.at_ ef,?_⟩;have dv2:=dv.mono i2.g.gg;obtain⟨av,xs,rfl,sq,dl⟩:=dv2.tupV;rcases dl with _ | ⟨d0,_ | ⟨d1,_ | ⟨d2,_ | ⟨d3,_ | ⟨d4,_ | _⟩⟩⟩⟩⟩
  cases d0;cases d1;cases d2;cases d3;cases d4;refine⟨_,rfl,av,_,_,_,rfl,rfl,aE i2.g.gh sq,rfl,rfl,_,rfl,?_⟩;refine b9 (λ_=>?_) λc=>absurd (decide_eq_true rfl) c;refine vn (ds:=T.winds) (d1:=.tup [.int x,.int h,.int dx,.int dy]) rfl i2 i2.m.winds few.winds (jN (i:=1) rfl dv2) rfl λG3 H3 v3 i3 g3 dn3=>?_;have i4:=i3.put (i3.m.wind dn3);exact⟨_,rfl,q p _ _ i4.fin.1 i4.fin.2⟩
 |@shut ds x y _ ne le e=>
  obtain⟨a,b,c,d,e',g,rfl⟩:=six _ _ _ rfl;refine vn (ds:=T.deeds) (d1:=.tup [.str "shut",.int a,.int b,.int c,.int d,.int e',.int g,.int x,.int y]) rfl i0 mk.deeds ld (jN (i:=1) rfl dv) rfl λG1 H1 v1 i1 g1 dn=>?_;have i2:=i1.put (i1.m.deed dn);obtain⟨wf,ef,df⟩:=i2.m.fleet;refine⟨_,rfl,p,_,rfl,gt i2.at_ i2.m.hour,_,rfl,p,_,rfl,gt i2.at_ ef,?_⟩;have dv2:=dv.mono i2.g.gg;obtain⟨av,xs,rfl,sq,dl⟩:=dv2.tupV;rcases dl with _ | ⟨d0,_ | ⟨d1,_ | ⟨d2,_ | ⟨d3,_ | _⟩⟩⟩⟩
  cases d0;cases d2;cases d3;refine⟨_,rfl,av,_,_,_,rfl,rfl,aE i2.g.gh sq,rfl,rfl,_,rfl,?_⟩;refine b9 (λc=>absurd c (by decide)) λ_=>?_;refine⟨_,rfl,av,_,_,_,rfl,rfl,aE i2.g.gh sq,rfl,rfl,_,rfl,?_⟩;refine b9 (λ_=>?_) λc=>absurd (decide_eq_true rfl) c;refine vn (ds:=T.shuts) (d1:=.tup [.int a,.int b,.int c,.int d,.int e',.int g,.int x,.int y]) rfl i2 i2.m.shuts few.shuts (jN (i:=1) rfl dv2) rfl λG3 H3 v3 i3 g3 dn3=>?_;have i4:=i3.put (i3.m.shut dn3);exact⟨_,rfl,q p _ _ i4.fin.1 i4.fin.2⟩
 |drift lt=>
  refine vn (ds:=T.deeds) (d1:=.tup [.str "drift",.tup []]) rfl i0 mk.deeds ld (jN (i:=1) rfl dv) rfl λG1 H1 v1 i1 g1 dn=>?_;have i2:=i1.put (i1.m.deed dn);obtain⟨wf,ef,df⟩:=i2.m.fleet;obtain⟨lf,ys,rfl,sf,dy⟩:=df.lstV;cases dy;refine⟨_,rfl,p,_,rfl,gt i2.at_ i2.m.hour,_,rfl,p,_,rfl,gt i2.at_ ef,?_⟩;have dv2:=dv.mono i2.g.gg;obtain⟨av,xs,rfl,sq,dl⟩:=dv2.tupV;rcases dl with _ | ⟨d0,_ | ⟨d1,_ | _⟩⟩
  cases d0;obtain⟨al,zs,rfl,sl,dz⟩:=d1.lstV;cases dz;have sq2:=aE i2.g.gh sq;refine⟨_,rfl,av,_,_,_,rfl,rfl,sq2,rfl,rfl,_,rfl,?_⟩;refine b9 (λc=>absurd c (by decide)) λ_=>?_;refine⟨_,rfl,av,_,_,_,rfl,rfl,sq2,rfl,rfl,_,rfl,?_⟩;refine b9 (λc=>absurd c (by decide)) λ_=>?_;refine⟨_,rfl,av,_,_,_,rfl,rfl,sq2,rfl,rfl,_,rfl,?_⟩;refine b9 (λc=>absurd c (by decide)) λ_=>?_;refine⟨_,rfl,av,_,_,_,rfl,rfl,sq2,rfl,rfl,_,rfl,?_⟩;refine b9 (λ_=>?_) λc=>absurd (decide_eq_true rfl) c;refine⟨_,rfl,av,_,_,_,rfl,rfl,sq2,rfl,al,[],rfl,.inl (i2.g.gh.seq sl),λl hl=>⟨l,rfl,SqL.of upd_same,λpd=>?_⟩⟩;have g3:=Grow.lay (.lst []) i2.g.gh hl;have i3:=i2.step g3;refine⟨_,rfl,_,p,_,_,rfl,i3.g.gh,i3.at_,i3.m,λps G4 H4 g4 _=>?_⟩;have i4:=i3.step g4;have sf4:=(i2.g.gh.trans (g3.hh.trans g4.hh)).seq sf;refine⟨_,rfl,lf,rfl,⟨_,sf4⟩,aD.refl _,?_,λa9 H9 g9 hn9 ha9=>?_⟩
  ·intro i H' s2
   exact⟨λz=>absurd z (Nat.not_lt_zero _),λ_=>⟨[],s2.seq sf4,QA _⟩,λx H3 _ d z=>by cases z⟩
  have i5:=i4.step (Grow.seal (a:=a9) ⟨g9,aD.refl G4,i4.g.gh.trans g9,λ_ _ _ e=>e⟩ hn9 (i4.g.gh.free hn9) ha9);have le5:∀{kv:List (L2.Key×V)} {Gx Hx:Hp} {Tx:BT},DIn Z.K G H p Gx Hx kv Tx->kv.length<Qj:=λi=>QI i.m.few (by decide);refine⟨_,rfl,p,_,rfl,qx.k (k:=tk "fleet") i5.at_ (le5 i5),?_⟩;have i6:=i5.put (i5.m.flt (v:=.ref a9) (.lst (.inl upd_same) .nil));refine⟨_,rfl,_,_,rfl,rfl,_,rfl,p,_,rfl,qx.k (k:=tk "hour") i6.at_ (le5 i6),?_⟩;have i7:=i6.put (i6.m.hr (n:=T.hour+1));exact⟨_,rfl,q p _ _ i7.fin.1 i7.fin.2⟩
end
section
variable{Z:Wq}{base:Heap}{f C:Addr}{fd:QE}
abbrev zi:List Str:=["_law_book","_law_model","_law_call","_law_fault_here"]
abbrev Bs:List Str:=["_law_book","_law_model","_law_call","_law_fault_here","_law_due"]
def Six(d:D):Prop:=∀x y ds,d=.tup [.str "shut",.tup ds,x,y]->∃a b c d e g:Int,ds=[.int a,.int b,.int c,.int d,.int e,.int g]
def AF(Z:Wq)(C:Addr):Sp:=λvs H Q _=>∃G b as am v d vf T T' r,vs=[.ref b,.ref am,v,vf]/\BkD Z.K C G H b as T/\MA Z.K G am T/\Few T/\Den Z.K G v d/\Six d/\Doing T d r T'/\
 ((∃z,r=.inl z/\Den Z.K G vf (.tup [])/\T'.deeds.length=T.deeds.length+1/\∀a' G' H' as',Mv G H G' H' b as as'->BkD Z.K C G' H' b as' T'->MA Z.K G' a' T'->Q (.ref a') H')\/
  ∃x fs,r=.inr (x,fs)/\(∃j,j<19/\nms.getD j "" = x)/\Den Z.K G vf (.tup [.str "no",.str x])/\∀G' H',Grow G H G' H'->Q (.ref am) H')
theorem Af(F:Fun Z.K "_law_judged" "_law_judged" (top 102) f fd)(M:Md Z)(HB:∃f fd,FA Z.K Z.mg "_law_done_by" (top 97) ["_law_model","_law_call"] f fd/\∀base,FnOk Z.P Z.w Z.K Z.mg base CX0 3 f fd ["_law_model","_law_call"] (zM Z))
  (HT:∃f fd,FA Z.K Z.mg "_law_try" (top 101) ["_law_book","_law_call"] f fd/\∀base,FnOk Z.P Z.w Z.K Z.mg base CX0 8 f fd ["_law_book","_law_call"] (xJ Z C)) (HS:iF Z)
  (s1:∀n:Int,cX [.int n,.int n]=some (.bl true)) (s2:∀x:Str,cX [.tup [.str "no",.str x],.tup [.str "no",.str x]]=some (.bl true)):FnOk Z.P Z.w Z.K Z.mg base CX0 9 f fd zi (AF Z C):=by
 obtain⟨fB,fdB,FB,hB⟩:=HB;obtain⟨fT,fdT,FT,hT⟩:=HT;obtain⟨fS,fdS,⟨FS,_⟩,hS⟩:=HS;have SC:FnScope Bs zi (aA (top 102)):=⟨rfl,rfl,rfl,by decide +kernel,rfl,by decide +kernel,by decide +kernel⟩;refine F.ok (k:=8) SC (λvs H Q E h=>?_) (λcdv A outer s H vs Q E hr h=>?_)
 ·obtain⟨G,b,as,am,v,d,vf,T,T',r,rfl,_⟩:=h
  rfl
 obtain⟨G,b,as,am,v,d,vf,T,T',r,rfl,k,ma,few,dv,six,dg,q⟩:=h;have hu:=QI (Jt (by decide:1<=64) _) hr.units
 refine⟨_,ar (bg (i:=4) SC.nd rfl (Qs rfl) (pv 3))
  (ar (cj (cn iQ (d6 dh rfl M.b_len Zw (ag (pv 3) ax)) bG (aJ _))
   (ar (bg (i:=1) SC.nd rfl (Qs rfl) (bV (hB base) (hr.mono (by decide)) rfl FB.mgf FB.fu.kp FB.bi .nil cg (ag (pv 1) (ag (pv 2) ax))))
   (aH (bg (i:=4) SC.nd rfl (Qs rfl) (d6 dh rfl M.b_len Zw (ag (cx hu (pv 1) aU (λ_ _=>rfl)) ax))))) bp)
  (ar (cj (om (mi (bV (hS base) (hr.mono (by decide)) rfl FS.mgf FS.fu.kp FS.bi .nil cg (ag (bV (hT base) hr rfl FT.mgf FT.fu.kp FT.bi .nil cg (ag (pv 0) (ag (pv 2) ax))) (ag (pv 4) ax))) (by intro _;rfl))) pss_no bp)
  (aH (br (pv 1))))),?_⟩
 rcases q with⟨z,rfl,df,hl,q⟩ | ⟨x,fs,rfl,hj,df,q⟩
 ·obtain⟨af,xs,rfl,sq,dl⟩:=df.tupV
  cases dl;refine⟨_,rfl,_,rfl,af,[],rfl,.inr (aE k.gh sq),rfl,_,rfl,?_⟩;refine b9 (λ_=>?_) λc=>absurd (decide_eq_true rfl) c;refine⟨_,rfl,_,rfl,G,am,v,d,T,T',z,rfl,k.gh,ma,few,dv,six,dg,λa' G1 H1 g1 ma1=>?_⟩;have k1:=k.grow g1;obtain⟨kvs,ea,mk⟩:=id ma1;obtain⟨wd,ed,dd⟩:=mk.deeds;obtain⟨ld,ys,rfl,sd,dy⟩:=dd.lstV;refine⟨_,rfl,a',_,rfl,(by rw[<-ed];exact jy.k (k:=tk "deeds") (g1.gh _ _ ea)),ld,ys,rfl,.inl (g1.gh.seq sd),?_⟩;refine⟨_,rfl,_,rfl,G1,b,as,T,v,d,_,T',rfl,k1,few,dv.mono g1.gg,dg,λz' _ G2 H2 as' mv bk=>?_,λx fs e=>by cases e⟩;have ey:(ys.length:Int)=T.deeds.length+1:=by rw[dy.length,hl];rfl
  refine⟨_,rfl,G2,[.int _,.int _],.bl true,bk.gh,.cons (.int _) (.cons (.int _) .nil),(by rw[ey];exact s1 _),λv3 G3 H3 g3 d3=>?_⟩;cases d3;refine⟨true,rfl,?_⟩;refine b9 (λc=>absurd c (by decide)) λ_=>?_;have mv1:=Mv.grow g1 mv;exact⟨_,rfl,q a' G3 H3 as' (mv1.behind g3) (bk.grow g3) (ma1.mono (mv.gg.trans g3.gg))⟩
 ·obtain⟨af,xs,rfl,sq,dl⟩:=df.tupV
  rcases dl with _ | ⟨d0,_ | ⟨d1,_ | _⟩⟩
  cases d0;cases d1;refine⟨_,rfl,_,rfl,af,_,rfl,.inr (aE k.gh sq),rfl,_,rfl,?_⟩;refine b9 (λc=>absurd (V.int.inj (of_decide_eq_true c)) (show ¬ (2:Int)=0 by decide)) λ_=>?_;refine⟨_,rfl,_,rfl,G,b,as,T,v,d,_,T',rfl,k,few,dv,dg,(λz e=>by cases e),λx' fs' e=>?_⟩;cases e;refine⟨hj,λv1 G1 H1 g1 d1=>?_⟩;refine⟨_,rfl,G1,[.tup [.str "no",.str x],.tup [.str "no",.str x]],.bl true,g1.gh,.cons d1 (.cons (df.mono g1.gg) .nil),s2 x,λv3 G3 H3 g3 d3=>?_⟩;cases d3;refine⟨true,rfl,?_⟩;refine b9 (λc=>absurd c (by decide)) λ_=>?_;exact⟨_,rfl,q G3 H3 (g1.trans g3)⟩
end
section
variable{Z:Wq}{base:Heap}{f C:Addr}{fd:QE}
def xw(C:Addr):Sp:=λvs H Q _=>∃b as S,vs=[.ref b]/\Bk C H b as S/\S.bal=[]/\∀a H',aD H H'->H a=none->H' a=some (.lst [])->Q (.ref a) H'
theorem zc(F:Fun Z.K "names" "Book.names" (cm sB 22) f fd)(n:NoA Z.K C):FnOk Z.P Z.w Z.K Z.mg base CX0 1 f fd ["self"] (xw C):=by
 refine F.ok (scS (cm sB 22)) (λvs H Q E h=>?_) (λcdv A outer s H vs Q E hr h=>?_)
 ·obtain⟨b,as,S,rfl,_⟩:=h
  rfl
 obtain⟨b,as,S,rfl,⟨dx,fs,a1,a2,a3,a4,a5,a6,a7,rfl,m⟩,hb,q⟩:=h;refine⟨_,aH (br (nG (tn:=["balloon"]) (fr:=[]) (ix:=[]) rfl (hX (dq (pv 0) rfl)) (hU (by rfl) (by exact trivial) (by exact trivial) (by rfl) (by rfl) (by rfl) (by rfl) (by rfl)) (eJ _) (λ_ _ _ _ _=>aL 0 (show(((["balloon"]:List Str)++([]:List Str)):List Str).Nodup by decide +kernel)))),?_⟩;have e5:=m.e5;rw[hb] at e5;refine⟨_,rfl,b,C,dx,fs,_,rfl,m.b,n.cl,n.n _ (by decide),m.l5,a5,rfl,⟨_,SqL.of e5⟩,aD.refl _,?_,λa H'' g hn ha=>q a H'' g hn ha⟩;intro i H2 s2;exact⟨λz=>absurd z (Nat.not_lt_zero _),λ_=>⟨[],SqL.of (s2 _ _ e5),QA _⟩,λx H3 _ d z=>by cases z⟩
end
section
variable{Z:Wq}{base:Heap}{f C:Addr}{fd:QE}
abbrev Be:List Str:=["_law_book","_law_model","_law_fleet","_law_found","_law_due","_law_name","_law_fate","_law_state","_law_rows","_law_since","_law_told"]
def qd(T:BT):D:=.tup [.int T.hour,.tup [.lst T.hills,.lst T.cool,.lst T.winds,.lst T.shuts],.lst T.deeds,.lst []]
def yg(Z:Wq)(C:Addr):Sp:=λvs H Q _=>∃G b as am T,vs=[.ref b,.ref am]/\BkD Z.K C G H b as T/\MA Z.K G am T/\T.bal=[]/\cX [qd T,qd T]=some (.bl true)/\∀H',aD H H'->Q (.bl true) H'
theorem AB(F:Fun Z.K "_law_stands" "_law_stands" (top 99) f fd)(M:Md Z)(n:NoA Z.K C)(HN:MO Z C "now" ["self"] (x_ C))(HK:MO Z C "sky" ["self"] (ud C))(HD:MO Z C "done" ["self"] (vB C))(HM:MO Z C "names" ["self"] (xw C))
  (HA:∃f fd,FA Z.K Z.mg "_law_air" (top 90) ["_law_model"] f fd/\∀base,FnOk Z.P Z.w Z.K Z.mg base CX0 1 f fd ["_law_model"] (tU Z)) (HS:iF Z):FnOk Z.P Z.w Z.K Z.mg base CX0 6 f fd ["_law_book","_law_model"] (yg Z C):=by
 obtain⟨fN,fdN,mN,bN,hN⟩:=HN;obtain⟨fK,fdK,mK,bK,hK⟩:=HK;obtain⟨fD,fdD,mD,bD,hD⟩:=HD;obtain⟨fM,fdM,mM,bM,hM⟩:=HM;obtain⟨fA,fdA,FAA,hA⟩:=HA;obtain⟨fS,fdS,⟨FS,_⟩,hS⟩:=HS;have SC:FnScope Be ["_law_book","_law_model"] (aA (top 99)):=⟨rfl,rfl,rfl,by decide +kernel,rfl,by decide +kernel,by decide +kernel⟩;refine F.ok (k:=5) SC (λvs H Q E h=>?_) (λcdv A outer s H vs Q E hr h=>?_)
 ·obtain⟨G,b,as,am,T,rfl,_⟩:=h
  rfl
 obtain⟨G,b,as,am,T,rfl,k,ma,hb,fs0,q⟩:=h;have hu:=QI (Jt (by decide:1<=64) _) hr.units
 refine⟨_,ar (bg (i:=2) SC.nd rfl (Qs rfl) (cx hu (pv 1) aU (λ_ _=>rfl)))
  (ar (bg (i:=3) SC.nd rfl (Qs rfl) (eV (ag (eO (pv 0) n.cl mN (hN base) (hr.mono (by decide)) bN .nil cg) (ag (eO (pv 0) n.cl mK (hK base) (hr.mono (by decide)) bK .nil cg) (ag (eO (pv 0) n.cl mD (hD base) (hr.mono (by decide)) bD .nil cg) (ag (eO (pv 0) n.cl mM (hM base) (hr.mono (by decide)) bM .nil cg) ax))))))
  (ar (bg (i:=4) SC.nd rfl (Qs rfl) (eV (ag (cx hu (pv 1) aU (λ_ _=>rfl)) (ag (bV (hA base) (hr.mono (by decide)) rfl FAA.mgf FAA.fu.kp FAA.bi .nil cg (ag (pv 1) ax)) (ag (cx hu (pv 1) aU (λ_ _=>rfl))
   (ag (nG (tn:=["_law_one"]) (fr:=[]) (ix:=[]) rfl (hX (pv 2)) (hU (by rfl) (by exact trivial) (by exact trivial) (by rfl) (by rfl) (by rfl) (by rfl) (by rfl)) (eJ _) (λ_ _ _ _ _=>aL 0 (show(((["_law_one"]:List Str)++([]:List Str)):List Str).Nodup by decide +kernel))) ax))))))
  (ar (cj (om (mi (bV (hS base) (hr.mono (by decide)) rfl FS.mgf FS.fu.kp FS.bi .nil cg (ag (pv 3) (ag (pv 4) ax))) (by intro _;rfl))) pss_no bp)
  (ar (jq Ja rfl (hX (pv 2)) uM pss_no)
  (aH (br xY)))))),?_⟩
 obtain⟨S,bk,bv⟩:=k.at_;have bk0:=bk;obtain⟨dx,fs,a1,a2,a3,a4,a5,a6,a7,eas,m⟩:=bk;obtain⟨kvs,ea,mk⟩:=id ma;obtain⟨wf,ef,df⟩:=mk.fleet;obtain⟨lf,ys,rfl,sf,dy⟩:=df.lstV;cases dy;obtain⟨wd,ed,dd⟩:=mk.deeds;have gt:∀{Hk:Hp} {x:Str} {v:V},aD H Hk->cH kvs (tk x)=some v->jy Hk am (.str x) (some v):=λ{Hk x v} g e=>by rw[<-e];exact jy.k (k:=tk x) (g _ _ (k.gh _ _ ea))
 refine⟨_,rfl,am,_,rfl,gt (aD.refl _) ef,?_⟩;refine⟨_,rfl,b,dx,fs,rfl,m.b,m.no _ (by decide),b,as,S,rfl,bk0,?_⟩;refine⟨_,rfl,b,dx,fs,rfl,m.b,m.no _ (by decide),b,as,S,rfl,bk0,λl1 l2 l3 l4 p1 H1 g1 _ _ c1 c2 c3 c4 c5=>?_⟩;refine⟨_,rfl,b,dx,fs,rfl,g1 _ _ m.b,m.no _ (by decide),b,as,S,rfl,bk0.same g1,λp2 hp2=>?_⟩;have n2:=a_ (.lst S.deeds) hp2;have e2:upd H1 p2 (.lst S.deeds) p2=some (.lst S.deeds):=upd_same;generalize upd H1 p2 (.lst S.deeds)=H2 at *;have g2:=g1.trans n2;refine⟨_,rfl,b,dx,fs,rfl,g2 _ _ m.b,m.no _ (by decide),b,as,S,rfl,bk0.same g2,bv.bal.trans hb,λp3 H3 n3 _ e3=>?_⟩;refine⟨(by show 4<=Qj;decide),λp4 hp4=>?_⟩;have n4:=a_ (.tup [.int S.hour,.ref p1,.ref p2,.ref p3]) hp4;have e4:upd H3 p4 (.tup [.int S.hour,.ref p1,.ref p2,.ref p3]) p4=some (.tup [.int S.hour,.ref p1,.ref p2,.ref p3]):=upd_same;generalize upd H3 p4 (.tup [.int S.hour,.ref p1,.ref p2,.ref p3])=H4 at *;have g4:=g2.trans (n3.trans n4);refine⟨_,rfl,am,_,rfl,gt g4 mk.hour,?_⟩;refine⟨_,rfl,G,am,kvs,T,rfl,k.gh.trans g4,g4 _ _ (k.gh _ _ ea),mk,λp5 G5 H5 g5 d5=>?_⟩;have g05:=g4.trans g5.hh;refine⟨_,rfl,am,_,rfl,gt g05 ed,?_⟩;have sf5:=(k.gh.trans g05).seq sf;refine⟨_,rfl,lf,rfl,⟨_,sf5⟩,aD.refl _,?_,λp6 H6 n6 _ e6=>?_⟩
 ·intro i H' s2
  exact⟨λz=>absurd z (Nat.not_lt_zero _),λ_=>⟨[],s2.seq sf5,QA _⟩,λx H3 _ d z=>by cases z⟩
 refine⟨(by show 4<=Qj;decide),λp7 hp7=>?_⟩;have n7:=a_ (.tup [.int T.hour,.ref p5,wd,.ref p6]) hp7;have e7:upd H6 p7 (.tup [.int T.hour,.ref p5,wd,.ref p6]) p7=some (.tup [.int T.hour,.ref p5,wd,.ref p6]):=upd_same;generalize upd H6 p7 (.tup [.int T.hour,.ref p5,wd,.ref p6])=H7 at *;have g57:=n6.trans n7;have g07:=g05.trans g57;have s4:=g5.hh.trans g57;have s1:=n2.trans (n3.trans (n4.trans s4))
 have D1:Den Z.K H7 (.ref p4) (qd T):=.tup (SqT.of (s4 _ _ e4)) (.cons (by rw[bv.hour];exact .int _) (.cons (.tup (SqT.of (s1 _ _ c5)) (.cons (.lst (.inl (s1 _ _ c1)) (bv.hills.mono (k.gh.trans g07))) (.cons (.lst (.inl (s1 _ _ c2)) (bv.cool.mono (k.gh.trans g07))) (.cons (.lst (.inl (s1 _ _ c3)) (bv.winds.mono (k.gh.trans g07))) (.cons (.lst (.inl (s1 _ _ c4)) (bv.shuts.mono (k.gh.trans g07))) .nil)))))
  (.cons (.lst (.inl ((n3.trans (n4.trans s4)) _ _ e2)) (bv.deeds.mono (k.gh.trans g07))) (.cons (.lst (.inl ((n4.trans s4) _ _ e3)) .nil) .nil))))
 have D2:Den Z.K H7 (.ref p7) (qd T):=.tup (SqT.of e7) (.cons (.int _) (.cons (d5.mono (g5.gh.trans g57)) (.cons (dd.mono (k.gh.trans g07)) (.cons (.lst (.inl (n7 _ _ e6)) .nil) .nil))));refine⟨_,rfl,_,rfl,H7,[qd T,qd T],.bl true,aD.refl _,.cons D1 (.cons D2 .nil),fs0,λv8 G8 H8 g8 d8=>?_⟩;cases d8;refine⟨true,rfl,?_⟩;refine b9 (λc=>absurd c (by decide)) λ_=>?_;have sf8:=g8.hh.seq (g57.seq sf5);refine⟨_,rfl,lf,rfl,⟨[],sf8⟩,λi _ σ' H'=>i=0/\σ'=_/\H'=_,⟨0,rfl,rfl,rfl⟩,λi _ σ' H' ⟨z1,z2,z3⟩=>?_⟩;subst z1 z2;have z4:=z3.symm;subst z4;exact .inl ⟨⟨[],sf8,Qi _⟩,q _ (g07.trans g8.hh)⟩
end
def tDt(K:Qb)(f:Ev->Option Bool):TT:=λσ H Q=>∃He G ε b,aD G H/\EnvD K He G H σ ε/\f ε=some b/\∀H',aD H H'->Q b H'
theorem mV{X:Cx}{c:Expr}{f:Ev->Option Bool}(h:DT X c f):PT X c (tDt X.K f):=by
 obtain⟨t,p1,p2⟩:=h;rintro pins s σ H Q I ⟨He,G,ε,b,gh,E,e,q⟩;exact p1 pins s σ H Q I (p2 He G H σ ε b Q gh E e λG' H' g=>q H' g.hh)
theorem dY{G H H':Hp}(gh:aD G H)(g:aD H H'):Grow G H G H':=⟨g,aD.refl _,gh.trans g,λ_ _ _ e=>e⟩
theorem q8(a b:Bool):((some a).bind λk=>if k=true then some true else some b)=some (a || b):=by cases a<;>rfl
def no(x:Str):D:=.tup [.str "no",.str x]
def o7(a b:Int):Int:=if b<a then b else a
def oY(a b:Int):Int:=if a<b then b else a
def j_(hour x h dx dy:Int):D:=if(decide (x<0) || decide (23<x))=true then no "BadHour" else if decide (x<hour)=true then no "Past" else if(decide (h<0) || decide (5<h))=true then no "BadHeight" else if(decide (o7 dx dy < -2) || decide (2<oY dx dy))=true then no "BadWind" else .tup []
section
variable{Z:Wq}{base:Heap}{f C:Addr}{fd:QE}
abbrev Bx:List Str:=["_law_model","_law_call","_law_word","_law_first","_law_height","_law_dx","_law_dy"]
def Aj(Z:Wq):Sp:=λvs H Q _=>∃G am v T w x h dx dy,vs=[.ref am,v]/\aD G H/\MA Z.K G am T/\Den Z.K G v (.tup [.str w,.int x,.int h,.int dx,.int dy])/\∀v' G' H',Grow G H G' H'->Den Z.K G' v' (j_ T.hour x h dx dy)->Q v' H'
theorem Au(F:Fun Z.K "_law_fault_wind" "_law_fault_wind" (top 104) f fd)(M:Md Z):FnOk Z.P Z.w Z.K Z.mg base CX0 1 f fd ["_law_model","_law_call"] (Aj Z):=by
 have SC:FnScope Bx ["_law_model","_law_call"] (aA (top 104)):=⟨rfl,rfl,rfl,by decide +kernel,rfl,by decide +kernel,by decide +kernel⟩;refine F.ok SC (λvs H Q E hh=>?_) (λcdv A outer s H vs Q E hr hh=>?_)
 ·obtain⟨G,am,v,T,w,x,h,dx,dy,rfl,_⟩:=hh
  rfl
 obtain⟨G,am,v,T,w,x,h,dx,dy,rfl,gh,ma,dv,q⟩:=hh;have hu:=QI (Jt (by decide:1<=64) _) hr.units
 refine⟨_,ar (nX (pv 1) (oK rfl (du (di (i:=2) SC.nd rfl (Qs rfl)) (du (di (i:=3) SC.nd rfl (Qs rfl)) (du (di (i:=4) SC.nd rfl (Qs rfl)) (du (di (i:=5) SC.nd rfl (Qs rfl)) (du (di (i:=6) SC.nd rfl (Qs rfl)) nU)))))))
  (ar (cj (mV (DW.dt (gE (bc il (ah 3) (DE.db ae) (aJ _)) (gk (bc gw (ah 3) (DE.db ae) (aJ _)))))) (aH (br (cV (bu (aa aO (aa aO aB)))))) bp)
  (ar (cj (cn xS (pv 3) (cx hu (pv 0) aU (λ_ _=>rfl)) (aJ _)) (aH (br (cV (bu (aa aO (aa aO aB)))))) bp)
  (ar (cj (mV (DW.dt (gE (bc il (ah 4) (DE.db ae) (aJ _)) (gk (bc gw (ah 4) (DE.db ae) (aJ _)))))) (aH (br (cV (bu (aa aO (aa aO aB)))))) bp)
  (ar (cj (mV (DW.dt (gE (bc il (DE.db (dU (kS rfl) M.b_min (by rfl) (aa (aG 5) (aa (aG 6) aB)))) (DE.db (fL (DE.db ae))) (aJ _)) (gk (bc gw (DE.db (dU (kT rfl) M.b_max (by rfl) (aa (aG 5) (aa (aG 6) aB)))) (DE.db ae) (aJ _)))))) (aH (br (cV (bu (aa aO (aa aO aB)))))) bp)
  (aH (br (cV (bu aB)))))))),?_⟩
 obtain⟨av,xs,rfl,sq,dl⟩:=dv.tupV;rcases dl with _ | ⟨d0,_ | ⟨d1,_ | ⟨d2,_ | ⟨d3,_ | ⟨d4,_ | _⟩⟩⟩⟩⟩
 cases d0;cases d1;cases d2;cases d3;cases d4;obtain⟨kvs,ea,mk⟩:=ma
 have env:∀{He Hk:Hp},EnvD Z.K He G Hk [some (.ref am),some (.ref av),some (.str w),some (.int x),some (.int h),some (.int dx),some (.int dy)] [.un,.un,.un,.dat (.int x),.dat (.int h),.dat (.int dx),.dat (.int dy)]:=λ{He Hk}=>
  ((((gP (K:=Z.K) (He:=He) (G:=G) (H:=Hk) [some (.ref am),some (.ref av),some (.str w),some (.int x),some (.int h),some (.int dx),some (.int dy)]).put (i:=3) (v:=.int x) (.int x)).put (i:=4) (v:=.int h) (.int h)).put (i:=5) (v:=.int dx) (.int dx)).put (i:=6) (v:=.int dy) (.int dy)
 refine⟨_,rfl,av,_,rfl,aE gh sq,rfl,_,_,rfl,_,_,rfl,_,_,rfl,_,_,rfl,_,_,rfl,rfl,?_⟩;unfold j_ at q;refine⟨H,G,[.un,.un,.un,.dat (.int x),.dat (.int h),.dat (.int dx),.dat (.int dy)],_,gh,env,q8 (decide (x<0)) (decide (23<x)),λH1 g1=>?_⟩;refine b9 (λc=>?_) λc=>?_
 ·rw[if_pos c] at q
  exact⟨H1,G,_,_,gh.trans g1,env,rfl,λv' G' H' g dn=>q v' G' H' ((dY gh g1).trans g) dn⟩
 rw[if_neg c] at q;refine⟨_,rfl,_,rfl,am,.int T.hour,rfl,(by rw[<-mk.hour];exact jy.k (k:=tk "hour") (g1 _ _ (gh _ _ ea))),_,_,rfl,rfl,_,rfl,?_⟩;refine b9 (λc=>?_) λc=>?_
 ·rw[if_pos c] at q
  exact⟨H1,G,_,_,gh.trans g1,env,rfl,λv' G' H' g dn=>q v' G' H' ((dY gh g1).trans g) dn⟩
 rw[if_neg c] at q;refine⟨H1,G,[.un,.un,.un,.dat (.int x),.dat (.int h),.dat (.int dx),.dat (.int dy)],_,gh.trans g1,env,q8 (decide (h<0)) (decide (5<h)),λH2 g2=>?_⟩;have g02:=g1.trans g2;refine b9 (λc=>?_) λc=>?_
 ·rw[if_pos c] at q
  exact⟨H2,G,_,_,gh.trans g02,env,rfl,λv' G' H' g dn=>q v' G' H' ((dY gh g02).trans g) dn⟩
 rw[if_neg c] at q;refine⟨H2,G,[.un,.un,.un,.dat (.int x),.dat (.int h),.dat (.int dx),.dat (.int dy)],_,gh.trans g02,env,q8 (decide (o7 dx dy < -2)) (decide (2<oY dx dy)),λH3 g3=>?_⟩;have g03:=g02.trans g3;refine b9 (λc=>?_) λc=>?_
 ·rw[if_pos c] at q
  exact⟨H3,G,_,_,gh.trans g03,env,rfl,λv' G' H' g dn=>q v' G' H' ((dY gh g03).trans g) dn⟩
 rw[if_neg c] at q;exact⟨H3,G,_,_,gh.trans g03,env,rfl,λv' G' H' g dn=>q v' G' H' ((dY gh g03).trans g) dn⟩
end
theorem vO(a b c:Bool):((some a).bind λk=>if k=true then some true else(some b).bind λk=>if k=true then some true else some c)=some (a || (b || c)):=by cases a<;>cases b<;>rfl
def lL(bad:Bool)(hour x y:Int):D:=if bad=true then no "BadBox" else if(decide (o7 x y<0) || (decide (24<oY x y) || decide (y<x)))=true then no "BadHour" else if decide (x<=hour)=true then no "Past" else .tup []
section
variable{Z:Wq}{base:Heap}{f C:Addr}{fd:QE}
abbrev Bt:List Str:=["_law_model","_law_call","_law_word","_law_box_here","_law_first","_law_last"]
def Ac(Z:Wq):Sp:=λvs H Q _=>∃G am v T d e,vs=[.ref am,v]/\aD G H/\MA Z.K G am T/\Den Z.K G v d/\((∃x h dx dy,d=.tup [.str "wind",.int x,.int h,.int dx,.int dy]/\e=j_ T.hour x h dx dy)\/∃bx x y bad,d=.tup [.str "shut",bx,.int x,.int y]/\cT [bx]=some (.bl bad)/\e=lL bad T.hour x y)/\
 ∀v' G' H',Grow G H G' H'->Den Z.K G' v' e->Q v' H'
theorem z0(F:Fun Z.K "_law_fault" "_law_fault" (top 105) f fd)(M:Md Z)(HW:∃f fd,FA Z.K Z.mg "_law_fault_wind" (top 104) ["_law_model","_law_call"] f fd/\∀base,FnOk Z.P Z.w Z.K Z.mg base CX0 1 f fd ["_law_model","_law_call"] (Aj Z))(HB:iZ Z):FnOk Z.P Z.w Z.K Z.mg base CX0 3 f fd ["_law_model","_law_call"] (Ac Z):=by
 obtain⟨fW,fdW,FW,hW⟩:=HW;have SC:FnScope Bt ["_law_model","_law_call"] (aA (top 105)):=⟨rfl,rfl,rfl,by decide +kernel,rfl,by decide +kernel,by decide +kernel⟩;refine F.ok (k:=2) SC (λvs H Q E hh=>?_) (λcdv A outer s H vs Q E hr hh=>?_)
 ·obtain⟨G,am,v,T,d,e,rfl,_⟩:=hh
  rfl
 obtain⟨G,am,v,T,d,e,rfl,gh,ma,dv,cases2,q⟩:=hh;have hu:=QI (Jt (by decide:1<=64) _) hr.units
 refine⟨_,ar (cj (cn iQ (dN cB (pv 1) bG (λ_ _=>rfl)) aU (aJ _)) (aH (br (bV (hW base) (hr.mono (by decide)) rfl FW.mgf FW.fu.kp FW.bi .nil cg (ag (pv 0) (ag (pv 1) ax))))) bp)
  (ar (nX (pv 1) (oK rfl (du (di (i:=2) SC.nd rfl (Qs rfl)) (du (di (i:=3) SC.nd rfl (Qs rfl)) (du (di (i:=4) SC.nd rfl (Qs rfl)) (du (di (i:=5) SC.nd rfl (Qs rfl)) nU))))))
  (ar (cj (mV (cO (DE.db (cF HB hr (aa (aG 3) aB))))) (aH (br (cV (bu (aa aO (aa aO aB)))))) bp)
  (ar (cj (mV (DW.dt (gE (bc il (DE.db (dU (kS rfl) M.b_min (by rfl) (aa (aG 4) (aa (aG 5) aB)))) (DE.db ae) (aJ _)) (gE (bc gw (DE.db (dU (kT rfl) M.b_max (by rfl) (aa (aG 4) (aa (aG 5) aB)))) (DE.db ae) (aJ _)) (gk (bc il (ah 5) (ah 4) (aJ _))))))) (aH (br (cV (bu (aa aO (aa aO aB)))))) bp)
  (ar (cj (cn xE (pv 4) (cx hu (pv 0) aU (λ_ _=>rfl)) (aJ _)) (aH (br (cV (bu (aa aO (aa aO aB)))))) bp)
  (aH (br (cV (bu aB)))))))),?_⟩
 rcases cases2 with⟨x,h,dx,dy,rfl,rfl⟩ | ⟨bx,x,y,bad,rfl,eb,rfl⟩
 ·obtain⟨av,xs,rfl,sq,dl⟩:=dv.tupV
  rcases dl with _ | ⟨d0,_ | ⟨d1,_ | ⟨d2,_ | ⟨d3,_ | ⟨d4,_ | _⟩⟩⟩⟩⟩
  cases d0;cases d1;cases d2;cases d3;cases d4;refine⟨_,rfl,av,_,_,_,rfl,rfl,aE gh sq,rfl,rfl,_,rfl,?_⟩;refine b9 (λ_=>?_) λc=>absurd (decide_eq_true rfl) c;exact⟨_,rfl,_,rfl,G,am,_,T,_,x,h,dx,dy,rfl,gh,ma,dv,q⟩
 ·obtain⟨av,xs,rfl,sq,dl⟩:=dv.tupV
  rcases dl with _ | ⟨d0,_ | ⟨d1,_ | ⟨d2,_ | ⟨d3,_ | _⟩⟩⟩⟩
  cases d0;cases d2;cases d3;rename_i vb;obtain⟨kvs,ea,mk⟩:=ma
  have env:∀{He Hk:Hp},EnvD Z.K He G Hk [some (.ref am),some (.ref av),some (.str "shut"),some vb,some (.int x),some (.int y)] [.un,.un,.un,.dat bx,.dat (.int x),.dat (.int y)]:=λ{He Hk}=>
   (((gP (K:=Z.K) (He:=He) (G:=G) (H:=Hk) [some (.ref am),some (.ref av),some (.str "shut"),some vb,some (.int x),some (.int y)]).put (i:=3) (v:=vb) d1).put (i:=4) (v:=.int x) (.int x)).put (i:=5) (v:=.int y) (.int y)
  refine⟨_,rfl,av,_,_,_,rfl,rfl,aE gh sq,rfl,rfl,_,rfl,?_⟩;refine b9 (λc=>absurd c (by decide)) λ_=>?_;refine⟨_,rfl,av,_,rfl,aE gh sq,rfl,_,_,rfl,_,_,rfl,_,_,rfl,_,_,rfl,rfl,?_⟩;unfold lL at q;refine⟨H,G,[.un,.un,.un,.dat bx,.dat (.int x),.dat (.int y)],bad,gh,env,?_,λH1 g1=>?_⟩
  ·show(cT [bx]).bind zh=_
   rw[eb];rfl
  refine b9 (λc=>?_) λc=>?_
  ·rw[if_pos c] at q
   exact⟨H1,G,_,_,gh.trans g1,env,rfl,λv' G' H' g dn=>q v' G' H' ((dY gh g1).trans g) dn⟩
  rw[if_neg c] at q;refine⟨H1,G,[.un,.un,.un,.dat bx,.dat (.int x),.dat (.int y)],_,gh.trans g1,env,vO (decide (o7 x y<0)) (decide (24<oY x y)) (decide (y<x)),λH2 g2=>?_⟩;have g02:=g1.trans g2;refine b9 (λc=>?_) λc=>?_
  ·rw[if_pos c] at q
   exact⟨H2,G,_,_,gh.trans g02,env,rfl,λv' G' H' g dn=>q v' G' H' ((dY gh g02).trans g) dn⟩
  rw[if_neg c] at q;refine⟨_,rfl,_,rfl,am,.int T.hour,rfl,(by rw[<-mk.hour];exact jy.k (k:=tk "hour") (g02 _ _ (gh _ _ ea))),_,_,rfl,rfl,_,rfl,?_⟩;refine b9 (λc=>?_) λc=>?_
  ·rw[if_pos c] at q
   exact⟨H2,G,_,_,gh.trans g02,env,rfl,λv' G' H' g dn=>q v' G' H' ((dY gh g02).trans g) dn⟩
  rw[if_neg c] at q;exact⟨H2,G,_,_,gh.trans g02,env,rfl,λv' G' H' g dn=>q v' G' H' ((dY gh g02).trans g) dn⟩
end
theorem bA{f:Str}{v:V}{fs:List (Str×V)}{n:Nat}(h:fs.length<=n):(bJ f v fs).length<=n+1:=QF (i_ f v fs) (Nat.succ_le_succ h)
theorem fP{H:Hp}{x p dx C:Addr}{fs:List (Str×V)}{f:Str}{ys:List V}(hx:H x=some (.ins C dx fs))(hp:H p=none):upd H p (.lst ys) x=some (.ins C dx fs)/\∃H',H'=upd (upd H p (.lst ys)) x (.ins C dx (bJ f (.ref p) fs))/\H' x=some (.ins C dx (bJ f (.ref p) fs))/\
  H' p=some (.lst ys)/\p≠x/\(∀b o,b≠x->H b=some o->H' b=some o):=by
 have ne:p≠x:=Ne.symm (ak hx hp);refine⟨by rw[ao (Ne.symm ne)];exact hx,_,rfl,upd_same,by rw[ao ne];exact upd_same,ne,λb o hb e=>?_⟩;rw[ao hb,ao (ak e hp)];exact e
theorem vV{H:Hp}{x dx C:Addr}{fs:List (Str×V)}{f:Str}{v:V}(hx:H x=some (.ins C dx fs)):∃H',H'=upd H x (.ins C dx (bJ f v fs))/\H' x=some (.ins C dx (bJ f v fs))/\∀b o,b≠x->H b=some o->H' b=some o:=
 ⟨_,rfl,upd_same,λb o hb e=>by rw[ao hb];exact e⟩
def yQ(Z:Wq)(C:Addr):Sp:=λvs H Q _=>∃x dx G l1 l2 hs cs ds es d,vs=[.ref x,.ref l1,.ref l2]/\H x=some (.ins C dx [])/\G x=none/\aD G H/\G l1=some (.lst hs)/\G l2=some (.lst cs)/\DenL Z.K G hs ds/\DenL Z.K G cs es/\
 dB [.lst ds,.lst es]=some (.inl d)/\∀G' H' as,aD G G'->(∀b o,b≠x->H b=some o->H' b=some o)->(∀b o,H b=some o->G b=none->G' b=none)->(∀a∈as,H a=none)->BkD Z.K C G' H' x as (T0 ds es)->Q .non H'
theorem zX{P:Qq}{w:Qw}{X:Cx}:gW (Ex.CX1 P w) X (λ_ _ _=>False):=λ_ _ _ _ _ _ _ ⟨_,_,_,_,_,_,_,_,_,_,h⟩=>h.elim
theorem Aw{Z:Wq}{base:Heap}{f C:Addr}{fd:QE}(F:Fun Z.K "__init__" "Book.__init__" (cm sB 0) f fd)(n:NoA Z.K C)(ml:Z.mg "list" = none)(HC:h_ Z):FnOk Z.P Z.w Z.K Z.mg base CX0 6 f fd ["self","hills","cool"] (yQ Z C):=by
 obtain⟨fc,fdc,⟨FA,_⟩,hF⟩:=HC;have SC:FnScope ["self","hills","cool"] ["self","hills","cool"] (aA (cm sB 0)):=⟨rfl,rfl,rfl,by decide +kernel,rfl,by decide +kernel,by decide +kernel⟩;refine F.ok (k:=5) SC (λvs H Q E h=>?_) (λcdv A outer s H vs Q E hr h=>?_)
 ·obtain⟨x,dx,G,l1,l2,hs,cs,ds,es,d,rfl,_⟩:=h
  rfl
 obtain⟨x,dx,G,l1,l2,hs,cs,ds,es,d,rfl,hx,gx,gh,e1,e2,d1,d2,er,q⟩:=h
 refine⟨_,ar (eL (bV (hF base) hr rfl FA.mgf FA.fu.kp FA.bi .nil zX (ag (pv 1) (ag (pv 2) ax))))
  (ar (gM (pv 0) (bw bh (by rfl) ml (by rfl) (ag (pv 1) ax)) rfl) (ar (gM (pv 0) (bw bh (by rfl) ml (by rfl) (ag (pv 2) ax)) rfl)
  (ar (gM (pv 0) bG rfl) (ar (gM (pv 0) (cR ax) rfl) (ar (gM (pv 0) (cR ax) rfl) (ar (gM (pv 0) (cR ax) rfl) (ar (gM (pv 0) (cR ax) rfl) (aH (gM (pv 0) (cR ax) rfl))))))))),?_⟩
 refine⟨_,rfl,_,rfl,G,[.lst ds,.lst es],.inl d,gh,.cons (.lst (.inl e1) d1) (.cons (.lst (.inl e2) d2) .nil),er,λd' rd v G' H1 g _=>?_,λc fs rc=>by cases rc⟩;have hx1:=g.hh _ _ hx;have h11:=g.hh _ _ (gh _ _ e1);have h12:=g.hh _ _ (gh _ _ e2);have n1:l1≠x:=λz=>by rw[z,gx] at e1;cases e1
 have n2:l2≠x:=λz=>by rw[z,gx] at e2;cases e2
 have few:∀{k:Nat} {fs:List (Str×V)},fs.length<=k->k<=100->fs.length<1000:=λa b=>QI (QF a b) (by decide);refine⟨_,rfl,l1,hs,rfl,.inl (SqL.of h11),λp1 hp1=>?_⟩;obtain⟨y1,H2,eq2,x2,a1,w1,k2⟩:=fP (f:="hills") (ys:=hs) hx1 hp1;refine⟨_,rfl,x,C,dx,[],rfl,y1,n.cl,n.n _ (by decide),by decide,?_⟩;rw[<-eq2];refine⟨_,rfl,l2,cs,rfl,.inl (SqL.of (k2 _ _ n2 h12)),λp2 hp2=>?_⟩;obtain⟨y2,H3,eq3,x3,a2,w2,k3⟩:=fP (f:="cool") (ys:=cs) x2 hp2;refine⟨_,rfl,x,C,dx,_,rfl,y2,n.cl,n.n _ (by decide),few (k:=20) (bA (QA _)) (by decide),?_⟩;rw[<-eq3];obtain⟨H4,eq4,x4,k4⟩:=vV (f:="hour") (v:=.int 0) x3;refine⟨_,rfl,x,C,dx,_,rfl,x3,n.cl,n.n _ (by decide),few (k:=20) (bA (bA (QA _))) (by decide),?_⟩;rw[<-eq4];refine⟨QA _,λp3 hp3=>?_⟩;obtain⟨y5,H5,eq5,x5,a3,w3,k5⟩:=fP (f:="winds") (ys:=[]) x4 hp3;refine⟨_,rfl,x,C,dx,_,rfl,y5,n.cl,n.n _ (by decide),few (k:=20) (bA (bA (bA (QA _)))) (by decide),?_⟩;rw[<-eq5];refine⟨QA _,λp4 hp4=>?_⟩;obtain⟨y6,H6,eq6,x6,a4,w4,k6⟩:=fP (f:="shuts") (ys:=[]) x5 hp4;refine⟨_,rfl,x,C,dx,_,rfl,y6,n.cl,n.n _ (by decide),few (k:=20) (bA (bA (bA (bA (QA _))))) (by decide),?_⟩;rw[<-eq6];refine⟨QA _,λp5 hp5=>?_⟩;obtain⟨y7,H7,eq7,x7,a5,w5,k7⟩:=fP (f:="balloons") (ys:=[]) x6 hp5;refine⟨_,rfl,x,C,dx,_,rfl,y7,n.cl,n.n _ (by decide),few (k:=20) (bA (bA (bA (bA (bA (QA _)))))) (by decide),?_⟩;rw[<-eq7];refine⟨QA _,λp6 hp6=>?_⟩;obtain⟨y8,H8,eq8,x8,a6,w6,k8⟩:=fP (f:="deeds") (ys:=[]) x7 hp6;refine⟨_,rfl,x,C,dx,_,rfl,y8,n.cl,n.n _ (by decide),few (k:=20) (bA (bA (bA (bA (bA (bA (QA _))))))) (by decide),?_⟩;rw[<-eq8];refine⟨QA _,λp7 hp7=>?_⟩;obtain⟨y9,H9,eq9,x9,a7,w7,k9⟩:=fP (f:="holds") (ys:=[]) x8 hp7;refine⟨_,rfl,x,C,dx,_,rfl,y9,n.cl,n.n _ (by decide),few (k:=20) (bA (bA (bA (bA (bA (bA (bA (QA _)))))))) (by decide),?_⟩;rw[<-eq9];have c1:=k3 _ _ w1 a1;have c1:=k4 _ _ w1 c1;have f2:=k4 _ _ w2 a2;have n12:p1≠p2:=ak a1 hp2;have n13:p1≠p3:=ak c1 hp3;have n23:p2≠p3:=ak f2 hp3;have c1:=k5 _ _ w1 c1;have f2:=k5 _ _ w2 f2;have n14:p1≠p4:=ak c1 hp4;have n24:p2≠p4:=ak f2 hp4;have n34:p3≠p4:=ak a3 hp4;have c1:=k6 _ _ w1 c1;have f2:=k6 _ _ w2 f2;have f3:=k6 _ _ w3 a3;have n15:p1≠p5:=ak c1 hp5;have n25:p2≠p5:=ak f2 hp5;have n35:p3≠p5:=ak f3 hp5;have n45:p4≠p5:=ak a4 hp5;have c1:=k7 _ _ w1 c1;have f2:=k7 _ _ w2 f2;have f3:=k7 _ _ w3 f3;have f4:=k7 _ _ w4 a4;have n16:p1≠p6:=ak c1 hp6;have n26:p2≠p6:=ak f2 hp6;have n36:p3≠p6:=ak f3 hp6;have n46:p4≠p6:=ak f4 hp6;have n56:p5≠p6:=ak a5 hp6;have c1:=k8 _ _ w1 c1;have f2:=k8 _ _ w2 f2;have f3:=k8 _ _ w3 f3;have f4:=k8 _ _ w4 f4;have f5:=k8 _ _ w5 a5;have n17:p1≠p7:=ak c1 hp7;have n27:p2≠p7:=ak f2 hp7;have n37:p3≠p7:=ak f3 hp7;have n47:p4≠p7:=ak f4 hp7;have n57:p5≠p7:=ak f5 hp7;have n67:p6≠p7:=ak a6 hp7;have up:∀b o,b≠x->H1 b=some o->H9 b=some o:=λb o hb e=>k9 _ _ hb (k8 _ _ hb (k7 _ _ hb (k6 _ _ hb (k5 _ _ hb (k4 _ _ hb (k3 _ _ hb (k2 _ _ hb e)))))))
 have new:∀{Hk:Hp} {p:Addr} {o':HO},(∀b o,b≠x->H1 b=some o->Hk b=some o)->Hk x=some o'->Hk p=none->H1 p=none:=λ{Hk p o'} k kx kp=>by
  cases z:H1 p with
  |none=>rfl
  |some o=>
   by_cases w:p=x
   ·rw[w,kx] at kp;cases kp
   ·have:=k p o w z
    rw[kp] at this;cases this
 have u4:∀b o,b≠x->H1 b=some o->H4 b=some o:=λb o hb e=>k4 _ _ hb (k3 _ _ hb (k2 _ _ hb e));have u5:∀b o,b≠x->H1 b=some o->H5 b=some o:=λb o hb e=>k5 _ _ hb (u4 _ _ hb e);have u6:∀b o,b≠x->H1 b=some o->H6 b=some o:=λb o hb e=>k6 _ _ hb (u5 _ _ hb e);have u7:∀b o,b≠x->H1 b=some o->H7 b=some o:=λb o hb e=>k7 _ _ hb (u6 _ _ hb e);have u8:∀b o,b≠x->H1 b=some o->H8 b=some o:=λb o hb e=>k8 _ _ hb (u7 _ _ hb e)
 have fr:∀a∈[p1,p2,p3,p4,p5,p6,p7],H1 a=none:=λa ha=>by
  simp only[Qm,Qt,or_false] at ha;rcases ha with rfl | rfl | rfl | rfl | rfl | rfl | rfl
  ·exact hp1
  ·exact new k2 x2 hp2
  ·exact new u4 x4 hp3
  ·exact new u5 x5 hp4
  ·exact new u6 x6 hp5
  ·exact new u7 x7 hp6
  ·exact new u8 x8 hp7
 have gx':G' x=none:=g.fo _ _ hx gx
 have bm:BkM C H9 x dx (bJ "holds" (.ref p7) (bJ "deeds" (.ref p6) (bJ "balloons" (.ref p5) (bJ "shuts" (.ref p4) (bJ "winds" (.ref p3) (bJ "hour" (.int 0) (bJ "cool" (.ref p2) (bJ "hills" (.ref p1) [])))))))) p1 p2 p3 p4 p5 p6 p7 ⟨hs,cs,0,[],[],[],[],[]⟩:=by
  refine⟨x9,?_,?_,?_,?_,?_,?_,?_,?_,k9 _ _ w1 c1,k9 _ _ w2 f2,k9 _ _ w3 f3,k9 _ _ w4 f4,k9 _ _ w5 f5,k9 _ _ w6 a6,a7,by simp[n12,n13,n14,n15,n16,n17,n23,n24,n25,n26,n27,n34,n35,n36,n37,n45,n46,n47,n56,n57,n67],λm hm=>?_,QF (m:=20) (bA (bA (bA (bA (bA (bA (bA (bA (QA _))))))))) (by decide)⟩
  case refine_9=>
   simp only[atN,Qm,Qt,or_false,not_or] at hm;obtain⟨m1,m2,m3,m4,m5,m6,m7,m8⟩:=hm;rw[bF m8,bF m7,bF m6,bF m5,bF m4,bF m3,bF m2,bF m1];rfl
  all_goals (repeat (first | exact qk | rw[bF (by decide)]))
 exact q G' H9 [p1,p2,p3,p4,p5,p6,p7] g.gg (λb o hb e=>up b o hb (g.hh _ _ e)) g.fo (λa ha=>g.hh.free (fr a ha)) ⟨λb o e=>up b o (λz=>by rw[z,gx'] at e;cases e) (g.gh _ _ e),gx',λa ha=>g.gh.free (fr a ha),⟨hs,cs,0,[],[],[],[],[]⟩,⟨dx,_,p1,p2,p3,p4,p5,p6,p7,rfl,bm⟩,⟨d1.mono g.gg,d2.mono g.gg,rfl,.nil,.nil,rfl,.nil,rfl⟩⟩
abbrev T3:=Int×Int×Int
def hD(t:T3):D:=.tup [.int t.1,.int t.2.1,.int t.2.2]
def first{α:Type}(B:α->Option Str):List α->Option Str
 |[]=>none
 |x::r=>(B x).or (first B r)
theorem js{α:Type}{g:D->Ev->Option Ev}{gb:Ev->Option Fl}(enc:α->D)(I:Ev->Prop)(B:α->Option Str)(out:Str->Fl)(ho:∀c ds ε ε1 (d:D),g d ε=some ε1->gb ε1=some (out c)->eS g gb (d::ds) ε=some (out c)):∀(xs:List α),
  (∀x∈xs,∀ε,I ε->∃ε1,g (enc x) ε=some ε1/\((∃c,B x=some c/\gb ε1=some (out c))\/(B x=none/\∃ε2,gb ε1=some (.nx ε2)/\I ε2)))->∀ε,I ε->
  (∃c,first B xs=some c/\eS g gb (xs.map enc) ε=some (out c))\/(first B xs=none/\∃ε',eS g gb (xs.map enc) ε=some (.nx ε')/\I ε')
 |[],_,ε,i=>.inr ⟨rfl,ε,rfl,i⟩
 |x::xs,st,ε,i=>by
  obtain⟨ε1,e1,z⟩:=st x QV ε i;rcases z with⟨c,b,e2⟩ | ⟨b,ε2,e2,i2⟩
  ·exact .inl ⟨c,by unfold first;rw[b];rfl,ho c _ ε ε1 _ e1 e2⟩
  ·have h:eS g gb ((x::xs).map enc) ε=eS g gb (xs.map enc) ε2:=by
    show(g (enc x) ε).bind _=_;rw[e1];show(gb ε1).bind _=_;rw[e2];rfl
   have f:first B (x::xs)=first B xs:=by show(B x).or _=_;rw[b];rfl
   rw[h,f];exact js enc I B out ho xs (λy hy=>st y (QG _ hy)) ε2 i2
theorem xA{g:D->Ev->Option Ev}{gb:Ev->Option Fl}(c:Str)(ds:List D)(ε ε1:Ev)(d:D)(e1:g d ε=some ε1)(e2:gb ε1=some (.xc c [])):eS g gb (d::ds) ε=some (.xc c []):=by
 show(g d ε).bind _=_;rw[e1];show(gb ε1).bind _=_;rw[e2];rfl
def jf(x y:Int):Bool:=!(decide (-999<=x)&&decide (x<=999)&&(decide (-999<=y)&&decide (y<=999)))
def ui(z:Int):Bool:=!(decide (1<=z)&&decide (z<=5))
def bH(t:T3):Option Str:=if jf t.1 t.2.1=true then some "BadPlace" else if ui t.2.2=true then some "BadHeight" else none
def mz(c:Int):Bool:=!(decide (0<=c)&&decide (c<=23))
def inK(cs:List Int)(h:Int):Bool:=inV (.int h) (cs.map V.int)
def bC(cs:List Int)(i:Nat):Option Str:=if mz (cs.getD i 0)=true then some "BadHour" else if inK (cs.take i) (cs.getD i 0)=true then some "Twice" else none
theorem uy(x y:Int):ee [.int x,.int y]=some (.bl (jf x y)):=by
 refine eX rfl (ja ?_);have a1:e2 ltI (bt mY (aj (aM 0) (aj (aM 1) aZ))) (ij (eC (.int 999))) (bf jx [.int x,.int y])=some (.bl (decide ((if y<x then y else x) < -999))):=rfl;have a2:e2 gtI (bt pO (aj (aM 0) (aj (aM 1) aZ))) (eC (.int 999)) (bf jx [.int x,.int y])=some (.bl (decide (999<(if y>x then y else x)))):=rfl;unfold eOr;rw[a1,a2];show(if decide ((if y<x then y else x) < -999)=true then some (D.bl true) else some (.bl (decide (999<(if y>x then y else x)))))=_;unfold jf
 by_cases c:(if y<x then y else x) < -999
 ·rw[if_pos (decide_eq_true c)]
  congr 2
  symm
  rw[JL,QR,QR,QR];simp only[decide_eq_false_iff_not];split at c<;>lia
 ·rw[if_neg (by simpa using c)]
  congr 2;rw[Jj,decide_eq_true_iff,JL,QR,QR,QR];simp only[decide_eq_false_iff_not];split at c<;>split<;>lia
theorem yJ(cs:List Int)(h:Int):inD false (.int h) (.lst (iL cs))=some (.bl (inK cs h)):=by show(qX (iL cs)).bind _=_;rw[oo];rfl
theorem pQ{N ps:List Str}{g:Ev->Option Fl}{ds:List D}{ε:Ev}(hl:ds.length=ps.length)(h:g (bf N ds)=some (.nx ε)):fnX N ps g ds=some (.inl .non):=by unfold fnX;rw[if_pos hl,h]
theorem iz{N ps:List Str}{g:Ev->Option Fl}{ds:List D}{c:Str}{fs:List (Str×D)}(hl:ds.length=ps.length)(h:g (bf N ds)=some (.xc c fs)):fnX N ps g ds=some (.inr (c,fs)):=by unfold fnX;rw[if_pos hl,h]
theorem uF(x y:Int):gj [.int x,.int y]=some (if jf x y=true then .inr ("BadPlace",[]) else .inl .non):=by
 have o:dj (kG (gu leI leI (ij (eC (.int 999))) (ai 0) (eC (.int 999))) (gu leI leI (ij (eC (.int 999))) (ai 1) (eC (.int 999)))) (bf eI [.int x,.int y])=some (jf x y):=by
  have c1:gu leI leI (ij (eC (.int 999))) (ai 0) (eC (.int 999)) (bf eI [.int x,.int y])=some (decide (-999<=x)&&decide (x<=999)):=by
   show asB (if decide (-999<=x)=true then some (D.bl (decide (x<=999))) else some (.bl false))=_;cases decide (-999<=x)<;>rfl
  have c2:gu leI leI (ij (eC (.int 999))) (ai 1) (eC (.int 999)) (bf eI [.int x,.int y])=some (decide (-999<=y)&&decide (y<=999)):=by
   show asB (if decide (-999<=y)=true then some (D.bl (decide (y<=999))) else some (.bl false))=_;cases decide (-999<=y)<;>rfl
  unfold dj kG;rw[c1,c2];unfold jf;cases(decide (-999<=x)&&decide (x<=999))<;>rfl
 cases hp:jf x y with
 |true=>rw[hp] at o;exact iz rfl ((dA o).trans rfl)
 |false=>rw[hp] at o;exact pQ rfl ((fz o).trans rfl)
theorem gS(c a b:Int):bT [.int c,.int a,.int b]=some (if !(decide (a<=c)&&decide (c<=b)) then .inr ("BadHour",[]) else .inl .non):=by
 have o:dj (gu leI leI (ai 1) (ai 0) (ai 2)) (bf eW [.int c,.int a,.int b])=some (!(decide (a<=c)&&decide (c<=b))):=by
  have c1:gu leI leI (ai 1) (ai 0) (ai 2) (bf eW [.int c,.int a,.int b])=some (decide (a<=c)&&decide (c<=b)):=by
   show asB (if decide (a<=c)=true then some (D.bl (decide (c<=b))) else some (.bl false))=_;cases decide (a<=c)<;>rfl
  unfold dj;rw[c1];rfl
 cases hp:(!(decide (a<=c)&&decide (c<=b))) with
 |true=>rw[hp] at o;exact iz rfl ((dA o).trans rfl)
 |false=>rw[hp] at o;exact pQ rfl ((fz o).trans rfl)
theorem cu{F:List D->Option Dn.Out}{g:Ev->Option (List D)}{ε:Ev}{ds:List D}{d:D}(h1:g ε=some ds)(h2:F ds=some (.inl d)):sXe F g ε=some (.nx ε):=by unfold sXe;rw[h1];show(F ds).bind _=_;rw[h2];rfl
theorem iS{F:List D->Option Dn.Out}{g:Ev->Option (List D)}{ε:Ev}{ds:List D}{c:Str}(h1:g ε=some ds)(h2:F ds=some (.inr (c,[]))):sXe F g ε=some (.xc c []):=by unfold sXe;rw[h1];show(F ds).bind _=_;rw[h2];rfl
theorem eG{g g':Ev->Option Fl}{ε:Ev}{c:Str}{fs:List (Str×D)}(h:g ε=some (.xc c fs)):aT g g' ε=some (.xc c fs):=by unfold aT;rw[h];rfl
theorem wt(t:T3):hZ [hD t]=some (match bH t with | some c=>.inr (c,[]) | none=>.inl .non):=by
 obtain⟨x,y,z⟩:=t;have s1:my (aM 0) (jn 3 (aF (az 1) (aF (az 2) (aF (az 3) cI)))) (bf jK [hD (x,y,z)])=some (.nx [.dat (hD (x,y,z)),.dat (.int x),.dat (.int y),.dat (.int z)]):=rfl;have a2:(aj (aM 1) (aj (aM 2) aZ)) [.dat (hD (x,y,z)),.dat (.int x),.dat (.int y),.dat (.int z)]=some [.int x,.int y]:=rfl
 have o:dj (gu leI leI (eC (.int 1)) (ai 3) (eC (.int 5))) [.dat (hD (x,y,z)),.dat (.int x),.dat (.int y),.dat (.int z)]=some (ui z):=by
  have c1:gu leI leI (eC (.int 1)) (ai 3) (eC (.int 5)) [.dat (hD (x,y,z)),.dat (.int x),.dat (.int y),.dat (.int z)]=some (decide (1<=z)&&decide (z<=5)):=by
   show asB (if decide (1<=z)=true then some (D.bl (decide (z<=5))) else some (.bl false))=_;cases decide (1<=z)<;>rfl
  unfold dj;rw[c1];rfl
 unfold bH;have p:=uF x y;show _=some (match(if jf x y=true then some ("BadPlace" : Str) else if ui z=true then some "BadHeight" else none) with | some c=>_ | none=>_);cases hp:jf x y with
 |true=>
  rw[hp] at p;exact iz rfl ((au s1).trans (eG (iS a2 p)))
 |false=>
  rw[hp] at p;cases ht:ui z with
  |true=>rw[ht] at o;exact iz rfl ((au s1).trans ((au (cu a2 p)).trans ((dA o).trans rfl)))
  |false=>rw[ht] at o;exact pQ rfl ((au s1).trans ((au (cu a2 p)).trans ((fz o).trans rfl)))
abbrev eo(a b s2 s3 s4:Sl):Ev:=[a,b,s2,s3,s4]
theorem qj(H C:D)(xs:List T3)(s2 s3 s4:Sl):(∃c,first bH xs=some c/\eS (az 2) cD (xs.map hD) (eo (.dat H) (.dat C) s2 s3 s4)=some (.xc c []))\/
  (first bH xs=none/\∃ε',eS (az 2) cD (xs.map hD) (eo (.dat H) (.dat C) s2 s3 s4)=some (.nx ε')/\∃t2 t3 t4,ε'=eo (.dat H) (.dat C) t2 t3 t4):=by
 refine js hD (λε=>∃t2 t3 t4,ε=eo (.dat H) (.dat C) t2 t3 t4) bH (λc=>.xc c []) xA xs (λt _ ε hI=>?_) _ ⟨s2,s3,s4,rfl⟩;obtain⟨t2,t3,t4,rfl⟩:=hI;refine⟨eo (.dat H) (.dat C) (.dat (hD t)) t3 t4,rfl,?_⟩;have h:=wt t;cases hb:bH t with
 |some c=>rw[hb] at h;exact .inl ⟨c,rfl,iS rfl h⟩
 |none=>rw[hb] at h;exact .inr ⟨rfl,_,cu rfl h,_,_,_,rfl⟩
theorem vG(cs:List Int):iI 0 (iL cs)=(Q7 cs.length).map (λi:Nat=>D.tup [.int (i:Int),.int (cs.getD i 0)]):=by
 have key:∀(l:List Int) (n:Nat),iI n (iL l)=(Q7 l.length).map λi=>D.tup [.int ((n+i:Nat):Int),.int (l.getD i 0)]:=by
  intro l
  induction l with
  |nil=>intro n;rfl
  |cons c l ih=>
   intro n;show D.tup [.int (n:Int),.int c]::iI (n+1) (iL l)=_;rw[ih (n+1),QD,List.range_succ_eq_map,Q3,List.map_map];congr 1;apply List.map_congr_left;intro i _;show _=D.tup [.int ((n+(i+1):Nat):Int),.int ((c::l).getD (i+1) 0)];rw[show n+(i+1)=n+1+i by lia];rfl
 rw[key cs 0];apply List.map_congr_left;intro i _;rw[Nat.zero_add]
theorem tG(H:D)(cs:List Int)(s2 s3 s4:Sl):(∃c,first (bC cs) (Q7 cs.length)=some c/\eS (i8 2 (aF (az 3) (aF (az 4) cI))) cA (iI 0 (iL cs)) (eo (.dat H) (.dat (.lst (iL cs))) s2 s3 s4)=some (.xc c []))\/
  (first (bC cs) (Q7 cs.length)=none/\∃ε',eS (i8 2 (aF (az 3) (aF (az 4) cI))) cA (iI 0 (iL cs)) (eo (.dat H) (.dat (.lst (iL cs))) s2 s3 s4)=some (.nx ε')/\∃t2 t3 t4,ε'=eo (.dat H) (.dat (.lst (iL cs))) t2 t3 t4):=by
 rw[vG];refine js (λi:Nat=>D.tup [.int (i:Int),.int (cs.getD i 0)]) (λε=>∃t2 t3 t4,ε=eo (.dat H) (.dat (.lst (iL cs))) t2 t3 t4) (bC cs) (λc=>.xc c []) xA (Q7 cs.length) (λi hi ε hI=>?_) _ ⟨s2,s3,s4,rfl⟩;obtain⟨t2,t3,t4,rfl⟩:=hI;generalize hc:cs.getD i 0=c;refine⟨eo (.dat H) (.dat (.lst (iL cs))) t2 (.dat (.int (i:Int))) (.dat (.int c)),rfl,?_⟩;have b:=gS c 0 23;have tk:iY (iL cs) none (some (i:Int))=iL (cs.take i):=by rw[kQ];unfold iL;rw[ZJ]
 have t:aX (inD false) (ai 4) (eF (eSl (ai 1) eP (bP (ai 3)))) (eo (.dat H) (.dat (.lst (iL cs))) t2 (.dat (.int (i:Int))) (.dat (.int c)))=some (inK (cs.take i) c):=
  nW (x:=.int c) (y:=.lst (iL (cs.take i))) rfl (lG (by show some (iY (iL cs) none (some (i:Int)))=_;rw[tk])) (yJ _ _)
 have a:(aj (aM 4) (aj (eC (.int 0)) (aj (e2 cZ (eC (.int 24)) (eC (.int 1))) aZ))) (eo (.dat H) (.dat (.lst (iL cs))) t2 (.dat (.int (i:Int))) (.dat (.int c)))=some [.int c,.int 0,.int 23]:=rfl;unfold bC;rw[hc];cases hp:mz c with
 |true=>
  unfold mz at hp;rw[hp] at b;exact .inl ⟨"BadHour",rfl,eG (iS a b)⟩
 |false=>
  unfold mz at hp;rw[hp] at b;show(∃d,(if inK (cs.take i) c=true then _ else _)=some d/\_)\/((if inK (cs.take i) c=true then _ else _)=none/\_);cases ht:inK (cs.take i) c with
  |true=>
   rw[ht] at t;exact .inl ⟨"Twice",rfl,(au (cu a b)).trans ((dA t).trans rfl)⟩
  |false=>
   rw[ht] at t;exact .inr ⟨rfl,_,(au (cu a b)).trans ((fz t).trans rfl),_,_,_,rfl⟩
theorem xq(xs:List T3)(cs:List Int):dB [.lst (xs.map hD),.lst (iL cs)]=some (match(if decide (20<xs.length) || decide (24<cs.length) then some ("Full" : Str) else(first bH xs).or (first (bC cs) (Q7 cs.length))) with | some c=>.inr (c,[]) | none=>.inl .non):=by
 have o:g_ (aX gtI (eQ fU (ai 0)) (eC (.int 20))) (aX gtI (eQ fU (ai 1)) (eC (.int 24))) (bf dD [.lst (xs.map hD),.lst (iL cs)])=some (decide (20<xs.length) || decide (24<cs.length)):=by
  show(if decide ((20:Int)<((xs.map hD).length:Int))=true then some true else some (decide ((24:Int)<((iL cs).length:Int))))=_;rw[QX,show(iL cs).length=cs.length by simp[iL]]
  by_cases c:20<xs.length
  ·rw[if_pos (by simp;lia),decide_eq_true c];rfl
  ·rw[if_neg (by simp;lia),decide_eq_false c,Bool.false_or]
   congr 1;rw[decide_eq_decide]
   lia
 cases hf:(decide (20<xs.length) || decide (24<cs.length)) with
 |true=>
  rw[hf] at o;exact iz rfl (eG ((dA o).trans rfl))
 |false=>
  rw[hf] at o;have f1:mG (aM 0) (bf dD [.lst (xs.map hD),.lst (iL cs)])=some (xs.map hD):=rfl;have step:∀{r:Fl},aT (ig (mG (aM 0)) (az 2) cD) (ig (oZ (aM 1)) (i8 2 (aF (az 3) (aF (az 4) cI))) cA) (eo (.dat (.lst (xs.map hD))) (.dat (.lst (iL cs))) .un .un .un)=some r->ia (bf dD [.lst (xs.map hD),.lst (iL cs)])=some r:=λh=>(au ((fz o).trans rfl)).trans h;rcases qj (.lst (xs.map hD)) (.lst (iL cs)) xs .un .un .un with⟨c,e1,e2⟩ | ⟨e1,ε',e2,t2,t3,t4,rfl⟩
  ·rw[e1]
   exact iz rfl (step (eG ((dW f1).trans e2)))
  ·rw[e1]
   have f2:oZ (aM 1) (eo (.dat (.lst (xs.map hD))) (.dat (.lst (iL cs))) t2 t3 t4)=some (iI 0 (iL cs)):=rfl;rcases tG (.lst (xs.map hD)) cs t2 t3 t4 with⟨c,e3,e4⟩ | ⟨e3,ε',e4,u2,u3,u4,rfl⟩
   ·rw[e3]
    exact iz rfl (step ((au ((dW f1).trans e2)).trans ((dW f2).trans e4)))
   ·rw[e3]
    exact pQ rfl (step ((au ((dW f1).trans e2)).trans ((dW f2).trans e4)))
theorem yy:iG=yH:=rfl
theorem yi(ns:List Int)(hn:ns.length<=63)(m:Nat)(hm:m<=5000):∃f:Nat->Int,Lw.fH [.lst (iL ns),.int (m:Int)]=some (.lst (iL (bU f m)))/\∀j,0<=f j/\f j<1000:=by
 obtain⟨row,e,h1,h2⟩:=wb ns hn m hm;obtain⟨f,rfl,hf⟩:=zv h1 h2;exact⟨f,eX rfl (by rw[yy];exact e),hf⟩
theorem gX{i:Nat}{fk g:Ev->Option D}{ε:Ev}{ds:List D}{m:Nat}{d:D}(h1:g ε=some d)(h2:fk ε=some (.int (m:Int)))(h3:ε[i]?=some (.own ds))(hm:m<ds.length):ni i fk g ε=some (.nx (ε.set i (.own (ds.set m d)))):=by
 unfold ni;rw[h1,h2,h3];show(ixN ds.length (m:Int)).map _=_;have:ixN ds.length (m:Int)=some m:=by unfold ixN;simp;lia
 rw[this];rfl
theorem rX:∀n,d7 n=FrS n
 |0=>rfl
 |n+1=>by
  show fnD _ _ (ko (d7 n))=fnD _ _ (kl (FrS n));rw[rX n];rfl
theorem qN(d:D)(h:OkS 5 d):cX [d,d]=some (.bl true):=by
 unfold cX;rw[rX];exact ow 5 d h
def AA(o:Option Str):Dn.Out:=match o with | some c=>.inr (c,[]) | none=>.inl .non
def vx(o:Option Str):D:=match o with | some c=>no c | none=>.tup []
def so(h:Int):Bool:=!(decide (0<=h)&&decide (h<=5))
def pF(x:Int):Bool:=decide (-2<=x)&&decide (x<=2)
def fW(n x h dx dy:Int):Option Str:=if mz x=true then some "BadHour" else if decide (x<n)=true then some "Past" else if so h=true then some "BadHeight" else if(!(pF dx&&pF dy))=true then some "BadWind" else none
theorem rj(a b x:Int):(decide (x<a) || decide (b<x)) = !(decide (a<=x)&&decide (x<=b)):=by
 rw[Jj];simp only[ZP,decide_eq_true_iff,JL,QR,decide_eq_false_iff_not]
 lia
theorem ye(a b x y:Int):(decide (o7 x y<a) || decide (b<oY x y)) = !((decide (a<=x)&&decide (x<=b))&&(decide (a<=y)&&decide (y<=b))):=by
 rw[Jj];simp only[ZP,decide_eq_true_iff,JL,QR,decide_eq_false_iff_not];unfold o7 oY;split<;>split<;>lia
theorem sD(n x h dx dy:Int):j_ n x h dx dy=vx (fW n x h dx dy):=by
 unfold j_ fW;rw[rj 0 23,rj 0 5,ye (-2) 2];show(if mz x=true then _ else if _ then _ else if so h=true then _ else if(!(pF dx&&pF dy))=true then _ else _)=_;split
 ·rfl
 split
 ·rfl
 split
 ·rfl
 split<;>rfl
theorem uY{a b c:Int}{fa fb fc:Ev->Option D}{ε:Ev}(h1:fa ε=some (.int a))(h2:fb ε=some (.int b))(h3:fc ε=some (.int c)):gu leI leI fa fb fc ε=some (decide (a<=b)&&decide (b<=c)):=by
 unfold gu;rw[zH h1 h2 h3];rfl
theorem tD(h:Int):fV [.int h]=some (if so h then .inr ("BadHeight",[]) else .inl .non):=by
 have o:dj (gu leI leI (eC (.int 0)) (ai 0) (eC (.int 5))) (bf i9 [.int h])=some (so h):=by
  unfold dj;rw[uY (a:=0) (b:=h) (c:=5) rfl rfl rfl];rfl
 cases hp:so h with
 |true=>rw[hp] at o;exact iz rfl ((dA o).trans rfl)
 |false=>rw[hp] at o;exact pQ rfl ((fz o).trans rfl)
theorem wa(n x h dx dy:Int):eY [.int n,.tup [.int x,.int h,.int dx,.int dy]]=some (AA (fW n x h dx dy)):=by
 let ε:Ev:=[.dat (.int n),.dat (.tup [.int x,.int h,.int dx,.int dy]),.dat (.int x),.dat (.int h),.dat (.int dx),.dat (.int dy)];have s1:my (aM 1) (jn 4 (aF (az 2) (aF (az 3) (aF (az 4) (aF (az 5) cI))))) (bf jS [.int n,.tup [.int x,.int h,.int dx,.int dy]])=some (.nx ε):=rfl;have a1:(aj (aM 2) (aj (eC (.int 0)) (aj (e2 cZ (eC (.int 24)) (eC (.int 1))) aZ))) ε=some [.int x,.int 0,.int 23]:=rfl;have a2:(aj (aM 3) aZ) ε=some [.int h]:=rfl;have b1:bT [.int x,.int 0,.int 23]=some (if mz x then .inr ("BadHour",[]) else .inl .non):=gS x 0 23;have b2:=tD h;have p:aX ltI (ai 2) (ai 0) ε=some (decide (x<n)):=rfl
 have w:dj (kG (gu leI leI (ij (eC (.int 2))) (ai 4) (eC (.int 2))) (gu leI leI (ij (eC (.int 2))) (ai 5) (eC (.int 2)))) ε=some (!(pF dx&&pF dy)):=by
  refine wy (wz (uY (a:=-2) (b:=dx) (c:=2) rfl rfl rfl) (uY (a:=-2) (b:=dy) (c:=2) rfl rfl rfl))
 clear_value ε
 unfold fW;cases hp:mz x with
 |true=>
  rw[hp] at b1;exact iz rfl ((au s1).trans (eG (iS a1 b1)))
 |false=>
  rw[hp] at b1;cases hq:decide (x<n) with
  |true=>
   rw[hq] at p;exact iz rfl ((au s1).trans ((au (cu a1 b1)).trans (eG ((dA p).trans rfl))))
  |false=>
   rw[hq] at p;cases hh:so h with
   |true=>
    rw[hh] at b2;exact iz rfl ((au s1).trans ((au (cu a1 b1)).trans ((au ((fz p).trans rfl)).trans (eG (iS a2 b2)))))
   |false=>
    rw[hh] at b2;cases hw : !(pF dx&&pF dy) with
    |true=>
     rw[hw] at w;exact iz rfl ((au s1).trans ((au (cu a1 b1)).trans ((au ((fz p).trans rfl)).trans ((au (cu a2 b2)).trans ((dA w).trans rfl)))))
    |false=>
     rw[hw] at w;exact pQ rfl ((au s1).trans ((au (cu a1 b1)).trans ((au ((fz p).trans rfl)).trans ((au (cu a2 b2)).trans ((fz w).trans rfl)))))
theorem yh{n x h dx dy:Int}{c:Str}(e:fW n x h dx dy=some c):∃j,j<19/\nms.getD j "" = c:=by
 unfold fW at e;split at e
 ·cases e;exact⟨3,by decide,rfl⟩
 split at e
 ·cases e;exact⟨4,by decide,rfl⟩
 split at e
 ·cases e;exact⟨7,by decide,rfl⟩
 split at e
 ·cases e;exact⟨9,by decide,rfl⟩
 ·cases e
abbrev bx6(a b c d e g:Int):D:=.tup [.int a,.int b,.int c,.int d,.int e,.int g]
def mh(a b c d e g:Int):Bool:=(decide (-999<=a)&&(decide (a<=c)&&decide (c<=999)))&&((decide (-999<=b)&&(decide (b<=d)&&decide (d<=999)))&&(decide (0<=e)&&(decide (e<=g)&&decide (g<=5))))
theorem yV{a b c d:Int}{fa fb fc fd:Ev->Option D}{ε:Ev}(h1:fa ε=some (.int a))(h2:fb ε=some (.int b))(h3:fc ε=some (.int c))(h4:fd ε=some (.int d)):sJ fa (jk leI fb (jk leI fc (mT leI fd))) ε=some (.bl (decide (a<=b)&&(decide (b<=c)&&decide (c<=d)))):=by
 unfold sJ jk mT;rw[h1,h2,h3,h4];show(if decide (a<=b)=true then(if decide (b<=c)=true then some (D.bl (decide (c<=d))) else some (.bl false)) else some (.bl false))=_;cases decide (a<=b)<;>cases decide (b<=c)<;>rfl
theorem wJ(a b c d e g:Int):hV [bx6 a b c d e g]=some (.bl (mh a b c d e g)):=by
 refine eX rfl ((au (ε':=[.dat (bx6 a b c d e g),.dat (.int a),.dat (.int b),.dat (.int c),.dat (.int d),.dat (.int e),.dat (.int g)]) rfl).trans (ja ?_));exact oA (yV (a:=-999) (d:=999) rfl rfl rfl rfl) (oA (yV (a:=-999) (d:=999) rfl rfl rfl rfl) (yV (a:=0) (d:=5) rfl rfl rfl rfl))
theorem yL(a b c d e g:Int):cT [bx6 a b c d e g]=some (.bl (!mh a b c d e g)):=by
 let ε:Ev:=[.dat (bx6 a b c d e g),.dat (.int a),.dat (.int b),.dat (.int c),.dat (.int d),.dat (.int e),.dat (.int g)]
 have t:g_ (gI (bt ee (aj (aM 1) (aj (aM 2) aZ)))) (g_ (gI (bt ee (aj (aM 3) (aj (aM 4) aZ)))) (g_ (aX gtI (ai 1) (ai 3)) (aX gtI (ai 2) (ai 4)))) ε=some (jf a b || (jf c d || (decide (c<a) || decide (d<b)))):=
  qv (rF ((iA (x:=.int a) (y:=.int b) rfl rfl).trans (uy a b))) (qv (rF ((iA (x:=.int c) (y:=.int d) rfl rfl).trans (uy c d))) (qv rfl rfl))
 have s1:my (aM 0) (jn 6 (aF (az 1) (aF (az 2) (aF (az 3) (aF (az 4) (aF (az 5) (aF (az 6) cI))))))) (bf iC [bx6 a b c d e g])=some (.nx ε):=rfl;have r:eOr (e2 ltI (ai 5) (eC (.int 0))) (eOr (e2 gtI (ai 6) (eC (.int 5))) (e2 gtI (ai 5) (ai 6))) ε=some (.bl (decide (e<0) || (decide (5<g) || decide (g<e)))):=vh rfl (vh rfl rfl);cases ht:(jf a b || (jf c d || (decide (c<a) || decide (d<b)))) with
 |true=>
  rw[ht] at t;refine eX rfl ((au s1).trans ((kU ((dA t).trans rfl)).trans ?_));congr 3
  symm
  unfold jf at ht;unfold mh;simp only[ZP,decide_eq_true_iff,JL,QR,decide_eq_false_iff_not] at ht ⊢
  lia
 |false=>
  rw[ht] at t;refine eX rfl ((au s1).trans ((au ((fz t).trans rfl)).trans ((ja r).trans ?_)));congr 3;unfold jf at ht;unfold mh;rw[Jj];simp only[ZP,Bool.or_eq_false_iff,decide_eq_true_iff,JL,Bool.not_eq_false',ZF,QR,decide_eq_false_iff_not] at ht ⊢
  lia
def fS(bad:Bool)(n x y:Int):Option Str:=if bad=true then some "BadBox" else if(!(decide (0<=x)&&decide (x<=24)))=true then some "BadHour" else if(!(decide (x<=y)&&decide (y<=24)))=true then some "BadHour" else if decide (x<=n)=true then some "Past" else none
theorem sY(bad:Bool)(n x y:Int):lL bad n x y=vx (fS bad n x y):=by
 unfold lL fS
 have e:(decide (o7 x y<0) || (decide (24<oY x y) || decide (y<x)))=(!(decide (0<=x)&&decide (x<=24)) || !(decide (x<=y)&&decide (y<=24))):=by
  rw[Jj];simp only[ZP,decide_eq_true_iff,JL,QR,decide_eq_false_iff_not];unfold o7 oY;split<;>split<;>lia
 rw[e];split
 ·rfl
 cases(!(decide (0<=x)&&decide (x<=24))) with
 |true=>rfl
 |false=>
  cases(!(decide (x<=y)&&decide (y<=24))) with
  |true=>rfl
  |false=>
   show(if decide (x<=n)=true then _ else _)=vx (if decide (x<=n)=true then _ else _);split<;>rfl
theorem wF(n x y a b c d e g:Int):fm [.int n,bx6 a b c d e g,.int x,.int y]=some (AA (fS (!mh a b c d e g) n x y)):=by
 have g1:=wJ a b c d e g;generalize mh a b c d e g=gb at g1;let ε:Ev:=[.dat (.int n),.dat (bx6 a b c d e g),.dat (.int x),.dat (.int y)]
 have b0:iO [bx6 a b c d e g]=some (if(!gb)=true then .inr ("BadBox",[]) else .inl .non):=by
  have o:dj (gI (bt hV (aj (aM 0) aZ))) (bf kE [bx6 a b c d e g])=some (!gb):=tq ((qD (x:=bx6 a b c d e g) rfl).trans g1);cases hp : !gb with
  |true=>rw[hp] at o;exact iz rfl ((dA o).trans rfl)
  |false=>rw[hp] at o;exact pQ rfl ((fz o).trans rfl)
 have a0:(aj (aM 1) aZ) ε=some [bx6 a b c d e g]:=rfl;have a1:(aj (aM 2) (aj (eC (.int 0)) (aj (eC (.int 24)) aZ))) ε=some [.int x,.int 0,.int 24]:=rfl;have a2:(aj (aM 3) (aj (aM 2) (aj (eC (.int 24)) aZ))) ε=some [.int y,.int x,.int 24]:=rfl;have b1:=gS x 0 24;have b2:=gS y x 24;have p:aX leI (ai 2) (ai 0) ε=some (decide (x<=n)):=rfl;have st:bf jI [.int n,bx6 a b c d e g,.int x,.int y]=ε:=rfl
 clear_value ε
 subst st;unfold fS;cases hb : !gb with
 |true=>
  rw[hb] at b0;exact iz rfl (eG (iS a0 b0))
 |false=>
  rw[hb] at b0;cases hp:(!(decide (0<=x)&&decide (x<=24))) with
  |true=>
   rw[hp] at b1;exact iz rfl ((au (cu a0 b0)).trans (eG (iS a1 b1)))
  |false=>
   rw[hp] at b1;cases hq:(!(decide (x<=y)&&decide (y<=24))) with
   |true=>
    rw[hq] at b2;exact iz rfl ((au (cu a0 b0)).trans ((au (cu a1 b1)).trans (eG (iS a2 b2))))
   |false=>
    rw[hq] at b2;cases hh:decide (x<=n) with
    |true=>
     rw[hh] at p;exact iz rfl ((au (cu a0 b0)).trans ((au (cu a1 b1)).trans ((au (cu a2 b2)).trans ((dA p).trans rfl))))
    |false=>
     rw[hh] at p;exact pQ rfl ((au (cu a0 b0)).trans ((au (cu a1 b1)).trans ((au (cu a2 b2)).trans ((fz p).trans rfl))))
theorem zr{b:Bool}{n x y:Int}{c:Str}(e:fS b n x y=some c):∃j,j<19/\nms.getD j "" = c:=by
 unfold fS at e;split at e
 ·cases e;exact⟨10,by decide,rfl⟩
 split at e
 ·cases e;exact⟨3,by decide,rfl⟩
 split at e
 ·cases e;exact⟨3,by decide,rfl⟩
 split at e
 ·cases e;exact⟨4,by decide,rfl⟩
 ·cases e
abbrev cW(x h dx dy:Int):D:=.tup [.str "wind",.int x,.int h,.int dx,.int dy]
abbrev cS(a b c d e g x y:Int):D:=.tup [.str "shut",bx6 a b c d e g,.int x,.int y]
def jz(d:D):Prop:=(∃x h dx dy,d=cW x h dx dy)\/∃a b c d' e g x y,d=cS a b c d' e g x y
def lr:List D:=[.int (-1),.int 6,.int 7,.int 5,.int 24,.int 25,.int 1000,.int (-1000),.int 3,.int (-999),.int 999,.int 0]
theorem zf(j:Int)(h0:0<=j)(h1:j<12):∃v,atI lr j=some (.int v):=by
 obtain⟨x,hx,e⟩:=uS lr j h0 (by show j<12;exact h1);unfold lr at hx;simp only[Qm,Qt,or_false] at hx;rcases hx with rfl | rfl | rfl | rfl | rfl | rfl | rfl | rfl | rfl | rfl | rfl | rfl<;>exact⟨_,e⟩
abbrev eb(c:D)(d0 d1 d2 d3 d4:Int)(ps:List D)(at_:Int)(s5 s6:Sl):Ev:=[.dat c,.dat (.lst (iL [d0,d1,d2,d3,d4])),.own ps,.dat (.int at_),.dat (.lst lr),s5,s6]
theorem eE(c:D)(d0 d1 d2 d3 d4:Int)(ps:List D)(m:Int)(s5 s6:Sl):∃v,e2 ixD (ai 4) (e2 aW (e2 ixD (ai 1) (eC (.int 1))) (eC (.int 12))) (eb c d0 d1 d2 d3 d4 ps m s5 s6)=some (.int v):=by
 obtain⟨v,e⟩:=zf (d1%12) (by lia) (by lia);exact⟨v,aK (x:=.lst lr) (y:=.int (d1%12)) rfl rfl e⟩
theorem tw(d0 d1 d2 d3 d4 x h dx dy:Int):∃x' h' dx' dy',eN [cW x h dx dy,.lst (iL [d0,d1,d2,d3,d4])]=some (cW x' h' dx' dy'):=by
 have key:∃x' h' dx' dy',dJ (bf dI [cW x h dx dy,.lst (iL [d0,d1,d2,d3,d4])])=some (.rt (cW x' h' dx' dy')):=by
  have hm4:1+d0%4=1\/1+d0%4=2\/1+d0%4=3\/1+d0%4=4:=by lia
  have s:∀{r:Fl},_=some r->dJ (bf dI [cW x h dx dy,.lst (iL [d0,d1,d2,d3,d4])])=some r:=λ{r} e=>
   (au (ε':=[.dat (cW x h dx dy),.dat (.lst (iL [d0,d1,d2,d3,d4])),.own [.str "wind",.int x,.int h,.int dx,.int dy],.un,.un,.un,.un]) rfl).trans ((au (ε':=[.dat (cW x h dx dy),.dat (.lst (iL [d0,d1,d2,d3,d4])),.own [.str "wind",.int x,.int h,.int dx,.int dy],.dat (.int (1+d0%4)),.un,.un,.un]) rfl).trans
    ((au (ε':=eb (cW x h dx dy) d0 d1 d2 d3 d4 [.str "wind",.int x,.int h,.int dx,.int dy] (1+d0%4) .un .un) rfl).trans e))
  generalize 1+d0%4=m at s hm4;rcases hm4 with rfl | rfl | rfl | rfl
  ·obtain⟨v,hv⟩:=eE (cW x h dx dy) d0 d1 d2 d3 d4 [.str "wind",.int x,.int h,.int dx,.int dy] 1 (.dat (.int x)) .un
   exact⟨v,h,dx,dy,s ((au rfl).trans ((au rfl).trans ((au ((dA rfl).trans (gX (m:=1) hv rfl rfl (by simp)))).trans rfl)))⟩
  ·obtain⟨v,hv⟩:=eE (cW x h dx dy) d0 d1 d2 d3 d4 [.str "wind",.int x,.int h,.int dx,.int dy] 2 (.dat (.int h)) .un
   exact⟨x,v,dx,dy,s ((au rfl).trans ((au rfl).trans ((au ((dA rfl).trans (gX (m:=2) hv rfl rfl (by simp)))).trans rfl)))⟩
  ·obtain⟨v,hv⟩:=eE (cW x h dx dy) d0 d1 d2 d3 d4 [.str "wind",.int x,.int h,.int dx,.int dy] 3 (.dat (.int dx)) .un
   exact⟨x,h,v,dy,s ((au rfl).trans ((au rfl).trans ((au ((dA rfl).trans (gX (m:=3) hv rfl rfl (by simp)))).trans rfl)))⟩
  ·obtain⟨v,hv⟩:=eE (cW x h dx dy) d0 d1 d2 d3 d4 [.str "wind",.int x,.int h,.int dx,.int dy] 4 (.dat (.int dy)) .un
   exact⟨x,h,dx,v,s ((au rfl).trans ((au rfl).trans ((au ((dA rfl).trans (gX (m:=4) hv rfl rfl (by simp)))).trans rfl)))⟩
 obtain⟨x',h',dx',dy',e⟩:=key;exact⟨x',h',dx',dy',eX rfl e⟩
theorem sE(d0 d1 d2 d3 d4 a b c d e g x y:Int):∃a' b' c' d' e' g' x' y',eN [cS a b c d e g x y,.lst (iL [d0,d1,d2,d3,d4])]=some (cS a' b' c' d' e' g' x' y'):=by
 have key:∃a' b' c' d' e' g' x' y',dJ (bf dI [cS a b c d e g x y,.lst (iL [d0,d1,d2,d3,d4])])=some (.rt (cS a' b' c' d' e' g' x' y')):=by
  have hm:1+d0%3=1\/1+d0%3=2\/1+d0%3=3:=by lia
  have s:∀{r:Fl},_=some r->dJ (bf dI [cS a b c d e g x y,.lst (iL [d0,d1,d2,d3,d4])])=some r:=λ{r} e'=>
   (au (ε':=[.dat (cS a b c d e g x y),.dat (.lst (iL [d0,d1,d2,d3,d4])),.own [.str "shut",bx6 a b c d e g,.int x,.int y],.un,.un,.un,.un]) rfl).trans ((au (ε':=[.dat (cS a b c d e g x y),.dat (.lst (iL [d0,d1,d2,d3,d4])),.own [.str "shut",bx6 a b c d e g,.int x,.int y],.dat (.int (1+d0%3)),.un,.un,.un]) rfl).trans
    ((au (ε':=eb (cS a b c d e g x y) d0 d1 d2 d3 d4 [.str "shut",bx6 a b c d e g,.int x,.int y] (1+d0%3) .un .un) rfl).trans e'))
  generalize 1+d0%3=m at s hm;rcases hm with rfl | rfl | rfl
  ·have hk:d2%6=0\/d2%6=1\/d2%6=2\/d2%6=3\/d2%6=4\/d2%6=5:=by lia
   have T:∀(k a' b' c' d' e' g':Int),d2%6=k->e2 sC (e2 sC (vi (ai 5) eP (bP (ai 6))) (gq (aj (e2 ixD (ai 4) (e2 aW (e2 ixD (ai 1) (eC (.int 1))) (eC (.int 12)))) aZ))) (vi (ai 5) (bP (e2 bq (ai 6) (eC (.int 1)))) eP) (eb (cS a b c d e g x y) d0 d1 d2 d3 d4 [.str "shut",bx6 a b c d e g,.int x,.int y] 1 (.dat (bx6 a b c d e g)) (.dat (.int k)))=some (bx6 a' b' c' d' e' g')->
     dJ (bf dI [cS a b c d e g x y,.lst (iL [d0,d1,d2,d3,d4])])=some (.rt (cS a' b' c' d' e' g' x y)):=λk a' b' c' d' e' g' hk put=>by
    subst hk;exact s ((au (ε':=eb (cS a b c d e g x y) d0 d1 d2 d3 d4 [.str "shut",bx6 a b c d e g,.int x,.int y] 1 (.dat (bx6 a b c d e g)) .un) rfl).trans ((au rfl).trans ((au rfl).trans ((au ((dA rfl).trans ((au (ε':=eb (cS a b c d e g x y) d0 d1 d2 d3 d4 [.str "shut",bx6 a b c d e g,.int x,.int y] 1 (.dat (bx6 a b c d e g)) (.dat (.int (d2%6)))) rfl).trans (gX (m:=1) put rfl rfl (by simp))))).trans rfl))))
   have V:=eE (cS a b c d e g x y) d0 d1 d2 d3 d4 [.str "shut",bx6 a b c d e g,.int x,.int y] 1 (.dat (bx6 a b c d e g));rcases hk with hk | hk | hk | hk | hk | hk
   ·obtain⟨v,hv⟩:=V (.dat (.int 0))
    exact⟨v,b,c,d,e,g,x,y,T 0 v b c d e g hk (aK (aK rfl (eM (aY hv rfl) (by simp)) rfl) rfl rfl)⟩
   ·obtain⟨v,hv⟩:=V (.dat (.int 1))
    exact⟨a,v,c,d,e,g,x,y,T 1 a v c d e g hk (aK (aK rfl (eM (aY hv rfl) (by simp)) rfl) rfl rfl)⟩
   ·obtain⟨v,hv⟩:=V (.dat (.int 2))
    exact⟨a,b,v,d,e,g,x,y,T 2 a b v d e g hk (aK (aK rfl (eM (aY hv rfl) (by simp)) rfl) rfl rfl)⟩
   ·obtain⟨v,hv⟩:=V (.dat (.int 3))
    exact⟨a,b,c,v,e,g,x,y,T 3 a b c v e g hk (aK (aK rfl (eM (aY hv rfl) (by simp)) rfl) rfl rfl)⟩
   ·obtain⟨v,hv⟩:=V (.dat (.int 4))
    exact⟨a,b,c,d,v,g,x,y,T 4 a b c d v g hk (aK (aK rfl (eM (aY hv rfl) (by simp)) rfl) rfl rfl)⟩
   ·obtain⟨v,hv⟩:=V (.dat (.int 5))
    exact⟨a,b,c,d,e,v,x,y,T 5 a b c d e v hk (aK (aK rfl (eM (aY hv rfl) (by simp)) rfl) rfl rfl)⟩
  ·obtain⟨v,hv⟩:=eE (cS a b c d e g x y) d0 d1 d2 d3 d4 [.str "shut",bx6 a b c d e g,.int x,.int y] 2 (.dat (.int x)) .un
   exact⟨a,b,c,d,e,g,v,y,s ((au rfl).trans ((au rfl).trans ((au ((dA rfl).trans (gX (m:=2) hv rfl rfl (by simp)))).trans rfl)))⟩
  ·obtain⟨v,hv⟩:=eE (cS a b c d e g x y) d0 d1 d2 d3 d4 [.str "shut",bx6 a b c d e g,.int x,.int y] 3 (.dat (.int y)) .un
   exact⟨a,b,c,d,e,g,x,v,s ((au rfl).trans ((au rfl).trans ((au ((dA rfl).trans (gX (m:=3) hv rfl rfl (by simp)))).trans rfl)))⟩
 obtain⟨a',b',c',d',e',g',x',y',w⟩:=key;exact⟨a',b',c',d',e',g',x',y',eX rfl w⟩
theorem wx{d:D}(f:Nat->Int)(h:jz d):∃d',eN [d,.lst (iL (bU f 5))]=some d'/\jz d':=by
 rcases h with⟨x,h,dx,dy,rfl⟩ | ⟨a,b,c,d,e,g,x,y,rfl⟩
 ·obtain⟨x',h',dx',dy',e⟩:=tw (f 0) (f 1) (f 2) (f 3) (f 4) x h dx dy
  exact⟨_,e,.inl ⟨x',h',dx',dy',rfl⟩⟩
 ·obtain⟨a',b',c',d',e',g',x',y',w⟩:=sE (f 0) (f 1) (f 2) (f 3) (f 4) a b c d e g x y
  exact⟨_,w,.inr ⟨a',b',c',d',e',g',x',y',rfl⟩⟩
def fX(b:Int):Prop:=-985<=b/\b<=985
theorem wO(a0 a1 a2:Int)(h1:0<=a1/\a1<1000)(h2:0<=a2/\a2<1000):∃b0 b1,ip [.lst (iL [a0,a1,a2])]=some (.tup [.int b0,.int b1])/\fX b0/\fX b1:=by
 have key:∃b0 b1,iw [.dat (.lst (iL [a0,a1,a2]))]=some (.rt (.tup [.int b0,.int b1]))/\fX b0/\fX b1:=by
  unfold iw
  by_cases c1:a0%5=1
  ·exact⟨a1-500,a2-500,kU (by rw[nC (a0%5=1) rfl c1];rfl),by unfold fX;lia,by unfold fX;lia⟩
  ·by_cases c2:a0%5=2
   ·refine⟨(a1%3-1)*985,(a2%3-1)*985,(au (by rw[lu (a0%5=1) rfl c1];rfl)).trans (kU ?_),by unfold fX;lia,by unfold fX;lia⟩
    rw[nC (a0%5=2) rfl c2];refine ja ?_;have c1:e2 cE (e2 cZ (e2 aW (e2 ixD (ai 0) (eC (.int 1))) (eC (.int 3))) (eC (.int 1))) (eC (.int 985)) [.dat (.lst (iL [a0,a1,a2]))]=some (.int ((a1%3-1)*985)):=(cM (x:=.int (a1%3-1)) (y:=.int 985) rfl rfl).trans (zZ (by decide));have c2:e2 cE (e2 cZ (e2 aW (e2 ixD (ai 0) (eC (.int 2))) (eC (.int 3))) (eC (.int 1))) (eC (.int 985)) [.dat (.lst (iL [a0,a1,a2]))]=some (.int ((a2%3-1)*985)):=(cM (x:=.int (a2%3-1)) (y:=.int 985) rfl rfl).trans (zZ (by decide));unfold gq aj;rw[c1,c2];rfl
   ·exact⟨0,0,(au (by rw[lu (a0%5=1) rfl c1];rfl)).trans ((au (by rw[lu (a0%5=2) rfl c2];rfl)).trans rfl),by unfold fX;lia,by unfold fX;lia⟩
 obtain⟨b0,b1,e,h⟩:=key;exact⟨b0,b1,eX rfl e,h⟩
theorem xZ{x y z:Int}(hx:-999<=x/\x<=999)(hy:-999<=y/\y<=999)(hz:1<=z/\z<=5):bH (x,y,z)=none:=by
 unfold bH jf ui;simp[hx.1,hx.2,hy.1,hy.2,hz.1,hz.2]
theorem jr{α:Type}{B:α->Option Str}:∀{xs:List α},(∀x∈xs,B x=none)->first B xs=none
 |[],_=>rfl
 |x::xs,h=>by
  show(B x).or (first B xs)=none;rw[h x QV,jr λy hy=>h y (QG _ hy)];rfl
def Cl(cs:List Int):Prop:=cs.Pairwise (·≠·)/\∀c∈cs,0<=c/\c<=23
theorem rK{cs:List Int}{h:Int}:inK cs h=true↔h∈cs:=by
 unfold inK inV;rw[List.any_eq_true];constructor
 ·rintro⟨v,hv,e⟩
  obtain⟨c,hc,rfl⟩:=Zi.mp hv
  have:c=h:=by
   have e':decide (c=h)=true:=e;exact of_decide_eq_true e'
  exact this▸hc
 ·intro hc
  refine⟨.int h,Zi.mpr ⟨h,hc,rfl⟩,?_⟩;show decide (h=h)=true;exact decide_eq_true rfl
theorem tM{cs:List Int}(h:Cl cs):first (bC cs) (Q7 cs.length)=none:=by
 refine jr λi hi=>?_;have lt:=List.mem_range.mp hi;have e:cs.getD i 0=cs[i]:=by simp[lt]
 unfold bC;rw[e];have b:=h.2 cs[i] (List.getElem_mem lt);have u:mz cs[i]=false:=by unfold mz;simp[b.1,b.2]
 have k:inK (cs.take i) cs[i]=false:=by
  cases z:inK (cs.take i) cs[i] with
  |false=>rfl
  |true=>
   have m:=rK.mp z;obtain⟨j,hj,ej⟩:=List.getElem_of_mem m
   have jl:j<i:=by
    have:=hj;rw[Zc] at this
    lia
   have p:=J7.mp h.1 j i (by lia) lt jl;rw[List.getElem_take] at ej;exact absurd ej p
 rw[u,k];rfl
theorem Cl.snoc{cs:List Int}{c:Int}(h:Cl cs)(n:inK cs c=false)(b:0<=c/\c<=23):Cl (cs++[c]):=by
 refine⟨List.pairwise_append.mpr ⟨h.1,List.pairwise_singleton _ _,λx hx y hy=>?_⟩,λx hx=>?_⟩
 ·rw[QW.mp hy]
  intro z;rw[z] at hx;rw[rK.mpr hx] at n;cases n
 ·rcases Q8.mp hx with z | z
  ·exact h.2 x z
  ·rw[QW.mp z];exact b
def ku(d:Int):List Int:=(Q7 24).map λj:Nat=>(7*(j:Int)+d)%24
theorem p_(d:Int):Cl (ku d)/\(ku d).length=24:=by
 refine⟨⟨?_,λc hc=>?_⟩,by simp[ku]⟩
 ·unfold ku
  rw[J7];intro i j hi hj lt;simp only[QX,List.length_range] at hi hj;simp only[List.getElem_map,List.getElem_range,ne_eq]
  lia
 ·obtain⟨j,_,rfl⟩:=Zi.mp hc
  lia
section
variable(f:Nat->Int)(hf:∀j,0<=f j/\f j<1000)(b0 b1:Int)(hb0:fX b0)(hb1:fX b1)
abbrev eo5(f:Nat->Int)(b0 b1:Int)(s2 s3 s4:Sl):Ev:=[.dat (.lst (iL (bU f 25))),.dat (.tup [.int b0,.int b1]),s2,s3,s4]
def Hs(xs:List T3):Prop:=∀t∈xs,bH t=none
theorem Hs.snoc{xs:List T3}{t:T3}(h:Hs xs)(n:bH t=none):Hs (xs++[t]):=λu hu=>by
 rcases Q8.mp hu with z | z
 ·exact h u z
 ·rw[QW.mp z];exact n
include hf hb0 hb1 in
theorem op0(k:Nat)(hk:k<6)(xs:List T3)(hz:xs.length<1000)(s4:Sl):∃t:T3,bH t=none/\cK (eo5 f b0 b1 (.own (xs.map hD)) (.dat (.int (k:Int))) s4)=some (.nx (eo5 f b0 b1 (.own ((xs++[t]).map hD)) (.dat (.int (k:Int))) s4)):=by
 have m:e2 cE (eC (.int 3)) (ai 3) (eo5 f b0 b1 (.own (xs.map hD)) (.dat (.int (k:Int))) s4)=some (.int (3*(k:Int))):=aK (x:=.int 3) (y:=.int (k:Int)) rfl rfl (o6 (by decide))
 have at_:∀j:Nat,j<4->e2 ixD (ai 0) (e2 bq (e2 cE (eC (.int 3)) (ai 3)) (eC (.int (j:Int)))) (eo5 f b0 b1 (.own (xs.map hD)) (.dat (.int (k:Int))) s4)=some (.int (f (3*k+j))):=λj hj=>by
  rw[cM (x:=(.lst (iL (bU f 25)))) (y:=.int ((3*k+j:Nat):Int)) rfl ((cM (x:=.int (3*(k:Int))) (y:=.int (j:Int)) m rfl).trans (by show some (D.int _)=_;rw[show(3*(k:Int)+(j:Int))=((3*k+j:Nat):Int) by lia]))];exact dX f 25 _ (by lia)
 have a1:e2 ixD (ai 0) (e2 bq (e2 cE (eC (.int 3)) (ai 3)) (eC (.int 1))) _=some (.int (f (3*k+1))):=at_ 1 (by decide);have a2:e2 ixD (ai 0) (e2 bq (e2 cE (eC (.int 3)) (ai 3)) (eC (.int 2))) _=some (.int (f (3*k+2))):=at_ 2 (by decide);have a3:e2 ixD (ai 0) (e2 bq (e2 cE (eC (.int 3)) (ai 3)) (eC (.int 3))) _=some (.int (f (3*k+3))):=at_ 3 (by decide);unfold fX at hb0 hb1;refine⟨(b0+f (3*k+1)%11-5,b1+f (3*k+2)%11-5,1+f (3*k+3)%5),xZ (by lia) (by lia) (by lia),?_⟩;unfold cK;refine(oH (ds:=xs.map hD) (d:=hD (b0+f (3*k+1)%11-5,b1+f (3*k+2)%11-5,1+f (3*k+3)%5)) ?_ rfl (by simp;lia)).trans ?_
 ·refine eM (aY (aK (aK rfl (aK a1 rfl rfl) rfl) rfl rfl) (aY (aK (aK rfl (aK a2 rfl rfl) rfl) rfl rfl) (aY (aK rfl (aK a3 rfl rfl) rfl) rfl))) (show 3<=1000 by decide)
 ·rw[List.map_append]
  rfl
theorem op1(k:Nat)(hk:k<6)(cs:List Int)(hc:Cl cs)(hz:cs.length<1000)(s2:Sl):∃cs':List Int,Cl cs'/\cs'.length<=cs.length+1/\cL (eo5 f b0 b1 s2 (.dat (.int (k:Int))) (.own (iL cs)))=some (.nx (eo5 f b0 b1 s2 (.dat (.int (k:Int))) (.own (iL cs')))):=by
 have a1:e2 aW (e2 ixD (ai 0) (e2 bq (eC (.int 16)) (ai 3))) (eC (.int 24)) (eo5 f b0 b1 s2 (.dat (.int (k:Int))) (.own (iL cs)))=some (.int (f (16+k)%24)):=
  aK (aK (y:=.int ((16+k:Nat):Int)) rfl (aK rfl rfl (by show some (D.int (16+(k:Int)))=_;rw[show(16+(k:Int))=((16+k:Nat):Int) by lia])) (dX f 25 _ (by lia))) rfl rfl
 have ci:aX (inD true) (e2 aW (e2 ixD (ai 0) (e2 bq (eC (.int 16)) (ai 3))) (eC (.int 24))) (ai 4) (eo5 f b0 b1 s2 (.dat (.int (k:Int))) (.own (iL cs)))=some (!inK cs (f (16+k)%24)):=nW (y:=.lst (iL cs)) a1 rfl (by show(qX (iL cs)).bind _=_;rw[oo];rfl);unfold cL;cases hb:inK cs (f (16+k)%24) with
 |true=>
  rw[hb] at ci;exact⟨cs,hc,by lia,(fz ci).trans rfl⟩
 |false=>
  rw[hb] at ci;refine⟨cs++[f (16+k)%24],hc.snoc hb (by lia),by simp,(dA ci).trans ((oH (ds:=iL cs) (d:=.int (f (16+k)%24)) a1 rfl (by simp;lia)).trans ?_)⟩;rw[show iL (cs++[f (16+k)%24])=iL cs++[.int (f (16+k)%24)] by simp[iL]];rfl
include hf hb0 hb1 in
theorem op2(k:Nat)(hk:k<20)(xs:List T3)(hz:xs.length<1000)(s4:Sl):∃t:T3,bH t=none/\b_ (eo5 f b0 b1 (.own (xs.map hD)) (.dat (.int (k:Int))) s4)=some (.nx (eo5 f b0 b1 (.own ((xs++[t]).map hD)) (.dat (.int (k:Int))) s4)):=by
 have m1:e2 cE (eC (.int 10)) (ai 3) (eo5 f b0 b1 (.own (xs.map hD)) (.dat (.int (k:Int))) s4)=some (.int (10*(k:Int))):=aK (x:=.int 10) (y:=.int (k:Int)) rfl rfl (o6 (by decide));have m2:e2 cE (eC (.int 11)) (ai 3) (eo5 f b0 b1 (.own (xs.map hD)) (.dat (.int (k:Int))) s4)=some (.int (11*(k:Int))):=aK (x:=.int 11) (y:=.int (k:Int)) rfl rfl (o6 (by decide));unfold fX at hb0 hb1;refine⟨(b0+(10*(k:Int)+f 22)%27-13,b1+(11*(k:Int)+f 23)%27-13,1+(k:Int)%5),xZ (by lia) (by lia) (by lia),?_⟩;unfold b_;refine(oH (ds:=xs.map hD) (d:=hD (b0+(10*(k:Int)+f 22)%27-13,b1+(11*(k:Int)+f 23)%27-13,1+(k:Int)%5)) ?_ rfl (by simp;lia)).trans ?_
 ·refine eM (aY (aK (aK rfl (aK (aK m1 rfl rfl) rfl rfl) rfl) rfl rfl) (aY (aK (aK rfl (aK (aK m2 rfl rfl) rfl rfl) rfl) rfl rfl) (aY rfl rfl))) (show 3<=1000 by decide)
 ·rw[List.map_append]
  rfl
include hf hb0 hb1 in
theorem ql:∃(xs:List T3) (cs:List Int),cU [.lst (iL (bU f 25)),.tup [.int b0,.int b1]]=some (.tup [.lst (xs.map hD),.lst (iL cs)])/\Hs xs/\xs.length<=20/\Cl cs/\cs.length<=24:=by
 have key:∃(xs:List T3) (cs:List Int),fE (eo5 f b0 b1 .un .un .un)=some (.rt (.tup [.lst (xs.map hD),.lst (iL cs)]))/\Hs xs/\xs.length<=20/\Cl cs/\cs.length<=24:=by
  unfold fE;have f0:=hf 0
  obtain⟨ε1,e1,xs1,t1,rfl,h1,l1⟩:=jV (g:=az 3) (gb:=cK) (λn ε=>∃(xs:List T3) (t:Sl),ε=eo5 f b0 b1 (.own (xs.map hD)) t .un/\Hs xs/\xs.length<=n) (d_ (f 0%6).toNat) 0 (λi d hd ε hP=>by
   obtain⟨xs,t,rfl,hx,hl⟩:=hP;obtain⟨rfl,hi⟩:=mq hd;obtain⟨u,hu,eu⟩:=op0 f hf b0 b1 hb0 hb1 i (by lia) xs (by lia) .un
   exact⟨_,_,rfl,.inl eu,xs++[u],_,rfl,hx.snoc hu,by rw[QN,Zu];lia⟩) (eo5 f b0 b1 (.own []) .un .un) ⟨[],.un,rfl,λt ht=>(by cases ht),Qi _⟩
  have r1:(d_ (f 0%6).toNat).length=(f 0%6).toNat:=by simp[d_]
  rw[r1] at l1
  obtain⟨ε2,e2',cs2,t2,rfl,h2,l2⟩:=jV (g:=az 3) (gb:=cL) (λn ε=>∃(cs:List Int) (t:Sl),ε=eo5 f b0 b1 (.own (xs1.map hD)) t (.own (iL cs))/\Cl cs/\cs.length<=n) (d_ (f 0/6%6).toNat) 0 (λi d hd ε hP=>by
   obtain⟨cs,t,rfl,hc,hl⟩:=hP;obtain⟨rfl,hi⟩:=mq hd;obtain⟨cs',hc',hl',eu⟩:=op1 f b0 b1 i (by lia) cs hc (by lia) (.own (xs1.map hD))
   exact⟨_,_,rfl,.inl eu,cs',_,rfl,hc',by lia⟩) (eo5 f b0 b1 (.own (xs1.map hD)) t1 (.own [])) ⟨[],t1,rfl,⟨List.Pairwise.nil,λt ht=>(by cases ht)⟩,Qi _⟩
  have r2:(d_ (f 0/6%6).toNat).length=(f 0/6%6).toNat:=by simp[d_]
  rw[r2] at l2
  obtain⟨cs3,e3,h3,l3⟩:∃cs:List Int,sIf (aX kd (e2 aW (e2 ixD (ai 0) (eC (.int 24))) (eC (.int 9))) (eC (.int 1))) (kM 4 (eLC (iW (eC (.int 24))) 1 [0] (az 0) lB (e2 aW (e2 bq (e2 cE (eC (.int 7)) (ai 0)) (e2 ixD (ai 1) (eC (.int 23)))) (eC (.int 24))))) ck (eo5 f b0 b1 (.own (xs1.map hD)) t2 (.own (iL cs2)))=some (.nx (eo5 f b0 b1 (.own (xs1.map hD)) t2 (.own (iL cs))))/\Cl cs/\cs.length<=24:=by
   by_cases c:f 24%9=1
   ·refine⟨ku (f 23),?_,(p_ _).1,Nat.le_of_eq (p_ _).2⟩
    rw[nC (f 24%9=1) rfl c];refine(wG (ds:=iL (ku (f 23))) (zG (ds:=d_ 24) rfl (by simp[d_]) ?_)).trans rfl
    have:=vX (α:=Nat) (g:=az 0) (fe:=e2 aW (e2 bq (e2 cE (eC (.int 7)) (ai 0)) (e2 ixD (ai 1) (eC (.int 23)))) (eC (.int 24))) (λε=>∃t,ε=[t,.dat (.lst (iL (bU f 25)))]) (λi:Nat=>D.int (i:Int)) (λi:Nat=>D.int ((7*(i:Int)+f 23)%24)) (Q7 24) (λi _ ε hP=>by
     obtain⟨t,rfl⟩:=hP
     exact⟨_,rfl,⟨_,rfl⟩,aK (aK (aK (x:=.int 7) (y:=.int (i:Int)) rfl rfl (o6 (by decide))) rfl rfl) rfl rfl⟩) [.un,.dat (.lst (iL (bU f 25)))] ⟨_,rfl⟩
    have e24:iL (ku (f 23))=(Q7 24).map (λi:Nat=>D.int ((7*(i:Int)+f 23)%24)):=by unfold ku iL;rw[List.map_map];rfl
    rw[e24];exact this
   ·refine⟨cs2,?_,h2,by lia⟩
    rw[lu (f 24%9=1) rfl c];rfl
  obtain⟨xs4,t4,e4,h4,l4⟩:∃(xs:List T3) (t:Sl),sIf (aX ltI (e2 aW (e2 ixD (ai 0) (eC (.int 24))) (eC (.int 9))) (eC (.int 2))) (ig (iW (e2 cZ (eC (.int 20)) (eQ fU (ai 2)))) (az 3) b_) ck (eo5 f b0 b1 (.own (xs1.map hD)) t2 (.own (iL cs3)))=some (.nx (eo5 f b0 b1 (.own (xs.map hD)) t (.own (iL cs3))))/\Hs xs/\xs.length<=20:=by
   by_cases c:f 24%9<2
   ·rw[nC (f 24%9<2) rfl c]
    have lx:xs1.length<=5:=by lia
    obtain⟨ε5,e5,xs5,t5,rfl,h5,l5⟩:=jV (g:=az 3) (gb:=b_) (λn ε=>∃(xs:List T3) (t:Sl),ε=eo5 f b0 b1 (.own (xs.map hD)) t (.own (iL cs3))/\Hs xs/\xs.length<=xs1.length+n) (d_ (20-(xs1.length:Int)).toNat) 0 (λi d hd ε hP=>by
     obtain⟨xs,t,rfl,hx,hl⟩:=hP;obtain⟨rfl,hi⟩:=mq hd;obtain⟨u,hu,eu⟩:=op2 f hf b0 b1 hb0 hb1 i (by lia) xs (by lia) (.own (iL cs3))
     exact⟨_,_,rfl,.inl eu,xs++[u],_,rfl,hx.snoc hu,by rw[QN,Zu];lia⟩) (eo5 f b0 b1 (.own (xs1.map hD)) t2 (.own (iL cs3))) ⟨xs1,t2,rfl,h1,Qi _⟩
    have r5:(d_ (20-(xs1.length:Int)).toNat).length=(20-(xs1.length:Int)).toNat:=by simp[d_]
    rw[r5] at l5;refine⟨xs5,t5,(dW (nY (j:=20-(xs1.length:Int)) ?_ (by lia) (by lia))).trans e5,h5,by lia⟩;show some (D.int (20-(((xs1.map hD).length:Nat):Int)))=_;rw[QX]
   ·exact⟨xs1,t2,by rw[lu (f 24%9<2) rfl c];rfl,h1,by lia⟩
  refine⟨xs4,cs3,?_,h4,l4,h3,l3⟩;refine(au (ε':=eo5 f b0 b1 (.own []) .un .un) rfl).trans ?_;refine(au ((dW (nY (j:=f 0%6) rfl (by lia) (by lia))).trans e1)).trans ?_;refine(au (ε':=eo5 f b0 b1 (.own (xs1.map hD)) t1 (.own [])) rfl).trans ?_;refine(au ((dW (nY (j:=f 0/6%6) rfl (by lia) (by lia))).trans e2')).trans ?_;refine(au e3).trans ((au e4).trans ?_);rfl
 obtain⟨xs,cs,e,h⟩:=key;exact⟨xs,cs,eX rfl e,h⟩
end
theorem tE{xs:List T3}{cs:List Int}(h1:Hs xs)(l1:xs.length<=20)(h2:Cl cs)(l2:cs.length<=24):dB [.lst (xs.map hD),.lst (iL cs)]=some (.inl .non):=by
 rw[xq,decide_eq_false (by lia:¬ 20<xs.length),decide_eq_false (by lia:¬ 24<cs.length),jr h1,tM h2];rfl
structure Tok(n:Nat)(T:BT):Prop where
 bal:T.bal=[]
 hills:T.hills.length<1000/\∀d∈T.hills,OkS 2 d
 cool:T.cool.length<1000/\∀d∈T.cool,OkS 2 d
 winds:T.winds.length<=n/\∀d∈T.winds,OkS 2 d
 shuts:T.shuts.length<=n/\∀d∈T.shuts,OkS 2 d
 deeds:T.deeds.length<=n/\∀d∈T.deeds,OkS 3 d
theorem Tok.few{n:Nat}{T:BT}(h:Tok n T)(l:n<60):Few T:=⟨QI h.deeds.1 l,QI h.winds.1 (by lia),QI h.shuts.1 (by lia),h.bal⟩
theorem Tok.up{n:Nat}{T:BT}(h:Tok n T):Tok (n+1) T:=⟨h.bal,h.hills,h.cool,⟨by have:=h.winds.1;lia,h.winds.2⟩,⟨by have:=h.shuts.1;lia,h.shuts.2⟩,⟨by have:=h.deeds.1;lia,h.deeds.2⟩⟩
theorem gK{α:Type}{P:α->Prop}{l:List α}{a:α}(h1:∀x∈l,P x)(h2:P a):∀x∈l++[a],P x:=λx hx=>by
 rcases Q8.mp hx with z | z
 ·exact h1 x z
 ·rw[QW.mp z];exact h2
theorem Tok.told{n:Nat}{T:BT}(h:Tok n T)(l:n<60):cX [qd T,qd T]=some (.bl true):=by
 refine qN _ ⟨by simp,λd hd=>?_⟩;have f1:=h.winds.1;have f2:=h.shuts.1;have f3:=h.deeds.1;have f4:=h.hills.1;have f5:=h.cool.1;simp only[Qm,Qt,or_false] at hd;rcases hd with rfl | rfl | rfl | rfl
 ·exact trivial
 ·refine⟨by simp,λe he=>?_⟩
  simp only[Qm,Qt,or_false] at he;rcases he with rfl | rfl | rfl | rfl
  ·exact⟨by lia,h.hills.2⟩
  ·exact⟨by lia,h.cool.2⟩
  ·exact⟨by lia,h.winds.2⟩
  ·exact⟨by lia,h.shuts.2⟩
 ·exact⟨by lia,h.deeds.2⟩
 ·exact⟨by simp,λe he=>by cases he⟩
theorem lX{n:Nat}(ls:List Int)(h:ls.length<1000):OkS (n+2) (.tup (ls.map D.int)):=⟨by rw[QX];lia,λd hd=>by
 obtain⟨i,_,rfl⟩:=Zi.mp hd
 exact trivial⟩
theorem pR{n:Nat}(w:Str)(ls:List Int)(h:ls.length<1000):OkS (n+2) (.tup (.str w::ls.map D.int)):=⟨by rw[QD,QX];lia,λd hd=>by
 rcases Qm.mp hd with rfl | hd1
 ·exact trivial
 obtain⟨i,_,rfl⟩:=Zi.mp hd1
 exact trivial⟩
theorem iD{α:Type}{l:List α}{a:α}{n:Nat}(h:l.length<=n):(l++[a]).length<=n+1:=by rw[QN,Zu];lia
theorem Doing.call{n:Nat}{T:BT}{d:D}(h:Tok n T)(s:jz d):∃r T' fl,Doing T d r T'/\Six d/\((∃x h dx dy,d=cW x h dx dy/\fl=j_ T.hour x h dx dy)\/∃bx x y bad,d=.tup [.str "shut",bx,.int x,.int y]/\cT [bx]=some (.bl bad)/\fl=lL bad T.hour x y)/\
  ((∃z,r=.inl z/\fl=.tup []/\T'.deeds.length=T.deeds.length+1/\Tok (n+1) T'/\T'.hour=T.hour)\/∃c,r=.inr (c,[])/\fl=no c/\∃j,j<19/\nms.getD j "" = c):=by
 rcases s with⟨x,hh,dx,dy,rfl⟩ | ⟨a,b,c,d,e,g,x,y,rfl⟩
 ·refine⟨_,_,_,.wind (wa T.hour x hh dx dy),λ_ _ _ z=>(by cases z),.inl ⟨x,hh,dx,dy,rfl,rfl⟩,?_⟩
  rw[sD];cases w:fW T.hour x hh dx dy with
  |none=>exact .inl ⟨_,rfl,rfl,by simp,⟨h.bal,h.hills,h.cool,⟨iD h.winds.1,gK h.winds.2 (lX (n:=0) [x,hh,dx,dy] (by simp))⟩,⟨Zr h.shuts.1,h.shuts.2⟩,⟨iD h.deeds.1,gK h.deeds.2 (pR (n:=1) "wind" [x,hh,dx,dy] (by simp))⟩⟩,rfl⟩
  |some c=>exact .inr ⟨c,rfl,rfl,yh w⟩
 ·refine⟨_,_,_,.shut (by simp) (by simp) (wF T.hour x y a b c d e g),λx' y' ds z=>(by cases z;exact⟨a,b,c,d,e,g,rfl⟩),.inr ⟨_,x,y,_,rfl,yL a b c d e g,rfl⟩,?_⟩
  rw[sY];cases w:fS (!mh a b c d e g) T.hour x y with
  |none=>exact .inl ⟨_,rfl,rfl,by simp,⟨h.bal,h.hills,h.cool,⟨Zr h.winds.1,h.winds.2⟩,⟨iD h.shuts.1,gK h.shuts.2 (lX (n:=0) [a,b,c,d,e,g,x,y] (by simp))⟩,⟨iD h.deeds.1,gK h.deeds.2 (pR (n:=1) "shut" [a,b,c,d,e,g,x,y] (by simp))⟩⟩,rfl⟩
  |some c=>exact .inr ⟨c,rfl,rfl,zr w⟩
theorem Tok.drift{n:Nat}{T:BT}(h:Tok n T):Tok (n+1) { T with hour:=T.hour+1,deeds:=T.deeds++[.tup [.str "drift",.tup []]] }:=
 ⟨h.bal,h.hills,h.cool,⟨Zr h.winds.1,h.winds.2⟩,⟨Zr h.shuts.1,h.shuts.2⟩,⟨iD h.deeds.1,gK h.deeds.2 ⟨by simp,λd hd=>by
  simp only[Qm,Qt,or_false] at hd;rcases hd with rfl | rfl
  ·exact trivial
  ·exact⟨by simp,λe he=>by cases he⟩⟩⟩⟩
def LI(K:Qb)(C:Addr)(He G0:Hp)(b:Addr)(n:Nat)(hr:Int)(H:Hp)(am:Addr):Prop:=
 ∃G as T,BkD K C G H b as T/\MA K G am T/\Tok n T/\T.hour=hr/\aD G0 G/\aD He H/\He b=none/\∀a∈as,He a=none
section
variable{K:Qb}{C b am am':Addr}{He G0 G H G' H':Hp}{as as':List Addr}{n:Nat}{hr:Int}{T:BT}
theorem LI.move(mv:Mv G H G' H' b as as')(bk:BkD K C G' H' b as' T)(ma:MA K G' am' T)(tk:Tok n T)(g0:aD G0 G)(he:aD He H)(hb:He b=none)(ha:∀a∈as,He a=none):LI K C He G0 b n T.hour H' am':=
 ⟨G',as',T,bk,ma,tk,rfl,g0.trans mv.gg,λq o e=>mv.out q o (λz=>by rw[z,hb] at e;cases e) (λz=>by rw[ha q z] at e;cases e) (he q o e),hb,λa m=>(mv.new a m).elim (ha a) λz=>he.free z⟩
theorem LI.grow(h:LI K C He G0 b n hr H am):∃G,aD G0 G/\aD G H/\∀G' H',Grow G H G' H'->LI K C He G0 b n hr H' am:=by
 obtain⟨G,as,T,bk,ma,tk,eh,g0,he,hb,ha⟩:=h;exact⟨G,g0,bk.gh,λG' H' g=>⟨G',as,T,bk.grow g,ma.mono g.gg,tk,eh,g0.trans g.gg,he.trans g.hh,hb,ha⟩⟩
end
def zd(K:Qb)(i:Nat)(fc:Ev->Option Bool)(fe:Ev->Option D):TS:=λW σ H=>∃He G ε b v0 d0,∃P:D->Prop,aD G H/\EnvD K He G H σ ε/\fc ε=some b/\σ[i]?=some (some v0)/\Den K G v0 d0/\P d0/\(b=true->∃d,fe ε=some d/\P d)/\
 ∀v d G' H',Grow G H G' H'->Den K G' v d->P d->W.nx (σ.set i (some v)) H'
theorem tR{σ:L2.St}{i:Nat}{v:V}(h:σ[i]?=some (some v)):σ.set i (some v)=σ:=JK λj=>by
 by_cases z:i=j
 ·subst z
  obtain⟨lt,_⟩:=QB.mp h;rw[JR lt,h]
 ·rw[J2 z]
theorem lK{X:Cx}{i:Nat}{x:Str}{c e:Expr}{px ap pos:Pos}{fc:Ev->Option Bool}{fe:Ev->Option D}(hN:X.N.Nodup)(hi:X.N[i]?=some x)(hx:Loc X.env.scope x)(hc:DT X c fc)(he:DE X e fe)(hs:JT e (some (.Name x px)) ap.line X.env=pure false:=by rfl)
  (hf:X.fn x=true\/X.env.scope.names.lookup x=some .local:=by first | exact .inl rfl | exact .inr rfl):PS X (.If c [.Assign [.Name x px] e ap] [] pos) (zd X.K i fc fe):=by
 intro pins s σ H W I h;obtain⟨He,G,ε,b,v0,d0,P,gh,E,ec,ev,dv,p0,pe,q⟩:=h;refine cj (mV hc) (aH (bg hN hi hx (cV he) hs hf)) bp pins s σ H W I ?_;refine⟨He,G,ε,b,gh,E,ec,λH1 g1=>?_⟩;have gg:=dY gh g1;cases b with
 |true=>
  obtain⟨d,ed,pd⟩:=pe rfl;exact b9 (λ_=>⟨He,G,ε,d,gh.trans g1,E.grow gg,ed,λv G' H' g dn=>q v d G' H' (gg.trans g) dn pd⟩) λc=>absurd rfl c
 |false=>
  have:=q v0 d0 G H1 gg dv p0;rw[tR ev] at this;exact b9 (λc=>absurd c Qo) λ_=>this
inductive Slots(K:Qb)(G:Hp):L2.St->Ev->Prop where
 |nil:Slots K G [] []
 |un {o:Option V} {σ:L2.St} {ε:Ev} (r:Slots K G σ ε):Slots K G (o::σ) (.un::ε)
 |dat {v:V} {d:D} {σ:L2.St} {ε:Ev} (h:Den K G v d) (r:Slots K G σ ε):Slots K G (some v::σ) (.dat d::ε)
theorem Slots.env{K:Qb}{He G H:Hp}{σ:L2.St}{ε:Ev}(h:Slots K G σ ε):EnvD K He G H σ ε:=by
 have no:∀{i:Nat} {x:Sl},ε[i]?=some x->x=.un\/∃v d,x=.dat d/\σ[i]?=some (some v)/\Den K G v d:=by
  induction h with
  |nil=>intro i x e;cases e
  |un _ ih=>
   intro i x e;cases i with
   |zero=>cases e;exact .inl rfl
   |succ i=>exact ih e
  |dat hd _ ih=>
   intro i x e;cases i with
   |zero=>cases e;exact .inr ⟨_,_,rfl,rfl,hd⟩
   |succ i=>exact ih e
 have ln:σ.length=ε.length:=by
  clear no
  induction h with
  |nil=>rfl
  |un _ ih=>simp[ih]
  |dat _ _ ih=>simp[ih]
 refine⟨ln,λe=>?_,λe=>?_,λe=>?_,λe=>?_,λe=>?_⟩
 ·rcases no e with z | ⟨v,d,z,hv,hd⟩
  ·cases z
  ·cases z;exact⟨v,hv,hd⟩
 all_goals (rcases no e with z | ⟨_,_,z,_⟩<;>cases z)
abbrev zP:List Str:=["_law_script","_law_numbers_here","_law_base_here","_law_hills","_law_cool","_law_book","_law_model","_law_hour","_law_k","_law_d","_law_first","_law_call","_law_pairs"]
abbrev rA:List Str:=["_law_script"]
def Bf(f:Nat->Int)(xs:List T3)(cs:List Int):Prop:=(∀j,0<=f j/\f j<1000)/\Hs xs/\xs.length<=20/\Cl cs/\cs.length<=24
open Classical in
noncomputable def uZ:Ev->Option Fl:=λε=>if ∃d0 f b0 b1 xs cs,ε=[.dat d0,.dat (.lst (iL (bU f 280))),.dat (.tup [.int b0,.int b1]),.dat (.lst (xs.map hD)),.dat (.lst (iL cs)),.un,.un,.un,.un,.un,.un,.un,.un]/\Bf f xs cs then some (.rt (.bl true)) else none
noncomputable def zT:Ev->Option Fl:=(aT (cG 1 (bt fH (aj (aM 0) (aj (eC (.int 280)) aZ)))) (aT (cG 2 (bt ip (aj (eF (eSl (ai 1) eP (bP (eC (.int 3))))) aZ))) (aT (my (bt cU (aj (eF (eSl (ai 1) (bP (eC (.int 10))) (bP (eC (.int 35))))) (aj (aM 2) aZ))) (jn 2 (aF (az 3) (aF (az 4) cI)))) uZ)))
noncomputable def pV:List D->Option D:=fnD zP rA zT
theorem zO{α:Type}{l:List α}(h:l.length=13):∃a b c d e f g i j k m n o,l=[a,b,c,d,e,f,g,i,j,k,m,n,o]:=match l,h with | [a,b,c,d,e,f,g,i,j,k,m,n,o],_=>⟨a,b,c,d,e,f,g,i,j,k,m,n,o,rfl⟩
theorem zJ{ε:Ev}{f:Nat->Int}{k:Nat}(h1:ai 1 ε=some (.lst (iL (bU f 280))))(h8:ai 8 ε=some (.int (0+(k:Int))))(hk:k<10):eF (eSl (ai 1) (bP (e2 bq (eC (.int 40)) (e2 cE (eC (.int 24)) (ai 8)))) (bP (e2 bq (eC (.int 64)) (e2 cE (eC (.int 24)) (ai 8))))) ε=some (.lst (iL (bU (λj=>f (40+24*k+j)) 24))):=by
 have m:e2 cE (eC (.int 24)) (ai 8) ε=some (.int (24*(0+(k:Int)))):=aK rfl h8 (o6 (by decide));have a1:e2 bq (eC (.int 40)) (e2 cE (eC (.int 24)) (ai 8)) ε=some (.int ((40+24*k:Nat):Int)):=aK rfl m (by show some (D.int (40+24*(0+(k:Int))))=_;rw[show(40+24*(0+(k:Int)))=((40+24*k:Nat):Int) by lia]);have a2:e2 bq (eC (.int 64)) (e2 cE (eC (.int 24)) (ai 8)) ε=some (.int ((40+24*k+24:Nat):Int)):=aK rfl m (by show some (D.int (64+24*(0+(k:Int))))=_;rw[show(64+24*(0+(k:Int)))=((40+24*k+24:Nat):Int) by lia]);refine lG ?_;unfold eSl bP;rw[h1,a1,a2];show some (Dn.iY (iL (bU f 280)) (some ((40+24*k:Nat):Int)) (some ((40+24*k+24:Nat):Int)))=_;rw[mj f 280 (40+24*k) 24 (by lia)]
theorem wo(f:Nat->Int){ε:Ev}(h1:ai 1 ε=some (.lst (iL (bU f 280)))):∃h:Nat,h<=24/\e2 ixD (eF (kh (aj (e2 aW (e2 ixD (ai 1) (eC (.int 3))) (eC (.int 7))) (aj (e2 aW (e2 ixD (ai 1) (eC (.int 3))) (eC (.int 7))) (aj (eC (.int 23)) (aj (eC (.int 24)) aZ)))))) (e2 aW (e2 ixD (ai 1) (eC (.int 4))) (eC (.int 4))) ε=some (.int (h:Int)):=by
 have a3:e2 aW (e2 ixD (ai 1) (eC (.int 3))) (eC (.int 7)) ε=some (.int (f 3%7)):=aK (aK h1 rfl (dX f 280 3 (by decide))) rfl rfl;have a4:e2 aW (e2 ixD (ai 1) (eC (.int 4))) (eC (.int 4)) ε=some (.int (f 4%4)):=aK (aK h1 rfl (dX f 280 4 (by decide))) rfl rfl;have al:eF (kh (aj (e2 aW (e2 ixD (ai 1) (eC (.int 3))) (eC (.int 7))) (aj (e2 aW (e2 ixD (ai 1) (eC (.int 3))) (eC (.int 7))) (aj (eC (.int 23)) (aj (eC (.int 24)) aZ))))) ε=some (.lst [.int (f 3%7),.int (f 3%7),.int 23,.int 24]):=lG (by unfold kh;rw[aY a3 (aY a3 (aY rfl (aY rfl rfl)))];rfl);have c:f 4%4=0\/f 4%4=1\/f 4%4=2\/f 4%4=3:=by lia
 have n:((f 3%7).toNat:Int)=f 3%7:=by lia
 rcases c with c | c | c | c<;>rw[c] at a4
 ·exact⟨(f 3%7).toNat,by lia,by rw[n];exact aK al a4 rfl⟩
 ·exact⟨(f 3%7).toNat,by lia,by rw[n];exact aK al a4 rfl⟩
 ·exact⟨23,by decide,aK al a4 rfl⟩
 ·exact⟨24,by decide,aK al a4 rfl⟩
theorem uV{ε:Ev}{h:Int}{fk:Nat->Int}(h7:ai 7 ε=some (.int h))(h9:ai 9 ε=some (.lst (iL (bU fk 24)))):∃x,bt pO (aj (eC (.int 0)) (aj (bt mY (aj (eC (.int 24)) (aj (e2 cZ (e2 bq (ai 7) (e2 aW (e2 ixD (ai 9) (eC (.int 1))) (eC (.int 5)))) (eC (.int 1))) aZ))) aZ)) ε=some (.int x)/\0<=x/\x<=24:=by
 have a:e2 cZ (e2 bq (ai 7) (e2 aW (e2 ixD (ai 9) (eC (.int 1))) (eC (.int 5)))) (eC (.int 1)) ε=some (.int (h+fk 1%5-1)):=aK (aK h7 (aK (aK h9 rfl (dX fk 24 1 (by decide))) rfl rfl) rfl) rfl rfl;generalize h+fk 1%5-1=w at a;have b:bt mY (aj (eC (.int 24)) (aj (e2 cZ (e2 bq (ai 7) (e2 aW (e2 ixD (ai 9) (eC (.int 1))) (eC (.int 5)))) (eC (.int 1))) aZ)) ε=some (.int (if w<24 then w else 24)):=(iA (x:=.int 24) (y:=.int w) rfl a).trans rfl;generalize hv:(if w<24 then w else 24:Int)=v at b;refine⟨if v>0 then v else 0,(iA (x:=.int 0) (y:=.int v) rfl b).trans rfl,?_,?_⟩
 ·split<;>lia
 ·split at hv<;>split<;>lia
theorem uk{ε:Ev}{x:Int}{fk:Nat->Int}(h10:aM 10 ε=some (.int x))(h9:ai 9 ε=some (.lst (iL (bU fk 24)))):gq (aj (eC (.str "wind")) (aj (aM 10) (aj (e2 aW (e2 ixD (ai 9) (eC (.int 2))) (eC (.int 6))) (aj (e2 cZ (e2 aW (e2 ixD (ai 9) (eC (.int 3))) (eC (.int 5))) (eC (.int 2))) (aj (e2 cZ (e2 aW (e2 ixD (ai 9) (eC (.int 4))) (eC (.int 5))) (eC (.int 2))) aZ))))) ε=some (cW x (fk 2%6) (fk 3%5-2) (fk 4%5-2)):=
 eM (aY rfl (aY h10 (aY (aK (aK h9 rfl (dX fk 24 2 (by decide))) rfl rfl) (aY (aK (aK (aK h9 rfl (dX fk 24 3 (by decide))) rfl rfl) rfl rfl) (aY (aK (aK (aK h9 rfl (dX fk 24 4 (by decide))) rfl rfl) rfl rfl) rfl))))) (show 5<=1000 by decide)
theorem qH{ε:Ev}{fk:Nat->Int}(j m r:Nat)(hj:j<24)(hm:0<m)(h9:ai 9 ε=some (.lst (iL (bU fk 24)))):aX kd (e2 aW (e2 ixD (ai 9) (eC (.int (j:Int)))) (eC (.int (m:Int)))) (eC (.int (r:Int))) ε=some (decide (fk j%m=r)):=
 nW (aK (aK h9 rfl (dX fk 24 j hj)) rfl (yX (by lia))) rfl rfl
theorem xx{ε:Ev}{fk:Nat->Int}(a n:Nat)(h:a+n<=24)(h9:ai 9 ε=some (.lst (iL (bU fk 24)))):eF (eSl (ai 9) (bP (eC (.int (a:Int)))) (bP (eC (.int ((a+n:Nat):Int))))) ε=some (.lst (iL (bU (λj=>fk (a+j)) n))):=by
 refine lG ?_;unfold eSl bP;rw[h9];show some (Dn.iY (iL (bU fk 24)) (some (a:Int)) (some ((a+n:Nat):Int)))=_;rw[mj fk 24 a n h]
theorem uA{ε:Ev}{x b0 b1:Int}{fk:Nat->Int}(h10:aM 10 ε=some (.int x))(h10':ai 10 ε=some (.int x))(h2:aM 2 ε=some (.tup [.int b0,.int b1]))(h9:ai 9 ε=some (.lst (iL (bU fk 24))))(hx:x<=24):∃d,gq (aj (eC (.str "shut")) (aj (bt ju (aj (eF (eSl (ai 9) (bP (eC (.int 2))) (bP (eC (.int 8))))) (aj (aM 2) aZ))) (aj (aM 10) (aj (e2 bq (ai 10) (e2 aW (e2 ixD (ai 9) (eC (.int 8))) (e2 cZ (eC (.int 26)) (ai 10)))) aZ)))) ε=some d/\jz d:=by
 obtain⟨a0,a1,a2,a3,a4,a5,eb,_⟩:=wX (bU (λj=>fk (2+j)) 6) (by simp[bU]) b0 b1;have fb:ju [.lst (iL (bU (λj=>fk (2+j)) 6)),.tup [.int b0,.int b1]]=some (bx6 a0 a1 a2 a3 a4 a5):=eX rfl eb;exact⟨_,eM (aY rfl (aY ((iA (xx 2 6 (by decide) h9) h2).trans fb) (aY h10 (aY (aK h10' (aK (aK h9 rfl (dX fk 24 8 (by decide))) (aK rfl h10' rfl) (yX (by lia))) rfl) rfl)))) (show 4<=1000 by decide),.inr ⟨_,_,_,_,_,_,_,_,rfl⟩⟩
theorem qa{ε:Ev}{d:D}{fk:Nat->Int}(a:Nat)(ha:a+5<=24)(h11:aM 11 ε=some d)(s:jz d)(h9:ai 9 ε=some (.lst (iL (bU fk 24)))):∃d',bt eN (aj (aM 11) (aj (eF (eSl (ai 9) (bP (eC (.int (a:Int)))) (bP (eC (.int ((a+5:Nat):Int)))))) aZ)) ε=some d'/\jz d':=by
 obtain⟨d',e,s'⟩:=wx (λj=>fk (a+j)) s;exact⟨d',(iA h11 (xx a 5 ha h9)).trans e,s'⟩
def FOk(Z:Wq)(x:Str)(st:Stmt)(ps:List Str)(k:Nat)(sp:Sp):Prop:=∃f fd,FA Z.K Z.mg x st ps f fd/\∀base,FnOk Z.P Z.w Z.K Z.mg base CX0 k f fd ps sp
theorem Tok.le{n m:Nat}{T:BT}(h:Tok n T)(l:n<=m):Tok m T:=⟨h.bal,h.hills,h.cool,⟨QF h.winds.1 l,h.winds.2⟩,⟨QF h.shuts.1 l,h.shuts.2⟩,⟨QF h.deeds.1 l,h.deeds.2⟩⟩
theorem jb{Z:Wq}{C b am:Addr}{He G0 H:Hp}{n:Nat}{hr:Int}{σ:L2.St}{Q:VK}(h5:σ[5]?=some (some (.ref b)))(h6:σ[6]?=some (some (.ref am)))(li:LI Z.K C He G0 b n hr H am)(l:n<60)(q:∀H',LI Z.K C He G0 b n hr H' am->Q (.bl true) H'):xO (yg Z C) [] E0 (pN (qh 5) (pN (qh 6) xj)) σ H Q:=by
 obtain⟨G,as,T,bk,ma,tk,eh,g0,he,hb,ha⟩:=li;exact⟨_,h5,_,h6,G,b,as,am,T,rfl,bk,ma,tk.bal,tk.told l,λH' s=>q H' ⟨G,as,T,bk.grow (dY bk.gh s),ma,tk,eh,g0,he.trans s,hb,ha⟩⟩
theorem LI.less{K:Qb}{C b am:Addr}{He G0 H:Hp}{n m:Nat}{hr:Int}(h:LI K C He G0 b n hr H am)(l:n<=m):LI K C He G0 b m hr H am:=let⟨G,as,T,bk,ma,tk,r⟩:=h;⟨G,as,T,bk,ma,tk.le l,r⟩
theorem zI{Z:Wq}{C fI:Addr}{fdI:QE}(R:FX Z "law" (top 106) rA)(M:Md Z)(hn:iK Z)(hba:ki Z)(hop:iy Z)(hbx:lD Z)(hbe:kn Z)(mb:Z.mg "Book" = some (.ref C))(MK:Mk Z.K C fI)(bI:fC Z.K fdI ["self","hills","cool"] [])
  (hI:∀base,FnOk Z.P Z.w Z.K Z.mg base CX0 6 fI fdI ["self","hills","cool"] (yQ Z C)) (HO:FOk Z "_law_opened" (top 89) ["_law_hills","_law_cool"] 1 (pI Z)) (HJ:FOk Z "_law_judged" (top 102) zi 9 (AF Z C)) (HF:FOk Z "_law_fault" (top 105) ["_law_model","_law_call"] 3 (Ac Z)) (HS:FOk Z "_law_stands" (top 99) ["_law_book","_law_model"] 6 (yg Z C)) :
  OkD Z "law" (top 106) rA 10 pV:=by
 obtain⟨fO,fdO,FO,hO⟩:=HO;obtain⟨fJ,fdJ,FJ,hJ⟩:=HJ;obtain⟨fF,fdF,FF,hF⟩:=HF;obtain⟨fS,fdS,FS,hS⟩:=HS
 refine bdF R λd f base cdv A outer s H E hr=>(ay (cz 1 d (cF hn hr (aa (aG 0) (aa ae aB)))) (ay (cz 2 d (cF hba hr (aa (DF.de (jD (ah 1) gc (bX (DE.db ae)))) aB))) (ay (k_ (cF hop hr (aa (DF.de (jD (ah 1) (bX (DE.db ae)) (bX (DE.db ae)))) (aa (aG 2) aB))) (lO rfl (aQ (aL 3 d) (aQ (aL 4 d) fq))))
  ⟨_,Ex.rL,λHe Ge G H σ ε r W S e P pins s I=>?_⟩)))
 unfold uZ at e;split at e
 case isFalse=>cases e
 rename_i hx;cases e;obtain⟨d0,f,b0,b1,xs,cs,rfl,hf,hxs,lxs,hcs,lcs⟩:=hx;have ln:σ.length=13:=S.e.len;obtain⟨v1,q1,n1⟩:=S.e.dat (i:=1) rfl;obtain⟨v2,q2,n2⟩:=S.e.dat (i:=2) rfl;obtain⟨v3,q3,n3⟩:=S.e.dat (i:=3) rfl;obtain⟨v4,q4,n4⟩:=S.e.dat (i:=4) rfl;obtain⟨y0,y1,y2,y3,y4,y5,y6,y7,y8,y9,y10,y11,y12,rfl⟩:=zO ln;obtain rfl:y1=some v1:=Option.some.inj q1;obtain rfl:y2=some v2:=Option.some.inj q2;obtain rfl:y3=some v3:=Option.some.inj q3;obtain rfl:y4=some v4:=Option.some.inj q4;have gHe:aD He H:=S.g.hh;have gGe:aD Ge G:=S.g.gg;have gh:aD G H:=S.g.gh
 clear q1 q2 q3 q4 S ln
 refine rg I (ar (bg (i:=5) d rfl (Qs rfl) (wu MK (hI base) (hr.mono (by decide)) rfl mb bI .nil cg (ag (bw bh (by rfl) M.b_list (by rfl) (ag (pv 3) ax)) (ag (bw bh (by rfl) M.b_list (by rfl) (ag (pv 4) ax)) ax))))
  (ar (bg (i:=6) d rfl (Qs rfl) (bV (hO base) (hr.mono (by decide)) rfl FO.mgf FO.fu.kp FO.bi .nil cg (ag (pv 3) (ag (pv 4) ax))))
  (ar (bg (i:=7) d rfl (Qs rfl) (cV (aR (DE.db (DF.de (dQ (aa (aq aP (DE.db (aR (ah 1) (DE.db ae))) (DE.db ae)) (aa (aq aP (DE.db (aR (ah 1) (DE.db ae))) (DE.db ae)) (aa ae (aa ae aB))))))) (DE.db (aq aP (DE.db (aR (ah 1) (DE.db ae))) (DE.db ae))))))
  (ar (jq Ja rfl (j4 rfl M.b_range (ag (pv 7) ax)) (di (i:=8) d rfl (Qs rfl))
   (ar (bg (i:=6) d rfl (Qs rfl) (bV (hJ base) hr rfl FJ.mgf FJ.fu.kp FJ.bi .nil cg (ag (pv 5) (ag (pv 6) (ag (cV (bu (aa aO (aa (DF.de (dQ aB)) aB)))) (ag (cV (bu aB)) ax))))))
   (aH (cj (n9 (qM (pv 6))) pss_no bp))))
  (ar (jq Ja rfl (j4 rfl M.b_range (ag (cV (aq bj (DE.db ae) (DE.db (aq aP (DE.db (aR (ah 1) (DE.db ae))) (DE.db ae))))) ax)) (di (i:=8) d rfl (Qs rfl))
   (ar (bg (i:=9) d rfl (Qs rfl) (cV (DF.de (jD (ah 1) (bX (DE.db (aq bj (DE.db ae) (DE.db (aq eA (DE.db ae) (ah 8)))))) (bX (DE.db (aq bj (DE.db ae) (DE.db (aq eA (DE.db ae) (ah 8))))))))))
   (ar (bg (i:=10) d rfl (Qs rfl) (cV (dU (kT rfl) M.b_max (by rfl) (aa ae (aa (dU (kS rfl) M.b_min (by rfl) (aa ae (aa (aq cv (DE.db (aq bj (ah 7) (DE.db (aq aP (DE.db (aR (ah 9) (DE.db ae))) (DE.db ae))))) (DE.db ae)) aB))) aB)))))
   (ar (bg (i:=11) d rfl (Qs rfl) (cV (bu (aa aO (aa (aG 10) (aa (aq aP (DE.db (aR (ah 9) (DE.db ae))) (DE.db ae)) (aa (aq cv (DE.db (aq aP (DE.db (aR (ah 9) (DE.db ae))) (DE.db ae))) (DE.db ae)) (aa (aq cv (DE.db (aq aP (DE.db (aR (ah 9) (DE.db ae))) (DE.db ae))) (DE.db ae)) aB))))))))
   (ar (lK (i:=11) d rfl (Qs rfl) (bc (gV hr) (DE.db (aq aP (DE.db (aR (ah 9) (DE.db ae))) (DE.db ae))) (DE.db ae) (aJ _)) (bu (aa aO (aa (cF hbx hr (aa (DF.de (jD (ah 9) (bX (DE.db ae)) (bX (DE.db ae)))) (aa (aG 2) aB))) (aa (aG 10) (aa (aq bj (ah 10) (DE.db (aq aP (DE.db (aR (ah 9) (DE.db ae))) (DE.db (aq cv (DE.db ae) (ah 10)))))) aB))))))
   (ar (lK (i:=11) d rfl (Qs rfl) (bc (gV hr) (DE.db (aq aP (DE.db (aR (ah 9) (DE.db ae))) (DE.db ae))) (DE.db ae) (aJ _)) (cF hbe hr (aa (aG 11) (aa (DF.de (jD (ah 9) (bX (DE.db ae)) (bX (DE.db ae)))) aB))))
   (ar (lK (i:=11) d rfl (Qs rfl) (bc (gV hr) (DE.db (aq aP (DE.db (aR (ah 9) (DE.db ae))) (DE.db ae))) (DE.db ae) (aJ _)) (cF hbe hr (aa (aG 11) (aa (DF.de (jD (ah 9) (bX (DE.db ae)) (bX (DE.db ae)))) aB))))
   (ar (bg (i:=6) d rfl (Qs rfl) (bV (hJ base) hr rfl FJ.mgf FJ.fu.kp FJ.bi .nil cg (ag (pv 5) (ag (pv 6) (ag (pv 11) (ag (bV (hF base) (hr.mono (by decide)) rfl FF.mgf FF.fu.kp FF.bi .nil cg (ag (pv 6) (ag (pv 11) ax))) ax))))))
   (aH (cj (PW.pt (xV (n9 (qM (pv 6))) (u9 (om (yr (bV (hS base) (hr.mono (by decide)) rfl FS.mgf FS.fu.kp FS.bi .nil cg (ag (pv 5) (ag (pv 6) ax)))))))) pss_no bp))))))))))
  (ar (cj (n9 (yC (pv 7) bG)) (aH (jq Ja rfl (vk (cV (bu (aa (DF.de (dQ aB)) (aa (DF.de (dQ (aa (bu (aa aO (aa aO aB))) aB))) aB))))) (di (i:=12) d rfl (Qs rfl))
   (aH (cj (n9 (qM (bV (hJ base) hr rfl FJ.mgf FJ.fu.kp FJ.bi .nil cg (ag (pv 5) (ag (pv 6) (ag (cV (bu (aa aO (aa (aG 12) aB)))) (ag (cV (bu (aa aO (aa aO aB)))) ax))))))) pss_no bp)))) bp)
  (aH (br (bV (hS base) (hr.mono (by decide)) rfl FS.mgf FS.fu.kp FS.bi .nil cg (ag (pv 5) (ag (pv 6) ax)))))))))))
  ?_
 obtain⟨l3,zs3,rfl,sq3,dl3⟩:=n3.lstV;obtain⟨l4,zs4,rfl,sq4,dl4⟩:=n4.lstV;refine⟨_,rfl,l3,zs3,rfl,.inl (gh.seq sq3),λp1 hp1=>?_⟩;have g1:=Grow.new (.lst zs3) gh hp1;refine⟨_,rfl,l4,zs4,rfl,.inl ((gh.trans g1.hh).seq sq4),λp2 hp2=>?_⟩;have g2:=Grow.new (.lst zs4) g1.gh hp2;have g12:=g1.trans g2;have e1:=g2.gg _ _ (upd_same:upd G p1 (.lst zs3) p1=_);have e2:upd (upd G p1 (.lst zs3)) p2 (.lst zs4) p2=some (.lst zs4):=upd_same
 clear g2
 generalize upd (upd H p1 (.lst zs3)) p2 (.lst zs4)=H2 at *;generalize upd (upd G p1 (.lst zs3)) p2 (.lst zs4)=G2 at *;intro x dx hx hdx ne;have gm:aD H2 (upd (upd H2 dx (.own x)) x (.ins C dx [])):=(a_ _ hdx).trans (a_ _ (by rw[ao (Ne.symm ne)];exact hx));have xm:upd (upd H2 dx (.own x)) x (.ins C dx []) x=some (.ins C dx []):=upd_same;show yQ Z C [.ref x,.ref p1,.ref p2] _ _ _;generalize upd (upd H2 dx (.own x)) x (.ins C dx [])=Hm at *;refine⟨x,dx,G2,p1,p2,zs3,zs4,xs.map hD,iL cs,.non,rfl,xm,g12.gh.free hx,g12.gh.trans gm,e1,e2,dl3.mono g12.gg,dl4.mono g12.gg,tE hxs lxs hcs lcs,λG3 H3 as sg k3 fo3 na bk3=>⟨rfl,?_⟩⟩;have hxe:He x=none:=(gHe.trans g12.hh).free hx;have he3:aD He H3:=λq o e=>k3 q o (λz=>by rw[z,hxe] at e;cases e) (gm _ _ (g12.hh _ _ (gHe _ _ e)));have ha3:∀a∈as,He a=none:=λa m=>(gHe.trans (g12.hh.trans gm)).free (na a m);have g03:aD G G3:=g12.gg.trans sg;refine⟨_,rfl,_,rfl,G3,.ref l3,.ref l4,xs.map hD,iL cs,rfl,bk3.gh,n3.mono g03,n4.mono g03,λam G4 H4 g4 ma4=>?_⟩;have bk4:=bk3.grow g4;have g04:=g03.trans g4.gg;obtain⟨h,hle,eh⟩:=wo f (ε:=[.un,.dat (.lst (iL (bU f 280))),.un,.un,.un,.un,.un,.un,.un,.un,.un,.un,.un]) rfl;refine⟨H4,G4,_,.int h,bk4.gh,Slots.env (.un (.dat (n1.mono g04) (.un (.un (.un (.un (.un (.un (.un (.un (.un (.un (.un .nil))))))))))))),eh,λv5 G5 H5 g5 dn5=>?_⟩;cases dn5
 have li5:LI Z.K C He G x 0 ((0:Nat):Int) H5 am:=by
  refine⟨G5,as,T0 (xs.map hD) (iL cs),bk4.grow g5,ma4.mono g5.gg,⟨rfl,⟨by rw[QX];lia,λd hd=>?_⟩,⟨by show(cs.map D.int).length<_;rw[QX];lia,λd hd=>?_⟩,⟨Qi _,λd hd=>by cases hd⟩,⟨Qi _,λd hd=>by cases hd⟩,⟨Qi _,λd hd=>by cases hd⟩⟩,rfl,g04.trans g5.gg,he3.trans (g4.hh.trans g5.hh),hxe,ha3⟩
  ·obtain⟨t,_,rfl⟩:=Zi.mp hd
   exact lX (n:=0) [t.1,t.2.1,t.2.2] (by simp)
  ·obtain⟨t,_,rfl⟩:=Zi.mp hd
   exact trivial
 clear bk3 ma4 bk4 g4 g5 g03 sg k3 fo3 na ha3 he3 g04 eh
 refine⟨_,rfl,(h:Int),rfl,by lia,by lia,mU (n:=h) (λi σ' H'=>∃am z8,σ'=[y0,some v1,some v2,some (.ref l3),some (.ref l4),some (.ref x),some (.ref am),some (.int h),z8,y9,y10,y11,y12]/\LI Z.K C He G x i ((i:Nat):Int) H' am) ⟨am,y8,rfl,li5⟩ (λi σ' H' hi hP=>?_) λσ' H' hP=>?_⟩
 ·obtain⟨am,z8,rfl,G6,as6,T6,bk6,ma6,tk6,eh6,g06,he6,hb6,ha6⟩:=hP
  refine⟨_,rfl,_,rfl,H',G6,_,.tup [.str "drift",.lst []],bk6.gh,gP _,rfl,λv7 G7 H7 g7 dn7=>?_⟩;refine⟨H7,G7,_,.tup [],g7.gh,gP _,rfl,λv8 G8 H8 g8 dn8=>?_⟩;have g68:=g7.trans g8;refine⟨G8,x,as6,am,v7,.tup [.str "drift",.lst []],v8,T6,_,_,rfl,bk6.grow g68,ma6.mono g68.gg,tk6.few (by lia),dn7.mono g8.gg,(λ_ _ _ z=>by cases z),.drift (by rw[eh6];lia),.inl ⟨_,rfl,dn8,by simp,λam' G9 H9 as9 mv9 bk9 ma9=>?_⟩⟩;refine⟨_,rfl,_,rfl,b9 (λc=>absurd (of_decide_eq_true c) (by simp)) λ_=>?_⟩;have li:=LI.move mv9 bk9 ma9 tk6.drift (g06.trans g68.gg) (he6.trans g68.hh) hb6 ha6;refine⟨am',_,rfl,?_⟩;have e:(T6.hour+1:Int)=((i+1:Nat):Int):=by rw[eh6];lia
  rw[<-e];exact li
 obtain⟨am,z8,rfl,li⟩:=hP;obtain⟨Ga,ga0,gah,la⟩:=(li.less (m:=24) hle).grow;have hten:1+f 5%10<=10:=by lia
 have hpos:0<=1+f 5%10:=by lia
 refine⟨H',Ga,[.un,.dat (.lst (iL (bU f 280))),.un,.un,.un,.un,.un,.un,.un,.un,.un,.un,.un],.int (1+f 5%10),gah,Slots.env (.un (.dat (n1.mono ga0) (.un (.un (.un (.un (.un (.un (.un (.un (.un (.un (.un .nil))))))))))))),aK (x:=.int 1) rfl (aK (aK (x:=.lst (iL (bU f 280))) rfl rfl (dX f 280 5 (by decide))) rfl rfl) rfl,λv5 G5 H5 g5 dn5=>?_⟩;cases dn5;generalize 1+f 5%10=m at hten hpos;refine⟨m,rfl,by lia,by lia,mU (n:=m.toNat) (λi σ' H'=>∃am z8 z9 z10 z11,σ'=[y0,some v1,some v2,some (.ref l3),some (.ref l4),some (.ref x),some (.ref am),some (.int h),z8,z9,z10,z11,y12]/\LI Z.K C He G x (24+i) h H' am) ⟨am,z8,y9,y10,y11,rfl,la _ _ g5⟩ (λi σ' H' hi hP=>?_) λσ' H' hP=>?_⟩
 ·obtain⟨am,z8,z9,z10,z11,rfl,G6,as6,T6,bk6,ma6,tk6,eh6,g06,he6,hb6,ha6⟩:=hP
  have hi10:i<10:=by lia
  refine⟨H',G6,[.un,.dat (.lst (iL (bU f 280))),.un,.un,.un,.un,.un,.un,.dat (.int (0+(i:Int))),.un,.un,.un,.un],_,bk6.gh,Slots.env (.un (.dat (n1.mono g06) (.un (.un (.un (.un (.un (.un (.dat (.int _) (.un (.un (.un (.un .nil))))))))))))),zJ rfl rfl hi10,λv9 G7 H7 g7 dn9=>?_⟩;generalize hfk:(λj=>f (40+24*i+j))=fk at dn9;obtain⟨fx,ef,f0,f24⟩:=uV (ε:=[.un,.un,.un,.un,.un,.un,.un,.dat (.int (h:Int)),.un,.dat (.lst (iL (bU fk 24))),.un,.un,.un]) rfl rfl;refine⟨H7,G7,_,.int fx,g7.gh,Slots.env (.un (.un (.un (.un (.un (.un (.un (.dat (.int _) (.un (.dat dn9 (.un (.un (.un .nil))))))))))))),ef,λv10 G8 H8 g8 dn10=>?_⟩;cases dn10;have dn9:=dn9.mono g8.gg;refine⟨H8,G8,[.un,.un,.un,.un,.un,.un,.un,.un,.un,.dat (.lst (iL (bU fk 24))),.dat (.int fx),.un,.un],_,g8.gh,Slots.env (.un (.un (.un (.un (.un (.un (.un (.un (.un (.dat dn9 (.dat (.int _) (.un (.un .nil))))))))))))),uk rfl rfl,λv11 G9 H9 g9 dn11=>?_⟩;have dn9:=dn9.mono g9.gg;have g69:=(g7.trans g8).trans g9;obtain⟨ds,es,ss⟩:=uA (b0:=b0) (b1:=b1) (ε:=[.un,.un,.dat (.tup [.int b0,.int b1]),.un,.un,.un,.un,.un,.un,.dat (.lst (iL (bU fk 24))),.dat (.int fx),.un,.un]) rfl rfl rfl rfl f24;refine⟨H9,G9,_,_,v11,_,jz,g9.gh,Slots.env (.un (.un (.dat (n2.mono (g06.trans g69.gg)) (.un (.un (.un (.un (.un (.un (.dat dn9 (.dat (.int _) (.un (.un .nil))))))))))))),qH 0 2 1 (by decide) (by decide) rfl,rfl,dn11,.inl ⟨_,_,_,_,rfl⟩,λ_=>⟨ds,es,ss⟩,λv12 d12 G10 H10 g10 dn12 s12=>?_⟩;have dn9:=dn9.mono g10.gg;refine⟨H10,G10,[.un,.un,.un,.un,.un,.un,.un,.un,.un,.dat (.lst (iL (bU fk 24))),.un,.dat d12,.un],_,v12,d12,jz,g10.gh,Slots.env (.un (.un (.un (.un (.un (.un (.un (.un (.un (.dat dn9 (.un (.dat dn12 (.un .nil))))))))))))),qH 9 2 1 (by decide) (by decide) rfl,rfl,dn12,s12,λ_=>qa 10 (by decide) rfl s12 rfl,λv13 d13 G11 H11 g11 dn13 s13=>?_⟩;have dn9:=dn9.mono g11.gg;refine⟨H11,G11,[.un,.un,.un,.un,.un,.un,.un,.un,.un,.dat (.lst (iL (bU fk 24))),.un,.dat d13,.un],_,v13,d13,jz,g11.gh,Slots.env (.un (.un (.un (.un (.un (.un (.un (.un (.un (.dat dn9 (.un (.dat dn13 (.un .nil))))))))))))),qH 9 9 2 (by decide) (by decide) rfl,rfl,dn13,s13,λ_=>qa 15 (by decide) rfl s13 rfl,λv14 d14 G12 H12 g12' dn14 s14=>?_⟩;have gA:=g69.trans (g10.trans (g11.trans g12'));obtain⟨r,T',fl,dg,six,hfl,hr2⟩:=Doing.call tk6 s14;refine⟨_,rfl,_,rfl,_,rfl,_,rfl,_,rfl,G12,am,v14,T6,d14,fl,rfl,gA.gh,ma6.mono gA.gg,dn14,hfl,λv15 G13 H13 g13 dn15=>?_⟩;have gB:=gA.trans g13;refine⟨G13,x,as6,am,v14,d14,v15,T6,T',r,rfl,bk6.grow gB,ma6.mono gB.gg,tk6.few (by lia),dn14.mono g13.gg,six,dg,?_⟩;rcases hr2 with⟨z,rfl,rfl,dl,tk',ehh⟩ | ⟨c,rfl,rfl,hj⟩
  ·refine .inl ⟨z,rfl,dn15,dl,λam' G14 H14 as14 mv14 bk14 ma14=>?_⟩
   have li:=LI.move mv14 bk14 ma14 tk' (g06.trans gB.gg) (he6.trans gB.hh) hb6 ha6;rw[ehh,eh6] at li;refine⟨_,rfl,_,rfl,b9 (λc=>absurd (of_decide_eq_true c) (by simp)) λ_=>?_⟩;exact jb rfl rfl li (by lia) λH15 li'=>⟨true,rfl,b9 (λc=>by cases c) λ_=>⟨am',_,_,_,_,rfl,li'⟩⟩
  ·refine .inr ⟨c,[],rfl,hj,dn15,λG14 H14 g14=>?_⟩
   have li:LI Z.K C He G x (24+i+1) h H14 am:=⟨G14,as6,T6,(bk6.grow gB).grow g14,ma6.mono (gB.gg.trans g14.gg),tk6.up,eh6,g06.trans (gB.gg.trans g14.gg),he6.trans (gB.hh.trans g14.hh),hb6,ha6⟩;refine⟨_,rfl,_,rfl,b9 (λc=>absurd (of_decide_eq_true c) (by simp)) λ_=>?_⟩;exact jb rfl rfl li (by lia) λH15 li'=>⟨true,rfl,b9 (λc=>by cases c) λ_=>⟨am,_,_,_,_,rfl,li'⟩⟩
 obtain⟨am,z8,z9,z10,z11,rfl,li⟩:=hP
 have fin:∀{am:Addr} {H' G':Hp},aD G G'->LI Z.K C He G' x 34 h H' am->W.rt (.bl true) H':=λ{am H' G'} gg li=>by
  obtain⟨G6,as6,T6,bk6,ma6,tk6,eh6,g06,he6,hb6,ha6⟩:=li;exact P (.bl true) Ge H' ⟨he6,aD.refl _,gGe.trans (gg.trans (g06.trans bk6.gh)),λ_ _ _ e=>e⟩ (.bl true)
 have li:=li.less (m:=34) (by lia);refine⟨_,rfl,_,_,rfl,rfl,_,rfl,b9 (λc=>?_) λ_=>?_⟩
 ·have h24:(h:Int)=24:=of_decide_eq_true c
  obtain⟨Ga,asa,Ta,bka,maa,tka,eha,g0a,hea,hba,haa⟩:=li;refine⟨H',Ga,_,.tup [.lst [],.lst [.tup [.str "Q",.str "up"]]],bka.gh,gP _,rfl,λvt Gt Ht gt dt=>?_⟩;obtain⟨at_,ts,rfl,sqt,dlt⟩:=dt.tupV
  have each:∀{i:Nat} {v:V},ts[i]?=some v->∃ps,Den Z.K Gt v (.lst ps):=by
   rcases dlt with _ | ⟨t0,_ | ⟨t1,_ | _⟩⟩
   intro i v e
   match i,e with
   |0,e=>cases e;exact⟨_,t0⟩
   |1,e=>cases e;exact⟨_,t1⟩
   |n+2,e=>cases e
  refine⟨at_,rfl,⟨ts,aE gt.gh sqt⟩,vT (xs:=ts) (λi σ' H'=>∃z12,σ'=[y0,some v1,some v2,some (.ref l3),some (.ref l4),some (.ref x),some (.ref am),some (.int h),z8,z9,z10,z11,z12]/\LI Z.K C He Gt x 34 h H' am) ⟨y12,rfl,Gt,asa,Ta,bka.grow gt,maa.mono gt.gg,tka,eha,aD.refl _,hea.trans gt.hh,hba,haa⟩ (λi σ' H' _ hP=>?_) (λi xv σ' H' ex hP=>?_) λσ' H' hP=>?_⟩
  ·obtain⟨z12,rfl,G6,as6,T6,bk6,ma6,tk6,eh6,g06,_⟩:=hP
   exact aE (g06.trans bk6.gh) sqt
  ·obtain⟨z12,rfl,G6,as6,T6,bk6,ma6,tk6,eh6,g06,he6,hb6,ha6⟩:=hP
   obtain⟨ps,dps⟩:=each ex;refine⟨_,rfl,_,rfl,H',G6,[.un,.un,.un,.un,.un,.un,.un,.un,.un,.un,.un,.un,.dat (.lst ps)],.tup [.str "drift",.lst ps],bk6.gh,Slots.env (.un (.un (.un (.un (.un (.un (.un (.un (.un (.un (.un (.un (.dat (dps.mono g06) .nil))))))))))))),rfl,λv7 G7 H7 g7 dn7=>?_⟩;refine⟨H7,G7,_,.tup [.str "no",.str "Late"],g7.gh,gP _,rfl,λv8 G8 H8 g8 dn8=>?_⟩;have g68:=g7.trans g8;refine⟨G8,x,as6,am,v7,_,v8,T6,T6,.inr ("Late",[]),rfl,bk6.grow g68,ma6.mono g68.gg,tk6.few (by decide),dn7.mono g8.gg,(λ_ _ _ z=>by cases z),.late (by rw[eh6];lia),.inr ⟨"Late",[],rfl,⟨5,by decide,rfl⟩,dn8,λG9 H9 g9=>?_⟩⟩;have g69:=g68.trans g9;exact⟨_,rfl,b9 (λc=>absurd (of_decide_eq_true c) (by simp)) λ_=>⟨_,rfl,G9,as6,T6,bk6.grow g69,ma6.mono g69.gg,tk6,eh6,g06.trans g69.gg,he6.trans g69.hh,hb6,ha6⟩⟩
  ·obtain⟨z12,rfl,li⟩:=hP
   exact jb rfl rfl li (by decide) λH15 li'=>fin (g0a.trans gt.gg) li'
 ·exact jb rfl rfl li (by decide) λH15 li'=>fin (aD.refl _) li'
theorem rf1{C:Addr}(self:Qa):refuseLoop self "__setattr__" (.ref C::eU)=pure ():=by rw[refuseLoop_ref];exact PySem.F.store_ValueError.passes self
theorem rf2{C B:Addr}(self:Qa):refuseLoop self "__setattr__" (.ref C :: .ref B::eU)=pure ():=by rw[refuseLoop_ref];exact rf1 self
theorem hb1:eU.contains (.type "ValueError")=true/\eU.contains (.type "BaseException")=true/\eU.contains (.type "AttributeError")=false/\eU.contains (.type "NameError")=false/\eU.contains (.type "object")=true:=by decide +kernel
theorem hb2{B:Addr}:(Ql B::eU).contains (.type "ValueError")=true/\(Ql B::eU).contains (.type "BaseException")=true/\(Ql B::eU).contains (.type "AttributeError")=false/\(Ql B::eU).contains (.type "NameError")=false/\(Ql B::eU).contains (.type "object")=true:=by
 obtain⟨h1,h2,h3,h4,h5⟩:=hb1;exact⟨by rw[QM,h1];rfl,by rw[QM,h2];rfl,by rw[QM,h3];rfl,by rw[QM,h4];rfl,by rw[QM,h5];rfl⟩
def ExB(Z:Wq)(B:Addr)(c:Str)(C:Addr):Prop:=PySem.W.specialIn Z.K (.builtin "object.__class__") "__get__" = some (some (.builtin "getset_descriptor.__get__"))->PySem.W.takesIn Z.K (.builtin "object.__class__")=some true->ExA Z B c C
theorem cC{P:Qq}{w:Qw}{K:Qb}{mg:Str->Option Qa}{B C:Addr}{c:Str}(ok:OkE ⟨P,w,K,mg⟩ c C (.ref B::eU))(ga:Qr K (.ref C) "__getattribute__" = some (some (.builtin "BaseException.__getattribute__")))(gn:Qr K (.ref C) "__getattr__" = some none)
  (cl:Qr K (.ref C) "__class__" = some (some (.builtin "object.__class__"))):ExB ⟨P,w,K,mg⟩ B c C:=λgs tk=>⟨ok,⟨⟨ga,gn,ok.exc,ok.dict⟩,cl,gs,tk,ok.ob⟩⟩
def MT(K:Qb)(C:Addr)(m qual:Str)(st:Stmt)(ps:List Str):Prop:=∃f fd,Qr K (.ref C) m=some (some (.ref f))/\PySem.W.isFn K (.ref f)=true/\Q4 K (.ref f)=true/\Fun K m qual st f fd/\fC K fd ps []
theorem iR{K:Qb}{C f:Addr}{m qual:Str}{st:Stmt}{ps:List Str}{od an:Option Addr}{osl:Array (Option Qa)}{kV doc pm cdv ct:Qa}(a:Qr K (.ref C) m=some (some (.ref f)))(kp:Q4 K (.ref f)=true)
  (l:K.lookup f=some ⟨.type "function",od,.func (Q9 m qual (c_ st) (bL st) (aA st) .none kV doc pm an cdv ct),osl⟩) (cc:Za K cdv qual=true)
  (hb:∀(kV doc pm:Qa) (an:Option Addr) (cdv ct:Qa) (us:List Qa),us.length=ps.length->bindArgs (Q9 m qual (c_ st) (bL st) (aA st) .none kV doc pm an cdv ct) ⟨us,[]⟩=pure (ps.zip us)):MT K C m qual st ps:=
 ⟨f,_,a,beq_iff_eq.mpr (by show Option.map _ (Jn f K)=_;rw[l];rfl),kp,nO l cc kp,(nO l cc kp).binds hb⟩
theorem xt{K:Qb}{C B N:Addr}{nm q:Str}{bs:List Qa}{hd:Bool}{sn:List Str}{sub:List Qa}{ab:Bool}{col:Option Bool}{dd:Option Addr}{k0 k1 k2 k3 k5:Option Qa}(lk:K.lookup C=some (J8 nm q C N bs (.ref B::eU) hd sn sub ab col dd k0 k1 k2 k3 k5 "ValueError.__new__")):Ex.XO K C (.ref B::eU):=
 ⟨⟨nm,q,N,bs,hd,sn,sub,ab,col,dd,k0,k1,k2,k3,k5,lk⟩,hb2.1,hb2.2.1,hb2.2.2.1,hb2.2.2.2.1⟩
theorem AJ{K:Qb}{C:Addr}(a:ZA K C Str.empty=true)(b:JJ K C=true)(c:PySem.W.plainOver K C=true)(d:Qr K (.ref C) "__setattr__" = some (some (.builtin "object.__setattr__")))(n1:Qr K (.ref C) "hills" = some none)(n2:Qr K (.ref C) "cool" = some none)
  (n3:Qr K (.ref C) "hour" = some none) (n4:Qr K (.ref C) "winds" = some none) (n5:Qr K (.ref C) "shuts" = some none) (n6:Qr K (.ref C) "balloons" = some none) (n7:Qr K (.ref C) "deeds" = some none) (n8:Qr K (.ref C) "holds" = some none):NoA K C:=⟨⟨a,b,c,d⟩,λm hm=>by
 unfold atN at hm;simp only[Qm,Qt,or_false] at hm;rcases hm with rfl | rfl | rfl | rfl | rfl | rfl | rfl | rfl
 ·exact n1
 ·exact n2
 ·exact n3
 ·exact n4
 ·exact n5
 ·exact n6
 ·exact n7
 ·exact n8⟩
abbrev xK(Z:Wq):Prop:=OkD Z "law" (top 106) rA 10 pV
theorem vH{xs:List Addr}{i:Nat}(h:i<xs.length):xs.getD i 0∈xs:=by simp[h]
theorem yN{B:Addr}{cs:List Addr}(h:(B::cs).Nodup):(∀i j,i<cs.length->j<cs.length->cs.getD i 0=cs.getD j 0->i=j)/\(∀i,i<cs.length->cs.getD i 0≠B)/\∀x∈cs,x≠B:=by
 obtain⟨h1,h2⟩:=Js.mp h;have at_:∀i,i<cs.length->cs.getD i 0∈cs:=λi hi=>by simp[hi]
 refine⟨λi j hi hj e=>?_,λi hi z=>h1 (z▸at_ i hi),λx hx z=>h1 (z▸hx)⟩;have ei:cs.getD i 0=cs[i]:=by simp[hi]
 have ej:cs.getD j 0=cs[j]:=by simp[hj]
 rw[ei,ej] at e;rcases Nat.lt_trichotomy i j with l | l | l
 ·exact absurd e (J7.mp h2 i j hi hj l)
 ·exact l
 ·exact absurd e.symm (J7.mp h2 j i hj hi l)
theorem yD{P:Qq}{w:Qw}{K:Qb}{mg:Str->Option Qa}{C B SA NA c0 c1 c2 c3 c4 c5 c6 c7 c8 c9 c10 c11 c12 c13 c14 c15 c16 c17 c18:Addr}(M:Md ⟨P,w,K,mg⟩)(mdict:mg "dict" = none){tmd:PySem.Tok}(mmd:mg "MOST_DEEDS" = some (.int 60 tmd))(mb:mg "Book" = some (.ref C))(mk:PySem.W.makesIn K C=true)(kp:Q4 K (.ref C)=true)(na:NoA K C)
  (hn:PySem.W.specialIn K (.builtin "object.__class__") "__get__" = some (some (.builtin "getset_descriptor.__get__"))) (htk:PySem.W.takesIn K (.builtin "object.__class__")=some true)
  (mI:MT K C "__init__" "Book.__init__" (cm sB 0) ["self","hills","cool"]) (mR:MT K C "check_room" "Book.check_room" (cm sB 1) ["self"]) (mN:MT K C "noted" "Book.noted" (cm sB 2) ["self","deed"]) (mW:MT K C "wind" "Book.wind" (cm sB 8) ["self","first","height","dx","dy"]) (mS:MT K C "shut" "Book.shut" (cm sB 9) ["self","box","first","last"]) (mO:MT K C "orders_given" "Book.orders_given" (cm sB 11) ["self","pairs"]) (mD:MT K C "drift" "Book.drift" (cm sB 12) ["self","orders"]) (mw:MT K C "now" "Book.now" (cm sB 19) ["self"]) (mk':MT K C "sky" "Book.sky" (cm sB 20) ["self"]) (md:MT K C "done" "Book.done" (cm sB 21) ["self"]) (mm:MT K C "names" "Book.names" (cm sB 22) ["self"])
  (bE:OkE ⟨P,w,K,mg⟩ "BookError" B eU) (E0:ExB ⟨P,w,K,mg⟩ B "BadName" c0) (E1:ExB ⟨P,w,K,mg⟩ B "Taken" c1) (E2:ExB ⟨P,w,K,mg⟩ B "NoBalloon" c2) (E3:ExB ⟨P,w,K,mg⟩ B "BadHour" c3) (E4:ExB ⟨P,w,K,mg⟩ B "Past" c4) (E5:ExB ⟨P,w,K,mg⟩ B "Late" c5) (E6:ExB ⟨P,w,K,mg⟩ B "BadPlace" c6) (E7:ExB ⟨P,w,K,mg⟩ B "BadHeight" c7) (E8:ExB ⟨P,w,K,mg⟩ B "BadLoad" c8) (E9:ExB ⟨P,w,K,mg⟩ B "BadWind" c9) (E10:ExB ⟨P,w,K,mg⟩ B "BadBox" c10) (E11:ExB ⟨P,w,K,mg⟩ B "BadOrder" c11) (E12:ExB ⟨P,w,K,mg⟩ B "Twice" c12) (E13:ExB ⟨P,w,K,mg⟩ B "NotAloft" c13) (E14:ExB ⟨P,w,K,mg⟩ B "NotLost" c14) (E15:ExB ⟨P,w,K,mg⟩ B "NotLow" c15) (E16:ExB ⟨P,w,K,mg⟩ B "OutOfSight" c16) (E17:ExB ⟨P,w,K,mg⟩ B "NoHold" c17) (E18:ExB ⟨P,w,K,mg⟩ B "Full" c18)
  (mSt:mg "Stopped" = some (.ref SA)) (xSt:Ex.XO K SA (.ref B::eU)) (mNf:mg "NothingFits" = some (.ref NA)) (xNf:Ex.XO K NA (.ref B::eU)) (nd:[B,c0,c1,c2,c3,c4,c5,c6,c7,c8,c9,c10,c11,c12,c13,c14,c15,c16,c17,c18].Nodup) (ndS:SA∉[B,c0,c1,c2,c3,c4,c5,c6,c7,c8,c9,c10,c11,c12,c13,c14,c15,c16,c17,c18]) (ndN:NA∉[B,c0,c1,c2,c3,c4,c5,c6,c7,c8,c9,c10,c11,c12,c13,c14,c15,c16,c17,c18])
  (A__law_numbers:FX ⟨P,w,K,mg⟩ "_law_numbers" (top 83) dO) (A__law_same:FX ⟨P,w,K,mg⟩ "_law_same" (top 84) cQ) (A__law_base:FX ⟨P,w,K,mg⟩ "_law_base" (top 85) gf) (A__law_box:FX ⟨P,w,K,mg⟩ "_law_box" (top 86) gY) (A__law_off:FX ⟨P,w,K,mg⟩ "_law_off" (top 91) gZ) (A__law_bad_box:FX ⟨P,w,K,mg⟩ "_law_bad_box" (top 92) dZ) (A__law_opening:FX ⟨P,w,K,mg⟩ "_law_opening" (top 93) dP) (A__law_deed_of:FX ⟨P,w,K,mg⟩ "_law_deed_of" (top 94) dR) (A__law_only:FX ⟨P,w,K,mg⟩ "_law_only" (top 100) gi) (A__law_bent:FX ⟨P,w,K,mg⟩ "_law_bent" (top 103) f_) (A_check_place:FX ⟨P,w,K,mg⟩ "check_place" (top 67) eK) (A_check_height:FX ⟨P,w,K,mg⟩ "check_height" (top 68) d9) (A_check_box:FX ⟨P,w,K,mg⟩ "check_box" (top 70) f7) (A_check_between:FX ⟨P,w,K,mg⟩ "check_between" (top 73) dE) (A_check_wind:FX ⟨P,w,K,mg⟩ "check_wind" (top 74) e_) (A_check_shut:FX ⟨P,w,K,mg⟩ "check_shut" (top 75) fj) (A_check_hill:FX ⟨P,w,K,mg⟩ "check_hill" (top 76) fg) (A_check_opening:FX ⟨P,w,K,mg⟩ "check_opening" (top 77) dC) (A_good_box:FX ⟨P,w,K,mg⟩ "good_box" (top 4) gR)
  (A__law_opened:FX ⟨P,w,K,mg⟩ "_law_opened" (top 89) ["_law_hills","_law_cool"]) (A__law_air:FX ⟨P,w,K,mg⟩ "_law_air" (top 90) ["_law_model"]) (A__law_done_by:FX ⟨P,w,K,mg⟩ "_law_done_by" (top 97) ["_law_model","_law_call"]) (A__law_do:FX ⟨P,w,K,mg⟩ "_law_do" (top 98) ["_law_book","_law_call"]) (A__law_stands:FX ⟨P,w,K,mg⟩ "_law_stands" (top 99) ["_law_book","_law_model"]) (A__law_try:FX ⟨P,w,K,mg⟩ "_law_try" (top 101) ["_law_book","_law_call"]) (A__law_judged:FX ⟨P,w,K,mg⟩ "_law_judged" (top 102) ["_law_book","_law_model","_law_call","_law_fault_here"]) (A__law_fault_wind:FX ⟨P,w,K,mg⟩ "_law_fault_wind" (top 104) ["_law_model","_law_call"]) (A__law_fault:FX ⟨P,w,K,mg⟩ "_law_fault" (top 105) ["_law_model","_law_call"]) (A_law:FX ⟨P,w,K,mg⟩ "law" (top 106) ["_law_script"]):xK ⟨P,w,K,mg⟩:=by
 have e0:=E0 hn htk;have e1:=E1 hn htk;have e2:=E2 hn htk;have e3:=E3 hn htk;have e4:=E4 hn htk;have e5:=E5 hn htk;have e6:=E6 hn htk;have e7:=E7 hn htk;have e8:=E8 hn htk;have e9:=E9 hn htk;have e10:=E10 hn htk;have e11:=E11 hn htk;have e12:=E12 hn htk;have e13:=E13 hn htk;have e14:=E14 hn htk;have e15:=E15 hn htk;have e16:=E16 hn htk;have e17:=E17 hn htk;have e18:=E18 hn htk;obtain⟨inj,nb,_⟩:=yN nd
 have cs:Cls19 ⟨P,w,K,mg⟩ B (λi=>([c0,c1,c2,c3,c4,c5,c6,c7,c8,c9,c10,c11,c12,c13,c14,c15,c16,c17,c18]:List Addr).getD i 0):=by
  refine⟨bE,λi hi=>?_,λi j hi hj=>inj i j hi hj,λi hi=>nb i hi⟩
  match i,hi with
  |0,_=>exact e0
  |1,_=>exact e1
  |2,_=>exact e2
  |3,_=>exact e3
  |4,_=>exact e4
  |5,_=>exact e5
  |6,_=>exact e6
  |7,_=>exact e7
  |8,_=>exact e8
  |9,_=>exact e9
  |10,_=>exact e10
  |11,_=>exact e11
  |12,_=>exact e12
  |13,_=>exact e13
  |14,_=>exact e14
  |15,_=>exact e15
  |16,_=>exact e16
  |17,_=>exact e17
  |18,_=>exact e18
  |n+19,h=>exact absurd h (by omega)
 have mem:∀i,i<19->([c0,c1,c2,c3,c4,c5,c6,c7,c8,c9,c10,c11,c12,c13,c14,c15,c16,c17,c18]:List Addr).getD i 0∈[B,c0,c1,c2,c3,c4,c5,c6,c7,c8,c9,c10,c11,c12,c13,c14,c15,c16,c17,c18]:=λi hi=>QG _ (vH (xs:=[c0,c1,c2,c3,c4,c5,c6,c7,c8,c9,c10,c11,c12,c13,c14,c15,c16,c17,c18]) hi);have aS:Ahead ⟨P,w,K,mg⟩ B (λi=>([c0,c1,c2,c3,c4,c5,c6,c7,c8,c9,c10,c11,c12,c13,c14,c15,c16,c17,c18]:List Addr).getD i 0) "Stopped" SA (.ref B::eU):=⟨mSt,xSt,λz=>ndS (z▸QV),λi hi z=>ndS (z▸mem i hi)⟩;have aN:Ahead ⟨P,w,K,mg⟩ B (λi=>([c0,c1,c2,c3,c4,c5,c6,c7,c8,c9,c10,c11,c12,c13,c14,c15,c16,c17,c18]:List Addr).getD i 0) "NothingFits" NA (.ref B::eU):=⟨mNf,xNf,λz=>ndN (z▸QV),λi hi z=>ndN (z▸mem i hi)⟩;have h_place:=mF A_check_place M ⟨_,_,e6.ok⟩;have h_hill:=oG A_check_hill M h_place ⟨_,_,e7.ok⟩;have h_between:=kJ A_check_between M ⟨_,_,e3.ok⟩;have h_opening:=kL A_check_opening M h_hill h_between ⟨_,_,e18.ok⟩ ⟨_,_,e12.ok⟩;have h_height:=lI A_check_height M ⟨_,_,e7.ok⟩;have h_wind:=nJ A_check_wind M h_between h_height ⟨_,_,e9.ok⟩ ⟨_,_,e4.ok⟩;have h_box:=pJ A_check_box M (qO A_good_box M) ⟨_,_,e10.ok⟩;have h_shut:=nI A_check_shut M h_box h_between ⟨_,_,e4.ok⟩;have h_same:=pT A__law_same M;have h_bad:=lY A__law_bad_box M (qo A__law_off M);have h_only:=pY A__law_only M;have h_deed:=lA A__law_deed_of M;have mo:∀{m qual:Str} {st:Stmt} {ps:List Str} {sp:Sp},MT K C m qual st ps->(∀{base:Heap} {f:Addr} {fd:QE},Fun K m qual st f fd->FnOk P w K mg base CX0 1 f fd ps sp)->MO ⟨P,w,K,mg⟩ C m ps sp:=λ{m qual st ps sp} h ok=>let⟨f,fd,a,t,k,F,b⟩:=h;⟨f,fd,⟨a,t,k⟩,b,λbase=>ok F⟩;have mx:∀{m qual:Str} {st:Stmt} {ps:List Str} {sp:Sp},MT K C m qual st ps->(∀{base:Heap} {f:Addr} {fd:QE},Fun K m qual st f fd->FnOk P w K mg base (Ex.CX1 P w) 6 f fd ps sp)->MX ⟨P,w,K,mg⟩ C m ps sp:=λ{m qual st ps sp} h ok=>let⟨f,fd,a,t,k,F,b⟩:=h;⟨f,fd,⟨a,t,k⟩,b,λbase=>ok F⟩;have fo:∀{x:Str} {st:Stmt} {ps:List Str} {k:Nat} {sp:Sp},FX ⟨P,w,K,mg⟩ x st ps->(∀{base:Heap} {f:Addr} {fd:QE},Fun K x x st f fd->FnOk P w K mg base CX0 k f fd ps sp)->FOk ⟨P,w,K,mg⟩ x st ps k sp:=λ{x st ps k sp} h ok=>let⟨f,fd,F,_⟩:=h;⟨f,fd,F,λbase=>ok F.fu⟩;have HR:=mo mR λF=>wI F na M.b_len ⟨_,mmd⟩;have HN:=mo mN λF=>uR F na M.b_len;have HK:=mo mk' λF=>zE F na M.b_list;have HW:=mx mW λF=>vW (Z:=⟨P,w,K,mg⟩) F na HR HN h_wind;have HS:=mx mS λF=>wM (Z:=⟨P,w,K,mg⟩) F na HR HN h_shut;have HO:=mo mO λF=>sZ (Z:=⟨P,w,K,mg⟩) F;have HD:=mx mD λF=>ue (Z:=⟨P,w,K,mg⟩) F na M.b_enumerate M.b_tuple M.g_LAST_HOUR HR HN HO HK e5.ok;have Hdo:∃f fd,FA K mg "_law_do" (top 98) ["_law_book","_law_call"] f fd/\∀base,FnOk P w K mg base (Ex.CX1 P w) 7 f fd ["_law_book","_law_call"] (wA ⟨P,w,K,mg⟩ C):=let⟨f,fd,F,_⟩:=A__law_do;⟨f,fd,F,λbase=>Ay F.fu na M.b_list HW HS HD⟩;have Htry:=fo A__law_try λF=>yq F M Hdo h_only cs aS aN;have Hair:=fo A__law_air λF=>zb (Z:=⟨P,w,K,mg⟩) F;have Hdb:=fo A__law_done_by λF=>Ak (Z:=⟨P,w,K,mg⟩) F M mdict h_deed Hair
 have Hjd:=fo A__law_judged λF=>Af F M Hdb Htry h_same (λn=>qN (.int n) trivial) λx=>qN (.tup [.str "no",.str x]) ⟨by simp,λd hd=>by
  simp only[Qm,Qt,or_false] at hd
  rcases hd with rfl | rfl<;>exact trivial⟩
 have Hsd:=fo A__law_stands λF=>AB F M na (mo mw λF=>zq F na) HK (mo md λF=>wB F na M.b_list) (mo mm λF=>zc (Z:=⟨P,w,K,mg⟩) F na) Hair h_same;have Hfw:=fo A__law_fault_wind λF=>Au (Z:=⟨P,w,K,mg⟩) F M;have Hfl:=fo A__law_fault λF=>z0 (Z:=⟨P,w,K,mg⟩) F M Hfw h_bad;have Hop:=fo A__law_opened λF=>sO (Z:=⟨P,w,K,mg⟩) F;obtain⟨fI,fdI,aI,tI,_,FI,bI⟩:=mI;exact zI A_law M (me A__law_numbers M) (pB A__law_base M) (mf A__law_opening M) (qV A__law_box M) (pk A__law_bent M) mb ⟨mk,aI,tI,kp⟩ bI (λbase=>Aw FI na M.b_list h_opening) Hop Hjd Hfl Hsd
theorem walk{l:PySem.W.OpenLaw}{q:Qq}{loose:List Str}{XP:(Str->Option Qa)->Heap->Prop}{YP:Qw->Heap->Prop}{d:DefRec}{K:Params->Qb}(hn:l.most=some 63)(hdf:d.params.defaults=[])(hnm:d.name = "law")
  (hY:∀(w:Qw) (h:Heap),YP w h->(K w.params).In h) (worth:∀ns:List Int,ns.length<=63->pV [.lst (ns.map D.int)]=some (.bl true))
  (F:∀(w:Qw) (mg:Str->Option Qa) (h:Heap),(K w.params).In h->h.Ns Qx mg->xK ⟨l.prog,w,K w.params,mg⟩) :
  PySem.W.WalkO q loose XP YP l.row.toRowW d [] (λf vs=>PySem.call f vs):=
 L2.vL (n:=63) (k:=10) (x:="_law_script") (CX:=λ_=>CX0) (sp:=λw=>spF (K w.params) pV) hn (by decide) hdf ⟨rfl,by decide,by decide⟩ hY (λw mg fa h a b c=>yG (F w mg h a b) (by rw[<-hnm];exact c))
  (λw H a ns hl _ hS=>⟨H,[.lst (ns.map D.int)],.bl true,aD.refl _,.one (.lst (.inr ⟨ns,rfl,hS⟩) (sj _ _ ns)),worth ns hl,λv G' H' g hd=>hd.blV⟩) λ_ _ _ _ _ z=>z
theorem worth(ns:List Int)(hn:ns.length<=63):pV [.lst (ns.map D.int)]=some (.bl true):=by
 obtain⟨f,en,hf⟩:=yi ns hn 280 (by decide);obtain⟨b0,b1,eb,h0,h1⟩:=wO (f 0) (f 1) (f 2) (hf 1) (hf 2);obtain⟨xs,cs,eo,hx,lx,hc,lc⟩:=ql (λj=>f (10+j)) (λj=>hf (10+j)) b0 b1 h0 h1;refine eX rfl ?_;refine(au (jP ((iA (x:=.lst (ns.map D.int)) (y:=.int ((280:Nat):Int)) rfl rfl).trans en))).trans ?_
 have c3:eF (eSl (ai 1) eP (bP (eC (.int 3)))) [.dat (.lst (ns.map D.int)),.dat (.lst (iL (bU f 280))),.un,.un,.un,.un,.un,.un,.un,.un,.un,.un,.un]=some (.lst (iL [f 0,f 1,f 2])):=by
  refine lG ?_;show some (Dn.iY (iL (bU f 280)) none (some ((3:Nat):Int)))=_;rw[kQ];unfold iL bU;rw[<-ZJ,<-ZJ,List.take_range];rfl
 refine(au (jP ((qD c3).trans eb))).trans ?_
 have c25:eF (eSl (ai 1) (bP (eC (.int 10))) (bP (eC (.int 35)))) [.dat (.lst (ns.map D.int)),.dat (.lst (iL (bU f 280))),.dat (.tup [.int b0,.int b1]),.un,.un,.un,.un,.un,.un,.un,.un,.un,.un]=some (.lst (iL (bU (λj=>f (10+j)) 25))):=by
  refine lG ?_;show some (Dn.iY (iL (bU f 280)) (some ((10:Nat):Int)) (some ((10+25:Nat):Int)))=_;rw[mj f 280 10 25 (by decide)]
 refine(au (ε':=[.dat (.lst (ns.map D.int)),.dat (.lst (iL (bU f 280))),.dat (.tup [.int b0,.int b1]),.dat (.lst (xs.map hD)),.dat (.lst (iL cs)),.un,.un,.un,.un,.un,.un,.un,.un]) ?_).trans ?_
 ·unfold my
  have e:bt cU (aj (eF (eSl (ai 1) (bP (eC (.int 10))) (bP (eC (.int 35))))) (aj (aM 2) aZ)) [.dat (.lst (ns.map D.int)),.dat (.lst (iL (bU f 280))),.dat (.tup [.int b0,.int b1]),.un,.un,.un,.un,.un,.un,.un,.un,.un,.un]=some (.tup [.lst (xs.map hD),.lst (iL cs)]):=(iA c25 rfl).trans eo;show(bt cU _ [.dat (.lst (ns.map D.int)),.dat (.lst (iL (bU f 280))),.dat (.tup [.int b0,.int b1]),.un,.un,.un,.un,.un,.un,.un,.un,.un,.un]).bind _=_;rw[e];rfl
 ·unfold uZ
  exact if_pos ⟨_,f,b0,b1,xs,cs,rfl,hf,hx,lx,hc,lc⟩
end Lw
open PySem PySem.W PyProof.Rows
namespace PySem.W.Fast
theorem tw15181724210746401260:True:=trivial
theorem tw10020149555148472032:True:=trivial
theorem tw5248488509175064821:True:=trivial
theorem tw3502142780717912787:True:=trivial
theorem tw285513882829235464:True:=trivial
theorem tw11837928959249434610:True:=trivial
theorem tw13785134837099310567:True:=trivial
theorem tw10690811861889603207:True:=trivial
theorem tw6952851485697050471:True:=trivial
theorem tw159491460425583036:True:=trivial
theorem tw9461422984408604120:True:=trivial
theorem tw17080586796908756379:True:=trivial
theorem tw6134313784590196513:True:=trivial
theorem tw743507604480965546:True:=trivial
theorem tw1916467764075962444:True:=trivial
theorem tw11664888825765689204:True:=trivial
theorem tw539295891446109823:True:=trivial
theorem tw10341839259876110864:True:=trivial
theorem tw11257759220523617716:True:=trivial
theorem tw15979864359258464595:True:=trivial
theorem tw8386775468518303365:True:=trivial
theorem tw15472023990676978496:True:=trivial
theorem tw18291296199439606560:True:=trivial
theorem tw4568833080359799030:True:=trivial
theorem tw7338750522830748555:True:=trivial
theorem tw16845713529835441431:True:=trivial
theorem tw12626262186944016340:True:=trivial
theorem tw2117162018384666036:True:=trivial
theorem tw13823794017095179922:True:=trivial
theorem tw6430260233778675396:True:=trivial
theorem tw16082104289497108942:True:=trivial
theorem tw1189946121928242939:True:=trivial
theorem tw2156727310696644801:True:=trivial
theorem tw5547145875034780656:True:=trivial
theorem tw8235931645842350371:True:=trivial
theorem tw8098003346255395243:True:=trivial
theorem tw14863477186819199917:True:=trivial
theorem tw620640593599184403:True:=trivial
theorem tw8168597543912848290:True:=trivial
theorem tw16186561992478443716:True:=trivial
theorem tw8064193484828329593:True:=trivial
theorem tw11620310310910549942:True:=trivial
theorem tw5367035823160499206:True:=trivial
theorem tw13469297466804746098:True:=trivial
theorem tw16380981406000313959:True:=trivial
theorem tw5145713419469775102:True:=trivial
theorem tw8083999584977446484:True:=trivial
theorem tw15266632200613694683:True:=trivial
theorem tw17853282813957466300:True:=trivial
theorem tw12914045934297501993:True:=trivial
theorem tw13386267240812968234:True:=trivial
theorem tw16912532072122869556:True:=trivial
theorem tw14918805642246308892:True:=trivial
theorem tw343103988509857011:True:=trivial
theorem tw5518909250566187143:True:=trivial
theorem tw16285693138113032022:True:=trivial
theorem tw11840103167082932089:True:=trivial
theorem tw15812134690508320312:True:=trivial
theorem tw8164236944731299300:True:=trivial
theorem tw13175850248254228532:True:=trivial
theorem tw6388790373216254362:True:=trivial
theorem tw18078224459632790133:True:=trivial
theorem tw13410636635725400506:True:=trivial
theorem tw551300713958670899:True:=trivial
theorem tw10790187016415051768:True:=trivial
theorem tw3341301306136615964:True:=trivial
theorem tw4653977623726960224:True:=trivial
theorem tw10642672157916897591:True:=trivial
theorem tw17247366087091096161:True:=trivial
theorem tw15571900683787517606:True:=trivial
theorem tw15566234008048188677:True:=trivial
theorem tw15462268358455342540:True:=trivial
theorem tw10659539931738394200:True:=trivial
theorem tw5515426495397896875:True:=trivial
theorem tw7282312462650657161:True:=trivial
theorem tw2862061810403389877:True:=trivial
theorem tw11029127385679092280:True:=trivial
theorem tw7796373213558040540:True:=trivial
theorem tw1153778776086829472:True:=trivial
theorem tw10398619637221903175:True:=trivial
theorem tw3485731974766202099:True:=trivial
theorem tw16700252901182490355:True:=trivial
theorem tw14979775859771522381:True:=trivial
theorem tw9020991866787759556:True:=trivial
theorem tw2472142394316762895:True:=trivial
theorem tw10920593669556436485:True:=trivial
theorem tw13764938582346365196:True:=trivial
theorem tw13118140653153387596:True:=trivial
theorem tw16729678116123086388:True:=trivial
theorem tw18365326844230530943:True:=trivial
theorem tw11363753359337868773:True:=trivial
theorem tw10131184530222058453:True:=trivial
theorem tw4802315897644837803:True:=trivial
theorem tw10048976015003632881:True:=trivial
theorem tw2206699435370129533:True:=trivial
theorem tw13387693919913476027:True:=trivial
theorem tw5433949865102114391:True:=trivial
theorem tw17880931941829264915:True:=trivial
theorem tw14720384422662299802:True:=trivial
theorem tw16715615570728463759:True:=trivial
theorem tw17970038631998016444:True:=trivial
theorem tw1989873108723311241:True:=trivial
theorem tw13580141410775682414:True:=trivial
theorem tw6315204967561881480:True:=trivial
theorem tw2996919080485592545:True:=trivial
theorem tw9860134245295207739:True:=trivial
theorem tw15811890648379676220:True:=trivial
theorem tw15638559140423040385:True:=trivial
theorem tw4659353004353110179:True:=trivial
theorem tw9226329799208519847:True:=trivial
theorem tw18051520231806824010:True:=trivial
theorem tw12324376926733642958:True:=trivial
theorem tw13834118860846567939:True:=trivial
theorem tw2690699023086588021:True:=trivial
theorem tw9982175064166116843:True:=trivial
theorem tw4452534005985047626:True:=trivial
theorem tw14943708008953523097:True:=trivial
theorem tw4901828537528223204:True:=trivial
theorem tw4204880393590123587:True:=trivial
theorem tw7276625970796056365:True:=trivial
theorem tw1055057646560357617:True:=trivial
theorem tw511805020323153106:True:=trivial
theorem tw14223793070817299389:True:=trivial
theorem tw7077836420893917211:True:=trivial
theorem tw12050128042119842822:True:=trivial
theorem tw9114858455778104514:True:=trivial
theorem tw14402275899826415010:True:=trivial
theorem tw746024125659984476:True:=trivial
theorem tw6644282245205004129:True:=trivial
theorem tw13564223463158296711:True:=trivial
theorem tw3251549140642847907:True:=trivial
theorem tw17315061167963346849:True:=trivial
theorem tw2771399552438799336:True:=trivial
theorem tw7963682187068800702:True:=trivial
theorem tw17069939542695161444:True:=trivial
theorem tw2948742835724249953:True:=trivial
theorem tw12125118392415886280:True:=trivial
theorem tw4580725021245928852:True:=trivial
theorem tw1954519457022961434:True:=trivial
theorem tw5592865634268026558:True:=trivial
theorem tw9689220809987213945:True:=trivial
theorem tw392205163713092169:True:=trivial
theorem tw6397347557498199680:True:=trivial
theorem tw11476610923976708570:True:=trivial
theorem tw8282446328514492192:True:=trivial
theorem tw9374259823669620427:True:=trivial
theorem tw13753720887329343565:True:=trivial
theorem tw1835944420786283088:True:=trivial
theorem tw5689593931601815033:True:=trivial
theorem tw11918299413828634416:True:=trivial
theorem tw7194845822790889419:True:=trivial
theorem tw17217007646748612575:True:=trivial
theorem tw11514736823047092629:True:=trivial
theorem tw8483771348868175177:True:=trivial
theorem tw3746589331066468953:True:=trivial
theorem tw718974644137820254:True:=trivial
theorem tw17768587302483237301:True:=trivial
theorem tw9438361189784682450:True:=trivial
theorem tw11195615835970973470:True:=trivial
theorem tw5126081250197448:True:=trivial
theorem tw1318276757244566394:True:=trivial
theorem tw2416330957904234900:True:=trivial
theorem tw6191653222014458082:True:=trivial
theorem tw8342327093757861943:True:=trivial
theorem tw12899363401181800487:True:=trivial
theorem tw14816001682432365352:True:=trivial
theorem tw14396857971597841737:True:=trivial
theorem tw3309573055821663401:True:=trivial
theorem tw241092882470057261:True:=trivial
theorem tw8832905340071306329:True:=trivial
theorem tw15549923462334045636:True:=trivial
theorem tw10670887367277630909:True:=trivial
theorem tw1933478285591712135:True:=trivial
theorem tw10261981793532103543:True:=trivial
theorem tw10049926164848908413:True:=trivial
theorem tw10195993151110752801:True:=trivial
theorem tw15945033378032717412:True:=trivial
theorem tw14671663381083529218:True:=trivial
theorem tw6681815828349212813:True:=trivial
theorem tw6435363240326631623:True:=trivial
theorem tw5763159183154675838:True:=trivial
theorem tw18070215363227462119:True:=trivial
theorem tw13645942946145236351:True:=trivial
theorem tw7747830557474928819:True:=trivial
theorem tw5248881711418017436:True:=trivial
theorem tw214522041116408993:True:=trivial
theorem tw6659569314056119:True:=trivial
theorem tw13673960125648652804:True:=trivial
theorem tw11106930756600262405:True:=trivial
theorem tw1019428798225907504:True:=trivial
theorem tw11265434157236814188:True:=trivial
theorem tw16467784898602506423:True:=trivial
theorem tw3155318390988803444:True:=trivial
theorem tw4648889832461855466:True:=trivial
theorem tw8680794338488609510:True:=trivial
theorem tw1656579007721828021:True:=trivial
theorem tw5583844866331930486:True:=trivial
theorem tw391057993740837760:True:=trivial
theorem tw10151102677955406381:True:=trivial
theorem tw1366975594830438776:True:=trivial
theorem tw17830064342867261771:True:=trivial
theorem tw13259329265445985137:True:=trivial
theorem tw5109566663189568829:True:=trivial
theorem tw8888155492815444725:True:=trivial
theorem tw501761839061648764:True:=trivial
theorem tw9868886353141295376:True:=trivial
theorem tw15415312511771346200:True:=trivial
theorem tw876399413825009837:True:=trivial
theorem tw8665254181960033913:True:=trivial
theorem tw9127363702571064031:True:=trivial
theorem tw16460696039309810523:True:=trivial
theorem tw10863396348926667073:True:=trivial
theorem tw13119461592242504462:True:=trivial
theorem tw8588122489202782794:True:=trivial
theorem tw17334097499937735218:True:=trivial
theorem tw17620474715789413299:True:=trivial
theorem tw8100828676690621843:True:=trivial
theorem tw14856746256712929254:True:=trivial
theorem tw250372727998051332:True:=trivial
theorem tw8862407920033251442:True:=trivial
theorem tw10354623380625797620:True:=trivial
theorem tw3743731499279266681:True:=trivial
theorem tw710312703952627675:True:=trivial
theorem tw12517628151754443587:True:=trivial
theorem tw11094678823615148167:True:=trivial
theorem tw15370435420285866166:True:=trivial
theorem tw7405716699662049642:True:=trivial
theorem tw5814449635807397901:True:=trivial
theorem tw6024532974587239784:True:=trivial
theorem tw4828739864301084:True:=trivial
theorem tw9012389014777974766:True:=trivial
theorem tw13586822828256168539:True:=trivial
theorem tw13125661550736145414:True:=trivial
theorem tw3006073050415725762:True:=trivial
theorem tw14325625793943345017:True:=trivial
theorem tw13091481433436575561:True:=trivial
theorem tw7971084866711126602:True:=trivial
theorem tw4705066150972048287:True:=trivial
theorem tw6058418281967171535:True:=trivial
theorem tw7774949129443714430:True:=trivial
theorem tw13631640622947376966:True:=trivial
theorem tw15921729210130660158:True:=trivial
theorem tw6229673019685596932:True:=trivial
theorem tw6538061576285246119:True:=trivial
theorem tw15230006909435083621:True:=trivial
theorem tw3527586839315655511:True:=trivial
theorem tw17917187375716652272:True:=trivial
theorem tw14762260031950419984:True:=trivial
theorem tw15361258999415144964:True:=trivial
theorem tw10530871689212544606:True:=trivial
theorem tw8932338280452414220:True:=trivial
theorem tw114398223493914380:True:=trivial
theorem tw2347116318983775830:True:=trivial
theorem tw9592232128386987934:True:=trivial
theorem tw17028891523873303509:True:=trivial
theorem tw5557221040273408082:True:=trivial
theorem tw12035849782211186714:True:=trivial
theorem tw6392393058270208983:True:=trivial
theorem tw6283228889318746300:True:=trivial
theorem tw2470741610907610983:True:=trivial
theorem tw15046410168050314943:True:=trivial
theorem tw1748585614876008713:True:=trivial
theorem tw17815682942462050372:True:=trivial
theorem tw12051036327895264713:True:=trivial
theorem tw11408776405341976738:True:=trivial
theorem tw16306580239387188938:True:=trivial
theorem tw10919441582622657636:True:=trivial
theorem tw12714362599591414031:True:=trivial
theorem tw16912091500043844078:True:=trivial
theorem tw2085375747921740044:True:=trivial
theorem tw5088719000802544245:True:=trivial
theorem tw2525076919785796116:True:=trivial
theorem tw13693363513882646452:True:=trivial
theorem tw2936528050164986883:True:=trivial
theorem tw2858902645095447491:True:=trivial
theorem tw12064287363557955021:True:=trivial
theorem tw13427747999456837104:True:=trivial
theorem tw4663887059639938260:True:=trivial
theorem tw14660430083807085934:True:=trivial
theorem tw8578868184770657859:True:=trivial
theorem tw348006204998013660:True:=trivial
theorem tw11471769978155672841:True:=trivial
theorem tw9669193967883725443:True:=trivial
theorem tw12986751202187666639:True:=trivial
theorem tw7548817741492270629:True:=trivial
theorem tw3750371249392961011:True:=trivial
theorem tw36294397746334981:True:=trivial
theorem tw18234988781285461502:True:=trivial
theorem tw828732420485379019:True:=trivial
theorem tw5085776749901722548:True:=trivial
theorem tw15893339407167674665:True:=trivial
theorem tw2618769995894882220:True:=trivial
theorem tw13239561486212430302:True:=trivial
theorem tw148967755743712387:True:=trivial
theorem tw6586777025774559160:True:=trivial
theorem tw18308721406615930362:True:=trivial
theorem tw5587650479455793731:True:=trivial
theorem tw7539625395442671396:True:=trivial
theorem tw7839102417457025170:True:=trivial
theorem tw16624126800504881231:True:=trivial
theorem tw9914156234628538578:True:=trivial
theorem tw10673567059560862573:True:=trivial
theorem tw1554014103431497909:True:=trivial
theorem tw8323944446715864776:True:=trivial
theorem tw8723745770382531693:True:=trivial
theorem tw6639480720386811618:True:=trivial
theorem tw4024318875989126979:True:=trivial
theorem tw10951664177513566837:True:=trivial
theorem tw3246264379010332697:True:=trivial
theorem tw10047908826771094261:True:=trivial
theorem tw16024606879717264822:True:=trivial
theorem tw9639807884553739714:True:=trivial
theorem tw16317841812063969746:True:=trivial
theorem tw10583940610706663941:True:=trivial
theorem tw5688270525866003516:True:=trivial
theorem tw72400799860327249:True:=trivial
theorem tw16647939604831340888:True:=trivial
theorem tw14667366020227190630:True:=trivial
theorem tw168398507444420319:True:=trivial
theorem tw4727995809110971152:True:=trivial
theorem tw7068037009055408507:True:=trivial
theorem tw9395067315619090778:True:=trivial
theorem tw16385421301714887568:True:=trivial
theorem tw3117116681192728277:True:=trivial
theorem tw4578877848785242013:True:=trivial
theorem tw861331378080389124:True:=trivial
theorem tw2063981223317632:True:=trivial
theorem tw15917707970466533808:True:=trivial
theorem tw5422278575632955022:True:=trivial
theorem tw1896039344112418853:True:=trivial
theorem tw15683909147817331936:True:=trivial
theorem tw7003351372277788324:True:=trivial
theorem tw4572009286175017793:True:=trivial
theorem tw1996662837922475476:True:=trivial
theorem tw10439808855786029289:True:=trivial
theorem tw10015728433191136481:True:=trivial
theorem tw274158194019830043:True:=trivial
theorem tw6696265923276794978:True:=trivial
theorem tw9435388644802427249:True:=trivial
theorem tw53591599917904201:True:=trivial
theorem tw7220382865849886935:True:=trivial
theorem tw859737738228694290:True:=trivial
theorem tw9871032952733475662:True:=trivial
theorem tw15889794859510262036:True:=trivial
theorem tw1716004482829120168:True:=trivial
theorem tw832922307435552480:True:=trivial
theorem tw2963848322522632364:True:=trivial
theorem tw6897090940165203076:True:=trivial
theorem tw16823648288586911387:True:=trivial
theorem tw7014165379084691510:True:=trivial
theorem tw4326859889794731762:True:=trivial
theorem tw2211739975933312329:True:=trivial
theorem tw1970956337217170838:True:=trivial
theorem tw4683104304816770355:True:=trivial
theorem tw3660399317766850210:True:=trivial
theorem tw13709098747430683345:True:=trivial
theorem tw3087956172922621618:True:=trivial
theorem tw11432051937391630506:True:=trivial
theorem tw17115905513976793051:True:=trivial
theorem tw18376557446926269962:True:=trivial
theorem tw3203021837208834483:True:=trivial
theorem tw7769903644581710461:True:=trivial
theorem tw5441366127666528526:True:=trivial
theorem tw2747648955786841329:True:=trivial
theorem tw13074328853678619252:True:=trivial
theorem tw2304093752017116740:True:=trivial
theorem tw13735630984684671743:True:=trivial
theorem tw4212195623231509715:True:=trivial
theorem tw14955126388315927030:True:=trivial
theorem tw8495178507527227090:True:=trivial
theorem tw4811364271749992743:True:=trivial
theorem tw305887513595751101:True:=trivial
theorem tw15547801360160546041:True:=trivial
theorem tw511483217756947544:True:=trivial
theorem tw5222259430833498872:True:=trivial
theorem tw3558457621357410673:True:=trivial
theorem tw13254857278535063508:True:=trivial
theorem tw16901289666993975155:True:=trivial
theorem tw14940704657017364654:True:=trivial
theorem tw17933240142776234883:True:=trivial
theorem tw3369017710568339607:True:=trivial
theorem tw3161058819932529366:True:=trivial
theorem tw9722759407861321235:True:=trivial
theorem tw5195528528725461826:True:=trivial
theorem tw6788869368613184623:True:=trivial
theorem tw9484592569066251868:True:=trivial
theorem tw9421510109436391440:True:=trivial
theorem tw7715730465512401466:True:=trivial
theorem tw16116217792415290458:True:=trivial
theorem tw958574980205762002:True:=trivial
theorem tw8710201052639504367:True:=trivial
theorem tw7170843262964067437:True:=trivial
theorem tw1110874841467171540:True:=trivial
theorem tw2538028540216792079:True:=trivial
theorem tw12969293160940007009:True:=trivial
theorem tw17753602429060700622:True:=trivial
theorem tw6174527072272795314:True:=trivial
theorem tw1674235911846559593:True:=trivial
theorem tw748138589155171875:True:=trivial
theorem tw7208053940746891088:True:=trivial
theorem tw1867094159193499670:True:=trivial
theorem tw12732813466033163435:True:=trivial
theorem tw12208609796822665142:True:=trivial
theorem tw6393465017247017104:True:=trivial
theorem tw13992295259636330574:True:=trivial
theorem tw2482625777273150488:True:=trivial
theorem tw4443393239970752373:True:=trivial
theorem tw14481823993214394914:True:=trivial
theorem tw12877065957113617255:True:=trivial
theorem tw3013229056008364077:True:=trivial
theorem tw10987675099148415050:True:=trivial
theorem tw11266132355084067391:True:=trivial
theorem tw17522311708800923162:True:=trivial
theorem tw9370223035499291829:True:=trivial
theorem tw12968601510771958261:True:=trivial
theorem tw2937840090962018793:True:=trivial
theorem tw13249720827490942111:True:=trivial
theorem tw6784959283831101837:True:=trivial
theorem tw13075681584822506588:True:=trivial
theorem tw11015864291422548853:True:=trivial
theorem tw6991196333866832741:True:=trivial
theorem tw6183486152259167519:True:=trivial
theorem tw6213035573366385023:True:=trivial
theorem tw13615029349457298670:True:=trivial
theorem tw8871441303096257817:True:=trivial
theorem tw12840502342873752244:True:=trivial
theorem tw4945726134412730128:True:=trivial
theorem tw6260008349313431965:True:=trivial
theorem tw5996641284201545666:True:=trivial
theorem tw6089795116137387002:True:=trivial
theorem tw12602737557728853284:True:=trivial
theorem tw3617092763865627803:True:=trivial
theorem tw17582604673737442646:True:=trivial
theorem tw9199292671960777252:True:=trivial
theorem tw13181037233192769395:True:=trivial
theorem tw42515673319901345:True:=trivial
theorem tw9278040827487503363:True:=trivial
theorem tw2975209099525711401:True:=trivial
theorem tw17827765808648869208:True:=trivial
theorem tw8791387756029352864:True:=trivial
theorem tw4633011895272038235:True:=trivial
theorem tw13591673798682258979:True:=trivial
theorem tw16877378721269476897:True:=trivial
theorem tw14133333743061083535:True:=trivial
theorem tw13075288183622357121:True:=trivial
theorem tw8241810203263287793:True:=trivial
theorem tw13090097408359663221:True:=trivial
theorem tw3609667467509856032:True:=trivial
theorem tw16571532622117222707:True:=trivial
theorem tw3157647881139318966:True:=trivial
theorem tw8417588588915635378:True:=trivial
theorem tw11852039618296403278:True:=trivial
theorem tw11105681625296940081:True:=trivial
theorem tw6036958006673595522:True:=trivial
theorem tw11411534542119761237:True:=trivial
theorem tw10782189156809385627:True:=trivial
theorem tw9060744486197404795:True:=trivial
theorem tw12955626088808609861:True:=trivial
theorem tw16597060507067278849:True:=trivial
theorem tw7809117253711378521:True:=trivial
theorem tw13633834212357285350:True:=trivial
theorem tw12340986300157854507:True:=trivial
theorem tw5301984861003416898:True:=trivial
theorem tw6149232992290070867:True:=trivial
theorem tw11284887594440756340:True:=trivial
theorem tw10679843837042581547:True:=trivial
theorem tw6424337075794392713:True:=trivial
theorem tw10952119840161600772:True:=trivial
theorem tw9926101355801021203:True:=trivial
theorem tw1143228976000251925:True:=trivial
theorem tw18016182451666772744:True:=trivial
theorem tw14092698004116570868:True:=trivial
theorem tw14993335503139634575:True:=trivial
theorem tw3100641701808306521:True:=trivial
theorem tw9892294278835180597:True:=trivial
theorem tw14120259086876813333:True:=trivial
theorem tw2574989272289000715:True:=trivial
theorem tw1987682863568983640:True:=trivial
theorem tw12126944257875527333:True:=trivial
theorem tw7878730650175434120:True:=trivial
theorem tw17992986557763346106:True:=trivial
theorem tw4576377100353274903:True:=trivial
theorem tw12159796463097366108:True:=trivial
theorem tw1132579387044629102:True:=trivial
theorem tw16350399748764048826:True:=trivial
theorem tw2177170221523634839:True:=trivial
theorem tw3955426206988176869:True:=trivial
theorem tw3424221843936608428:True:=trivial
theorem tw7148951887965931485:True:=trivial
theorem tw17818017704208457994:True:=trivial
theorem tw8904046864537811047:True:=trivial
theorem tw12838987878648057663:True:=trivial
theorem tw13865498124432153951:True:=trivial
theorem tw13631387281988948795:True:=trivial
theorem tw340119362723850549:True:=trivial
theorem tw728195763807348714:True:=trivial
theorem tw9811608200309460713:True:=trivial
theorem tw15646486028745390932:True:=trivial
theorem tw15459611026861289877:True:=trivial
theorem tw14085091928423814688:True:=trivial
theorem tw13960766487775767453:True:=trivial
theorem tw4336348137003890473:True:=trivial
theorem tw3737390171286131934:True:=trivial
theorem tw15260106747336443470:True:=trivial
theorem tw1848668056633752164:True:=trivial
theorem tw15359873647635729217:True:=trivial
theorem tw11441893057723915972:True:=trivial
theorem tw3983343039299963715:True:=trivial
theorem tw11008315787753385614:True:=trivial
theorem tw7541517006127877947:True:=trivial
theorem tw1511610399190587731:True:=trivial
theorem tw11066809396738234530:True:=trivial
theorem tw963292822051603488:True:=trivial
theorem tw12962148341889266161:True:=trivial
theorem tw17750299025954765482:True:=trivial
theorem tw1944136129534580407:True:=trivial
theorem tw16763815954032865069:True:=trivial
theorem tw3607868954851936510:True:=trivial
theorem tw9258217083474547623:True:=trivial
theorem tw11600239356651927371:True:=trivial
theorem tw13243744130518666927:True:=trivial
theorem tw16556821673496298157:True:=trivial
theorem tw15651837606826472020:True:=trivial
theorem tw14872875348001071282:True:=trivial
theorem tw4298507868853048169:True:=trivial
theorem tw14771248431140408015:True:=trivial
theorem tw5252030223728928715:True:=trivial
theorem tw17291520092021357910:True:=trivial
theorem tw5702205128928605783:True:=trivial
theorem tw17045269984326297413:True:=trivial
theorem tw5026451660653730903:True:=trivial
theorem tw16784999038736111905:True:=trivial
theorem tw16212982875900555241:True:=trivial
theorem tw9999280793667213331:True:=trivial
theorem tw18213145854144161690:True:=trivial
theorem tw1688880334778518456:True:=trivial
theorem tw11521654036255712390:True:=trivial
theorem tw9254929350918256174:True:=trivial
theorem tw6465784484929098837:True:=trivial
theorem tw17911754277739458634:True:=trivial
theorem tw12182381695518819668:True:=trivial
theorem tw15478719367808918735:True:=trivial
theorem tw4299731466952591889:True:=trivial
theorem tw7247038038187084434:True:=trivial
theorem tw11768417805633901166:True:=trivial
theorem tw18105285129051167943:True:=trivial
theorem tw301866482260421167:True:=trivial
theorem tw3920150365956208044:True:=trivial
theorem tw2862235941663592779:True:=trivial
theorem tw9695575509636428538:True:=trivial
theorem tw1016071232217999456:True:=trivial
theorem tw1845507524995327433:True:=trivial
theorem tw15378971541309117467:True:=trivial
theorem tw15724125589021119707:True:=trivial
theorem tw9506935755714758417:True:=trivial
theorem tw228040661066150545:True:=trivial
theorem tw250184516121629833:True:=trivial
theorem tw15937976486749930857:True:=trivial
theorem tw15721919084951560270:True:=trivial
theorem tw5094418081179965098:True:=trivial
theorem tw11540737118020880964:True:=trivial
theorem tw7124984907557613992:True:=trivial
theorem tw16558239294484628601:True:=trivial
theorem tw15836229250973929680:True:=trivial
theorem tw6613804905107741872:True:=trivial
theorem tw5703609573005632549:True:=trivial
theorem tw7453388854885596569:True:=trivial
theorem tw15159685160607966842:True:=trivial
theorem tw10653854358234294391:True:=trivial
theorem tw6431037364308735304:True:=trivial
theorem tw6587373538327396456:True:=trivial
theorem tw10633960225596902811:True:=trivial
theorem tw5214966777139161214:True:=trivial
theorem tw8471823717229924793:True:=trivial
theorem tw14126868373469984829:True:=trivial
theorem tw3595600798360277282:True:=trivial
theorem tw13679540803779159316:True:=trivial
theorem tw7018723278571774536:True:=trivial
theorem tw13508137741594448968:True:=trivial
theorem tw2291989799760879536:True:=trivial
theorem tw13473110655957908849:True:=trivial
theorem tw1114791890716914749:True:=trivial
theorem tw6531983942551590250:True:=trivial
theorem tw1649189945776154796:True:=trivial
theorem tw15213059917718373273:True:=trivial
theorem tw7803424576163286404:True:=trivial
theorem tw4480046008831874729:True:=trivial
theorem tw3301703799898427879:True:=trivial
theorem tw4314748201507580115:True:=trivial
theorem tw1529502826245223690:True:=trivial
theorem tw10618690286809904160:True:=trivial
theorem tw18310159315610449998:True:=trivial
theorem tw11454495509163887275:True:=trivial
theorem tw11934850657590301390:True:=trivial
theorem tw2793196825255086255:True:=trivial
theorem tw3057211205259936805:True:=trivial
end PySem.W.Fast
def PySem.W.Fast.tw16608211685352621877 : PySem.Program := PySem.Challenge.pw_ballastbook_k44_winds_and_shuttings_told
theorem PySem.W.Fast.te16608211685352621877 : PySem.Challenge.pw_ballastbook_k44_winds_and_shuttings_told = PySem.W.Fast.tw16608211685352621877 := rfl
set_option maxRecDepth 100000 in
set_option maxHeartbeats 0 in
theorem PySem.Challenge.cw_ballastbook_k44_winds_and_shuttings_told_holds : PySem.Challenge.rw_ballastbook_k44_winds_and_shuttings_told.Holds := by
 w_on;o_law;k_head;(case hw=>w_witness2)
 k_fill
 refine Lw.walk (l:=PySem.Challenge.rw_ballastbook_k44_winds_and_shuttings_told) rfl rfl rfl (λw h Y=>PySem.W.kIn_of Y) Lw.worth ?F
 case F=>
  intro w mg h KX G;refine' Lw.yD ?h0 ?h1 ?h2 ?h3 ?h4 ?h5 ?h6 ?h7 ?h8 ?h9 ?h10 ?h11 ?h12 ?h13 ?h14 ?h15 ?h16 ?h17 ?h18 ?h19 ?h20 ?h21 ?h22 ?h23 ?h24 ?h25 ?h26 ?h27 ?h28 ?h29 ?h30 ?h31 ?h32 ?h33 ?h34 ?h35 ?h36 ?h37 ?h38 ?h39 ?h40 ?h41 ?h42 ?h43 ?h44 ?h45 ?h46 ?h47 ?h48 ?h49 ?h50 ?h51 ?h52 ?h53 ?h54 ?h55 ?h56 ?h57 ?h58 ?h59 ?h60 ?h61 ?h62 ?h63 ?h64 ?h65 ?h66 ?h67 ?h68 ?h69 ?h70 ?h71 ?h72 ?h73 ?h74 ?h75
  case h0=>
   refine' Lw.z_ KX G ?h76 ?h77 ?h78 ?h79 ?h80 ?h81 ?h82 ?h83 ?h84 ?h85 ?h86 ?h87 ?h88 ?h89 ?h90 ?h91 ?h92 ?h93 ?h94 ?h95
   (case h76=>k_is)
   (case h77=>k_is)
   (case h78=>k_is)
   (case h79=>k_is)
   (case h80=>k_is)
   (case h81=>k_is)
   (case h82=>k_is)
   (case h83=>k_is)
   (case h84=>k_is)
   (case h85=>k_is)
   (case h86=>k_is)
   (case h87=>k_is)
   (case h88=>k_is)
   (case h89=>k_is)
   (case h90=>k_is)
   (case h91=>k_is)
   (case h92=>k_is)
   (case h93=>k_is)
   (case h94=>k_is)
   (case h95=>k_is)
  case h1=>
   refine' PySem.W.mg_none_of KX G ?h96
   (case h96=>k_is)
  case h2=>
   refine' PySem.W.mg_of KX G ?h97
   (case h97=>k_is)
  case h3=>
   refine' PySem.W.mg_of KX G ?h98
   (case h98=>k_is)
  case h40=>
   refine' PySem.W.mg_of KX G ?h99
   (case h99=>k_is)
  case h42=>
   refine' PySem.W.mg_of KX G ?h100
   (case h100=>k_is)
  (case h4=>k_is)
  (case h5=>k_is)
  case h6=>
   refine' Lw.AJ ?h101 ?h102 ?h103 ?h104 ?h105 ?h106 ?h107 ?h108 ?h109 ?h110 ?h111 ?h112
   (case h101=>k_is)
   (case h102=>k_is)
   (case h103=>k_is)
   (case h104=>k_is)
   (case h105=>k_is)
   (case h106=>k_is)
   (case h107=>k_is)
   (case h108=>k_is)
   (case h109=>k_is)
   (case h110=>k_is)
   (case h111=>k_is)
   (case h112=>k_is)
  (case h7=>k_is)
  (case h8=>k_is)
  case h9=>
   refine' Lw.iR ?h113 ?h114 ?h115 ?h116 ?h117
   (case h113=>k_is)
   (case h114=>k_is)
   (case h115=>k_is)
   (case h116=>k_is)
   case h117=>intro _ _ _ _ _ _;exact Dn.zL λ_ _ _=>rfl
  case h10=>
   refine' Lw.iR ?h118 ?h119 ?h120 ?h121 ?h122
   (case h118=>k_is)
   (case h119=>k_is)
   (case h120=>k_is)
   (case h121=>k_is)
   case h122=>intro _ _ _ _ _ _;exact Dn.sL λ_=>rfl
  case h11=>
   refine' Lw.iR ?h123 ?h124 ?h125 ?h126 ?h127
   (case h123=>k_is)
   (case h124=>k_is)
   (case h125=>k_is)
   (case h126=>k_is)
   case h127=>intro _ _ _ _ _ _;exact Dn.wj λ_ _=>rfl
  case h12=>
   refine' Lw.iR ?h128 ?h129 ?h130 ?h131 ?h132
   (case h128=>k_is)
   (case h129=>k_is)
   (case h130=>k_is)
   (case h131=>k_is)
   case h132=>intro _ _ _ _ _ _;exact Dn.Bl λ_ _ _ _ _=>rfl
  case h13=>
   refine' Lw.iR ?h133 ?h134 ?h135 ?h136 ?h137
   (case h133=>k_is)
   (case h134=>k_is)
   (case h135=>k_is)
   (case h136=>k_is)
   case h137=>intro _ _ _ _ _ _;exact Dn.zN λ_ _ _ _=>rfl
  case h14=>
   refine' Lw.iR ?h138 ?h139 ?h140 ?h141 ?h142
   (case h138=>k_is)
   (case h139=>k_is)
   (case h140=>k_is)
   (case h141=>k_is)
   case h142=>intro _ _ _ _ _ _;exact Dn.wj λ_ _=>rfl
  case h15=>
   refine' Lw.iR ?h143 ?h144 ?h145 ?h146 ?h147
   (case h143=>k_is)
   (case h144=>k_is)
   (case h145=>k_is)
   (case h146=>k_is)
   case h147=>intro _ _ _ _ _ _;exact Dn.wj λ_ _=>rfl
  case h16=>
   refine' Lw.iR ?h148 ?h149 ?h150 ?h151 ?h152
   (case h148=>k_is)
   (case h149=>k_is)
   (case h150=>k_is)
   (case h151=>k_is)
   case h152=>intro _ _ _ _ _ _;exact Dn.sL λ_=>rfl
  case h17=>
   refine' Lw.iR ?h153 ?h154 ?h155 ?h156 ?h157
   (case h153=>k_is)
   (case h154=>k_is)
   (case h155=>k_is)
   (case h156=>k_is)
   case h157=>intro _ _ _ _ _ _;exact Dn.sL λ_=>rfl
  case h18=>
   refine' Lw.iR ?h158 ?h159 ?h160 ?h161 ?h162
   (case h158=>k_is)
   (case h159=>k_is)
   (case h160=>k_is)
   (case h161=>k_is)
   case h162=>intro _ _ _ _ _ _;exact Dn.sL λ_=>rfl
  case h19=>
   refine' Lw.iR ?h163 ?h164 ?h165 ?h166 ?h167
   (case h163=>k_is)
   (case h164=>k_is)
   (case h165=>k_is)
   (case h166=>k_is)
   case h167=>intro _ _ _ _ _ _;exact Dn.sL λ_=>rfl
  case h20=>
   refine' Dn.bQ (st:=Dn.mth (Lw.top 14)) (qual:="BookError.__init__") KX G rfl ?h168 ⟨rfl,rfl,rfl,by decide +kernel,rfl,by decide +kernel,by decide +kernel⟩ rfl rfl ?h169 ?h170 Lw.hb1 Lw.rf1 ?h171 ?h172 ?h173 ?h174 ?h175 ?h176 ?h177
   (case h169=>k_is)
   (case h170=>k_is)
   (case h171=>k_is)
   (case h172=>k_is)
   (case h173=>k_is)
   (case h174=>k_is)
   (case h175=>k_is)
   (case h176=>k_is)
   (case h177=>k_is)
   case h168=>intro _ _ _ _ _ _ _ _ hh;exact PySem.BindsTo.of_defaults rfl hh rfl rfl rfl
  case h21=>
   refine' Lw.cC ?h178 ?h179 ?h180 ?h181
   case h178=>
    refine' Dn.bQ (st:=Dn.mth (Lw.top 15)) (qual:="BadName.__init__") KX G rfl ?h182 ⟨rfl,rfl,rfl,by decide +kernel,rfl,by decide +kernel,by decide +kernel⟩ rfl rfl ?h183 ?h184 Lw.hb2 Lw.rf2 ?h185 ?h186 ?h187 ?h188 ?h189 ?h190 ?h191
    (case h183=>k_is)
    (case h184=>k_is)
    (case h185=>k_is)
    (case h186=>k_is)
    (case h187=>k_is)
    (case h188=>k_is)
    (case h189=>k_is)
    (case h190=>k_is)
    (case h191=>k_is)
    case h182=>intro _ _ _ _ _ _ _ _ hh;exact PySem.BindsTo.of_defaults rfl hh rfl rfl rfl
   (case h179=>k_is)
   (case h180=>k_is)
   (case h181=>k_is)
  case h22=>
   refine' Lw.cC ?h192 ?h193 ?h194 ?h195
   case h192=>
    refine' Dn.bQ (st:=Dn.mth (Lw.top 16)) (qual:="Taken.__init__") KX G rfl ?h196 ⟨rfl,rfl,rfl,by decide +kernel,rfl,by decide +kernel,by decide +kernel⟩ rfl rfl ?h197 ?h198 Lw.hb2 Lw.rf2 ?h199 ?h200 ?h201 ?h202 ?h203 ?h204 ?h205
    (case h197=>k_is)
    (case h198=>k_is)
    (case h199=>k_is)
    (case h200=>k_is)
    (case h201=>k_is)
    (case h202=>k_is)
    (case h203=>k_is)
    (case h204=>k_is)
    (case h205=>k_is)
    case h196=>intro _ _ _ _ _ _ _ _ hh;exact PySem.BindsTo.of_defaults rfl hh rfl rfl rfl
   (case h193=>k_is)
   (case h194=>k_is)
   (case h195=>k_is)
  case h23=>
   refine' Lw.cC ?h206 ?h207 ?h208 ?h209
   case h206=>
    refine' Dn.bQ (st:=Dn.mth (Lw.top 17)) (qual:="NoBalloon.__init__") KX G rfl ?h210 ⟨rfl,rfl,rfl,by decide +kernel,rfl,by decide +kernel,by decide +kernel⟩ rfl rfl ?h211 ?h212 Lw.hb2 Lw.rf2 ?h213 ?h214 ?h215 ?h216 ?h217 ?h218 ?h219
    (case h211=>k_is)
    (case h212=>k_is)
    (case h213=>k_is)
    (case h214=>k_is)
    (case h215=>k_is)
    (case h216=>k_is)
    (case h217=>k_is)
    (case h218=>k_is)
    (case h219=>k_is)
    case h210=>intro _ _ _ _ _ _ _ _ hh;exact PySem.BindsTo.of_defaults rfl hh rfl rfl rfl
   (case h207=>k_is)
   (case h208=>k_is)
   (case h209=>k_is)
  case h24=>
   refine' Lw.cC ?h220 ?h221 ?h222 ?h223
   case h220=>
    refine' Dn.bQ (st:=Dn.mth (Lw.top 18)) (qual:="BadHour.__init__") KX G rfl ?h224 ⟨rfl,rfl,rfl,by decide +kernel,rfl,by decide +kernel,by decide +kernel⟩ rfl rfl ?h225 ?h226 Lw.hb2 Lw.rf2 ?h227 ?h228 ?h229 ?h230 ?h231 ?h232 ?h233
    (case h225=>k_is)
    (case h226=>k_is)
    (case h227=>k_is)
    (case h228=>k_is)
    (case h229=>k_is)
    (case h230=>k_is)
    (case h231=>k_is)
    (case h232=>k_is)
    (case h233=>k_is)
    case h224=>intro _ _ _ _ _ _ _ _ hh;exact PySem.BindsTo.of_defaults rfl hh rfl rfl rfl
   (case h221=>k_is)
   (case h222=>k_is)
   (case h223=>k_is)
  case h25=>
   refine' Lw.cC ?h234 ?h235 ?h236 ?h237
   case h234=>
    refine' Dn.bQ (st:=Dn.mth (Lw.top 19)) (qual:="Past.__init__") KX G rfl ?h238 ⟨rfl,rfl,rfl,by decide +kernel,rfl,by decide +kernel,by decide +kernel⟩ rfl rfl ?h239 ?h240 Lw.hb2 Lw.rf2 ?h241 ?h242 ?h243 ?h244 ?h245 ?h246 ?h247
    (case h239=>k_is)
    (case h240=>k_is)
    (case h241=>k_is)
    (case h242=>k_is)
    (case h243=>k_is)
    (case h244=>k_is)
    (case h245=>k_is)
    (case h246=>k_is)
    (case h247=>k_is)
    case h238=>intro _ _ _ _ _ _ _ _ hh;exact PySem.BindsTo.of_defaults rfl hh rfl rfl rfl
   (case h235=>k_is)
   (case h236=>k_is)
   (case h237=>k_is)
  case h26=>
   refine' Lw.cC ?h248 ?h249 ?h250 ?h251
   case h248=>
    refine' Dn.bQ (st:=Dn.mth (Lw.top 20)) (qual:="Late.__init__") KX G rfl ?h252 ⟨rfl,rfl,rfl,by decide +kernel,rfl,by decide +kernel,by decide +kernel⟩ rfl rfl ?h253 ?h254 Lw.hb2 Lw.rf2 ?h255 ?h256 ?h257 ?h258 ?h259 ?h260 ?h261
    (case h253=>k_is)
    (case h254=>k_is)
    (case h255=>k_is)
    (case h256=>k_is)
    (case h257=>k_is)
    (case h258=>k_is)
    (case h259=>k_is)
    (case h260=>k_is)
    (case h261=>k_is)
    case h252=>intro _ _ _ _ _ _ _ _ hh;exact PySem.BindsTo.of_defaults rfl hh rfl rfl rfl
   (case h249=>k_is)
   (case h250=>k_is)
   (case h251=>k_is)
  case h27=>
   refine' Lw.cC ?h262 ?h263 ?h264 ?h265
   case h262=>
    refine' Dn.bQ (st:=Dn.mth (Lw.top 21)) (qual:="BadPlace.__init__") KX G rfl ?h266 ⟨rfl,rfl,rfl,by decide +kernel,rfl,by decide +kernel,by decide +kernel⟩ rfl rfl ?h267 ?h268 Lw.hb2 Lw.rf2 ?h269 ?h270 ?h271 ?h272 ?h273 ?h274 ?h275
    (case h267=>k_is)
    (case h268=>k_is)
    (case h269=>k_is)
    (case h270=>k_is)
    (case h271=>k_is)
    (case h272=>k_is)
    (case h273=>k_is)
    (case h274=>k_is)
    (case h275=>k_is)
    case h266=>intro _ _ _ _ _ _ _ _ hh;exact PySem.BindsTo.of_defaults rfl hh rfl rfl rfl
   (case h263=>k_is)
   (case h264=>k_is)
   (case h265=>k_is)
  case h28=>
   refine' Lw.cC ?h276 ?h277 ?h278 ?h279
   case h276=>
    refine' Dn.bQ (st:=Dn.mth (Lw.top 22)) (qual:="BadHeight.__init__") KX G rfl ?h280 ⟨rfl,rfl,rfl,by decide +kernel,rfl,by decide +kernel,by decide +kernel⟩ rfl rfl ?h281 ?h282 Lw.hb2 Lw.rf2 ?h283 ?h284 ?h285 ?h286 ?h287 ?h288 ?h289
    (case h281=>k_is)
    (case h282=>k_is)
    (case h283=>k_is)
    (case h284=>k_is)
    (case h285=>k_is)
    (case h286=>k_is)
    (case h287=>k_is)
    (case h288=>k_is)
    (case h289=>k_is)
    case h280=>intro _ _ _ _ _ _ _ _ hh;exact PySem.BindsTo.of_defaults rfl hh rfl rfl rfl
   (case h277=>k_is)
   (case h278=>k_is)
   (case h279=>k_is)
  case h29=>
   refine' Lw.cC ?h290 ?h291 ?h292 ?h293
   case h290=>
    refine' Dn.bQ (st:=Dn.mth (Lw.top 23)) (qual:="BadLoad.__init__") KX G rfl ?h294 ⟨rfl,rfl,rfl,by decide +kernel,rfl,by decide +kernel,by decide +kernel⟩ rfl rfl ?h295 ?h296 Lw.hb2 Lw.rf2 ?h297 ?h298 ?h299 ?h300 ?h301 ?h302 ?h303
    (case h295=>k_is)
    (case h296=>k_is)
    (case h297=>k_is)
    (case h298=>k_is)
    (case h299=>k_is)
    (case h300=>k_is)
    (case h301=>k_is)
    (case h302=>k_is)
    (case h303=>k_is)
    case h294=>intro _ _ _ _ _ _ _ _ hh;exact PySem.BindsTo.of_defaults rfl hh rfl rfl rfl
   (case h291=>k_is)
   (case h292=>k_is)
   (case h293=>k_is)
  case h30=>
   refine' Lw.cC ?h304 ?h305 ?h306 ?h307
   case h304=>
    refine' Dn.bQ (st:=Dn.mth (Lw.top 24)) (qual:="BadWind.__init__") KX G rfl ?h308 ⟨rfl,rfl,rfl,by decide +kernel,rfl,by decide +kernel,by decide +kernel⟩ rfl rfl ?h309 ?h310 Lw.hb2 Lw.rf2 ?h311 ?h312 ?h313 ?h314 ?h315 ?h316 ?h317
    (case h309=>k_is)
    (case h310=>k_is)
    (case h311=>k_is)
    (case h312=>k_is)
    (case h313=>k_is)
    (case h314=>k_is)
    (case h315=>k_is)
    (case h316=>k_is)
    (case h317=>k_is)
    case h308=>intro _ _ _ _ _ _ _ _ hh;exact PySem.BindsTo.of_defaults rfl hh rfl rfl rfl
   (case h305=>k_is)
   (case h306=>k_is)
   (case h307=>k_is)
  case h31=>
   refine' Lw.cC ?h318 ?h319 ?h320 ?h321
   case h318=>
    refine' Dn.bQ (st:=Dn.mth (Lw.top 25)) (qual:="BadBox.__init__") KX G rfl ?h322 ⟨rfl,rfl,rfl,by decide +kernel,rfl,by decide +kernel,by decide +kernel⟩ rfl rfl ?h323 ?h324 Lw.hb2 Lw.rf2 ?h325 ?h326 ?h327 ?h328 ?h329 ?h330 ?h331
    (case h323=>k_is)
    (case h324=>k_is)
    (case h325=>k_is)
    (case h326=>k_is)
    (case h327=>k_is)
    (case h328=>k_is)
    (case h329=>k_is)
    (case h330=>k_is)
    (case h331=>k_is)
    case h322=>intro _ _ _ _ _ _ _ _ hh;exact PySem.BindsTo.of_defaults rfl hh rfl rfl rfl
   (case h319=>k_is)
   (case h320=>k_is)
   (case h321=>k_is)
  case h32=>
   refine' Lw.cC ?h332 ?h333 ?h334 ?h335
   case h332=>
    refine' Dn.bQ (st:=Dn.mth (Lw.top 26)) (qual:="BadOrder.__init__") KX G rfl ?h336 ⟨rfl,rfl,rfl,by decide +kernel,rfl,by decide +kernel,by decide +kernel⟩ rfl rfl ?h337 ?h338 Lw.hb2 Lw.rf2 ?h339 ?h340 ?h341 ?h342 ?h343 ?h344 ?h345
    (case h337=>k_is)
    (case h338=>k_is)
    (case h339=>k_is)
    (case h340=>k_is)
    (case h341=>k_is)
    (case h342=>k_is)
    (case h343=>k_is)
    (case h344=>k_is)
    (case h345=>k_is)
    case h336=>intro _ _ _ _ _ _ _ _ hh;exact PySem.BindsTo.of_defaults rfl hh rfl rfl rfl
   (case h333=>k_is)
   (case h334=>k_is)
   (case h335=>k_is)
  case h33=>
   refine' Lw.cC ?h346 ?h347 ?h348 ?h349
   case h346=>
    refine' Dn.bQ (st:=Dn.mth (Lw.top 27)) (qual:="Twice.__init__") KX G rfl ?h350 ⟨rfl,rfl,rfl,by decide +kernel,rfl,by decide +kernel,by decide +kernel⟩ rfl rfl ?h351 ?h352 Lw.hb2 Lw.rf2 ?h353 ?h354 ?h355 ?h356 ?h357 ?h358 ?h359
    (case h351=>k_is)
    (case h352=>k_is)
    (case h353=>k_is)
    (case h354=>k_is)
    (case h355=>k_is)
    (case h356=>k_is)
    (case h357=>k_is)
    (case h358=>k_is)
    (case h359=>k_is)
    case h350=>intro _ _ _ _ _ _ _ _ hh;exact PySem.BindsTo.of_defaults rfl hh rfl rfl rfl
   (case h347=>k_is)
   (case h348=>k_is)
   (case h349=>k_is)
  case h34=>
   refine' Lw.cC ?h360 ?h361 ?h362 ?h363
   case h360=>
    refine' Dn.bQ (st:=Dn.mth (Lw.top 28)) (qual:="NotAloft.__init__") KX G rfl ?h364 ⟨rfl,rfl,rfl,by decide +kernel,rfl,by decide +kernel,by decide +kernel⟩ rfl rfl ?h365 ?h366 Lw.hb2 Lw.rf2 ?h367 ?h368 ?h369 ?h370 ?h371 ?h372 ?h373
    (case h365=>k_is)
    (case h366=>k_is)
    (case h367=>k_is)
    (case h368=>k_is)
    (case h369=>k_is)
    (case h370=>k_is)
    (case h371=>k_is)
    (case h372=>k_is)
    (case h373=>k_is)
    case h364=>intro _ _ _ _ _ _ _ _ hh;exact PySem.BindsTo.of_defaults rfl hh rfl rfl rfl
   (case h361=>k_is)
   (case h362=>k_is)
   (case h363=>k_is)
  case h35=>
   refine' Lw.cC ?h374 ?h375 ?h376 ?h377
   case h374=>
    refine' Dn.bQ (st:=Dn.mth (Lw.top 29)) (qual:="NotLost.__init__") KX G rfl ?h378 ⟨rfl,rfl,rfl,by decide +kernel,rfl,by decide +kernel,by decide +kernel⟩ rfl rfl ?h379 ?h380 Lw.hb2 Lw.rf2 ?h381 ?h382 ?h383 ?h384 ?h385 ?h386 ?h387
    (case h379=>k_is)
    (case h380=>k_is)
    (case h381=>k_is)
    (case h382=>k_is)
    (case h383=>k_is)
    (case h384=>k_is)
    (case h385=>k_is)
    (case h386=>k_is)
    (case h387=>k_is)
    case h378=>intro _ _ _ _ _ _ _ _ hh;exact PySem.BindsTo.of_defaults rfl hh rfl rfl rfl
   (case h375=>k_is)
   (case h376=>k_is)
   (case h377=>k_is)
  case h36=>
   refine' Lw.cC ?h388 ?h389 ?h390 ?h391
   case h388=>
    refine' Dn.bQ (st:=Dn.mth (Lw.top 30)) (qual:="NotLow.__init__") KX G rfl ?h392 ⟨rfl,rfl,rfl,by decide +kernel,rfl,by decide +kernel,by decide +kernel⟩ rfl rfl ?h393 ?h394 Lw.hb2 Lw.rf2 ?h395 ?h396 ?h397 ?h398 ?h399 ?h400 ?h401
    (case h393=>k_is)
    (case h394=>k_is)
    (case h395=>k_is)
    (case h396=>k_is)
    (case h397=>k_is)
    (case h398=>k_is)
    (case h399=>k_is)
    (case h400=>k_is)
    (case h401=>k_is)
    case h392=>intro _ _ _ _ _ _ _ _ hh;exact PySem.BindsTo.of_defaults rfl hh rfl rfl rfl
   (case h389=>k_is)
   (case h390=>k_is)
   (case h391=>k_is)
  case h37=>
   refine' Lw.cC ?h402 ?h403 ?h404 ?h405
   case h402=>
    refine' Dn.bQ (st:=Dn.mth (Lw.top 31)) (qual:="OutOfSight.__init__") KX G rfl ?h406 ⟨rfl,rfl,rfl,by decide +kernel,rfl,by decide +kernel,by decide +kernel⟩ rfl rfl ?h407 ?h408 Lw.hb2 Lw.rf2 ?h409 ?h410 ?h411 ?h412 ?h413 ?h414 ?h415
    (case h407=>k_is)
    (case h408=>k_is)
    (case h409=>k_is)
    (case h410=>k_is)
    (case h411=>k_is)
    (case h412=>k_is)
    (case h413=>k_is)
    (case h414=>k_is)
    (case h415=>k_is)
    case h406=>intro _ _ _ _ _ _ _ _ hh;exact PySem.BindsTo.of_defaults rfl hh rfl rfl rfl
   (case h403=>k_is)
   (case h404=>k_is)
   (case h405=>k_is)
  case h38=>
   refine' Lw.cC ?h416 ?h417 ?h418 ?h419
   case h416=>
    refine' Dn.bQ (st:=Dn.mth (Lw.top 32)) (qual:="NoHold.__init__") KX G rfl ?h420 ⟨rfl,rfl,rfl,by decide +kernel,rfl,by decide +kernel,by decide +kernel⟩ rfl rfl ?h421 ?h422 Lw.hb2 Lw.rf2 ?h423 ?h424 ?h425 ?h426 ?h427 ?h428 ?h429
    (case h421=>k_is)
    (case h422=>k_is)
    (case h423=>k_is)
    (case h424=>k_is)
    (case h425=>k_is)
    (case h426=>k_is)
    (case h427=>k_is)
    (case h428=>k_is)
    (case h429=>k_is)
    case h420=>intro _ _ _ _ _ _ _ _ hh;exact PySem.BindsTo.of_defaults rfl hh rfl rfl rfl
   (case h417=>k_is)
   (case h418=>k_is)
   (case h419=>k_is)
  case h39=>
   refine' Lw.cC ?h430 ?h431 ?h432 ?h433
   case h430=>
    refine' Dn.bQ (st:=Dn.mth (Lw.top 33)) (qual:="Full.__init__") KX G rfl ?h434 ⟨rfl,rfl,rfl,by decide +kernel,rfl,by decide +kernel,by decide +kernel⟩ rfl rfl ?h435 ?h436 Lw.hb2 Lw.rf2 ?h437 ?h438 ?h439 ?h440 ?h441 ?h442 ?h443
    (case h435=>k_is)
    (case h436=>k_is)
    (case h437=>k_is)
    (case h438=>k_is)
    (case h439=>k_is)
    (case h440=>k_is)
    (case h441=>k_is)
    (case h442=>k_is)
    (case h443=>k_is)
    case h434=>intro _ _ _ _ _ _ _ _ hh;exact PySem.BindsTo.of_defaults rfl hh rfl rfl rfl
   (case h431=>k_is)
   (case h432=>k_is)
   (case h433=>k_is)
  case h41=>
   refine' Lw.xt ?h444
   (case h444=>k_is)
  case h43=>
   refine' Lw.xt ?h445
   (case h445=>k_is)
  case h44=>decide
  case h45=>decide
  case h46=>decide
  all_goals
   apply Dn.zR KX G
   k_is
   k_is
   k_is
   k_is
   intro _ _ _ _ _ _
   first | exact Dn.sL λ_=>rfl | exact Dn.wj λ_ _=>rfl | exact Dn.zL λ_ _ _=>rfl | exact Dn.zN λ_ _ _ _=>rfl
#print axioms PySem.Challenge.cw_ballastbook_k44_winds_and_shuttings_told_holds
