import PyProof.Rows.All
import Wide.All
import OpenK.AllK
import Wide.FinOn
import Lean
import PyProof.EqAt
import PyProof.EqKinds
import PyProof.TupleCall
import PyProof.NeKinds
import PyProof.ListRange
import PySem.Challenge.RW_ballastbook_k24_needs_where_all_hours_ar
set_option Elab.async false
set_option linter.all false
set_option maxRecDepth 100000
set_option maxHeartbeats 4100000
open PySem renaming wpAny_bind → zn, Value → vv, Shared → v6, wpAny_pure → wn, wpAny → wE, starEach → uk, model → Qa, Program → Qs, sizeLine → Qt, Around → Qy, mainGlobals → Qz, World → QC, compareOp → QD, wpAny_newObj_type → QG, wpAny_holding → QJ, wpAny_mono → QP, assignEach → QU, wpAny_field → Q2, wpAny_call_entry → Q3, FuncData → Q5, backTo → Q7, wpAny_setField_rec → Q8, wpAny_callSpecial?_slot → Ji, Paired → Jk, wpAny_seqItems → Jo, DictEntry → Jp, binaryOp → Jr, mem_of_lookup → Js, sysModules → Ju, IsPair → Jz, Spec → JA, wpAny_truthy_bool → JD, cLine → JG, foldedSetIterable → JV, wpAny_standAt → JX, atKey → JY, keywordEach → J8, bootBuiltins → Zc, codeAny → Zf, behindInMarks → Zi, assign → Zu, attributeBase → Zz, Builtin → ZA, swapsWith → ZB, wpAny_letGo → ZF, wpAny_isOneOf_itemiter → ZG, wpAny_dictEntries → ZJ, firstArgMember → ZM, wpAny_rule → ZQ, sliceBounds → ZX, letOwnedTupleGo → Z5, wpAny_passesOwn → Z6, codeAny_builtin → Z7, wpAny_Call_Name_kw → Z9
open PySem.W renaming Frag → v0, mg_none_of → QT, nsIn → Q1, fnOf → JI, kia_one → Zg, keepIn → Zs
open PySem.Heap renaming get?_push_of_some → wf, lt_size → Qb, get?_push_size → Qf, SameBut → Q9, get?_update_other → JJ, size_push → J1, get?_update_self → Zh, get?_update_ne → Z0
open Nat renaming le_refl → wp, ne_of_lt → Qu, lt_of_lt_of_le → Qw, zero_le → QA, le_trans → QO, le_of_lt → QZ, zero_add → Ja, lt_trans → Jc, lt_irrefl → Jl, le_of_not_lt → JM, add_sub_cancel_left → JZ, lt_of_le_of_lt → Zd, succ_le_succ → Zx, add_lt_add_left → Z2, add_le_add_left → Z3
open Bool renaming false_ne_true → ww, not_eq_true' → JW, eq_iff_iff → Ze, false_eq_true → ZE, and_eq_true → ZR
open PyProof.Rows renaming Keyed → wP, arrOf → wS, wpS_bind → wT, wpS_pure → Qd, SortSt → QB, pendingOf → QN, kindOf → Q0, wpS_forRange → Q4, failedOf → Jb, callWith_type1 → Jh, wpS_mono → JF, IntsAre → J0, SortKind → J6, mirror → Zy, wpS_modify → ZU, listUpdate_at → ZW
open List renaming mem_singleton → xz, mem_cons → ut, getElem?_set → Qc, map_cons → Qe, length_map → Qg, mem_cons_self → Qh, getElem?_eq_some_iff → Qi, mem_cons_of_mem → Qj, append_assoc → Qk, mem_append_right → Ql, getElem?_map → Qm, mem_append → Qn, mem_map → Qo, pairwise_append → Qp, length_append → Qr, length_cons → Qv, size_toArray → Qx, getElem?_append_right → QE, range → QF, length_take → QI, take_append_drop → QL, mem_filter → QM, toArray → QS, append_nil → QW, getElem?_append_left → QX, drop_eq_getElem_cons → Q6, all_eq_true → Jd, mem_range → Je, length_set → Jf, map_append → Jg, mem_of_getElem? → Jj, map_map → Jm, ext_getElem? → Jq, nodup_cons → Jv, length_replicate → Jw, length_drop → Jx, getElem?_replicate → JC, find?_cons → JH, getD_eq_getElem?_getD → JL, drop_length → JN, pairwise_cons → JO, length_filter_le → JP, getElem?_take → JQ, getElem?_modify → JS, getElem?_of_mem → JT, mem_iff_getElem → JU, not_mem_nil → J3, filter_cons → J4, mem_reverse → J5, mem_flatMap → J7, take_of_length_le → Za, pairwise_iff_getElem → Zo, reverse_reverse → Zq, mem_of_mem_drop → Zr, nodup_nil → Zt, flatten_singleton → ZH, reverse_cons → ZI, nodup_append → ZK, length_range → ZL, pairwise_reverse → ZO, mem_append_left → ZP, getElem_mem → ZT, all_cons → ZV, length_reverse → ZZ, reverse_append → Z1, flatten_append → Z4, foldl_cons → Z8, getElem_range → Ka, getElem?_drop → Kc
open Array renaming length_toList → Qq, getElem?_toList → QK, toList_append → QV, getElem?_eq_none → JK, perm_iff_toList_perm → Zk, toList_push → Zl, getElem?_eq_getElem → Zp
open PySem.Value renaming ref → QH, none → QR
open PySem.Builtin.SmallTypes renaming nextOf → QQ, ownedTupleIsFree → JB
open PySem.PassesOwn renaming never → QY
open PySem.Heap.SameBut renaming update → Jt
open Or renaming inr → Jy
open Int renaming toNat_natCast → JE, le_refl → ZY
open False renaming elim → JR
open PySem.F renaming plain_max_loop → J2, slot_tuple_iterator_next → Zj
open PyProof.Rows.SortSt renaming mk' → Zb
open PySem.Builtin.Slice renaming slicePlaces → Zm
open PySem.Around renaming under_plainId → Zn
open PySem.Str renaming ofString → Zv
open PySem.Builtin.Tuple renaming tupleExact → Zw
open PySem.Obj renaming mapSeq → ZC, data_mapFields → Kb
open ForInStep renaming yield → ZD
open PySem.Builtin.Dict renaming showsAll → ZN
open PySem.SeqAt renaming EqAt → ZS
namespace L2
open PySem PySem.Spec PyProof.Rows
abbrev Key:=Sum Int Str
def yn:Key->vv->Bool
 |.inl k,v=>Value.isInt k v
 |.inr x,v=>Value.isStrOf x v
def BB(w:QC):Key->Int
 |.inl k=>hashInt k
 |.inr x=>hashStr w x
theorem bh:∀{k:Key} {v:vv},yn k v=true->(∃i t,k=Sum.inl i/\v=Value.int i t)\/(∃x t,k=Sum.inr x/\v=Value.str x t)
 |.inl i,v,h=>by
  obtain⟨t,e⟩:=Value.isInt_shape (k:=i) (v:=v) h;exact .inl ⟨i,t,rfl,e⟩
 |.inr x,v,h=>by
  obtain⟨t,e⟩:=Value.isStrOf_shape (x:=x) (v:=v) h;exact .inr ⟨x,t,rfl,e⟩
theorem zd(a b:Int):decide ((Sum.inl a:Key)=Sum.inl b)=(a==b):=by
 by_cases e:a=b
 ·subst e;simp
 ·have h:¬ (Sum.inl a:Key)=Sum.inl b:=λq=>e (Sum.inl.inj q)
  rw[decide_eq_false h];exact(beq_eq_false_iff_ne.mpr e).symm
theorem yE(a b:Str):decide ((Sum.inr a:Key)=Sum.inr b)=decide (a=b):=by
 by_cases e:a=b
 ·subst e;simp
 ·have h:¬ (Sum.inr a:Key)=Sum.inr b:=λq=>e (Sum.inr.inj q)
  rw[decide_eq_false h,decide_eq_false e]
theorem yC(a:Int)(b:Str):decide ((Sum.inl a:Key)=Sum.inr b)=false:=decide_eq_false (λq=>nomatch q)
theorem yZ(a:Str)(b:Int):decide ((Sum.inr a:Key)=Sum.inl b)=false:=decide_eq_false (λq=>nomatch q)
def k7(prog:Qs)(w:QC):PySem.KeyKind prog w Key where
 is:=yn
 hash:=BB w
 inj:=λv a b ha hb=>by
  rcases bh ha with⟨i,t,rfl,rfl⟩ | ⟨x,t,rfl,rfl⟩
  ·rcases bh hb with⟨j,u,rfl,e⟩ | ⟨y,u,rfl,e⟩
   ·injection e with e1 _;rw[e1]
   ·exact nomatch e
  ·rcases bh hb with⟨j,u,rfl,e⟩ | ⟨y,u,rfl,e⟩
   ·exact nomatch e
   ·injection e with e1 _;rw[e1]
 byValue:=λk v h=>by
  rcases bh h with⟨i,t,rfl,rfl⟩ | ⟨x,t,rfl,rfl⟩<;>rfl
 pyHash:=λhv h=>by
  rcases bh hv with⟨i,t,rfl,rfl⟩ | ⟨x,t,rfl,rfl⟩
  ·exact wpAny_pyHash_int h
  ·exact wpAny_pyHash_str h
 eqBool:=λhu hv h=>by
  rcases bh hu with⟨i,t,rfl,rfl⟩ | ⟨x,t,rfl,rfl⟩
  ·rcases bh hv with⟨j,u,rfl,rfl⟩ | ⟨y,u,rfl,rfl⟩
   ·rw[zd] at h;exact wpAny_eqBool_int h
   ·rw[yC] at h;exact SeqAt.EqAt.int_str i t y u _ _ _ _ h
  ·rcases bh hv with⟨j,u,rfl,rfl⟩ | ⟨y,u,rfl,rfl⟩
   ·rw[yZ] at h;exact SeqAt.EqAt.str_int x t j u _ _ _ _ h
   ·rw[yE] at h;exact wpAny_eqBool_str h
 «strs»:=λk x t v h=>by
  rcases bh h with⟨i,u,rfl,e⟩ | ⟨y,u,rfl,e⟩
  ·exact nomatch e
  ·injection e with e1 _
   subst e1;cases v<;>rfl
inductive V where
 |non | bl (b:Bool) | int (i:Int) | str (x:Str) | byt (b:Array UInt8) | flt (b:UInt64) | ref (a:Addr) | ty (n:String)
 deriving DecidableEq
def aQ:V->vv->Prop
 |.non,u=>u=QR
 |.bl b,u=>u=Value.bool b
 |.int i,u=>∃t,u=Value.int i t
 |.str x,u=>∃t,u=Value.str x t
 |.byt b,u=>∃t,u=Value.bytes b t
 |.flt b,u=>∃t,u=Value.float b t
 |.ref a,u=>u=QH a
 |.ty n,u=>u=Value.type n
abbrev aK:List V->List vv->Prop:=Jk aQ
theorem aK.length{xs:List V}{us:List vv}(r:aK xs us):xs.length=us.length:=Paired.length r
theorem aK.get:∀{xs:List V} {us:List vv} {i:Nat} {x:V},aK xs us->xs[i]?=some x->∃u,us[i]?=some u/\aQ x u
 |_,_,_,_,.nil,e=>by simp at e
 |_,_,0,_,.cons r _,e=>by simp at e;subst e;exact⟨_,rfl,r⟩
 |_,_,i+1,x,.cons _ t,e=>by
  obtain⟨u,h1,h2⟩:=aK.get (i:=i) (x:=x) t (by simpa using e);exact⟨u,by simpa using h1,h2⟩
theorem aK.set{x:V}{u:vv}(r:aQ x u):∀{xs:List V} {us:List vv} (i:Nat),aK xs us->aK (xs.set i x) (us.set i u)
 |_,_,_,.nil=>.nil
 |_,_,0,.cons _ t=>.cons r t
 |_,_,i+1,.cons q t=>.cons q (aK.set r i t)
theorem aK.append:∀{xs ys:List V} {us ws:List vv},aK xs us->aK ys ws->aK (xs++ys) (us++ws)
 |_,_,_,_,.nil,s=>s
 |_,_,_,_,.cons r t,s=>.cons r (aK.append t s)
theorem aK.take:∀{xs:List V} {us:List vv} (n:Nat),aK xs us->aK (xs.take n) (us.take n)
 |_,_,0,_=>.nil
 |_,_,_+1,.nil=>.nil
 |_,_,n+1,.cons r t=>.cons r (aK.take n t)
theorem aK.drop:∀{xs:List V} {us:List vv} (n:Nat),aK xs us->aK (xs.drop n) (us.drop n)
 |_,_,0,r=>r
 |_,_,_+1,.nil=>.nil
 |_,_,n+1,.cons _ t=>aK.drop n t
def t9:Option V->Option vv->Prop
 |some v,some u=>aQ v u
 |none,none=>True
 |_,_=>False
def KV{κ:Type}:List (κ×V)->List (κ×vv)->Prop:=Jk λ(p:κ×V) (q:κ×vv)=>p.1=q.1/\aQ p.2 q.2
def kV:Key->V
 |.inl i=>.int i
 |.inr x=>.str x
inductive HO where
 |lst (xs:List V)
 |tup (xs:List V)
 |dK (kvs:List (Key×V)) | dT (kvs:List (List Key×V))
 |set (S:Int->Bool) (n:Nat)
 |ins (C dx:Addr) (fs:List (Str×V))
 |own (x:Addr)
 |xd (fs:List (Str×V))
 |met (f x:Addr)
 |rng (lo hi:Int)
 |frz (o:Obj) (u:HO)
 |tbl (ps:Array vv)
 |ext (φ:Heap->Prop)
abbrev Hp:=Addr->Option HO
def upd(H:Hp)(a:Addr)(o:HO):Hp:=λb=>if b=a then some o else H b
theorem aE{H:Hp}{a:Addr}{o:HO}:upd H a o a=some o:=by unfold upd;rw[if_pos rfl]
theorem aD{H:Hp}{a b:Addr}{o:HO}(h:b≠a):upd H a o b=H b:=by unfold upd;rw[if_neg h]
theorem ax{H:Hp}{a b:Addr}{o:HO}(h:H a=some o)(h':H b=none):a≠b:=by
 intro e;subst e;rw[h] at h';cases h'
section
variable(P:Qs)(w:QC)
def bz(H:Hp)(h:Heap)(a:Addr):HO->Prop
 |.lst xs=>xs.length<=Qt/\∃(its:List vv) (n:Nat),aK xs its/\h.get? a=some { cls:=.type "list",data:=.seq its.toArray n }
 |.tup xs=>xs.length<=Qt/\∃its:List vv,aK xs its/\IsTup h a its.toArray
 |.dK kvs=>kvs.length<=Qt/\(a==Ju)=false/\∃vs,KV kvs vs/\h.DictOf (k7 P w) a vs
 |.dT kvs=>kvs.length<=Qt/\(a==Ju)=false/\∃xs:List (List Key×Addr×vv),
   Jk (λ(p:List Key×V) (q:List Key×Addr×vv)=>p.1=q.1/\H q.2.1=some (.tup (p.1.map kV))/\aQ p.2 q.2.2) kvs xs/\
   ∃o es ep,h.get? a=some o/\o.ExactDict/\o.data=.dict es ep/\es.toList=xs.map (entryOfKey (tupleKind (k7 P w)))/\(xs.map (·.1)).Nodup
 |.set S n=>h.SetOf (intKind P w) a S n
 |.ins C dx fs=>H dx=some (.own a)/\fs.length<=1000/\dx≠a/\h.get? a=some (PySem.W.instObj C dx)/\
   ∃mA,h.Ns1 dx mA/\(∀f,t9 (fs.lookup f) (mA f))/\PySem.Within mA (fs.map (·.1))
 |.own _=>∃o,h.get? a=some o
 |.xd fs=>∃mA,h.Ns1 a mA/\∀f,t9 (fs.lookup f) (mA f)
 |.rng lo hi=>∃t u v,h.get? a=some { cls:=.type "range",data:=.fields #[.int lo t,.int hi u,.int 1 v] }
 |.frz o u=>h.get? a=some o/\bz H h a u
 |.tbl ps=>h.get? a=some { cls:=.none,data:=.fields ps }
 |.met f x=>h.get? a=some (PySem.W.methodObj (.ref f) (.ref x))
 |.ext φ=>φ h/\(∃o,h.get? a=some o)/\∀h1 h2:Heap,φ h1->(∀o,h1.get? a=some o->h2.get? a=some o)->φ h2
def HOk(H:Hp)(h:Heap):Prop:=∀a o,H a=some o->bz P w H h a o
end
section
variable{P:Qs}{w:QC}{H H':Hp}{h h':Heap}{a:Addr}{o:HO}
theorem bz.lt(x:bz P w H h a o):a<h.objs.size:=by
 cases o with
 |lst xs=>obtain⟨_,_,_,_,e⟩:=x;exact Qb e
 |tup xs=>obtain⟨_,_,_,p⟩:=x;exact p.lt
 |dK kvs=>obtain⟨_,_,_,_,o,_,_,e,_⟩:=x;exact Qb e
 |dT kvs=>obtain⟨_,_,_,_,o,_,_,e,_⟩:=x;exact Qb e
 |set S n=>obtain⟨o,_,_,_,e,_⟩:=x;exact Qb e
 |ins C dx fs=>obtain⟨_,_,_,e,_⟩:=x;exact Qb e
 |own y=>obtain⟨_,e⟩:=x;exact Qb e
 |xd fs=>obtain⟨_,⟨_,_,_,e,_⟩,_⟩:=x;exact Qb e
 |rng lo hi=>obtain⟨_,_,_,e⟩:=x;exact Qb e
 |frz ob u=>obtain⟨e,_⟩:=x;exact Qb e
 |tbl ps=>exact Qb (show h.get? a=some _ from x)
 |met f y=>exact Qb (show h.get? a=some _ from x)
 |ext φ=>obtain⟨_,⟨_,e⟩,_⟩:=x;exact Qb e
theorem Paired.mapP{α β:Type}{F G:α->β->Prop}:∀{l₁:List α} {l₂:List β},Jk F l₁ l₂->(∀a b,F a b->G a b)->Jk G l₁ l₂
 |_,_,.nil,_=>.nil
 |_,_,.cons r t,f=>.cons (f _ _ r) (Paired.mapP t f)
theorem bz.stay(x:bz P w H h a o)(k:∀b u,(b=a\/H b=some (.own a))->h.get? b=some u->h'.get? b=some u)
  (ho:∀b,H b=some (.own a)->H' b=some (.own a)) (ht:∀b xs,H b=some (.tup xs)->H' b=some (.tup xs)):bz P w H' h' a o:=by
 induction o with
 |lst xs=>obtain⟨z,its,n,r,e⟩:=x;exact⟨z,its,n,r,k _ _ (.inl rfl) e⟩
 |tup xs=>obtain⟨z,its,r,ob,e,c⟩:=x;exact⟨z,its,r,ob,k _ _ (.inl rfl) e,c⟩
 |dK kvs=>obtain⟨z,y,vs,r,ob,es,ep,e,c⟩:=x;exact⟨z,y,vs,r,ob,es,ep,k _ _ (.inl rfl) e,c⟩
 |dT kvs=>
  obtain⟨z,y,xs,r,ob,es,ep,e,c⟩:=x;exact⟨z,y,xs,Paired.mapP r λp q z=>⟨z.1,ht _ _ z.2.1,z.2.2⟩,ob,es,ep,k _ _ (.inl rfl) e,c⟩
 |set S n=>obtain⟨ob,es,ep,t,e,c⟩:=x;exact⟨ob,es,ep,t,k _ _ (.inl rfl) e,c⟩
 |ins C dx fs=>
  obtain⟨d,z,ne,e,mA,⟨od,es,ep,e2,c⟩,r⟩:=x;exact⟨ho _ d,z,ne,k _ _ (.inl rfl) e,mA,⟨od,es,ep,k _ _ (.inr d) e2,c⟩,r⟩
 |own y=>obtain⟨ob,e⟩:=x;exact⟨ob,k _ _ (.inl rfl) e⟩
 |xd fs=>obtain⟨mA,⟨od,es,ep,e,c⟩,r⟩:=x;exact⟨mA,⟨od,es,ep,k _ _ (.inl rfl) e,c⟩,r⟩
 |rng lo hi=>obtain⟨t,u,v,e⟩:=x;exact⟨t,u,v,k _ _ (.inl rfl) e⟩
 |frz ob u ih=>obtain⟨e,q⟩:=x;exact⟨k _ _ (.inl rfl) e,ih q⟩
 |tbl ps=>
  have e:h.get? a=some { cls:=.none,data:=.fields ps }:=x;show h'.get? a=some { cls:=.none,data:=.fields ps };exact k a _ (.inl rfl) e
 |met f y=>
  have e:h.get? a=some (PySem.W.methodObj (.ref f) (.ref y)):=x;show h'.get? a=some (PySem.W.methodObj (.ref f) (.ref y));exact k a _ (.inl rfl) e
 |ext φ=>obtain⟨p,⟨o,e⟩,st⟩:=x;exact⟨st _ _ p λo q=>k _ _ (.inl rfl) q,⟨o,k _ _ (.inl rfl) e⟩,st⟩
theorem HOk.lt(x:HOk P w H h)(e:H a=some o):a<h.objs.size:=(x a o e).lt
theorem HOk.fresh(x:HOk P w H h)(e:h.objs.size<=a):H a=none:=by
 cases q:H a with
 |none=>rfl
 |some u=>exact absurd (Qw (x.lt q) e) (Jl _)
theorem HOk.kept(x:HOk P w H h)(k:∀b u,h.get? b=some u->h'.get? b=some u):HOk P w H h':=λa o e=>
 (x a o e).stay (λb u _ q=>k b u q) (λ_ q=>q) λ_ _ q=>q
theorem HOk.laid(x:HOk P w H h)(k:∀b u,h.get? b=some u->h'.get? b=some u)(hp:h.objs.size<=a)(new:bz P w (upd H a o) h' a o):HOk P w (upd H a o) h':=λb u e=>by
 have hn:=x.fresh hp
 by_cases hb:b=a
 ·subst hb;rw[aE] at e;cases e;exact new
 ·rw[aD hb] at e
  exact(x b u e).stay (λc v _ q=>k c v q) (λc q=>by rw[aD (ax q hn)];exact q) λc xs q=>by rw[aD (ax q hn)];exact q
end
def Rd(H:Hp)(a:Addr)(u:HO):Prop:=H a=some u\/∃o,H a=some (.frz o u)
theorem Rd.of{H:Hp}{a:Addr}{u:HO}(h:H a=some u):Rd H a u:=.inl h
theorem Rd.ok{P:Qs}{w:QC}{H:Hp}{h:Heap}{a:Addr}{u:HO}(r:Rd H a u)(x:HOk P w H h):bz P w H h a u:=by
 rcases r with r | ⟨o,r⟩
 ·exact x a u r
 ·obtain⟨_,q⟩:=x a _ r
  exact q
def Mut:Option HO->Prop
 |some (.lst _)=>True
 |some (.dK _)=>True
 |some (.dT _)=>True
 |some (.set _ _)=>True
 |some (.ins _ _ _)=>True
 |some (.ext _)=>True
 |_=>False
section
variable{P:Qs}{w:QC}{H:Hp}{h h':Heap}{x e:Addr}{o':HO}
theorem HOk.write(ok:HOk P w H h)(mu:Mut (H x))(he:e=x\/H e=some (.own x))(k:∀b u,b≠e->h.get? b=some u->h'.get? b=some u)(heo:∃u,h'.get? e=some u)
  (new:bz P w (upd H x o') h' x o'):HOk P w (upd H x o') h':=λb u q=>by
 have nown:∀c y,H c=some (.own y)->c≠x:=λc y r z=>by subst z;rw[r] at mu;exact mu
 have ntup:∀c xs,H c=some (.tup xs)->c≠x:=λc xs r z=>by subst z;rw[r] at mu;exact mu
 by_cases hb:b=x
 ·subst hb;rw[aE] at q;cases q;exact new
 ·rw[aD hb] at q
  by_cases hbe:b=e
  ·have q':H b=some (.own x):=by
    rcases he with z | z
    ·exact absurd (hbe.trans z) hb
    ·rw[hbe];exact z
   rw[q] at q';cases q';obtain⟨v,hv⟩:=heo;exact⟨v,by rw[hbe];exact hv⟩
  ·refine(ok b u q).stay (λc v hc r=>k c v ?_ r) (λc r=>by rw[aD (nown c b r)];exact r) λc xs r=>by rw[aD (ntup c xs r)];exact r
   rcases hc with rfl | hc
   ·exact hbe
   ·rintro rfl
    rcases he with z | z
    ·exact nown c b hc z
    ·rw[hc] at z;cases z;exact hb rfl
end
structure Un(fs ex:List Addr)(H H':Hp)(h h':Heap):Prop where
 keep:∀b o,h.get? b=some o->H b=none->b∉fs->b∉ex->h'.get? b=some o
 slot:∀b o,h.get? b=some o->H b=none->b∈fs->b∉ex->∃sl,h'.get? b=some { o with slots:=sl }
 free:∀b o,h.get? b=some o->H b=none->b∉ex->H' b=none
 there:∀b o,h.get? b=some o->b∉ex->∃o',h'.get? b=some o'
 tups:∀b xs,H b=some (.tup xs)->H' b=some (.tup xs)
 frzs:∀b o u,H b=some (.frz o u)->H' b=some (.frz o u)
 tbls:∀b ps,H b=some (.tbl ps)->∃more,H' b=some (.tbl (ps++more))
section
variable{fs fs' ex ex':List Addr}{H H1 H2:Hp}{h h1 h2 h':Heap}{a x e:Addr}{o:HO}
theorem Un.any(u:Un fs ex H H1 h h1){b:Addr}{ob:Obj}(q:h.get? b=some ob)(n:H b=none)(hx:b∉ex):∃sl,h1.get? b=some { ob with slots:=sl }:=by
 by_cases hb:b∈fs
 ·exact u.slot b ob q n hb hx
 ·exact⟨ob.slots,u.keep b ob q n hb hx⟩
theorem Un.trans(a:Un fs ex H H1 h h1)(b:Un fs ex H1 H2 h1 h2):Un fs ex H H2 h h2 where
 keep:=λc ob q n hc hx=>b.keep c ob (a.keep c ob q n hc hx) (a.free c ob q n hx) hc hx
 slot:=λc ob q n hc hx=>by
  obtain⟨sl,e1⟩:=a.slot c ob q n hc hx;obtain⟨sl',e2⟩:=b.slot c _ e1 (a.free c ob q n hx) hc hx;exact⟨sl',e2⟩
 free:=λc ob q n hx=>by
  obtain⟨o',e1⟩:=a.there c ob q hx;exact b.free c o' e1 (a.free c ob q n hx) hx
 there:=λc ob q hx=>by
  obtain⟨o',e1⟩:=a.there c ob q hx;exact b.there c o' e1 hx
 tups:=λc xs q=>b.tups c xs (a.tups c xs q)
 frzs:=λc ob xs q=>b.frzs c ob xs (a.frzs c ob xs q)
 tbls:=λc ps q=>by
  obtain⟨m1,e1⟩:=a.tbls c ps q;obtain⟨m2,e2⟩:=b.tbls c _ e1;exact⟨m1++m2,by rw[e2,Array.append_assoc]⟩
theorem Un.kept(k:∀b u,h.get? b=some u->h'.get? b=some u):Un fs ex H H h h':=
 ⟨λb ob q _ _ _=>k b ob q,λb ob q _ _ _=>⟨ob.slots,k b ob q⟩,λ_ _ _ n _=>n,λb ob q _=>⟨ob,k b ob q⟩,λ_ _ q=>q,λ_ _ _ q=>q,λ_ ps q=>⟨#[],by rw[q];simp⟩⟩
theorem Un.refl:Un fs ex H H h h:=Un.kept λ_ _ q=>q
theorem Un.laid(k:∀b u,h.get? b=some u->h'.get? b=some u)(hp:h.objs.size<=a)(hn:H a=none):Un fs ex H (upd H a o) h h' where
 keep:=λb u q _ _ _=>k b u q
 slot:=λb u q _ _ _=>⟨u.slots,k b u q⟩
 free:=λb u q n _=>by rw[aD (Qu (Qw (Qb q) hp))];exact n
 there:=λb u q _=>⟨u,k b u q⟩
 tups:=λb xs q=>by rw[aD (ax q hn)];exact q
 frzs:=λb u xs q=>by rw[aD (ax q hn)];exact q
 tbls:=λb ps q=>⟨#[],by rw[aD (ax q hn),q];simp⟩
theorem Un.write(mu:Mut (H x))(he:e=x\/H e=some (.own x))(k:∀b u,b≠e->h.get? b=some u->h'.get? b=some u)(heo:∃u,h'.get? e=some u):Un fs ex H (upd H x o) h h':=by
 have hx:∀b,H b=none->b≠x:=λb n z=>by subst z;rw[n] at mu;exact mu
 have hb:∀b,H b=none->b≠e:=λb n z=>by
  subst z;rcases he with r | r
  ·exact hx b n r
  ·rw[n] at r;cases r
 have hm:∀b u,H b=some u->¬ Mut (some u)->b≠x:=λb u q nm z=>by subst z;rw[q] at mu;exact nm mu
 refine⟨λb u q n _ _=>k b u (hb b n) q,λb u q n _ _=>⟨u.slots,k b u (hb b n) q⟩,λb u q n _=>by rw[aD (hx b n)];exact n,λb u q _=>?_,
  λb xs q=>by rw[aD (hm b _ q λz=>z)];exact q,λb u xs q=>by rw[aD (hm b _ q λz=>z)];exact q,λb ps q=>⟨#[],by rw[aD (hm b _ q λz=>z),q];simp⟩⟩
 by_cases hbe:b=e
 ·subst hbe;exact heo
 ·exact⟨u,k b u hbe q⟩
theorem Un.mono(u:Un fs ex H H1 h h1)(hs:∀b∈fs,b∈fs')(hx:∀b∈ex,b∈ex'):Un fs' ex' H H1 h h1:=
 ⟨λb ob q n hb he=>u.keep b ob q n (λz=>hb (hs b z)) λz=>he (hx b z),λ_ _ q n _ he=>u.any q n λz=>he (hx _ z),λb ob q n he=>u.free b ob q n λz=>he (hx b z),λb ob q he=>u.there b ob q λz=>he (hx b z),u.tups,u.frzs,u.tbls⟩
end
def trk(h:Heap)(H:Hp):List Addr:=(QF h.objs.size).filter λa=>(H a).isSome
def lY(h:Heap)(H:Hp):Heap:=PySem.W.hideAll h (trk h H)
theorem rS(h:Heap)(H:Hp):(lY h H).objs.size=h.objs.size:=PySem.W.hideAll_size _ _
theorem uE{h:Heap}{H:Hp}{b:Addr}{o:Obj}(e:h.get? b=some o)(n:H b=none):(lY h H).get? b=some o:=
 PySem.W.hideAll_get _ e λhm=>by
  have q:(H b).isSome=true:=(QM.mp hm).2;rw[n] at q;simp at q
theorem xK{h:Heap}{H:Hp}{b:Addr}{o:Obj}(e:(lY h H).get? b=some o):h.get? b=some o/\H b=none:=by
 have e':h.get? b=some o:=PySem.W.of_hideAll (trk h H) e;refine⟨e',?_⟩;cases q:H b with
 |none=>rfl
 |some x=>
  have hm:b∈trk h H:=QM.mpr ⟨Je.mpr (Qb e'),by simp[q]⟩;have z:(lY h H).get? b=none:=PySem.W.hideAll_none (trk h H) hm;rw[z] at e;cases e
def xF(g h:Heap)(L:Addr):List (Addr×Obj):=(QF h.objs.size).filterMap λa=>if a=L\/(g.get? a).isSome=true then none else(h.get? a).map λo=>(a,o)
def rest(g h:Heap)(L d:Addr):List (Addr×Obj):=(xF g h L).filter λp=>decide (p.1≠d)
structure Mod(K:v0)(mg:Str->Option vv)(base:Heap):Prop where
 kin:K.In base
 glob:base.Ns Qz mg
 blt:∃mb,base.Ns builtinsNs mb/\∀x:Str,x≠"__name__"->mb x=Zc x
 nolimit:base.NoLimit
structure Cx where
 prog:Qs
 w:QC
 K:v0
 mg:Str->Option vv
 base:Heap
 A:Qy
 N:List Str
 s₀:v6
 H₀:Hp
 env:Env
 outer:List Env
 stack:List Env
 ex:List Addr
 fn:Str->Bool
 calm:Bool
 pn:List (Addr×Obj)
 xe:vv->v6->Prop
def frs(l:List Env):List Addr:=l.filterMap (·.frame)
abbrev Cx.fs(X:Cx):List Addr:=frs X.outer
def Vis(sc:Scope)(x:Str):Prop:=sc.names.lookup x=some .local\/sc.names.lookup x=some .cell\/sc.names.lookup x=some .free
def Loc(sc:Scope)(x:Str):Prop:=sc.names.lookup x=some .local\/sc.names.lookup x=some .cell
def BU(env:Env)(h:Heap)(m:Str->Option vv)(x:Str)(u:vv):Prop:=
 (env.kindOf x=some .local/\m x=some u)\/((env.kindOf x=some .cell\/env.kindOf x=some .free)/\∃c,env.cells.lookup x=some c/\h.IsCell c (some u))
structure Cx.Ok(X:Cx):Prop where
 mod:Mod X.K X.mg X.base
 kind:X.env.scope.kind=.function
 glob:X.env.globals=Qz
 blt:X.env.builtins=builtinsNs
 above:X.s₀.heap.objs.size<=X.env.locals
 inj:∀x y c,X.env.cells.lookup x=some c->X.env.cells.lookup y=some c->x=y
 has:∀x,(X.env.kindOf x=some .cell\/X.env.kindOf x=some .free)->∃c,X.env.cells.lookup x=some c
 cab:∀x c,X.fn x=true->X.env.cells.lookup x=some c->X.s₀.heap.objs.size<=c
 hd:X.calm=true->X.A.handled=none
 frames:X.A.frames=some X.stack
 stk:X.stack=X.outer\/(X.stack=X.env::X.outer/\X.env.frame=some X.env.locals)
 exf:∀b∈X.ex,b≠X.env.locals/\∀x c,X.env.cells.lookup x=some c->c≠b
 bs:∀b o,X.base.get? b=some o->X.s₀.heap.get? b=some o/\X.H₀ b=none
 bsz:X.base.objs.size<=X.s₀.heap.objs.size
 noex:∀b o,X.base.get? b=some o->b∉X.ex
 exfs:∀b∈X.ex,b∉X.fs
 funs:X.s₀.heap.FunFrames X.base X.outer
 frf:∀b∈X.fs,X.H₀ b=none
structure Inv(X:Cx)(pins:List (Addr×Obj))(σ:List (Option V))(H:Hp)(s:v6):Prop where
 ok:X.Ok
 os:s.os=X.s₀.os
 bare:AllBare s.gens
 base:Un X.fs X.ex X.H₀ H X.s₀.heap s.heap
 loc:∃m,s.heap.Ns X.env.locals m/\∀(i:Nat) (x:Str) (v:V),X.N[i]?=some x->σ[i]?=some (some v)->Vis X.env.scope x->∃u,aQ v u/\BU X.env s.heap m x u
 cell:∀x c,X.env.cells.lookup x=some c->∃v,s.heap.IsCell c v
 free:H X.env.locals=none
 freeC:∀x c,X.env.cells.lookup x=some c->H c=none
 pin:∀p∈X.pn++pins,s.heap.get? p.1=some p.2/\H p.1=none/\p.1≠X.env.locals/\p.1∉X.fs/\∀v,p.2.data≠.cell v
 hok:HOk X.prog X.w H s.heap
 len:σ.length=X.N.length
section
variable{X:Cx}{pins:List (Addr×Obj)}{σ:List (Option V)}{H H':Hp}{s:v6}{h':Heap}
theorem Cx.Ok.nofr(ok:X.Ok){b:Addr}{o:Obj}(e:X.base.get? b=some o):b∉X.fs:=λhb=>by
 have:=(ok.funs.mem hb).1;rw[e] at this;cases this
theorem Inv.bs(I:Inv X pins σ H s):∀b o,X.base.get? b=some o->s.heap.get? b=some o/\H b=none:=λb o e=>
 ⟨I.base.keep b o (I.ok.bs b o e).1 (I.ok.bs b o e).2 (I.ok.nofr e) (I.ok.noex b o e),I.base.free b o (I.ok.bs b o e).1 (I.ok.bs b o e).2 (I.ok.noex b o e)⟩
theorem Inv.bk(I:Inv X pins σ H s):∀b o,X.base.get? b=some o->s.heap.get? b=some o:=λb o e=>(I.bs b o e).1
theorem Inv.mod(I:Inv X pins σ H s):Mod X.K X.mg X.base:=I.ok.mod
theorem Inv.kIn(I:Inv X pins σ H s):X.K.In s.heap:=I.ok.mod.kin.keeps I.bk
theorem Inv.nolimit(I:Inv X pins σ H s):s.heap.NoLimit:=I.ok.mod.nolimit.keeps I.bk
theorem Inv.fr(I:Inv X pins σ H s):∃m,Fr X.base X.env.locals s.heap m:=
 let⟨m,hn,_⟩:=I.loc
 ⟨m,hn,I.bk,QO I.ok.bsz I.ok.above⟩
theorem Inv.lt(I:Inv X pins σ H s):X.env.locals<s.heap.objs.size:=let⟨_,hn,_⟩:=I.loc;hn.lt
theorem Inv.sz(I:Inv X pins σ H s):X.s₀.heap.objs.size<=s.heap.objs.size:=QO I.ok.above (QZ I.lt)
theorem Inv.nofs(I:Inv X pins σ H s){a:Addr}(h:s.heap.objs.size<=a):a∉X.fs:=λhb=>by
 obtain⟨_,o,ho,_⟩:=I.ok.funs.mem hb;exact absurd (Qw (Qb ho) (QO I.sz h)) (Jl _)
theorem Inv.cne(I:Inv X pins σ H s):∀x c,X.env.cells.lookup x=some c->c≠X.env.locals:=λx c e z=>by
 obtain⟨v,o,ho,hd⟩:=I.cell x c e;obtain⟨m,⟨o',es,ep,ho',hd',_⟩,_⟩:=I.loc;rw[z,ho'] at ho;cases ho;rw[hd'] at hd;cases hd
theorem Inv.funs(I:Inv X pins σ H s):s.heap.FunFrames X.base X.outer:=by
 have all:∀(l:List Env),(∀b∈frs l,b∈X.fs)->X.s₀.heap.FunFrames X.base l->s.heap.FunFrames X.base l:=by
  intro l
  induction l with
  |nil=>intro _ _;trivial
  |cons env r ih=>
   intro hs hl;obtain⟨hk,⟨L,o,hf,hn,ho,hd⟩,hr⟩:=hl;have hL:L∈X.fs:=hs L (by unfold frs;rw[List.filterMap_cons,hf];exact Qh);obtain⟨sl,e⟩:=I.base.slot L o ho (I.ok.frf L hL) hL λz=>I.ok.exfs L z hL;exact⟨hk,⟨L,_,hf,hn,e,hd⟩,ih (λb hb=>hs b (by unfold frs;rw[List.filterMap_cons,hf];exact Qj _ hb)) hr⟩
 exact all X.outer (λ_ hb=>hb) I.ok.funs
theorem Inv.stack(I:Inv X pins σ H s):s.heap.FunFrames X.base X.stack:=by
 rcases I.ok.stk with e | ⟨e,hf⟩
 ·rw[e];exact I.funs
 ·rw[e]
  obtain⟨m,hn,_⟩:=I.loc;refine .cons (by rw[I.ok.kind];decide) hf hn ?_ I.funs;exact Heap.get?_none_of_le (QO I.ok.bsz I.ok.above)
theorem Inv.stkSub(I:Inv X pins σ H s):∀b∈frs X.stack,b∈X.env.locals::X.fs:=λb hb=>by
 rcases I.ok.stk with e | ⟨e,hf⟩
 ·rw[e] at hb;exact Qj _ hb
 ·rw[e] at hb
  unfold frs at hb;rw[List.filterMap_cons,hf] at hb;exact hb
theorem Inv.stkFree(I:Inv X pins σ H s):∀b∈frs X.stack,H b=none:=λb hb=>by
 rcases ut.mp (I.stkSub b hb) with e | hb
 ·rw[e];exact I.free
 ·obtain⟨_,o,ho,_⟩:=I.ok.funs.mem hb
  exact I.base.free b o ho (I.ok.frf b hb) λz=>I.ok.exfs b z hb
theorem Inv.step{g':Array GenState}{t':Nat}{d':Drawn}{ch:List Addr}(I:Inv X pins σ H s)
  (hch:∀b∈ch,(b∈X.ex\/X.s₀.heap.objs.size<=b)/\b≠X.env.locals/\(∀x c,X.env.cells.lookup x=some c->c≠b)/\∀p∈X.pn++pins,p.1≠b)
  (keep:∀b o,b≠X.env.locals->b∉X.fs->b∉ch->s.heap.get? b=some o->H b=none->h'.get? b=some o)
  (slot:∀b o,b≠X.env.locals->b∈X.fs->b∉ch->s.heap.get? b=some o->H b=none->∃sl,h'.get? b=some { o with slots:=sl }) (free:∀b o,b∉ch->s.heap.get? b=some o->H b=none->H' b=none)
  (there:∀b o,b∉ch->s.heap.get? b=some o->∃o',h'.get? b=some o')
  (tups:∀b xs,H b=some (.tup xs)->H' b=some (.tup xs)) (frzs:∀b o u,H b=some (.frz o u)->H' b=some (.frz o u)) (tbls:∀b ps,H b=some (.tbl ps)->∃more,H' b=some (.tbl (ps++more)))
  (ns:∀m,s.heap.Ns X.env.locals m->h'.Ns X.env.locals m) (hok:HOk X.prog X.w H' h') (hg:AllBare g') :
  Inv X pins σ H' { s with heap:=h',gens:=g',drawn:=d',toks:=t' }:=by
 have neL:∀b o,X.s₀.heap.get? b=some o->b≠X.env.locals:=λb o e=>Qu (Qw (Qb e) I.ok.above)
 have neC:∀b o,X.s₀.heap.get? b=some o->b∉X.ex->b∉ch:=λb o e hx hb=>by
  rcases(hch b hb).1 with z | z
  ·exact hx z
  ·exact absurd (Qw (Qb e) z) (Jl _)
 have cellK:∀x c,X.env.cells.lookup x=some c->∀v,s.heap.IsCell c v->h'.IsCell c v:=λx c e v ⟨o,ho,hd⟩=>by
  have nch:c∉ch:=λz=>(hch c z).2.2.1 x c e rfl
  by_cases hc:c∈X.fs
  ·obtain⟨sl,q⟩:=slot c o (I.cne x c e) hc nch ho (I.freeC x c e)
   exact⟨_,q,hd⟩
  ·exact⟨o,keep c o (I.cne x c e) hc nch ho (I.freeC x c e),hd⟩
 refine⟨I.ok,I.os,hg,⟨λb o e n hb hx=>?_,λb o e n hb hx=>?_,λb o e n hx=>?_,λb o e hx=>?_,λb xs e=>tups b xs (I.base.tups b xs e),λb o xs e=>frzs b o xs (I.base.frzs b o xs e),λb ps e=>?_⟩,?_,λx c e=>?_,?_,λx c e=>?_,λp hp=>?_,hok,I.len⟩
 ·exact keep b o (neL b o e) hb (neC b o e hx) (I.base.keep b o e n hb hx) (I.base.free b o e n hx)
 ·obtain⟨sl,e1⟩:=I.base.slot b o e n hb hx
  obtain⟨sl',e2⟩:=slot b _ (neL b o e) hb (neC b o e hx) e1 (I.base.free b o e n hx);exact⟨sl',e2⟩
 ·obtain⟨o',e1⟩:=I.base.there b o e hx
  exact free b o' (neC b o e hx) e1 (I.base.free b o e n hx)
 ·obtain⟨o',e1⟩:=I.base.there b o e hx
  exact there b o' (neC b o e hx) e1
 ·obtain⟨m1,e1⟩:=I.base.tbls b ps e
  obtain⟨m2,e2⟩:=tbls b _ e1;exact⟨m1++m2,by rw[e2,Array.append_assoc]⟩
 ·obtain⟨m,hn,hl⟩:=I.loc
  refine⟨m,ns m hn,λi x v e1 e2 e3=>?_⟩;obtain⟨u,r,l⟩:=hl i x v e1 e2 e3;refine⟨u,r,?_⟩;rcases l with l | ⟨k,c,e,z⟩
  ·exact .inl l
  ·exact .inr ⟨k,c,e,cellK x c e _ z⟩
 ·obtain⟨v,z⟩:=I.cell x c e
  exact⟨v,cellK x c e v z⟩
 ·obtain⟨m,⟨o,_,_,ho,_⟩,_⟩:=I.loc
  exact free _ o (λz=>(hch _ z).2.1 rfl) ho I.free
 ·obtain⟨v,o,ho,hd⟩:=I.cell x c e
  exact free c o (λz=>(hch c z).2.2.1 x c e rfl) ho (I.freeC x c e)
 ·obtain⟨e,n,ne,nf,d⟩:=I.pin p hp
  have nch:p.1∉ch:=λz=>(hch p.1 z).2.2.2 p hp rfl;exact⟨keep p.1 p.2 ne nf nch e n,free p.1 p.2 nch e n,ne,nf,d⟩
theorem Inv.un{t':Nat}(I:Inv X pins σ H s)(u:Un X.fs [] H H' s.heap h')(hok:HOk X.prog X.w H' h'):Inv X pins σ H' { s with heap:=h',toks:=t' }:=by
 obtain⟨m,⟨o,es,ep,ho,r⟩,_⟩:=id I.loc;obtain⟨sl,hL⟩:=u.any ho I.free (by simp)
 exact I.step (g':=s.gens) (d':=s.drawn) (ch:=[]) (λ_ z=>nomatch z) (λb o _ hb _ e n=>u.keep b o e n hb (by simp)) (λb o _ hb _ e n=>u.slot b o e n hb (by simp)) (λb o _ e n=>u.free b o e n (by simp)) (λb o _ e=>u.there b o e (by simp)) u.tups u.frzs u.tbls (λm' hm=>by
  obtain⟨o',es',ep',ho',r'⟩:=hm;rw[ho] at ho';cases ho'
  exact⟨_,es',ep',hL,r'⟩) hok I.bare
theorem Inv.call{g':Array GenState}{t':Nat}{d':Drawn}{ch:List Addr}(I:Inv X pins σ H s)(u:Un (frs X.stack) ch H H' s.heap h')(hok:HOk X.prog X.w H' h')(hg:AllBare g')
  (hch:∀b∈ch,(b∈X.ex\/X.s₀.heap.objs.size<=b)/\b≠X.env.locals/\(∀x c,X.env.cells.lookup x=some c->c≠b)/\∀p∈X.pn++pins,p.1≠b) :
  Inv X pins σ H' { s with heap:=h',gens:=g',drawn:=d',toks:=t' }:=by
 obtain⟨m,⟨o,es,ep,ho,r⟩,_⟩:=id I.loc;obtain⟨sl,hL⟩:=u.any ho I.free λz=>(hch _ z).2.1 rfl
 exact I.step (ch:=ch) hch (λb o hL hb hc e n=>u.keep b o e n (λz=>(ut.mp (I.stkSub b z)).elim hL hb) hc) (λb o _ _ hc e n=>u.any e n hc) (λb o hc e n=>u.free b o e n hc) (λb o hc e=>u.there b o e hc) u.tups u.frzs u.tbls (λm' hm=>by
  obtain⟨o',es',ep',ho',r'⟩:=hm;rw[ho] at ho';cases ho'
  exact⟨_,es',ep',hL,r'⟩) hok hg
theorem Inv.turned{t':Nat}{it:Addr}(I:Inv X pins σ H s)(k:∀b o,b≠it->s.heap.get? b=some o->h'.get? b=some o)(hn:H it=none)(hL:it≠X.env.locals)
  (h1:it∈X.ex\/X.s₀.heap.objs.size<=it) (h2:∀x c,X.env.cells.lookup x=some c->c≠it) (h3:∀p∈X.pn++pins,p.1≠it):Inv X pins σ H { s with heap:=h',toks:=t' }:=by
 have nit:∀b u,H b=some u->b≠it:=λb u e z=>by rw[z,hn] at e;cases e
 refine I.step (g':=s.gens) (d':=s.drawn) (ch:=[it]) (λb hb=>?_) (λb o _ _ hc e _=>k b o (λz=>hc (by simp[z])) e) (λb o _ _ hc e _=>⟨o.slots,k b o (λz=>hc (by simp[z])) e⟩) (λ_ _ _ _ n=>n)
  (λb o hc e=>⟨o,k b o (λz=>hc (by simp[z])) e⟩) (λ_ _ e=>e) (λ_ _ _ e=>e) (λb ps e=>⟨#[],by rw[e];simp⟩) (λm hm=>?_) (λb u e=>?_) I.bare
 ·have e:b=it:=by simpa using hb
  subst e;exact⟨h1,hL,h2,h3⟩
 ·obtain⟨o,es,ep,ho,r⟩:=hm
  exact⟨o,es,ep,k _ o (Ne.symm hL) ho,r⟩
 ·refine(I.hok b u e).stay (λc v hc q=>k c v ?_ q) (λ_ q=>q) λ_ _ q=>q
  rcases hc with z | z
  ·rw[z];exact nit b u e
  ·exact nit c _ z
theorem Inv.tok(I:Inv X pins σ H s)(t:Nat):Inv X pins σ H { s with toks:=t }:=I.un (h':=s.heap) (t':=t) Un.refl I.hok
theorem Inv.kept{t':Nat}(I:Inv X pins σ H s)(k:∀b u,s.heap.get? b=some u->h'.get? b=some u):Inv X pins σ H { s with heap:=h',toks:=t' }:=I.un (Un.kept k) (I.hok.kept k)
theorem Inv.laid{a:Addr}{o:HO}{t':Nat}(I:Inv X pins σ H s)(k:∀b u,s.heap.get? b=some u->h'.get? b=some u)(hp:s.heap.objs.size<=a)(new:bz X.prog X.w (upd H a o) h' a o) :
  Inv X pins σ (upd H a o) { s with heap:=h',toks:=t' }:=I.un (Un.laid k hp (I.hok.fresh hp)) (I.hok.laid k hp new)
theorem Inv.write{x e:Addr}{o:HO}{t':Nat}(I:Inv X pins σ H s)(mu:Mut (H x))(he:e=x\/H e=some (.own x))(k:∀b u,b≠e->s.heap.get? b=some u->h'.get? b=some u)(heo:∃u,h'.get? e=some u)
  (new:bz X.prog X.w (upd H x o) h' x o):Inv X pins σ (upd H x o) { s with heap:=h',toks:=t' }:=I.un (Un.write mu he k heo) (I.hok.write mu he k heo new)
theorem Inv.pins_of{pins':List (Addr×Obj)}(I:Inv X pins σ H s)(h:∀p∈pins',s.heap.get? p.1=some p.2/\H p.1=none/\p.1≠X.env.locals/\p.1∉X.fs/\∀v,p.2.data≠.cell v):Inv X pins' σ H s:=
 ⟨I.ok,I.os,I.bare,I.base,I.loc,I.cell,I.free,I.freeC,λp hp=>(Qn.mp hp).elim (λz=>I.pin p (ZP _ z)) (h p),I.hok,I.len⟩
theorem nC{N:List Str}(hN:N.Nodup){i j:Nat}{x:Str}(a:N[i]?=some x)(b:N[j]?=some x):i=j:=by
 obtain⟨h1,e1⟩:=Qi.mp a;obtain⟨h2,e2⟩:=Qi.mp b;exact(List.getElem_inj hN).mp (e1.trans e2.symm)
theorem rQ{M:Model}{A:Qy}{E:vv->v6->Prop}{i:Nat}{x:Str}{v:V}{u:vv}{Q:Unit->v6->Prop}(I:Inv X pins σ H s)(hN:X.N.Nodup)(hi:X.N[i]?=some x)(hx:Loc X.env.scope x)(r:aQ v u)
  (h:∀s',Inv X pins (σ.set i (some v)) H s'->(∃a,Q9 a s.heap s'.heap/\(a=X.env.locals\/X.env.cells.lookup x=some a))->Q () s') (hf:X.fn x=true\/X.env.scope.names.lookup x=some .local:=by first | exact .inl rfl | exact .inr rfl | assumption):wE M A (storeName X.env x u) Q E s:=by
 obtain⟨m,hn,hl⟩:=id I.loc;have hcls:(X.env.scope.kind == .class || (X.env.scope.kind == .module&&X.env.locals != X.env.globals))=false:=by rw[I.ok.kind];rfl
 have hiσ:i<σ.length:=by rw[I.len];exact(Qi.mp hi).1
 have cne:=I.cne
 have tracked:∀{a:Addr} {h':Heap},(∃o,s.heap.get? a=some o/\H a=none)->Q9 a s.heap h'->HOk X.prog X.w H h':=λ{a h'} ha hs b ob e=>by
  obtain⟨_,_,hfree⟩:=ha;refine(I.hok b ob e).stay (λc w' hc q=>(hs.2 c ?_).trans q) (λ_ q=>q) λ_ _ q=>q;rintro rfl;rcases hc with rfl | hc
  ·rw[hfree] at e;cases e
  ·rw[hfree] at hc;cases hc
 rcases hx with hk | hk
 ·refine wpAny_storeName_local hk hn (λh' hn' hs=>?_) hcls
  obtain⟨oL,_,_,hoL,_⟩:=id hn;refine h _ ⟨I.ok,I.os,I.bare,⟨λb o e n hb hx=>?_,λb o e n hb hx=>?_,I.base.free,λb o e hx=>?_,I.base.tups,I.base.frzs,I.base.tbls⟩,⟨_,hn',λj y v' e1 e2 e3=>?_⟩,λy c e=>?_,I.free,I.freeC,λp hp=>?_,tracked ⟨oL,hoL,I.free⟩ hs,by simpa using I.len⟩ ⟨_,hs,.inl rfl⟩
  ·exact(hs.2 b (Qu (Qw (Qb e) I.ok.above))).trans (I.base.keep b o e n hb hx)
  ·obtain⟨sl,e1⟩:=I.base.slot b o e n hb hx
   exact⟨sl,(hs.2 b (Qu (Qw (Qb e) I.ok.above))).trans e1⟩
  ·obtain⟨o',e1⟩:=I.base.there b o e hx
   exact⟨o',(hs.2 b (Qu (Qw (Qb e) I.ok.above))).trans e1⟩
  ·by_cases hj:j=i
   ·subst hj
    rw[hi] at e1;cases e1;rw[List.getElem?_set_self hiσ] at e2;cases e2;exact⟨u,r,.inl ⟨hk,by simp⟩⟩
   ·rw[List.getElem?_set_ne (Ne.symm hj)] at e2
    obtain⟨u',r',q⟩:=hl j y v' e1 e2 e3;refine⟨u',r',?_⟩;rcases q with⟨k,e⟩ | ⟨k,c,e,z⟩
    ·refine .inl ⟨k,?_⟩
     have:y≠x:=λe=>hj (nC hN e1 (e▸hi));simp[this,e]
    ·exact .inr ⟨k,c,e,z.sameBut hs (cne y c e)⟩
  ·obtain⟨w',z⟩:=I.cell y c e
   exact⟨w',z.sameBut hs (cne y c e)⟩
  ·obtain⟨e,n,ne,nf,d⟩:=I.pin p hp
   exact⟨(hs.2 p.1 ne).trans e,n,ne,nf,d⟩
 ·have hfn:X.fn x=true:=by
   rcases hf with z | z
   ·exact z
   ·rw[z] at hk;cases hk
  obtain⟨c,hc⟩:=I.ok.has x (.inl hk);obtain⟨w',z⟩:=I.cell x c hc;refine wpAny_storeName_cell I.ok.kind hk hc z (λh' hc' hs=>?_);obtain⟨oc,hoc,hocd⟩:=id z;refine h { s with heap:=h' } ⟨I.ok,I.os,I.bare,⟨λb o e n hb hx=>?_,λb o e n hb hx=>?_,I.base.free,λb o e hx=>?_,I.base.tups,I.base.frzs,I.base.tbls⟩,⟨m,hn.sameBut hs (Ne.symm (cne x c hc)),λj y v' e1 e2 e3=>?_⟩,λy c' e=>?_,I.free,I.freeC,λp hp=>?_,tracked ⟨oc,hoc,I.freeC x c hc⟩ hs,by simpa using I.len⟩ ⟨c,hs,.inr hc⟩
  ·exact(hs.2 b (Qu (Qw (Qb e) (I.ok.cab x c hfn hc)))).trans (I.base.keep b o e n hb hx)
  ·obtain⟨sl,e1⟩:=I.base.slot b o e n hb hx
   exact⟨sl,(hs.2 b (Qu (Qw (Qb e) (I.ok.cab x c hfn hc)))).trans e1⟩
  ·obtain⟨o',e1⟩:=I.base.there b o e hx
   exact⟨o',(hs.2 b (Qu (Qw (Qb e) (I.ok.cab x c hfn hc)))).trans e1⟩
  ·by_cases hj:j=i
   ·subst hj
    rw[hi] at e1;cases e1;rw[List.getElem?_set_self hiσ] at e2;cases e2;exact⟨u,r,.inr ⟨.inl hk,c,hc,hc'⟩⟩
   ·rw[List.getElem?_set_ne (Ne.symm hj)] at e2
    obtain⟨u',r',q⟩:=hl j y v' e1 e2 e3;refine⟨u',r',?_⟩;rcases q with q | ⟨k,c',e,z'⟩
    ·exact .inl q
    ·refine .inr ⟨k,c',e,z'.sameBut hs ?_⟩
     rintro rfl;exact hj (nC hN e1 (I.ok.inj _ _ _ e hc▸hi))
  ·by_cases hcc:c'=c
   ·subst hcc;exact⟨_,hc'⟩
   ·obtain⟨w2,z2⟩:=I.cell y c' e
    exact⟨w2,z2.sameBut hs hcc⟩
  ·obtain⟨e,n,ne,nf,d⟩:=I.pin p hp
   refine⟨(hs.2 p.1 ?_).trans e,n,ne,nf,d⟩;intro q;rw[q,hoc] at e;have q':oc=p.2:=Option.some.inj e;exact d w' (by rw[<-q'];exact hocd)
theorem eV{M:Model}{A:Qy}{E:vv->v6->Prop}{i:Nat}{x:Str}{v:V}{u:vv}{Q:Unit->v6->Prop}(I:Inv X pins σ H s)(hN:X.N.Nodup)(hi:X.N[i]?=some x)(hx:Loc X.env.scope x)(r:aQ v u)
  (h:∀s',Inv X pins (σ.set i (some v)) H s'->Q () s') (hf:X.fn x=true\/X.env.scope.names.lookup x=some .local:=by first | exact .inl rfl | exact .inr rfl | assumption):wE M A (storeName X.env x u) Q E s:=
 rQ I hN hi hx r (λs' I' _=>h s' I') hf
theorem Inv.call'{s':v6}{ch:List Addr}(I:Inv X pins σ H s)(ho:s'.os=s.os)(u:Un (frs X.stack) ch H H' s.heap s'.heap)(hok:HOk X.prog X.w H' s'.heap)(hg:AllBare s'.gens)
  (hch:∀b∈ch,(b∈X.ex\/X.s₀.heap.objs.size<=b)/\b≠X.env.locals/\(∀x c,X.env.cells.lookup x=some c->c≠b)/\∀p∈X.pn++pins,p.1≠b):Inv X pins σ H' s':=by
 obtain⟨h',g',d',t',o'⟩:=s';have e:o'=s.os:=ho;subst e;exact I.call (g':=g') (t':=t') (d':=d') u hok hg hch
end
abbrev XK:=vv->Option Addr->Hp->Prop
abbrev St:=List (Option V)
abbrev VK:=V->Hp->Prop
abbrev TE:=St->Hp->VK->Prop
abbrev TT:=St->Hp->(Bool->Hp->Prop)->Prop
abbrev TA:=St->Hp->(List V->Hp->Prop)->Prop
structure Ends where
 nx:St->Hp->Prop
 rt:VK
 bk:St->Hp->Prop:=λ_ _=>False
 ct:St->Hp->Prop:=λ_ _=>False
abbrev TS:=Ends->St->Hp->Prop
def EP(X:Cx)(pins:List (Addr×Obj))(σ:St)(Q:VK)(u:vv)(s':v6):Prop:=∃v H',Inv X pins σ H' s'/\aQ v u/\Q v H'
def TP(X:Cx)(pins:List (Addr×Obj))(σ:St)(Q:Bool->Hp->Prop)(b:Bool)(s':v6):Prop:=∃H',Inv X pins σ H' s'/\Q b H'
def AP(X:Cx)(pins:List (Addr×Obj))(σ:St)(Q:List V->Hp->Prop)(us:List vv)(s':v6):Prop:=∃vs H',Inv X pins σ H' s'/\aK vs us/\Q vs H'
def SP(X:Cx)(pins:List (Addr×Obj))(D:Ends)(f:Flow)(s':v6):Prop:=
 match f with
 |.next=>∃σ' H',Inv X pins σ' H' s'/\D.nx σ' H'
 |.brk=>∃σ' H',Inv X pins σ' H' s'/\D.bk σ' H'
 |.cont=>∃σ' H',Inv X pins σ' H' s'/\D.ct σ' H'
 |.ret u=>∃v σ' H',Inv X pins σ' H' s'/\aQ v u/\D.rt v H'
def PE(X:Cx)(e:Expr)(t:TE):Prop:=
 ∀(pins:List (Addr×Obj)) (s:v6) (σ:St) (H:Hp) (Q:VK),Inv X pins σ H s->t σ H Q->wE (Qa X.prog X.w) X.A (eval e X.env) (EP X pins σ Q) X.xe s
def PT(X:Cx)(e:Expr)(t:TT):Prop:=
 ∀(pins:List (Addr×Obj)) (s:v6) (σ:St) (H:Hp) (Q:Bool->Hp->Prop),Inv X pins σ H s->t σ H Q->wE (Qa X.prog X.w) X.A (isTrue e X.env (eval e X.env)) (TP X pins σ Q) X.xe s
def PW(X:Cx)(e:Expr)(t:TT):Prop:=
 ∀(whole:Sem vv) (pins:List (Addr×Obj)) (s:v6) (σ:St) (H:Hp) (Q:Bool->Hp->Prop),Inv X pins σ H s->t σ H Q->wE (Qa X.prog X.w) X.A (isTrue e X.env whole) (TP X pins σ Q) X.xe s
theorem PW.pt{X:Cx}{e:Expr}{t:TT}(h:PW X e t):PT X e t:=h _
def PA(X:Cx)(es:List Expr)(t:TA):Prop:=
 ∀(pos:Pos) (pins:List (Addr×Obj)) (s:v6) (σ:St) (H:Hp) (Q:List V->Hp->Prop),Inv X pins σ H s->t σ H Q->wE (Qa X.prog X.w) X.A (spliced (Q7 pos (uk es X.env))) (AP X pins σ Q) X.xe s
def PS(X:Cx)(st:Stmt)(t:TS):Prop:=
 ∀(pins:List (Addr×Obj)) (s:v6) (σ:St) (H:Hp) (D:Ends),Inv X pins σ H s->t D σ H->wE (Qa X.prog X.w) X.A (exec st X.env) (SP X pins D) X.xe s
def PSs(X:Cx)(st:List Stmt)(t:TS):Prop:=
 ∀(pins:List (Addr×Obj)) (s:v6) (σ:St) (H:Hp) (D:Ends),Inv X pins σ H s->t D σ H->wE (Qa X.prog X.w) X.A (execs st X.env) (SP X pins D) X.xe s
theorem thn{α:Type}{t:Sem α}{Q Q':α->v6->Prop}{M:Model}{A:Qy}{E:vv->v6->Prop}{s:v6}(h:wE M A t Q E s)(hQ:∀a s,Q a s->Q' a s):wE M A t Q' E s:=QP h hQ λ_ _ x=>x
section
variable{X:Cx}
theorem bin{a b:Expr}{ta tb:TE}(ha:PE X a ta)(hb:PE X b tb){pins:List (Addr×Obj)}{s:v6}{σ:St}{H:Hp}{R:V->V->Hp->Prop}(I:Inv X pins σ H s)(h:ta σ H λx H1=>tb σ H1 λy H2=>R x y H2)
  {α:Type} {Q:α->v6->Prop} {f:vv->vv->Sem α}
  (hf:∀v u s2 x y H2,Inv X pins σ H2 s2->aQ x v->aQ y u->R x y H2->wE (Qa X.prog X.w) X.A (f v u) Q X.xe s2) :
  wE (Qa X.prog X.w) X.A (eval a X.env) (λv s₁=>wE (Qa X.prog X.w) X.A (eval b X.env) (λu s₂=>wE (Qa X.prog X.w) X.A (f v u) Q X.xe s₂) X.xe s₁) X.xe s:=by
 refine thn (ha pins s σ H _ I h) λv s1 ⟨x,H1,I1,r1,q1⟩=>?_;refine thn (hb pins s1 σ H1 _ I1 q1) λu s2 ⟨y,H2,I2,r2,q2⟩=>?_;exact hf v u s2 x y H2 I2 r1 r2 q2
def BP(i:Nat):TE:=λσ H Q=>∃v,σ[i]?=some (some v)/\Q v H
def tC(v:V):TE:=λ_ H Q=>Q v H
theorem gd{i:Nat}{x:Str}{pos:Pos}(hN:X.N[i]?=some x)(hv:Vis X.env.scope x)(hd:(x==("__debug__" : Str))=false:=by decide)(hcd:(x==("__classdict__" : Str))=false:=by decide):PE X (.Name x pos) (BP i):=by
 intro pins s σ H Q I h;obtain⟨v,e,h⟩:=h;obtain⟨m,hn,hl⟩:=I.loc;obtain⟨u,r,l⟩:=hl i x v hN e hv;have fin:EP X pins σ Q u s:=⟨v,H,I,r,h⟩;rcases l with⟨hk,hm⟩ | ⟨hk,c,hc,hcell⟩
 ·exact wpAny_Name (wpAny_loadName_local I.ok.kind hk hn hm fin) hd
 ·rcases hk with hk | hk
  ·exact wpAny_Name (wpAny_loadName_cell I.ok.kind hk hc hcell fin) hd
  ·exact wpAny_Name (wpAny_loadName_free I.ok.kind hk hc hcell fin hcd) hd
theorem zf{i j pos}:PE X (.Constant (.int i) j pos) (tC (.int i)):=λ_ _ _ H _ I h=>wpAny_Constant_int ⟨.int i,H,I.tok _,⟨_,rfl⟩,h⟩
theorem Au{b j pos}:PE X (.Constant (.bool b) j pos) (tC (.bl b)):=λ_ _ _ H _ I h=>Constant_bool ⟨.bl b,H,I,rfl,h⟩
theorem zQ{j pos}:PE X (.Constant .none j pos) (tC .non):=λ_ _ _ H _ I h=>Constant_none ⟨.non,H,I,rfl,h⟩
theorem yH{x j pos}:PE X (.Constant (.str x) j pos) (tC (.str x)):=λ_ _ _ H _ I h=>Calls.Constant_str ⟨.str x,H,I.tok _,⟨_,rfl⟩,h⟩
def Gl(X:Cx)(x:Str):Prop:=X.env.kindOf x=some .globalImplicit
theorem oR{E:vv->v6->Prop}{pins:List (Addr×Obj)}{s:v6}{σ:St}{H:Hp}{x:Str}{u:vv}{pos:Pos}{Q:vv->v6->Prop}(I:Inv X pins σ H s)(hg:Gl X x)(hm:X.mg x=some u)(h:Q u s)
  (hd:(x==("__debug__" : Str))=false:=by decide):wE (Qa X.prog X.w) X.A (eval (.Name x pos) X.env) Q E s:=
 Calls.Name_function_global I.ok.kind hg (Calls.loadGlobal_global (by rw[I.ok.glob];exact I.mod.glob.keeps I.bk) hm h) hd
theorem d7{E:vv->v6->Prop}{pins:List (Addr×Obj)}{s:v6}{σ:St}{H:Hp}{x:Str}{u:vv}{pos:Pos}{Q:vv->v6->Prop}(I:Inv X pins σ H s)(hg:Gl X x)(hm:X.mg x=none)(hv:Zc x=some u)(h:Q u s)
  (hn:x≠"__name__":=by decide) (hd:(x==("__debug__" : Str))=false:=by decide):wE (Qa X.prog X.w) X.A (eval (.Name x pos) X.env) Q E s:=by
 obtain⟨mb,h1,h2⟩:=I.mod.blt;exact Calls.Name_function_global I.ok.kind hg (Calls.loadGlobal_builtin (by rw[I.ok.glob];exact I.mod.glob.keeps I.bk) hm (by rw[I.ok.blt];exact h1.keeps I.bk) ((h2 x hn).trans hv) h) hd
theorem oG{x:Str}{v:V}{u:vv}{pos:Pos}(hg:Gl X x)(hm:X.mg x=some u)(r:aQ v u)(hd:(x==("__debug__" : Str))=false:=by decide):PE X (.Name x pos) (tC v):=
 λ_ _ _ H _ I h=>oR I hg hm ⟨v,H,I,r,h⟩ hd
theorem vI{x:Str}{v:V}{u:vv}{pos:Pos}(hg:Gl X x)(hm:X.mg x=none)(hv:Zc x=some u)(r:aQ v u)(hn:x≠"__name__":=by decide)(hd:(x==("__debug__" : Str))=false:=by decide):PE X (.Name x pos) (tC v):=
 λ_ _ _ H _ I h=>d7 I hg hm hv ⟨v,H,I,r,h⟩ hn hd
variable{a b:Expr}{ta tb:TE}{pos:Pos}
variable{tA tB':TT}{rest:List Expr}
def B6(t u:TT):TT:=λσ H Q=>t σ H λc H1=>if c=true then u σ H1 Q else Q false H1
def tOr(t u:TT):TT:=λσ H Q=>t σ H λc H1=>if c=true then Q true H1 else u σ H1 Q
def B3(t:TT):TT:=λσ H Q=>t σ H λc H1=>Q (!c) H1
theorem vm(ha:PT X a tA):PW X (.BoolOp .And [a] pos) tA:=by
 intro wh pins s σ H Q I h;refine isTrue_and (thn (ha pins s σ H Q I h) λc s1 e=>?_);cases c with
 |true=>exact isTrue_and_nil e
 |false=>exact e
theorem y4(ha:PT X a tA):PW X (.BoolOp .Or [a] pos) tA:=by
 intro wh pins s σ H Q I h;refine isTrue_or (thn (ha pins s σ H Q I h) λc s1 e=>?_);cases c with
 |false=>exact isTrue_or_nil e
 |true=>exact e
theorem yM(ha:PT X a tA)(hb:PW X (.BoolOp .And (b::rest) pos) tB'):PW X (.BoolOp .And (a::b::rest) pos) (B6 tA tB'):=by
 intro wh pins s σ H Q I h;refine isTrue_and (thn (ha pins s σ H _ I h) λc s1 ⟨H1,I1,q1⟩=>?_);cases c with
 |true=>exact hb wh pins s1 σ H1 Q I1 q1
 |false=>exact⟨H1,I1,q1⟩
theorem Bq(ha:PT X a tA)(hb:PW X (.BoolOp .Or (b::rest) pos) tB'):PW X (.BoolOp .Or (a::b::rest) pos) (tOr tA tB'):=by
 intro wh pins s σ H Q I h;refine isTrue_or (thn (ha pins s σ H _ I h) λc s1 ⟨H1,I1,q1⟩=>?_);cases c with
 |true=>exact⟨H1,I1,q1⟩
 |false=>exact hb wh pins s1 σ H1 Q I1 q1
theorem zu(ha:PT X a tA):PT X (.UnaryOp .Not a pos) (B3 tA):=by
 intro pins s σ H Q I h;exact isTrue_not (ha pins s σ H (λc H1=>Q (!c) H1) I h)
def Av(ta tb:TE):TE:=λσ H Q=>ta σ H λx H1=>∃c,x=.bl c/\if c=true then tb σ H1 Q else Q (.bl false) H1
theorem zp{op}{t:TE}(h:PE X a t):PE X (.BoolOp op [a] pos) t:=λpins s σ H Q I hw=>BoolOp_one (h pins s σ H Q I hw)
theorem zw(ha:PE X a ta)(hb:PE X (.BoolOp .And (b::rest) pos) tb):PE X (.BoolOp .And (a::b::rest) pos) (Av ta tb):=by
 intro pins s σ H Q I h;refine BoolOp_and (thn (ha pins s σ H _ I h) λv s1 ⟨x,H1,I1,r1,q1⟩=>?_);obtain⟨c,rfl,q1⟩:=q1;cases r1;refine JD ?_;cases c with
 |true=>exact hb pins s1 σ H1 Q I1 q1
 |false=>exact⟨.bl false,H1,I1,rfl,q1⟩
end
def SqL(K:v0)(H:Hp)(a:Addr)(xs:List V):Prop:=
 Rd H a (.lst xs)\/
  ∃(o:Obj) (its:Array vv) (n:Nat),K.lookup a=some o/\o.cls=.type "list"/\o.dict=none/\o.data=.seq its n/\its.size<=Qt/\aK xs its.toList
def SqT(K:v0)(H:Hp)(a:Addr)(xs:List V):Prop:=
 Rd H a (.tup xs)\/
  ∃(o:Obj) (its:Array vv) (n:Nat),K.lookup a=some o/\o.cls=.type "tuple"/\o.data=.seq its n/\its.size<=Qt/\aK xs its.toList
def BS:vv->Option V
 |.none=>some .non
 |.bool b=>some (.bl b)
 |.int i _=>some (.int i)
 |.str x _=>some (.str x)
 |.bytes b _=>some (.byt b)
 |.float b _=>some (.flt b)
 |.ref a=>some (.ref a)
 |.type n=>some (.ty n)
 |_=>none
theorem aQ.abs{x:V}{u:vv}(r:aQ x u):BS u=some x:=by
 cases x with
 |non=>cases r;rfl
 |bl _=>cases r;rfl
 |int _=>obtain⟨t,rfl⟩:=r;rfl
 |str _=>obtain⟨t,rfl⟩:=r;rfl
 |byt _=>obtain⟨t,rfl⟩:=r;rfl
 |flt _=>obtain⟨t,rfl⟩:=r;rfl
 |ref _=>cases r;rfl
 |ty _=>cases r;rfl
theorem aQ.inj{x y:V}{u:vv}(r:aQ x u)(q:aQ y u):x=y:=Option.some.inj (r.abs.symm.trans q.abs)
theorem aK.inj:∀{xs ys:List V} {us:List vv},aK xs us->aK ys us->xs=ys:=λ{xs ys us} h=>by
 induction h generalizing ys with
 |nil=>intro g;cases g;rfl
 |cons r t ih=>intro g;cases g with | cons r' t'=>rw[r.inj r',ih t']
section
variable{X:Cx}{pins:List (Addr×Obj)}{σ:St}{H:Hp}{s:v6}{a:Addr}{xs ys:List V}
theorem SqL.of{K:v0}(h:H a=some (.lst xs)):SqL K H a xs:=.inl (.inl h)
theorem SqT.of{K:v0}(h:H a=some (.tup xs)):SqT K H a xs:=.inl (.inl h)
theorem Inv.list(I:Inv X pins σ H s)(h:SqL X.K H a xs):∃its:List vv,aK xs its/\PlainL s.heap a its.toArray/\xs.length<=Qt:=by
 rcases h with h | ⟨o,its,n,hk,hc,hd,hs,hz,r⟩
 ·obtain⟨z,its,n,r,e⟩:=h.ok I.hok
  exact⟨its,r,⟨_,n,e,rfl,rfl,rfl⟩,z⟩
 ·refine⟨its.toList,r,⟨o,n,I.kIn a o hk,hc,hd,by simpa using hs⟩,?_⟩
  have e:=r.length;simp only[Qq] at e
  lia
theorem Inv.tuple(I:Inv X pins σ H s)(h:SqT X.K H a xs):∃its:List vv,aK xs its/\IsTup s.heap a its.toArray/\xs.length<=Qt:=by
 rcases h with h | ⟨o,its,n,hk,hc,hs,hz,r⟩
 ·obtain⟨z,its,r,p⟩:=h.ok I.hok
  exact⟨its,r,p,z⟩
 ·refine⟨its.toList,r,⟨o,I.kIn a o hk,hc,n,by simpa using hs⟩,?_⟩
  have e:=r.length;simp only[Qq] at e
  lia
theorem Inv.list_inj(I:Inv X pins σ H s)(h:SqL X.K H a xs)(h':SqL X.K H a ys):xs=ys:=by
 obtain⟨its,r,⟨o,n,e,_,_,d⟩,_⟩:=I.list h;obtain⟨its',r',⟨o',n',e',_,_,d'⟩,_⟩:=I.list h';rw[e] at e';cases e';rw[d] at d';injection d' with d1 _
 have:its=its':=by simpa using congrArg Array.toList d1
 subst this;exact r.inj r'
theorem Inv.tuple_inj(I:Inv X pins σ H s)(h:SqT X.K H a xs)(h':SqT X.K H a ys):xs=ys:=by
 obtain⟨its,r,⟨o,e,_,n,d⟩,_⟩:=I.tuple h;obtain⟨its',r',⟨o',e',_,n',d'⟩,_⟩:=I.tuple h';rw[e] at e';cases e';rw[d] at d';injection d' with d1 _
 have:its=its':=by simpa using congrArg Array.toList d1
 subst this;exact r.inj r'
end
abbrev Cx.wish(X:Cx)(E:vv->v6->Prop):Cx:={ X with xe:=E }
abbrev Cx.nox(X:Cx):Cx:=X.wish λ_ _=>False
theorem Cx.Ok.wish{X:Cx}(ok:X.Ok)(E:vv->v6->Prop):(X.wish E).Ok:=
 ⟨ok.mod,ok.kind,ok.glob,ok.blt,ok.above,ok.inj,ok.has,ok.cab,ok.hd,ok.frames,ok.stk,ok.exf,ok.bs,ok.bsz,ok.noex,ok.exfs,ok.funs,ok.frf⟩
theorem Cx.Ok.unwish{X:Cx}{E:vv->v6->Prop}(ok:(X.wish E).Ok):X.Ok:=
 ⟨ok.mod,ok.kind,ok.glob,ok.blt,ok.above,ok.inj,ok.has,ok.cab,ok.hd,ok.frames,ok.stk,ok.exf,ok.bs,ok.bsz,ok.noex,ok.exfs,ok.funs,ok.frf⟩
section
variable{X:Cx}{pins:List (Addr×Obj)}{σ:St}{H:Hp}{s:v6}{E:vv->v6->Prop}
theorem Inv.wish(I:Inv X pins σ H s)(E:vv->v6->Prop):Inv (X.wish E) pins σ H s:=⟨I.ok.wish E,I.os,I.bare,I.base,I.loc,I.cell,I.free,I.freeC,I.pin,I.hok,I.len⟩
theorem Inv.unwish(I:Inv (X.wish E) pins σ H s):Inv X pins σ H s:=⟨I.ok.unwish,I.os,I.bare,I.base,I.loc,I.cell,I.free,I.freeC,I.pin,I.hok,I.len⟩
theorem SP.unwish{D:Ends}{f:Flow}{s':v6}(h:SP (X.wish E) pins D f s'):SP X pins D f s':=by
 cases f with
 |next=>obtain⟨σ',H',I,q⟩:=h;exact⟨σ',H',I.unwish,q⟩
 |brk=>obtain⟨σ',H',I,q⟩:=h;exact⟨σ',H',I.unwish,q⟩
 |cont=>obtain⟨σ',H',I,q⟩:=h;exact⟨σ',H',I.unwish,q⟩
 |ret u=>obtain⟨v,σ',H',I,r,q⟩:=h;exact⟨v,σ',H',I.unwish,r,q⟩
theorem PE.nox{e:Expr}{t:TE}(h:PE X.nox e t):PE X e t:=λpins s σ H Q I hw=>
 QP (h pins s σ H Q (I.wish _) hw) (λ_ _ ⟨v,H',I',r,q⟩=>⟨v,H',I'.unwish,r,q⟩) λ_ _ z=>JR z
theorem PT.nox{e:Expr}{t:TT}(h:PT X.nox e t):PT X e t:=λpins s σ H Q I hw=>
 QP (h pins s σ H Q (I.wish _) hw) (λ_ _ ⟨H',I',q⟩=>⟨H',I'.unwish,q⟩) λ_ _ z=>JR z
theorem PSs.nox{st:List Stmt}{t:TS}(h:PSs X.nox st t):PSs X st t:=λpins s σ H D I hw=>
 QP (h pins s σ H D (I.wish _) hw) (λ_ _ q=>q.unwish) λ_ _ z=>JR z
end
section
variable{X:Cx}{st:Stmt}{rest:List Stmt}{t u:TS}{e:Expr}{te:TE}{pos:Pos}
def A_:TS:=λD σ H=>D.nx σ H
def BN(t u:TS):TS:=λD σ H=>t { D with nx:=u D } σ H
theorem wW:PSs X [] A_:=λ_ _ σ H _ I h=>wpAny_execs_nil ⟨σ,H,I,h⟩
theorem j0(h1:PS X st t)(h2:PSs X rest u):PSs X (st::rest) (BN t u):=by
 intro pins s σ H D I h;refine wpAny_execs_cons (thn (h1 pins s σ H { D with nx:=u D } I h) λf s1 q=>?_);cases f with
 |next=>
  obtain⟨σ',H',I',q⟩:=q;exact h2 pins s1 σ' H' D I' q
 |ret v=>exact q
 |brk=>exact q
 |cont=>exact q
theorem pZ(h1:PS X st t):PSs X [st] t:=by
 intro pins s σ H D I h;refine wpAny_execs_cons (thn (h1 pins s σ H D I h) λf s1 q=>?_);cases f with
 |next=>exact wpAny_execs_nil q
 |ret v=>exact q
 |brk=>exact q
 |cont=>exact q
def Ad:TS:=λD σ H=>D.ct σ H
theorem ni:PS X (.Continue pos) Ad:=λ_ _ σ H _ I h=>wpAny_Continue ⟨σ,H,I,h⟩
theorem Inv.quiet{pins:List (Addr×Obj)}{σ:St}{H:Hp}{s:v6}(I:Inv X pins σ H s):interactive X.env=false:=by simp[interactive,I.ok.kind]
def Ba(te:TE):TS:=λD σ H=>te σ H λ_ H1=>D.nx σ H1
theorem oE(he:PE X e te)(hs:ZB e none pos.line X.env=pure false:=by rfl):PS X (.Expr e pos) (Ba te):=by
 intro pins s σ H D I h;exact wpAny_Expr_any (thn (he pins s σ H _ I h) λv s1 ⟨x,H1,I1,r1,q1⟩=>⟨σ,H1,I1,q1⟩) I.quiet hs
def BE(te:TE):TS:=λD σ H=>te σ H D.rt
theorem oo(he:PE X e te):PS X (.Return (some e) pos) (BE te):=by
 intro pins s σ H D I h;exact wpAny_Return_some (thn (he pins s σ H _ I h) λv s1 ⟨x,H1,I1,r1,q1⟩=>⟨x,σ,H1,I1,r1,q1⟩)
def B9(c:TT)(t u:TS):TS:=λD σ H=>c σ H λb H1=>if b=true then t D σ H1 else u D σ H1
theorem AN{c:Expr}{a b:List Stmt}{tc:TT}(hc:PT X c tc)(ha:PSs X a t)(hb:PSs X b u):PS X (.If c a b pos) (B9 tc t u):=by
 intro pins s σ H D I h;refine wpAny_If (thn (hc pins s σ H _ I h) λd s1 ⟨H1,I1,q1⟩=>?_);cases d with
 |true=>exact ha pins s1 σ H1 D I1 q1
 |false=>exact hb pins s1 σ H1 D I1 q1
end
abbrev TG:=V->St->Hp->(St->Hp->Prop)->Prop
abbrev TGs:=List V->St->Hp->(St->Hp->Prop)->Prop
def PG(X:Cx)(target:Expr)(t:TG):Prop:=
 ∀(pins:List (Addr×Obj)) (s:v6) (σ:St) (H:Hp) (v:V) (u:vv) (Q:St->Hp->Prop),Inv X pins σ H s->aQ v u->t v σ H Q->
  wE (Qa X.prog X.w) X.A (Zu target X.env u) (λ_ s'=>∃σ' H',Inv X pins σ' H' s'/\Q σ' H') X.xe s
def PGs(X:Cx)(ts:List Expr)(t:TGs):Prop:=
 ∀(pins:List (Addr×Obj)) (s:v6) (σ:St) (H:Hp) (vs:List V) (us:List vv) (Q:St->Hp->Prop),Inv X pins σ H s->aK vs us->t vs σ H Q->
  wE (Qa X.prog X.w) X.A (assignInOrder ((QU ts X.env).map (·.2)) us) (λ_ s'=>∃σ' H',Inv X pins σ' H' s'/\Q σ' H') X.xe s
abbrev zD:=V->V->V->Hp->(Hp->Prop)->Prop
def Bu(X:Cx)(t:zD):Prop:=
 ∀(pins:List (Addr×Obj)) (s:v6) (σ:St) (H:Hp) (o i v:V) (ov iv u:vv) (Q:Hp->Prop),Inv X pins σ H s->aQ o ov->aQ i iv->aQ v u->t o i v H Q->
  wE (Qa X.prog X.w) X.A (setItem ov iv u) (λ_ s'=>∃H',Inv X pins σ H' s'/\Q H') X.xe s
section
variable{X:Cx}{pos:Pos}
def ye(i:Nat):TG:=λv σ H Q=>Q (σ.set i (some v)) H
theorem qf{i:Nat}{x:Str}(hN:X.N.Nodup)(hi:X.N[i]?=some x)(hx:Loc X.env.scope x)(hf:X.fn x=true\/X.env.scope.names.lookup x=some .local:=by first | exact .inl rfl | exact .inr rfl | assumption):PG X (.Name x pos) (ye i):=by
 intro pins s σ H v u Q I r h;exact wpAny_assign_Name (eV I hN hi hx r (λs' I'=>⟨_,H,I',h⟩) hf)
def BY:TGs:=λvs σ H Q=>vs=[]/\Q σ H
def AR(t:TG)(u:TGs):TGs:=λvs σ H Q=>∃v r,vs=v::r/\t v σ H λσ' H'=>u r σ' H' Q
theorem qC:PGs X [] BY:=by
 intro pins s σ H vs us Q I r h;obtain⟨e,h⟩:=h;subst e;cases r;exact assignInOrder_nil ⟨σ,H,I,h⟩
theorem mW{e:Expr}{es:List Expr}{t:TG}{u:TGs}(h1:PG X e t)(h2:PGs X es u)
  (hs:(QU (e::es) X.env).map (·.2)=Zu e X.env::(QU es X.env).map (·.2):=by rfl):PGs X (e::es) (AR t u):=by
 intro pins s σ H vs us Q I r h;obtain⟨v,vr,e1,h⟩:=h;subst e1;cases r with
 |cons r rr=>
  rw[hs];refine assignInOrder_cons (thn (h1 pins s σ H _ _ _ I r h) λ_ s1 ⟨σ1,H1,I1,q1⟩=>?_);exact h2 pins s1 σ1 H1 _ _ Q I1 rr q1
def BR(K:v0)(n:Nat)(t:TGs):TG:=λv σ H Q=>∃a xs,v=.ref a/\SqT K H a xs/\xs.length=n/\t xs σ H Q
theorem nY{es:List Expr}{k:Nat}{t:TGs}{n:Nat}(hc:X.calm=true)(h:PGs X es t)
  (hn:(QU es X.env).length=n:=by rfl) (hst:(QU es X.env).findIdx? (·.1)=none:=by rfl):PG X (.Tuple es k pos) (BR X.K n t):=by
 intro pins s σ H v u Q I r hw;obtain⟨a,xs,e1,hq,hl,hw⟩:=hw;subst e1;cases r;obtain⟨its,rv,ht,hz⟩:=I.tuple hq;refine assign_Tuple_tuple (I.ok.hd hc) ht (by simp[hn,<-hl,rv.length]) hst λh' hx=>?_;have I1:Inv X pins σ H { s with heap:=h' }:=I.kept (t':=s.toks) λb o e=>hx b o (Qu (Qb e)) e;exact h pins _ σ H xs _ Q I1 (by simpa using rv) hw
def BJ(to ti:TE)(t:zD):TG:=λv σ H Q=>to σ H λo H1=>ti σ H1 λi H2=>t o i v H2 λH3=>Q σ H3
theorem y9{o i:Expr}{to ti:TE}{t:zD}(ho:PE X o to)(hi:PE X i ti)(hs:Bu X t)
  (ha:∀v,Zu (.Subscript o i pos) X.env v=(do
   let ov<-holding [v] (eval o X.env);let iv<-holding [v,ov] (eval i X.env)
   standAt pos
   holding [v,ov,iv] (setItem ov iv v)
   release [v,ov,iv] []):=by intro _;rfl):PG X (.Subscript o i pos) (BJ to ti t):=by
 intro pins s σ H v u Q I r h;rw[ha];refine zn (QJ (thn (ho pins s σ H _ I h) λov s1 ⟨x,H1,I1,r1,q1⟩=>?_));refine zn (QJ (thn (hi pins s1 σ H1 _ I1 q1) λiv s2 ⟨y,H2,I2,r2,q2⟩=>?_));refine zn (JX (zn (QJ (thn (hs pins s2 σ H2 x y v ov iv u _ I2 r1 r2 r q2) λ_ s3 ⟨H3,I3,q3⟩=>?_))));exact wpAny_release ⟨σ,H3,I3,q3⟩
def Bi(te:TE)(g:TG):TS:=λD σ H=>te σ H λx H1=>g x σ H1 D.nx
theorem sI{tg e:Expr}{te:TE}{g:TG}(he:PE X e te)(hg:PG X tg g)(hs:swapsWithSole [tg] e pos.line X.env=pure false:=by rfl)(hw:swappedStores [tg] e X.env=pure none:=by rfl)
  (h1:(QU [tg] X.env).map (·.2)=[Zu tg X.env]:=by rfl):PS X (.Assign [tg] e pos) (Bi te g):=by
 intro pins s σ H D I h;refine wpAny_Assign_stores (thn (he pins s σ H _ I h) λv s1 ⟨x,H1,I1,r1,q1⟩=>?_) hs hw;rw[h1];exact thn (hg pins s1 σ H1 x v _ I1 r1 q1) λ_ s2 q=>q
theorem kZ{i:Nat}{x:Str}{e:Expr}{te:TE}{pos':Pos}(hN:X.N.Nodup)(hi:X.N[i]?=some x)(hx:Loc X.env.scope x)(he:PE X e te)(hs:ZB e (some (.Name x pos')) pos.line X.env=pure false:=by rfl)(hf:X.fn x=true\/X.env.scope.names.lookup x=some .local:=by first | exact .inl rfl | exact .inr rfl | assumption) :
  PS X (.Assign [.Name x pos'] e pos) (Bi te (ye i)):=by
 intro pins s σ H D I h;refine wpAny_Assign_Name (thn (he pins s σ H _ I h) λv s1 ⟨y,H1,I1,r1,q1⟩=>?_) hs;exact eV I1 hN hi hx r1 (λs2 I2=>⟨_,H1,I2,q1⟩) hf
def B2(i j:Nat)(ta:TA):TS:=λD σ H=>ta σ H λvs H1=>∃v w,vs=[v,w]/\D.nx ((σ.set i (some v)).set j (some w)) H1
theorem zY{i j:Nat}{x y:Str}{a b:Expr}{ta:TA}{px py pt:Pos}{kt k2 pt2}(hc:X.calm=true)(hN:X.N.Nodup)(hi:X.N[i]?=some x)(hj:X.N[j]?=some y)(hij:i≠j)
  (hx:X.env.scope.names.lookup x=some .local) (hy:X.env.scope.names.lookup y=some .local) (ha:PA X [a,b] ta)
  (hw:swappedStores [.Tuple [.Name x px,.Name y py] kt pt] (.Tuple [a,b] k2 pt2) X.env=pure (some [x,y]))
  (hs:swapsWithSole [.Tuple [.Name x px,.Name y py] kt pt] (.Tuple [a,b] k2 pt2) pos.line X.env=pure false:=by rfl) :
  PS X (.Assign [.Tuple [.Name x px,.Name y py] kt pt] (.Tuple [a,b] k2 pt2) pos) (B2 i j ta):=by
 intro pins s σ H D I h;rw[exec_Assign_arm];refine zn (JX ?_);rw[hs];refine zn (wn ?_);rw[if_neg (by decide)];refine zn (Tuple_ (thn (ha _ pins s σ H _ I h) λus s1 ⟨vs,H1,I1,r1,q1⟩=>?_));obtain⟨v,w,e1,q1⟩:=q1;subst e1
 obtain⟨u1,u2,rfl,rv,rw'⟩:∃u1 u2,us=[u1,u2]/\aQ v u1/\aQ w u2:=by
  cases r1 with
  |cons p q=>
   cases q with
   |cons p' q'=>
    cases q';exact⟨_,_,rfl,p,p'⟩
 refine QG ?_ (by show 2<=Qt;decide);have I2:Inv X pins σ H1 { s1 with heap:=s1.heap.push { cls:=.type "tuple",data:=.seq [u1,u2].toArray } }:=I1.kept (t':=s1.toks) λb o e=>wf _ e;rw[hw];refine zn (wn ?_);show wE (Qa X.prog X.w) X.A (do rule "assign.swapped-stores";let items<-unpackItems (.ref s1.heap.objs.size) 2 none;assignInOrder [λv=>bindName X.env y v,λv=>bindName X.env x v] items.reverse;pure Flow.next) _ _ _;refine zn (ZQ (zn (unpackItems_tuple (items:=#[u1,u2]) (I.ok.hd hc) (IsTup.new s1.heap _) λh' hx'=>?_)));have I3:=I2.kept (h':=h') (t':=s1.toks) λb o e=>hx' b o (Qu (Qb e)) e;show wE _ _ (assignInOrder [λv=>bindName X.env y v,λv=>bindName X.env x v] [u2,u1]>>=λ_=>pure Flow.next) _ _ _;refine zn (assignInOrder_cons (wpAny_bindName (eV I3 hN hj (.inl hy) rw' (λs2 I4=>?_) (.inr hy))));refine assignInOrder_cons (wpAny_bindName (eV I4 hN hi (.inl hx) rv (λs3 I5=>assignInOrder_nil (wn ?_)) (.inr hx)));rw[List.set_comm _ _ (Ne.symm hij)] at I5;exact⟨_,H1,I5,q1⟩
end
structure It where
 go:Nat->Hp->Prop
 yld:Nat->Hp->V->Hp->Prop
 stop:Nat->Hp->Prop
def fQ(X:Cx)(pins:List (Addr×Obj))(H:Hp)(b:Addr):Prop:=
 H b=none/\b≠X.env.locals/\b∉X.fs/\(b∈X.ex\/X.s₀.heap.objs.size<=b)/\(∀x c,X.env.cells.lookup x=some c->c≠b)/\∀p∈X.pn++pins,p.1≠b
theorem Inv.fpOk{X:Cx}{pins:List (Addr×Obj)}{σ:St}{H H':Hp}{s:v6}{b:Addr}(I:Inv X pins σ H s)(hb:s.heap.objs.size<=b)(hn:H' b=none):fQ X pins H' b:=by
 refine⟨hn,Nat.ne_of_gt (Qw I.lt hb),I.nofs hb,.inr (QO I.sz hb),λx c e z=>?_,λp hp z=>?_⟩
 ·obtain⟨v,q⟩:=I.cell x c e
  exact absurd (Qw q.lt (by rw[z];exact hb)) (Jl _)
 ·exact absurd (Qw (Qb (I.pin p hp).1) (by rw[z];exact hb)) (Jl _)
structure Turn(P:Qs)(w:QC)(K:v0)(tg:Expr)(J:It)(fp:List Addr)(it:Addr)(tn:Nat->Heap->Prop):Prop where
 mem:it∈fp
 obj:∀i h,tn i h->∀b∈fp,∃o,h.get? b=some o/\∀v,o.data≠.cell v
 keep:∀i h h',tn i h->(∀b∈fp,∀o,h.get? b=some o->h'.get? b=some o)->tn i h'
 item:∀(X:Cx),X.prog=P->X.w=w->X.K=K->X.calm=true->∀(i:Nat) (pins:List (Addr×Obj)) (s:v6) (σ:St) (H:Hp) (E:vv->v6->Prop),Inv X pins σ H s->(∀b∈fp,fQ X pins H b)->tn i s.heap->J.go i H->
  wE (Qa P w) X.A (pyNext (.ref it)) (λr s1=>∃u,r=some u/\
   wE (Qa P w) X.A (Z5 tg (.ref it) u) (λ_ s2=>∃x H',Inv X pins σ H' s2/\aQ x u/\J.yld i H x H'/\tn (i+1) s2.heap/\∀b∈fp,H' b=none) E s1) E s
 done:∀(X:Cx),X.prog=P->X.w=w->X.K=K->X.calm=true->∀(i:Nat) (pins:List (Addr×Obj)) (s:v6) (σ:St) (H:Hp) (E:vv->v6->Prop),Inv X pins σ H s->(∀b∈fp,fQ X pins H b)->tn i s.heap->J.stop i H->
  wE (Qa P w) X.A (pyNext (.ref it)) (λr s1=>r=none/\Inv X pins σ H s1) E s
 self:∀(A:Qy) (i:Nat) (s:v6) (Q:vv->v6->Prop) (E:vv->v6->Prop),tn i s.heap->Q (.ref it) s->wE (Qa P w) A (pyIter (.ref it)) Q E s
abbrev TI:=St->Hp->(It->Hp->Prop)->Prop
def PIE(X:Cx)(pins:List (Addr×Obj))(σ:St)(tg:Expr)(R:It->Hp->Prop)(itv:vv)(s2:v6):Prop:=
 ∃(it:Addr) (fp:List Addr) (tn:Nat->Heap->Prop) (J:It) (H':Hp),itv=.ref it/\Inv X pins σ H' s2/\Turn X.prog X.w X.K tg J fp it tn/\tn 0 s2.heap/\(∀b∈fp,fQ X pins H' b)/\R J H'
def PI(X:Cx)(tg iter:Expr)(wi:TI):Prop:=
 ∀(pins:List (Addr×Obj)) (s:v6) (σ:St) (H:Hp) (R:It->Hp->Prop),Inv X pins σ H s->wi σ H R->
  wE (Qa X.prog X.w) X.A (eval iter X.env) (λv s1=>wE (Qa X.prog X.w) X.A (pyIter v) (PIE X pins σ tg R) X.xe s1) X.xe s
theorem qy{M:Model}{A:Qy}{E:vv->v6->Prop}{s:v6}{tg:Expr}{it:Addr}{u:vv}{o:Obj}{n:String}{vs:Array vv}{Q:Unit->v6->Prop}(ho:s.heap.get? it=some o)(hc:o.cls=.type n)(hd:o.data=.fields vs)
  (hn:["enumerate","zip","dict_itemiterator","dict_reverseitemiterator","odict_iterator","itertools.zip_longest","itertools.pairwise"].contains n=false) (hQ:Q () s):wE M A (Z5 tg (.ref it) u) Q E s:=by
 unfold Z5
 cases tg<;>first
  |exact wn hQ
  |(cases u<;>first
    |exact wn hQ
    |(refine zn (wpAny_load ho ?_)
      rw[hc,hd];show wE M A (if(["enumerate","zip","dict_itemiterator","dict_reverseitemiterator","odict_iterator","itertools.zip_longest","itertools.pairwise"].contains n&&vs[0]?==some (rawInt _))=true then _ else _) Q E s;rw[if_neg (by intro h;rw[hn,Bool.false_and] at h;cases h)]
      exact wn hQ))
def Itl(K:v0)(a:Addr):It:=
 ⟨λi H=>∃xs x,SqL K H a xs/\xs[i]?=some x,λi H x H'=>H'=H/\∀xs,SqL K H a xs->xs[i]?=some x,λi H=>∃xs,SqL K H a xs/\xs.length<=i⟩
def Itt(K:v0)(a:Addr):It:=
 ⟨λi H=>∃xs x,SqT K H a xs/\xs[i]?=some x,λi H x H'=>H'=H/\∀xs,SqT K H a xs->xs[i]?=some x,λi H=>∃xs,SqT K H a xs/\xs.length<=i⟩
def Itr(lo:Int)(n:Nat):It:=⟨λi _=>i<n,λi H x H'=>H'=H/\x=.int (lo+i),λi _=>n<=i⟩
theorem qY{P:Qs}{w:QC}{K:v0}{tg:Expr}(a it:Addr):Turn P w K tg (Itl K a) [it] it (λi h=>h.IsListIter it a i) where
 mem:=by simp
 obj:=λi h st b hb=>by
  have e:b=it:=by simpa using hb
  subst e;obtain⟨o,e,c,d⟩:=st;exact⟨o,e,λv z=>by rw[d] at z;cases z⟩
 keep:=λi h h' st k=>st.at λo e=>k it (by simp) o e
 item:=by
  intro X hP hw hK hc i pins s σ H E I hf st hg;subst hP hw hK;obtain⟨xs,x,hq,hx⟩:=hg;obtain⟨its,rv,p,hz⟩:=I.list hq;obtain⟨u,hu,ru⟩:=rv.get hx;obtain⟨f0,f1,f2,f3,f4,f5⟩:=hf it (by simp);refine wpAny_pyNext_list_item st p.isList (x:=u) (by simpa using hu) λh' st' sb=>?_;have I1:Inv X pins σ H { s with heap:=h' }:=I.turned (t':=s.toks) (λb o hb e=>(sb.2 b hb).trans e) f0 f1 f3 f4 f5;obtain⟨o,e,c,d⟩:=id st';exact⟨u,rfl,qy (s:={ s with heap:=h' }) e c d (by decide) ⟨x,H,I1,ru,⟨rfl,λys hy=>by rw[I.list_inj hy hq];exact hx⟩,st',λb hb=>(hf b hb).1⟩⟩
 done:=by
  intro X hP hw hK hc i pins s σ H E I hf st hg;subst hP hw hK;obtain⟨xs,hq,hx⟩:=hg;obtain⟨its,rv,p,hz⟩:=I.list hq;obtain⟨f0,f1,f2,f3,f4,f5⟩:=hf it (by simp);have hl:=rv.length;exact wpAny_pyNext_list_end (I.ok.hd hc) st p.isList (by simp;lia) λh' eb=>⟨rfl,I.turned (t':=s.toks) (λb o hb e=>eb b o hb e) f0 f1 f3 f4 f5⟩
 self:=λ_ _ _ _ _ st h=>wpAny_pyIter_listiter st h
theorem n9{P:Qs}{w:QC}{K:v0}{tg:Expr}(a it:Addr):Turn P w K tg (Itt K a) [it] it (λi h=>h.IsTupleIter it a i) where
 mem:=by simp
 obj:=λi h st b hb=>by
  have e:b=it:=by simpa using hb
  subst e;obtain⟨o,e,c,d⟩:=st;exact⟨o,e,λv z=>by rw[d] at z;cases z⟩
 keep:=λi h h' st k=>st.at λo e=>k it (by simp) o e
 item:=by
  intro X hP hw hK hc i pins s σ H E I hf st hg;subst hP hw hK;obtain⟨xs,x,hq,hx⟩:=hg;obtain⟨its,rv,p,hz⟩:=I.tuple hq;obtain⟨u,hu,ru⟩:=rv.get hx;obtain⟨f0,f1,f2,f3,f4,f5⟩:=hf it (by simp);refine wpAny_pyNext_tuple_item st (show s.heap.IsTuple a its.toArray from p) (x:=u) (by simpa using hu) λh' st' sb=>?_;have I1:Inv X pins σ H { s with heap:=h' }:=I.turned (t':=s.toks) (λb o hb e=>(sb.2 b hb).trans e) f0 f1 f3 f4 f5;obtain⟨o,e,c,d⟩:=id st';exact⟨u,rfl,qy (s:={ s with heap:=h' }) e c d (by decide) ⟨x,H,I1,ru,⟨rfl,λys hy=>by rw[I.tuple_inj hy hq];exact hx⟩,st',λb hb=>(hf b hb).1⟩⟩
 done:=by
  intro X hP hw hK hc i pins s σ H E I hf st hg;subst hP hw hK;obtain⟨xs,hq,hx⟩:=hg;obtain⟨its,rv,p,hz⟩:=I.tuple hq;obtain⟨f0,f1,f2,f3,f4,f5⟩:=hf it (by simp);have hl:=rv.length;exact wpAny_pyNext_tuple_end (I.ok.hd hc) st (show s.heap.IsTuple a its.toArray from p) (by simp;lia) λh' eb=>⟨rfl,I.turned (t':=s.toks) (λb o hb e=>eb b o hb e) f0 f1 f3 f4 f5⟩
 self:=λ_ _ _ _ _ st h=>wpAny_pyIter_tupleiter st h
theorem n_{P:Qs}{w:QC}{K:v0}{tg:Expr}(it:Addr)(lo:Int)(n:Nat):Turn P w K tg (Itr lo n) [it] it (λi h=>IsRangeIter h it (lo+(i:Nat)*1) ((n:Int)-(i:Nat)) 1) where
 mem:=by simp
 obj:=λi h st b hb=>by
  have e:b=it:=by simpa using hb
  subst e
  exact⟨_,st,λv z=>by
   have z':Data.fields _=Data.cell v:=z
   cases z'⟩
 keep:=λi h h' st k=>k it (by simp) _ st
 item:=by
  intro X hP hw hK hc i pins s σ H E I hf st hg;subst hP hw hK;obtain⟨f0,f1,f2,f3,f4,f5⟩:=hf it (by simp);have W:=Walks.range (prog:=X.prog) (w:=X.w) (I.ok.hd hc) it lo 1 n;refine W.item i s _ _ hg st λv h' tk hv st' kk=>?_;obtain⟨t,rfl⟩:=hv;have I1:Inv X pins σ H { s with heap:=h',toks:=tk }:=I.turned (λb o hb e=>kk b o (by simpa using hb) e) f0 f1 f3 f4 f5;refine⟨_,rfl,qy (s:={ s with heap:=h',toks:=tk }) (n:="range_iterator") st' rfl rfl (by decide) ⟨.int (lo+i),H,I1,⟨t,?_⟩,⟨rfl,rfl⟩,st',λb hb=>(hf b hb).1⟩⟩;rw[Int.mul_one]
 done:=by
  intro X hP hw hK hc i pins s σ H E I hf st hg;subst hP hw hK;obtain⟨f0,f1,f2,f3,f4,f5⟩:=hf it (by simp);exact wpAny_pyNext_range_end (I.ok.hd hc) st (by have:n<=i:=hg;lia) λh' eb=>⟨rfl,I.turned (t':=s.toks) (λb o hb e=>eb b o hb e) f0 f1 f3 f4 f5⟩
 self:=λ_ _ _ _ _ st h=>wpAny_pyIter_rangeiter st h
section
variable{X:Cx}{tg:Expr}
def Bf(K:v0)(tl:TE):TI:=λσ H R=>tl σ H λx H1=>∃a,x=.ref a/\(∃xs,SqL K H1 a xs)/\R (Itl K a) H1
def BQ(K:v0)(tl:TE):TI:=λσ H R=>tl σ H λx H1=>∃a,x=.ref a/\(∃xs,SqT K H1 a xs)/\R (Itt K a) H1
theorem vP{l:Expr}{tl:TE}(hl:PE X l tl):PI X tg l (Bf X.K tl):=by
 intro pins s σ H R I h;refine thn (hl pins s σ H _ I h) λv s1 ⟨x,H1,I1,r1,q1⟩=>?_;obtain⟨a,e,⟨xs,hq⟩,q⟩:=q1;subst e;cases r1;obtain⟨its,rv,p,hz⟩:=I1.list hq;refine wpAny_pyIter_list p.isList ?_;refine⟨s1.heap.objs.size,[s1.heap.objs.size],_,_,H1,rfl,I1.kept (t':=s1.toks) λb o e=>wf _ e,qY a _,⟨_,Qf _ rfl,rfl,rfl⟩,λb hb=>?_,q⟩;have e:b=s1.heap.objs.size:=by simpa using hb
 subst e;exact I1.fpOk (wp _) (I1.hok.fresh (wp _))
theorem zB{l:Expr}{tl:TE}(hl:PE X l tl):PI X tg l (BQ X.K tl):=by
 intro pins s σ H R I h;refine thn (hl pins s σ H _ I h) λv s1 ⟨x,H1,I1,r1,q1⟩=>?_;obtain⟨a,e,⟨xs,hq⟩,q⟩:=q1;subst e;cases r1;obtain⟨its,rv,p,hz⟩:=I1.tuple hq;refine wpAny_pyIter_tuple (show s1.heap.IsTuple a its.toArray from p) ?_;refine⟨s1.heap.objs.size,[s1.heap.objs.size],_,_,H1,rfl,I1.kept (t':=s1.toks) λb o e=>wf _ e,n9 a _,⟨_,Qf _ rfl,rfl,rfl⟩,λb hb=>?_,q⟩;have e:b=s1.heap.objs.size:=by simpa using hb
 subst e;exact I1.fpOk (wp _) (I1.hok.fresh (wp _))
theorem uh{pins:List (Addr×Obj)}{σ:St}{H:Hp}{s:v6}{R:It->Hp->Prop}{E:vv->v6->Prop}{lo hi:Int}{t u v:Tok}{tk:Nat}(I:Inv X pins σ H s)(h1:-(2 ^ 62)<=lo)(h2:lo<2 ^ 62)(h3:-(2 ^ 62)<=hi)(h4:hi<2 ^ 62)
  (q:R (Itr lo (hi-lo).toNat) H):wE (Qa X.prog X.w) X.A (pyIter (.ref s.heap.objs.size)) (PIE X pins σ tg R) E { s with heap:=s.heap.push { cls:=.type "range",data:=.fields #[.int lo t,.int hi u,.int 1 v] },toks:=tk }:=by
 refine wpAny_pyIter_range (IsRange.new ..) (small_one h1 h2 h3 h4) ?_;have I1:Inv X pins σ H { s with heap:=s.heap.push { cls:=.type "range",data:=.fields #[.int lo t,.int hi u,.int 1 v] },toks:=tk }:=I.kept λb o e=>wf _ e
 refine⟨(s.heap.push { cls:=.type "range",data:=.fields #[.int lo t,.int hi u,.int 1 v] }).objs.size,[(s.heap.push { cls:=.type "range",data:=.fields #[.int lo t,.int hi u,.int 1 v] }).objs.size],_,_,H,rfl,
  I1.kept (t':=tk) λb o e=>wf _ e,n_ _ lo (hi-lo).toNat,?_,λb hb=>?_,q⟩
 ·have e1:lo+((0:Nat):Int)*1=lo:=by simp
  have e2:(((hi-lo).toNat:Nat):Int)-((0:Nat):Int)=Builtin.Range.rangeSize lo hi 1:=by rw[rangeSize_one];split<;>lia
  show IsRangeIter _ _ (lo+((0:Nat):Int)*1) ((((hi-lo).toNat:Nat):Int)-((0:Nat):Int)) 1;rw[e1,e2];exact Qf _ rfl
 ·have e:b=(s.heap.push { cls:=.type "range",data:=.fields #[.int lo t,.int hi u,.int 1 v] }).objs.size:=by simpa using hb
  subst e;exact I1.fpOk (wp _) (I1.hok.fresh (wp _))
def AY(ta:TA):TI:=λσ H R=>ta σ H λvs H1=>∃j:Int,vs=[.int j]/\-(2 ^ 62)<=j/\j<2 ^ 62/\R (Itr 0 j.toNat) H1
theorem qN{a:Expr}{ta:TA}{p pos:Pos}(hg:Gl X "range")(hm:X.mg "range" = none)(ha:PA X [a] ta)(hs:uk [a] X.env=[(false,eval a X.env)]:=by rfl):PI X tg (.Call (.Name "range" p) [a] [] pos) (AY ta):=by
 intro pins s σ H R I h;refine Call_ (d7 I hg hm boot_range (Jh (thn (ha pos pins s σ H _ I h) λus s1 ⟨vs,H1,I1,r1,q1⟩=>?_) hs rfl));obtain⟨j,e,q1,q2,q⟩:=q1;subst e;cases r1 with
 |cons r rr=>
  cases rr;obtain⟨t,rfl⟩:=r;exact call_range_1 (uh I1 (by lia) (by lia) q1 q2 (by simpa using q))
def BK(wi:TI)(g:TG)(tb:TS):TS:=λD σ H=>wi σ H λJ H1=>∃W:Nat->Nat->St->Hp->Prop,(∃m,W 0 m σ H1)/\∀i m σ H,W i m σ H->
 (J.stop i H/\D.nx σ H)\/(J.go i H/\∃N:St->Hp->Prop,(∀σ' H',N σ' H'->∃m',m'<m/\W (i+1) m' σ' H')/\∀x H',J.yld i H x H'->g x σ H' λσ2 H2=>tb { D with nx:=N,ct:=N,bk:=D.nx } σ2 H2)
def ig(fp:List Addr)(h:Heap):List (Addr×Obj):=fp.filterMap λb=>(h.get? b).map λo=>(b,o)
theorem cu{fp:List Addr}{h:Heap}{b:Addr}{o:Obj}(hb:b∈fp)(e:h.get? b=some o):(b,o)∈ig fp h:=List.mem_filterMap.mpr ⟨b,hb,by rw[e];rfl⟩
theorem sd{fp:List Addr}{h:Heap}{p:Addr×Obj}(hp:p∈ig fp h):p.1∈fp/\h.get? p.1=some p.2:=by
 obtain⟨b,hb,e⟩:=List.mem_filterMap.mp hp;cases q:h.get? b with
 |none=>rw[q] at e;cases e
 |some o=>
  rw[q] at e;have e':(b,o)=p:=Option.some.inj e;subst e';exact⟨hb,q⟩
theorem Inv.pinned{pins:List (Addr×Obj)}{σ:St}{H:Hp}{s:v6}{fp:List Addr}(I:Inv X pins σ H s)(hf:∀b∈fp,fQ X pins H b)(ho:∀b∈fp,∃o,s.heap.get? b=some o/\∀v,o.data≠.cell v):Inv X (pins++ig fp s.heap) σ H s:=
 I.pins_of λp hp=>(Qn.mp hp).elim (λz=>I.pin p (Ql _ z)) λz=>by
  obtain⟨hb,e⟩:=sd z;obtain⟨f0,f1,f2,_⟩:=hf p.1 hb;obtain⟨o,e',d⟩:=ho p.1 hb;rw[e] at e';cases e';exact⟨e,f0,f1,f2,d⟩
theorem Inv.unpinned{pins pl:List (Addr×Obj)}{σ:St}{H:Hp}{s:v6}(I:Inv X (pins++pl) σ H s):Inv X pins σ H s:=I.pins_of λp hp=>I.pin p (Ql _ (ZP _ hp))
theorem su{iter:Expr}{body:List Stmt}{wi:TI}{g:TG}{tb:TS}{pos:Pos}(hp:PassesOwn (Qa X.prog X.w) X.A X.env X.xe)(hc:X.calm=true)(hi:PI X tg iter wi)(hg:PG X tg g)(hb:PSs X body tb)
  (hs:∀x,JV iter X.env x=pure x:=by intro _;rfl):PS X (.For tg iter body [] pos) (BK wi g tb):=by
 intro pins s σ H D I h;refine wpAny_For (thn (hi pins s σ H _ I h) λv s1 h1=>thn h1 λitv s2 h2=>?_) hs;obtain⟨it,fp,tn,J,H2,e,I2,T,st2,f2,W,⟨m0,w0⟩,turn⟩:=h2;subst e;have stat:∀{H':Hp},(∀b∈fp,H' b=none)->∀b∈fp,fQ X pins H' b:=λhn b hb=>⟨hn b hb,(f2 b hb).2⟩;refine codeAny_forLoop_any (λn s'=>∃i σ' H',Inv X pins σ' H' s'/\tn i s'.heap/\(∀b∈fp,H' b=none)/\W i n σ' H') ?_ m0 ⟨0,σ,H2,I2,st2,λb hb=>(f2 b hb).1,w0⟩;rintro n s3 ⟨i,σ3,H3,I3,st3,fr3,w3⟩;rcases turn i n σ3 H3 w3 with⟨stop,qn⟩ | ⟨go,N,hN,step⟩
 ·refine Z6 hp (thn (T.done X rfl rfl rfl hc i pins s3 σ3 H3 X.xe I3 (stat fr3) st3 stop) λr s4 ⟨hr,I4⟩=>?_)
  subst hr;exact wpAny_execs_nil ⟨σ3,H3,I4,qn⟩
 ·refine Z6 hp (thn (T.item X rfl rfl rfl hc i pins s3 σ3 H3 X.xe I3 (stat fr3) st3 go) λr s4 ⟨u,hr,h4⟩=>?_)
  subst hr;refine Z6 hp (thn h4 λ_ s5 ⟨x,H5,I5,r5,y5,st5,fr5⟩=>?_);have I5':=I5.pinned (stat fr5) (T.obj _ _ st5);refine Z6 hp (thn (hg _ s5 σ3 H5 x u _ I5' r5 (step x H5 y5)) λ_ s6 ⟨σ6,H6,I6,q6⟩=>?_);refine Z6 hp (thn (hb _ s6 σ6 H6 _ I6 q6) λf s7 q7=>?_)
  have again:∀{σ7:St} {H7:Hp},Inv X (pins++ig fp s5.heap) σ7 H7 s7->N σ7 H7->∃m,m<n/\∃i σ' H',Inv X pins σ' H' s7/\tn i s7.heap/\(∀b∈fp,H' b=none)/\W i m σ' H':=λ{σ7 H7} I7 n7=>by
   obtain⟨m',hm,w7⟩:=hN σ7 H7 n7;refine⟨m',hm,i+1,σ7,H7,I7.unpinned,T.keep _ _ _ st5 λb hb o e=>(I7.pin (b,o) (Ql _ (Ql _ (cu hb e)))).1,λb hb=>?_,w7⟩;obtain⟨o,e,d⟩:=T.obj _ _ st5 b hb;exact(I7.pin (b,o) (Ql _ (Ql _ (cu hb e)))).2.1
  cases f with
  |next=>obtain⟨σ7,H7,I7,n7⟩:=q7;exact again I7 n7
  |cont=>obtain⟨σ7,H7,I7,n7⟩:=q7;exact again I7 n7
  |brk=>obtain⟨σ7,H7,I7,q7⟩:=q7;exact⟨σ7,H7,I7.unpinned,q7⟩
  |ret v=>obtain⟨x7,σ7,H7,I7,r7,q7⟩:=q7;exact⟨x7,σ7,H7,I7.unpinned,r7,q7⟩
end
abbrev R2:=V->V->Hp->VK->Prop
def OpR(X:Cx)(f:vv->vv->Sem vv)(r:R2):Prop:=
 ∀(pins:List (Addr×Obj)) (s:v6) (σ:St) (H:Hp) (x y:V) (v u:vv) (Q:VK),Inv X pins σ H s->aQ x v->aQ y u->r x y H Q->
  wE (Qa X.prog X.w) X.A (f v u) (EP X pins σ Q) X.xe s
def UnR(X:Cx)(f:vv->Sem vv)(r:V->Hp->VK->Prop):Prop:=
 ∀(pins:List (Addr×Obj)) (s:v6) (σ:St) (H:Hp) (x:V) (v:vv) (Q:VK),Inv X pins σ H s->aQ x v->r x H Q->
  wE (Qa X.prog X.w) X.A (f v) (EP X pins σ Q) X.xe s
def dA(X:Cx)(f:vv)(r:List V->Hp->VK->Prop):Prop:=
 ∀(pins:List (Addr×Obj)) (s:v6) (σ:St) (H:Hp) (xs:List V) (us:List vv) (Q:VK),Inv X pins σ H s->aK xs us->r xs H Q->
  wE (Qa X.prog X.w) X.A (call f us) (EP X pins σ Q) X.xe s
def B8(X:Cx)(r:V->Hp->(Bool->Hp->Prop)->Prop):Prop:=
 ∀(pins:List (Addr×Obj)) (s:v6) (σ:St) (H:Hp) (x:V) (v:vv) (Q:Bool->Hp->Prop),Inv X pins σ H s->aQ x v->r x H Q->
  wE (Qa X.prog X.w) X.A (truthy v) (TP X pins σ Q) X.xe s
def tOp(r:R2)(ta tb:TE):TE:=λσ H Q=>ta σ H λx H1=>tb σ H1 λy H2=>r x y H2 Q
def tUn(r:V->Hp->VK->Prop)(ta:TE):TE:=λσ H Q=>ta σ H λx H1=>r x H1 Q
def rI(C:Int->Int->Prop)(g:Int->Int->V):R2:=λx y H Q=>∃i j,x=.int i/\y=.int j/\C i j/\Q (g i j) H
def rI0(g:Int->Int->V):R2:=λx y H Q=>∃i j,x=.int i/\y=.int j/\Q (g i j) H
def rU(g:Int->V):V->Hp->VK->Prop:=λx H Q=>∃i,x=.int i/\Q (g i) H
section
variable{X:Cx}{a b c:Expr}{ta tb tc:TE}{pos:Pos}
theorem yO(ha:PE X a ta)(hb:PE X b tb){pins:List (Addr×Obj)}{s:v6}{σ:St}{H:Hp}{R:V->V->Hp->Prop}(I:Inv X pins σ H s)
  (h:ta σ H λx H1=>tb σ H1 λy H2=>R x y H2) {Q:vv->v6->Prop} {f:vv->vv->Sem vv}
  (hf:∀v u s2 x y H2,Inv X pins σ H2 s2->aQ x v->aQ y u->R x y H2->wE (Qa X.prog X.w) X.A (f v u) Q X.xe s2) :
  wE (Qa X.prog X.w) X.A (eval a X.env) (λv s₁=>wE (Qa X.prog X.w) X.A (eval b X.env) (λu s₂=>wE (Qa X.prog X.w) X.A (f v u) Q X.xe s₂) X.xe s₁) X.xe s:=by
 refine thn (ha pins s σ H _ I h) λv s1 ⟨x,H1,I1,r1,q1⟩=>?_;refine thn (hb pins s1 σ H1 _ I1 q1) λu s2 ⟨y,H2,I2,r2,q2⟩=>?_;exact hf v u s2 x y H2 I2 r1 r2 q2
theorem Be{op:Operator}{r:R2}(ho:OpR X (Jr op) r)(ha:PE X a ta)(hb:PE X b tb):PE X (.BinOp a op b pos) (tOp r ta tb):=by
 intro pins s σ H Q I h;exact wpAny_BinOp (yO ha hb I h λv u s2 x y H2 I2 rx ry q=>ho pins s2 σ H2 x y v u Q I2 rx ry q)
theorem Bp{op:UnaryOp}{r:V->Hp->VK->Prop}(ho:UnR X (unaryOp op) r)(ha:PE X a ta):PE X (.UnaryOp op a pos) (tUn r ta):=by
 intro pins s σ H Q I h;exact UnaryOp_ (thn (ha pins s σ H _ I h) λv s1 ⟨x,H1,I1,r1,q1⟩=>ho pins s1 σ H1 x v Q I1 r1 q1)
theorem opI{f:vv->vv->Sem vv}{C:Int->Int->Prop}{g:Int->Int->Int}
  (rule:∀(i j:Int) (t u:Tok) (s:v6) (Q:vv->v6->Prop) (E:vv->v6->Prop),C i j->Q (.int (g i j) s.toks) { s with toks:=s.toks+1 }->wE (Qa X.prog X.w) X.A (f (.int i t) (.int j u)) Q E s) :
  OpR X f (rI C λi j=>.int (g i j)):=by
 intro pins s σ H x y v u Q I rx ry h;obtain⟨i,j,rfl,rfl,hc,q⟩:=h;obtain⟨t,rfl⟩:=rx;obtain⟨t',rfl⟩:=ry;exact rule i j t t' s _ _ hc ⟨.int (g i j),H,I.tok _,⟨_,rfl⟩,q⟩
theorem Ao{f:vv->vv->Sem vv}{g:Int->Int->Int}
  (rule:∀(i j:Int) (t u:Tok) (s:v6) (Q:vv->v6->Prop) (E:vv->v6->Prop),Q (.int (g i j) s.toks) { s with toks:=s.toks+1 }->wE (Qa X.prog X.w) X.A (f (.int i t) (.int j u)) Q E s) :
  OpR X f (rI0 λi j=>.int (g i j)):=by
 intro pins s σ H x y v u Q I rx ry h;obtain⟨i,j,rfl,rfl,q⟩:=h;obtain⟨t,rfl⟩:=rx;obtain⟨t',rfl⟩:=ry;exact rule i j t t' s _ _ ⟨.int (g i j),H,I.tok _,⟨_,rfl⟩,q⟩
theorem vO{f:vv->vv->Sem vv}{g:Int->Int->Bool}
  (rule:∀(i j:Int) (t u:Tok) (s:v6) (Q:vv->v6->Prop) (E:vv->v6->Prop),Q (.bool (g i j)) s->wE (Qa X.prog X.w) X.A (f (.int i t) (.int j u)) Q E s) :
  OpR X f (rI0 λi j=>.bl (g i j)):=by
 intro pins s σ H x y v u Q I rx ry h;obtain⟨i,j,rfl,rfl,q⟩:=h;obtain⟨t,rfl⟩:=rx;obtain⟨t',rfl⟩:=ry;exact rule i j t t' s _ _ ⟨.bl (g i j),H,I,rfl,q⟩
def qR(i j:Int):Prop:=0<j/\j<1073741824
def rZ(i j:Int):Prop:=0<=j/\j<=1000000/\i.natAbs<2 ^ 64
def lD(i j:Int):Prop:=(-(2 ^ 64)<i/\i<2 ^ 64)\/(-(2 ^ 64)<j/\j<2 ^ 64)
theorem lD.ok{i j:Int}(h:lD i j):IntMulOk i j:=by
 rcases h with⟨h1,h2⟩ | ⟨h1,h2⟩
 ·exact .of_left (intBits_le_64 h1 h2)
 ·exact .of_right (intBits_le_64 h1 h2)
theorem yq:OpR X (Jr .Add) (rI0 λi j=>.int (i+j)):=Ao λ_ _ _ _ _ _ _ q=>add_int q
theorem zF:OpR X (Jr .Sub) (rI0 λi j=>.int (i-j)):=Ao λ_ _ _ _ _ _ _ q=>sub_int q
theorem zT:OpR X (Jr .Mult) (rI lD λi j=>.int (i*j)):=opI λ_ _ _ _ _ _ _ hc q=>mul_int q hc.ok
theorem wY:OpR X (Jr .FloorDiv) (rI qR λi j=>.int (i/j)):=opI λi j _ _ _ _ _ hc q=>by
 have h1:(0:Int)<j:=hc.1;have h2:j<1073741824:=hc.2;exact floordiv_int (by lia) (by rw[Int.fdiv_eq_ediv_of_nonneg i (by lia)];exact q) (.inl (PyProof.noPylong_small (by lia)))
theorem y2:OpR X (Jr .Mod) (rI (λ_ j=>0<j) λi j=>.int (i%j)):=opI λi j _ _ _ _ _ hc q=>by
 have h1:(0:Int)<j:=hc;exact mod_int' (by lia) (by rw[Int.fmod_eq_emod_of_nonneg i (by lia)];exact q)
theorem zJ:OpR X (Jr .Pow) (rI rZ λi j=>.int (i ^ j.toNat)):=opI λ_ _ _ _ _ _ _ hc q=>pow_int_small hc.1 hc.2.1 hc.2.2 q
theorem unI{f:vv->Sem vv}{g:Int->Int}
  (rule:∀(i:Int) (t:Tok) (s:v6) (Q:vv->v6->Prop) (E:vv->v6->Prop),Q (.int (g i) s.toks) { s with toks:=s.toks+1 }->wE (Qa X.prog X.w) X.A (f (.int i t)) Q E s) :
  UnR X f (rU λi=>.int (g i)):=by
 intro pins s σ H x v Q I rx h;obtain⟨i,rfl,q⟩:=h;obtain⟨t,rfl⟩:=rx;exact rule i t s _ _ ⟨.int (g i),H,I.tok _,⟨_,rfl⟩,q⟩
theorem y6:UnR X (unaryOp .USub) (rU λi=>.int (-i)):=unI λ_ _ _ _ _ q=>neg_int q
end
def zr:V->V->Bool
 |.non,.non=>true | .non,.int _=>true | .int _,.non=>true | .non,.bl _=>true | .bl _,.non=>true | .non,.str _=>true | .str _,.non=>true
 |.int _,.int _=>true | .bl _,.bl _=>true | .str _,.str _=>true | .byt _,.byt _=>true
 |.int _,.str _=>true | .str _,.int _=>true | .bl _,.str _=>true | .str _,.bl _=>true
 |_,_=>false
def rEq:R2:=λx y H Q=>zr x y=true/\Q (.bl (decide (x=y))) H
def rNe:R2:=λx y H Q=>zr x y=true/\Q (.bl (!decide (x=y))) H
theorem qw{i j:Int}:decide (V.int i=V.int j)=(i==j):=by
 rw[Ze];simp
theorem sj{i j:Bool}:decide (V.bl i=V.bl j)=(i==j):=by
 rw[Ze];simp
theorem pJ{i j:Str}:decide (V.str i=V.str j)=(i==j):=by
 rw[Ze];simp
theorem pW{i j:Array UInt8}:decide (V.byt i=V.byt j)=(i.toList==j.toList):=by
 rw[Ze];cases i;cases j;simp
section
variable{X:Cx}{a b c:Expr}{ta tb tc:TE}{pos:Pos}
theorem aS{pins:List (Addr×Obj)}{σ:St}{H:Hp}{s:v6}{Q:VK}{k k':Bool}(I:Inv X pins σ H s)(q:Q (.bl k) H)(e:k=k'):EP X pins σ Q (.bool k') s:=by
 subst e;exact⟨.bl k,H,I,rfl,q⟩
theorem Ab:OpR X (QD .Eq) rEq:=by
 intro pins s σ H x y v u Q I rx ry h;obtain⟨hs,q⟩:=h;cases x with
 |non=>
  cases rx;cases y with
  |non=>cases ry;exact PySem.EqNone.eq_none_none (aS I q (by simp))
  |bl j=>cases ry;exact PySem.EqNone.eq_none_bool (aS I q (by simp))
  |int j=>obtain⟨t',rfl⟩:=ry;exact PySem.EqNone.eq_none_int (aS I q (by simp))
  |str j=>obtain⟨t',rfl⟩:=ry;exact PySem.EqNone.eq_none_str (aS I q (by simp))
  |_=>exact absurd (show false=true from hs) ww
 |bl i=>
  cases rx;cases y with
  |non=>cases ry;exact PySem.EqNone.eq_bool_none (aS I q (by simp))
  |bl j=>cases ry;exact eq_bool (aS I q sj)
  |str j=>obtain⟨t',rfl⟩:=ry;exact PySem.EqMixed.eq_bool_str (aS I q (by simp))
  |_=>exact absurd (show false=true from hs) ww
 |int i=>
  obtain⟨t,rfl⟩:=rx;cases y with
  |non=>cases ry;exact PySem.EqNone.eq_int_none (aS I q (by simp))
  |int j=>obtain⟨t',rfl⟩:=ry;exact eq_int (aS I q qw)
  |str j=>obtain⟨t',rfl⟩:=ry;exact PySem.EqMixed.eq_int_str (aS I q (by simp))
  |_=>exact absurd (show false=true from hs) ww
 |str i=>
  obtain⟨t,rfl⟩:=rx;cases y with
  |non=>cases ry;exact PySem.EqNone.eq_str_none (aS I q (by simp))
  |bl j=>cases ry;exact PySem.EqMixed.eq_str_bool (aS I q (by simp))
  |int j=>obtain⟨t',rfl⟩:=ry;exact PySem.EqMixed.eq_str_int (aS I q (by simp))
  |str j=>obtain⟨t',rfl⟩:=ry;exact eq_str (aS I q pJ)
  |_=>exact absurd (show false=true from hs) ww
 |byt i=>
  obtain⟨t,rfl⟩:=rx;cases y with
  |byt j=>obtain⟨t',rfl⟩:=ry;exact PySem.W.eq_bytes (aS I q pW)
  |_=>exact absurd (show false=true from hs) ww
 |_=>cases y<;>exact absurd (show false=true from hs) ww
theorem Bv:OpR X (QD .NotEq) rNe:=by
 intro pins s σ H x y v u Q I rx ry h;obtain⟨hs,q⟩:=h;cases x with
 |non=>
  cases rx;cases y with
  |non=>cases ry;exact PySem.EqNone.ne_none_none (aS I q (by simp))
  |bl j=>cases ry;exact PySem.EqNone.ne_none_bool (aS I q (by simp))
  |int j=>obtain⟨t',rfl⟩:=ry;exact PySem.EqNone.ne_none_int (aS I q (by simp))
  |str j=>obtain⟨t',rfl⟩:=ry;exact PySem.EqNone.ne_none_str (aS I q (by simp))
  |_=>exact absurd (show false=true from hs) ww
 |bl i=>
  cases rx;cases y with
  |non=>cases ry;exact PySem.EqNone.ne_bool_none (aS I q (by simp))
  |bl j=>cases ry;exact ne_bool (aS I q (congrArg not sj))
  |str j=>obtain⟨t',rfl⟩:=ry;exact PySem.EqMixed.ne_bool_str (aS I q (by simp))
  |_=>exact absurd (show false=true from hs) ww
 |int i=>
  obtain⟨t,rfl⟩:=rx;cases y with
  |non=>cases ry;exact PySem.EqNone.ne_int_none (aS I q (by simp))
  |int j=>obtain⟨t',rfl⟩:=ry;exact ne_int (aS I q (congrArg not qw))
  |str j=>obtain⟨t',rfl⟩:=ry;exact PySem.EqMixed.ne_int_str (aS I q (by simp))
  |_=>exact absurd (show false=true from hs) ww
 |str i=>
  obtain⟨t,rfl⟩:=rx;cases y with
  |non=>cases ry;exact PySem.EqNone.ne_str_none (aS I q (by simp))
  |bl j=>cases ry;exact PySem.EqMixed.ne_str_bool (aS I q (by simp))
  |int j=>obtain⟨t',rfl⟩:=ry;exact PySem.EqMixed.ne_str_int (aS I q (by simp))
  |str j=>obtain⟨t',rfl⟩:=ry;exact ne_str (aS I q (congrArg not pJ))
  |_=>exact absurd (show false=true from hs) ww
 |byt i=>
  obtain⟨t,rfl⟩:=rx;cases y with
  |byt j=>obtain⟨t',rfl⟩:=ry;exact PySem.W.ne_bytes (aS I q (congrArg not pW))
  |_=>exact absurd (show false=true from hs) ww
 |_=>cases y<;>exact absurd (show false=true from hs) ww
theorem Bs:OpR X (QD .Lt) (rI0 λi j=>.bl (decide (i<j))):=vO λ_ _ _ _ _ _ _ q=>lt_int q
theorem AU:OpR X (QD .LtE) (rI0 λi j=>.bl (decide (i<=j))):=vO λ_ _ _ _ _ _ _ q=>le_int q
theorem AS:OpR X (QD .Gt) (rI0 λi j=>.bl (decide (j<i))):=vO λ_ _ _ _ _ _ _ q=>gt_int q
theorem AZ:OpR X (QD .GtE) (rI0 λi j=>.bl (decide (j<=i))):=vO λ_ _ _ _ _ _ _ q=>ge_int q
theorem yD:OpR X (QD .Is) (λx y H Q=>y=.non/\Q (.bl (decide (x=.non))) H):=by
 intro pins s σ H x y v u Q I rx ry h;obtain⟨rfl,q⟩:=h;cases ry;refine is_none_gen (aS I q ?_)
 cases x<;>first
  |(cases rx;rfl)
  |(obtain⟨t,rfl⟩:=rx;rfl)
theorem OpR.or{f:vv->vv->Sem vv}{r r':R2}(h:OpR X f r)(h':OpR X f r'):OpR X f (λx y H Q=>r x y H Q\/r' x y H Q):=by
 intro pins s σ H x y v u Q I rx ry q;rcases q with q | q
 ·exact h pins s σ H x y v u Q I rx ry q
 ·exact h' pins s σ H x y v u Q I rx ry q
theorem aM(b:Expr){op:CmpOp}(h:op≠.In:=by decide)(h2:op≠.NotIn:=by decide):Zi op b=false:=by
 have e1:(op==CmpOp.In)=false:=by cases op<;>first | rfl | exact absurd rfl h
 have e2:(op==CmpOp.NotIn)=false:=by cases op<;>first | rfl | exact absurd rfl h2
 cases b<;>simp[Zi,e1,e2]
theorem wK{op:CmpOp}{r:R2}(ho:OpR X (QD op) r)(ha:PE X a ta)(hb:PE X b tb)(hm:Zi op b=false):PE X (.Compare a [op] [b] pos) (tOp r ta tb):=by
 intro pins s σ H Q I h;exact wpAny_Compare1 (yO ha hb I h λv u s2 x y H2 I2 rx ry q=>ho pins s2 σ H2 x y v u Q I2 rx ry q) hm
def xZ(t:TE):TT:=λσ H Q=>t σ H λx H'=>∃k,x=.bl k/\Q k H'
theorem oZ{op:CmpOp}{r:R2}(ho:OpR X (QD op) r)(ha:PE X a ta)(hb:PE X b tb)(hm:Zi op b=false):PT X (.Compare a [op] [b] pos) (xZ (tOp r ta tb)):=by
 intro pins s σ H Q I h
 refine wpAny_isTrue_Compare1 (thn (ha pins s σ H _ I h) λv s1 ⟨x,H1,I1,r1,q1⟩=>thn (hb pins s1 σ H1 _ I1 q1) λu s2 ⟨y,H2,I2,r2,q2⟩=>
  thn (ho pins s2 σ H2 x y v u _ I2 r1 r2 q2) λc s3 ⟨z,H3,I3,r3,k,e,q3⟩=>?_) hm
 subst e;cases r3;exact JD ⟨H3,I3,q3⟩
def tY(r r':R2)(ta tb tc:TE):TE:=λσ H Q=>ta σ H λx H1=>tb σ H1 λy H2=>r x y H2 λz H3=>∃k,z=.bl k/\
 (if k=true then tc σ H3 λw' H4=>r' y w' H4 Q else Q (.bl false) H3)
theorem uL{op op':CmpOp}{r r':R2}(ho:OpR X (QD op) r)(ho':OpR X (QD op') r')(ha:PE X a ta)(hb:PE X b tb)(hc:PE X c tc)
  (hm:lastMarks [op,op'] [b,c]=false:=by with_unfolding_all rfl):PE X (.Compare a [op,op'] [b,c] pos) (tY r r' ta tb tc):=by
 intro pins s σ H Q I h
 refine Compare_chain (thn (ha pins s σ H _ I h) λv s1 ⟨x,H1,I1,r1,q1⟩=>chain_link (thn (hb pins s1 σ H1 _ I1 q1) λu s2 ⟨y,H2,I2,r2,q2⟩=>
  thn (ho pins s2 σ H2 x y v u _ I2 r1 r2 q2) λd s3 ⟨z,H3,I3,r3,k,e,q3⟩=>?_)) hm
 subst e;cases r3;refine JD ?_;cases k with
 |false=>exact ite_ff ⟨.bl false,H3,I3,rfl,q3⟩
 |true=>exact ite_tt (chain_last (thn (hc pins s3 σ H3 _ I3 q3) λw' s4 ⟨z',H4,I4,r4,q4⟩=>ho' pins s4 σ H4 y z' u w' Q I4 r2 r4 q4))
theorem uF{op op':CmpOp}{r r':R2}(ho:OpR X (QD op) r)(ho':OpR X (QD op') r')(ha:PE X a ta)(hb:PE X b tb)(hc:PE X c tc)
  (hm:lastMarks [op,op'] [b,c]=false:=by with_unfolding_all rfl):PT X (.Compare a [op,op'] [b,c] pos) (xZ (tY r r' ta tb tc)):=by
 intro pins s σ H Q I h
 refine isTrue_chain (thn (ha pins s σ H _ I h) λv s1 ⟨x,H1,I1,r1,q1⟩=>test_link (thn (hb pins s1 σ H1 _ I1 q1) λu s2 ⟨y,H2,I2,r2,q2⟩=>
  thn (ho pins s2 σ H2 x y v u _ I2 r1 r2 q2) λd s3 ⟨z,H3,I3,r3,k,e,q3⟩=>?_)) hm
 subst e;cases r3;refine JD ?_;cases k with
 |false=>
  obtain⟨k',e',q'⟩:=q3;cases e';exact ite_ff ⟨H3,I3,q'⟩
 |true=>
  refine ite_tt (test_last (thn (hc pins s3 σ H3 _ I3 q3) λw' s4 ⟨z',H4,I4,r4,q4⟩=>thn (ho' pins s4 σ H4 y z' u w' _ I4 r2 r4 q4) λd' s5 ⟨z2,H5,I5,r5,k2,e2,q5⟩=>?_));subst e2;cases r5;exact JD ⟨H5,I5,q5⟩
def Af(K:v0)(x:V)(H:Hp)(k:Bool):Prop:=
 match x with
 |.non=>k=false
 |.bl b=>k=b
 |.int i=>k=(i != 0)
 |.str y=>y.length<=Qt/\k=((y.length:Int) != 0)
 |.byt y=>y.size<=Qt/\k=((y.size:Int) != 0)
 |.ref p=>(∃xs,SqL K H p xs/\k = !xs.isEmpty)\/(∃xs,SqT K H p xs/\k = !xs.isEmpty)\/∃kvs,H p=some (.dK kvs)/\k = !kvs.isEmpty
 |_=>False
theorem ox{κ:Type}{kvs:List (κ×V)}{vs:List (κ×vv)}(r:KV kvs vs):(!vs.isEmpty) = !kvs.isEmpty:=by
 cases r<;>rfl
theorem jL{xs:List V}{its:List vv}(r:aK xs its):(!its.toArray.isEmpty) = !xs.isEmpty:=by
 cases r<;>simp
theorem lI:(Qt:Nat)<2 ^ 63:=by rw[sizeLine_eq];decide
theorem zV:B8 X (λx H Q=>∃k,Af X.K x H k/\Q k H):=by
 intro pins s σ H x v Q I rx h;obtain⟨k,e,q⟩:=h;have hl:=lI;have hs:Qt=16777216:=sizeLine_eq;cases x with
 |non=>
  cases rx;have e':k=false:=e;subst e';exact truthy_none ⟨H,I,q⟩
 |bl b=>
  cases rx;have e':k=b:=e;subst e';exact JD ⟨H,I,q⟩
 |int i=>
  obtain⟨t,rfl⟩:=rx;have e':k=(i != 0):=e;subst e';exact PySem.P.truthy_int ⟨H,I,q⟩
 |str y=>
  obtain⟨t,rfl⟩:=rx;obtain⟨hy,e'⟩:y.length<=Qt/\k=((y.length:Int) != 0):=e;subst e';exact PySem.P.truthy_str (by lia) ⟨H,I.tok _,q⟩
 |byt y=>
  obtain⟨t,rfl⟩:=rx;obtain⟨hy,e'⟩:y.size<=Qt/\k=((y.size:Int) != 0):=e;subst e';exact PySem.W.truthy_bytes (by lia) ⟨H,I.tok _,q⟩
 |ref p=>
  cases rx;have e':(∃xs,SqL X.K H p xs/\k = !xs.isEmpty)\/(∃xs,SqT X.K H p xs/\k = !xs.isEmpty)\/∃kvs,H p=some (.dK kvs)/\k = !kvs.isEmpty:=e;rcases e' with⟨xs,hx,e'⟩ | ⟨xs,hx,e'⟩ | ⟨kvs,hx,e'⟩
  ·subst e'
   obtain⟨its,r,pl,hz⟩:=I.list hx;have hlen:=r.length;exact wpAny_truthy_list pl.isList (by simp only[Qx];lia) ⟨H,I.tok _,by rw[jL r];exact q⟩
  ·subst e'
   obtain⟨its,r,pl,hz⟩:=I.tuple hx;have hlen:=r.length;exact truthy_tuple pl (by simp only[Qx];lia) ⟨H,I.tok _,by rw[jL r];exact q⟩
  ·subst e'
   obtain⟨hz,hS,vs,r,m⟩:kvs.length<=Qt/\(p==Ju)=false/\∃vs,KV kvs vs/\s.heap.DictOf (k7 X.prog X.w) p vs:=I.hok p _ hx;have hlen:kvs.length=vs.length:=Paired.length r;exact wpAny_truthy_dict hS m (by lia) ⟨H,I.tok _,by rw[ox r];exact q⟩
 |_=>exact(show False from e).elim
theorem sS(ha:PE X a ta)(he:∀whole,isTrue a X.env whole=(do let v<-whole;standAt a.pos;holding [v] (truthy v))) :
  PT X a (λσ H Q=>ta σ H λx H'=>∃k,Af X.K x H' k/\Q k H'):=by
 intro pins s σ H Q I h;exact isTrue_plain (thn (ha pins s σ H _ I h) λv s1 ⟨x,H1,I1,r1,q1⟩=>zV pins s1 σ H1 x v Q I1 r1 q1) (he _)
theorem AE{x:V}{us:List vv}(r:aK [x] us):∃u,us=[u]/\aQ x u:=by
 cases r with
 |cons r1 r2=>cases r2;exact⟨_,rfl,r1⟩
theorem yp{x y:V}{us:List vv}(r:aK [x,y] us):∃u w',us=[u,w']/\aQ x u/\aQ y w':=by
 cases r with
 |cons r1 r2=>
  cases r2 with
  |cons r3 r4=>cases r4;exact⟨_,_,rfl,r1,r3⟩
theorem q_(hc:X.calm=true):dA X (.builtin "max") (λxs H Q=>∃i j,xs=[.int i,.int j]/\Q (.int (if j>i then j else i)) H):=by
 intro pins s σ H xs us Q I r h;obtain⟨i,j,rfl,q⟩:=h;obtain⟨u,w',rfl,⟨t,rfl⟩,⟨t',rfl⟩⟩:=yp r;refine max_two_ints (I.ok.hd hc) λh' tk k=>⟨_,H,I.kept k,?_,q⟩
 by_cases hj:j>i
 ·rw[if_pos hj,if_pos hj];exact⟨_,rfl⟩
 ·rw[if_neg hj,if_neg hj];exact⟨_,rfl⟩
theorem qH(hc:X.calm=true):dA X (.builtin "min") (λxs H Q=>∃i j,xs=[.int i,.int j]/\Q (.int (if j<i then j else i)) H):=by
 intro pins s σ H xs us Q I r h;obtain⟨i,j,rfl,q⟩:=h;obtain⟨u,w',rfl,⟨t,rfl⟩,⟨t',rfl⟩⟩:=yp r;refine min_two_ints (I.ok.hd hc) λh' tk k=>⟨_,H,I.kept k,?_,q⟩
 by_cases hj:j<i
 ·rw[if_pos hj,if_pos hj];exact⟨_,rfl⟩
 ·rw[if_neg hj,if_neg hj];exact⟨_,rfl⟩
end
def dm(f:Str)(v:V):List (Str×V)->List (Str×V)
 |[]=>[(f,v)]
 |(g,x)::r=>if g=f then(g,v)::r else(g,x)::dm f v r
structure Room(k:Nat)(A:Qy):Prop where
 hd:A.handled=none
 dp:A.depth+3*k+5<recursionLimit
 un:A.units+16*k+200<JG
theorem Room.mono{j k:Nat}{A:Qy}(r:Room k A)(h:j<=k):Room j A:=⟨r.hd,by have:=r.dp;lia,by have:=r.un;lia⟩
theorem Room.deeper{k:Nat}{A:Qy}(r:Room (k+1) A)(env:Env):Room k (A.deeper env):=
 ⟨r.hd,by have:=r.dp;show A.depth+1+3*k+5<_;lia,by have:=r.un;show A.units+3+16*k+200<_;lia⟩
theorem Room.in1{k:Nat}{A:Qy}(r:Room (k+1) A):Room k A.in1:=
 ⟨r.hd,by have:=r.dp;show A.depth+3*k+5<_;lia,by have:=r.un;show A.units+1+16*k+200<_;lia⟩
theorem Room.depth{k:Nat}{A:Qy}(r:Room k A):A.depth<recursionLimit:=by have:=r.dp;lia
theorem Room.units{k:Nat}{A:Qy}(r:Room k A):A.units+64<JG:=by have:=r.un;lia
def vt:TA:=λ_ H Q=>Q [] H
def qq(ta:TE)(tr:TA):TA:=λσ H Q=>ta σ H λx H1=>tr σ H1 λxs H2=>Q (x::xs) H2
section
variable{X:Cx}{e:Expr}{es:List Expr}{te:TE}{t:TA}{pos:Pos}
theorem b6:PA X [] vt:=λ_ _ _ _ H Q I h=>Calls.spliced_nil ⟨[],H,I,.nil,h⟩
theorem bD(ha:PE X e te)(hr:PA X es t)(hs:uk (e::es) X.env=(false,eval e X.env)::uk es X.env:=by rfl):PA X (e::es) (qq te t):=by
 intro pos pins s σ H Q I h;rw[hs];show wE _ _ (spliced ((false,eval e X.env)::Q7 pos (uk es X.env))) _ _ s;refine Calls.spliced_cons (thn (ha pins s σ H _ I h) λu s1 ⟨x,H1,I1,r1,q1⟩=>?_);exact thn (hr pos pins s1 σ H1 _ I1 q1) λus s2 ⟨xs,H2,I2,r2,q2⟩=>⟨x::xs,H2,I2,.cons r1 r2,q2⟩
def B0(t:TA):TE:=λσ H Q=>t σ H λxs H1=>xs.length<=Qt/\∀p,H1 p=none->Q (.ref p) (upd H1 p (.tup xs))
def B7(t:TA):TE:=λσ H Q=>t σ H λxs H1=>xs.length<=Qt/\∀p,H1 p=none->Q (.ref p) (upd H1 p (.lst xs))
theorem zW{x1}(h:PA X es t):PE X (.Tuple es x1 pos) (B0 t):=by
 intro pins s σ H Q I hq;refine wpAny_Tuple_spliced (thn (h pos pins s σ H _ I hq) λus s1 ⟨xs,H1,I1,r,z,q⟩=>⟨by rw[<-r.length];exact z,?_⟩);have hf:H1 s1.heap.objs.size=none:=I1.hok.fresh (wp _);refine⟨.ref s1.heap.objs.size,upd H1 s1.heap.objs.size (.tup xs),I1.laid (t':=s1.toks) (λb u e=>wf _ e) (wp _) ?_,rfl,q _ hf⟩;exact⟨z,us,r,⟨_,Qf _ rfl,rfl,_,rfl⟩⟩
theorem sD(h:PA X es t):PE X (.List es pos) (B7 t):=by
 intro pins s σ H Q I hq;refine wpAny_List_spliced (thn (h pos pins s σ H _ I hq) λus s1 ⟨xs,H1,I1,r,z,q⟩=>⟨by rw[<-r.length];exact z,?_⟩);have hf:H1 s1.heap.objs.size=none:=I1.hok.fresh (wp _);refine⟨.ref s1.heap.objs.size,upd H1 s1.heap.objs.size (.lst xs),I1.laid (t':=s1.toks) (λb u e=>wf _ e) (wp _) ?_,rfl,q _ hf⟩;exact⟨z,us,0,r,Qf _ rfl⟩
end
abbrev Sp:=List V->Hp->VK->XK->Prop
abbrev CXT:=List Env->Hp->v6->XK->vv->v6->Prop
structure Env0(P:Qs)(w:QC)(K:v0)(mg:Str->Option vv)(base:Heap)(A:Qy)(outer:List Env)(s:v6)(H:Hp):Prop where
 frames:A.frames=some outer
 mod:Mod K mg base
 bs:∀b o,base.get? b=some o->s.heap.get? b=some o/\H b=none
 bsz:base.objs.size<=s.heap.objs.size
 funs:s.heap.FunFrames base outer
 frf:∀b∈frs outer,H b=none
 hok:HOk P w H s.heap
 bare:AllBare s.gens
def CE(outer:List Env)(P:Qs)(w:QC)(H:Hp)(s:v6)(Q:VK)(u:vv)(s':v6):Prop:=
 ∃v H',s'.os=s.os/\AllBare s'.gens/\Un (frs outer) [] H H' s.heap s'.heap/\HOk P w H' s'.heap/\aQ v u/\Q v H'
def CR(CX:CXT)(outer:List Env)(P:Qs)(w:QC)(H:Hp)(s:v6)(Q:VK)(E:XK)(r:Result)(s':v6):Prop:=
 match r with
 |.ok (.ret u)=>CE outer P w H s Q u s'
 |.ok _=>False
 |.error e=>CX outer H s E e s'
structure FnOk(P:Qs)(w:QC)(K:v0)(mg:Str->Option vv)(base:Heap)(CX:CXT)(k:Nat)(f:Addr)(fd:Q5)(ps:List Str)(sp:Sp):Prop where
 len:∀vs H Q E,sp vs H Q E->vs.length=ps.length
 run:∀(A:Qy) (outer:List Env) (s:v6) (H:Hp) (args:Args) (us:List vv) (vs:List V) (Q:VK) (E:XK),Room k A->Env0 P w K mg base A outer s H->BindsTo s fd args (ps.zip us)->aK vs us->sp vs H Q E->
  Zf (Qa P w) A (.call (.ref f) args) (CR CX outer P w H s Q E) s
theorem FnOk.mono{P:Qs}{w:QC}{K:v0}{mg:Str->Option vv}{base:Heap}{CX:CXT}{j k:Nat}{f:Addr}{fd:Q5}{ps:List Str}{sp:Sp}(F:FnOk P w K mg base CX j f fd ps sp)(h:j<=k) :
  FnOk P w K mg base CX k f fd ps sp:=⟨F.len,λA outer s H args us vs Q E hr=>F.run A outer s H args us vs Q E (hr.mono h)⟩
theorem FnOk.imp{P:Qs}{w:QC}{K:v0}{mg:Str->Option vv}{base:Heap}{CX:CXT}{k:Nat}{f:Addr}{fd:Q5}{ps:List Str}{sp sp':Sp}(F:FnOk P w K mg base CX k f fd ps sp)
  (h:∀vs H Q E,sp' vs H Q E->sp vs H Q E):FnOk P w K mg base CX k f fd ps sp':=
 ⟨λvs H Q E q=>F.len vs H Q E (h _ _ _ _ q),λA outer s H args us vs Q E hr he hb hv hs=>F.run A outer s H args us vs Q E hr he hb hv (h _ _ _ _ hs)⟩
theorem Env0.in1{P:Qs}{w:QC}{K:v0}{mg:Str->Option vv}{base:Heap}{A:Qy}{outer:List Env}{s:v6}{H:Hp}(e:Env0 P w K mg base A outer s H) :
  Env0 P w K mg base A.in1 outer s H:=⟨e.frames,e.mod,e.bs,e.bsz,e.funs,e.frf,e.hok,e.bare⟩
section
variable{X:Cx}{pins:List (Addr×Obj)}{σ:St}{H:Hp}{s s':v6}
theorem Inv.env0(I:Inv X pins σ H s):Env0 X.prog X.w X.K X.mg X.base X.A X.stack s H:=
 ⟨I.ok.frames,I.ok.mod,I.bs,QO I.ok.bsz I.sz,I.stack,I.stkFree,I.hok,I.bare⟩
theorem Inv.after{Q:VK}{u:vv}(I:Inv X pins σ H s)(h:CE X.stack X.prog X.w H s Q u s'):EP X pins σ Q u s':=by
 obtain⟨v,H',os,bare,un,hok,r,q⟩:=h;obtain⟨hh,g,d,t,os'⟩:=s';obtain rfl:os'=s.os:=os;exact⟨v,H',I.call (h':=hh) (g':=g) (d':=d) (t':=t) (ch:=[]) un hok bare (λb z=>absurd z (by simp)),r,q⟩
end
def Bx(sp:Sp)(dvs:List V)(E:XK)(t:TA):TE:=λσ H Q=>t σ H λvs H1=>sp (vs++dvs) H1 Q E
def iG(K:v0)(fd:Q5)(ps:List Str)(ds:List vv):Prop:=
 ∀(s:v6) (us:List vv),K.In s.heap->(us++ds).length=ps.length->BindsTo s fd ⟨us,[]⟩ (ps.zip (us++ds))
theorem iG.all{K:v0}{fd:Q5}{ps:List Str}(h:∀us:List vv,us.length=ps.length->bindArgs fd ⟨us,[]⟩=pure (ps.zip us)):iG K fd ps []:=λs us _ hl=>by
 rw[QW] at hl ⊢;exact .of_eq (h us hl)
def ot(CX:CXT)(X:Cx)(E:XK):Prop:=∀(pins:List (Addr×Obj)) (σ:St) (H:Hp) (s:v6) (e:vv) (s':v6),Inv X pins σ H s->CX X.stack H s E e s'->X.xe e s'
section
variable{X:Cx}{CX:CXT}{k:Nat}{f C:Addr}{fd:Q5}{ps:List Str}{sp:Sp}{dvs:List V}{ds:List vv}{E:XK}{x m:Str}{p pos apos:Pos}{e o:Expr}{es:List Expr}{ta:TE}{t:TA}
theorem y8{pins:List (Addr×Obj)}{σ:St}{H:Hp}{s:v6}{Q:VK}{us:List vv}{vs:List V}(F:FnOk X.prog X.w X.K X.mg X.base CX k f fd ps sp)(hr:Room k X.A)(hb:iG X.K fd ps ds)(hd:aK dvs ds)(hx:ot CX X E)
  (I:Inv X pins σ H s) (r:aK vs us) (h:sp (vs++dvs) H Q E):wE (Qa X.prog X.w) X.A (call (.ref f) us) (EP X pins σ Q) X.xe s:=by
 have r2:aK (vs++dvs) (us++ds):=r.append hd;have hl:(us++ds).length=ps.length:=by rw[<-r2.length];exact F.len _ _ _ _ h
 refine wpAny_call (codeAny_mono (F.run X.A X.stack s H ⟨us,[]⟩ (us++ds) (vs++dvs) Q E hr I.env0 (hb s us I.kIn hl) r2 h) λr s' hq=>?_);cases r with
 |error e=>exact hx pins σ H s e s' I hq
 |ok fl=>
  cases fl with
  |ret u=>exact I.after hq
  |next=>exact JR hq
  |brk=>exact JR hq
  |cont=>exact JR hq
theorem pP(F:FnOk X.prog X.w X.K X.mg X.base CX k f fd ps sp)(hr:Room k X.A)(hg:Gl X x)(hm:X.mg x=some (.ref f))(hk:Zs X.K (.ref f)=true)(hb:iG X.K fd ps ds)(hd:aK dvs ds)(hx:ot CX X E)
  (ha:PA X (e::es) t) (hdb:(x==("__debug__" : Str))=false:=by decide) (he:uk (e::es) X.env=(false,eval e X.env)::uk es X.env:=by rfl) (hpl:(Q7 pos (uk es X.env)).any (·.1)=false:=by rfl) :
  PE X (.Call (.Name x p) (e::es) [] pos) (Bx sp dvs E t):=by
 intro pins s σ H Q I h;refine Z9 (oR I hg hm ?_ hdb);refine PySem.W.callWith_K (h₀:=X.base) I.ok.mod.kin hk (thn (ha pos pins s σ H _ I h) λus s1 ⟨vs,H1,I1,r,q⟩=>⟨I1.kIn,?_⟩) he hpl;exact y8 F hr hb hd hx I1 r q
end
def PK(X:Cx)(kws:List Keyword)(t:TA):Prop:=
 ∀(pos:Pos) (pins:List (Addr×Obj)) (s:v6) (σ:St) (H:Hp) (Q:List V->Hp->Prop),Inv X pins σ H s->t σ H Q->wE (Qa X.prog X.w) X.A (evalAll ((backToKw pos (J8 kws X.env)).map (·.2))) (AP X pins σ Q) X.xe s
section
variable{X:Cx}{CX:CXT}{k:Nat}{f C:Addr}{fd:Q5}{ps ks:List Str}{sp:Sp}{E:XK}{x m:Str}{p pos apos kpos:Pos}{e o:Expr}{es:List Expr}{kws:List Keyword}{te ta:TE}{t tk:TA}{nm:Option Str}
theorem zS:PK X [] vt:=λ_ _ _ _ H Q I h=>wpAny_evalAll_nil ⟨[],H,I,.nil,h⟩
theorem vE(ha:PE X e te)(hr:PK X kws t):PK X (⟨nm,e,kpos⟩::kws) (qq te t):=by
 intro pos pins s σ H Q I h;show wE _ _ (evalAll ((do let v<-eval e X.env;standAt pos;pure v)::(backToKw pos (J8 kws X.env)).map (·.2))) _ _ s;refine wpAny_evalAll_cons (zn (thn (ha pins s σ H _ I h) λu s1 ⟨x,H1,I1,r1,q1⟩=>zn (JX (wn ?_))));exact thn (hr pos pins s1 σ H1 _ I1 q1) λus s2 ⟨xs,H2,I2,r2,q2⟩=>⟨x::xs,H2,I2,.cons r1 r2,q2⟩
variable{g:List vv->List vv->List vv}{gV:List V->List V->List V}
end
structure FnScope(N P:List Str)(sc:Scope):Prop where
 kind:sc.kind=.function
 co:sc.isCoroutine=false
 gen:sc.isGenerator=false
 nd:N.Nodup
 pre:N.take P.length=P
 par:∀x∈P,sc.names.lookup x=some .local\/sc.names.lookup x=some .cell
 nofree:∀y∈sc.names,y.2≠.free
theorem km{Q0:Str->Option NameKind}{x:Str}:∀{binds:List (Str×vv)} {m:Str->Option vv},(∀v,(x,v)∉binds)->bindL Q0 binds m x=m x
 |[],_,_=>rfl
 |(n,v)::r,m,h=>by
  unfold bindL;rw[km λw hw=>h w (Qj _ hw)];split
  ·have:x≠n:=by rintro rfl;exact h v Qh
   simp[this]
  ·rfl
theorem kG{Q0:Str->Option NameKind}{x:Str}:∀{binds:List (Str×vv)} {m:Str->Option vv},(∀v,(x,v)∉binds)->bindC Q0 binds m x=m x
 |[],_,_=>rfl
 |(n,v)::r,m,h=>by
  unfold bindC;rw[kG λw hw=>h w (Qj _ hw)];split
  ·rfl
  ·have:x≠n:=by rintro rfl;exact h v Qh
   simp[this]
theorem kN{Q0:Str->Option NameKind}{x:Str}{v:vv}:∀{P:List Str} {vs:List vv} {i:Nat} {m:Str->Option vv},P.Nodup->P[i]?=some x->vs[i]?=some v->Q0 x=some .local->
  bindL Q0 (P.zip vs) m x=some v
 |[],_,_,_,_,h,_,_=>by simp at h
 |_::_,[],_,_,_,_,h,_=>by simp at h
 |p::P,w::vs,0,m,nd,h1,h2,hk=>by
  simp at h1 h2;subst h1;subst h2;show bindL Q0 ((p,w)::P.zip vs) m p=_;unfold bindL;rw[km λv hv=>(Jv.mp nd).1 (List.of_mem_zip hv).1,if_pos hk];simp
 |p::P,w::vs,i+1,m,nd,h1,h2,hk=>by
  show bindL Q0 ((p,w)::P.zip vs) m x=_;unfold bindL;exact kN (i:=i) (Jv.mp nd).2 (by simpa using h1) (by simpa using h2) hk
theorem kg{Q0:Str->Option NameKind}{x:Str}{v:vv}:∀{P:List Str} {vs:List vv} {i:Nat} {m:Str->Option vv},P.Nodup->P[i]?=some x->vs[i]?=some v->Q0 x≠some .local->
  bindC Q0 (P.zip vs) m x=some v
 |[],_,_,_,_,h,_,_=>by simp at h
 |_::_,[],_,_,_,_,h,_=>by simp at h
 |p::P,w::vs,0,m,nd,h1,h2,hk=>by
  simp at h1 h2;subst h1;subst h2;show bindC Q0 ((p,w)::P.zip vs) m p=_;unfold bindC;rw[kG λv hv=>(Jv.mp nd).1 (List.of_mem_zip hv).1,if_neg hk];simp
 |p::P,w::vs,i+1,m,nd,h1,h2,hk=>by
  show bindC Q0 ((p,w)::P.zip vs) m x=_;unfold bindC;exact kg (i:=i) (Jv.mp nd).2 (by simpa using h1) (by simpa using h2) hk
def fB(N:List Str)(vs:List V):St:=vs.map some++List.replicate (N.length-vs.length) none
def iM(CX:CXT)(P:Qs)(w:QC)(K:v0)(mg:Str->Option vv)(base:Heap)(N:List Str)(qual:Str)(scope:Scope)(f:Addr)(cd:vv)(A:Qy)(outer:List Env)(s:v6)(H:Hp)(E:XK):Cx where
 prog:=P
 w:=w
 K:=K
 mg:=mg
 base:=base
 A:=A.deeper (envOfC qual scope s.heap.objs.size f cd)
 N:=N
 s₀:=s
 H₀:=H
 env:=envOfC qual scope s.heap.objs.size f cd
 outer:=outer
 stack:=envOfC qual scope s.heap.objs.size f cd::outer
 ex:=[]
 calm:=true
 fn:=λ_=>true
 pn:=[]
 xe:=λe s'=>wE (Qa P w) (A.deeper (envOfC qual scope s.heap.objs.size f cd)) (leaving (envOfC qual scope s.heap.objs.size f cd) e) (λ_ s''=>CX outer H s E e s'') (λe' s''=>CX outer H s E e' s'') s'
theorem md{sc:Scope}{n:Nat}{x:Str}(h:sc.names.lookup x=some .cell):∃c,(cellsFrom n sc.names []).lookup x=some c:=by
 have q:=PySem.W.cellsFrom_some sc.names n [] (.inl h);exact Option.isSome_iff_exists.mp q
theorem sf{CX:CXT}{P:Qs}{w:QC}{K:v0}{mg:Str->Option vv}{base:Heap}{N ps:List Str}{qual:Str}{scope:Scope}{f:Addr}{cd:vv}{A:Qy}{outer:List Env}{s s1:v6}{H:Hp}{E:XK}{us:List vv}{vs:List V}
  (S:FnScope N ps scope) (hd:A.handled=none) (e0:Env0 P w K mg base A outer s H) (hl:vs.length=ps.length) (r:aK vs us)
  (x:InCallC s s.heap.objs.size (bindL (envOfC qual scope s.heap.objs.size f cd).kindOf (ps.zip us) λ_=>none) (cellsFrom (s.heap.objs.size+1) scope.names []) (bindC (envOfC qual scope s.heap.objs.size f cd).kindOf (ps.zip us) λ_=>none) s1) :
  Inv (iM CX P w K mg base N qual scope f cd A outer s H E) [] (fB N vs) H s1:=by
 have hpl:ps.length<=N.length:=by have:=congrArg List.length S.pre;rw[QI] at this;lia
 obtain⟨h1,tk,rfl,hk⟩:=x.done;have noA:∀b:Addr,b∉(iM CX P w K mg base N qual scope f cd A outer s H E).ex:=λb z=>absurd (show b∈([]:List Addr) from z) (by simp)
 refine⟨⟨e0.mod,S.kind,rfl,rfl,wp _,λy z c h1 h2=>?_,λy hy=>?_,λy c _ h=>?_,λ_=>hd,Around.frames_deeper e0.frames,.inr ⟨rfl,rfl⟩,λb z=>absurd z (noA b),e0.bs,e0.bsz,λb _ _=>noA b,λb z=>absurd z (noA b),e0.funs,e0.frf⟩,
  rfl,e0.bare,Un.kept hk,⟨_,x.toInCall.ns,λi y v h1 h2 h3=>?_⟩,λy c h=>⟨_,x.cell y c h⟩,e0.hok.fresh (wp _),λy c h=>?_,λp hp=>absurd (show p∈([]:List (Addr×Obj)) from hp) (by simp),e0.hok.kept hk,?_⟩
 ·exact name_of_addr x.apart (Js h1) (Js h2)
 ·have hy:scope.names.lookup y=some .cell\/scope.names.lookup y=some .free:=hy
  rcases hy with hy | hy
  ·exact md hy
  ·exact absurd rfl (S.nofree _ (Js hy))
 ·exact QZ (x.above y c (Js h))
 ·have hi:i<vs.length:=by
   unfold fB at h2
   by_cases hi:i<vs.length
   ·exact hi
   ·rw[QE (by simpa using hi)] at h2
    rw[JC] at h2;split at h2<;>cases h2
  have ha:vs[i]?=some v:=by
   unfold fB at h2;rw[QX (by simpa using hi),Qm] at h2;cases e:vs[i]? with
   |none=>rw[e] at h2;cases h2
   |some a=>rw[e] at h2;cases h2;rfl
  obtain⟨u,hu,rv⟩:=r.get ha
  have hp:ps[i]?=some y:=by
   rw[<-S.pre,List.getElem?_take_of_lt (by lia)];exact h1
  have ndP:ps.Nodup:=by rw[<-S.pre];exact S.nd.sublist (List.take_sublist _ _)
  refine⟨u,rv,?_⟩;rcases S.par y (Jj hp) with k | k
  ·exact .inl ⟨k,kN ndP hp hu k⟩
  ·obtain⟨c,e⟩:=md (n:=s.heap.objs.size+1) k
   refine .inr ⟨.inl k,c,e,?_⟩;have q:=x.cell y c e;rw[kg ndP hp hu (by show scope.names.lookup y≠_;rw[k];decide)] at q;exact q
 ·exact e0.hok.fresh (QZ (x.above y c (Js h)))
 ·unfold fB
  show _=N.length;rw[Qr,Qg,Jw]
  lia
theorem AG{CX:CXT}{P:Qs}{w:QC}{K:v0}{mg:Str->Option vv}{base:Heap}{k:Nat}{f:Addr}{name qual:Str}{params:Arguments}{body:List Stmt}{scope:Scope}{dV kV doc pm cdv ct oc:vv}{an od:Option Addr}
  {osl:Array (Option vv)} {N ps:List Str} {sp:Sp} (lk:K.lookup f=some ⟨oc,od,.func (JI name qual params body scope dV kV doc pm an cdv ct),osl⟩) (hcd:PySem.W.codeIn K cdv qual=true) (S:FnScope N ps scope)
  (len:∀vs H Q E,sp vs H Q E->vs.length=ps.length)
  (hbody:∀(A:Qy) (outer:List Env) (s:v6) (H:Hp) (vs:List V) (Q:VK) (E:XK),Room k (A.deeper (envOfC qual scope s.heap.objs.size f cdv))->sp vs H Q E->
   ∃t,PSs (iM CX P w K mg base N qual scope f cdv A outer s H E) body t/\t { nx:=λ_ H'=>Q .non H',rt:=Q } (fB N vs) H) :
  FnOk P w K mg base CX (k+1) f (JI name qual params body scope dV kV doc pm an cdv ct) ps sp:=by
 refine⟨len,λA outer s H args us vs Q E hr e0 hb r hsp=>?_⟩;have hl:=len _ _ _ _ hsp;have KX:K.In s.heap:=e0.mod.kin.keeps λb o e=>(e0.bs b o e).1;have lim:s.heap.NoLimit:=e0.mod.nolimit.keeps λb o e=>(e0.bs b o e).1
 have hkind:∀y∈ps.zip us,scope.names.lookup y.1=some .local\/(scope.names.lookup y.1=some .cell/\((cellsFrom (s.heap.objs.size+1) scope.names []).lookup y.1).isSome=true):=λ⟨n,v⟩ hy=>by
  rcases S.par n (List.of_mem_zip hy).1 with q | q
  ·exact .inl q
  ·exact .inr ⟨q,PySem.W.cellsFrom_some _ _ _ (.inl q)⟩
 refine codeAny_call_function hr.depth (KX _ _ lk) rfl S.co S.gen rfl (PySem.W.codeRec_of KX hcd) (hb _ _ _ _ ?_);refine wpAny_newFunctionEnv_cells S.kind hkind λenv he s1 x=>?_;subst he;refine⟨lim.keeps x.toInCall.keep,codeAny_func ?_⟩;obtain⟨t,ht,hq⟩:=hbody A outer s H vs Q E (hr.deeper _) hsp;have I:Inv (iM CX P w K mg base N qual scope f cdv A outer s H E) [] (fB N vs) H s1:=sf S hr.hd e0 hl r x;refine QP (ht [] s1 (fB N vs) H _ I hq) (λfl s' hs=>?_) λe s' hs=>hs
 have fin:∀{σ':St} {H':Hp} {v:V} {u:vv},Inv (iM CX P w K mg base N qual scope f cdv A outer s H E) [] σ' H' s'->aQ v u->Q v H'->CE outer P w H s Q u s':=
  λ{σ' H' v u} J rv q=>⟨v,H',J.os,J.bare,J.base,J.hok,rv,q⟩
 cases fl with
 |ret u=>
  obtain⟨v,σ',H',J,rv,q⟩:=hs;exact fin J rv q
 |next=>
  obtain⟨σ',H',J,q⟩:=hs;exact fin (v:=V.non) (u:=QR) J rfl q
 |brk=>
  obtain⟨_,_,_,q⟩:=hs;exact JR q
 |cont=>
  obtain⟨_,_,_,q⟩:=hs;exact JR q
section
variable{X:Cx}{x:Str}{p pos:Pos}{e:Expr}{es:List Expr}{t:TA}{id T:String}{r:List V->Hp->VK->Prop}
def tCB(r:List V->Hp->VK->Prop)(t:TA):TE:=λσ H Q=>t σ H λvs H1=>r vs H1 Q
theorem fj(hc:dA X (.builtin id) r)(hg:Gl X x)(hm:X.mg x=none)(hv:Zc x=some (.builtin id))(ha:PA X (e::es) t)(hn:x≠"__name__":=by decide)(hdb:(x==("__debug__" : Str))=false:=by decide)
  (he:uk (e::es) X.env=(false,eval e X.env)::uk es X.env:=by rfl) (hpl:(Q7 pos (uk es X.env)).any (·.1)=false:=by rfl):PE X (.Call (.Name x p) (e::es) [] pos) (tCB r t):=by
 intro pins s σ H Q I h;refine Z9 (d7 I hg hm hv ?_ hn hdb);exact PyProof.Rows.callWith_builtin1 (thn (ha pos pins s σ H _ I h) λus s1 ⟨vs,H1,I1,r1,q1⟩=>hc pins s1 σ H1 vs us Q I1 r1 q1) he hpl
theorem rH(hc:dA X (.type T) r)(hg:Gl X x)(hm:X.mg x=none)(hv:Zc x=some (.type T))(ha:PA X (e::es) t)(hn:x≠"__name__":=by decide)(hdb:(x==("__debug__" : Str))=false:=by decide)
  (he:uk (e::es) X.env=(false,eval e X.env)::uk es X.env:=by rfl) (hpl:(Q7 pos (uk es X.env)).any (·.1)=false:=by rfl):PE X (.Call (.Name x p) (e::es) [] pos) (tCB r t):=by
 intro pins s σ H Q I h;refine Z9 (d7 I hg hm hv ?_ hn hdb);exact Jh (thn (ha pos pins s σ H _ I h) λus s1 ⟨vs,H1,I1,r1,q1⟩=>hc pins s1 σ H1 vs us Q I1 r1 q1) he hpl
end
end L2
namespace HT
open PySem PyProof.Rows
def xS:List Int->List Int->Bool
 |[],[]=>false
 |[],_::_=>true
 |_::_,[]=>false
 |x::xs,y::ys=>if x=y then xS xs ys else decide (x<y)
section
open PySem.SeqAt
open PySem.AutoSeq1 (wpAny_loadPart')
open PySem.MeetsSeq PySem.MeetsSeq2 PySem.MeetsSeq3
end
section
variable{prog:Qs}{w:QC}{A:Qy}{E:vv->v6->Prop}{s:v6}
theorem vC{t b:Addr}{vs ws:List vv}{Q:vv->v6->Prop}(ht:IsTup s.heap t vs.toArray)(hb:IsTup s.heap b ws.toArray)(hv:vs≠[])
  (h1:ws=[]->Q (.ref t) s) (h2:ws≠[]->Q (.ref s.heap.objs.size) { s with heap:=s.heap.push { cls:=.type "tuple",data:=.seq (vs++ws).toArray } })
  (hsz:vs.length+ws.length<=Qt):wE (Qa prog w) A (Jr .Add (.ref t) (.ref b)) Q E s:=by
 obtain⟨⟨cls,dd,data,sl⟩,ho,hc,n,hd⟩:=id ht;obtain⟨⟨cls2,dd2,data2,sl2⟩,ho2,hc2,n2,hd2⟩:=id hb;simp only at hc hd hc2 hd2;subst hc hd hc2 hd2;have e:vs.toArray++ws.toArray=(vs++ws).toArray:=by simp
 by_cases hw:ws=[]
 ·exact concat_meets ⟨_,ho,rfl⟩ ⟨_,ho2,rfl⟩ noFill_tuple_add seq_tuple_add PySem.F.slot_tuple_add PySem.F.entry_tuple_add (PySem.F.args_tuple_add_2 _ _)
   (tuple_addW1 t b vs.toArray ws.toArray n n2 dd dd2 sl sl2 (by simpa using hv) (by simp[hw])) ⟨ho,ho2,h1 hw⟩
 ·refine concat_meets ⟨_,ho,rfl⟩ ⟨_,ho2,rfl⟩ noFill_tuple_add seq_tuple_add PySem.F.slot_tuple_add PySem.F.entry_tuple_add (PySem.F.args_tuple_add_2 _ _)
   (tuple_addW2 t b vs.toArray ws.toArray n n2 dd dd2 sl sl2 (by simpa using hv) (by simpa using hw) (by rw[Qx,Qx];exact hsz)) ⟨ho,ho2,?_⟩
  rw[e];exact h2 hw
def sIx(n d:Nat):Option Int->Nat
 |none=>d
 |some v=>if v<0 then(v+(n:Int)).toNat else min v.toNat n
theorem tT(n d:Nat):sIx n d none=d:=rfl
theorem vL(n d k:Nat):sIx n d (some (k:Int))=min k n:=by
 show(if(k:Int)<0 then((k:Int)+(n:Int)).toNat else min (k:Int).toNat n)=min k n;rw[if_neg (by lia),JE]
theorem zt(n d:Nat)(hd:d<=n)(o:Option Int):sIx n d o<=n:=by
 cases o with
 |none=>exact hd
 |some v=>
  show(if v<0 then(v+(n:Int)).toNat else min v.toNat n)<=n
  by_cases hv:v<0
  ·rw[if_pos hv];lia
  ·rw[if_neg hv];exact Nat.min_le_right _ _
theorem pN(v:Int)(n d:Nat):(if v<0 then max (v+(n:Int)) 0 else min v (n:Int))=((sIx n d (some v):Nat):Int):=by
 show(if v<0 then max (v+(n:Int)) 0 else min v (n:Int))=(((if v<0 then(v+(n:Int)).toNat else min v.toNat n):Nat):Int)
 by_cases hv:v<0
 ·simp only[if_pos hv];lia
 ·simp only[if_neg hv];lia
theorem nK(lo hi:Option Int)(n:Nat):Builtin.Slice.sliceAdjust lo hi 1 (n:Int)=(((sIx n 0 lo:Nat):Int),((sIx n n hi:Nat):Int)):=by
 have h1:¬ ((1:Int)<0):=by lia
 unfold Builtin.Slice.sliceAdjust;simp only[h1,if_false];refine Prod.ext ?_ ?_
 ·cases lo with
  |none=>rfl
  |some v=>exact pN v n 0
 ·cases hi with
  |none=>rfl
  |some v=>exact pN v n n
theorem nQ(i j:Nat):Zm (i:Int) (j:Int) 1=j-i:=by
 unfold Zm;have h1:(1:Int)>0:=by lia
 simp only[h1,if_true,Int.ediv_one];split<;>lia
theorem jF{v:vv}{o:Option Int}{Q:Option Int->v6->Prop}(p:IsPart v o)(h:Q o s):wE (Qa prog w) A (Builtin.Slice.slicePartIndex v) Q E s:=by
 cases p with
 |none=>exact slicePart_none h
 |int i t=>exact slicePart_int h
theorem ic{sl:Addr}{vl vu:vv}{lo hi:Option Int}{n:Nat}{Q:Int×Int×Nat->v6->Prop}(hs:s.heap.IsSliceOf sl vl vu .none)(pl:IsPart vl lo)(pu:IsPart vu hi)
  (h:Q (((sIx n 0 lo:Nat):Int),1,sIx n n hi-sIx n 0 lo) s):wE (Qa prog w) A (Builtin.Slice.sliceApplied (.ref sl) (pure (n:Int))) Q E s:=by
 obtain⟨os,hos,hcs,hds⟩:=id hs;unfold Builtin.Slice.sliceApplied Builtin.Slice.sliceFields;refine zn (zn (Q2 hos hds (x:=vl) rfl (zn (Q2 hos hds (x:=vu) rfl (zn (Q2 hos hds (x:=.none) rfl (wn ?_)))))));refine zn (slicePart_none ?_);show wE _ _ (if((1:Int)==0)=true then _ else _) _ _ s;rw[if_neg (by decide)];refine zn (jF pl (zn (jF pu (zn (wn ?_)))));show wE _ _ (match Builtin.Slice.sliceAdjust lo hi 1 (n:Int) with | (lo,hi)=>pure (lo,(1:Int),Zm lo hi 1)) _ _ s;rw[nK lo hi n];show wE _ _ (pure (((sIx n 0 lo:Nat):Int),(1:Int),Zm ((sIx n 0 lo:Nat):Int) ((sIx n n hi:Nat):Int) 1)) _ _ s;rw[nQ];exact wn h
theorem sL(xs:Array vv)(i k:Nat):((QF k).filterMap λ(m:Nat)=>xs[((i:Int)+(m:Int)*1).toNat]?).toArray=((xs.toList.drop i).take k).toArray:=by
 have e:(λ(m:Nat)=>xs[((i:Int)+(m:Int)*1).toNat]?)=λm=>xs[i+m]?:=by
  funext m
  have:((i:Int)+(m:Int)*1).toNat=i+m:=by lia
  rw[this]
 rw[e];have:=pick_run xs i k;rw[List.filterMap_map] at this;have e2:((λx=>xs[x]?)∘λx=>i+x)=λm=>xs[i+m]?:=rfl;rw[e2] at this;rw[this]
theorem g8{t sl:Addr}{items:Array vv}{vl vu:vv}{lo hi:Option Int}{Q:vv->v6->Prop}(ht:IsTup s.heap t items)(hs:s.heap.IsSliceOf sl vl vu .none)(pl:IsPart vl lo)(pu:IsPart vu hi)
  (hw:¬ (sIx items.size 0 lo=0/\sIx items.size items.size hi=items.size))
  (h:Q (.ref s.heap.objs.size) { s with heap:=s.heap.push { cls:=.type "tuple",data:=.seq ((items.toList.drop (sIx items.size 0 lo)).take (sIx items.size items.size hi-sIx items.size 0 lo)).toArray } })
  (hsz:items.size<=Qt):wE (Qa prog w) A (getItem (.ref t) (.ref sl)) Q E s:=by
 have htake:sizeOk (.seq ((items.toList.drop (sIx items.size 0 lo)).take (sIx items.size items.size hi-sIx items.size 0 lo)).toArray):=by
  show((items.toList.drop (sIx items.size 0 lo)).take (sIx items.size items.size hi-sIx items.size 0 lo)).toArray.size<=Qt;rw[Qx,QI,Jx,Qq]
  lia
 have hj:sIx items.size items.size hi<=items.size:=zt _ _ (wp _) hi;obtain⟨os,hos,hcs,hds⟩:=id hs;have hTs:s.TypeIs (.ref sl) "slice":=⟨os,hos,hcs⟩;unfold getItem
 try with_reducible refine QJ ?_
 first | refine zn (wn ?_) | skip
 refine zn (wpAny_sequenceKey ht.typeIs (by decide) ?_)
 refine zn (Ji (name:=Zv "__getitem__") ht.typeIs PyProof.Rows.slot_tuple_getitem
  (Q3 PyProof.Rows.slot_tuple_getitem ht.typeIs entry_tuple_getitem ?_ (args_tuple_getitem _ _)))
 show wE _ _ (Builtin.Tuple.tupleItemsOf (.ref t)>>=_) _ _ s;refine zn (tupleItemsOf_ ht ?_);refine zn (wpAny_typeOf hTs ?_);rw[if_pos (by decide)];refine zn (ic hs pl pu ?_)
 have hno:¬ ((((sIx items.size 0 lo:Nat):Int)==0&&(1:Int)==1&&(sIx items.size items.size hi-sIx items.size 0 lo)==items.size)=true):=by
  intro q;rw[ZR,ZR] at q;have q1:((sIx items.size 0 lo:Nat):Int)=0:=eq_of_beq q.1.1;have q2:sIx items.size items.size hi-sIx items.size 0 lo=items.size:=eq_of_beq q.2;exact hw ⟨by lia,by lia⟩
 show wE _ _ (if(((sIx items.size 0 lo:Nat):Int)==0&&(1:Int)==1&&(sIx items.size items.size hi-sIx items.size 0 lo)==items.size)=true then _ else _) _ _ s;rw[if_neg hno,sL]
 first
  |exact zn (m:=Zw _) (QG (wn ⟨_,rfl,wn h⟩) htake)
  |exact zn (m:=Zw _) (QG (zn (wn (wn ⟨_,rfl,wn h⟩))) htake)
  |exact zn (zn (m:=Zw _) (QG (wn (wn ⟨_,rfl,wn h⟩)) htake))
  |exact zn (zn (m:=Zw _) (QG (wn ⟨_,rfl,wn h⟩) htake))
end
end HT
namespace L2
open PySem PySem.Spec PyProof.Rows
abbrev TO:=St->Hp->(Option Int->Hp->Prop)->Prop
def PO(X:Cx)(e:Option Expr)(t:TO):Prop:=
 ∀(pins:List (Addr×Obj)) (s:v6) (σ:St) (H:Hp) (Q:Option Int->Hp->Prop),Inv X pins σ H s->t σ H Q->
  wE (Qa X.prog X.w) X.A (evalPart e X.env) (λu s'=>∃o H',Inv X pins σ H' s'/\IsPart u o/\Q o H') X.xe s
def xC:TO:=λ_ H Q=>Q none H
def AQ(t:TE):TO:=λσ H Q=>t σ H λx H1=>∃i,x=.int i/\Q (some i) H1
theorem gj{ns:List Int}:∀{us:List vv},aK (ns.map V.int) us->J0 us ns:=by
 induction ns with
 |nil=>intro us r;rw[List.map_nil] at r;cases r;exact .nil
 |cons n ns ih=>
  intro us r;rw[Qe] at r;cases r with
  |cons r1 r2=>
   obtain⟨t,e⟩:=r1;subst e;exact .cons n t (ih r2)
section
variable{X:Cx}{e:Expr}{te:TE}{lo hi:Option Expr}{tl th:TO}{pos p2:Pos}
theorem xj:PO X none xC:=by
 intro pins s σ H Q I h;rw[evalPart_none];exact wn ⟨none,H,I,.none,h⟩
theorem xH(h:PE X e te):PO X (some e) (AQ te):=by
 intro pins s σ H Q I hw;rw[evalPart_some];refine thn (h pins s σ H _ I hw) λu s1 ⟨x,H1,I1,r1,q1⟩=>?_;obtain⟨i,rfl,q⟩:=q1;obtain⟨t,rfl⟩:=r1;exact⟨some i,H1,I1,.int i t,q⟩
def SlR(X:Cx)(r:V->Option Int->Option Int->Hp->VK->Prop):Prop:=
 ∀(pins:List (Addr×Obj)) (s:v6) (σ:St) (H:Hp) (x:V) (v vl vu:vv) (lo hi:Option Int) (sl:Addr) (Q:VK),Inv X pins σ H s->aQ x v->s.heap.IsSliceOf sl vl vu .none->IsPart vl lo->IsPart vu hi->r x lo hi H Q->
  ∃T id,typeLookup (.type T) "__getitem__" = pure (some (.builtin id))/\s.TypeIs v T/\wE (Qa X.prog X.w) X.A (getItem v (.ref sl)) (EP X pins σ Q) X.xe s
theorem SlR.or{r r':V->Option Int->Option Int->Hp->VK->Prop}(h:SlR X r)(h':SlR X r'):SlR X (λx lo hi H Q=>r x lo hi H Q\/r' x lo hi H Q):=by
 intro pins s σ H x v vl vu lo hi sl Q I rx hs pl pu q;rcases q with q | q
 ·exact h pins s σ H x v vl vu lo hi sl Q I rx hs pl pu q
 ·exact h' pins s σ H x v vl vu lo hi sl Q I rx hs pl pu q
def tSl(r:V->Option Int->Option Int->Hp->VK->Prop)(te:TE)(tl th:TO):TE:=λσ H Q=>te σ H λx H1=>tl σ H1 λl H2=>th σ H2 λu H3=>r x l u H3 Q
theorem mj{r:V->Option Int->Option Int->Hp->VK->Prop}(hr:SlR X r)(he:PE X e te)(hl:PO X lo tl)(hu:PO X hi th):PE X (.Subscript e (.Slice lo hi none p2) pos) (tSl r te tl th):=by
 intro pins s σ H Q I h;refine Subscript_ (thn (he pins s σ H _ I h) λv s1 ⟨x,H1,I1,r1,q1⟩=>?_);refine wpAny_Slice (thn (hl pins s1 σ H1 _ I1 q1) λvl s2 ⟨l,H2,I2,pl,q2⟩=>thn (hu pins s2 σ H2 _ I2 q2) λvu s3 ⟨u,H3,I3,pu,q3⟩=>?_);rw[evalPart_none];refine wn ?_;have I4:Inv X pins σ H3 { s3 with heap:=s3.heap.push { cls:=.type "slice",data:=.fields #[vl,vu,.none] } }:=I3.kept (t':=s3.toks) λb ob q=>wf _ q;obtain⟨T,id,hT,ht,hg⟩:=hr pins { s3 with heap:=s3.heap.push { cls:=.type "slice",data:=.fields #[vl,vu,.none] } } σ H3 x v vl vu l u s3.heap.objs.size Q I4 r1 (Heap.IsSliceOf.new ..) pl pu q3;show wE (Qa X.prog X.w) X.A (subscriptTail e (.Slice lo hi none p2) v (.ref s3.heap.objs.size)) (EP X pins σ Q) X.xe { s3 with heap:=s3.heap.push { cls:=.type "slice",data:=.fields #[vl,vu,.none] } };exact tail_any (ops:=[.ref s3.heap.objs.size,v]) ht hT hg (by with_unfolding_all rfl)
def lG(xs:List V)(lo hi:Option Int):List V:=(xs.drop (HT.sIx xs.length 0 lo)).take (HT.sIx xs.length xs.length hi-HT.sIx xs.length 0 lo)
theorem iF(xs:List V)(lo hi:Option Int):(lG xs lo hi).length<=xs.length:=by
 unfold lG;rw[QI,Jx]
 lia
def BD(K:v0):V->Option Int->Option Int->Hp->VK->Prop:=λx lo hi H Q=>∃a xs,x=.ref a/\SqT K H a xs/\
 ¬ (HT.sIx xs.length 0 lo=0/\HT.sIx xs.length xs.length hi=xs.length)/\∀p,H p=none->Q (.ref p) (upd H p (.tup (lG xs lo hi)))
theorem zj:SlR X (BD X.K):=by
 intro pins s σ H x v vl vu lo hi sl Q I rx hs pl pu h;obtain⟨a,xs,rfl,hx,hw,q⟩:=h;cases rx;obtain⟨its,r,ht,hz⟩:=I.tuple hx;have hlen:its.toArray.size=xs.length:=by rw[Qx];exact r.length.symm
 refine⟨"tuple",_,PyProof.Rows.slot_tuple_getitem.lookup,ht.typeIs,?_⟩;refine HT.g8 ht hs pl pu (by rw[hlen];exact hw) ?_ (by rw[hlen];exact hz);rw[hlen];refine⟨.ref s.heap.objs.size,_,I.laid (t':=s.toks) (o:=.tup (lG xs lo hi)) (λb ob q=>wf _ q) (wp _) ?_,rfl,q _ (I.hok.fresh (wp _))⟩;exact⟨QO (iF xs lo hi) hz,_,(r.drop (HT.sIx xs.length 0 lo)).take (HT.sIx xs.length xs.length hi-HT.sIx xs.length 0 lo),IsTup.new _ _⟩
def Bt(K:v0):R2:=λx y H Q=>∃a b xs ys,x=.ref a/\y=.ref b/\SqT K H a xs/\SqT K H b ys/\xs≠[]/\xs.length+ys.length<=Qt/\
 (ys=[]->Q (.ref a) H)/\(ys≠[]->∀p,H p=none->Q (.ref p) (upd H p (.tup (xs++ys))))
theorem aK.nil_iff{xs:List V}{us:List vv}(r:aK xs us):us=[]↔xs=[]:=by
 cases r with
 |nil=>simp
 |cons _ _=>simp
theorem v8:OpR X (Jr .Add) (Bt X.K):=by
 intro pins s σ H x y v u Q I rx ry h;obtain⟨a,b,xs,ys,rfl,rfl,ha,hb,hx,hz,q1,q2⟩:=h;cases rx;cases ry;obtain⟨its,r1,p1,_⟩:=I.tuple ha;obtain⟨its2,r2,p2,_⟩:=I.tuple hb;refine HT.vC p1 p2 (λz=>hx (r1.nil_iff.mp z)) (λz=>⟨.ref a,H,I,rfl,q1 (r2.nil_iff.mp z)⟩) (λz=>?_) (by rw[<-r1.length,<-r2.length];exact hz);refine⟨.ref s.heap.objs.size,_,I.laid (t':=s.toks) (o:=.tup (xs++ys)) (λb ob q=>wf _ q) (wp _) ?_,rfl,q2 (λw=>z (r2.nil_iff.mpr w)) _ (I.hok.fresh (wp _))⟩;exact⟨by rw[Qr];exact hz,_,r1.append r2,IsTup.new _ _⟩
end
def ixN(n:Nat)(i:Int):Option Nat:=if 0<=i then(if i<n then some i.toNat else none) else if -(n:Int)<=i then some (i+n).toNat else none
def atI{α:Type}(xs:List α)(i:Int):Option α:=(ixN xs.length i).bind λj=>xs[j]?
theorem vY{n:Nat}{i:Int}{j:Nat}(h:ixN n i=some j):seqIndex? i n=some j/\j<n/\-(n:Int)<=i/\i<n:=by
 unfold ixN at h
 by_cases h0:0<=i
 ·rw[if_pos h0] at h
  by_cases h1:i<n
  ·rw[if_pos h1] at h
   have e:i.toNat=j:=Option.some.inj h;exact⟨by rw[seqIndex_of h0 h1,e],by lia,by lia,h1⟩
  ·rw[if_neg h1] at h;cases h
 ·rw[if_neg h0] at h
  by_cases h1:-(n:Int)<=i
  ·rw[if_pos h1] at h
   have e:(i+n).toNat=j:=Option.some.inj h;exact⟨by rw[seqIndex_neg (by lia) h1,e],by lia,h1,by lia⟩
  ·rw[if_neg h1] at h;cases h
theorem qh{α:Type}{xs:List α}{i:Int}{v:α}(h:atI xs i=some v):∃j,seqIndex? i xs.length=some j/\xs[j]?=some v/\j<xs.length/\-(xs.length:Int)<=i/\i<xs.length:=by
 unfold atI at h;cases e:ixN xs.length i with
 |none=>rw[e] at h;cases h
 |some j=>
  rw[e] at h;obtain⟨h1,h2,h3,h4⟩:=vY e;exact⟨j,h1,h,h2,h3,h4⟩
theorem wZ{α:Type}{xs:List α}{j:Nat}{v:α}(h:xs[j]?=some v):atI xs (j:Int)=some v:=by
 have hj:j<xs.length:=(Qi.mp h).1
 have e:ixN xs.length (j:Int)=some j:=by
  unfold ixN;rw[if_pos (by lia),if_pos (by lia)];simp
 unfold atI;rw[e];exact h
def ja(b:Expr):Prop:=∀o i,subscripted b false o i=operate [o,i] (getItem o i)
def IxR(X:Cx)(r:R2):Prop:=
 ∀(value slice:Expr) (pins:List (Addr×Obj)) (s:v6) (σ:St) (H:Hp) (x y:V) (v u:vv) (Q:VK),Inv X pins σ H s->aQ x v->aQ y u->r x y H Q->
  subscripted slice false v u=operate [v,u] (getItem v u)->wE (Qa X.prog X.w) X.A (subscriptTail value slice v u) (EP X pins σ Q) X.xe s
def MtR(X:Cx)(id:String)(r:V->List V->Hp->VK->Prop):Prop:=
 ∀(pins:List (Addr×Obj)) (s:v6) (σ:St) (H:Hp) (x:V) (xs:List V) (v:vv) (us:List vv) (Q:VK),Inv X pins σ H s->aQ x v->aK xs us->r x xs H Q->
  wE (Qa X.prog X.w) X.A (call (.builtin id) (v::us)) (EP X pins σ Q) X.xe s
section
variable{X:Cx}{a b:Expr}{ta tb:TE}{pos:Pos}
theorem IxR.or{r r':R2}(h:IxR X r)(h':IxR X r'):IxR X (λx y H Q=>r x y H Q\/r' x y H Q):=by
 intro value slice pins s σ H x y v u Q I rx ry q hs;rcases q with q | q
 ·exact h value slice pins s σ H x y v u Q I rx ry q hs
 ·exact h' value slice pins s σ H x y v u Q I rx ry q hs
theorem MtR.or{id:String}{r r':V->List V->Hp->VK->Prop}(h:MtR X id r)(h':MtR X id r'):MtR X id (λx xs H Q=>r x xs H Q\/r' x xs H Q):=by
 intro pins s σ H x xs v us Q I rx rs q;rcases q with q | q
 ·exact h pins s σ H x xs v us Q I rx rs q
 ·exact h' pins s σ H x xs v us Q I rx rs q
theorem AO{r:R2}(hr:IxR X r)(ha:PE X a ta)(hb:PE X b tb)(hs:ja b):PE X (.Subscript a b pos) (tOp r ta tb):=by
 intro pins s σ H Q I h;exact Subscript_ (yO ha hb I h λv u s2 x y H2 I2 rx ry q=>hr a b pins s2 σ H2 x y v u Q I2 rx ry q (hs _ _))
def BL(K:v0):R2:=λx y H Q=>∃p xs i v,x=.ref p/\y=.int i/\SqL K H p xs/\atI xs i=some v/\Q v H
def B_(K:v0):R2:=λx y H Q=>∃p xs i v,x=.ref p/\y=.int i/\SqT K H p xs/\atI xs i=some v/\Q v H
theorem vf:IxR X (BL X.K):=by
 intro value slice pins s σ H x y v u Q I rx ry h hs;obtain⟨p,xs,i,z,rfl,rfl,hq,he,q⟩:=h;cases rx;obtain⟨t,rfl⟩:=ry;obtain⟨its,r,pl,hz⟩:=I.list hq;obtain⟨j,h1,h2,h3,h4,h5⟩:=qh he;obtain⟨w,ew,rw'⟩:=r.get h2;have hl:=r.length;have hn:=lI;have fin:EP X pins σ Q w s:=⟨z,H,I,rw',q⟩
 by_cases h0:0<=i
 ·have hj:i.toNat=j:=by
   rw[seqIndex_of h0 h5] at h1;exact Option.some.inj h1
  exact item_listR pl.isList h0 (by lia) (by rw[hj];simpa using ew) fin hs
 ·have hj:(i+(its.toArray.size:Int)).toNat=j:=by
   rw[seqIndex_neg (by lia) h4] at h1;rw[Qx,<-hl];exact Option.some.inj h1
  exact subscriptTail_builtinR (x:=w) pl.isList.typeIs slot_list_getitem.lookup
   (wpAny_getItem_list_neg (Q:=λr s'=>r=w/\EP X pins σ Q r s') pl.isList (by lia) (by rw[Qx]<;>lia) (by lia) (by rw[hj];simpa using ew) ⟨rfl,fin⟩) hs
theorem za:IxR X (B_ X.K):=by
 intro value slice pins s σ H x y v u Q I rx ry h hs;obtain⟨p,xs,i,z,rfl,rfl,hq,he,q⟩:=h;cases rx;obtain⟨t,rfl⟩:=ry;obtain⟨its,r,pl,hz⟩:=I.tuple hq;obtain⟨j,h1,h2,h3,h4,h5⟩:=qh he;obtain⟨w,ew,rw'⟩:=r.get h2;have hl:=r.length;have hn:=lI;have fin:EP X pins σ Q w s:=⟨z,H,I,rw',q⟩
 exact subscriptTail_builtinR (x:=w) pl.typeIs slot_tuple_getitem.lookup
  (getItem_tuple (j:=j) (Q:=λr s'=>r=w/\EP X pins σ Q r s') pl (by lia) (by lia) (by rw[Qx,<-hl];exact h1) (by simpa using ew) ⟨rfl,fin⟩) hs
theorem Inv.lst{pins:List (Addr×Obj)}{σ:St}{H:Hp}{s:v6}{p:Addr}{xs:List V}(I:Inv X pins σ H s)(h:H p=some (.lst xs)) :
  ∃(its:List vv) (n:Nat),aK xs its/\s.heap.get? p=some { cls:=.type "list",data:=.seq its.toArray n }/\xs.length<=Qt:=by
 obtain⟨z,its,n,r,e⟩:=I.hok p _ h;exact⟨its,n,r,e,z⟩
theorem k6(lo hi:Option Int)(n:Nat):(ZX lo hi none n).1=((HT.sIx n 0 lo:Nat):Int)/\(ZX lo hi none n).2.1=((HT.sIx n n hi:Nat):Int)/\(ZX lo hi none n).2.2=1:=by
 refine⟨?_,?_,rfl⟩
 ·cases lo with
  |none=>simp[ZX,HT.sIx]
  |some i=>
   simp only[ZX,HT.sIx,Option.getD_none,show(1:Int)>0 by decide,if_true]
   by_cases h:i<0
   ·simp only[h,if_true]<;>lia
   ·simp only[h,if_false]<;>lia
 ·cases hi with
  |none=>simp[ZX,HT.sIx]
  |some i=>
   simp only[ZX,HT.sIx,Option.getD_none,show(1:Int)>0 by decide,if_true]
   by_cases h:i<0
   ·simp only[h,if_true]<;>lia
   ·simp only[h,if_false]<;>lia
theorem ka(its:List vv)(lo hi:Option Int):slicePick its.toArray lo hi none=((its.drop (HT.sIx its.length 0 lo)).take (HT.sIx its.length its.length hi-HT.sIx its.length 0 lo)).toArray:=by
 obtain⟨h1,h2,h3⟩:=k6 lo hi its.toArray.size;unfold slicePick;rw[h1,h2,h3];simp only[sliceRange_one,pick_run,Qx]<;>rfl
def BZ(K:v0):V->Option Int->Option Int->Hp->VK->Prop:=λx lo hi H Q=>∃a xs,x=.ref a/\SqL K H a xs/\∀p,H p=none->Q (.ref p) (upd H p (.lst (lG xs lo hi)))
theorem wd:SlR X (BZ X.K):=by
 intro pins s σ H x v vl vu lo hi sl Q I rx hs pl pu h;obtain⟨a,xs,rfl,hx,q⟩:=h;cases rx;obtain⟨its,r,ht,hz⟩:=I.list hx;have hlen:=r.length;refine⟨"list",_,slot_list_getitem.lookup,ht.isList.typeIs,?_⟩;refine wpAny_getItem_list_slice ht.isList hs pl pu .none (by simp) ?_ (by rw[Qx]<;>lia);rw[ka,<-hlen];refine⟨.ref s.heap.objs.size,_,I.laid (t':=s.toks) (o:=.lst (lG xs lo hi)) (λb ob q=>wf _ q) (wp _) ?_,rfl,q _ (I.hok.fresh (wp _))⟩;exact⟨QO (iF xs lo hi) hz,_,0,(r.drop (HT.sIx xs.length 0 lo)).take (HT.sIx xs.length xs.length hi-HT.sIx xs.length 0 lo),Qf _ rfl⟩
def eG:V->Bool
 |.non=>true
 |.bl _=>true
 |.int _=>true
 |.str _=>true
 |_=>false
def eqV:V->V->Bool
 |.non,.non=>true
 |.bl a,.bl b=>a==b
 |.bl a,.int b=>(if a then 1 else 0)==b
 |.int a,.bl b=>a==(if b then 1 else 0)
 |.int a,.int b=>a==b
 |.str a,.str b=>a==b
 |_,_=>false
theorem n4{A:Qy}{s:v6}{y x:V}{u v:vv}(ry:aQ y u)(rx:aQ x v)(fy:eG y=true)(fx:eG x=true):ZS A s u v (eqV y x):=by
 cases y with
 |non=>
  cases ry;cases x with
  |non=>cases rx;exact SeqAt.EqAt.same _
  |bl b=>cases rx;exact SeqAt.EqAt.none_bool b
  |int b=>obtain⟨t,rfl⟩:=rx;exact SeqAt.EqAt.none_int b t
  |str b=>obtain⟨t,rfl⟩:=rx;exact SeqAt.EqAt.none_str b t
  |_=>exact absurd (show false=true from fx) ww
 |bl a=>
  cases ry;cases x with
  |non=>cases rx;exact SeqAt.EqAt.bool_none a
  |bl b=>cases rx;exact SeqAt.EqAt.bool_bool a b
  |int b=>obtain⟨t,rfl⟩:=rx;exact SeqAt.EqAt.bool_int a b t
  |str b=>obtain⟨t,rfl⟩:=rx;exact SeqAt.EqAt.bool_str a b t
  |_=>exact absurd (show false=true from fx) ww
 |int a=>
  obtain⟨t',rfl⟩:=ry;cases x with
  |non=>cases rx;exact SeqAt.EqAt.int_none a t'
  |bl b=>cases rx;exact SeqAt.EqAt.int_bool a t' b
  |int b=>obtain⟨t,rfl⟩:=rx;exact SeqAt.EqAt.int_int a t' b t
  |str b=>obtain⟨t,rfl⟩:=rx;exact SeqAt.EqAt.int_str a t' b t
  |_=>exact absurd (show false=true from fx) ww
 |str a=>
  obtain⟨t',rfl⟩:=ry;cases x with
  |non=>cases rx;exact SeqAt.EqAt.str_none a t'
  |bl b=>cases rx;exact SeqAt.EqAt.str_bool a t' b
  |int b=>obtain⟨t,rfl⟩:=rx;exact SeqAt.EqAt.str_int a t' b t
  |str b=>obtain⟨t,rfl⟩:=rx;exact SeqAt.EqAt.str_str a t' b t
  |_=>exact absurd (show false=true from fx) ww
 |_=>exact absurd (show false=true from fy) ww
def eqU(x:V)(u:vv):Bool:=match u with
 |.none=>eqV .non x
 |.bool b=>eqV (.bl b) x
 |.int i _=>eqV (.int i) x
 |.str z _=>eqV (.str z) x
 |_=>false
theorem uf{x y:V}{u:vv}(r:aQ y u)(f:eG y=true):eqU x u=eqV y x:=by
 cases y with
 |non=>cases r;rfl
 |bl b=>cases r;rfl
 |int i=>obtain⟨t,rfl⟩:=r;rfl
 |str z=>obtain⟨t,rfl⟩:=r;rfl
 |_=>exact absurd (show false=true from f) ww
theorem lU{x:V}:∀{xs:List V} {us:List vv},aK xs us->xs.all eG=true->us.any (eqU x)=xs.any λy=>eqV y x
 |_,_,.nil,_=>rfl
 |y::xs,u::us,.cons r t,f=>by
  rw[ZV,ZR] at f;rw[List.any_cons,List.any_cons,uf r f.1,lU t f.2]
theorem jY{A:Qy}{s:v6}{x:V}{v:vv}(rx:aQ x v)(fx:eG x=true):∀{xs:List V} {us:List vv},aK xs us->xs.all eG=true->∀u∈us,ZS A s u v (eqU x u)
 |_,_,.nil,_=>λu hu=>by cases hu
 |y::xs,u::us,.cons r t,f=>λu' hu=>by
  rw[ZV,ZR] at f;rcases ut.mp hu with rfl | hu
  ·rw[uf r f.1];exact n4 r rx f.1 fx
  ·exact jY rx fx t f.2 u' hu
def inV(x:V)(xs:List V):Bool:=xs.any λy=>eqV y x
def rIn(K:v0)(neg:Bool):R2:=λx y H Q=>∃p xs,y=.ref p/\(SqL K H p xs\/SqT K H p xs)/\eG x=true/\xs.all eG=true/\Q (.bl (if neg then !inV x xs else inV x xs)) H
theorem rE:OpR X (QD .In) (rIn X.K false):=by
 intro pins s σ H x y v u Q I rx ry h;obtain⟨p,xs,rfl,hq,fx,fs,q⟩:=h;cases ry;rcases hq with hq | hq
 ·obtain⟨its,r,pl,hz⟩:=I.list hq
  refine SeqAt.in_listAt (eqU x) pl.isList (λw hw=>jY rx fx r fs w (by simpa using hw)) ⟨.bl _,H,I,rfl,?_⟩;rw[show its.toArray.any (eqU x)=its.any (eqU x) by simp,lU r fs];exact q
 ·obtain⟨its,r,pl,hz⟩:=I.tuple hq
  refine SeqAt.in_tupleAt (eqU x) pl (λw hw=>jY rx fx r fs w (by simpa using hw)) ⟨.bl _,H,I,rfl,?_⟩;rw[show its.toArray.any (eqU x)=its.any (eqU x) by simp,lU r fs];exact q
theorem k8:dA X (.builtin "len") (λxs H Q=>∃p ys,xs=[.ref p]/\(SqL X.K H p ys\/SqT X.K H p ys)/\Q (.int ys.length) H):=by
 intro pins s σ H xs us Q I r h;obtain⟨p,ys,rfl,hq,q⟩:=h;obtain⟨u,rfl,rx⟩:=AE r;cases rx;have hn:=lI;rcases hq with hq | hq
 ·obtain⟨its,r',pl,hz⟩:=I.list hq
  have hlen:=r'.length;exact Calls.call_len_list pl.isList (by simp only[Qx]<;>lia) ⟨.int ys.length,H,I.tok _,⟨s.toks+1,by rw[Qx,hlen]⟩,q⟩
 ·obtain⟨its,r',pl,hz⟩:=I.tuple hq
  have hlen:=r'.length;exact len_tuple pl (by simp only[Qx]<;>lia) ⟨.int ys.length,H,I.tok _,⟨s.toks+1,by rw[Qx,hlen]⟩,q⟩
theorem dA.or{f:vv}{r r':List V->Hp->VK->Prop}(h:dA X f r)(h':dA X f r'):dA X f (λxs H Q=>r xs H Q\/r' xs H Q):=by
 intro pins s σ H xs us Q I rs q;rcases q with q | q
 ·exact h pins s σ H xs us Q I rs q
 ·exact h' pins s σ H xs us Q I rs q
def tyV(K:v0)(T:String)(x:V)(H:Hp):Prop:=match x with
 |.str _=>T = "str"
 |.int _=>T = "int"
 |.ref p=>(T = "list"/\∃xs,SqL K H p xs)\/(T = "tuple"/\∃o,K.lookup p=some o/\o.cls=.type "tuple"/\o.dict=none)\/
   (T = "dict"/\((∃kvs,H p=some (.dK kvs))\/∃kvs,H p=some (.dT kvs)))\/(T = "set"/\∃S n,H p=some (.set S n))
 |_=>False
theorem yJ{pins:List (Addr×Obj)}{σ:St}{H:Hp}{s:v6}{T:String}{x:V}{v:vv}(I:Inv X pins σ H s)(r:aQ x v)(ty:tyV X.K T x H) :
  s.TypeIs v T/\∀a,v=.ref a->∃ob,s.heap.get? a=some ob/\ob.dict=none:=by
 cases x with
 |str z=>
  obtain⟨t,rfl⟩:=r;cases(show T = "str" from ty);exact⟨typeIs_str s z t,λ_ e=>nomatch e⟩
 |int i=>
  obtain⟨t,rfl⟩:=r;cases(show T = "int" from ty);exact⟨typeIs_int s i t,λ_ e=>nomatch e⟩
 |ref p=>
  cases r;rcases ty with⟨rfl,xs,hq⟩ | ⟨rfl,o,hk,hc,hd⟩ | ⟨rfl,hk⟩ | ⟨rfl,S,n,hk⟩
  ·obtain⟨its,_,pl,_⟩:=I.list hq
   refine⟨pl.isList.typeIs,λa e=>?_⟩;cases e;obtain⟨o,n,e,c,hd,_⟩:=pl;exact⟨o,e,hd⟩
  ·refine⟨⟨o,I.kIn p o hk,hc⟩,λa e=>?_⟩
   cases e;exact⟨o,I.kIn _ o hk,hd⟩
  ·have z:∃o,s.heap.get? p=some o/\o.ExactDict:=by
    rcases hk with⟨kvs,hk⟩ | ⟨kvs,hk⟩
    ·obtain⟨_,_,_,_,o,_,_,e,ex,_⟩:=I.hok p _ hk
     exact⟨o,e,ex⟩
    ·obtain⟨_,_,_,_,o,_,_,e,ex,_⟩:=I.hok p _ hk
     exact⟨o,e,ex⟩
   obtain⟨o,e,ex⟩:=z;refine⟨⟨o,e,ex.1⟩,λa e2=>?_⟩;cases e2;exact⟨o,e,ex.2.1⟩
  ·obtain⟨o,_,_,_,e,ex,_⟩:=I.hok p _ hk
   refine⟨⟨o,e,ex.1⟩,λa e2=>?_⟩;cases e2;exact⟨o,e,ex.2.1⟩
 |_=>exact JR ty
def tBM(K:v0)(T:String)(r:V->List V->Hp->VK->Prop)(to:TE)(t:TA):TE:=λσ H Q=>to σ H λx H1=>tyV K T x H1/\t σ H1 λxs H2=>r x xs H2 Q
variable{o e:Expr}{es:List Expr}{to:TE}{t:TA}{name:Str}{apos cpos:Pos}{T id:String}{r:V->List V->Hp->VK->Prop}
theorem x4(pa:PlainAttrs T)(slot:Slot T name id)(hty:typeOf (.builtin id)=pure (.type "method_descriptor"))(hm:MtR X id r)(ho:PE X o to)(ha:PA X (e::es) t)
  (hbase:Zz o name X.env (eval o X.env)=eval o X.env:=by rfl)
  (hfew:((Q7 cpos (uk (e::es) X.env)).all (λx=>!x.1)&&(backToKw cpos (J8 [] X.env)).all (λx=>x.1.isSome)
   && decide ((e::es).length+([]:List Keyword).length+(if([]:List Keyword).isEmpty then 0 else 1)<30))=true:=by rfl)
  (hline:(apos.endLine==cpos.line)=true:=by rfl) (hs:uk (e::es) X.env=(false,eval e X.env)::uk es X.env:=by rfl) (hplain:(Q7 cpos (uk es X.env)).any (·.1)=false:=by rfl) :
  PE X (.Call (.Attribute o name apos) (e::es) [] cpos) (tBM X.K T r to t):=by
 intro pins s σ H Q I h;refine wpAny_Call_method_late hbase hfew hline rfl (thn (ho pins s σ H _ I h) λv s1 ⟨x,H1,I1,r1,ty,q1⟩=>?_);obtain⟨h1,h2⟩:=yJ I1 r1 ty;refine⟨T,id,pa,slot,hty,h1,h2,?_⟩;have hA:=ha cpos pins s1 σ H1 _ I1 q1;rw[hs] at hA ⊢;refine Calls.callWith_builtin (by show(false || (Q7 cpos (uk es X.env)).any (·.1))=false;rw[hplain]<;>rfl) (Calls.evalArgs_plain ?_);exact thn hA λus s2 ⟨vs,H2,I2,r2,q2⟩=>hm pins s2 σ H2 x vs v us Q I2 r1 r2 q2
end
def MtM(X:Cx)(id:String)(r:V->List V->Hp->VK->Prop):Prop:=
 ∀(pins:List (Addr×Obj)) (s:v6) (σ:St) (H:Hp) (x:V) (xs:List V) (v:vv) (us:List vv) (Q:VK),Inv X pins σ H s->aQ x v->aK xs us->r x xs H Q->
  wE (Qa X.prog X.w) X.A (call (.builtin id) (v::us)) (EP X pins σ Q) X.xe s
theorem aK.one:∀{x:V} {us:List vv},aK [x] us->∃u,us=[u]/\aQ x u:=λh=>by
 cases h with | cons r t=>cases t;exact⟨_,rfl,r⟩
theorem aK.two:∀{x y:V} {us:List vv},aK [x,y] us->∃u v,us=[u,v]/\aQ x u/\aQ y v:=λh=>by
 cases h with | cons r t=>cases t with | cons q t=>cases t;exact⟨_,_,rfl,r,q⟩
theorem aK.zero:∀{us:List vv},aK [] us->us=[]
 |_,.nil=>rfl
theorem aK.eraseIdx:∀{xs:List V} {us:List vv} (i:Nat),aK xs us->aK (xs.eraseIdx i) (us.eraseIdx i)
 |_,_,_,.nil=>.nil
 |_,_,0,.cons _ t=>t
 |_,_,i+1,.cons r t=>.cons r (aK.eraseIdx i t)
theorem aK.reverse{xs:List V}{us:List vv}(h:aK xs us):aK xs.reverse us.reverse:=by
 induction h with
 |nil=>exact .nil
 |cons r t ih=>rw[ZI,ZI];exact aK.append ih (.cons r .nil)
section
variable{X:Cx}{pins:List (Addr×Obj)}{σ:St}{H:Hp}{s:v6}{l b:Addr}{xs ys zs:List V}
theorem Inv.lset{its its':List vv}{n:Nat}{f:Array vv->Array vv}{t':Nat}(I:Inv X pins σ H s)(hH:H l=some (.lst xs))
  (e:s.heap.get? l=some { cls:=.type "list",data:=.seq its.toArray n }) (hf:f its.toArray=its'.toArray) (hv:aK ys its') (hz:ys.length<=Qt) :
  Inv X pins σ (upd H l (.lst ys)) { s with heap:=s.heap.update l (ZC f),toks:=t' }:=by
 have q:=PySem.IsL.update e f;rw[hf] at q;refine I.write (x:=l) (e:=l) (by rw[hH];exact trivial) (.inl rfl) (λb' u hb hu=>(JJ s.heap (ZC f) (Ne.symm hb)).trans hu) ⟨_,q⟩ ?_;exact⟨hz,its',_,hv,q⟩
theorem Inv.fresh(I:Inv X pins σ H s):H s.heap.objs.size=none:=I.hok.fresh (wp _)
theorem Inv.lstM(I:Inv X pins σ H s)(hH:H l=some (.lst xs)):xs.length<=Qt/\∃(its:List vv) (n:Nat),aK xs its/\xs.length=its.length/\s.heap.get? l=some { cls:=.type "list",data:=.seq its.toArray n }:=by
 obtain⟨z,its,n,r,e⟩:=I.hok l _ hH;exact⟨z,its,n,r,r.length,e⟩
end
section
variable{X:Cx}
def qt:V->List V->Hp->VK->Prop:=λx vs H Q=>∃l xs y,x=.ref l/\vs=[y]/\H l=some (.lst xs)/\xs.length<Qt/\Q .non (upd H l (.lst (xs++[y])))
theorem hV:MtM X "list.append" qt:=by
 intro pins s σ H x vs v us Q I rx rv h;obtain⟨l,xs,y,rfl,rfl,hH,hz,q⟩:=h;cases rx;obtain⟨u,rfl,ru⟩:=rv.one;obtain⟨z,its,n,r,hl,e⟩:=I.lstM hH;refine call_meets F.slot_list_append ⟨_,e,rfl⟩ F.entry_list_append (F.args_list_append_2 _ _) (PySem.list_append l its.toArray n u (by rw[Qx];lia)) ⟨e,?_⟩;refine⟨.non,_,I.lset (its':=its++[u]) hH e (by simp) (r.append (.cons ru .nil)) ?_,rfl,q⟩;rw[Qr,List.length_singleton]
 lia
end
end L2
namespace Att
open PySem PySem.W PySem.Calls PyProof.Rows
theorem iT{P:Params}{h:Heap}:∀(ns:List Int) (vs:List vv),WellAll P h vs (ns.map WData.int)->J0 vs ns:=by
 intro ns
 induction ns with
 |nil=>
  intro vs w;rw[List.map_nil] at w;cases w;exact .nil
 |cons n ns ih=>
  intro vs w;rw[Qe] at w;cases w with
  |cons a b=>
   cases a;exact .cons _ _ (ih _ b)
theorem rL{l:OpenLaw}{n:Nat}(hn:l.most=some n){P:Params}{h:Heap}{args:List WData}{vals:List vv}
  (hpre:l.row.toRowW.claim.pre args=true) (hwl:WellAll P h vals args) :
  ∃a vs ns,vals=[QH a]/\args=[WData.list (ns.map WData.int)]/\h.get? a=some { cls:=.type "list",data:=.seq vs.toArray }/\J0 vs ns/\ns.length<=n:=by
 have hsh:WShape.hasAll [] args [.list .int]=true:=(pre_splitW hpre).1;have hc:l.pre.holds [] { args:=args }=true:=(pre_splitW hpre).2;obtain⟨d,r,rfl,h1,h2⟩:=hasAllW_cons hsh;obtain rfl:=hasAllW_nil h2;obtain⟨xs,rfl,h3⟩:=hasW_list h1;obtain⟨ns,rfl⟩:=items_int h3
 have hlen:ns.length<=n:=by
  unfold OpenLaw.pre at hc
  have h4:(WTm.not (.lt (.lit (.int (n:Int))) (.len (.arg 0)))).holds [] { args:=[.list (ns.map .int)] }=true:=by
   have h4:=(holds_andW hc).1;rw[hn] at h4;exact h4
  have h5:=condW_of h4 (w_not (w_lt w_lit (w_len_list (w_arg rfl))));rw[Qg] at h5;refine JM λq=>?_;have q':(n:Int)<((ns.length:Nat):Int):=by lia
  first
   |(rw[decide_eq_true q'] at h5;exact absurd h5 (by decide))
   |(simp at h5;lia)
 cases hwl with
 |cons w1 w2=>
  cases w2;cases w1 with
  |list ho hall=>exact⟨_,_,ns,rfl,rfl,ho,iT ns _ hall,hlen⟩
theorem qV(l:OpenLaw)(args:List WData):l.row.toRowW.claim.post args (.bool true) args=true:=
 postW_of (r:=l.row.toRowW) (X:=(true==true))
  (show WShape.has [] (.bool true) .bool=true by first | rfl | decide | simp[WShape.has,WShape.arms,WShape.armsAll])
  (show(WTm.eq .res (.lit (.bool true))).value [] { args:=args,res:=some (.bool true),after:=args }=some (.bool (true==true)) from w_eq_bool (w_res rfl) w_lit) rfl
theorem ma{l:OpenLaw}{n:Nat}{q:Qs}{loose:List Str}{XP:(Str->Option vv)->Heap->Prop}{YP:QC->Heap->Prop}{d:DefRec}
  (hn:l.most=some n) (hdf:d.params.defaults=[])
  (call:∀(w:QC) (s₀ s₁:v6) (mg mb:Str->Option vv) (fa:Addr) (o:Obj) (pm cd doc:vv) (a:Addr) (vs:List vv) (ns:List Int),
   Ground q loose [] XP w s₀ mg mb s₁.heap->YP w s₁.heap->
   s₁.heap.get? fa=some o->o.data=.func (docDef d.name d.params d.body d.scope pm cd doc)->s₁.heap.CodeRec cd d.name->mg d.name=some (.ref fa)->
   s₁.heap.get? a=some { cls:=.type "list",data:=.seq vs.toArray }->J0 vs ns->ns.length<=n->s₁.gens=#[]->
   Zf (Qa l.prog w) callerA (.call (.ref fa) ⟨[.ref a],[]⟩) (λr s'=>r=.ok (.ret (.bool true))/\OldK s₁.heap s'.heap/\s'.os=s₁.os/\AllBare s'.gens) s₁) :
  WalkO q loose XP YP l.row.toRowW d [] (λf vs=>PySem.call f vs):=by
 intro w s₀ s₁ mg mb G Y fa o pm cd doc dV kV ho hd hcd hD hmg hg args vals as hpre hlay hrd hwl hlo;obtain rfl:dV=.none:=Dflts.none hD hdf;obtain rfl:kV=.none:=Dflts.noKw hD;obtain⟨a,vs,ns,rfl,rfl,hobj,hints,hlen⟩:=rL hn hpre hwl;refine enter_call (codeAny_mono (call w s₀ s₁ mg mb fa o pm cd doc a vs ns G Y ho (fd_plain hd) hcd hmg hobj hints hlen hg) λr s' hq=>?_);obtain⟨rfl,h2,h3,h4⟩:=hq;exact⟨.inl ⟨.bool true,.bool true,[],rfl,λ_=>rfl,.bool true,qV l _,λ_=>⟨List.Pairwise.nil,λ_ hm=>(nomatch hm)⟩⟩,h2,h3,h4⟩
end Att
namespace L2
open PySem PySem.Spec PyProof.Rows
theorem kb:∀{vs:List vv} {ns:List Int},J0 vs ns->aK (ns.map V.int) vs
 |_,_,.nil=>.nil
 |_,_,.cons n t h=>.cons ⟨t,rfl⟩ (kb h)
def zH(H:Hp):Prop:=∀b,H b=none\/∃o xs,H b=some (.frz o (.lst xs))
theorem s_{P:Qs}{w:QC}{K:v0}{mg mb:Str->Option vv}{CX:CXT}{k:Nat}{fa a:Addr}{fd:Q5}{x:Str}{sp:Sp}{s₁:v6}{vs:List vv}{ns:List Int}
  (KX:K.In s₁.heap) (hns:s₁.heap.Ns Qz mg) (hb:s₁.heap.Ns builtinsNs mb) (hbb:∀x:Str,x≠"__name__"->mb x=Zc x) (hlim:s₁.heap.NoLimit) (hg:s₁.gens=#[])
  (ha:s₁.heap.get? a=some { cls:=.type "list",data:=.seq vs.toArray }) (hi:J0 vs ns) (hl:ns.length<=Qt) (hr:Room k callerA)
  (F:∀base:Heap,K.In base->base.Ns Qz mg->FnOk P w K mg base CX k fa fd [x] sp) (hbind:∀(s:v6) (u:vv),BindsTo s fd ⟨[u],[]⟩ [(x,u)])
  (hsp:∀H:Hp,zH H->SqL K H a (ns.map V.int)->sp [.ref a] H (λv _=>v=.bl true) λ_ _ _=>False)
  (hCX:∀H e s',CX [] H s₁ (λ_ _ _=>False) e s'->False) :
  Zf (Qa P w) callerA (.call (.ref fa) ⟨[.ref a],[]⟩) (λr s'=>r=.ok (.ret (.bool true))/\OldK s₁.heap s'.heap/\s'.os=s₁.os/\AllBare s'.gens) s₁:=by
 have rv:=kb hi;have lenV:=hi.length
 have core:∀H:Hp,zH H->SqL K H a (ns.map V.int)->HOk P w H s₁.heap->(∀b,H b≠none->b=a)->(H a≠none->K.lookup a=none)->
   Zf (Qa P w) callerA (.call (.ref fa) ⟨[.ref a],[]⟩) (λr s'=>r=.ok (.ret (.bool true))/\OldK s₁.heap s'.heap/\s'.os=s₁.os/\AllBare s'.gens) s₁:=by
  intro H hO hS hok hA hK;have base_of:∀{b:Addr} {o:Obj},s₁.heap.get? b=some o->H b=none->(lY s₁.heap H).get? b=some o:=λe n=>uE e n
  have noA:∀{b:Addr} {o:Obj} {es:Array Jp} {ep:Nat},s₁.heap.get? b=some o->o.data=.dict es ep->H b=none:=λ{b o es ep} e d=>by
   cases q:H b with
   |none=>rfl
   |some u=>
    have e':b=a:=hA b (by rw[q];simp);subst e';rw[ha] at e;cases e;have d':Data.seq vs.toArray _=Data.dict es ep:=d;cases d'
  have nsK:∀{b:Addr} {m:Str->Option vv},s₁.heap.Ns b m->(lY s₁.heap H).Ns b m:=λ{b m} ⟨o,es,ep,e,d,r⟩=>⟨o,es,ep,base_of e (noA e d),d,r⟩
  have hKb:K.In (lY s₁.heap H):=λb o e=>base_of (KX b o e) (by
   cases q:H b with
   |none=>rfl
   |some u=>
    have e':b=a:=hA b (by rw[q];simp);subst e'
    rw[hK (by rw[q];simp)] at e;cases e)
  have hM:Mod K mg (lY s₁.heap H):=⟨hKb,nsK hns,⟨mb,nsK hb,hbb⟩,let⟨mc,h1,h2⟩:=hlim;⟨mc,nsK h1,h2⟩⟩;have e0:Env0 P w K mg (lY s₁.heap H) callerA [] s₁ H:=⟨rfl,hM,λb o e=>xK e,Nat.le_of_eq (rS _ _),trivial,λb hb=>absurd (show b∈([]:List Addr) from hb) (by simp),hok,.of_eq hg⟩;refine codeAny_mono ((F _ hKb (nsK hns)).run callerA [] s₁ H ⟨[.ref a],[]⟩ [.ref a] [.ref a] _ _ hr e0 (hbind s₁ (.ref a)) (.cons rfl .nil) (hsp H hO hS)) λr s' h=>?_;cases r with
  |error e=>exact(hCX H e s' h).elim
  |ok fl=>
   cases fl with
   |next=>exact JR h
   |brk=>exact JR h
   |cont=>exact JR h
   |ret u=>
    obtain⟨v,H',os,bare,un,hok',r',q⟩:=h;have q':v=.bl true:=q;subst q';obtain rfl:u=Value.bool true:=r';refine⟨rfl,OldK.of_keep λb o e=>?_,os,bare⟩;cases q:H b with
    |none=>exact un.keep b o e q (by intro z;exact absurd (show b∈([]:List Addr) from z) (by simp)) (by simp)
    |some u=>
     rcases hO b with z | ⟨ob,xs,z⟩
     ·rw[q] at z;cases z
     ·have z2:=un.frzs b ob _ z
      obtain⟨e1,_⟩:=hok b _ z;obtain⟨e2,_⟩:=hok' b _ z2;rw[e] at e1;cases e1;exact e2
 cases hk:K.lookup a with
 |some o=>
  have e:=KX a o hk;rw[ha] at e;cases e;refine core (λ_=>none) (λ_=>.inl rfl) (.inr ⟨_,vs.toArray,_,hk,rfl,rfl,rfl,by rw[Qx,lenV];exact hl,by simpa using rv⟩) (λb u z=>by have z':(none:Option HO)=some u:=z;cases z') (λb z=>absurd rfl z) λz=>absurd rfl z
 |none=>
  refine core (λb=>if b=a then some (.frz { cls:=.type "list",data:=.seq vs.toArray } (.lst (ns.map V.int))) else none) (λb=>?_) (.inl (.inr ⟨{ cls:=.type "list",data:=.seq vs.toArray },if_pos rfl⟩)) (λb u z=>?_) (λb z=>?_) λ_=>hk
  ·by_cases hb:b=a
   ·exact .inr ⟨_,_,if_pos hb⟩
   ·exact .inl (if_neg hb)
  ·by_cases hb:b=a
   ·have z':=(if_pos hb).symm.trans z
    cases z';subst hb;exact⟨ha,by rw[Qg];exact hl,vs,_,rv,ha⟩
   ·have z':=(if_neg hb).symm.trans z
    cases z'
  ·by_cases hb:b=a
   ·exact hb
   ·exact absurd (if_neg hb) z
theorem vp{l:PySem.W.OpenLaw}{n k:Nat}{q:Qs}{loose:List Str}{XP:(Str->Option vv)->Heap->Prop}{YP:QC->Heap->Prop}{d:DefRec}{K:Params->v0}{CX:QC->CXT}{sp:QC->Sp}{x:Str}
  (hn:l.most=some n) (hn2:n<=Qt) (hdf:d.params.defaults=[]) (hr:Room k callerA)
  (hY:∀(w:QC) (h:Heap),YP w h->(K w.params).In h)
  (F:∀(w:QC) (mg:Str->Option vv) (fa:Addr) (h:Heap),(K w.params).In h->h.Ns Qz mg->mg d.name=some (.ref fa)->
   ∃fd:Q5,(∀(s:v6) (u:vv),BindsTo s fd ⟨[u],[]⟩ [(x,u)])/\
    ∀base:Heap,(K w.params).In base->base.Ns Qz mg->FnOk l.prog w (K w.params) mg base (CX w) k fa fd [x] (sp w))
  (hsp:∀(w:QC) (H:Hp) (a:Addr) (ns:List Int),ns.length<=n->zH H->SqL (K w.params) H a (ns.map V.int)->sp w [.ref a] H (λv _=>v=.bl true) λ_ _ _=>False)
  (hCX:∀(w:QC) (H:Hp) (s:v6) (e:vv) (s':v6),CX w [] H s (λ_ _ _=>False) e s'->False) :
  PySem.W.WalkO q loose XP YP l.row.toRowW d [] (λf vs=>PySem.call f vs):=by
 refine Att.ma hn hdf λw s₀ s₁ mg mb fa o pm cd doc a vs ns G Y ho hd hcd hmg hobj hints hlen hg=>?_;have KX:=hY w _ Y;obtain⟨fd,hb,hF⟩:=F w mg fa _ KX G.T.g hmg;exact s_ KX G.T.g G.T.b G.T.builtins G.T.nolimit hg hobj hints (QO hlen hn2) hr hF hb (λH hO hS=>hsp w H a ns hlen hO hS) λH e s'=>hCX w H s₁ e s'
def cN(s:Stmt):Arguments:=match s with
 |.FunctionDef _ a _ _ _ _ _ _ _ _=>a
 |_=>{ posonlyargs:=[],args:=[],vararg:=none,kwonlyargs:=[],kw_defaults:=[],kwarg:=none,defaults:=[] }
def bw(s:Stmt):List Stmt:=match s with
 |.FunctionDef _ _ b _ _ _ _ _ _ _=>b
 |_=>[]
def aI(s:Stmt):Scope:=match s with
 |.FunctionDef _ _ _ _ _ _ sc _ _ _=>sc
 |_=>{ kind:=.function,names:=[],isGenerator:=false,isCoroutine:=false }
abbrev CX0:CXT:=λ_ _ _ _ _ _=>False
abbrev E0:XK:=λ_ _ _=>False
theorem xU{X:Cx}:ot CX0 X E0:=λ_ _ _ _ _ _ _ h=>h.elim
structure Fun(K:v0)(x qual:Str)(st:Stmt)(f:Addr)(fd:Q5):Prop where
 ex:∃(oc:vv) (od:Option Addr) (kV doc pm:vv) (an:Option Addr) (cdv ct:vv) (osl:Array (Option vv)),
  fd=JI x qual (cN st) (bw st) (aI st) .none kV doc pm an cdv ct/\K.lookup f=some ⟨oc,od,.func fd,osl⟩/\PySem.W.codeIn K cdv qual=true
 kp:Zs K (.ref f)=true
section
variable{P:Qs}{w:QC}{K:v0}{mg:Str->Option vv}{base:Heap}
theorem Fun.ok{x qual:Str}{st:Stmt}{f:Addr}{fd:Q5}{N ps:List Str}{k:Nat}{sp:Sp}(F:Fun K x qual st f fd)(S:FnScope N ps (aI st))(len:∀vs H Q E,sp vs H Q E->vs.length=ps.length)
  (hbody:∀(cdv:vv) (A:Qy) (outer:List Env) (s:v6) (H:Hp) (vs:List V) (Q:VK) (E:XK),Room k (A.deeper (envOfC qual (aI st) s.heap.objs.size f cdv))->sp vs H Q E->
   ∃t,PSs (iM CX0 P w K mg base N qual (aI st) f cdv A outer s H E).nox (bw st) t/\t { nx:=λ_ H'=>Q .non H',rt:=Q } (fB N vs) H):FnOk P w K mg base CX0 (k+1) f fd ps sp:=by
 obtain⟨oc,od,kV,doc,pm,an,cdv,ct,osl,rfl,lk,hcd⟩:=F.ex;refine AG lk hcd S len λA outer s H vs Q E hr hsp=>?_;obtain⟨t,h,q⟩:=hbody cdv A outer s H vs Q E hr hsp;exact⟨t,h.nox,q⟩
theorem Fun.binds{x qual:Str}{st:Stmt}{f:Addr}{fd:Q5}{ps:List Str}(F:Fun K x qual st f fd)
  (h:∀(kV doc pm:vv) (an:Option Addr) (cdv ct:vv) (us:List vv),us.length=ps.length->bindArgs (JI x qual (cN st) (bw st) (aI st) .none kV doc pm an cdv ct) ⟨us,[]⟩=pure (ps.zip us)):iG K fd ps []:=by
 obtain⟨oc,od,kV,doc,pm,an,cdv,ct,osl,rfl,lk,hcd⟩:=F.ex;exact .all (h kV doc pm an cdv ct)
theorem tx{x qual:Str}{st:Stmt}{f:Addr}{oc:vv}{od an:Option Addr}{osl:Array (Option vv)}{kV doc pm cdv ct:vv}(l:K.lookup f=some ⟨oc,od,.func (JI x qual (cN st) (bw st) (aI st) .none kV doc pm an cdv ct),osl⟩)
  (c:PySem.W.codeIn K cdv qual=true) (k:Zs K (.ref f)=true):Fun K x qual st f (JI x qual (cN st) (bw st) (aI st) .none kV doc pm an cdv ct):=⟨⟨oc,od,kV,doc,pm,an,cdv,ct,osl,rfl,l,c⟩,k⟩
end
theorem rj{n:Nat}(h:n<=1000):n<Qt:=Zd h (by decide)
def aF(H H':Hp):Prop:=∀b o,H b=some o->H' b=some o
theorem aF.refl(H:Hp):aF H H:=λ_ _ h=>h
theorem aF.trans{H H1 H2:Hp}(a:aF H H1)(b:aF H1 H2):aF H H2:=λc o h=>b c o (a c o h)
theorem aF.free{H H':Hp}(e:aF H H'){l:Addr}(h:H' l=Option.none):H l=Option.none:=by
 cases q:H l with
 |none=>rfl
 |some o=>
  rw[e l o q] at h;cases h
theorem aF.seq{K:v0}{H H':Hp}{a:Addr}{xs:List V}(e:aF H H')(h:SqL K H a xs):SqL K H' a xs:=by
 rcases h with(h | ⟨o,h⟩) | h
 ·exact .inl (.inl (e _ _ h))
 ·exact .inl (.inr ⟨o,e _ _ h⟩)
 ·exact .inr h
end L2
namespace Dn
open PySem PySem.Spec PyProof.Rows L2
inductive D where
 |non | bl (b:Bool) | int (i:Int) | str (x:Str) | tup (xs:List D) | lst (xs:List D) | dic (es:List (List Int×D))
 deriving Inhabited
def AC(ns:List Int):Int:=reduceHash (Builtin.Tuple.tupleHashOf (ns.map hashInt))
abbrev aT:=List (List Int×Addr×V)
structure EntOk(p:List Int×Addr×V)(e:Jp):Prop where
 hash:e.hash=AC p.1
 key:e.key=.ref p.2.1
 val:aQ p.2.2 e.val
def DAt(a:Addr)(us:aT)(ep:Nat):Heap->Prop:=λh=>(a==Ju)=false/\us.length<=1000000/\∃o raw,h.get? a=some o/\o.ExactDict/\o.data=.dict raw ep/\Jk EntOk us raw.toList
theorem DAt.at{a:Addr}{us:aT}{ep:Nat}{h h':Heap}(x:DAt a us ep h)(k:∀o,h.get? a=some o->h'.get? a=some o):DAt a us ep h':=let⟨n,z,o,raw,e,r⟩:=x;⟨n,z,o,raw,k o e,r⟩
mutual
inductive Den(K:v0)(G:Hp):V->D->Prop where
 |non:Den K G .non .non
 |bl (b:Bool):Den K G (.bl b) (.bl b)
 |int (i:Int):Den K G (.int i) (.int i)
 |str (x:Str):Den K G (.str x) (.str x)
 |tup {a:Addr} {xs:List V} {ds:List D} (h:SqT K G a xs) (hs:DenL K G xs ds):Den K G (.ref a) (.tup ds)
 |lst {a:Addr} {xs:List V} {ds:List D} (h:SqL K G a xs) (hs:DenL K G xs ds):Den K G (.ref a) (.lst ds)
 |dic {a:Addr} {us:aT} {ep:Nat} {es:List (List Int×D)} (h:G a=some (.ext (DAt a us ep))) (nd:(us.map (·.1)).Nodup) (hs:DenM K G us es):Den K G (.ref a) (.dic es)
inductive DenM(K:v0)(G:Hp):aT->List (List Int×D)->Prop where
 |nil:DenM K G [] []
 |cons {k:List Int} {b:Addr} {v:V} {d:D} {us:aT} {es:List (List Int×D)} (hk:SqT K G b (k.map V.int)) (hv:Den K G v d) (hs:DenM K G us es):DenM K G ((k,b,v)::us) ((k,d)::es)
inductive DenL(K:v0)(G:Hp):List V->List D->Prop where
 |nil:DenL K G [] []
 |cons {x:V} {d:D} {xs:List V} {ds:List D} (h:Den K G x d) (hs:DenL K G xs ds):DenL K G (x::xs) (d::ds)
end
theorem aC{K:v0}{H H':Hp}{a:Addr}{xs:List V}(e:aF H H')(h:SqT K H a xs):SqT K H' a xs:=by
 rcases h with(h | ⟨o,h⟩) | h
 ·exact .inl (.inl (e _ _ h))
 ·exact .inl (.inr ⟨o,e _ _ h⟩)
 ·exact .inr h
theorem Den.mono{K:v0}{G G':Hp}(e:aF G G'){v:V}{d:D}(h:Den K G v d):Den K G' v d:=
 Den.rec (motive_1:=λv d _=>Den K G' v d) (motive_2:=λu e _=>DenM K G' u e) (motive_3:=λv d _=>DenL K G' v d) .non .bl .int .str (λh _ y=>.tup (aC e h) y) (λh _ y=>.lst (e.seq h) y) (λh n _ y=>.dic (e _ _ h) n y) .nil (λk _ _ y z=>.cons (aC e k) y z) .nil (λ_ _ y z=>.cons y z) h
theorem DenM.mono{K:v0}{G G':Hp}(e:aF G G'){us:aT}{es:List (List Int×D)}(h:DenM K G us es):DenM K G' us es:=
 DenM.rec (motive_1:=λv d _=>Den K G' v d) (motive_2:=λu e _=>DenM K G' u e) (motive_3:=λv d _=>DenL K G' v d) .non .bl .int .str (λh _ y=>.tup (aC e h) y) (λh _ y=>.lst (e.seq h) y) (λh n _ y=>.dic (e _ _ h) n y) .nil (λk _ _ y z=>.cons (aC e k) y z) .nil (λ_ _ y z=>.cons y z) h
theorem DenL.mono{K:v0}{G G':Hp}(e:aF G G'){v:List V}{d:List D}(h:DenL K G v d):DenL K G' v d:=
 DenL.rec (motive_1:=λv d _=>Den K G' v d) (motive_2:=λu e _=>DenM K G' u e) (motive_3:=λv d _=>DenL K G' v d) .non .bl .int .str (λh _ y=>.tup (aC e h) y) (λh _ y=>.lst (e.seq h) y) (λh n _ y=>.dic (e _ _ h) n y) .nil (λk _ _ y z=>.cons (aC e k) y z) .nil (λ_ _ y z=>.cons y z) h
section
variable{K:v0}{G:Hp}
theorem DenL.ind{P:List V->List D->Prop}(n:P [] [])(c:∀{x:V} {d:D} {xs:List V} {ds:List D},Den K G x d->DenL K G xs ds->P xs ds->P (x::xs) (d::ds)){xs:List V}{ds:List D}(h:DenL K G xs ds):P xs ds:=
 DenL.rec (motive_1:=λ_ _ _=>True) (motive_2:=λ_ _ _=>True) (motive_3:=λxs ds _=>P xs ds) trivial (λ_=>trivial) (λ_=>trivial) (λ_=>trivial) (λ_ _ _=>trivial) (λ_ _ _=>trivial) (λ_ _ _ _=>trivial) trivial (λ_ _ _ _ _=>trivial) n (λh hs _ y=>c h hs y) h
theorem DenM.ind{P:aT->List (List Int×D)->Prop}(n:P [] [])(c:∀{k:List Int} {b:Addr} {v:V} {d:D} {us:aT} {es:List (List Int×D)},SqT K G b (k.map V.int)->Den K G v d->DenM K G us es->P us es->P ((k,b,v)::us) ((k,d)::es)){us:aT}{es:List (List Int×D)}(h:DenM K G us es):P us es:=
 DenM.rec (motive_1:=λ_ _ _=>True) (motive_2:=λus es _=>P us es) (motive_3:=λ_ _ _=>True) trivial (λ_=>trivial) (λ_=>trivial) (λ_=>trivial) (λ_ _ _=>trivial) (λ_ _ _=>trivial) (λ_ _ _ _=>trivial) n (λk v hs _ y=>c k v hs y) trivial (λ_ _ _ _=>trivial) h
theorem DenL.length{xs:List V}{ds:List D}(h:DenL K G xs ds):xs.length=ds.length:=
 DenL.ind (P:=λxs ds=>xs.length=ds.length) rfl (λ_ _ y=>congrArg (· + 1) y) h
theorem DenL.get{xs:List V}{ds:List D}{i:Nat}{d:D}(h:DenL K G xs ds):ds[i]?=some d->∃x,xs[i]?=some x/\Den K G x d:=by
 revert i
 refine DenL.ind (P:=λxs ds=>∀{i:Nat},ds[i]?=some d->∃x,xs[i]?=some x/\Den K G x d) (λ{i} e=>nomatch e) (λ{x d' xs ds} h _ y {i} e=>?_) h;cases i with
 |zero=>cases e;exact⟨_,rfl,h⟩
 |succ i=>exact y (i:=i) e
theorem DenL.getV{xs:List V}{ds:List D}{i:Nat}{x:V}(h:DenL K G xs ds):xs[i]?=some x->∃d,ds[i]?=some d/\Den K G x d:=by
 revert i
 refine DenL.ind (P:=λxs ds=>∀{i:Nat},xs[i]?=some x->∃d,ds[i]?=some d/\Den K G x d) (λ{i} e=>nomatch e) (λ{x' d' xs ds} h _ y {i} e=>?_) h;cases i with
 |zero=>cases e;exact⟨_,rfl,h⟩
 |succ i=>exact y (i:=i) e
theorem DenL.append{xs ys:List V}{ds es:List D}(h:DenL K G xs ds)(s:DenL K G ys es):DenL K G (xs++ys) (ds++es):=
 DenL.ind (P:=λxs ds=>DenL K G (xs++ys) (ds++es)) s (λh _ y=>.cons h y) h
theorem DenL.take{xs:List V}{ds:List D}(n:Nat)(h:DenL K G xs ds):DenL K G (xs.take n) (ds.take n):=by
 refine DenL.ind (P:=λxs ds=>∀n,DenL K G (xs.take n) (ds.take n)) (λn=>?_) (λh _ y n=>?_) h n
 ·cases n<;>exact .nil
 ·cases n with
  |zero=>exact .nil
  |succ n=>exact .cons h (y n)
theorem DenL.drop{xs:List V}{ds:List D}(n:Nat)(h:DenL K G xs ds):DenL K G (xs.drop n) (ds.drop n):=by
 refine DenL.ind (P:=λxs ds=>∀n,DenL K G (xs.drop n) (ds.drop n)) (λn=>?_) (λh hs y n=>?_) h n
 ·cases n<;>exact .nil
 ·cases n with
  |zero=>exact .cons h hs
  |succ n=>exact y n
theorem DenL.set{x:V}{d:D}(r:Den K G x d){xs:List V}{ds:List D}(i:Nat)(h:DenL K G xs ds):DenL K G (xs.set i x) (ds.set i d):=by
 refine DenL.ind (P:=λxs ds=>∀i,DenL K G (xs.set i x) (ds.set i d)) (λn=>.nil) (λq t y i=>?_) h i;cases i with
 |zero=>exact .cons r t
 |succ i=>exact .cons q (y i)
theorem DenL.one{x:V}{d:D}(h:Den K G x d):DenL K G [x] [d]:=.cons h .nil
end
structure Grow(G H G' H':Hp):Prop where
 hh:aF H H'
 gg:aF G G'
 gh:aF G' H'
 fo:∀a o,H a=some o->G a=none->G' a=none
theorem Grow.refl{G H:Hp}(h:aF G H):Grow G H G H:=⟨aF.refl _,aF.refl _,h,λ_ _ _ e=>e⟩
theorem Grow.trans{G H G1 H1 G2 H2:Hp}(a:Grow G H G1 H1)(b:Grow G1 H1 G2 H2):Grow G H G2 H2:=
 ⟨a.hh.trans b.hh,a.gg.trans b.gg,b.gh,λc o h e=>b.fo c o (a.hh c o h) (a.fo c o h e)⟩
theorem Grow.new{G H:Hp}{p:Addr}(o:HO)(gh:aF G H)(hn:H p=none):Grow G H (upd G p o) (upd H p o) where
 hh:=λb u e=>by rw[aD (ax e hn)];exact e
 gg:=λb u e=>by rw[aD (ax (gh b u e) hn)];exact e
 gh:=λb u e=>by
  unfold upd at e ⊢
  by_cases z:b=p
  ·rw[if_pos z] at e ⊢;exact e
  ·rw[if_neg z] at e ⊢;exact gh b u e
 fo:=λa u e g=>by rw[aD (ax e hn)];exact g
theorem Grow.lay{G H:Hp}{p:Addr}(o:HO)(gh:aF G H)(hn:H p=none):Grow G H G (upd H p o) where
 hh:=λb u e=>by rw[aD (ax e hn)];exact e
 gg:=aF.refl _
 gh:=λb u e=>by rw[aD (ax (gh b u e) hn)];exact gh b u e
 fo:=λa u e g=>g
inductive Sl where
 |un | dat (d:D) | own (ds:List D) | odi (es:List (List Int×D))
abbrev Ev:=List Sl
structure EnvD(K:v0)(He G H:Hp)(σ:L2.St)(ε:Ev):Prop where
 len:σ.length=ε.length
 dat:∀{i:Nat} {d:D},ε[i]?=some (.dat d)->∃v,σ[i]?=some (some v)/\Den K G v d
 own:∀{i:Nat} {ds:List D},ε[i]?=some (.own ds)->∃a xs,σ[i]?=some (some (.ref a))/\H a=some (.lst xs)/\G a=none/\He a=none/\DenL K G xs ds
 apart:∀{i j:Nat} {ds es:List D} {a:Addr},ε[i]?=some (.own ds)->ε[j]?=some (.own es)->σ[i]?=some (some (.ref a))->σ[j]?=some (some (.ref a))->i=j
 odi:∀{i:Nat} {es:List (List Int×D)},ε[i]?=some (.odi es)->∃a us ep,σ[i]?=some (some (.ref a))/\H a=some (.ext (DAt a us ep))/\G a=none/\He a=none/\(us.map (·.1)).Nodup/\DenM K G us es
 apartD:∀{i j:Nat} {ds es:List (List Int×D)} {a:Addr},ε[i]?=some (.odi ds)->ε[j]?=some (.odi es)->σ[i]?=some (some (.ref a))->σ[j]?=some (some (.ref a))->i=j
theorem EnvD.grow{K:v0}{He G H G' H':Hp}{σ:L2.St}{ε:Ev}(E:EnvD K He G H σ ε)(g:Grow G H G' H'):EnvD K He G' H' σ ε where
 len:=E.len
 dat:=λe=>let⟨v,h1,h2⟩:=E.dat e;⟨v,h1,h2.mono g.gg⟩
 own:=λe=>let⟨a,xs,h1,h2,h3,h4,h5⟩:=E.own e;⟨a,xs,h1,g.hh _ _ h2,g.fo _ _ h2 h3,h4,h5.mono g.gg⟩
 apart:=E.apart
 odi:=λe=>let⟨a,us,ep,h1,h2,h3,h4,h5,h6⟩:=E.odi e;⟨a,us,ep,h1,g.hh _ _ h2,g.fo _ _ h2 h3,h4,h5,h6.mono g.gg⟩
 apartD:=E.apartD
structure Sta(K:v0)(He Ge G H:Hp)(σ:L2.St)(ε:Ev):Prop where
 g:Grow Ge He G H
 e:EnvD K He G H σ ε
theorem Sta.grow{K:v0}{He Ge G H G' H':Hp}{σ:L2.St}{ε:Ev}(S:Sta K He Ge G H σ ε)(g:Grow G H G' H'):Sta K He Ge G' H' σ ε:=⟨S.g.trans g,S.e.grow g⟩
def DE(X:Cx)(e:Expr)(f:Ev->Option D):Prop:=∃t,PE X e t/\∀(He G H:Hp) (σ:L2.St) (ε:Ev) (d:D) (Q:VK),aF G H->EnvD X.K He G H σ ε->f ε=some d->
 (∀v G' H',Grow G H G' H'->Den X.K G' v d->Q v H')->t σ H Q
def DF(X:Cx)(e:Expr)(f:Ev->Option (List D)):Prop:=∃t,PE X e t/\∀(He G H:Hp) (σ:L2.St) (ε:Ev) (ds:List D) (Q:VK),aF G H->EnvD X.K He G H σ ε->f ε=some ds->
 (∀a xs G' H',Grow G H G' H'->H a=none->G' a=none->H' a=some (.lst xs)->DenL X.K G' xs ds->Q (.ref a) H')->t σ H Q
def DT(X:Cx)(e:Expr)(f:Ev->Option Bool):Prop:=∃t,PT X e t/\∀(He G H:Hp) (σ:L2.St) (ε:Ev) (b:Bool) (Q:Bool->Hp->Prop),aF G H->EnvD X.K He G H σ ε->f ε=some b->
 (∀G' H',Grow G H G' H'->Q b H')->t σ H Q
def DW(X:Cx)(e:Expr)(f:Ev->Option Bool):Prop:=∃t,PW X e t/\∀(He G H:Hp) (σ:L2.St) (ε:Ev) (b:Bool) (Q:Bool->Hp->Prop),aF G H->EnvD X.K He G H σ ε->f ε=some b->
 (∀G' H',Grow G H G' H'->Q b H')->t σ H Q
def DA(X:Cx)(es:List Expr)(f:Ev->Option (List D)):Prop:=∃t,PA X es t/\∀(He G H:Hp) (σ:L2.St) (ε:Ev) (ds:List D) (Q:List V->Hp->Prop),aF G H->EnvD X.K He G H σ ε->f ε=some ds->
 (∀vs G' H',Grow G H G' H'->DenL X.K G' vs ds->Q vs H')->t σ H Q
theorem DW.dt{X:Cx}{e:Expr}{f:Ev->Option Bool}(h:DW X e f):DT X e f:=let⟨t,h1,h2⟩:=h;⟨t,h1.pt,h2⟩
theorem Grow.seal{G H G' H':Hp}{a:Addr}{xs:List V}(g:Grow G H G' H')(hn:H a=none)(gn:G' a=none)(ha:H' a=some (.lst xs)):Grow G H (upd G' a (.lst xs)) H':=
 ⟨g.hh,λb o e=>by rw[aD (ax (g.gg b o e) gn)];exact g.gg b o e,λb o e=>by
   unfold upd at e
   by_cases z:b=a
   ·rw[if_pos z] at e;cases e;rw[z];exact ha
   ·rw[if_neg z] at e;exact g.gh b o e,λb o e z=>by rw[aD (ax e hn)];exact g.fo b o e z⟩
theorem uZ{K:v0}{G':Hp}{a:Addr}{xs:List V}{ds:List D}(gn:G' a=none)(hd:DenL K G' xs ds):Den K (upd G' a (.lst xs)) (.ref a) (.lst ds):=
 .lst (SqL.of aE) (hd.mono λb o e=>by rw[aD (ax e gn)];exact e)
def eF(f:Ev->Option (List D)):Ev->Option D:=λε=>(f ε).map D.lst
theorem DF.de{X:Cx}{e:Expr}{f:Ev->Option (List D)}(h:DF X e f):DE X e (eF f):=by
 obtain⟨t,h1,h2⟩:=h;refine⟨t,h1,λHe G H σ ε d Q gh E ef q=>?_⟩;unfold eF at ef;cases e1:f ε with
 |none=>rw[e1] at ef;cases ef
 |some ds=>
  rw[e1] at ef;cases ef;refine h2 He G H σ ε ds Q gh E e1 λa xs G' H' g hn gn ha hd=>?_;exact q _ _ _ (g.seal hn gn ha) (uZ gn hd)
inductive Fl where
 |nx (ε:Ev) | rt (d:D) | bk (ε:Ev) | ct (ε:Ev) | ro (ds:List D)
def yI(K:v0)(He Ge:Hp)(r:Fl)(W:Ends):Prop:=match r with
 |.nx ε=>∀σ G H,Sta K He Ge G H σ ε->W.nx σ H
 |.bk ε=>∀σ G H,Sta K He Ge G H σ ε->W.bk σ H
 |.ct ε=>∀σ G H,Sta K He Ge G H σ ε->W.ct σ H
 |.rt d=>∀v G H,Grow Ge He G H->Den K G v d->W.rt v H
 |.ro ds=>∀a xs G H,Grow Ge He G H->He a=none->G a=none->H a=some (.lst xs)->DenL K G xs ds->W.rt (.ref a) H
def DS(X:Cx)(st:Stmt)(g:Ev->Option Fl):Prop:=∃t,PS X st t/\∀(He Ge G H:Hp) (σ:L2.St) (ε:Ev) (r:Fl) (W:Ends),Sta X.K He Ge G H σ ε->g ε=some r->yI X.K He Ge r W->t W σ H
def DSs(X:Cx)(st:List Stmt)(g:Ev->Option Fl):Prop:=∃t,PSs X st t/\∀(He Ge G H:Hp) (σ:L2.St) (ε:Ev) (r:Fl) (W:Ends),Sta X.K He Ge G H σ ε->g ε=some r->yI X.K He Ge r W->t W σ H
def bA(K:v0)(G H:Hp)(v:V)(d:D):Prop:=Den K G v d\/∃a xs ds,v=.ref a/\d=.lst ds/\H a=some (.lst xs)/\DenL K G xs ds
theorem bA.grow{K:v0}{G H G' H':Hp}{v:V}{d:D}(h:bA K G H v d)(g:Grow G H G' H'):bA K G' H' v d:=by
 rcases h with h | ⟨a,xs,ds,h1,h2,h3,h4⟩
 ·exact .inl (h.mono g.gg)
 ·exact .inr ⟨a,xs,ds,h1,h2,g.hh _ _ h3,h4.mono g.gg⟩
theorem bA.int{K:v0}{G H:Hp}{v:V}{i:Int}(h:bA K G H v (.int i)):v=.int i:=by
 rcases h with h | ⟨_,_,_,_,h,_⟩
 ·cases h;rfl
 ·cases h
theorem bA.bl{K:v0}{G H:Hp}{v:V}{i:Bool}(h:bA K G H v (.bl i)):v=.bl i:=by
 rcases h with h | ⟨_,_,_,_,h,_⟩
 ·cases h;rfl
 ·cases h
theorem bA.str{K:v0}{G H:Hp}{v:V}{i:Str}(h:bA K G H v (.str i)):v=.str i:=by
 rcases h with h | ⟨_,_,_,_,h,_⟩
 ·cases h;rfl
 ·cases h
theorem bA.non{K:v0}{G H:Hp}{v:V}(h:bA K G H v .non):v=.non:=by
 rcases h with h | ⟨_,_,_,_,h,_⟩
 ·cases h;rfl
 ·cases h
theorem bA.tup{K:v0}{G H:Hp}{v:V}{ds:List D}(gh:aF G H)(h:bA K G H v (.tup ds)):∃a xs,v=.ref a/\SqT K G a xs/\SqT K H a xs/\DenL K G xs ds:=by
 rcases h with h | ⟨_,_,_,_,h,_⟩
 ·cases h with | tup h hs=>exact⟨_,_,rfl,h,aC gh h,hs⟩
 ·cases h
theorem bA.lst{K:v0}{G H:Hp}{v:V}{ds:List D}(gh:aF G H)(h:bA K G H v (.lst ds)):∃a xs,v=.ref a/\SqL K H a xs/\DenL K G xs ds:=by
 rcases h with h | ⟨a,xs,ds',h1,h,h3,h4⟩
 ·cases h with | lst h hs=>exact⟨_,_,rfl,gh.seq h,hs⟩
 ·cases h;exact⟨a,xs,h1,.of h3,h4⟩
def DB(X:Cx)(e:Expr)(f:Ev->Option D):Prop:=∃t,PE X e t/\∀(He G H:Hp) (σ:L2.St) (ε:Ev) (d:D) (Q:VK),aF G H->EnvD X.K He G H σ ε->f ε=some d->
 (∀v G' H',Grow G H G' H'->bA X.K G' H' v d->Q v H')->t σ H Q
theorem DE.db{X:Cx}{e:Expr}{f:Ev->Option D}(h:DE X e f):DB X e f:=
 let⟨t,h1,h2⟩:=h;⟨t,h1,λHe G H σ ε d Q gh E ef q=>h2 He G H σ ε d Q gh E ef λv G' H' g hd=>q v G' H' g (.inl hd)⟩
section
variable{X:Cx}{a b c:Expr}{fa fb fc:Ev->Option D}{pos:Pos}
def ao(i:Nat):Ev->Option D:=λε=>match ε[i]? with | some (.dat d)=>some d | _=>none
def ag(i:Nat):Ev->Option D:=λε=>match ε[i]? with | some (.dat d)=>some d | some (.own ds)=>some (.lst ds) | _=>none
def eC(d:D):Ev->Option D:=λ_=>some d
theorem ak(i:Nat){x:Str}{pos:Pos}(hN:X.N[i]?=some x:=by rfl)(hv:Vis X.env.scope x:=by first | exact Or.inl rfl | exact Jy (Or.inl rfl) | exact Jy (Jy rfl))(hd:(x==("__debug__" : Str))=false:=by decide)
  (hcd:(x==("__classdict__" : Str))=false:=by decide):DE X (.Name x pos) (ao i):=by
 refine⟨_,gd hN hv hd hcd,λHe G H σ ε d Q gh E ef q=>?_⟩;unfold ao at ef;split at ef
 ·rename_i d' e
  cases ef;obtain⟨v,h1,h2⟩:=E.dat e;exact⟨v,h1,q v G H (.refl gh) h2⟩
 ·cases ef
theorem aj(i:Nat){x:Str}{pos:Pos}(hN:X.N[i]?=some x:=by rfl)(hv:Vis X.env.scope x:=by first | exact Or.inl rfl | exact Jy (Or.inl rfl) | exact Jy (Jy rfl))(hd:(x==("__debug__" : Str))=false:=by decide)
  (hcd:(x==("__classdict__" : Str))=false:=by decide):DB X (.Name x pos) (ag i):=by
 refine⟨_,gd hN hv hd hcd,λHe G H σ ε d Q gh E ef q=>?_⟩;unfold ag at ef;split at ef
 ·rename_i d' e
  cases ef;obtain⟨v,h1,h2⟩:=E.dat e;exact⟨v,h1,q v G H (.refl gh) (.inl h2)⟩
 ·rename_i ds e
  cases ef;obtain⟨l,xs,h1,h2,h3,h4,h5⟩:=E.own e;exact⟨_,h1,q _ G H (.refl gh) (.inr ⟨l,xs,ds,rfl,rfl,h2,h5⟩)⟩
 ·cases ef
theorem dQ{e:Expr}{v:V}{d:D}(h:PE X e (tC v))(hd:∀G,Den X.K G v d):DE X e (eC d):=
 ⟨_,h,λHe G H σ ε d' Q gh E ef q=>by cases ef;exact q v G H (.refl gh) (hd G)⟩
theorem aq{i j pos}:DE X (.Constant (.int i) j pos) (eC (.int i)):=dQ zf λ_=>.int i
theorem mr{i j pos}:DE X (.Constant (.bool i) j pos) (eC (.bl i)):=dQ Au λ_=>.bl i
theorem fZ{j pos}:DE X (.Constant .none j pos) (eC .non):=dQ zQ λ_=>.non
theorem bQ{x j pos}:DE X (.Constant (.str x) j pos) (eC (.str x)):=dQ yH λ_=>.str x
theorem gL{x:Str}{i:Int}{t:Tok}{pos:Pos}(hg:Gl X x)(hm:X.mg x=some (.int i t))(hd:(x==("__debug__" : Str))=false:=by decide):DE X (.Name x pos) (eC (.int i)):=
 dQ (oG (v:=.int i) hg hm ⟨t,rfl⟩ hd) λ_=>.int i
def e2(op:D->D->Option D)(fa fb:Ev->Option D):Ev->Option D:=λε=>(fa ε).bind λx=>(fb ε).bind λy=>op x y
def OpD(X:Cx)(f:vv->vv->Sem vv)(op:D->D->Option D):Prop:=∃r,OpR X f r/\∀(G H:Hp) (x y:V) (dx dy d:D) (Q:VK),aF G H->bA X.K G H x dx->bA X.K G H y dy->op dx dy=some d->
 (∀v G' H',Grow G H G' H'->Den X.K G' v d->Q v H')->r x y H Q
theorem af{α β:Type}{o:Option α}{f:α->Option β}{y:β}(h:o.bind f=some y):∃x,o=some x/\f x=some y:=by
 cases o with
 |none=>cases h
 |some x=>exact⟨x,rfl,h⟩
theorem two{ta tb:TE}{He G H:Hp}{σ:L2.St}{ε:Ev}{op:D->D->Option D}{r:R2}{d:D}{Q:VK}
  (ha:∀(He G H:Hp) (σ:L2.St) (ε:Ev) (d:D) (Q:VK),aF G H->EnvD X.K He G H σ ε->fa ε=some d->(∀v G' H',Grow G H G' H'->bA X.K G' H' v d->Q v H')->ta σ H Q)
  (hb:∀(He G H:Hp) (σ:L2.St) (ε:Ev) (d:D) (Q:VK),aF G H->EnvD X.K He G H σ ε->fb ε=some d->(∀v G' H',Grow G H G' H'->bA X.K G' H' v d->Q v H')->tb σ H Q)
  (ho:∀(G H:Hp) (x y:V) (dx dy d:D) (Q:VK),aF G H->bA X.K G H x dx->bA X.K G H y dy->op dx dy=some d->(∀v G' H',Grow G H G' H'->Den X.K G' v d->Q v H')->r x y H Q)
  (gh:aF G H) (E:EnvD X.K He G H σ ε) (ef:e2 op fa fb ε=some d) (q:∀v G' H',Grow G H G' H'->Den X.K G' v d->Q v H'):tOp r ta tb σ H Q:=by
 obtain⟨x,e1,ef⟩:=af ef;obtain⟨y,e2,ef⟩:=af ef;refine ha He G H σ ε x _ gh E e1 λv G1 H1 g1 d1=>?_;refine hb He G1 H1 σ ε y _ g1.gh (E.grow g1) e2 λu G2 H2 g2 d2=>?_;exact ho G2 H2 v u x y d Q g2.gh (d1.grow g2) d2 ef λw G3 H3 g3 d3=>q w G3 H3 (g1.trans (g2.trans g3)) d3
theorem aG{op:Operator}{f:D->D->Option D}(ho:OpD X (Jr op) f)(ha:DB X a fa)(hb:DB X b fb):DE X (.BinOp a op b pos) (e2 f fa fb):=by
 obtain⟨r,h1,h2⟩:=ho;obtain⟨ta,a1,a2⟩:=ha;obtain⟨tb,b1,b2⟩:=hb;exact⟨_,Be h1 a1 b1,λHe G H σ ε d Q gh E ef q=>two a2 b2 h2 gh E ef q⟩
theorem lE{op:CmpOp}{f:D->D->Option D}(ho:OpD X (QD op) f)(ha:DB X a fa)(hb:DB X b fb)(hm:Zi op b=false):DE X (.Compare a [op] [b] pos) (e2 f fa fb):=by
 obtain⟨r,h1,h2⟩:=ho;obtain⟨ta,a1,a2⟩:=ha;obtain⟨tb,b1,b2⟩:=hb;exact⟨_,wK h1 a1 b1 hm,λHe G H σ ε d Q gh E ef q=>two a2 b2 h2 gh E ef q⟩
def asB:Option D->Option Bool
 |some (.bl b)=>some b
 |_=>none
theorem l6{o:Option D}{b:Bool}(h:asB o=some b):o=some (.bl b):=by
 unfold asB at h;split at h
 ·cases h;rfl
 ·cases h
theorem Den.blV{K:v0}{G:Hp}{v:V}{b:Bool}(h:Den K G v (.bl b)):v=.bl b:=by cases h;rfl
def az(op:D->D->Option D)(fa fb:Ev->Option D):Ev->Option Bool:=λε=>asB (e2 op fa fb ε)
theorem aN{op:CmpOp}{f:D->D->Option D}(ho:OpD X (QD op) f)(ha:DB X a fa)(hb:DB X b fb)(hm:Zi op b=false):DT X (.Compare a [op] [b] pos) (az f fa fb):=by
 obtain⟨r,h1,h2⟩:=ho;obtain⟨ta,a1,a2⟩:=ha;obtain⟨tb,b1,b2⟩:=hb;refine⟨_,oZ h1 a1 b1 hm,λHe G H σ ε k Q gh E ef q=>?_⟩;refine two a2 b2 h2 gh E (l6 ef) λv G' H' g hd=>?_;exact⟨k,hd.blV,q G' H' g⟩
theorem tX{r:R2}{f:D->D->Option D}(hr:IxR X r)(ho:∀(G H:Hp) (x y:V) (dx dy d:D) (Q:VK),aF G H->bA X.K G H x dx->bA X.K G H y dy->f dx dy=some d->(∀v G' H',Grow G H G' H'->Den X.K G' v d->Q v H')->r x y H Q)
  (ha:DB X a fa) (hb:DB X b fb) (hs:ja b):DE X (.Subscript a b pos) (e2 f fa fb):=by
 obtain⟨ta,a1,a2⟩:=ha;obtain⟨tb,b1,b2⟩:=hb;exact⟨_,AO hr a1 b1 hs,λHe G H σ ε d Q gh E ef q=>two a2 b2 ho gh E ef q⟩
def cQ(g:Int->Int->Option D):D->D->Option D:=λx y=>match x,y with | .int i,.int j=>g i j | _,_=>none
theorem kD{g:Int->Int->Option D}{x y d:D}(h:cQ g x y=some d):∃i j,x=.int i/\y=.int j/\g i j=some d:=by
 unfold cQ at h;split at h
 ·exact⟨_,_,rfl,rfl,h⟩
 ·cases h
theorem oD{f:vv->vv->Sem vv}{C:Int->Int->Prop}{g:Int->Int->V}{k:Int->Int->Option D}(ho:OpR X f (rI C g))(hk:∀i j d,k i j=some d->C i j/\∀G,Den X.K G (g i j) d):OpD X f (cQ k):=
 ⟨_,ho,λG H x y dx dy d Q gh hx hy e q=>by
  obtain⟨i,j,rfl,rfl,e⟩:=kD e;obtain⟨c,hd⟩:=hk i j d e
  exact⟨i,j,hx.int,hy.int,c,q _ G H (.refl gh) (hd G)⟩⟩
theorem hU{f:vv->vv->Sem vv}{g:Int->Int->V}{k:Int->Int->Option D}(ho:OpR X f (rI0 g))(hk:∀i j d,k i j=some d->∀G,Den X.K G (g i j) d):OpD X f (cQ k):=
 ⟨_,ho,λG H x y dx dy d Q gh hx hy e q=>by
  obtain⟨i,j,rfl,rfl,e⟩:=kD e
  exact⟨i,j,hx.int,hy.int,q _ G H (.refl gh) (hk i j d e G)⟩⟩
def bP:D->D->Option D:=cQ λi j=>some (.int (i+j))
def eE:D->D->Option D:=cQ λi j=>some (.int (i-j))
instance (i j:Int):Decidable (lD i j):=by unfold lD;infer_instance
instance (i j:Int):Decidable (qR i j):=by unfold qR;infer_instance
instance (i j:Int):Decidable (rZ i j):=by unfold rZ;infer_instance
def eQ:D->D->Option D:=cQ λi j=>if lD i j then some (.int (i*j)) else none
def jI:D->D->Option D:=cQ λi j=>if qR i j then some (.int (i/j)) else none
def bG:D->D->Option D:=cQ λi j=>if 0<j then some (.int (i%j)) else none
def nF:D->D->Option D:=cQ λi j=>if rZ i j then some (.int (i ^ j.toNat)) else none
theorem cg:OpD X (Jr .Add) bP:=hU yq λi j d e G=>by cases e;exact .int _
theorem cw:OpD X (Jr .Sub) eE:=hU zF λi j d e G=>by cases e;exact .int _
theorem jM:OpD X (Jr .Mult) eQ:=oD zT λi j d e=>by
 split at e
 ·rename_i h;cases e;exact⟨h,λG=>.int _⟩
 ·cases e
theorem qA:OpD X (Jr .FloorDiv) jI:=oD wY λi j d e=>by
 split at e
 ·rename_i h;cases e;exact⟨h,λG=>.int _⟩
 ·cases e
theorem cJ:OpD X (Jr .Mod) bG:=oD y2 λi j d e=>by
 split at e
 ·rename_i h;cases e;exact⟨h,λG=>.int _⟩
 ·cases e
theorem si:OpD X (Jr .Pow) nF:=oD zJ λi j d e=>by
 split at e
 ·rename_i h;cases e;exact⟨h,λG=>.int _⟩
 ·cases e
def ltI:D->D->Option D:=cQ λi j=>some (.bl (decide (i<j)))
def leI:D->D->Option D:=cQ λi j=>some (.bl (decide (i<=j)))
def gtI:D->D->Option D:=cQ λi j=>some (.bl (decide (j<i)))
def geI:D->D->Option D:=cQ λi j=>some (.bl (decide (j<=i)))
theorem kX:OpD X (QD .Lt) ltI:=hU Bs λi j d e G=>by cases e;exact .bl _
theorem fU:OpD X (QD .LtE) leI:=hU AU λi j d e G=>by cases e;exact .bl _
theorem u6:OpD X (QD .Gt) gtI:=hU AS λi j d e G=>by cases e;exact .bl _
theorem Bb:OpD X (QD .GtE) geI:=hU AZ λi j d e G=>by cases e;exact .bl _
def eqS:D->D->Option Bool
 |.non,.non=>some true | .non,.int _=>some false | .int _,.non=>some false | .non,.bl _=>some false | .bl _,.non=>some false | .non,.str _=>some false | .str _,.non=>some false
 |.int i,.int j=>some (decide (i=j)) | .bl i,.bl j=>some (decide (i=j)) | .str i,.str j=>some (decide (i=j))
 |.int _,.str _=>some false | .str _,.int _=>some false | .bl _,.str _=>some false | .str _,.bl _=>some false
 |_,_=>none
theorem mh{K:v0}{G H:Hp}{x y:V}{dx dy:D}{k:Bool}(hx:bA K G H x dx)(hy:bA K G H y dy)(e:eqS dx dy=some k):zr x y=true/\decide (x=y)=k:=by
 unfold eqS at e;split at e<;>first | (cases e;done) | skip
 all_goals first
  |(cases hx.non) | (cases hx.int) | (cases hx.bl) | (cases hx.str)
 all_goals first
  |(cases hy.non) | (cases hy.int) | (cases hy.bl) | (cases hy.str)
 all_goals (refine⟨rfl,?_⟩;cases e;simp)
def mH:D->Bool
 |.non=>true
 |_=>false
theorem bA.isNon{K:v0}{G H:Hp}{v:V}{d:D}(h:bA K G H v d):decide (v=.non)=mH d:=by
 rcases h with h | ⟨a,xs,ds,rfl,rfl,_⟩
 ·cases h<;>simp[Dn.mH]
 ·simp[Dn.mH]
def isD(neg:Bool):D->D->Option D:=λx y=>match y with | .non=>some (.bl (if neg then !mH x else mH x)) | _=>none
theorem kU:OpD X (QD .Is) (isD false):=⟨_,yD,λG H x y dx dy d Q gh hx hy e q=>by
 unfold isD at e;split at e
 ·cases e;exact⟨hy.non,q _ G H (.refl gh) (by rw[hx.isNon];exact .bl _)⟩
 ·cases e⟩
def Bo:D->Option D
 |.int i=>some (.int (-i))
 |_=>none
def dg(fa:Ev->Option D):Ev->Option D:=λε=>(fa ε).bind Bo
theorem d6(ha:DB X a fa):DE X (.UnaryOp .USub a pos) (dg fa):=by
 obtain⟨ta,a1,a2⟩:=ha;refine⟨_,Bp y6 a1,λHe G H σ ε d Q gh E ef q=>?_⟩;obtain⟨x,e1,ef⟩:=af ef;refine a2 He G H σ ε x _ gh E e1 λv G1 H1 g1 d1=>?_;unfold Bo at ef;split at ef
 ·cases ef;exact⟨_,d1.int,q _ G1 H1 g1 (.int _)⟩
 ·cases ef
def ixD:D->D->Option D:=λx y=>match x,y with | .lst xs,.int i=>atI xs i | .tup xs,.int i=>atI xs i | _,_=>none
theorem pE{K:v0}{G:Hp}{xs:List V}{ds:List D}{i:Int}{d:D}(h:DenL K G xs ds)(e:atI ds i=some d):∃v,atI xs i=some v/\Den K G v d:=by
 unfold atI at e ⊢;rw[h.length];cases e1:ixN ds.length i with
 |none=>rw[e1] at e;cases e
 |some j=>
  rw[e1] at e;exact h.get e
theorem bF(ha:DB X a fa)(hb:DB X b fb)(hs:ja b:=by intro _ _;rfl):DE X (.Subscript a b pos) (e2 ixD fa fb):=
 tX (vf.or za) (λG H x y dx dy d Q gh hx hy e q=>by
  unfold ixD at e;split at e
  ·obtain⟨p,xs,rfl,h1,h2⟩:=hx.lst gh
   obtain⟨v,h3,h4⟩:=pE h2 e;exact .inl ⟨p,xs,_,v,rfl,hy.int,h1,h3,q _ G H (.refl gh) h4⟩
  ·obtain⟨p,xs,rfl,h0,h1,h2⟩:=hx.tup gh
   obtain⟨v,h3,h4⟩:=pE h2 e;exact .inr ⟨p,xs,_,v,rfl,hy.int,h1,h3,q _ G H (.refl gh) h4⟩
  ·cases e) ha hb hs
def aB:Ev->Option (List D):=λ_=>some []
def aa(f:Ev->Option D)(g:Ev->Option (List D)):Ev->Option (List D):=λε=>(f ε).bind λd=>(g ε).bind λds=>some (d::ds)
theorem aA:DA X [] aB:=⟨_,b6,λHe G H σ ε ds Q gh E ef q=>by cases ef;exact q [] G H (.refl gh) .nil⟩
theorem ae{e:Expr}{es:List Expr}{f:Ev->Option D}{g:Ev->Option (List D)}(h:DE X e f)(hs:DA X es g)(hst:uk (e::es) X.env=(false,eval e X.env)::uk es X.env:=by rfl):DA X (e::es) (aa f g):=by
 obtain⟨t,a1,a2⟩:=h;obtain⟨u,b1,b2⟩:=hs;refine⟨_,bD a1 b1 hst,λHe G H σ ε ds Q gh E ef q=>?_⟩;obtain⟨x,e1,ef⟩:=af ef;obtain⟨xs,e2,ef⟩:=af ef;cases ef;refine a2 He G H σ ε x _ gh E e1 λv G1 H1 g1 d1=>?_;refine b2 He G1 H1 σ ε xs _ g1.gh (E.grow g1) e2 λvs G2 H2 g2 d2=>?_;exact q _ G2 H2 (g1.trans g2) (.cons (d1.mono g2.gg) d2)
def aY(g:Ev->Option (List D)):Ev->Option D:=λε=>(g ε).bind λds=>if ds.length<=1000 then some (.tup ds) else none
theorem qm{n:Nat}(h:n<=1000):n<=Qt:=QZ (rj h)
theorem aZ{es:List Expr}{g:Ev->Option (List D)}{x1}(h:DA X es g):DE X (.Tuple es x1 pos) (aY g):=by
 obtain⟨t,a1,a2⟩:=h;refine⟨_,zW a1,λHe G H σ ε d Q gh E ef q=>?_⟩;obtain⟨ds,e1,ef⟩:=af ef;split at ef
 ·rename_i hl
  cases ef;refine a2 He G H σ ε ds _ gh E e1 λvs G1 H1 g1 d1=>⟨by rw[d1.length];exact qm hl,λp hp=>?_⟩;have g2:=Grow.new (.tup vs) g1.gh hp;exact q _ _ _ (g1.trans g2) (.tup (SqT.of aE) (d1.mono g2.gg))
 ·cases ef
def cD(g:Ev->Option (List D)):Ev->Option (List D):=λε=>(g ε).bind λds=>if ds.length<=1000 then some ds else none
theorem Grow.gnone{G H G' H':Hp}{p:Addr}(g:Grow G H G' H')(h:H' p=none):G' p=none:=g.gh.free h
theorem bZ{es:List Expr}{g:Ev->Option (List D)}(h:DA X es g):DF X (.List es pos) (cD g):=by
 obtain⟨t,a1,a2⟩:=h;refine⟨_,sD a1,λHe G H σ ε ds Q gh E ef q=>?_⟩;obtain⟨ds',e1,ef⟩:=af ef;split at ef
 ·rename_i hl
  cases ef;refine a2 He G H σ ε _ _ gh E e1 λvs G1 H1 g1 d1=>⟨by rw[d1.length];exact qm hl,λp hp=>?_⟩;exact q p vs G1 _ (g1.trans (.lay _ g1.gh hp)) (g1.hh.free hp) (g1.gnone hp) aE d1
 ·cases ef
def DO(X:Cx)(e:Option Expr)(f:Ev->Option (Option Int)):Prop:=∃t,PO X e t/\∀(He G H:Hp) (σ:L2.St) (ε:Ev) (d:Option Int) (Q:Option Int->Hp->Prop),aF G H->EnvD X.K He G H σ ε->f ε=some d->
 (∀G' H',Grow G H G' H'->Q d H')->t σ H Q
def cE:Ev->Option (Option Int):=λ_=>some none
def bR(f:Ev->Option D):Ev->Option (Option Int):=λε=>match f ε with | some (.int i)=>some (some i) | _=>none
theorem gP:DO X none cE:=⟨_,xj,λHe G H σ ε d Q gh E ef q=>by cases ef;exact q G H (.refl gh)⟩
theorem fJ{e:Expr}{f:Ev->Option D}(h:DB X e f):DO X (some e) (bR f):=by
 obtain⟨t,a1,a2⟩:=h;refine⟨_,xH a1,λHe G H σ ε d Q gh E ef q=>?_⟩;unfold bR at ef;split at ef
 ·rename_i i e1
  cases ef;exact a2 He G H σ ε _ _ gh E e1 λv G1 H1 g1 d1=>⟨i,d1.int,q G1 H1 g1⟩
 ·cases ef
def nv(xs:List D)(lo hi:Option Int):List D:=(xs.drop (HT.sIx xs.length 0 lo)).take (HT.sIx xs.length xs.length hi-HT.sIx xs.length 0 lo)
theorem o_{K:v0}{G:Hp}{xs:List V}{ds:List D}(lo hi:Option Int)(h:DenL K G xs ds):DenL K G (lG xs lo hi) (nv ds lo hi):=by
 unfold lG nv;rw[h.length];exact(h.drop _).take _
def eSl(fa:Ev->Option D)(fl fh:Ev->Option (Option Int)):Ev->Option (List D):=λε=>(fa ε).bind λx=>(fl ε).bind λlo=>(fh ε).bind λhi=>match x with | .lst xs=>some (nv xs lo hi) | _=>none
theorem x9{lo hi:Option Expr}{fl fh:Ev->Option (Option Int)}{p2:Pos}(ha:DB X a fa)(hl:DO X lo fl)(hh:DO X hi fh):DF X (.Subscript a (.Slice lo hi none p2) pos) (eSl fa fl fh):=by
 obtain⟨ta,a1,a2⟩:=ha;obtain⟨tl,b1,b2⟩:=hl;obtain⟨th,c1,c2⟩:=hh;refine⟨_,mj wd a1 b1 c1,λHe G H σ ε ds Q gh E ef q=>?_⟩;obtain⟨x,e1,ef⟩:=af ef;obtain⟨l,e2,ef⟩:=af ef;obtain⟨u,e3,ef⟩:=af ef;refine a2 He G H σ ε x _ gh E e1 λv G1 H1 g1 d1=>?_;refine b2 He G1 H1 σ ε l _ g1.gh (E.grow g1) e2 λG2 H2 g2=>?_;refine c2 He G2 H2 σ ε u _ g2.gh ((E.grow g1).grow g2) e3 λG3 H3 g3=>?_;split at ef
 ·cases ef
  obtain⟨p,xs,rfl,h1,h2⟩:=((d1.grow g2).grow g3).lst g3.gh;refine⟨p,xs,rfl,h1,λp' hp=>?_⟩;have g:=g1.trans (g2.trans g3);exact q p' _ G3 _ (g.trans (.lay _ g3.gh hp)) (g.hh.free hp) (g3.gnone hp) aE (o_ l u h2)
 ·cases ef
def ll(fa:Ev->Option D)(fl fh:Ev->Option (Option Int)):Ev->Option D:=λε=>(fa ε).bind λx=>(fl ε).bind λlo=>(fh ε).bind λhi=>match x with
 |.tup xs=>if HT.sIx xs.length 0 lo=0/\HT.sIx xs.length xs.length hi=xs.length then none else some (.tup (nv xs lo hi))
 |_=>none
theorem nW{lo hi:Option Expr}{fl fh:Ev->Option (Option Int)}{p2:Pos}(ha:DB X a fa)(hl:DO X lo fl)(hh:DO X hi fh):DE X (.Subscript a (.Slice lo hi none p2) pos) (ll fa fl fh):=by
 obtain⟨ta,a1,a2⟩:=ha;obtain⟨tl,b1,b2⟩:=hl;obtain⟨th,c1,c2⟩:=hh;refine⟨_,mj zj a1 b1 c1,λHe G H σ ε ds Q gh E ef q=>?_⟩;obtain⟨x,e1,ef⟩:=af ef;obtain⟨l,e2,ef⟩:=af ef;obtain⟨u,e3,ef⟩:=af ef;refine a2 He G H σ ε x _ gh E e1 λv G1 H1 g1 d1=>?_;refine b2 He G1 H1 σ ε l _ g1.gh (E.grow g1) e2 λG2 H2 g2=>?_;refine c2 He G2 H2 σ ε u _ g2.gh ((E.grow g1).grow g2) e3 λG3 H3 g3=>?_;split at ef
 ·split at ef
  ·cases ef
  ·rename_i hw
   cases ef;obtain⟨p,xs,rfl,h0,h1,h2⟩:=((d1.grow g2).grow g3).tup g3.gh;refine⟨p,xs,rfl,h1,by rw[h2.length];exact hw,λp' hp=>?_⟩;have g4:=Grow.new (.tup (lG xs l u)) g3.gh hp;exact q _ _ _ ((g1.trans (g2.trans g3)).trans g4) (.tup (SqT.of aE) ((o_ l u h2).mono g4.gg))
 ·cases ef
def b9(f g:Ev->Option Bool):Ev->Option Bool:=λε=>(f ε).bind λk=>if k=true then g ε else some false
def cH(f g:Ev->Option Bool):Ev->Option Bool:=λε=>(f ε).bind λk=>if k=true then some true else g ε
def eO(f:Ev->Option Bool):Ev->Option Bool:=λε=>(f ε).map λk=>!k
section
variable{f g:Ev->Option Bool}{rest:List Expr}
theorem d_(h:DT X a f):DW X (.BoolOp .And [a] pos) f:=let⟨t,h1,h2⟩:=h;⟨t,vm h1,h2⟩
theorem fq(h:DT X a f):DW X (.BoolOp .Or [a] pos) f:=let⟨t,h1,h2⟩:=h;⟨t,y4 h1,h2⟩
theorem f_(h:DT X a f)(hr:DW X (.BoolOp .And (b::rest) pos) g):DW X (.BoolOp .And (a::b::rest) pos) (b9 f g):=by
 obtain⟨t,a1,a2⟩:=h;obtain⟨u,b1,b2⟩:=hr;refine⟨_,yM a1 b1,λHe G H σ ε k Q gh E ef q=>?_⟩;obtain⟨c,e1,ef⟩:=af ef;refine a2 He G H σ ε c _ gh E e1 λG1 H1 g1=>?_;cases c with
 |true=>
  rw[if_pos rfl] at ef ⊢;exact b2 He G1 H1 σ ε k _ g1.gh (E.grow g1) ef λG2 H2 g2=>q _ _ (g1.trans g2)
 |false=>
  rw[if_neg ww] at ef ⊢;cases ef;exact q _ _ g1
theorem iA(h:DT X a f)(hr:DW X (.BoolOp .Or (b::rest) pos) g):DW X (.BoolOp .Or (a::b::rest) pos) (cH f g):=by
 obtain⟨t,a1,a2⟩:=h;obtain⟨u,b1,b2⟩:=hr;refine⟨_,Bq a1 b1,λHe G H σ ε k Q gh E ef q=>?_⟩;obtain⟨c,e1,ef⟩:=af ef;refine a2 He G H σ ε c _ gh E e1 λG1 H1 g1=>?_;cases c with
 |true=>
  rw[if_pos rfl] at ef ⊢;cases ef;exact q _ _ g1
 |false=>
  rw[if_neg ww] at ef ⊢;exact b2 He G1 H1 σ ε k _ g1.gh (E.grow g1) ef λG2 H2 g2=>q _ _ (g1.trans g2)
theorem nR(h:DT X a f):DT X (.UnaryOp .Not a pos) (eO f):=by
 obtain⟨t,a1,a2⟩:=h;refine⟨_,zu a1,λHe G H σ ε k Q gh E ef q=>?_⟩;unfold eO at ef;cases e1:f ε with
 |none=>rw[e1] at ef;cases ef
 |some c=>
  rw[e1] at ef;cases ef;exact a2 He G H σ ε c _ gh E e1 q
end
def lp(fa fb:Ev->Option D):Ev->Option D:=λε=>(fa ε).bind λx=>match x with | .bl k=>if k=true then fb ε else some (.bl false) | _=>none
theorem oA{op}(h:DE X a fa):DE X (.BoolOp op [a] pos) fa:=let⟨t,h1,h2⟩:=h;⟨t,zp h1,h2⟩
theorem lA{rest:List Expr}(h:DE X a fa)(hr:DE X (.BoolOp .And (b::rest) pos) fb):DE X (.BoolOp .And (a::b::rest) pos) (lp fa fb):=by
 obtain⟨t,a1,a2⟩:=h;obtain⟨u,b1,b2⟩:=hr;refine⟨_,zw a1 b1,λHe G H σ ε d Q gh E ef q=>?_⟩;obtain⟨x,e1,ef⟩:=af ef;refine a2 He G H σ ε x _ gh E e1 λv G1 H1 g1 d1=>?_;split at ef
 ·rename_i k
  refine⟨k,d1.blV,?_⟩;cases k with
  |true=>
   rw[if_pos rfl] at ef ⊢;exact b2 He G1 H1 σ ε d _ g1.gh (E.grow g1) ef λv G2 H2 g2=>q _ _ _ (g1.trans g2)
  |false=>
   rw[if_neg ww] at ef ⊢;cases ef;exact q _ _ _ g1 (.bl _)
 ·cases ef
def Ac:D->Option Bool
 |.non=>some false
 |.bl b=>some b
 |.int i=>some (i != 0)
 |.str _=>none
 |.tup xs=>some (!xs.isEmpty)
 |.lst xs=>some (!xs.isEmpty)
 |.dic _=>none
theorem DenL.emp{K:v0}{G:Hp}{xs:List V}{ds:List D}(h:DenL K G xs ds):xs.isEmpty=ds.isEmpty:=by cases h<;>rfl
def dN(fa:Ev->Option D):Ev->Option Bool:=λε=>(fa ε).bind Ac
theorem cW(ha:DB X a fa)(he:∀whole,isTrue a X.env whole=(do let v<-whole;standAt a.pos;holding [v] (truthy v)):=by intro _;rfl):DT X a (dN fa):=by
 obtain⟨ta,a1,a2⟩:=ha;refine⟨_,sS a1 he,λHe G H σ ε k Q gh E ef q=>?_⟩;obtain⟨x,e1,ef⟩:=af ef;refine a2 He G H σ ε x _ gh E e1 λv G1 H1 g1 d1=>⟨k,?_,q _ _ g1⟩;unfold Ac at ef;split at ef
 ·cases d1.non;cases ef;rfl
 ·cases d1.bl;cases ef;rfl
 ·cases d1.int;cases ef;rfl
 ·cases ef
 ·cases ef
  obtain⟨p,xs,rfl,h0,h1,h2⟩:=d1.tup g1.gh;exact .inr (.inl ⟨xs,h1,by rw[h2.emp]⟩)
 ·cases ef
  obtain⟨p,xs,rfl,h1,h2⟩:=d1.lst g1.gh;exact .inl ⟨xs,h1,by rw[h2.emp]⟩
 ·cases ef
end
def spF(K:v0)(F:List D->Option D):Sp:=λvs H Q _=>∃G ds d,aF G H/\DenL K G vs ds/\F ds=some d/\∀v G' H',Grow G H G' H'->Den K G' v d->Q v H'
def spO(K:v0)(F:List D->Option (List D)):Sp:=λvs H Q _=>∃G ds rs,aF G H/\DenL K G vs ds/\F ds=some rs/\∀a xs G' H',Grow G H G' H'->H a=none->G' a=none->H' a=some (.lst xs)->DenL K G' xs rs->Q (.ref a) H'
def cx(N:List Str)(ds:List D):Ev:=ds.map Sl.dat++List.replicate (N.length-ds.length) Sl.un
section
variable{X:Cx}{a b c:Expr}{fa fb fc:Ev->Option D}{pos:Pos}
def aJ(F:List D->Option D)(g:Ev->Option (List D)):Ev->Option D:=λε=>(g ε).bind F
def g_(op:D->Option D)(fa:Ev->Option D):Ev->Option D:=λε=>(fa ε).bind op
def df(op:D->D)(fa:Ev->Option D):Ev->Option D:=λε=>(fa ε).map op
theorem xD{k:Nat}{f:Addr}{fd:Q5}{ps:List Str}{Fn:List D->Option D}{x:Str}{e:Expr}{es:List Expr}{g:Ev->Option (List D)}{p:Pos}
  (F:FnOk X.prog X.w X.K X.mg X.base CX0 k f fd ps (spF X.K Fn)) (hr:Room k X.A) (hm:X.mg x=some (.ref f)) (hk:Zs X.K (.ref f)=true) (hb:iG X.K fd ps [])
  (ha:DA X (e::es) g) (hg:Gl X x:=by rfl) (hdb:(x==("__debug__" : Str))=false:=by decide) (he:uk (e::es) X.env=(false,eval e X.env)::uk es X.env:=by rfl) (hpl:(Q7 pos (uk es X.env)).any (·.1)=false:=by rfl) :
  DE X (.Call (.Name x p) (e::es) [] pos) (aJ Fn g):=by
 obtain⟨t,a1,a2⟩:=ha;refine⟨_,pP (E:=E0) F hr hg hm hk hb .nil xU a1 hdb he hpl,λHe G H σ ε d Q gh E ef q=>?_⟩;obtain⟨ds,e1,ef⟩:=af ef;refine a2 He G H σ ε ds _ gh E e1 λvs G1 H1 g1 d1=>?_;show spF X.K Fn (vs++[]) H1 Q E0;rw[QW];exact⟨G1,ds,d,g1.gh,d1,ef,λv G2 H2 g2 d2=>q v G2 H2 (g1.trans g2) d2⟩
def fW(F:List D->Option (List D))(g:Ev->Option (List D)):Ev->Option (List D):=λε=>(g ε).bind F
theorem vN{k:Nat}{f:Addr}{fd:Q5}{ps:List Str}{Fn:List D->Option (List D)}{x:Str}{e:Expr}{es:List Expr}{g:Ev->Option (List D)}{p:Pos}
  (F:FnOk X.prog X.w X.K X.mg X.base CX0 k f fd ps (spO X.K Fn)) (hr:Room k X.A) (hm:X.mg x=some (.ref f)) (hk:Zs X.K (.ref f)=true) (hb:iG X.K fd ps [])
  (ha:DA X (e::es) g) (hg:Gl X x:=by rfl) (hdb:(x==("__debug__" : Str))=false:=by decide) (he:uk (e::es) X.env=(false,eval e X.env)::uk es X.env:=by rfl) (hpl:(Q7 pos (uk es X.env)).any (·.1)=false:=by rfl) :
  DF X (.Call (.Name x p) (e::es) [] pos) (fW Fn g):=by
 obtain⟨t,a1,a2⟩:=ha;refine⟨_,pP (E:=E0) F hr hg hm hk hb .nil xU a1 hdb he hpl,λHe G H σ ε rs Q gh E ef q=>?_⟩;obtain⟨ds,e1,ef⟩:=af ef;refine a2 He G H σ ε ds _ gh E e1 λvs G1 H1 g1 d1=>?_;show spO X.K Fn (vs++[]) H1 Q E0;rw[QW];exact⟨G1,ds,rs,g1.gh,d1,ef,λa xs G2 H2 g2 n1 n2 h2 d2=>q a xs G2 H2 (g1.trans g2) (g1.hh.free n1) n2 h2 d2⟩
def gE:D->Option D
 |.lst xs=>some (.int xs.length)
 |.tup xs=>some (.int xs.length)
 |_=>none
theorem oh{p:Pos}(ha:DB X a fa)(hm:X.mg "len" = none)(hg:Gl X "len":=by rfl)(hst:uk [a] X.env=(false,eval a X.env)::uk [] X.env:=by rfl)(hpl:(Q7 pos (uk [] X.env)).any (·.1)=false:=by rfl):DE X (.Call (.Name "len" p) [a] [] pos) (g_ gE fa):=by
 obtain⟨ta,a1,a2⟩:=ha;refine⟨_,fj k8 hg hm PySem.boot_len (bD a1 b6 hst) (by decide) (by decide) hst hpl,λHe G H σ ε d Q gh E ef q=>?_⟩;obtain⟨x,e1,ef⟩:=af ef;refine a2 He G H σ ε x _ gh E e1 λv G1 H1 g1 d1=>?_;unfold gE at ef;split at ef
 ·cases ef
  obtain⟨p,xs,rfl,h1,h2⟩:=d1.lst g1.gh;exact⟨p,xs,rfl,.inl h1,q _ _ _ g1 (by rw[h2.length];exact .int _)⟩
 ·cases ef
  obtain⟨p,xs,rfl,h0,h1,h2⟩:=d1.tup g1.gh;exact⟨p,xs,rfl,.inr h1,q _ _ _ g1 (by rw[h2.length];exact .int _)⟩
 ·cases ef
def qx(X:Cx)(f:vv)(op:List D->Option D):Prop:=∃r,dA X f r/\∀(G H:Hp) (vs:List V) (ds:List D) (d:D) (Q:VK),aF G H->DenL X.K G vs ds->op ds=some d->
 (∀v G' H',Grow G H G' H'->Den X.K G' v d->Q v H')->r vs H Q
theorem jG{id:String}{op:List D->Option D}{x:Str}{e:Expr}{es:List Expr}{g:Ev->Option (List D)}{p:Pos}(hc:qx X (.builtin id) op)(hm:X.mg x=none)(hv:Zc x=some (.builtin id))(ha:DA X (e::es) g)(hg:Gl X x:=by rfl)
  (hn:x≠"__name__":=by decide) (hdb:(x==("__debug__" : Str))=false:=by decide) (he:uk (e::es) X.env=(false,eval e X.env)::uk es X.env:=by rfl) (hpl:(Q7 pos (uk es X.env)).any (·.1)=false:=by rfl) :
  DE X (.Call (.Name x p) (e::es) [] pos) (aJ op g):=by
 obtain⟨r,c1,c2⟩:=hc;obtain⟨t,a1,a2⟩:=ha;refine⟨_,fj c1 hg hm hv a1 hn hdb he hpl,λHe G H σ ε d Q gh E ef q=>?_⟩;obtain⟨ds,e1,ef⟩:=af ef;refine a2 He G H σ ε ds _ gh E e1 λvs G1 H1 g1 d1=>?_;exact c2 G1 H1 vs ds d Q g1.gh d1 ef λv G2 H2 g2 d2=>q v G2 H2 (g1.trans g2) d2
def m5:List D->Option D
 |[.int i,.int j]=>some (.int (if j>i then j else i))
 |_=>none
def ki:List D->Option D
 |[.int i,.int j]=>some (.int (if j<i then j else i))
 |_=>none
theorem Den.intV{K:v0}{G:Hp}{v:V}{i:Int}(h:Den K G v (.int i)):v=.int i:=by cases h;rfl
theorem vQ(hc:X.calm=true):qx X (.builtin "max") m5:=⟨_,q_ hc,λG H vs ds d Q gh hd e q=>by
 unfold m5 at e;split at e
 ·cases e
  cases hd with | cons h1 h2=>cases h2 with | cons h2 h3=>cases h3;exact⟨_,_,by rw[h1.intV,h2.intV],q _ _ _ (.refl gh) (.int _)⟩
 ·cases e⟩
theorem wM(hc:X.calm=true):qx X (.builtin "min") ki:=⟨_,qH hc,λG H vs ds d Q gh hd e q=>by
 unfold ki at e;split at e
 ·cases e
  cases hd with | cons h1 h2=>cases h2 with | cons h2 h3=>cases h3;exact⟨_,_,by rw[h1.intV,h2.intV],q _ _ _ (.refl gh) (.int _)⟩
 ·cases e⟩
theorem Den.lstV{K:v0}{G:Hp}{v:V}{ds:List D}(h:Den K G v (.lst ds)):∃a xs,v=.ref a/\SqL K G a xs/\DenL K G xs ds:=by cases h with | lst h hs=>exact⟨_,_,rfl,h,hs⟩
theorem Den.tupV{K:v0}{G:Hp}{v:V}{ds:List D}(h:Den K G v (.tup ds)):∃a xs,v=.ref a/\SqT K G a xs/\DenL K G xs ds:=by cases h with | tup h hs=>exact⟨_,_,rfl,h,hs⟩
def tyD:D->String
 |.non=>"NoneType" | .bl _=>"bool" | .int _=>"int" | .str _=>"str" | .tup _=>"tuple" | .lst _=>"list" | .dic _=>"dict"
def cU(T:String)(d:D):D:=.bl (tyD d==T || (tyD d == "bool" && T == "int"))
theorem vF{K:v0}{t T:String}(hT:T = "list"\/T = "tuple"\/T = "bool"\/T = "int")(ht:t = "NoneType"\/t = "bool"\/t = "int"\/t = "str"\/t = "tuple"\/t = "list"\/t = "dict") :
  PySem.W.kitOne K (.type t) (.type T)=some (t==T || (t == "bool" && T == "int")):=by
 rcases hT with rfl | rfl | rfl | rfl<;>rcases ht with rfl | rfl | rfl | rfl | rfl | rfl | rfl<;>rfl
theorem xm(d:D):tyD d = "NoneType"\/tyD d = "bool"\/tyD d = "int"\/tyD d = "str"\/tyD d = "tuple"\/tyD d = "list"\/tyD d = "dict":=by cases d<;>simp[tyD]
theorem tW{T:String}(hT:T = "list"\/T = "tuple"\/T = "bool"\/T = "int"):dA X (.builtin "isinstance") (λxs H Q=>∃G v d,xs=[v,.ty T]/\aF G H/\bA X.K G H v d/\∃k,cU T d=.bl k/\Q (.bl k) H):=by
 intro pins s σ H xs us Q I rv h;obtain⟨G,v,d,rfl,gh,hd,k,ek,q⟩:=h;obtain⟨u,u2,rfl,r1,r2⟩:=rv.two;have e2:u2=Value.type T:=r2;subst e2
 have kt:PySem.W.kitOne X.K (.type (tyD d)) (.type T)=some k:=by
  rw[vF hT (xm d)];unfold cU at ek;injection ek with ek
  rw[ek]
 have fin:∀tk,EP X pins σ Q (.bool k) { s with toks:=tk }:=λtk=>⟨.bl k,H,I.tok tk,rfl,q⟩;cases d with
 |non=>cases hd.non;cases(show u=QR from r1);exact Zg PySem.W.kitx_none I.kIn True.intro kt (λz=>nomatch z) fin
 |bl y=>cases hd.bl;cases(show u=Value.bool y from r1);exact Zg PySem.W.kitx_bool I.kIn True.intro kt (λz=>nomatch z) fin
 |int i=>cases hd.int;obtain⟨t,z⟩:=(show ∃t,u=Value.int i t from r1);cases z;exact Zg PySem.W.kitx_int I.kIn True.intro kt (λz=>nomatch z) fin
 |str i=>cases hd.str;obtain⟨t,z⟩:=(show ∃t,u=Value.str i t from r1);cases z;exact Zg PySem.W.kitx_str I.kIn True.intro kt (λz=>nomatch z) fin
 |tup ds=>
  obtain⟨p,ys,rfl,h0,h1,h2⟩:=hd.tup gh;cases(show u=QH p from r1);obtain⟨its,_,⟨o,h3,h4,_⟩,_⟩:=I.tuple h1;exact Zg PySem.W.kitx_tuple I.kIn ⟨o,h3,h4⟩ kt (λz=>nomatch z) fin
 |lst ds=>
  obtain⟨p,ys,rfl,h1,h2⟩:=hd.lst gh;cases(show u=QH p from r1);obtain⟨its,_,⟨o,n,h3,h4,_⟩,_⟩:=I.list h1;exact Zg PySem.W.kitx_list I.kIn ⟨o,h3,h4⟩ kt (λz=>nomatch z) fin
 |dic es=>
  rcases hd with hd | ⟨_,_,_,_,z,_⟩
  ·cases hd with
   |@dic p us ep _ h nd hs=>
    cases(show u=QH p from r1);obtain⟨⟨_,_,o,raw,h3,h4,_⟩,_,_⟩:=(show bz X.prog X.w H s.heap p (.ext (DAt p us ep)) from I.hok p _ (gh _ _ h));exact Zg PySem.W.kitx_dict I.kIn ⟨o,h3,h4.1⟩ kt (λz=>nomatch z) fin
  ·cases z
theorem dO{T:String}{p p2:Pos}{x:Str}(hT:T = "list"\/T = "tuple"\/T = "bool"\/T = "int")(ha:DB X a fa)(hm:X.mg "isinstance" = none)(hm2:X.mg x=none)(hv:Zc x=some (.type T))(hv0:Zc "isinstance" = some (.builtin "isinstance"):=by rfl)(hg:Gl X "isinstance":=by rfl)(hg2:Gl X x:=by rfl)(hn2:x≠"__name__":=by decide)(hd2:(x==("__debug__" : Str))=false:=by decide)
  (hst:uk [a,.Name x p2] X.env=(false,eval a X.env)::uk [.Name x p2] X.env:=by rfl) (hst2:uk [.Name x p2] X.env=(false,eval (.Name x p2) X.env)::uk [] X.env:=by rfl) (hpl:(Q7 pos (uk [.Name x p2] X.env)).any (·.1)=false:=by rfl) :
  DE X (.Call (.Name "isinstance" p) [a,.Name x p2] [] pos) (df (cU T) fa):=by
 obtain⟨ta,a1,a2⟩:=ha;refine⟨_,fj (tW hT) hg hm hv0 (bD a1 (bD (vI (v:=.ty T) hg2 hm2 hv rfl hn2 hd2) b6 hst2) hst) (by decide) (by decide) hst hpl,λHe G H σ ε d Q gh E ef q=>?_⟩;unfold df at ef;cases e1:fa ε with
 |none=>rw[e1] at ef;cases ef
 |some y=>
  rw[e1] at ef;cases ef;refine a2 He G H σ ε y _ gh E e1 λv G1 H1 g1 d1=>?_;exact⟨G1,v,y,rfl,g1.gh,d1,_,rfl,q _ _ _ g1 (.bl _)⟩
end
theorem EnvD.put{K:v0}{He G H:Hp}{σ:L2.St}{ε:Ev}{i:Nat}{v:V}{d:D}(E:EnvD K He G H σ ε)(h:Den K G v d):EnvD K He G H (σ.set i (some v)) (ε.set i (.dat d)) where
 len:=by rw[Jf,Jf];exact E.len
 dat:=λ{j d'} e=>by
  rw[Qc] at e ⊢
  by_cases z:i=j
  ·rw[if_pos z] at e ⊢
   subst z;rw[E.len];split at e
   ·rename_i hl;cases e;exact⟨v,by rw[if_pos hl],h⟩
   ·cases e
  ·rw[if_neg z] at e ⊢
   exact E.dat e
 own:=λ{j ds} e=>by
  rw[Qc] at e ⊢
  by_cases z:i=j
  ·rw[if_pos z] at e;split at e<;>cases e
  ·rw[if_neg z] at e ⊢
   exact E.own e
 apart:=λ{j k ds es a} e1 e2 h1 h2=>by
  rw[Qc] at e1 e2 h1 h2
  by_cases z:i=j
  ·rw[if_pos z] at e1;split at e1<;>cases e1
  ·by_cases z2:i=k
   ·rw[if_pos z2] at e2;split at e2<;>cases e2
   ·rw[if_neg z] at e1 h1
    rw[if_neg z2] at e2 h2;exact E.apart e1 e2 h1 h2
 odi:=λ{j ds} e=>by
  rw[Qc] at e ⊢
  by_cases z:i=j
  ·rw[if_pos z] at e;split at e<;>cases e
  ·rw[if_neg z] at e ⊢
   exact E.odi e
 apartD:=λ{j k ds es a} e1 e2 h1 h2=>by
  rw[Qc] at e1 e2 h1 h2
  by_cases z:i=j
  ·rw[if_pos z] at e1;split at e1<;>cases e1
  ·by_cases z2:i=k
   ·rw[if_pos z2] at e2;split at e2<;>cases e2
   ·rw[if_neg z] at e1 h1
    rw[if_neg z2] at e2 h2;exact E.apartD e1 e2 h1 h2
theorem EnvD.putO{K:v0}{He G H G' H':Hp}{σ:L2.St}{ε:Ev}{i:Nat}{a:Addr}{xs:List V}{ds:List D}(E:EnvD K He G H σ ε)(g:Grow G H G' H')(heH:aF He H)(hn:H a=none)(gn:G' a=none)(ha:H' a=some (.lst xs))(hd:DenL K G' xs ds) :
  EnvD K He G' H' (σ.set i (some (.ref a))) (ε.set i (.own ds)) where
 len:=by rw[Jf,Jf];exact E.len
 dat:=λ{j d'} e=>by
  rw[Qc] at e ⊢
  by_cases z:i=j
  ·rw[if_pos z] at e;split at e<;>cases e
  ·rw[if_neg z] at e ⊢
   exact(E.grow g).dat e
 own:=λ{j ds'} e=>by
  rw[Qc] at e ⊢
  by_cases z:i=j
  ·rw[if_pos z] at e ⊢
   subst z;rw[E.len];split at e
   ·rename_i hl;cases e;exact⟨a,xs,by rw[if_pos hl],ha,gn,heH.free hn,hd⟩
   ·cases e
  ·rw[if_neg z] at e ⊢
   exact(E.grow g).own e
 apart:=λ{j k ds' es b} e1 e2 h1 h2=>by
  rw[Qc] at e1 e2 h1 h2
  have key:∀{m:Nat} {es:List D},ε[m]?=some (.own es)->σ[m]?=some (some (.ref a))->False:=λ{m es} q1 q2=>by
   obtain⟨b',ys,w1,w2,_⟩:=E.own q1;rw[q2] at w1;cases w1;rw[hn] at w2;cases w2
  by_cases z:i=j
  ·by_cases z2:i=k
   ·rw[<-z,<-z2]
   ·rw[if_pos z] at h1
    rw[if_neg z2] at e2 h2;split at h1
    ·cases h1;exact(key e2 h2).elim
    ·cases h1
  ·by_cases z2:i=k
   ·rw[if_neg z] at e1 h1
    rw[if_pos z2] at h2;split at h2
    ·cases h2;exact(key e1 h1).elim
    ·cases h2
   ·rw[if_neg z] at e1 h1
    rw[if_neg z2] at e2 h2;exact E.apart e1 e2 h1 h2
 odi:=λ{j ds'} e=>by
  rw[Qc] at e ⊢
  by_cases z:i=j
  ·rw[if_pos z] at e;split at e<;>cases e
  ·rw[if_neg z] at e ⊢
   exact(E.grow g).odi e
 apartD:=λ{j k ds es a} e1 e2 h1 h2=>by
  rw[Qc] at e1 e2 h1 h2
  by_cases z:i=j
  ·rw[if_pos z] at e1;split at e1<;>cases e1
  ·by_cases z2:i=k
   ·rw[if_pos z2] at e2;split at e2<;>cases e2
   ·rw[if_neg z] at e1 h1
    rw[if_neg z2] at e2 h2;exact E.apartD e1 e2 h1 h2
theorem Sta.write{K:v0}{He Ge G H:Hp}{σ:L2.St}{ε:Ev}{i:Nat}{a:Addr}{xs ys:List V}{ds es:List D}(S:Sta K He Ge G H σ ε)(ei:ε[i]?=some (.own ds))(hs:σ[i]?=some (some (.ref a)))(ha:H a=some (.lst xs))(hd:DenL K G ys es) :
  Sta K He Ge G (upd H a (.lst ys)) σ (ε.set i (.own es)):=by
 obtain⟨a',xs',h1,h2,h3,h4,h5⟩:=S.e.own ei;rw[hs] at h1;cases h1;have keep:∀{b:Addr} {o:HO},b≠a->H b=some o->upd H a (.lst ys) b=some o:=λ{b o} n e=>by rw[aD n];exact e
 refine⟨⟨λb o e=>keep (ax e h4) (S.g.hh b o e),S.g.gg,λb o e=>keep (ax e h3) (S.g.gh b o e),S.g.fo⟩,?_⟩;have hil:i<ε.length:=(Qi.mp ei).1;refine⟨by rw[Jf];exact S.e.len,λ{j d} e=>?_,λ{j fs} e=>?_,λ{j k fs gs b} e1 e2 w1 w2=>?_,λ{j fs} e=>?_,λ{j k fs gs b} e1 e2 w1 w2=>?_⟩
 ·rw[Qc] at e
  by_cases z:i=j
  ·rw[if_pos z] at e;split at e<;>cases e
  ·rw[if_neg z] at e;exact S.e.dat e
 ·rw[Qc] at e
  by_cases z:i=j
  ·rw[if_pos z,if_pos (z▸hil)] at e
   cases e;subst z;exact⟨a,ys,hs,aE,h3,h4,hd⟩
  ·rw[if_neg z] at e
   obtain⟨b,zs,w1,w2,w3,w4,w5⟩:=S.e.own e;refine⟨b,zs,w1,keep (λq=>z ?_) w2,w3,w4,w5⟩;subst q;exact S.e.apart ei e hs w1
 ·have own_of:∀{m:Nat} {fs:List D},(ε.set i (.own es))[m]?=some (.own fs)->∃gs,ε[m]?=some (.own gs):=λ{m fs} e=>by
   rw[Qc] at e
   by_cases z:i=m
   ·subst z;exact⟨_,ei⟩
   ·rw[if_neg z] at e;exact⟨_,e⟩
  obtain⟨_,q1⟩:=own_of e1;obtain⟨_,q2⟩:=own_of e2;exact S.e.apart q1 q2 w1 w2
 ·rw[Qc] at e
  by_cases z:i=j
  ·rw[if_pos z] at e;split at e<;>cases e
  ·rw[if_neg z] at e
   obtain⟨b,us,ep,w1,w2,w3⟩:=S.e.odi e;exact⟨b,us,ep,w1,keep (λq=>by subst q;rw[ha] at w2;cases w2) w2,w3⟩
 ·have odi_of:∀{m:Nat} {fs:List (List Int×D)},(ε.set i (.own es))[m]?=some (.odi fs)->ε[m]?=some (.odi fs):=λ{m fs} e=>by
   rw[Qc] at e
   by_cases z:i=m
   ·rw[if_pos z] at e;split at e<;>cases e
   ·rw[if_neg z] at e;exact e
  exact S.e.apartD (odi_of e1) (odi_of e2) w1 w2
def fzS:Sl->Sl
 |.own ds=>.dat (.lst ds)
 |.odi es=>.dat (.dic es)
 |x=>x
def fz1(i:Nat)(ε:Ev):Ev:=ε.modify i fzS
theorem Sta.freeze{K:v0}{He Ge G H:Hp}{σ:L2.St}{ε:Ev}(S:Sta K He Ge G H σ ε)(i:Nat):∃G',Sta K He Ge G' H σ (fz1 i ε):=by
 unfold fz1;cases ei:ε[i]? with
 |none=>
  have:ε.modify i fzS=ε:=by
   apply Jq;intro j;rw[JS]
   by_cases z:i=j
   ·subst z;rw[ei];rfl
   ·simp[z]
  rw[this];exact⟨G,S⟩
 |some sl=>
  cases sl with
  |un=>
   have:ε.modify i fzS=ε:=by
    apply Jq;intro j;rw[JS]
    by_cases z:i=j
    ·subst z;rw[ei];simp[fzS]
    ·simp[z]
   rw[this];exact⟨G,S⟩
  |dat d=>
   have:ε.modify i fzS=ε:=by
    apply Jq;intro j;rw[JS]
    by_cases z:i=j
    ·subst z;rw[ei];simp[fzS]
    ·simp[z]
   rw[this];exact⟨G,S⟩
  |own ds=>
   obtain⟨a,xs,h1,h2,h3,h4,h5⟩:=S.e.own ei;have s2:aF G (upd G a (.lst xs)):=λb o e=>by rw[aD (ax e h3)];exact e
   have gt:∀j,(ε.modify i fzS)[j]?=if i=j then some (.dat (.lst ds)) else ε[j]?:=λj=>by
    rw[JS]
    by_cases z:i=j
    ·subst z;rw[ei];simp[fzS]
    ·simp[z]
   refine⟨upd G a (.lst xs),⟨S.g.hh,S.g.gg.trans s2,λb o e=>?_,λb o e z=>?_⟩,⟨by rw[List.length_modify];exact S.e.len,λ{j d} e=>?_,λ{j fs} e=>?_,λ{j k fs gs b} e1 e2 w1 w2=>?_,λ{j fs} e=>?_,λ{j k fs gs b} e1 e2 w1 w2=>?_⟩⟩
   ·unfold upd at e
    by_cases z:b=a
    ·rw[if_pos z] at e;cases e;rw[z];exact h2
    ·rw[if_neg z] at e;exact S.g.gh b o e
   ·rw[aD (ax e h4)];exact S.g.fo b o e z
   ·rw[gt] at e
    split at e
    ·rename_i z;subst z;cases e;exact⟨_,h1,.lst (SqL.of aE) (h5.mono s2)⟩
    ·obtain⟨v,w1,w2⟩:=S.e.dat e;exact⟨v,w1,w2.mono s2⟩
   ·rw[gt] at e
    split at e
    ·cases e
    ·rename_i z
     obtain⟨b,zs,w1,w2,w3,w4,w5⟩:=S.e.own e;refine⟨b,zs,w1,w2,?_,w4,w5.mono s2⟩;rw[aD (λq=>z (by subst q;exact S.e.apart ei e h1 w1))];exact w3
   ·rw[gt] at e1 e2
    split at e1
    ·cases e1
    ·split at e2
     ·cases e2
     ·exact S.e.apart e1 e2 w1 w2
   ·rw[gt] at e
    split at e
    ·cases e
    ·obtain⟨b,us,ep,w1,w2,w3,w4,w5,w6⟩:=S.e.odi e
     refine⟨b,us,ep,w1,w2,?_,w4,w5,w6.mono s2⟩;rw[aD (λq=>by subst q;rw[h2] at w2;cases w2)];exact w3
   ·rw[gt] at e1 e2
    split at e1
    ·cases e1
    ·split at e2
     ·cases e2
     ·exact S.e.apartD e1 e2 w1 w2
  |odi es=>
   obtain⟨a,us,ep,h1,h2,h3,h4,h5,h6⟩:=S.e.odi ei;have s2:aF G (upd G a (.ext (DAt a us ep))):=λb o e=>by rw[aD (ax e h3)];exact e
   have gt:∀j,(ε.modify i fzS)[j]?=if i=j then some (.dat (.dic es)) else ε[j]?:=λj=>by
    rw[JS]
    by_cases z:i=j
    ·subst z;rw[ei];simp[fzS]
    ·simp[z]
   refine⟨upd G a (.ext (DAt a us ep)),⟨S.g.hh,S.g.gg.trans s2,λb o e=>?_,λb o e z=>?_⟩,⟨by rw[List.length_modify];exact S.e.len,λ{j d} e=>?_,λ{j fs} e=>?_,λ{j k fs gs b} e1 e2 w1 w2=>?_,λ{j fs} e=>?_,λ{j k fs gs b} e1 e2 w1 w2=>?_⟩⟩
   ·unfold upd at e
    by_cases z:b=a
    ·rw[if_pos z] at e;cases e;rw[z];exact h2
    ·rw[if_neg z] at e;exact S.g.gh b o e
   ·rw[aD (ax e h4)];exact S.g.fo b o e z
   ·rw[gt] at e
    split at e
    ·rename_i z;subst z;cases e;exact⟨_,h1,.dic aE h5 (h6.mono s2)⟩
    ·obtain⟨v,w1,w2⟩:=S.e.dat e;exact⟨v,w1,w2.mono s2⟩
   ·rw[gt] at e
    split at e
    ·cases e
    ·obtain⟨b,zs,w1,w2,w3,w4,w5⟩:=S.e.own e
     refine⟨b,zs,w1,w2,?_,w4,w5.mono s2⟩;rw[aD (λq=>by subst q;rw[h2] at w2;cases w2)];exact w3
   ·rw[gt] at e1 e2
    split at e1
    ·cases e1
    ·split at e2
     ·cases e2
     ·exact S.e.apart e1 e2 w1 w2
   ·rw[gt] at e
    split at e
    ·cases e
    ·rename_i z
     obtain⟨b,us',ep',w1,w2,w3,w4,w5,w6⟩:=S.e.odi e;refine⟨b,us',ep',w1,w2,?_,w4,w5,w6.mono s2⟩;rw[aD (λq=>z (by subst q;exact S.e.apartD ei e h1 w1))];exact w3
   ·rw[gt] at e1 e2
    split at e1
    ·cases e1
    ·split at e2
     ·cases e2
     ·exact S.e.apartD e1 e2 w1 w2
theorem Grow.base{Ge He G1 H1 G H:Hp}(a:Grow Ge He G1 H1)(b:Grow G1 He G H):Grow Ge He G H:=⟨b.hh,a.gg.trans b.gg,b.gh,λc o h e=>b.fo c o h (a.fo c o h e)⟩
theorem Grow.self{Ge He G1 H1:Hp}(a:Grow Ge He G1 H1):Grow G1 He G1 H1:=⟨a.hh,aF.refl _,a.gh,λ_ _ _ e=>e⟩
section
variable{X:Cx}{a b c:Expr}{fa fb fc:Ev->Option D}{pos:Pos}{st:Stmt}{rest:List Stmt}{g g':Ev->Option Fl}
def a_:Ev->Option Fl:=λε=>some (.nx ε)
def aH(g g':Ev->Option Fl):Ev->Option Fl:=λε=>(g ε).bind λr=>match r with | .nx ε'=>g' ε' | r=>some r
theorem aR:DSs X [] a_:=⟨_,wW,λHe Ge G H σ ε r W S e P=>by cases e;exact P σ G H S⟩
theorem aw(h:DS X st g):DSs X [st] g:=let⟨t,h1,h2⟩:=h;⟨_,pZ h1,h2⟩
theorem ar(h:DS X st g)(hs:DSs X rest g'):DSs X (st::rest) (aH g g'):=by
 obtain⟨t,a1,a2⟩:=h;obtain⟨u,b1,b2⟩:=hs;refine⟨_,j0 a1 b1,λHe Ge G H σ ε r W S e P=>?_⟩;obtain⟨r1,e1,e⟩:=af e;refine a2 He Ge G H σ ε r1 _ S e1 ?_;cases r1 with
 |nx ε'=>exact λσ' G' H' S'=>b2 He Ge G' H' σ' ε' r W S' e P
 |rt d=>cases e;exact P
 |ro ds=>cases e;exact P
 |bk ε'=>cases e;exact P
 |ct ε'=>cases e;exact P
theorem mT:DS X (.Continue pos) (λε=>some (.ct ε)):=⟨_,ni,λHe Ge G H σ ε r W S e P=>by cases e;exact P σ G H S⟩
def sFz(i:Nat)(g:Ev->Option Fl):Ev->Option Fl:=λε=>g (fz1 i ε)
theorem mK(i:Nat)(h:DS X st g):DS X st (sFz i g):=let⟨t,h1,h2⟩:=h;⟨t,h1,λHe Ge G H σ ε r W S e P=>let⟨G',S'⟩:=S.freeze i;h2 He Ge G' H σ _ r W S' e P⟩
def a8(f:Ev->Option D):Ev->Option Fl:=λε=>(f ε).map Fl.rt
theorem aP{α β:Type}{o:Option α}{f:α->β}{y:β}(h:o.map f=some y):∃x,o=some x/\f x=y:=by
 cases o with
 |none=>cases h
 |some x=>exact⟨x,rfl,Option.some.inj h⟩
theorem aV(h:DE X a fa):DS X (.Return (some a) pos) (a8 fa):=by
 obtain⟨t,a1,a2⟩:=h;refine⟨_,oo a1,λHe Ge G H σ ε r W S e P=>?_⟩;obtain⟨d,e1,rfl⟩:=aP e;exact a2 He G H σ ε d _ S.g.gh S.e e1 λv G' H' g hd=>P v G' H' (S.g.trans g) hd
def ju(f:Ev->Option (List D)):Ev->Option Fl:=λε=>(f ε).map Fl.ro
theorem oK{f:Ev->Option (List D)}(h:DF X a f):DS X (.Return (some a) pos) (ju f):=by
 obtain⟨t,a1,a2⟩:=h;refine⟨_,oo a1,λHe Ge G H σ ε r W S e P=>?_⟩;obtain⟨d,e1,rfl⟩:=aP e;exact a2 He G H σ ε d _ S.g.gh S.e e1 λl xs G' H' g n1 n2 h3 hd=>P l xs G' H' (S.g.trans g) (S.g.hh.free n1) n2 h3 hd
def qo(i:Nat):Ev->Option Fl:=λε=>match ε[i]? with | some (.own ds)=>some (.ro ds) | _=>none
theorem wO(i:Nat){x:Str}{p:Pos}(hN:X.N[i]?=some x:=by rfl)(hv:Vis X.env.scope x:=by first | exact Or.inl rfl | exact Jy (Or.inl rfl) | exact Jy (Jy rfl))(hd:(x==("__debug__" : Str))=false:=by decide)
  (hcd:(x==("__classdict__" : Str))=false:=by decide):DS X (.Return (some (.Name x p)) pos) (qo i):=by
 refine⟨_,oo (gd hN hv hd hcd),λHe Ge G H σ ε r W S e P=>?_⟩;unfold qo at e;split at e
 ·rename_i ds ei
  cases e;obtain⟨a,xs,h1,h2,h3,h4,h5⟩:=S.e.own ei;exact⟨_,h1,P a xs G H S.g h4 h3 h2 h5⟩
 ·cases e
def sIf(f:Ev->Option Bool)(g g':Ev->Option Fl):Ev->Option Fl:=λε=>(f ε).bind λk=>if k=true then g ε else g' ε
theorem bp{f:Ev->Option Bool}{s1 s2:List Stmt}(hc:DT X c f)(h1:DSs X s1 g)(h2:DSs X s2 g'):DS X (.If c s1 s2 pos) (sIf f g g'):=by
 obtain⟨t,c1,c2⟩:=hc;obtain⟨ta,a1,a2⟩:=h1;obtain⟨tb,b1,b2⟩:=h2;refine⟨_,AN c1 a1 b1,λHe Ge G H σ ε r W S e P=>?_⟩;obtain⟨k,e1,e⟩:=af e;refine c2 He G H σ ε k _ S.g.gh S.e e1 λG1 H1 g1=>?_;cases k with
 |true=>
  rw[if_pos rfl] at e ⊢;exact a2 He Ge G1 H1 σ ε r W (S.grow g1) e P
 |false=>
  rw[if_neg ww] at e ⊢;exact b2 He Ge G1 H1 σ ε r W (S.grow g1) e P
def bq(i:Nat)(f:Ev->Option D):Ev->Option Fl:=λε=>(f ε).map λd=>Fl.nx (ε.set i (.dat d))
theorem bo(i:Nat){x:Str}{pos':Pos}(hN:X.N.Nodup)(ha:DE X a fa)(hi:X.N[i]?=some x:=by rfl)(hx:Loc X.env.scope x:=by first | exact Or.inl rfl | exact Jy rfl)(hs:ZB a (some (.Name x pos')) pos.line X.env=pure false:=by rfl)
  (hf:X.fn x=true\/X.env.scope.names.lookup x=some .local:=by first | exact .inl rfl | exact .inr rfl):DS X (.Assign [.Name x pos'] a pos) (bq i fa):=by
 obtain⟨t,a1,a2⟩:=ha;refine⟨_,kZ hN hi hx a1 hs hf,λHe Ge G H σ ε r W S e P=>?_⟩;obtain⟨d,e1,rfl⟩:=aP e;exact a2 He G H σ ε d _ S.g.gh S.e e1 λv G' H' g hd=>P _ G' H' ⟨S.g.trans g,(S.e.grow g).put hd⟩
def jD(i:Nat)(f:Ev->Option (List D)):Ev->Option Fl:=λε=>(f ε).map λd=>Fl.nx (ε.set i (.own d))
theorem hE(i:Nat){x:Str}{pos':Pos}{f:Ev->Option (List D)}(hN:X.N.Nodup)(ha:DF X a f)(hi:X.N[i]?=some x:=by rfl)(hx:Loc X.env.scope x:=by first | exact Or.inl rfl | exact Jy rfl)(hs:ZB a (some (.Name x pos')) pos.line X.env=pure false:=by rfl)
  (hf:X.fn x=true\/X.env.scope.names.lookup x=some .local:=by first | exact .inl rfl | exact .inr rfl):DS X (.Assign [.Name x pos'] a pos) (jD i f):=by
 obtain⟨t,a1,a2⟩:=ha;refine⟨_,kZ hN hi hx a1 hs hf,λHe Ge G H σ ε r W S e P=>?_⟩;obtain⟨d,e1,rfl⟩:=aP e;exact a2 He G H σ ε d _ S.g.gh S.e e1 λl xs G' H' g hn gn hl hd=>P _ G' H' ⟨S.g.trans g,S.e.putO g S.g.hh hn gn hl hd⟩
def c_(i:Nat)(f:Ev->Option D):Ev->Option Fl:=λε=>(f ε).bind λd=>match ε[i]? with
 |some (.own ds)=>if ds.length<1000000 then some (.nx (ε.set i (.own (ds++[d])))) else none
 |_=>none
theorem eY(i:Nat){x:Str}{p1 p2:Pos}(ha:DE X a fa)(hN:X.N[i]?=some x:=by rfl)(hv:Vis X.env.scope x:=by first | exact Or.inl rfl | exact Jy (Or.inl rfl))(hd:(x==("__debug__" : Str))=false:=by decide)
  (hcd:(x==("__classdict__" : Str))=false:=by decide)
  (hbase:Zz (.Name x p1) "append" X.env (eval (.Name x p1) X.env)=eval (.Name x p1) X.env:=by rfl)
  (hfew:((Q7 pos (uk [a] X.env)).all (λx=>!x.1)&&(backToKw pos (J8 [] X.env)).all (λx=>x.1.isSome)
   && decide (([a]:List Expr).length+([]:List Keyword).length+(if([]:List Keyword).isEmpty then 0 else 1)<30))=true:=by rfl)
  (hline:(p2.endLine==pos.line)=true:=by rfl) (hs:uk [a] X.env=(false,eval a X.env)::uk [] X.env:=by rfl) (hplain:(Q7 pos (uk [] X.env)).any (·.1)=false:=by rfl)
  (hsw:ZB (.Call (.Attribute (.Name x p1) "append" p2) [a] [] pos) none pos.line X.env=pure false:=by rfl) :
  DS X (.Expr (.Call (.Attribute (.Name x p1) "append" p2) [a] [] pos) pos) (c_ i fa):=by
 obtain⟨t,a1,a2⟩:=ha;refine⟨_,oE (x4 PySem.F.plainAttrs_list PySem.F.slot_list_append PySem.F.type_list_append hV (gd hN hv hd hcd) (bD a1 b6 hs) hbase hfew hline hs hplain) hsw,λHe Ge G H σ ε r W S e P=>?_⟩;obtain⟨d,e1,e⟩:=af e;split at e
 ·rename_i ds ei
  split at e
  ·rename_i hl
   cases e;obtain⟨l,xs,h1,h2,h3,h4,h5⟩:=S.e.own ei;refine⟨_,h1,.inl ⟨rfl,xs,SqL.of h2⟩,?_⟩;refine a2 He G H σ ε d _ S.g.gh S.e e1 λv G' H' g hd=>?_;have S':=S.grow g;obtain⟨l',xs',w1,w2,w3,w4,w5⟩:=S'.e.own ei;rw[h1] at w1;cases w1
   have hz:xs'.length<Qt:=by
    rw[w5.length];exact Jc hl (by decide)
   exact⟨l,xs',v,rfl,rfl,w2,hz,P σ G' _ (S'.write ei h1 w2 (w5.append (.one hd)))⟩
  ·cases e
 ·cases e
def Cb(i:Nat)(fk f:Ev->Option D):Ev->Option Fl:=λε=>(f ε).bind λd=>(fk ε).bind λk=>match ε[i]?,k with
 |some (.own ds),.int j=>(ixN ds.length j).map λm=>.nx (ε.set i (.own (ds.set m d)))
 |_,_=>none
def DG(X:Cx)(tg:Expr)(g:D->Ev->Option Ev):Prop:=∃t,PG X tg t/\∀(He G H:Hp) (σ:L2.St) (ε ε':Ev) (v:V) (d:D) (Q:L2.St->Hp->Prop),aF G H->EnvD X.K He G H σ ε->Den X.K G v d->g d ε=some ε'->
 (∀σ',EnvD X.K He G H σ' ε'->Q σ' H)->t v σ H Q
def DGs(X:Cx)(ts:List Expr)(g:List D->Ev->Option Ev):Prop:=∃t,PGs X ts t/\∀(He G H:Hp) (σ:L2.St) (ε ε':Ev) (vs:List V) (ds:List D) (Q:L2.St->Hp->Prop),aF G H->EnvD X.K He G H σ ε->DenL X.K G vs ds->g ds ε=some ε'->
 (∀σ',EnvD X.K He G H σ' ε'->Q σ' H)->t vs σ H Q
def ah(i:Nat):D->Ev->Option Ev:=λd ε=>some (ε.set i (.dat d))
theorem au(i:Nat){x:Str}(hN:X.N.Nodup)(hi:X.N[i]?=some x:=by rfl)(hx:Loc X.env.scope x:=by first | exact Or.inl rfl | exact Jy rfl)(hf:X.fn x=true\/X.env.scope.names.lookup x=some .local:=by first | exact .inl rfl | exact .inr rfl):DG X (.Name x pos) (ah i):=
 ⟨_,qf hN hi hx hf,λHe G H σ ε ε' v d Q gh E hd e q=>by cases e;exact q _ (E.put hd)⟩
def aL:List D->Ev->Option Ev:=λds ε=>match ds with | []=>some ε | _=>none
def ai(g:D->Ev->Option Ev)(g':List D->Ev->Option Ev):List D->Ev->Option Ev:=λds ε=>match ds with | d::r=>(g d ε).bind (g' r) | []=>none
theorem bu:DGs X [] aL:=⟨_,qC,λHe G H σ ε ε' vs ds Q gh E hd e q=>by
 cases hd with
 |nil=>cases e;exact⟨rfl,q _ E⟩
 |cons _ _=>cases e⟩
theorem av{e:Expr}{es:List Expr}{g1:D->Ev->Option Ev}{g2:List D->Ev->Option Ev}(h1:DG X e g1)(h2:DGs X es g2)(hs:(QU (e::es) X.env).map (·.2)=Zu e X.env::(QU es X.env).map (·.2):=by rfl):DGs X (e::es) (ai g1 g2):=by
 obtain⟨t,a1,a2⟩:=h1;obtain⟨u,b1,b2⟩:=h2;refine⟨_,mW a1 b1 hs,λHe G H σ ε ε' vs ds Q gh E hd e q=>?_⟩;cases hd with
 |nil=>cases e
 |cons h3 h4=>
  obtain⟨ε1,e1,e⟩:=af e;exact⟨_,_,rfl,a2 He G H σ ε ε1 _ _ _ gh E h3 e1 λσ1 E1=>b2 He G H σ1 ε1 ε' _ _ _ gh E1 h4 e q⟩
def bx(n:Nat)(g:List D->Ev->Option Ev):D->Ev->Option Ev:=λd ε=>match d with | .tup ds=>if ds.length=n then g ds ε else none | _=>none
theorem fX{es:List Expr}{k:Nat}{g:List D->Ev->Option Ev}{n:Nat}(hc:X.calm=true)(h:DGs X es g)(hn:(QU es X.env).length=n:=by rfl)(hst:(QU es X.env).findIdx? (·.1)=none:=by rfl):DG X (.Tuple es k pos) (bx n g):=by
 obtain⟨t,a1,a2⟩:=h;refine⟨_,nY hc a1 hn hst,λHe G H σ ε ε' v d Q gh E hd e q=>?_⟩;unfold bx at e;split at e
 ·split at e
  ·rename_i hl
   obtain⟨p,xs,rfl,h1,h2⟩:=hd.tupV;exact⟨p,xs,rfl,aC gh h1,by rw[h2.length];exact hl,a2 He G H σ ε ε' _ _ _ gh E h2 e q⟩
  ·cases e
 ·cases e
def iR(f:Ev->Option D)(g:D->Ev->Option Ev):Ev->Option Fl:=λε=>(f ε).bind λd=>(g d ε).map Fl.nx
theorem eA{tg:Expr}{g:D->Ev->Option Ev}(he:DE X a fa)(hg:DG X tg g)(hs:swapsWithSole [tg] a pos.line X.env=pure false:=by rfl)(hw:swappedStores [tg] a X.env=pure none:=by rfl)
  (h1:(QU [tg] X.env).map (·.2)=[Zu tg X.env]:=by rfl):DS X (.Assign [tg] a pos) (iR fa g):=by
 obtain⟨t,a1,a2⟩:=he;obtain⟨u,b1,b2⟩:=hg;refine⟨_,sI a1 b1 hs hw h1,λHe Ge G H σ ε r W S e P=>?_⟩;obtain⟨d,e1,e⟩:=af e;obtain⟨ε',e2,rfl⟩:=aP e;exact a2 He G H σ ε d _ S.g.gh S.e e1 λv G' H' g hd=>b2 He G' H' σ ε ε' v d _ g.gh (S.e.grow g) hd e2 λσ' E'=>P σ' G' H' ⟨S.g.trans g,E'⟩
def ItD(K:v0)(J:It)(ds:List D)(G:Hp):Prop:=∀(i:Nat) (H2:Hp),aF G H2->(i<ds.length->J.go i H2)/\(ds.length<=i->J.stop i H2)/\
 ∀x H3,J.yld i H2 x H3->∀d,ds[i]?=some d->∀G2,aF G G2->aF G2 H2->∃G3,Grow G2 H2 G3 H3/\Den K G3 x d
def DI(X:Cx)(tg iter:Expr)(f:Ev->Option (List D)):Prop:=∃wi,PI X tg iter wi/\∀(He G H:Hp) (σ:L2.St) (ε:Ev) (ds:List D) (R:It->Hp->Prop),aF G H->EnvD X.K He G H σ ε->f ε=some ds->
 (∀J G' H',Grow G H G' H'->ItD X.K J ds G'->R J H')->wi σ H R
def cG(f:Ev->Option D):Ev->Option (List D):=λε=>match f ε with | some (.lst ds)=>some ds | _=>none
theorem cC{tg:Expr}(h:DE X a fa):DI X tg a (cG fa):=by
 obtain⟨t,a1,a2⟩:=h;refine⟨_,vP a1,λHe G H σ ε ds R gh E ef q=>?_⟩;unfold cG at ef;split at ef
 ·rename_i e1
  cases ef;refine a2 He G H σ ε _ _ gh E e1 λv G1 H1 g1 d1=>?_;obtain⟨p,xs,rfl,h1,h2⟩:=d1.lstV;refine⟨p,rfl,⟨xs,g1.gh.seq h1⟩,q _ G1 H1 g1 λi H2 s2=>⟨λhi=>?_,λhi=>⟨xs,s2.seq h1,by rw[h2.length];exact hi⟩,?_⟩⟩
  ·have hi':i<xs.length:=by rw[h2.length];exact hi
   exact⟨xs,xs[i],s2.seq h1,by simp[hi']⟩
  ·rintro x H3 ⟨rfl,y⟩ d ed G2 s3 s4
   obtain⟨x',e3,e4⟩:=h2.get ed;have:=y xs (s2.seq h1);rw[e3] at this;cases this;exact⟨G2,.refl s4,e4.mono s3⟩
 ·cases ef
def kj(f:Ev->Option D):Ev->Option (List D):=λε=>match f ε with | some (.tup ds)=>some ds | _=>none
theorem uD{tg:Expr}(h:DE X a fa):DI X tg a (kj fa):=by
 obtain⟨t,a1,a2⟩:=h;refine⟨_,zB a1,λHe G H σ ε ds R gh E ef q=>?_⟩;unfold kj at ef;split at ef
 ·rename_i e1
  cases ef;refine a2 He G H σ ε _ _ gh E e1 λv G1 H1 g1 d1=>?_;obtain⟨p,xs,rfl,h1,h2⟩:=d1.tupV;refine⟨p,rfl,⟨xs,aC g1.gh h1⟩,q _ G1 H1 g1 λi H2 s2=>⟨λhi=>?_,λhi=>⟨xs,aC s2 h1,by rw[h2.length];exact hi⟩,?_⟩⟩
  ·have hi':i<xs.length:=by rw[h2.length];exact hi
   exact⟨xs,xs[i],aC s2 h1,by simp[hi']⟩
  ·rintro x H3 ⟨rfl,y⟩ d ed G2 s3 s4
   obtain⟨x',e3,e4⟩:=h2.get ed;have:=y xs (aC s2 h1);rw[e3] at this;cases this;exact⟨G2,.refl s4,e4.mono s3⟩
 ·cases ef
def dc(n:Nat):List D:=(QF n).map λi=>.int (i:Nat)
def iW(f:Ev->Option D):Ev->Option (List D):=λε=>match f ε with | some (.int j)=>if j<1000000/\-1000000<j then some (dc j.toNat) else none | _=>none
theorem jj{tg:Expr}{p:Pos}(h:DE X a fa)(hm:X.mg "range" = none)(hg:Gl X "range":=by rfl)(hs:uk [a] X.env=[(false,eval a X.env)]:=by rfl):DI X tg (.Call (.Name "range" p) [a] [] pos) (iW fa):=by
 obtain⟨t,a1,a2⟩:=h;refine⟨_,qN hg hm (bD a1 b6 hs) hs,λHe G H σ ε ds R gh E ef q=>?_⟩;unfold iW at ef;split at ef
 ·rename_i j e1
  split at ef
  ·rename_i hj
   cases ef;refine a2 He G H σ ε _ _ gh E e1 λv G1 H1 g1 d1=>?_;refine⟨j,by rw[d1.intV],by lia,by lia,q _ G1 H1 g1 λi H2 s2=>⟨λhi=>?_,λhi=>?_,?_⟩⟩
   ·show i<j.toNat
    simpa[dc] using hi
   ·show j.toNat<=i
    simpa[dc] using hi
   ·rintro x H3 ⟨rfl,rfl⟩ d ed G2 s3 s4
    refine⟨G2,.refl s4,?_⟩;unfold dc at ed;rw[Qm] at ed;obtain⟨m,em,rfl⟩:=aP ed;obtain⟨hm,em⟩:=Qi.mp em;rw[Ka] at em;subst em;rw[Int.zero_add];exact .int _
  ·cases ef
 ·cases ef
def cK(g:D->Ev->Option Ev)(gb:Ev->Option Fl):List D->Ev->Option Fl
 |[],ε=>some (.nx ε)
 |d::ds,ε=>(g d ε).bind λε1=>(gb ε1).bind λr=>match r with
  |.nx ε2=>cK g gb ds ε2
  |.ct ε2=>cK g gb ds ε2
  |.bk ε2=>some (.nx ε2)
  |.rt v=>some (.rt v)
  |.ro v=>some (.ro v)
def cP(f:Ev->Option (List D))(g:D->Ev->Option Ev)(gb:Ev->Option Fl):Ev->Option Fl:=λε=>(f ε).bind λds=>cK g gb ds ε
theorem b8{tg iter:Expr}{body:List Stmt}{f:Ev->Option (List D)}{g:D->Ev->Option Ev}{gb:Ev->Option Fl}(hp:PassesOwn (Qa X.prog X.w) X.A X.env X.xe)(hc:X.calm=true)(hi:DI X tg iter f)(hg:DG X tg g)(hb:DSs X body gb)
  (hs:∀x,JV iter X.env x=pure x:=by intro _;rfl):DS X (.For tg iter body [] pos) (cP f g gb):=by
 obtain⟨wi,i1,i2⟩:=hi;obtain⟨tg',g1,g2⟩:=hg;obtain⟨tb,b1,b2⟩:=hb;refine⟨_,su hp hc i1 g1 b1 hs,λHe Ge G H σ ε r W S e P=>?_⟩;obtain⟨ds,e1,e⟩:=af e;refine i2 He G H σ ε ds _ S.g.gh S.e e1 λJ G1 H1 gr it=>?_;have S1:=S.grow gr;refine⟨λi m σ H=>m=ds.length-i/\i<=ds.length/\∃G ε,Sta X.K He G1 G H σ ε/\cK g gb (ds.drop i) ε=some r,⟨ds.length,by simp,QA _,G1,ε,⟨S1.g.self,S1.e⟩,by simpa using e⟩,?_⟩;rintro i m σ2 H2 ⟨rfl,hi,G2,ε2,S2,e2⟩;obtain⟨go,stop,yld⟩:=it i H2 (S2.g.gg.trans S2.g.gh)
 by_cases hlt:i<ds.length
 ·refine .inr ⟨go hlt,λσ' H'=>i+1<=ds.length/\∃G ε,Sta X.K He G1 G H' σ' ε/\cK g gb (ds.drop (i+1)) ε=some r,λσ' H' ⟨q1,q2⟩=>⟨ds.length-(i+1),by lia,rfl,q1,q2⟩,λx H3 y=>?_⟩
  have ed:ds[i]?=some ds[i]:=by simp[hlt]
  obtain⟨G3,gr3,dx⟩:=yld x H3 y _ ed G2 S2.g.gg S2.g.gh;have S3:=S2.grow gr3;rw[Q6 hlt] at e2;obtain⟨ε3,e3,e2⟩:=af e2;obtain⟨r4,e4,e2⟩:=af e2;refine g2 He G3 H3 σ2 ε2 ε3 x ds[i] _ S3.g.gh S3.e dx e3 λσ4 E4=>?_;refine b2 He G1 G3 H3 σ4 ε3 r4 _ ⟨S3.g,E4⟩ e4 ?_;cases r4 with
  |nx ε5=>exact λσ5 G5 H5 S5=>⟨hlt,G5,ε5,S5,e2⟩
  |ct ε5=>exact λσ5 G5 H5 S5=>⟨hlt,G5,ε5,S5,e2⟩
  |bk ε5=>cases e2;exact λσ5 G5 H5 S5=>P σ5 G5 H5 ⟨S1.g.base S5.g,S5.e⟩
  |rt d=>cases e2;exact λv G5 H5 g5 d5=>P v G5 H5 (S1.g.base g5) d5
  |ro ds=>cases e2;exact λa xs G5 H5 g5 n1 n2 h5 d5=>P a xs G5 H5 (S1.g.base g5) n1 n2 h5 d5
 ·have e5:i=ds.length:=by lia
  subst e5;rw[JN] at e2;cases e2;exact .inl ⟨stop (wp _),P σ2 G2 H2 ⟨S1.g.base S2.g,S2.e⟩⟩
end
theorem gX{K:v0}{H:Hp}{vs:List V}{ds:List D}{N:List Str}{i:Nat}{s:Sl}(e:(cx N ds)[i]?=some s):(∃d,s=.dat d/\ds[i]?=some d)\/s=.un:=by
 unfold cx at e
 by_cases h:i<ds.length
 ·rw[QX (by simpa using h),Qm] at e
  obtain⟨d,e1,rfl⟩:=aP e;exact .inl ⟨d,rfl,e1⟩
 ·rw[QE (by simpa using h),JC] at e
  split at e
  ·cases e;exact .inr rfl
  ·cases e
theorem fN{K:v0}{G H:Hp}{vs:List V}{ds:List D}{N:List Str}(gh:aF G H)(h:DenL K G vs ds):Sta K H G G H (L2.fB N vs) (cx N ds):=by
 refine⟨.refl gh,?_,λ{i d} e=>?_,λ{i d} e=>?_,λ{i j ds' es a} e _ _ _=>?_,λ{i d} e=>?_,λ{i j ds' es a} e _ _ _=>?_⟩
 ·unfold L2.fB cx
  simp[h.length]
 ·rcases gX (K:=K) (H:=H) (vs:=vs) e with⟨d',e1,e2⟩ | e1
  ·cases e1
   obtain⟨v,h1,h2⟩:=h.get e2;refine⟨v,?_,h2⟩;unfold L2.fB;have hl:i<vs.length:=(Qi.mp h1).1;rw[QX (by simpa using hl),Qm,h1];rfl
  ·cases e1
 ·rcases gX (K:=K) (H:=H) (vs:=vs) e with⟨d',e1,e2⟩ | e1<;>cases e1
 ·rcases gX (K:=K) (H:=H) (vs:=vs) e with⟨d',e1,e2⟩ | e1<;>cases e1
 ·rcases gX (K:=K) (H:=H) (vs:=vs) e with⟨d',e1,e2⟩ | e1<;>cases e1
 ·rcases gX (K:=K) (H:=H) (vs:=vs) e with⟨d',e1,e2⟩ | e1<;>cases e1
section
variable{P:Qs}{w:QC}{K:v0}{mg:Str->Option vv}{base:Heap}
theorem zM{x qual:Str}{st:Stmt}{f:Addr}{fd:Q5}{N ps:List Str}{k:Nat}{F:List D->Option D}(g:Ev->Option Fl)(Fu:Fun K x qual st f fd)(S:FnScope N ps (aI st))(hlen:∀ds d,F ds=some d->ds.length=ps.length)
  (hg:∀ds d,F ds=some d->g (cx N ds)=some (.rt d)\/(∃ε,g (cx N ds)=some (.nx ε)/\d=.non)\/∃rs,g (cx N ds)=some (.ro rs)/\d=.lst rs)
  (hb:∀(cdv:vv) (A:Qy) (outer:List Env) (s:v6) (H:Hp) (E:XK),Room k (A.deeper (envOfC qual (aI st) s.heap.objs.size f cdv))->DSs (iM CX0 P w K mg base N qual (aI st) f cdv A outer s H E).nox (bw st) g):FnOk P w K mg base CX0 (k+1) f fd ps (spF K F):=by
 refine Fu.ok S (λvs H Q E h=>?_) (λcdv A outer s H vs Q E hr h=>?_)
 ·obtain⟨G,ds,d,gh,hd,e,q⟩:=h
  rw[hd.length];exact hlen ds d e
 ·obtain⟨G,ds,d,gh,hd,e,q⟩:=h
  obtain⟨t,h1,h2⟩:=hb cdv A outer s H E hr;refine⟨t,h1,?_⟩;rcases hg ds d e with e1 | ⟨ε,e1,rfl⟩ | ⟨rs,e1,rfl⟩
  ·exact h2 H G G H _ _ _ _ (fN gh hd) e1 λv G' H' g hd=>q v G' H' g hd
  ·exact h2 H G G H _ _ _ _ (fN gh hd) e1 λσ G' H' S'=>q _ G' H' S'.g .non
  ·exact h2 H G G H _ _ _ _ (fN gh hd) e1 λa xs G' H' g n1 n2 h3 d3=>q _ _ H' (g.seal n1 n2 h3) (uZ n2 d3)
theorem wj{x qual:Str}{st:Stmt}{f:Addr}{fd:Q5}{N ps:List Str}{k:Nat}{F:List D->Option (List D)}(g:Ev->Option Fl)(Fu:Fun K x qual st f fd)(S:FnScope N ps (aI st))(hlen:∀ds d,F ds=some d->ds.length=ps.length)
  (hg:∀ds d,F ds=some d->g (cx N ds)=some (.ro d))
  (hb:∀(cdv:vv) (A:Qy) (outer:List Env) (s:v6) (H:Hp) (E:XK),Room k (A.deeper (envOfC qual (aI st) s.heap.objs.size f cdv))->DSs (iM CX0 P w K mg base N qual (aI st) f cdv A outer s H E).nox (bw st) g):FnOk P w K mg base CX0 (k+1) f fd ps (spO K F):=by
 refine Fu.ok S (λvs H Q E h=>?_) (λcdv A outer s H vs Q E hr h=>?_)
 ·obtain⟨G,ds,d,gh,hd,e,q⟩:=h
  rw[hd.length];exact hlen ds d e
 ·obtain⟨G,ds,d,gh,hd,e,q⟩:=h
  obtain⟨t,h1,h2⟩:=hb cdv A outer s H E hr;exact⟨t,h1,h2 H G G H _ _ _ _ (fN gh hd) (hg ds d e) λa xs G' H' g n1 n2 h3 d3=>q a xs G' H' g n1 n2 h3 d3⟩
end
def fnD(N ps:List Str)(g:Ev->Option Fl):List D->Option D:=λds=>if ds.length=ps.length then(match g (cx N ds) with | some (.rt d)=>some d | some (.nx _)=>some .non | some (.ro rs)=>some (.lst rs) | _=>none) else none
section
variable{P:Qs}{w:QC}{K:v0}{mg:Str->Option vv}{base:Heap}
theorem lJ{x qual:Str}{st:Stmt}{f:Addr}{fd:Q5}{N ps:List Str}{k:Nat}{g:Ev->Option Fl}(Fu:Fun K x qual st f fd)(S:FnScope N ps (aI st))
  (hb:∀(cdv:vv) (A:Qy) (outer:List Env) (s:v6) (H:Hp) (E:XK),Room k (A.deeper (envOfC qual (aI st) s.heap.objs.size f cdv))->DSs (iM CX0 P w K mg base N qual (aI st) f cdv A outer s H E).nox (bw st) g):FnOk P w K mg base CX0 (k+1) f fd ps (spF K (fnD N ps g)):=by
 refine zM g Fu S (λds d e=>?_) (λds d e=>?_) hb
 ·unfold fnD at e
  split at e
  ·assumption
  ·cases e
 ·unfold fnD at e
  split at e
  ·split at e
   ·rename_i d' e1;cases e;exact .inl e1
   ·rename_i ε e1;cases e;exact .inr (.inl ⟨ε,e1,rfl⟩)
   ·rename_i rs e1;cases e;exact .inr (.inr ⟨rs,e1,rfl⟩)
   ·cases e
  ·cases e
def fnO(N ps:List Str)(g:Ev->Option Fl):List D->Option (List D):=λds=>if ds.length=ps.length then(match g (cx N ds) with | some (.ro rs)=>some rs | _=>none) else none
theorem sP{x qual:Str}{st:Stmt}{f:Addr}{fd:Q5}{N ps:List Str}{k:Nat}{g:Ev->Option Fl}(Fu:Fun K x qual st f fd)(S:FnScope N ps (aI st))
  (hb:∀(cdv:vv) (A:Qy) (outer:List Env) (s:v6) (H:Hp) (E:XK),Room k (A.deeper (envOfC qual (aI st) s.heap.objs.size f cdv))->DSs (iM CX0 P w K mg base N qual (aI st) f cdv A outer s H E).nox (bw st) g):FnOk P w K mg base CX0 (k+1) f fd ps (spO K (fnO N ps g)):=by
 refine wj g Fu S (λds d e=>?_) (λds d e=>?_) hb
 ·unfold fnO at e
  split at e
  ·assumption
  ·cases e
 ·unfold fnO at e
  split at e
  ·split at e
   ·rename_i d' e1;cases e;exact e1
   ·cases e
  ·cases e
theorem xJ{f:Addr}{fd:Q5}{ps:List Str}{k:Nat}:FnOk P w K mg base CX0 k f fd ps (spF K λ_=>none):=
 ⟨λvs H Q E ⟨_,_,_,_,_,e,_⟩=>(by cases e),λA outer s H args us vs Q E _ _ _ _ ⟨_,_,_,_,_,e,_⟩=>(by cases e)⟩
structure FA(K:v0)(mg:Str->Option vv)(x:Str)(st:Stmt)(ps:List Str)(f:Addr)(fd:Q5):Prop where
 fu:Fun K x x st f fd
 bi:iG K fd ps []
 mgf:mg x=some (.ref f)
theorem As{h:Heap}{x:Str}{st:Stmt}{ps:List Str}{f:Addr}{oc:vv}{od an:Option Addr}{osl:Array (Option vv)}{kV doc pm cdv ct:vv}(X:K.In h)(G:h.Ns Qz mg)
  (a:Q1 K Qz x=some (some (.ref f)))
  (l:K.lookup f=some ⟨oc,od,.func (JI x x (cN st) (bw st) (aI st) .none kV doc pm an cdv ct),osl⟩)
  (c:PySem.W.codeIn K cdv x=true) (k:Zs K (.ref f)=true)
  (hb:∀(kV doc pm:vv) (an:Option Addr) (cdv ct:vv) (us:List vv),us.length=ps.length->bindArgs (JI x x (cN st) (bw st) (aI st) .none kV doc pm an cdv ct) ⟨us,[]⟩=pure (ps.zip us)) :
  FA K mg x st ps f (JI x x (cN st) (bw st) (aI st) .none kV doc pm an cdv ct):=
 ⟨tx l c k,(tx l c k).binds hb,PySem.W.mg_of X G a⟩
end
section
variable{X:Cx}{a b c:Expr}{fa fb fc:Ev->Option D}{pos:Pos}
theorem mD{k j:Nat}{f:Addr}{fd:Q5}{st:Stmt}{ps:List Str}{Fn:List D->Option D}{x:Str}{e:Expr}{es:List Expr}{g:Ev->Option (List D)}{p:Pos}
  (A:FA X.K X.mg x st ps f fd) (F:FnOk X.prog X.w X.K X.mg X.base CX0 j f fd ps (spF X.K Fn)) (hr:Room k X.A) (hj:j<=k)
  (ha:DA X (e::es) g) (hg:Gl X x:=by rfl) (hdb:(x==("__debug__" : Str))=false:=by decide) (he:uk (e::es) X.env=(false,eval e X.env)::uk es X.env:=by rfl) (hpl:(Q7 pos (uk es X.env)).any (·.1)=false:=by rfl) :
  DE X (.Call (.Name x p) (e::es) [] pos) (aJ Fn g):=xD F (hr.mono hj) A.mgf A.fu.kp A.bi ha hg hdb he hpl
theorem uB{k j:Nat}{f:Addr}{fd:Q5}{st:Stmt}{ps:List Str}{Fn:List D->Option (List D)}{x:Str}{e:Expr}{es:List Expr}{g:Ev->Option (List D)}{p:Pos}
  (A:FA X.K X.mg x st ps f fd) (F:FnOk X.prog X.w X.K X.mg X.base CX0 j f fd ps (spO X.K Fn)) (hr:Room k X.A) (hj:j<=k)
  (ha:DA X (e::es) g) (hg:Gl X x:=by rfl) (hdb:(x==("__debug__" : Str))=false:=by decide) (he:uk (e::es) X.env=(false,eval e X.env)::uk es X.env:=by rfl) (hpl:(Q7 pos (uk es X.env)).any (·.1)=false:=by rfl) :
  DF X (.Call (.Name x p) (e::es) [] pos) (fW Fn g):=vN F (hr.mono hj) A.mgf A.fu.kp A.bi ha hg hdb he hpl
def eCh(f f':D->D->Option D)(fa fb fc:Ev->Option D):Ev->Option D:=λε=>(fa ε).bind λx=>(fb ε).bind λy=>(f x y).bind λz=>match z with | .bl k=>if k=true then(fc ε).bind λw=>f' y w else some (.bl false) | _=>none
theorem uV{op op':CmpOp}{f f':D->D->Option D}(ho:OpD X (QD op) f)(ho':OpD X (QD op') f')(ha:DB X a fa)(hb:DB X b fb)(hc:DB X c fc)(hm:lastMarks [op,op'] [b,c]=false:=by with_unfolding_all rfl) :
  DE X (.Compare a [op,op'] [b,c] pos) (eCh f f' fa fb fc):=by
 obtain⟨r,o1,o2⟩:=ho;obtain⟨r',p1,p2⟩:=ho';obtain⟨ta,a1,a2⟩:=ha;obtain⟨tb,b1,b2⟩:=hb;obtain⟨tc,c1,c2⟩:=hc;refine⟨_,uL o1 p1 a1 b1 c1 hm,λHe G H σ ε d Q gh E ef q=>?_⟩;obtain⟨x,e1,ef⟩:=af ef;obtain⟨y,e2,ef⟩:=af ef;obtain⟨z,e3,ef⟩:=af ef;refine a2 He G H σ ε x _ gh E e1 λv G1 H1 g1 d1=>?_;refine b2 He G1 H1 σ ε y _ g1.gh (E.grow g1) e2 λu G2 H2 g2 d2=>?_;split at ef
 ·rename_i k
  refine o2 G2 H2 v u x y (.bl k) _ g2.gh (d1.grow g2) d2 e3 λw G3 H3 g3 d3=>⟨k,d3.blV,?_⟩;cases k with
  |true=>
   rw[if_pos rfl] at ef ⊢;obtain⟨w',e4,ef⟩:=af ef;refine c2 He G3 H3 σ ε w' _ g3.gh (((E.grow g1).grow g2).grow g3) e4 λv4 G4 H4 g4 d4=>?_;exact p2 G4 H4 u v4 y w' d Q g4.gh ((d2.grow g3).grow g4) d4 ef λv5 G5 H5 g5 d5=>q v5 G5 H5 (g1.trans (g2.trans (g3.trans (g4.trans g5)))) d5
  |false=>
   rw[if_neg ww] at ef ⊢;cases ef;exact q _ _ _ (g1.trans (g2.trans g3)) (.bl _)
 ·cases ef
end
theorem lq(K:v0)(G:Hp):∀ns:List Int,DenL K G (ns.map V.int) (ns.map D.int)
 |[]=>.nil
 |n::r=>.cons (.int n) (lq K G r)
def cxC(X:Cx)(sc:Scope)(cl:List (Str×Addr))(N':List Str)(C:Addr)(s₃:v6)(H₃:Hp)(fp:List Addr)(pins:List (Addr×Obj)):Cx where
 prog:=X.prog
 w:=X.w
 K:=X.K
 mg:=X.mg
 base:=X.base
 A:=X.A
 N:=N'
 s₀:=s₃
 H₀:=H₃
 env:=compEnvC sc cl C X.env
 outer:=X.stack
 stack:=X.stack
 ex:=fp
 fn:=λ_=>false
 calm:=true
 pn:=X.pn++pins
 xe:=λ_ _=>False
structure CompSc(X:Cx)(sc:Scope)(cl:List (Str×Addr))(tn fr:List Str)(ix:List Nat):Prop where
 kind:sc.kind=.function
 nocell:∀y∈sc.names,y.2≠.cell
 names:∀y∈sc.names,y.2=.local->sc.names.lookup y.1=some .local
 clos:closureFor sc X.env=pure cl
 len:ix.length=fr.length
 at_:∀(k:Nat) (x:Str),fr[k]?=some x->∃j,ix[k]?=some j/\X.N[j]?=some x/\X.env.scope.names.lookup x=some .cell
 sub:∀x c,cl.lookup x=some c->X.env.cells.lookup x=some c
 has:∀x,((relabel sc X.env).names.lookup x=some .cell\/(relabel sc X.env).names.lookup x=some .free)->∃c,cl.lookup x=some c
 frc:∀x∈fr,(relabel sc X.env).names.lookup x=some .cell
def prS(n:Nat)(ix:List Nat)(σ:L2.St):L2.St:=List.replicate n none++ix.map λi=>σ.getD i none
def Bz:Sl->Sl
 |.dat d=>.dat d
 |_=>.un
def prE(n:Nat)(ix:List Nat)(ε:Ev):Ev:=List.replicate n Sl.un++ix.map λi=>Bz (ε.getD i .un)
theorem mP{X:Cx}{sc:Scope}{cl:List (Str×Addr)}{tn fr:List Str}{ix:List Nat}{pins:List (Addr×Obj)}{σ:L2.St}{H₃:Hp}{s₃:v6}{fp:List Addr}{h₁:Heap}{tk:Nat}{m:Str->Option vv}
  (S:CompSc X sc cl tn fr ix) (hc:X.calm=true) (I:Inv X pins σ H₃ s₃) (hf:∀b∈fp,fQ X pins H₃ b) (hlt:∀b∈fp,b<s₃.heap.objs.size) (hn:h₁.Ns s₃.heap.objs.size m) (hk:∀b o,s₃.heap.get? b=some o->h₁.get? b=some o) :
  Inv (cxC X sc cl (tn++fr) s₃.heap.objs.size s₃ H₃ fp pins) [] (prS tn.length ix σ) H₃ { s₃ with heap:=h₁,toks:=tk }:=by
 have ncell:∀{x:Str} {c:Addr},X.env.cells.lookup x=some c->c<s₃.heap.objs.size:=λ{x c} e=>let⟨v,q⟩:=I.cell x c e;q.lt
 have hfs:∀b,b∈frs X.stack->b<s₃.heap.objs.size:=λb hb=>by
  rcases ut.mp (I.stkSub b hb) with z | z
  ·rw[z];exact I.lt
  ·exact Nat.lt_of_not_le λq=>I.nofs q z
 refine⟨⟨I.ok.mod,?_,I.ok.glob,I.ok.blt,wp _,?_,?_,?_,?_,I.ok.frames,.inl rfl,?_,?_,?_,?_,?_,?_,?_⟩,rfl,I.bare,Un.kept hk,⟨m,hn,?_⟩,?_,?_,?_,?_,I.hok.kept hk,?_⟩
 ·exact S.kind
 ·intro x y c h1 h2;exact I.ok.inj x y c (S.sub x c h1) (S.sub y c h2)
 ·intro x hx;exact S.has x hx
 ·intro x c h;cases h
 ·intro _;exact I.ok.hd hc
 ·intro b hb
  exact⟨Qu (hlt b hb),λx c e=>(hf b hb).2.2.2.2.1 x c (S.sub x c e)⟩
 ·exact I.bs
 ·exact QO I.ok.bsz I.sz
 ·intro b o e hb
  rcases(hf b hb).2.2.2.1 with z | z
  ·exact I.ok.noex b o e z
  ·exact absurd (Qw (Qb e) (QO I.ok.bsz z)) (Jl _)
 ·intro b hb z
  rcases ut.mp (I.stkSub b z) with q | q
  ·exact(hf b hb).2.1 q
  ·exact(hf b hb).2.2.1 q
 ·exact I.stack
 ·exact I.stkFree
 ·intro i x v h1 h2 hv
  have hi:tn.length<=i:=by
   refine JM λq=>?_;unfold prS at h2;rw[QX (by simpa using q),JC] at h2;split at h2<;>cases h2
  have h1':fr[i-tn.length]?=some x:=by
   have:(tn++fr)[i]?=some x:=h1;rwa [QE hi] at this
  obtain⟨j,e1,e2,e3⟩:=S.at_ _ x h1'
  have h2':σ[j]?=some (some v):=by
   unfold prS at h2;rw[QE (by simpa using hi),Jw,Qm,e1] at h2;have h3:σ.getD j none=some v:=Option.some.inj h2;rw[JL] at h3;cases q:σ[j]? with
   |none=>rw[q] at h3;cases h3
   |some o=>rw[q] at h3;exact congrArg some h3
  obtain⟨mm,hm,hl⟩:=I.loc;obtain⟨u,r,l⟩:=hl j x v e2 h2' (.inr (.inl e3));refine⟨u,r,.inr ⟨.inl (S.frc x (Jj h1')),?_⟩⟩;rcases l with⟨k1,_⟩ | ⟨_,c,k2,k3⟩
  ·have:X.env.kindOf x=some .cell:=e3
   rw[this] at k1;cases k1
  ·obtain⟨c',k4⟩:=S.has x (.inl (S.frc x (Jj h1')))
   have:=S.sub x c' k4;rw[k2] at this;cases this;exact⟨c,k4,k3.keeps hk⟩
 ·intro x c e
  obtain⟨v,q⟩:=I.cell x c (S.sub x c e);exact⟨v,q.keeps hk⟩
 ·exact I.hok.fresh (wp _)
 ·intro x c e;exact I.freeC x c (S.sub x c e)
 ·intro p hp
  have hp':p∈X.pn++pins:=(Qn.mp hp).elim (λin1=>in1) λin2=>by cases in2
  obtain⟨q1,q2,q3,q4,q5⟩:=I.pin p hp';refine⟨hk _ _ q1,q2,Qu (Qb q1),λz=>?_,q5⟩;rcases ut.mp (I.stkSub _ z) with w | w
  ·exact q3 w
  ·exact q4 w
 ·unfold prS
  show _=(tn++fr).length;rw[Qr,Qr,Jw,Qg,S.len]
theorem nr{K:v0}{He G H:Hp}{σ:L2.St}{ε:Ev}(n:Nat)(ix:List Nat)(E:EnvD K He G H σ ε):EnvD K He G H (prS n ix σ) (prE n ix ε):=by
 have look:∀{i:Nat} {s:Sl},(prE n ix ε)[i]?=some s->s=.un\/∃j d,n<=i/\ix[i-n]?=some j/\ε[j]?=some (.dat d)/\s=.dat d:=λ{i s} e=>by
  unfold prE at e
  by_cases h:i<n
  ·rw[QX (by simpa using h),JC,if_pos h] at e
   cases e;exact .inl rfl
  ·rw[QE (by simpa using h),Jw,Qm] at e
   obtain⟨j,e1,rfl⟩:=aP e;rw[show ε.getD j .un=(ε[j]?).getD .un from JL];cases q:ε[j]? with
   |none=>exact .inl rfl
   |some sl=>
    cases sl with
    |un=>exact .inl rfl
    |own ds=>exact .inl rfl
    |odi ds=>exact .inl rfl
    |dat d=>exact .inr ⟨j,d,by lia,e1,q,rfl⟩
 refine⟨by simp[prS,prE],λ{i d} e=>?_,λ{i ds} e=>?_,λ{i j ds es a} e _ _ _=>?_,λ{i ds} e=>?_,λ{i j ds es a} e _ _ _=>?_⟩
 ·rcases look e with z | ⟨j,d',h1,h2,h3,h4⟩
  ·cases z
  ·cases h4
   obtain⟨v,w1,w2⟩:=E.dat h3;refine⟨v,?_,w2⟩;unfold prS;rw[QE (by simpa using h1),Jw,Qm,h2];show some (σ.getD j none)=_;rw[JL,w1];rfl
 ·rcases look e with z | ⟨j,d',h1,h2,h3,h4⟩
  ·cases z
  ·cases h4
 ·rcases look e with z | ⟨j,d',h1,h2,h3,h4⟩
  ·cases z
  ·cases h4
 ·rcases look e with z | ⟨j,d',h1,h2,h3,h4⟩
  ·cases z
  ·cases h4
 ·rcases look e with z | ⟨j,d',h1,h2,h3,h4⟩
  ·cases z
  ·cases h4
def NoO(ε:Ev):Prop:=∀(j:Nat) es,ε[j]?≠some (.own es)
def NoG(g:D->Ev->Option Ev):Prop:=∀d ε ε',g d ε=some ε'->NoO ε->NoO ε'
def wJ(g:List D->Ev->Option Ev):Prop:=∀d ε ε',g d ε=some ε'->NoO ε->NoO ε'
theorem cA(i:Nat):NoG (ah i):=λd ε ε' e h j es q=>by
 cases e;rw[Qc] at q;split at q
 ·split at q<;>cases q
 ·exact h j es q
theorem je:wJ aL:=λd ε ε' e h=>by
 unfold aL at e;split at e
 ·cases e;exact h
 ·cases e
theorem cm{g1:D->Ev->Option Ev}{g2:List D->Ev->Option Ev}(h1:NoG g1)(h2:wJ g2):wJ (ai g1 g2):=λd ε ε' e h=>by
 unfold ai at e;split at e
 ·obtain⟨ε1,e1,e⟩:=af e
  exact h2 _ _ _ e (h1 _ _ _ e1 h)
 ·cases e
theorem lu{n:Nat}{g:List D->Ev->Option Ev}(h:wJ g):NoG (bx n g):=λd ε ε' e hn=>by
 unfold bx at e;split at e
 ·split at e
  ·exact h _ _ _ e hn
  ·cases e
 ·cases e
theorem sM(n:Nat)(ix:List Nat)(ε:Ev):NoO (prE n ix ε):=λi es e=>by
 unfold prE at e
 by_cases h:i<n
 ·rw[QX (by simpa using h),JC,if_pos h] at e
  cases e
 ·rw[QE (by simpa using h),Jw,Qm] at e
  obtain⟨j,e1,e2⟩:=aP e
  revert e2
  cases ε.getD j .un<;>intro z<;>cases z
def DIf(X:Cx)(ifs:List Expr)(f:Ev->Option Bool):Prop:=∃t:TT,(∀(pins:List (Addr×Obj)) (s:v6) (σ:L2.St) (H:Hp) (Q:Bool->Hp->Prop),Inv X pins σ H s->t σ H Q->
  wE (Qa X.prog X.w) X.A (forIn ifs true λc r=>if r=true then do let ok<-isTrue c X.env (eval c X.env);pure (ZD ok) else pure (ZD r)) (TP X pins σ Q) X.xe s)/\
 ∀(He G H:Hp) (σ:L2.St) (ε:Ev) (b:Bool) (Q:Bool->Hp->Prop),aF G H->EnvD X.K He G H σ ε->f ε=some b->(∀G' H',Grow G H G' H'->Q b H')->t σ H Q
def iU:Ev->Option Bool:=λ_=>some true
theorem lr{X:Cx}:DIf X [] iU:=⟨λσ H Q=>Q true H,λpins s σ H Q I h=>wpAny_tests_nil ⟨H,I,h⟩,λHe G H σ ε b Q gh E e q=>by cases e;exact q G H (.refl gh)⟩
theorem qg{X:Cx}{c:Expr}{f:Ev->Option Bool}(h:DT X c f):DIf X [c] f:=by
 obtain⟨t,h1,h2⟩:=h;exact⟨t,λpins s σ H Q I hq=>wpAny_tests_one (h1 pins s σ H Q I hq),h2⟩
def lcD(g:D->Ev->Option Ev)(ft:Ev->Option Bool)(fe:Ev->Option D):List D->Ev->Option (List D)
 |[],_=>some []
 |d::ds,ε=>(g d ε).bind λε1=>(ft ε1).bind λk=>if k=true then(fe ε1).bind λv=>(lcD g ft fe ds ε1).bind λr=>some (v::r) else lcD g ft fe ds ε1
theorem fF{prog:Qs}{w:QC}{A:Qy}{R:Result->v6->Prop}{t0:v6}{elt tg iter:Expr}{ifs:List Expr}{sc:Scope}{pos:Pos}{it acc:vv}{ce:Env}(J:Nat->v6->Prop)
  (step:∀k t,J k t->wE (Qa prog w) A (pyNext it) (λo t1=>match o with | none=>R (.ok .next) t1 | some v=>wE (Qa prog w) A (Z5 tg it v) (λ_ t2=>wE (Qa prog w) A (Zu tg ce v) (λ_ t3=>
   wE (Qa prog w) A (forIn ifs true λc r=>if r=true then do let ok<-isTrue c ce (eval c ce);pure (ZD ok) else pure (ZD r)) (λyes t4=>if yes=true then wE (Qa prog w) A (eval elt ce) (λx t5=>
    wE (Qa prog w) A (call (.builtin "list.append") [acc,x]) (λ_ t6=>∃j,j<k/\J j t6) (λ_ _=>False) t5) (λ_ _=>False) t4 else ∃j,j<k/\J j t4) (λ_ _=>False) t3) (λ_ _=>False) t2) (λ_ _=>False) t1) (λ_ _=>False) t)
  (k0:Nat) (h0:J k0 t0):Zf (Qa prog w) A (.compLoop (.ListComp elt [⟨tg,iter,ifs,0⟩] sc pos) 0 it acc ce) R t0:=by
 refine codeAny_loop rfl J (λk t hJ=>?_) k0 h0;show wE _ A ((compTurn (.ListComp elt [⟨tg,iter,ifs,0⟩] sc pos) 0 it acc ce).onRaise (λx=>do noteFrame x ce;theTreesLotGoes x)) _ _ t;refine wpAny_noted ?_;rw[compTurn_list];refine zn (JX (zn (QP (step k t hJ) (λo t1 q1=>?_) λ_ _ z=>z.elim)));cases o with
 |none=>exact wn q1
 |some v=>
  refine zn (QP q1 (λ_ t2 q2=>zn (QP q2 (λ_ t3 q3=>zn (QP q3 (λyes t4 q4=>?_) λ_ _ z=>z.elim)) λ_ _ z=>z.elim)) λ_ _ z=>z.elim);cases yes with
  |true=>exact zn (zn (QP q4 (λx t5 q5=>zn (QP q5 (λ_ t6 q6=>wn (wn ⟨rfl,q6⟩)) λ_ _ z=>z.elim)) λ_ _ z=>z.elim))
  |false=>exact wn ⟨rfl,q4⟩
section
variable{X:Cx}{elt tg iter:Expr}{ifs:List Expr}{sc:Scope}{cl:List (Str×Addr)}{tn fr:List Str}{ix:List Nat}{pos:Pos}{fi:Ev->Option (List D)}{g:D->Ev->Option Ev}{ft:Ev->Option Bool}{fe:Ev->Option D}
def tK(X:Cx)(pins:List (Addr×Obj))(σ:L2.St)(G H:Hp)(ds:List D)(RR:vv->Addr->Result->v6->Prop):Prop:=
 ∀(a:Addr) (xs:List V) (G' H':Hp) (C:Addr) (oC:Obj) (m:Str->Option vv) (s':v6),Inv X (pins++[(C,oC)]) σ H' s'->s'.heap.Ns C m->X.s₀.heap.objs.size<=C->(∀p∈X.pn++pins,p.1≠C)->
  Grow G H G' H'->H a=none->G' a=none->H' a=some (.lst xs)->DenL X.K G' xs ds->RR (.ref a) C (.ok .next) s'
theorem tj{pins:List (Addr×Obj)}{σ:L2.St}{H He G G1 H3:Hp}{s3:v6}{ε:Ev}{ds rs:List D}{RR:vv->Addr->Result->v6->Prop}{it Dd:Addr}{fp:List Addr}{tn':Nat->Heap->Prop}{J:It}{h₁:Heap}{m:Str->Option vv}{tk:Nat}
  (hc:X.calm=true) (S:CompSc X sc cl tn fr ix) (ng:NoG g)
  (hg:∀C s₃ H₃ fp pins,DG (cxC X sc cl (tn++fr) C s₃ H₃ fp pins) tg g) (ht:∀C s₃ H₃ fp pins,DIf (cxC X sc cl (tn++fr) C s₃ H₃ fp pins) ifs ft) (he:∀C s₃ H₃ fp pins,DE (cxC X sc cl (tn++fr) C s₃ H₃ fp pins) elt fe)
  (I3:Inv X pins σ H3 s3) (E:EnvD X.K He G H σ ε) (hz:ds.length<1000000) (er:lcD g ft fe ds (prE tn.length ix ε)=some rs) (after:tK X pins σ G H rs RR)
  (T:Turn X.prog X.w X.K tg J fp it tn') (itd:ItD X.K J ds G1) (f3:∀b∈fp,fQ X pins H3 b) (lt3:∀b∈fp,b<s3.heap.objs.size) (st3:tn' 0 s3.heap) (gr3:Grow G H G1 H3)
  (eD:H3 Dd=some (.lst [])) (nD:H Dd=none) (gD:G1 Dd=none) (hn:h₁.Ns s3.heap.objs.size m) (hk:∀b o,s3.heap.get? b=some o->h₁.get? b=some o) :
  Zf (Qa X.prog X.w) X.A (.compStart (.ListComp elt [⟨tg,iter,ifs,0⟩] sc pos) 0 (.ref it) (.ref Dd) (compEnvC sc cl s3.heap.objs.size X.env)) (RR (.ref Dd) s3.heap.objs.size) { s3 with heap:=h₁,toks:=tk }:=by
 have I4:=mP (tk:=tk) S hc I3 f3 lt3 hn hk;have st4:tn' 0 h₁:=T.keep _ _ _ st3 λb hb o e=>hk b o e;obtain⟨tgt,g1,g2⟩:=hg s3.heap.objs.size s3 H3 fp pins;obtain⟨tt,t1,t2⟩:=ht s3.heap.objs.size s3 H3 fp pins;obtain⟨te,e1,e2⟩:=he s3.heap.objs.size s3 H3 fp pins
 have stat:∀{H':Hp},(∀b∈fp,H' b=none)->∀b∈fp,fQ (cxC X sc cl (tn++fr) s3.heap.objs.size s3 H3 fp pins) [] H' b:=λ{H'} hn b hb=>by
  obtain⟨_,q1,q2,q3,q4,q5⟩:=f3 b hb;refine⟨hn b hb,Qu (lt3 b hb),λz=>?_,.inl hb,λx c e=>q4 x c (S.sub x c e),λp hp=>q5 p ?_⟩
  ·rcases ut.mp (I3.stkSub b z) with w | w
   ·exact q1 w
   ·exact q2 w
  ·rcases Qn.mp hp with w | w
   ·exact w
   ·cases w
 have loop:∀s':v6,s'={ s3 with heap:=h₁,toks:=tk }->Zf (Qa X.prog X.w) X.A (.compLoop (.ListComp elt [⟨tg,iter,ifs,0⟩] sc pos) 0 (.ref it) (.ref Dd) (compEnvC sc cl s3.heap.objs.size X.env)) (RR (.ref Dd) s3.heap.objs.size) s':=by
  rintro s' rfl
  refine fF (λn s'=>∃(i:Nat) (σ':L2.St) (G' H':Hp) (ε':Ev) (xs:List V) (dn rest:List D),n=ds.length+1-i/\i<=ds.length/\Inv (cxC X sc cl (tn++fr) s3.heap.objs.size s3 H3 fp pins) [] σ' H' s'/\tn' i s'.heap/\(∀b∈fp,H' b=none)/\
   Grow G H G' H'/\aF G1 G'/\EnvD X.K He G' H' σ' ε'/\NoO ε'/\H' Dd=some (.lst xs)/\G' Dd=none/\DenL X.K G' xs dn/\xs.length<=i/\lcD g ft fe (ds.drop i) ε'=some rest/\rs=dn++rest) ?_ (ds.length+1)
   ⟨0,_,G1,H3,_,[],[],rs,rfl,QA _,I4,st4,λb hb=>(f3 b hb).1,gr3,aF.refl _,nr tn.length ix (E.grow gr3),sM _ _ _,eD,gD,.nil,wp _,by simpa using er,rfl⟩
  rintro n s5 ⟨i,σ',G',H',ε',xs,dn,rest,rfl,hi,I5,st5,fr5,gr5,sG,E5,no5,hD,hGD,hden,hxl,el,ers⟩;obtain⟨go,stop,yld⟩:=itd i H' (sG.trans gr5.gh)
  by_cases hlt:i<ds.length
  ·refine thn (T.item (cxC X sc cl (tn++fr) s3.heap.objs.size s3 H3 fp pins) rfl rfl rfl rfl i [] s5 σ' H' (λ_ _=>False) I5 (stat fr5) st5 (go hlt)) λr s6 ⟨u,hr,h6⟩=>?_
   subst hr;refine thn h6 λ_ s7 ⟨x,H7,I7,r7,y7,st7,fr7⟩=>?_;have I7':=I7.pinned (stat fr7) (T.obj _ _ st7);have ed:ds[i]?=some ds[i]:=by simp[hlt]
   obtain⟨G7,gr7,dx⟩:=yld x H7 y7 _ ed G' sG gr5.gh;rw[Q6 hlt] at el;obtain⟨ε8,e8,el⟩:=af el;obtain⟨k,e9,el⟩:=af el;refine thn (g1 _ s7 σ' H7 x u (λσ8 H8=>H8=H7/\EnvD X.K He G7 H7 σ8 ε8) I7' r7 (g2 He G7 H7 σ' ε' ε8 x ds[i] _ gr7.gh (E5.grow gr7) dx e8 λσ8 E8=>⟨rfl,E8⟩)) λ_ s8 ⟨σ8,H8,I8,e10,E8⟩=>?_;subst e10;refine thn (t1 _ s8 σ8 H8 (λb H9=>b=k/\∃G9,Grow G7 H8 G9 H9) I8 (t2 He G7 H8 σ8 ε8 k _ gr7.gh E8 e9 λG9 H9 gr9=>⟨rfl,G9,gr9⟩)) λok s9 ⟨H9,I9,ek,G9,gr9⟩=>?_;subst ek
   have again:∀{s10:v6} {G10 H10:Hp} {ys:List V} {dn' rest':List D},Inv (cxC X sc cl (tn++fr) s3.heap.objs.size s3 H3 fp pins) ([]++ig fp s7.heap) σ8 H10 s10->Grow G H G10 H10->aF G1 G10->EnvD X.K He G10 H10 σ8 ε8->H10 Dd=some (.lst ys)->G10 Dd=none->DenL X.K G10 ys dn'->ys.length<=i+1->
     lcD g ft fe (ds.drop (i+1)) ε8=some rest'->rs=dn'++rest'->∃m,m<ds.length+1-i/\∃(i:Nat) (σ':L2.St) (G' H':Hp) (ε':Ev) (xs:List V) (dn rest:List D),m=ds.length+1-i/\i<=ds.length/\Inv (cxC X sc cl (tn++fr) s3.heap.objs.size s3 H3 fp pins) [] σ' H' s10/\tn' i s10.heap/\(∀b∈fp,H' b=none)/\
   Grow G H G' H'/\aF G1 G'/\EnvD X.K He G' H' σ' ε'/\NoO ε'/\H' Dd=some (.lst xs)/\G' Dd=none/\DenL X.K G' xs dn/\xs.length<=i/\lcD g ft fe (ds.drop i) ε'=some rest/\rs=dn++rest:=λ{s10 G10 H10 ys dn' rest'} I10 gr10 sG10 E10 hD10 hG10 den10 len10 el10 ers10=>by
    refine⟨ds.length+1-(i+1),by lia,i+1,σ8,G10,H10,ε8,ys,dn',rest',rfl,hlt,I10.unpinned,T.keep _ _ _ st7 λb hb o e=>(I10.pin (b,o) (Ql _ (Ql _ (cu hb e)))).1,λb hb=>?_,gr10,sG10,E10,ng _ _ _ e8 no5,hD10,hG10,den10,len10,el10,ers10⟩;obtain⟨o,e,d⟩:=T.obj _ _ st7 b hb;exact(I10.pin (b,o) (Ql _ (Ql _ (cu hb e)))).2.1
   have gr9':=gr5.trans (gr7.trans gr9);have sG9:aF G1 G9:=sG.trans (gr7.gg.trans gr9.gg);have hD9:H9 Dd=some (.lst xs):=gr9.hh _ _ (gr7.hh _ _ hD);have hG9:G9 Dd=none:=gr9.fo _ _ (gr7.hh _ _ hD) (gr7.fo _ _ hD hGD);cases ok with
   |false=>
    rw[if_neg ww] at el;rw[if_neg ww];exact again I9 gr9' sG9 (E8.grow gr9) hD9 hG9 (hden.mono (gr7.gg.trans gr9.gg)) (by lia) el ers
   |true=>
    rw[if_pos rfl] at el;rw[if_pos rfl];obtain⟨vd,e11,el⟩:=af el;obtain⟨rest',e12,el⟩:=af el;cases el;refine thn (e1 _ s9 σ8 H9 (λy H10=>∃G10,Grow G9 H9 G10 H10/\Den X.K G10 y vd) I9 (e2 He G9 H9 σ8 ε8 vd _ gr9.gh (E8.grow gr9) e11 λy G10 H10 gr10 dy=>⟨G10,gr10,dy⟩)) λuv s10 ⟨y,H10,I10,r10,G10,gr10,dy⟩=>?_;have hD10:=gr10.hh _ _ hD9;have hG10:=gr10.fo _ _ hD9 hG9;have hl:xs.length<Qt:=Zd hxl (Jc (Jc hlt hz) (by decide));refine thn (hV _ s10 σ8 H10 (.ref Dd) [y] (.ref Dd) [uv] (λ_ H11=>H11=upd H10 Dd (.lst (xs++[y]))) I10 rfl (.cons r10 .nil) ⟨Dd,xs,y,rfl,rfl,hD10,hl,rfl⟩) λ_ s11 ⟨_,H11,I11,_,e13⟩=>?_;subst e13;have gr10':=gr9'.trans gr10;have keep:∀{b:Addr} {o:HO},b≠Dd->H10 b=some o->upd H10 Dd (.lst (xs++[y])) b=some o:=λ{b o} nb e=>by rw[aD nb];exact e
    refine again I11 ⟨λb o e=>keep (ax e nD) (gr10'.hh b o e),gr10'.gg,λb o e=>keep (ax e hG10) (gr10'.gh b o e),gr10'.fo⟩ (sG9.trans gr10.gg) ?_ aE hG10 (((hden.mono (gr7.gg.trans gr9.gg)).mono gr10.gg).append (.one dy)) (by rw[Qr];simp;lia) e12 (by rw[ers];simp);have E10:=(E8.grow gr9).grow gr10
    exact⟨E10.len,E10.dat,λ{j es} e=>by
     obtain⟨b,zs,w1,w2,w3,w4,w5⟩:=E10.own e;exact(ng _ _ _ e8 no5 _ _ e).elim,E10.apart,λ{j es} e=>by
     obtain⟨b,zs,ep,w1,w2,w3,w4,w5,w6⟩:=E10.odi e
     exact⟨b,zs,ep,w1,keep (λq=>by subst q;rw[hD10] at w2;cases w2) w2,w3,w4,w5,w6⟩,E10.apartD⟩
  ·have e5:i=ds.length:=by lia
   subst e5;rw[JN] at el;cases el;refine thn (T.done (cxC X sc cl (tn++fr) s3.heap.objs.size s3 H3 fp pins) rfl rfl rfl rfl ds.length [] s5 σ' H' (λ_ _=>False) I5 (stat fr5) st5 (stop (wp _))) λr s6 ⟨hr,I6⟩=>?_;subst hr;obtain⟨m6,⟨oC,es,ep,ho,hdt,hrest⟩,_⟩:=id I6.loc;have IX:Inv X pins σ H' s6:=I3.call' I6.os I6.base I6.hok I6.bare λb hb=>⟨(f3 b hb).2.2.2.1,(f3 b hb).2.1,(f3 b hb).2.2.2.2.1,(f3 b hb).2.2.2.2.2⟩;have pC:∀p∈X.pn++pins,p.1≠s3.heap.objs.size:=λp hp=>Qu (Qb (I3.pin p hp).1)
   have IX':Inv X (pins++[(s3.heap.objs.size,oC)]) σ H' s6:=IX.pins_of λp hp=>by
    rcases Qn.mp hp with older | newer
    ·exact IX.pin p (Ql _ older)
    ·rw[xz.mp newer]
     exact⟨ho,I6.free,Ne.symm (Qu I3.lt),I3.nofs (wp _),λv q=>by rw[hdt] at q;cases q⟩
   exact after Dd xs G' H' s3.heap.objs.size oC m6 s6 IX' ⟨oC,es,ep,ho,hdt,hrest⟩ I3.sz pC gr5 nD hGD hD (by rw[ers,QW];exact hden)
 exact codeAny_compStart_list (loop _ rfl) (T.self X.A 0 _ _ _ st4 (loop _ rfl))
theorem pd{pins:List (Addr×Obj)}{σ:L2.St}{H He G:Hp}{s:v6}{ε:Ev}{ds rs:List D}{RR:vv->Addr->Result->v6->Prop}(hc:X.calm=true)(hi:DI X tg iter fi)(S:CompSc X sc cl tn fr ix)(ng:NoG g)
  (hg:∀C s₃ H₃ fp pins,DG (cxC X sc cl (tn++fr) C s₃ H₃ fp pins) tg g) (ht:∀C s₃ H₃ fp pins,DIf (cxC X sc cl (tn++fr) C s₃ H₃ fp pins) ifs ft) (he:∀C s₃ H₃ fp pins,DE (cxC X sc cl (tn++fr) C s₃ H₃ fp pins) elt fe)
  (I:Inv X pins σ H s) (gh:aF G H) (E:EnvD X.K He G H σ ε) (ei:fi ε=some ds) (hz:ds.length<1000000) (er:lcD g ft fe ds (prE tn.length ix ε)=some rs) (after:tK X pins σ G H rs RR) :
  wE (Qa X.prog X.w) X.A (eval iter X.env) (λx s₁=>wE (Qa X.prog X.w) X.A (pyIter x) (λit s₂=>wE (Qa X.prog X.w) X.A (newList []) (λacc s₃=>
   wE (Qa X.prog X.w) X.A (newFunctionEnv sc X.env.globals cl [] X.env.qual none .none (some X.env)) (λcenv s₄=>
    Zf (Qa X.prog X.w) X.A (.compStart (.ListComp elt [⟨tg,iter,ifs,0⟩] sc pos) 0 it acc { cenv with scope:=relabel sc X.env }) (RR acc cenv.locals) s₄) X.xe s₃) X.xe s₂) X.xe s₁) X.xe s:=by
 obtain⟨wi,i1,i2⟩:=hi;refine thn (i1 pins s σ H (λJ H'=>∃G1,Grow G H G1 H'/\ItD X.K J ds G1) I (i2 He G H σ ε ds _ gh E ei λJ G' H' gr itd=>⟨G',gr,itd⟩)) λv s1 h1=>thn h1 λitv s2 h2=>?_;obtain⟨it,fp,tn',J,H2,rfl,I2,T,st2,f2,G1,gr,itd⟩:=h2;refine QG (wpAny_newFunctionEnv S.nocell (by intro y hy;simp at hy) (λh₁ hns₁ hsb₁=>?_) S.kind);dsimp only at hns₁ hsb₁ ⊢;have fr2:H2 s2.heap.objs.size=none:=I2.hok.fresh (wp _)
 have I3:Inv X pins σ (upd H2 s2.heap.objs.size (.lst [])) { s2 with heap:=s2.heap.push { cls:=.type "list",dict:=none,data:=.seq ([]:List vv).toArray } }:=
  I2.laid (t':=s2.toks) (o:=.lst []) (λb ob q=>wf _ q) (wp _) ⟨QA _,[],0,.nil,Qf _ rfl⟩
 have fpD:∀b∈fp,b≠s2.heap.objs.size:=λb hb z=>by
  obtain⟨o,e,_⟩:=T.obj 0 _ st2 b hb;exact absurd (Qb e) (by rw[z];exact Jl _)
 have f3:∀b∈fp,fQ X pins (upd H2 s2.heap.objs.size (.lst [])) b:=λb hb=>⟨by rw[aD (fpD b hb)];exact(f2 b hb).1,(f2 b hb).2⟩
 have lt3:∀b∈fp,b<(s2.heap.push { cls:=.type "list",dict:=none,data:=.seq ([]:List vv).toArray }).objs.size:=λb hb=>by
  obtain⟨o,e,_⟩:=T.obj 0 _ st2 b hb;rw[J1];exact Nat.lt_succ_of_lt (Qb e)
 have st3:tn' 0 (s2.heap.push { cls:=.type "list",dict:=none,data:=.seq ([]:List vv).toArray }):=T.keep _ _ _ st2 λb hb o e=>wf _ e;have gr3:Grow G H G1 (upd H2 s2.heap.objs.size (.lst [])):=gr.trans (.lay _ gr.gh fr2);have nD:H s2.heap.objs.size=none:=gr.hh.free fr2;have gD:G1 s2.heap.objs.size=none:=gr.gh.free fr2;exact tj (s3:={ s2 with heap:=s2.heap.push { cls:=.type "list",dict:=none,data:=.seq ([]:List vv).toArray } }) hc S ng hg ht he I3 E hz er after T itd f3 lt3 st3 gr3 aE nD gD hns₁ λb o e=>hsb₁.extBut b o (Qu (Qb e)) (wf _ e)
theorem k9{pins:List (Addr×Obj)}{σ:L2.St}{H':Hp}{s':v6}{C:Addr}{oC:Obj}{h':Heap}(IX:Inv X (pins++[(C,oC)]) σ H' s')(hC:X.s₀.heap.objs.size<=C)(pC:∀p∈X.pn++pins,p.1≠C)(hs:Q9 C s'.heap h') :
  Inv X pins σ H' { s' with heap:=h' }:=by
 obtain⟨q1,q2,q3,q4,q5⟩:=IX.pin (C,oC) (Ql _ (Ql _ (xz.mpr rfl)));refine IX.unpinned.turned (t':=s'.toks) (it:=C) (λb o hb e=>hs.extBut b o hb e) q2 q3 (.inr hC) (λx c e z=>?_) pC;obtain⟨v,w⟩:=IX.cell x c e;rw[z] at w;obtain⟨o,w1,w2⟩:=id w;rw[q1] at w1;cases w1;exact q5 _ w2
def eLC(fi:Ev->Option (List D))(n:Nat)(ix:List Nat)(g:D->Ev->Option Ev)(ft:Ev->Option Bool)(fe:Ev->Option D):Ev->Option (List D):=λε=>(fi ε).bind λds=>if ds.length<1000000 then lcD g ft fe ds (prE n ix ε) else none
theorem x_(hc:X.calm=true)(hi:DI X tg iter fi)(S:CompSc X sc cl tn fr ix)(ng:NoG g)
  (hg:∀C s₃ H₃ fp pins,DG (cxC X sc cl (tn++fr) C s₃ H₃ fp pins) tg g) (ht:∀C s₃ H₃ fp pins,DIf (cxC X sc cl (tn++fr) C s₃ H₃ fp pins) ifs ft) (he:∀C s₃ H₃ fp pins,DE (cxC X sc cl (tn++fr) C s₃ H₃ fp pins) elt fe)
  (hs:∀x,JV iter X.env x=pure x:=by intro _;rfl):DF X (.ListComp elt [⟨tg,iter,ifs,0⟩] sc pos) (eLC fi tn.length ix g ft fe):=by
 refine⟨λσ H Q=>∃He G ε rs,aF G H/\EnvD X.K He G H σ ε/\eLC fi tn.length ix g ft fe ε=some rs/\∀a xs G' H',Grow G H G' H'->H a=none->G' a=none->H' a=some (.lst xs)->DenL X.K G' xs rs->Q (.ref a) H',λpins s σ H Q I hq=>?_,
  λHe G H σ ε ds Q gh E ef q=>⟨He,G,ε,ds,gh,E,ef,q⟩⟩
 obtain⟨He,G,ε,rs,gh,E,ef,q⟩:=hq;obtain⟨ds,ei,ef⟩:=af ef;split at ef
 ·rename_i hz
  rw[eval_ListComp];refine wpAny_comprehension_free (use:=none) rfl hs S.clos S.kind S.names (pd (RR:=λacc C=>compPost (Qa X.prog X.w) X.A X.xe none (EP X pins σ Q) acc C) hc hi S ng hg ht he I gh E ei hz ef ?_);intro a xs G' H' C oC m s' IX hNs hC pC gr hn gn ha hd;exact⟨m,hNs,λh' hs'=>⟨.ref a,H',k9 IX hC pC hs',rfl,q a xs G' H' gr hn gn ha hd⟩⟩
 ·cases ef
theorem zq{i:Nat}{y:Str}{py spos:Pos}{W':Ends->L2.St->Hp->Prop}{gg:Ev->Option Fl}(hc:X.calm=true)(hN:X.N.Nodup)(hi:DI X tg iter fi)(S:CompSc X sc cl tn fr ix)(ng:NoG g)
  (hg:∀C s₃ H₃ fp pins,DG (cxC X sc cl (tn++fr) C s₃ H₃ fp pins) tg g) (ht:∀C s₃ H₃ fp pins,DIf (cxC X sc cl (tn++fr) C s₃ H₃ fp pins) ifs ft) (he:∀C s₃ H₃ fp pins,DE (cxC X sc cl (tn++fr) C s₃ H₃ fp pins) elt fe)
  (hiN:X.N[i]?=some y) (hx:Loc X.env.scope y) (hf:X.fn y=true\/X.env.scope.names.lookup y=some .local) (hsw:ZB (.ListComp elt [⟨tg,iter,ifs,0⟩] sc pos) (some (.Name y py)) spos.line X.env=pure true)
  (hs:∀x,JV iter X.env x=pure x)
  (hgg:∀(He Ge G H:Hp) (σ:L2.St) (ε:Ev) (r:Fl) (W:Ends),Sta X.K He Ge G H σ ε->gg ε=some r->yI X.K He Ge r W->∃rs,eLC fi tn.length ix g ft fe ε=some rs/\∀a xs G' H',Grow G H G' H'->H a=none->G' a=none->H' a=some (.lst xs)->DenL X.K G' xs rs->W.nx (σ.set i (some (.ref a))) H') :
  DS X (.Assign [.Name y py] (.ListComp elt [⟨tg,iter,ifs,0⟩] sc pos) spos) gg:=by
 refine⟨λW σ H=>∃He G ε rs,aF G H/\EnvD X.K He G H σ ε/\eLC fi tn.length ix g ft fe ε=some rs/\∀a xs G' H',Grow G H G' H'->H a=none->G' a=none->H' a=some (.lst xs)->DenL X.K G' xs rs->W.nx (σ.set i (some (.ref a))) H',λpins s σ H W I hq=>?_,
  λHe Ge G H σ ε r W S' e P=>let⟨rs,e1,e2⟩:=hgg He Ge G H σ ε r W S' e P;⟨He,G,ε,rs,S'.g.gh,S'.e,e1,e2⟩⟩
 obtain⟨He,G,ε,rs,gh,E,ef,q⟩:=hq;obtain⟨ds,ei,ef⟩:=af ef;split at ef
 ·rename_i hz
  rw[exec_Assign_Name_used _ _ _ _ hsw];refine zn (JX (zn ?_));show wE _ X.A (do let _<-comprehension (.ListComp elt [⟨tg,iter,ifs,0⟩] sc pos) sc X.env _ (newList []) false (eval iter X.env) (some (Zu (.Name y py) X.env))) _ _ s
  refine zn (QP (wpAny_comprehension_free (use:=some (Zu (.Name y py) X.env)) (Q:=λ_ s'=>SP X pins W .next s') rfl hs S.clos S.kind S.names
   (pd (RR:=λacc C=>compPost (Qa X.prog X.w) X.A X.xe (some (Zu (.Name y py) X.env)) (λ_ s'=>SP X pins W .next s') acc C) hc hi S ng hg ht he I gh E ei hz ef ?_)) (λ_ s' hq=>wn (wn hq)) λ_ _ e=>e)
  intro a xs G' H' C oC m s' IX hNs hC pC gr hn gn ha hd;show wE _ X.A (Zu (.Name y py) X.env (.ref a)) _ _ _;refine wpAny_assign_Name (eV IX hN hiN hx (v:=.ref a) (u:=.ref a) rfl (λs2 I2=>?_) hf);obtain⟨q1,_⟩:=IX.pin (C,oC) (Ql _ (Ql _ (xz.mpr rfl)));obtain⟨w1,_⟩:=I2.pin (C,oC) (Ql _ (Ql _ (xz.mpr rfl)));refine⟨m,?_,λh' hs'=>⟨_,H',k9 I2 hC pC hs',q a xs G' H' gr hn gn ha hd⟩⟩;obtain⟨o,es,ep,h1,h2⟩:=hNs;rw[q1] at h1;cases h1;exact⟨oC,es,ep,w1,h2⟩
 ·cases ef
theorem zI(i:Nat){y:Str}{py spos:Pos}(hc:X.calm=true)(hN:X.N.Nodup)(hi:DI X tg iter fi)(S:CompSc X sc cl tn fr ix)(ng:NoG g)
  (hg:∀C s₃ H₃ fp pins,DG (cxC X sc cl (tn++fr) C s₃ H₃ fp pins) tg g) (ht:∀C s₃ H₃ fp pins,DIf (cxC X sc cl (tn++fr) C s₃ H₃ fp pins) ifs ft) (he:∀C s₃ H₃ fp pins,DE (cxC X sc cl (tn++fr) C s₃ H₃ fp pins) elt fe)
  (hiN:X.N[i]?=some y:=by rfl) (hx:Loc X.env.scope y:=by first | exact Or.inl rfl | exact Jy rfl) (hf:X.fn y=true\/X.env.scope.names.lookup y=some .local:=by first | exact .inl rfl | exact .inr rfl) (hsw:ZB (.ListComp elt [⟨tg,iter,ifs,0⟩] sc pos) (some (.Name y py)) spos.line X.env=pure true:=by rfl)
  (hs:∀x,JV iter X.env x=pure x:=by intro _;rfl):DS X (.Assign [.Name y py] (.ListComp elt [⟨tg,iter,ifs,0⟩] sc pos) spos) (bq i (eF (eLC fi tn.length ix g ft fe))):=
 zq (i:=i) (W':=λ_ _ _=>True) hc hN hi S ng hg ht he hiN hx hf hsw hs λHe Ge G H σ ε r W S' e P=>by
  obtain⟨d,e0,rfl⟩:=aP e;obtain⟨rs,e1,rfl⟩:=aP e0;refine⟨rs,e1,λa xs G' H' gr hn gn ha hd=>?_⟩;have s2:aF G' (upd G' a (.lst xs)):=λb o e=>by rw[aD (ax e gn)];exact e
  have g2:Grow G H (upd G' a (.lst xs)) H':=⟨gr.hh,gr.gg.trans s2,λb o e=>by
   unfold upd at e
   by_cases z:b=a
   ·rw[if_pos z] at e;cases e;rw[z];exact ha
   ·rw[if_neg z] at e;exact gr.gh b o e,λb o e z=>by rw[aD (ax e hn)];exact gr.fo b o e z⟩
  exact P _ _ H' ⟨S'.g.trans g2,(S'.e.grow g2).put (.lst (SqL.of aE) (hd.mono s2))⟩
end
section
variable{X:Cx}{a b c:Expr}{fa fb fc:Ev->Option D}{pos:Pos}
def zg(fa fb:Ev->Option D):Ev->Option (List D):=λε=>(fa ε).bind λx=>(fb ε).bind λy=>match x,y with | .lst xs,.lst ys=>if xs.length+ys.length<=1000000 then some (xs++ys) else none | _,_=>none
theorem DenL.nil_iff{K:v0}{G:Hp}{xs:List V}{ds:List D}(h:DenL K G xs ds):xs=[]↔ds=[]:=by cases h<;>simp
end
namespace CatI
def yS:D->D->Option D:=λx y=>match x,y with | .tup (x0::xs),.tup (y0::ys)=>if xs.length+ys.length<=1000 then some (.tup (x0::xs++y0::ys)) else none | _,_=>none
end CatI
section
variable{X:Cx}{a b c:Expr}{fa fb fc:Ev->Option D}{pos:Pos}
theorem zb:OpD X (Jr .Add) CatI.yS:=⟨_,v8,λG H x y dx dy d Q gh hx hy e q=>by
 unfold CatI.yS at e;split at e
 ·split at e
  ·rename_i hz
   cases e;obtain⟨p,xs,rfl,h0,h1,h2⟩:=hx.tup gh;obtain⟨p',ys,rfl,h3,h4,h5⟩:=hy.tup gh;have n1:xs≠[]:=λz=>by have:=h2.nil_iff.mp z;cases this
   have n2:ys≠[]:=λz=>by have:=h5.nil_iff.mp z;cases this
   refine⟨p,p',xs,ys,rfl,rfl,h1,h4,n1,?_,λz=>absurd z n2,λ_ l hl=>?_⟩
   ·rw[h2.length,h5.length]
    simp only[Qv];exact QO (Nat.add_le_add (wp _) (wp _)) (le_line2 hz)
   ·have g:=Grow.new (.tup (xs++ys)) gh hl
    exact q _ _ _ g (.tup (SqT.of aE) ((h2.append h5).mono g.gg))
  ·cases e
 ·cases e⟩
where
 le_line2 {m n:Nat} (h:m+n<=1000):m+1+(n+1)<=Qt:=QO (by lia:m+1+(n+1)<=2000) (by decide)
def vH(i j:Nat)(g:Ev->Option (List D)):Ev->Option Fl:=λε=>match g ε with | some [x,y]=>some (.nx ((ε.set i (.dat x)).set j (.dat y))) | _=>none
end
section
variable{prog:Qs}{w:QC}{Ar:Qy}{Ex:vv->v6->Prop}
theorem rT{I L:Addr}{xs:Array vv}(apart:L≠I):∀(k i:Nat) (t:v6) (Q:List vv->v6->Prop) (_:t.heap.IsListIter I L i) (_:t.heap.IsList L xs) (_:i+k<=xs.size)
  (_:∀g,g.IsListIter I L (i+k)->Q9 I t.heap g->Q ((xs.toList.drop i).take k) { t with heap:=g }),wE (Qa prog w) Ar (draw (.ref I) k) Q Ex t:=by
 intro k
 induction k with
 |zero=>intro i t Q itr ls room want;exact wn (want t.heap itr (Heap.SameBut.refl ..))
 |succ k ih=>
  intro i t Q itr ls room want;have there:i<xs.size:=Qw (Nat.lt_add_of_pos_right (Nat.succ_pos k)) room;refine zn (m:=pyNext (.ref I)) (wpAny_pyNext_list_item itr ls (x:=xs[i]) (by simp[there]) λg1 itr1 same1=>?_);refine zn (QJ (ih (i+1) _ _ itr1 (ls.extBut same1.extBut apart) (by lia) λg2 itr2 same2=>wn ?_))
  have e:(xs.toList.drop i).take (k+1)=xs[i]::(xs.toList.drop (i+1)).take k:=by
   rw[Q6 (by simpa using there),List.take_succ_cons];simp
  have c:i+(k+1)=i+1+k:=by lia
  have fin:=want g2 (c▸itr2) (same1.trans same2);rw[e] at fin;exact fin
theorem ik{t:v6}{L:Addr}{xs:Array vv}{Q:List vv->v6->Prop}(hh:Ar.handled=none)(ls:t.heap.IsList L xs)
  (want:∀g,Heap.ExtBut t.heap.objs.size t.heap g->Q xs.toList { t with heap:=g }):wE (Qa prog w) Ar (unpackItems (.ref L) xs.size none) Q Ex t:=by
 have apart:L≠t.heap.objs.size:=let⟨_,there,_⟩:=ls;Qu (Qb there);unfold unpackItems notIterableAtAll;refine zn (zn (wpAny_specialOf ls.typeIs slot_list_iter.lookup (wn ?_)));rw[if_neg ww];refine zn (QJ (wpAny_pyIter_list ls ?_));refine zn (QJ (rT apart xs.size 0 _ _ ⟨_,Qf _ rfl,rfl,rfl⟩ (ls.push _) (Nat.le_of_eq (Ja _)) λg1 itr1 same1=>?_));rw[List.drop_zero,Za (Nat.le_of_eq (by simp)),if_neg (by simp)];refine zn (QJ (wpAny_pyNext_list_end hh itr1 ((ls.push _).extBut same1.extBut apart) (by simp) λg2 ext2=>?_));exact(if_neg (show ¬ (none:Option vv).isSome=true by simp)).symm▸wn (want g2 λb o away e=>ext2 b o away (same1.extBut b o away (wf _ e)))
theorem gO{t:v6}{ev:Env}{es:List Expr}{x1}{pos:Pos}{L:Addr}{xs:Array vv}{Q:Unit->v6->Prop}(hh:Ar.handled=none)(ls:t.heap.IsList L xs)
  (many:(QU es ev).length=xs.size) (nostar:(QU es ev).findIdx? (·.1)=none)
  (rest:∀g,Heap.ExtBut t.heap.objs.size t.heap g->wE (Qa prog w) Ar (assignInOrder ((QU es ev).map (·.2)) xs.toList) Q Ex { t with heap:=g }):wE (Qa prog w) Ar (Zu (.Tuple es x1 pos) ev (.ref L)) Q Ex t:=by
 rw[assign_Tuple];refine zn (JX ?_);unfold unpack;rw[many,nostar];exact zn (QJ (ik hh ls rest))
end
section
variable{X:Cx}{pos:Pos}
theorem wG{es:List Expr}{k:Nat}{t:TGs}{n:Nat}(hc:X.calm=true)(h:PGs X es t)
  (hn:(QU es X.env).length=n:=by rfl) (hst:(QU es X.env).findIdx? (·.1)=none:=by rfl):PG X (.Tuple es k pos) (λv σ H Q=>∃a xs,v=.ref a/\SqL X.K H a xs/\xs.length=n/\t xs σ H Q):=by
 intro pins s σ H v u Q I r hw;obtain⟨a,xs,e1,hq,hl,hw⟩:=hw;subst e1;cases r;obtain⟨its,rv,ht,hz⟩:=I.list hq;refine gO (I.ok.hd hc) ht.isList (by simp[hn,<-hl,rv.length]) hst λh' hx=>?_;have I1:Inv X pins σ H { s with heap:=h' }:=I.kept (t':=s.toks) λb o e=>hx b o (Qu (Qb e)) e;exact h pins _ σ H xs _ Q I1 (by simpa using rv) hw
def cZ(n:Nat)(g:List D->Ev->Option Ev):D->Ev->Option Ev:=λd ε=>match d with | .tup ds=>if ds.length=n then g ds ε else none | .lst ds=>if ds.length=n then g ds ε else none | _=>none
theorem AW{tg:Expr}{t t':TG}(h:PG X tg t)(h':PG X tg t'):PG X tg (λv σ H Q=>t v σ H Q\/t' v σ H Q):=by
 intro pins s σ H v u Q I r hw;rcases hw with hw | hw
 ·exact h pins s σ H v u Q I r hw
 ·exact h' pins s σ H v u Q I r hw
theorem d9{es:List Expr}{k:Nat}{g:List D->Ev->Option Ev}{n:Nat}(hc:X.calm=true)(h:DGs X es g)(hn:(QU es X.env).length=n:=by rfl)(hst:(QU es X.env).findIdx? (·.1)=none:=by rfl):DG X (.Tuple es k pos) (cZ n g):=by
 obtain⟨t,a1,a2⟩:=h;refine⟨_,AW (nY hc a1 hn hst) (wG hc a1 hn hst),λHe G H σ ε ε' v d Q gh E hd e q=>?_⟩;unfold cZ at e;split at e
 ·split at e
  ·rename_i hl
   obtain⟨p,xs,rfl,h1,h2⟩:=hd.tupV;exact .inl ⟨p,xs,rfl,aC gh h1,by rw[h2.length];exact hl,a2 He G H σ ε ε' _ _ _ gh E h2 e q⟩
  ·cases e
 ·split at e
  ·rename_i hl
   obtain⟨p,xs,rfl,h1,h2⟩:=hd.lstV;exact .inr ⟨p,xs,rfl,gh.seq h1,by rw[h2.length];exact hl,a2 He G H σ ε ε' _ _ _ gh E h2 e q⟩
  ·cases e
 ·cases e
end
def AtL(X:Cx):List Str->List Nat->Prop
 |[],[]=>True
 |x::fr,j::ix=>(X.N[j]?=some x/\X.env.scope.names.lookup x=some .cell)/\AtL X fr ix
 |_,_=>False
theorem AtL.len{X:Cx}:∀{fr:List Str} {ix:List Nat},AtL X fr ix->ix.length=fr.length
 |[],[],_=>rfl
 |_::_,_::_,h=>congrArg (· + 1) (AtL.len h.2)
 |[],_::_,h=>h.elim
 |_::_,[],h=>h.elim
theorem AtL.get{X:Cx}:∀{fr:List Str} {ix:List Nat} (k:Nat) (x:Str),AtL X fr ix->fr[k]?=some x->∃j,ix[k]?=some j/\X.N[j]?=some x/\X.env.scope.names.lookup x=some .cell
 |[],_,k,x,_,e=>by simp at e
 |_::_,[],_,_,h,_=>h.elim
 |y::fr,j::ix,0,x,h,e=>by simp at e;subst e;exact⟨j,rfl,h.1.1,h.1.2⟩
 |y::fr,j::ix,k+1,x,h,e=>by
  obtain⟨j',h1,h2⟩:=AtL.get k x h.2 (by simpa using e);exact⟨j',by simpa using h1,h2⟩
def uj(X:Cx):List (Str×Addr)->Prop
 |[]=>True
 |p::cl=>X.env.cells.lookup p.1=some p.2/\uj X cl
theorem uj.mem{X:Cx}:∀{cl:List (Str×Addr)},uj X cl->∀p∈cl,X.env.cells.lookup p.1=some p.2
 |[],_,_,h=>by cases h
 |q::cl,h,p,hp=>by
  rcases ut.mp hp with z | z
  ·rw[z];exact h.1
  ·exact uj.mem h.2 p z
theorem eH{cl:List (Str×Addr)}{x:Str}(h:(cl.map (·.1)).contains x=true):∃c,cl.lookup x=some c:=by
 induction cl with
 |nil=>simp at h
 |cons p cl ih=>
  rw[Qe,List.contains_cons] at h;obtain⟨y,c0⟩:=p;cases e:(x==y) with
  |true=>exact⟨c0,by unfold List.lookup;rw[e]⟩
  |false=>
   have h':(x==y || (cl.map (·.1)).contains x)=true:=h;rw[e,Bool.false_or] at h';obtain⟨c,hc⟩:=ih h';exact⟨c,by unfold List.lookup;rw[e];exact hc⟩
theorem g7{X:Cx}{sc:Scope}{cl:List (Str×Addr)}{tn fr:List Str}{ix:List Nat}(clos:closureFor sc X.env=pure cl)(hat:AtL X fr ix)(sub:uj X cl)
  (kind:sc.kind=.function) (nc:(sc.names.all λy=>!(y.2 == .cell))=true)
  (nm:(sc.names.all λy=>!(y.2 == .local) || (sc.names.lookup y.1==some .local))=true)
  (hs:((relabel sc X.env).names.all λy=>!(y.2 == .cell || y.2 == .free) || (cl.map (·.1)).contains y.1)=true)
  (fc:(fr.all λx=>(relabel sc X.env).names.lookup x==some .cell)=true):CompSc X sc cl tn fr ix where
 kind:=kind
 nocell:=λy hy e=>by
  have:=Jd.mp nc y hy;rw[e] at this;exact absurd this (by decide)
 names:=λy hy e=>by
  have:=Jd.mp nm y hy;rw[e] at this;exact eq_of_beq this
 clos:=clos
 len:=hat.len
 at_:=λk x e=>hat.get k x e
 sub:=λx c e=>sub.mem _ (Js e)
 has:=λx h=>by
  rcases h with h | h
  ·have:=Jd.mp hs _ (Js h)
   exact eH this
  ·have:=Jd.mp hs _ (Js h)
   exact eH this
 frc:=λx hx=>eq_of_beq (Jd.mp fc x hx)
theorem lN{fi:Ev->Option (List D)}{n:Nat}{ix:List Nat}{g:D->Ev->Option Ev}{ft:Ev->Option Bool}{fe:Ev->Option D}{ε:Ev}{ds:List D}(h:fi ε=some ds)(hl:ds.length<1000000):eLC fi n ix g ft fe ε=lcD g ft fe ds (prE n ix ε):=by
 unfold eLC;rw[h];show(if ds.length<1000000 then _ else none)=_;rw[if_pos hl]
def lO(f:D->D->Option Bool):List D->List D->Option Bool
 |x::xs,y::ys=>(f x y).bind λa=>(lO f xs ys).bind λb=>some (a&&b)
 |_,_=>some true
def cv:Nat->D->D->Option Bool
 |0,x,y=>eqS x y
 |n+1,x,y=>match x,y with
  |.tup xs,.tup ys=>(lO (cv n) xs ys).map λb=>b&&xs.length==ys.length
  |.lst xs,.lst ys=>if xs.length=ys.length then lO (cv n) xs ys else some false
  |x,y=>eqS x y
def cV(f:D->D->Option Bool)(xs ys:List D)(j:Nat):Bool:=match xs[j]?,ys[j]? with
 |some x,some y=>(f x y).getD false
 |_,_=>false
theorem bY{f:D->D->Option Bool}:∀{xs ys:List D} {b:Bool},lO f xs ys=some b->b=(QF (min xs.length ys.length)).all (cV f xs ys)/\∀j x y,xs[j]?=some x->ys[j]?=some y->f x y=some (cV f xs ys j)
 |[],ys,b,e=>by cases e;exact⟨by simp,λj x y h _=>by simp at h⟩
 |x::xs,[],b,e=>by cases e;exact⟨by simp,λj x y _ h=>by simp at h⟩
 |x::xs,y::ys,b,e=>by
  obtain⟨a,e1,e⟩:=af e;obtain⟨c,e2,e⟩:=af e;cases e;obtain⟨h1,h2⟩:=bY e2;have sh:∀j,cV f (x::xs) (y::ys) (j+1)=cV f xs ys j:=λj=>by unfold cV;simp
  have s0:cV f (x::xs) (y::ys) 0=a:=by unfold cV;simp[e1]
  refine⟨?_,λj u v hu hv=>?_⟩
  ·have hm:min (x::xs).length (y::ys).length=min xs.length ys.length+1:=by simp only[Qv];lia
   rw[hm,List.range_succ_eq_map,ZV,s0,List.all_map,h1];congr 1
  ·cases j with
   |zero=>simp at hu hv;subst hu hv;rw[s0,e1]
   |succ j=>rw[sh];exact h2 j u v (by simpa using hu) (by simpa using hv)
theorem e_{d:D}{b:Bool}(h:eqS d d=some b):b=true:=by
 cases d<;>simp[eqS] at h<;>first | exact h | exact h.symm
theorem h8{f:D->D->Option Bool}(hf:∀d b,f d d=some b->b=true):∀{ds:List D} {b:Bool},lO f ds ds=some b->b=true
 |[],b,e=>by cases e;rfl
 |d::ds,b,e=>by
  obtain⟨a,e1,e⟩:=af e;obtain⟨c,e2,e⟩:=af e;cases e;rw[hf d a e1,h8 hf e2];rfl
theorem fM:∀(n:Nat) (d:D) (b:Bool),cv n d d=some b->b=true
 |0,d,b,e=>e_ e
 |n+1,.tup xs,b,e=>by
  obtain⟨c,e1,rfl⟩:=aP e;rw[h8 (fM n) e1];simp
 |n+1,.lst xs,b,e=>by
  have e':(if xs.length=xs.length then lO (cv n) xs xs else some false)=some b:=e;rw[if_pos rfl] at e';exact h8 (fM n) e'
 |n+1,.non,b,e=>e_ (d:=.non) e
 |n+1,.bl k,b,e=>e_ (d:=.bl k) e
 |n+1,.int k,b,e=>e_ (d:=.int k) e
 |n+1,.str k,b,e=>e_ (d:=.str k) e
section
variable{X:Cx}{pins:List (Addr×Obj)}{σ:L2.St}{G H:Hp}{s:v6}
theorem nu(I:Inv X pins σ H s){a:Addr}{xs ys:List V}(h1:SqT X.K H a xs)(h2:SqL X.K H a ys):False:=by
 obtain⟨its,_,⟨o,e1,c1,_⟩,_⟩:=I.tuple h1;obtain⟨its2,_,⟨o2,n,e2,c2,_⟩,_⟩:=I.list h2;rw[e1] at e2;cases e2;rw[c1] at c2;exact absurd (Value.type.inj c2) (by decide)
theorem m7{x y:V}{u:vv}(hx:L2.aQ x u)(hy:L2.aQ y u):x=y:=by
 cases x<;>cases y<;>simp only[L2.aQ] at hx hy<;>first | rfl | (subst hx;cases hy;done) | (subst hx;cases hy;rfl) | (obtain⟨t,rfl⟩:=hx;obtain⟨t',e⟩:=hy;cases e;first | rfl | done) | (obtain⟨t,rfl⟩:=hx;cases hy) | (subst hx;obtain⟨t',e⟩:=hy;cases e)
theorem i_(I:Inv X pins σ H s)(gh:aF G H){a:Addr}{us:aT}{ep:Nat}(h:G a=some (.ext (DAt a us ep))):DAt a us ep s.heap:=(show bz X.prog X.w H s.heap a (.ext (DAt a us ep)) from I.hok a _ (gh _ _ h)).1
theorem kW(I:Inv X pins σ H s)(gh:aF G H){a:Addr}{xs:List V}{us:aT}{ep:Nat}(h1:SqT X.K H a xs)(h:G a=some (.ext (DAt a us ep))):False:=by
 obtain⟨its,_,⟨o,e1,c1,_⟩,_⟩:=I.tuple h1;obtain⟨_,_,o2,raw,e2,⟨c2,_⟩,_⟩:=i_ I gh h;rw[e1] at e2;cases e2;rw[c1] at c2;exact absurd (Value.type.inj c2) (by decide)
theorem kf(I:Inv X pins σ H s)(gh:aF G H){a:Addr}{xs:List V}{us:aT}{ep:Nat}(h1:SqL X.K H a xs)(h:G a=some (.ext (DAt a us ep))):False:=by
 obtain⟨its,_,⟨o,n,e1,c1,_⟩,_⟩:=I.list h1;obtain⟨_,_,o2,raw,e2,⟨c2,_⟩,_⟩:=i_ I gh h;rw[e1] at e2;cases e2;rw[c1] at c2;exact absurd (Value.type.inj c2) (by decide)
theorem iI:∀{k k':List Int},k.map V.int=k'.map V.int->k=k'
 |[],[],_=>rfl
 |[],_::_,e=>by cases e
 |_::_,[],e=>by cases e
 |a::k,b::k',e=>by
  rw[Qe,Qe] at e;injection e with e1 e2
  cases e1;rw[iI e2]
theorem rD(I:Inv X pins σ H s)(gh:aF G H):∀{raw:List Jp} {us vs:aT} {es fs:List (List Int×D)},DenM X.K G us es->DenM X.K G vs fs->Jk EntOk us raw->Jk EntOk vs raw->us=vs:=by
 intro raw
 induction raw with
 |nil=>intro us vs es fs _ _ p p';cases p;cases p';rfl
 |cons r rs ih=>
  intro us vs es fs m m' p p';cases p with
  |cons q qs=>
   cases p' with
   |cons q' qs'=>
    cases m with
    |cons hk hv hs=>
     cases m' with
     |cons hk' hv' hs'=>
      have e0:=q.key.symm.trans q'.key;injection e0 with e0
      simp only at e0;subst e0;have ek:=iI (I.tuple_inj (aC gh hk) (aC gh hk'));subst ek;have ev:=m7 q.val q'.val;simp only at ev;subst ev;rw[ih hs hs' qs qs']
theorem DenL.uniq(I:Inv X pins σ H s)(gh:aF G H){vs:List V}{ds es:List D}(h:DenL X.K G vs ds):DenL X.K G vs es->ds=es:=by
 refine DenL.rec (motive_1:=λv d _=>∀e,Den X.K G v e->d=e) (motive_2:=λu d _=>∀e,DenM X.K G u e->d=e) (motive_3:=λv d _=>∀e,DenL X.K G v e->d=e) ?_ ?_ ?_ ?_ ?_ ?_ ?_ ?_ ?_ ?_ ?_ h es
 ·intro e w;cases w;rfl
 ·intro b e w;cases w;rfl
 ·intro b e w;cases w;rfl
 ·intro b e w;cases w;rfl
 ·intro a xs ds h _ y e w
  cases w with
  |tup h' hs'=>
   have:=I.tuple_inj (aC gh h) (aC gh h');subst this;rw[y _ hs']
  |lst h' _=>exact(nu I (aC gh h) (gh.seq h')).elim
  |dic h' _ _=>exact(kW I gh (aC gh h) h').elim
 ·intro a xs ds h _ y e w
  cases w with
  |lst h' hs'=>
   have:=I.list_inj (gh.seq h) (gh.seq h');subst this;rw[y _ hs']
  |tup h' _=>exact(nu I (aC gh h') (gh.seq h)).elim
  |dic h' _ _=>exact(kf I gh (gh.seq h) h').elim
 ·intro a us ep es h nd hs y e w
  cases w with
  |tup h' _=>exact(kW I gh (aC gh h') h).elim
  |lst h' _=>exact(kf I gh (gh.seq h') h).elim
  |dic h' nd' hs'=>
   obtain⟨_,_,o,raw,e,_,e1,p⟩:=i_ I gh h;obtain⟨_,_,o',raw',e',_,e1',p'⟩:=i_ I gh h';rw[e] at e';cases e';rw[e1] at e1';cases e1';have z:=rD I gh hs hs' p p';subst z;rw[y _ hs']
 ·intro e w;cases w;rfl
 ·intro k b v d us es _ _ _ y z e w
  cases w with
  |cons _ h' hs'=>rw[y _ h',z _ hs']
 ·intro e w;cases w;rfl
 ·intro v d vs ds _ _ y z e w
  cases w with
  |cons h' hs'=>rw[y _ h',z _ hs']
theorem Den.uniq(I:Inv X pins σ H s)(gh:aF G H){v:V}{d e:D}(h:Den X.K G v d)(h':Den X.K G v e):d=e:=List.head_eq_of_cons_eq (DenL.uniq I gh (.cons h .nil) (.cons h' .nil))
theorem mU{K:v0}{G:Hp}{x y:V}{dx dy:D}{b:Bool}(hx:Den K G x dx)(hy:Den K G y dy)(e:eqS dx dy=some b):eG x=true/\eG y=true/\eqV x y=b:=by
 cases hx<;>cases hy<;>simp[eqS] at e<;>subst e<;>refine⟨rfl,rfl,?_⟩<;>first | rfl | (simp[eqV];done) | (rw[Ze];simp[eqV])
theorem cT{x y:V}{xs ys:List V}{ds es:List D}{its its2:List vv}{n:Nat}{A:Qy}(hs:DenL X.K G xs ds)(hs':DenL X.K G ys es)(r:aK xs its)(r2:aK ys its2)
  (step:∀{dx dy:D} {x y:V} {v u:vv} {b:Bool},Den X.K G x dx->Den X.K G y dy->aQ x v->aQ y u->cv n dx dy=some b->ZS A s v u b)
  (pr:∀j x y,ds[j]?=some x->es[j]?=some y->cv n x y=some (cV (cv n) ds es j)) :
  ∀j (h1:j<its.toArray.size) (h2:j<its2.toArray.size),ZS A s its.toArray[j] its2.toArray[j] (cV (cv n) ds es j):=by
 intro j h1 h2;have l1:=r.length;have l2:=r2.length;have h1':j<its.length:=by simpa using h1
 have h2':j<its2.length:=by simpa using h2
 have hx:xs[j]?=some xs[j]:=by simp[show j<xs.length by lia]
 have hy:ys[j]?=some ys[j]:=by simp[show j<ys.length by lia]
 obtain⟨dx,e1,d1⟩:=hs.getV hx;obtain⟨dy,e2,d2⟩:=hs'.getV hy;obtain⟨v,e3,r3⟩:=r.get hx;obtain⟨u,e4,r4⟩:=r2.get hy
 have ev:its.toArray[j]=v:=by
  have:=(Qi.mp e3).2;simpa using this
 have eu:its2.toArray[j]=u:=by
  have:=(Qi.mp e4).2;simpa using this
 rw[ev,eu];exact step d1 d2 r3 r4 (pr j dx dy e1 e2)
theorem jq(I:Inv X pins σ H s)(gh:aF G H):∀(n:Nat) (A:Qy),A.units+n<JG->∀{dx dy:D} {x y:V} {v u:vv} {b:Bool},Den X.K G x dx->Den X.K G y dy->aQ x v->aQ y u->cv n dx dy=some b->ZS A s v u b:=by
 intro n
 induction n with
 |zero=>
  intro A hu dx dy x y v u b hx hy rx ry e;obtain⟨f1,f2,e1⟩:=mU hx hy e;rw[<-e1];exact n4 rx ry f1 f2
 |succ n ih=>
  intro A hu dx dy x y v u b hx hy rx ry e;have hu1:A.in1.units+n<JG:=by show A.units+1+n<JG;lia
  have step:=λ{dx dy:D} {x y:V} {v u:vv} {b:Bool}=>ih A.in1 hu1 (dx:=dx) (dy:=dy) (x:=x) (y:=y) (v:=v) (u:=u) (b:=b)
  have flat:∀{b},eqS dx dy=some b->ZS A s v u b:=λ{b} e=>by
   obtain⟨f1,f2,e1⟩:=mU hx hy e;rw[<-e1];exact n4 rx ry f1 f2
  cases hx with
  |@tup a xs ds h hs=>
   cases hy with
   |@tup a' ys es h' hs'=>
    cases(show v=QH a from rx);cases(show u=QH a' from ry)
    by_cases z:a=a'
    ·subst z
     have:=I.tuple_inj (aC gh h) (aC gh h');subst this;have:=DenL.uniq I gh hs hs';subst this;rw[fM _ _ _ e];exact SeqAt.EqAt.same _
    ·obtain⟨c,e1,rfl⟩:=aP e
     obtain⟨q1,q2⟩:=bY e1;obtain⟨its,r,p1,_⟩:=I.tuple (aC gh h);obtain⟨its2,r2,p2,_⟩:=I.tuple (aC gh h');have l1:its.toArray.size=ds.length:=by simp[<-r.length,hs.length]
     have l2:its2.toArray.size=es.length:=by simp[<-r2.length,hs'.length]
     refine SeqAt.EqAt.of_refs z ?_;have:=SeqAt.RcAt.tuples (e:=cV (cv n) ds es) p1 p2 (by lia) (cT (x:=.non) (y:=.non) hs hs' r r2 step q2);rw[l1,l2,<-q1] at this;exact this
   |lst h' hs'=>exact flat e
   |dic _ _ _=>exact flat e
   |non=>exact flat e
   |bl _=>exact flat e
   |int _=>exact flat e
   |str _=>exact flat e
  |@lst a xs ds h hs=>
   cases hy with
   |@lst a' ys es h' hs'=>
    cases(show v=QH a from rx);cases(show u=QH a' from ry)
    by_cases z:a=a'
    ·subst z
     have:=I.list_inj (gh.seq h) (gh.seq h');subst this;have:=DenL.uniq I gh hs hs';subst this;rw[fM _ _ _ e];exact SeqAt.EqAt.same _
    ·have e':(if ds.length=es.length then lO (cv n) ds es else some false)=some b:=e
     obtain⟨its,r,p1,_⟩:=I.list (gh.seq h);obtain⟨its2,r2,p2,_⟩:=I.list (gh.seq h');have l1:its.toArray.size=ds.length:=by simp[<-r.length,hs.length]
     have l2:its2.toArray.size=es.length:=by simp[<-r2.length,hs'.length]
     refine SeqAt.EqAt.of_refs z ?_
     by_cases hl:ds.length=es.length
     ·rw[if_pos hl] at e'
      obtain⟨q1,q2⟩:=bY e';have:=SeqAt.RcAt.lists (e:=cV (cv n) ds es) p1.isList p2.isList (by rw[l1,l2,hl]) (by lia) (cT (x:=.non) (y:=.non) hs hs' r r2 step q2);rw[l1] at this;rw[<-hl,Nat.min_self] at q1;rw[q1];exact this
     ·rw[if_neg hl] at e'
      cases e';exact SeqAt.RcAt.lists_lengths p1.isList p2.isList (by rw[l1,l2];simpa using hl) (by lia)
   |tup h' hs'=>exact flat e
   |dic _ _ _=>exact flat e
   |non=>exact flat e
   |bl _=>exact flat e
   |int _=>exact flat e
   |str _=>exact flat e
  |dic _ _ _=>cases hy<;>exact flat e
  |non=>cases hy<;>exact flat e
  |bl _=>cases hy<;>exact flat e
  |int _=>cases hy<;>exact flat e
  |str _=>cases hy<;>exact flat e
end
section
variable{X:Cx}
def Bd(K:v0)(neg:Bool):R2:=λx y H Q=>∃G dx dy b,aF G H/\bA K G H x dx/\bA K G H y dy/\cv 9 dx dy=some b/\Q (.bl (if neg then !b else b)) H
theorem bA.flat{K:v0}{G H:Hp}{v:V}{d:D}(h:bA K G H v d):Den K G v d\/∃ds,d=.lst ds:=by
 rcases h with h | ⟨_,_,ds,_,e,_⟩
 ·exact .inl h
 ·exact .inr ⟨ds,e⟩
theorem zC(hu:X.A.units+64<JG):OpR X (QD .Eq) (Bd X.K false):=by
 intro pins s σ H x y v u Q I rx ry h;obtain⟨G,dx,dy,b,gh,hx,hy,e,q⟩:=h;have step:=λ{dx dy:D} {x y:V} {v u:vv} {b:Bool}=>jq I gh 8 X.A.in1 (by show X.A.units+1+8<JG;lia) (dx:=dx) (dy:=dy) (x:=x) (y:=y) (v:=v) (u:=u) (b:=b);have fin:∀{k:Bool},k=b->EP X pins σ Q (.bool k) s:=λ{k} z=>⟨.bl k,H,I,rfl,by rw[z];exact q⟩
 have scl:eqS dx dy=some b->wE (Qa X.prog X.w) X.A (QD .Eq v u) (EP X pins σ Q) X.xe s:=λe=>by
  obtain⟨h1,h2⟩:=mh hx hy e;exact Ab pins s σ H x y v u Q I rx ry ⟨h1,by rw[h2];exact q⟩
 cases dx with
 |tup ds=>
  cases dy with
  |tup es=>
   obtain⟨a,xs,rfl,_,h1,h2⟩:=hx.tup gh;obtain⟨a',ys,rfl,_,h3,h4⟩:=hy.tup gh;cases rx;cases ry;obtain⟨c,e1,e2⟩:=aP e;obtain⟨q1,q2⟩:=bY e1;obtain⟨its,r,p1,_⟩:=I.tuple h1;obtain⟨its2,r2,p2,_⟩:=I.tuple h3;have l1:its.toArray.size=ds.length:=by simp[<-r.length,h2.length]
   have l2:its2.toArray.size=es.length:=by simp[<-r2.length,h4.length]
   refine SeqAt.RcAt.tuples (e:=cV (cv 8) ds es) p1 p2 (by lia) (cT (x:=.non) (y:=.non) h2 h4 r r2 step q2) X.prog X.w X.xe _ (fin ?_);rw[l1,l2,<-q1];exact e2
  |_=>exact scl e
 |lst ds=>
  cases dy with
  |lst es=>
   obtain⟨a,xs,rfl,h1,h2⟩:=hx.lst gh;obtain⟨a',ys,rfl,h3,h4⟩:=hy.lst gh;cases rx;cases ry;have e':(if ds.length=es.length then lO (cv 8) ds es else some false)=some b:=e;obtain⟨its,r,p1,_⟩:=I.list h1;obtain⟨its2,r2,p2,_⟩:=I.list h3;have l1:its.toArray.size=ds.length:=by simp[<-r.length,h2.length]
   have l2:its2.toArray.size=es.length:=by simp[<-r2.length,h4.length]
   by_cases hl:ds.length=es.length
   ·rw[if_pos hl] at e'
    obtain⟨q1,q2⟩:=bY e';refine SeqAt.RcAt.lists (e:=cV (cv 8) ds es) p1.isList p2.isList (by rw[l1,l2,hl]) (by lia) (cT (x:=.non) (y:=.non) h2 h4 r r2 step q2) X.prog X.w X.xe _ (fin ?_);rw[l1];rw[<-hl,Nat.min_self] at q1;exact q1.symm
   ·rw[if_neg hl] at e'
    cases e';exact SeqAt.RcAt.lists_lengths p1.isList p2.isList (by rw[l1,l2];simpa using hl) (by lia) X.prog X.w X.xe _ (fin rfl)
  |_=>exact scl e
 |_=>cases dy<;>exact scl e
theorem zN(hu:X.A.units+64<JG):OpR X (QD .NotEq) (Bd X.K true):=by
 intro pins s σ H x y v u Q I rx ry h;obtain⟨G,dx,dy,b,gh,hx,hy,e,q⟩:=h;have step:=λ{dx dy:D} {x y:V} {v u:vv} {b:Bool}=>jq I gh 8 X.A.in1 (by show X.A.units+1+8<JG;lia) (dx:=dx) (dy:=dy) (x:=x) (y:=y) (v:=v) (u:=u) (b:=b);have fin:∀{k:Bool},k = !b->EP X pins σ Q (.bool k) s:=λ{k} z=>⟨.bl k,H,I,rfl,by rw[z];exact q⟩
 have scl:eqS dx dy=some b->wE (Qa X.prog X.w) X.A (QD .NotEq v u) (EP X pins σ Q) X.xe s:=λe=>by
  obtain⟨h1,h2⟩:=mh hx hy e;exact Bv pins s σ H x y v u Q I rx ry ⟨h1,by rw[h2];exact q⟩
 cases dx with
 |tup ds=>
  cases dy with
  |tup es=>
   obtain⟨a,xs,rfl,_,h1,h2⟩:=hx.tup gh;obtain⟨a',ys,rfl,_,h3,h4⟩:=hy.tup gh;cases rx;cases ry;obtain⟨c,e1,e2⟩:=aP e;obtain⟨q1,q2⟩:=bY e1;obtain⟨its,r,p1,_⟩:=I.tuple h1;obtain⟨its2,r2,p2,_⟩:=I.tuple h3;have l1:its.toArray.size=ds.length:=by simp[<-r.length,h2.length]
   have l2:its2.toArray.size=es.length:=by simp[<-r2.length,h4.length]
   refine SeqAt.RcNeAt.tuples (e:=cV (cv 8) ds es) p1 p2 (by lia) (cT (x:=.non) (y:=.non) h2 h4 r r2 step q2) X.prog X.w X.xe _ (fin ?_);rw[l1,l2,<-q1];exact congrArg not e2
  |_=>exact scl e
 |lst ds=>
  cases dy with
  |lst es=>
   obtain⟨a,xs,rfl,h1,h2⟩:=hx.lst gh;obtain⟨a',ys,rfl,h3,h4⟩:=hy.lst gh;cases rx;cases ry;have e':(if ds.length=es.length then lO (cv 8) ds es else some false)=some b:=e;obtain⟨its,r,p1,_⟩:=I.list h1;obtain⟨its2,r2,p2,_⟩:=I.list h3;have l1:its.toArray.size=ds.length:=by simp[<-r.length,h2.length]
   have l2:its2.toArray.size=es.length:=by simp[<-r2.length,h4.length]
   by_cases hl:ds.length=es.length
   ·rw[if_pos hl] at e'
    obtain⟨q1,q2⟩:=bY e';refine SeqAt.RcNeAt.lists (e:=cV (cv 8) ds es) p1.isList p2.isList (by rw[l1,l2,hl]) (by lia) (cT (x:=.non) (y:=.non) h2 h4 r r2 step q2) X.prog X.w X.xe _ (fin ?_);rw[l1];rw[<-hl,Nat.min_self] at q1;rw[q1]
   ·rw[if_neg hl] at e'
    cases e';exact SeqAt.RcNeAt.lists_lengths p1.isList p2.isList (by rw[l1,l2];simpa using hl) (by lia) X.prog X.w X.xe _ (fin rfl)
  |_=>exact scl e
 |_=>cases dy<;>exact scl e
def bE:D->D->Option D:=λx y=>(cv 9 x y).map D.bl
def g9:D->D->Option D:=λx y=>(cv 9 x y).map λb=>D.bl (!b)
theorem bX{k:Nat}(hr:Room k X.A):OpD X (QD .Eq) bE:=⟨_,zC hr.units,λG H x y dx dy d Q gh hx hy e q=>by
 obtain⟨b,e1,rfl⟩:=aP e
 exact⟨G,dx,dy,b,gh,hx,hy,e1,q _ G H (.refl gh) (.bl _)⟩⟩
theorem ji{k:Nat}(hr:Room k X.A):OpD X (QD .NotEq) g9:=⟨_,zN hr.units,λG H x y dx dy d Q gh hx hy e q=>by
 obtain⟨b,e1,rfl⟩:=aP e
 exact⟨G,dx,dy,b,gh,hx,hy,e1,q _ G H (.refl gh) (.bl _)⟩⟩
end
section
variable{prog:Qs}{w:QC}{Ar:Qy}{Rs:Result->v6->Prop}{It S:Addr}{fp wr:List Addr}{n:Nat}{Pv:Nat->vv->Prop}{St:Nat->Heap->Prop}{kw:List (Str×vv)}
theorem jg:(toString "max" ++ toString ".loop" : String) = "max.loop":=by decide
theorem AA(W:Walks prog w Ar.in1 It fp wr n Pv St){bt:Nat->Nat->Bool}(cmp:CmpOf prog w Ar.in1 .Gt Pv bt)(apart:S∉fp):∀(k j:Nat) (t:v6) (best:vv) (c:Nat),j+1+k=n->St (j+1) t.heap->Pv (argBest bt j) best->IsL t.heap S #[best,best] c->
  (∀v g tk,Pv (argBest bt (n-1)) v->(∀b o,b∉wr->b≠S->t.heap.get? b=some o->g.get? b=some o)->Rs (.ok (.ret v)) { t with heap:=g,toks:=tk })->Zf (Qa prog w) Ar (.builtin "max.loop" ⟨[.ref It,.none,.ref S],kw⟩) Rs t:=by
 have away:S∉wr:=λz=>apart (W.sub _ z);intro k
 induction k with
 |zero=>
  intro j t best c ej st hb hS want;refine Z7 F.entry_max_loop ?_;rw[Zn J2 _];refine zn (m:=seqItems? (.ref S)) (Jo hS rfl ?_);refine zn (wpAny_tryCatch (W.done t _ _ (ej▸st) λg tk kept=>?_));have hS1:IsL g S #[best,best] c:=kept S _ away hS;refine zn (m:=updateSeq S (λ_=>#[])) (wpAny_updateSeq hS1 rfl (zn (ZF (wn ?_))));refine want best _ tk (by rw[<-ej];exact hb) λb o q1 q2 e=>(JJ _ _ (Ne.symm q2)).trans (kept b o q1 e)
 |succ k ih=>
  intro j t best c ej st hb hS want;have more:j+1<n:=by lia
  refine Z7 F.entry_max_loop ?_;rw[Zn J2 _];refine zn (m:=seqItems? (.ref S)) (Jo hS rfl ?_);refine zn (wpAny_tryCatch (W.item (j+1) t _ _ more st λv g tk hv st1 kept=>?_));have hS1:IsL g S #[best,best] c:=kept S _ away hS;refine zn (wn ?_);refine zn (wpAny_tryCatch (QJ (zn (cmp (j+1) (argBest bt j) v best _ _ _ hv hb (zn (QJ (JD (zn (ZF (wn ?_))))))))));cases yes:bt (j+1) (argBest bt j) with
  |true=>
   rw[if_pos rfl];refine zn (m:=updateSeq S (λ_=>#[v,v])) (wpAny_updateSeq hS1 rfl (zn (ZF ?_)));rw[jg];refine wn ⟨plainId_quiet J2 _,ih (j+1) _ v _ (by lia) (W.frame _ _ _ st1 λb q o e=>(JJ _ _ (λz:S=b=>apart (by rw[z];exact q))).trans e) ?_ (Zh _ hS1 rfl) λv2 g2 tk2 hv2 kept2=>want v2 g2 tk2 hv2 λb o q1 q2 e=>kept2 b o q1 q2 ((JJ _ _ (Ne.symm q2)).trans (kept b o q1 e))⟩;unfold argBest;rw[if_pos yes];exact hv
  |false=>
   rw[if_neg ww];refine zn (ZF ?_);rw[jg];refine wn ⟨plainId_quiet J2 _,ih (j+1) _ best c (by lia) st1 ?_ hS1 λv2 g2 tk2 hv2 kept2=>want v2 g2 tk2 hv2 λb o q1 q2 e=>kept2 b o q1 q2 (kept b o q1 e)⟩;unfold argBest;rw[yes,if_neg ww];exact hb
theorem sN(W:Walks prog w Ar.in1 It fp wr n Pv St){bt:Nat->Nat->Bool}(cmp:CmpOf prog w Ar.in1 .Gt Pv bt)(apart:S∉fp){t:v6}{c:Nat}{d:vv}{nm:Str}(st:St 0 t.heap)(hS:IsL t.heap S #[] c)
  (want:∀v g tk,((n=0/\v=d)\/(0<n/\Pv (argBest bt (n-1)) v))->(∀b o,b∉wr->b≠S->t.heap.get? b=some o->g.get? b=some o)->Rs (.ok (.ret v)) { t with heap:=g,toks:=tk }) :
  Zf (Qa prog w) Ar (.builtin "max.loop" ⟨[.ref It,.none,.ref S],[(nm,d)]⟩) Rs t:=by
 have away:S∉wr:=λz=>apart (W.sub _ z);refine Z7 F.entry_max_loop ?_;rw[Zn J2 _];refine zn (m:=seqItems? (.ref S)) (Jo hS rfl ?_)
 by_cases hn:n=0
 ·refine zn (wpAny_tryCatch (W.done t _ _ (hn▸st) λg tk kept=>?_))
  exact zn (ZQ (wn (want d g tk (.inl ⟨hn,rfl⟩) λb o q1 _ e=>kept b o q1 e)))
 ·have pos:0<n:=Nat.pos_of_ne_zero hn
  refine zn (wpAny_tryCatch (W.item 0 t _ _ pos st λv g tk hv st1 kept=>?_));have hS1:IsL g S #[] c:=kept S _ away hS;refine zn (wn ?_);refine zn (m:=updateSeq S (λ_=>#[v,v])) (wpAny_updateSeq hS1 rfl ?_);rw[jg]
  exact wn ⟨plainId_quiet J2 _,AA W cmp apart (n-1) 0 _ v _ (by lia) (W.frame _ _ _ st1 λb q o e=>(JJ _ _ (λz:S=b=>apart (by rw[z];exact q))).trans e) hv (Zh _ hS1 rfl)
   λv2 g2 tk2 hv2 kept2=>want v2 g2 tk2 (.inr ⟨pos,hv2⟩) λb o q1 q2 e=>kept2 b o q1 q2 ((JJ _ _ (Ne.symm q2)).trans (kept b o q1 e))⟩
end
def mxI:Int->List Int->Int
 |m,[]=>m
 |m,x::xs=>mxI (if x>m then x else m) xs
theorem mQ:∀(xs:List Int) (m:Int),(mxI m xs=m\/mxI m xs∈xs)/\m<=mxI m xs/\∀a∈xs,a<=mxI m xs
 |[],m=>⟨.inl rfl,ZY _,λa h=>by cases h⟩
 |x::xs,m=>by
  obtain⟨h1,h2,h3⟩:=mQ xs (if x>m then x else m);show(mxI (if x>m then x else m) xs=m\/_)/\_;have c1:m<=(if x>m then x else m):=by split<;>lia
  have c2:x<=(if x>m then x else m):=by split<;>lia
  refine⟨?_,Int.le_trans c1 h2,λa ha=>?_⟩
  ·rcases h1 with h1 | h1
   ·by_cases g:x>m
    ·rw[if_pos g] at h1 ⊢;exact .inr (by rw[show mxI m (x::xs)=mxI (if x>m then x else m) xs from rfl,if_pos g,h1];exact Qh)
    ·rw[if_neg g] at h1 ⊢;exact .inl h1
   ·exact .inr (Qj _ h1)
  ·rcases ut.mp ha with z | z
   ·rw[z];exact Int.le_trans c2 h2
   ·exact h3 a z
theorem tV{m M:Int}{xs:List Int}(h1:M∈m::xs)(h2:∀a∈m::xs,a<=M):M=mxI m xs:=by
 obtain⟨q1,q2,q3⟩:=mQ xs m
 have u1:mxI m xs<=M:=by
  rcases q1 with z | z
  ·rw[z];exact h2 m Qh
  ·exact h2 _ (Qj _ z)
 have u2:M<=mxI m xs:=by
  rcases ut.mp h1 with z | z
  ·rw[z];exact q2
  ·exact q3 M z
 lia
def bC:List D->Option (List Int)
 |[]=>some []
 |.int i::ds=>(bC ds).bind λr=>some (i::r)
 |_=>none
theorem kR(l:List Int):bC (l.map D.int)=some l:=by
 induction l with
 |nil=>rfl
 |cons i l ih=>show(bC (l.map D.int)).bind _=_;rw[ih];rfl
theorem c8{K:v0}{G:Hp}{xs:List V}{ds:List D}{ns:List Int}(h:DenL K G xs ds):bC ds=some ns->xs=ns.map V.int:=by
 refine DenL.ind (P:=λxs ds=>∀ns,bC ds=some ns->xs=ns.map V.int) (λns e=>by cases e;rfl) (λ{x d xs ds} h _ y ns e=>?_) h ns;cases d with
 |int i=>
  obtain⟨r,e1,e2⟩:=af (show(bC ds).bind _=some ns from e);cases e2;rw[h.intV,y _ e1];rfl
 |_=>cases e
section
variable{prog:Qs}{w:QC}{Ar:Qy}{Ex:vv->v6->Prop}{t:v6}
theorem vJ{id:String}{b:ZA}{args:List vv}{kw:List (Str×vv)}{Q:vv->v6->Prop}(hk:builtinKind id=none)(hp:plainId id=true)(hb:entryFor table id=some b)(ha:argsOk id ⟨args,kw⟩)
  (hc:wE (Qa prog w) Ar.in1 (b ⟨args,kw⟩) (λfin t'=>match fin with
   |.done f=>match(Except.ok f:Result) with
    |.ok (.ret v)=>Q v t'
    |.ok _=>False
    |.error e=>Ex e t'
   |.again c'=>c'.quiet=true/\Zf (Qa prog w) Ar c' (λr t'=>match r with
    |.ok (.ret v)=>Q v t'
    |.ok _=>False
    |.error e=>Ex e t') t') Ex t):wE (Qa prog w) Ar (call (.builtin id) args kw) Q Ex t:=by
 refine wpAny_call (codeAny_call_builtin hp hb ?_);simp only[checkBuiltinCall,hk];cases sg:Manifest.signature? id with
 |none=>exact wn hc
 |some sig=>
  have ok:Bind.checkArgs id sig ⟨args,kw⟩=pure ():=by simpa only[argsOk,sg] using ha
  simp only[ok];exact wn hc
theorem rR(a d:vv):argsOk "max" ⟨[a],[("default",d)]⟩:=by unfold argsOk;kernel_rfl
theorem zE{l:Addr}{d:vv}{xs:Array (Int×Tok)}{Q:vv->v6->Prop}(hh:Ar.handled=none)(ls:t.heap.IsList l (intItems xs))
  (want:∀v g tk,((xs.size=0/\v=d)\/(0<xs.size/\(intItems xs)[argBest (λi j=>decide (numAt xs i>numAt xs j)) (xs.size-1)]?=some v))->(∀b o,t.heap.get? b=some o->g.get? b=some o)->Q v { t with heap:=g,toks:=tk }) :
  wE (Qa prog w) Ar (call (.builtin "max") [.ref l] [("default",d)]) Q Ex t:=by
 refine vJ F.kind_max F.plain_max F.entry_max (rR _ _) ?_;refine zn (m:=Builtin.Builtins.bindParams "max" ["key","default"] 0 ⟨[],[("default",d)]⟩) (wpAny_of_eq (a:=[none,some d]) rfl (zn (wn ?_)));refine zn (iter_intList ls λt2 e st hfp hl=>?_);subst e;refine zn (QG ?_);have sz:(intItems xs).size=xs.size:=by simp[intItems]
 have W:=Walks.list (prog:=prog) (w:=w) (A:=Ar.in1) hh t.heap.objs.size l hl (intItems xs);have ap:(t.heap.push { cls:=.type "list_iterator",data:=.fields #[.ref l,.int 0 0] }).objs.size∉[t.heap.objs.size,l]:=λz=>Jl _ (hfp _ z);rw[jg];refine wn ⟨plainId_quiet J2 _,sN W (CmpOf.ints_gt (numAt xs) (λ_ _=>intItems_at)) ap (W.frame _ _ _ st λb _ o e=>wf _ e) (Qf _ rfl) λv g tk hv kept=>?_⟩;refine want v g tk (by rw[sz] at hv;exact hv) λb o e=>?_;have lt:=Qb e;refine kept b o (λz=>?_) (Qu (Qw lt (by rw[J1];exact Nat.le_succ _))) (wf _ (wf _ e));rw[xz.mp z] at lt;exact Jl _ lt
end
section
variable{X:Cx}{a c:Expr}{fa fc:Ev->Option D}{pos:Pos}
theorem vw{its:List vv}{ns:List Int}{xs:Array (Int×Tok)}(hi:J0 its ns)(e:its.toArray=intItems xs){v:vv}{m:Int}{r:List Int}(en:ns=m::r)
  (hv:(intItems xs)[argBest (λi j=>decide (numAt xs i>numAt xs j)) (xs.size-1)]?=some v):∃tk,v=.int (mxI m r) tk:=by
 have hns:ns=xs.toList.map (·.1):=by rw[<-hi.numsOf,<-nums_intItems,<-e]
 have hsz:ns.length=xs.size:=by rw[hns];simp
 obtain⟨tk,rfl⟩:=intItems_at hv;obtain⟨b1,b2⟩:=argBest_gt (numAt xs) (xs.size-1);have pos:0<xs.size:=by rw[<-hsz,en];simp
 refine⟨tk,?_⟩
 have hm:numAt xs (argBest (λi j=>decide (numAt xs i>numAt xs j)) (xs.size-1))=mxI m r:=by
  refine tV ?_ λu hu=>?_
  ·rw[<-en,hns,numAt_eq];exact getD_mem (by rw[Qg,Qq];lia)
  ·rw[<-en,hns] at hu
   obtain⟨j,hj,rfl⟩:=mem_getD hu;rw[Qg,Qq] at hj;rw[<-numAt_eq];exact b2 j (by lia)
 rw[hm]
def mV:D->D->Option D:=λx d=>match x with | .lst ds=>(match bC ds with | some []=>some d | some (m::r)=>some (.int (mxI m r)) | none=>none) | _=>none
theorem uO{p kp:Pos}(ha:DE X a fa)(hd:DE X c fc)(hc:X.calm=true)(hm:X.mg "max" = none)(hg:Gl X "max":=by rfl)
  (hst:uk [a] X.env=(false,eval a X.env)::uk [] X.env:=by rfl) (he:Q7 pos (uk [a] X.env)=(false,eval a X.env)::Q7 pos (uk [] X.env):=by rfl) (hpl:(Q7 pos (uk [a] X.env)).any (·.1)=false:=by rfl)
  (hall:(backToKw pos (J8 [⟨some "default",c,kp⟩] X.env)).all (·.1.isSome)=true:=by rfl) (hkw:(backToKw pos (J8 [⟨some "default",c,kp⟩] X.env)).any (·.1.isNone)=false:=by rfl)
  (hnm:(backToKw pos (J8 [⟨some "default",c,kp⟩] X.env)).filterMap (·.1)=[Zv "default"]:=by rfl):DE X (.Call (.Name "max" p) [a] [⟨some "default",c,kp⟩] pos) (e2 mV fa fc):=by
 obtain⟨ta,a1,a2⟩:=ha;obtain⟨tc,c1,c2⟩:=hd;refine⟨λσ H Q=>qq ta vt σ H λvs H1=>qq tc vt σ H1 λzs H2=>∃l ns v,vs=[.ref l]/\zs=[v]/\SqL X.K H2 l (ns.map V.int)/\(ns=[]->Q v H2)/\∀m r,ns=m::r->Q (.int (mxI m r)) H2,λpins s σ H Q I h=>?_,λHe G H σ ε d Q gh E ef q=>?_⟩
 ·refine Z9 (d7 I hg hm boot_max ?_ (by decide) (by decide))
  refine callWith_kw (thn (bD a1 b6 hst pos pins s σ H _ I h) λus s1 ⟨vs,H1,I1,r1,q1⟩=>?_) he hpl hall hkw;refine thn (vE (nm:=some "default") (kpos:=kp) c1 zS pos pins s1 σ H1 _ I1 q1) λws s2 ⟨zs,H2,I2,r2,q2⟩=>?_;obtain⟨l,ns,v,rfl,rfl,hq,qe,qc⟩:=q2;obtain⟨u,rfl,ru⟩:=r1.one;obtain⟨uv,rfl,rv⟩:=r2.one;cases ru;obtain⟨its,r,pl,hz⟩:=I2.list hq;have hi:J0 its ns:=gj r;have⟨xs,e⟩:=hi.allInts.items
  have hsz:ns.length=xs.size:=by
   have:ns=xs.toList.map (·.1):=by rw[<-hi.numsOf,<-nums_intItems,<-e]
   rw[this];simp
  have hl:=pl.isList;rw[e] at hl;rw[hnm];refine zE (I2.ok.hd hc) hl λv' g tk hv kept=>?_;have I3:=I2.kept (t':=tk) kept;rcases hv with⟨z,rfl⟩ | ⟨z,hv⟩
  ·exact⟨v,H2,I3,rv,qe (List.eq_nil_of_length_eq_zero (by lia))⟩
  ·cases en:ns with
   |nil=>rw[en] at hsz;simp at hsz;lia
   |cons m r=>
    obtain⟨tk',rfl⟩:=vw hi e en hv;exact⟨.int (mxI m r),H2,I3,⟨_,rfl⟩,qc m r en⟩
 ·obtain⟨x,e1,ef⟩:=af ef
  obtain⟨y,e2',ef⟩:=af ef;refine a2 He G H σ ε x _ gh E e1 λv1 G1 H1 g1 d1=>?_;refine c2 He G1 H1 σ ε y _ g1.gh (E.grow g1) e2' λv2 G2 H2 g2 d2=>?_;unfold mV at ef;split at ef
  ·obtain⟨l,xs,rfl,h1,h2⟩:=d1.lstV
   have g:=g1.trans g2;split at ef
   ·rename_i et
    cases ef;have:=c8 h2 et;subst this;exact⟨l,[],v2,rfl,rfl,(g2.gg.trans g2.gh).seq h1,λ_=>q _ G2 H2 g d2,λm r z=>(nomatch z)⟩
   ·rename_i m r et
    cases ef;have:=c8 h2 et;subst this
    exact⟨l,m::r,v2,rfl,rfl,(g2.gg.trans g2.gh).seq h1,(λz=>nomatch z),λm' r' z=>by
     cases z
     exact q _ G2 H2 g (.int _)⟩
   ·cases ef
  ·cases ef
def Ay:List D->Option D
 |[.lst ds]=>(match bC ds with | some (m::r)=>some (.int (mxI m r)) | _=>none)
 |_=>none
end
def gU:List D->Option (List Bool)
 |[]=>some []
 |.bl b::ds=>(gU ds).bind λr=>some (b::r)
 |_=>none
theorem rN{K:v0}{G:Hp}{xs:List V}{ds:List D}{ns:List Bool}(h:DenL K G xs ds):gU ds=some ns->xs=ns.map V.bl:=by
 refine DenL.ind (P:=λxs ds=>∀ns,gU ds=some ns->xs=ns.map V.bl) (λns e=>by cases e;rfl) (λ{x d xs ds} h _ y ns e=>?_) h ns;cases d with
 |bl i=>
  obtain⟨r,e1,e2⟩:=af (show(gU ds).bind _=some ns from e);cases e2;rw[h.blV,y _ e1];rfl
 |_=>cases e
theorem nj:∀{bs:List Bool} {us:List vv},aK (bs.map V.bl) us->us=bs.map Value.bool
 |[],_,.nil=>rfl
 |b::bs,_,.cons r rs=>by rw[nj rs,show _=Value.bool b from r];rfl
theorem kT:∀bs:List Bool,(QF bs.length).all (λi=>(bs[i]?).getD true)=bs.all id
 |[]=>rfl
 |b::bs=>by
  rw[Qv,List.range_succ_eq_map,ZV,List.all_map,ZV,<-kT bs];rfl
section
variable{X:Cx}{a b c:Expr}{fa fb fc:Ev->Option D}{pos:Pos}
def l9:List D->Option D
 |[.lst ds]=>(gU ds).bind λbs=>some (.bl (bs.all id))
 |_=>none
theorem zG(hc:X.calm=true):qx X (.builtin "all") l9:=by
 refine⟨λxs H Q=>∃(l:Addr) (bs:List Bool),xs=[.ref l]/\SqL X.K H l (bs.map V.bl)/\Q (.bl (bs.all id)) H,λpins s σ H xs us Q I rv h=>?_,λG H vs ds d Q gh hd e q=>?_⟩
 ·obtain⟨l,bs,rfl,hq,q⟩:=h
  obtain⟨u,rfl,ru⟩:=rv.one;cases ru;obtain⟨its,rr,pl,hz⟩:=I.list hq;have ei:=nj rr;subst ei;have hl:=pl.isList;have lt:l<s.heap.objs.size:=let⟨_,there,_⟩:=hl;Qb there;apply call_all_walk;apply wpAny_pyIter_list hl;refine⟨s.heap.objs.size,_,_,_,_,_,λi=>(bs[i]?).getD true,rfl,Walks.list (A:=X.A.in1) (I.ok.hd hc) _ l (Qu lt) _,⟨⟨_,Qf _ rfl,rfl,rfl⟩,hl.push _⟩,λi v t Q' E' hv hQ=>?_,λg tk kept=>?_⟩
  ·have hv':(bs.map Value.bool)[i]?=some v:=by simpa using hv
   rw[Qm] at hv';obtain⟨k,ek,rfl⟩:=aP hv';have hQ2:Q' k t:=by simpa[ek] using hQ
   exact JD hQ2
  ·refine⟨.bl (bs.all id),H,I.kept (t':=tk) λb o e=>kept b o (λz=>?_) (wf _ e),?_,q⟩
   ·rw[xz.mp z] at e
    exact absurd (Qb e) (Jl _)
   ·have hn:(bs.map Value.bool).toArray.size=bs.length:=by simp
    rw[hn,kT];rfl
 ·unfold l9 at e
  split at e
  ·obtain⟨bs,eb,e⟩:=af e
   cases e
   cases hd with | cons h1 h2=>
    cases h2;obtain⟨l,xs,rfl,h3,h4⟩:=h1.lstV;have:=rN h4 eb;subst this;exact⟨l,bs,rfl,gh.seq h3,q _ G H (.refl gh) (.bl _)⟩
  ·cases e
theorem sr(i j:Nat){x y:Str}{ga:Ev->Option (List D)}{px py pt:Pos}{kt k2 pt2}(hN:X.N.Nodup)(ha:DA X [a,b] ga)(hc:X.calm=true:=by rfl)(hi:X.N[i]?=some x:=by rfl)(hj:X.N[j]?=some y:=by rfl)(hij:i≠j:=by decide)
  (hx:X.env.scope.names.lookup x=some .local:=by rfl) (hy:X.env.scope.names.lookup y=some .local:=by rfl)
  (hw:swappedStores [.Tuple [.Name x px,.Name y py] kt pt] (.Tuple [a,b] k2 pt2) X.env=pure (some [x,y]):=by rfl)
  (hs:swapsWithSole [.Tuple [.Name x px,.Name y py] kt pt] (.Tuple [a,b] k2 pt2) pos.line X.env=pure false:=by rfl) :
  DS X (.Assign [.Tuple [.Name x px,.Name y py] kt pt] (.Tuple [a,b] k2 pt2) pos) (vH i j ga):=by
 obtain⟨t,a1,a2⟩:=ha;refine⟨_,zY hc hN hi hj hij hx hy a1 hw hs,λHe Ge G H σ ε r W S e P=>?_⟩;unfold vH at e;split at e
 ·rename_i dx dy eg
  cases e;refine a2 He G H σ ε _ _ S.g.gh S.e eg λvs G' H' g hd=>?_
  cases hd with | cons h1 h2=>cases h2 with | cons h2 h3=>
   cases h3;exact⟨_,_,rfl,P _ G' H' ⟨S.g.trans g,((S.e.grow g).put h1).put h2⟩⟩
 ·cases e
end
theorem nN{a b:Nat}(h:a≠b):@Ne Addr a b:=h
def SIt(t:Bool)(h:Heap)(it l:Addr)(i:Nat):Prop:=match t with | true=>h.IsTupleIter it l i | false=>h.IsListIter it l i
def SSq(t:Bool)(h:Heap)(l:Addr)(xs:Array vv):Prop:=match t with | true=>h.IsTuple l xs | false=>h.IsList l xs
def SqB(t:Bool)(K:v0)(H:Hp)(l:Addr)(xs:List V):Prop:=match t with | true=>SqT K H l xs | false=>SqL K H l xs
theorem SIt.to{t:Bool}{h h':Heap}{it l:Addr}{i:Nat}(q:SIt t h it l i)(k:∀o,h.get? it=some o->h'.get? it=some o):SIt t h' it l i:=by
 cases t with
 |true=>exact let⟨o,e,r⟩:=q;⟨o,k o e,r⟩
 |false=>exact let⟨o,e,r⟩:=q;⟨o,k o e,r⟩
theorem SSq.to{t:Bool}{h h':Heap}{l:Addr}{xs:Array vv}(q:SSq t h l xs)(k:∀o,h.get? l=some o->h'.get? l=some o):SSq t h' l xs:=by
 cases t with
 |true=>exact let⟨o,e,r⟩:=q;⟨o,k o e,r⟩
 |false=>exact let⟨o,e,r⟩:=q;⟨o,k o e,r⟩
theorem SIt.there{t:Bool}{h:Heap}{it l:Addr}{i:Nat}(q:SIt t h it l i):∃o,h.get? it=some o/\∀v,o.data≠.cell v:=by
 cases t with
 |true=>exact let⟨o,e,c,d⟩:=q;⟨o,e,λv z=>by rw[d] at z;cases z⟩
 |false=>exact let⟨o,e,c,d⟩:=q;⟨o,e,λv z=>by rw[d] at z;cases z⟩
theorem SSq.lt{t:Bool}{h:Heap}{l:Addr}{xs:Array vv}(q:SSq t h l xs):l<h.objs.size:=by
 cases t with
 |true=>exact let⟨o,e,r⟩:=q;Qb e
 |false=>exact let⟨o,e,r⟩:=q;Qb e
theorem dR{X:Cx}{pins:List (Addr×Obj)}{σ:L2.St}{H:Hp}{s:v6}{t:Bool}{a:Addr}{xs:List V}(I:Inv X pins σ H s)(h:SqB t X.K H a xs):∃its:List vv,aK xs its/\SSq t s.heap a its.toArray:=by
 cases t with
 |true=>exact let⟨its,r,p,_⟩:=I.tuple h;⟨its,r,p⟩
 |false=>exact let⟨its,r,p,_⟩:=I.list h;⟨its,r,p.isList⟩
theorem gH{X:Cx}{pins:List (Addr×Obj)}{σ:L2.St}{H:Hp}{s:v6}{t:Bool}{a:Addr}{xs ys:List V}(I:Inv X pins σ H s)(h:SqB t X.K H a xs)(h':SqB t X.K H a ys):xs=ys:=by
 cases t with
 |true=>exact I.tuple_inj h h'
 |false=>exact I.list_inj h h'
section
variable{prog:Qs}{w:QC}{A:Qy}{E:vv->v6->Prop}{s:v6}
theorem yV{it l:Addr}{i:Nat}{items:Array vv}{x:vv}{Q:vv->v6->Prop}(ht:s.heap.IsTupleIter it l i)(hl:s.heap.IsTuple l items)(hx:items[i]?=some x)
  (q:∀h',h'.IsTupleIter it l (i+1)->Q9 it s.heap h'->Q x { s with heap:=h' }):wE (Qa prog w) A (QQ (.ref it)) Q E s:=by
 obtain⟨o,e1,e2,e3⟩:=id ht;obtain⟨u,e4,_,m,e5⟩:=hl;unfold QQ;refine zn (Ji (name:=Zv "__next__") ht.typeIs Zj (Q3 Zj ht.typeIs F.entry_tuple_iterator_next ?_ (F.args_tuple_iterator_next_1 _)))
 change wE _ _ (field (.ref it) 0>>=_) _ _ s
 refine zn (Q2 e1 e3 (x:=.ref l) rfl ?_)
 change wE _ _ (if(QH l==QR)=true then _ else _) _ _ s
 rw[if_neg (show ¬((QH l==QR)=true) from λz=>Bool.noConfusion z)]
 change wE _ _ (field (.ref it) 1>>=_) _ _ s
 refine zn (Q2 e1 e3 (x:=.int i 0) rfl ?_)
 change wE _ _ (seqItems? (.ref l)>>=_) _ _ s
 refine zn (Jo e4 e5 ?_);simp only[hx,JE];refine zn (wpAny_setField e1 e3 (by simp) (wn ⟨x,rfl,wn (q _ ⟨_,Zh _ e1 (Obj.isFreed_of_fields (Kb e3 _)),(Obj.cls_mapFields ..).trans e2,?_⟩ (Jt ..))⟩));rw[Kb e3];simp[rawInt]
theorem nZ{it l:Addr}{i:Nat}{items:Array vv}{Q:vv->v6->Prop}(hh:A.handled=none)(ht:s.heap.IsTupleIter it l i)(hl:s.heap.IsTuple l items)(hx:items[i]?=none)
  (q:∀h' e,Heap.ExtBut it s.heap h'->(∃o,h'.get? e=some o/\o.cls=.type "StopIteration")->E (.ref e) { s with heap:=h' }):wE (Qa prog w) A (QQ (.ref it)) Q E s:=by
 obtain⟨o,e1,e2,e3⟩:=id ht;obtain⟨u,e4,_,m,e5⟩:=hl;unfold QQ;refine zn (Ji (name:=Zv "__next__") ht.typeIs Zj (Q3 Zj ht.typeIs F.entry_tuple_iterator_next ?_ (F.args_tuple_iterator_next_1 _)))
 change wE _ _ (field (.ref it) 0>>=_) _ _ s
 refine zn (Q2 e1 e3 (x:=.ref l) rfl ?_)
 change wE _ _ (if(QH l==QR)=true then _ else _) _ _ s
 rw[if_neg (show ¬((QH l==QR)=true) from λz=>Bool.noConfusion z)]
 change wE _ _ (field (.ref it) 1>>=_) _ _ s
 refine zn (Q2 e1 e3 (x:=.int i 0) rfl ?_)
 change wE _ _ (seqItems? (.ref l)>>=_) _ _ s
 refine zn (Jo e4 e5 ?_);simp only[hx,JE];refine zn (ZQ (zn (wpAny_setField e1 e3 (by simp) ?_)))
 change wE _ _ (newExc (.type "StopIteration") []>>=_) _ _ _
 refine zn ?_;simp only[newTuple,newExc];refine zn (QG (zn (m:=ZM _ _) (wpAny_of_eq (a:=QR) (by first | rfl | (simp only[ZM];rfl)) (QG ?_ (by size_fits)))) (by size_fits));simp only[raiseNew];refine zn (wpAny_handled ?_);rw[hh];exact zn (wn (wpAny_throw (q _ _ (((Jt ..).extBut.push _).push _) ⟨_,Qf _ rfl,rfl⟩)))
theorem yP{t:Bool}{it l:Addr}{i:Nat}{items:Array vv}{x:vv}{Q:vv->v6->Prop}(ht:SIt t s.heap it l i)(hl:SSq t s.heap l items)(hx:items[i]?=some x)
  (q:∀h',SIt t h' it l (i+1)->Q9 it s.heap h'->Q x { s with heap:=h' }):wE (Qa prog w) A (QQ (.ref it)) Q E s:=by
 cases t with
 |true=>exact yV ht hl hx q
 |false=>exact wpAny_nextOf_list_item ht hl hx q
theorem mB{t:Bool}{it l:Addr}{i:Nat}{items:Array vv}{Q:vv->v6->Prop}(hh:A.handled=none)(ht:SIt t s.heap it l i)(hl:SSq t s.heap l items)(hx:items[i]?=none)
  (q:∀h' e,Heap.ExtBut it s.heap h'->(∃o,h'.get? e=some o/\o.cls=.type "StopIteration")->E (.ref e) { s with heap:=h' }):wE (Qa prog w) A (QQ (.ref it)) Q E s:=by
 cases t with
 |true=>exact nZ hh ht hl hx q
 |false=>exact wpAny_nextOf_list_end hh ht hl hx q
theorem xh{t:Bool}{N l1 l2:Nat}{k:Nat}{xs ys:Array vv}{x y a b:vv}{Q:vv->v6->Prop}(p1:l1<N)(p2:l2<N)(hz:IsZip s.heap (N+4) (N+2) (N+3) .none)
  (hI:Jz s.heap (N+2) (.ref N) (.ref (N+1))) (hO:Jz s.heap (N+3) a b) (h1:SIt t s.heap N l1 k) (h2:SIt t s.heap (N+1) l2 k) (g1:SSq t s.heap l1 xs) (g2:SSq t s.heap l2 ys) (hx:xs[k]?=some x) (hy:ys[k]?=some y)
  (q:∀h',IsZip h' (N+4) (N+2) (N+3) (rawInt s.heap.objs.size)->Jz h' (N+3) x y->SIt t h' N l1 (k+1)->SIt t h' (N+1) l2 (k+1)->Jz h' s.heap.objs.size x y->
   (∀c o,c≠N+4->c≠N+3->c≠N->c≠N+1->s.heap.get? c=some o->h'.get? c=some o)->Q (.ref s.heap.objs.size) { s with heap:=h' }) :
  wE (Qa prog w) A (ZA.«zip.__next__» ⟨[.ref (N+4)],[]⟩) (λfin s'=>∃v,fin=.done (.ret v)/\Q v s') E s:=by
 change wE _ _ (field (.ref (N+4)) 2>>=_) _ _ _
 refine zn (Q2 hz rfl (x:=.bool false) rfl ?_);change wE _ _ (field (.ref (N+4)) 3>>=_) _ _ _;refine zn (Q2 hz rfl (x:=.ref (N+2)) rfl (zn (Jo hI rfl ?_)))
 change wE _ _ (JB (.ref (N+4))>>=_) _ _ _
 refine zn ?_;unfold JB;refine zn (Q2 hz rfl (x:=.none) rfl (wn ?_));simp only[if_true];refine zn (ZQ (zn (Q2 hz rfl (x:=.ref (N+3)) rfl (zn (Q8 hz (by simp) λu1 z1 s1=>?_)))))
 replace z1:IsZip u1 (N+4) (N+2) (N+3) .ellipsis:=z1
 refine zn ?_;simp only[List.forIn_cons,List.forIn_nil,List.zipIdx_cons,List.zipIdx_nil];refine zn (zn (wpAny_onRaise ?_));change wE _ _ (QQ (.ref N)>>=_) _ _ _;refine zn (yP (h1.to λo e=>s1.extBut _ o (nN (by lia)) e) (g1.to λo e=>s1.extBut _ o (nN (by lia)) e) hx λu2 i2 s2=>wn ?_);have o2:Jz u2 (N+3) a b:=s2.extBut _ _ (nN (by lia)) (s1.extBut _ _ (nN (by lia)) hO);refine zn (Jo o2 rfl (zn (wpAny_updateSeq_pair o2 λu3 o3 s3=>?_)))
 replace o3:Jz u3 (N+3) x b:=o3
 refine zn (ZF (wn (zn (zn (wpAny_onRaise ?_)))))
 change wE _ _ (QQ (.ref (N+1))>>=_) _ _ _
 refine zn (yP (h2.to λo e=>s3.extBut _ o (nN (by lia)) (s2.extBut _ o (nN (by lia)) (s1.extBut _ o (nN (by lia)) e))) (g2.to λo e=>s3.extBut _ o (nN (by lia)) (s2.extBut _ o (nN (by lia)) (s1.extBut _ o (nN (by lia)) e))) hy λu4 i4 s4=>wn ?_);have o4:Jz u4 (N+3) x b:=s4.extBut _ _ (nN (by lia)) o3;refine zn (Jo o4 rfl (zn (wpAny_updateSeq_pair o4 λu5 o5 s5=>?_)))
 replace o5:Jz u5 (N+3) x y:=o5
 refine zn (ZF (wn (wn (zn (Jo o5 rfl (zn (wpAny_newTuple ?_)))))));have sz:u5.objs.size=s.heap.objs.size:=by rw[s5.1,s4.1,s3.1,s2.1,s1.1]
 have z5:IsZip u5 (N+4) (N+2) (N+3) .ellipsis:=s5.extBut _ _ (nN (by lia)) (s4.extBut _ _ (nN (by lia)) (s3.extBut _ _ (nN (by lia)) (s2.extBut _ _ (nN (by lia)) z1)));have k5:∀c o,c≠N+4->c≠N+3->c≠N->c≠N+1->s.heap.get? c=some o->u5.get? c=some o:=λc o c1 c2 c3 c4 e=>s5.extBut _ _ c2 (s4.extBut _ _ c4 (s3.extBut _ _ c2 (s2.extBut _ _ c3 (s1.extBut _ _ c1 e))));have a5:SIt t u5 N l1 (k+1):=i2.to λo e=>s5.extBut _ o (nN (by lia)) (s4.extBut _ o (nN (by lia)) (s3.extBut _ o (nN (by lia)) e));have b5:SIt t u5 (N+1) l2 (k+1):=i4.to λo e=>s5.extBut _ o (nN (by lia)) e;have zl:N+4<u5.objs.size:=Qb z5
 change wE _ _ (Builtin.SmallTypes.ownedTupleHandOut (.ref (N+4)) (.ref u5.objs.size)>>=_) _ _ _
 refine zn ?_;unfold Builtin.SmallTypes.ownedTupleHandOut;have z6:IsZip (u5.push { cls:=.type "tuple",data:=.seq #[x,y] }) (N+4) (N+2) (N+3) .ellipsis:=wf _ z5;refine zn (Q8 z6 (by simp) λu7 z7 s7=>?_)
 replace z7:IsZip u7 (N+4) (N+2) (N+3) (rawInt u5.objs.size):=z7
 refine Q8 z7 (by simp) λu8 z8 s8=>?_
 replace z8:IsZip u8 (N+4) (N+2) (N+3) (rawInt u5.objs.size):=z8
 have up:∀c o,c≠N+4->u5.get? c=some o->u8.get? c=some o:=λc o c1 e=>s8.extBut _ _ c1 (s7.extBut _ _ c1 (wf _ e));have t8:Jz u8 u5.objs.size x y:=s8.extBut _ _ (nN (by lia)) (s7.extBut _ _ (nN (by lia)) (Qf _ rfl));rw[sz] at z8 t8;refine wn ⟨_,rfl,?_⟩;change Q (.ref u5.objs.size) _;rw[sz];exact q u8 z8 (up _ _ (nN (by lia)) o5) (a5.to λo e=>up _ o (nN (by lia)) e) (b5.to λo e=>up _ o (nN (by lia)) e) t8 λc o c1 c2 c3 c4 e=>up c o c1 (k5 c o c1 c2 c3 c4 e)
theorem yw{t:Bool}{N l1 l2:Nat}{k:Nat}{xs ys:Array vv}{a b:vv}{Q:Fin->v6->Prop}(hh:A.handled=none)(p1:l1<N)(p2:l2<N)(hz:IsZip s.heap (N+4) (N+2) (N+3) .none)
  (hI:Jz s.heap (N+2) (.ref N) (.ref (N+1))) (hO:Jz s.heap (N+3) a b) (h1:SIt t s.heap N l1 k) (h2:SIt t s.heap (N+1) l2 k) (g1:SSq t s.heap l1 xs) (g2:SSq t s.heap l2 ys) (he:xs[k]?=none\/ys[k]?=none)
  (q:∀h' e,(∀c o,c≠N+4->c≠N+3->c≠N->c≠N+1->s.heap.get? c=some o->h'.get? c=some o)->(∃o,h'.get? e=some o/\o.cls=.type "StopIteration")->E (.ref e) { s with heap:=h' }) :
  wE (Qa prog w) A (ZA.«zip.__next__» ⟨[.ref (N+4)],[]⟩) Q E s:=by
 change wE _ _ (field (.ref (N+4)) 2>>=_) _ _ _
 refine zn (Q2 hz rfl (x:=.bool false) rfl ?_);change wE _ _ (field (.ref (N+4)) 3>>=_) _ _ _;refine zn (Q2 hz rfl (x:=.ref (N+2)) rfl (zn (Jo hI rfl ?_)))
 change wE _ _ (JB (.ref (N+4))>>=_) _ _ _
 refine zn ?_;unfold JB;refine zn (Q2 hz rfl (x:=.none) rfl (wn ?_));simp only[if_true];refine zn (ZQ (zn (Q2 hz rfl (x:=.ref (N+3)) rfl (zn (Q8 hz (by simp) λu1 z1 s1=>?_)))))
 replace z1:IsZip u1 (N+4) (N+2) (N+3) .ellipsis:=z1
 refine zn ?_;simp only[List.forIn_cons,List.forIn_nil,List.zipIdx_cons,List.zipIdx_nil];refine zn (zn (wpAny_onRaise ?_));change wE _ _ (QQ (.ref N)>>=_) _ _ _
 have fin:∀{h h':Heap} {e:Addr},IsZip h (N+4) (N+2) (N+3) .ellipsis->Q9 (N+4) h h'->(∃o,h.get? e=some o/\o.cls=.type "StopIteration")->∃o,h'.get? e=some o/\o.cls=.type "StopIteration":=λ{h h' e} hz sb ⟨o,h1,h2⟩=>
  ⟨o,sb.extBut _ _ (λz=>by rw[z,hz] at h1;cases h1;simp at h2) h1,h2⟩
 cases ex:xs[k]? with
 |none=>
  refine zn (mB hh (h1.to λo e=>s1.extBut _ o (nN (by lia)) e) (g1.to λo e=>s1.extBut _ o (nN (by lia)) e) ex λu2 e s2 he=>?_);have z2:IsZip u2 (N+4) (N+2) (N+3) .ellipsis:=s2 _ _ (nN (by lia)) z1;exact Q8 z2 (by simp) λu3 _ s3=>q u3 e (λc o c1 _ c3 _ x=>s3.extBut _ _ c1 (s2 _ _ c3 (s1.extBut _ _ c1 x))) (fin z2 s3 he)
 |some x=>
  have ey:ys[k]?=none:=by
   rcases he with z | z
   ·rw[ex] at z;cases z
   ·exact z
  refine zn (yP (h1.to λo e=>s1.extBut _ o (nN (by lia)) e) (g1.to λo e=>s1.extBut _ o (nN (by lia)) e) ex λu2 i2 s2=>wn ?_);have o2:Jz u2 (N+3) a b:=s2.extBut _ _ (nN (by lia)) (s1.extBut _ _ (nN (by lia)) hO);refine zn (Jo o2 rfl (zn (wpAny_updateSeq_pair o2 λu3 o3 s3=>?_)));refine zn (ZF (wn (zn (zn (wpAny_onRaise ?_)))))
  change wE _ _ (QQ (.ref (N+1))>>=_) _ _ _
  refine zn (mB hh (h2.to λo e=>s3.extBut _ o (nN (by lia)) (s2.extBut _ o (nN (by lia)) (s1.extBut _ o (nN (by lia)) e))) (g2.to λo e=>s3.extBut _ o (nN (by lia)) (s2.extBut _ o (nN (by lia)) (s1.extBut _ o (nN (by lia)) e))) ey λu4 e s4 he=>?_);have z4:IsZip u4 (N+4) (N+2) (N+3) .ellipsis:=s4 _ _ (nN (by lia)) (s3.extBut _ _ (nN (by lia)) (s2.extBut _ _ (nN (by lia)) z1));exact Q8 z4 (by simp) λu5 _ s5=>q u5 e (λc o c1 c2 c3 c4 x=>s5.extBut _ _ c1 (s4 _ _ c4 (s3.extBut _ _ c2 (s2.extBut _ _ c3 (s1.extBut _ _ c1 x))))) (fin z4 s5 he)
theorem y_{t:Bool}{N l1 l2:Nat}{k:Nat}{xs ys:Array vv}{x y a b:vv}{Q:Option vv->v6->Prop}(p1:l1<N)(p2:l2<N)(hz:IsZip s.heap (N+4) (N+2) (N+3) .none)
  (hI:Jz s.heap (N+2) (.ref N) (.ref (N+1))) (hO:Jz s.heap (N+3) a b) (h1:SIt t s.heap N l1 k) (h2:SIt t s.heap (N+1) l2 k) (g1:SSq t s.heap l1 xs) (g2:SSq t s.heap l2 ys) (hx:xs[k]?=some x) (hy:ys[k]?=some y)
  (q:∀h',IsZip h' (N+4) (N+2) (N+3) (rawInt s.heap.objs.size)->Jz h' (N+3) x y->SIt t h' N l1 (k+1)->SIt t h' (N+1) l2 (k+1)->Jz h' s.heap.objs.size x y->
   (∀c o,c≠N+4->c≠N+3->c≠N->c≠N+1->s.heap.get? c=some o->h'.get? c=some o)->Q (some (.ref s.heap.objs.size)) { s with heap:=h' }) :
  wE (Qa prog w) A (pyNext (.ref (N+4))) Q E s:=by
 have ty:s.TypeIs (.ref (N+4)) "zip":=⟨_,hz,rfl⟩;unfold pyNext;exact zn (wpAny_attempt (Ji (name:=Zv "__next__") ty F.slot_zip_next (Q3 F.slot_zip_next ty F.entry_zip_next (xh p1 p2 hz hI hO h1 h2 g1 g2 hx hy λh' a1 a2 a3 a4 a5 a6=>wn (q h' a1 a2 a3 a4 a5 a6)) (F.args_zip_next_1 _))))
theorem oi{t:Bool}{N l1 l2:Nat}{k:Nat}{xs ys:Array vv}{a b:vv}{Q:Option vv->v6->Prop}(hh:A.handled=none)(p1:l1<N)(p2:l2<N)(hz:IsZip s.heap (N+4) (N+2) (N+3) .none)
  (hI:Jz s.heap (N+2) (.ref N) (.ref (N+1))) (hO:Jz s.heap (N+3) a b) (h1:SIt t s.heap N l1 k) (h2:SIt t s.heap (N+1) l2 k) (g1:SSq t s.heap l1 xs) (g2:SSq t s.heap l2 ys) (he:xs[k]?=none\/ys[k]?=none)
  (q:∀h',(∀c o,c≠N+4->c≠N+3->c≠N->c≠N+1->s.heap.get? c=some o->h'.get? c=some o)->Q none { s with heap:=h' }):wE (Qa prog w) A (pyNext (.ref (N+4))) Q E s:=by
 have ty:s.TypeIs (.ref (N+4)) "zip":=⟨_,hz,rfl⟩;unfold pyNext;refine zn (wpAny_attempt (Ji (name:=Zv "__next__") ty F.slot_zip_next (Q3 F.slot_zip_next ty F.entry_zip_next (yw hh p1 p2 hz hI hO h1 h2 g1 g2 he λh' e hk ⟨o,w1,w2⟩=>?_) (F.args_zip_next_1 _))));exact zn (wpAny_isInstance (T:="StopIteration") (b:=true) ⟨o,w1,w2⟩ isSubtype_stop (wn (q _ hk)))
end
def iJ(t:Bool)(h:Heap)(l1 l2:Addr):Heap:=
 ((((h.push { cls:=.type (if t then "tuple_iterator" else "list_iterator"),data:=.fields #[.ref l1,.int 0 0] }).push { cls:=.type (if t then "tuple_iterator" else "list_iterator"),data:=.fields #[.ref l2,.int 0 0] }).push
  { cls:=.type "tuple",data:=.seq #[.ref h.objs.size,.ref (h.objs.size+1)] }).push { cls:=.type "tuple",data:=.seq #[.none,.none] }).push
  { cls:=.type "zip",data:=.fields #[.none,.bool false,.bool false,.ref (h.objs.size+2),.ref (h.objs.size+3)] }
theorem uo(l1 l2:Addr)(xs ys:Array vv):Meets (ZA.«zip.__new__» ⟨[.type "zip",.ref l1,.ref l2],[]⟩) (λ_ R s=>s.heap.IsTuple l1 xs/\s.heap.IsTuple l2 ys/\
   R (.ok (.ret (.ref (s.heap.objs.size+4)))) { s with heap:=iJ true s.heap l1 l2 }):=
 .of_wp λprog w A R s h=>by
  obtain⟨hp,g,d,tk,os⟩:=s;obtain⟨q1,q2,h⟩:=h;have hsub:=sub_zip;have w1:Heap.IsTuple (Shared.heap ⟨hp,g,d,tk,os⟩) l1 xs:=q1;have w2:Heap.IsTuple (Shared.heap ⟨hp.push { cls:=.type "tuple_iterator",data:=.fields #[.ref l1,.int 0 0] },g,d,tk,os⟩) l2 ys:=Heap.IsTuple.push q2 _
  wp_walk using wpAny_pyIter_tuple w1,wpAny_pyIter_tuple w2
  simp only[J1] at *;exact⟨_,rfl,h⟩
theorem sO(t:Bool)(h:Heap)(l1 l2:Addr):IsZip (iJ t h l1 l2) (h.objs.size+4) (h.objs.size+2) (h.objs.size+3) .none/\Jz (iJ t h l1 l2) (h.objs.size+2) (.ref h.objs.size) (.ref (h.objs.size+1))/\
  Jz (iJ t h l1 l2) (h.objs.size+3) .none .none/\SIt t (iJ t h l1 l2) h.objs.size l1 0/\SIt t (iJ t h l1 l2) (h.objs.size+1) l2 0/\∀c o,h.get? c=some o->(iJ t h l1 l2).get? c=some o:=by
 have lay:∀(g:Heap) (o:Obj) (n:Nat),g.objs.size=n->o.isFreed=false->(g.push o).get? n=some o:=λg o n e f=>by rw[<-e];exact Qf _ f
 unfold iJ;refine⟨lay _ _ _ (by simp[J1]) rfl,?_,?_,?_,?_,λc o e=>?_⟩
 ·exact wf _ (wf _ (lay _ _ _ (by simp[J1]) rfl))
 ·exact wf _ (lay _ _ _ (by simp[J1]) rfl)
 ·cases t<;>exact⟨_,wf _ (wf _ (wf _ (wf _ (lay _ _ _ rfl rfl)))),rfl,rfl⟩
 ·cases t<;>exact⟨_,wf _ (wf _ (wf _ (lay _ _ _ (by simp[J1]) rfl))),rfl,rfl⟩
 ·exact wf _ (wf _ (wf _ (wf _ (wf _ e))))
theorem qZ{prog:Qs}{w:QC}{A:Qy}{E:vv->v6->Prop}{s:v6}{t:Bool}{l1 l2:Addr}{xs ys:Array vv}{Q:vv->v6->Prop}(g1:SSq t s.heap l1 xs)(g2:SSq t s.heap l2 ys)
  (q:∀h',IsZip h' (s.heap.objs.size+4) (s.heap.objs.size+2) (s.heap.objs.size+3) .none->Jz h' (s.heap.objs.size+2) (.ref s.heap.objs.size) (.ref (s.heap.objs.size+1))->Jz h' (s.heap.objs.size+3) .none .none->
   SIt t h' s.heap.objs.size l1 0->SIt t h' (s.heap.objs.size+1) l2 0->(∀c o,s.heap.get? c=some o->h'.get? c=some o)->Q (.ref (s.heap.objs.size+4)) { s with heap:=h' }):wE (Qa prog w) A (call (.type "zip") [.ref l1,.ref l2]) Q E s:=by
 cases t with
 |false=>exact call_zip_2 g1 g2 λh' a1 a2 a3 a4 a5 _ a6=>q h' a1 a2 a3 a4 a5 a6
 |true=>
  obtain⟨a1,a2,a3,a4,a5,a6⟩:=sO true s.heap l1 l2;exact callType_new F.called_zip (by decide) (F.typeCall_zip_2 _ _) (F.newCall_zip_2 _ _) (λob=>F.args_object_init_3 ob _ _) F.entry_zip_new (uo l1 l2 xs ys) ⟨g1,g2,⟨_,a1,rfl⟩,q _ a1 a2 a3 a4 a5 a6⟩
theorem fE{X:Cx}{pins:List (Addr×Obj)}{σ:L2.St}{H:Hp}{s:v6}{h':Heap}{t':Nat}{fp:List Addr}(I:Inv X pins σ H s)(k:∀b o,b∉fp->s.heap.get? b=some o->h'.get? b=some o)(hf:∀b∈fp,fQ X pins H b):Inv X pins σ H { s with heap:=h',toks:=t' }:=by
 refine I.step (g':=s.gens) (d':=s.drawn) (ch:=fp) (λb hb=>⟨(hf b hb).2.2.2.1,(hf b hb).2.1,(hf b hb).2.2.2.2.1,(hf b hb).2.2.2.2.2⟩) (λb o _ _ hc e _=>k b o hc e) (λb o _ _ hc e _=>⟨o.slots,k b o hc e⟩) (λ_ _ _ _ n=>n) (λb o hc e=>⟨o,k b o hc e⟩) (λ_ _ e=>e) (λ_ _ _ e=>e)
  (λb ps e=>⟨#[],by rw[e];simp⟩) (λm hm=>?_) (λb u e=>?_) I.bare
 ·obtain⟨o,es,ep,ho,r⟩:=hm
  exact⟨o,es,ep,k _ o (λz=>(hf _ z).2.1 rfl) ho,r⟩
 ·refine(I.hok b u e).stay (λc v hc q=>k c v (λz=>?_) q) (λ_ q=>q) λ_ _ q=>q
  have nc:=(hf c z).1;rcases hc with w | w
  ·rw[w,e] at nc;cases nc
  ·rw[w] at nc;cases nc
def Itz(t:Bool)(K:v0)(l1 l2:Addr):It:=
 ⟨λi H=>∃xs ys x y,SqB t K H l1 xs/\SqB t K H l2 ys/\xs[i]?=some x/\ys[i]?=some y,
  λi H v H'=>∃p x y,v=.ref p/\H p=none/\H'=upd H p (.tup [x,y])/\(∀xs,SqB t K H l1 xs->xs[i]?=some x)/\(∀ys,SqB t K H l2 ys->ys[i]?=some y),
  λi H=>∃xs ys,SqB t K H l1 xs/\SqB t K H l2 ys/\(xs.length<=i\/ys.length<=i)⟩
def zfp(N:Nat):List Addr:=[N+4,N+2,N+3,N,N+1]
theorem uY{P:Qs}{w:QC}{K:v0}{es:List Expr}{k0:Nat}{tpos:Pos}(t:Bool)(N l1 l2:Nat)(p1:l1<N)(p2:l2<N) :
  Turn P w K (.Tuple es k0 tpos) (Itz t K l1 l2) (zfp N) (N+4) (λi h=>IsZip h (N+4) (N+2) (N+3) .none/\Jz h (N+2) (.ref N) (.ref (N+1))/\(∃a b,Jz h (N+3) a b)/\SIt t h N l1 i/\SIt t h (N+1) l2 i) where
 mem:=by simp[zfp]
 obj:=λi h ⟨h1,h2,⟨a,b,h3⟩,h4,h5⟩ c hc=>by
  simp only[zfp,ut,J3,or_false] at hc;rcases hc with rfl | rfl | rfl | rfl | rfl
  ·exact⟨_,h1,λv z=>by cases(show Data.fields _=Data.cell v from z)⟩
  ·exact⟨_,h2,λv z=>by cases(show Data.seq _ _=Data.cell v from z)⟩
  ·exact⟨_,h3,λv z=>by cases(show Data.seq _ _=Data.cell v from z)⟩
  ·exact h4.there
  ·exact h5.there
 keep:=λi h h' ⟨h1,h2,⟨a,b,h3⟩,h4,h5⟩ k=>⟨k _ (by simp[zfp]) _ h1,k _ (by simp[zfp]) _ h2,⟨a,b,k _ (by simp[zfp]) _ h3⟩,h4.to λo e=>k _ (by simp[zfp]) o e,h5.to λo e=>k _ (by simp[zfp]) o e⟩
 item:=by
  intro X hP hw hK hc i pins s σ H E I hf st hg;subst hP hw hK;obtain⟨h1,h2,⟨a,b,h3⟩,h4,h5⟩:=st;obtain⟨xs,ys,x,y,q1,q2,ex,ey⟩:=hg;obtain⟨is1,r1,g1⟩:=dR I q1;obtain⟨is2,r2,g2⟩:=dR I q2;obtain⟨u,eu,ru⟩:=r1.get ex;obtain⟨v,ev,rv⟩:=r2.get ey;refine y_ p1 p2 h1 h2 h3 h4 h5 g1 g2 (x:=u) (y:=v) (by simpa using eu) (by simpa using ev) λh' a1 a2 a3 a4 a5 a6=>⟨_,rfl,?_⟩;refine wpAny_letOwnedTupleGo_zip (s:={ s with heap:=h' }) a1 λh'' b1 b2=>?_;have zl:N+4<s.heap.objs.size:=Qb h1;have nn:H s.heap.objs.size=none:=I.hok.fresh (wp _)
  have I1:Inv X pins σ (upd H s.heap.objs.size (.tup [x,y])) { s with heap:=s.heap.push { cls:=.type "tuple",data:=.seq #[u,v] } }:=
   I.laid (t':=s.toks) (λb o e=>wf _ e) (wp _) ⟨show 2<=Qt by decide,[u,v],.cons ru (.cons rv .nil),⟨_,Qf _ rfl,rfl,_,rfl⟩⟩
  have ne:∀b∈zfp N,b≠s.heap.objs.size:=λc hc=>by
   simp only[zfp,ut,J3,or_false] at hc;rcases hc with rfl | rfl | rfl | rfl | rfl<;>exact nN (by lia)
  have f1:∀b∈zfp N,fQ X pins (upd H s.heap.objs.size (.tup [x,y])) b:=λc hc=>⟨by rw[aD (ne c hc)];exact(hf c hc).1,(hf c hc).2⟩
  have k2:∀c o,c∉zfp N->(s.heap.push { cls:=.type "tuple",data:=.seq #[u,v] }).get? c=some o->h''.get? c=some o:=λc o hc e=>by
   simp only[zfp,ut,J3,or_false,not_or] at hc;obtain⟨c1,c2,c3,c4,c5⟩:=hc;refine b2.extBut _ _ c1 ?_
   by_cases z:c=s.heap.objs.size
   ·subst z
    rw[Qf _ rfl] at e;cases e;exact a5
   ·exact a6 c o c1 c3 c4 c5 ((Heap.get?_push_ne _ _ _ z).symm.trans e)
  have I2:=fE (h':=h'') (t':=s.toks) I1 k2 f1;refine⟨.ref s.heap.objs.size,_,I2,rfl,⟨_,x,y,rfl,nn,rfl,λzs hz=>?_,λzs hz=>?_⟩,⟨b1,b2.extBut _ _ (nN (by lia)) (a6 _ _ (nN (by lia)) (nN (by lia)) (nN (by lia)) (nN (by lia)) h2),⟨_,_,b2.extBut _ _ (nN (by lia)) a2⟩,a3.to λo e=>b2.extBut _ o (nN (by lia)) e,a4.to λo e=>b2.extBut _ o (nN (by lia)) e⟩,λc hc=>(f1 c hc).1⟩
  ·rw[gH I hz q1];exact ex
  ·rw[gH I hz q2];exact ey
 done:=by
  intro X hP hw hK hc i pins s σ H E I hf st hg;subst hP hw hK;obtain⟨h1,h2,⟨a,b,h3⟩,h4,h5⟩:=st;obtain⟨xs,ys,q1,q2,he⟩:=hg;obtain⟨is1,r1,g1⟩:=dR I q1;obtain⟨is2,r2,g2⟩:=dR I q2;have n1:=r1.length;have n2:=r2.length;refine oi (I.ok.hd hc) p1 p2 h1 h2 h3 h4 h5 g1 g2 (he.elim (λz=>.inl (by simp;lia)) λz=>.inr (by simp;lia)) λh' hk=>⟨rfl,fE (t':=s.toks) I (λc o hc e=>?_) hf⟩;simp only[zfp,ut,J3,or_false,not_or] at hc;exact hk c o hc.1 hc.2.2.1 hc.2.2.2.1 hc.2.2.2.2 e
 self:=λ_ _ _ _ _ st h=>wpAny_pyIter_zip st.1 h
section
variable{X:Cx}{a b:Expr}{pos:Pos}
def Ae(K:v0)(ta:TA):TI:=λσ H R=>ta σ H λvs H1=>∃t l1 l2 xs ys,vs=[.ref l1,.ref l2]/\SqB t K H1 l1 xs/\SqB t K H1 l2 ys/\R (Itz t K l1 l2) H1
theorem yz{es:List Expr}{k0:Nat}{tpos p:Pos}{ta:TA}(hg:Gl X "zip")(hm:X.mg "zip" = none)(ha:PA X [a,b] ta)(hs:uk [a,b] X.env=[(false,eval a X.env),(false,eval b X.env)]:=by rfl)(hs2:uk [b] X.env=[(false,eval b X.env)]:=by rfl) :
  PI X (.Tuple es k0 tpos) (.Call (.Name "zip" p) [a,b] [] pos) (Ae X.K ta):=by
 intro pins s σ H R I h;refine Call_ (d7 I hg hm boot_zip (Jh (thn (ha pos pins s σ H _ I h) λus s1 ⟨vs,H1,I1,r1,q1⟩=>?_) (by rw[hs,hs2]) (by rw[hs2];rfl)));obtain⟨t,l1,l2,xs,ys,e,q1,q2,q⟩:=q1;subst e
 cases r1 with | cons r rr=>cases rr with | cons r' rr=>
  cases rr;cases r;cases r';obtain⟨is1,w1,g1⟩:=dR I1 q1;obtain⟨is2,w2,g2⟩:=dR I1 q2;refine qZ g1 g2 λh' a1 a2 a3 a4 a5 a6=>wpAny_pyIter_zip a1 ?_;refine⟨s1.heap.objs.size+4,zfp s1.heap.objs.size,_,_,H1,rfl,I1.kept (t':=s1.toks) a6,uY t s1.heap.objs.size l1 l2 g1.lt g2.lt,⟨a1,a2,⟨_,_,a3⟩,a4,a5⟩,λc hc=>?_,q⟩
  have lc:s1.heap.objs.size<=c:=by
   simp only[zfp,ut,J3,or_false] at hc;rcases hc with rfl | rfl | rfl | rfl | rfl<;>(show @LE.le Nat _ _ _;lia)
  exact I1.fpOk lc (I1.hok.fresh lc)
def jr(xs ys:List D):List D:=List.zipWith (λx y=>D.tup [x,y]) xs ys
def uT(f:Ev->Option (List D)):Ev->Option (List D):=λε=>match f ε with
 |some [.lst xs,.lst ys]=>some (jr xs ys)
 |some [.tup xs,.tup ys]=>some (jr xs ys)
 |_=>none
theorem yj{K:v0}{G:Hp}{t:Bool}{l1 l2:Addr}{xs ys:List V}{ds es:List D}(h1:SqB t K G l1 xs)(h2:SqB t K G l2 ys)(d1:DenL K G xs ds)(d2:DenL K G ys es):ItD K (Itz t K l1 l2) (jr ds es) G:=by
 intro i H2 s2
 have up:∀{l:Addr} {zs:List V},SqB t K G l zs->SqB t K H2 l zs:=λ{l zs} h=>by
  cases t with
  |true=>exact aC s2 h
  |false=>exact s2.seq h
 have n1:=d1.length;have n2:=d2.length;have nz:(jr ds es).length=min ds.length es.length:=by simp[jr]
 refine⟨λhi=>?_,λhi=>⟨xs,ys,up h1,up h2,by rw[nz] at hi;lia⟩,?_⟩
 ·rw[nz] at hi
  exact⟨xs,ys,xs[i]'(by lia),ys[i]'(by lia),up h1,up h2,by simp,by simp⟩
 ·rintro v H3 ⟨p,x,y,rfl,hn,rfl,w1,w2⟩ d ed G2 s3 s4
  have e1:=w1 xs (up h1);have e2:=w2 ys (up h2);obtain⟨d1',f1,f2⟩:=d1.getV e1;obtain⟨d2',f3,f4⟩:=d2.getV e2;have:(jr ds es)[i]?=some (.tup [d1',d2']):=by simp[jr,List.getElem?_zipWith,f1,f3]
  rw[this] at ed;cases ed;have g:=Grow.new (.tup [x,y]) s4 hn;refine⟨_,g,.tup (xs:=[x,y]) (.inl (.inl aE)) (.cons ((f2.mono s3).mono g.gg) (.cons ((f4.mono s3).mono g.gg) .nil))⟩
theorem yF{es:List Expr}{k0:Nat}{tpos p:Pos}{f:Ev->Option (List D)}(h:DA X [a,b] f)(hm:X.mg "zip" = none)(hg:Gl X "zip":=by rfl)(hs:uk [a,b] X.env=[(false,eval a X.env),(false,eval b X.env)]:=by rfl)(hs2:uk [b] X.env=[(false,eval b X.env)]:=by rfl) :
  DI X (.Tuple es k0 tpos) (.Call (.Name "zip" p) [a,b] [] pos) (uT f):=by
 obtain⟨t,a1,a2⟩:=h;refine⟨_,yz hg hm a1 hs hs2,λHe G H σ ε ds R gh E ef q=>?_⟩;unfold uT at ef;split at ef
 ·rename_i e1
  cases ef;refine a2 He G H σ ε _ _ gh E e1 λvs G1 H1 g1 hd=>?_
  cases hd with | cons h1 hd=>cases hd with | cons h2 hd=>
   cases hd;obtain⟨l1,xs,rfl,w1,w2⟩:=h1.lstV;obtain⟨l2,ys,rfl,w3,w4⟩:=h2.lstV;exact⟨false,l1,l2,xs,ys,rfl,g1.gh.seq w1,g1.gh.seq w3,q _ G1 H1 g1 (yj (t:=false) w1 w3 w2 w4)⟩
 ·rename_i e1
  cases ef;refine a2 He G H σ ε _ _ gh E e1 λvs G1 H1 g1 hd=>?_
  cases hd with | cons h1 hd=>cases hd with | cons h2 hd=>
   cases hd;obtain⟨l1,xs,rfl,w1,w2⟩:=h1.tupV;obtain⟨l2,ys,rfl,w3,w4⟩:=h2.tupV;exact⟨true,l1,l2,xs,ys,rfl,aC g1.gh w1,aC g1.gh w3,q _ G1 H1 g1 (yj (t:=true) w1 w3 w2 w4)⟩
 ·cases ef
end
def flD:D->Option V
 |.non=>some .non
 |.bl b=>some (.bl b)
 |.int i=>some (.int i)
 |.str x=>some (.str x)
 |_=>none
def qW:List D->Option (List V)
 |[]=>some []
 |d::ds=>(flD d).bind λv=>(qW ds).bind λr=>some (v::r)
def B1:D->Option (List D)
 |.lst ds=>some ds
 |.tup ds=>some ds
 |_=>none
def inD(neg:Bool):D->D->Option D:=λx y=>(flD x).bind λv=>(B1 y).bind λds=>(qW ds).bind λvs=>some (.bl (if neg then !inV v vs else inV v vs))
theorem oX{K:v0}{G:Hp}{v w:V}{d:D}(h:Den K G v d)(e:flD d=some w):v=w/\eG v=true:=by
 cases h<;>cases e<;>exact⟨rfl,rfl⟩
theorem jv{K:v0}{G:Hp}:∀{xs:List V} {ds:List D} {ws:List V},DenL K G xs ds->qW ds=some ws->xs=ws/\xs.all eG=true
 |_,_,_,.nil,e=>by cases e;exact⟨rfl,rfl⟩
 |_,_,_,.cons h hs,e=>by
  obtain⟨v,e1,e⟩:=af e;obtain⟨r,e2,e⟩:=af e;cases e;obtain⟨rfl,f1⟩:=oX h e1;obtain⟨rfl,f2⟩:=jv hs e2;exact⟨rfl,by rw[ZV,f1,f2];rfl⟩
section
variable{X:Cx}{a b c:Expr}{fa fb fc:Ev->Option D}{pos:Pos}
theorem xc{neg:Bool}(G H:Hp)(x y:V)(dx dy d:D)(Q:VK)(gh:aF G H)(hx:bA X.K G H x dx)(hy:bA X.K G H y dy)(e:inD neg dx dy=some d)(q:∀v G' H',Grow G H G' H'->Den X.K G' v d->Q v H'):rIn X.K neg x y H Q:=by
 obtain⟨v,e1,e⟩:=af e;obtain⟨ds,e2,e⟩:=af e;obtain⟨vs,e3,e⟩:=af e;cases e
 have hx':Den X.K G x dx:=by
  rcases hx with h | ⟨_,_,_,_,rfl,_⟩
  ·exact h
  ·cases e1
 obtain⟨rfl,f1⟩:=oX hx' e1;cases dy with
 |lst es=>
  cases e2;obtain⟨p,xs,rfl,h1,h2⟩:=hy.lst gh;obtain⟨rfl,f2⟩:=jv h2 e3;exact⟨p,_,rfl,.inl h1,f1,f2,q _ G H (.refl gh) (.bl _)⟩
 |tup es=>
  cases e2;obtain⟨p,xs,rfl,_,h1,h2⟩:=hy.tup gh;obtain⟨rfl,f2⟩:=jv h2 e3;exact⟨p,_,rfl,.inr h1,f1,f2,q _ G H (.refl gh) (.bl _)⟩
 |_=>cases e2
theorem AD:OpD X (QD .In) (inD false):=⟨_,rE,xc⟩
end
def Ak:D->Bool
 |.tup _=>false
 |.lst _=>false
 |.dic _=>false
 |_=>true
theorem Den.scal{K:v0}{G G':Hp}{v:V}{d:D}(h:Den K G v d)(s:Ak d=true):Den K G' v d:=by
 cases h with
 |non=>exact .non
 |bl b=>exact .bl b
 |int i=>exact .int i
 |str x=>exact .str x
 |tup _ _=>cases s
 |lst _ _=>cases s
 |dic _ _ _=>cases s
section
variable{X:Cx}{a b c:Expr}{fa fb fc:Ev->Option D}{pos:Pos}
def xb(f f':D->D->Option D)(fa fb fc:Ev->Option D):Ev->Option Bool:=λε=>asB (eCh f f' fa fb fc ε)
theorem AV{op op':CmpOp}{f f':D->D->Option D}(ho:OpD X (QD op) f)(ho':OpD X (QD op') f')(ha:DB X a fa)(hb:DB X b fb)(hc:DB X c fc)(hm:lastMarks [op,op'] [b,c]=false:=by with_unfolding_all rfl) :
  DT X (.Compare a [op,op'] [b,c] pos) (xb f f' fa fb fc):=by
 obtain⟨r,o1,o2⟩:=ho;obtain⟨r',p1,p2⟩:=ho';obtain⟨ta,a1,a2⟩:=ha;obtain⟨tb,b1,b2⟩:=hb;obtain⟨tc,c1,c2⟩:=hc;refine⟨_,uF o1 p1 a1 b1 c1 hm,λHe G H σ ε k Q gh E ef q=>?_⟩;obtain⟨x,e1,ef⟩:=af (l6 ef);obtain⟨y,e2,ef⟩:=af ef;obtain⟨z,e3,ef⟩:=af ef;refine a2 He G H σ ε x _ gh E e1 λv G1 H1 g1 d1=>?_;refine b2 He G1 H1 σ ε y _ g1.gh (E.grow g1) e2 λu G2 H2 g2 d2=>?_;split at ef
 ·rename_i j
  refine o2 G2 H2 v u x y (.bl j) _ g2.gh (d1.grow g2) d2 e3 λw G3 H3 g3 d3=>⟨j,d3.blV,?_⟩;cases j with
  |true=>
   rw[if_pos rfl] at ef ⊢;obtain⟨w',e4,ef⟩:=af ef;refine c2 He G3 H3 σ ε w' _ g3.gh (((E.grow g1).grow g2).grow g3) e4 λv4 G4 H4 g4 d4=>?_;exact p2 G4 H4 u v4 y w' (.bl k) _ g4.gh ((d2.grow g3).grow g4) d4 ef λv5 G5 H5 g5 d5=>⟨k,d5.blV,q G5 H5 (g1.trans (g2.trans (g3.trans (g4.trans g5))))⟩
  |false=>
   rw[if_neg ww] at ef ⊢;cases ef;exact⟨false,rfl,q _ _ (g1.trans (g2.trans g3))⟩
 ·cases ef
end
structure Wq where
 (P:Qs)
 (w:QC)
 (K:v0)
 (mg:Str->Option vv)
def FB(Z:Wq)(x:Str)(st:Stmt)(ps:List Str)(f:Addr)(fd:Q5):Prop:=FA Z.K Z.mg x st ps f fd/\∀us:List vv,us.length=ps.length->bindArgs fd ⟨us,[]⟩=pure (ps.zip us)
def FX(Z:Wq)(x:Str)(st:Stmt)(ps:List Str):Prop:=∃f fd,FB Z x st ps f fd
def OkD(Z:Wq)(x:Str)(st:Stmt)(ps:List Str)(n:Nat)(F:List D->Option D):Prop:=∃f fd,FB Z x st ps f fd/\∀base,FnOk Z.P Z.w Z.K Z.mg base CX0 n f fd ps (spF Z.K F)
def OkB(Z:Wq)(x:Str)(st:Stmt)(ps:List Str)(n:Nat)(F:List D->Option D)(FO:List D->Option (List D)):Prop:=∃f fd,FB Z x st ps f fd/\(∀base,FnOk Z.P Z.w Z.K Z.mg base CX0 n f fd ps (spF Z.K F))/\∀base,FnOk Z.P Z.w Z.K Z.mg base CX0 n f fd ps (spO Z.K FO)
section
variable{Z:Wq}{x:Str}{st:Stmt}{ps N:List Str}{k:Nat}{g:Ev->Option Fl}
theorem bdF(R:FX Z x st ps)(hb:∀(d:N.Nodup) (f:Addr) (base:Heap) (cdv:vv) (A:Qy) (outer:List Env) (s:v6) (H:Hp) (E:XK),Room k (A.deeper (envOfC x (aI st) s.heap.objs.size f cdv))->DSs (iM CX0 Z.P Z.w Z.K Z.mg base N x (aI st) f cdv A outer s H E).nox (bw st) g)
  (S:FnScope N ps (aI st):=by exact⟨rfl,rfl,rfl,by decide +kernel,rfl,by decide +kernel,by decide +kernel⟩):OkD Z x st ps (k+1) (fnD N ps g):=
 let⟨f,fd,A⟩:=R;⟨f,fd,A,λbase=>lJ A.1.fu S (hb S.nd f base)⟩
theorem bdB(R:FX Z x st ps)(hb:∀(d:N.Nodup) (f:Addr) (base:Heap) (cdv:vv) (A:Qy) (outer:List Env) (s:v6) (H:Hp) (E:XK),Room k (A.deeper (envOfC x (aI st) s.heap.objs.size f cdv))->DSs (iM CX0 Z.P Z.w Z.K Z.mg base N x (aI st) f cdv A outer s H E).nox (bw st) g)
  (S:FnScope N ps (aI st):=by exact⟨rfl,rfl,rfl,by decide +kernel,rfl,by decide +kernel,by decide +kernel⟩):OkB Z x st ps (k+1) (fnD N ps g) (fnO N ps g):=
 let⟨f,fd,A⟩:=R;⟨f,fd,A,λbase=>lJ A.1.fu S (hb S.nd f base),λbase=>sP A.1.fu S (hb S.nd f base)⟩
theorem OkB.d{n:Nat}{F:List D->Option D}{FO:List D->Option (List D)}(H:OkB Z x st ps n F FO):OkD Z x st ps n F:=let⟨f,fd,A,a,_⟩:=H;⟨f,fd,A,a⟩
theorem Bw{P:Qs}{w:QC}{K:v0}{mg:Str->Option vv}{h:Heap}{f:Addr}{oc:vv}{od an:Option Addr}{osl:Array (Option vv)}{kV doc pm cdv ct:vv}(X:K.In h)(G:h.Ns Qz mg)
  (a:Q1 K Qz x=some (some (.ref f)))
  (l:K.lookup f=some ⟨oc,od,.func (JI x x (cN st) (bw st) (aI st) .none kV doc pm an cdv ct),osl⟩)
  (c:PySem.W.codeIn K cdv x=true) (k:Zs K (.ref f)=true)
  (hb:∀(kV doc pm:vv) (an:Option Addr) (cdv ct:vv) (us:List vv),us.length=ps.length->bindArgs (JI x x (cN st) (bw st) (aI st) .none kV doc pm an cdv ct) ⟨us,[]⟩=pure (ps.zip us)):FX ⟨P,w,K,mg⟩ x st ps:=
 ⟨f,_,As X G a l c k hb,hb kV doc pm an cdv ct⟩
theorem zh{P:Qs}{w:QC}{K:v0}{mg:Str->Option vv}{n:Nat}{F:List D->Option D}{y:Str}{fa:Addr}(H:OkD ⟨P,w,K,mg⟩ x st [y] n F)(hfa:mg x=some (.ref fa)) :
  ∃fd:Q5,(∀(s:v6) (v:vv),BindsTo s fd ⟨[v],[]⟩ [(y,v)])/\∀base:Heap,K.In base->base.Ns Qz mg->FnOk P w K mg base CX0 n fa fd [y] (spF K F):=by
 obtain⟨f,fd,⟨A,b⟩,G⟩:=H;have e:=A.mgf.symm.trans hfa;cases e;exact⟨fd,λs v=>.of_eq (b [v] rfl),λbase _ _=>G base⟩
end
theorem bL{α:Type}{p:List α->Prop}{n:Nat}(h:∀(a:α) (r:List α),r.length=n->p (a::r)):∀us:List α,us.length=n+1->p us
 |[],e=>by cases e
 |a::r,e=>h a r (Nat.succ.inj e)
theorem l_{α:Type}{p:List α->Prop}(h:p []):∀us:List α,us.length=0->p us
 |[],_=>h
 |_::_,e=>by cases e
theorem BG{α:Type}{p:List α->Prop}(h:∀a0,p [a0]):∀us:List α,us.length=1->p us:=bL λa0=>(l_ (h a0))
theorem B5{α:Type}{p:List α->Prop}(h:∀a0 a1,p [a0,a1]):∀us:List α,us.length=2->p us:=bL λa0=>bL λa1=>(l_ (h a0 a1))
theorem BH{α:Type}{p:List α->Prop}(h:∀a0 a1 a2,p [a0,a1,a2]):∀us:List α,us.length=3->p us:=bL λa0=>bL λa1=>bL λa2=>(l_ (h a0 a1 a2))
theorem BX{α:Type}{p:List α->Prop}(h:∀a0 a1 a2 a3,p [a0,a1,a2,a3]):∀us:List α,us.length=4->p us:=bL λa0=>bL λa1=>bL λa2=>bL λa3=>(l_ (h a0 a1 a2 a3))
theorem len5{α:Type}{p:List α->Prop}(h:∀a0 a1 a2 a3 a4,p [a0,a1,a2,a3,a4]):∀us:List α,us.length=5->p us:=bL λa0=>bL λa1=>bL λa2=>bL λa3=>bL λa4=>(l_ (h a0 a1 a2 a3 a4))
theorem BC{α:Type}{p:List α->Prop}(h:∀a0 a1 a2 a3 a4 a5,p [a0,a1,a2,a3,a4,a5]):∀us:List α,us.length=6->p us:=bL λa0=>bL λa1=>bL λa2=>bL λa3=>bL λa4=>bL λa5=>(l_ (h a0 a1 a2 a3 a4 a5))
theorem BI{α:Type}{p:List α->Prop}(h:∀a0 a1 a2 a3 a4 a5 a6,p [a0,a1,a2,a3,a4,a5,a6]):∀us:List α,us.length=7->p us:=bL λa0=>bL λa1=>bL λa2=>bL λa3=>bL λa4=>bL λa5=>bL λa6=>(l_ (h a0 a1 a2 a3 a4 a5 a6))
theorem BV{α:Type}{p:List α->Prop}(h:∀a0 a1 a2 a3 a4 a5 a6 a7,p [a0,a1,a2,a3,a4,a5,a6,a7]):∀us:List α,us.length=8->p us:=bL λa0=>bL λa1=>bL λa2=>bL λa3=>bL λa4=>bL λa5=>bL λa6=>bL λa7=>(l_ (h a0 a1 a2 a3 a4 a5 a6 a7))
section
variable{X:Cx}{pos p:Pos}{x:Str}{st:Stmt}{ps:List Str}{k j:Nat}{e:Expr}{es:List Expr}{g:Ev->Option (List D)}{Fn:List D->Option D}{FO:List D->Option (List D)}
theorem cF(H:OkD ⟨X.prog,X.w,X.K,X.mg⟩ x st ps j Fn)(hr:Room k X.A)(ha:DA X (e::es) g)(hj:j<=k:=by decide)(hg:Gl X x:=by rfl)(hdb:(x==("__debug__" : Str))=false:=by decide)(he:uk (e::es) X.env=(false,eval e X.env)::uk es X.env:=by rfl)(hpl:(Q7 pos (uk es X.env)).any (·.1)=false:=by rfl) :
  DE X (.Call (.Name x p) (e::es) [] pos) (aJ Fn g):=let⟨_,_,A,F⟩:=H;mD A.1 (F _) hr hj ha hg hdb he hpl
theorem cO(H:OkB ⟨X.prog,X.w,X.K,X.mg⟩ x st ps j Fn FO)(hr:Room k X.A)(ha:DA X (e::es) g)(hj:j<=k:=by decide)(hg:Gl X x:=by rfl)(hdb:(x==("__debug__" : Str))=false:=by decide)(he:uk (e::es) X.env=(false,eval e X.env)::uk es X.env:=by rfl)(hpl:(Q7 pos (uk es X.env)).any (·.1)=false:=by rfl) :
  DF X (.Call (.Name x p) (e::es) [] pos) (fW FO g):=let⟨_,_,A,_,F⟩:=H;uB A.1 (F _) hr hj ha hg hdb he hpl
end
end Dn
namespace HG
open PySem PyProof.Rows
section
open PySem.SeqAt
open PySem.AutoSeq1 (wpAny_loadPart')
open PySem.MeetsSeq PySem.MeetsSeq2 PySem.MeetsSeq3
end
end HG
namespace Dn
open PySem PySem.Spec PyProof.Rows L2
end Dn
namespace L2
open PySem PySem.Spec PyProof.Rows
section
variable{κ:Type}[DecidableEq κ]
def rG(kvs:List (κ×V))(k:κ):Option V:=(kvs.find? λkv=>decide (kv.1=k)).map (·.2)
def Bg(kvs:List (κ×V))(k:κ)(v:V):List (κ×V):=
 if(kvs.any λkv=>decide (kv.1=k))=true then kvs.map (λkv=>if kv.1=k then(kv.1,v) else kv) else kvs++[(k,v)]
def xP(kvs:List (κ×V))(k:κ):List (κ×V):=kvs.filter λkv=>decide (kv.1≠k)
theorem tP{p:κ×V}{r:List (κ×V)}{k:κ}(e:p.1=k):rG (p::r) k=some p.2:=by simp[rG,JH,e]
theorem uc{p:κ×V}{r:List (κ×V)}{k:κ}(e:¬ p.1=k):rG (p::r) k=rG r k:=by simp[rG,JH,e]
theorem t9.getD{o:Option V}{u:Option vv}{d:V}{d':vv}(r:t9 o u)(rd:aQ d d'):aQ (o.getD d) (u.getD d'):=by
 cases o with
 |none=>cases u with
  |none=>exact rd
  |some _=>exact(show False from r).elim
 |some _=>cases u with
  |none=>exact(show False from r).elim
  |some _=>exact r
theorem KV.val{kvs:List (κ×V)}{vs:List (κ×vv)}(r:KV kvs vs)(k:κ):t9 (rG kvs k) (valueAt vs k):=by
 unfold KV at r
 induction r with
 |nil=>exact True.intro
 |@cons p q ps qs h t ih=>
  obtain⟨h1,h2⟩:=h
  by_cases e:p.1=k
  ·have e':q.1=k:=h1.symm.trans e
   have b:valueAt (q::qs) k=some q.2:=by simp[valueAt,JH,e']
   rw[tP e,b];exact h2
  ·have e':¬ q.1=k:=λz=>e (h1.trans z)
   have b:valueAt (q::qs) k=valueAt qs k:=by simp[valueAt,JH,e']
   rw[uc e,b];exact ih
theorem KV.any{kvs:List (κ×V)}{vs:List (κ×vv)}(r:KV kvs vs)(k:κ):(kvs.any λkv=>decide (kv.1=k))=vs.any λkv=>decide (kv.1=k):=by
 unfold KV at r
 induction r with
 |nil=>rfl
 |cons h t ih=>rw[List.any_cons,List.any_cons,ih,h.1]
theorem KV.repl{kvs:List (κ×V)}{vs:List (κ×vv)}(r:KV kvs vs)(k:κ){y:V}{u:vv}(ry:aQ y u) :
  KV (kvs.map λkv=>if kv.1=k then(kv.1,y) else kv) (vs.map λkv=>if kv.1=k then(kv.1,u) else kv):=by
 unfold KV at r ⊢
 induction r with
 |nil=>exact .nil
 |@cons p q ps qs h t ih=>
  rw[Qe,Qe];refine .cons ?_ ih;obtain⟨h1,h2⟩:=h
  by_cases e:p.1=k
  ·rw[if_pos e,if_pos (h1.symm.trans e)];exact⟨h1,ry⟩
  ·rw[if_neg e,if_neg (λz=>e (h1.trans z))];exact⟨h1,h2⟩
theorem KV.put{kvs:List (κ×V)}{vs:List (κ×vv)}(r:KV kvs vs)(k:κ){y:V}{u:vv}(ry:aQ y u):KV (Bg kvs k y) (stored vs k u):=by
 unfold Bg stored;rw[r.any k]
 by_cases e:(vs.any λkv=>decide (kv.1=k))=true
 ·rw[if_pos e,if_pos e];exact r.repl k ry
 ·rw[if_neg e,if_neg e];exact Paired.snoc r ⟨rfl,ry⟩
theorem KV.drop{kvs:List (κ×V)}{vs:List (κ×vv)}(r:KV kvs vs)(k:κ):KV (xP kvs k) (without vs k):=by
 unfold KV at r ⊢;unfold xP without
 induction r with
 |nil=>exact .nil
 |@cons p q ps qs h t ih=>
  obtain⟨h1,h2⟩:=h;rw[J4,J4]
  by_cases e:p.1=k
  ·have a:¬ decide (p.1≠k)=true:=by simp[e]
   have b:¬ decide (q.1≠k)=true:=by simp[h1.symm.trans e]
   rw[if_neg a,if_neg b];exact ih
  ·have e':¬ q.1=k:=λz=>e (h1.trans z)
   have a:decide (p.1≠k)=true:=by simp[e]
   have b:decide (q.1≠k)=true:=by simp[e']
   rw[if_pos a,if_pos b];exact .cons ⟨h1,h2⟩ ih
theorem KV.keys{kvs:List (κ×V)}{vs:List (κ×vv)}(r:KV kvs vs):kvs.map (·.1)=vs.map (·.1):=by
 unfold KV at r
 induction r with
 |nil=>rfl
 |cons h t ih=>rw[Qe,Qe,ih,h.1]
theorem KV.length{kvs:List (κ×V)}{vs:List (κ×vv)}(r:KV kvs vs):kvs.length=vs.length:=Paired.length r
end
section
variable{X:Cx}{pins:List (Addr×Obj)}{σ:St}{H:Hp}{s:v6}{a:Addr}{y v:V}{u r:vv}{o:Option V}{A:Qy}{E:vv->v6->Prop}
theorem Inv.big(I:Inv X pins σ H s):Ju<s.heap.objs.size:=by
 have h:Qz<s.heap.objs.size:=(I.mod.glob.keeps I.bk).lt;exact Jc (by decide) h
end
end L2
namespace Dn
open PySem PySem.Spec PyProof.Rows L2
section
variable{X:Cx}
def Cc:List D->Option D
 |[.lst ds]=>(gU ds).bind λbs=>some (.bl (bs.any id))
 |_=>none
end
def Itw(K:v0)(a:Addr)(n:Nat):It:=
 ⟨λi H=>i<n/\∃xs x,SqL K H a xs/\xs[n-1-i]?=some x,λi H x H'=>H'=H/\∀xs,SqL K H a xs->xs[n-1-i]?=some x,λi _=>n<=i⟩
theorem qX{P:Qs}{w:QC}{K:v0}{tg:Expr}(a it:Addr)(n:Nat):Turn P w K tg (Itw K a n) [it] it (λi h=>i<=n/\h.IsRevIter it a ((n:Int)-1-(i:Nat))) where
 mem:=by simp
 obj:=λi h st b hb=>by
  have e:b=it:=by simpa using hb
  subst e;obtain⟨_,o,e,_,d⟩:=st;exact⟨o,e,λv z=>by rw[d] at z;cases z⟩
 keep:=λi h h' st k=>⟨st.1,st.2.at λo e=>k it (by simp) o e⟩
 item:=by
  intro X hP hw hK hc i pins s σ H E I hf st hg;subst hP hw hK;obtain⟨hi,xs,x,hq,hx⟩:=hg;obtain⟨its,rv,p,hz⟩:=I.list hq;obtain⟨u,hu,ru⟩:=rv.get hx;obtain⟨f0,f1,f2,f3,f4,f5⟩:=hf it (by simp);have st2:=st.2;rw[show(n:Int)-1-(i:Nat)=((n-1-i:Nat):Int) by lia] at st2;refine wpAny_pyNext_rev_item st2 p.isList (x:=u) (by simpa using hu) λh' st' sb=>?_;have I1:Inv X pins σ H { s with heap:=h' }:=I.turned (t':=s.toks) (λb o hb e=>(sb.2 b hb).trans e) f0 f1 f3 f4 f5;obtain⟨o,e,c,d⟩:=id st';rw[show((n-1-i:Nat):Int)-1=(n:Int)-1-((i+1:Nat):Int) by lia] at st';exact⟨u,rfl,qy (s:={ s with heap:=h' }) e c d (by decide) ⟨x,H,I1,ru,⟨rfl,λys hy=>by rw[I.list_inj hy hq];exact hx⟩,⟨hi,st'⟩,λb hb=>(hf b hb).1⟩⟩
 done:=by
  intro X hP hw hK hc i pins s σ H E I hf st hg;subst hP hw hK;obtain⟨f0,f1,f2,f3,f4,f5⟩:=hf it (by simp);have hn:n<=i:=hg;have st2:=st.2;have h1:=st.1;rw[show(n:Int)-1-(i:Nat)=-1 by lia] at st2;exact wpAny_pyNext_rev_end (I.ok.hd hc) st2 λh' eb=>⟨rfl,I.turned (t':=s.toks) (λb o hb e=>eb b o hb e) f0 f1 f3 f4 f5⟩
 self:=λ_ _ _ _ _ st h=>wpAny_pyIter_revIter st.2 h
section
variable{X:Cx}{a tg:Expr}{pos:Pos}{fa:Ev->Option D}
def y3(K:v0)(ta:TA):TI:=λσ H R=>ta σ H λvs H1=>∃l xs,vs=[.ref l]/\SqL K H1 l xs/\R (Itw K l xs.length) H1
theorem xq{p:Pos}{ta:TA}(hg:Gl X "reversed")(hm:X.mg "reversed" = none)(ha:PA X [a] ta)(hs:uk [a] X.env=[(false,eval a X.env)]:=by rfl) :
  PI X tg (.Call (.Name "reversed" p) [a] [] pos) (y3 X.K ta):=by
 intro pins s σ H R I h;refine Call_ (d7 I hg hm boot_reversed (Jh (thn (ha pos pins s σ H _ I h) λus s1 ⟨vs,H1,I1,r1,q1⟩=>?_) hs rfl));obtain⟨l,xs,e,q1,q⟩:=q1;subst e
 cases r1 with | cons r rr=>
  cases rr;cases r;obtain⟨its,rv,pl,hz⟩:=I1.list q1;have hn:=rv.length;refine call_reversed_list pl.isList ?_;have e0:((its.toArray.size:Nat):Int)-1=(xs.length:Int)-1-((0:Nat):Int):=by simp;lia
  have stn:(s1.heap.push (revObj l (((its.toArray.size:Nat):Int)-1))).IsRevIter s1.heap.objs.size l ((xs.length:Int)-1-((0:Nat):Int)):=by
   rw[<-e0];exact⟨_,Qf _ rfl,rfl,rfl⟩
  refine wpAny_pyIter_revIter (s:={ s1 with heap:=s1.heap.push (revObj l (((its.toArray.size:Nat):Int)-1)) }) stn ?_;refine⟨s1.heap.objs.size,[s1.heap.objs.size],_,_,H1,rfl,I1.kept (t':=s1.toks) λb o e=>wf _ e,qX l _ xs.length,⟨QA _,stn⟩,λb hb=>?_,q⟩;rw[xz.mp hb];exact I1.fpOk (wp _) (I1.hok.fresh (wp _))
def kK(f:Ev->Option D):Ev->Option (List D):=λε=>match f ε with | some (.lst ds)=>some ds.reverse | _=>none
theorem vM{p:Pos}(h:DE X a fa)(hm:X.mg "reversed" = none)(hg:Gl X "reversed":=by rfl)(hs:uk [a] X.env=[(false,eval a X.env)]:=by rfl):DI X tg (.Call (.Name "reversed" p) [a] [] pos) (kK fa):=by
 obtain⟨t,a1,a2⟩:=h;refine⟨_,xq hg hm (bD a1 b6 hs) hs,λHe G H σ ε ds R gh E ef q=>?_⟩;unfold kK at ef;split at ef
 ·rename_i ds' e1
  cases ef;refine a2 He G H σ ε _ _ gh E e1 λv G1 H1 g1 d1=>?_;obtain⟨l,xs,rfl,w1,w2⟩:=d1.lstV;have n1:=w2.length;refine⟨l,xs,rfl,g1.gh.seq w1,q _ G1 H1 g1 λi H2 s2=>⟨λhi=>?_,λhi=>?_,?_⟩⟩
  ·rw[ZZ] at hi
   exact⟨by lia,xs,xs[xs.length-1-i]'(by lia),s2.seq w1,by simp⟩
  ·rw[ZZ] at hi
   show xs.length<=i
   lia
  ·rintro x H3 ⟨rfl,y⟩ d ed G2 s3 s4
   have hi:i<ds'.length:=by have:=(Qi.mp ed).1;simpa using this
   rw[List.getElem?_reverse hi,<-n1] at ed;obtain⟨x',e3,e4⟩:=w2.get ed;have:=y xs (s2.seq w1);rw[e3] at this;cases this;exact⟨G2,.refl s4,e4.mono s3⟩
 ·cases ef
end
section
variable{X:Cx}{a k:Expr}{pos p2:Pos}{fa:Ev->Option D}{fk:Ev->Option (Option Int)}
theorem mO:∀{xs:List V} {us:List vv},aK xs us->aK xs.reverse us.reverse
 |_,_,.nil=>.nil
 |_,_,.cons r rs=>by
  simp only[ZI];exact(mO rs).append (.cons r .nil)
theorem o9{K:v0}{G:Hp}:∀{xs:List V} {ds:List D},DenL K G xs ds->DenL K G xs.reverse ds.reverse
 |_,_,.nil=>.nil
 |_,_,.cons r rs=>by
  simp only[ZI];exact(o9 rs).append (.cons r .nil)
theorem xg{te:TE}{tk:TO}(he:PE X a te)(hk:PO X (some k) tk):PE X (.Subscript a (.Slice none none (some k) p2) pos) (λσ H Q=>te σ H λx H1=>tk σ H1 λj H2=>j=some (-1)/\∃l xs,x=.ref l/\SqL X.K H2 l xs/\∀p,H2 p=none->Q (.ref p) (upd H2 p (.lst xs.reverse))):=by
 intro pins s σ H Q I h;refine Subscript_ (thn (he pins s σ H _ I h) λv s1 ⟨x,H1,I1,r1,q1⟩=>?_);refine wpAny_Slice ?_;rw[evalPart_none];refine wn ?_;refine wn ?_;refine thn (hk pins s1 σ H1 _ I1 q1) λvk s3 ⟨j,H3,I3,pk,q3⟩=>?_;obtain⟨ej,l,xs,rfl,hx,q⟩:=q3;subst ej;cases r1;have I4:Inv X pins σ H3 { s3 with heap:=s3.heap.push { cls:=.type "slice",data:=.fields #[.none,.none,vk] } }:=I3.kept (t':=s3.toks) λb ob q=>wf _ q;obtain⟨its,r,ht,hz⟩:=I4.list hx;have hlen:=r.length;refine tail_any (T:="list") ht.isList.typeIs slot_list_getitem.lookup ?_ (by with_unfolding_all rfl);refine wpAny_getItem_list_slice ht.isList (Heap.IsSliceOf.new ..) .none .none pk (by decide) ?_ (by rw[Qx]<;>lia);rw[PySem.W.krv_pick];refine⟨.ref (s3.heap.push { cls:=.type "slice",data:=.fields #[.none,.none,vk] }).objs.size,_,I4.laid (t':=s3.toks) (o:=.lst xs.reverse) (λb ob q=>wf _ q) (wp _) ?_,rfl,q _ (I4.hok.fresh (wp _))⟩;exact⟨by rw[ZZ];exact hz,_,0,mO r,Qf _ rfl⟩
def oI(fa:Ev->Option D)(fk:Ev->Option (Option Int)):Ev->Option (List D):=λε=>(fa ε).bind λx=>(fk ε).bind λj=>match x with | .lst xs=>if j=some (-1) then some xs.reverse else none | _=>none
theorem vi(ha:DB X a fa)(hk:DO X (some k) fk):DF X (.Subscript a (.Slice none none (some k) p2) pos) (oI fa fk):=by
 obtain⟨ta,a1,a2⟩:=ha;obtain⟨tl,b1,b2⟩:=hk;refine⟨_,xg a1 b1,λHe G H σ ε ds Q gh E ef q=>?_⟩;obtain⟨x,e1,ef⟩:=af ef;obtain⟨j,e2,ef⟩:=af ef;refine a2 He G H σ ε x _ gh E e1 λv G1 H1 g1 d1=>?_;refine b2 He G1 H1 σ ε j _ g1.gh (E.grow g1) e2 λG2 H2 g2=>?_;split at ef
 ·split at ef
  ·rename_i ej
   cases ef;obtain⟨p,xs,rfl,h1,h2⟩:=(d1.grow g2).lst g2.gh;refine⟨ej,p,xs,rfl,h1,λp' hp=>?_⟩;have g:=g1.trans g2;exact q p' _ G2 _ (g.trans (.lay _ g2.gh hp)) (g.hh.free hp) (g2.gnone hp) aE (o9 h2)
  ·cases ef
 ·cases ef
end
open PySem.W
section tree
variable{α β:Type}
end tree
structure Pm(n:Nat)(p:Array Nat):Prop where
 sz:p.size=n
 pm:p.toList.Perm (QF n)
theorem Pm.lt{n:Nat}{p:Array Nat}(h:Pm n p){i:Nat}(hi:i<n):p.getD i 0<n:=by
 have h1:i<p.size:=by rw[h.sz];exact hi
 have e:p.getD i 0=p[i]:=by simp[Array.getD,h1]
 rw[e];have:p[i]∈p.toList:=by simp
 exact Je.mp (h.pm.mem_iff.mp this)
theorem Pm.start(n:Nat):Pm n (QS (QF n)):=⟨by simp,by simp⟩
theorem Pm.mir{n:Nat}{p:Array Nat}(h:Pm n p)(i j:Nat):Pm n (kas_rev p i j):=
 ⟨(mirror_size _ _ _ _).trans h.sz,(Zk.mp (mirror_perm _ _ _ _)).trans h.pm⟩
theorem Pm.bub{n:Nat}{p:Array Nat}(h:Pm n p)(k d:Nat):Pm n (bubble p k d):=
 ⟨(bubble_size _ _ _).trans h.sz,(Zk.mp (bubble_perm _ _ _)).trans h.pm⟩
structure Ord(n:Nat)(lt:Nat->Nat->Bool):Prop where
 as:∀x y,lt x y=true->lt y x=false
 tr:∀x y z,lt y x=false->lt z y=false->lt z x=false
section
variable{n:Nat}{lt:Nat->Nat->Bool}
theorem Ord.rf(O:Ord n lt)(x:Nat):lt x x=false:=by
 cases e:lt x x with
 |false=>rfl
 |true=>exact(O.as _ _ e).symm.trans e |>.symm▸rfl
def Up(lt:Nat->Nat->Bool)(p:Array Nat)(m:Nat):Prop:=∀i j,i<=j->j<m->lt (p.getD j 0) (p.getD i 0)=false
theorem Up.one(O:Ord n lt)(p:Array Nat):Up lt p 1:=λi j h1 h2=>by
 have:i=j:=by lia
 subst this;exact O.rf _
theorem Up.more(O:Ord n lt){p:Array Nat}{m:Nat}(h:Up lt p m)(hm:1<=m)(e:lt (p.getD m 0) (p.getD (m-1) 0)=false):Up lt p (m+1):=λi j h1 h2=>by
 by_cases hj:j<m
 ·exact h i j h1 hj
 ·have:j=m:=by lia
  subst this
  by_cases hi:i=j
  ·subst hi;exact O.rf _
  ·exact O.tr _ _ _ (h i (j-1) (by lia) (by lia)) e
end
def Kp(h g:Heap):Prop:=∀b o,h.get? b=some o->g.get? b=some o
def stA(h:Heap)(vs:List vv):Heap:=(((h.push (seqObj "list" #[] 0)).update h.objs.size (ZC λx=>x++vs.toArray)).push (seqObj "list" vs.toArray 0))
def stB(h:Heap)(vs:List vv):Heap:=((((stA h vs).update (h.objs.size+1) (ZC λ_=>#[])).push (seqObj "tuple" vs.toArray 0)).push (seqObj "list" #[] 0))
theorem mF(h:Heap)(vs:List vv):((h.push (seqObj "list" #[] 0)).update h.objs.size (ZC λx=>x++vs.toArray)).objs.size=h.objs.size+1:=(Heap.size_update ..).trans (size_push' ..)
theorem lW(h:Heap)(vs:List vv):(stA h vs).get? (h.objs.size+1)=some (seqObj "list" vs.toArray 0):=by
 unfold stA;rw[<-mF h vs];exact Qf _ rfl
theorem zi(h:Heap)(vs:List vv):Kp h (stA h vs):=λb o e=>by
 have lt:=Qb e;unfold stA;refine wf _ ?_;rw[Z0 _ _ _ _ (Qu lt)];exact wf _ e
theorem sH(h:Heap)(vs:List vv):Kp h (stB h vs):=λb o e=>by
 unfold stB;refine wf _ (wf _ ?_);rw[Z0 _ _ _ _ (Qu (Nat.lt_succ_of_lt (Qb e)))];exact zi h vs b o e
theorem zc(h:Heap)(vs:List vv):∃c,((stA h vs).update (h.objs.size+1) (ZC λ_=>#[])).get? (h.objs.size+1)=some (seqObj "list" #[] c)/\(stB h vs).get? (h.objs.size+1)=some (seqObj "list" #[] c):=by
 have e:=get?_update_seq (lW h vs) λ_=>#[];exact⟨_,e,wf _ (wf _ e)⟩
abbrev lxL:=HT.xS
theorem kY(x y:Int)(xs ys:List Int):lxL (x::xs) (y::ys)=if x=y then lxL xs ys else decide (x<y):=rfl
theorem my:∀x y:List Int,lxL x y=true->lxL y x=false
 |[],[],h=>rfl
 |[],_::_,_=>rfl
 |_::_,[],h=>by cases h
 |a::x,b::y,h=>by
  rw[kY] at h ⊢
  by_cases e:a=b
  ·subst e;rw[if_pos rfl] at h ⊢;exact my x y h
  ·rw[if_neg e] at h;rw[if_neg (Ne.symm e)]
   have:=of_decide_eq_true h;exact decide_eq_false (by lia)
theorem oU:∀x y z:List Int,lxL y x=false->lxL z y=false->lxL z x=false
 |x,[],[],h1,h2=>h1
 |[],[],_::_,h1,h2=>rfl
 |_::_,[],_::_,h1,h2=>by cases h1
 |x,_::_,[],h1,h2=>by cases h2
 |[],_::_,_::_,h1,h2=>rfl
 |a::x,b::y,c::z,h1,h2=>by
  rw[kY] at h1 h2 ⊢
  by_cases e1:b=a
  ·subst e1
   rw[if_pos rfl] at h1
   by_cases e2:c=b
   ·subst e2
    rw[if_pos rfl] at h2 ⊢;exact oU x y z h1 h2
   ·rw[if_neg e2] at h2 ⊢;exact h2
  ·rw[if_neg e1] at h1
   have k1:=of_decide_eq_false h1
   by_cases e2:c=b
   ·subst e2
    rw[if_neg e1];exact h1
   ·rw[if_neg e2] at h2
    have k2:=of_decide_eq_false h2;rw[if_neg (by lia)];exact decide_eq_false (by lia)
theorem xX:∀x y:List Int,lxL x y=false->lxL y x=false->x=y
 |[],[],_,_=>rfl
 |[],_::_,no,_=>by cases no
 |_::_,[],_,no=>by cases no
 |a::x,b::y,h1,h2=>by
  rw[kY] at h1 h2
  by_cases e:a=b
  ·subst e
   rw[if_pos rfl] at h1 h2;rw[xX x y h1 h2]
  ·rw[if_neg e] at h1
   rw[if_neg (Ne.symm e)] at h2;have k1:=of_decide_eq_false h1;have k2:=of_decide_eq_false h2
   lia
theorem yc(x:List Int):lxL x x=false:=by
 cases e:lxL x x with
 |false=>rfl
 |true=>exact(my x x e).symm.trans e |>.symm
def nV(a:List Int):List (List Int)->List (List Int)
 |[]=>[a]
 |b::r=>if lxL b a=true then b::nV a r else a::b::r
def h7:List (List Int)->List (List Int)
 |[]=>[]
 |a::r=>nV a (h7 r)
def UpT(l:List (List Int)):Prop:=l.Pairwise λx y=>lxL y x=false
theorem h_(a:List Int):∀l:List (List Int),(nV a l).Perm (a::l)
 |[]=>.refl _
 |b::r=>by
  unfold nV;split
  ·exact((h_ a r).cons b).trans (.swap _ _ _)
  ·exact .refl _
theorem bO:∀l:List (List Int),(h7 l).Perm l
 |[]=>.refl _
 |a::r=>(h_ a (h7 r)).trans ((bO r).cons a)
theorem oY(a:List Int):∀l:List (List Int),UpT l->UpT (nV a l)
 |[],_=>by simp[nV,UpT]
 |b::r,h=>by
  have⟨h1,h2⟩:=JO.mp h;unfold nV;split
  ·rename_i g
   refine JO.mpr ⟨λc hc=>?_,oY a r h2⟩;rcases ut.mp ((h_ a r).mem_iff.mp hc) with rfl | hc
   ·exact my _ _ g
   ·exact h1 c hc
  ·rename_i g
   have g':lxL b a=false:=by simpa using g
   refine JO.mpr ⟨λc hc=>?_,h⟩;rcases ut.mp hc with rfl | ht
   ·exact g'
   ·exact oU _ _ _ g' (h1 c ht)
theorem lh:∀l:List (List Int),UpT (h7 l)
 |[]=>.nil
 |a::r=>oY a _ (lh r)
theorem jX:∀{l m:List (List Int)},UpT l->UpT m->l.Perm m->l=m
 |[],m,_,_,p=>(List.Perm.nil_eq p)
 |a::l,[],_,_,p=>absurd p.length_eq (by simp)
 |a::l,b::m,h1,h2,p=>by
  obtain⟨a1,a2⟩:=JO.mp h1;obtain⟨b1,b2⟩:=JO.mp h2
  have ab:a=b:=by
   have x1:lxL b a=false:=by
    rcases ut.mp (p.mem_iff.mpr (Qh (a:=b) (l:=m))) with e | e
    ·rw[e];exact yc _
    ·exact a1 b e
   have x2:lxL a b=false:=by
    rcases ut.mp (p.mem_iff.mp (Qh (a:=a) (l:=l))) with e | e
    ·rw[e];exact yc _
    ·exact b1 a e
   exact xX _ _ x2 x1
  subst ab;rw[jX a2 b2 (List.perm_cons a |>.mp p)]
theorem tI{ts:List (List Int)}{p:Array Nat}(hp:Pm ts.length p)(up:Up (λi j=>lxL (ts.getD i []) (ts.getD j [])) p ts.length):p.toList.map (λi=>ts.getD i [])=h7 ts:=by
 have e0:(QF ts.length).map (λi=>ts.getD i [])=ts:=by
  refine List.ext_getElem (by simp) λi h1 h2=>?_;simp[h2]
 refine jX ?_ (lh ts) (((hp.pm.map _).trans (.of_eq e0)).trans (bO ts).symm);unfold UpT;rw[List.pairwise_map,Zo];intro i j hi hj hij;have hi':i<p.size:=by simpa using hi
 have hj':j<p.size:=by simpa using hj
 have:=up i j (QZ hij) (by rw[<-hp.sz];exact hj');simpa[Array.getD,hi',hj'] using this
def nX(fin:Bool):List Int->List Int->Bool
 |x::xs,y::ys=>if x=y then nX fin xs ys else decide (x<y)
 |_,_=>fin
theorem ly:∀xs ys:List Int,nX (decide (xs.length<ys.length)) xs ys=lxL xs ys
 |[],[]=>rfl
 |[],_::_=>rfl
 |_::_,[]=>rfl
 |x::xs,y::ys=>by
  rw[kY];unfold nX;have:decide ((x::xs).length<(y::ys).length)=decide (xs.length<ys.length):=by simp
  rw[this,ly xs ys]
section
variable{prog:Qs}{w:QC}{A:Qy}{E:vv->v6->Prop}{s:v6}
theorem vW(b:Bool){x y:Int}{t u:Tok}{Q:Bool->v6->Prop}(h:Q (decide (x<y)) s):wE (Qa prog w) A (oneLt' b (.int x t) (.int y u)) Q E s:=by
 cases b with
 |true=>exact oneLt_int h
 |false=>exact kat_one _ _ (PyProof.Rows.lt_int h)
theorem jw{b fin:Bool}{Q:Bool->v6->Prop}:∀{xs ys:List vv} {ns ms:List Int} (i:Nat),J0 xs ns->J0 ys ms->Q (nX fin ns ms) s->KatLex prog w A b fin Q (xs.zip ys) i s
 |_,_,_,_,_,.nil,_,h=>by
  rw[List.zip_nil_left];exact kat_nil (by simpa[nX] using h)
 |_,_,_,_,_,.cons _ _ _,.nil,h=>by
  rw[List.zip_nil_right];exact kat_nil (by simpa[nX] using h)
 |_,_,_,_,i,.cons n t hx,.cons m u hy,h=>by
  rw[List.zip_cons_cons];unfold nX at h;refine kat_cons (wpAny_eqBool_int ?_)
  by_cases e:n=m
  ·rw[if_pos e] at h
   rw[beq_iff_eq.mpr e];exact kat_yes (jw (i+1) hx hy h)
  ·rw[if_neg e] at h
   rw[beq_eq_false_iff_ne.mpr e];exact kat_no (vW _ h)
end
def eR(ns:List Int):D:=.tup (ns.map D.int)
def iq:List D->Option (List (List Int))
 |[]=>some []
 |.tup ds::r=>(bC ds).bind λns=>if ns=[] then none else(iq r).bind λt=>some (ns::t)
 |_=>none
theorem jN:∀{ds:List D} {ns:List Int},bC ds=some ns->ds=ns.map D.int
 |[],ns,e=>by cases e;rfl
 |d::ds,ns,e=>by
  unfold bC at e;split at e
  ·rename_i h;cases h
  ·rename_i i r h
   cases h;obtain⟨t,e1,e2⟩:=af e;cases e2;rw[jN e1];rfl
  ·cases e
theorem jh:∀{ds:List D} {ts:List (List Int)},iq ds=some ts->ds=ts.map eR/\∀t∈ts,t≠[]
 |[],ts,e=>by cases e;exact⟨rfl,λt h=>by cases h⟩
 |d::ds,ts,e=>by
  unfold iq at e;split at e
  ·rename_i h;cases h
  ·rename_i es r h
   cases h;obtain⟨ns,e1,e⟩:=af e;split at e
   ·cases e
   ·rename_i hne
    obtain⟨t,e2,e3⟩:=af e;cases e3;obtain⟨h1,h2⟩:=jh e2;have:=jN e1;subst this;refine⟨by rw[h1];rfl,λt ht=>?_⟩;rcases ut.mp ht with rfl | ht
    ·exact hne
    ·exact h2 t ht
  ·cases e
theorem dS:∀ns:List Int,bC (ns.map D.int)=some ns
 |[]=>rfl
 |n::r=>by
  show(bC (r.map D.int)).bind _=_;rw[dS r];rfl
theorem kh:∀{ts:List (List Int)},(∀t∈ts,t≠[])->iq (ts.map eR)=some ts
 |[],_=>rfl
 |t::r,h=>by
  show(bC (t.map D.int)).bind _=_;rw[dS t];show(if t=[] then none else _)=_;rw[if_neg (h t (Qh ..)),kh λu hu=>h u (Qj _ hu)];rfl
section
variable{X:Cx}{a:Expr}{pos:Pos}{fa:Ev->Option D}
theorem br{α:Type}{l:List α}{i:Nat}(d:α)(h:i<l.length):l[i]?=some (l.getD i d):=by simp[h]
end
end Dn
namespace RW2
open PySem PyProof.Rows PySem.W
section
variable{prog:Qs}{w:QC}{A:Qy}{E:vv->v6->Prop}{s:v6}
def gc(h:Heap)(d:Addr)(es:Array Jp)(ep:Nat):Prop:=∃o,h.get? d=some o/\o.ExactDict/\o.data=.dict es ep
theorem gc.at{h h':Heap}{d:Addr}{es:Array Jp}{ep:Nat}(x:gc h d es ep)(k:∀o,h.get? d=some o->h'.get? d=some o):gc h' d es ep:=let⟨o,a,b⟩:=x;⟨o,k o a,b⟩
theorem gc.ty{d:Addr}{es:Array Jp}{ep:Nat}(x:gc s.heap d es ep):s.TypeIs (.ref d) "dict":=let⟨o,a,b,_⟩:=x;⟨o,a,b.1⟩
theorem gc.lt{h:Heap}{d:Addr}{es:Array Jp}{ep:Nat}(x:gc h d es ep):d<h.objs.size:=let⟨_,a,_⟩:=x;Qb a
theorem r8{d:Addr}{es:Array Jp}{ep:Nat}{Q:vv->v6->Prop}(nm:(d==Ju)=false)(x:gc s.heap d es ep)
  (q:Q (.ref s.heap.objs.size) { s with heap:=s.heap.push { cls:=.type "dict_keyiterator",data:=.fields #[.ref d,.int 0 0,.int es.size 0,.int ep 0] } }):wE (Qa prog w) A (pyIter (.ref d)) Q E s:=by
 have ty:=x.ty;obtain⟨o,w1,w2,w3⟩:=x;refine wpAny_pyIter_slot ty PySem.F.slot_dict_iter (Q3 PySem.F.slot_dict_iter ty PySem.F.entry_dict_iter ?_ (PySem.F.args_dict_iter_1 _));unfold ZA.«dict.__iter__» Builtin.Dict.dictSlotNone;refine zn (zn (wpAny_notOrdered_dict ty (show wE _ _ (pure (QH d)) _ _ s from wn ?_)));show wE _ _ (ZN d>>=λ_=>_) _ _ s;unfold ZN;rw[if_neg (by rw[nm];exact ww)];refine zn (wn (zn (ZJ w1 w3 (zn (wpAny_dictEpoch w1 w3 (zn (QG (wn ⟨_,rfl,"dict_keyiterator",_,⟨_,Qf _ rfl,rfl⟩,PySem.F.slot_dict_keyiterator_next.lookup,?_⟩))))))));simpa[rawInt] using q
theorem kq{it d:Addr}{i ep:Nat}{es:Array Jp}{Q:Option vv->v6->Prop}(hh:A.handled=none)(hit:s.heap.IsKeyIter it d i es.size ep)(x:gc s.heap d es ep)
  (some_:∀(lt:i<es.size) h',h'.IsKeyIter it d (i+1) es.size ep->Q9 it s.heap h'->Q (some es[i].key) { s with heap:=h' })
  (none_:es.size<=i->∀h',Heap.ExtBut it s.heap h'->Q none { s with heap:=h' }):wE (Qa prog w) A (pyNext (.ref it)) Q E s:=by
 obtain⟨o,w1,w2,w3⟩:=id hit;obtain⟨od,v1,v2,v3⟩:=id x;unfold pyNext;refine zn (wpAny_attempt (Ji (name:=Zv "__next__") hit.typeIs PySem.F.slot_dict_keyiterator_next (Q3 PySem.F.slot_dict_keyiterator_next hit.typeIs PySem.F.entry_dict_keyiterator_next ?_ (PySem.F.args_dict_keyiterator_next_1 _))));refine zn (wn (zn (zn ?_)))
 first | refine zn (wpAny_typeNameOfWhole_keyiter hit.typeIs (wn (zn (wpAny_fieldsOf w1 w3 ?_)))) | refine zn (wpAny_typeNameOf_keyiter hit.typeIs (wn (zn (wpAny_fieldsOf w1 w3 ?_))))
 have own0:Builtin.Dict_items.ownsTuple "dict_keyiterator" = false:=by decide
 simp only[own0,if_false,ZE];show wE _ _ (if(QH d==QR)=true then _ else _) (λ_ _=>_) _ s;rw[if_neg (show ¬ ((QH d==QR)=true) by exact ww)];refine zn (wn (zn (ZJ v1 v3 ?_)));rw[if_neg (by simp)];refine zn (wn (zn (wpAny_dictEpoch v1 v3 ?_)));rw[if_neg (by simp)];refine wn ?_
 by_cases lt:i<es.size
 ·simp only[show ¬ ((i:Int)<0) from by lia,if_false,JE,Zp lt]
  refine zn ?_
  first | refine zn (wpAny_typeNameOfWhole_keyiter hit.typeIs (wn (zn (wpAny_isOneOf_keyiter hit.typeIs ?_)))) | refine zn (wpAny_typeNameOf_keyiter hit.typeIs (wn (zn (wpAny_isOneOf_keyiter hit.typeIs ?_))))
  show wE _ _ (setField (.ref it) 1 (rawInt ((i:Int)+1))>>=λ_=>_) _ _ s;have on:(s.heap.update it (Obj.mapFields (·.setIfInBounds 1 (rawInt ((i:Int)+1))))).IsKeyIter it d (i+1) es.size ep:=⟨_,Zh _ w1 (Obj.isFreed_of_fields (Kb w3 _)),(Obj.cls_mapFields ..).trans w2,(by rw[Kb w3];simp[rawInt])⟩;refine zn (wpAny_setField w1 w3 (by simp) (zn (QJ (zn (wpAny_isOneOf_keyiter (s:={ s with heap:=s.heap.update it (Obj.mapFields (·.setIfInBounds 1 (rawInt ((i:Int)+1)))) }) on.typeIs ?_)))));show wE _ _ (pure es[i].key) (λ_ _=>_) _ _;exact wn (wn ⟨_,rfl,wn (some_ lt _ on (Jt ..))⟩)
 ·have ge:es.size<=i:=JM lt
  simp only[show ¬ ((i:Int)<0) from by lia,if_false,JE,JK ge];have gone:∀{R:Unit->v6->Prop} {X:vv->v6->Prop},R () { s with heap:=s.heap.update it (Obj.mapFields (·.setIfInBounds 0 QR)) }->wE (Qa prog w) A.in1 (setField (.ref it) 0 .none) R X s:=λr=>wpAny_setField w1 w3 (by simp) r
  first | refine zn (zn (wpAny_typeNameOfWhole_keyiter hit.typeIs (wn (zn (gone ?_))))) | refine zn (zn (wpAny_typeNameOf_keyiter hit.typeIs (wn (zn (gone ?_)))))
  show wE _ _ (newExc (.type "StopIteration") []>>=λ_=>_) _ _ _;refine zn ?_;simp only[newExc,newTuple];refine zn (QG (zn (m:=ZM _ _) (wpAny_of_eq (a:=QR) (by first | rfl | (simp only[ZM];rfl)) (QG ?_ (by size_fits)))) (by size_fits));simp only[raiseNew];refine zn (wpAny_handled ?_);rw[show A.in1.handled=none by exact hh];refine zn (wn (wpAny_throw ?_)) |> λz=>z
  refine zn (wpAny_isInstance (b:=true) (T:="StopIteration") ⟨_,Qf _ rfl,rfl⟩ isSubtype_stop ?_);exact wn (none_ ge _ (((Jt ..).extBut.push _).push _))
theorem rP(hh:A.handled=none)(it d:Addr)(ne:d≠it)(es:Array Jp)(ep:Nat) :
  Walks prog w A it [it,d] [it] es.size (λi v=>∃e,es[i]?=some e/\v=e.key) (λi h=>h.IsKeyIter it d i es.size ep/\gc h d es ep) where
 sub:=λb z=>by rw[xz.mp z];exact Qh ..
 frame:=λ_ _ _ st k=>⟨st.1.at λo e=>k it (by simp) o e,st.2.at λo e=>k d (by simp) o e⟩
 item:=λi s Q E hi st hQ=>kq hh st.1 st.2 (λlt h' on same=>hQ _ h' s.toks ⟨es[i],by simp[lt],rfl⟩ ⟨on,st.2.at λo e=>same.extBut d o ne e⟩ λb o hb e=>same.extBut b o (λz=>hb (by simp[z])) e) λge=>absurd hi (Nat.not_lt.mpr ge)
 done:=λs Q E st hQ=>kq hh st.1 st.2 (λlt=>absurd lt (Jl _)) λ_ h' ext=>hQ h' s.toks λb o hb e=>ext b o (λz=>hb (by simp[z])) e
 self:=λ_ _ _ _ stt q=>wpAny_pyIter_keyiter stt.1 q
theorem mX(d:Addr)(nm:(d==Ju)=false)(es:Array Jp)(ep:Nat):KdlSrc prog w "dict" d d es.size (λi v=>∃e,es[i]?=some e/\v=e.key) (λh=>gc h d es ep) where
 type:=λ_ x=>x.ty
 there:=λ_ x=>⟨x.lt,x.lt⟩
 keep:=λ_ _ x k=>x.at λo e=>k d (.inl rfl) o e
 notList:=by decide
 notTuple:=by decide
 hint:=λ_ _ _ _ x q=>kdl_hint_dict x.ty q
 iter:=λ_ _ hh x=>⟨_,_,(λ_ _ q=>r8 nm x q),rP hh _ d (Qu x.lt) es ep,⟨⟨_,Qf _ rfl,rfl,rfl⟩,x.at λo e=>wf _ e⟩⟩
end
end RW2
namespace Dn
open PySem PySem.Spec PyProof.Rows L2
def ie:Ev->Option Fl:=(sIf (az gtI (ag 5) (eC (.int 0))) (aH (c_ 2 (e2 bG (ag 5) (eC (.int 1000)))) (bq 5 (e2 jI (ag 5) (eC (.int 1000))))) a_)
def hZ:Ev->Option Fl:=(aH (bq 3 (e2 bG (e2 bP (e2 bP (e2 eQ (ag 3) (eC (.int 69621))) (e2 bG (ag 4) (eC (.int 999983)))) (eC (.int 7))) (eC (.int 2147483629)))) (aH (bq 5 (e2 eE (ag 4) (e2 nF (eC (.int 10)) (eC (.int 18))))) (aH (sIf (az ltI (ag 5) (eC (.int 0))) (c_ 2 (e2 bG (ag 4) (eC (.int 1000)))) a_) (cP (iW (eC (.int 60))) (ah 6) ie))))
def eW:Ev->Option Fl:=(sIf (az ltI (g_ gE (ag 2)) (ag 1)) (aH (bq 3 (e2 bG (e2 bP (e2 bP (e2 bP (e2 nF (ag 3) (eC (.int 3))) (e2 eQ (eC (.int 40692)) (ag 3))) (e2 eQ (eC (.int 7)) (ag 6))) (eC (.int 5))) (eC (.int 2147483629)))) (c_ 2 (e2 bG (e2 jI (ag 3) (eC (.int 1009))) (eC (.int 1000))))) a_)
def yK:Ev->Option Fl:=(aH (jD 2 (cD aB)) (aH (bq 3 (eC (.int 29))) (aH (cP (cG (eF (eSl (ag 0) cE (bR (eC (.int 63)))))) (ah 4) hZ) (aH (cP (iW (ao 1)) (ah 6) eW) (a8 (eF (eSl (ag 2) cE (bR (ag 1)))))))))
theorem ay{g g':Ev->Option Fl}{ε ε':Ev}(h:g ε=some (.nx ε')):aH g g' ε=g' ε':=by unfold aH;rw[h];rfl
theorem dq{g g':Ev->Option Fl}{ε:Ev}{d:D}(h:g ε=some (.rt d)):aH g g' ε=some (.rt d):=by unfold aH;rw[h];rfl
theorem bT{f:Ev->Option (List D)}{g:D->Ev->Option Ev}{gb:Ev->Option Fl}{ε:Ev}{ds:List D}(h:f ε=some ds):cP f g gb ε=cK g gb ds ε:=by unfold cP;rw[h];rfl
theorem dE{f:Ev->Option Bool}{g g':Ev->Option Fl}{ε:Ev}(h:f ε=some true):sIf f g g' ε=g ε:=by unfold sIf;rw[h];rfl
theorem eL{f:Ev->Option Bool}{g g':Ev->Option Fl}{ε:Ev}(h:f ε=some false):sIf f g g' ε=g' ε:=by unfold sIf;rw[h];rfl
theorem b_{i:Nat}{f:Ev->Option D}{ε:Ev}{d:D}(h:f ε=some d):bq i f ε=some (.nx (ε.set i (.dat d))):=by unfold bq;rw[h];rfl
theorem eB{f:Ev->Option D}{ε:Ev}{d:D}(h:f ε=some d):a8 f ε=some (.rt d):=by unfold a8;rw[h];rfl
theorem fT{f:Ev->Option (List D)}{ε:Ev}{ds:List D}(h:f ε=some ds):eF f ε=some (.lst ds):=by unfold eF;rw[h];rfl
theorem va{F:List D->Option D}{fa:Ev->Option D}{ε:Ev}{x:D}(h1:fa ε=some x):aJ F (aa fa aB) ε=F [x]:=by unfold aJ aa;rw[h1];rfl
theorem tD{F:List D->Option D}{fa fb:Ev->Option D}{ε:Ev}{x y:D}(h1:fa ε=some x)(h2:fb ε=some y):aJ F (aa fa (aa fb aB)) ε=F [x,y]:=by unfold aJ aa;rw[h1,h2];rfl
theorem lM{fa fb:Ev->Option D}{ε:Ev}{a b:Bool}(h1:fa ε=some (.bl a))(h2:fb ε=some (.bl b)):lp fa fb ε=some (.bl (a&&b)):=by
 unfold lp;rw[h1];cases a
 ·rfl
 ·show fb ε=_;rw[h2];rfl
theorem lQ{fa fb fc:Ev->Option D}{ε:Ev}{a b c:Int}(h1:fa ε=some (.int a))(h2:fb ε=some (.int b))(h3:fc ε=some (.int c)):eCh leI leI fa fb fc ε=some (.bl (decide (a<=b)&&decide (b<=c))):=by
 unfold eCh;rw[h1,h2,h3];show(if decide (a<=b)=true then some (D.bl (decide (b<=c))) else some (.bl false))=_;cases decide (a<=b)<;>rfl
theorem bH{N ps:List Str}{g:Ev->Option Fl}{ds:List D}{d:D}(hl:ds.length=ps.length)(h:g (cx N ds)=some (.rt d)):fnD N ps g ds=some d:=by
 unfold fnD;rw[if_pos hl,h]
abbrev iL(l:List Int):List D:=l.map D.int
def Low(l:List Int):Prop:=∀v∈l,0<=v/\v<1000
theorem Low.snoc{l:List Int}{v:Int}(h:Low l)(h0:0<=v)(h1:v<1000):Low (l++[v]):=by
 intro u hu;rcases Qn.mp hu with z | z
 ·exact h u z
 ·rw[xz.mp z];exact⟨h0,h1⟩
theorem rg(A M S C k:Sl)(row:List Int)(rest:Int)(hl:Low row)(hz:row.length<900000) :
  ∃row' rest',ie [A,M,.own (iL row),S,C,.dat (.int rest),k]=some (.nx [A,M,.own (iL row'),S,C,.dat (.int rest'),k])/\Low row'/\row'.length<=row.length+1:=by
 by_cases h:0<rest
 ·refine⟨row++[rest%1000],rest/1000,?_,hl.snoc (by lia) (by lia),by simp⟩
  have:row.length<1000000:=by lia
  simp[ie,sIf,az,asB,e2,gtI,cQ,ag,eC,aH,c_,bq,bG,jI,qR,h,this,iL]
 ·refine⟨row,rest,?_,hl,by simp⟩
  simp[ie,sIf,az,asB,e2,gtI,cQ,ag,eC,a_,h]
theorem ph(A M S C:Sl):∀(l:List D) (k:Sl) (row:List Int) (rest:Int),Low row->row.length+l.length<900000->
  ∃row' rest' k',cK (ah 6) ie l [A,M,.own (iL row),S,C,.dat (.int rest),k]=some (.nx [A,M,.own (iL row'),S,C,.dat (.int rest'),k'])/\Low row'/\row'.length<=row.length+l.length
 |[],k,row,rest,hl,hz=>⟨row,rest,k,rfl,hl,by simp⟩
 |d::l,k,row,rest,hl,hz=>by
  simp only[Qv] at hz;obtain⟨row1,rest1,e1,l1,z1⟩:=rg A M S C (.dat d) row rest hl (by lia);obtain⟨row2,rest2,k2,e2,l2,z2⟩:=ph A M S C l (.dat d) row1 rest1 l1 (by lia);refine⟨row2,rest2,k2,?_,l2,by simp only[Qv];lia⟩;unfold cK;have t:ah 6 d [A,M,.own (iL row),S,C,.dat (.int rest),k]=some [A,M,.own (iL row),S,C,.dat (.int rest),.dat d]:=rfl;rw[t];show(ie _).bind _=_;rw[e1];exact e2
theorem r9(A M r k:Sl)(row:List Int)(seed cell:Int)(hl:Low row)(hs:0<=seed/\seed<2147483629)(hz:row.length<800000) :
  ∃row' seed' r' k',hZ [A,M,.own (iL row),.dat (.int seed),.dat (.int cell),r,k]=some (.nx [A,M,.own (iL row'),.dat (.int seed'),.dat (.int cell),r',k'])/\Low row'/\(0<=seed'/\seed'<2147483629)/\row'.length<=row.length+61:=by
 have key:∃row1,sIf (az ltI (ag 5) (eC (.int 0))) (c_ 2 (e2 bG (ag 4) (eC (.int 1000)))) a_ [A,M,.own (iL row),.dat (.int ((seed*69621+cell%999983+7)%2147483629)),.dat (.int cell),.dat (.int (cell-1000000000000000000)),k] =
   some (.nx [A,M,.own (iL row1),.dat (.int ((seed*69621+cell%999983+7)%2147483629)),.dat (.int cell),.dat (.int (cell-1000000000000000000)),k])/\Low row1/\row1.length<=row.length+1:=by
  by_cases h:cell-1000000000000000000<0
  ·refine⟨row++[cell%1000],?_,hl.snoc (by lia) (by lia),by simp⟩
   have h2:row.length<1000000:=by lia
   simp[sIf,az,asB,e2,ltI,cQ,ag,eC,c_,bG,h,h2,iL]
  ·refine⟨row,?_,hl,by simp⟩
   simp[sIf,az,asB,e2,ltI,cQ,ag,eC,a_,h]
 obtain⟨row1,e1,l1,z1⟩:=key;obtain⟨row2,rest2,k2,e2',l2,z2⟩:=ph A M (.dat (.int ((seed*69621+cell%999983+7)%2147483629))) (.dat (.int cell)) (dc 60) k row1 (cell-1000000000000000000) l1 (by simp[dc];lia);refine⟨row2,(seed*69621+cell%999983+7)%2147483629,.dat (.int rest2),k2,?_,l2,by lia,by simp[dc] at z2;lia⟩
 have s1:bq 3 (e2 bG (e2 bP (e2 bP (e2 eQ (ag 3) (eC (.int 69621))) (e2 bG (ag 4) (eC (.int 999983)))) (eC (.int 7))) (eC (.int 2147483629))) [A,M,.own (iL row),.dat (.int seed),.dat (.int cell),r,k] =
   some (.nx [A,M,.own (iL row),.dat (.int ((seed*69621+cell%999983+7)%2147483629)),.dat (.int cell),r,k]):=by
  simp[bq,e2,bG,bP,eQ,cQ,ag,eC,lD]
 have s2:bq 5 (e2 eE (ag 4) (e2 nF (eC (.int 10)) (eC (.int 18)))) [A,M,.own (iL row),.dat (.int ((seed*69621+cell%999983+7)%2147483629)),.dat (.int cell),r,k] =
   some (.nx [A,M,.own (iL row),.dat (.int ((seed*69621+cell%999983+7)%2147483629)),.dat (.int cell),.dat (.int (cell-1000000000000000000)),k]):=by
  simp[bq,e2,eE,nF,cQ,ag,eC,rZ]
 have r60:iW (eC (.int 60)) [A,M,.own (iL row1),.dat (.int ((seed*69621+cell%999983+7)%2147483629)),.dat (.int cell),.dat (.int (cell-1000000000000000000)),k]=some (dc 60):=rfl;unfold hZ;rw[ay s1,ay s2,ay e1,bT r60];exact e2'
theorem l8(A M:Sl):∀(l:List Int) (c r k:Sl) (row:List Int) (seed:Int),Low row->(0<=seed/\seed<2147483629)->row.length+61*l.length<800000->
  ∃row' seed' c' r' k',cK (ah 4) hZ (iL l) [A,M,.own (iL row),.dat (.int seed),c,r,k]=some (.nx [A,M,.own (iL row'),.dat (.int seed'),c',r',k'])/\Low row'/\(0<=seed'/\seed'<2147483629)/\row'.length<=row.length+61*l.length
 |[],c,r,k,row,seed,hl,hs,hz=>⟨row,seed,c,r,k,rfl,hl,hs,by simp⟩
 |v::l,c,r,k,row,seed,hl,hs,hz=>by
  simp only[Qv] at hz;obtain⟨row1,seed1,r1,k1,e1,l1,h1,z1⟩:=r9 A M r k row seed v hl hs (by lia);obtain⟨row2,seed2,c2,r2,k2,e2,l2,h2,z2⟩:=l8 A M l (.dat (.int v)) r1 k1 row1 seed1 l1 h1 (by lia);refine⟨row2,seed2,c2,r2,k2,?_,l2,h2,by simp only[Qv];lia⟩;show cK (ah 4) hZ (.int v::iL l) _=_;unfold cK;have t:ah 4 (.int v) [A,M,.own (iL row),.dat (.int seed),c,r,k]=some [A,M,.own (iL row),.dat (.int seed),.dat (.int v),r,k]:=rfl;rw[t];show(hZ _).bind _=_;rw[e1];exact e2
theorem rz(A c r:Sl)(m:Nat)(row:List Int)(seed:Int)(j:Nat)(hl:Low row)(hs:0<=seed/\seed<2147483629)(hz:row.length<900000) :
  ∃row' seed',eW [A,.dat (.int (m:Int)),.own (iL row),.dat (.int seed),c,r,.dat (.int (j:Int))]=some (.nx [A,.dat (.int (m:Int)),.own (iL row'),.dat (.int seed'),c,r,.dat (.int (j:Int))])/\Low row'/\(0<=seed'/\seed'<2147483629)/\row'.length<=row.length+1/\(row.length<m->row'.length=row.length+1)/\(m<=row.length->row'.length=row.length):=by
 by_cases h:row.length<m
 ·refine⟨row++[(seed ^ 3+40692*seed+7*(j:Int)+5)%2147483629/1009%1000],(seed ^ 3+40692*seed+7*(j:Int)+5)%2147483629,?_,hl.snoc (by lia) (by lia),by lia,by simp,by simp,by lia⟩
  have h2:(row.length:Int)<(m:Int):=by lia
  have h3:row.length<1000000:=by lia
  have h4:seed.natAbs<18446744073709551616:=by lia
  simp[eW,sIf,az,asB,e2,ltI,cQ,ag,eC,g_,gE,aH,c_,bq,bG,jI,nF,bP,eQ,qR,rZ,lD,h2,h3,h4,h,iL]
 ·refine⟨row,seed,?_,hl,hs,by lia,by lia,by lia⟩
  have h2:¬ (row.length:Int)<(m:Int):=by lia
  simp[eW,sIf,az,asB,e2,ltI,cQ,ag,eC,g_,gE,a_,h]
theorem kP(A c r:Sl)(m:Nat):∀(l:List Nat) (k:Sl) (row:List Int) (seed:Int),Low row->(0<=seed/\seed<2147483629)->row.length+l.length<900000->m<=row.length+l.length->
  ∃row' seed' k',cK (ah 6) eW (l.map λ(i:Nat)=>D.int (i:Int)) [A,.dat (.int (m:Int)),.own (iL row),.dat (.int seed),c,r,k]=some (.nx [A,.dat (.int (m:Int)),.own (iL row'),.dat (.int seed'),c,r,k'])/\Low row'/\m<=row'.length/\row'.length<900000
 |[],k,row,seed,hl,hs,hz,hm=>⟨row,seed,k,rfl,hl,by simpa using hm,by simpa using hz⟩
 |j::l,k,row,seed,hl,hs,hz,hm=>by
  simp only[Qv] at hz hm;obtain⟨row1,seed1,e1,l1,h1,z1,z2,z3⟩:=rz A c r m row seed j hl hs (by lia);obtain⟨row2,seed2,k2,e2,l2,h2,h3⟩:=kP A c r m l (.dat (.int (j:Int))) row1 seed1 l1 h1 (by lia) (by lia);refine⟨row2,seed2,k2,?_,l2,h2,h3⟩;show cK (ah 6) eW (.int (j:Int)::l.map λ(i:Nat)=>D.int (i:Int)) _=_;unfold cK;have t:ah 6 (.int (j:Int)) [A,.dat (.int (m:Int)),.own (iL row),.dat (.int seed),c,r,k]=some [A,.dat (.int (m:Int)),.own (iL row),.dat (.int seed),c,r,.dat (.int (j:Int))]:=rfl;rw[t];show(eW _).bind _=_;rw[e1];exact e2
theorem qk(xs:List D)(n:Nat):nv xs none (some (n:Int))=xs.take n:=by
 unfold nv;rw[HT.tT,HT.vL,List.drop_zero,Nat.sub_zero];rcases Nat.le_total n xs.length with h | h
 ·rw[Nat.min_eq_left h]
 ·rw[Nat.min_eq_right h,List.take_length,Za h]
theorem w9(ns:List Int)(hn:ns.length<=63)(m:Nat)(hm:m<=5000) :
  ∃row:List Int,yK [.dat (.lst (iL ns)),.dat (.int (m:Int)),.un,.un,.un,.un,.un]=some (.rt (.lst (iL row)))/\row.length=m/\Low row:=by
 have hk:(iL ns).take 63=iL ns:=Za (by simpa[iL] using hn);obtain⟨row1,seed1,c1,r1,k1,e1,l1,h1,z1⟩:=l8 (.dat (.lst (iL ns))) (.dat (.int (m:Int))) ns .un .un .un [] 29 (by intro v hv;cases hv) (by decide) (by simp;lia);obtain⟨row2,seed2,k2,e2',l2,h2,h3⟩:=kP (.dat (.lst (iL ns))) c1 r1 m (QF m) k1 row1 seed1 l1 h1 (by simp at z1 ⊢;lia) (by simp);refine⟨row2.take m,?_,by rw[QI];lia,λv hv=>l2 v (List.mem_of_mem_take hv)⟩;have s1:jD 2 (cD aB) [.dat (.lst (iL ns)),.dat (.int (m:Int)),.un,.un,.un,.un,.un]=some (.nx [.dat (.lst (iL ns)),.dat (.int (m:Int)),.own (iL []),.un,.un,.un,.un]):=rfl;have s2:bq 3 (eC (.int 29)) [.dat (.lst (iL ns)),.dat (.int (m:Int)),.own (iL []),.un,.un,.un,.un]=some (.nx [.dat (.lst (iL ns)),.dat (.int (m:Int)),.own (iL []),.dat (.int 29),.un,.un,.un]):=rfl
 have s3:cG (eF (eSl (ag 0) cE (bR (eC (.int 63))))) [.dat (.lst (iL ns)),.dat (.int (m:Int)),.own (iL []),.dat (.int 29),.un,.un,.un]=some (iL ns):=by
  show cG _ _=_;have:eSl (ag 0) cE (bR (eC (.int 63))) [.dat (.lst (iL ns)),.dat (.int (m:Int)),.own (iL []),.dat (.int 29),.un,.un,.un]=some (nv (iL ns) none (some ((63:Nat):Int))):=rfl;unfold cG eF;rw[this,qk,hk];rfl
 have s4:iW (ao 1) [.dat (.lst (iL ns)),.dat (.int (m:Int)),.own (iL row1),.dat (.int seed1),c1,r1,k1]=some (dc m):=by
  have:(m:Int)<1000000/\-1000000<(m:Int):=by lia
  unfold iW;show(if(m:Int)<1000000/\-1000000<(m:Int) then some (dc (m:Int).toNat) else none)=_;rw[if_pos this,JE]
 have s5:a8 (eF (eSl (ag 2) cE (bR (ag 1)))) [.dat (.lst (iL ns)),.dat (.int (m:Int)),.own (iL row2),.dat (.int seed2),c1,r1,k2]=some (.rt (.lst (iL (row2.take m)))):=by
  have:eSl (ag 2) cE (bR (ag 1)) [.dat (.lst (iL ns)),.dat (.int (m:Int)),.own (iL row2),.dat (.int seed2),c1,r1,k2]=some (nv (iL row2) none (some (m:Int))):=rfl;unfold a8 eF;rw[this,qk];simp[iL,List.map_take]
 have e2'':cK (ah 6) eW (dc m) [.dat (.lst (iL ns)),.dat (.int (m:Int)),.own (iL row1),.dat (.int seed1),c1,r1,k1]=_:=e2';unfold yK;rw[ay s1,ay s2,ay (by rw[bT s3];exact e1),ay (by rw[bT s4];exact e2'')];exact s5
abbrev tg2:D->Ev->Option Ev:=bx 2 (ai (ah 0) (ai (ah 1) aL))
def iH(rec:List D->Option D):Ev->Option Fl:=(aH (sIf (cH (dN (df (cU "list") (ag 1))) (dN (df (cU "tuple") (ag 1)))) (aH (sIf (cH (az g9 (df (cU "list") (ag 0)) (df (cU "list") (ag 1))) (az g9 (df (cU "tuple") (ag 0)) (df (cU "tuple") (ag 1)))) (a8 (eC (.bl false))) a_) (a8 (lp (e2 bE (g_ gE (ag 0)) (g_ gE (ag 1))) (aJ l9 (aa (eF (eLC (uT (aa (ao 0) (aa (ao 1) aB))) 2 [] tg2 iU (aJ rec (aa (ao 0) (aa (ao 1) aB))))) aB))))) a_) (aH (sIf (cH (az (isD false) (ag 0) (eC .non)) (az (isD false) (ag 1) (eC .non))) (a8 (lp (e2 (isD false) (ag 0) (eC .non)) (e2 (isD false) (ag 1) (eC .non)))) a_) (aH (sIf (cH (az g9 (df (cU "bool") (ag 0)) (df (cU "bool") (ag 1))) (az g9 (df (cU "int") (ag 0)) (df (cU "int") (ag 1)))) (a8 (eC (.bl false))) a_) (a8 (e2 bE (ag 0) (ag 1))))))
def FrS:Nat->List D->Option D
 |0=>λ_=>none
 |n+1=>fnD ["a","b"] ["a","b"] (iH (FrS n))
def OkS:Nat->D->Prop
 |0,_=>False
 |n+1,.tup ds=>ds.length<1000000/\∀d∈ds,OkS n d
 |n+1,.lst ds=>ds.length<1000000/\∀d∈ds,OkS n d
 |_+1,.dic _=>False
 |_+1,_=>True
theorem oP{rec:List D->Option D}:∀(ds:List D) (s0 s1:Sl),(∀d∈ds,rec [d,d]=some (.bl true))->lcD tg2 iU (aJ rec (aa (ao 0) (aa (ao 1) aB))) (jr ds ds) [s0,s1]=some (ds.map λ_=>D.bl true)
 |[],_,_,_=>rfl
 |d::ds,s0,s1,h=>by
  show((rec [d,d]).bind λv=>(lcD tg2 iU (aJ rec (aa (ao 0) (aa (ao 1) aB))) (jr ds ds) [.dat d,.dat d]).bind λr=>some (v::r))=_;rw[h d (by simp),oP ds _ _ λe he=>h e (by simp[he])];rfl
theorem mR:∀ds:List D,gU (ds.map λ_=>D.bl true)=some (ds.map λ_=>true)
 |[]=>rfl
 |d::ds=>by show(gU (ds.map λ_=>D.bl true)).bind _=_;rw[mR ds];rfl
theorem yL(ds:List D):l9 [.lst (ds.map λ_=>D.bl true)]=some (.bl true):=by
 show(gU (ds.map λ_=>D.bl true)).bind _=_;rw[mR];show some (D.bl ((ds.map λ_=>true).all id))=_;simp
theorem m9{rec:List D->Option D}(d:D)(ds:List D)(hd:d=.tup ds\/d=.lst ds)(hz:ds.length<1000000)(h:∀e∈ds,rec [e,e]=some (.bl true)):iH rec [.dat d,.dat d]=some (.rt (.bl true)):=by
 have c2:eF (eLC (uT (aa (ao 0) (aa (ao 1) aB))) 2 [] tg2 iU (aJ rec (aa (ao 0) (aa (ao 1) aB)))) [.dat d,.dat d]=some (.lst (ds.map λ_=>D.bl true)):=by
  refine fT ?_;rw[lN (ds:=jr ds ds) (by rcases hd with rfl | rfl<;>rfl) (by simpa[jr] using hz)];exact oP ds _ _ h
 have c1:e2 bE (g_ gE (ag 0)) (g_ gE (ag 1)) [.dat d,.dat d]=some (.bl true):=by
  have:e2 bE (g_ gE (ag 0)) (g_ gE (ag 1)) [.dat d,.dat d]=some (.bl (decide ((ds.length:Int)=(ds.length:Int)))):=by rcases hd with rfl | rfl<;>rfl
  rw[this];simp
 unfold iH;refine dq ?_;rw[dE (by rcases hd with rfl | rfl<;>rfl),ay (ε':=[.dat d,.dat d]) (by rcases hd with rfl | rfl<;>rfl)];exact eB (lM c1 ((va c2).trans (yL ds)))
theorem lF:∀(n:Nat) (d:D),OkS n d->FrS n [d,d]=some (.bl true)
 |0,_,h=>h.elim
 |n+1,d,h=>by
  show fnD ["a","b"] ["a","b"] (iH (FrS n)) [d,d]=_;refine bH rfl ?_;show iH (FrS n) [.dat d,.dat d]=_;cases d with
  |non=>rfl
  |bl b=>cases b<;>rfl
  |int i=>
   have:iH (FrS n) [.dat (.int i),.dat (.int i)]=some (.rt (.bl (decide (i=i)))):=rfl;rw[this];simp
  |str x=>
   have:iH (FrS n) [.dat (.str x),.dat (.str x)]=some (.rt (.bl (decide (x=x)))):=rfl;rw[this];simp
  |dic ds=>exact h.elim
  |tup ds=>exact m9 _ ds (.inl rfl) h.1 λe he=>lF n e (h.2 e he)
  |lst ds=>exact m9 _ ds (.inr rfl) h.1 λe he=>lF n e (h.2 e he)
def OkQ:Nat->D->Prop
 |n+1,.tup ds=>∀d∈ds,OkQ n d
 |n+1,.lst ds=>∀d∈ds,OkQ n d
 |0,.tup _=>False
 |0,.lst _=>False
 |_,.dic _=>False
 |_,_=>True
theorem OkS.int{n:Nat}(h:0<n)(i:Int):OkS n (.int i):=by
 cases n with
 |zero=>cases h
 |succ n=>exact trivial
def nG(f:Nat->Int)(n:Nat):List Int:=(QF n).map f
theorem zK(row:List Int):row=nG (λj=>row.getD j 0) row.length:=by
 apply Jq;intro i;unfold nG;rw[Qm]
 by_cases h:i<row.length
 ·simp[h,List.getElem?_range]
 ·have h':row.length<=i:=by lia
  rw[List.getElem?_eq_none h',List.getElem?_eq_none (by simpa using h')];rfl
theorem zR{row:List Int}{n:Nat}(hl:row.length=n)(hL:Low row):∃f:Nat->Int,row=nG f n/\∀j,0<=f j/\f j<1000:=by
 refine⟨λj=>row.getD j 0,by rw[<-hl];exact zK row,λj=>?_⟩
 by_cases h:j<row.length
 ·have:row.getD j 0=row[j]:=by simp[JL,h]
  show 0<=row.getD j 0/\row.getD j 0<1000;rw[this];exact hL _ (ZT h)
 ·have:row.getD j 0=0:=by simp[JL,List.getElem?_eq_none (show row.length<=j by lia)]
  show 0<=row.getD j 0/\row.getD j 0<1000;rw[this];lia
theorem ec{f:Ev->Option Bool}{g g':Ev->Option Fl}{ε:Ev}(p:Prop)[Decidable p](h:f ε=some (decide p))(hp:p):sIf f g g' ε=g ε:=dE (h.trans (by rw[decide_eq_true hp]))
theorem dJ{f:Ev->Option Bool}{g g':Ev->Option Fl}{ε:Ev}(p:Prop)[Decidable p](h:f ε=some (decide p))(hp:¬p):sIf f g g' ε=g' ε:=eL (h.trans (by rw[decide_eq_false hp]))
theorem xW{i j:Int}(h:-(2 ^ 64)<i/\i<2 ^ 64):eQ (.int i) (.int j)=some (.int (i*j)):=by
 have c:lD i j:=Or.inl h;simp[eQ,cQ,c]
theorem rq{i j:Int}(h:0<j):bG (.int i) (.int j)=some (.int (i%j)):=by
 simp[bG,cQ,h]
theorem z_{op:D->D->Option D}{fa fb:Ev->Option D}{ε:Ev}{x y:D}(h1:fa ε=some x)(h2:fb ε=some y):e2 op fa fb ε=op x y:=by unfold e2;rw[h1,h2];rfl
theorem jW{g:D->Ev->Option Ev}{gb:Ev->Option Fl}(P:Nat->Ev->Prop):∀(ds:List D) (n:Nat),(∀i d,ds[i]?=some d->∀ε,P (n+i) ε->∃ε1 ε2,g d ε=some ε1/\(gb ε1=some (.nx ε2)\/gb ε1=some (.ct ε2))/\P (n+i+1) ε2)->
  ∀ε,P n ε->∃ε',cK g gb ds ε=some (.nx ε')/\P (n+ds.length) ε'
 |[],n,_,ε,h=>⟨ε,rfl,h⟩
 |d::ds,n,st,ε,h=>by
  obtain⟨ε1,ε2,e1,e2,h2⟩:=st 0 d rfl ε h
  obtain⟨ε3,e3,h3⟩:=jW P ds (n+1) (λi d' hd ε h'=>by
   have:=st (i+1) d' hd ε (by rw[show n+(i+1)=n+1+i by lia];exact h');rw[show n+(i+1)+1=n+1+i+1 by lia] at this
   exact this) ε2 h2
  refine⟨ε3,?_,by rw[Qv,show n+(ds.length+1)=n+1+ds.length by lia];exact h3⟩;show(g d ε).bind _=_;rw[e1];show(gb ε1).bind _=_;rcases e2 with e2 | e2<;>(rw[e2];exact e3)
theorem tw{n i:Nat}{d:D}(h:(dc n)[i]?=some d):d=.int (i:Int)/\i<n:=by
 unfold dc at h;rw[Qm] at h;obtain⟨m,em,rfl⟩:=aP h;obtain⟨hm,em⟩:=Qi.mp em;rw[Ka] at em;subst em;exact⟨rfl,by simpa using hm⟩
@[simp] theorem rngD_len (n:Nat):(dc n).length=n:=by simp[dc]
theorem vK{f:Ev->Option D}{ε:Ev}{j:Int}(h:f ε=some (.int j))(h1:0<=j)(h2:j<1000000):iW f ε=some (dc j.toNat):=by
 unfold iW;rw[h];show(if j<1000000/\-1000000<j then some (dc j.toNat) else none)=_;rw[if_pos (by lia)]
theorem yA{N ps:List Str}{g:Ev->Option Fl}{ds rs:List D}(hl:ds.length=ps.length)(h:g (cx N ds)=some (.ro rs)):fnO N ps g ds=some rs:=by
 unfold fnO;rw[if_pos hl,h]
theorem sv{N ps:List Str}{g:Ev->Option Fl}{ds rs:List D}(hl:ds.length=ps.length)(h:g (cx N ds)=some (.ro rs)):fnD N ps g ds=some (.lst rs):=by
 unfold fnD;rw[if_pos hl,h]
theorem fL{f g:Ev->Option Bool}{ε:Ev}{a b:Bool}(h1:f ε=some a)(h2:g ε=some b):b9 f g ε=some (a&&b):=by
 unfold b9;rw[h1];cases a
 ·rfl
 ·exact h2
theorem lX{f g:Ev->Option Bool}{ε:Ev}{a b:Bool}(h1:f ε=some a)(h2:g ε=some b):cH f g ε=some (a || b):=by
 unfold cH;rw[h1];cases a
 ·exact h2
 ·rfl
theorem lL{f:Ev->Option Bool}{ε:Ev}{a:Bool}(h1:f ε=some a):eO f ε=some (!a):=by unfold eO;rw[h1];rfl
theorem i9{i:Nat}{f:Ev->Option D}{ε:Ev}{d:D}{ds:List D}(h:f ε=some d)(hi:ε[i]?=some (.own ds))(hl:ds.length<1000000):c_ i f ε=some (.nx (ε.set i (.own (ds++[d])))):=by
 unfold c_;rw[h];show(match ε[i]? with | some (.own ds)=>_ | _=>none)=_;rw[hi];show(if ds.length<1000000 then _ else none)=_;rw[if_pos hl]
abbrev t6(a0 a1 a2 a3 a4 a5:Int):D:=.tup [.int a0,.int a1,.int a2,.int a3,.int a4,.int a5]
structure Stt where
 (x y z s p:Int)
def stD(q:Stt):D:=.tup [.int q.x,.int q.y,.int q.z,.int q.s,.int q.p]
theorem bI{op:D->D->Option D}{fa fb:Ev->Option D}{ε:Ev}{x y z:D}(h1:fa ε=some x)(h2:fb ε=some y)(h3:op x y=some z):e2 op fa fb ε=some z:=(z_ h1 h2).trans h3
theorem aU{f:Ev->Option D}{g:Ev->Option (List D)}{ε:Ev}{x:D}{xs:List D}(h1:f ε=some x)(h2:g ε=some xs):aa f g ε=some (x::xs):=by unfold aa;rw[h1,h2];rfl
theorem vU{g:Ev->Option (List D)}{ε:Ev}{ds:List D}(h1:g ε=some ds)(h2:ds.length<=1000):aY g ε=some (.tup ds):=by unfold aY;rw[h1];show(if ds.length<=1000 then some (D.tup ds) else none)=_;rw[if_pos h2]
theorem aX{F:List D->Option D}{g:Ev->Option (List D)}{ε:Ev}{ds:List D}{d:D}(h1:g ε=some ds)(h2:F ds=some d):aJ F g ε=some d:=by unfold aJ;rw[h1];exact h2
theorem fI{op:D->D->Option D}{fa fb:Ev->Option D}{ε:Ev}{x y:D}{b:Bool}(h1:fa ε=some x)(h2:fb ε=some y)(h3:op x y=some (.bl b)):az op fa fb ε=some b:=by unfold az;rw[bI h1 h2 h3];rfl
theorem pj{F:List D->Option D}{g:Ev->Option (List D)}{ε:Ev}{b:Bool}(h:aJ F g ε=some (.bl b)):dN (aJ F g) ε=some b:=by unfold dN;rw[h];rfl
structure Hl where
 (x y t:Int)
def hD(h:Hl):D:=.tup [.int h.x,.int h.y,.int h.t]
abbrev hL(hs:List Hl):List D:=hs.map hD
structure Wd where
 (h z dx dy:Int)
def wD(q:Wd):D:=.tup [.int q.h,.int q.z,.int q.dx,.int q.dy]
abbrev wL(ws:List Wd):List D:=ws.map wD
structure Sh where
 (a b c d e f t u:Int)
def shD(q:Sh):D:=.tup [.int q.a,.int q.b,.int q.c,.int q.d,.int q.e,.int q.f,.int q.t,.int q.u]
abbrev shL(l:List Sh):List D:=l.map shD
theorem xn(f:Nat->Int)(m j:Nat)(h:j<m):ixD (.lst (iL (nG f m))) (.int (j:Int))=some (.int (f j)):=
 wZ (by unfold iL nG;rw[Qm,Qm,List.getElem?_range h];rfl)
section
variable(f:Nat->Int)(b0 b1 hour:Int)
theorem qr:∀l:List Int,qW (iL l)=some (l.map V.int)
 |[]=>rfl
 |i::l=>by show(qW (iL l)).bind _=_;rw[qr l];rfl
end
def uI(h z:Int)(w:Wd):Prop:=w.z=z/\w.h<=h
instance (h z:Int) (w:Wd):Decidable (uI h z w):=by unfold uI;infer_instance
def nH(h z:Int)(acc:Option Wd)(w:Wd):Option Wd:=if uI h z w then(match acc with | none=>some w | some b=>if b.h<=w.h then some w else acc) else acc
def gm(h z:Int):List Wd->Option Wd->Option Wd
 |[],acc=>acc
 |w::r,acc=>gm h z r (nH h z acc w)
def pG(h z:Int)(ws:List Wd):D:=match gm h z ws none with | none=>.tup [.int 0,.int 0] | some b=>.tup [.int b.dx,.int b.dy]
def j7:Option Wd->D
 |none=>.non
 |some b=>wD b
def rm:Ev->Option Fl:=(aH (sIf (cH (az g9 (e2 ixD (ag 4) (eC (.int 1))) (ag 2)) (az gtI (e2 ixD (ag 4) (eC (.int 0))) (ag 1))) (λε=>some (.ct ε)) a_) (sIf (cH (az (isD false) (ag 3) (eC .non)) (az geI (e2 ixD (ag 4) (eC (.int 0))) (e2 ixD (ag 3) (eC (.int 0))))) (bq 3 (ao 4)) a_))
def gWA:Ev->Option Fl:=(aH (bq 3 (eC .non)) (aH (cP (cG (ao 0)) (ah 4) rm) (aH (sIf (az (isD false) (ag 3) (eC .non)) (a8 (aY (aa (eC (.int 0)) (aa (eC (.int 0)) aB)))) a_) (a8 (aY (aa (e2 ixD (ag 3) (eC (.int 2))) (aa (e2 ixD (ag 3) (eC (.int 3))) aB)))))))
theorem xN(L:D)(h z:Int)(acc:Option Wd)(w:Wd):∃ε,(rm [.dat L,.dat (.int h),.dat (.int z),.dat (j7 acc),.dat (wD w)]=some (.nx ε)\/rm [.dat L,.dat (.int h),.dat (.int z),.dat (j7 acc),.dat (wD w)]=some (.ct ε))/\ε=[.dat L,.dat (.int h),.dat (.int z),.dat (j7 (nH h z acc w)),.dat (wD w)]:=by
 have c:cH (az g9 (e2 ixD (ag 4) (eC (.int 1))) (ag 2)) (az gtI (e2 ixD (ag 4) (eC (.int 0))) (ag 1)) [.dat L,.dat (.int h),.dat (.int z),.dat (j7 acc),.dat (wD w)]=some (!decide (w.z=z) || decide (w.h>h)):=lX rfl rfl;refine⟨_,?_,rfl⟩;unfold rm nH
 by_cases s:uI h z w
 ·rw[if_pos s]
  have c':=c.trans (show some (!decide (w.z=z) || decide (w.h>h))=some false by rw[decide_eq_true s.1,decide_eq_false (show ¬w.h>h by have:=s.2;lia)];rfl)
  left
  refine(ay ((eL c').trans rfl)).trans ?_;cases acc with
  |none=>rfl
  |some b=>
   have c2:cH (az (isD false) (ag 3) (eC .non)) (az geI (e2 ixD (ag 4) (eC (.int 0))) (e2 ixD (ag 3) (eC (.int 0)))) [.dat L,.dat (.int h),.dat (.int z),.dat (j7 (some b)),.dat (wD w)]=some (false || decide (w.h>=b.h)):=lX rfl rfl;show sIf _ _ _ [.dat L,.dat (.int h),.dat (.int z),.dat (j7 (some b)),.dat (wD w)]=some (.nx [.dat L,.dat (.int h),.dat (.int z),.dat (j7 (if b.h<=w.h then some w else some b)),.dat (wD w)])
   by_cases g:b.h<=w.h
   ·rw[if_pos g]
    exact(dE (c2.trans (by rw[decide_eq_true (show w.h>=b.h from g)];rfl))).trans rfl
   ·rw[if_neg g]
    exact(eL (c2.trans (by rw[decide_eq_false (show ¬w.h>=b.h from g)];rfl))).trans rfl
 ·rw[if_neg s]
  right
  have c':=c.trans (show some (!decide (w.z=z) || decide (w.h>h))=some true by
   by_cases g:w.z=z
   ·rw[decide_eq_true g,decide_eq_true (show w.h>h by by_cases q:w.h>h;exact q;exact absurd ⟨g,by lia⟩ s)];rfl
   ·rw[decide_eq_false g];rfl)
  unfold aH;rw[dE c'];rfl
theorem pz(L:D)(h z:Int):∀(ws:List Wd) (acc:Option Wd) (s4:Sl),∃e4,cK (ah 4) rm (wL ws) [.dat L,.dat (.int h),.dat (.int z),.dat (j7 acc),s4]=some (.nx [.dat L,.dat (.int h),.dat (.int z),.dat (j7 (gm h z ws acc)),e4])
 |[],acc,s4=>⟨s4,rfl⟩
 |w::ws,acc,s4=>by
  obtain⟨ε,e,rfl⟩:=xN L h z acc w;obtain⟨e4,e'⟩:=pz L h z ws (nH h z acc w) (.dat (wD w));refine⟨e4,?_⟩;show(rm [.dat L,.dat (.int h),.dat (.int z),.dat (j7 acc),.dat (wD w)]).bind _=_;rcases e with e | e<;>(rw[e];exact e')
theorem zm(ws:List Wd)(h z:Int):gWA [.dat (.lst (wL ws)),.dat (.int h),.dat (.int z),.un,.un]=some (.rt (pG h z ws)):=by
 obtain⟨e4,e⟩:=pz (.lst (wL ws)) h z ws none .un;unfold gWA;refine(ay rfl).trans ?_;refine(ay ((bT (ds:=wL ws) rfl).trans e)).trans ?_;unfold pG;cases gm h z ws none with
 |none=>rfl
 |some b=>rfl
theorem pR{α:Type}{g:D->Ev->Option Ev}{ft:Ev->Option Bool}{fe:Ev->Option D}(P:Ev->Prop)(enc:α->D)(p:α->Bool)(h:α->D):∀(xs:List α),(∀x∈xs,∀ε,P ε->∃ε1,g (enc x) ε=some ε1/\P ε1/\ft ε1=some (p x)/\(p x=true->fe ε1=some (h x)))->
  ∀ε,P ε->lcD g ft fe (xs.map enc) ε=some ((xs.filter p).map h)
 |[],_,ε,_=>rfl
 |x::xs,st,ε,hp=>by
  obtain⟨ε1,e1,p1,e2,e3⟩:=st x (Qh ..) ε hp;have ih:=pR P enc p h xs (λy hy=>st y (Qj _ hy)) ε1 p1;show(g (enc x) ε).bind _=_;rw[e1];show(ft ε1).bind _=_;rw[e2];show(if p x=true then _ else _)=_;cases hx:p x with
  |true=>
   rw[if_pos rfl,e3 hx];show(lcD g ft fe (xs.map enc) ε1).bind _=_;rw[ih,List.filter_cons_of_pos (by simpa using hx)];rfl
  |false=>
   rw[if_neg ww,ih,List.filter_cons_of_neg (by simp[hx])]
theorem wC{α:Type}{g:D->Ev->Option Ev}{fe:Ev->Option D}(P:Ev->Prop)(enc:α->D)(h:α->D)(xs:List α)(st:∀x∈xs,∀ε,P ε->∃ε1,g (enc x) ε=some ε1/\P ε1/\fe ε1=some (h x))(ε:Ev)(hp:P ε) :
  lcD g iU fe (xs.map enc) ε=some (xs.map h):=by
 rw[pR (ft:=iU) P enc (λ_=>true) h xs (λx hx ε hp=>let⟨ε1,a,b,c⟩:=st x hx ε hp;⟨ε1,a,b,rfl,λ_=>c⟩) ε hp,List.filter_eq_self.mpr λ_ _=>rfl]
theorem kn{α:Type}{g:D->Ev->Option Ev}{gb:Ev->Option Fl}(enc:α->D)(P:List α->Ev->Prop)(xs:List α):∀(rest done:List α),done++rest=xs->
  (∀done x rest,done++x::rest=xs->∀ε,P done ε->∃ε1 ε2,g (enc x) ε=some ε1/\(gb ε1=some (.nx ε2)\/gb ε1=some (.ct ε2))/\P (done++[x]) ε2)->∀ε,P done ε->∃ε',cK g gb (rest.map enc) ε=some (.nx ε')/\P xs ε'
 |[],done,hx,_,ε,hp=>⟨ε,rfl,by rw[<-hx,QW];exact hp⟩
 |x::rest,done,hx,st,ε,hp=>by
  obtain⟨ε1,ε2,e1,e2,p2⟩:=st done x rest hx ε hp;obtain⟨ε3,e3,p3⟩:=kn enc P xs rest (done++[x]) (by rw[Qk];exact hx) st ε2 p2;refine⟨ε3,?_,p3⟩;show(g (enc x) ε).bind _=_;rw[e1];show(gb ε1).bind _=_;rcases e2 with e2 | e2<;>(rw[e2];exact e3)
theorem cX{α:Type}{g:D->Ev->Option Ev}{gb:Ev->Option Fl}(enc:α->D)(P:List α->Ev->Prop)(xs:List α)
  (st:∀done x rest,done++x::rest=xs->∀ε,P done ε->∃ε1 ε2,g (enc x) ε=some ε1/\(gb ε1=some (.nx ε2)\/gb ε1=some (.ct ε2))/\P (done++[x]) ε2) (ε:Ev) (h:P [] ε):∃ε',cK g gb (xs.map enc) ε=some (.nx ε')/\P xs ε':=
 kn enc P xs xs [] rfl st ε h
theorem jc{α:Type}(l:List α):l=[]\/∃r a,l=r++[a]:=by
 cases h:l.reverse with
 |nil=>exact .inl (by simpa using h)
 |cons a r=>exact .inr ⟨r.reverse,a,by rw[<-Zq l,h,ZI]⟩
theorem xf{α:Type}(l:List α)(a:α):atI (l++[a]) (-1)=some a:=by
 unfold atI ixN;have h1:¬ (0:Int)<=-1:=by decide
 have h2:-(((l++[a]).length:Nat):Int)<=-1:=by simp;lia
 rw[if_neg h1,if_pos h2];have:(-1+(((l++[a]).length:Nat):Int)).toNat=l.length:=by simp;lia
 show(l++[a])[(-1+(((l++[a]).length:Nat):Int)).toNat]?=_;rw[this];simp
theorem mY(l:List D)(d:D):ixD (.lst (l++[d])) (.int (-1))=some d:=xf l d
theorem tZ{F:List D->Option (List D)}{g:Ev->Option (List D)}{ε:Ev}{ds rs:List D}(h1:g ε=some ds)(h2:F ds=some rs):fW F g ε=some rs:=by unfold fW;rw[h1];exact h2
theorem v_{f:Ev->Option D}{ε:Ev}{b:Bool}(h:f ε=some (.bl b)):dN f ε=some b:=by unfold dN;rw[h];rfl
theorem l5{f:Ev->Option D}{ε:Ev}{ds:List D}(h:f ε=some (.lst ds)):cG f ε=some ds:=by unfold cG;rw[h]
theorem i0{f:Ev->Option (List D)}{g:D->Ev->Option Ev}{gb:Ev->Option Fl}{ε ε':Ev}{ds:List D}(h:f ε=some ds)(e:cK g gb ds ε=some (.nx ε')):cP f g gb ε=some (.nx ε'):=(bT h).trans e
theorem zU{fi:Ev->Option (List D)}{n:Nat}{ix:List Nat}{g:D->Ev->Option Ev}{ft:Ev->Option Bool}{fe:Ev->Option D}{ε:Ev}{ds rs:List D}(h:fi ε=some ds)(hl:ds.length<1000000)(h2:lcD g ft fe ds (prE n ix ε)=some rs):eLC fi n ix g ft fe ε=some rs:=(lN h hl).trans h2
structure Sk where
 (hs:List Hl)
 (cs:List Int)
 (ws:List Wd)
 (ss:List Sh)
def skD(k:Sk):D:=.tup [.lst (hL k.hs),.lst (iL k.cs),.lst (wL k.ws),.lst (shL k.ss)]
structure SkW(k:Sk):Prop where
 hl:k.hs.length<=900
 hk:∀h∈k.hs,0<=h.t
 cl:k.cs.length<=900
 wl:k.ws.length<=99
 sl:k.ss.length<=900
end Dn
namespace RW2
open PySem PyProof.Rows PySem.W L2
end RW2
namespace Dn
open PySem PySem.Spec PyProof.Rows L2 PySem.W RW2
def inl(k:List Int):List Key:=k.map Sum.inl
def Ca(p:Addr)(as:List Addr):Heap->Prop:=λh=>(p==Ju)=false/\∃es ep,gc h p es ep/\es.toList.map (·.key)=as.map QH
section
variable{X:Cx}{a:Expr}{fa:Ev->Option D}{pos pos2:Pos}
def BA(ta:TA):TE:=λσ H Q=>ta σ H λvs H1=>∃n:Nat,vs=[.int (n:Int)]/\n<1000000/\∀l,H1 l=none->Q (.ref l) (upd H1 l (.lst ((QF n).map λi=>V.int ((i:Nat):Int))))
theorem xx{p p2:Pos}{ta:TA}(hc:X.calm=true)(hg:Gl X "list")(hm:X.mg "list" = none)(hg2:Gl X "range")(hm2:X.mg "range" = none)(ha:PA X [a] ta)(hs:uk [a] X.env=[(false,eval a X.env)])
  (hs2:uk [.Call (.Name "range" p2) [a] [] pos2] X.env=[(false,eval (.Call (.Name "range" p2) [a] [] pos2) X.env)]):PE X (.Call (.Name "list" p) [.Call (.Name "range" p2) [a] [] pos2] [] pos) (BA ta):=by
 intro pins s σ H Q I h;refine Call_ (d7 I hg hm boot_list (Jh ?_ hs2 rfl));rw[hs2]
 change wE _ _ (spliced ((false,eval (.Call (.Name "range" p2) [a] [] pos2) X.env)::Q7 pos [])) _ _ s
 refine Calls.spliced_cons (Call_ (d7 I hg2 hm2 boot_range (Jh (thn (ha pos2 pins s σ H _ I h) λus s1 ⟨vs,H1,I1,r1,q1⟩=>?_) hs rfl)));obtain⟨n,e,hn,q⟩:=q1;subst e
 cases r1 with | cons r rr=>
  cases rr;obtain⟨t,rfl⟩:=r;refine call_range_1 (Calls.spliced_nil ?_);have I2:Inv X pins σ H1 { s1 with heap:=s1.heap.push { cls:=.type "range",data:=.fields #[.int 0 s1.toks,.int (n:Int) t,.int 1 (s1.toks+1)] },toks:=s1.toks+1+1 }:=I1.kept λb o e=>wf _ e;have nn:=I2.hok.fresh (wp _);have szn:Builtin.Range.rangeSize 0 (n:Int) 1=(n:Int):=by unfold Builtin.Range.rangeSize;simp;lia
  refine call_list_range (n:=n) (I2.ok.hd hc) (IsRange.new ..) ?_ szn (by lia) λh' tk acc c kp hl items=>?_
  ·unfold Builtin.Range.small Builtin.Range.rangeFitsLong;simp[szn];lia
  ·have ea:aK ((QF n).map λi=>V.int ((i:Nat):Int)) acc.toList:=by
    have vl:∀(us:List V) (vs:List vv),us.length=vs.length->(∀i (hi:i<us.length) (hj:i<vs.length),aQ us[i] vs[i])->aK us vs:=by
     intro us
     induction us with
     |nil=>intro vs h _;cases vs with | nil=>exact .nil | cons _ _=>cases h
     |cons u us ih=>intro vs h g;cases vs with | nil=>cases h | cons v vs=>exact .cons (g 0 (by simp) (by simp)) (ih vs (by simpa using h) λi hi hj=>g (i+1) (by simpa using hi) (by simpa using hj))
    refine vl _ _ (by simp[items.1]) λi hi hj=>?_;simp at hi hj;obtain⟨t,e⟩:=items.2 i acc[i] (by simp[hj]);rw[List.getElem_map,Ka];simp[e];exact⟨_,rfl⟩
   exact⟨.ref _,upd H1 _ (.lst ((QF n).map λi=>V.int ((i:Nat):Int))),I2.laid (t':=tk) kp (wp _) ⟨by simp;exact QZ (Jc hn (by decide)),acc.toList,c,ea,by rw[hl]⟩,rfl,q _ nn⟩
def uP(f:Ev->Option D):Ev->Option (List D):=λε=>match f ε with | some (.int j)=>if 0<=j/\j<1000000 then some (dc j.toNat) else none | _=>none
theorem wB{p p2:Pos}(hc:X.calm=true)(h:DE X a fa)(hm:X.mg "list" = none)(hm2:X.mg "range" = none)(hg:Gl X "list":=by rfl)(hg2:Gl X "range":=by rfl)(hs:uk [a] X.env=[(false,eval a X.env)]:=by rfl)
  (hs2:uk [.Call (.Name "range" p2) [a] [] pos2] X.env=[(false,eval (.Call (.Name "range" p2) [a] [] pos2) X.env)]:=by rfl):DF X (.Call (.Name "list" p) [.Call (.Name "range" p2) [a] [] pos2] [] pos) (uP fa):=by
 obtain⟨t,a1,a2⟩:=h;refine⟨_,xx hc hg hm hg2 hm2 (bD a1 b6 hs) hs hs2,λHe G H σ ε ds Q gh E ef q=>?_⟩;unfold uP at ef;split at ef
 ·rename_i j e1
  split at ef
  ·rename_i hj
   cases ef;refine a2 He G H σ ε _ _ gh E e1 λv G1 H1 g1 d1=>?_;refine⟨j.toNat,by rw[d1.intV,show((j.toNat:Nat):Int)=j by lia],by lia,λl hl=>q l _ G1 _ (g1.trans (.lay _ g1.gh hl)) (g1.hh.free hl) (g1.gh.free hl) aE ?_⟩
   have den:∀l:List Nat,DenL X.K G1 (l.map λi=>V.int ((i:Nat):Int)) (l.map λi=>D.int (i:Nat)):=by
    intro l
    induction l with
    |nil=>exact .nil
    |cons b r ih=>exact .cons (.int _) ih
   exact den _
  ·cases ef
 ·cases ef
end
def cM(ε:Ev):Bool:=ε.all λs=>match s with | .own _=>false | .odi _=>false | _=>true
theorem jH{ε:Ev}(h:cM ε=true){i:Nat}{es:List D}(e:ε[i]?=some (.own es)):False:=by
 have:=Jd.mp h _ (Jj e);cases this
theorem gJ{ε:Ev}(h:cM ε=true){i:Nat}{es:List (List Int×D)}(e:ε[i]?=some (.odi es)):False:=by
 have:=Jd.mp h _ (Jj e);cases this
theorem EnvD.over{K:v0}{He G H G' H':Hp}{σ:L2.St}{ε:Ev}(E:EnvD K He G H σ ε)(no:cM ε=true)(gg:aF G G'):EnvD K He G' H' σ ε where
 len:=E.len
 dat:=λe=>let⟨v,h1,h2⟩:=E.dat e;⟨v,h1,h2.mono gg⟩
 own:=λe=>(jH no e).elim
 apart:=E.apart
 odi:=λe=>(gJ no e).elim
 apartD:=E.apartD
theorem EnvD.drop{K:v0}{He G H:Hp}{σ:L2.St}{ε:Ev}(E:EnvD K He G H σ ε)(i:Nat)(v:V):EnvD K He G H (σ.set i (some v)) (ε.set i .un) where
 len:=by rw[Jf,Jf];exact E.len
 dat:=λ{j d} e=>by
  rw[Qc] at e ⊢
  by_cases z:i=j
  ·rw[if_pos z] at e;split at e<;>cases e
  ·rw[if_neg z] at e ⊢;exact E.dat e
 own:=λ{j ds} e=>by
  rw[Qc] at e ⊢
  by_cases z:i=j
  ·rw[if_pos z] at e;split at e<;>cases e
  ·rw[if_neg z] at e ⊢;exact E.own e
 apart:=λ{j k ds es b} e1 e2 h1 h2=>by
  rw[Qc] at e1 e2 h1 h2
  by_cases z:i=j
  ·rw[if_pos z] at e1;split at e1<;>cases e1
  ·by_cases z2:i=k
   ·rw[if_pos z2] at e2;split at e2<;>cases e2
   ·rw[if_neg z] at e1 h1
    rw[if_neg z2] at e2 h2;exact E.apart e1 e2 h1 h2
 odi:=λ{j ds} e=>by
  rw[Qc] at e ⊢
  by_cases z:i=j
  ·rw[if_pos z] at e;split at e<;>cases e
  ·rw[if_neg z] at e ⊢;exact E.odi e
 apartD:=λ{j k ds es b} e1 e2 h1 h2=>by
  rw[Qc] at e1 e2 h1 h2
  by_cases z:i=j
  ·rw[if_pos z] at e1;split at e1<;>cases e1
  ·by_cases z2:i=k
   ·rw[if_pos z2] at e2;split at e2<;>cases e2
   ·rw[if_neg z] at e1 h1
    rw[if_neg z2] at e2 h2;exact E.apartD e1 e2 h1 h2
theorem q8{ε:Ev}(h:cM ε=true)(i:Nat):cM (ε.set i .un)=true:=by
 unfold cM at h ⊢;rw[Jd] at h ⊢;intro s hs;rcases List.mem_or_eq_of_mem_set hs with z | z
 ·exact h s z
 ·rw[z]
def lkD:List (List Int×D)->List Int->Option D
 |[],_=>none
 |e::r,k=>if e.1=k then some e.2 else lkD r k
def j9:List (List Int×D)->List Int->D->List (List Int×D)
 |[],k,d=>[(k,d)]
 |e::r,k,d=>if e.1=k then(e.1,d)::r else e::j9 r k d
def gi:aT->List Int->Addr->V->aT
 |[],k,b,v=>[(k,b,v)]
 |e::r,k,b,v=>if e.1=k then(e.1,e.2.1,v)::r else e::gi r k b v
abbrev Ti(P:Qs)(w:QC):=tupleKind (intKind P w)
abbrev XsL:=List (List Int×Addr×vv)
def uK:XsL->List Int->Addr->vv->XsL
 |[],k,b,v=>[(k,b,v)]
 |e::r,k,b,v=>if e.1=k then(e.1,e.2.1,v)::r else e::uK r k b v
theorem kJ:∀(es:aT) (k:List Int) (b:Addr) (v:V),(gi es k b v).map (·.1)=if k∈es.map (·.1) then es.map (·.1) else es.map (·.1)++[k]
 |[],k,b,v=>by simp[gi]
 |e::r,k,b,v=>by
  unfold gi
  by_cases z:e.1=k
  ·rw[if_pos z,if_pos (by simp[z])];rfl
  ·rw[if_neg z,Qe,kJ r k b v]
   by_cases q:k∈r.map (·.1)
   ·rw[if_pos q,if_pos (by rw[Qe];exact Qj _ q)];rfl
   ·rw[if_neg q,if_neg (by rw[Qe,ut];exact λh=>h.elim (λh=>z h.symm) q)];rfl
theorem rh{ks:List (List Int)}{k:List Int}(h:ks.Nodup):(if k∈ks then ks else ks++[k]).Nodup:=by
 split
 ·exact h
 ·rename_i hm
  rw[ZK];exact⟨h,by simp,λa ha b hb=>by rw[xz.mp hb];exact λe=>hm (e▸ha)⟩
theorem jT{es:aT}{k:List Int}{b:Addr}{v:V}(h:(es.map (·.1)).Nodup):((gi es k b v).map (·.1)).Nodup:=by
 rw[kJ];exact rh h
theorem gA:∀(es:aT) (k:List Int) (b:Addr) (v:V),(gi es k b v).length<=es.length+1
 |[],_,_,_=>wp _
 |e::r,k,b,v=>by
  unfold gi;split
  ·exact Nat.le_succ _
  ·exact Zx (gA r k b v)
theorem l7(k:List Int)(v:vv):∀(xs:XsL),k∉xs.map (·.1)->xs.map (putAt k v)=xs
 |[],_=>rfl
 |e::r,h=>by
  rw[Qe,ut,not_or] at h;rw[Qe,l7 k v r h.2,putAt,if_neg λz=>h.1 z.symm]
theorem f6(k:List Int)(b:Addr)(v:vv):∀(xs:XsL),(xs.map (·.1)).Nodup->storedH xs k b v=uK xs k b v
 |[],_=>rfl
 |e::r,h=>by
  rw[Qe,Jv] at h;have ih:=f6 k b v r h.2;unfold uK
  by_cases z:e.1=k
  ·rw[if_pos z]
   have:JY (e::r) k=some e.2:=by simp[JY,JH,z]
   rw[storedH_old this,Qe,l7 k v r (z▸h.1),putAt,if_pos z]
  ·rw[if_neg z,<-ih]
   have q:JY (e::r) k=JY r k:=by simp[JY,JH,z]
   unfold storedH;rw[q];split
   ·rw[Qe,putAt,if_neg z]
   ·rfl
def EX(u:List Int×Addr×V)(x:List Int×Addr×vv):Prop:=u.1=x.1/\u.2.1=x.2.1/\L2.aQ u.2.2 x.2.2
theorem nU{k:List Int}{b:Addr}{v:V}{u:vv}(rv:L2.aQ v u):∀{us:aT} {xs:XsL},Jk EX us xs->Jk EX (gi us k b v) (uK xs k b u)
 |_,_,.nil=>.cons ⟨rfl,rfl,rv⟩ .nil
 |_,_,.cons (a:=a) (b:=x) h t=>by
  unfold gi uK;rw[<-h.1];split
  ·exact .cons ⟨rfl,h.2.1,rv⟩ t
  ·exact .cons h (nU rv t)
theorem cf:∀{us:aT} {xs:XsL},Jk EX us xs->us.map (·.1)=xs.map (·.1)
 |_,_,.nil=>rfl
 |_,_,.cons h t=>by rw[Qe,Qe,cf t,h.1]
theorem lR{x:List Int×Addr×vv}{r:XsL}{k:List Int}:JY (x::r) k=if x.1=k then some x.2 else JY r k:=by
 by_cases z:x.1=k<;>simp[JY,JH,z]
theorem yo{k:List Int}{p:Addr×vv}:∀{us:aT} {xs:XsL},Jk EX us xs->JY xs k=some p->∃b v,(k,b,v)∈us/\L2.aQ v p.2:=by
 intro us xs q
 induction q with
 |nil=>intro e;cases e
 |@cons a x us xs h t ih=>
  intro e;rw[lR] at e;split at e
  ·rename_i z
   cases e;exact⟨a.2.1,a.2.2,by rw[<-z,<-h.1];exact Qh ..,h.2.2⟩
  ·obtain⟨b,v,h1,h2⟩:=ih e
   exact⟨b,v,Qj _ h1,h2⟩
section
variable{X:Cx}{pins:List (Addr×Obj)}{σ:L2.St}{G H:Hp}{s:v6}
theorem mS{P:Qs}{w:QC}:∀{ns:List Int} {us:List vv},aK (ns.map V.int) us->ItemsAre (intKind P w) ns us
 |[],_,r=>by cases r;exact .nil
 |n::ns,_,r=>by
  cases r with
  |@cons _ u _ us h t=>
   obtain⟨tk,rfl⟩:=(show ∃t,u=Value.int n t from h);exact .cons (by simp[intKind,Value.isInt]) (mS t)
theorem fm(I:Inv X pins σ H s)(gh:aF G H){b:Addr}{k:List Int}(h:SqT X.K G b (k.map V.int)):(Ti X.prog X.w).is s.heap k b:=by
 obtain⟨its,r,⟨o,o1,o2,n,o3⟩,_⟩:=I.tuple (aC gh h);exact⟨o,its.toArray,n,o1,o2,o3,by simpa using mS r⟩
theorem nL{P:Qs}{w:QC}:∀{us:aT} {raw:List Jp},Jk EntOk us raw->∃xs:XsL,raw=xs.map (entryOfKey (Ti P w))/\Jk EX us xs
 |_,_,.nil=>⟨[],rfl,.nil⟩
 |_,_,.cons (a:=a) (b:=r) h t=>by
  obtain⟨xs,e,q⟩:=nL (P:=P) (w:=w) t;refine⟨(a.1,a.2.1,r.val)::xs,?_,.cons ⟨rfl,rfl,h.val⟩ q⟩;rw[Qe,<-e];congr 1;obtain⟨r1,r2,r3⟩:=r;have h1:=h.hash;have h2:=h.key;simp only at h1 h2;subst h1 h2;rfl
theorem uH{P:Qs}{w:QC}:∀{us:aT} {xs:XsL},Jk EX us xs->Jk EntOk us (xs.map (entryOfKey (Ti P w)))
 |_,_,.nil=>.nil
 |_,_,.cons (a:=a) (b:=x) h t=>.cons ⟨by rw[h.1];rfl,by rw[h.2.1];rfl,h.2.2⟩ (uH t)
theorem DenM.mem{K:v0}{G:Hp}{us:aT}{es:List (List Int×D)}(h:DenM K G us es):∀u∈us,SqT K G u.2.1 (u.1.map V.int):=
 DenM.ind (P:=λus _=>∀u∈us,SqT K G u.2.1 (u.1.map V.int)) (λ_ h=>nomatch h) (λhk _ _ y u hu=>(ut.mp hu).elim (λe=>by subst e;exact hk) (y u)) h
theorem DenM.keys{K:v0}{G:Hp}{us:aT}{es:List (List Int×D)}(h:DenM K G us es):us.map (·.1)=es.map (·.1):=
 DenM.ind (P:=λus es=>us.map (·.1)=es.map (·.1)) rfl (λ_ _ _ y=>by rw[Qe,Qe,y]) h
theorem DenM.len{K:v0}{G:Hp}{us:aT}{es:List (List Int×D)}(h:DenM K G us es):us.length=es.length:=by simpa using congrArg List.length h.keys
theorem DenM.put{K:v0}{G:Hp}{k:List Int}{b:Addr}{v:V}{d:D}(hb:SqT K G b (k.map V.int))(hv:Den K G v d){us:aT}{es:List (List Int×D)}(h:DenM K G us es):DenM K G (gi us k b v) (j9 es k d):=
 DenM.ind (P:=λus es=>DenM K G (gi us k b v) (j9 es k d)) (.cons hb hv .nil) (λhk hv' hs y=>by
  unfold gi j9;simp only;split
  ·exact .cons hk hv hs
  ·exact .cons hk hv' y) h
theorem DenM.look{K:v0}{G:Hp}{k:List Int}{us:aT}{es:List (List Int×D)}(h:DenM K G us es):(us.map (·.1)).Nodup->∀{b:Addr} {v:V},(k,b,v)∈us->∃d,lkD es k=some d/\Den K G v d:=
 DenM.ind (P:=λus es=>(us.map (·.1)).Nodup->∀{b:Addr} {v:V},(k,b,v)∈us->∃d,lkD es k=some d/\Den K G v d) (λ_ {_ _} h=>nomatch h) (λ{k'} _ _ _ _ _ hk hv hs y nd {b v} h=>by
  rw[Qe,Jv] at nd;unfold lkD;rcases ut.mp h with e9 | h
  ·cases e9
   exact⟨_,if_pos rfl,hv⟩
  ·have:k'≠k:=λz=>nd.1 (by subst z;exact Qo.mpr ⟨_,h,rfl⟩)
   rw[if_neg this]
   exact y nd.2 h) h
theorem lZ{k:List Int}:∀{xs:XsL},JY xs k=none->k∉xs.map (·.1)
 |[],_=>by simp
 |x::r,e=>by
  by_cases z:x.1=k
  ·rw[show JY (x::r) k=some x.2 by simp[JY,JH,z]] at e;cases e
  ·rw[show JY (x::r) k=JY r k by simp[JY,JH,z]] at e
   rw[Qe,ut,not_or];exact⟨λq=>z q.symm,lZ e⟩
theorem mL(I:Inv X pins σ H s)(gh:aF G H){a:Addr}{us:aT}{ep:Nat}{es:List (List Int×D)}(x:DAt a us ep s.heap)(nd:(us.map (·.1)).Nodup)(m:DenM X.K G us es):∃xs:XsL,Jk EX us xs/\s.heap.DictOfH (Ti X.prog X.w) a xs:=by
 obtain⟨n,z,o,raw,e,c,dd,p⟩:=x;obtain⟨xs,e1,q⟩:=nL (P:=X.prog) (w:=X.w) p;refine⟨xs,q,o,raw,ep,e,c,dd,e1,λy hy=>?_,by rw[<-cf q];exact nd⟩
 have:∀{us:aT} {xs:XsL},Jk EX us xs->∀y∈xs,∃u∈us,EX u y:=by
  intro us xs q
  induction q with
  |nil=>intro y hy;cases hy
  |cons h t ih=>
   intro y hy;rcases ut.mp hy with rfl | hy9
   ·exact⟨_,Qh ..,h⟩
   ·obtain⟨u,hu,e⟩:=ih y hy9;exact⟨u,Qj _ hu,e⟩
 obtain⟨u,hu,e2⟩:=this q y hy;rw[<-e2.1,<-e2.2.1];exact fm I gh (m.mem u hu)
theorem o6{h:Heap}{P:Qs}{w:QC}{a:Addr}{us:aT}{xs:XsL}(hm:h.DictOfH (Ti P w) a xs)(q:Jk EX us xs)(notm:(a==Ju)=false)(z:us.length<=1000000):∃ep,DAt a us ep h:=by
 obtain⟨o,raw,ep,e,c,dd,e1,_,_⟩:=hm;exact⟨ep,notm,z,o,raw,e,c,dd,by rw[e1];exact uH q⟩
theorem f7{P:Qs}{w:QC}{H:Hp}{h:Heap}{a:Addr}{us:aT}{ep:Nat}(x:DAt a us ep h):bz P w H h a (.ext (DAt a us ep)):=⟨x,let⟨_,_,o,_,e,_⟩:=x;⟨o,e⟩,λ_ _ z k=>z.at k⟩
def Aw(K:v0):V->V->V->Hp->(Hp->Prop)->Prop:=λo i v H Q=>∃a us ep b k G es,o=.ref a/\i=.ref b/\H a=some (.ext (DAt a us ep))/\aF G H/\SqT K G b (k.map V.int)/\(us.map (·.1)).Nodup/\DenM K G us es/\us.length<1000000/\∀ep',Q (upd H a (.ext (DAt a (gi us k b v) ep')))
theorem sQ(hu:X.A.units+1<JG):Bu X (Aw X.K):=by
 intro pins s σ H o i v ov iv u Q I ro ri rv h;obtain⟨a,us,ep,b,k,G,es,rfl,rfl,ha,gh,hb,nd,m,hz,q⟩:=h;cases ro;cases ri;have x:DAt a us ep s.heap:=(show bz X.prog X.w H s.heap a (.ext (DAt a us ep)) from I.hok a _ ha).1;obtain⟨xs,p,dh⟩:=mL I gh x nd m;have lx:xs.length=us.length:=by simpa using(congrArg List.length (cf p)).symm
 refine wpAny_setItem_heap (knd:=Ti X.prog X.w) (hsz:=by rw[lx];exact QZ (Jc hz (by decide))) (show X.A.in1.units<JG from hu) (fm I gh hb) dh λh' dh' same=>?_;rw[f6 k b u xs (by rw[<-cf p];exact nd)] at dh';obtain⟨ep',x'⟩:=o6 dh' (nU (k:=k) (b:=b) rv p) x.1 (QO (gA ..) hz);exact⟨_,I.write (t':=_) (by rw[ha];trivial) (.inl rfl) (λb u hb e=>same.extBut b u hb e) (let⟨_,_,o,_,e,_⟩:=x';⟨o,e⟩) (f7 x'),q ep'⟩
end
theorem EnvD.putOD{K:v0}{He G H G' H':Hp}{σ:L2.St}{ε:Ev}{i:Nat}{a:Addr}{us:aT}{ep:Nat}{ds:List (List Int×D)}(E:EnvD K He G H σ ε)(g:Grow G H G' H')(heH:aF He H)(hn:H a=none)(gn:G' a=none)(ha:H' a=some (.ext (DAt a us ep)))(nd:(us.map (·.1)).Nodup)(hd:DenM K G' us ds) :
  EnvD K He G' H' (σ.set i (some (.ref a))) (ε.set i (.odi ds)) where
 len:=by rw[Jf,Jf];exact E.len
 dat:=λ{j d'} e=>by
  rw[Qc] at e ⊢
  by_cases z:i=j
  ·rw[if_pos z] at e;split at e<;>cases e
  ·rw[if_neg z] at e ⊢
   exact(E.grow g).dat e
 odi:=λ{j ds'} e=>by
  rw[Qc] at e ⊢
  by_cases z:i=j
  ·rw[if_pos z] at e ⊢
   subst z;rw[E.len];split at e
   ·rename_i hl;cases e;exact⟨a,us,ep,by rw[if_pos hl],ha,gn,heH.free hn,nd,hd⟩
   ·cases e
  ·rw[if_neg z] at e ⊢
   exact(E.grow g).odi e
 apartD:=λ{j k ds' es b} e1 e2 h1 h2=>by
  rw[Qc] at e1 e2 h1 h2
  have key:∀{m:Nat} {es:List (List Int×D)},ε[m]?=some (.odi es)->σ[m]?=some (some (.ref a))->False:=λ{m es} q1 q2=>by
   obtain⟨b',ys,ep',w1,w2,_⟩:=E.odi q1;rw[q2] at w1;cases w1;rw[hn] at w2;cases w2
  by_cases z:i=j
  ·by_cases z2:i=k
   ·rw[<-z,<-z2]
   ·rw[if_pos z] at h1
    rw[if_neg z2] at e2 h2;split at h1
    ·cases h1;exact(key e2 h2).elim
    ·cases h1
  ·by_cases z2:i=k
   ·rw[if_neg z] at e1 h1
    rw[if_pos z2] at h2;split at h2
    ·cases h2;exact(key e1 h1).elim
    ·cases h2
   ·rw[if_neg z] at e1 h1
    rw[if_neg z2] at e2 h2;exact E.apartD e1 e2 h1 h2
 own:=λ{j ds'} e=>by
  rw[Qc] at e ⊢
  by_cases z:i=j
  ·rw[if_pos z] at e;split at e<;>cases e
  ·rw[if_neg z] at e ⊢
   exact(E.grow g).own e
 apart:=λ{j k ds es a} e1 e2 h1 h2=>by
  rw[Qc] at e1 e2 h1 h2
  by_cases z:i=j
  ·rw[if_pos z] at e1;split at e1<;>cases e1
  ·by_cases z2:i=k
   ·rw[if_pos z2] at e2;split at e2<;>cases e2
   ·rw[if_neg z] at e1 h1
    rw[if_neg z2] at e2 h2;exact E.apart e1 e2 h1 h2
theorem Sta.writeD{K:v0}{He Ge G H:Hp}{σ:L2.St}{ε:Ev}{i:Nat}{a:Addr}{us vs:aT}{ep ep':Nat}{ds es:List (List Int×D)}(S:Sta K He Ge G H σ ε)(ei:ε[i]?=some (.odi ds))(hs:σ[i]?=some (some (.ref a)))(ha:H a=some (.ext (DAt a us ep)))(nd:(vs.map (·.1)).Nodup)(hd:DenM K G vs es) :
  Sta K He Ge G (upd H a (.ext (DAt a vs ep'))) σ (ε.set i (.odi es)):=by
 obtain⟨a',us',ep2,h1,h2,h3,h4,h5⟩:=S.e.odi ei;rw[hs] at h1;cases h1;have keep:∀{b:Addr} {o:HO},b≠a->H b=some o->upd H a (.ext (DAt a vs ep')) b=some o:=λ{b o} n e=>by rw[aD n];exact e
 refine⟨⟨λb o e=>keep (ax e h4) (S.g.hh b o e),S.g.gg,λb o e=>keep (ax e h3) (S.g.gh b o e),S.g.fo⟩,?_⟩;have hil:i<ε.length:=(Qi.mp ei).1
 have own_of:∀{m:Nat} {fs:List D},(ε.set i (.odi es))[m]?=some (.own fs)->ε[m]?=some (.own fs):=λ{m fs} e=>by
  rw[Qc] at e
  by_cases z:i=m
  ·rw[if_pos z] at e;split at e<;>cases e
  ·rw[if_neg z] at e;exact e
 have odi_of:∀{m:Nat} {fs:List (List Int×D)},(ε.set i (.odi es))[m]?=some (.odi fs)->∃gs,ε[m]?=some (.odi gs):=λ{m fs} e=>by
  rw[Qc] at e
  by_cases z:i=m
  ·subst z;exact⟨_,ei⟩
  ·rw[if_neg z] at e;exact⟨_,e⟩
 refine⟨by rw[Jf];exact S.e.len,λ{j d} e=>?_,λ{j fs} e=>?_,λ{j k fs gs b} e1 e2 w1 w2=>S.e.apart (own_of e1) (own_of e2) w1 w2,λ{j fs} e=>?_,λ{j k fs gs b} e1 e2 w1 w2=>?_⟩
 ·rw[Qc] at e
  by_cases z:i=j
  ·rw[if_pos z] at e;split at e<;>cases e
  ·rw[if_neg z] at e;exact S.e.dat e
 ·obtain⟨b,zs,w1,w2,w3⟩:=S.e.own (own_of e)
  exact⟨b,zs,w1,keep (λq=>by subst q;rw[ha] at w2;cases w2) w2,w3⟩
 ·rw[Qc] at e
  by_cases z:i=j
  ·rw[if_pos z,if_pos (z▸hil)] at e
   cases e;subst z;exact⟨a,vs,ep',hs,aE,h3,h4,nd,hd⟩
  ·rw[if_neg z] at e
   obtain⟨b,zs,ep3,w1,w2,w3,w4,w5⟩:=S.e.odi e;refine⟨b,zs,ep3,w1,keep (λq=>z ?_) w2,w3,w4,w5⟩;subst q;exact S.e.apartD ei e hs w1
 ·obtain⟨_,q1⟩:=odi_of e1
  obtain⟨_,q2⟩:=odi_of e2;exact S.e.apartD q1 q2 w1 w2
def l0:D->Option (List Int)
 |.tup ds=>bC ds
 |_=>none
theorem dU{K:v0}{G H:Hp}{v:V}{d:D}{k:List Int}(gh:aF G H)(h:bA K G H v d)(e:l0 d=some k):∃b,v=.ref b/\SqT K G b (k.map V.int):=by
 cases d with
 |tup ds=>
  obtain⟨a,xs,rfl,h1,_,h3⟩:=h.tup gh;have:=c8 h3 e;subst this;exact⟨a,rfl,h1⟩
 |_=>cases e
section
variable{X:Cx}{a b c:Expr}{fa fb fc:Ev->Option D}{pos:Pos}
theorem yT{pins:List (Addr×Obj)}{σ:L2.St}{H:Hp}{s:v6}(I:Inv X pins σ H s):(s.heap.objs.size==Ju)=false:=by
 have h:Qz<s.heap.objs.size:=(I.mod.glob.keeps I.bk).lt;exact beq_eq_false_iff_ne.mpr (Nat.ne_of_gt (Jc (show Ju<Qz by decide) h))
theorem oB{pins:List (Addr×Obj)}{σ:L2.St}{H:Hp}{s:v6}(I:Inv X pins σ H s):DAt s.heap.objs.size [] 0 (s.heap.push { cls:=.type "dict",data:=.dict #[] }):=
 ⟨yT I,QA _,_,#[],Qf _ rfl,⟨rfl,rfl,rfl⟩,rfl,.nil⟩
def tD0:TE:=λ_ H Q=>∀p,H p=none->Q (.ref p) (upd H p (.ext (DAt p [] 0)))
theorem xT:PE X (.Dict [] [] pos) tD0:=λpins s σ H Q I h=>
 wpAny_Dict_empty ⟨.ref s.heap.objs.size,_,I.laid (a:=s.heap.objs.size) (t':=s.toks) (λ_ _ q=>wf _ q) (wp _) (f7 (oB I)),rfl,h _ (I.hok.fresh (wp _))⟩
def tD1(K:v0)(tk tv:TE):TE:=λσ H Q=>∀p,H p=none->tk σ (upd H p (.ext (DAt p [] 0))) λy H1=>tv σ H1 λx H2=>∃b k G,y=.ref b/\H2 p=some (.ext (DAt p [] 0))/\aF G H2/\SqT K G b (k.map V.int)/\∀ep,Q (.ref p) (upd H2 p (.ext (DAt p [(k,b,x)] ep)))
theorem Br{tk tv:TE}(hu:X.A.units<JG)(hk:PE X a tk)(hv:PE X b tv):PE X (.Dict [some a] [b] pos) (tD1 X.K tk tv):=by
 intro pins s σ H Q I h;rw[arm_eval_Dict,zip_pairTrees [some a] [b] X.env pos rfl rfl,dictDisplay_pairs _ (by simp[pairTrees]) (by simp[pairTrees])];have nn:H s.heap.objs.size=none:=I.hok.fresh (wp _);unfold subDict;refine zn (JX (zn ?_));refine zn (wpAny_alloc (zn (QJ ?_)));rw[if_pos (by simp[pairTrees])];have I1:=I.laid (a:=s.heap.objs.size) (t':=s.toks) (λ_ _ q=>wf _ q) (wp _) (f7 (P:=X.prog) (w:=X.w) (H:=upd H s.heap.objs.size (.ext (DAt s.heap.objs.size [] 0))) (oB I));refine zn (pairTrees_cons_walk (thn (hk pins _ σ _ _ I1 (h _ nn)) λkv s2 ⟨y,H2,I2,ry,q2⟩=>thn (hv pins s2 σ H2 _ I2 q2) λvv s3 ⟨x,H3,I3,rx,q3⟩=>pairTrees_nil_walk ?_));obtain⟨bb,k,G,rfl,h3,gh,hb,q⟩:=q3;cases ry;have x0:DAt s.heap.objs.size [] 0 s3.heap:=(show bz X.prog X.w H3 s3.heap s.heap.objs.size (.ext (DAt s.heap.objs.size [] 0)) from I3.hok _ _ h3).1;obtain⟨xs,p,dh⟩:=mL I3 gh x0 Zt (es:=[]) .nil;cases p;rw[List.forIn_cons];refine QJ (zn ?_);refine zn (zn (wpAny_dictSet_heap (knd:=Ti X.prog X.w) (show X.A.units<JG from hu) (fm I3 gh hb) dh (hsz:=QA _) λh' dh' same=>wn ?_));obtain⟨ep,x'⟩:=o6 (us:=[(k,bb,x)]) dh' (.cons ⟨rfl,rfl,rx⟩ .nil) x0.1 (show 1<=1000000 by decide);show wE _ _ (forIn [] _ _) _ _ _;rw[List.forIn_nil];refine wn (wn (wn (wn ⟨.ref s.heap.objs.size,_,I3.write (t':=_) (by rw[h3];trivial) (.inl rfl) (λb u hb e=>same.extBut b u hb e) (let⟨_,_,o,_,e,_⟩:=x';⟨o,e⟩) (f7 x'),rfl,q ep⟩)))
def DFD(X:Cx)(e:Expr)(f:Ev->Option (List (List Int×D))):Prop:=∃t,PE X e t/\∀(He G H:Hp) (σ:L2.St) (ε:Ev) (es:List (List Int×D)) (Q:VK),aF G H->EnvD X.K He G H σ ε->f ε=some es->
 (∀p us ep G' H',Grow G H G' H'->H p=none->G' p=none->H' p=some (.ext (DAt p us ep))->(us.map (·.1)).Nodup->DenM X.K G' us es->Q (.ref p) H')->t σ H Q
def fD0:Ev->Option (List (List Int×D)):=λ_=>some []
theorem AB:DFD X (.Dict [] [] pos) fD0:=⟨_,xT,λHe G H σ ε es Q gh E ef q p hp=>by cases ef;exact q p [] 0 G _ (.lay _ gh hp) hp (gh.free hp) aE Zt .nil⟩
def fD1(fk fv:Ev->Option D):Ev->Option (List (List Int×D)):=λε=>(fk ε).bind λk=>(fv ε).bind λd=>(l0 k).bind λn=>some [(n,d)]
theorem Bh{kk:Nat}(hr:Room kk X.A)(hk:DE X a fa)(hv:DE X b fb):DFD X (.Dict [some a] [b] pos) (fD1 fa fb):=by
 obtain⟨t,a1,a2⟩:=hk;obtain⟨u,b1,b2⟩:=hv;refine⟨_,Br (by have:=hr.un;lia) a1 b1,λHe G H σ ε es Q gh E ef q p hp=>?_⟩;obtain⟨dk,e1,ef⟩:=af ef;obtain⟨dv,e2,ef⟩:=af ef;obtain⟨n,e3,ef⟩:=af ef;cases ef;have g0:Grow G H G (upd H p (.ext (DAt p [] 0))):=.lay _ gh hp;have gp:G p=none:=gh.free hp;refine a2 He G _ σ ε dk _ g0.gh (E.grow g0) e1 λy G1 H1 g1 d1=>?_;refine b2 He G1 H1 σ ε dv _ g1.gh ((E.grow g0).grow g1) e2 λx G2 H2 g2 d2=>?_;obtain⟨bb,rfl,hb⟩:=dU g2.gh (.inl (d1.mono g2.gg)) e3;have h1:H1 p=some (.ext (DAt p [] 0)):=g1.hh _ _ aE;have h2:=g2.hh _ _ h1;have n1:G1 p=none:=g1.fo _ _ aE gp;have n2:G2 p=none:=g2.fo _ _ h1 n1;refine⟨bb,n,G2,rfl,h2,g2.gh,hb,λep=>?_⟩;have gr:=g1.trans g2;refine q p [(n,bb,x)] ep G2 _ ⟨λb o e=>?_,gr.gg,λb o e=>?_,λb o e z=>gr.fo b o (g0.hh b o e) z⟩ hp n2 aE (by simp) (.cons hb d2 .nil)
 ·rw[aD (ax e hp)];exact gr.hh b o (g0.hh b o e)
 ·rw[aD (ax e n2)];exact gr.gh b o e
def Aj(i:Nat)(f:Ev->Option (List (List Int×D))):Ev->Option Fl:=λε=>(f ε).map λd=>Fl.nx (ε.set i (.odi d))
theorem yY(i:Nat){x:Str}{pos':Pos}{f:Ev->Option (List (List Int×D))}(hN:X.N.Nodup)(ha:DFD X a f)(hi:X.N[i]?=some x:=by rfl)(hx:Loc X.env.scope x:=by first | exact Or.inl rfl | exact Jy rfl)(hs:ZB a (some (.Name x pos')) pos.line X.env=pure false:=by rfl)
  (hf:X.fn x=true\/X.env.scope.names.lookup x=some .local:=by first | exact .inl rfl | exact .inr rfl):DS X (.Assign [.Name x pos'] a pos) (Aj i f):=by
 obtain⟨t,a1,a2⟩:=ha;refine⟨_,kZ hN hi hx a1 hs hf,λHe Ge G H σ ε r W S e P=>?_⟩;obtain⟨d,e1,rfl⟩:=aP e;exact a2 He G H σ ε d _ S.g.gh S.e e1 λp us ep G' H' g hn gn hl nd hd=>P _ G' H' ⟨S.g.trans g,S.e.putOD g S.g.hh hn gn hl nd hd⟩
def yh(i:Nat)(fk f:Ev->Option D):Ev->Option Fl:=λε=>(f ε).bind λd=>(fk ε).bind λk=>(l0 k).bind λn=>match ε[i]? with
 |some (.odi es)=>if es.length<1000000 then some (.nx (ε.set i (.odi (j9 es n d)))) else none
 |_=>none
theorem wt(i:Nat){x:Str}{p1 p2:Pos}{k:Expr}{fk:Ev->Option D}{kk:Nat}(hr:Room kk X.A)(ha:DE X a fa)(hk:DE X k fk)(hN:X.N[i]?=some x:=by rfl)(hv:Vis X.env.scope x:=by first | exact Or.inl rfl | exact Jy (Or.inl rfl))(hd:(x==("__debug__" : Str))=false:=by decide)
  (hcd:(x==("__classdict__" : Str))=false:=by decide)
  (hasg:∀v,Zu (.Subscript (.Name x p1) k p2) X.env v=(do
   let ov<-holding [v] (eval (.Name x p1) X.env);let iv<-holding [v,ov] (eval k X.env)
   standAt p2
   holding [v,ov,iv] (setItem ov iv v)
   release [v,ov,iv] []):=by intro _;rfl)
  (hs:swapsWithSole [.Subscript (.Name x p1) k p2] a pos.line X.env=pure false:=by rfl) (hw:swappedStores [.Subscript (.Name x p1) k p2] a X.env=pure none:=by rfl)
  (h1:(QU [.Subscript (.Name x p1) k p2] X.env).map (·.2)=[Zu (.Subscript (.Name x p1) k p2) X.env]:=by rfl) :
  DS X (.Assign [.Subscript (.Name x p1) k p2] a pos) (yh i fk fa):=by
 obtain⟨t,a1,a2⟩:=ha;obtain⟨u,b1,b2⟩:=hk;refine⟨_,sI a1 (y9 (gd hN hv hd hcd) b1 (sQ (by have:=hr.un;lia)) hasg) hs hw h1,λHe Ge G H σ ε r W S e P=>?_⟩;obtain⟨d,e1,e⟩:=af e;obtain⟨dk,e2,e⟩:=af e;obtain⟨n,e3,e⟩:=af e;split at e
 ·rename_i es ei
  split at e
  ·rename_i hl
   cases e;refine a2 He G H σ ε d _ S.g.gh S.e e1 λv G1 H1 g1 hd1=>?_;have S1:=S.grow g1;obtain⟨l,us,ep,w1,w2,w3,w4,w5,w6⟩:=S1.e.odi ei;refine⟨_,w1,?_⟩;refine b2 He G1 H1 σ ε _ _ S1.g.gh S1.e e2 λv2 G2 H2 g2 hd2=>?_;have S2:=S1.grow g2;obtain⟨l',us',ep',z1,z2,z3,z4,z5,z6⟩:=S2.e.odi ei;rw[w1] at z1;cases z1;obtain⟨bb,rfl,hb⟩:=dU g2.gh (.inl hd2) e3;exact⟨l,us',ep',bb,n,G2,es,rfl,rfl,z2,S2.g.gh,hb,z5,z6,by rw[z6.len];exact hl,λep2=>P σ G2 _ (S2.writeD ei w1 z2 (jT z5) (z6.put hb (hd1.mono g2.gg)))⟩
  ·cases e
 ·cases e
def tMD(r:V->List V->Hp->VK->Prop)(to:TE)(t:TA):TE:=λσ H Q=>to σ H λx H1=>(∃p us ep,x=.ref p/\H1 p=some (.ext (DAt p us ep)))/\t σ H1 λxs H2=>r x xs H2 Q
theorem sT{pins:List (Addr×Obj)}{σ:L2.St}{H:Hp}{s:v6}(I:Inv X pins σ H s){p:Addr}{us:aT}{ep:Nat}(h:H p=some (.ext (DAt p us ep))):s.TypeIs (.ref p) "dict"/\∀a,QH p=.ref a->∃ob,s.heap.get? a=some ob/\ob.dict=none:=by
 obtain⟨_,_,o,raw,e,c,_⟩:=(show bz X.prog X.w H s.heap p (.ext (DAt p us ep)) from I.hok p _ h).1;exact⟨⟨o,e,c.1⟩,λa z=>by cases z;exact⟨o,e,c.2.1⟩⟩
theorem Ah{o e:Expr}{es:List Expr}{to:TE}{t:TA}{name:Str}{apos cpos:Pos}{id:String}{r:V->List V->Hp->VK->Prop}(slot:Slot "dict" name id)(hty:typeOf (.builtin id)=pure (.type "method_descriptor"))(hm:MtM X id r)(ho:PE X o to)(ha:PA X (e::es) t)
  (hbase:Zz o name X.env (eval o X.env)=eval o X.env:=by rfl)
  (hfew:((Q7 cpos (uk (e::es) X.env)).all (λx=>!x.1)&&(backToKw cpos (J8 [] X.env)).all (λx=>x.1.isSome)
   && decide ((e::es).length+([]:List Keyword).length+(if([]:List Keyword).isEmpty then 0 else 1)<30))=true:=by rfl)
  (hline:(apos.endLine==cpos.line)=true:=by rfl) (hs:uk (e::es) X.env=(false,eval e X.env)::uk es X.env:=by rfl) (hplain:(Q7 cpos (uk es X.env)).any (·.1)=false:=by rfl) :
  PE X (.Call (.Attribute o name apos) (e::es) [] cpos) (tMD r to t):=by
 intro pins s σ H Q I h;refine wpAny_Call_method_late hbase hfew hline rfl (thn (ho pins s σ H _ I h) λv s1 ⟨x,H1,I1,r1,⟨p,us,ep,ex,eh⟩,q1⟩=>?_);subst ex;cases r1;obtain⟨h1,h2⟩:=sT I1 eh;refine⟨"dict",id,PySem.F.plainAttrs_dict,slot,hty,h1,h2,?_⟩;have hA:=ha cpos pins s1 σ H1 _ I1 q1;rw[hs] at hA ⊢;refine Calls.callWith_builtin (by show(false || (Q7 cpos (uk es X.env)).any (·.1))=false;rw[hplain]<;>rfl) (Calls.evalArgs_plain ?_);exact thn hA λus s2 ⟨vs,H2,I2,r2,q2⟩=>hm pins s2 σ H2 (.ref p) vs (.ref p) us Q I2 (show QH p=QH p from rfl) r2 q2
def slD:Option Sl->Option (List (List Int×D))
 |some (.odi es)=>some es
 |some (.dat (.dic es))=>some es
 |_=>none
theorem zP{K:v0}{He G H:Hp}{σ:L2.St}{ε:Ev}{i:Nat}{es:List (List Int×D)}(gh:aF G H)(E:EnvD K He G H σ ε)(e:slD ε[i]?=some es):∃a us ep,σ[i]?=some (some (.ref a))/\H a=some (.ext (DAt a us ep))/\(us.map (·.1)).Nodup/\DenM K G us es:=by
 unfold slD at e;split at e
 ·rename_i es' e1
  cases e;obtain⟨a,us,ep,h1,h2,_,_,h5,h6⟩:=E.odi e1;exact⟨a,us,ep,h1,h2,h5,h6⟩
 ·rename_i es' e1
  cases e;obtain⟨v,h1,h2⟩:=E.dat e1;cases h2 with
  |dic h nd hs=>exact⟨_,_,_,h1,gh _ _ h,nd,hs⟩
 ·cases e
end
end Dn
namespace RW2
open PySem PyProof.Rows
section
variable{prog:Qs}{w:QC}{A:Qy}{E:vv->v6->Prop}{s:v6}{d:Addr}{od:Obj}{es:Array Jp}{ep:Nat}
theorem oq{Q:vv->v6->Prop}(nm:(d==Ju)=false)(g1:s.heap.get? d=some od)(g2:od.ExactDict)(q:Q (.ref s.heap.objs.size) { s with heap:=s.heap.push { cls:=.type "dict_items",data:=.fields #[.ref d] } }) :
  wE (Qa prog w) A (call (Value.builtin "dict.items") [QH d]) Q E s:=by
 have ty:s.TypeIs (.ref d) "dict":=⟨od,g1,g2.1⟩;refine Q3 PySem.F.slot_dict_items ty PySem.F.entry_dict_items ?_ (PySem.F.args_dict_items_1 _);unfold ZA.«dict.items» Builtin.Dict.noArgs;refine zn (zn (wpAny_notOrdered_dict ty (show wE _ _ (pure d) _ _ s from wn ?_)));show wE _ _ (ZN d>>=λ_=>_) _ _ s;unfold ZN;rw[if_neg (by rw[nm];decide)];exact zn (wn (zn (QG (wn ⟨_,rfl,q⟩))))
theorem nM{v:Addr}{Q:vv->v6->Prop}(hv:s.heap.IsItemsView v d)(g1:s.heap.get? d=some od)(g3:od.data=.dict es ep)
  (q:Q (.ref s.heap.objs.size) { s with heap:=s.heap.push { cls:=.type "dict_itemiterator",data:=.fields #[.none,.bool false,.ref d,.int 0 0,.int es.size 0,.int ep 0,.none,.none] } }):wE (Qa prog w) A (pyIter (.ref v)) Q E s:=by
 have ty:=hv.typeIs;obtain⟨ov,v1,_,v3⟩:=hv;refine wpAny_pyIter_slot ty PySem.F.slot_dict_items_iter (Q3 PySem.F.slot_dict_items_iter ty PySem.F.entry_dict_items_iter ?_ (PySem.F.args_dict_items_iter_1 _));unfold ZA.«dict_items.__iter__» Builtin.Dict_items.dictOf Builtin.Dict_items.newIterator;refine zn (wn (zn (zn (Q2 v1 v3 (x:=.ref d) rfl (wn (zn (zn (ZJ g1 g3 (zn (wpAny_dictEpoch g1 g3 ?_))))))))));have own1:Builtin.Dict_items.ownsTuple "dict_itemiterator" = true:=by decide
 simp only[own1,if_true];refine QG (wn ⟨_,rfl,"dict_itemiterator",_,⟨_,Qf _ rfl,rfl⟩,PySem.F.slot_dict_itemiterator_next.lookup,?_⟩) (by simp only[sizeOk,Builtin.Dict_items.ownedTupleFields,Qx,Qr,Qv,List.length_nil,sizeLine_eq];lia);simpa[rawInt,Builtin.Dict_items.ownedTupleFields] using q
theorem uq{B:Qy}{Y:vv->v6->Prop}{t:v6}(hB:B.handled=none)(y:∀e h',(∀b o,t.heap.get? b=some o->h'.get? b=some o)->(∃o,h'.get? e=some o/\o.cls=.type "StopIteration")->Y (.ref e) { t with heap:=h' }){Z:Fin->v6->Prop} :
  wE (Qa prog w) B (newExc (.type "StopIteration") []>>=λx=>raiseNew x) Z Y t:=by
 refine zn ?_;simp only[newExc,newTuple];refine zn (QG (zn (m:=ZM _ _) (wpAny_of_eq (a:=QR) (by first | rfl | (simp only[ZM];rfl)) (QG ?_ (by size_fits)))) (by size_fits));simp only[raiseNew];refine zn (wpAny_handled ?_);rw[show B.handled=none by exact hB];exact zn (wn (wpAny_throw (y _ _ (λb o e=>wf _ (wf _ e)) ⟨_,Qf _ rfl,rfl⟩)))
theorem jO{it:Addr}{i:Nat}{ok ov:vv}{Q:Option vv->v6->Prop}(hh:A.handled=none)(hit:IsItemIter s.heap it d i es.size ep ok ov)(g1:s.heap.get? d=some od)(g3:od.data=.dict es ep)
  (some_:∀(lt:i<es.size) h',IsItemIterOut h' it d (i+1) es.size ep es[i].key es[i].val s.heap.objs.size->h'.get? s.heap.objs.size=some { cls:=.type "tuple",data:=.seq #[es[i].key,es[i].val] }->(∀b o,b≠it->s.heap.get? b=some o->h'.get? b=some o)->Q (some (.ref s.heap.objs.size)) { s with heap:=h' })
  (none_:es.size<=i->∀h',Heap.ExtBut it s.heap h'->Q none { s with heap:=h' }):wE (Qa prog w) A (pyNext (.ref it)) Q E s:=by
 have ty:s.TypeIs (.ref it) "dict_itemiterator":=⟨_,hit,rfl⟩;unfold pyNext;refine zn (wpAny_attempt (Ji (name:=Zv "__next__") ty PySem.F.slot_dict_itemiterator_next (Q3 PySem.F.slot_dict_itemiterator_next ty PySem.F.entry_dict_itemiterator_next ?_ (PySem.F.args_dict_itemiterator_next_1 _))));refine zn (wn (zn (zn ?_)))
 first | refine zn (wpAny_typeNameOfWhole_itemiter ty (wn (zn (wpAny_fieldsOf hit rfl ?_)))) | refine zn (wpAny_typeNameOf_itemiter ty (wn (zn (wpAny_fieldsOf hit rfl ?_))))
 have own1:Builtin.Dict_items.ownsTuple "dict_itemiterator" = true:=by decide
 simp only[own1,if_true];show wE _ _ (if(QH d==QR)=true then _ else _) (λ_ _=>_) _ s;rw[if_neg (show ¬ ((QH d==QR)=true) by exact ww)];refine zn (wn (zn (ZJ g1 g3 ?_)));rw[if_neg (by simp)];refine zn (wn (zn (wpAny_dictEpoch g1 g3 ?_)));rw[if_neg (by simp)];refine wn ?_
 by_cases lt:i<es.size
 ·simp only[show ¬ ((i:Int)<0) from by lia,if_false,JE,Zp lt]
  refine zn ?_
  first | refine zn (wpAny_typeNameOfWhole_itemiter ty (wn (zn (ZG ty ?_)))) | refine zn (wpAny_typeNameOf_itemiter ty (wn (zn (ZG ty ?_))))
  show wE _ _ (setField (.ref it) 3 (rawInt ((i:Int)+1))>>=λ_=>_) _ _ s;refine zn (Q8 hit (by simp) λh1 r1 s1=>?_)
  replace s1:Q9 it s.heap h1:=s1
  have r1':IsItemIter h1 it d (i+1) es.size ep ok ov:=by
   unfold IsItemIter;rw[show((i+1:Nat):Int)=(i:Int)+1 by lia];simpa[rawInt] using r1
  have ty1:({ s with heap:=h1 }:v6).TypeIs (.ref it) "dict_itemiterator":=⟨_,r1',rfl⟩;refine zn (QJ (zn (ZG ty1 (zn (ZG ty1 ?_)))));show wE _ _ (Builtin.Dict_items.pairFromOwner (.ref it) 6 es[i].key es[i].val) _ _ { s with heap:=h1 };unfold Builtin.Dict_items.pairFromOwner;refine zn (wpAny_newTuple ?_);have z1:h1.objs.size=s.heap.objs.size:=s1.1;have il:it<s.heap.objs.size:=Qb hit;generalize eh:h1.push { cls:=.type "tuple",data:=.seq #[es[i].key,es[i].val] }=h2;have r2:IsItemIter h2 it d (i+1) es.size ep ok ov:=eh▸wf _ r1';have t2:h2.get? s.heap.objs.size=some { cls:=.type "tuple",data:=.seq #[es[i].key,es[i].val] }:=by rw[<-eh,<-z1];exact Qf _ rfl
  have k2:∀b o,b≠it->s.heap.get? b=some o->h2.get? b=some o:=λb o nb e=>eh▸wf _ (s1.extBut b o nb e);have z1':({ s with heap:=h1 }:v6).heap.objs.size=s.heap.objs.size:=s1.1;rw[z1'];show wE _ _ (Builtin.Dict_items.ownedTupleIsFree (.ref it)>>=λ_=>_) _ _ { s with heap:=h2 };refine zn ?_;unfold Builtin.Dict_items.ownedTupleIsFree;refine zn (Q2 (s:={ s with heap:=h2 }) r2 rfl (x:=.none) rfl (wn ?_));simp only[if_true];refine zn (Q2 (s:={ s with heap:=h2 }) r2 rfl (x:=ok) rfl (zn (Q2 (s:={ s with heap:=h2 }) r2 rfl (x:=ov) rfl (zn (Q8 (s:={ s with heap:=h2 }) r2 (by simp) λh3 r3 s3=>?_)))))
  replace r3:IsItemIter h3 it d (i+1) es.size ep es[i].key ov:=r3
  replace s3:Q9 it h2 h3:=s3
  refine zn (Q8 (s:={ s with heap:=h3 }) r3 (by simp) λh4 r4 s4=>?_)
  replace r4:IsItemIter h4 it d (i+1) es.size ep es[i].key es[i].val:=r4
  replace s4:Q9 it h3 h4:=s4
  refine zn (Q8 (s:={ s with heap:=h4 }) r4 (by simp) λh5 r5 s5=>?_)
  replace r5:IsItemIterOut h5 it d (i+1) es.size ep es[i].key es[i].val s.heap.objs.size:=r5
  replace s5:Q9 it h4 h5:=s5
  refine zn (Q8 (s:={ s with heap:=h5 }) r5 (by simp) λh6 r6 s6=>?_)
  replace r6:IsItemIterOut h6 it d (i+1) es.size ep es[i].key es[i].val s.heap.objs.size:=r6
  replace s6:Q9 it h5 h6:=s6
  have all:∀b o,b≠it->h2.get? b=some o->h6.get? b=some o:=λb o nb e=>s6.extBut b o nb (s5.extBut b o nb (s4.extBut b o nb (s3.extBut b o nb e)));exact zn (ZF (wn (wn ⟨_,rfl,wn (some_ lt h6 r6 (all _ _ (Nat.ne_of_gt il) t2) λb o nb e=>all b o nb (k2 b o nb e))⟩)))
 ·have ge:es.size<=i:=JM lt
  simp only[show ¬ ((i:Int)<0) from by lia,if_false,JE,JK ge];have gone:∀{R:Unit->v6->Prop} {X:vv->v6->Prop},R () { s with heap:=s.heap.update it (Obj.mapFields (·.setIfInBounds 2 QR)) }->wE (Qa prog w) A.in1 (setField (.ref it) 2 .none) R X s:=λr=>wpAny_setField hit rfl (by simp) r
  first | refine zn (zn (wpAny_typeNameOfWhole_itemiter ty (wn (zn (gone ?_))))) | refine zn (zn (wpAny_typeNameOf_itemiter ty (wn (zn (gone ?_)))))
  refine uq (show A.in1.handled=none from hh) λe h' kp ⟨o,ho,hc⟩=>?_;exact zn (wpAny_isInstance (b:=true) (T:="StopIteration") ⟨o,ho,hc⟩ isSubtype_stop (wn (none_ ge _ λb o nb e=>kp b o ((Jt ..).extBut b o nb e))))
end
end RW2
namespace Dn
open PySem PySem.Spec PyProof.Rows L2 RW2
theorem AH:entryFor table "dict_itemiterator.__iter__" = some ZA.«dict_keyiterator.__iter__»:=PySem.entryFor_alias (id':="dict_keyiterator.__iter__") (by kernel_rfl) rfl (by decide +kernel) (by kernel_rfl)
theorem tJ{α β:Type}{F:α->β->Prop}{i:Nat}:∀{l:List α} {r:List β},Jk F l r->∀{a},l[i]?=some a->∃b,r[i]?=some b/\F a b:=by
 induction i with
 |zero=>intro l r p a e;cases p with | nil=>simp at e | cons h t=>simp at e;subst e;exact⟨_,rfl,h⟩
 |succ i ih=>intro l r p a e;cases p with | nil=>simp at e | cons h t=>simp at e;obtain⟨b,h1,h2⟩:=ih t e;exact⟨b,by simpa using h1,h2⟩
def Itd(d:Addr)(us:aT)(ep:Nat):It:=
 ⟨λi H=>H d=some (.ext (DAt d us ep))/\i<us.length,
  λi H v H'=>∃p u,us[i]?=some u/\v=.ref p/\H p=none/\H'=upd H p (.tup [.ref u.2.1,u.2.2]),
  λi H=>H d=some (.ext (DAt d us ep))/\us.length<=i⟩
theorem og{P:Qs}{w:QC}{K:v0}{es:List Expr}{k0:Nat}{tpos:Pos}(N d:Addr)(us:aT)(ep:Nat) :
  Turn P w K (.Tuple es k0 tpos) (Itd d us ep) [N] N (λi h=>∃ok ov,IsItemIter h N d i us.length ep ok ov) where
 mem:=by simp
 obj:=λi h ⟨ok,ov,st⟩ b hb=>by
  have e:b=N:=by simpa using hb
  subst e;exact⟨_,st,λv z=>by cases(show Data.fields _=Data.cell v from z)⟩
 keep:=λi h h' ⟨ok,ov,st⟩ k=>⟨ok,ov,k N (by simp) _ st⟩
 item:=by
  intro X hP hw hK hc i pins s σ H E I hf st hg;subst hP hw hK;obtain⟨ok,ov,h1⟩:=st;obtain⟨hd,lt⟩:=hg;obtain⟨f0,f1,f2,f3,f4,f5⟩:=hf N (by simp);obtain⟨nm,_,o,raw,g1,g2,g3,pr⟩:=(show bz X.prog X.w H s.heap d (.ext (DAt d us ep)) from I.hok d _ hd).1;have sz:raw.size=us.length:=by rw[pr.length];simp
  have hu:us[i]?=some us[i]:=by simp[lt]
  obtain⟨r,er,ek⟩:=tJ pr hu;refine jO (I.ok.hd hc) (by rw[sz];exact h1) g1 g3 (λlt' h' ho hT hk=>⟨_,rfl,?_⟩) (λge=>by lia)
  have er':raw[i]=r:=by
   have:raw[i]?=some r:=by simpa using er
   rw[Zp lt'] at this;exact Option.some.inj this
  rw[er'] at ho hT;refine wpAny_letOwnedTupleGo_items (s:={ s with heap:=h' }) ho λh'' he' hs'=>?_
  replace hs':Q9 N h' h'':=hs'
  have zl:N<s.heap.objs.size:=Qb h1;have nn:H s.heap.objs.size=none:=I.hok.fresh (wp _)
  have I1:Inv X pins σ (upd H s.heap.objs.size (.tup [.ref us[i].2.1,us[i].2.2])) { s with heap:=s.heap.push { cls:=.type "tuple",data:=.seq #[r.key,r.val] },toks:=s.toks }:=
   I.laid (t':=s.toks) (λb o e=>wf _ e) (wp _) ⟨show 2<=Qt by decide,[r.key,r.val],.cons ek.key (.cons ek.val .nil),⟨_,Qf _ rfl,rfl,_,rfl⟩⟩
  have ne:N≠s.heap.objs.size:=Qu zl
  have ff:∀b∈[N],fQ X pins (upd H s.heap.objs.size (.tup [.ref us[i].2.1,us[i].2.2])) b:=λc hc=>by
   rw[xz.mp hc];exact⟨by rw[aD ne];exact f0,f1,f2,f3,f4,f5⟩
  have k2:∀c o,c∉[N]->(s.heap.push { cls:=.type "tuple",data:=.seq #[r.key,r.val] }).get? c=some o->h''.get? c=some o:=λc o hc e=>by
   rw[xz] at hc;refine hs'.extBut _ _ hc ?_
   by_cases z:c=s.heap.objs.size
   ·subst z
    rw[Qf _ rfl] at e;cases e;exact hT
   ·exact hk c o hc ((Heap.get?_push_ne _ _ _ z).symm.trans e)
  have I2:=fE (h':=h'') (t':=s.toks) I1 k2 ff;exact⟨.ref s.heap.objs.size,_,I2,rfl,⟨_,us[i],hu,rfl,nn,rfl⟩,⟨_,_,by rw[<-sz];exact he'⟩,λc hc=>(ff c hc).1⟩
 done:=by
  intro X hP hw hK hc i pins s σ H E I hf st hg;subst hP hw hK;obtain⟨ok,ov,h1⟩:=st;obtain⟨hd,ge⟩:=hg;obtain⟨f0,f1,f2,f3,f4,f5⟩:=hf N (by simp);obtain⟨nm,_,o,raw,g1,g2,g3,pr⟩:=(show bz X.prog X.w H s.heap d (.ext (DAt d us ep)) from I.hok d _ hd).1;have sz:raw.size=us.length:=by rw[pr.length];simp
  exact jO (I.ok.hd hc) (by rw[sz];exact h1) g1 g3 (λlt'=>absurd lt' (by lia)) λ_ h' eb=>⟨rfl,I.turned (t':=s.toks) (λb o hb e=>eb b o hb e) f0 f1 f3 f4 f5⟩
 self:=λ_ _ s _ _ ⟨ok,ov,st⟩ q=>by
  have ty:s.TypeIs (.ref N) "dict_itemiterator":=⟨_,st,rfl⟩;refine wpAny_pyIter_slot ty PySem.F.slot_dict_itemiterator_iter (Q3 PySem.F.slot_dict_itemiterator_iter ty AH ?_ (PySem.F.args_dict_itemiterator_iter_1 _));exact(show wE _ _ (ret (.ref N)) _ _ s from wn ⟨_,rfl,"dict_itemiterator",_,ty,PySem.F.slot_dict_itemiterator_next.lookup,q⟩)
section
variable{X:Cx}{a:Expr}{pos:Pos}{fa:Ev->Option D}
def wc(ta:TE):TI:=λσ H R=>ta σ H λv H1=>∃d us ep,v=.ref d/\H1 d=some (.ext (DAt d us ep))/\R (Itd d us ep) H1
theorem sV{es:List Expr}{k0:Nat}{tpos p2:Pos}{ta:TE}(ha:PE X a ta)(hbase:Zz a "items" X.env (eval a X.env)=eval a X.env:=by rfl)(hline:(p2.endLine==pos.line)=true:=by rfl) :
  PI X (.Tuple es k0 tpos) (.Call (.Attribute a "items" p2) [] [] pos) (wc ta):=by
 intro pins s σ H R I h;refine wpAny_Call_method0_late hbase hline (thn (ha pins s σ H (λv H1=>∃d us ep,v=.ref d/\H1 d=some (.ext (DAt d us ep))/\R (Itd d us ep) H1) I h) λv s1 ⟨x,H1,I1,r1,d,us,ep,ex,hd,q⟩=>?_);subst ex;cases r1;obtain⟨h1,h2⟩:=sT I1 hd;obtain⟨nm,_,o,raw,g1,g2,g3,pr⟩:=(show bz X.prog X.w H1 s1.heap d (.ext (DAt d us ep)) from I1.hok d _ hd).1;have sz:raw.size=us.length:=by rw[pr.length];simp
 refine⟨"dict","dict.items",PySem.F.plainAttrs_dict,PySem.F.slot_dict_items,PySem.F.type_dict_items,h1,h2,Calls.callWith_builtin rfl (PySem.evalArgs_none (oq nm g1 g2 ?_))⟩;have I2:Inv X pins σ H1 { s1 with heap:=s1.heap.push { cls:=.type "dict_items",data:=.fields #[.ref d] } }:=I1.kept (t':=s1.toks) λb o e=>wf _ e;refine nM (s:={ s1 with heap:=s1.heap.push { cls:=.type "dict_items",data:=.fields #[.ref d] } }) ⟨_,Qf _ rfl,rfl,rfl⟩ (wf _ g1) g3 ?_;refine⟨_,[_],_,_,H1,rfl,I2.kept (t':=s1.toks) λb o e=>wf _ e,og _ d us ep,⟨_,_,by rw[<-sz];exact Qf _ rfl⟩,λb hb=>?_,q⟩;rw[xz.mp hb];exact I2.fpOk (wp _) (I2.hok.fresh (wp _))
def dP(es:List (List Int×D)):List D:=es.map λe=>.tup [.tup (e.1.map D.int),e.2]
def dM(f:Ev->Option D):Ev->Option (List D):=λε=>match f ε with | some (.dic es)=>some (dP es) | _=>none
theorem DenM.get{K:v0}{G:Hp}{i:Nat}:∀{us:aT} {es:List (List Int×D)},DenM K G us es->∀{u},us[i]?=some u->∃d,es[i]?=some (u.1,d)/\SqT K G u.2.1 (u.1.map V.int)/\Den K G u.2.2 d:=by
 induction i with
 |zero=>intro us es m u e;cases m with | nil=>simp at e | cons hk hv hs=>simp at e;subst e;exact⟨_,rfl,hk,hv⟩
 |succ i ih=>intro us es m u e;cases m with | nil=>simp at e | cons hk hv hs=>simp at e;obtain⟨d,h1,h2⟩:=ih hs e;exact⟨d,by simpa using h1,h2⟩
theorem jo{K:v0}{G:Hp}:∀k:List Int,DenL K G (k.map V.int) (k.map D.int)
 |[]=>.nil
 |n::r=>.cons (.int n) (jo r)
theorem jU{es:List Expr}{k0:Nat}{tpos p2:Pos}(h:DE X a fa)(hbase:Zz a "items" X.env (eval a X.env)=eval a X.env:=by rfl)(hline:(p2.endLine==pos.line)=true:=by rfl) :
  DI X (.Tuple es k0 tpos) (.Call (.Attribute a "items" p2) [] [] pos) (dM fa):=by
 obtain⟨t,a1,a2⟩:=h;refine⟨_,sV a1 hbase hline,λHe G H σ ε ds R gh E ef q=>?_⟩;unfold dM at ef;split at ef
 ·rename_i es' e1
  cases ef;refine a2 He G H σ ε _ _ gh E e1 λv G1 H1 g1 d1=>?_;cases d1 with
  |@dic d us ep _ hG nd m=>
   refine⟨d,us,ep,rfl,g1.gh _ _ hG,q _ G1 H1 g1 λi H2 s2=>?_⟩;have n1:=m.len;have nl:(dP es').length=es'.length:=by unfold dP;simp
   refine⟨λhi=>⟨s2 _ _ hG,by lia⟩,λhi=>⟨s2 _ _ hG,by lia⟩,?_⟩;rintro v H3 ⟨p',u,hu,rfl,hn,rfl⟩ dd ed G2 s3 s4;obtain⟨d',f1,f2,f3⟩:=m.get hu;unfold dP at ed;rw[Qm,f1] at ed;cases ed;have g:=Grow.new (.tup [.ref u.2.1,u.2.2]) s4 hn;exact⟨_,g,.tup (xs:=[.ref u.2.1,u.2.2]) (.inl (.inl aE)) (.cons (.tup (aC g.gg (aC s3 f2)) (jo _)) (.cons ((f3.mono s3).mono g.gg) .nil))⟩
 ·cases ef
end
def zo(K:v0)(a:Addr)(xs:List V):Prop:=∃(o:Obj) (its:Array vv) (n:Nat),K.lookup a=some o/\o.cls=.type "tuple"/\o.data=.seq its n/\its.size<=Qt/\aK xs its.toList
theorem Bj{K:v0}{a:Addr}{od:Option Addr}{x y z:Str}{t u v:Tok}{n:Nat}{sl:Array (Option vv)}(h:K.lookup a=some ⟨.type "tuple",od,.seq #[.str x t,.str y u,.str z v] n,sl⟩):zo K a [.str x,.str y,.str z]:=
 ⟨_,_,_,h,rfl,rfl,(show 3<=Qt by decide),.cons ⟨t,rfl⟩ (.cons ⟨u,rfl⟩ (.cons ⟨v,rfl⟩ .nil))⟩
theorem mM{K:v0}{G:Hp}:∀k:List Str,DenL K G (k.map V.str) (k.map D.str)
 |[]=>.nil
 |n::r=>.cons (.str n) (mM r)
section
variable{X:Cx}{a b c:Expr}{fa fb fc:Ev->Option D}{pos:Pos}
theorem xE{x:Str}{ad:Addr}(ss:List Str)(hg:Gl X x)(hm:X.mg x=some (.ref ad))(ht:zo X.K ad (ss.map V.str))(hd:(x==("__debug__" : Str))=false:=by decide):DE X (.Name x pos) (eC (.tup (ss.map D.str))):=
 dQ (oG (v:=.ref ad) hg hm rfl hd) λG=>.tup (.inr ht) (mM ss)
theorem xB(l b:Addr)(items items2:Array vv)(n n2:Nat)(d1 d2:Option Addr)(s1 s2:Array (Option vv))(hc0:items.isEmpty=true):Meets (ZA.«tuple.__add__» ⟨[.ref l,.ref b],[]⟩) (λ_ R s=>s.heap.get? l=some ⟨.type "tuple",d1,.seq items n,s1⟩/\s.heap.get? b=some ⟨.type "tuple",d2,.seq items2 n2,s2⟩/\R (.ok (.ret (QH b))) s):=
 .of_wp λprog w A R s h=>by
  obtain⟨hp,gs,dr,tk,os⟩:=s;obtain⟨hl,hb,h⟩:=h;have q1:=AutoSeq1.sub_tuple_tuple;have q2:=AutoSeq1.sub_list_tuple
  (wp_walk using wpAny_loadPart' hl,wpAny_loadPart' hb);exact⟨_,rfl,h⟩
def yb(K:v0):R2:=λx y H Q=>∃a b ys,x=.ref a/\y=.ref b/\SqT K H a []/\SqT K H b ys/\Q (.ref b) H
theorem wx:OpR X (Jr .Add) (yb X.K):=by
 intro pins s σ H x y v u Q I rx ry h;obtain⟨a,b,ys,rfl,rfl,ha,hb,q⟩:=h;cases rx;cases ry;obtain⟨its,r1,⟨⟨cls,dd,data,sl⟩,ho,hc,n,hd⟩,_⟩:=I.tuple ha;obtain⟨its2,r2,⟨⟨cls2,dd2,data2,sl2⟩,ho2,hc2,n2,hd2⟩,_⟩:=I.tuple hb;simp only at hc hd hc2 hd2;subst hc hd hc2 hd2;cases r1;exact concat_meets ⟨_,ho,rfl⟩ ⟨_,ho2,rfl⟩ noFill_tuple_add seq_tuple_add PySem.F.slot_tuple_add PySem.F.entry_tuple_add (PySem.F.args_tuple_add_2 _ _) (xB a b #[] its2.toArray n n2 dd dd2 sl sl2 rfl) ⟨ho,ho2,.ref b,H,I,rfl,q⟩
def rF:D->D->Option D:=λx y=>match x,y with | .tup [],.tup ys=>some (.tup ys) | x,y=>CatI.yS x y
theorem xa:OpD X (Jr .Add) rF:=by
 obtain⟨r,o1,o2⟩:=zb (X:=X);refine⟨λx y H Q=>r x y H Q\/yb X.K x y H Q,λpins s σ H x y v u Q I rx ry h=>?_,λG H x y dx dy d Q gh hx hy e q=>?_⟩
 ·rcases h with h | h
  ·exact o1 pins s σ H x y v u Q I rx ry h
  ·exact wx pins s σ H x y v u Q I rx ry h
 ·unfold rF at e
  split at e
  ·rename_i ys
   cases e;obtain⟨p,xs,rfl,h0,h1,h2⟩:=hx.tup gh;obtain⟨p',zs,rfl,h3,h4,h5⟩:=hy.tup gh;cases h2;exact .inr ⟨p,p',zs,rfl,rfl,h1,h4,q _ G H (.refl gh) (.tup h3 h5)⟩
  ·exact .inl (o2 G H x y _ _ d Q gh hx hy e q)
end
abbrev Es:=List (List Int×D)
def dcD(g:D->Ev->Option Ev)(ft:Ev->Option Bool)(fk fv:Ev->Option D):List D->Ev->Es->Option Es
 |[],_,es=>some es
 |d::ds,ε,es=>(g d ε).bind λε1=>(ft ε1).bind λk=>if k=true then(fk ε1).bind λkd=>(fv ε1).bind λv=>(l0 kd).bind λn=>dcD g ft fk fv ds ε1 (j9 es n v) else dcD g ft fk fv ds ε1 es
def NoX(ε:Ev):Prop:=∀(j:Nat) es,ε[j]?≠some (.odi es)
def rY(g:D->Ev->Option Ev):Prop:=∀d ε ε',g d ε=some ε'->NoX ε->NoX ε'
def oV(g:List D->Ev->Option Ev):Prop:=∀d ε ε',g d ε=some ε'->NoX ε->NoX ε'
theorem gR(i:Nat):rY (ah i):=λd ε ε' e h j es q=>by
 cases e;rw[Qc] at q;split at q
 ·split at q<;>cases q
 ·exact h j es q
theorem mN:oV aL:=λd ε ε' e h=>by
 unfold aL at e;split at e
 ·cases e;exact h
 ·cases e
theorem fP{g1:D->Ev->Option Ev}{g2:List D->Ev->Option Ev}(h1:rY g1)(h2:oV g2):oV (ai g1 g2):=λd ε ε' e h=>by
 unfold ai at e;split at e
 ·obtain⟨ε1,e1,e⟩:=af e
  exact h2 _ _ _ e (h1 _ _ _ e1 h)
 ·cases e
theorem oQ{n:Nat}{g:List D->Ev->Option Ev}(h:oV g):rY (bx n g):=λd ε ε' e hn=>by
 unfold bx at e;split at e
 ·split at e
  ·exact h _ _ _ e hn
  ·cases e
 ·cases e
theorem wA(n:Nat)(ix:List Nat)(ε:Ev):NoX (prE n ix ε):=λi es e=>by
 unfold prE at e
 by_cases h:i<n
 ·rw[QX (by simpa using h),JC,if_pos h] at e
  cases e
 ·rw[QE (by simpa using h),Jw,Qm] at e
  obtain⟨j,e1,e2⟩:=aP e
  revert e2
  cases ε.getD j .un<;>intro z<;>cases z
theorem Grow.sealX{G H G' H':Hp}{a:Addr}{o:HO}(g:Grow G H G' H')(hn:H a=none)(gn:G' a=none)(ha:H' a=some o):Grow G H (upd G' a o) H':=
 ⟨g.hh,λb o e=>by rw[aD (ax (g.gg b o e) gn)];exact g.gg b o e,λb o e=>by
   unfold upd at e
   by_cases z:b=a
   ·rw[if_pos z] at e;cases e;rw[z];exact ha
   ·rw[if_neg z] at e;exact g.gh b o e,λb o e z=>by rw[aD (ax e hn)];exact g.fo b o e z⟩
def uM(f:Ev->Option Es):Ev->Option D:=λε=>(f ε).map D.dic
theorem DFD.de{X:Cx}{e:Expr}{f:Ev->Option Es}(h:DFD X e f):DE X e (uM f):=by
 obtain⟨t,h1,h2⟩:=h;refine⟨t,h1,λHe G H σ ε d Q gh E ef q=>?_⟩;obtain⟨es,e1,rfl⟩:=aP ef
 exact h2 He G H σ ε es Q gh E e1 λp us ep G' H' g hn gn ha nd hd=>
  q _ _ _ (g.sealX hn gn ha) (.dic aE nd (hd.mono λb o e=>by rw[aD (ax e gn)];exact e))
theorem vA{X:Cx}{pins:List (Addr×Obj)}{σ:L2.St}{G H:Hp}{s:v6}{a b:Addr}{us:aT}{ep:Nat}{k:List Int}{es:Es}{v:V}{u:vv}{Q:Unit->v6->Prop}{E:vv->v6->Prop}(hu:X.A.units<JG)(I:Inv X pins σ H s)(rv:aQ v u)(ha:H a=some (.ext (DAt a us ep)))(gh:aF G H)(hb:SqT X.K G b (k.map V.int))(nd:(us.map (·.1)).Nodup)(m:DenM X.K G us es)(hz:us.length<1000000)
  (q:∀ep' s',Inv X pins σ (upd H a (.ext (DAt a (gi us k b v) ep'))) s'->Q () s'):wE (Qa X.prog X.w) X.A (dictSet a (.ref b) u) Q E s:=by
 have x:DAt a us ep s.heap:=(show bz X.prog X.w H s.heap a (.ext (DAt a us ep)) from I.hok a _ ha).1;obtain⟨xs,p,dh⟩:=mL I gh x nd m;have lx:xs.length=us.length:=by simpa using(congrArg List.length (cf p)).symm
 refine wpAny_dictSet_heap (knd:=Ti X.prog X.w) (hsz:=by rw[lx];exact QZ (Jc hz (by decide))) hu (fm I gh hb) dh λh' dh' same=>?_;rw[f6 k b u xs (by rw[<-cf p];exact nd)] at dh';obtain⟨ep',x'⟩:=o6 dh' (nU (k:=k) (b:=b) rv p) x.1 (QO (gA ..) hz);exact q ep' _ (I.write (t':=_) (by rw[ha];trivial) (.inl rfl) (λb u hb e=>same.extBut b u hb e) (let⟨_,_,o,_,e,_⟩:=x';⟨o,e⟩) (f7 x'))
theorem eS{prog:Qs}{w:QC}{A:Qy}{R:Result->v6->Prop}{t0:v6}{kx vx tg iter:Expr}{ifs:List Expr}{sc:Scope}{pos:Pos}{it:vv}{acc:Addr}{ce:Env}(J:Nat->v6->Prop)
  (step:∀k t,J k t->wE (Qa prog w) A (pyNext it) (λo t1=>match o with | none=>R (.ok .next) t1 | some v=>wE (Qa prog w) A (Z5 tg it v) (λ_ t2=>wE (Qa prog w) A (Zu tg ce v) (λ_ t3=>
   wE (Qa prog w) A (forIn ifs true λc r=>if r=true then do let ok<-isTrue c ce (eval c ce);pure (ZD ok) else pure (ZD r)) (λyes t4=>if yes=true then wE (Qa prog w) A (eval kx ce) (λx t5=>wE (Qa prog w) A (eval vx ce) (λy t6=>
    wE (Qa prog w) A (dictSet acc x y) (λ_ t7=>∃j,j<k/\J j t7) (λ_ _=>False) t6) (λ_ _=>False) t5) (λ_ _=>False) t4 else ∃j,j<k/\J j t4) (λ_ _=>False) t3) (λ_ _=>False) t2) (λ_ _=>False) t1) (λ_ _=>False) t)
  (k0:Nat) (h0:J k0 t0):Zf (Qa prog w) A (.compLoop (.DictComp kx vx [⟨tg,iter,ifs,0⟩] sc pos) 0 it (.ref acc) ce) R t0:=by
 refine codeAny_loop rfl J (λk t hJ=>?_) k0 h0;show wE _ A ((compTurn (.DictComp kx vx [⟨tg,iter,ifs,0⟩] sc pos) 0 it (.ref acc) ce).onRaise (λx=>do noteFrame x ce;theTreesLotGoes x)) _ _ t;refine wpAny_noted ?_;rw[compTurn_dict];refine zn (JX (zn (QP (step k t hJ) (λo t1 q1=>?_) λ_ _ z=>z.elim)));cases o with
 |none=>exact wn q1
 |some v=>
  refine zn (QP q1 (λ_ t2 q2=>zn (QP q2 (λ_ t3 q3=>zn (QP q3 (λyes t4 q4=>?_) λ_ _ z=>z.elim)) λ_ _ z=>z.elim)) λ_ _ z=>z.elim);cases yes with
  |true=>exact zn (zn (QP q4 (λx t5 q5=>zn (QJ (QP q5 (λy t6 q6=>zn (JX (QJ (QP q6 (λ_ t7 q7=>wn ⟨rfl,q7⟩) λ_ _ z=>z.elim)))) λ_ _ z=>z.elim))) λ_ _ z=>z.elim))
  |false=>exact wn ⟨rfl,q4⟩
section
variable{X:Cx}{kx vx tg iter:Expr}{ifs:List Expr}{sc:Scope}{cl:List (Str×Addr)}{tn fr:List Str}{ix:List Nat}{pos:Pos}{fi:Ev->Option (List D)}{g:D->Ev->Option Ev}{ft:Ev->Option Bool}{fk fv:Ev->Option D}
def uX(X:Cx)(pins:List (Addr×Obj))(σ:L2.St)(G H:Hp)(es:Es)(RR:vv->Addr->Result->v6->Prop):Prop:=
 ∀(a:Addr) (us:aT) (ep:Nat) (G' H':Hp) (C:Addr) (oC:Obj) (m:Str->Option vv) (s':v6),Inv X (pins++[(C,oC)]) σ H' s'->s'.heap.Ns C m->X.s₀.heap.objs.size<=C->(∀p∈X.pn++pins,p.1≠C)->
  Grow G H G' H'->H a=none->G' a=none->H' a=some (.ext (DAt a us ep))->(us.map (·.1)).Nodup->DenM X.K G' us es->RR (.ref a) C (.ok .next) s'
theorem td{pins:List (Addr×Obj)}{σ:L2.St}{H He G G1 H3:Hp}{s3:v6}{ε:Ev}{ds:List D}{rs:Es}{RR:vv->Addr->Result->v6->Prop}{it Dd:Addr}{fp:List Addr}{tn':Nat->Heap->Prop}{J:It}{h₁:Heap}{m:Str->Option vv}{tk:Nat}
  (hu:X.A.units<JG) (hc:X.calm=true) (S:CompSc X sc cl tn fr ix) (ng:NoG g) (nx:rY g)
  (hg:∀C s₃ H₃ fp pins,DG (cxC X sc cl (tn++fr) C s₃ H₃ fp pins) tg g) (ht:∀C s₃ H₃ fp pins,DIf (cxC X sc cl (tn++fr) C s₃ H₃ fp pins) ifs ft) (hk1:∀C s₃ H₃ fp pins,DE (cxC X sc cl (tn++fr) C s₃ H₃ fp pins) kx fk) (hv1:∀C s₃ H₃ fp pins,DE (cxC X sc cl (tn++fr) C s₃ H₃ fp pins) vx fv)
  (I3:Inv X pins σ H3 s3) (E:EnvD X.K He G H σ ε) (hz:ds.length<1000000) (er:dcD g ft fk fv ds (prE tn.length ix ε) []=some rs) (after:uX X pins σ G H rs RR)
  (T:Turn X.prog X.w X.K tg J fp it tn') (itd:ItD X.K J ds G1) (f3:∀b∈fp,fQ X pins H3 b) (lt3:∀b∈fp,b<s3.heap.objs.size) (st3:tn' 0 s3.heap) (gr3:Grow G H G1 H3)
  (eD:H3 Dd=some (.ext (DAt Dd [] 0))) (nD:H Dd=none) (gD:G1 Dd=none) (hn:h₁.Ns s3.heap.objs.size m) (hk:∀b o,s3.heap.get? b=some o->h₁.get? b=some o) :
  Zf (Qa X.prog X.w) X.A (.compStart (.DictComp kx vx [⟨tg,iter,ifs,0⟩] sc pos) 0 (.ref it) (.ref Dd) (compEnvC sc cl s3.heap.objs.size X.env)) (RR (.ref Dd) s3.heap.objs.size) { s3 with heap:=h₁,toks:=tk }:=by
 have I4:=mP (tk:=tk) S hc I3 f3 lt3 hn hk;have st4:tn' 0 h₁:=T.keep _ _ _ st3 λb hb o e=>hk b o e;obtain⟨tgt,g1,g2⟩:=hg s3.heap.objs.size s3 H3 fp pins;obtain⟨tt,t1,t2⟩:=ht s3.heap.objs.size s3 H3 fp pins;obtain⟨tk1,k1,k2⟩:=hk1 s3.heap.objs.size s3 H3 fp pins;obtain⟨tv,v1,v2⟩:=hv1 s3.heap.objs.size s3 H3 fp pins
 have stat:∀{H':Hp},(∀b∈fp,H' b=none)->∀b∈fp,fQ (cxC X sc cl (tn++fr) s3.heap.objs.size s3 H3 fp pins) [] H' b:=λ{H'} hn b hb=>by
  obtain⟨_,q1,q2,q3,q4,q5⟩:=f3 b hb;refine⟨hn b hb,Qu (lt3 b hb),λz=>?_,.inl hb,λx c e=>q4 x c (S.sub x c e),λp hp=>q5 p ?_⟩
  ·rcases ut.mp (I3.stkSub b z) with w | w
   ·exact q1 w
   ·exact q2 w
  ·rcases Qn.mp hp with w | w
   ·exact w
   ·cases w
 let J9:Nat->v6->Prop:=λn s'=>∃(i:Nat) (σ':L2.St) (G' H':Hp) (ε':Ev) (us:aT) (ep:Nat) (es:Es),n=ds.length+1-i/\i<=ds.length/\Inv (cxC X sc cl (tn++fr) s3.heap.objs.size s3 H3 fp pins) [] σ' H' s'/\tn' i s'.heap/\(∀b∈fp,H' b=none)/\
   Grow G H G' H'/\aF G1 G'/\EnvD X.K He G' H' σ' ε'/\NoO ε'/\NoX ε'/\H' Dd=some (.ext (DAt Dd us ep))/\G' Dd=none/\(us.map (·.1)).Nodup/\DenM X.K G' us es/\us.length<=i/\dcD g ft fk fv (ds.drop i) ε' es=some rs
 have loop:∀s':v6,s'={ s3 with heap:=h₁,toks:=tk }->Zf (Qa X.prog X.w) X.A (.compLoop (.DictComp kx vx [⟨tg,iter,ifs,0⟩] sc pos) 0 (.ref it) (.ref Dd) (compEnvC sc cl s3.heap.objs.size X.env)) (RR (.ref Dd) s3.heap.objs.size) s':=by
  rintro s' rfl
  refine eS J9 ?_ (ds.length+1)
   ⟨0,_,G1,H3,_,[],0,[],rfl,QA _,I4,st4,λb hb=>(f3 b hb).1,gr3,aF.refl _,nr tn.length ix (E.grow gr3),sM _ _ _,wA _ _ _,eD,gD,Zt,.nil,wp _,by simpa using er⟩
  rintro n s5 ⟨i,σ',G',H',ε',us,ep,es,rfl,hi,I5,st5,fr5,gr5,sG,E5,no5,nd5,hD,hGD,hnd,hden,hxl,el⟩;obtain⟨go,stop,yld⟩:=itd i H' (sG.trans gr5.gh)
  by_cases hlt:i<ds.length
  ·refine thn (T.item (cxC X sc cl (tn++fr) s3.heap.objs.size s3 H3 fp pins) rfl rfl rfl rfl i [] s5 σ' H' (λ_ _=>False) I5 (stat fr5) st5 (go hlt)) λr s6 ⟨u,hr,h6⟩=>?_
   subst hr;refine thn h6 λ_ s7 ⟨x,H7,I7,r7,y7,st7,fr7⟩=>?_;have I7':=I7.pinned (stat fr7) (T.obj _ _ st7);have ed:ds[i]?=some ds[i]:=by simp[hlt]
   obtain⟨G7,gr7,dx⟩:=yld x H7 y7 _ ed G' sG gr5.gh;rw[Q6 hlt] at el;obtain⟨ε8,e8,el⟩:=af el;obtain⟨k,e9,el⟩:=af el;refine thn (g1 _ s7 σ' H7 x u (λσ8 H8=>H8=H7/\EnvD X.K He G7 H7 σ8 ε8) I7' r7 (g2 He G7 H7 σ' ε' ε8 x ds[i] _ gr7.gh (E5.grow gr7) dx e8 λσ8 E8=>⟨rfl,E8⟩)) λ_ s8 ⟨σ8,H8,I8,e10,E8⟩=>?_;subst e10;refine thn (t1 _ s8 σ8 H8 (λb H9=>b=k/\∃G9,Grow G7 H8 G9 H9) I8 (t2 He G7 H8 σ8 ε8 k _ gr7.gh E8 e9 λG9 H9 gr9=>⟨rfl,G9,gr9⟩)) λok s9 ⟨H9,I9,ek,G9,gr9⟩=>?_;subst ek
   have again:∀{s10:v6} {G10 H10:Hp} {ys:aT} {ep':Nat} {es':Es},Inv (cxC X sc cl (tn++fr) s3.heap.objs.size s3 H3 fp pins) ([]++ig fp s7.heap) σ8 H10 s10->Grow G H G10 H10->aF G1 G10->EnvD X.K He G10 H10 σ8 ε8->H10 Dd=some (.ext (DAt Dd ys ep'))->G10 Dd=none->(ys.map (·.1)).Nodup->DenM X.K G10 ys es'->ys.length<=i+1->
     dcD g ft fk fv (ds.drop (i+1)) ε8 es'=some rs->∃m,m<ds.length+1-i/\J9 m s10:=λ{s10 G10 H10 ys ep' es'} I10 gr10 sG10 E10 hD10 hG10 nd10 den10 len10 el10=>by
    refine⟨ds.length+1-(i+1),by lia,i+1,σ8,G10,H10,ε8,ys,ep',es',rfl,hlt,I10.unpinned,T.keep _ _ _ st7 λb hb o e=>(I10.pin (b,o) (Ql _ (Ql _ (cu hb e)))).1,λb hb=>?_,gr10,sG10,E10,ng _ _ _ e8 no5,?_,hD10,hG10,nd10,den10,len10,el10⟩
    ·obtain⟨o,e,d⟩:=T.obj _ _ st7 b hb
     exact(I10.pin (b,o) (Ql _ (Ql _ (cu hb e)))).2.1
    ·exact nx _ _ _ e8 nd5
   have gr9':=gr5.trans (gr7.trans gr9);have sG9:aF G1 G9:=sG.trans (gr7.gg.trans gr9.gg);have hD9:=gr9.hh _ _ (gr7.hh _ _ hD);have hG9:G9 Dd=none:=gr9.fo _ _ (gr7.hh _ _ hD) (gr7.fo _ _ hD hGD);cases ok with
   |false=>
    rw[if_neg ww] at el;rw[if_neg ww];exact again I9 gr9' sG9 (E8.grow gr9) hD9 hG9 hnd (hden.mono (gr7.gg.trans gr9.gg)) (by lia) el
   |true=>
    rw[if_pos rfl] at el;rw[if_pos rfl];obtain⟨kd,e11,el⟩:=af el;obtain⟨vd,e12,el⟩:=af el;obtain⟨nk,e13,el⟩:=af el;refine thn (k1 _ s9 σ8 H9 (λy H10=>∃G10,Grow G9 H9 G10 H10/\Den X.K G10 y kd) I9 (k2 He G9 H9 σ8 ε8 kd _ gr9.gh (E8.grow gr9) e11 λy G10 H10 gr10 dy=>⟨G10,gr10,dy⟩)) λuk s10 ⟨yk,H10,I10,r10,G10,gr10,dk⟩=>?_;refine thn (v1 _ s10 σ8 H10 (λy H11=>∃G11,Grow G10 H10 G11 H11/\Den X.K G11 y vd) I10 (v2 He G10 H10 σ8 ε8 vd _ gr10.gh ((E8.grow gr9).grow gr10) e12 λy G11 H11 gr11 dy=>⟨G11,gr11,dy⟩)) λuv s11 ⟨yv,H11,I11,r11,G11,gr11,dv⟩=>?_;obtain⟨bb,rfl,hb⟩:=dU gr11.gh (.inl (dk.mono gr11.gg)) e13;cases r10;have hD11:=gr11.hh _ _ (gr10.hh _ _ hD9);have hG11:G11 Dd=none:=gr11.fo _ _ (gr10.hh _ _ hD9) (gr10.fo _ _ hD9 hG9);have m11:=(hden.mono (gr7.gg.trans gr9.gg)).mono (gr10.gg.trans gr11.gg);refine vA (X:=cxC X sc cl (tn++fr) s3.heap.objs.size s3 H3 fp pins) hu I11 r11 hD11 gr11.gh hb hnd m11 (by lia) λep' s12 I12=>?_;have gr11':=gr9'.trans (gr10.trans gr11);have keep:∀{b:Addr} {o:HO},b≠Dd->H11 b=some o->upd H11 Dd (.ext (DAt Dd (gi us nk bb yv) ep')) b=some o:=λ{b o} nb e=>by rw[aD nb];exact e
    have E11:=((E8.grow gr9).grow gr10).grow gr11;refine again I12 ⟨λb o e=>keep (ax e nD) (gr11'.hh b o e),gr11'.gg,λb o e=>keep (ax e hG11) (gr11'.gh b o e),gr11'.fo⟩ (sG9.trans (gr10.gg.trans gr11.gg)) ?_ aE hG11 (jT hnd) (m11.put hb dv) (by have:=gA us nk bb yv;lia) el;exact⟨E11.len,E11.dat,λ{j es} e=>(ng _ _ _ e8 no5 _ _ e).elim,E11.apart,λ{j es} e=>(nx _ _ _ e8 nd5 _ _ e).elim,E11.apartD⟩
  ·have e5:i=ds.length:=by lia
   subst e5;rw[JN] at el;cases el;refine thn (T.done (cxC X sc cl (tn++fr) s3.heap.objs.size s3 H3 fp pins) rfl rfl rfl rfl ds.length [] s5 σ' H' (λ_ _=>False) I5 (stat fr5) st5 (stop (wp _))) λr s6 ⟨hr,I6⟩=>?_;subst hr;obtain⟨m6,⟨oC,es',ep',ho,hdt,hrest⟩,_⟩:=id I6.loc;have IX:Inv X pins σ H' s6:=I3.call' I6.os I6.base I6.hok I6.bare λb hb=>⟨(f3 b hb).2.2.2.1,(f3 b hb).2.1,(f3 b hb).2.2.2.2.1,(f3 b hb).2.2.2.2.2⟩;have pC:∀p∈X.pn++pins,p.1≠s3.heap.objs.size:=λp hp=>Qu (Qb (I3.pin p hp).1)
   have IX':Inv X (pins++[(s3.heap.objs.size,oC)]) σ H' s6:=IX.pins_of λp hp=>by
    rcases Qn.mp hp with older | newer
    ·exact IX.pin p (Ql _ older)
    ·rw[xz.mp newer]
     exact⟨ho,I6.free,Ne.symm (Qu I3.lt),I3.nofs (wp _),λv q=>by rw[hdt] at q;cases q⟩
   exact after Dd us ep G' H' s3.heap.objs.size oC m6 s6 IX' ⟨oC,es',ep',ho,hdt,hrest⟩ I3.sz pC gr5 nD hGD hD hnd hden
 exact codeAny_compStart_dict (loop _ rfl) (T.self X.A 0 _ _ _ st4 (loop _ rfl))
theorem xu{pins:List (Addr×Obj)}{σ:L2.St}{H He G:Hp}{s:v6}{ε:Ev}{ds:List D}{rs:Es}{RR:vv->Addr->Result->v6->Prop}(hu:X.A.units<JG)(hc:X.calm=true)(hi:DI X tg iter fi)(S:CompSc X sc cl tn fr ix)(ng:NoG g)(nx:rY g)
  (hg:∀C s₃ H₃ fp pins,DG (cxC X sc cl (tn++fr) C s₃ H₃ fp pins) tg g) (ht:∀C s₃ H₃ fp pins,DIf (cxC X sc cl (tn++fr) C s₃ H₃ fp pins) ifs ft) (hk1:∀C s₃ H₃ fp pins,DE (cxC X sc cl (tn++fr) C s₃ H₃ fp pins) kx fk) (hv1:∀C s₃ H₃ fp pins,DE (cxC X sc cl (tn++fr) C s₃ H₃ fp pins) vx fv)
  (I:Inv X pins σ H s) (gh:aF G H) (E:EnvD X.K He G H σ ε) (ei:fi ε=some ds) (hz:ds.length<1000000) (er:dcD g ft fk fv ds (prE tn.length ix ε) []=some rs) (after:uX X pins σ G H rs RR) :
  wE (Qa X.prog X.w) X.A (eval iter X.env) (λx s₁=>wE (Qa X.prog X.w) X.A (pyIter x) (λit s₂=>wE (Qa X.prog X.w) X.A newDict (λacc s₃=>
   wE (Qa X.prog X.w) X.A (newFunctionEnv sc X.env.globals cl [] X.env.qual none .none (some X.env)) (λcenv s₄=>
    Zf (Qa X.prog X.w) X.A (.compStart (.DictComp kx vx [⟨tg,iter,ifs,0⟩] sc pos) 0 it acc { cenv with scope:=relabel sc X.env }) (RR acc cenv.locals) s₄) X.xe s₃) X.xe s₂) X.xe s₁) X.xe s:=by
 obtain⟨wi,i1,i2⟩:=hi;refine thn (i1 pins s σ H (λJ H'=>∃G1,Grow G H G1 H'/\ItD X.K J ds G1) I (i2 He G H σ ε ds _ gh E ei λJ G' H' gr itd=>⟨G',gr,itd⟩)) λv s1 h1=>thn h1 λitv s2 h2=>?_;obtain⟨it,fp,tn',J,H2,rfl,I2,T,st2,f2,G1,gr,itd⟩:=h2;refine QG (wpAny_newFunctionEnv S.nocell (by intro y hy;simp at hy) (λh₁ hns₁ hsb₁=>?_) S.kind);dsimp only at hns₁ hsb₁ ⊢;have fr2:H2 s2.heap.objs.size=none:=I2.hok.fresh (wp _)
 have I3:Inv X pins σ (upd H2 s2.heap.objs.size (.ext (DAt s2.heap.objs.size [] 0))) { s2 with heap:=s2.heap.push { cls:=.type "dict",dict:=none,data:=.dict #[] } }:=
  I2.laid (t':=s2.toks) (λb ob q=>wf _ q) (wp _) (f7 (oB I2))
 have fpD:∀b∈fp,b≠s2.heap.objs.size:=λb hb z=>by
  obtain⟨o,e,_⟩:=T.obj 0 _ st2 b hb;exact absurd (Qb e) (by rw[z];exact Jl _)
 have f3:∀b∈fp,fQ X pins (upd H2 s2.heap.objs.size (.ext (DAt s2.heap.objs.size [] 0))) b:=λb hb=>⟨by rw[aD (fpD b hb)];exact(f2 b hb).1,(f2 b hb).2⟩
 have lt3:∀b∈fp,b<(s2.heap.push { cls:=.type "dict",dict:=none,data:=.dict #[] }).objs.size:=λb hb=>by
  obtain⟨o,e,_⟩:=T.obj 0 _ st2 b hb;rw[J1];exact Nat.lt_succ_of_lt (Qb e)
 have st3:tn' 0 (s2.heap.push { cls:=.type "dict",dict:=none,data:=.dict #[] }):=T.keep _ _ _ st2 λb hb o e=>wf _ e;exact td (s3:={ s2 with heap:=s2.heap.push { cls:=.type "dict",dict:=none,data:=.dict #[] } }) hu hc S ng nx hg ht hk1 hv1 I3 E hz er after T itd f3 lt3 st3 (gr.trans (.lay _ gr.gh fr2)) aE (gr.hh.free fr2) (gr.gh.free fr2) hns₁ λb o e=>hsb₁.extBut b o (Qu (Qb e)) (wf _ e)
def eDC(fi:Ev->Option (List D))(n:Nat)(ix:List Nat)(g:D->Ev->Option Ev)(ft:Ev->Option Bool)(fk fv:Ev->Option D):Ev->Option Es:=λε=>(fi ε).bind λds=>if ds.length<1000000 then dcD g ft fk fv ds (prE n ix ε) [] else none
theorem uS{kk:Nat}(hr:Room kk X.A)(hc:X.calm=true)(hi:DI X tg iter fi)(S:CompSc X sc cl tn fr ix)(ng:NoG g)(nx:rY g)
  (hg:∀C s₃ H₃ fp pins,DG (cxC X sc cl (tn++fr) C s₃ H₃ fp pins) tg g) (ht:∀C s₃ H₃ fp pins,DIf (cxC X sc cl (tn++fr) C s₃ H₃ fp pins) ifs ft) (hk1:∀C s₃ H₃ fp pins,DE (cxC X sc cl (tn++fr) C s₃ H₃ fp pins) kx fk) (hv1:∀C s₃ H₃ fp pins,DE (cxC X sc cl (tn++fr) C s₃ H₃ fp pins) vx fv)
  (hs:∀x,JV iter X.env x=pure x:=by intro _;rfl):DFD X (.DictComp kx vx [⟨tg,iter,ifs,0⟩] sc pos) (eDC fi tn.length ix g ft fk fv):=by
 refine⟨λσ H Q=>∃He G ε rs,aF G H/\EnvD X.K He G H σ ε/\eDC fi tn.length ix g ft fk fv ε=some rs/\∀p us ep G' H',Grow G H G' H'->H p=none->G' p=none->H' p=some (.ext (DAt p us ep))->(us.map (·.1)).Nodup->DenM X.K G' us rs->Q (.ref p) H',λpins s σ H Q I hq=>?_,
  λHe G H σ ε ds Q gh E ef q=>⟨He,G,ε,ds,gh,E,ef,q⟩⟩
 obtain⟨He,G,ε,rs,gh,E,ef,q⟩:=hq;obtain⟨ds,ei,ef⟩:=af ef;split at ef
 ·rename_i hz
  rw[arm_eval_DictComp];refine wpAny_comprehension_free (use:=none) rfl hs S.clos S.kind S.names (xu (RR:=λacc C=>compPost (Qa X.prog X.w) X.A X.xe none (EP X pins σ Q) acc C) (by have:=hr.un;lia) hc hi S ng nx hg ht hk1 hv1 I gh E ei hz ef ?_);intro a us ep G' H' C oC m s' IX hNs hC pC gr hn gn ha nd hd;exact⟨m,hNs,λh' hs'=>⟨.ref a,H',k9 IX hC pC hs',rfl,q a us ep G' H' gr hn gn ha nd hd⟩⟩
 ·cases ef
end
theorem iQ{prog:Qs}{w:QC}{A:Qy}{E:vv->v6->Prop}{s:v6}{K:Type}[DecidableEq K]{knd:HeapKind prog w K}{d a:Addr}{xs:List (K×Addr×vv)}{k:K}{v:vv}{Q:vv->v6->Prop}(hu:knd.room A)(hkey:knd.is s.heap k a)(hm:s.heap.DictOfH knd d xs)(hsz:xs.length<=Qt)
  (q1:∀p,JY xs k=some p->Q p.2 { s with toks:=s.toks+knd.draws k })
  (q2:JY xs k=none->∀h',h'.DictOfH knd d (xs++[(k,a,v)])->Q9 d s.heap h'->Q v { s with heap:=h',toks:=s.toks+knd.draws k }) :
  wE (Qa prog w) A (dictSetDefault d (.ref a) v) Q E s:=by
 obtain⟨o,es,ep,ho,hc,hd,he,his,hn⟩:=hm;unfold dictSetDefault;refine QJ (zn (knd.pyHash hu hkey ?_));refine zn (wpAny_dictFind_heap (s:={ s with toks:=s.toks+knd.draws k }) hu hkey ho hd he his hn (λno=>?_) λj p hj=>?_)
 ·have hnot:k∉xs.map (·.1):=not_mem_keys_of_get no
  refine zn (ZQ (zn (wpAny_updateDictKeys (hz:=by have e:=size_of_entries he;lia) (s:={ s with toks:=s.toks+knd.draws k }) ho hd (wn (q2 (atKey_none_of_get no) _ ⟨_,_,ep+1,Zh _ ho (Obj.isFreed_of_dict (Obj.data_mapDictKeys hd _)),hc.mapDictKeys _,Obj.data_mapDictKeys hd _,by simp[he,entryOfKey],λx hx=>?_,?_⟩ (Jt ..))))))
  ·rcases Qn.mp hx with old | new
   ·exact knd.keeps (his x old) ho hd (Jt ..)
   ·rw[xz.mp new];exact knd.keeps hkey ho hd (Jt ..)
  ·rw[Jg,ZK]
   exact⟨hn,by simp,λx hx y hy=>by rw[xz.mp hy];exact λ(e:x=k)=>hnot (e▸hx)⟩
 ·refine zn (ZJ (s:={ s with toks:=s.toks+knd.draws k }) ho hd ?_)
  have e1:es[j]?=some (entryOfKey knd (k,p)):=by rw[entry_at he j,hj];rfl
  rw[e1];exact zn (ZQ (wn (q1 p (atKey_of_get hn hj))))
theorem iD{k:List Int}:∀{xs:XsL},k∈xs.map (·.1)->∃p,JY xs k=some p
 |[],h=>by simp at h
 |x::r,h=>by
  rw[lR]
  by_cases z:x.1=k
  ·exact⟨_,if_pos z⟩
  ·rw[if_neg z]
   rw[Qe,ut] at h;exact iD (h.resolve_left λq=>z q.symm)
section
variable{X:Cx}{pins:List (Addr×Obj)}{σ:L2.St}{G H:Hp}{s:v6}
theorem yG(I:Inv X pins σ H s)(gh:aF G H){a:Addr}{us:aT}{ep:Nat}(x:DAt a us ep s.heap)(nd:(us.map (·.1)).Nodup)(m:∀u∈us,SqT X.K G u.2.1 (u.1.map V.int)):∃xs:XsL,Jk EX us xs/\s.heap.DictOfH (Ti X.prog X.w) a xs:=by
 obtain⟨n,z,o,raw,e,c,dd,p⟩:=x;obtain⟨xs,e1,q⟩:=nL (P:=X.prog) (w:=X.w) p;refine⟨xs,q,o,raw,ep,e,c,dd,e1,λy hy=>?_,by rw[<-cf q];exact nd⟩
 have all:∀{us:aT} {xs:XsL},Jk EX us xs->∀y∈xs,∃u∈us,EX u y:=by
  intro us xs q
  induction q with
  |nil=>intro y hy;cases hy
  |cons h t ih=>
   intro y hy;rcases ut.mp hy with rfl | hy9
   ·exact⟨_,Qh ..,h⟩
   ·obtain⟨u,hu,e⟩:=ih y hy9;exact⟨u,Qj _ hu,e⟩
 obtain⟨u,hu,e2⟩:=all q y hy;rw[<-e2.1,<-e2.2.1];exact fm I gh (m u hu)
end
def rSd(K:v0):V->List V->Hp->VK->Prop:=λx xs H Q=>∃a us ep b k y G,x=.ref a/\xs=[.ref b,y]/\H a=some (.ext (DAt a us ep))/\aF G H/\SqT K G b (k.map V.int)/\(us.map (·.1)).Nodup/\(∀u∈us,SqT K G u.2.1 (u.1.map V.int))/\us.length<1000000/\(∀b' v,(k,b',v)∈us->Q v H)/\(k∉us.map (·.1)->∀ep',Q y (upd H a (.ext (DAt a (us++[(k,b,y)]) ep'))))
theorem iy{α β:Type}{R:α->β->Prop}{a:α}{b:β}(h:R a b):∀{xs:List α} {ys:List β},Jk R xs ys->Jk R (xs++[a]) (ys++[b])
 |_,_,.nil=>.cons h .nil
 |_,_,.cons q t=>.cons q (iy h t)
theorem vz{X:Cx}(hu:X.A.units+1<JG):MtM X "dict.setdefault" (rSd X.K):=by
 intro pins s σ H x xs v vs Q I rx rv h;obtain⟨a,us,ep,b,k,y,G,rfl,rfl,ha,gh,hb,nd,m,hz,q1,q2⟩:=h;cases rx;obtain⟨u1,u2,rfl,r1,r2⟩:=rv.two;cases r1;have x0:DAt a us ep s.heap:=(show bz X.prog X.w H s.heap a (.ext (DAt a us ep)) from I.hok a _ ha).1;obtain⟨xs,p,dh⟩:=yG I gh x0 nd m;have lx:xs.length=us.length:=by simpa using(congrArg List.length (cf p)).symm
 have meets:MeetsIn X.prog X.w (ZA.«dict.setdefault» ⟨[.ref a,.ref b,u2],[]⟩) (λA R s=>(Ti X.prog X.w).room A.in1/\∃xs:XsL,(Ti X.prog X.w).is s.heap k b/\s.heap.DictOfH (Ti X.prog X.w) a xs/\xs.length<=Qt/\
   (∀p,JY xs k=some p->R (.ok (.ret p.2)) { s with toks:=s.toks+(Ti X.prog X.w).draws k })/\
   (JY xs k=none->∀h',h'.DictOfH (Ti X.prog X.w) a (xs++[(k,b,u2)])->Q9 a s.heap h'->R (.ok (.ret u2)) { s with heap:=h',toks:=s.toks+(Ti X.prog X.w).draws k })):=
  .of_wp λA R s ⟨hu,xs,hkey,hm,hsz,h1,h2⟩=>by
   unfold ZA.«dict.setdefault»;refine zn ?_;unfold Builtin.Dict.keyAndDefault at ⊢;refine zn (wpAny_notOrdered_dict hm.typeIs (show wE _ _ (pure (a,QH b,some u2)) _ _ s from wn ?_));show wE _ _ (if(a==Ju)=true then _ else(dictSetDefault a (.ref b) u2>>=_)) _ _ s;rw[if_neg (by rw[x0.1];exact ww)];exact zn (iQ hu hkey hm hsz (λp e=>wn ⟨_,rfl,h1 p e⟩) λe h' dh' same=>wn ⟨_,rfl,h2 e h' dh' same⟩)
 refine call_meetsIn PySem.F.slot_dict_setdefault dh.typeIs PySem.F.entry_dict_setdefault (PySem.F.args_dict_setdefault_3 _ _ _) meets ⟨(show X.A.in1.units<JG from hu),xs,fm I gh hb,dh,by rw[lx];exact QZ (Jc hz (by decide)),λz e=>?_,λe h' dh' same=>?_⟩
 ·obtain⟨b',v,h1,h2⟩:=yo p e
  exact⟨v,H,I.kept (t':=_) λ_ _ e=>e,h2,q1 b' v h1⟩
 ·obtain⟨ep',x'⟩:=o6 (us:=us++[(k,b,y)]) dh' (iy ⟨rfl,rfl,r2⟩ p) x0.1 (by rw[Qr];exact hz)
  exact⟨y,_,I.write (t':=_) (by rw[ha];trivial) (.inl rfl) (λb u hb e=>same.extBut b u hb e) (let⟨_,_,o,_,e,_⟩:=x';⟨o,e⟩) (f7 x'),r2,q2 (by rw[cf p];exact lZ e) ep'⟩
abbrev Ms:=List (List Int×List D)
def fR:Ms->List Int->D->Ms
 |[],k,d=>[(k,[d])]
 |e::r,k,d=>if e.1=k then(e.1,e.2++[d])::r else e::fR r k d
inductive OM(K:v0)(He G H:Hp):aT->Ms->Prop where
 |nil:OM K He G H [] []
 |cons {k:List Int} {b c:Addr} {xs:List V} {ds:List D} {us:aT} {ms:Ms} (hk:SqT K G b (k.map V.int)) (hl:H c=some (.lst xs)) (gn:G c=none) (hn:He c=none) (hd:DenL K G xs ds) (nc:∀u∈us,u.2.2≠.ref c) (t:OM K He G H us ms):OM K He G H ((k,b,.ref c)::us) ((k,ds)::ms)
section
variable{K:v0}{He G H:Hp}
theorem OM.grow{G' H':Hp}(g:Grow G H G' H'):∀{us:aT} {ms:Ms},OM K He G H us ms->OM K He G' H' us ms
 |_,_,.nil=>.nil
 |_,_,.cons hk hl gn hn hd nc t=>.cons (aC g.gg hk) (g.hh _ _ hl) (g.fo _ _ hl gn) hn (hd.mono g.gg) nc (t.grow g)
theorem OM.keys:∀{us:aT} {ms:Ms},OM K He G H us ms->us.map (·.1)=ms.map (·.1)
 |_,_,.nil=>rfl
 |_,_,.cons _ _ _ _ _ _ t=>by rw[Qe,Qe,t.keys]
theorem OM.sq:∀{us:aT} {ms:Ms},OM K He G H us ms->∀u∈us,SqT K G u.2.1 (u.1.map V.int)
 |_,_,.nil,_,h=>by cases h
 |_,_,.cons hk _ _ _ _ _ t,u,h=>(ut.mp h).elim (λe=>by subst e;exact hk) λh=>t.sq u h
theorem OM.there:∀{us:aT} {ms:Ms},OM K He G H us ms->∀u∈us,∃c xs,u.2.2=.ref c/\H c=some (.lst xs)/\G c=none/\He c=none
 |_,_,.nil,_,h=>by cases h
 |_,_,.cons _ hl gn hn _ _ t,u,h=>(ut.mp h).elim (λe=>by subst e;exact⟨_,_,rfl,hl,gn,hn⟩) λh=>t.there u h
theorem OM.off{c:Addr}{o:HO}:∀{us:aT} {ms:Ms},OM K He G H us ms->(∀u∈us,u.2.2≠.ref c)->OM K He G (upd H c o) us ms
 |_,_,.nil,_=>.nil
 |_,_,.cons hk hl gn hn hd nc t,h=>.cons hk (by rw[aD (λz=>h _ (Qh ..) (by rw[z]))];exact hl) gn hn hd nc (t.off λu hu=>h u (Qj _ hu))
theorem OM.snoc{k:List Int}{b c:Addr}(hk:SqT K G b (k.map V.int))(hl:H c=some (.lst []))(gn:G c=none)(hn:He c=none):∀{us:aT} {ms:Ms},OM K He G H us ms->(∀u∈us,u.2.2≠.ref c)->OM K He G H (us++[(k,b,.ref c)]) (ms++[(k,[])])
 |_,_,.nil,_=>.cons hk hl gn hn .nil (λ_ h=>by cases h) .nil
 |_,_,.cons (c:=c') hk' hl' gn' hn' hd' nc' t,h=>.cons hk' hl' gn' hn' hd' (λu hu=>(Qn.mp hu).elim (nc' u) λq=>by
   rw[xz.mp q];intro z
   exact h _ (Qh ..) (by rw[<-z])) (OM.snoc hk hl gn hn t λu hu=>h u (Qj _ hu))
theorem OM.at{k:List Int}{b:Addr}{v y:V}{d:D}(hy:Den K G y d):∀{us:aT} {ms:Ms},OM K He G H us ms->(us.map (·.1)).Nodup->(k,b,v)∈us->∃c xs ds,v=.ref c/\H c=some (.lst xs)/\xs.length=ds.length/\(k,ds)∈ms/\G c=none/\He c=none/\OM K He G (upd H c (.lst (xs++[y]))) us (fR ms k d)
 |_,_,.nil,_,h=>by cases h
 |_,_,.cons (k:=k') (c:=c') (xs:=xs') (ds:=ds') hk hl gn hn hd nc t,nd,h=>by
  rw[Qe,Jv] at nd;unfold fR;rcases ut.mp h with e9 | h9
  ·cases e9
   refine⟨c',xs',ds',rfl,hl,hd.length,Qh ..,gn,hn,?_⟩;rw[if_pos rfl];exact .cons hk aE gn hn (hd.append (.one hy)) nc (t.off nc)
  ·have kk:k'≠k:=λz=>nd.1 (by subst z;exact Qo.mpr ⟨_,h9,rfl⟩)
   rw[if_neg kk];obtain⟨c,xs,ds,rfl,h1,h2,h3,h4,h5,h6⟩:=OM.at hy t nd.2 h9;have cc:c'≠c:=λz=>nc _ h9 (by rw[z]);exact⟨c,xs,ds,rfl,h1,h2,Qj _ h3,h4,h5,.cons hk (by rw[aD cc];exact hl) gn hn hd nc h6⟩
theorem m8{k:List Int}{d:D}:∀{ms:Ms},k∉ms.map (·.1)->fR (ms++[(k,[])]) k d=fR ms k d
 |[],_=>by simp[fR]
 |e::r,h=>by
  rw[Qe,ut,not_or] at h;show(if e.1=k then _ else _)=(if e.1=k then _ else _);rw[if_neg λz=>h.1 z.symm,if_neg λz=>h.1 z.symm];exact congrArg (e :: ·) (m8 h.2)
theorem nt{k:List Int}{d:D}{n:Nat}:∀{ms:Ms},(∀e∈ms,e.2.length<=n)->∀e∈fR ms k d,e.2.length<=n+1
 |[],_,e,he=>by
  rw[show fR [] k d=[(k,[d])] from rfl] at he;rw[xz.mp he];exact Zx (QA _)
 |m::r,h,e,he=>by
  unfold fR at he;split at he
  ·rcases ut.mp he with q | q
   ·rw[q];simpa using h m (Qh ..)
   ·exact Nat.le_succ_of_le (h e (Qj _ q))
  ·rcases ut.mp he with q | q
   ·rw[q];exact Nat.le_succ_of_le (h m (Qh ..))
   ·exact nt (λe he=>h e (Qj _ he)) e q
def msD(ms:Ms):Es:=ms.map λe=>(e.1,.lst e.2)
theorem OM.seal{Ge:Hp}:∀{us:aT} {ms:Ms} {G:Hp},OM K He G H us ms->Grow Ge He G H->∃G',Grow Ge He G' H/\aF G G'/\DenM K G' us (msD ms)/\∀a o,H a=some o->(∀xs,o≠.lst xs)->G a=none->G' a=none
 |_,_,G,.nil,g=>⟨G,g,aF.refl _,.nil,λ_ _ _ _ e=>e⟩
 |_,_,G,.cons (c:=c) (xs:=xs) (us:=us) (ms:=ms) hk hl gn hn hd nc t,g=>by
  have s1:aF G (upd G c (.lst xs)):=λb o e=>by rw[aD (ax e gn)];exact e
  have g1:Grow Ge He (upd G c (.lst xs)) H:=⟨g.hh,g.gg.trans s1,λb o e=>by
   by_cases z:b=c
   ·subst z;rw[aE] at e;cases e;exact hl
   ·rw[aD z] at e;exact g.gh b o e,λb o e z=>by rw[aD (ax e hn)];exact g.fo b o e z⟩
  have lift:∀{us:aT} {ms:Ms},OM K He G H us ms->(∀u∈us,u.2.2≠.ref c)->OM K He (upd G c (.lst xs)) H us ms:=by
   intro us ms t
   induction t with
   |nil=>intro _;exact .nil
   |@cons k' b' c' _ _ _ _ hk' hl' gn' hn' hd' nc' _ ih=>
    intro h;exact .cons (aC s1 hk') hl' (by rw[aD (λz=>h _ (Qh ..) (by rw[z]))];exact gn') hn' (hd'.mono s1) nc' (ih λu hu=>h u (Qj _ hu))
  obtain⟨G',q1,q2,q3,q4⟩:=OM.seal (lift t nc) g1;refine⟨G',q1,s1.trans q2,.cons (aC (s1.trans q2) hk) (.lst (SqL.of (q2 _ _ aE)) (hd.mono (s1.trans q2))) q3,λa o e no z=>q4 a o e no ?_⟩;rw[aD (λw=>by subst w;rw[hl] at e;cases e;exact no _ rfl)];exact z
end
section
variable{X:Cx}{pos:Pos}
def DGK(n:Nat)(X:Cx)(tg:Expr)(g:D->Ev->Option Ev):Prop:=∃t,PG X tg t/\∀(He G H:Hp) (σ:L2.St) (ε ε':Ev) (v:V) (d:D) (Q:L2.St->Hp->Prop),aF G H->EnvD X.K He G H σ ε->Den X.K G v d->g d ε=some ε'->cM ε=true->
 (∀σ',EnvD X.K He G H σ' ε'->cM ε'=true->σ'[n]?=σ[n]?->Q σ' H)->t v σ H Q
def wm(n:Nat)(X:Cx)(ts:List Expr)(g:List D->Ev->Option Ev):Prop:=∃t,PGs X ts t/\∀(He G H:Hp) (σ:L2.St) (ε ε':Ev) (vs:List V) (ds:List D) (Q:L2.St->Hp->Prop),aF G H->EnvD X.K He G H σ ε->DenL X.K G vs ds->g ds ε=some ε'->cM ε=true->
 (∀σ',EnvD X.K He G H σ' ε'->cM ε'=true->σ'[n]?=σ[n]?->Q σ' H)->t vs σ H Q
theorem se{ε:Ev}(h:cM ε=true)(i:Nat)(d:D):cM (ε.set i (.dat d))=true:=by
 unfold cM at h ⊢;rw[Jd] at h ⊢;intro s hs;rcases List.mem_or_eq_of_mem_set hs with z | z
 ·exact h s z
 ·rw[z]
theorem eZ{n:Nat}(i:Nat){x:Str}(hN:X.N.Nodup)(ne:i≠n:=by decide)(hi:X.N[i]?=some x:=by rfl)(hx:Loc X.env.scope x:=by first | exact Or.inl rfl | exact Jy rfl)(hf:X.fn x=true\/X.env.scope.names.lookup x=some .local:=by first | exact .inl rfl | exact .inr rfl):DGK n X (.Name x pos) (ah i):=
 ⟨_,qf hN hi hx hf,λHe G H σ ε ε' v d Q gh E hd e no q=>by cases e;exact q _ (E.put hd) (se no _ _) (by rw[Qc,if_neg ne])⟩
theorem tF{n:Nat}:wm n X [] aL:=⟨_,qC,λHe G H σ ε ε' vs ds Q gh E hd e no q=>by
 cases hd with
 |nil=>cases e;exact⟨rfl,q _ E no rfl⟩
 |cons _ _=>cases e⟩
theorem dW{n:Nat}{e:Expr}{es:List Expr}{g1:D->Ev->Option Ev}{g2:List D->Ev->Option Ev}(h1:DGK n X e g1)(h2:wm n X es g2)(hs:(QU (e::es) X.env).map (·.2)=Zu e X.env::(QU es X.env).map (·.2):=by rfl):wm n X (e::es) (ai g1 g2):=by
 obtain⟨t,a1,a2⟩:=h1;obtain⟨u,b1,b2⟩:=h2;refine⟨_,mW a1 b1 hs,λHe G H σ ε ε' vs ds Q gh E hd e no q=>?_⟩;cases hd with
 |nil=>cases e
 |cons h3 h4=>
  obtain⟨ε1,e1,e⟩:=af e;exact⟨_,_,rfl,a2 He G H σ ε ε1 _ _ _ gh E h3 e1 no λσ1 E1 no1 k1=>b2 He G H σ1 ε1 ε' _ _ _ gh E1 h4 e no1 λσ2 E2 no2 k2=>q σ2 E2 no2 (k2.trans k1)⟩
theorem xw{n m:Nat}{es:List Expr}{k:Nat}{g:List D->Ev->Option Ev}(hc:X.calm=true)(h:wm n X es g)(hn:(QU es X.env).length=m:=by rfl)(hst:(QU es X.env).findIdx? (·.1)=none:=by rfl):DGK n X (.Tuple es k pos) (bx m g):=by
 obtain⟨t,a1,a2⟩:=h;refine⟨_,nY hc a1 hn hst,λHe G H σ ε ε' v d Q gh E hd e no q=>?_⟩;unfold bx at e;split at e
 ·split at e
  ·rename_i hl
   obtain⟨p,xs,rfl,h1,h2⟩:=hd.tupV;exact⟨p,xs,rfl,aC gh h1,by rw[h2.length];exact hl,a2 He G H σ ε ε' _ _ _ gh E h2 e no q⟩
  ·cases e
 ·cases e
def sdD(g:D->Ev->Option Ev)(fk fv:Ev->Option D):List D->Ev->Ms->Option (Ev×Ms)
 |[],ε,ms=>some (ε,ms)
 |d::ds,ε,ms=>(g d ε).bind λε1=>(fk ε1).bind λkd=>(fv ε1).bind λv=>(l0 kd).bind λn=>sdD g fk fv ds ε1 (fR ms n v)
def ux(i:Nat)(fi:Ev->Option (List D))(g:D->Ev->Option Ev)(fk fv:Ev->Option D)(gr:Ev->Option Fl):Ev->Option Fl:=λε=>if cM ε=true/\i<ε.length then(fi (ε.set i .un)).bind λds=>if ds.length<1000000 then(sdD g fk fv ds (ε.set i .un) []).bind λr=>gr (r.1.set i (.odi (msD r.2))) else none else none
theorem EnvD.odiOf{K:v0}{He G H:Hp}{σ:L2.St}{ε:Ev}{i:Nat}{a:Addr}{us:aT}{ep:Nat}{ds:Es}(E:EnvD K He G H σ ε)(no:cM ε=true)(hs:σ[i]?=some (some (.ref a)))(gn:G a=none)(hn:He a=none)(ha:H a=some (.ext (DAt a us ep)))(nd:(us.map (·.1)).Nodup)(hd:DenM K G us ds):EnvD K He G H σ (ε.set i (.odi ds)) where
 len:=by rw[Jf];exact E.len
 dat:=λ{j d} e=>by
  rw[Qc] at e;split at e
  ·split at e<;>cases e
  ·exact E.dat e
 own:=λ{j d} e=>by
  rw[Qc] at e;split at e
  ·split at e<;>cases e
  ·exact(jH no e).elim
 apart:=λ{j k d f b} e _ _ _=>by
  rw[Qc] at e;split at e
  ·split at e<;>cases e
  ·exact(jH no e).elim
 odi:=λ{j d} e=>by
  rw[Qc] at e;split at e
  ·rename_i z
   subst z;split at e
   ·cases e;exact⟨a,us,ep,hs,ha,gn,hn,nd,hd⟩
   ·cases e
  ·exact(gJ no e).elim
 apartD:=λ{j k d f b} e1 e2 _ _=>by
  rw[Qc] at e1 e2;split at e1
  ·split at e2
   ·rename_i z1 z2;exact z1.symm.trans z2
   ·exact(gJ no e2).elim
  ·exact(gJ no e1).elim
theorem wg(i:Nat){kk:Nat}{x:Str}{tg iter ke ve:Expr}{rest:List Stmt}{px px2 p1 p2 p3 p4 p5 pos1 pos2 pos3 pos4:Pos}{fi:Ev->Option (List D)}{g:D->Ev->Option Ev}{fk fv:Ev->Option D}{gr:Ev->Option Fl}
  (hN:X.N.Nodup) (hroom:Room kk X.A) (hp:PassesOwn (Qa X.prog X.w) X.A X.env X.xe) (hcalm:X.calm=true) (hi:DI X tg iter fi) (hg:DGK i X tg g) (hk:DE X ke fk) (hv:DE X ve fv) (hrest:DSs X rest gr)
  (hxi:X.N[i]?=some x:=by rfl) (hx:Loc X.env.scope x:=by first | exact Or.inl rfl | exact Jy rfl) (hs:ZB (.Dict [] [] p4) (some (.Name x px)) pos1.line X.env=pure false:=by rfl)
  (hf:X.fn x=true\/X.env.scope.names.lookup x=some .local:=by first | exact .inl rfl | exact .inr rfl)
  (hvx:Vis X.env.scope x:=by first | exact Or.inl rfl | exact Jy (Or.inl rfl) | exact Jy (Jy rfl)) (hdx:(x==("__debug__" : Str))=false:=by decide) (hcx:(x==("__classdict__" : Str))=false:=by decide)
  (hfold:∀y,JV iter X.env y=pure y:=by intro _;rfl)
  (b1:Zz (.Name x px2) "setdefault" X.env (eval (.Name x px2) X.env)=eval (.Name x px2) X.env:=by rfl)
  (f1:((Q7 pos4 (uk [ke,.List [] p3] X.env)).all (λx=>!x.1)&&(backToKw pos4 (J8 [] X.env)).all (λx=>x.1.isSome)
   && decide (([ke,.List [] p3]:List Expr).length+([]:List Keyword).length+(if([]:List Keyword).isEmpty then 0 else 1)<30))=true:=by rfl)
  (l1:(p1.endLine==pos4.line)=true:=by rfl) (s1:uk [ke,.List [] p3] X.env=(false,eval ke X.env)::uk [.List [] p3] X.env:=by rfl) (s2:uk [.List [] p3] X.env=(false,eval (.List [] p3) X.env)::uk [] X.env:=by rfl) (n1:(Q7 pos4 (uk [.List [] p3] X.env)).any (·.1)=false:=by rfl)
  (b2:Zz (.Call (.Attribute (.Name x px2) "setdefault" p1) [ke,.List [] p3] [] pos4) "append" X.env (eval (.Call (.Attribute (.Name x px2) "setdefault" p1) [ke,.List [] p3] [] pos4) X.env)=eval (.Call (.Attribute (.Name x px2) "setdefault" p1) [ke,.List [] p3] [] pos4) X.env:=by rfl)
  (f2:((Q7 pos2 (uk [ve] X.env)).all (λx=>!x.1)&&(backToKw pos2 (J8 [] X.env)).all (λx=>x.1.isSome)
   && decide (([ve]:List Expr).length+([]:List Keyword).length+(if([]:List Keyword).isEmpty then 0 else 1)<30))=true:=by rfl)
  (l2:(p2.endLine==pos2.line)=true:=by rfl) (s3:uk [ve] X.env=(false,eval ve X.env)::uk [] X.env:=by rfl) (n2:(Q7 pos2 (uk [] X.env)).any (·.1)=false:=by rfl)
  (hsw:ZB (.Call (.Attribute (.Call (.Attribute (.Name x px2) "setdefault" p1) [ke,.List [] p3] [] pos4) "append" p2) [ve] [] pos2) none p5.line X.env=pure false:=by rfl) :
  DSs X (.Assign [.Name x px] (.Dict [] [] p4) pos1 :: .For tg iter [.Expr (.Call (.Attribute (.Call (.Attribute (.Name x px2) "setdefault" p1) [ke,.List [] p3] [] pos4) "append" p2) [ve] [] pos2) p5] [] pos3::rest) (ux i fi g fk fv gr):=by
 obtain⟨wi,i1,i2⟩:=hi;obtain⟨tg',g1,g2⟩:=hg;obtain⟨tk,k1,k2⟩:=hk;obtain⟨tv,v1,v2⟩:=hv;obtain⟨tr,r1,r2⟩:=hrest;have body:=oE (x4 PySem.F.plainAttrs_list PySem.F.slot_list_append PySem.F.type_list_append hV (Ah PySem.F.slot_dict_setdefault PySem.F.type_dict_setdefault (vz (by have:=hroom.un;lia)) (gd (i:=i) (pos:=px2) hxi hvx hdx hcx) (bD k1 (bD (sD (pos:=p3) b6) b6 s2) s1) b1 f1 l1 s1 n1) (bD v1 b6 s3) b2 f2 l2 s3 n2) hsw;refine⟨_,j0 (kZ hN hxi hx xT hs hf) (j0 (su hp hcalm i1 g1 (pZ body) hfold) r1),λHe Ge G H σ ε r W S ef P=>?_⟩;unfold ux at ef;split at ef
 case isFalse=>cases ef
 case isTrue hyp=>
 obtain⟨no,il⟩:=hyp;obtain⟨ds,e1,ef⟩:=af ef;split at ef
 case isFalse=>cases ef
 case isTrue hz=>
 obtain⟨⟨εe,ms⟩,e2,ef⟩:=af ef;intro p hp0;have g0:Grow G H G (upd H p (.ext (DAt p [] 0))):=.lay _ S.g.gh hp0;have S0:Sta X.K He Ge G (upd H p (.ext (DAt p [] 0))) (σ.set i (some (.ref p))) (ε.set i .un):=⟨S.g.trans g0,(S.e.drop i (.ref p)).grow g0⟩;have no0:=q8 no i;have hpn:He p=none:=S.g.hh.free hp0;have ei:(σ.set i (some (.ref p)))[i]?=some (some (V.ref p)):=by rw[Qc,if_pos rfl,if_pos (by rw[S.e.len];exact il)]
 refine i2 He G _ _ (ε.set i .un) ds _ S0.g.gh S0.e e1 λJ G1 H1 gr1 it=>?_;have S1:=S0.grow gr1;have hp1:H1 p=some (.ext (DAt p [] 0)):=gr1.hh _ _ aE;have gp1:G1 p=none:=gr1.fo _ _ aE (S.g.gh.free hp0);let Jn:Nat->L2.St->Hp->Prop:=λj σ H=>∃G ε us ep ms',Sta X.K He G1 G H σ ε/\cM ε=true/\σ[i]?=some (some (.ref p))/\H p=some (.ext (DAt p us ep))/\G p=none/\OM X.K He G H us ms'/\(us.map (·.1)).Nodup/\us.length<=j/\(∀e∈ms',e.2.length<=j)/\sdD g fk fv (ds.drop j) ε ms'=some (εe,ms);refine⟨λj m σ H=>m=ds.length-j/\j<=ds.length/\Jn j σ H,⟨ds.length,by simp,QA _,G1,_,[],0,[],⟨S1.g.self,S1.e⟩,no0,ei,hp1,gp1,.nil,Zt,QA _,(λ_ h=>by cases h),by simpa using e2⟩,?_⟩;rintro j m σ2 H2 ⟨rfl,hj,G2,ε2,us,ep,ms',S2,no2,hs2,hp2,gp2,om,nd,ul,ml,e3⟩;obtain⟨go,stop,yld⟩:=it j H2 (S2.g.gg.trans S2.g.gh)
 by_cases hlt:j<ds.length
 ·refine .inr ⟨go hlt,λσ' H'=>Jn (j+1) σ' H',λσ' H' q=>⟨ds.length-(j+1),by lia,rfl,hlt,q⟩,λy H3 yy=>?_⟩
  have ed:ds[j]?=some ds[j]:=by simp[hlt]
  obtain⟨G3,gr3,dx⟩:=yld y H3 yy _ ed G2 S2.g.gg S2.g.gh;have S3:=S2.grow gr3;rw[Q6 hlt] at e3;obtain⟨ε3,e4,e3⟩:=af e3;obtain⟨kd,e5,e3⟩:=af e3;obtain⟨vd,e6,e3⟩:=af e3;obtain⟨n,e7,e3⟩:=af e3;refine g2 He G3 H3 σ2 ε2 ε3 y ds[j] _ S3.g.gh S3.e dx e4 no2 λσ4 E4 no4 k4=>?_;have hs4:σ4[i]?=some (some (.ref p)):=k4.trans hs2;have hp3:=gr3.hh _ _ hp2;have gp3:=gr3.fo _ _ hp2 gp2;refine⟨_,hs4,⟨p,us,ep,rfl,hp3⟩,?_⟩;refine k2 He G3 H3 σ4 ε3 kd _ S3.g.gh E4 e5 λyk G5 H5 gr5 dk=>?_;refine⟨QA _,λc hc=>?_⟩;obtain⟨bb,rfl,hb⟩:=dU gr5.gh (.inl dk) e7;have gr6:Grow G5 H5 G5 (upd H5 c (.lst [])):=.lay _ gr5.gh hc;have hp5:=gr5.hh _ _ hp3;have gp5:=gr5.fo _ _ hp3 gp3;have pc:p≠c:=λz=>by subst z;rw[hp5] at hc;cases hc
  have hp6:=gr6.hh _ _ hp5;have om6:=((om.grow gr3).grow gr5).grow gr6;have S5:Sta X.K He G1 G5 H5 σ4 ε3:=⟨S3.g.trans gr5,E4.grow gr5⟩;have S6:=S5.grow gr6
  have fin:∀(us7:aT) (ep7:Nat) (ms7:Ms) (H7:Hp) (b7:Addr) (v7:V),Sta X.K He G1 G5 H7 σ4 ε3->H7 p=some (.ext (DAt p us7 ep7))->OM X.K He G5 H7 us7 ms7->(us7.map (·.1)).Nodup->us7.length<=j+1->(∀e∈ms7,e.2.length<=j)->(n,b7,v7)∈us7->fR ms7 n vd=fR ms' n vd->
    tyV X.K "list" v7 H7/\tv σ4 H7 λx H8=>qt v7 [x] H8 λ_ H9=>Jn (j+1) σ4 H9:=λus7 ep7 ms7 H7 b7 v7 S7 hp7 om7 nd7 ul7 ml7 mem7 eq7=>by
   obtain⟨c7,xs7,w1,w2,w3,w4⟩:=om7.there _ mem7;have w1':v7=.ref c7:=w1;subst w1';refine⟨.inl ⟨rfl,xs7,SqL.of w2⟩,?_⟩;refine v2 He G5 H7 σ4 ε3 vd _ S7.g.gh S7.e e6 λx G8 H8 gr8 dv=>?_;have om8:=om7.grow gr8;obtain⟨c,xs,es,z1,z2,z3,z4,z5,z6,z7⟩:=OM.at dv om8 nd7 mem7;cases z1
   have hl:xs.length<Qt:=by
    rw[z3];exact Zd (ml7 _ z4) (Jc (Jc hlt hz) (by decide))
   have hp8:=gr8.hh _ _ hp7;have gp8:=gr8.fo _ _ hp7 gp5;have S8:=S7.grow gr8;have pc8:p≠c7:=λq=>by subst q;rw[hp8] at z2;cases z2
   refine⟨c7,xs,x,rfl,rfl,z2,hl,G8,ε3,us7,ep7,fR ms' n vd,⟨⟨λb o e=>?_,S8.g.gg,λb o e=>?_,S8.g.fo⟩,S8.e.over no4 (aF.refl _)⟩,no4,hs4,by rw[aD pc8];exact hp8,gp8,by rw[<-eq7];exact z7,nd7,ul7,λe he=>?_,e3⟩
   ·rw[aD (ax e z6)];exact S8.g.hh b o e
   ·rw[aD (ax e z5)];exact S8.g.gh b o e
   ·rw[<-eq7] at he
    exact nt ml7 e he
  refine⟨p,us,ep,bb,n,.ref c,G5,rfl,rfl,hp6,gr6.gh,hb,nd,om6.sq,by lia,λb' v hm=>fin us ep ms' _ b' v S6 hp6 om6 nd (by lia) ml hm rfl,λhn ep'=>?_⟩
  have cn:∀u∈us,u.2.2≠.ref c:=λu hu z=>by
   obtain⟨c',xs',w1,w2,_⟩:=((om.grow gr3).grow gr5).there u hu;rw[w1] at z;cases z;rw[hc] at w2;cases w2
  have keep:∀{b:Addr} {o:HO},b≠p->upd H5 c (.lst []) b=some o->upd (upd H5 c (.lst [])) p (.ext (DAt p (us++[(n,bb,.ref c)]) ep')) b=some o:=λ{b o} nb e=>by rw[aD nb];exact e
  refine fin _ ep' (ms'++[(n,[])]) _ bb (.ref c) ⟨⟨λb o e=>keep (ax e hpn) (S6.g.hh b o e),S6.g.gg,λb o e=>keep (ax e gp5) (S6.g.gh b o e),S6.g.fo⟩,S6.e.over no4 (aF.refl _)⟩ aE ?_ ?_ (by rw[Qr];simpa using ul) (λe he=>?_) (Ql _ (xz.mpr rfl)) (m8 (by rw[<-om.keys];exact hn))
  ·refine OM.off (OM.snoc hb aE (gr5.gh.free hc) (S5.g.hh.free hc) om6 cn) λu hu z=>?_
   rcases Qn.mp hu with q | q
   ·obtain⟨c',xs',w1,w2,_⟩:=om6.there u q
    rw[w1] at z;cases z;rw[hp6] at w2;cases w2
   ·rw[xz.mp q] at z
    cases z;exact pc rfl
  ·rw[Jg,ZK]
   exact⟨nd,by simp,λx hx y hy=>by rw[xz.mp hy];exact λ(e:x=n)=>hn (e▸hx)⟩
  ·rcases Qn.mp he with q | q
   ·exact ml e q
   ·rw[xz.mp q];exact QA _
 ·have e5:j=ds.length:=by lia
  subst e5;rw[JN] at e3;cases e3;refine .inl ⟨stop (wp _),?_⟩;obtain⟨G',q1,q2,q3,q4⟩:=om.seal (S1.g.base S2.g);exact r2 He Ge G' H2 σ2 _ r W ⟨q1,(S2.e.over no2 q2).odiOf no2 hs2 (q4 p _ hp2 (λ_ z=>by cases z) gp2) hpn hp2 nd q3⟩ ef P
end
open PySem.W
section
variable{X:Cx}{a b c:Expr}{fa fb fc:Ev->Option D}{pos:Pos}
theorem oj(hc:X.calm=true):dA X (.type "list") (λxs H Q=>∃p us ep,xs=[.ref p]/\H p=some (.ext (DAt p us ep))/\us.length<1000000/\∀q,H q=none->Q (.ref q) (upd H q (.lst (us.map λu=>V.ref u.2.1)))):=by
 intro pins s σ H xs us' Q I rv h;obtain⟨p,us,ep,rfl,hp,hn,q⟩:=h;obtain⟨u,rfl,ru⟩:=rv.one;cases ru;obtain⟨⟨nm,_,o,es,ho,hx,hd,pr⟩,_,_⟩:=(show bz X.prog X.w H s.heap p (.ext (DAt p us ep)) from I.hok p _ hp)
 have ky:∀{us:aT} {es:List Jp},Jk EntOk us es->es.map (·.key)=us.map λu=>QH u.2.1:=by
  intro us es pr
  induction pr with
  |nil=>rfl
  |cons h t ih=>rw[Qe,Qe,ih,h.key]
 have ky:=ky pr;have sz:es.size=us.length:=by have:=congrArg List.length ky;simpa using this
 have lt:es.size<=Qt:=by rw[sz];exact QZ (Jc hn (by decide))
 refine kdl_call (RW2.mX p nm es ep) (I.ok.hd hc) ⟨o,ho,hx,hd⟩ lt λg tk acc c kp hl items=>?_;have nn:H s.heap.objs.size=none:=I.hok.fresh (wp _)
 have ea:acc.toList=us.map λu=>QH u.2.1:=by
  refine Jq λi=>?_;rw[<-ky]
  by_cases hi:i<es.size
  ·have hi2:i<acc.size:=by rw[items.1];exact hi
   obtain⟨e,e1,e2⟩:=items.2 i acc[i] (by simp[hi2]);rw[Qm,QK,QK,e1];simp[hi2,e2]
  ·have hi2:acc.size<=i:=by rw[items.1];exact JM hi
   rw[Qm,QK,QK,JK hi2,JK (JM hi)];rfl
 have vals:∀l:aT,aK (l.map λu=>V.ref u.2.1) (l.map λu=>QH u.2.1):=by
  intro l
  induction l with
  |nil=>exact .nil
  |cons b r ih=>exact .cons rfl ih
 exact⟨.ref s.heap.objs.size,upd H s.heap.objs.size (.lst (us.map λu=>V.ref u.2.1)),I.laid (a:=s.heap.objs.size) (t':=tk) kp (wp _) ⟨by rw[Qg];exact QZ (Jc hn (by decide)),acc.toList,c,by rw[ea];exact vals us,by rw[hl]⟩,rfl,q _ nn⟩
def zx(k:List Int):D:=.tup (k.map D.int)
theorem qb{K:v0}{G:Hp}:∀{us:aT} {es:Es},DenM K G us es->DenL K G (us.map λu=>V.ref u.2.1) (es.map λe=>zx e.1)
 |_,_,.nil=>.nil
 |_,_,.cons (k:=k) hk _ hs=>.cons (.tup hk (lq _ _ k)) (qb hs)
def jm(fa:Ev->Option D):Ev->Option (List D):=λε=>match fa ε with
 |some (.dic es)=>if es.length<1000000 then some (es.map λe=>zx e.1) else none
 |_=>none
theorem tS{p:Pos}(hc:X.calm=true)(ha:DE X a fa)(hm1:X.mg "list" = none)(hg1:Gl X "list":=by rfl)
  (hst:uk [a] X.env=(false,eval a X.env)::uk [] X.env:=by rfl) (hpl:(Q7 pos (uk [] X.env)).any (·.1)=false:=by rfl):DF X (.Call (.Name "list" p) [a] [] pos) (jm fa):=by
 obtain⟨ta,a1,a2⟩:=ha;refine⟨_,rH (oj hc) hg1 hm1 boot_list (bD a1 b6 hst) (by decide) (by decide) hst hpl,λHe G H σ ε d Q gh E ef q=>?_⟩;unfold jm at ef;split at ef
 ·rename_i es e1
  split at ef
  ·rename_i hl
   cases ef;refine a2 He G H σ ε _ _ gh E e1 λv G1 H1 g1 d1=>?_;cases d1 with
   |dic h nd hs=>exact⟨_,_,_,rfl,g1.gh _ _ h,by rw[hs.len];exact hl,λp hp=>q p _ G1 _ (g1.trans (.lay _ g1.gh hp)) (g1.hh.free hp) (g1.gh.free hp) aE (qb hs)⟩
  ·cases ef
 ·cases ef
def BM(K:v0):R2:=λx y H Q=>∃a us ep b k G es,x=.ref a/\y=.ref b/\H a=some (.ext (DAt a us ep))/\aF G H/\SqT K G b (k.map V.int)/\(us.map (·.1)).Nodup/\DenM K G us es/\k∈us.map (·.1)/\(∀b' v,(k,b',v)∈us->Q v H)
theorem xo(hu:X.A.units+2<JG):IxR X (BM X.K):=by
 intro value slice pins s σ H x y v u Q I rx ry h hs;obtain⟨a,us,ep,b,k,G,es,rfl,rfl,ha,gh,hb,nd,m,hk,q⟩:=h;cases rx;cases ry;have x0:DAt a us ep s.heap:=(show bz X.prog X.w H s.heap a (.ext (DAt a us ep)) from I.hok a _ ha).1;obtain⟨xs,p,dh⟩:=mL I gh x0 nd m;obtain⟨w,ew⟩:=iD (by rw[<-cf p];exact hk);obtain⟨b',v',h1,h2⟩:=yo p ew
 exact subscriptTail_builtinR (x:=w.2) dh.typeIs PySem.slot_dict_getitem.lookup
  (wpAny_getItem_heap (knd:=Ti X.prog X.w) (Q:=λr s'=>r=w.2/\EP X pins σ Q r s') (show X.A.in1.units<JG from by show X.A.units+1<JG;lia) (fm I gh hb) dh ew ⟨rfl,v',H,I.kept (t':=_) λ_ _ e=>e,h2,q b' v' h1⟩) hs
def uu:D->D->Option D:=λx y=>match x with | .dic es=>(l0 y).bind λk=>lkD es k | _=>none
theorem o7:∀{es:Es} {k:List Int} {d:D},lkD es k=some d->k∈es.map (·.1)
 |[],_,_,e=>by cases e
 |e::r,k,d,h=>by
  unfold lkD at h;split at h
  ·rename_i z;rw[<-z];exact Qh ..
  ·exact Qj _ (o7 h)
theorem bA.dicV{K:v0}{G H:Hp}{v:V}{es:Es}(h:bA K G H v (.dic es)):∃a us ep,v=.ref a/\G a=some (.ext (DAt a us ep))/\(us.map (·.1)).Nodup/\DenM K G us es:=by
 rcases h with h | ⟨_,_,_,_,h,_⟩
 ·cases h with
  |dic h nd hs=>exact⟨_,_,_,rfl,h,nd,hs⟩
 ·cases h
theorem yu{kk:Nat}(hr:Room kk X.A)(ha:DB X a fa)(hb:DB X b fb)(hs:ja b:=by intro _ _;rfl):DE X (.Subscript a b pos) (e2 uu fa fb):=
 tX (xo (by have:=hr.un;lia)) (λG H x y dx dy d Q gh hx hy e q=>by
  unfold uu at e;split at e
  ·obtain⟨k,e1,e2⟩:=af e
   obtain⟨a,us,ep,rfl,h1,nd,m⟩:=hx.dicV;obtain⟨bb,rfl,hb⟩:=dU gh hy e1;refine⟨a,us,ep,bb,k,G,_,rfl,rfl,gh _ _ h1,gh,hb,nd,m,by rw[m.keys];exact o7 e2,λb' v hm=>?_⟩;obtain⟨d',f1,f2⟩:=m.look nd hm;rw[e2] at f1;cases f1;exact q v G H (.refl gh) f2
  ·cases e) ha hb hs
def Az(K:v0)(neg:Bool):R2:=λx y H Q=>∃a us ep b k G es,y=.ref a/\x=.ref b/\H a=some (.ext (DAt a us ep))/\aF G H/\SqT K G b (k.map V.int)/\(us.map (·.1)).Nodup/\DenM K G us es/\Q (.bl (if neg then !decide (k∈us.map (·.1)) else decide (k∈us.map (·.1)))) H
theorem zZ{xs:XsL}{k:List Int}:(JY xs k).isSome=decide (k∈xs.map (·.1)):=by
 cases e:JY xs k with
 |none=>rw[decide_eq_false (lZ e)];rfl
 |some p=>
  refine(decide_eq_true ?_).symm;refine Classical.byContradiction λz=>?_
  have:∀{xs:XsL},k∉xs.map (·.1)->JY xs k=none:=by
   intro xs
   induction xs with
   |nil=>intro _;rfl
   |cons x r ih=>
    intro h;rw[Qe,ut,not_or] at h;rw[lR,if_neg λq=>h.1 q.symm,ih h.2]
  rw[this z] at e;cases e
theorem rV(hu:X.A.units+2<JG):OpR X (QD .NotIn) (Az X.K true):=by
 intro pins s σ H x y v u Q I rx ry h;obtain⟨a,us,ep,b,k,G,es,rfl,rfl,ha,gh,hb,nd,m,q⟩:=h;cases rx;cases ry;have x0:DAt a us ep s.heap:=(show bz X.prog X.w H s.heap a (.ext (DAt a us ep)) from I.hok a _ ha).1;obtain⟨xs,p,dh⟩:=mL I gh x0 nd m;refine wpAny_notIn_heap (knd:=Ti X.prog X.w) (show X.A.in1.units<JG from by show X.A.units+1<JG;lia) (fm I gh hb) x0.1 dh ⟨.bl _,H,I.kept (t':=_) λ_ _ e=>e,rfl,?_⟩;rw[zZ,<-cf p];exact q
def wq(i:Nat)(neg:Bool)(fk:Ev->Option D):Ev->Option Bool:=λε=>(slD ε[i]?).bind λes=>(fk ε).bind λd=>(l0 d).bind λk=>some (if neg then !decide (k∈es.map (·.1)) else decide (k∈es.map (·.1)))
theorem vn(i:Nat){neg:Bool}{op:CmpOp}{x:Str}{p1:Pos}(ho:OpR X (QD op) (Az X.K neg))(ha:DE X a fa)(hN:X.N[i]?=some x)(hv:Vis X.env.scope x)(hd:(x==("__debug__" : Str))=false)
  (hcd:(x==("__classdict__" : Str))=false) (hm:Zi op (.Name x p1)=false):DT X (.Compare a [op] [.Name x p1] pos) (wq i neg fa):=by
 obtain⟨ta,a1,a2⟩:=ha;refine⟨_,oZ ho a1 (gd hN hv hd hcd) hm,λHe G H σ ε k Q gh E ef q=>?_⟩;obtain⟨es,e1,ef⟩:=af ef;obtain⟨dk,e2,ef⟩:=af ef;obtain⟨n,e3,ef⟩:=af ef;cases ef;refine a2 He G H σ ε dk _ gh E e2 λv G1 H1 g1 d1=>?_;obtain⟨l,us,ep,w1,w2,w3,w4⟩:=zP g1.gh (E.grow g1) e1;obtain⟨bb,rfl,hb⟩:=dU g1.gh (.inl d1) e3;exact⟨_,w1,l,us,ep,bb,n,G1,es,rfl,rfl,w2,g1.gh,hb,w3,w4,_,rfl,by rw[w4.keys];exact q _ _ g1⟩
theorem qT(i:Nat){kk:Nat}{x:Str}{p1:Pos}(hr:Room kk X.A)(ha:DE X a fa)(hN:X.N[i]?=some x:=by rfl)(hv:Vis X.env.scope x:=by first | exact Or.inl rfl | exact Jy (Or.inl rfl) | exact Jy (Jy rfl))(hd:(x==("__debug__" : Str))=false:=by decide)
  (hcd:(x==("__classdict__" : Str))=false:=by decide) (hm:Zi .NotIn (.Name x p1)=false:=by with_unfolding_all rfl):DT X (.Compare a [.NotIn] [.Name x p1] pos) (wq i true fa):=
 vn i (rV (by have:=hr.un;lia)) ha hN hv hd hcd hm
def inL(x:D):List D->Option (List Bool)
 |[]=>some []
 |d::r=>(cv 9 d x).bind λb=>(inL x r).bind λc=>some (b::c)
def qK(neg:Bool):D->D->Option D:=λx y=>match x,y with
 |.tup _,.lst ds=>(inL x ds).bind λbs=>some (.bl (if neg then !bs.any id else bs.any id))
 |_,_=>none
theorem pS{x:D}:∀{ds:List D} {bs:List Bool},inL x ds=some bs->bs.length=ds.length/\∀(j:Nat) d,ds[j]?=some d->∃b,bs[j]?=some b/\cv 9 d x=some b
 |[],bs,e=>by cases e;exact⟨rfl,λj d h=>by simp at h⟩
 |d::r,bs,e=>by
  obtain⟨b,e1,e⟩:=af e;obtain⟨c,e2,e⟩:=af e;cases e;obtain⟨h1,h2⟩:=pS e2;refine⟨by rw[Qv,Qv,h1],λj d' h=>?_⟩;cases j with
  |zero=>simp at h;subst h;exact⟨b,rfl,e1⟩
  |succ j=>simpa using h2 j d' (by simpa using h)
theorem w_{G H:Hp}{s:v6}{pins:List (Addr×Obj)}{σ:L2.St}(hu:X.A.units+64<JG)(I:Inv X pins σ H s)(gh:aF G H){x:V}{u:vv}{dx:D}(hx:Den X.K G x dx)(rx:aQ x u){xs:List V}{ds:List D}{its:List vv}{bs:List Bool}(hd:DenL X.K G xs ds)(r:aK xs its)(e:inL dx ds=some bs):∃e:vv->Bool,(∀y∈its,ZS X.A.in1 s y u (e y))/\its.any e=bs.any id:=by
 obtain⟨hl,get⟩:=pS e
 have at_:∀(j:Nat) y,its[j]?=some y->∃z d b,xs[j]?=some z/\aQ z y/\ds[j]?=some d/\Den X.K G z d/\bs[j]?=some b/\cv 9 d dx=some b:=λj y hy=>by
  have lx:=r.length;have hj:j<xs.length:=by rw[lx];exact(Qi.mp hy).1
  have ez:xs[j]?=some xs[j]:=by simp[hj]
  obtain⟨w,ew,rw'⟩:=r.get ez;rw[hy] at ew;cases ew;obtain⟨d,e1,e2⟩:=hd.getV ez;obtain⟨b,e3,e4⟩:=get j d e1;exact⟨_,d,b,ez,rw',e1,e2,e3,e4⟩
 classical
 refine⟨λy=>decide (∃j:Nat,its[j]?=some y/\bs[j]?=some true),λy hy=>?_,?_⟩
 ·obtain⟨j,ej⟩:=JT hy
  obtain⟨z,d,b,_,h2,_,h4,h5,h6⟩:=at_ j y ej
  have:decide (∃j:Nat,its[j]?=some y/\bs[j]?=some true)=b:=by
   cases b with
   |true=>exact decide_eq_true ⟨j,ej,h5⟩
   |false=>
    refine decide_eq_false ?_;rintro⟨j',q1,q2⟩;obtain⟨z',d',b',_,w2,_,w4,w5,w6⟩:=at_ j' y q1;have:=m7 w2 h2;subst this;have:=Den.uniq I gh w4 h4;subst this;rw[h6] at w6;cases w6;rw[q2] at w5;cases w5
  show ZS X.A.in1 s y u (decide (∃j:Nat,its[j]?=some y/\bs[j]?=some true));rw[this];exact jq I gh 9 X.A.in1 (by show X.A.units+1+9<JG;lia) h4 hx h2 rx h6
 ·rw[Ze,List.any_eq_true,List.any_eq_true]
  constructor
  ·rintro⟨y,_,q⟩
   obtain⟨j,_,q2⟩:=of_decide_eq_true q;exact⟨true,Jj q2,rfl⟩
  ·rintro⟨b,hb,q⟩
   have q:b=true:=q;subst q;obtain⟨j,ej⟩:=JT hb
   have hj:j<its.length:=by
    have:=(Qi.mp ej).1;rw[<-r.length,hd.length,<-hl];exact this
   exact⟨its[j],ZT hj,decide_eq_true ⟨j,by simp[hj],ej⟩⟩
def AX(K:v0)(neg:Bool):R2:=λx y H Q=>∃p xs ds dx bs G,y=.ref p/\aF G H/\SqL K H p xs/\DenL K G xs ds/\Den K G x dx/\inL dx ds=some bs/\Q (.bl (if neg then !bs.any id else bs.any id)) H
theorem z9(hu:X.A.units+64<JG):OpR X (QD .In) (AX X.K false):=by
 intro pins s σ H x y v u Q I rx ry h;obtain⟨p,xs,ds,dx,bs,G,rfl,gh,hq,hd,hx,e,q⟩:=h;cases ry;obtain⟨its,r,pl,hz⟩:=I.list hq;obtain⟨f,f1,f2⟩:=w_ hu I gh hx rx hd r e;refine SeqAt.in_listAt f pl.isList (λw hw=>f1 w (by simpa using hw)) ⟨.bl _,H,I,rfl,?_⟩;rw[show its.toArray.any f=its.any f by simp,f2];exact q
theorem uN{neg:Bool}(G H:Hp)(x y:V)(dx dy d:D)(Q:VK)(gh:aF G H)(hx:bA X.K G H x dx)(hy:bA X.K G H y dy)(e:qK neg dx dy=some d)(q:∀v G' H',Grow G H G' H'->Den X.K G' v d->Q v H'):AX X.K neg x y H Q:=by
 unfold qK at e;split at e
 ·obtain⟨bs,e1,e⟩:=af e
  cases e;obtain⟨p,xs,rfl,h1,h2⟩:=hy.lst gh;rcases hx with h | ⟨_,_,_,_,h,_⟩
  ·exact⟨p,xs,_,_,bs,G,rfl,gh,h1,h2,h,e1,q _ G H (.refl gh) (.bl _)⟩
  ·cases h
 ·cases e
theorem yQ{k:Nat}(hr:Room k X.A):OpD X (QD .In) (qK false):=⟨_,z9 hr.units,uN⟩
end
abbrev Pr:=Int×Int
def ov(p q:Pr):Bool:=decide (p.1>=q.1)&&(decide (p.2>=q.2) && !decide (p=q))
theorem fw(p q:Pr):ov p q=true↔p.1>=q.1/\p.2>=q.2/\p≠q:=by simp[ov]
section
variable(u v:Pr->Int)
def Ov(q p:Pr):Prop:=u q>=u p/\v q>=v p/\q≠p
def bJ(told:List Pr)(x:Pr):List Pr:=match told.getLast? with
 |none=>[x]
 |some l=>if v x>v l then told++[x] else told
def y1(d x:Pr):Prop:=u x<u d\/(u x=u d/\v x<=v d)
structure Walked(told dn:List Pr):Prop where
 nil:told=[]->dn=[]
 sub:told.Sublist dn
 up:told.Pairwise λa b=>v a<v b
 top:∀l,told.getLast?=some l->∀q∈dn,v q<=v l
 mem:∀p,p∈told↔p∈dn/\∀q∈dn,¬ Ov u v q p
variable{u v}
theorem d8(r:List Pr)(l x:Pr):bJ v (r++[l]) x=if v x>v l then(r++[l])++[x] else r++[l]:=by
 unfold bJ;rw[List.getLast?_append];simp
theorem Walked.step(inj:∀p q,u p=u q->v p=v q->p=q){told dn:List Pr}(h:Walked u v told dn)(x:Pr)(fall:∀d∈dn,y1 u v d x):Walked u v (bJ v told x) (dn++[x]):=by
 have notOver:∀p∈told,¬ Ov u v x p:=λp hp ⟨h1,h2,h3⟩=>by
  have hd:=h.sub.subset hp;rcases fall p hd with z | ⟨z1,z2⟩
  ·lia
  ·exact h3 (inj x p (by lia) (by lia))
 rcases jc told with rfl | ⟨r,l,rfl⟩
 ·have:=h.nil rfl
  subst this;refine⟨λz=>by simp[bJ] at z,by simp[bJ],by simp[bJ],λl hl q hq=>?_,λp=>?_⟩
  ·simp[bJ] at hl hq;subst hl;subst hq;exact ZY _
  ·simp only[bJ,List.getLast?_nil,List.nil_append,xz]
   refine⟨λe=>⟨e,λq hq ho=>?_⟩,λe=>e.1⟩;exact ho.2.2 (hq.trans e.symm)
 ·have hl:(r++[l]).getLast?=some l:=by simp
  have hld:l∈dn:=h.sub.subset (by simp);rw[d8]
  by_cases g:v x>v l
  ·rw[if_pos g]
   refine⟨λz=>by simp at z,h.sub.append (List.Sublist.refl _),?_,λl' hl' q hq=>?_,λp=>?_⟩
   ·rw[Qp]
    refine⟨h.up,by simp,λa ha b hb=>?_⟩;rw[xz.mp hb];have:=h.top l hl a (h.sub.subset ha)
    lia
   ·have:l'=x:=by simp at hl';exact hl'.symm
    subst this;rcases Qn.mp hq with mq | mq
    ·have:=h.top l hl q mq;lia
    ·rw[xz.mp mq];exact ZY _
   ·rw[Qn,xz,h.mem p,Qn,xz]
    constructor
    ·rintro(⟨h1,h2⟩ | rfl)
     ·refine⟨.inl h1,λq hq=>?_⟩
      rcases Qn.mp hq with mq | mq
      ·exact h2 q mq
      ·rw[xz.mp mq];exact notOver p ((h.mem p).mpr ⟨h1,h2⟩)
     ·refine⟨.inr rfl,λq hq ho=>?_⟩
      rcases Qn.mp hq with mq | mq
      ·have:=h.top l hl q mq
       have:=ho.2.1
       lia
      ·exact ho.2.2 (xz.mp mq)
    ·rintro⟨h1 | rfl,h2⟩
     ·exact .inl ⟨h1,λq hq=>h2 q (ZP _ hq)⟩
     ·exact .inr rfl
  ·rw[if_neg g]
   have lx:l=x\/Ov u v l x:=by
    by_cases e:l=x
    ·exact .inl e
    ·refine .inr ⟨?_,by lia,e⟩
     rcases fall l hld with z | ⟨z,_⟩<;>lia
   refine⟨λz=>by simp at z,h.sub.trans (List.sublist_append_left _ _),h.up,λl' hl' q hq=>?_,λp=>?_⟩
   ·rcases Qn.mp hq with mq | mq
    ·exact h.top l' hl' q mq
    ·rw[xz.mp mq]
     have:l'=l:=by rw[hl] at hl';exact(Option.some.inj hl').symm
     subst this;lia
   ·rw[h.mem p,Qn,xz]
    constructor
    ·rintro⟨h1,h2⟩
     refine⟨.inl h1,λq hq=>?_⟩;rcases Qn.mp hq with mq | mq
     ·exact h2 q mq
     ·rw[xz.mp mq];exact notOver p ((h.mem p).mpr ⟨h1,h2⟩)
    ·rintro⟨h1,h2⟩
     have h2':∀q∈dn,¬ Ov u v q p:=λq hq=>h2 q (ZP _ hq);rcases h1 with h1 | rfl
     ·exact⟨h1,h2'⟩
     ·rcases lx with e | e
      ·rw[<-e]
       exact(h.mem l).mp (by simp)
      ·exact absurd e (h2' l hld)
theorem u_(inj:∀p q,u p=u q->v p=v q->p=q):∀(rest dn told:List Pr),Walked u v told dn->(dn++rest).Pairwise (y1 u v)->Walked u v (rest.foldl (bJ v) told) (dn++rest)
 |[],dn,told,h,_=>by rw[QW];exact h
 |x::rest,dn,told,h,hp=>by
  have e:dn++x::rest=(dn++[x])++rest:=by simp
  rw[e] at hp ⊢;refine u_ inj rest (dn++[x]) _ (h.step inj x λd hd=>?_) hp;exact(Qp.mp (Qp.mp hp).1).2.2 d hd x (by simp)
theorem nE(inj:∀p q,u p=u q->v p=v q->p=q)(R:List Pr)(h:R.Pairwise (y1 u v)):Walked u v (R.foldl (bJ v) []) R:=by
 have:=u_ inj R [] [] ⟨λ_=>rfl,List.Sublist.refl _,.nil,λl hl=>by simp at hl,λp=>by simp⟩ (by simpa using h);simpa using this
end
def pI(p:Pr):List Int:=[p.1,p.2]
def toP(t:List Int):Pr:=(t.getD 0 0,t.getD 1 0)
abbrev tL(ps:List Pr):List (List Int):=ps.map pI
theorem nP(p:Pr):toP (pI p)=p:=rfl
theorem sJ{p q:Pr}(h:pI p=pI q):p=q:=by rw[<-nP p,h,nP]
theorem vR{ts:List (List Int)}{ps:List Pr}(h:∀t∈ts,t∈tL ps):tL (ts.map toP)=ts:=by
 show(ts.map toP).map pI=ts;rw[Jm];refine(List.map_congr_left λt ht=>?_).trans (List.map_id _);obtain⟨p,_,rfl⟩:=Qo.mp (h t ht);rfl
theorem Ag(ps:List Pr):∀t∈tL ps,t≠[]:=λt ht=>by
 obtain⟨p,_,rfl⟩:=Qo.mp ht;intro z;cases z
def fC(ps:List Pr):List Pr:=(h7 (tL ps)).map toP
theorem i6(ps:List Pr):tL (fC ps)=h7 (tL ps):=vR λt ht=>(bO _).mem_iff.mp ht
theorem dX(ps:List Pr)(p:Pr):p∈fC ps↔p∈ps:=by
 have:pI p∈tL (fC ps)↔pI p∈tL ps:=by rw[i6];exact(bO _).mem_iff
 constructor
 ·intro h
  obtain⟨q,hq,e⟩:=Qo.mp (this.mp (List.mem_map_of_mem h));rw[<-sJ e];exact hq
 ·intro h
  obtain⟨q,hq,e⟩:=Qo.mp (this.mpr (List.mem_map_of_mem h));rw[<-sJ e];exact hq
theorem mG(ps:List Pr):(fC ps).length=ps.length:=by
 have:=congrArg List.length (i6 ps);rw[Qg,(bO _).length_eq,Qg] at this;exact this
def UpP(l:List Pr):Prop:=l.Pairwise λx y=>x.1<y.1\/(x.1=y.1/\x.2<=y.2)
theorem xO(x y:Pr):lxL (pI y) (pI x)=false↔x.1<y.1\/(x.1=y.1/\x.2<=y.2):=by
 unfold pI;rw[kY]
 by_cases e:y.1=x.1
 ·rw[if_pos e,kY]
  by_cases e2:y.2=x.2
  ·rw[if_pos e2]
   exact⟨λ_=>.inr ⟨e.symm,by lia⟩,λ_=>rfl⟩
  ·rw[if_neg e2,decide_eq_false_iff_not]
   lia
 ·rw[if_neg e,decide_eq_false_iff_not]
  lia
theorem lg(l:List Pr):UpT (tL l)↔UpP l:=by
 unfold UpT UpP;rw[List.pairwise_map];constructor
 ·exact λh=>h.imp λ{x y} z=>(xO x y).mp z
 ·exact λh=>h.imp λ{x y} z=>(xO x y).mpr z
theorem lS(ps:List Pr):UpP (fC ps):=(lg _).mp (by rw[i6];exact lh _)
theorem tQ{l m:List Pr}(h1:UpP l)(h2:UpP m)(n1:l.Nodup)(n2:m.Nodup)(e:∀p,p∈l↔p∈m):l=m:=by
 have pm:l.Perm m:=(List.perm_ext_iff_of_nodup n1 n2).mpr e;have:=jX ((lg l).mpr h1) ((lg m).mpr h2) (pm.map pI);have h:=congrArg (List.map toP) this;simpa[Jm,Function.comp_def,nP] using h
def frP(ps:List Pr):List Pr:=((fC ps).reverse.foldl (bJ λp=>p.2) []).reverse
def lsP(ps:List Pr):List Pr:=(fC ps).foldl (bJ λp=>-p.2) []
theorem vV(ps:List Pr):Walked (λp=>p.1) (λp=>p.2) ((fC ps).reverse.foldl (bJ λp=>p.2) []) (fC ps).reverse:=
 nE (λp q h1 h2=>Prod.ext h1 h2) _ (ZO.mpr ((lS ps).imp λ{x y} h=>by
  rcases h with h | ⟨h1,h2⟩
  ·exact .inl h
  ·exact .inr ⟨h1,h2⟩))
theorem lH(ps:List Pr):Walked (λp=>-p.1) (λp=>-p.2) (lsP ps) (fC ps):=
 nE (λp q h1 h2=>Prod.ext (by lia) (by lia)) _ ((lS ps).imp λ{x y} h=>by
  rcases h with h | ⟨h1,h2⟩
  ·exact .inl (by show -y.1 < -x.1;lia)
  ·exact .inr ⟨by show -y.1=-x.1;lia,by show -y.2<=-x.2;lia⟩)
theorem vS(ps:List Pr)(p:Pr):p∈frP ps↔p∈ps/\∀q∈ps,ov q p=false:=by
 unfold frP;rw[J5,(vV ps).mem p,J5,dX];refine and_congr_right λ_=>⟨λh q hq=>?_,λh q hq ho=>?_⟩
 ·cases e:ov q p with
  |false=>rfl
  |true=>exact absurd ((fw q p).mp e) (h q (by rw[J5,dX];exact hq))
 ·rw[J5,dX] at hq
  have:=(fw q p).mpr ho;rw[h q hq] at this;cases this
theorem qi(ps:List Pr)(p:Pr):p∈lsP ps↔p∈ps/\∀q∈ps,ov p q=false:=by
 rw[(lH ps).mem p,dX];refine and_congr_right λ_=>⟨λh q hq=>?_,λh q hq ho=>?_⟩
 ·cases e:ov p q with
  |false=>rfl
  |true=>
   obtain⟨h1,h2,h3⟩:=(fw p q).mp e;exact absurd (show Ov _ _ q p from⟨by show -q.1>=-p.1;lia,by show -q.2>=-p.2;lia,λz=>h3 z.symm⟩) (h q (by rw[dX];exact hq))
 ·rw[dX] at hq
  obtain⟨h1,h2,h3⟩:=ho;have:=(fw p q).mpr ⟨by have:-q.1>=-p.1:=h1;lia,by have:-q.2>=-p.2:=h2;lia,λz=>h3 z.symm⟩;rw[h q hq] at this;cases this
theorem ui(ps:List Pr):UpP (lsP ps):=(lS ps).sublist (lH ps).sub
theorem kE(ps:List Pr):(lsP ps).Nodup:=(lH ps).up.imp λ{a b} z e=>by rw[e] at z;exact Int.lt_irrefl _ z
def pD(p:Pr):D:=.tup [.int p.1,.int p.2]
abbrev pL(ps:List Pr):List D:=ps.map pD
theorem xY(ps:List Pr):(tL ps).map eR=pL ps:=by
 show(ps.map pI).map eR=ps.map pD;rw[Jm];rfl
theorem gN(r:List Pr)(q:Pr):pL (r++[q])=pL r++[pD q]:=by simp
def xk:Ev->Option Fl:=(sIf (cH (eO (dN (ag 1))) (az gtI (e2 ixD (ag 2) (eC (.int 1))) (e2 ixD (e2 ixD (ag 1) (dg (eC (.int 1)))) (eC (.int 1))))) (c_ 1 (ao 2)) a_)
def vy:Ev->Option Fl:=(sIf (cH (eO (dN (ag 1))) (az ltI (e2 ixD (ag 2) (eC (.int 1))) (e2 ixD (e2 ixD (ag 1) (dg (eC (.int 1)))) (eC (.int 1))))) (c_ 1 (ao 2)) a_)
theorem AM{f g:Ev->Option Bool}{ε:Ev}(h:f ε=some true):cH f g ε=some true:=by unfold cH;rw[h];rfl
section
variable(A:Sl)
theorem qj(r:List Pr)(l x:Pr):e2 ixD (e2 ixD (ag 1) (dg (eC (.int 1)))) (eC (.int 1)) [A,.own (pL (r++[l])),.dat (pD x)]=some (.int l.2):=
 bI (x:=pD l) (y:=.int 1) (bI (x:=.lst (pL (r++[l]))) (y:=.int (-1)) rfl rfl (by rw[gN];exact mY _ _)) rfl rfl
theorem vZ(told:List Pr)(x:Pr)(hz:told.length<1000000):xk [A,.own (pL told),.dat (pD x)]=some (.nx [A,.own (pL (bJ (λp=>p.2) told x)),.dat (pD x)]):=by
 have app:c_ 1 (ao 2) [A,.own (pL told),.dat (pD x)]=some (.nx [A,.own (pL (told++[x])),.dat (pD x)]):=by
  refine(i9 (ds:=pL told) (d:=pD x) rfl rfl (by rw[Qg];lia)).trans ?_;rw[gN];rfl
 unfold xk;rcases jc told with rfl | ⟨r,l,rfl⟩
 ·exact(dE (AM rfl)).trans app
 ·have c:cH (eO (dN (ag 1))) (az gtI (e2 ixD (ag 2) (eC (.int 1))) (e2 ixD (e2 ixD (ag 1) (dg (eC (.int 1)))) (eC (.int 1)))) [A,.own (pL (r++[l])),.dat (pD x)]=some (false || decide (x.2>l.2)):=by
   refine lX ?_ (fI (x:=.int x.2) (y:=.int l.2) rfl (qj A r l x) rfl);refine(lL (a:=true) ?_).trans rfl;show some (!(pL (r++[l])).isEmpty)=_;simp
  rw[d8]
  by_cases g:x.2>l.2
  ·rw[if_pos g]
   exact(dE (c.trans (by rw[decide_eq_true g];rfl))).trans app
  ·rw[if_neg g]
   exact(eL (c.trans (by rw[decide_eq_false g];rfl))).trans rfl
theorem vj(told:List Pr)(x:Pr)(hz:told.length<1000000):vy [A,.own (pL told),.dat (pD x)]=some (.nx [A,.own (pL (bJ (λp=>-p.2) told x)),.dat (pD x)]):=by
 have app:c_ 1 (ao 2) [A,.own (pL told),.dat (pD x)]=some (.nx [A,.own (pL (told++[x])),.dat (pD x)]):=by
  refine(i9 (ds:=pL told) (d:=pD x) rfl rfl (by rw[Qg];lia)).trans ?_;rw[gN];rfl
 unfold vy;rcases jc told with rfl | ⟨r,l,rfl⟩
 ·exact(dE (AM rfl)).trans app
 ·have c:cH (eO (dN (ag 1))) (az ltI (e2 ixD (ag 2) (eC (.int 1))) (e2 ixD (e2 ixD (ag 1) (dg (eC (.int 1)))) (eC (.int 1)))) [A,.own (pL (r++[l])),.dat (pD x)]=some (false || decide (x.2<l.2)):=by
   refine lX ?_ (fI (x:=.int x.2) (y:=.int l.2) rfl (qj A r l x) rfl);refine(lL (a:=true) ?_).trans rfl;show some (!(pL (r++[l])).isEmpty)=_;simp
  rw[d8]
  by_cases g:x.2<l.2
  ·rw[if_pos (show -x.2 > -l.2 by lia)]
   exact(dE (c.trans (by rw[decide_eq_true g];rfl))).trans app
  ·rw[if_neg (show ¬ -x.2 > -l.2 by lia)]
   exact(eL (c.trans (by rw[decide_eq_false g];rfl))).trans rfl
end
theorem jP{v:Pr->Int}:∀(l told:List Pr),(l.foldl (bJ v) told).length<=told.length+l.length
 |[],told=>wp _
 |x::l,told=>by
  have h1:=jP (v:=v) l (bJ v told x)
  have h2:(bJ v told x).length<=told.length+1:=by
   rcases jc told with rfl | ⟨r,q,rfl⟩
   ·exact wp _
   ·rw[d8];split<;>simp
  show(l.foldl (bJ v) (bJ v told x)).length<=_;rw[Qv];lia
theorem BW(ps:List Pr):OkQ 9 (.lst (pL ps)):=λd hd=>by
 obtain⟨q,_,rfl⟩:=Qo.mp hd;intro e he;simp only[ut,J3,or_false] at he;rcases he with rfl | rfl<;>exact trivial
theorem uU(ps:List Pr)(hz:ps.length<1000000):OkS 4 (.lst (pL ps)):=⟨by rw[Qg];lia,λd hd=>by
 obtain⟨q,_,rfl⟩:=Qo.mp hd;refine⟨show 2<1000000 by decide,λe he=>?_⟩;simp only[ut,J3,or_false] at he
 rcases he with rfl | rfl<;>exact trivial⟩
theorem Am(p q:Pr):g9 (pD p) (pD q)=some (.bl (!decide (p=q))):=by
 have e:decide (p=q)=(decide (p.1=q.1)&&decide (p.2=q.2)):=by
  by_cases h:p=q
  ·subst h;simp
  ·rw[decide_eq_false h]
   by_cases h1:p.1=q.1
   ·by_cases h2:p.2=q.2
    ·exact absurd (Prod.ext h1 h2) h
    ·simp[h1,h2]
   ·simp[h1]
 rw[e];show some (D.bl (!(((decide (p.1=q.1)&&(decide (p.2=q.2)&&true))&&true))))=_;simp
end Dn
namespace Fl
open PySem PySem.Spec PyProof.Rows L2 Dn
abbrev j4:List Str:=["_law_hills","_law_x","_law_y"]
abbrev j5:List Str:=["_law_hills","_law_x","_law_y"]
def dH:Ev->Option Fl:=(a8 (aJ Ay (aa (eF (zg (eF (cD (aa (eC (.int 0)) aB))) (eF (eLC (cG (ao 0)) 3 [1,2] (bx 3 (ai (ah 0) (ai (ah 1) (ai (ah 2) aL)))) (b9 (az bE (ag 0) (ag 3)) (az bE (ag 1) (ag 4))) (ao 2))))) aB)))
def j8:List D->Option D:=fnD j4 j5 dH
abbrev qG:List Str:=["winds","hour","height","blowing","wind"]
abbrev fK:List Str:=["winds","hour","height"]
def lT:Ev->Option Fl:=(aH (sIf (cH (az g9 (e2 ixD (ag 4) (eC (.int 1))) (ag 2)) (az gtI (e2 ixD (ag 4) (eC (.int 0))) (ag 1))) (λε=>some (.ct ε)) a_) (sIf (cH (az (isD false) (ag 3) (eC .non)) (az geI (e2 ixD (ag 4) (eC (.int 0))) (e2 ixD (ag 3) (eC (.int 0))))) (bq 3 (ao 4)) a_))
def rO:Ev->Option Fl:=(aH (bq 3 (eC .non)) (aH (cP (cG (ao 0)) (ah 4) (lT)) (aH (sIf (az (isD false) (ag 3) (eC .non)) (a8 (aY (aa (eC (.int 0)) (aa (eC (.int 0)) aB)))) a_) (a8 (aY (aa (e2 ixD (ag 3) (eC (.int 2))) (aa (e2 ixD (ag 3) (eC (.int 3))) aB)))))))
def dY:List D->Option D:=fnD qG fK rO
abbrev um:List Str:=["sky","hour","state","order","hills","cool","winds","shuts","x","y","height","sacks","puffs","dx","dy"]
abbrev gG:List Str:=["sky","hour","state","order"]
def mJ:Ev->Option Fl:=(aH (iR (ao 0) (cZ 4 (ai (ah 4) (ai (ah 5) (ai (ah 6) (ai (ah 7) aL)))))) (aH (iR (ao 2) (cZ 5 (ai (ah 8) (ai (ah 9) (ai (ah 10) (ai (ah 11) (ai (ah 12) aL))))))) (aH (sIf (az bE (ag 3) (eC (.str "up"))) (vH 10 11 (aa (e2 bP (ag 10) (eC (.int 1))) (aa (e2 eE (ag 11) (eC (.int 1))) aB))) (sIf (az bE (ag 3) (eC (.str "down"))) (vH 10 12 (aa (e2 eE (ag 10) (eC (.int 1))) (aa (e2 eE (ag 12) (eC (.int 1))) aB))) a_)) (aH (sIf (az (inD false) (ag 1) (ag 5)) (bq 10 (aJ m5 (aa (e2 eE (ag 10) (eC (.int 1))) (aa (eC (.int 0)) aB)))) a_) (aH (iR (aJ dY (aa (ao 6) (aa (ao 1) (aa (ao 10) aB)))) (cZ 2 (ai (ah 13) (ai (ah 14) aL)))) (a8 (aY (aa (e2 bP (ag 8) (ag 13)) (aa (e2 bP (ag 9) (ag 14)) (aa (ao 10) (aa (ao 11) (aa (ao 12) aB))))))))))))
def jK:List D->Option D:=fnD um gG mJ
abbrev gq:List Str:=["state","order","x","y","height","sacks","puffs"]
abbrev bK:List Str:=["state","order"]
def dz:Ev->Option Fl:=(aH (iR (ao 0) (cZ 5 (ai (ah 2) (ai (ah 3) (ai (ah 4) (ai (ah 5) (ai (ah 6) aL))))))) (aH (sIf (b9 (az bE (ag 1) (eC (.str "up"))) (az ltI (ag 5) (eC (.int 1)))) (a8 (eC (.str "sacks"))) a_) (aH (sIf (b9 (az bE (ag 1) (eC (.str "down"))) (az ltI (ag 6) (eC (.int 1)))) (a8 (eC (.str "puffs"))) a_) (aH (sIf (b9 (az bE (ag 1) (eC (.str "up"))) (az bE (ag 4) (eC (.int 5)))) (a8 (eC (.str "high"))) a_) (aH (sIf (b9 (az bE (ag 1) (eC (.str "down"))) (az bE (ag 4) (eC (.int 0)))) (a8 (eC (.str "low"))) a_) (a8 (eC (.str ""))))))))
def cq:List D->Option D:=fnD gq bK dz
abbrev mw:List Str:=["hills","x","y","tops"]
abbrev dG:List Str:=["hills","x","y"]
def fz:Ev->Option Fl:=(aH (bq 3 (eF (eLC (cG (ao 0)) 3 [1,2] (bx 3 (ai (ah 0) (ai (ah 1) (ai (ah 2) aL)))) (b9 (az bE (ag 0) (ag 3)) (az bE (ag 1) (ag 4))) (ao 2)))) (a8 (e2 mV (ao 3) (eC (.int 0)))))
def dD:List D->Option D:=fnD mw dG fz
abbrev sW:List Str:=["box","x","y","height","x1","y1","x2","y2","low","high"]
abbrev gT:List Str:=["box","x","y","height"]
def nq:Ev->Option Fl:=(aH (iR (ao 0) (cZ 6 (ai (ah 4) (ai (ah 5) (ai (ah 6) (ai (ah 7) (ai (ah 8) (ai (ah 9) aL)))))))) (a8 (lp (eCh leI leI (ag 4) (ag 1) (ag 6)) (lp (eCh leI leI (ag 5) (ag 2) (ag 7)) (eCh leI leI (ag 8) (ag 3) (ag 9))))))
def gI:List D->Option D:=fnD sW gT nq
abbrev qS:List Str:=["shuts","hour","x","y","height","shut"]
abbrev fO:List Str:=["shuts","hour","x","y","height"]
def bg:Ev->Option Fl:=(sIf (b9 (xb leI leI (e2 ixD (ag 5) (eC (.int 6))) (ag 1) (e2 ixD (ag 5) (eC (.int 7)))) (dN (aJ gI (aa (ll (ag 5) cE (bR (eC (.int 6)))) (aa (ao 2) (aa (ao 3) (aa (ao 4) aB))))))) (a8 (eC (.bl true))) a_)
def kr:Ev->Option Fl:=(aH (cP (cG (ao 0)) (ah 5) (bg)) (a8 (eC (.bl false))))
def fH:List D->Option D:=fnD qS fO kr
abbrev iX:List Str:=["sky","hour","state","hills","cool","winds","shuts","x","y","height","sacks","puffs"]
abbrev bS:List Str:=["sky","hour","state"]
def eI:Ev->Option Fl:=(aH (iR (ao 0) (cZ 4 (ai (ah 3) (ai (ah 4) (ai (ah 5) (ai (ah 6) aL)))))) (aH (iR (ao 2) (cZ 5 (ai (ah 7) (ai (ah 8) (ai (ah 9) (ai (ah 10) (ai (ah 11) aL))))))) (aH (sIf (az ltI (ag 9) (aJ dD (aa (ao 3) (aa (ao 7) (aa (ao 8) aB))))) (a8 (eC (.str "hill"))) a_) (aH (sIf (dN (aJ fH (aa (ao 6) (aa (ao 1) (aa (ao 7) (aa (ao 8) (aa (ao 9) aB))))))) (a8 (eC (.str "shut"))) a_) (a8 (eC (.str "")))))))
def cL:List D->Option D:=fnD iX bS eI
abbrev xp:List Str:=["sky","hour","state","order","after","why"]
abbrev i7:List Str:=["sky","hour","state","order"]
def pM:Ev->Option Fl:=(aH (bq 4 (aJ jK (aa (ao 0) (aa (ao 1) (aa (ao 2) (aa (ao 3) aB)))))) (aH (bq 5 (aJ cq (aa (ao 2) (aa (ao 3) aB)))) (aH (sIf (az bE (ag 5) (eC (.str ""))) (bq 5 (aJ cL (aa (ao 0) (aa (e2 bP (ag 1) (eC (.int 1))) (aa (ao 4) aB))))) a_) (a8 (aY (aa (ao 5) (aa (ao 4) aB)))))))
def gW:List D->Option D:=fnD xp i7 pM
abbrev xr:List Str:=["sky","hour","state","found","order","why","after"]
abbrev iZ:List Str:=["sky","hour","state"]
def fY:Ev->Option Fl:=(aH (iR (aJ gW (aa (ao 0) (aa (ao 1) (aa (ao 2) (aa (ao 4) aB))))) (cZ 2 (ai (ah 5) (ai (ah 6) aL)))) (sIf (az bE (ag 5) (eC (.str ""))) (c_ 3 (aY (aa (ao 4) (aa (ao 6) aB)))) a_))
def pF:Ev->Option Fl:=(aH (jD 3 (cD aB)) (aH (cP (kj (eC (.tup [.str "up",.str "level",.str "down"]))) (ah 4) (fY)) (sFz 3 (a8 (ao 3)))))
def i5:List D->Option D:=fnD xr iZ pF
def bj(hs:List Hl)(x y:Int):List Int:=(hs.filter λh=>decide (h.x=x)&&decide (h.y=y)).map (·.t)
abbrev tgH:D->Ev->Option Ev:=bx 3 (ai (ah 0) (ai (ah 1) (ai (ah 2) aL)))
abbrev ftH:Ev->Option Bool:=b9 (az bE (ag 0) (ag 3)) (az bE (ag 1) (ag 4))
theorem Bc(h:Hl)(x y:Int):ftH [.dat (.int h.x),.dat (.int h.y),.dat (.int h.t),.dat (.int x),.dat (.int y)]=some (decide (h.x=x)&&decide (h.y=y)):=by
 have u1:az bE (ag 0) (ag 3) [.dat (.int h.x),.dat (.int h.y),.dat (.int h.t),.dat (.int x),.dat (.int y)]=some (decide (h.x=x)):=rfl;have u2:az bE (ag 1) (ag 4) [.dat (.int h.x),.dat (.int h.y),.dat (.int h.t),.dat (.int x),.dat (.int y)]=some (decide (h.y=y)):=rfl;unfold ftH b9;rw[u1,u2];cases decide (h.x=x)<;>rfl
theorem sU(x y:Int):∀(hs:List Hl) (s0 s1 s2:Sl),lcD tgH ftH (ao 2) (hL hs) [s0,s1,s2,.dat (.int x),.dat (.int y)]=some (iL (bj hs x y))
 |[],_,_,_=>rfl
 |h::hs,s0,s1,s2=>by
  show((ftH [.dat (.int h.x),.dat (.int h.y),.dat (.int h.t),.dat (.int x),.dat (.int y)]).bind λk=>if k=true then(some (D.int h.t)).bind λv=>(lcD tgH ftH (ao 2) (hL hs) [.dat (.int h.x),.dat (.int h.y),.dat (.int h.t),.dat (.int x),.dat (.int y)]).bind λr=>some (v::r) else lcD tgH ftH (ao 2) (hL hs) [.dat (.int h.x),.dat (.int h.y),.dat (.int h.t),.dat (.int x),.dat (.int y)])=_;rw[Bc,sU x y hs];unfold bj;rw[J4];cases e:(decide (h.x=x)&&decide (h.y=y))<;>simp[iL]
def gr(hs:List Hl)(x y:Int):Int:=match bj hs x y with | []=>0 | m::r=>mxI m r
theorem rJ(hs:List Hl)(hz:hs.length<1000000)(x y:Int):dD [.lst (hL hs),.int x,.int y]=some (.int (gr hs x y)):=by
 refine bH rfl ?_;show fz [.dat (.lst (hL hs)),.dat (.int x),.dat (.int y),.un]=_;unfold fz
 have c:eF (eLC (cG (ao 0)) 3 [1,2] tgH ftH (ao 2)) [.dat (.lst (hL hs)),.dat (.int x),.dat (.int y),.un]=some (.lst (iL (bj hs x y))):=by
  refine fT ?_;rw[lN (ds:=hL hs) rfl (by simpa[hL] using hz)];exact sU x y hs _ _ _
 rw[ay (b_ c)];show a8 (e2 mV (ao 3) (eC (.int 0))) [.dat (.lst (hL hs)),.dat (.int x),.dat (.int y),.dat (.lst (iL (bj hs x y)))]=_;refine eB ?_;show mV (.lst (iL (bj hs x y))) (.int 0)=_;show(match bC (iL (bj hs x y)) with | some []=>some (D.int 0) | some (m::r)=>some (D.int (mxI m r)) | none=>none)=_;unfold gr;rw[show bC (iL (bj hs x y))=some (bj hs x y) from kR _];cases bj hs x y<;>rfl
theorem u9{hs:List Hl}{x y:Int}(ok:∀h∈hs,0<=h.t):∀v∈bj hs x y,0<=v:=λv hv=>by
 obtain⟨h,h1,rfl⟩:=Qo.mp hv;exact ok h (QM.mp h1).1
theorem tq(hs:List Hl)(hz:hs.length<100000)(ok:∀h∈hs,0<=h.t)(x y:Int):j8 [.lst (hL hs),.int x,.int y]=some (.int (gr hs x y)):=by
 refine bH rfl ?_;show dH [.dat (.lst (hL hs)),.dat (.int x),.dat (.int y)]=_;unfold dH
 have c:eF (eLC (cG (ao 0)) 3 [1,2] tgH ftH (ao 2)) [.dat (.lst (hL hs)),.dat (.int x),.dat (.int y)]=some (.lst (iL (bj hs x y))):=by
  refine fT ?_;rw[lN (ds:=hL hs) rfl (by simp[hL];lia)];exact sU x y hs _ _ _
 have tl:(bj hs x y).length<=hs.length:=by unfold bj;rw[Qg];exact JP _ _
 have c2:eF (zg (eF (cD (aa (eC (.int 0)) aB))) (eF (eLC (cG (ao 0)) 3 [1,2] tgH ftH (ao 2)))) [.dat (.lst (hL hs)),.dat (.int x),.dat (.int y)]=some (.lst (iL (0::bj hs x y))):=by
  refine fT ?_;unfold zg;rw[c];show(if 1+(iL (bj hs x y)).length<=1000000 then some ([D.int 0]++iL (bj hs x y)) else none)=_;rw[if_pos (by simp[iL];lia)];rfl
 refine eB ?_;rw[va c2];show(match bC (iL (0::bj hs x y)) with | some (m::r)=>some (D.int (mxI m r)) | _=>none)=_;rw[show bC (iL (0::bj hs x y))=some (0::bj hs x y) from kR _];have tm:=u9 (x:=x) (y:=y) ok;unfold gr
 revert tm
 cases bj hs x y with
 |nil=>intro _;rfl
 |cons m r=>
  intro tm;have h0:=tm m (by simp);show some (D.int (mxI (if m>0 then m else 0) r))=_;rw[show(if m>0 then m else 0)=m by split<;>lia]
def in6(q:Sh)(x y z:Int):Bool:=(decide (q.a<=x)&&decide (x<=q.c))&&((decide (q.b<=y)&&decide (y<=q.d))&&(decide (q.e<=z)&&decide (z<=q.f)))
theorem qO(q:Sh)(x y z:Int):gI [t6 q.a q.b q.c q.d q.e q.f,.int x,.int y,.int z]=some (.bl (in6 q x y z)):=by
 refine bH rfl ?_;unfold nq;refine(ay rfl).trans (eB ?_);exact lM (lQ rfl rfl rfl) (lM (lQ rfl rfl rfl) (lQ rfl rfl rfl))
def whB(q:Sh)(h:Int):Bool:=decide (q.t<=h)&&decide (h<=q.u)
def gx(ss:List Sh)(h x y z:Int):Bool:=ss.any λq=>whB q h&&in6 q x y z
theorem kO(L:D)(h x y z:Int):∀(ss:List Sh) (s5:Sl),(gx ss h x y z=false->∃e5,cK (ah 5) bg (shL ss) [.dat L,.dat (.int h),.dat (.int x),.dat (.int y),.dat (.int z),s5]=some (.nx [.dat L,.dat (.int h),.dat (.int x),.dat (.int y),.dat (.int z),e5]))/\
  (gx ss h x y z=true->cK (ah 5) bg (shL ss) [.dat L,.dat (.int h),.dat (.int x),.dat (.int y),.dat (.int z),s5]=some (.rt (.bl true)))
 |[],s5=>⟨λ_=>⟨s5,rfl⟩,λh=>by cases h⟩
 |q::ss,s5=>by
  have c:b9 (xb leI leI (e2 ixD (ag 5) (eC (.int 6))) (ag 1) (e2 ixD (ag 5) (eC (.int 7)))) (dN (aJ gI (aa (ll (ag 5) cE (bR (eC (.int 6)))) (aa (ao 2) (aa (ao 3) (aa (ao 4) aB)))))) [.dat L,.dat (.int h),.dat (.int x),.dat (.int y),.dat (.int z),.dat (shD q)]=some (whB q h&&in6 q x y z):=by
   refine fL ?_ ?_
   ·unfold xb;rw[lQ (a:=q.t) (b:=h) (c:=q.u) rfl rfl rfl];rfl
   ·exact pj (qO q x y z)
  obtain⟨k1,k2⟩:=kO L h x y z ss (.dat (shD q));have hb:gx (q::ss) h x y z=((whB q h&&in6 q x y z) || gx ss h x y z):=rfl
  have e0:cK (ah 5) bg (shL (q::ss)) [.dat L,.dat (.int h),.dat (.int x),.dat (.int y),.dat (.int z),s5]=(bg [.dat L,.dat (.int h),.dat (.int x),.dat (.int y),.dat (.int z),.dat (shD q)]).bind λr=>match r with
   |.nx ε2=>cK (ah 5) bg (shL ss) ε2 | .ct ε2=>cK (ah 5) bg (shL ss) ε2 | .bk ε2=>some (.nx ε2) | .rt v=>some (.rt v) | .ro v=>some (.ro v):=rfl
  rw[e0];unfold bg at e0 ⊢;cases ho:(whB q h&&in6 q x y z) with
  |true=>
   rw[ho] at c hb;rw[dE c];exact⟨λh=>(by rw[hb] at h;cases h),λ_=>rfl⟩
  |false=>
   rw[ho] at c hb;rw[eL c];exact⟨λh=>k1 (by rw[hb] at h;exact h),λh=>k2 (by rw[hb] at h;exact h)⟩
theorem wF(ss:List Sh)(h x y z:Int):fH [.lst (shL ss),.int h,.int x,.int y,.int z]=some (.bl (gx ss h x y z)):=by
 refine bH rfl ?_;unfold kr;obtain⟨k1,k2⟩:=kO (.lst (shL ss)) h x y z ss .un;cases hb:gx ss h x y z with
 |false=>
  obtain⟨e5,e⟩:=k1 hb;exact(ay ((bT (ds:=shL ss) rfl).trans e)).trans rfl
 |true=>exact dq ((bT (ds:=shL ss) rfl).trans (k2 hb))
abbrev sk4(hs:List Hl)(cs:List Int)(ws:List Wd)(ss:List Sh):D:=.tup [.lst (hL hs),.lst (iL cs),.lst (wL ws),.lst (shL ss)]
def why(hs:List Hl)(ss:List Sh)(h:Int)(q:Stt):Str:=if q.z<gr hs q.x q.y then "hill" else if gx ss h q.x q.y q.z=true then "shut" else ""
section
variable(hs:List Hl)(cs:List Int)(ws:List Wd)(ss:List Sh)(hz:hs.length<=900)(ok:∀h∈hs,0<=h.t)(sz:ss.length<=900)(h:Int)(q:Stt)
include hz in
theorem zL:cL [sk4 hs cs ws ss,.int h,stD q]=some (.str (why hs ss h q)):=by
 refine bH rfl ?_;unfold eI;refine(ay rfl).trans ?_;refine(ay rfl).trans ?_;show aH _ _ [.dat (sk4 hs cs ws ss),.dat (.int h),.dat (stD q),.dat (.lst (hL hs)),.dat (.lst (iL cs)),.dat (.lst (wL ws)),.dat (.lst (shL ss)),.dat (.int q.x),.dat (.int q.y),.dat (.int q.z),.dat (.int q.s),.dat (.int q.p)]=_;have c1:az ltI (ag 9) (aJ dD (aa (ao 3) (aa (ao 7) (aa (ao 8) aB)))) [.dat (sk4 hs cs ws ss),.dat (.int h),.dat (stD q),.dat (.lst (hL hs)),.dat (.lst (iL cs)),.dat (.lst (wL ws)),.dat (.lst (shL ss)),.dat (.int q.x),.dat (.int q.y),.dat (.int q.z),.dat (.int q.s),.dat (.int q.p)]=some (decide (q.z<gr hs q.x q.y)):=fI (x:=.int q.z) (y:=.int (gr hs q.x q.y)) rfl (aX rfl (rJ hs (by lia) q.x q.y)) rfl;have c2:dN (aJ fH (aa (ao 6) (aa (ao 1) (aa (ao 7) (aa (ao 8) (aa (ao 9) aB)))))) [.dat (sk4 hs cs ws ss),.dat (.int h),.dat (stD q),.dat (.lst (hL hs)),.dat (.lst (iL cs)),.dat (.lst (wL ws)),.dat (.lst (shL ss)),.dat (.int q.x),.dat (.int q.y),.dat (.int q.z),.dat (.int q.s),.dat (.int q.p)]=some (gx ss h q.x q.y q.z):=pj (aX rfl (wF ss h q.x q.y q.z));unfold why
 by_cases g1:q.z<gr hs q.x q.y
 ·rw[if_pos g1]
  exact dq ((ec _ c1 g1).trans rfl)
 ·rw[if_neg g1]
  refine(ay ((dJ _ c1 g1).trans rfl)).trans ?_;cases hb:gx ss h q.x q.y q.z with
  |true=>
   rw[hb] at c2;rw[if_pos rfl];exact dq ((dE c2).trans rfl)
  |false=>
   rw[hb] at c2;rw[if_neg ww];exact(ay ((eL c2).trans rfl)).trans rfl
end
def wo(o:Str)(q:Stt):Str:=if o = "up"/\q.s<1 then "sacks" else if o = "down"/\q.p<1 then "puffs" else if o = "up"/\q.z=5 then "high" else if o = "down"/\q.z=0 then "low" else ""
theorem An(o:Str)(q:Stt):cq [stD q,.str o]=some (.str (wo o q)):=by
 refine bH rfl ?_;unfold dz;refine(ay rfl).trans ?_;show aH _ _ [.dat (stD q),.dat (.str o),.dat (.int q.x),.dat (.int q.y),.dat (.int q.z),.dat (.int q.s),.dat (.int q.p)]=_;have b2:∀(P Q:Prop) [Decidable P] [Decidable Q],(decide P&&decide Q)=decide (P/\Q):=λP Q _ _=>by by_cases p:P<;>by_cases q:Q<;>simp[p,q]
 have c1:b9 (az bE (ag 1) (eC (.str "up"))) (az ltI (ag 5) (eC (.int 1))) [.dat (stD q),.dat (.str o),.dat (.int q.x),.dat (.int q.y),.dat (.int q.z),.dat (.int q.s),.dat (.int q.p)]=some (decide (o = "up"/\q.s<1)):=by rw[<-b2];exact fL rfl rfl
 have c2:b9 (az bE (ag 1) (eC (.str "down"))) (az ltI (ag 6) (eC (.int 1))) [.dat (stD q),.dat (.str o),.dat (.int q.x),.dat (.int q.y),.dat (.int q.z),.dat (.int q.s),.dat (.int q.p)]=some (decide (o = "down"/\q.p<1)):=by rw[<-b2];exact fL rfl rfl
 have c3:b9 (az bE (ag 1) (eC (.str "up"))) (az bE (ag 4) (eC (.int 5))) [.dat (stD q),.dat (.str o),.dat (.int q.x),.dat (.int q.y),.dat (.int q.z),.dat (.int q.s),.dat (.int q.p)]=some (decide (o = "up"/\q.z=5)):=by rw[<-b2];exact fL rfl rfl
 have c4:b9 (az bE (ag 1) (eC (.str "down"))) (az bE (ag 4) (eC (.int 0))) [.dat (stD q),.dat (.str o),.dat (.int q.x),.dat (.int q.y),.dat (.int q.z),.dat (.int q.s),.dat (.int q.p)]=some (decide (o = "down"/\q.z=0)):=by rw[<-b2];exact fL rfl rfl
 unfold wo
 by_cases g1:o = "up"/\q.s<1
 ·rw[if_pos g1];exact dq ((ec _ c1 g1).trans rfl)
 ·rw[if_neg g1]
  refine(ay ((dJ _ c1 g1).trans rfl)).trans ?_
  by_cases g2:o = "down"/\q.p<1
  ·rw[if_pos g2];exact dq ((ec _ c2 g2).trans rfl)
  ·rw[if_neg g2]
   refine(ay ((dJ _ c2 g2).trans rfl)).trans ?_
   by_cases g3:o = "up"/\q.z=5
   ·rw[if_pos g3];exact dq ((ec _ c3 g3).trans rfl)
   ·rw[if_neg g3]
    refine(ay ((dJ _ c3 g3).trans rfl)).trans ?_
    by_cases g4:o = "down"/\q.z=0
    ·rw[if_pos g4];exact dq ((ec _ c4 g4).trans rfl)
    ·rw[if_neg g4]
     exact(ay ((dJ _ c4 g4).trans rfl)).trans rfl
abbrev isO(o:Str):Prop:=o = "up"\/o = "level"\/o = "down"
def wv(h z:Int)(ws:List Wd):Int×Int:=match gm h z ws none with | none=>(0,0) | some b=>(b.dx,b.dy)
theorem vc(h z:Int)(ws:List Wd):pG h z ws=.tup [.int (wv h z ws).1,.int (wv h z ws).2]:=by unfold pG wv;cases gm h z ws none<;>rfl
theorem Ax(ws:List Wd)(h z:Int):dY [.lst (wL ws),.int h,.int z]=some (.tup [.int (wv h z ws).1,.int (wv h z ws).2]):=by rw[<-vc];exact bH rfl (zm ws h z)
def inC(cs:List Int)(h:Int):Bool:=inV (.int h) (cs.map V.int)
theorem yU(cs:List Int)(h:Int):inD false (.int h) (.lst (iL cs))=some (.bl (inC cs h)):=by show(qW (iL cs)).bind _=_;rw[qr];rfl
def czP(c:Bool)(z:Int):Int:=if c=true then(if(0:Int)>z-1 then 0 else z-1) else z
def z1(o:Str)(q:Stt):Int:=if o = "up" then q.z+1 else if o = "down" then q.z-1 else q.z
def s1(o:Str)(q:Stt):Int:=if o = "up" then q.s-1 else q.s
def p1(o:Str)(q:Stt):Int:=if o = "down" then q.p-1 else q.p
def bN(k:Sk)(h:Int)(q:Stt)(o:Str):Stt:=⟨q.x+(wv h (czP (inC k.cs h) (z1 o q)) k.ws).1,q.y+(wv h (czP (inC k.cs h) (z1 o q)) k.ws).2,czP (inC k.cs h) (z1 o q),s1 o q,p1 o q⟩
abbrev evP(k:Sk)(h:Int)(q:Stt)(o:Str)(z s p:Int)(a b:Sl):Ev:=[.dat (skD k),.dat (.int h),.dat (stD q),.dat (.str o),.dat (.lst (hL k.hs)),.dat (.lst (iL k.cs)),.dat (.lst (wL k.ws)),.dat (.lst (shL k.ss)),.dat (.int q.x),.dat (.int q.y),.dat (.int z),.dat (.int s),.dat (.int p),a,b]
theorem yB(k:Sk)(h:Int)(q:Stt)(o:Str):jK [skD k,.int h,stD q,.str o]=some (stD (bN k h q o)):=by
 refine bH rfl ?_;unfold mJ;refine(ay rfl).trans ?_;refine(ay rfl).trans ?_;show aH _ _ (evP k h q o q.z q.s q.p .un .un)=_;have c1:az bE (ag 3) (eC (.str "up")) (evP k h q o q.z q.s q.p .un .un)=some (decide (o = "up")):=rfl;have c2:az bE (ag 3) (eC (.str "down")) (evP k h q o q.z q.s q.p .un .un)=some (decide (o = "down")):=rfl;have cc:∀z s p,az (inD false) (ag 1) (ag 5) (evP k h q o z s p .un .un)=some (inC k.cs h):=λz s p=>fI (x:=.int h) (y:=.lst (iL k.cs)) rfl rfl (yU k.cs h)
 have cool:∀z s p,sIf (az (inD false) (ag 1) (ag 5)) (bq 10 (aJ m5 (aa (e2 eE (ag 10) (eC (.int 1))) (aa (eC (.int 0)) aB)))) a_ (evP k h q o z s p .un .un)=some (.nx (evP k h q o (czP (inC k.cs h) z) s p .un .un)):=λz s p=>by
  have:=cc z s p;unfold czP;cases hb:inC k.cs h with
  |true=>rw[hb] at this;rw[dE this,if_pos rfl];rfl
  |false=>rw[hb] at this;rw[eL this,if_neg ww];rfl
 have fin:∀z s p,aH (sIf (az (inD false) (ag 1) (ag 5)) (bq 10 (aJ m5 (aa (e2 eE (ag 10) (eC (.int 1))) (aa (eC (.int 0)) aB)))) a_) (aH (iR (aJ dY (aa (ao 6) (aa (ao 1) (aa (ao 10) aB)))) (cZ 2 (ai (ah 13) (ai (ah 14) aL)))) (a8 (aY (aa (e2 bP (ag 8) (ag 13)) (aa (e2 bP (ag 9) (ag 14)) (aa (ao 10) (aa (ao 11) (aa (ao 12) aB)))))))) (evP k h q o z s p .un .un)=some (.rt (stD ⟨q.x+(wv h (czP (inC k.cs h) z) k.ws).1,q.y+(wv h (czP (inC k.cs h) z) k.ws).2,czP (inC k.cs h) z,s,p⟩)):=λz s p=>by
  refine(ay (cool z s p)).trans ?_;refine(ay (ε':=evP k h q o (czP (inC k.cs h) z) s p (.dat (.int (wv h (czP (inC k.cs h) z) k.ws).1)) (.dat (.int (wv h (czP (inC k.cs h) z) k.ws).2))) ?_).trans rfl;show((aJ dY (aa (ao 6) (aa (ao 1) (aa (ao 10) aB))) (evP k h q o (czP (inC k.cs h) z) s p .un .un)).bind λd=>(cZ 2 (ai (ah 13) (ai (ah 14) aL)) d (evP k h q o (czP (inC k.cs h) z) s p .un .un)).map Fl.nx)=_;rw[aX (ds:=[.lst (wL k.ws),.int h,.int (czP (inC k.cs h) z)]) rfl (Ax k.ws h (czP (inC k.cs h) z))];rfl
 unfold bN z1 s1 p1
 by_cases g1:o = "up"
 ·have g2:¬o = "down":=λz=>by rw[g1] at z;exact absurd z (by decide)
  rw[if_pos g1,if_pos g1,if_neg g2];exact(ay (ε':=evP k h q o (q.z+1) (q.s-1) q.p .un .un) ((ec _ c1 g1).trans rfl)).trans (fin _ _ _)
 ·rw[if_neg g1,if_neg g1]
  by_cases g2:o = "down"
  ·rw[if_pos g2,if_pos g2]
   exact(ay (ε':=evP k h q o (q.z-1) q.s (q.p-1) .un .un) ((dJ _ c1 g1).trans ((ec _ c2 g2).trans rfl))).trans (fin _ _ _)
  ·rw[if_neg g2,if_neg g2]
   exact(ay (ε':=evP k h q o q.z q.s q.p .un .un) ((dJ _ c1 g1).trans ((dJ _ c2 g2).trans rfl))).trans (fin _ _ _)
def wh(k:Sk)(h:Int)(q:Stt)(o:Str):Str:=if wo o q = "" then why k.hs k.ss (h+1) (bN k h q o) else wo o q
theorem so(k:Sk)(hk:k.hs.length<=900)(h:Int)(q:Stt)(o:Str):gW [skD k,.int h,stD q,.str o]=some (.tup [.str (wh k h q o),stD (bN k h q o)]):=by
 refine bH rfl ?_;unfold pM;refine(ay (b_ (d:=stD (bN k h q o)) (aX (ds:=[skD k,.int h,stD q,.str o]) rfl (yB k h q o)))).trans ?_;refine(ay (b_ (d:=.str (wo o q)) (aX (ds:=[stD q,.str o]) rfl (An o q)))).trans ?_;have c:az bE (ag 5) (eC (.str "")) [.dat (skD k),.dat (.int h),.dat (stD q),.dat (.str o),.dat (stD (bN k h q o)),.dat (.str (wo o q))]=some (decide (wo o q = "")):=rfl;unfold wh
 by_cases g:wo o q = ""
 ·rw[if_pos g]
  refine(ay ((ec _ c g).trans (b_ (d:=.str (why k.hs k.ss (h+1) (bN k h q o))) (aX (ds:=[skD k,.int (h+1),stD (bN k h q o)]) rfl ?_)))).trans rfl;exact zL k.hs k.cs k.ws k.ss hk (h+1) (bN k h q o)
 ·rw[if_neg g]
  exact(ay ((dJ _ c g).trans rfl)).trans rfl
abbrev Ods:List Str:=["up","level","down"]
def can(k:Sk)(h:Int)(q:Stt):List Str:=Ods.filter λo=>decide (wh k h q o = "")
def mvD(k:Sk)(h:Int)(q:Stt)(o:Str):D:=.tup [.str o,stD (bN k h q o)]
theorem oW(k:Sk)(h:Int)(q:Stt):(can k h q).length<=3:=JP _ _
theorem uW(k:Sk)(hk:k.hs.length<=900)(h:Int)(q:Stt):i5 [skD k,.int h,stD q]=some (.lst ((can k h q).map (mvD k h q))):=by
 refine bH rfl ?_;unfold pF;refine(ay rfl).trans ?_
 obtain⟨ε',e,s4,s5,s6,rfl⟩:=cX (g:=ah 4) (gb:=fY) D.str (λdone ε=>∃s4 s5 s6,ε=[.dat (skD k),.dat (.int h),.dat (stD q),.own ((done.filter λo=>decide (wh k h q o = "")).map (mvD k h q)),s4,s5,s6]) Ods (λdone o rest hd ε ⟨s4,s5,s6,he⟩=>by
  subst he;have dl:done.length<3:=by have:=congrArg List.length hd;simp at this;lia
  refine⟨_,[.dat (skD k),.dat (.int h),.dat (stD q),.own (((done++[o]).filter λo=>decide (wh k h q o = "")).map (mvD k h q)),.dat (.str o),.dat (.str (wh k h q o)),.dat (stD (bN k h q o))],rfl,.inl ?_,_,_,_,rfl⟩;unfold fY
  have t:iR (aJ gW (aa (ao 0) (aa (ao 1) (aa (ao 2) (aa (ao 4) aB))))) (cZ 2 (ai (ah 5) (ai (ah 6) aL))) [.dat (skD k),.dat (.int h),.dat (stD q),.own ((done.filter λo=>decide (wh k h q o = "")).map (mvD k h q)),.dat (.str o),s5,s6]=some (.nx [.dat (skD k),.dat (.int h),.dat (stD q),.own ((done.filter λo=>decide (wh k h q o = "")).map (mvD k h q)),.dat (.str o),.dat (.str (wh k h q o)),.dat (stD (bN k h q o))]):=by
   show((aJ gW (aa (ao 0) (aa (ao 1) (aa (ao 2) (aa (ao 4) aB)))) [.dat (skD k),.dat (.int h),.dat (stD q),.own ((done.filter λo=>decide (wh k h q o = "")).map (mvD k h q)),.dat (.str o),s5,s6]).bind λd=>(cZ 2 (ai (ah 5) (ai (ah 6) aL)) d [.dat (skD k),.dat (.int h),.dat (stD q),.own ((done.filter λo=>decide (wh k h q o = "")).map (mvD k h q)),.dat (.str o),s5,s6]).map Fl.nx)=_;rw[aX (ds:=[skD k,.int h,stD q,.str o]) rfl (so k hk h q o)];rfl
  refine(ay t).trans ?_;have c:az bE (ag 5) (eC (.str "")) [.dat (skD k),.dat (.int h),.dat (stD q),.own ((done.filter λo=>decide (wh k h q o = "")).map (mvD k h q)),.dat (.str o),.dat (.str (wh k h q o)),.dat (stD (bN k h q o))]=some (decide (wh k h q o = "")):=rfl;rw[List.filter_append,Jg]
  by_cases g:wh k h q o = ""
  ·refine(ec _ c g).trans ?_
   rw[List.filter_cons_of_pos (by simpa using g)];show(if((done.filter λo=>decide (wh k h q o = "")).map (mvD k h q)).length<1000000 then _ else _)=_;rw[if_pos (by rw[Qg];have:=JP (λo=>decide (wh k h q o = "")) done;lia)];rfl
  ·refine(dJ _ c g).trans ?_
   rw[List.filter_cons_of_neg (by simpa using g)];simp only[List.filter_nil,List.map_nil,QW]
   rfl) [.dat (skD k),.dat (.int h),.dat (stD q),.own [],.un,.un,.un] ⟨_,_,_,rfl⟩
 exact(ay ((bT (ds:=Ods.map D.str) rfl).trans e)).trans rfl
theorem sZ(q:Stt):wo "up" q=(if q.s<1 then("sacks" : Str) else if q.z=5 then("high" : Str) else("" : Str)):=by
 have n1:("up" : Str)≠"down":=by decide
 simp[wo,n1]
theorem sE(q:Stt):wo "level" q = "":=by
 have n1:("level" : Str)≠"down":=by decide
 have n2:("level" : Str)≠"up":=by decide
 simp[wo,n1,n2]
theorem xA(q:Stt):wo "down" q=(if q.p<1 then("puffs" : Str) else if q.z=0 then("low" : Str) else("" : Str)):=by
 have n1:("down" : Str)≠"up":=by decide
 simp[wo,n1]
def zy(k:Sk)(h:Int)(r:List Str×Stt)(o:Str):List Str×Stt:=(r.1++[o],bN k h r.2 o)
def Aa(k:Sk)(h:Int)(r:List Str×Stt):List (List Str×Stt):=(can k h r.2).map (zy k h r)
def flR(k:Sk)(h:Int)(rows:List (List Str×Stt)):List (List Str×Stt):=rows.flatMap (Aa k h)
def eN(k:Sk)(h:Int)(q:Stt):Nat->List (List Str×Stt)
 |0=>[([],q)]
 |n+1=>flR k (h+(n:Int)) (eN k h q n)
theorem v9{k:Sk}{h:Int}{q:Stt}{o:Str}(ho:o∈can k h q):isO o/\wo o q = "":=by
 obtain⟨h1,h2⟩:=QM.mp ho;refine⟨by simpa using h1,?_⟩;have h3:wh k h q o = "":=by simpa using h2
 unfold wh at h3
 by_cases g:wo o q = ""
 ·exact g
 ·rw[if_neg g] at h3;exact h3
theorem wz(l:List Str)(hl:l.length<=900)(o:Str):rF (.tup (l.map D.str)) (.tup [.str o])=some (.tup ((l++[o]).map D.str)):=by
 cases l with
 |nil=>rfl
 |cons x xs=>
  show(if(xs.map D.str).length+0<=1000 then some (D.tup (D.str x::xs.map D.str++[D.str o])) else none)=_;rw[if_pos (by rw[Qg];simp at hl;lia)];simp
end Fl
namespace Dn
open PySem PyProof.Rows
theorem a9{M:Model}{A:Qy}{E:vv->v6->Prop}{s:v6}{σ α:Type}{c:Prop}[Decidable c]{a b:StateT σ Sem α}{Q:α->σ->Prop}{st:σ}(h:c)(k:wpS M A E s a Q st):wpS M A E s (if c then a else b) Q st:=by rw[if_pos h];exact k
theorem aW{M:Model}{A:Qy}{E:vv->v6->Prop}{s:v6}{σ α:Type}{c:Prop}[Decidable c]{a b:StateT σ Sem α}{Q:α->σ->Prop}{st:σ}(h:¬c)(k:wpS M A E s b Q st):wpS M A E s (if c then a else b) Q st:=by rw[if_neg h];exact k
theorem yi{l m r k x:Nat}(m1:l<=m)(g:r-l<=k-x):r-(m+1)<=k-(x+1):=QO (Nat.sub_le_sub_left (Zx m1) r) (Nat.sub_le_sub_right g 1)
theorem x5{l m r k x:Nat}(m1:l<=m)(m2:m<r)(g:r-l<=k-x):m-l<=k-(x+1):=Nat.le_sub_one_of_lt (Qw (Nat.sub_lt_sub_right m1 m2) g)
def wb:Bool->wP->Array wP->Nat->Nat->Nat->StateT QB Sem (Option Nat):=sortPriv% PySem.Builtin.gallop
section
variable{M:Model}{A:Qy}{E:vv->v6->Prop}{s:v6}{κ:J6}{S:wP->Prop}{L:wP->wP->Bool}
def j_(M:Model)(A:Qy)(E:vv->v6->Prop)(s:v6)(κ:J6)(S:wP->Prop)(L:wP->wP->Bool):Prop:=
 ∀(x y:wP) (st:QB) (Q:Option Bool->QB->Prop),S x->S y->Q0 st=κ->Q (some (L x y)) st->wpS M A E s (lt' x y) Q st
theorem aO{arr:Array wP}{i:Nat}{st:QB}{Q:wP->QB->Prop}(hi:i<arr.size)(h:Q arr[i] st):wpS M A E s (elem' arr i) Q st:=by
 rw[elem'_eq,Zp hi];exact Qd h
def byd(L:wP->wP->Bool)(left:Bool)(key:wP)(x:wP):Bool:=if left=true then L x key else !L key x
theorem cS(C:j_ M A E s κ S L){left:Bool}{key:wP}{arr:Array wP}{base n hint:Nat}{st:QB}{Q:Option Nat->QB->Prop}(hS:∀x∈arr.toList,S x)(hk:S key)(hb:base+n<=arr.size)(hh:hint<n)(hst:Q0 st=κ)
  (f:Nat->Bool) (hf:∀i (h:base+i<arr.size),i<n->f i=byd L left key arr[base+i]) (mono:∀i j,i<=j->j<n->f j=true->f i=true)
  (h:∀hi,hi<=n->(∀i,i<hi->f i=true)->(∀i,hi<=i->i<n->f i=false)->Q (some hi) st):wpS M A E s (wb left key arr base n hint) Q st:=by
 have ask:∀(i:Nat) (R:Option Bool->QB->Prop),i<n->R (some (f i)) st->wpS M A E s (do
   let x<-elem' arr (base+i)
   if left then lt' x key else return (<-lt' key x).map (!·)) R st:=λi R hi r=>by
  have hi':base+i<arr.size:=by lia
  refine wT (aO hi' ?_);have sx:S arr[base+i]:=hS _ (by simp);rw[hf i hi' hi] at r;unfold byd at r;cases left with
  |true=>exact C _ _ st _ sx hk hst r
  |false=>exact wT (C _ _ st _ hk sx hst (Qd r))
 refine wT (ask hint _ hh ?_);dsimp -zeta -zetaHave only
 extract_lets jp m1 m2
 have K:∀a b lo0 hi0,lo0<=hi0->hi0<=n->(∀i,i<lo0->f i=true)->(∀i,hi0<=i->i<n->f i=false)->wpS M A E s (jp () a b lo0 hi0) Q st:=by
  intro a b lo0 hi0 F1 F2 F3 F4;dsimp only[jp]
  refine wT (JF (Q4 (I:=λx c st'=>st=st'/\∃lo hi,c=(none,lo,hi)/\lo<=hi/\hi<=n/\hi-lo<=n-x/\(∀i,i<lo->f i=true)/\(∀i,hi<=i->i<n->f i=false))
   (Q:=λc st'=>st=st'/\∃hi,c=(none,hi,hi)/\hi<=n/\(∀i,i<hi->f i=true)/\(∀i,hi<=i->i<n->f i=false)) ?_ ?_ ⟨rfl,_,_,rfl,F1,F2,by lia,F3,F4⟩) ?_)
  ·rintro x c st' _ hx ⟨rfl,lo,hi,rfl,g1,g2,g3,g4,g5⟩
   dsimp only
   by_cases ge:lo>=hi
   ·first | refine a9 ge ?_ | rw[if_pos ge]
    have e:lo=hi:=by lia
    subst e;exact Qd ⟨rfl,lo,rfl,g2,g4,g5⟩
   ·first | refine aW ge ?_ | rw[if_neg ge]
    have m1:lo<=lo+(hi-lo)/2:=Nat.le_add_right _ _;have m2:lo+(hi-lo)/2<hi:=by lia
    generalize lo+(hi-lo)/2=m at m1 m2 ⊢;refine wT (ask (m) _ (by lia) ?_);cases hm:f (m) with
    |true=>exact Qd ⟨rfl,m+1,hi,rfl,m2,g2,yi m1 g3,λi hi'=>mono i _ (by lia) (by lia) hm,g5⟩
    |false=>
     refine Qd ⟨rfl,lo,m,rfl,m1,QO (QZ m2) g2,x5 m1 m2 g3,g4,λi h1 h2=>?_⟩;cases hv:f i with
     |false=>rfl
     |true=>rw[mono _ i h1 h2 hv] at hm;cases hm
  ·rintro c st' ⟨rfl,lo,hi,rfl,g1,g2,g3,g4,g5⟩
   have e:lo=hi:=by lia
   subst e;exact⟨rfl,lo,rfl,g2,g4,g5⟩
  ·rintro c st' ⟨rfl,hi,rfl,g2,g4,g5⟩
   exact Qd (h hi g2 g4 g5)
 clear_value jp
 dsimp only[m1,m2];cases hv:f hint with
 |true=>
  first | refine a9 rfl ?_ | rw[if_pos rfl]
  refine wT (JF (Q4 (I:=λx c st'=>st=st'/\∃la of,c=(none,la,of)/\la<of/\x+1<=of/\hint+la<n/\f (hint+la)=true)
   (Q:=λc st'=>st=st'/\∃la of,c=(none,la,of)/\la<of/\hint+la<n/\f (hint+la)=true/\(of>=n-hint\/f (hint+of)=false)) ?_ ?_ ⟨rfl,0,1,rfl,by lia,by lia,hh,hv⟩) ?_)
  ·rintro x c st' _ hx ⟨rfl,la,of,rfl,g1,g2,g3,g4⟩
   dsimp only
   by_cases ge:of>=n-hint
   ·rw[if_pos ge];exact Qd ⟨rfl,la,of,rfl,g1,g3,g4,.inl ge⟩
   ·first | refine aW ge ?_ | rw[if_neg ge]
    refine wT (ask (hint+of) _ (by lia) ?_);cases hm:f (hint+of) with
    |true=>exact Qd ⟨rfl,of,2*of+1,rfl,by lia,by lia,by lia,hm⟩
    |false=>exact Qd ⟨rfl,la,of,rfl,g1,g3,g4,.inr hm⟩
  ·rintro c st' ⟨rfl,la,of,rfl,g1,g2,g3,g4⟩
   exact⟨rfl,la,of,rfl,g1,g3,g4,.inl (by lia)⟩
  ·rintro c st' ⟨rfl,la,of,rfl,g1,g3,g4,g5⟩
   dsimp only;have F1:hint+la+1<=hint+min of (n-hint):=by lia
   have F2:hint+min of (n-hint)<=n:=by lia
   have F3:∀i,i<hint+la+1->f i=true:=λi hi=>mono i (hint+la) (by lia) g3 g4
   have F4:∀i,hint+min of (n-hint)<=i->i<n->f i=false:=λi h1 h2=>by
    rcases g5 with g5 | g5
    ·lia
    ·cases hv:f i with
     |false=>rfl
     |true=>rw[mono (hint+of) i (by lia) h2 hv] at g5;cases g5
   exact K _ _ _ _ F1 F2 F3 F4
 |false=>
  first | refine aW ww ?_ | rw[if_neg ww]
  refine wT (JF (Q4 (I:=λx c st'=>st=st'/\∃la of,c=(none,la,of)/\la<of/\x+1<=of/\la<=hint/\f (hint-la)=false)
   (Q:=λc st'=>st=st'/\∃la of,c=(none,la,of)/\la<of/\la<=hint/\f (hint-la)=false/\(of>=hint+1\/f (hint-of)=true)) ?_ ?_ ⟨rfl,0,1,rfl,by lia,by lia,by lia,hv⟩) ?_)
  ·rintro x c st' _ hx ⟨rfl,la,of,rfl,g1,g2,g3,g4⟩
   dsimp only
   by_cases ge:of>=hint+1
   ·rw[if_pos ge];exact Qd ⟨rfl,la,of,rfl,g1,g3,g4,.inl ge⟩
   ·first | refine aW ge ?_ | rw[if_neg ge]
    refine wT (ask (hint-of) _ (by lia) ?_);cases hm:f (hint-of) with
    |true=>exact Qd ⟨rfl,la,of,rfl,g1,g3,g4,.inr hm⟩
    |false=>exact Qd ⟨rfl,of,2*of+1,rfl,by lia,by lia,by lia,hm⟩
  ·rintro c st' ⟨rfl,la,of,rfl,g1,g2,g3,g4⟩
   exact⟨rfl,la,of,rfl,g1,g3,g4,.inl (by lia)⟩
  ·rintro c st' ⟨rfl,la,of,rfl,g1,g3,g4,g5⟩
   dsimp only;have F1:hint+1-min of (hint+1)<=hint-la:=by omega
   have F2:hint-la<=n:=by lia
   have F3:∀i,i<hint+1-min of (hint+1)->f i=true:=λi hi=>by
    rcases g5 with g5 | g5
    ·lia
    ·exact mono i (hint-of) (by lia) (by lia) g5
   have F4:∀i,hint-la<=i->i<n->f i=false:=λi h1 h2=>by
    cases hv:f i with
    |false=>rfl
    |true=>rw[mono (hint-la) i h1 h2 hv] at g4;cases g4
   exact K _ _ _ _ F1 F2 F3 F4
end
abbrev leK(L:wP->wP->Bool)(x y:wP):Prop:=L y x=false
structure MI(L:wP->wP->Bool)(a b out:List wP)(ia ib:Nat):Prop where
 la:ia<=a.length
 lb:ib<=b.length
 pm:out.Perm (a.take ia++b.take ib)
 pa:(out++a.drop ia).Pairwise (leK L)
 pb:(out++b.drop ib).Pairwise (leK L)
def dZ(L:wP->wP->Bool)(a b r:List wP):Prop:=r.Pairwise (leK L)/\r.Perm (a++b)
section
variable{L:wP->wP->Bool}{a b out:List wP}{ia ib:Nat}
theorem jd{l:List wP}{i:Nat}{x:wP}(h:l[i]?=some x):l.drop i=x::l.drop (i+1):=by
 obtain⟨h1,h2⟩:=Qi.mp h;rw[Q6 h1,h2]
theorem qu{l:List wP}{i:Nat}{x:wP}(h:l[i]?=some x):l.take (i+1)=l.take i++[x]:=by
 rw[List.take_add_one,h];rfl
theorem MI.pushB(h:MI L a b out ia ib){x:wP}(hb:b[ib]?=some x)(hx:∀y∈a.drop ia,leK L x y):MI L a b (out++[x]) ia (ib+1):=by
 have lt:ib<b.length:=(Qi.mp hb).1;obtain⟨p1,p2,p3⟩:=Qp.mp h.pa;have pb:=h.pb;rw[jd hb] at pb;obtain⟨q1,q2,q3⟩:=Qp.mp pb;refine⟨h.la,lt,?_,?_,?_⟩
 ·rw[qu hb,<-Qk]
  exact h.pm.append (List.Perm.refl _)
 ·rw[Qk]
  refine Qp.mpr ⟨p1,JO.mpr ⟨hx,p2⟩,λu hu v hv=>?_⟩;rcases ut.mp hv with rfl | hv9
  ·exact q3 u hu _ (Qh ..)
  ·exact p3 u hu v hv9
 ·rw[Qk]
  exact pb
theorem MI.pushA(h:MI L a b out ia ib){x:wP}(ha:a[ia]?=some x)(hx:∀y∈b.drop ib,leK L x y):MI L a b (out++[x]) (ia+1) ib:=by
 have lt:ia<a.length:=(Qi.mp ha).1;obtain⟨p1,p2,p3⟩:=Qp.mp h.pb;have pa:=h.pa;rw[jd ha] at pa;obtain⟨q1,q2,q3⟩:=Qp.mp pa;refine⟨lt,h.lb,?_,?_,?_⟩
 ·rw[qu ha]
  have:(a.take ia++[x]++b.take ib).Perm (a.take ia++b.take ib++[x]):=by
   rw[Qk,Qk];exact(List.Perm.refl _).append List.perm_append_comm
  exact(h.pm.append (List.Perm.refl _)).trans this.symm
 ·rw[Qk]
  exact pa
 ·rw[Qk]
  refine Qp.mpr ⟨p1,JO.mpr ⟨hx,p2⟩,λu hu v hv=>?_⟩;rcases ut.mp hv with rfl | hv9
  ·exact q3 u hu _ (Qh ..)
  ·exact p3 u hu v hv9
theorem kC{l:List wP}{i k:Nat}{x:wP}(h:l[i+k]?=some x):(l.drop i).take (k+1)=(l.drop i).take k++[x]:=by
 rw[List.take_add_one,Kc,h];rfl
theorem MI.chunkB(h:MI L a b out ia ib):∀(k:Nat),ib+k<=b.length->(∀i,i<k->∀x,b[ib+i]?=some x->∀y∈a.drop ia,leK L x y)->MI L a b (out++(b.drop ib).take k) ia (ib+k)
 |0,_,_=>by rw[List.take_zero,QW];exact h
 |k+1,hk,hx=>by
  have ih:=MI.chunkB h k (by lia) λi hi=>hx i (by lia);have e:b[ib+k]?=some b[ib+k]:=by simp
  have:=ih.pushB e (hx k (by lia) _ e);rw[kC e,<-Qk];exact this
theorem MI.chunkA(h:MI L a b out ia ib):∀(k:Nat),ia+k<=a.length->(∀i,i<k->∀x,a[ia+i]?=some x->∀y∈b.drop ib,leK L x y)->MI L a b (out++(a.drop ia).take k) (ia+k) ib
 |0,_,_=>by rw[List.take_zero,QW];exact h
 |k+1,hk,hx=>by
  have ih:=MI.chunkA h k (by lia) λi hi=>hx i (by lia);have e:a[ia+k]?=some a[ia+k]:=by simp
  have:=ih.pushA e (hx k (by lia) _ e);rw[kC e,<-Qk];exact this
theorem MI.perm(h:MI L a b out ia ib):(out++a.drop ia++b.drop ib).Perm (a++b):=by
 have e1:(a.take ia++b.take ib++a.drop ia++b.drop ib).Perm (a.take ia++a.drop ia++(b.take ib++b.drop ib)):=by
  rw[Qk,Qk,Qk];refine(List.Perm.refl _).append ?_;rw[<-Qk,<-Qk];exact List.perm_append_comm.append (List.Perm.refl _)
 rw[QL,QL] at e1;exact((h.pm.append (List.Perm.refl _)).append (List.Perm.refl _)).trans e1
theorem MI.finB(h:MI L a b out ia ib)(e:ib=b.length):dZ L a b (out++a.drop ia++b.drop ib):=by
 refine⟨?_,h.perm⟩;rw[e,JN,QW];exact h.pa
theorem MI.finA(h:MI L a b out ia ib)(e:ia=a.length):dZ L a b (out++a.drop ia++b.drop ib):=by
 refine⟨?_,h.perm⟩;rw[e,JN,QW];exact h.pb
theorem MI.lastA(h:MI L a b out ia ib){x:wP}(e:ia+1=a.length)(ha:a[ia]?=some x)(hx:∀y∈b,leK L y x):dZ L a b (out++b.drop ib++a.drop ia):=by
 have d:a.drop ia=[x]:=by rw[jd ha,e,JN]
 have pa:=h.pa;rw[d] at pa;obtain⟨q1,q2,q3⟩:=Qp.mp pa;refine⟨?_,?_⟩
 ·rw[d]
  refine Qp.mpr ⟨h.pb,by simp,λu hu v hv=>?_⟩;rw[xz.mp hv];rcases Qn.mp hu with hu | hu
  ·exact q3 u hu x (by simp)
  ·exact hx u (Zr hu)
 ·refine List.Perm.trans ?_ h.perm
  rw[Qk,Qk];exact(List.Perm.refl _).append List.perm_append_comm
theorem MI.lastB(h:MI L a b out ia ib){x:wP}(e:ib+1=b.length)(hb:b[ib]?=some x)(hx:∀y∈a,leK L y x):dZ L a b (out++a.drop ia++b.drop ib):=by
 have d:b.drop ib=[x]:=by rw[jd hb,e,JN]
 have pb:=h.pb;rw[d] at pb;obtain⟨q1,q2,q3⟩:=Qp.mp pb;refine⟨?_,h.perm⟩;rw[d];refine Qp.mpr ⟨h.pa,by simp,λu hu v hv=>?_⟩;rw[xz.mp hv];rcases Qn.mp hu with hu | hu
 ·exact q3 u hu x (by simp)
 ·exact hx u (Zr hu)
end
theorem MI.start{L:wP->wP->Bool}{a b:List wP}(sa:a.Pairwise (leK L))(sb:b.Pairwise (leK L)):MI L a b [] 0 0:=⟨QA _,QA _,by simp,by simpa using sa,by simpa using sb⟩
theorem fV{L:wP->wP->Bool}(as:∀x y,L x y=true->L y x=false){l:List wP}(h:l.Pairwise (leK L)){i j:Nat}{x y:wP}(hx:l[i]?=some x)(hy:l[j]?=some y)(ij:i<=j):leK L x y:=by
 obtain⟨h1,rfl⟩:=Qi.mp hx;obtain⟨h2,rfl⟩:=Qi.mp hy
 by_cases e:i=j
 ·subst e
  cases hv:L l[i] l[i] with
  |false=>exact hv
  |true=>have:=as _ _ hv;rw[hv] at this;cases this
 ·exact Zo.mp h i j h1 h2 (by lia)
theorem p_{L:wP->wP->Bool}{a b r:List wP}(h:dZ (λx y=>L y x) a.reverse b.reverse r):dZ L a b r.reverse:=by
 refine⟨ZO.mpr h.1,?_⟩;refine(List.reverse_perm r).trans (h.2.trans ?_);exact(List.reverse_perm a).append (List.reverse_perm b)
theorem uJ{l:List wP}{q:Nat}(h1:1<=q)(h2:q<=l.length):l.reverse[l.length-q]?=l[q-1]?:=by
 rw[List.getElem?_reverse (by lia)];congr 1
 lia
theorem eU{l:List wP}{q:Nat}(h:q<=l.length):l.reverse.drop (l.length-q)=(l.take q).reverse:=by
 rw[List.drop_reverse];congr 2
 lia
theorem p0{l:List wP}{p q:Nat}(h1:p<=q)(h2:q<=l.length):(l.reverse.drop (l.length-q)).take (q-p)=((l.drop p).take (q-p)).reverse:=by
 rw[eU h2,List.take_reverse,QI,List.drop_take];congr 3<;>lia
def j6:Nat->StateT QB Sem Unit:=sortPriv% PySem.Builtin.setMinGallop
def tf:Array wP->Array wP->StateT QB Sem (Array wP):=sortPriv% PySem.Builtin.mergeLo
section
variable{M:Model}{A:Qy}{E:vv->v6->Prop}{s:v6}{κ:J6}{S:wP->Prop}{L:wP->wP->Bool}
structure SmG(st st':QB):Prop where
 k:Q0 st'=Q0 st
 a:wS st'=wS st
 p:QN st'=QN st
 f:Jb st'=Jb st
theorem SmG.rf(st:QB):SmG st st:=⟨rfl,rfl,rfl,rfl⟩
theorem gQ{g:Nat}{st:QB}{Q:Unit->QB->Prop}(h:∀st',SmG st st'->Q () st'):wpS M A E s (j6 g) Q st:=by
 show wpS M A E s (modify λs=>Zb (Q0 s) (wS s) (QN s) g (Jb s)) Q st;exact ZU (h _ ⟨rfl,rfl,rfl,rfl⟩)
theorem SmG.tr{x y z:QB}(h:SmG x y)(g:SmG y z):SmG x z:=⟨g.k.trans h.k,g.a.trans h.a,g.p.trans h.p,g.f.trans h.f⟩
theorem d0{msg:String}{st:QB}{Q:Unit->QB->Prop}(h:Q () st):wpS M A E s (liftM (rule msg):StateT QB Sem Unit) Q st:=wpS_lift (ZQ ⟨rfl,h⟩)
theorem lC(x:Array wP)(i:Nat):(x.extract i).toList=x.toList.drop i:=by
 simp only[Array.toList_extract];exact Za (by simp:_<=_)
theorem uA(x:Array wP)(i k:Nat):(x.extract i (i+k)).toList=(x.toList.drop i).take k:=by simp
theorem atL{x:Array wP}{i:Nat}(h:i<x.size):x.toList[i]?=some x[i]:=by simp[h]
structure MG(L:wP->wP->Bool)(a b out:Array wP)(ia ib:Nat):Prop where
 mi:MI L a.toList b.toList out.toList ia ib
 la:ia+1<a.size
 lb:ib<b.size
theorem pX{M:Model}{A:Qy}{E:vv->v6->Prop}{s:v6}{σ α β:Type}{c:Prop}[Decidable c]{f:β->StateT σ Sem α}{x y:β}{Q:α->σ->Prop}{st:σ}(h:∀z,wpS M A E s (f z) Q st):wpS M A E s (if c then f x else f y) Q st:=by split<;>exact h _
theorem iY{M:Model}{A:Qy}{E:vv->v6->Prop}{s:v6}{σ α β γ:Type}{c:Prop}[Decidable c]{f:β->γ->StateT σ Sem α}{t:StateT σ Sem α}{x:β}{y:γ}{Q:α->σ->Prop}{st:σ}{P:β->γ->Prop}(h:∀x y,P x y->wpS M A E s (f x y) Q st)(h1:c->(∀x y,P x y->wpS M A E s (f x y) Q st)->wpS M A E s t Q st)(h2:¬c->P x y):wpS M A E s (if c then t else f x y) Q st:=by
 split
 ·exact h1 ‹_› h
 ·exact h _ _ (h2 ‹_›)
theorem oa(C:j_ M A E s κ S L)(as:∀x y,L x y=true->L y x=false)(tr:∀x y z,L y x=false->L z y=false->L z x=false){a b:Array wP}(hSa:∀x∈a.toList,S x)(hSb:∀x∈b.toList,S x)
  (sa:a.toList.Pairwise (leK L)) (sb:b.toList.Pairwise (leK L)) (na:1<=a.size) (nb:1<=b.size) (first:L b[0] a[0]=true) (last:∀y∈b.toList,L y a[a.size-1]=true) {st:QB} {Q:Array wP->QB->Prop} (hst:Q0 st=κ)
  (h:∀r st',SmG st st'->dZ L a.toList b.toList r.toList->Q r st'):wpS M A E s (tf a b) Q st:=by
 have sz:a.toList.length=a.size:=by simp
 have szb:b.toList.length=b.size:=by simp
 have leA:∀{x:wP} {ia:Nat} (hi:ia<a.size),leK L x a[ia]->∀y∈a.toList.drop ia,leK L x y:=λ{x ia} hi e y hy=>by
  obtain⟨j,hj⟩:=JT hy;rw[Kc] at hj;exact tr _ _ _ e (fV as sa (atL hi) hj (by lia))
 have leB:∀{x:wP} {ib:Nat} (hi:ib<b.size),leK L x b[ib]->∀y∈b.toList.drop ib,leK L x y:=λ{x ib} hi e y hy=>by
  obtain⟨j,hj⟩:=JT hy;rw[Kc] at hj;exact tr _ _ _ e (fV as sb (atL hi) hj (by lia))
 have lastF:∀{out:Array wP} {ia ib:Nat},MI L a.toList b.toList out.toList ia ib->ia+1=a.size->dZ L a.toList b.toList (out++b.extract ib++a.extract ia).toList:=λ{out ia ib} m e=>by
  rw[QV,QV,lC,lC];have hi:ia<a.size:=by lia
  have ei:ia=a.size-1:=by lia
  refine m.lastA (by omega) (atL hi) λy hy=>?_;have:=last y hy;subst ei;exact as _ _ this
 have doneF:∀{out:Array wP} {ia ib:Nat},MI L a.toList b.toList out.toList ia ib->(ib=b.size\/ia=a.size)->dZ L a.toList b.toList (out++a.extract ia++b.extract ib).toList:=λ{out ia ib} m e=>by
  rw[QV,QV,lC,lC];rcases e with e | e
  ·exact m.finB (by omega)
  ·exact m.finA (by omega)
 have pushB:∀{out:Array wP} {ia ib:Nat},MI L a.toList b.toList out.toList ia ib->(h1:ib<b.size)->(h2:ia<a.size)->leK L b[ib] a[ia]->MI L a.toList b.toList (out.push b[ib]).toList ia (ib+1):=λ{out ia ib} m h1 h2 e=>by
  rw[Zl];exact m.pushB (atL h1) (leA h2 e)
 have pushA:∀{out:Array wP} {ia ib:Nat},MI L a.toList b.toList out.toList ia ib->(h1:ia<a.size)->(h2:ib<b.size)->leK L a[ia] b[ib]->MI L a.toList b.toList (out.push a[ia]).toList (ia+1) ib:=λ{out ia ib} m h1 h2 e=>by
  rw[Zl];exact m.pushA (atL h1) (leB h2 e)
 refine wT (d0 (wT (aO nb ?_)));have m0:MI L a.toList b.toList (#[b[0]]:Array wP).toList 0 1:=(MI.start sa sb).pushB (atL nb) (leA na (as _ _ first))
 by_cases c1:(1==b.size)=true
 ·first | refine a9 c1 ?_ | rw[if_pos c1]
  have e:=beq_iff_eq.mp c1;exact Qd (h _ st (.rf st) (doneF m0 (.inl e)))
 first | refine aW c1 ?_ | rw[if_neg c1]
 by_cases c2:(0+1==a.size)=true
 ·first | refine a9 c2 ?_ | rw[if_pos c2]
  have e:=beq_iff_eq.mp c2;exact Qd (h _ st (.rf st) (lastF m0 e))
 first | refine aW c2 ?_ | rw[if_neg c2]
 have c1':¬1=b.size:=λe=>c1 (beq_iff_eq.mpr e);have c2':¬0+1=a.size:=λe=>c2 (beq_iff_eq.mpr e);refine wT (wpS_get ?_)
 refine wT (JF (Q4 (I:=λx c st'=>SmG st st'/\∃out ia ib g,c=(none,out,ia,ib,g)/\MG L a b out ia ib/\x+1<=ia+ib)
  (Q:=λc st'=>SmG st st'/\∃r,c.1=some r/\dZ L a.toList b.toList r.toList) ?_ ?_ ⟨.rf st,_,_,_,_,rfl,⟨m0,by lia,by lia⟩,by lia⟩) ?_)
 ·rintro x c st1 _ hx ⟨g1,out,ia,ib,g,rfl,G,pr⟩
  dsimp -zeta -zetaHave only
  refine wT (JF (Q4 (I:=λy c st'=>SmG st st'/\∃out' ia' ib' p q,c=(none,out',ia',ib',p,q)/\MG L a b out' ia' ib'/\ia+ib+y<=ia'+ib')
   (Q:=λc st'=>SmG st st'/\((∃out' ia' ib' p q,c=(none,out',ia',ib',p,q)/\MG L a b out' ia' ib'/\ia+ib+1<=ia'+ib')\/∃r,c.1=some r/\dZ L a.toList b.toList r.toList)) ?_ ?_ ⟨g1,_,_,_,_,_,rfl,G,by lia⟩) ?_)
  ·rintro y c st2 _ hy ⟨g2,out',ia',ib',p,q,rfl,G',pr'⟩
   dsimp only;have la:=G'.la;have lb:=G'.lb;have la':ia'<a.size:=by lia
   refine wT (aO lb (wT (aO la' (wT (C _ _ st2 _ (hSb _ (by simp)) (hSa _ (by simp)) (g2.k.trans hst) ?_)))));dsimp only;cases hw:L b[ib'] a[ia'] with
   |true=>
    first | refine a9 rfl ?_ | rw[if_pos rfl]
    refine wT (aO lb ?_);have m:=pushB G'.mi lb la' (as _ _ hw)
    by_cases d1:(ib'+1==b.size)=true
    ·first | refine a9 d1 ?_ | rw[if_pos d1]
     exact Qd ⟨g2,.inr ⟨_,rfl,doneF m (.inl (beq_iff_eq.mp d1))⟩⟩
    ·first | refine aW d1 ?_ | rw[if_neg d1]
     have d1':¬ib'+1=b.size:=λe=>d1 (beq_iff_eq.mpr e);split
     ·exact Qd ⟨g2,.inl ⟨_,_,_,_,_,rfl,⟨m,la,by lia⟩,by lia⟩⟩
     ·exact Qd ⟨g2,_,_,_,_,_,rfl,⟨m,la,by lia⟩,by lia⟩
   |false=>
    first | refine aW ww ?_ | rw[if_neg ww]
    refine wT (aO la' ?_);have m:=pushA G'.mi la' lb hw
    by_cases d1:(ia'+1+1==a.size)=true
    ·first | refine a9 d1 ?_ | rw[if_pos d1]
     exact Qd ⟨g2,.inr ⟨_,rfl,lastF m (beq_iff_eq.mp d1)⟩⟩
    ·first | refine aW d1 ?_ | rw[if_neg d1]
     have d1':¬ia'+1+1=a.size:=λe=>d1 (beq_iff_eq.mpr e);split
     ·exact Qd ⟨g2,.inl ⟨_,_,_,_,_,rfl,⟨m,by lia,lb⟩,by lia⟩⟩
     ·exact Qd ⟨g2,_,_,_,_,_,rfl,⟨m,by lia,lb⟩,by lia⟩
  ·rintro c st2 ⟨g2,out',ia',ib',p,q,rfl,G',pr'⟩
   exact⟨g2,.inl ⟨_,_,_,_,_,rfl,G',by lia⟩⟩
  ·rintro c st2 ⟨g2,⟨out',ia',ib',p,q,rfl,G',pr'⟩ | ⟨r,e,fr⟩⟩
   ·dsimp -zeta -zetaHave only
    refine wT (d0 ?_)
    refine wT (JF (Q4 (I:=λy c st'=>SmG st st'/\∃out ia2 ib2 g p q,c=(none,out,ia2,ib2,g,p,q)/\MG L a b out ia2 ib2/\ia+ib+1<=ia2+ib2)
     (Q:=λc st'=>SmG st st'/\((∃out ia2 ib2 g p q,c=(none,out,ia2,ib2,g,p,q)/\MG L a b out ia2 ib2/\ia+ib+1<=ia2+ib2)\/∃r,c.1=some r/\dZ L a.toList b.toList r.toList)) ?_ ?_ ⟨g2,_,_,_,_,_,_,rfl,G',pr'⟩) ?_)
    ·rintro y c st3 _ hy ⟨g3,out,ia2,ib2,g,p,q,rfl,G2,pr2⟩
     dsimp -zeta -zetaHave only
     extract_lets s1 o1 s2 i1 s3 b1 s4 mg s5 ac bc ib1 jp mg1
     refine pX (f:=λz=>jp () z) λg'=>?_;dsimp -zeta -zetaHave only[jp,ib1,o1,i1,b1,s1,s2,s3,s4,s5,ac,bc];have la:=G2.la;have lb:=G2.lb;have la2:ia2<a.size:=by lia
     refine wT (gQ λst4 g4=>wT (aO lb (wT (cS C (f:=λi=>!L b[ib2] (a.getD (ia2+i) b[ib2])) hSa (hSb _ (by simp)) (by lia) (by lia) ((g3.tr g4).k.trans hst) (λi hi _=>by simp[byd,Array.getD,hi]) (λi j ij hj e=>?_) λk hk h1 h2=>?_))))
     ·have hj':ia2+j<a.size:=by lia
      have hi':ia2+i<a.size:=by lia
      simp only[Array.getD,hi',hj',dite_true,JW] at e ⊢;exact tr _ _ _ (fV as sa (atL hi') (atL hj') (by lia)) e
     dsimp -zeta -zetaHave only
     have ch:∀i,i<k->∀x,a.toList[ia2+i]?=some x->∀y∈b.toList.drop ib2,leK L x y:=λi hi x hx=>by
      have hi':ia2+i<a.size:=by lia
      have e:=h1 i hi;simp only[Array.getD,hi',dite_true,JW] at e;rw[atL hi'] at hx;cases hx;exact leB lb e
     have m1:=G2.mi.chunkA k (by lia) ch;rw[<-uA,<-QV] at m1
     have kl:ia2+k<a.size:=by
      rcases Nat.lt_or_ge (ia2+k) a.size with hlt | hge
      ·exact hlt
      ·have e:=h1 (a.size-1-ia2) (by lia)
       have e5:ia2+(a.size-1-ia2)=a.size-1:=by lia
       have hi':a.size-1<a.size:=by omega
       simp only[e5,Array.getD,hi',dite_true,JW] at e;have e2:=last b[ib2] (by simp);exact absurd (e2.symm.trans e) (by decide)
     have lkb:leK L b[ib2] (a[ia2+k]'kl):=by
      have e:=h2 k (wp _) (by lia);simp only[Array.getD,kl,dite_true,Bool.not_eq_false'] at e;exact as _ _ e
     extract_lets ac2 jp2 ou ii
     refine iY (f:=λx y=>jp2 () x y) (P:=λx y=>MI L a.toList b.toList x.toList y ib2/\(ia2<=y/\y+1<a.size)/\∃h:y<a.size,leK L b[ib2] a[y]) (λo2 i2 hp=>?_) (λhk0 T=>?_) λhk0=>?_
     ·obtain⟨mm,⟨il,lz⟩,la1,lk⟩:=hp
      dsimp -zeta -zetaHave only[jp2,ac2];refine wT (aO lb ?_);have m2:=pushB mm lb la1 lk
      by_cases d2:(ib2+1==b.size)=true
      ·refine a9 d2 ?_
       exact Qd ⟨g3.tr g4,.inr ⟨_,rfl,doneF m2 (.inl (beq_iff_eq.mp d2))⟩⟩
      refine aW d2 ?_;have d2':¬ib2+1=b.size:=λe=>d2 (beq_iff_eq.mpr e);refine wT (aO la1 (wT (cS C (f:=λi=>L (b.getD (ib2+1+i) a[i2]) a[i2]) hSb (hSa _ (by simp)) (by lia) (by lia) ((g3.tr g4).k.trans hst) (λi hi _=>by simp[byd,Array.getD,hi]) (λi j ij hj e=>?_) λk2 hk2 h3 h4=>?_)))
      ·have hj':ib2+1+j<b.size:=by lia
       have hi':ib2+1+i<b.size:=by lia
       simp only[Array.getD,hi',hj',dite_true] at e ⊢;cases hv:L (b[ib2+1+i]'hi') a[i2] with
       |true=>rfl
       |false=>have z:=tr _ _ _ hv (fV as sb (atL hi') (atL hj') (by lia));exact absurd (e.symm.trans z) (by decide)
      dsimp -zeta -zetaHave only
      have ch:∀i,i<k2->∀x,b.toList[ib2+1+i]?=some x->∀y∈a.toList.drop i2,leK L x y:=λi hi x hx=>by
       have hi':ib2+1+i<b.size:=by lia
       have e:=h3 i hi;simp only[Array.getD,hi',dite_true] at e;rw[atL hi'] at hx;cases hx;exact leA la1 (as _ _ e)
      extract_lets bc2 ia3 jp3 ou3 ib3
      refine iY (f:=λx y=>jp3 () x y) (P:=λx y=>MI L a.toList b.toList x.toList i2 y/\ib2+1<=y/\∃h:y<b.size,leK L a[i2] b[y]) (λo4 i4 hp=>?_) (λhk20 T=>?_) λhk20=>?_
      ·obtain⟨m3,jl,lb3,lka⟩:=hp
       dsimp -zeta -zetaHave only[jp3,bc2,ia3];refine wT (aO la1 ?_);have m4:=pushA m3 la1 lb3 lka
       by_cases d3:(i2+1+1==a.size)=true
       ·refine a9 d3 ?_
        exact Qd ⟨g3.tr g4,.inr ⟨_,rfl,lastF m4 (beq_iff_eq.mp d3)⟩⟩
       refine aW d3 ?_;have d3':¬i2+1+1=a.size:=λe=>d3 (beq_iff_eq.mpr e);split
       ·exact Qd ⟨g3.tr g4,.inl ⟨_,_,_,_,_,_,rfl,⟨m4,by lia,lb3⟩,by lia⟩⟩
       ·exact Qd ⟨g3.tr g4,_,_,_,_,_,_,rfl,⟨m4,by lia,lb3⟩,by lia⟩
      ·have m3:=m2.chunkB k2 (by lia) ch
       rw[<-uA,<-QV] at m3
       by_cases d4:(ib2+1+k2==b.size)=true
       ·refine a9 d4 ?_
        exact Qd ⟨g3.tr g4,.inr ⟨_,rfl,doneF m3 (.inl (beq_iff_eq.mp d4))⟩⟩
       refine aW d4 ?_;have d4':¬ib2+1+k2=b.size:=λe=>d4 (beq_iff_eq.mpr e);have lb3:ib2+1+k2<b.size:=by lia
       refine T _ _ ⟨m3,by show ib2+1<=ib2+1+k2;lia,lb3,?_⟩;have e:=h4 k2 (wp _) (by lia);simp only[Array.getD,lb3,dite_true] at e;exact e
      ·have e0:k2=0:=by lia
       subst e0;have lb3:ib2+1<b.size:=by lia
       refine⟨m2,wp _,lb3,?_⟩;have e:=h4 0 (wp _) (by lia);simp only[Array.getD,lb3,dite_true,Nat.add_zero] at e;exact e
     ·by_cases d1:(ia2+k+1==a.size)=true
      ·refine a9 d1 ?_
       exact Qd ⟨g3.tr g4,.inr ⟨_,rfl,lastF m1 (beq_iff_eq.mp d1)⟩⟩
      refine aW d1 ?_
      by_cases d5:(ia2+k==a.size)=true
      ·refine a9 d5 ?_
       exact Qd ⟨g3.tr g4,.inr ⟨_,rfl,doneF m1 (.inr (beq_iff_eq.mp d5))⟩⟩
      have d1':¬ia2+k+1=a.size:=λe=>d1 (beq_iff_eq.mpr e);exact aW d5 (T _ _ ⟨m1,⟨by show ia2<=ia2+k;lia,by show ia2+k+1<a.size;lia⟩,kl,lkb⟩)
     ·have e0:k=0:=by lia
      subst e0;exact⟨G2.mi,⟨wp _,la⟩,la2,by simpa only[Nat.add_zero] using lkb⟩
    ·rintro c st3 ⟨g3,out',ia',ib',g',p,q,rfl,G',pr'⟩
     exact⟨g3,.inl ⟨_,_,_,_,_,_,rfl,G',pr'⟩⟩
    ·rintro c st3 ⟨g3,⟨out',ia',ib',g',p,q,rfl,G',pr'⟩ | ⟨r,e,fr⟩⟩
     ·dsimp only
      refine wT (gQ λst4 g4=>Qd ⟨g3.tr g4,_,_,_,_,rfl,G',by lia⟩)
     ·obtain⟨c1,c2⟩:=c
      cases e;exact Qd ⟨g3,r,rfl,fr⟩
   ·obtain⟨c1,c2⟩:=c
    cases e;exact Qd ⟨g2,r,rfl,fr⟩
 ·rintro c st1 ⟨g1,out,ia,ib,g,rfl,G,pr⟩
  have:=G.la;have:=G.lb
  lia
 ·rintro c st1 ⟨g1,r,e,fr⟩
  obtain⟨c1,c2⟩:=c;cases e;exact Qd (h r st1 g1 fr)
end
theorem ixs{n m i t:Nat}(hi:i<m-t)(hm:m<=n):1<=m-i/\m-i<=n/\n-(m-i)=n-m+i/\m-i-1<n/\t<=m-i-1/\m-i-1<m:=by
 have hl:i<m:=Qw hi (Nat.sub_le ..);have h1:0<m-i:=Nat.sub_pos_of_lt hl;have h2:m-i-1<m:=Nat.sub_one_lt_of_le h1 (Nat.sub_le ..);exact⟨h1,QO (Nat.sub_le ..) hm,(Nat.sub_sub_right n (QZ hl)).trans (Nat.sub_add_comm hm),Qw h2 hm,Nat.le_sub_one_of_lt (Nat.lt_sub_of_add_lt (Nat.add_comm i t▸Nat.add_lt_of_lt_sub hi)),h2⟩
def ub:Array wP->Array wP->StateT QB Sem (Array wP):=sortPriv% PySem.Builtin.mergeHi
abbrev op(L:wP->wP->Bool):wP->wP->Bool:=λx y=>L y x
theorem l3(x:Array wP)(i:Nat):(x.extract 0 i).toList=x.toList.take i:=by simp
theorem uy(x:Array wP)(p q:Nat):(x.extract p q).reverse.toList=((x.toList.drop p).take (q-p)).reverse:=by simp
abbrev MR(L:wP->wP->Bool)(a b out:Array wP)(na nb:Nat):Prop:=MI (op L) a.toList.reverse b.toList.reverse out.toList (a.size-na) (b.size-nb)
structure MH(L:wP->wP->Bool)(a b out:Array wP)(na nb:Nat):Prop where
 mi:MR L a b out na nb
 la:1<=na
 la':na<=a.size
 lb:2<=nb
 lb':nb<=b.size
section
variable{M:Model}{A:Qy}{E:vv->v6->Prop}{s:v6}{κ:J6}{S:wP->Prop}{L:wP->wP->Bool}
theorem nI(C:j_ M A E s κ S L)(as:∀x y,L x y=true->L y x=false)(tr:∀x y z,L y x=false->L z y=false->L z x=false){a b:Array wP}(hSa:∀x∈a.toList,S x)(hSb:∀x∈b.toList,S x)
  (sa:a.toList.Pairwise (leK L)) (sb:b.toList.Pairwise (leK L)) (na:1<=a.size) (nb:1<=b.size) (first:∀y∈a.toList,L b[0] y=true) (last:L b[b.size-1] a[a.size-1]=true) {st:QB} {Q:Array wP->QB->Prop} (hst:Q0 st=κ)
  (h:∀r st',SmG st st'->dZ L a.toList b.toList r.toList->Q r st'):wpS M A E s (ub a b) Q st:=by
 have sz:a.toList.length=a.size:=by simp
 have szb:b.toList.length=b.size:=by simp
 have szr:a.toList.reverse.length=a.size:=by simp
 have szbr:b.toList.reverse.length=b.size:=by simp
 have atA:∀{n:Nat} (h1:1<=n) (h2:n<=a.size),a.toList.reverse[a.size-n]?=some (a[n-1]'(by lia)):=λ{n} h1 h2=>by
  have:=uJ (l:=a.toList) h1 (by lia);rw[sz] at this;rw[this];exact atL (by lia)
 have atB:∀{n:Nat} (h1:1<=n) (h2:n<=b.size),b.toList.reverse[b.size-n]?=some (b[n-1]'(by lia)):=λ{n} h1 h2=>by
  have:=uJ (l:=b.toList) h1 (by lia);rw[szb] at this;rw[this];exact atL (by lia)
 have leA:∀{x:wP} {n:Nat} (h1:1<=n) (h2:n<=a.size),leK L (a[n-1]'(by lia)) x->∀y∈a.toList.reverse.drop (a.size-n),leK (op L) x y:=λ{x n} h1 h2 e y hy=>by
  have:=eU (l:=a.toList) (q:=n) (by lia);rw[sz] at this;rw[this,J5] at hy;obtain⟨j,hj⟩:=JT hy;obtain⟨hj1,hj2⟩:=Qi.mp hj;rw[QI] at hj1;have hj3:a.toList[j]?=some y:=by rw[JQ,if_pos (by lia)] at hj;exact hj
  exact tr _ _ _ (fV as sa hj3 (atL (show n-1<a.size by lia)) (by lia)) e
 have leB:∀{x:wP} {n:Nat} (h1:1<=n) (h2:n<=b.size),leK L (b[n-1]'(by lia)) x->∀y∈b.toList.reverse.drop (b.size-n),leK (op L) x y:=λ{x n} h1 h2 e y hy=>by
  have:=eU (l:=b.toList) (q:=n) (by lia);rw[szb] at this;rw[this,J5] at hy;obtain⟨j,hj⟩:=JT hy;obtain⟨hj1,hj2⟩:=Qi.mp hj;rw[QI] at hj1;have hj3:b.toList[j]?=some y:=by rw[JQ,if_pos (by lia)] at hj;exact hj
  exact tr _ _ _ (fV as sb hj3 (atL (show n-1<b.size by lia)) (by lia)) e
 have rA:∀{n:Nat},n<=a.size->a.toList.reverse.drop (a.size-n)=(a.toList.take n).reverse:=λ{n} hn=>by have:=eU (l:=a.toList) (q:=n) (by lia);rw[sz] at this;exact this
 have rB:∀{n:Nat},n<=b.size->b.toList.reverse.drop (b.size-n)=(b.toList.take n).reverse:=λ{n} hn=>by have:=eU (l:=b.toList) (q:=n) (by lia);rw[szb] at this;exact this
 have firstF:∀{out:Array wP} {x y:Nat},MR L a b out x y->x<=a.size->y=1->dZ L a.toList b.toList (b.extract 0 y++a.extract 0 x++out.reverse).toList:=λ{out x y} m hx e=>by
  subst e;have f:=m.lastB (by rw[szbr];lia) (atB (wp _) nb) λz hz=>as _ _ (first z (J5.mp hz));rw[rA hx,rB nb] at f;have f2:=p_ f;rw[Z1,Z1,Zq,Zq,<-Qk] at f2;rw[QV,QV,l3,l3,Array.toList_reverse];exact f2
 have doneF:∀{out:Array wP} {x y:Nat},MR L a b out x y->x<=a.size->y<=b.size->(x=0\/y=0)->dZ L a.toList b.toList (a.extract 0 x++b.extract 0 y++out.reverse).toList:=λ{out x y} m hx hy e=>by
  have f:dZ (op L) a.toList.reverse b.toList.reverse (out.toList++a.toList.reverse.drop (a.size-x)++b.toList.reverse.drop (b.size-y)):=by
   rcases e with e | e
   ·exact m.finA (by rw[szr];lia)
   ·exact m.finB (by rw[szbr];lia)
  rw[rA hx,rB hy] at f;have f2:=p_ f;rw[Z1,Z1,Zq,Zq,<-Qk] at f2;rw[QV,QV,l3,l3,Array.toList_reverse];rcases e with e | e
  ·subst e
   simpa using f2
  ·subst e
   simpa using f2
 have pushB:∀{out:Array wP} {x y:Nat},MR L a b out x y->(h1:1<=x)->(h2:x<=a.size)->(h3:1<=y)->(h4:y<=b.size)->leK L (a[x-1]'(by lia)) (b[y-1]'(by lia))->MR L a b (out.push (b[y-1]'(by lia))) x (y-1):=λ{out x y} m h1 h2 h3 h4 e=>by
  show MI _ _ _ (out.push _).toList _ _;rw[Zl,show b.size-(y-1)=b.size-y+1 by lia];exact m.pushB (atB h3 h4) (leA h1 h2 e)
 have pushA:∀{out:Array wP} {x y:Nat},MR L a b out x y->(h1:1<=x)->(h2:x<=a.size)->(h3:1<=y)->(h4:y<=b.size)->leK L (b[y-1]'(by lia)) (a[x-1]'(by lia))->MR L a b (out.push (a[x-1]'(by lia))) (x-1) y:=λ{out x y} m h1 h2 h3 h4 e=>by
  show MI _ _ _ (out.push _).toList _ _;rw[Zl,show a.size-(x-1)=a.size-x+1 by lia];exact m.pushA (atA h1 h2) (leB h3 h4 e)
 have nl:a.size-1<a.size:=by lia
 refine wT (d0 (wT (aO nl ?_)))
 have ms:MR L a b #[] a.size b.size:=by
  show MI _ _ _ _ (a.size-a.size) (b.size-b.size);rw[Nat.sub_self,Nat.sub_self];exact MI.start (ZO.mpr sa) (ZO.mpr sb)
 have m0:=pushA ms na (wp _) nb (wp _) (as _ _ last)
 by_cases c1:(a.size-1==0)=true
 ·first | refine a9 c1 ?_ | rw[if_pos c1]
  exact Qd (h _ st (.rf st) (doneF m0 (by lia) (wp _) (.inl (beq_iff_eq.mp c1))))
 first | refine aW c1 ?_ | rw[if_neg c1]
 by_cases c2:(b.size==1)=true
 ·first | refine a9 c2 ?_ | rw[if_pos c2]
  exact Qd (h _ st (.rf st) (firstF m0 (by lia) (beq_iff_eq.mp c2)))
 first | refine aW c2 ?_ | rw[if_neg c2]
 have c1':¬a.size-1=0:=λe=>c1 (beq_iff_eq.mpr e);have c2':¬b.size=1:=λe=>c2 (beq_iff_eq.mpr e);refine wT (wpS_get ?_)
 refine wT (JF (Q4 (I:=λx c st'=>SmG st st'/\∃u v out g,c=(none,u,v,out,g)/\MH L a b out u v/\x+1<=(a.size-u)+(b.size-v))
  (Q:=λc st'=>SmG st st'/\∃r,c.1=some r/\dZ L a.toList b.toList r.toList) ?_ ?_ ⟨.rf st,_,_,_,_,rfl,⟨m0,by lia,by lia,by lia,wp _⟩,by lia⟩) ?_)
 ·rintro x c st1 _ hx ⟨g1,u,v,out,g,rfl,G,pr⟩
  dsimp -zeta -zetaHave only
  refine wT (JF (Q4 (I:=λy c st'=>SmG st st'/\∃u' v' out' p q,c=(none,u',v',out',p,q)/\MH L a b out' u' v'/\(a.size-u)+(b.size-v)+y<=(a.size-u')+(b.size-v'))
   (Q:=λc st'=>SmG st st'/\((∃u' v' out' p q,c=(none,u',v',out',p,q)/\MH L a b out' u' v'/\(a.size-u)+(b.size-v)+1<=(a.size-u')+(b.size-v'))\/∃r,c.1=some r/\dZ L a.toList b.toList r.toList)) ?_ ?_ ⟨g1,_,_,_,_,_,rfl,G,by lia⟩) ?_)
  ·rintro y c st2 _ hy ⟨g2,u',v',out',p,q,rfl,G',pr'⟩
   dsimp only;obtain⟨m,la,la',lb,lb'⟩:=G';have hb:v'-1<b.size:=by lia
   have ha:u'-1<a.size:=by lia
   refine wT (aO hb (wT (aO ha (wT (C _ _ st2 _ (hSb _ (by simp)) (hSa _ (by simp)) (g2.k.trans hst) ?_)))));dsimp only;cases hw:L b[v'-1] a[u'-1] with
   |true=>
    first | refine a9 rfl ?_ | rw[if_pos rfl]
    refine wT (aO ha ?_);have m1:=pushA m la la' (by lia) lb' (as _ _ hw)
    by_cases d1:(u'-1==0)=true
    ·first | refine a9 d1 ?_ | rw[if_pos d1]
     exact Qd ⟨g2,.inr ⟨_,rfl,doneF m1 (by lia) lb' (.inl (beq_iff_eq.mp d1))⟩⟩
    ·first | refine aW d1 ?_ | rw[if_neg d1]
     have d1':¬u'-1=0:=λe=>d1 (beq_iff_eq.mpr e);split
     ·exact Qd ⟨g2,.inl ⟨_,_,_,_,_,rfl,⟨m1,by lia,by lia,lb,lb'⟩,by lia⟩⟩
     ·exact Qd ⟨g2,_,_,_,_,_,rfl,⟨m1,by lia,by lia,lb,lb'⟩,by lia⟩
   |false=>
    first | refine aW ww ?_ | rw[if_neg ww]
    refine wT (aO hb ?_);have m1:=pushB m la la' (by lia) lb' hw
    by_cases d1:(v'-1==1)=true
    ·first | refine a9 d1 ?_ | rw[if_pos d1]
     exact Qd ⟨g2,.inr ⟨_,rfl,firstF m1 la' (beq_iff_eq.mp d1)⟩⟩
    ·first | refine aW d1 ?_ | rw[if_neg d1]
     have d1':¬v'-1=1:=λe=>d1 (beq_iff_eq.mpr e);split
     ·exact Qd ⟨g2,.inl ⟨_,_,_,_,_,rfl,⟨m1,la,la',by lia,by lia⟩,by lia⟩⟩
     ·exact Qd ⟨g2,_,_,_,_,_,rfl,⟨m1,la,la',by lia,by lia⟩,by lia⟩
  ·rintro c st2 ⟨g2,u',v',out',p,q,rfl,G',pr'⟩
   exact⟨g2,.inl ⟨_,_,_,_,_,rfl,G',by lia⟩⟩
  ·rintro c st2 ⟨g2,⟨u',v',out',p,q,rfl,G',pr'⟩ | ⟨r,e,fr⟩⟩
   ·dsimp -zeta -zetaHave only
    refine wT (d0 ?_)
    refine wT (JF (Q4 (I:=λy c st'=>SmG st st'/\∃u2 v2 out g p q,c=(none,u2,v2,out,g,p,q)/\MH L a b out u2 v2/\(a.size-u)+(b.size-v)+1<=(a.size-u2)+(b.size-v2))
     (Q:=λc st'=>SmG st st'/\((∃u2 v2 out g p q,c=(none,u2,v2,out,g,p,q)/\MH L a b out u2 v2/\(a.size-u)+(b.size-v)+1<=(a.size-u2)+(b.size-v2))\/∃r,c.1=some r/\dZ L a.toList b.toList r.toList)) ?_ ?_ ⟨g2,_,_,_,_,_,_,rfl,G',pr'⟩) ?_)
    ·rintro y c st3 _ hy ⟨g3,u2,v2,out,g,p,q,rfl,G2,pr2⟩
     dsimp -zeta -zetaHave only;obtain⟨m,la,la',lb,lb'⟩:=G2;have hb:v2-1<b.size:=by lia
     extract_lets s1 i1 s2 b1 s3 o1 s4 mg s5 ac bc x1 jp mg1
     refine pX (f:=λz=>jp () z) λg'=>?_;dsimp -zeta -zetaHave only[jp,x1,i1,b1,o1,s1,s2,s3,s4,s5,ac,bc];refine wT (gQ λst4 g4=>wT (aO hb (wT (cS C (f:=λi=>!L b[v2-1] (a.getD (0+i) b[v2-1])) hSa (hSb _ (by simp)) (by lia) (by lia) ((g3.tr g4).k.trans hst) (λi hi _=>by simp only[byd,Array.getD,hi,dite_true];rfl) (λi j ij hj e=>?_) λt ht h1 h2=>?_))))
     ·have hj':0+j<a.size:=by lia
      have hi':0+i<a.size:=by lia
      simp only[Array.getD,hi',hj',dite_true,JW] at e ⊢;exact tr _ _ _ (fV as sa (atL hi') (atL hj') (by lia)) e
     dsimp -zeta -zetaHave only
     have ch:∀i,i<u2-t->∀x,a.toList.reverse[a.size-u2+i]?=some x->∀y∈b.toList.reverse.drop (b.size-v2),leK (op L) x y:=λi hi x hx=>by
      obtain⟨q1,q2,q3,q4,q5,q6⟩:=ixs (n:=a.size) hi (by omega);have hx2:=atA (n:=u2-i) (by first | assumption | omega) (by first | assumption | omega);rw[q3,hx] at hx2;cases hx2;have hj':=q4;have e:=h2 (u2-i-1) (by first | assumption | omega) (by first | assumption | omega);simp only[Array.getD,hj',dite_true,Ja,Bool.not_eq_false'] at e;exact leB (by lia) lb' (as _ _ e)
     have low:∀i (hi:i<a.size),i<t->leK L a[i] b[v2-1]:=λi hi it=>by
      have hj':i<a.size:=by lia
      have e:=h1 i it;simp only[Array.getD,hj',dite_true,Ja,JW] at e;exact e
     extract_lets kk ac2 jp2 ou ii
     refine iY (f:=λx y=>jp2 () x y) (P:=λx y=>MR L a b y x v2/\(1<=x/\x<=u2)/\∃h:x-1<a.size,leK L a[x-1] b[v2-1]) (λi2 o2 hp=>?_) (λhk0 T=>?_) λhk0=>?_
     ·obtain⟨mm,⟨hU1,hx2⟩,haU,lkb⟩:=hp
      have hU2:i2<=a.size:=by lia
      dsimp -zeta -zetaHave only[jp2,ac2,kk];refine wT (aO hb ?_);have m2:=pushB mm hU1 hU2 (by lia) lb' lkb
      by_cases d2:(v2-1==1)=true
      ·refine a9 d2 ?_
       exact Qd ⟨g3.tr g4,.inr ⟨_,rfl,firstF m2 hU2 (beq_iff_eq.mp d2)⟩⟩
      refine aW d2 ?_;have d2':¬v2-1=1:=λe=>d2 (beq_iff_eq.mpr e);refine wT (aO haU (wT (cS C (f:=λi=>L (b.getD (0+i) a[i2-1]) a[i2-1]) hSb (hSa _ (by simp)) (by lia) (by lia) ((g3.tr g4).k.trans hst) (λi hi _=>by simp only[byd,Array.getD,hi,dite_true,if_true];rfl) (λi j ij hj e=>?_) λt2 ht2 h3 h4=>?_)))
      ·have hj':0+j<b.size:=by lia
       have hi':0+i<b.size:=by lia
       simp only[Array.getD,hi',hj',dite_true] at e ⊢;cases hv:L (b[0+i]'hi') a[i2-1] with
       |true=>rfl
       |false=>have z:=tr _ _ _ hv (fV as sb (atL hi') (atL hj') (by lia));exact absurd (e.symm.trans z) (by decide)
      dsimp -zeta -zetaHave only
      have ch:∀i,i<v2-1-t2->∀x,b.toList.reverse[b.size-(v2-1)+i]?=some x->∀y∈a.toList.reverse.drop (a.size-i2),leK (op L) x y:=λi hi x hx=>by
       obtain⟨q1,q2,q3,q4,q5,q6⟩:=ixs (n:=b.size) hi (by omega);have hx2:=atB (n:=v2-1-i) (by first | assumption | omega) (by first | assumption | omega);rw[q3,hx] at hx2;cases hx2;have hj':=q4;have e:=h4 (v2-1-i-1) (by first | assumption | omega) (by first | assumption | omega);simp only[Array.getD,hj',dite_true,Ja] at e;exact leA hU1 hU2 e
      have lkA:∀i (hi:i<b.size),i<t2->leK L b[i] a[i2-1]:=λi hi it=>by
       have hj':i<b.size:=hi;have e:=h3 i it;simp only[Array.getD,hj',dite_true,Ja] at e;exact as _ _ e
      extract_lets k3 bc2 na3 jp3 ou3 nb3
      refine iY (f:=λx y=>jp3 () x y) (P:=λx y=>MR L a b y i2 x/\(2<=x/\x<=v2-1)/\∃h:x-1<b.size,leK L b[x-1] a[i2-1]) (λi4 o4 hp=>?_) (λhk20 T=>?_) λhk20=>?_
      ·obtain⟨m3,⟨hV0,hV4⟩,hV3,lka⟩:=hp
       have hV2:i4<=b.size:=by lia
       dsimp -zeta -zetaHave only[jp3,bc2,na3,k3];refine wT (aO haU ?_);have m4:=pushA m3 hU1 hU2 (by lia) hV2 lka
       by_cases d3:(i2-1==0)=true
       ·refine a9 d3 ?_
        exact Qd ⟨g3.tr g4,.inr ⟨_,rfl,doneF m4 (by lia) hV2 (.inl (beq_iff_eq.mp d3))⟩⟩
       refine aW d3 ?_;have d3':¬i2-1=0:=λe=>d3 (beq_iff_eq.mpr e);have pr3:a.size-u+(b.size-v)+1<=a.size-(i2-1)+(b.size-i4):=by lia
       split
       ·exact Qd ⟨g3.tr g4,.inl ⟨_,_,_,_,_,_,rfl,⟨m4,by lia,by lia,hV0,hV2⟩,pr3⟩⟩
       ·exact Qd ⟨g3.tr g4,_,_,_,_,_,_,rfl,⟨m4,by lia,by lia,hV0,hV2⟩,pr3⟩
      ·have hk21:v2-1-t2>0:=hk20
       have m3:=m2.chunkB (v2-1-t2) (by rw[szbr];lia) ch;have cut:=p0 (l:=b.toList) (p:=t2) (q:=v2-1) ht2 (by lia);rw[szb] at cut;rw[cut,<-uy,<-QV,show b.size-(v2-1)+(v2-1-t2)=b.size-t2 by lia] at m3
       by_cases d4:(t2==1)=true
       ·refine a9 d4 ?_
        exact Qd ⟨g3.tr g4,.inr ⟨_,rfl,firstF m3 hU2 (beq_iff_eq.mp d4)⟩⟩
       refine aW d4 ?_
       by_cases d5:(t2==0)=true
       ·refine a9 d5 ?_
        exact Qd ⟨g3.tr g4,.inr ⟨_,rfl,doneF m3 hU2 (by lia) (.inr (beq_iff_eq.mp d5))⟩⟩
       have d4':¬t2=1:=λe=>d4 (beq_iff_eq.mpr e);have d5':¬t2=0:=λe=>d5 (beq_iff_eq.mpr e);have hV3:t2-1<b.size:=by lia
       exact aW d5 (T t2 _ ⟨m3,⟨by lia,by lia⟩,hV3,lkA _ hV3 (by lia)⟩)
      ·have e0:t2=v2-1:=by have:¬v2-1-t2>0:=hk20;lia
       have hV3:v2-1-1<b.size:=by lia
       exact⟨m2,⟨by lia,wp _⟩,hV3,lkA _ hV3 (by lia)⟩
     ·have hk1:u2-t>0:=hk0
      have m1:=m.chunkA (u2-t) (by rw[szr];lia) ch;have cut:=p0 (l:=a.toList) (p:=t) (q:=u2) ht (by lia);rw[sz] at cut;rw[cut,<-uy,<-QV,show a.size-u2+(u2-t)=a.size-t by lia] at m1
      by_cases d1:(t==0)=true
      ·refine a9 d1 ?_
       exact Qd ⟨g3.tr g4,.inr ⟨_,rfl,doneF m1 (by lia) lb' (.inl (beq_iff_eq.mp d1))⟩⟩
      have d1':¬t=0:=λe=>d1 (beq_iff_eq.mpr e);have hU3:t-1<a.size:=by lia
      exact aW d1 (T t _ ⟨m1,⟨by lia,by lia⟩,hU3,low _ hU3 (by lia)⟩)
     ·have e0:t=u2:=by have:¬u2-t>0:=hk0;lia
      have hU3:u2-1<a.size:=by lia
      exact⟨m,⟨la,wp _⟩,hU3,low _ hU3 (by lia)⟩
    ·rintro c st3 ⟨g3,u',v',out',g',p,q,rfl,G',pr'⟩
     exact⟨g3,.inl ⟨_,_,_,_,_,_,rfl,G',pr'⟩⟩
    ·rintro c st3 ⟨g3,⟨u',v',out',g',p,q,rfl,G',pr'⟩ | ⟨r,e,fr⟩⟩
     ·dsimp only
      refine wT (gQ λst4 g4=>Qd ⟨g3.tr g4,_,_,_,_,rfl,G',by lia⟩)
     ·obtain⟨c1,c2⟩:=c
      cases e;exact Qd ⟨g3,r,rfl,fr⟩
   ·obtain⟨c1,c2⟩:=c
    cases e;exact Qd ⟨g2,r,rfl,fr⟩
 ·rintro c st1 ⟨g1,u,v,out,g,rfl,G,pr⟩
  have:=G.la;have:=G.la';have:=G.lb;have:=G.lb'
  lia
 ·rintro c st1 ⟨g1,r,e,fr⟩
  obtain⟨c1,c2⟩:=c;cases e;exact Qd (h r st1 g1 fr)
end
def ny:Nat->StateT QB Sem Bool:=sortPriv% PySem.Builtin.mergeAt
theorem dC{l:List wP}{i:Nat}(h:i<l.length)(d:wP):l.getD i d=l[i]:=by simp[List.getD,h]
theorem eT(p r:List wP)(k:Nat):(p++r).drop (p.length+k)=r.drop k:=by rw[<-List.drop_drop,List.drop_left]
theorem tU(p r:List wP)(k:Nat):(p++r).take (p.length+k)=p++r.take k:=by rw[List.take_append,Za (by lia),JZ]
theorem kc:∀(l:List wP) (n s0:Nat) (xs:Array wP),s0+n+l.length<=xs.size->((l.zipIdx n).foldl (λa (p,j)=>a.setIfInBounds (s0+j) p) xs).toList=xs.toList.take (s0+n)++l++xs.toList.drop (s0+n+l.length)
 |[],n,s0,xs,h=>by simp
 |x::l,n,s0,xs,h=>by
  simp only[Qv] at h;rw[List.zipIdx_cons,Z8];have ih:=kc l (n+1) s0 (xs.setIfInBounds (s0+n) x) (by rw[Array.size_setIfInBounds];lia);rw[ih,Array.toList_setIfInBounds];have lt:s0+n<xs.toList.length:=by simp;lia
  have e1:(xs.toList.set (s0+n) x).take (s0+(n+1))=xs.toList.take (s0+n)++[x]:=by
   rw[show s0+(n+1)=s0+n+1 by lia,List.take_add_one,List.take_set_of_le (wp _),List.getElem?_set_self lt];rfl
  have e2:(xs.toList.set (s0+n) x).drop (s0+(n+1)+l.length)=xs.toList.drop (s0+n+(x::l).length):=by
   rw[List.drop_set_of_lt (by lia)];congr 1;simp only[Qv];lia
  rw[e1,e2];simp
section
variable{M:Model}{A:Qy}{E:vv->v6->Prop}{s:v6}{κ:J6}{S:wP->Prop}{L:wP->wP->Bool}
theorem xt{st st':QB}{Q:PUnit->QB->Prop}(h:Q ⟨⟩ st'):wpS M A E s (set st':StateT QB Sem PUnit) Q st:=ZU (f:=λ_=>st') h
theorem yr(tr:∀x y z,L y x=false->L z y=false->L z x=false){Al Bl r:List wP}{k m:Nat}{key key2:wP}(sA:Al.Pairwise (leK L))(sB:Bl.Pairwise (leK L))(kB:∀y∈Bl,leK L key y)(kA:∀x∈Al,leK L x key2)(c1:∀x∈Al.take k,leK L x key)(c2:∀y∈Bl.drop m,leK L key2 y)(pr:r.Pairwise (leK L))(pm:r.Perm (Al.drop k++Bl.take m)) :
  (Al.take k++r++Bl.drop m).Pairwise (leK L)/\(Al.take k++r++Bl.drop m).Perm (Al++Bl):=by
 have a1:=Qp.mp (show(Al.take k++Al.drop k).Pairwise (leK L) by rw[QL];exact sA);have b1:=Qp.mp (show(Bl.take m++Bl.drop m).Pairwise (leK L) by rw[QL];exact sB);refine⟨Qp.mpr ⟨Qp.mpr ⟨a1.1,pr,λx hx y hy=>?_⟩,b1.2.1,λx hx y hy=>?_⟩,?_⟩
 ·rcases Qn.mp (pm.mem_iff.mp hy) with h | h
  ·exact a1.2.2 x hx y h
  ·exact tr _ _ _ (c1 x hx) (kB y (List.mem_of_mem_take h))
 ·rcases Qn.mp hx with h | h
  ·exact tr _ _ _ (c1 x h) (kB y (Zr hy))
  ·rcases Qn.mp (pm.mem_iff.mp h) with h | h
   ·exact tr _ _ _ (kA x (Zr h)) (c2 y hy)
   ·exact b1.2.2 x h y hy
 ·have e:Al++Bl=Al.take k++(Al.drop k++Bl.take m)++Bl.drop m:=by
   rw[<-Qk,QL,Qk,QL]
  rw[e];exact((List.Perm.refl _).append pm).append (List.Perm.refl _)
theorem oz(C:j_ M A E s κ S L)(as:∀x y,L x y=true->L y x=false)(tr:∀x y z,L y x=false->L z y=false->L z x=false){i pw pw':Nat}{pre Al Bl post:List wP}{st:QB}{Q:Bool->QB->Prop}(hst:Q0 st=κ)(hf:Jb st=none)
  (hp1:(QN st)[i]?=some (pre.length,Al.length,pw)) (hp2:(QN st)[i+1]?=some (pre.length+Al.length,Bl.length,pw')) (hl:(wS st).toList=pre++Al++Bl++post) (hS:∀x∈(wS st).toList,S x) (nA:1<=Al.length) (nB:1<=Bl.length) (sA:Al.Pairwise (leK L)) (sB:Bl.Pairwise (leK L))
  (h:∀st' Cl,Q0 st'=κ->Jb st'=none->QN st'=((QN st).setIfInBounds i (pre.length,Al.length+Bl.length,pw)).eraseIdxIfInBounds (i+1)->(wS st').toList=pre++Cl++post->Cl.Pairwise (leK L)->Cl.Perm (Al++Bl)->Q true st'):wpS M A E s (ny i) Q st:=by
 have szz:(wS st).size=pre.length+Al.length+Bl.length+post.length:=by rw[<-Qq,hl];simp;lia
 have atA:∀j (hj:j<Al.length) (h2:pre.length+j<(wS st).size),(wS st)[pre.length+j]=Al[j]:=λj hj h2=>by
  have:(wS st).toList[pre.length+j]?=some Al[j]:=by
   rw[hl,Qk,Qk,QE (by lia),JZ,QX hj];simp
  rw[atL h2] at this;exact Option.some.inj this
 have atB:∀j (hj:j<Bl.length) (h2:pre.length+Al.length+j<(wS st).size),(wS st)[pre.length+Al.length+j]=Bl[j]:=λj hj h2=>by
  have:(wS st).toList[pre.length+Al.length+j]?=some Bl[j]:=by
   rw[hl,Qk (pre++Al),QE (by simp),Qr,JZ,QX hj];simp
  rw[atL h2] at this;exact Option.some.inj this
 have pA:∀i j (hi:i<Al.length) (hj:j<Al.length),i<=j->leK L Al[i] Al[j]:=λi j hi hj ij=>fV as sA (by simp) (by simp) ij;have pB:∀i j (hi:i<Bl.length) (hj:j<Bl.length),i<=j->leK L Bl[i] Bl[j]:=λi j hi hj ij=>fV as sB (by simp) (by simp) ij
 have kB:∀y∈Bl,leK L Bl[0] y:=λy hy=>by
  obtain⟨j,hj,rfl⟩:=JU.mp hy;exact pB 0 j nB hj (QA _)
 have kA:∀x∈Al,leK L x (Al[Al.length-1]'(by omega)):=λx hx=>by
  obtain⟨j,hj,rfl⟩:=JU.mp hx;exact pA j _ hj (by lia) (by lia)
 refine wT (wpS_get ?_);rw[show(sortPriv% PySem.Builtin.SortState.a) st=wS st from rfl,hp1,hp2];dsimp only;have hb:pre.length+Al.length<(wS st).size:=by lia
 have eb:=atB 0 nB (by lia);simp only[Nat.add_zero] at eb;refine wT (xt (wT (aO hb ?_)));rw[eb];show wpS M A E s _ _ (Zb (Q0 st) (wS st) (((QN st).setIfInBounds i (pre.length,Al.length+Bl.length,pw)).eraseIdxIfInBounds (i+1)) (gallopOf st) (Jb st));generalize hst2:Zb _ _ _ _ _=st2;have k2:Q0 st2=κ:=by rw[<-hst2];exact hst
 have a2:wS st2=wS st:=by rw[<-hst2]
 have p2:QN st2=((QN st).setIfInBounds i (pre.length,Al.length+Bl.length,pw)).eraseIdxIfInBounds (i+1):=by rw[<-hst2]
 have f2:Jb st2=none:=by rw[<-hst2];exact hf
 have sb0:S Bl[0]:=hS _ (by rw[hl];simp);refine wT (cS C (f:=λj=>!L Bl[0] (Al.getD j Bl[0])) hS sb0 (by lia) (by lia) k2 (λj hj hj2=>?_) (λx y xy hy e=>?_) λk hk h1 h2=>?_)
 ·simp only[byd,atA j hj2 hj]
  simp[hj2]
 ·have hx':x<Al.length:=by lia
  simp only[dC hy,dC hx',JW] at e ⊢;exact tr _ _ _ (pA x y hx' hy xy) e
 dsimp only
 have c1:∀x∈Al.take k,leK L x Bl[0]:=λx hx=>by
  obtain⟨j,hj,rfl⟩:=JU.mp hx;rw[QI] at hj;have e:=h1 j (by lia);rw[List.getElem_take];have hj':j<Al.length:=by lia
  simp only[dC hj',JW] at e;exact e
 by_cases d1:(Al.length-k==0)=true
 ·rw[if_pos d1]
  have ek:k=Al.length:=by have:=beq_iff_eq.mp d1;lia
  subst ek;obtain⟨g1,g2⟩:=yr (k:=Al.length) (m:=0) (r:=[]) (key2:=Al[Al.length-1]'(by lia)) tr sA sB kB kA c1 (λy hy=>tr _ _ _ (c1 _ (by rw[List.take_length];exact ZT _)) (kB y (by simpa using hy))) List.Pairwise.nil (by simp);simp only[List.take_length,QW,List.drop_zero] at g1 g2;exact Qd (h st2 (Al++Bl) k2 f2 p2 (by rw[a2,hl];simp) g1 g2)
 ·rw[if_neg d1]
  have d1':¬Al.length-k=0:=λe=>d1 (beq_iff_eq.mpr e);have hla:pre.length+k+(Al.length-k)-1<(wS st).size:=by lia
  have ela:(wS st)[pre.length+k+(Al.length-k)-1]=Al[Al.length-1]'(by lia):=by
   have:=atA (Al.length-1) (by lia) (by lia);rw[<-this];congr 1;lia
  have sl:S (Al[Al.length-1]'(by lia)):=hS _ (by rw[hl];simp);refine wT (aO hla ?_);rw[ela];generalize hkey2:Al[Al.length-1]'(by lia)=key2 at sl kA;refine wT (cS C (f:=λj=>L (Bl.getD j key2) key2) hS sl (by lia) (by lia) k2 (λj hj hj2=>?_) (λx y xy hy e=>?_) λm hm h3 h4=>?_)
  ·simp only[byd,atB j hj2 hj]
   simp[hj2]
  ·have hx':x<Bl.length:=by lia
   simp only[dC hy,dC hx'] at e ⊢;cases hv:L Bl[x] key2 with
   |true=>rfl
   |false=>have z:=tr _ _ _ hv (pB x y hx' hy xy);exact absurd (e.symm.trans z) (by decide)
  dsimp only
  have c2:∀y∈Bl.drop m,leK L key2 y:=λy hy=>by
   obtain⟨j,hj,rfl⟩:=JU.mp hy;rw[Jx] at hj;have e:=h4 (m+j) (by lia) (by lia);rw[List.getElem_drop];have hj':m+j<Bl.length:=by lia
   simp only[dC hj'] at e;exact e
  by_cases d2:(m==0)=true
  ·rw[if_pos d2]
   have em:=beq_iff_eq.mp d2;subst em;obtain⟨g1,g2⟩:=yr (k:=k) (m:=0) (r:=Al.drop k) tr sA sB kB kA c1 c2 ((Qp.mp (show(Al.take k++Al.drop k).Pairwise (leK L) by rw[QL];exact sA)).2.1) (by simp);simp only[QL,List.drop_zero] at g1 g2;exact Qd (h st2 (Al++Bl) k2 f2 p2 (by rw[a2,hl];simp) g1 g2)
  ·rw[if_neg d2]
   have d2':¬m=0:=λe=>d2 (beq_iff_eq.mpr e);have hl':(wS st).toList=pre++(Al++(Bl++post)):=by rw[hl];simp
   have ex:((wS st).extract (pre.length+k) (pre.length+Al.length)).toList=Al.drop k:=by
    rw[Array.toList_extract,hl',List.extract_eq_take_drop,eT,List.drop_append_of_le_length (by lia)];exact List.take_left' (by rw[Jx];lia)
   have ey:((wS st).extract (pre.length+Al.length) (pre.length+Al.length+m)).toList=Bl.take m:=by
    rw[Array.toList_extract,hl',List.extract_eq_take_drop,eT,show pre.length+Al.length+m-(pre.length+Al.length)=m by lia];rw[show Al.length=Al.length+0 from rfl,eT,List.drop_zero];exact List.take_append_of_le_length hm
   generalize hX:(wS st).extract (pre.length+k) (pre.length+Al.length)=X at ex;generalize hY:(wS st).extract (pre.length+Al.length) (pre.length+Al.length+m)=Y at ey;have xl:X.size=Al.length-k:=by rw[<-Qq,ex,Jx]
   have yl:Y.size=m:=by rw[<-Qq,ey,QI];lia
   have x0:X[0]'(by lia)=Al[k]'(by lia):=by
    have:X.toList[0]?=some (Al[k]'(by lia)):=by rw[ex];simp[show k<Al.length by lia]
    rw[atL (by lia)] at this;exact Option.some.inj this
   have xL:X[X.size-1]'(by lia)=key2:=by
    have:X.toList[X.size-1]?=some key2:=by
     rw[ex,Kc,show k+(X.size-1)=Al.length-1 by lia,<-hkey2];simp[show Al.length-1<Al.length by lia]
    rw[atL (by lia)] at this;exact Option.some.inj this
   have y0:Y[0]'(by lia)=Bl[0]:=by
    have:Y.toList[0]?=some Bl[0]:=by rw[ey,JQ,if_pos (by lia)];simp
    rw[atL (by lia)] at this;exact Option.some.inj this
   have sX:X.toList.Pairwise (leK L):=by rw[ex];exact(Qp.mp (show(Al.take k++Al.drop k).Pairwise (leK L) by rw[QL];exact sA)).2.1
   have sY:Y.toList.Pairwise (leK L):=by rw[ey];exact(Qp.mp (show(Bl.take m++Bl.drop m).Pairwise (leK L) by rw[QL];exact sB)).1
   have SX:∀x∈X.toList,S x:=λx hx=>hS x (by rw[ex] at hx;rw[hl];simp[Zr hx]);have SY:∀x∈Y.toList,S x:=λx hx=>hS x (by rw[ey] at hx;rw[hl];simp[List.mem_of_mem_take hx])
   have fk:L Bl[0] (Al[k]'(by lia))=true:=by
    have e:=h2 k (wp _) (by lia);simpa only[dC (show k<Al.length by lia),Bool.not_eq_false'] using e
   have lastY:∀z∈Y.toList,L z key2=true:=λz hz=>by
    rw[ey] at hz;obtain⟨j,hj,rfl⟩:=JU.mp hz;rw[QI] at hj;rw[List.getElem_take];have hj':j<Bl.length:=by lia
    have e:=h3 j (by lia);simpa only[dC hj'] using e
   have firstX:∀z∈X.toList,L Bl[0] z=true:=λz hz=>by
    rw[ex] at hz;obtain⟨j,hj,rfl⟩:=JU.mp hz;rw[Jx] at hj;rw[List.getElem_drop];cases hv:L Bl[0] (Al[k+j]'(by lia)) with
    |true=>rfl
    |false=>have z:=tr _ _ _ (pA k (k+j) (by lia) (by lia) (by lia)) hv;exact absurd (fk.symm.trans z) (by decide)
   have fin:∀(r:Array wP) (st3:QB),SmG st2 st3->dZ L X.toList Y.toList r.toList->wpS M A E s (do
     modify λs=>Zb (Q0 s) (List.foldl (λa x=>a.setIfInBounds (pre.length+k+x.snd) x.fst) (wS s) r.toList.zipIdx) (QN s) (gallopOf s) (Jb s)
     let u<-get
     pure (Jb u).isNone) Q st3:=λr st3 g3 fr=>by
    refine wT (ZU (wT (wpS_get ?_)));rw[ex,ey] at fr;obtain⟨g1,g2⟩:=yr (k:=k) (m:=m) tr sA sB kB kA c1 c2 fr.1 fr.2;have rl:r.toList.length=Al.length-k+m:=by rw[fr.2.length_eq,Qr,Jx,QI];lia
    have e3:Jb st3=none:=g3.f.trans f2;have big:pre.length+k+0+r.toList.length<=(wS st3).size:=by rw[g3.a,a2,rl];lia
    have wa:=kc r.toList 0 (pre.length+k) (wS st3) big;rw[g3.a,a2,hl'] at wa;have:(Jb (Zb (Q0 st3) (List.foldl (λa x=>a.setIfInBounds (pre.length+k+x.snd) x.fst) (wS st3) r.toList.zipIdx) (QN st3) (gallopOf st3) (Jb st3))).isNone=true:=by show(Jb st3).isNone=true;rw[e3];rfl
    rw[this];refine Qd (h _ (Al.take k++r.toList++Bl.drop m) (g3.k.trans k2) e3 (g3.p.trans p2) ?_ g1 g2);show(List.foldl (λa x=>a.setIfInBounds (pre.length+k+x.snd) x.fst) (wS st3) r.toList.zipIdx).toList=_;rw[g3.a,a2];refine wa.trans ?_;rw[Nat.add_zero,tU,List.take_append_of_le_length (by lia),rl,show pre.length+k+(Al.length-k+m)=pre.length+(Al.length+m) by lia,eT,eT,List.drop_append_of_le_length hm];simp
   by_cases d3:Al.length-k<=m
   ·rw[if_pos d3]
    refine wT (oa C as tr SX SY sX sY (by lia) (by lia) (by rw[x0,y0];exact fk) (λz hz=>by rw[xL];exact lastY z hz) k2 λr st3 g3 fr=>?_);exact fin r st3 g3 fr
   ·rw[if_neg d3]
    refine wT (nI C as tr SX SY sX sY (by lia) (by lia) (λz hz=>by rw[y0];exact firstX z hz) (by rw[xL];exact lastY _ (by simp)) k2 λr st3 g3 fr=>?_);exact fin r st3 g3 fr
end
def qJ:Nat->Nat->StateT QB Sem (Option Nat):=sortPriv% PySem.Builtin.countRun
theorem wI{M:Model}{A:Qy}{E:vv->v6->Prop}{s:v6}{i j:Nat}{Q:Unit->QB->Prop}{st:QB}(h:Q () (setArr st (Zy (wS st) i j ((j-i)/2)))):wpS M A E s (reverseSlice' i j) Q st:=by
 rw[reverseSlice'_eq];exact ZU h
def dK:wP:=(QR,QR)
def gt(xs:Array wP)(i:Nat):wP:=xs.getD i dK
theorem qa{xs:Array wP}{i:Nat}(h:i<xs.size):gt xs i=xs[i]:=by simp[gt,Array.getD,h]
theorem uG(xs:Array wP)(i:Nat):gt xs i=(xs[i]?).getD dK:=by
 by_cases h:i<xs.size
 ·simp[gt,Array.getD,h]
 ·simp[gt,Array.getD,h]
def UpA(L:wP->wP->Bool)(xs:Array wP)(lo n:Nat):Prop:=∀i j,i<=j->j<n->leK L (gt xs (lo+i)) (gt xs (lo+j))
def DwA(L:wP->wP->Bool)(xs:Array wP)(lo n:Nat):Prop:=∀i j,i<=j->j<n->leK L (gt xs (lo+j)) (gt xs (lo+i))
structure FrR(st0:QB)(lo:Nat)(st:QB):Prop where
 k:Q0 st=Q0 st0
 p:QN st=QN st0
 f:Jb st=Jb st0
 pm:(wS st).toList.Perm (wS st0).toList
 tk:(wS st).toList.take lo=(wS st0).toList.take lo
theorem FrR.rf(st:QB)(lo:Nat):FrR st lo st:=⟨rfl,rfl,rfl,List.Perm.refl _,rfl⟩
theorem FrR.sz{st0 st:QB}{lo:Nat}(h:FrR st0 lo st):(wS st).size=(wS st0).size:=by rw[<-Qq,<-Qq];exact h.pm.length_eq
theorem FrR.S{st0 st:QB}{lo:Nat}(h:FrR st0 lo st){P:wP->Prop}(hS:∀x∈(wS st0).toList,P x):∀x∈(wS st).toList,P x:=λx hx=>hS x (h.pm.mem_iff.mp hx)
theorem dI{xs:Array wP}{i j:Nat}(hj:j<=xs.size)(k:Nat):gt (Zy xs i j ((j-i)/2)) k=if i<=k/\k<j then gt xs (i+j-1-k) else gt xs k:=by
 rw[uG,getElem?_mirror_all hj];split<;>rw[uG]
theorem yR{xs:Array wP}{src d:Nat}(hs:src<xs.size)(hd:d<=src)(k:Nat):gt (bubble xs src d) k=if k=src-d then gt xs src else if src-d<k/\k<=src then gt xs (k-1) else gt xs k:=by
 rw[uG,getElem?_bubble hs d hd];split
 ·rw[uG]
 ·split<;>rw[uG]
theorem FrR.mir{st0 st:QB}{lo p q:Nat}(h:FrR st0 lo st)(hp:lo<=p)(hq:q<=(wS st).size):FrR st0 lo (setArr st (Zy (wS st) p q ((q-p)/2))):=by
 refine⟨h.k,h.p,h.f,(Zk.mp (mirror_perm _ _ _ _)).trans h.pm,?_⟩;show(Zy (wS st) p q ((q-p)/2)).toList.take lo=_;rw[<-h.tk];apply Jq;intro k;rw[JQ,JQ];split
 ·rename_i hk
  rw[QK,QK,getElem?_mirror_all hq,if_neg (by lia)]
 ·rfl
theorem FrR.bub{st0 st:QB}{lo src d:Nat}(h:FrR st0 lo st)(hs:src<(wS st).size)(hd:lo+d<=src):FrR st0 lo (setArr st (bubble (wS st) src d)):=by
 refine⟨h.k,h.p,h.f,(Zk.mp (bubble_perm _ _ _)).trans h.pm,?_⟩;show(bubble (wS st) src d).toList.take lo=_;rw[<-h.tk];apply Jq;intro k;rw[JQ,JQ];split
 ·rename_i hk
  rw[QK,QK,getElem?_bubble hs d (by lia),if_neg (by lia),if_neg (by lia)]
 ·rfl
section
variable{M:Model}{A:Qy}{E:vv->v6->Prop}{s:v6}{κ:J6}{S:wP->Prop}{L:wP->wP->Bool}
theorem cR(C:j_ M A E s κ S L){i j:Nat}{st:QB}{Q:Option Bool->QB->Prop}(hS:∀x∈(wS st).toList,S x)(hst:Q0 st=κ)(hi:i<(wS st).size)(hj:j<(wS st).size)(h:Q (some (L (gt (wS st) i) (gt (wS st) j))) st):wpS M A E s (ltAt' i j) Q st:=by
 rw[ltAt'_eq];refine wT (wpS_get ?_);refine wT (aO hi (wT (aO hj ?_)));rw[qa hi,qa hj] at h;exact C _ _ st _ (hS _ (by simp)) (hS _ (by simp)) hst h
theorem UpA.one(as:∀x y,L x y=true->L y x=false)(xs:Array wP)(lo:Nat):UpA L xs lo 1:=λi j h1 h2=>by
 have:i=j:=by lia
 subst this;cases hv:L (gt xs (lo+i)) (gt xs (lo+i)) with
 |false=>exact hv
 |true=>have:=as _ _ hv;rw[hv] at this;cases this
theorem UpA.more(as:∀x y,L x y=true->L y x=false)(tr:∀x y z,L y x=false->L z y=false->L z x=false){xs:Array wP}{lo n:Nat}(h:UpA L xs lo n)(hn:1<=n)(e:L (gt xs (lo+n)) (gt xs (lo+n-1))=false):UpA L xs lo (n+1):=λi j h1 h2=>by
 by_cases hj:j=n
 ·subst hj
  by_cases hi:i=j
  ·subst hi
   exact UpA.one as xs (lo+i) 0 0 (wp _) (by lia)
  ·have e2:=h i (j-1) (by lia) (by lia)
   rw[show lo+(j-1)=lo+j-1 by lia] at e2;exact tr _ _ _ e2 e
 ·exact h i j h1 (by lia)
theorem DwA.more(as:∀x y,L x y=true->L y x=false)(tr:∀x y z,L y x=false->L z y=false->L z x=false){xs:Array wP}{lo n:Nat}(h:DwA L xs lo n)(hn:1<=n)(e:leK L (gt xs (lo+n)) (gt xs (lo+n-1))):DwA L xs lo (n+1):=λi j h1 h2=>by
 by_cases hj:j=n
 ·subst hj
  by_cases hi:i=j
  ·subst hi
   exact UpA.one as xs (lo+i) 0 0 (wp _) (by lia)
  ·have e2:=h i (j-1) (by lia) (by lia)
   rw[show lo+(j-1)=lo+j-1 by lia] at e2;exact tr _ _ _ e e2
 ·exact h i j h1 (by lia)
def EqA(L:wP->wP->Bool)(xs:Array wP)(lo n q:Nat):Prop:=∀i j,n-(q+1)<=i->i<n->n-(q+1)<=j->j<n->leK L (gt xs (lo+i)) (gt xs (lo+j))
theorem lV{lo p n:Nat}(hp:p<=n){j:Nat}(h1:p<=j)(h2:j<n):lo+p+(lo+n)-1-(lo+j)=lo+(p+n-1-j)/\p<=p+n-1-j/\p+n-1-j<n:=by lia
theorem DwA.turn{xs:Array wP}{lo n q:Nat}(hq:q<n)(hs:lo+n<=xs.size)(h:DwA L xs lo n)(e:EqA L xs lo n q):DwA L (Zy xs (lo+n-(q+1)) (lo+n) ((lo+n-(lo+n-(q+1)))/2)) lo n:=by
 unfold EqA at e;rw[show lo+n-(q+1)=lo+(n-(q+1)) from Nat.add_sub_assoc hq lo];have hp:n-(q+1)<=n:=Nat.sub_le _ _;generalize n-(q+1)=p at e hp ⊢;intro i j h1 h2;rw[dI hs,dI hs];have jn:lo+j<lo+n:=Z2 h2 lo;have i2:i<n:=Zd h1 h2
 by_cases cj:p<=j
 ·obtain⟨j1,j2,j3⟩:=lV (lo:=lo) hp cj h2
  rw[if_pos (⟨Z3 cj lo,jn⟩:lo+p<=lo+j/\lo+j<lo+n),j1]
  by_cases ci:p<=i
  ·obtain⟨i1,i3,i4⟩:=lV (lo:=lo) hp ci i2
   rw[if_pos (⟨Z3 ci lo,Z2 i2 lo⟩:lo+p<=lo+i/\lo+i<lo+n),i1];exact e _ _ j2 j3 i3 i4
  ·rw[if_neg λz=>ci (Nat.le_of_add_le_add_left z.1)]
   exact h i _ (QO (QZ (Nat.lt_of_not_le ci)) j2) j3
 ·rw[if_neg λz=>cj (Nat.le_of_add_le_add_left z.1),if_neg λz=>cj (QO (Nat.le_of_add_le_add_left z.1) h1)]
  exact h i j h1 h2
theorem DwA.flip{xs:Array wP}{lo n:Nat}(hs:lo+n<=xs.size)(h:DwA L xs lo n):UpA L (Zy xs lo (lo+n) ((lo+n-lo)/2)) lo n:=λi j h1 h2=>by
 have i2:i<n:=Zd h1 h2;obtain⟨i1,_,i4⟩:=lV (lo:=lo) (QA n) (QA i) i2;obtain⟨j1,_,_⟩:=lV (lo:=lo) (QA n) (QA j) h2;rw[Nat.add_zero] at i1 j1;rw[dI hs,dI hs,if_pos ⟨Nat.le_add_right _ _,Z2 i2 lo⟩,if_pos ⟨Nat.le_add_right _ _,Z2 h2 lo⟩,i1,j1];exact h _ _ (Nat.sub_le_sub_left h1 _) i4
theorem rC(C:j_ M A E s κ S L)(as:∀x y,L x y=true->L y x=false)(tr:∀x y z,L y x=false->L z y=false->L z x=false){lo nrem:Nat}{st:QB}{Q:Option Nat->QB->Prop}(hst:Q0 st=κ)(hS:∀x∈(wS st).toList,S x)(h1:1<=nrem)(hb:lo+nrem<=(wS st).size)
  (h:∀n st',FrR st lo st'->1<=n->n<=nrem->UpA L (wS st') lo n->Q (some n) st'):wpS M A E s (qJ lo nrem) Q st:=by
 have rfl':∀x,leK L x x:=λx=>by
  cases hv:L x x with
  |false=>exact hv
  |true=>have:=as _ _ hv;rw[hv] at this;cases this
 have fr0:=FrR.rf st lo;have szS:=fr0.sz;refine wT (JF (Q4 (I:=λx c st'=>st=st'/\c=(none,x)/\UpA L (wS st) lo x) (Q:=λc st'=>st=st'/\∃n,c=(none,n)/\1<=n/\n<=nrem/\UpA L (wS st) lo n/\(n=nrem\/L (gt (wS st) (lo+n)) (gt (wS st) (lo+n-1))=true)) ?_ ?_ ⟨rfl,rfl,(UpA.one as _ _)⟩) ?_)
 ·rintro x c st' hx1 hx2 ⟨rfl,rfl,up⟩
  dsimp only;refine wT (cR C (fr0.S hS) (fr0.k.trans hst) (by lia) (by lia) ?_);dsimp only;cases hv:L (gt (wS st) (lo+x)) (gt (wS st) (lo+x-1)) with
  |true=>exact Qd ⟨rfl,x,rfl,hx1,by lia,up,.inr hv⟩
  |false=>exact Qd ⟨rfl,rfl,up.more as tr (by lia) hv⟩
 ·rintro c st' ⟨rfl,rfl,up⟩
  have em:max (1) nrem=nrem:=by lia
  rw[em] at up ⊢;exact⟨rfl,nrem,rfl,by lia,wp _,up,.inl rfl⟩
 rintro c st' ⟨rfl,n,rfl,n1,n2,up,e⟩;dsimp -zeta -zetaHave only
 by_cases d1:(n==nrem)=true
 ·first | refine a9 d1 ?_ | rw[if_pos d1]
  exact Qd (h n st fr0 n1 n2 up)
 first | refine aW d1 ?_ | rw[if_neg d1]
 have d1':¬n=nrem:=λe=>d1 (beq_iff_eq.mpr e);have hd:L (gt (wS st) (lo+n)) (gt (wS st) (lo+n-1))=true:=e.resolve_left d1'
 extract_lets n1v neq0 jp
 have K:∀st1,FrR st lo st1->DwA L (wS st1) lo (n+1)->wpS M A E s (jp ()) Q st1:=by
  intro st1 fr1 dw1;dsimp -zeta -zetaHave only[jp,n1v,neq0];refine wT (d0 ?_);refine wT (JF (Q4 (I:=λx c st'=>FrR st lo st'/\∃q,c=(none,x,q)/\q<x/\DwA L (wS st') lo x/\EqA L (wS st') lo x q) (Q:=λc st'=>FrR st lo st'/\∃m q,c=(none,m,q)/\1<=m/\m<=nrem/\q<m/\DwA L (wS st') lo m/\EqA L (wS st') lo m q) ?_ ?_ ⟨fr1,0,rfl,by lia,dw1,λi j i1 i2 j1 j2=>by rw[show i=j by lia];exact rfl' _⟩) ?_)
  ·rintro x c st' hx1 hx2 ⟨fr,q,rfl,hq,dw,eq⟩
   have szx:=fr.sz;dsimp only;refine wT (cR C (fr.S hS) (fr.k.trans hst) (by lia) (by lia) ?_);dsimp only;cases hv:L (gt (wS st') (lo+x)) (gt (wS st') (lo+x-1)) with
   |true=>
    first | refine a9 rfl ?_ | rw[if_pos rfl]
    by_cases q0:q>0
    ·first | refine a9 q0 ?_ | rw[if_pos q0]
     refine wT (wI (Qd ⟨fr.mir (by lia) (by lia),0,rfl,by lia,(dw.turn hq (by lia) eq).more as tr (by lia) ?_,λi j i1 i2 j1 j2=>by rw[show i=j by lia];exact rfl' _⟩));show leK L (gt (Zy _ _ _ _) _) (gt (Zy _ _ _ _) _);rw[dI (by lia),dI (by lia),if_neg (by lia),if_pos (by lia)];have e2:=eq (x-1) (x-(q+1)) (by lia) (by lia) (by lia) (by lia);rw[show lo+(x-1)=lo+x-1 by lia,show lo+(x-(q+1))=lo+x-(q+1)+(lo+x)-1-(lo+x-1) by lia] at e2;exact tr _ _ _ (as _ _ hv) e2
    ·first | refine aW q0 ?_ | rw[if_neg q0]
     exact Qd ⟨fr,0,rfl,by lia,dw.more as tr (by lia) (as _ _ hv),λi j i1 i2 j1 j2=>by rw[show i=j by lia];exact rfl' _⟩
   |false=>
    first | refine aW ww ?_ | rw[if_neg ww]
    refine wT (cR C (fr.S hS) (fr.k.trans hst) (by lia) (by lia) ?_);dsimp only;cases hv2:L (gt (wS st') (lo+x-1)) (gt (wS st') (lo+x)) with
    |true=>exact Qd ⟨fr,x,q,rfl,by lia,by lia,hq,dw,eq⟩
    |false=>
     refine Qd ⟨fr,q+1,rfl,by lia,dw.more as tr (by lia) hv2,λi j i1 i2 j1 j2=>?_⟩
     have up1:∀i,x-(q+1)<=i->i<x->leK L (gt (wS st') (lo+i)) (gt (wS st') (lo+x)):=λi i1 i2=>by
      have e2:=eq i (x-1) i1 i2 (by lia) (by lia);rw[show lo+(x-1)=lo+x-1 by lia] at e2;exact tr _ _ _ e2 hv
     have dn1:∀i,x-(q+1)<=i->i<x->leK L (gt (wS st') (lo+x)) (gt (wS st') (lo+i)):=λi i1 i2=>by
      have e2:=eq (x-1) i (by lia) (by lia) i1 i2;rw[show lo+(x-1)=lo+x-1 by lia] at e2;exact tr _ _ _ hv2 e2
     by_cases ci:i=x
     ·by_cases cj:j=x
      ·rw[ci,cj];exact rfl' _
      ·rw[ci];exact dn1 j (by lia) (by lia)
     ·by_cases cj:j=x
      ·rw[cj];exact up1 i (by lia) (by lia)
      ·exact eq i j (by lia) (by lia) (by lia) (by lia)
  ·rintro c st' ⟨fr,q,rfl,hq,dw,eq⟩
   have em:max (n+1) nrem=nrem:=by lia
   rw[em] at dw eq hq ⊢;exact⟨fr,nrem,q,rfl,by lia,wp _,hq,dw,eq⟩
  ·rintro c st' ⟨fr,m,q,rfl,m1,m2,hq,dw,eq⟩
   have szx:=fr.sz;dsimp -zeta -zetaHave only
   extract_lets r1 s1 m0 q0' jp2
   have K2:∀st',FrR st lo st'->DwA L (wS st') lo m->wpS M A E s (jp2 ()) Q st':=by
    intro st' fr dw;dsimp -zeta -zetaHave only[jp2,r1,s1,m0,q0'];refine wT (wI ?_);have szq:=fr.sz;have frF:=fr.mir (p:=lo) (q:=lo+m) (wp _) (by lia);have upF:UpA L (wS (setArr st' (Zy (wS st') lo (lo+m) ((lo+m-lo)/2)))) lo m:=dw.flip (by lia);generalize setArr st' (Zy (wS st') lo (lo+m) ((lo+m-lo)/2))=stF at frF upF ⊢;have szS:=frF.sz;refine wT (JF (Q4 (I:=λx c st'=>stF=st'/\c=(none,x)/\UpA L (wS stF) lo x) (Q:=λc st'=>stF=st'/\∃n,c=(none,n)/\m<=n/\n<=nrem/\UpA L (wS stF) lo n/\(n=nrem\/L (gt (wS stF) (lo+n)) (gt (wS stF) (lo+n-1))=true)) ?_ ?_ ⟨rfl,rfl,upF⟩) ?_)
    ·rintro x c st' hx1 hx2 ⟨rfl,rfl,up⟩
     dsimp only;refine wT (cR C (frF.S hS) (frF.k.trans hst) (by lia) (by lia) ?_);dsimp only;cases hv:L (gt (wS stF) (lo+x)) (gt (wS stF) (lo+x-1)) with
     |true=>exact Qd ⟨rfl,x,rfl,hx1,by lia,up,.inr hv⟩
     |false=>exact Qd ⟨rfl,rfl,up.more as tr (by lia) hv⟩
    ·rintro c st' ⟨rfl,rfl,up⟩
     have em:max (m) nrem=nrem:=by lia
     rw[em] at up ⊢;exact⟨rfl,nrem,rfl,by lia,wp _,up,.inl rfl⟩
    ·rintro c st'' ⟨rfl,n,rfl,n1,n2,up,_⟩
     exact Qd (h n stF frF (by lia) n2 up)
   clear_value jp2
   by_cases q0:q>0
   ·first | refine a9 q0 ?_ | rw[if_pos q0]
    exact wT (wI (K2 _ (fr.mir (by lia) (by lia)) (dw.turn hq (by lia) eq)))
   ·first | refine aW q0 ?_ | rw[if_neg q0]
    exact K2 _ fr dw
 clear_value jp
 by_cases d2:n>1
 ·first | refine a9 d2 ?_ | rw[if_pos d2]
  refine wT (cR C hS hst (by lia) (by lia) ?_);dsimp -zeta -zetaHave only;cases hv:L (gt (wS st) lo) (gt (wS st) (lo+n-1)) with
  |true=>exact Qd (h n st fr0 n1 n2 up)
  |false=>
   first | refine aW ww ?_ | rw[if_neg ww]
   refine wT (wI ?_)
   have al:∀i j,i<n->j<n->leK L (gt (wS st) (lo+i)) (gt (wS st) (lo+j)):=λi j hi hj=>by
    have e1:=up i (n-1) (by lia) (by lia);have e2:=up 0 j (by lia) hj;rw[show lo+(n-1)=lo+n-1 by lia] at e1;exact tr _ _ _ (tr _ _ _ e1 hv) e2
   have fr1:=fr0.mir (p:=lo) (q:=lo+n) (wp _) (by lia)
   have dw1:DwA L (wS (setArr st (Zy (wS st) lo (lo+n) ((lo+n-lo)/2)))) lo (n+1):=by
    have base:DwA L (wS (setArr st (Zy (wS st) lo (lo+n) ((lo+n-lo)/2)))) lo n:=λi j i1 i2=>by
     show leK L (gt (Zy _ _ _ _) _) (gt (Zy _ _ _ _) _);rw[dI (by lia),dI (by lia),if_pos (by lia),if_pos (by lia)];have e1:=al (n-1-j) (n-1-i) (by lia) (by lia);rw[show lo+(n-1-j)=lo+(lo+n)-1-(lo+j) by lia,show lo+(n-1-i)=lo+(lo+n)-1-(lo+i) by lia] at e1;exact e1
    refine base.more as tr n1 ?_;show leK L (gt (Zy _ _ _ _) _) (gt (Zy _ _ _ _) _);rw[dI (by lia),dI (by lia),if_neg (by lia),if_pos (by lia)];have e1:=al (n-1) 0 (by lia) (by lia);rw[show lo+(n-1)=lo+n-1 by lia,show lo+0=lo+(lo+n)-1-(lo+n-1) by lia] at e1;exact tr _ _ _ (as _ _ hd) e1
   exact K _ fr1 dw1
 ·first | refine aW d2 ?_ | rw[if_neg d2]
  have en:n=1:=by lia
  have dw1:DwA L (wS st) lo (n+1):=by
   refine DwA.more as tr (λi j i1 i2=>?_) n1 (as _ _ hd);rw[show i=j by lia];exact rfl' _
  exact K _ fr0 dw1
end
section
variable{M:Model}{A:Qy}{E:vv->v6->Prop}{s:v6}{κ:J6}{S:wP->Prop}{L:wP->wP->Bool}
theorem wN{xs:Array wP}{lo k l:Nat}(hl:l<=k)(hs:lo+k<xs.size)(i:Nat):gt (bubble xs (lo+k) (lo+k-(lo+l))) (lo+i)=if i=l then gt xs (lo+k) else if l<i/\i<=k then gt xs (lo+(i-1)) else gt xs (lo+i):=by
 rw[yR hs (Nat.sub_le _ _),Nat.sub_sub_self (Z3 hl lo)];simp only[Nat.add_left_cancel_iff,Nat.add_lt_add_iff_left,Nat.add_le_add_iff_left]
 by_cases c2:l<i/\i<=k
 ·rw[if_pos c2,if_pos c2,Nat.add_sub_assoc (Zd (QA _) c2.1)]
 ·rw[if_neg c2,if_neg c2]
theorem wy(C:j_ M A E s κ S L)(as:∀x y,L x y=true->L y x=false)(tr:∀x y z,L y x=false->L z y=false->L z x=false){lo n ok:Nat}{st:QB}{Q:Bool->QB->Prop}(hst:Q0 st=κ)(hS:∀x∈(wS st).toList,S x)(hok:ok<=n)(hb:lo+n<=(wS st).size)(up0:UpA L (wS st) lo ok)
  (h:∀st',FrR st lo st'->UpA L (wS st') lo n->Q true st'):wpS M A E s (binarySort' lo n ok) Q st:=by
 rw[binarySort'_eq];refine wT (JF (Q4 (I:=λk c st'=>c=(none,())/\FrR st lo st'/\UpA L (wS st') lo (min k n)) (Q:=λc st'=>c=(none,())/\FrR st lo st'/\UpA L (wS st') lo n) ?_ ?_ ?_) ?_)
 ·rintro k c st1 hk1 hk2 ⟨rfl,fr,up⟩
  rw[show min k n=k by lia] at up;have sz:=fr.sz;dsimp only
  refine wT (JF (Q4 (I:=λx c st'=>st1=st'/\∃l r,c=(none,l,r)/\l<=r/\r<=k/\r-l<=k-x/\(∀i,i<l->leK L (gt (wS st1) (lo+i)) (gt (wS st1) (lo+k)))/\(∀i,r<=i->i<k->leK L (gt (wS st1) (lo+k)) (gt (wS st1) (lo+i))))
   (Q:=λc st'=>st1=st'/\∃l r,c=(none,l,r)/\l<=k/\(∀i,i<l->leK L (gt (wS st1) (lo+i)) (gt (wS st1) (lo+k)))/\(∀i,l<=i->i<k->leK L (gt (wS st1) (lo+k)) (gt (wS st1) (lo+i)))) ?_ ?_ ⟨rfl,0,k,rfl,by lia,by lia,by lia,λi hi=>by lia,λi h1 h2=>by lia⟩) ?_)
  ·rintro x c st' _ hx ⟨rfl,l,r,rfl,g1,g2,g3,g4,g5⟩
   dsimp only
   by_cases ge:l>=r
   ·first | refine a9 ge ?_ | rw[if_pos ge]
    have e:l=r:=by lia
    subst e;exact Qd ⟨rfl,l,l,rfl,g2,g4,g5⟩
   ·first | refine aW ge ?_ | rw[if_neg ge]
    have m1:l<=(l+r)/2:=(Nat.le_div_iff_mul_le Nat.two_pos).2 (by rw[Nat.mul_two];exact Z3 g1 l);have m2:(l+r)/2<r:=Nat.div_lt_of_lt_mul (by rw[Nat.two_mul];exact Nat.add_lt_add_right (Nat.lt_of_not_le ge) r);generalize (l+r)/2=m at m1 m2 ⊢;refine wT (cR C (fr.S hS) (fr.k.trans hst) (by lia) (by lia) ?_);dsimp only;cases hv:L (gt (wS st1) (lo+k)) (gt (wS st1) (lo+m)) with
    |true=>exact Qd ⟨rfl,l,m,rfl,m1,QO (QZ m2) g2,x5 m1 m2 g3,g4,λi h1 h2=>tr _ _ _ (as _ _ hv) (up (m) i h1 h2)⟩
    |false=>exact Qd ⟨rfl,m+1,r,rfl,m2,g2,yi m1 g3,λi h1=>tr _ _ _ (up i (m) (by lia) (by lia)) hv,g5⟩
  ·rintro c st' ⟨rfl,l,r,rfl,g1,g2,g3,g4,g5⟩
   have e:l=r:=by lia
   subst e;exact⟨rfl,l,l,rfl,g2,g4,g5⟩
  ·rintro c st' ⟨rfl,l,r,rfl,g2,g4,g5⟩
   dsimp only;rw[moveDown'_eq];refine wT (ZU (Qd ⟨rfl,fr.bub (by lia) (by lia),?_⟩));rw[show min (k+1) n=k+1 by lia];have at_:=λi=>wN (xs:=wS st1) (lo:=lo) (k:=k) (l:=l) g2 (by lia) i;intro i j h1 h2;show leK L (gt (bubble _ _ _) _) (gt (bubble _ _ _) _);rw[at_ i,at_ j]
   have rf:∀x,leK L x x:=λx=>by
    cases hv:L x x with
    |false=>exact hv
    |true=>have:=as _ _ hv;rw[hv] at this;cases this
   by_cases ci:i=l
   ·first | refine a9 ci ?_ | rw[if_pos ci]
    by_cases cj:j=l
    ·rw[if_pos cj];exact rf _
    ·rw[if_neg cj,if_pos (by lia)];exact g5 (j-1) (by lia) (by lia)
   ·first | refine aW ci ?_ | rw[if_neg ci]
    by_cases cj:j=l
    ·rw[if_pos cj,if_neg (by lia)];exact g4 i (by lia)
    ·first | refine aW cj ?_ | rw[if_neg cj]
     by_cases di:l<i/\i<=k
     ·rw[if_pos di,if_pos (by lia)];exact up (i-1) (j-1) (by lia) (by lia)
     ·first | refine aW di ?_ | rw[if_neg di]
      by_cases dj:l<j/\j<=k
      ·rw[if_pos dj];exact up i (j-1) (by lia) (by lia)
      ·rw[if_neg dj];exact up i j h1 (by lia)
 ·rintro c st1 ⟨hc,fr,up⟩
  rw[show min (max (max ok 1) n) n=n by lia] at up;exact⟨hc,fr,up⟩
 ·refine⟨rfl,FrR.rf st lo,λi j h1 h2=>?_⟩
  by_cases e:ok=0
  ·have:i=j:=by lia
   subst this;exact UpA.one as _ (lo+i) 0 0 (wp _) (by lia)
  ·exact up0 i j h1 (by lia)
 ·rintro c st1 ⟨rfl,fr,up⟩
  exact Qd (h st1 fr up)
end
def qQ:StateT QB Sem Unit:=sortPriv% PySem.Builtin.sortRuns
abbrev key2(p:Nat×Nat×Nat):Nat×Nat:=(p.1,p.2.1)
def ba:Nat->List (List wP)->List (Nat×Nat)
 |_,[]=>[]
 |n,r::rs=>(n,r.length)::ba (n+r.length) rs
theorem c9:∀(R rs:List (List wP)) (n:Nat),ba n (R++rs)=ba n R++ba (n+R.flatten.length) rs
 |[],rs,n=>by simp[ba]
 |r::R,rs,n=>by
  show(n,r.length)::ba (n+r.length) (R++rs)=(n,r.length)::(ba (n+r.length) R++ba (n+(r::R).flatten.length) rs);rw[c9 R rs,List.flatten_cons,Qr,Nat.add_assoc]
theorem bW:∀(R:List (List wP)) (n:Nat),(ba n R).length=R.length
 |[],_=>rfl
 |r::R,n=>by show(ba (n+r.length) R).length+1=R.length+1;rw[bW R]
theorem kH{α β:Type}(g:α->β):∀(l:List α) (i:Nat),(l.eraseIdx i).map g=(l.map g).eraseIdx i
 |[],_=>rfl
 |_::_,0=>rfl
 |x::l,i+1=>by show g x::(l.eraseIdx i).map g=g x::(l.map g).eraseIdx i;rw[kH g l i]
structure Rn(L:wP->wP->Bool)(κ:J6)(st0 st:QB)(runs:List (List wP))(rest:List wP):Prop where
 k:Q0 st=κ
 f:Jb st=none
 al:(wS st).toList=runs.flatten++rest
 pm:(wS st).toList.Perm (wS st0).toList
 ru:∀r∈runs,r.Pairwise (leK L)/\1<=r.length
 pe:(QN st).toList.map key2=ba 0 runs
section
variable{M:Model}{A:Qy}{E:vv->v6->Prop}{s:v6}{κ:J6}{S:wP->Prop}{L:wP->wP->Bool}
theorem Rn.size{st0 st:QB}{runs:List (List wP)}{rest:List wP}(h:Rn L κ st0 st runs rest):(QN st).size=runs.length:=by
 have:=congrArg List.length h.pe;rw[bW] at this;simpa using this
theorem jE(C:j_ M A E s κ S L)(as:∀x y,L x y=true->L y x=false)(tr:∀x y z,L y x=false->L z y=false->L z x=false){st0 st:QB}{runs:List (List wP)}{rest:List wP}(hS:∀x∈(wS st0).toList,S x)(h:Rn L κ st0 st runs rest){i:Nat}(hi:i+2<=runs.length){Q:Bool->QB->Prop}
  (q:∀st' runs',Rn L κ st0 st' runs' rest->runs'.length+1=runs.length->runs'.flatten.length=runs.flatten.length->Q true st'):wpS M A E s (ny i) Q st:=by
 obtain⟨R1,a,b,R2,rfl,li⟩:∃R1 a b R2,runs=R1++a::b::R2/\R1.length=i:=by
  refine⟨runs.take i,runs[i],runs[i+1],runs.drop (i+2),?_,by rw[QI];lia⟩;rw[<-Q6,<-Q6,QL]
 subst li;have pe:=h.pe;rw[c9] at pe
 have e1:((QN st).toList.map key2)[R1.length]?=some (R1.flatten.length,a.length):=by
  rw[pe,QE (by rw[bW];lia),bW,Nat.sub_self];show some (0+R1.flatten.length,a.length)=_;rw[Ja]
 have e2:((QN st).toList.map key2)[R1.length+1]?=some (R1.flatten.length+a.length,b.length):=by
  rw[pe,QE (by rw[bW];lia),bW,JZ];show some (0+R1.flatten.length+a.length,b.length)=_;rw[Ja]
 rw[Qm,QK] at e1 e2;obtain⟨⟨u1,u2,u3⟩,f1,f2⟩:=Option.map_eq_some_iff.mp e1;obtain⟨⟨w1,w2,w3⟩,g1,g2⟩:=Option.map_eq_some_iff.mp e2;simp only[key2,Prod.mk.injEq] at f2 g2;obtain⟨rfl,rfl⟩:=f2;obtain⟨rfl,rfl⟩:=g2;have ra:=h.ru a (by simp);have rb:=h.ru b (by simp);refine oz (pre:=R1.flatten) (Al:=a) (Bl:=b) (post:=R2.flatten++rest) C as tr h.k h.f f1 g1 (by rw[h.al];simp) (λx hx=>hS x (h.pm.mem_iff.mp hx)) ra.2 rb.2 ra.1 rb.1 λst' Cl k' f' p' a' sc pc=>?_;have cl:Cl.length=a.length+b.length:=by rw[pc.length_eq,Qr]
 refine q st' (R1++Cl::R2) ⟨k',f',by rw[a'];simp,?_,λr hr=>?_,?_⟩ (by simp;lia) (by simp[cl];lia)
 ·refine List.Perm.trans ?_ h.pm
  rw[a',h.al];simp only[Z4,List.flatten_cons,Qk];refine(List.Perm.refl _).append ?_;have e9:=pc.append (List.Perm.refl (R2.flatten++rest));rw[Qk a] at e9;exact e9
 ·rcases Qn.mp hr with hr | hr
  ·exact h.ru r (by simp[hr])
  ·rcases ut.mp hr with rfl | hr
   ·exact⟨sc,by lia⟩
   ·exact h.ru r (by simp[hr])
 ·rw[p']
  have lt:R1.length+1<(QN st).size:=(Array.getElem?_eq_some_iff.mp g1).1;rw[Array.toList_eraseIdxIfInBounds,Array.toList_setIfInBounds,kH,List.map_set,pe,c9];show((ba 0 R1++(0+R1.flatten.length,a.length)::(0+R1.flatten.length+a.length,b.length)::ba (0+R1.flatten.length+a.length+b.length) R2).set R1.length (R1.flatten.length,a.length+b.length)).eraseIdx (R1.length+1)=ba 0 R1++(0+R1.flatten.length,Cl.length)::ba (0+R1.flatten.length+Cl.length) R2;have sl:=bW R1 0;rw[List.set_append_right _ _ (by lia),sl,Nat.sub_self,List.set_cons_zero,List.eraseIdx_append_of_length_le (by lia),sl,JZ];show ba 0 R1++(R1.flatten.length,a.length+b.length)::ba (0+R1.flatten.length+a.length+b.length) R2=_;rw[cl,Ja,Nat.add_assoc]
theorem vD{l:List (Nat×Nat×Nat)}{i v:Nat}:(l.modify i λx=>(x.1,x.2.1,v)).map key2=l.map key2:=by
 apply Jq;intro j;rw[Qm,Qm,JS];cases l[j]? with
 |none=>rfl
 |some x=>by_cases e:i=j<;>simp[e,key2]
theorem AF{xs:Array wP}{lo n:Nat}(h:UpA L xs lo n)(hb:lo+n<=xs.size):((xs.toList.drop lo).take n).Pairwise (leK L):=by
 rw[Zo];intro i j hi hj ij;rw[QI,Jx] at hi hj;have e:=h i j (by lia) (by lia);rw[qa (by lia),qa (by lia)] at e;simp only[List.getElem_take,List.getElem_drop,Array.getElem_toList];exact e
theorem Rn.more{st0 st st':QB}{runs:List (List wP)}{rest:List wP}{n:Nat}(h:Rn L κ st0 st runs rest)(hn:n<=rest.length)(n1:1<=n)(sp:(rest.take n).Pairwise (leK L))(pe:(QN st').toList.map key2=ba 0 (runs++[rest.take n]))(k:Q0 st'=Q0 st)(f:Jb st'=Jb st)(a:wS st'=wS st):Rn L κ st0 st' (runs++[rest.take n]) (rest.drop n):=by
 refine⟨k.trans h.k,f.trans h.f,?_,by rw[a];exact h.pm,λr hr=>?_,pe⟩
 ·rw[a,h.al,Z4,ZH,Qk,QL]
 ·rcases Qn.mp hr with hr | hr
  ·exact h.ru r hr
  ·rw[xz.mp hr]
   exact⟨sp,by rw[QI];lia⟩
theorem Rn.fr{st0 st st':QB}{runs:List (List wP)}{rest:List wP}(h:Rn L κ st0 st runs rest)(g:FrR st runs.flatten.length st'):Rn L κ st0 st' runs ((wS st').toList.drop runs.flatten.length):=by
 refine⟨g.k.trans h.k,g.f.trans h.f,?_,g.pm.trans h.pm,h.ru,by rw[g.p];exact h.pe⟩;have e:=g.tk;rw[h.al,List.take_left] at e
 conv=>lhs;rw[<-QL runs.flatten.length (wS st').toList,e]
theorem yW(c:Prop)[Decidable c](p n:Nat)(h:p+2<=n):(if c then p-1 else p)+2<=n:=by split<;>lia
theorem xM{σ α β:Type}{c:Prop}[Decidable c]{f:β->StateT σ Sem α}{t:StateT σ Sem α}{x:β}{Q:α->σ->Prop}{st:σ}(P:β->σ->Prop)(h:∀x st,P x st->wpS M A E s (f x) Q st)(h1:c->(∀x st,P x st->wpS M A E s (f x) Q st)->wpS M A E s t Q st)(h2:¬c->P x st):wpS M A E s (if c then t else f x) Q st:=by
 split
 ·exact h1 ‹_› h
 ·exact h _ _ (h2 ‹_›)
theorem mx(C:j_ M A E s κ S L)(as:∀x y,L x y=true->L y x=false)(tr:∀x y z,L y x=false->L z y=false->L z x=false){st:QB}{Q:Unit->QB->Prop}(hst:Q0 st=κ)(hf:Jb st=none)(hp:QN st=#[])(hS:∀x∈(wS st).toList,S x)
  (h:∀st',Jb st'=none->(wS st').toList.Pairwise (leK L)->(wS st').toList.Perm (wS st).toList->Q () st'):wpS M A E s qQ Q st:=by
 refine wT (wpS_get ?_);rw[show(sortPriv% PySem.Builtin.SortState.a) st=wS st from rfl]
 extract_lets size minrun lo0
 have minE:minrun=minRun' (wS st).size (wS st).size 0:=rfl
 clear_value minrun
 dsimp -zeta -zetaHave only[size,lo0]
 clear lo0
 have R0:Rn L κ st st [] (wS st).toList:=⟨hst,hf,rfl,List.Perm.refl _,(λr hr=>by cases hr),by rw[hp];rfl⟩;refine wT (JF (Q4 (I:=λx c st'=>∃lo runs rest,c=(none,lo)/\Rn L κ st st' runs rest/\lo=runs.flatten.length/\x<=lo) (Q:=λc st'=>∃lo runs rest,c=(none,lo)/\Rn L κ st st' runs rest/\lo=runs.flatten.length/\(wS st).size<=lo) ?_ ?_ ⟨0,[],_,rfl,R0,rfl,wp _⟩) ?_)
 ·rintro x c st1 _ hx ⟨lo,runs,rest,rfl,R,el,xl⟩
  dsimp -zeta -zetaHave only
  by_cases ge:lo>=(wS st).size
  ·first | refine a9 ge ?_ | rw[if_pos ge]
   exact Qd ⟨lo,runs,rest,rfl,R,el,ge⟩
  first | refine aW ge ?_ | rw[if_neg ge]
  have s1:(wS st1).size=(wS st).size:=by rw[<-Qq,<-Qq];exact R.pm.length_eq
  refine wT (rC C as tr R.k (λx hx=>hS x (R.pm.mem_iff.mp hx)) (by lia) (by lia) λn st2 fr n1 n2 up=>?_);dsimp -zeta -zetaHave only;have s2:=fr.sz;have fr':=fr;rw[el] at fr';have RT:=R.fr fr'
  extract_lets n0 jp force n3
  refine xM (f:=λz=>jp () z) (λz st3=>(1<=z/\z<=(wS st).size-lo/\(wS st3).size=(wS st).size)/\UpA L (wS st3) lo z/\Rn L κ st st3 runs ((wS st3).toList.drop runs.flatten.length)) (λNN st3 hh=>?_) (λnm K=>?_) λnm=>⟨⟨n1,n2,s2.trans s1⟩,up,RT⟩
  ·obtain⟨⟨nn1,nn3,s3⟩,up3,RT⟩:=hh
   dsimp -zeta -zetaHave only[jp];have nn2:lo+NN<=(wS st3).size:=by lia
   have hpw:=AF up3 nn2;rw[el] at hpw;have rl:((wS st3).toList.drop runs.flatten.length).length=(wS st).size-lo:=by rw[Jx,Qq,el];lia
   generalize hREST:(wS st3).toList.drop runs.flatten.length=REST at RT hpw rl;refine wT (wpS_get ?_);rcases hbk:(QN st3).back? with _ | ⟨s1,n1,p1⟩
   ·dsimp only
    refine wT (ZU (Qd ⟨lo+NN,runs++[REST.take NN],REST.drop NN,rfl,RT.more (by lia) nn1 hpw (by show((QN st3).push _).toList.map key2=_;rw[Zl,Jg,RT.pe,c9];show ba 0 runs++[(lo,NN)]=ba 0 runs++[(0+runs.flatten.length,(REST.take NN).length)];rw[QI,rl,show min NN ((wS st).size-lo)=NN by lia,<-el,Ja]) rfl rfl rfl,?_,by lia⟩));rw[Z4,Qr,ZH,QI];lia
   ·dsimp only
    refine wT (JF (Q4 (I:=λ_ c st'=>c=(none,())/\∃runs',Rn L κ st st' runs' REST/\runs'.flatten.length=lo) (Q:=λc st'=>c=(none,())/\∃runs',Rn L κ st st' runs' REST/\runs'.flatten.length=lo) ?_ (λc st' z=>z) ⟨rfl,runs,RT,el.symm⟩) ?_)
    ·rintro y c st4 _ hy ⟨rfl,runs',R4,l4⟩
     have sz4:=R4.size;have sz5:((sortPriv% PySem.Builtin.SortState.pending) st4).size=(QN st4).size:=rfl;refine wT (wpS_get ?_)
     by_cases hs:(QN st4).size>1
     ·first | refine a9 hs ?_ | rw[if_pos hs]
      rcases hq:(QN st4)[(QN st4).size-2]? with _ | ⟨q1,q2,older⟩
      ·exact Qd ⟨rfl,runs',R4,l4⟩
      ·dsimp only
       split
       ·exact Qd ⟨rfl,runs',R4,l4⟩
       ·refine wT (jE C as tr hS R4 (by lia) λst5 runs5 R5 len5 fl5=>?_)
        first | refine aW (by decide) ?_ | rw[if_neg (by decide)]
        exact Qd ⟨rfl,runs5,R5,by lia⟩
     ·first | refine aW hs ?_ | rw[if_neg hs]
      exact Qd ⟨rfl,runs',R4,l4⟩
    ·rintro c st4 ⟨rfl,runs',R4,l4⟩
     dsimp only;refine wT (ZU (wT (ZU (Qd ⟨lo+NN,runs'++[REST.take NN],REST.drop NN,rfl,R4.more (by lia) nn1 hpw ?_ rfl rfl rfl,?_,by lia⟩))))
     ·show(((QN st4).modify _ _).push _).toList.map key2=_
      rw[Zl,Jg,Array.toList_modify,vD,R4.pe,c9];show ba 0 runs'++[(lo,NN)]=ba 0 runs'++[(0+runs'.flatten.length,(REST.take NN).length)];rw[QI,rl,show min NN ((wS st).size-lo)=NN by lia,l4,Ja]
     ·rw[Z4,Qr,ZH,QI];lia
  ·refine wT (d0 (wT (wy C as tr (fr.k.trans R.k) (λx hx=>hS x (RT.pm.mem_iff.mp hx)) (by lia) (by lia) up λst3 fr3 up3=>?_)))
   first | refine aW (by decide) ?_ | rw[if_neg (by decide)]
   have s3:=fr3.sz;have fr3':=fr3;rw[el] at fr3';exact K _ _ ⟨⟨by lia,by lia,by lia⟩,up3,RT.fr fr3'⟩
 ·rintro c st1 ⟨lo,runs,rest,rfl,R,el,xl⟩
  exact⟨lo,runs,rest,rfl,R,el,by lia⟩
 ·rintro c st1 ⟨lo,runs,rest,rfl,R,el,xl⟩
  dsimp only;have s1:(wS st1).size=(wS st).size:=by rw[<-Qq,<-Qq];exact R.pm.length_eq
  have e0:rest=[]:=by
   have:=congrArg List.length R.al;rw[Qr,Qq] at this;exact List.eq_nil_of_length_eq_zero (by lia)
  subst e0
  have many:∀rs:List (List wP),(∀r∈rs,1<=r.length)->rs.length<=rs.flatten.length:=λrs=>by
   induction rs with
   |nil=>intro _;exact wp _
   |cons r rs ih=>
    intro hr;have h1:=hr r (by simp);have h2:=ih λr' h'=>hr r' (by simp[h']);rw[List.flatten_cons,Qr,Qv];lia
  have m1:=many runs λr hr=>(R.ru r hr).2
  have fl:runs.flatten.length=(wS st).size:=by
   have:=congrArg List.length R.al;rw[Qr,Qq,List.length_nil] at this
   lia
  refine wT (JF (Q4 (I:=λx c st'=>c=(none,())/\∃runs',Rn L κ st st' runs' []/\runs'.length<=max 1 ((wS st).size-x)) (Q:=λc st'=>c=(none,())/\∃runs',Rn L κ st st' runs' []/\runs'.length<=1) ?_ ?_ ⟨rfl,runs,R,by lia⟩) ?_)
  ·rintro x c st4 _ hx ⟨rfl,runs',R4,l4⟩
   have sz4:=R4.size;have sz5:((sortPriv% PySem.Builtin.SortState.pending) st4).size=(QN st4).size:=rfl;refine wT (wpS_get ?_)
   by_cases hs:(QN st4).size<=1
   ·first | refine a9 hs ?_ | rw[if_pos hs]
    exact Qd ⟨rfl,runs',R4,by lia⟩
   ·first | refine aW hs ?_ | rw[if_neg hs]
    refine wT (jE C as tr hS R4 (yW _ _ _ (by lia)) λst5 runs5 R5 len5 fl5=>?_)
    first | refine aW (by decide) ?_ | rw[if_neg (by decide)]
    exact Qd ⟨rfl,runs5,R5,by lia⟩
  ·rintro c st4 ⟨rfl,runs',R4,l4⟩
   exact⟨rfl,runs',R4,by lia⟩
  ·rintro c st4 ⟨rfl,runs',R4,l4⟩
   refine Qd (h st4 R4.f ?_ R4.pm);rw[R4.al,QW]
   match runs',l4,R4 with
   |[],_,_=>exact List.Pairwise.nil
   |[r],_,R4=>rw[ZH];exact(R4.ru r (by simp)).1
   |_::_::_,l4,_=>simp at l4
end
open PySem.Spec L2 PySem.W
section
variable{vs:List vv}{lt:Nat->Nat->Bool}
def sK(vs:List vv)(x:wP):Prop:=∃i,i<vs.length/\x=(vs.getD i .none,vs.getD i .none)
open Classical in
noncomputable def ixK (vs:List vv) (v:vv):Nat:=if h:∃i,i<vs.length/\vs.getD i .none=v then Classical.choose h else 0
noncomputable def lK (vs:List vv) (lt:Nat->Nat->Bool) (x y:wP):Bool:=lt (ixK vs x.1) (ixK vs y.1)
theorem ug{i:Nat}(hi:i<vs.length):ixK vs (vs.getD i .none)<vs.length/\vs.getD (ixK vs (vs.getD i .none)) .none=vs.getD i .none:=by
 have h:∃j,j<vs.length/\vs.getD j .none=vs.getD i .none:=⟨i,hi,rfl⟩;unfold ixK;rw[dif_pos h];exact Classical.choose_spec h
theorem x8(hcon:∀i j k,i<vs.length->j<vs.length->vs.getD i .none=vs.getD j .none->lt i k=lt j k/\lt k i=lt k j){i j:Nat}(hi:i<vs.length)(hj:j<vs.length):lK vs lt (vs.getD i .none,vs.getD i .none) (vs.getD j .none,vs.getD j .none)=lt i j:=by
 obtain⟨a1,a2⟩:=ug hi;obtain⟨b1,b2⟩:=ug hj;show lt _ _=_;rw[(hcon _ _ _ a1 hi a2).1,(hcon _ _ _ b1 hj b2).2]
theorem sC{prog:Qs}{w:QC}{A:Qy}{s:v6}{κ:J6}(hcon:∀i j k,i<vs.length->j<vs.length->vs.getD i .none=vs.getD j .none->lt i k=lt j k/\lt k i=lt k j)
  (hc:∀i j (R:Bool->v6->Prop),i<vs.length->j<vs.length->R (lt i j) s->wE (Qa prog w) A (keyLt' κ (vs.getD i .none) (vs.getD j .none)) R (λ_ _=>False) s):j_ (Qa prog w) A (λ_ _=>False) s κ (sK vs) (lK vs lt):=by
 rintro x y st Q ⟨i,hi,rfl⟩ ⟨j,hj,rfl⟩ hk q;rw[x8 hcon hi hj] at q;rw[lt'_eq];refine wT (wpS_get ?_);rw[hk];refine wT (wpS_lift (wpAny_attempt (QP (hc i j (λb t=>b=lt i j/\t=s) hi hj ⟨rfl,rfl⟩) (λb t hb=>?_) λ_ _ x=>x.elim)));obtain⟨rfl,rfl⟩:=hb;exact⟨rfl,Qd q⟩
theorem uQ(vs:List vv):(vs.toArray.zip vs.toArray).toList=(QF vs.length).map λi=>(vs.getD i .none,vs.getD i .none):=by
 refine List.ext_getElem (by simp) λi h1 h2=>?_;have hi:i<vs.length:=by simpa using h2
 simp[hi]
theorem oM{vs:List vv}(h:vs.length<2):(vs.toArray.zip vs.toArray).map (·.2)=QS ((QS (QF vs.length)).toList.map λi=>vs.getD i .none):=by
 rcases vs with _ | ⟨v,_ | ⟨w,r⟩⟩
 ·simp
 ·simp[QF,List.range.loop]
 ·rw[Qv,Qv] at h;lia
theorem yd(vs:List vv):∀x∈(vs.toArray.zip vs.toArray).toList,sK vs x:=λx hx=>by
 rw[uQ] at hx;obtain⟨i,hi,rfl⟩:=Qo.mp hx;exact⟨i,Je.mp hi,rfl⟩
theorem r_{α β:Type}(f:α->β):∀{l l':List β},l.Perm l'->∀q:List α,l'=q.map f->∃p:List α,p.Perm q/\l=p.map f:=by
 intro l l' h
 induction h with
 |nil=>intro q e;exact⟨q,.refl _,e⟩
 |cons x h ih=>
  intro q e
  match q,e with
  |y::q,e=>
   rw[Qe] at e;injection e with e1 e2
   obtain⟨p,h1,h2⟩:=ih q e2;exact⟨y::p,h1.cons y,by rw[Qe,<-h2,e1]⟩
 |swap x y l=>
  intro q e
  match q,e with
  |u::v::q,e=>
   rw[Qe,Qe] at e;injection e with e1 e2
   injection e2 with e2 e3
   exact⟨v::u::q,.swap _ _ _,by rw[Qe,Qe,<-e1,<-e2,<-e3]⟩
 |trans h1 h2 ih1 ih2=>
  intro q e;obtain⟨p2,a1,a2⟩:=ih2 q e;obtain⟨p1,b1,b2⟩:=ih1 p2 a2;exact⟨p1,b1.trans a1,b2⟩
theorem oJ(O:Ord vs.length lt)(hcon:∀i j k,i<vs.length->j<vs.length->vs.getD i .none=vs.getD j .none->lt i k=lt j k/\lt k i=lt k j){st:QB}(sp:(wS st).toList.Pairwise (leK (lK vs lt)))(pm:(wS st).toList.Perm (vs.toArray.zip vs.toArray).toList) :
  ∃p:Array Nat,Pm vs.length p/\Up lt p vs.length/\(wS st).map (·.2)=QS (p.toList.map λi=>vs.getD i .none):=by
 obtain⟨p,h1,h2⟩:=r_ _ pm (QF vs.length) (uQ vs);have sz:p.length=vs.length:=by rw[h1.length_eq,ZL]
 refine⟨p.toArray,⟨by simpa using sz,by simpa using h1⟩,λi j ij hj=>?_,?_⟩
 ·by_cases e:i=j
  ·subst e;exact O.rf _
  ·have hi':i<p.length:=by lia
   have hj':j<p.length:=by lia
   rw[h2,List.pairwise_map] at sp;have:=Zo.mp sp i j hi' hj' (by lia);have li:p[i]<vs.length:=Je.mp (h1.mem_iff.mp (ZT _));have lj:p[j]<vs.length:=Je.mp (h1.mem_iff.mp (ZT _));have e2:=x8 hcon lj li;have e3:lt p[j] p[i]=false:=e2.symm.trans this;simpa[Array.getD,hi',hj'] using e3
 ·apply Array.toList_inj.mp
  rw[Array.toList_map,h2,Jm];rfl
end
section
variable{prog:Qs}{w:QC}{A:Qy}{E:vv->v6->Prop}{s:v6}{κ:J6}
theorem qP{l:Addr}{vs:List vv}{Q:vv->v6->Prop}{lt:Nat->Nat->Bool}(hl:s.heap.IsList l vs.toArray)(hz:vs.length<1000000)(O:Ord vs.length lt)(hcon:∀i j k,i<vs.length->j<vs.length->vs.getD i .none=vs.getD j .none->lt i k=lt j k/\lt k i=lt k j)
  (hk:2<=vs.length->∀(t:v6) (R:J6->v6->Prop),Kp s.heap t.heap->R κ t->wE (Qa prog w) A.in1.in1 (keyKind' vs.toArray) R (λ_ _=>False) t)
  (hc:∀i j (t:v6) (R:Bool->v6->Prop),Kp s.heap t.heap->i<vs.length->j<vs.length->R (lt i j) t->wE (Qa prog w) A.in1.in1 (keyLt' κ (vs.getD i .none) (vs.getD j .none)) R (λ_ _=>False) t)
  (h:∀p:Array Nat,Pm vs.length p->Up lt p vs.length->Q (.ref (s.heap.objs.size+1)) { s with heap:=sortedAll s.heap vs (QS (p.toList.map λi=>vs.getD i .none)) }):wE (Qa prog w) A (call (.builtin "sorted") [.ref l]) Q E s:=by
 have zl:vs.length<=Qt:=QZ (Jc hz (by decide));obtain⟨c,m1,m2⟩:=zc s.heap vs;refine Calls.call_function_entry (kind_sorted) (plain_sorted) (entry_sorted) (args_sorted1 _) ?_;unfold ZA.«sorted»;refine zn (m:=(checkCount "sorted" 1 1 _)) (wn (zn (collect_list hl (zn (wpAny_newList (items:=vs) ?_ zl)) zl)));show wE _ _ _ _ _ { s with heap:=stA s.heap vs };rw[mF];refine zn (QJ (Q3 (slot_list_sort) ⟨_,lW s.heap vs,rfl⟩ (entry_list_sort) ?tree (args_list_sort _)))
 case tree=>
  rw[list_sort_plain];refine zn (listItems_at (lW s.heap vs) rfl (zn (ZW (lW s.heap vs) rfl (zn (seqEpoch_at m1 rfl (zn (wpAny_newTuple (items:=vs) (zn (wpAny_newList (items:=[]) (QJ ?_) (QA _))) zl)))) (by simpa using zl) (QA _))));show wE (Qa prog w) A.in1.in1 _ _ _ { s with heap:=stB s.heap vs };dsimp only
  have out:∀p:Array Nat,Pm vs.length p->Up lt p vs.length->∀st:QB,(wS st).map (·.2)=QS (p.toList.map λi=>vs.getD i .none)->((wS st).map (·.2)).size<=Qt+1:=λp hp _ st e=>by
   rw[e];simp only[Qx,Qg,Qq,hp.sz]
   lia
  by_cases two:vs.toArray.size<2
  ·rw[if_pos two,if_pos two]
   have two':vs.length<2:=by simpa using two
   refine zn (wn ?_);rw[StateT.run_pure]
   have e0:(wS (Zb general' (vs.toArray.zip vs.toArray) #[] 7 none)).map (·.2)=QS ((QS (QF vs.length)).toList.map λi=>vs.getD i .none):=by
    show(vs.toArray.zip vs.toArray).map (·.2)=_;exact oM two'
   have up0:Up lt (QS (QF vs.length)) vs.length:=λi j a b=>by
    have:i=j:=by lia
    subst this;exact O.rf _
   refine zn (wn ?_);dsimp only;refine zn (seqEpoch_at m2 rfl (zn (ZW m2 rfl ?_ (QA _) (out _ (.start _) up0 _ e0))));simp only[ZE,bne_self_eq_false,if_false];refine wn ⟨_,rfl,wn ⟨_,rfl,?_⟩⟩;have:=h _ (.start _) up0;rw[<-e0] at this;exact this
  ·rw[if_neg two,if_neg two]
   have two':2<=vs.length:=by simpa using two
   refine zn (QP (hk two' { s with heap:=stB s.heap vs } (λk t=>k=κ/\t={ s with heap:=stB s.heap vs }) (sH _ _) ⟨rfl,rfl⟩) (λk t hkt=>?_) λ_ _ x=>x.elim);obtain⟨rfl,rfl⟩:=hkt;generalize ht:({ s with heap:=stB s.heap vs }:v6)=t0 at *;have kp0:Kp s.heap t0.heap:=by rw[<-ht];exact sH _ _
   have run:=mx (M:=Qa prog w) (A:=A.in1.in1) (E:=λ_ _=>False) (s:=t0) (κ:=k) (S:=sK vs) (L:=lK vs lt) (st:=Zb k (vs.toArray.zip vs.toArray) #[] 7 none) (Q:=λ_ st=>Jb st=none/\∃p:Array Nat,Pm vs.length p/\Up lt p vs.length/\(wS st).map (·.2)=QS (p.toList.map λi=>vs.getD i .none))
    (sC hcon λi j R hi hj hR=>hc i j t0 R kp0 hi hj hR) (λx y e=>O.as _ _ e) (λx y z e f=>O.tr _ _ _ e f) rfl rfl rfl (yd vs) λst' f' sp pm=>⟨f',oJ O hcon sp pm⟩
   have run':wE (Qa prog w) A.in1.in1 ((sortRuns').run (Zb k (vs.toArray.zip vs.toArray) #[] 7 none)) (λr t=>t=t0/\Jb r.2=none/\∃p:Array Nat,Pm vs.length p/\Up lt p vs.length/\(wS r.2).map (·.2)=QS (p.toList.map λi=>vs.getD i .none)) (λ_ _=>False) t0:=run;refine zn (QP run' ?_ λ_ _ x=>x.elim);rintro⟨⟨⟩,st⟩ t ⟨e1,hf,p,hp,hup,hout⟩;subst e1;dsimp only at hf hout ⊢;subst ht;refine zn (seqEpoch_at m2 rfl (zn (ZW m2 rfl ?_ (QA _) (out p hp hup st hout))));rw[hf];simp only[ZE,bne_self_eq_false,if_false];refine wn ⟨_,rfl,wn ⟨_,rfl,?_⟩⟩;have:=h p hp hup;rw[<-hout] at this;exact this
end
theorem gv{vs:List vv}{ns ms:List Int}(h:J0 vs ns):J0 vs ms->ns=ms:=by
 induction h generalizing ms with
 |nil=>intro g;cases g;rfl
 |cons n t h ih=>intro g;cases g with | cons _ _ g=>rw[ih g]
def gz(fa:Ev->Option D):Ev->Option (List D):=λε=>match fa ε with
 |some (.lst ds)=>(iq ds).bind λts=>if ts.length<1000000 then some ((h7 ts).map eR) else none
 |_=>none
section
variable{X:Cx}{a:Expr}{pos:Pos}{fa:Ev->Option D}
theorem rX{k:Nat}(hr:Room k X.A)(hc:X.calm=true):dA X (.builtin "sorted") (λxs H Q=>∃G l vs ts,xs=[.ref l]/\aF G H/\SqL X.K H l vs/\DenL X.K G vs (ts.map eR)/\(∀t∈ts,t≠[])/\ts.length<1000000/\
  ∀p us,H p=none->DenL X.K G us ((h7 ts).map eR)->Q (.ref p) (upd H p (.lst us))):=by
 intro pins s σ H xs us Q I rv h;obtain⟨G,l,vs,ts,rfl,gh,hq,hd,hne,hn,q⟩:=h;obtain⟨u,rfl,ru⟩:=rv.one;cases ru;obtain⟨its,rr,pl,hz⟩:=I.list hq;have nl:its.length=ts.length:=by rw[<-rr.length,hd.length,Qg]
 have at_:∀i,i<ts.length->∃(a:Addr) (arr:Array vv),its.getD i .none=.ref a/\IsTup s.heap a arr/\J0 arr.toList (ts.getD i []):=λi hi=>by
  have hi1:i<its.length:=by lia
  have hi2:i<vs.length:=by rw[rr.length];exact hi1
  have hx:=br V.non hi2;obtain⟨d,e1,e2⟩:=hd.getV hx;rw[Qm,br [] hi] at e1;cases e1;obtain⟨a,ys,ea,w1,w2⟩:=e2.tupV;obtain⟨u,eu,ru⟩:=rr.get hx;rw[br QR hi1] at eu;have eu:=Option.some.inj eu;rw[ea] at ru;obtain⟨arr,r2,p2,_⟩:=I.tuple (aC gh w1);refine⟨a,arr.toArray,eu.trans (show u=QH a from ru),p2,?_⟩;have:=c8 w2 (dS _);rw[this] at r2;simpa using gj r2
 have sz:ts.length=its.length:=nl.symm;refine qP (κ:=tuples' (Value.type "int" != Value.type "tuple")) (lt:=λi j=>lxL (ts.getD i []) (ts.getD j [])) pl.isList (by lia) ⟨λx y e=>my _ _ e,λx y z e f=>oU _ _ _ e f⟩ (λi j k hi hj e=>?_) (λh2 t R kp hR=>?_) (λi j t R kp hi hj hR=>?_) λp hp hup=>?_
 ·obtain⟨a1,r1,x1,⟨o1,p1,c1,n1,d1⟩,i1⟩:=at_ i (by lia)
  obtain⟨a2,r2,x2,⟨o2,p2,c2,n2,d2⟩,i2⟩:=at_ j (by lia);have ea:a1=a2:=by rw[x1,x2] at e;injection e
  subst ea;rw[p1] at p2;cases p2;rw[d1] at d2;cases d2;have:ts.getD i []=ts.getD j []:=gv i1 i2;rw[this];exact⟨rfl,rfl⟩
 ·-- of which kind the keys are
  have tu:∀(m:Nat) (vs':List vv) (fs:List Int),(∀i,i<vs'.length->∃(a:Addr) (arr:Array vv),vs'.getD i .none=.ref a/\IsTup s.heap a arr/\J0 arr.toList (ts.getD (m+i) []))->m+vs'.length<=ts.length->
    ∃fs:List vv,KatTups t.heap vs' fs/\fs.length=vs'.length/\∀v∈fs,∃n tk,v=.int n tk:=by
   intro m vs'
   induction vs' generalizing m with
   |nil=>exact λ_ _ _=>⟨[],.nil,rfl,λv hv=>by cases hv⟩
   |cons v vs' ih=>
    intro fs hat hm
    obtain⟨fs',f1,f2,f3⟩:=ih (m+1) fs (λi hi=>by
     have:=hat (i+1) (by simp;lia);rw[show m+(i+1)=m+1+i by lia] at this
     simpa using this) (by simp at hm;lia)
    obtain⟨a,arr,e1,⟨o,e2,e3,n,e4⟩,e5⟩:=hat 0 (by simp);have e1:v=.ref a:=by simpa using e1
    subst e1
    have hmem:ts.getD (m+0) []∈ts:=by
     have hlt:m+0<ts.length:=by simp at hm;lia
     have:=br ([]:List Int) hlt;exact Jj this
    generalize hg:ts.getD (m+0) []=tt at e5 hmem;cases hh:arr.toList with
    |nil=>
     rw[hh] at e5;cases e5;exact absurd rfl (hne _ hmem)
    |cons f r=>
     rw[hh] at e5;cases e5 with
     |cons nn tk rest=>
      refine⟨.int nn tk::fs',.cons (kp _ _ e2) e3 e4 ?_ f1,by simp[f2],λv hv=>?_⟩
      ·rw[<-QK,hh];rfl
      ·rcases ut.mp hv with rfl | hv
       ·exact⟨_,_,rfl⟩
       ·exact f3 v hv
  obtain⟨fs,f1,f2,f3⟩:=tu 0 its [] (λi hi=>by rw[Ja];exact at_ i (by lia)) (by lia);refine kat_kind (T:=.type "int") f1 (by lia) (λv hv=>?_) (by rfl) hR;obtain⟨n,tk,rfl⟩:=f3 v hv;exact Looks.of_pure rfl
 ·obtain⟨a1,r1,x1,⟨o1,p1,c1,n1,d1⟩,i1⟩:=at_ i (by lia)
  obtain⟨a2,r2,x2,⟨o2,p2,c2,n2,d2⟩,i2⟩:=at_ j (by lia);rw[x1,x2];refine kat_lt (kp _ _ p1) d1 (kp _ _ p2) d2 (jw 0 i1 i2 ?_);have l1:r1.size=(ts.getD i []).length:=by rw[<-i1.length];simp
  have l2:r2.size=(ts.getD j []).length:=by rw[<-i2.length];simp
  rw[l1,l2,ly];exact hR
 ·rw[<-sz] at hp hup
  have us:=tI hp hup;obtain⟨ep,he⟩:=sortedAll_at s.heap its (QS (p.toList.map λi=>its.getD i .none));have nn:H (s.heap.objs.size+1)=none:=I.hok.fresh (Nat.le_succ _);have below:∀i∈p.toList,i<ts.length:=λi hi=>Je.mp (hp.pm.mem_iff.mp hi)
  have vals:∀l:List Nat,(∀i∈l,i<ts.length)->aK (l.map λi=>vs.getD i V.non) (l.map λi=>its.getD i QR):=by
   intro l
   induction l with
   |nil=>exact λ_=>.nil
   |cons i r ih=>
    intro hl;have hi:=hl i (Qh ..);have hx:=br V.non (l:=vs) (i:=i) (by rw[rr.length];lia);obtain⟨u,eu,ru⟩:=rr.get hx;rw[br QR (by lia)] at eu;rw[<-Option.some.inj eu] at ru;exact .cons ru (ih λj hj=>hl j (Qj _ hj))
  have dens:∀l:List Nat,(∀i∈l,i<ts.length)->DenL X.K G (l.map λi=>vs.getD i V.non) ((l.map λi=>ts.getD i []).map eR):=by
   intro l
   induction l with
   |nil=>exact λ_=>.nil
   |cons i r ih=>
    intro hl;have hi:=hl i (Qh ..);have hx:=br V.non (l:=vs) (i:=i) (by rw[rr.length];lia);obtain⟨d,e1,e2⟩:=hd.getV hx;rw[Qm,br [] hi] at e1;cases e1;exact .cons e2 (ih λj hj=>hl j (Qj _ hj))
  have dn:=dens p.toList below;rw[us] at dn;refine⟨.ref (s.heap.objs.size+1),upd H (s.heap.objs.size+1) (.lst (p.toList.map λi=>vs.getD i V.non)),I.laid (a:=s.heap.objs.size+1) (o:=.lst (p.toList.map λi=>vs.getD i V.non)) (t':=s.toks) (λb o e=>sortedAll_old e) (Nat.le_succ _) ⟨?_,p.toList.map λi=>its.getD i .none,ep,vals _ below,?_⟩,rfl,q _ _ nn dn⟩
  ·rw[Qg,Qq,hp.sz,sizeLine_eq];lia
  ·rw[he]
theorem qE{k:Nat}{p:Pos}(hr:Room k X.A)(hc:X.calm=true)(ha:DB X a fa)(hm:X.mg "sorted" = none)(hg:Gl X "sorted":=by rfl)(hst:uk [a] X.env=(false,eval a X.env)::uk [] X.env:=by rfl)(hpl:(Q7 pos (uk [] X.env)).any (·.1)=false:=by rfl):DF X (.Call (.Name "sorted" p) [a] [] pos) (gz fa):=by
 obtain⟨ta,a1,a2⟩:=ha;refine⟨_,fj (rX hr hc) hg hm boot_sorted (bD a1 b6 hst) (by decide) (by decide) hst hpl,λHe G H σ ε d Q gh E ef q=>?_⟩;unfold gz at ef;split at ef
 ·rename_i ds e1
  obtain⟨ts,en,ef⟩:=af ef;split at ef
  ·rename_i hl
   cases ef;refine a2 He G H σ ε _ _ gh E e1 λv G1 H1 g1 d1=>?_;obtain⟨m1,m2⟩:=jh en;subst m1;obtain⟨l,xs,rfl,h1,h2⟩:=d1.lst g1.gh;refine⟨G1,l,xs,ts,rfl,g1.gh,h1,h2,m2,hl,λp' us hp hd=>?_⟩;exact q p' _ G1 _ (g1.trans (.lay _ g1.gh hp)) (g1.hh.free hp) (g1.gh.free hp) aE hd
  ·cases ef
 ·cases ef
end
open RW2
def g0(h:Heap)(vs:List vv):Heap:=h.push (seqObj "list" vs.toArray 0)
def gB(h:Heap)(vs:List vv):Heap:=(((g0 h vs).update h.objs.size (ZC λ_=>#[])).push (seqObj "tuple" vs.toArray 0)).push (seqObj "list" #[] 0)
theorem qv(h:Heap)(vs:List vv):(g0 h vs).get? h.objs.size=some (seqObj "list" vs.toArray 0):=Qf _ rfl
theorem x6(h:Heap)(vs:List vv):∃c,((g0 h vs).update h.objs.size (ZC λ_=>#[])).get? h.objs.size=some (seqObj "list" #[] c)/\(gB h vs).get? h.objs.size=some (seqObj "list" #[] c):=by
 have e:=get?_update_seq (qv h vs) λ_=>#[];exact⟨_,e,wf _ (wf _ e)⟩
theorem yg{h:Heap}{vs:List vv}{b:Addr}{o:Obj}(e:h.get? b=some o):(gB h vs).get? b=some o:=by
 unfold gB g0;refine wf _ (wf _ ?_);rw[Z0 _ _ _ _ (Qu (Qb e))];exact wf _ e
theorem xR{h h1:Heap}{vs:List vv}(k:Kp h h1):Kp h (gB h1 vs):=λb o e=>yg (k b o e)
def gZ(h:Heap)(vs:List vv)(out:Array vv):Heap:=(gB h vs).update h.objs.size (ZC λ_=>out)
theorem Aq(h:Heap)(vs:List vv)(out:Array vv):∃c,(gZ h vs out).get? h.objs.size=some (seqObj "list" out c):=by
 obtain⟨c,_,m2⟩:=x6 h vs;exact⟨_,get?_update_seq m2 λ_=>out⟩
theorem Bn{h:Heap}{vs:List vv}{out:Array vv}{b:Addr}{o:Obj}(e:h.get? b=some o):(gZ h vs out).get? b=some o:=by
 unfold gZ;rw[Z0 _ _ _ _ (Qu (Qb e))];exact yg e
section
variable{prog:Qs}{w:QC}{A:Qy}{E:vv->v6->Prop}{s:v6}{κ:J6}
theorem tG{d:Addr}{es:Array Jp}{ep:Nat}{R:List vv->v6->Prop}(nm:(d==Ju)=false)(x:gc s.heap d es ep)(hh:A.handled=none)(hn:es.size<=Qt)
  (h:∀(h':Heap) (tk:Nat),Kp s.heap h'->s.heap.objs.size<h'.objs.size->R (es.toList.map (·.key)) { s with heap:=h',toks:=tk }):wE (Qa prog w) A (collect (.ref d)) R E s:=by
 have dl:=x.lt;have src:=mX (prog:=prog) (w:=w) d nm es ep;unfold collect;refine zn (wpAny_runValue (Z7 entry_proto_collect' ?_));rw[Zn PySem.F.plain_proto_collect _];show wE _ A.in1 (newList []>>=λl=>again (.builtin "list.__iadd__" ⟨[l,.ref d],[]⟩)) _ _ s;refine zn (QG (wn ⟨plainId_quiet PySem.F.plain_list_iadd _,Z7 entry_list_iadd' ?_⟩));rw[Zn PySem.F.plain_list_iadd _];have at0:(s.heap.push { cls:=.type "list",data:=.seq ([]:List vv).toArray }).get? s.heap.objs.size=some { cls:=.type "list",data:=.seq #[] }:=Qf _ rfl;show wE _ A.in1 (Builtin.List.listExtendWith (.ref s.heap.objs.size) (.ref d) (.ref s.heap.objs.size)) _ _ _
 have key:=kdl_extend (A:=A) (s:={ s with heap:=s.heap.push { cls:=.type "list",data:=.seq ([]:List vv).toArray } })
  (R:=λ(q:Result) (s':v6)=>∃(h':Heap) (tk:Nat) (acc:Array vv) (c:Nat),q=.ok (.ret (.ref s.heap.objs.size))/\s'={ s with heap:=h',toks:=tk }/\Kp s.heap h'/\h'.get? s.heap.objs.size=some { cls:=.type "list",dict:=none,data:=.seq acc c,slots:=#[] }/\ItemsOf (λi v=>∃e,es[i]?=some e/\v=e.key) acc es.size)
  src hh (src.keep _ _ x λb _ o e=>wf _ e) s.heap.objs.size (Nat.ne_of_gt dl) (Nat.ne_of_gt dl) (.ref s.heap.objs.size) 0 at0
  (λh' tk acc c hk hS items=>⟨h',tk,acc,c,rfl,rfl,λb o e=>hk b o (Qu (Qb e)) (wf _ e),hS,items⟩) hn
 have fin:∀(h':Heap) (tk:Nat) (acc:Array vv) (c:Nat),Kp s.heap h'->h'.get? s.heap.objs.size=some { cls:=.type "list",dict:=none,data:=.seq acc c,slots:=#[] }->ItemsOf (λi v=>∃e,es[i]?=some e/\v=e.key) acc es.size->R acc.toList { s with heap:=h',toks:=tk }:=λh' tk acc c kp hS items=>by
  have ea:acc.toList=es.toList.map (·.key):=by
   refine Jq λi=>?_;rw[Qm,QK,QK]
   by_cases hi:i<es.size
   ·have hi2:i<acc.size:=by rw[items.1];exact hi
    obtain⟨e,e1,e2⟩:=items.2 i acc[i] (by simp[hi2]);rw[e1];simp[hi2,e2]
   ·rw[JK (by rw[items.1];exact JM hi),JK (JM hi)]
    rfl
  rw[ea];exact h h' tk kp (Qb hS)
 refine QP key (λf s' z=>?_) λe s' z=>?_
 ·cases f with
  |done f=>
   obtain⟨h',tk,acc,c,e,rfl,kp,hS,items⟩:=z;cases e;show wE _ A (load s.heap.objs.size>>=λ_=>_) _ _ _;exact zn (wpAny_load hS (wn (fin h' tk acc c kp hS items)))
  |again c₁=>
   refine⟨z.1,codeAny_mono z.2 λq s₂ y=>?_⟩;obtain⟨h',tk,acc,c,rfl,rfl,kp,hS,items⟩:=y;show wE _ A (load s.heap.objs.size>>=λ_=>_) _ _ _;exact zn (wpAny_load hS (wn (fin h' tk acc c kp hS items)))
 ·obtain⟨_,_,_,_,e',_⟩:=z
  cases e'
theorem rn{d:Addr}{es:Array Jp}{ep:Nat}{vs:List vv}{Q:vv->v6->Prop}{lt:Nat->Nat->Bool}(nm:(d==Ju)=false)(x:gc s.heap d es ep)(hh:A.handled=none)(ev:es.toList.map (·.key)=vs)(hz:vs.length<1000000)(O:Ord vs.length lt)
  (hcon:∀i j k,i<vs.length->j<vs.length->vs.getD i .none=vs.getD j .none->lt i k=lt j k/\lt k i=lt k j)
  (hk:2<=vs.length->∀(t:v6) (R:J6->v6->Prop),Kp s.heap t.heap->R κ t->wE (Qa prog w) A.in1.in1 (keyKind' vs.toArray) R (λ_ _=>False) t)
  (hc:∀i j (t:v6) (R:Bool->v6->Prop),Kp s.heap t.heap->i<vs.length->j<vs.length->R (lt i j) t->wE (Qa prog w) A.in1.in1 (keyLt' κ (vs.getD i .none) (vs.getD j .none)) R (λ_ _=>False) t)
  (h:∀(p:Array Nat) (h1:Heap) (tk1:Nat),Kp s.heap h1->s.heap.objs.size<h1.objs.size->Pm vs.length p->Up lt p vs.length->Q (.ref h1.objs.size) { s with heap:=gZ h1 vs (QS (p.toList.map λi=>vs.getD i .none)),toks:=tk1 }):wE (Qa prog w) A (call (.builtin "sorted") [.ref d]) Q E s:=by
 have zl:vs.length<=Qt:=QZ (Jc hz (by decide));have ze:es.size<=Qt:=by have:=congrArg List.length ev;simp at this;lia
 refine Calls.call_function_entry (kind_sorted) (plain_sorted) (entry_sorted) (args_sorted1 _) ?_;unfold ZA.«sorted»;refine zn (m:=(checkCount "sorted" 1 1 _)) (wn (zn (tG (A:=A.in1) nm x hh ze λh1 tk1 kp1 sl1=>?_)));rw[ev];refine zn (wpAny_newList (items:=vs) ?_ zl);obtain⟨c,m1,m2⟩:=x6 h1 vs;show wE _ _ _ _ _ { s with heap:=g0 h1 vs,toks:=tk1 };refine zn (QJ (Q3 (slot_list_sort) ⟨_,qv h1 vs,rfl⟩ (entry_list_sort) ?tree (args_list_sort _)))
 case tree=>
  rw[list_sort_plain];refine zn (listItems_at (qv h1 vs) rfl (zn (ZW (qv h1 vs) rfl (zn (seqEpoch_at m1 rfl (zn (wpAny_newTuple (items:=vs) (zn (wpAny_newList (items:=[]) (QJ ?_) (QA _))) zl)))) (by simpa using zl) (QA _))));show wE (Qa prog w) A.in1.in1 _ _ _ { s with heap:=gB h1 vs,toks:=tk1 };dsimp only
  have out:∀p:Array Nat,Pm vs.length p->Up lt p vs.length->∀st:QB,(wS st).map (·.2)=QS (p.toList.map λi=>vs.getD i .none)->((wS st).map (·.2)).size<=Qt+1:=λp hp _ st e=>by
   rw[e];simp only[Qx,Qg,Qq,hp.sz]
   lia
  by_cases two:vs.toArray.size<2
  ·rw[if_pos two,if_pos two]
   have two':vs.length<2:=by simpa using two
   refine zn (wn ?_);rw[StateT.run_pure]
   have e0:(wS (Zb general' (vs.toArray.zip vs.toArray) #[] 7 none)).map (·.2)=QS ((QS (QF vs.length)).toList.map λi=>vs.getD i .none):=by
    show(vs.toArray.zip vs.toArray).map (·.2)=_;exact oM two'
   have up0:Up lt (QS (QF vs.length)) vs.length:=λi j a b=>by
    have:i=j:=by lia
    subst this;exact O.rf _
   refine zn (wn ?_);dsimp only;refine zn (seqEpoch_at m2 rfl (zn (ZW m2 rfl ?_ (QA _) (out _ (.start _) up0 _ e0))));simp only[ZE,bne_self_eq_false,if_false];refine wn ⟨_,rfl,wn ⟨_,rfl,?_⟩⟩;have:=h _ h1 tk1 kp1 sl1 (.start _) up0;rw[<-e0] at this;exact this
  ·rw[if_neg two,if_neg two]
   have two':2<=vs.length:=by simpa using two
   refine zn (QP (hk two' { s with heap:=gB h1 vs,toks:=tk1 } (λk t=>k=κ/\t={ s with heap:=gB h1 vs,toks:=tk1 }) (xR kp1) ⟨rfl,rfl⟩) (λk t hkt=>?_) λ_ _ x=>x.elim);obtain⟨rfl,rfl⟩:=hkt;generalize ht:({ s with heap:=gB h1 vs,toks:=tk1 }:v6)=t0 at *;have kp0:Kp s.heap t0.heap:=by rw[<-ht];exact xR kp1
   have run:=mx (M:=Qa prog w) (A:=A.in1.in1) (E:=λ_ _=>False) (s:=t0) (κ:=k) (S:=sK vs) (L:=lK vs lt) (st:=Zb k (vs.toArray.zip vs.toArray) #[] 7 none) (Q:=λ_ st=>Jb st=none/\∃p:Array Nat,Pm vs.length p/\Up lt p vs.length/\(wS st).map (·.2)=QS (p.toList.map λi=>vs.getD i .none))
    (sC hcon λi j R hi hj hR=>hc i j t0 R kp0 hi hj hR) (λx y e=>O.as _ _ e) (λx y z e f=>O.tr _ _ _ e f) rfl rfl rfl (yd vs) λst' f' sp pm=>⟨f',oJ O hcon sp pm⟩
   have run':wE (Qa prog w) A.in1.in1 ((sortRuns').run (Zb k (vs.toArray.zip vs.toArray) #[] 7 none)) (λr t=>t=t0/\Jb r.2=none/\∃p:Array Nat,Pm vs.length p/\Up lt p vs.length/\(wS r.2).map (·.2)=QS (p.toList.map λi=>vs.getD i .none)) (λ_ _=>False) t0:=run;refine zn (QP run' ?_ λ_ _ x=>x.elim);rintro⟨⟨⟩,st⟩ t ⟨e1,hf,p,hp,hup,hout⟩;subst e1;dsimp only at hf hout ⊢;subst ht;refine zn (seqEpoch_at m2 rfl (zn (ZW m2 rfl ?_ (QA _) (out p hp hup st hout))));rw[hf];simp only[ZE,bne_self_eq_false,if_false];refine wn ⟨_,rfl,wn ⟨_,rfl,?_⟩⟩;have:=h p h1 tk1 kp1 sl1 hp hup;rw[<-hout] at this;exact this
end
section
variable{X:Cx}{a:Expr}{pos:Pos}{fa:Ev->Option D}
theorem xQ:∀{us:aT} {raw:List Jp},Jk EntOk us raw->raw.map (·.key)=us.map λu=>QH u.2.1
 |_,_,.nil=>rfl
 |_,_,.cons h t=>by rw[Qe,Qe,xQ t,h.key]
theorem ku:∀us:aT,aK (us.map λu=>V.ref u.2.1) (us.map λu=>QH u.2.1)
 |[]=>.nil
 |u::us=>.cons rfl (ku us)
theorem kS{K:v0}{G:Hp}:∀{us:aT} {es:List (List Int×D)},DenM K G us es->DenL K G (us.map λu=>V.ref u.2.1) ((es.map (·.1)).map eR)
 |_,_,.nil=>.nil
 |_,_,.cons hk hv hs=>.cons (.tup hk (jo _)) (kS hs)
theorem qL{k:Nat}(hr:Room k X.A)(hc:X.calm=true):dA X (.builtin "sorted") (λxs H Q=>∃G d es0 ep es,xs=[.ref d]/\aF G H/\H d=some (.ext (DAt d es0 ep))/\DenM X.K G es0 es/\(∀t∈es.map (·.1),t≠[])/\es.length<1000000/\
  ∀p us,H p=none->DenL X.K G us ((h7 (es.map (·.1))).map eR)->Q (.ref p) (upd H p (.lst us))):=by
 intro pins s σ H xs us Q I rv h;obtain⟨G,d,es0,ep0,es,rfl,gh,hD,hm,hne,hn,q⟩:=h;obtain⟨u,rfl,ru⟩:=rv.one;cases ru;obtain⟨nm,_,o,raw,g1,g2,g3,pr⟩:=(show bz X.prog X.w H s.heap d (.ext (DAt d es0 ep0)) from I.hok d _ hD).1;have hn:(es.map (·.1)).length<1000000:=by rw[Qg];exact hn
 have hd:=kS hm;have rr:=ku es0;have ev:=xQ pr;generalize hts:es.map (·.1)=ts at hne hn hd q;generalize hvs:(es0.map λu=>V.ref u.2.1)=vs at hd rr;generalize hits:(es0.map λu=>QH u.2.1)=its at rr ev;have nl:its.length=ts.length:=by rw[<-rr.length,hd.length,Qg]
 have at_:∀i,i<ts.length->∃(a:Addr) (arr:Array vv),its.getD i .none=.ref a/\IsTup s.heap a arr/\J0 arr.toList (ts.getD i []):=λi hi=>by
  have hi1:i<its.length:=by lia
  have hi2:i<vs.length:=by rw[rr.length];exact hi1
  have hx:=br V.non hi2;obtain⟨d,e1,e2⟩:=hd.getV hx;rw[Qm,br [] hi] at e1;cases e1;obtain⟨a,ys,ea,w1,w2⟩:=e2.tupV;obtain⟨u,eu,ru⟩:=rr.get hx;rw[br QR hi1] at eu;have eu:=Option.some.inj eu;rw[ea] at ru;obtain⟨arr,r2,p2,_⟩:=I.tuple (aC gh w1);refine⟨a,arr.toArray,eu.trans (show u=QH a from ru),p2,?_⟩;have:=c8 w2 (dS _);rw[this] at r2;simpa using gj r2
 have sz:ts.length=its.length:=nl.symm;refine rn (κ:=tuples' (Value.type "int" != Value.type "tuple")) (lt:=λi j=>lxL (ts.getD i []) (ts.getD j [])) nm (show gc s.heap d raw ep0 from⟨o,g1,g2,g3⟩) (I.ok.hd hc) ev (by lia) ⟨λx y e=>my _ _ e,λx y z e f=>oU _ _ _ e f⟩ (λi j k hi hj e=>?_) (λh2 t R kp hR=>?_) (λi j t R kp hi hj hR=>?_) λp h1 tk1 kp1 sl1 hp hup=>?_
 ·obtain⟨a1,r1,x1,⟨o1,p1,c1,n1,d1⟩,i1⟩:=at_ i (by lia)
  obtain⟨a2,r2,x2,⟨o2,p2,c2,n2,d2⟩,i2⟩:=at_ j (by lia);have ea:a1=a2:=by rw[x1,x2] at e;injection e
  subst ea;rw[p1] at p2;cases p2;rw[d1] at d2;cases d2;have:ts.getD i []=ts.getD j []:=gv i1 i2;rw[this];exact⟨rfl,rfl⟩
 ·-- of which kind the keys are
  have tu:∀(m:Nat) (vs':List vv) (fs:List Int),(∀i,i<vs'.length->∃(a:Addr) (arr:Array vv),vs'.getD i .none=.ref a/\IsTup s.heap a arr/\J0 arr.toList (ts.getD (m+i) []))->m+vs'.length<=ts.length->
    ∃fs:List vv,KatTups t.heap vs' fs/\fs.length=vs'.length/\∀v∈fs,∃n tk,v=.int n tk:=by
   intro m vs'
   induction vs' generalizing m with
   |nil=>exact λ_ _ _=>⟨[],.nil,rfl,λv hv=>by cases hv⟩
   |cons v vs' ih=>
    intro fs hat hm
    obtain⟨fs',f1,f2,f3⟩:=ih (m+1) fs (λi hi=>by
     have:=hat (i+1) (by simp;lia);rw[show m+(i+1)=m+1+i by lia] at this
     simpa using this) (by simp at hm;lia)
    obtain⟨a,arr,e1,⟨o,e2,e3,n,e4⟩,e5⟩:=hat 0 (by simp);have e1:v=.ref a:=by simpa using e1
    subst e1
    have hmem:ts.getD (m+0) []∈ts:=by
     have hlt:m+0<ts.length:=by simp at hm;lia
     have:=br ([]:List Int) hlt;exact Jj this
    generalize hg:ts.getD (m+0) []=tt at e5 hmem;cases hh:arr.toList with
    |nil=>
     rw[hh] at e5;cases e5;exact absurd rfl (hne _ hmem)
    |cons f r=>
     rw[hh] at e5;cases e5 with
     |cons nn tk rest=>
      refine⟨.int nn tk::fs',.cons (kp _ _ e2) e3 e4 ?_ f1,by simp[f2],λv hv=>?_⟩
      ·rw[<-QK,hh];rfl
      ·rcases ut.mp hv with rfl | hv
       ·exact⟨_,_,rfl⟩
       ·exact f3 v hv
  obtain⟨fs,f1,f2,f3⟩:=tu 0 its [] (λi hi=>by rw[Ja];exact at_ i (by lia)) (by lia);refine kat_kind (T:=.type "int") f1 (by lia) (λv hv=>?_) (by rfl) hR;obtain⟨n,tk,rfl⟩:=f3 v hv;exact Looks.of_pure rfl
 ·obtain⟨a1,r1,x1,⟨o1,p1,c1,n1,d1⟩,i1⟩:=at_ i (by lia)
  obtain⟨a2,r2,x2,⟨o2,p2,c2,n2,d2⟩,i2⟩:=at_ j (by lia);rw[x1,x2];refine kat_lt (kp _ _ p1) d1 (kp _ _ p2) d2 (jw 0 i1 i2 ?_);have l1:r1.size=(ts.getD i []).length:=by rw[<-i1.length];simp
  have l2:r2.size=(ts.getD j []).length:=by rw[<-i2.length];simp
  rw[l1,l2,ly];exact hR
 ·rw[<-sz] at hp hup
  have us:=tI hp hup;obtain⟨ep,he⟩:=Aq h1 its (QS (p.toList.map λi=>its.getD i .none));have le1:s.heap.objs.size<=h1.objs.size:=QZ sl1;have nn:H h1.objs.size=none:=I.hok.fresh le1;have below:∀i∈p.toList,i<ts.length:=λi hi=>Je.mp (hp.pm.mem_iff.mp hi)
  have vals:∀l:List Nat,(∀i∈l,i<ts.length)->aK (l.map λi=>vs.getD i V.non) (l.map λi=>its.getD i QR):=by
   intro l
   induction l with
   |nil=>exact λ_=>.nil
   |cons i r ih=>
    intro hl;have hi:=hl i (Qh ..);have hx:=br V.non (l:=vs) (i:=i) (by rw[rr.length];lia);obtain⟨u,eu,ru⟩:=rr.get hx;rw[br QR (by lia)] at eu;rw[<-Option.some.inj eu] at ru;exact .cons ru (ih λj hj=>hl j (Qj _ hj))
  have dens:∀l:List Nat,(∀i∈l,i<ts.length)->DenL X.K G (l.map λi=>vs.getD i V.non) ((l.map λi=>ts.getD i []).map eR):=by
   intro l
   induction l with
   |nil=>exact λ_=>.nil
   |cons i r ih=>
    intro hl;have hi:=hl i (Qh ..);have hx:=br V.non (l:=vs) (i:=i) (by rw[rr.length];lia);obtain⟨d,e1,e2⟩:=hd.getV hx;rw[Qm,br [] hi] at e1;cases e1;exact .cons e2 (ih λj hj=>hl j (Qj _ hj))
  have dn:=dens p.toList below;rw[us] at dn;refine⟨.ref h1.objs.size,upd H h1.objs.size (.lst (p.toList.map λi=>vs.getD i V.non)),I.laid (a:=h1.objs.size) (o:=.lst (p.toList.map λi=>vs.getD i V.non)) (t':=tk1) (λb o e=>Bn (kp1 b o e)) le1 ⟨?_,p.toList.map λi=>its.getD i .none,ep,vals _ below,?_⟩,rfl,q _ _ nn dn⟩
  ·rw[Qg,Qq,hp.sz,sizeLine_eq];lia
  ·rw[he]
def mZ(fa:Ev->Option D):Ev->Option (List D):=λε=>match fa ε with
 |some (.dic es)=>if(es.all λe=>!e.1.isEmpty)=true/\es.length<1000000 then some ((h7 (es.map (·.1))).map eR) else none
 |_=>none
theorem xG{k:Nat}{p:Pos}(hr:Room k X.A)(hc:X.calm=true)(ha:DE X a fa)(hm:X.mg "sorted" = none)(hg:Gl X "sorted":=by rfl)(hst:uk [a] X.env=(false,eval a X.env)::uk [] X.env:=by rfl)(hpl:(Q7 pos (uk [] X.env)).any (·.1)=false:=by rfl):DF X (.Call (.Name "sorted" p) [a] [] pos) (mZ fa):=by
 obtain⟨ta,a1,a2⟩:=ha;refine⟨_,fj (qL hr hc) hg hm boot_sorted (bD a1 b6 hst) (by decide) (by decide) hst hpl,λHe G H σ ε d Q gh E ef q=>?_⟩;unfold mZ at ef;split at ef
 ·rename_i es e1
  split at ef
  ·rename_i cnd
   cases ef;refine a2 He G H σ ε _ _ gh E e1 λv G1 H1 g1 d1=>?_;cases d1 with
   |@dic dd us ep _ hG nd m=>
    refine⟨G1,dd,us,ep,es,rfl,g1.gh,g1.gh _ _ hG,m,λt ht=>?_,cnd.2,λp us' hp hd=>q p us' G1 _ (g1.trans (.lay _ g1.gh hp)) (g1.hh.free hp) (g1.gh.free hp) aE hd⟩;obtain⟨e,he,rfl⟩:=Qo.mp ht;have:=Jd.mp cnd.1 e he;intro z;rw[z] at this;cases this
  ·cases ef
 ·cases ef
end
def Bm:Ev->Option Fl:=(aH (jD 1 (cD aB)) (aH (cP (kK (eF (gz (ag 0)))) (ah 2) (xk)) (ju (oI (ag 1) (bR (dg (eC (.int 1))))))))
def Ap:Ev->Option Fl:=(aH (jD 1 (cD aB)) (aH (cP (cG (eF (gz (ag 0)))) (ah 2) (vy)) (qo 1)))
theorem tM{f:Ev->Option D}{ε:Ev}{ps:List Pr}(h:f ε=some (.lst (pL ps)))(hz:ps.length<1000000):gz f ε=some (pL (fC ps)):=by
 unfold gz;rw[h,<-xY];show(iq ((tL ps).map eR)).bind _=_;rw[kh (Ag ps)];show(if(tL ps).length<1000000 then _ else none)=_;rw[if_pos (by rw[Qg];exact hz),<-i6,xY]
theorem vq(ps:List Pr)(hz:ps.length<1000000):Bm [.dat (.lst (pL ps)),.un,.un]=some (.ro (pL (frP ps))):=by
 obtain⟨ε',e,s2,rfl⟩:=cX (g:=ah 2) (gb:=xk) pD (λdn ε=>∃s2,ε=[.dat (.lst (pL ps)),.own (pL (dn.foldl (bJ λp=>p.2) [])),s2]) (fC ps).reverse (λdn x rest hx ε ⟨s2,he⟩=>by
  subst he
  have hl:dn.length<ps.length:=by
   have:=congrArg List.length hx;rw[Qr,ZZ,mG,Qv] at this
   lia
  refine⟨_,_,rfl,.inl (vZ _ _ x (by have:=jP (v:=λp=>p.2) dn [];rw[List.length_nil] at this;lia)),.dat (pD x),?_⟩
  rw[List.foldl_append];rfl) [.dat (.lst (pL ps)),.own [],.un] ⟨.un,rfl⟩
 unfold Bm;refine(ay rfl).trans ?_
 have ir:kK (eF (gz (ag 0))) [.dat (.lst (pL ps)),.own [],.un]=some (pL (fC ps).reverse):=by
  unfold kK;rw[fT (tM rfl hz)];show some ((fC ps).map pD).reverse=_;rw[<-List.map_reverse]
 refine(ay (i0 ir e)).trans ?_
 have c:oI (ag 1) (bR (dg (eC (.int 1)))) [.dat (.lst (pL ps)),.own (pL ((fC ps).reverse.foldl (bJ λp=>p.2) [])),s2]=some (pL (frP ps)):=by
  show some (((fC ps).reverse.foldl (bJ λp=>p.2) []).map pD).reverse=_;rw[<-List.map_reverse];rfl
 unfold ju;rw[c];rfl
theorem we(ps:List Pr)(hz:ps.length<1000000):Ap [.dat (.lst (pL ps)),.un,.un]=some (.ro (pL (lsP ps))):=by
 obtain⟨ε',e,s2,rfl⟩:=cX (g:=ah 2) (gb:=vy) pD (λdn ε=>∃s2,ε=[.dat (.lst (pL ps)),.own (pL (dn.foldl (bJ λp=>-p.2) [])),s2]) (fC ps) (λdn x rest hx ε ⟨s2,he⟩=>by
  subst he
  have hl:dn.length<ps.length:=by
   have:=congrArg List.length hx;rw[Qr,mG,Qv] at this
   lia
  refine⟨_,_,rfl,.inl (vj _ _ x (by have:=jP (v:=λp=>-p.2) dn [];rw[List.length_nil] at this;lia)),.dat (pD x),?_⟩
  rw[List.foldl_append];rfl) [.dat (.lst (pL ps)),.own [],.un] ⟨.un,rfl⟩
 unfold Ap;refine(ay rfl).trans ?_;exact(ay (i0 (l5 (fT (tM rfl hz))) e)).trans rfl
end Dn
namespace Tb
open PySem PySem.Spec PyProof.Rows L2 Dn Fl
def stK(q:Stt):List Int:=[q.x,q.y,q.z,q.s,q.p]
theorem p6{a b:Stt}(h:stK a=stK b):a=b:=by
 obtain⟨a1,a2,a3,a4,a5⟩:=a;obtain⟨b1,b2,b3,b4,b5⟩:=b;simp only[stK,List.cons.injEq,and_true] at h;obtain⟨rfl,rfl,rfl,rfl,rfl⟩:=h;rfl
def spK(q:Stt):List Int:=[q.x,q.y,q.z]
theorem k_{a b:Stt}:spK a=spK b↔a.x=b.x/\a.y=b.y/\a.z=b.z:=by simp[spK]
def prS(q:Stt):Pr:=(q.s,q.p)
abbrev Fm:=List (Stt×List Str)
abbrev kF(c:Fm):List (List Int):=c.map λe=>stK e.1
def fS(c:Fm)(s:Stt)(r:List Str):Fm:=if stK s∈kF c then c else c++[(s,r)]
def dm(k:Sk)(h:Int)(s:Stt)(r os:List Str)(c:Fm):Fm:=os.foldl (λa o=>fS a (bN k h s o) (r++[o])) c
def goF(k:Sk)(h:Int)(c:Fm):Fm:=c.foldl (λa e=>dm k h e.1 e.2 (can k h e.1) a) []
def unb(c:Fm):Fm:=c.filter λe=>decide (prS e.1∈frP ((c.filter λx=>decide (spK x.1=spK e.1)).map λx=>prS x.1))
def TN(k:Sk)(h:Int)(q:Stt):Nat->Fm
 |0=>[(q,[])]
 |n+1=>unb (goF k (h+(n:Int)) (TN k h q n))
theorem rW(c:Fm)(s:Stt)(r:List Str)(t:List Int):t∈kF (fS c s r)↔t∈kF c\/t=stK s:=by
 unfold fS;split
 ·rename_i h;exact⟨.inl,λz=>z.elim id λz=>z▸h⟩
 ·simp[kF]
theorem oe{c:Fm}{s:Stt}{r:List Str}(h:(kF c).Nodup):(kF (fS c s r)).Nodup:=by
 unfold fS;split
 ·exact h
 ·rename_i g
  rw[kF,Jg,ZK];exact⟨h,by simp,λx hx y hy=>by rw[xz.mp hy];exact λ(e:x=stK s)=>g (e▸hx)⟩
theorem ue(c:Fm)(s:Stt)(r:List Str):(fS c s r).length<=c.length+1:=by
 unfold fS;split<;>simp
theorem rM{c:Fm}{s:Stt}{r:List Str}{m:Nat}(h:∀e∈c,e.2.length<=m)(hr:r.length<=m):∀e∈fS c s r,e.2.length<=m:=by
 unfold fS;split
 ·exact h
 ·intro e he
  rcases Qn.mp he with z | z
  ·exact h e z
  ·rw[xz.mp z];exact hr
theorem kI(k:Sk)(h:Int)(s:Stt)(r:List Str)(t:List Int):∀(os:List Str) (c:Fm),t∈kF (dm k h s r os c)↔t∈kF c\/∃o∈os,t=stK (bN k h s o)
 |[],c=>by simp[dm]
 |o::os,c=>by
  show t∈kF (dm k h s r os (fS c (bN k h s o) (r++[o])))↔_;rw[kI k h s r t os,rW,or_assoc];simp
theorem jS(k:Sk)(h:Int)(s:Stt)(r:List Str):∀(os:List Str) (c:Fm),(kF c).Nodup->(kF (dm k h s r os c)).Nodup
 |[],c,hc=>hc
 |o::os,c,hc=>jS k h s r os _ (oe hc)
theorem jB(k:Sk)(h:Int)(s:Stt)(r:List Str):∀(os:List Str) (c:Fm),(dm k h s r os c).length<=c.length+os.length
 |[],c=>wp _
 |o::os,c=>by
  have h1:=jB k h s r os (fS c (bN k h s o) (r++[o]));have h2:=ue c (bN k h s o) (r++[o]);show(dm k h s r os (fS c (bN k h s o) (r++[o]))).length<=c.length+(os.length+1)
  lia
theorem ko(k:Sk)(h:Int)(s:Stt)(r:List Str){m:Nat}(hr:r.length+1<=m):∀(os:List Str) (c:Fm),(∀e∈c,e.2.length<=m)->∀e∈dm k h s r os c,e.2.length<=m
 |[],c,hc=>hc
 |o::os,c,hc=>ko k h s r hr os _ (rM hc (by simpa using hr))
theorem pH(k:Sk)(h:Int)(t:List Int):∀(c a:Fm),t∈kF (c.foldl (λa e=>dm k h e.1 e.2 (can k h e.1) a) a)↔t∈kF a\/∃e∈c,∃o∈can k h e.1,t=stK (bN k h e.1 o)
 |[],a=>by simp
 |e::c,a=>by
  rw[Z8,pH k h t c,kI,or_assoc];simp
theorem hW(k:Sk)(h:Int):∀(c a:Fm),(kF a).Nodup->(kF (c.foldl (λa e=>dm k h e.1 e.2 (can k h e.1) a) a)).Nodup
 |[],a,ha=>ha
 |e::c,a,ha=>by rw[Z8];exact hW k h c _ (jS k h e.1 e.2 _ a ha)
theorem jb(k:Sk)(h:Int):∀(c a:Fm),(c.foldl (λa e=>dm k h e.1 e.2 (can k h e.1) a) a).length<=a.length+3*c.length
 |[],a=>wp _
 |e::c,a=>by
  have h1:=jb k h c (dm k h e.1 e.2 (can k h e.1) a);have h2:=jB k h e.1 e.2 (can k h e.1) a;have h3:=oW k h e.1;rw[Z8,Qv]
  lia
theorem m_(k:Sk)(h:Int){m:Nat}:∀(c a:Fm),(∀e∈c,e.2.length+1<=m)->(∀e∈a,e.2.length<=m)->∀e∈c.foldl (λa e=>dm k h e.1 e.2 (can k h e.1) a) a,e.2.length<=m
 |[],a,_,ha=>ha
 |e::c,a,hc,ha=>by
  rw[Z8];exact m_ k h c _ (λx hx=>hc x (Qj _ hx)) (ko k h e.1 e.2 (hc e (Qh ..)) _ a ha)
theorem u0{c:Fm}{s:Stt}:stK s∈kF c↔∃e∈c,e.1=s:=by
 rw[kF,Qo];exact⟨λ⟨e,h1,h2⟩=>⟨e,h1,p6 h2⟩,λ⟨e,h1,h2⟩=>⟨e,h1,by rw[h2]⟩⟩
theorem p9(k:Sk)(h:Int)(c:Fm)(s:Stt):(∃f∈goF k h c,f.1=s)↔∃e∈c,∃o∈can k h e.1,s=bN k h e.1 o:=by
 rw[<-u0,goF,pH];constructor
 ·rintro(z | ⟨e,he,o,ho,z⟩)
  ·cases z
  ·exact⟨e,he,o,ho,p6 z⟩
 ·rintro⟨e,he,o,ho,rfl⟩
  exact .inr ⟨e,he,o,ho,rfl⟩
theorem jf(c:Fm)(e:Stt×List Str):e∈unb c↔e∈c/\∀x∈c,spK x.1=spK e.1->ov (prS x.1) (prS e.1)=false:=by
 unfold unb;rw[QM,decide_eq_true_eq,vS];constructor
 ·rintro⟨h1,h2,h3⟩
  exact⟨h1,λx hx hs=>h3 _ (Qo.mpr ⟨x,QM.mpr ⟨hx,decide_eq_true hs⟩,rfl⟩)⟩
 ·rintro⟨h1,h2⟩
  refine⟨h1,Qo.mpr ⟨e,QM.mpr ⟨h1,decide_eq_true rfl⟩,rfl⟩,λq hq=>?_⟩;obtain⟨x,hx,rfl⟩:=Qo.mp hq;obtain⟨hx,hs⟩:=QM.mp hx;exact h2 x hx (of_decide_eq_true hs)
def dom(a b:Stt):Prop:=spK a=spK b/\b.s<=a.s/\b.p<=a.p
theorem jQ(a:Stt):dom a a:=⟨rfl,ZY _,ZY _⟩
theorem tH{a b c:Stt}(h:dom a b)(g:dom b c):dom a c:=⟨h.1.trans g.1,Int.le_trans g.2.1 h.2.1,Int.le_trans g.2.2 h.2.2⟩
theorem oT:∀c:Fm,∃M:Int,∀e∈c,e.1.s+e.1.p<=M
 |[]=>⟨0,λ_ h=>by cases h⟩
 |e::c=>by
  obtain⟨M,h⟩:=oT c;refine⟨max M (e.1.s+e.1.p),λx hx=>?_⟩;rcases ut.mp hx with rfl | z
  ·lia
  ·have:=h x z;lia
theorem xI(c:Fm):∀e∈c,∃x∈unb c,dom x.1 e.1:=by
 obtain⟨M,hM⟩:=oT c
 have go:∀(n:Nat) (e:Stt×List Str),e∈c->(M-(e.1.s+e.1.p)).toNat<=n->∃x∈unb c,dom x.1 e.1:=by
  intro n
  induction n with
  |zero=>
   intro e he hn;refine⟨e,(jf c e).mpr ⟨he,λx hx hs=>?_⟩,jQ _⟩;cases g:ov (prS x.1) (prS e.1) with
   |false=>rfl
   |true=>
    obtain⟨h1,h2,h3⟩:=(fw _ _).mp g;have h4:=hM x hx;have h5:=hM e he;simp only[prS] at h1 h2 h3;exfalso;apply h3;rw[Prod.mk.injEq]
    lia
  |succ n ih=>
   intro e he hn
   by_cases g:∃x∈c,spK x.1=spK e.1/\ov (prS x.1) (prS e.1)=true
   ·obtain⟨x,hx,hs,g⟩:=g
    obtain⟨h1,h2,h3⟩:=(fw _ _).mp g;simp only[prS] at h1 h2 h3;have h4:¬(x.1.s=e.1.s/\x.1.p=e.1.p):=λz=>h3 (by rw[z.1,z.2]);obtain⟨y,hy,d⟩:=ih x hx (by have:=hM x hx;lia);exact⟨y,hy,tH d ⟨hs,h1,h2⟩⟩
   ·refine⟨e,(jf c e).mpr ⟨he,λx hx hs=>?_⟩,jQ _⟩
    cases z:ov (prS x.1) (prS e.1) with
    |false=>rfl
    |true=>exact absurd ⟨x,hx,hs,z⟩ g
 exact λe he=>go _ e he (wp _)
theorem uw(k:Sk)(h:Int)(o:Str){a b:Stt}(e:spK a=spK b):spK (bN k h a o)=spK (bN k h b o):=by
 obtain⟨e1,e2,e3⟩:=k_.mp e;have z:z1 o a=z1 o b:=by unfold z1;rw[e3]
 unfold bN spK;simp only[z,e1,e2]
theorem wk(k:Sk)(h:Int)(o:Str){a b:Stt}(d:dom a b):dom (bN k h a o) (bN k h b o):=by
 refine⟨uw k h o d.1,?_,?_⟩
 ·show s1 o b<=s1 o a
  unfold s1;have:=d.2.1;split<;>lia
 ·show p1 o b<=p1 o a
  unfold p1;have:=d.2.2;split<;>lia
theorem zO{o:Str}(ho:isO o){a b:Stt}(d:dom a b)(h:wo o b = ""):wo o a = "":=by
 obtain⟨_,_,e3⟩:=k_.mp d.1;rcases ho with rfl | rfl | rfl
 ·rw[sZ] at h ⊢
  by_cases c:b.s<1
  ·rw[if_pos c] at h;exact absurd h (by decide)
  ·rw[if_neg c] at h
   by_cases c2:b.z=5
   ·rw[if_pos c2] at h;exact absurd h (by decide)
   ·rw[if_neg (by have:=d.2.1;lia),if_neg (by rw[e3];exact c2)]
 ·exact sE a
 ·rw[xA] at h ⊢
  by_cases c:b.p<1
  ·rw[if_pos c] at h;exact absurd h (by decide)
  ·rw[if_neg c] at h
   by_cases c2:b.z=0
   ·rw[if_pos c2] at h;exact absurd h (by decide)
   ·rw[if_neg (by have:=d.2.2;lia),if_neg (by rw[e3];exact c2)]
theorem xi(k:Sk)(h:Int){a b:Stt}(d:dom a b){o:Str}(ho:o∈can k h b):o∈can k h a:=by
 obtain⟨io,w⟩:=v9 ho;unfold can at ho ⊢;obtain⟨h1,h2⟩:=QM.mp ho;have h2:=of_decide_eq_true h2;refine QM.mpr ⟨h1,decide_eq_true ?_⟩;unfold wh at h2 ⊢;rw[if_pos w] at h2;rw[if_pos (zO io d w)];obtain⟨e1,e2,e3⟩:=k_.mp (uw k h o d.1);unfold why at h2 ⊢;rw[e1,e2,e3];exact h2
theorem yf(k:Sk)(h:Int)(q:Stt):∀(n:Nat),∀e∈TN k h q n,∃r∈eN k h q n,r.2=e.1
 |0,e,he=>by
  rw[show TN k h q 0=[(q,[])] from rfl,xz] at he;subst he;exact⟨([],q),by simp[eN],rfl⟩
 |n+1,e,he=>by
  obtain⟨he,_⟩:=(jf _ e).mp he;obtain⟨e0,h0,o,ho,eq⟩:=(p9 k (h+(n:Int)) _ e.1).mp ⟨e,he,rfl⟩;obtain⟨r,hr,er⟩:=yf k h q n e0 h0;rw[<-er] at ho eq;exact⟨zy k (h+(n:Int)) r o,J7.mpr ⟨r,hr,Qo.mpr ⟨o,ho,rfl⟩⟩,eq.symm⟩
theorem xV(k:Sk)(h:Int)(q:Stt):∀(n:Nat),∀r∈eN k h q n,∃e∈TN k h q n,dom e.1 r.2
 |0,r,hr=>by
  rw[show eN k h q 0=[([],q)] from rfl,xz] at hr;subst hr;exact⟨(q,[]),by simp[TN],jQ _⟩
 |n+1,r',hr=>by
  obtain⟨r,hr0,hm⟩:=J7.mp (show r'∈flR k (h+(n:Int)) (eN k h q n) from hr);obtain⟨o,ho,rfl⟩:=Qo.mp hm;obtain⟨e,he,d⟩:=xV k h q n r hr0;obtain⟨f,hf,ef⟩:=(p9 k (h+(n:Int)) (TN k h q n) (bN k (h+(n:Int)) e.1 o)).mpr ⟨e,he,o,xi k _ d ho,rfl⟩;obtain⟨x,hx,dx⟩:=xI _ f hf;rw[ef] at dx;exact⟨x,hx,tH dx (wk k _ o d)⟩
theorem qU{c:Fm}(h:(kF c).Nodup):(kF (unb c)).Nodup:=h.sublist (List.Sublist.map _ List.filter_sublist)
theorem By(k:Sk)(h:Int)(q:Stt):∀n,(kF (TN k h q n)).Nodup
 |0=>by simp[TN,kF]
 |n+1=>qU (hW k _ _ [] Zt)
theorem pf(k:Sk)(h:Int)(q:Stt):∀n,(TN k h q n).length<=3 ^ n
 |0=>wp _
 |n+1=>by
  have h1:=pf k h q n;have h2:(goF k (h+(n:Int)) (TN k h q n)).length<=0+3*(TN k h q n).length:=jb k (h+(n:Int)) (TN k h q n) [];have h3:(unb (goF k (h+(n:Int)) (TN k h q n))).length<=(goF k (h+(n:Int)) (TN k h q n)).length:=JP _ _;show(unb (goF k (h+(n:Int)) (TN k h q n))).length<=3 ^ (n+1);rw[Nat.pow_succ]
  lia
theorem tO(k:Sk)(h:Int)(q:Stt):∀n,∀e∈TN k h q n,e.2.length<=n
 |0,e,he=>by
  rw[show TN k h q 0=[(q,[])] from rfl,xz] at he;subst he;exact wp _
 |n+1,e,he=>by
  obtain⟨he,_⟩:=(jf _ e).mp he;exact m_ k (h+(n:Int)) (TN k h q n) [] (λe he=>Zx (tO k h q n e he)) (λ_ z=>by cases z) e he
theorem pQ{P R:List Pr}(h1:∀p∈P,p∈R)(h2:∀r∈R,∃p∈P,p.1<=r.1/\p.2<=r.2):lsP P=lsP R:=by
 refine tQ (ui P) (ui R) (kE P) (kE R) λp=>?_;rw[qi,qi]
 have no:∀{p q:Pr},ov p q=false->q.1<=p.1->q.2<=p.2->p=q:=λ{p q} h a b=>by
  refine Classical.byContradiction λz=>?_;rw[(fw p q).mpr ⟨a,b,z⟩] at h;cases h
 constructor
 ·rintro⟨a,b⟩
  refine⟨h1 p a,λr hr=>?_⟩;cases g:ov p r with
  |false=>rfl
  |true=>
   obtain⟨c1,c2,c3⟩:=(fw p r).mp g;obtain⟨p',hp,d1,d2⟩:=h2 r hr;have:=no (b p' hp) (by lia) (by lia);subst this;exact absurd (Prod.ext (by lia) (by lia)) c3
 ·rintro⟨a,b⟩
  obtain⟨p',hp,d1,d2⟩:=h2 p a;have:=no (b p' (h1 p' hp)) d1 d2;subst this;exact⟨hp,λq hq=>b q (h1 q hq)⟩
abbrev oy:List Str:=["sky","hour","flights","further","state","row","order","after"]
abbrev ee:List Str:=["sky","hour","flights"]
def cB:Ev->Option Fl:=(sIf (wq 3 true (ao 7)) (yh 3 (ao 7) (e2 rF (ag 5) (aY (aa (ao 6) aB)))) a_)
def cy:Ev->Option Fl:=(cP (cG (aJ i5 (aa (ao 0) (aa (ao 1) (aa (ao 4) aB))))) (bx 2 (ai (ah 6) (ai (ah 7) aL))) (cB))
def jt:Ev->Option Fl:=(aH (Aj 3 fD0) (aH (cP (dM (ao 2)) (bx 2 (ai (ah 4) (ai (ah 5) aL))) (cy)) (sFz 3 (a8 (ao 3)))))
def gf:List D->Option D:=fnD oy ee jt
abbrev iV:List Str:=["found","loads","x","y","height","sacks","puffs"]
abbrev bV:List Str:=["found"]
def iP:Ev->Option Fl:=(ux 1 (cG (ao 0)) (bx 5 (ai (ah 2) (ai (ah 3) (ai (ah 4) (ai (ah 5) (ai (ah 6) aL)))))) (aY (aa (ao 2) (aa (ao 3) (aa (ao 4) aB)))) (aY (aa (ao 5) (aa (ao 6) aB))) (sFz 1 (a8 (ao 1))))
def bf:List D->Option D:=fnD iV bV iP
abbrev o8:List Str:=["pairs","told","pair"]
abbrev gu:List Str:=["pairs"]
def nT:Ev->Option Fl:=(sIf (cH (eO (dN (ag 1))) (az gtI (e2 ixD (ag 2) (eC (.int 1))) (e2 ixD (e2 ixD (ag 1) (dg (eC (.int 1)))) (eC (.int 1))))) (c_ 1 (ao 2)) a_)
def qD:Ev->Option Fl:=(aH (jD 1 (cD aB)) (aH (cP (kK (eF (gz (ag 0)))) (ah 2) (nT)) (ju (oI (ag 1) (bR (dg (eC (.int 1))))))))
def gk:List D->Option D:=fnD o8 gu qD
def ur:List D->Option (List D):=fnO o8 gu qD
abbrev ow:List Str:=["flights","fronts"]
abbrev eo:List Str:=["flights"]
def jR:Ev->Option Fl:=(aH (bq 1 (uM (eDC (dM (aJ bf (aa (eF (jm (ao 0))) aB))) 2 [] (bx 2 (ai (ah 0) (ai (ah 1) aL))) iU (ao 0) (aJ gk (aa (ao 1) aB))))) (a8 (uM (eDC (dM (ao 0)) 2 [1] (bx 2 (ai (ah 0) (ai (ah 1) aL))) (az (qK false) (ll (ag 0) (bR (eC (.int 3))) cE) (e2 uu (ag 2) (ll (ag 0) cE (bR (eC (.int 3)))))) (ao 0) (ao 1)))))
def f9:List D->Option D:=fnD ow eo jR
abbrev iK:List Str:=["sky","hour","state","many","found","at"]
abbrev bU:List Str:=["sky","hour","state","many"]
def cY:Ev->Option Fl:=(c_ 4 (aJ f9 (aa (aJ gf (aa (ao 0) (aa (e2 bP (ag 1) (ag 5)) (aa (e2 ixD (ag 4) (dg (eC (.int 1)))) aB)))) aB)))
def eJ:Ev->Option Fl:=(aH (jD 4 (cD (aa (uM (fD1 (ao 2) (aY aB))) aB))) (aH (cP (iW (ao 3)) (ah 5) (cY)) (sFz 4 (a8 (ao 4)))))
def cI:List D->Option D:=fnD iK bU eJ
abbrev wU:List Str:=["sky","hour","state","many"]
abbrev i8:List Str:=["sky","hour","state","many"]
def qz:Ev->Option Fl:=(a8 (eF (eLC (cG (aJ cI (aa (ao 0) (aa (ao 1) (aa (ao 2) (aa (ao 3) aB)))))) 1 [] (ah 0) iU (eF (mZ (ao 0))))))
def gC:List D->Option D:=fnD wU i8 qz
def rwD(r:List Str):D:=.tup (r.map D.str)
def fmD(c:Fm):Es:=c.map λe=>(stK e.1,rwD e.2)
theorem lB(c:Fm):(fmD c).map (·.1)=kF c:=by unfold fmD kF;rw[Jm];rfl
theorem jC{k:List Int}{d:D}:∀{es:Es},k∉es.map (·.1)->j9 es k d=es++[(k,d)]
 |[],_=>rfl
 |e::r,h=>by
  rw[Qe,ut,not_or] at h;unfold j9;rw[if_neg λz=>h.1 z.symm,jC h.2];rfl
section
variable(k:Sk)(kk:SkW k)(h:Int)
abbrev evO(fl:Sl)(F:Fm)(s r o a:Sl):Ev:=[.dat (skD k),.dat (.int h),fl,.odi (fmD F),s,r,o,a]
theorem xv(fl:Sl)(F:Fm)(hF:F.length<=900000)(s a:Stt)(r:List Str)(hr:r.length<=900)(o:Str) :
  cB (evO k h fl F (.dat (stD s)) (.dat (rwD r)) (.dat (.str o)) (.dat (stD a)))=some (.nx (evO k h fl (fS F a (r++[o])) (.dat (stD s)) (.dat (rwD r)) (.dat (.str o)) (.dat (stD a)))):=by
 have t:wq 3 true (ao 7) (evO k h fl F (.dat (stD s)) (.dat (rwD r)) (.dat (.str o)) (.dat (stD a)))=some (!decide (stK a∈kF F)):=by
  rw[<-lB];rfl
 unfold cB
 by_cases g:stK a∈kF F
 ·refine(eL (t.trans (by rw[decide_eq_true g];rfl))).trans ?_
  unfold fS;rw[if_pos g];rfl
 ·refine(dE (t.trans (by rw[decide_eq_false g];rfl))).trans ?_
  have e1:e2 rF (ag 5) (aY (aa (ao 6) aB)) (evO k h fl F (.dat (stD s)) (.dat (rwD r)) (.dat (.str o)) (.dat (stD a)))=some (rwD (r++[o])):=bI (x:=rwD r) (y:=.tup [.str o]) rfl rfl (wz r hr o);show((e2 rF (ag 5) (aY (aa (ao 6) aB)) (evO k h fl F (.dat (stD s)) (.dat (rwD r)) (.dat (.str o)) (.dat (stD a)))).bind λd=>_)=_;rw[e1];show(if(fmD F).length<1000000 then _ else _)=_;rw[if_pos (by unfold fmD;rw[Qg];lia)];show some (Fl.nx [.dat (skD k),.dat (.int h),fl,.odi (j9 (fmD F) (stK a) (rwD (r++[o]))),.dat (stD s),.dat (rwD r),.dat (.str o),.dat (stD a)])=_;rw[jC (by rw[lB];exact g)];unfold fS;rw[if_neg g];unfold evO fmD;rw[Jg];rfl
include kk in
theorem yN(fl:Sl)(F:Fm)(hF:F.length<=899990)(s:Stt)(r:List Str)(hr:r.length<=900)(o a:Sl):∃o' a',cy (evO k h fl F (.dat (stD s)) (.dat (rwD r)) o a)=some (.nx (evO k h fl (dm k h s r (can k h s) F) (.dat (stD s)) (.dat (rwD r)) o' a')):=by
 obtain⟨ε',e,o',a',rfl⟩:=cX (g:=bx 2 (ai (ah 6) (ai (ah 7) aL))) (gb:=cB) (mvD k h s) (λdone ε=>∃o a,ε=evO k h fl (dm k h s r done F) (.dat (stD s)) (.dat (rwD r)) o a) (can k h s) (λdone x rest hd ε ⟨o,a,he⟩=>by
  subst he;have dl:done.length<=3:=by have:=congrArg List.length hd;have:=oW k h s;simp at *;lia
  have l1:=jB k h s r done F;refine⟨_,_,rfl,.inl (xv k h fl (dm k h s r done F) (by lia) s (bN k h s x) r hr x),.dat (.str x),.dat (stD (bN k h s x)),?_⟩
  rw[show dm k h s r (done++[x]) F=fS (dm k h s r done F) (bN k h s x) (r++[x]) by unfold dm;rw[List.foldl_append];rfl]) (evO k h fl F (.dat (stD s)) (.dat (rwD r)) o a) ⟨o,a,rfl⟩
 refine⟨o',a',?_⟩;unfold cy;refine(bT (ds:=(can k h s).map (mvD k h s)) ?_).trans e;show(match aJ i5 (aa (ao 0) (aa (ao 1) (aa (ao 4) aB))) (evO k h fl F (.dat (stD s)) (.dat (rwD r)) o a) with | some (.lst ds)=>some ds | _=>none)=_;rw[aX (ds:=[skD k,.int h,stD s]) rfl (uW k kk.hl h s)]
include kk in
theorem t_(c:Fm)(hc:c.length<=200000)(hr:∀e∈c,e.2.length<=900):gf [skD k,.int h,.dic (fmD c)]=some (.dic (fmD (goF k h c))):=by
 refine bH rfl ?_;unfold jt;refine(ay (ε':=evO k h (.dat (.dic (fmD c))) [] .un .un .un .un) rfl).trans ?_
 obtain⟨ε',e,s',r',o',a',rfl⟩:=cX (g:=bx 2 (ai (ah 4) (ai (ah 5) aL))) (gb:=cy) (λe:Stt×List Str=>D.tup [stD e.1,rwD e.2]) (λdone ε=>∃s r o a,ε=evO k h (.dat (.dic (fmD c))) (goF k h done) s r o a) c (λdone e rest hd ε ⟨s,r,o,a,he⟩=>by
  subst he;have dl:done.length<=200000:=by have:=congrArg List.length hd;simp at this;lia
  have gl:(goF k h done).length<=0+3*done.length:=jb k h done [];obtain⟨o',a',e1⟩:=yN k kk h (.dat (.dic (fmD c))) (goF k h done) (by lia) e.1 e.2 (hr e (by rw[<-hd];simp)) o a;refine⟨_,_,rfl,.inl e1,.dat (stD e.1),.dat (rwD e.2),o',a',?_⟩
  rw[show goF k h (done++[e])=dm k h e.1 e.2 (can k h e.1) (goF k h done) by unfold goF;rw[List.foldl_append];rfl]) (evO k h (.dat (.dic (fmD c))) [] .un .un .un .un) ⟨_,_,_,_,rfl⟩
 refine(ay ((bT (ds:=c.map λe=>D.tup [stD e.1,rwD e.2]) ?_).trans e)).trans rfl;show some (dP (fmD c))=_;unfold dP fmD;rw[Jm];rfl
end
abbrev Mp:=List (List Int×List Pr)
def da:Mp->List Int->Pr->Mp
 |[],k,p=>[(k,[p])]
 |e::r,k,p=>if e.1=k then(e.1,e.2++[p])::r else e::da r k p
def mpM(m:Mp):Ms:=m.map λe=>(e.1,pL e.2)
def mpD(m:Mp):Es:=m.map λe=>(e.1,.lst (pL e.2))
def ldF(m:Mp)(ss:List Stt):Mp:=ss.foldl (λm s=>da m (spK s) (prS s)) m
theorem pK(k:List Int)(p:Pr):∀m:Mp,fR (mpM m) k (pD p)=mpM (da m k p)
 |[]=>rfl
 |e::r=>by
  show(if e.1=k then(e.1,pL e.2++[pD p])::mpM r else(e.1,pL e.2)::fR (mpM r) k (pD p))=mpM (if e.1=k then(e.1,e.2++[p])::r else e::da r k p);split
  ·show _=(e.1,pL (e.2++[p]))::mpM r;rw[gN]
  ·rw[pK k p r];rfl
theorem zX(m:Mp):msD (mpM m)=mpD m:=by unfold msD mpM mpD;rw[Jm];rfl
abbrev tg5:D->Ev->Option Ev:=bx 5 (ai (ah 2) (ai (ah 3) (ai (ah 4) (ai (ah 5) (ai (ah 6) aL)))))
theorem tE(L:Sl):∀(ss:List Stt) (m:Mp) (a b c d e:Sl),∃a' b' c' d' e',sdD tg5 (aY (aa (ao 2) (aa (ao 3) (aa (ao 4) aB)))) (aY (aa (ao 5) (aa (ao 6) aB))) (ss.map stD) [L,.un,a,b,c,d,e] (mpM m)=some ([L,.un,a',b',c',d',e'],mpM (ldF m ss))
 |[],m,a,b,c,d,e=>⟨a,b,c,d,e,rfl⟩
 |s::ss,m,a,b,c,d,e=>by
  obtain⟨a',b',c',d',e',h⟩:=tE L ss (da m (spK s) (prS s)) (.dat (.int s.x)) (.dat (.int s.y)) (.dat (.int s.z)) (.dat (.int s.s)) (.dat (.int s.p));refine⟨a',b',c',d',e',?_⟩;show sdD tg5 _ _ (ss.map stD) [L,.un,.dat (.int s.x),.dat (.int s.y),.dat (.int s.z),.dat (.int s.s),.dat (.int s.p)] (fR (mpM m) (spK s) (pD (prS s)))=_;rw[pK];exact h
theorem tN(ss:List Stt)(hl:ss.length<1000000):bf [.lst (ss.map stD)]=some (.dic (mpD (ldF [] ss))):=by
 refine bH rfl ?_;obtain⟨a,b,c,d,e,h⟩:=tE (.dat (.lst (ss.map stD))) ss [] .un .un .un .un .un;show ux 1 (cG (ao 0)) tg5 (aY (aa (ao 2) (aa (ao 3) (aa (ao 4) aB)))) (aY (aa (ao 5) (aa (ao 6) aB))) (sFz 1 (a8 (ao 1))) [.dat (.lst (ss.map stD)),.un,.un,.un,.un,.un,.un]=_;unfold ux;rw[if_pos ⟨rfl,show 1<7 by decide⟩];show(if(ss.map stD).length<1000000 then((sdD tg5 (aY (aa (ao 2) (aa (ao 3) (aa (ao 4) aB)))) (aY (aa (ao 5) (aa (ao 6) aB))) (ss.map stD) [.dat (.lst (ss.map stD)),.un,.un,.un,.un,.un,.un] (mpM [])).bind λr=>sFz 1 (a8 (ao 1)) (r.1.set 1 (.odi (msD r.2)))) else none)=_;rw[if_pos (by rw[Qg];exact hl)];show((sdD tg5 _ _ (ss.map stD) [.dat (.lst (ss.map stD)),.un,.un,.un,.un,.un,.un] (mpM [])).bind _)=_;rw[h];show some (Fl.rt (.dic (msD (mpM (ldF [] ss)))))=_;rw[zX]
def lkM:Mp->List Int->Option (List Pr)
 |[],_=>none
 |e::r,k=>if e.1=k then some e.2 else lkM r k
theorem oN(k k':List Int)(p:Pr):∀m:Mp,lkM (da m k p) k'=if k=k' then some ((lkM m k').getD []++[p]) else lkM m k'
 |[]=>by
  show(if k=k' then some [p] else none)=_;split<;>rfl
 |e::r=>by
  unfold da
  by_cases g:e.1=k
  ·rw[if_pos g]
   unfold lkM
   by_cases z:e.1=k'
   ·rw[if_pos z,if_pos z,if_pos (g.symm.trans z)];rfl
   ·rw[if_neg z,if_neg z,if_neg λw=>z (g.trans w)]
  ·rw[if_neg g]
   unfold lkM
   by_cases z:e.1=k'
   ·rw[if_pos z,if_pos z,if_neg λw=>g (z.trans w.symm)]
   ·rw[if_neg z,if_neg z,oN k k' p r]
theorem oO(k:List Int):∀(ss:List Stt) (m:Mp),(lkM (ldF m ss) k).getD []=(lkM m k).getD []++(ss.filter λs=>decide (spK s=k)).map prS/\((lkM m k).isSome=true\/(∃s∈ss,spK s=k)->(lkM (ldF m ss) k).isSome=true)
 |[],m=>⟨by simp[ldF],λh=>h.elim id λ⟨_,h,_⟩=>by cases h⟩
 |s::ss,m=>by
  obtain⟨h1,h2⟩:=oO k ss (da m (spK s) (prS s));have e:ldF m (s::ss)=ldF (da m (spK s) (prS s)) ss:=rfl;rw[e];rw[oN] at h1 h2
  by_cases g:spK s=k
  ·rw[if_pos g] at h1 h2
   refine⟨?_,λ_=>h2 (.inl rfl)⟩;rw[h1,J4,if_pos (decide_eq_true g)];simp
  ·rw[if_neg g] at h1 h2
   refine⟨?_,λh=>h2 (h.imp id λ⟨x,hx,ex⟩=>?_)⟩
   ·rw[h1,J4,if_neg (by rw[decide_eq_false g];exact ww)]
   ·rcases ut.mp hx with rfl | hx
    ·exact absurd ex g
    ·exact⟨x,hx,ex⟩
theorem kL(k:List Int)(p:Pr)(t:List Int):∀m:Mp,t∈(da m k p).map (·.1)↔t∈m.map (·.1)\/t=k
 |[]=>by simp[da]
 |e::r=>by
  unfold da
  by_cases g:e.1=k
  ·rw[if_pos g,Qe,Qe,ut]
   exact⟨.inl,λz=>z.elim id λz=>.inl (z.trans g.symm)⟩
  ·rw[if_neg g,Qe,Qe,ut,ut,kL k p t r,or_assoc]
theorem jk(k:List Int)(p:Pr):∀m:Mp,(m.map (·.1)).Nodup->((da m k p).map (·.1)).Nodup
 |[],_=>by simp[da]
 |e::r,h=>by
  rw[Qe,Jv] at h;unfold da
  by_cases g:e.1=k
  ·rw[if_pos g,Qe,Jv];exact h
  ·rw[if_neg g,Qe,Jv]
   refine⟨λz=>?_,jk k p r h.2⟩;rcases(kL k p _ r).mp z with z | z
   ·exact h.1 z
   ·exact g z
theorem kz(k:List Int)(p:Pr){n:Nat}:∀m:Mp,(∀e∈m,e.2.length<=n)->∀e∈da m k p,e.2.length<=n+1
 |[],_,e,he=>by
  rw[show da [] k p=[(k,[p])] from rfl] at he;rw[xz.mp he];exact Zx (QA _)
 |f::r,h,e,he=>by
  unfold da at he;split at he
  ·rcases ut.mp he with q | q
   ·rw[q];simpa using h f (Qh ..)
   ·exact Nat.le_succ_of_le (h e (Qj _ q))
  ·rcases ut.mp he with q | q
   ·rw[q];exact Nat.le_succ_of_le (h f (Qh ..))
   ·exact kz k p r (λe he=>h e (Qj _ he)) e q
theorem mC(k:List Int)(p:Pr):∀m:Mp,(da m k p).length<=m.length+1
 |[]=>wp _
 |e::r=>by
  unfold da;split
  ·exact Nat.le_succ _
  ·exact Zx (mC k p r)
theorem oF:∀(ss:List Stt) (m:Mp) (n:Nat),(m.map (·.1)).Nodup->(∀e∈m,e.2.length<=n)->((ldF m ss).map (·.1)).Nodup/\(∀e∈ldF m ss,e.2.length<=n+ss.length)/\(ldF m ss).length<=m.length+ss.length
 |[],m,n,h1,h2=>⟨h1,h2,wp _⟩
 |s::ss,m,n,h1,h2=>by
  obtain⟨a,b,c⟩:=oF ss (da m (spK s) (prS s)) (n+1) (jk _ _ m h1) (kz _ _ m h2);have:=mC (spK s) (prS s) m;exact⟨a,λe he=>by rw[Qv];have:=b e he;lia,by rw[Qv];have c':(ldF m (s::ss)).length<=(da m (spK s) (prS s)).length+ss.length:=c;lia⟩
theorem n6{α:Type}{g:D->Ev->Option Ev}{ft:Ev->Option Bool}{fk fv:Ev->Option D}(P:Ev->Prop)(enc:α->D)(p:α->Bool)(key:α->List Int)(val:α->D):∀(xs:List α),(∀x∈xs,∀ε,P ε->∃ε1,g (enc x) ε=some ε1/\P ε1/\ft ε1=some (p x)/\(p x=true->∃kd,fk ε1=some kd/\l0 kd=some (key x)/\fv ε1=some (val x)))->
  ∀(ε:Ev) (es:Es),P ε->(es.map (·.1)++xs.map key).Nodup->dcD g ft fk fv (xs.map enc) ε es=some (es++(xs.filter p).map λx=>(key x,val x))
 |[],_,ε,es,_,_=>by simp[dcD]
 |x::xs,h,ε,es,hp,nd=>by
  obtain⟨ε1,e1,p1,e2,e3⟩:=h x (Qh ..) ε hp;have rest:=n6 P enc p key val xs (λx hx=>h x (Qj _ hx)) ε1;show(g (enc x) ε).bind _=_;rw[e1];show(ft ε1).bind _=_;rw[e2];show(if p x=true then _ else _)=_;rw[Qe] at nd;cases q:p x with
  |false=>
   rw[if_neg ww,J4,if_neg (by rw[q];exact ww)];exact rest es p1 (nd.sublist (List.Sublist.append_left (List.sublist_cons_self _ _) _))
  |true=>
   obtain⟨kd,f1,f2,f3⟩:=e3 q;rw[if_pos rfl,J4,if_pos q,f1];show(fv ε1).bind _=_;rw[f3];show(l0 kd).bind _=_;rw[f2];show dcD g ft fk fv (xs.map enc) ε1 (j9 es (key x) (val x))=_;have nk:key x∉es.map (·.1):=λz=>(ZK.mp nd).2.2 _ z _ (Qh ..) rfl;rw[jC nk,rest _ p1 (by rw[Jg,Qk];exact nd)];simp
theorem ua(ps:List Pr)(hz:ps.length<1000000):gk [.lst (pL ps)]=some (.lst (pL (frP ps))):=sv rfl (vq ps hz)
def frM(m:Mp):Es:=m.map λe=>(e.1,.lst (pL (frP e.2)))
theorem x3(k:List Int):∀m:Mp,lkD (frM m) k=(lkM m k).map λps=>D.lst (pL (frP ps))
 |[]=>rfl
 |e::r=>by
  show(if e.1=k then some (D.lst (pL (frP e.2))) else lkD (frM r) k)=(if e.1=k then some e.2 else lkM r k).map _;split
  ·rfl
  ·exact x3 k r
theorem ud(q p:Pr):cv 9 (pD q) (pD p)=some (decide (q=p)):=by
 have h:=Am q p;unfold g9 at h;cases e:cv 9 (pD q) (pD p) with
 |none=>rw[e] at h;cases h
 |some b=>
  rw[e] at h
  have h2:(!b) = !decide (q=p):=by
   have:=Option.some.inj h;injection this
  rw[Bool.not_inj h2]
theorem sm(p:Pr):∀fs:List Pr,inL (pD p) (pL fs)=some (fs.map λq=>decide (q=p))
 |[]=>rfl
 |q::fs=>by
  show(cv 9 (pD q) (pD p)).bind _=_;rw[ud];show(inL (pD p) (pL fs)).bind _=_;rw[sm p fs];rfl
theorem zk(p:Pr)(fs:List Pr):(fs.map λq=>decide (q=p)).any id=decide (p∈fs):=by
 rw[Ze,List.any_eq_true,decide_eq_true_eq];constructor
 ·rintro⟨b,hb,q⟩
  obtain⟨x,hx,rfl⟩:=Qo.mp hb;have:=of_decide_eq_true (show decide (x=p)=true from q);exact this▸hx
 ·intro h
  exact⟨true,Qo.mpr ⟨p,h,decide_eq_true rfl⟩,rfl⟩
theorem zv(c:Fm)(hc:c.length<1000000)(nd:(kF c).Nodup):f9 [.dic (fmD c)]=some (.dic (fmD (unb c))):=by
 refine bH rfl ?_;unfold jR;have lc:(fmD c).length<1000000:=by unfold fmD;rw[Qg];exact hc
 obtain⟨f1,f2,f3⟩:=oF (c.map (·.1)) [] 0 Zt (λ_ h=>by cases h);rw[Qg] at f2 f3;have f3:(ldF [] (c.map (·.1))).length<=c.length:=by simpa using f3
 have keys:jm (ao 0) [.dat (.dic (fmD c)),.un]=some ((c.map (·.1)).map stD):=by
  show(if(fmD c).length<1000000 then some ((fmD c).map λe=>zx e.1) else none)=_;rw[if_pos lc];unfold fmD;rw[Jm,Jm];rfl
 have ld:aJ bf (aa (eF (jm (ao 0))) aB) [.dat (.dic (fmD c)),.un]=some (.dic (mpD (ldF [] (c.map (·.1))))):=aX (aU (fT keys) rfl) (tN _ (by rw[Qg];exact hc))
 have fr:eDC (dM (aJ bf (aa (eF (jm (ao 0))) aB))) 2 [] (bx 2 (ai (ah 0) (ai (ah 1) aL))) iU (ao 0) (aJ gk (aa (ao 1) aB)) [.dat (.dic (fmD c)),.un]=some (frM (ldF [] (c.map (·.1)))):=by
  generalize ldF [] (c.map (·.1))=m at f1 f2 f3 ld
  have it:dM (aJ bf (aa (eF (jm (ao 0))) aB)) [.dat (.dic (fmD c)),.un]=some (m.map λe=>D.tup [.tup (e.1.map D.int),.lst (pL e.2)]):=by
   unfold dM;rw[ld];show some (dP (mpD m))=_;unfold dP mpD;rw[Jm];rfl
  unfold eDC;rw[it];show(if(m.map _).length<1000000 then _ else _)=_;rw[if_pos (by rw[Qg];lia)]
  have run:=n6 (g:=bx 2 (ai (ah 0) (ai (ah 1) aL))) (ft:=iU) (fk:=ao 0) (fv:=aJ gk (aa (ao 1) aB)) (λε=>∃a b,ε=[a,b]) (λe:List Int×List Pr=>D.tup [.tup (e.1.map D.int),.lst (pL e.2)]) (λ_=>true) (·.1) (λe=>D.lst (pL (frP e.2))) m (λe he ε ⟨a,b,hε⟩=>by
   subst hε
   exact⟨_,rfl,⟨_,_,rfl⟩,rfl,λ_=>⟨_,rfl,dS _,aX (ds:=[.lst (pL e.2)]) rfl (ua _ (by have:=f2 e he;lia))⟩⟩) [.un,.un] [] ⟨_,_,rfl⟩ (by simpa using f1)
  refine run.trans ?_;rw[List.nil_append,List.filter_eq_self.mpr (λ_ _=>rfl)];rfl
 show aH _ _ [.dat (.dic (fmD c)),.un]=_;refine(ay (b_ (d:=.dic (frM (ldF [] (c.map (·.1))))) (by unfold uM;rw[fr];rfl))).trans ?_;refine eB ?_
 have res:eDC (dM (ao 0)) 2 [1] (bx 2 (ai (ah 0) (ai (ah 1) aL))) (az (qK false) (ll (ag 0) (bR (eC (.int 3))) cE) (e2 uu (ag 2) (ll (ag 0) cE (bR (eC (.int 3)))))) (ao 0) (ao 1) [.dat (.dic (fmD c)),.dat (.dic (frM (ldF [] (c.map (·.1)))))]=some (fmD (unb c)):=by
  have it:dM (ao 0) [.dat (.dic (fmD c)),.dat (.dic (frM (ldF [] (c.map (·.1)))))]=some (c.map λe=>D.tup [stD e.1,rwD e.2]):=by
   show some (dP (fmD c))=_;unfold dP fmD;rw[Jm];rfl
  unfold eDC;rw[it];show(if(c.map _).length<1000000 then _ else _)=_;rw[if_pos (by rw[Qg];exact hc)]
  have run:=n6 (g:=bx 2 (ai (ah 0) (ai (ah 1) aL))) (ft:=az (qK false) (ll (ag 0) (bR (eC (.int 3))) cE) (e2 uu (ag 2) (ll (ag 0) cE (bR (eC (.int 3)))))) (fk:=ao 0) (fv:=ao 1) (λε=>∃a b,ε=[a,b,.dat (.dic (frM (ldF [] (c.map (·.1)))))]) (λe:Stt×List Str=>D.tup [stD e.1,rwD e.2]) (λe=>decide (prS e.1∈frP ((c.filter λx=>decide (spK x.1=spK e.1)).map λx=>prS x.1))) (λe=>stK e.1) (λe=>rwD e.2) c (λe he ε ⟨a,b,hε⟩=>by
   subst hε;refine⟨_,rfl,⟨_,_,rfl⟩,?_,λ_=>⟨_,rfl,rfl,rfl⟩⟩;obtain⟨g1,g2⟩:=oO (spK e.1) (c.map (·.1)) [];obtain⟨ps,eps⟩:=Option.isSome_iff_exists.mp (g2 (.inr ⟨e.1,Qo.mpr ⟨e,he,rfl⟩,rfl⟩));rw[eps] at g1;have g1:ps=((c.map (·.1)).filter λs=>decide (spK s=spK e.1)).map prS:=g1
   have eqs:((c.map (·.1)).filter λs=>decide (spK s=spK e.1)).map prS=(c.filter λx=>decide (spK x.1=spK e.1)).map λx=>prS x.1:=by
    rw[List.filter_map,Jm];rfl
   refine fI (x:=pD (prS e.1)) (y:=.lst (pL (frP ps))) rfl (bI (x:=.dic (frM (ldF [] (c.map (·.1))))) (y:=.tup [.int e.1.x,.int e.1.y,.int e.1.z]) rfl rfl ?_) ?_
   ·show lkD (frM (ldF [] (c.map (·.1)))) (spK e.1)=_
    rw[x3,eps];rfl
   ·show(inL (pD (prS e.1)) (pL (frP ps))).bind _=_
    rw[sm];show some (D.bl (((frP ps).map λq=>decide (q=prS e.1)).any id))=_
    rw[zk,g1,eqs]) [.un,.un,.dat (.dic (frM (ldF [] (c.map (·.1)))))] [] ⟨_,_,rfl⟩ (by simpa using nd)
  refine run.trans ?_;rw[List.nil_append];rfl
 exact congrArg (Option.map D.dic) res
section
variable(k:Sk)(kk:SkW k)(h:Int)(q:Stt)
def ffD(n:Nat):List D:=(QF (n+1)).map λi=>D.dic (fmD (TN k h q i))
theorem vT(n:Nat):ffD k h q (n+1)=ffD k h q n++[.dic (fmD (TN k h q (n+1)))]:=by
 unfold ffD;rw[List.range_succ,Jg];rfl
theorem wR(n:Nat):ixD (.lst (ffD k h q n)) (.int (-1))=some (.dic (fmD (TN k h q n))):=by
 have e:ffD k h q n=((QF n).map λi=>D.dic (fmD (TN k h q i)))++[.dic (fmD (TN k h q n))]:=by
  unfold ffD;rw[List.range_succ,Jg];rfl
 rw[e];exact mY _ _
include kk in
theorem qI(n:Nat)(hn:n<=8):cI [skD k,.int h,stD q,.int (n:Int)]=some (.lst (ffD k h q n)):=by
 refine bH rfl ?_;unfold eJ;refine(ay (ε':=[.dat (skD k),.dat (.int h),.dat (stD q),.dat (.int (n:Int)),.own (ffD k h q 0),.un]) rfl).trans ?_
 obtain⟨ε',e,s5,rfl⟩:=jW (g:=ah 5) (gb:=cY) (λi ε=>∃s5,ε=[.dat (skD k),.dat (.int h),.dat (stD q),.dat (.int (n:Int)),.own (ffD k h q i),s5]) (dc n) 0 (λi d hd ε ⟨s5,he⟩=>by
  subst he;obtain⟨rfl,hi⟩:=tw hd;rw[Ja];have h1:=pf k h q i;have p3:3 ^ i<=3 ^ 8:=Nat.pow_le_pow_right (by decide) (by lia);have gl:(goF k (h+(i:Int)) (TN k h q i)).length<=0+3*(TN k h q i).length:=jb k _ (TN k h q i) [];have e1:=t_ k kk (h+(i:Int)) (TN k h q i) (by lia) (λe he=>by have:=tO k h q i e he;lia);have e2:=zv (goF k (h+(i:Int)) (TN k h q i)) (by lia) (hW k _ _ [] Zt);refine⟨_,_,rfl,.inl (i9 (ds:=ffD k h q i) (aX (aU (aX (ds:=[skD k,.int (h+(i:Int)),.dic (fmD (TN k h q i))]) (aU rfl (aU rfl (aU (bI (x:=.lst (ffD k h q i)) (y:=.int (-1)) rfl rfl (wR k h q i)) rfl))) e1) rfl) e2) rfl (by unfold ffD;rw[Qg,ZL];lia)),.dat (.int (i:Int)),?_⟩
  rw[vT];rfl) [.dat (skD k),.dat (.int h),.dat (stD q),.dat (.int (n:Int)),.own (ffD k h q 0),.un] ⟨_,rfl⟩
 refine(ay ((bT (ds:=dc n) (vK (j:=(n:Int)) rfl (by lia) (by lia))).trans e)).trans ?_;rw[show(dc n).length=n by unfold dc;simp,Ja];rfl
theorem wX{f:Ev->Option D}{ε:Ev}{es:List (List Int×D)}(h:f ε=some (.dic es))(c1:(es.all λe=>!e.1.isEmpty)=true)(c2:es.length<1000000):mZ f ε=some ((h7 (es.map (·.1))).map eR):=by
 unfold mZ;rw[h];exact if_pos ⟨c1,c2⟩
def tbL(n:Nat):List (List Int):=h7 (kF (TN k h q n))
include kk in
theorem uR(n:Nat)(hn:n<=8):gC [skD k,.int h,stD q,.int (n:Int)]=some (.lst ((QF (n+1)).map λi=>D.lst ((tbL k h q i).map eR))):=by
 refine bH rfl ?_;unfold qz;refine eB (fT ?_);refine zU (ds:=(QF (n+1)).map λi=>D.dic (fmD (TN k h q i))) (l5 (aX (ds:=[skD k,.int h,stD q,.int (n:Int)]) rfl (qI k kk h q n hn))) (by rw[Qg,ZL];lia) (wC (λε=>∃a,ε=[a]) (λi:Nat=>D.dic (fmD (TN k h q i))) (λi=>D.lst ((tbL k h q i).map eR)) (QF (n+1)) (λi hi ε ⟨a,he⟩=>?_) _ ⟨.un,rfl⟩);subst he;have hi:=Je.mp hi;have h1:=pf k h q i;have p3:3 ^ i<=3 ^ 8:=Nat.pow_le_pow_right (by decide) (by lia);refine⟨_,rfl,⟨_,rfl⟩,fT ?_⟩;refine(wX (es:=fmD (TN k h q i)) rfl (Jd.mpr λe he=>by obtain⟨x,_,rfl⟩:=Qo.mp he;rfl) (by unfold fmD;rw[Qg];lia)).trans ?_;rw[lB];rfl
end
theorem w8:Tb.gC=Tb.gC:=rfl
abbrev p7:List Str:=["pairs","told","pair"]
abbrev gK:List Str:=["pairs"]
def n8:Ev->Option Fl:=(sIf (cH (eO (dN (ag 1))) (az ltI (e2 ixD (ag 2) (eC (.int 1))) (e2 ixD (e2 ixD (ag 1) (dg (eC (.int 1)))) (eC (.int 1))))) (c_ 1 (ao 2)) a_)
def qB:Ev->Option Fl:=(aH (jD 1 (cD aB)) (aH (cP (cG (eF (gz (ag 0)))) (ah 2) (n8)) (qo 1)))
def vB:List D->Option D:=fnD p7 gK qB
def g6:List D->Option (List D):=fnO p7 gK qB
abbrev mf:List Str:=["sky","hour","many","x","y","height","to_x","to_y","costs","found","over_x","over_y","over_height","sacks","puffs"]
abbrev fD:List Str:=["sky","hour","many","x","y","height","to_x","to_y"]
def dB:Ev->Option Fl:=(sIf (az bE (aY (aa (ao 10) (aa (ao 11) aB))) (aY (aa (ao 6) (aa (ao 7) aB)))) (c_ 8 (aY (aa (e2 eE (eC (.int 6)) (ag 13)) (aa (e2 eE (eC (.int 6)) (ag 14)) aB)))) a_)
def fA:Ev->Option Fl:=(cP (cG (ao 9)) (bx 5 (ai (ah 10) (ai (ah 11) (ai (ah 12) (ai (ah 13) (ai (ah 14) aL)))))) (dB))
def gy:Ev->Option Fl:=(aH (jD 8 (cD aB)) (aH (cP (cG (aJ gC (aa (ao 0) (aa (ao 1) (aa (aY (aa (ao 3) (aa (ao 4) (aa (ao 5) (aa (eC (.int 6)) (aa (eC (.int 6)) aB)))))) (aa (ao 2) aB)))))) (ah 9) (fA)) (sFz 8 (ju (fW g6 (aa (ao 8) aB))))))
def fG:List D->Option D:=fnD mf fD gy
def rK:List D->Option (List D):=fnO mf fD gy
theorem BO{α:Type}(f:α->Bool)(x:α):[x].filter f=if f x=true then[x] else[]:=by cases h:f x<;>simp[h]
theorem q9(ps:List Pr)(hz:ps.length<1000000):g6 [.lst (pL ps)]=some (pL (lsP ps)):=yA rfl (we ps hz)
def toS(t:List Int):Stt:=⟨t.getD 0 0,t.getD 1 0,t.getD 2 0,t.getD 3 0,t.getD 4 0⟩
theorem pO(s:Stt):toS (stK s)=s:=rfl
section
variable(k:Sk)(kk:SkW k)(h:Int)(q:Stt)(a b:Int)
def tbS(n:Nat):List Stt:=(tbL k h q n).map toS
theorem pT(n:Nat)(s:Stt):s∈tbS k h q n↔∃e∈TN k h q n,e.1=s:=by
 rw[<-u0];unfold tbS tbL;rw[Qo];constructor
 ·rintro⟨t,ht,rfl⟩
  have ht:=(bO _).mem_iff.mp ht;obtain⟨e,he,rfl⟩:=Qo.mp ht;rw[pO];exact ht
 ·intro hs
  exact⟨stK s,(bO _).mem_iff.mpr hs,pO s⟩
theorem vG(n:Nat):(tbL k h q n).map eR=(tbS k h q n).map stD:=by
 unfold tbS;rw[Jm];refine List.map_congr_left λt ht=>?_;obtain⟨e,_,rfl⟩:=Qo.mp ((bO _).mem_iff.mp ht);rfl
theorem pY(n:Nat)(hn:n<=8):(tbS k h q n).length<=6561:=by
 unfold tbS tbL;rw[Qg,(bO _).length_eq,Qg];exact QO (pf k h q n) (Nat.pow_le_pow_right (by decide) hn)
def pl(s:Stt):Bool:=decide (s.x=a)&&decide (s.y=b)
def cst(s:Stt):Pr:=(6-s.s,6-s.p)
def CT(n:Nat):List Pr:=(QF n).flatMap λi=>((tbS k h q i).filter (pl a b)).map cst
theorem oH(n:Nat):CT k h q a b (n+1)=CT k h q a b n++((tbS k h q n).filter (pl a b)).map cst:=by
 unfold CT;rw[List.range_succ,List.flatMap_append];simp
theorem n5:∀n,n<=9->(CT k h q a b n).length<=n*6561
 |0,_=>QA _
 |n+1,hn=>by
  have h1:=n5 n (by lia);have h2:=pY k h q n (by lia);rw[oH,Qr,Qg];have:=JP (pl a b) (tbS k h q n)
  lia
abbrev evN(m:Sl)(x y z:Int)(C:List Pr)(f s1 s2 s3 s4 s5:Sl):Ev:=[.dat (skD k),.dat (.int h),m,.dat (.int x),.dat (.int y),.dat (.int z),.dat (.int a),.dat (.int b),.own (pL C),f,s1,s2,s3,s4,s5]
theorem wQ(m f:Sl)(x y z:Int)(C:List Pr)(hC:C.length<1000000)(s:Stt):dB (evN k h a b m x y z C f (.dat (.int s.x)) (.dat (.int s.y)) (.dat (.int s.z)) (.dat (.int s.s)) (.dat (.int s.p)))=some (.nx (evN k h a b m x y z (C++if pl a b s=true then[cst s] else[]) f (.dat (.int s.x)) (.dat (.int s.y)) (.dat (.int s.z)) (.dat (.int s.s)) (.dat (.int s.p)))):=by
 have t:az bE (aY (aa (ao 10) (aa (ao 11) aB))) (aY (aa (ao 6) (aa (ao 7) aB))) (evN k h a b m x y z C f (.dat (.int s.x)) (.dat (.int s.y)) (.dat (.int s.z)) (.dat (.int s.s)) (.dat (.int s.p)))=some (pl a b s):=by
  refine fI (x:=pD (s.x,s.y)) (y:=pD (a,b)) rfl rfl ?_;unfold bE;rw[ud];show some (D.bl (decide ((s.x,s.y)=(a,b))))=_;congr 2;unfold pl
  by_cases h1:s.x=a<;>by_cases h2:s.y=b<;>simp[h1,h2]
 unfold dB;cases g:pl a b s with
 |true=>
  rw[if_pos rfl];refine(dE (t.trans (by rw[g]))).trans ((i9 (ds:=pL C) (d:=pD (cst s)) rfl rfl (by rw[Qg];exact hC)).trans ?_);unfold evN;rw[gN];rfl
 |false=>
  rw[if_neg ww,QW];exact(eL (t.trans (by rw[g]))).trans rfl
theorem yX(m:Sl)(x y z:Int)(C:List Pr)(hC:C.length<900000)(ss:List Stt)(hs:ss.length<=6561)(s1 s2 s3 s4 s5:Sl):∃t1 t2 t3 t4 t5,fA (evN k h a b m x y z C (.dat (.lst (ss.map stD))) s1 s2 s3 s4 s5)=some (.nx (evN k h a b m x y z (C++(ss.filter (pl a b)).map cst) (.dat (.lst (ss.map stD))) t1 t2 t3 t4 t5)):=by
 obtain⟨ε',e,t1,t2,t3,t4,t5,rfl⟩:=cX (g:=bx 5 (ai (ah 10) (ai (ah 11) (ai (ah 12) (ai (ah 13) (ai (ah 14) aL)))))) (gb:=dB) stD (λdone ε=>∃s1 s2 s3 s4 s5,ε=evN k h a b m x y z (C++(done.filter (pl a b)).map cst) (.dat (.lst (ss.map stD))) s1 s2 s3 s4 s5) ss (λdone s rest hd ε ⟨s1,s2,s3,s4,s5,he⟩=>by
  subst he;have dl:done.length<=6561:=by have:=congrArg List.length hd;simp at this;lia
  have fl:=JP (pl a b) done;refine⟨_,_,rfl,.inl (wQ k h a b m _ x y z (C++(done.filter (pl a b)).map cst) (by rw[Qr,Qg];lia) s),.dat (.int s.x),.dat (.int s.y),.dat (.int s.z),.dat (.int s.s),.dat (.int s.p),?_⟩;rw[List.filter_append,BO,Jg,Qk];congr 2
  split<;>rfl) (evN k h a b m x y z C (.dat (.lst (ss.map stD))) s1 s2 s3 s4 s5) ⟨s1,s2,s3,s4,s5,by rw[List.filter_nil,List.map_nil,QW]⟩
 exact⟨t1,t2,t3,t4,t5,(bT rfl).trans e⟩
include kk in
theorem sR(n:Nat)(hn:n<=8)(x y z:Int)(hq:q=⟨x,y,z,6,6⟩):gy [.dat (skD k),.dat (.int h),.dat (.int (n:Int)),.dat (.int x),.dat (.int y),.dat (.int z),.dat (.int a),.dat (.int b),.un,.un,.un,.un,.un,.un,.un]=some (.ro (pL (lsP (CT k h q a b (n+1))))):=by
 unfold gy;refine(ay (ε':=evN k h a b (.dat (.int (n:Int))) x y z [] .un .un .un .un .un .un) rfl).trans ?_
 obtain⟨ε',e,f,s1,s2,s3,s4,s5,rfl⟩:=jW (g:=ah 9) (gb:=fA) (λi ε=>∃f s1 s2 s3 s4 s5,ε=evN k h a b (.dat (.int (n:Int))) x y z (CT k h q a b i) f s1 s2 s3 s4 s5) ((QF (n+1)).map λi=>D.lst ((tbL k h q i).map eR)) 0 (λi d hd ε ⟨f,s1,s2,s3,s4,s5,he⟩=>by
  subst he;rw[Qm] at hd;obtain⟨j,ej,rfl⟩:=aP hd;obtain⟨hi,ej⟩:=Qi.mp ej;rw[ZL] at hi;rw[Ka] at ej;subst ej;rw[Ja,vG];have cl:=n5 k h q a b i (by lia);obtain⟨t1,t2,t3,t4,t5,e1⟩:=yX k h a b (.dat (.int (n:Int))) x y z (CT k h q a b i) (by lia) (tbS k h q i) (pY k h q i (by lia)) s1 s2 s3 s4 s5
  exact⟨_,_,rfl,.inl e1,_,_,_,_,_,_,by rw[oH]⟩) (evN k h a b (.dat (.int (n:Int))) x y z [] .un .un .un .un .un .un) ⟨_,_,_,_,_,_,rfl⟩
 rw[Qg,ZL,Ja] at e;have cl:=n5 k h q a b (n+1) (by lia);refine(ay (i0 (l5 (aX (ds:=[skD k,.int h,stD q,.int (n:Int)]) (by rw[hq];rfl) (by rw[w8];exact uR k kk h q n hn))) e)).trans ?_;show ju (fW g6 (aa (ao 8) aB)) [.dat (skD k),.dat (.int h),.dat (.int (n:Int)),.dat (.int x),.dat (.int y),.dat (.int z),.dat (.int a),.dat (.int b),.dat (.lst (pL (CT k h q a b (n+1)))),f,s1,s2,s3,s4,s5]=_;unfold ju;rw[tZ (ds:=[.lst (pL (CT k h q a b (n+1)))]) rfl (q9 _ (by lia))];rfl
end
section
variable(k:Sk)(h:Int)(q:Stt)(a b:Int)
def RS(n:Nat):List Stt:=(QF n).flatMap λi=>(eN k h q i).map (·.2)
theorem lP(n:Nat)(s:Stt):s∈RS k h q n↔∃i<n,∃r∈eN k h q i,r.2=s:=by
 unfold RS;rw[J7];constructor
 ·rintro⟨i,hi,hs⟩
  obtain⟨r,hr,e⟩:=Qo.mp hs;exact⟨i,Je.mp hi,r,hr,e⟩
 ·rintro⟨i,hi,r,hr,e⟩
  exact⟨i,Je.mpr hi,Qo.mpr ⟨r,hr,e⟩⟩
theorem nS(n:Nat):lsP (CT k h q a b n)=lsP (((RS k h q n).filter (pl a b)).map cst):=by
 refine pQ (λp hp=>?_) λr hr=>?_
 ·obtain⟨i,hi,hp⟩:=J7.mp hp
  obtain⟨s,hs,rfl⟩:=Qo.mp hp;obtain⟨hs,hl⟩:=QM.mp hs;obtain⟨e,he,rfl⟩:=(pT k h q i s).mp hs;obtain⟨r,hr,er⟩:=yf k h q i e he;exact Qo.mpr ⟨e.1,QM.mpr ⟨(lP k h q n e.1).mpr ⟨i,Je.mp hi,r,hr,er⟩,hl⟩,rfl⟩
 ·obtain⟨s,hs,rfl⟩:=Qo.mp hr
  obtain⟨hs,hl⟩:=QM.mp hs;obtain⟨i,hi,r,hr0,rfl⟩:=(lP k h q n s).mp hs;obtain⟨e,he,d⟩:=xV k h q i r hr0;obtain⟨e1,e2,_⟩:=k_.mp d.1;refine⟨cst e.1,J7.mpr ⟨i,Je.mpr hi,Qo.mpr ⟨e.1,QM.mpr ⟨(pT k h q i e.1).mpr ⟨e,he,rfl⟩,?_⟩,rfl⟩⟩,?_,?_⟩
  ·unfold pl at hl ⊢;rw[e1,e2];exact hl
  ·show 6-e.1.s<=6-r.2.s;have:=d.2.1;lia
  ·show 6-e.1.p<=6-r.2.p;have:=d.2.2;lia
end
end Tb
namespace Lw
open PySem PySem.Spec PyProof.Rows L2 Dn
open Fl
open Tb
def top(i:Nat):Stmt:=PySem.Challenge.pw_ballastbook_k24_needs_where_all_hours_ar.main.body.getD i (.Pass ⟨0,0,0,0⟩)
abbrev jZ:List Str:=["_law_script","_law_many","_law_row","_law_seed","_law_cell","_law_rest","_law_k"]
abbrev ck:List Str:=["_law_script","_law_many"]
def gY:Ev->Option Fl:=(sIf (az gtI (ag 5) (eC (.int 0))) (aH (c_ 2 (e2 bG (ag 5) (eC (.int 1000)))) (bq 5 (e2 jI (ag 5) (eC (.int 1000))))) a_)
def gw:Ev->Option Fl:=(aH (bq 3 (e2 bG (e2 bP (e2 bP (e2 eQ (ag 3) (eC (.int 69621))) (e2 bG (ag 4) (eC (.int 999983)))) (eC (.int 7))) (eC (.int 2147483629)))) (aH (bq 5 (e2 eE (ag 4) (e2 nF (eC (.int 10)) (eC (.int 18))))) (aH (sIf (az ltI (ag 5) (eC (.int 0))) (c_ 2 (e2 bG (ag 4) (eC (.int 1000)))) a_) (cP (iW (eC (.int 60))) (ah 6) (gY)))))
def gS:Ev->Option Fl:=(sIf (az ltI (g_ gE (ag 2)) (ag 1)) (aH (bq 3 (e2 bG (e2 bP (e2 bP (e2 bP (e2 nF (ag 3) (eC (.int 3))) (e2 eQ (eC (.int 40692)) (ag 3))) (e2 eQ (eC (.int 7)) (ag 6))) (eC (.int 5))) (eC (.int 2147483629)))) (c_ 2 (e2 bG (e2 jI (ag 3) (eC (.int 1009))) (eC (.int 1000))))) a_)
def eX:Ev->Option Fl:=(aH (jD 2 (cD aB)) (aH (bq 3 (eC (.int 29))) (aH (cP (cG (eF (eSl (ag 0) cE (bR (eC (.int 63)))))) (ah 4) (gw)) (aH (cP (iW (ao 1)) (ah 6) (gS)) (a8 (eF (eSl (ag 2) cE (bR (ag 1)))))))))
def c6:List D->Option D:=fnD jZ ck eX
abbrev fg(Z:Wq):Prop:=OkD Z "_law_numbers" (top 29) ck 1 c6
abbrev kM(Z:Wq):Prop:=OkD Z "wind_at" (top 12) fK 1 dY
abbrev nh(Z:Wq):Prop:=OkD Z "led_to" (top 16) gG 2 jK
abbrev dF(Z:Wq):Prop:=OkD Z "why_not_ordered" (top 15) bK 1 cq
abbrev iC(Z:Wq):Prop:=OkD Z "ground_at" (top 7) dG 1 dD
abbrev mz(Z:Wq):Prop:=OkD Z "inside" (top 5) gT 1 gI
abbrev kQ(Z:Wq):Prop:=OkD Z "shut_at" (top 9) fO 2 fH
abbrev eM(Z:Wq):Prop:=OkD Z "why_not_stand" (top 10) bS 3 cL
abbrev ql(Z:Wq):Prop:=OkD Z "tried" (top 17) i7 4 gW
abbrev qp(Z:Wq):Prop:=OkD Z "moves" (top 18) iZ 5 i5
abbrev jJ(Z:Wq):Prop:=OkD Z "flown_on" (top 22) ee 6 gf
abbrev eP(Z:Wq):Prop:=OkD Z "loads_by_spot" (top 20) bV 1 bf
abbrev qF(Z:Wq):Prop:=OkB Z "front" (top 1) gu 1 gk ur
abbrev jV(Z:Wq):Prop:=OkD Z "unbeaten" (top 21) eo 2 f9
abbrev eK(Z:Wq):Prop:=OkD Z "first_flights" (top 23) bU 7 cI
abbrev qd(Z:Wq):Prop:=OkD Z "table" (top 24) i8 8 gC
abbrev pV(Z:Wq):Prop:=OkB Z "least" (top 2) gK 1 vB g6
abbrev mE(Z:Wq):Prop:=OkB Z "needed" (top 27) fD 9 fG rK
abbrev iB:List Str:=["_law_found","_law_due"]
abbrev bM:List Str:=["_law_found","_law_due"]
def iw(rec:List D->Option D):Ev->Option Fl:=(aH (sIf (cH (dN (df (cU "list") (ag 1))) (dN (df (cU "tuple") (ag 1)))) (aH (sIf (cH (az g9 (df (cU "list") (ag 0)) (df (cU "list") (ag 1))) (az g9 (df (cU "tuple") (ag 0)) (df (cU "tuple") (ag 1)))) (a8 (eC (.bl false))) a_) (a8 (lp (e2 bE (g_ gE (ag 0)) (g_ gE (ag 1))) (aJ l9 (aa (eF (eLC (uT (aa (ao 0) (aa (ao 1) aB))) 2 [] (bx 2 (ai (ah 0) (ai (ah 1) aL))) iU (aJ rec (aa (ao 0) (aa (ao 1) aB))))) aB))))) a_) (aH (sIf (cH (az (isD false) (ag 0) (eC .non)) (az (isD false) (ag 1) (eC .non))) (a8 (lp (e2 (isD false) (ag 0) (eC .non)) (e2 (isD false) (ag 1) (eC .non)))) a_) (aH (sIf (cH (az g9 (df (cU "bool") (ag 0)) (df (cU "bool") (ag 1))) (az g9 (df (cU "int") (ag 0)) (df (cU "int") (ag 1)))) (a8 (eC (.bl false))) a_) (a8 (e2 bE (ag 0) (ag 1))))))
def cb:Nat->List D->Option D
 |0=>λ_=>none
 |n+1=>fnD iB bM (iw (cb n))
def bB:List D->Option D:=cb 4
abbrev iE(Z:Wq):Prop:=OkD Z "_law_same" (top 30) bM 4 bB
abbrev Bk:List Str:=["_law_script","_law_numbers_here","_law_height","_law_dx","_law_dy","_law_many","_law_hour","_law_x","_law_y","_law_sky","_law_steps","_law_due"]
abbrev oS:List Str:=["_law_script"]
def gF:Ev->Option Fl:=(aH (bq 11 (eF (cD aB))) (aH (sIf (b9 (az leI (ag 10) (ag 5)) (az leI (ag 10) (eC (.int 6)))) (bq 11 (eF (cD (aa (aY (aa (ao 10) (aa (eC (.int 0)) aB))) aB)))) a_) (sIf (eO (dN (aJ bB (aa (aJ fG (aa (ao 9) (aa (ao 6) (aa (ao 5) (aa (ao 7) (aa (ao 8) (aa (ao 2) (aa (e2 bP (ag 7) (e2 eQ (ag 10) (ag 3))) (aa (e2 bP (ag 8) (e2 eQ (ag 10) (ag 4))) aB))))))))) (aa (ao 11) aB))))) (a8 (eC (.bl false))) a_)))
def ym:Ev->Option Fl:=(aH (bq 1 (aJ c6 (aa (ao 0) (aa (eC (.int 20)) aB)))) (aH (bq 2 (e2 bP (eC (.int 1)) (e2 bG (e2 ixD (ag 1) (eC (.int 0))) (eC (.int 4))))) (aH (iR (e2 ixD (eF (cD (aa (aY (aa (eC (.int 1)) (aa (eC (.int 0)) aB))) (aa (aY (aa (dg (eC (.int 1))) (aa (eC (.int 0)) aB))) (aa (aY (aa (eC (.int 0)) (aa (eC (.int 1)) aB))) (aa (aY (aa (eC (.int 0)) (aa (dg (eC (.int 1))) aB))) (aa (aY (aa (eC (.int 2)) (aa (eC (.int 1)) aB))) (aa (aY (aa (dg (eC (.int 1))) (aa (eC (.int 2)) aB))) (aa (aY (aa (eC (.int 1)) (aa (eC (.int 1)) aB))) (aa (aY (aa (dg (eC (.int 2))) (aa (dg (eC (.int 2))) aB))) aB)))))))))) (e2 bG (e2 ixD (ag 1) (eC (.int 1))) (eC (.int 8)))) (cZ 2 (ai (ah 3) (ai (ah 4) aL)))) (aH (bq 5 (e2 eE (eC (.int 8)) (e2 bG (e2 ixD (ag 1) (eC (.int 2))) (eC (.int 9))))) (aH (bq 6 (e2 bG (e2 ixD (ag 1) (eC (.int 3))) (e2 eE (eC (.int 25)) (ag 5)))) (aH (bq 7 (e2 eE (e2 ixD (ag 1) (eC (.int 4))) (eC (.int 500)))) (aH (bq 8 (e2 eE (e2 ixD (ag 1) (eC (.int 5))) (eC (.int 500)))) (aH (bq 9 (aY (aa (eF (cD aB)) (aa (eF (uP (eC (.int 24)))) (aa (eF (cD (aa (aY (aa (eC (.int 0)) (aa (ao 2) (aa (ao 3) (aa (ao 4) aB))))) aB))) (aa (eF (cD aB)) aB)))))) (aH (cP (kj (aY (aa (eC (.int 0)) (aa (aJ ki (aa (eC (.int 8)) (aa (ao 5) aB))) (aa (e2 ixD (eF (cD (aa (eC (.int 5)) (aa (eC (.int 6)) (aa (eC (.int 7)) (aa (e2 bP (eC (.int 1)) (e2 bG (e2 ixD (ag 1) (eC (.int 7))) (eC (.int 4)))) aB)))))) (e2 bG (e2 ixD (ag 1) (eC (.int 6))) (eC (.int 4)))) aB))))) (ah 10) (gF)) (a8 (aJ bB (aa (aJ fG (aa (ao 9) (aa (ao 6) (aa (ao 5) (aa (ao 7) (aa (ao 8) (aa (ao 2) (aa (e2 eE (ag 7) (ag 3)) (aa (e2 eE (ag 8) (ag 4)) aB))))))))) (aa (eF (cD aB)) aB)))))))))))))
def p8:List D->Option D:=fnD Bk oS ym
abbrev sF(Z:Wq):Prop:=OkD Z "law" (top 31) oS 10 p8
structure Md(Z:Wq):Prop where
 u_ORDERS:∃a,Z.mg "ORDERS" = some (.ref a)/\zo Z.K a [.str "up",.str "level",.str "down"]
 b_all:Z.mg "all" = none
 b_bool:Z.mg "bool" = none
 b_int:Z.mg "int" = none
 b_isinstance:Z.mg "isinstance" = none
 b_len:Z.mg "len" = none
 b_list:Z.mg "list" = none
 b_max:Z.mg "max" = none
 b_min:Z.mg "min" = none
 b_range:Z.mg "range" = none
 b_reversed:Z.mg "reversed" = none
 b_sorted:Z.mg "sorted" = none
 b_tuple:Z.mg "tuple" = none
 b_zip:Z.mg "zip" = none
 g_MOST:∃t,Z.mg "MOST" = some (.int 6 t)
 g_TOP_HEIGHT:∃t,Z.mg "TOP_HEIGHT" = some (.int 5 t)
theorem jA{Z:Wq}(R:FX Z "_law_numbers" (top 29) ck)(M:Md Z):fg Z:=bdF R λd _ _ _ _ _ _ _ _ hr=>(ar (hE 2 d (bZ aA)) (ar (bo 3 d aq) (ar (b8 QY rfl (cC (DF.de (x9 (aj 0) gP (fJ (DE.db aq))))) (au 4 d) (ar (bo 3 d (aG cJ (DE.db (aG cg (DE.db (aG cg (DE.db (aG jM (aj 3) (DE.db aq))) (DE.db (aG cJ (aj 4) (DE.db aq))))) (DE.db aq))) (DE.db aq))) (ar (bo 5 d (aG cw (aj 4) (DE.db (aG si (DE.db aq) (DE.db aq))))) (ar (bp (aN kX (aj 5) (DE.db aq) (aM _)) (aw (eY 2 (aG cJ (aj 4) (DE.db aq)))) aR) (aw (b8 QY rfl (jj aq M.b_range) (au 6 d) (aw (bp (aN u6 (aj 5) (DE.db aq) (aM _)) (ar (eY 2 (aG cJ (aj 5) (DE.db aq))) (aw (bo 5 d (aG qA (aj 5) (DE.db aq))))) aR)))))))) (ar (b8 QY rfl (jj (ak 1) M.b_range) (au 6 d) (aw (bp (aN kX (DE.db (oh (aj 2) M.b_len)) (aj 1) (aM _)) (ar (bo 3 d (aG cJ (DE.db (aG cg (DE.db (aG cg (DE.db (aG cg (DE.db (aG si (aj 3) (DE.db aq))) (DE.db (aG jM (DE.db aq) (aj 3))))) (DE.db (aG jM (DE.db aq) (aj 6))))) (DE.db aq))) (DE.db aq))) (aw (eY 2 (aG cJ (DE.db (aG qA (aj 3) (DE.db aq))) (DE.db aq))))) aR))) (aw (aV (DF.de (x9 (aj 2) gP (fJ (aj 1))))))))))
theorem rk{Z:Wq}(R:FX Z "wind_at" (top 12) fK)(M:Md Z):kM Z:=bdF R λd _ _ _ _ _ _ _ _ hr=>(ar (bo 3 d fZ) (ar (b8 QY rfl (cC (ak 0)) (au 4 d) (ar (bp (DW.dt (iA (aN (ji hr) (DE.db (bF (aj 4) (DE.db aq))) (aj 2) (aM _)) (fq (aN u6 (DE.db (bF (aj 4) (DE.db aq))) (aj 1) (aM _))))) (aw mT) aR) (aw (bp (DW.dt (iA (aN kU (aj 3) (DE.db fZ) (aM _)) (fq (aN Bb (DE.db (bF (aj 4) (DE.db aq))) (DE.db (bF (aj 3) (DE.db aq))) (aM _))))) (aw (bo 3 d (ak 4))) aR)))) (ar (bp (aN kU (aj 3) (DE.db fZ) (aM _)) (aw (aV (aZ (ae aq (ae aq aA))))) aR) (aw (aV (aZ (ae (bF (aj 3) (DE.db aq)) (ae (bF (aj 3) (DE.db aq)) aA))))))))
theorem uz{Z:Wq}(R:FX Z "led_to" (top 16) gG)(M:Md Z)(h_wind_at:kM Z):nh Z:=bdF R λd _ _ _ _ _ _ _ _ hr=>(ar (eA (ak 0) (d9 rfl (av (au 4 d) (av (au 5 d) (av (au 6 d) (av (au 7 d) bu)))))) (ar (eA (ak 2) (d9 rfl (av (au 8 d) (av (au 9 d) (av (au 10 d) (av (au 11 d) (av (au 12 d) bu))))))) (ar (bp (aN (bX hr) (aj 3) (DE.db bQ) (aM _)) (aw (sr 10 11 d (ae (aG cg (aj 10) (DE.db aq)) (ae (aG cw (aj 11) (DE.db aq)) aA)))) (aw (bp (aN (bX hr) (aj 3) (DE.db bQ) (aM _)) (aw (sr 10 12 d (ae (aG cw (aj 10) (DE.db aq)) (ae (aG cw (aj 12) (DE.db aq)) aA)))) aR))) (ar (bp (aN AD (aj 1) (aj 5) (by with_unfolding_all rfl)) (aw (bo 10 d (jG (vQ rfl) M.b_max (by rfl) (ae (aG cw (aj 10) (DE.db aq)) (ae aq aA))))) aR) (ar (eA (cF h_wind_at hr (ae (ak 6) (ae (ak 1) (ae (ak 10) aA)))) (d9 rfl (av (au 13 d) (av (au 14 d) bu)))) (aw (aV (aZ (ae (aG cg (aj 8) (aj 13)) (ae (aG cg (aj 9) (aj 14)) (ae (ak 10) (ae (ak 11) (ae (ak 12) aA)))))))))))))
theorem gM{Z:Wq}(R:FX Z "why_not_ordered" (top 15) bK)(M:Md Z):dF Z:=let⟨_,gi_TOP_HEIGHT⟩:=M.g_TOP_HEIGHT;bdF R λd _ _ _ _ _ _ _ _ hr=>(ar (eA (ak 0) (d9 rfl (av (au 2 d) (av (au 3 d) (av (au 4 d) (av (au 5 d) (av (au 6 d) bu))))))) (ar (bp (DW.dt (f_ (aN (bX hr) (aj 1) (DE.db bQ) (aM _)) (d_ (aN kX (aj 5) (DE.db aq) (aM _))))) (aw (aV bQ)) aR) (ar (bp (DW.dt (f_ (aN (bX hr) (aj 1) (DE.db bQ) (aM _)) (d_ (aN kX (aj 6) (DE.db aq) (aM _))))) (aw (aV bQ)) aR) (ar (bp (DW.dt (f_ (aN (bX hr) (aj 1) (DE.db bQ) (aM _)) (d_ (aN (bX hr) (aj 4) (DE.db (gL rfl gi_TOP_HEIGHT)) (aM _))))) (aw (aV bQ)) aR) (ar (bp (DW.dt (f_ (aN (bX hr) (aj 1) (DE.db bQ) (aM _)) (d_ (aN (bX hr) (aj 4) (DE.db aq) (aM _))))) (aw (aV bQ)) aR) (aw (aV bQ)))))))
theorem me{Z:Wq}(R:FX Z "ground_at" (top 7) dG)(M:Md Z):iC Z:=bdF R λd _ _ _ _ _ _ _ _ hr=>(ar (zI 3 (tn:=["hill_x","hill_y","top"]) (fr:=["x","y"]) (ix:=[1,2]) rfl d (cC (ak 0)) (g7 (by rfl) (by exact⟨⟨rfl,rfl⟩,⟨rfl,rfl⟩,trivial⟩) (by exact⟨rfl,rfl,trivial⟩) (by rfl) (by rfl) (by rfl) (by rfl) (by rfl)) (lu (cm (cA _) (cm (cA _) (cm (cA _) je)))) (λ_ _ _ _ _=>(fX rfl (av (au 0 (show(((["hill_x","hill_y","top"]:List Str)++(["x","y"]:List Str)):List Str).Nodup by decide +kernel)) (av (au 1 (show(((["hill_x","hill_y","top"]:List Str)++(["x","y"]:List Str)):List Str).Nodup by decide +kernel)) (av (au 2 (show(((["hill_x","hill_y","top"]:List Str)++(["x","y"]:List Str)):List Str).Nodup by decide +kernel)) bu))))) (λ_ _ _ _ _=>(qg (DW.dt (f_ (aN (bX hr) (aj 0) (aj 3) (aM _)) (d_ (aN (bX hr) (aj 1) (aj 4) (aM _))))))) (λ_ _ _ _ _=>(ak 2))) (aw (aV (uO (ak 3) aq rfl M.b_max))))
theorem sk{Z:Wq}(R:FX Z "inside" (top 5) gT)(M:Md Z):mz Z:=bdF R λd _ _ _ _ _ _ _ _ hr=>(ar (eA (ak 0) (d9 rfl (av (au 4 d) (av (au 5 d) (av (au 6 d) (av (au 7 d) (av (au 8 d) (av (au 9 d) bu)))))))) (aw (aV (lA (uV fU fU (aj 4) (aj 1) (aj 6)) (lA (uV fU fU (aj 5) (aj 2) (aj 7)) (oA (uV fU fU (aj 8) (aj 3) (aj 9))))))))
theorem rp{Z:Wq}(R:FX Z "shut_at" (top 9) fO)(M:Md Z)(h_inside:mz Z):kQ Z:=bdF R λd _ _ _ _ _ _ _ _ hr=>(ar (b8 QY rfl (cC (ak 0)) (au 5 d) (aw (bp (DW.dt (f_ (AV fU fU (DE.db (bF (aj 5) (DE.db aq))) (aj 1) (DE.db (bF (aj 5) (DE.db aq)))) (d_ (cW (DE.db (cF h_inside hr (ae (nW (aj 5) gP (fJ (DE.db aq))) (ae (ak 2) (ae (ak 3) (ae (ak 4) aA)))))))))) (aw (aV mr)) aR))) (aw (aV mr)))
theorem iO{Z:Wq}(R:FX Z "why_not_stand" (top 10) bS)(M:Md Z)(h_ground_at:iC Z)(h_shut_at:kQ Z):eM Z:=bdF R λd _ _ _ _ _ _ _ _ hr=>(ar (eA (ak 0) (d9 rfl (av (au 3 d) (av (au 4 d) (av (au 5 d) (av (au 6 d) bu)))))) (ar (eA (ak 2) (d9 rfl (av (au 7 d) (av (au 8 d) (av (au 9 d) (av (au 10 d) (av (au 11 d) bu))))))) (ar (bp (aN kX (aj 9) (DE.db (cF h_ground_at hr (ae (ak 3) (ae (ak 7) (ae (ak 8) aA))))) (aM _)) (aw (aV bQ)) aR) (ar (bp (cW (DE.db (cF h_shut_at hr (ae (ak 6) (ae (ak 1) (ae (ak 7) (ae (ak 8) (ae (ak 9) aA)))))))) (aw (aV bQ)) aR) (aw (aV bQ))))))
theorem vh{Z:Wq}(R:FX Z "tried" (top 17) i7)(M:Md Z)(h_led_to:nh Z)(h_why_not_ordered:dF Z)(h_why_not_stand:eM Z):ql Z:=bdF R λd _ _ _ _ _ _ _ _ hr=>(ar (bo 4 d (cF h_led_to hr (ae (ak 0) (ae (ak 1) (ae (ak 2) (ae (ak 3) aA)))))) (ar (bo 5 d (cF h_why_not_ordered hr (ae (ak 2) (ae (ak 3) aA)))) (ar (bp (aN (bX hr) (aj 5) (DE.db bQ) (aM _)) (aw (bo 5 d (cF h_why_not_stand hr (ae (ak 0) (ae (aG cg (aj 1) (DE.db aq)) (ae (ak 4) aA)))))) aR) (aw (aV (aZ (ae (ak 5) (ae (ak 4) aA))))))))
theorem wH{Z:Wq}(R:FX Z "moves" (top 18) iZ)(M:Md Z)(h_tried:ql Z):qp Z:=let⟨ga_ORDERS,GM_ORDERS,GT_ORDERS⟩:=M.u_ORDERS;bdF R λd _ _ _ _ _ _ _ _ hr=>(ar (hE 3 d (bZ aA)) (ar (b8 QY rfl (uD (xE ["up","level","down"] rfl GM_ORDERS GT_ORDERS)) (au 4 d) (ar (eA (cF h_tried hr (ae (ak 0) (ae (ak 1) (ae (ak 2) (ae (ak 4) aA))))) (d9 rfl (av (au 5 d) (av (au 6 d) bu)))) (aw (bp (aN (bX hr) (aj 5) (DE.db bQ) (aM _)) (aw (eY 3 (aZ (ae (ak 4) (ae (ak 6) aA))))) aR)))) (aw (mK 3 (aV (ak 3))))))
theorem nJ{Z:Wq}(R:FX Z "flown_on" (top 22) ee)(M:Md Z)(h_moves:qp Z):jJ Z:=bdF R λd _ _ _ _ _ _ _ _ hr=>(ar (yY 3 d AB) (ar (b8 QY rfl (jU (ak 2)) (fX rfl (av (au 4 d) (av (au 5 d) bu))) (aw (b8 QY rfl (cC (cF h_moves hr (ae (ak 0) (ae (ak 1) (ae (ak 4) aA))))) (fX rfl (av (au 6 d) (av (au 7 d) bu))) (aw (bp (qT 3 hr (ak 7)) (aw (wt 3 hr (aG xa (aj 5) (DE.db (aZ (ae (ak 6) aA)))) (ak 7))) aR))))) (aw (mK 3 (aV (ak 3))))))
theorem iS{Z:Wq}(R:FX Z "loads_by_spot" (top 20) bV)(M:Md Z):eP Z:=bdF R λd _ _ _ _ _ _ _ _ hr=>(wg 1 d hr QY rfl (cC (ak 0)) (xw rfl (dW (eZ 2 d) (dW (eZ 3 d) (dW (eZ 4 d) (dW (eZ 5 d) (dW (eZ 6 d) tF)))))) (aZ (ae (ak 2) (ae (ak 3) (ae (ak 4) aA)))) (aZ (ae (ak 5) (ae (ak 6) aA))) (aw (mK 1 (aV (ak 1)))))
theorem vg{Z:Wq}(R:FX Z "front" (top 1) gu)(M:Md Z):qF Z:=bdB R λd _ _ _ _ _ _ _ _ hr=>(ar (hE 1 d (bZ aA)) (ar (b8 QY rfl (vM (DF.de (qE hr rfl (aj 0) M.b_sorted)) M.b_reversed) (au 2 d) (aw (bp (DW.dt (iA (nR (cW (aj 1))) (fq (aN u6 (DE.db (bF (aj 2) (DE.db aq))) (DE.db (bF (DE.db (bF (aj 1) (DE.db (d6 (DE.db aq))))) (DE.db aq))) (aM _))))) (aw (eY 1 (ak 2))) aR))) (aw (oK (vi (aj 1) (fJ (DE.db (d6 (DE.db aq)))))))))
theorem nO{Z:Wq}(R:FX Z "unbeaten" (top 21) eo)(M:Md Z)(h_loads_by_spot:eP Z)(h_front:qF Z):jV Z:=bdF R λd _ _ _ _ _ _ _ _ hr=>(ar (bo 1 d (DFD.de (uS (tn:=["spot","pairs"]) (fr:=[]) (ix:=[]) hr rfl (jU (cF h_loads_by_spot hr (ae (DF.de (tS rfl (ak 0) M.b_list)) aA))) (g7 (by rfl) (by exact trivial) (by exact trivial) (by rfl) (by rfl) (by rfl) (by rfl) (by rfl)) (lu (cm (cA _) (cm (cA _) je))) (oQ (fP (gR _) (fP (gR _) mN))) (λ_ _ _ _ _=>(fX rfl (av (au 0 (show(((["spot","pairs"]:List Str)++([]:List Str)):List Str).Nodup by decide +kernel)) (av (au 1 (show(((["spot","pairs"]:List Str)++([]:List Str)):List Str).Nodup by decide +kernel)) bu)))) (λ_ _ _ _ _=>lr) (λ_ _ _ _ _=>(ak 0)) (λ_ _ _ _ _=>(cF h_front.d hr (ae (ak 1) aA)))))) (aw (aV (DFD.de (uS (tn:=["state","row"]) (fr:=["fronts"]) (ix:=[1]) hr rfl (jU (ak 0)) (g7 (by rfl) (by exact⟨⟨rfl,rfl⟩,trivial⟩) (by exact⟨rfl,trivial⟩) (by rfl) (by rfl) (by rfl) (by rfl) (by rfl)) (lu (cm (cA _) (cm (cA _) je))) (oQ (fP (gR _) (fP (gR _) mN))) (λ_ _ _ _ _=>(fX rfl (av (au 0 (show(((["state","row"]:List Str)++(["fronts"]:List Str)):List Str).Nodup by decide +kernel)) (av (au 1 (show(((["state","row"]:List Str)++(["fronts"]:List Str)):List Str).Nodup by decide +kernel)) bu)))) (λ_ _ _ _ _=>(qg (aN (yQ hr) (DE.db (nW (aj 0) (fJ (DE.db aq)) gP)) (DE.db (yu hr (aj 2) (DE.db (nW (aj 0) gP (fJ (DE.db aq)))))) (by with_unfolding_all rfl)))) (λ_ _ _ _ _=>(ak 0)) (λ_ _ _ _ _=>(ak 1)))))))
theorem iN{Z:Wq}(R:FX Z "first_flights" (top 23) bU)(M:Md Z)(h_flown_on:jJ Z)(h_unbeaten:jV Z):eK Z:=bdF R λd _ _ _ _ _ _ _ _ hr=>(ar (hE 4 d (bZ (ae (DFD.de (Bh hr (ak 2) (aZ aA))) aA))) (ar (b8 QY rfl (jj (ak 3) M.b_range) (au 5 d) (aw (eY 4 (cF h_unbeaten hr (ae (cF h_flown_on hr (ae (ak 0) (ae (aG cg (aj 1) (aj 5)) (ae (bF (aj 4) (DE.db (d6 (DE.db aq)))) aA)))) aA))))) (aw (mK 4 (aV (ak 4))))))
theorem vo{Z:Wq}(R:FX Z "table" (top 24) i8)(M:Md Z)(h_first_flights:eK Z):qd Z:=bdF R λd _ _ _ _ _ _ _ _ hr=>(aw (aV (DF.de (x_ (tn:=["flights"]) (fr:=[]) (ix:=[]) rfl (cC (cF h_first_flights hr (ae (ak 0) (ae (ak 1) (ae (ak 2) (ae (ak 3) aA)))))) (g7 (by rfl) (by exact trivial) (by exact trivial) (by rfl) (by rfl) (by rfl) (by rfl) (by rfl)) (cA _) (λ_ _ _ _ _=>(au 0 (show(((["flights"]:List Str)++([]:List Str)):List Str).Nodup by decide +kernel))) (λ_ _ _ _ _=>lr) (λ_ _ _ _ _=>(DF.de (xG hr rfl (ak 0) M.b_sorted)))))))
theorem vX{Z:Wq}(R:FX Z "least" (top 2) gK)(M:Md Z):pV Z:=bdB R λd _ _ _ _ _ _ _ _ hr=>(ar (hE 1 d (bZ aA)) (ar (b8 QY rfl (cC (DF.de (qE hr rfl (aj 0) M.b_sorted))) (au 2 d) (aw (bp (DW.dt (iA (nR (cW (aj 1))) (fq (aN kX (DE.db (bF (aj 2) (DE.db aq))) (DE.db (bF (DE.db (bF (aj 1) (DE.db (d6 (DE.db aq))))) (DE.db aq))) (aM _))))) (aw (eY 1 (ak 2))) aR))) (aw (wO 1))))
theorem sy{Z:Wq}(R:FX Z "needed" (top 27) fD)(M:Md Z)(h_table:qd Z)(h_least:pV Z):mE Z:=let⟨_,gi_MOST⟩:=M.g_MOST;bdB R λd _ _ _ _ _ _ _ _ hr=>(ar (hE 8 d (bZ aA)) (ar (b8 QY rfl (cC (cF h_table hr (ae (ak 0) (ae (ak 1) (ae (aZ (ae (ak 3) (ae (ak 4) (ae (ak 5) (ae (gL rfl gi_MOST) (ae (gL rfl gi_MOST) aA)))))) (ae (ak 2) aA)))))) (au 9 d) (aw (b8 QY rfl (cC (ak 9)) (fX rfl (av (au 10 d) (av (au 11 d) (av (au 12 d) (av (au 13 d) (av (au 14 d) bu)))))) (aw (bp (aN (bX hr) (DE.db (aZ (ae (ak 10) (ae (ak 11) aA)))) (DE.db (aZ (ae (ak 6) (ae (ak 7) aA)))) (aM _)) (aw (eY 8 (aZ (ae (aG cw (DE.db (gL rfl gi_MOST)) (aj 13)) (ae (aG cw (DE.db (gL rfl gi_MOST)) (aj 14)) aA))))) aR))))) (aw (mK 8 (oK (cO h_least hr (ae (ak 8) aA)))))))
theorem iu{Z:Wq}{f:Addr}{fd:Q5}(R:FA Z.K Z.mg "_law_same" (top 30) bM f fd)(M:Md Z):∀(n:Nat) (base:Heap),FnOk Z.P Z.w Z.K Z.mg base CX0 (0+n) f fd bM (spF Z.K (cb n))
 |0,_=>xJ
 |n+1,base=>by
  have GR:=iu R M n base;have sc:FnScope iB bM (aI (top 30)):=⟨rfl,rfl,rfl,by decide +kernel,rfl,by decide +kernel,by decide +kernel⟩;have d:=sc.nd;exact lJ R.fu sc λcdv A outer s H E hr=>(ar (bp (DW.dt (iA (cW (DE.db (dO (T:="list") (by simp) (aj 1) M.b_isinstance M.b_list (by rfl)))) (fq (cW (DE.db (dO (T:="tuple") (by simp) (aj 1) M.b_isinstance M.b_tuple (by rfl))))))) (ar (bp (DW.dt (iA (aN (ji hr) (DE.db (dO (T:="list") (by simp) (aj 0) M.b_isinstance M.b_list (by rfl))) (DE.db (dO (T:="list") (by simp) (aj 1) M.b_isinstance M.b_list (by rfl))) (aM _)) (fq (aN (ji hr) (DE.db (dO (T:="tuple") (by simp) (aj 0) M.b_isinstance M.b_tuple (by rfl))) (DE.db (dO (T:="tuple") (by simp) (aj 1) M.b_isinstance M.b_tuple (by rfl))) (aM _))))) (aw (aV mr)) aR) (aw (aV (lA (lE (bX hr) (DE.db (oh (aj 0) M.b_len)) (DE.db (oh (aj 1) M.b_len)) (aM _)) (oA (jG (zG rfl) M.b_all (by rfl) (ae (DF.de (x_ (tn:=["_law_one","_law_other"]) (fr:=[]) (ix:=[]) rfl (yF (ae (ak 0) (ae (ak 1) aA)) M.b_zip) (g7 (by rfl) (by exact trivial) (by exact trivial) (by rfl) (by rfl) (by rfl) (by rfl) (by rfl)) (lu (cm (cA _) (cm (cA _) je))) (λ_ _ _ _ _=>(fX rfl (av (au 0 (show(((["_law_one","_law_other"]:List Str)++([]:List Str)):List Str).Nodup by decide +kernel)) (av (au 1 (show(((["_law_one","_law_other"]:List Str)++([]:List Str)):List Str).Nodup by decide +kernel)) bu)))) (λ_ _ _ _ _=>lr) (λ_ _ _ _ _=>(mD R GR hr (wp _) (ae (ak 0) (ae (ak 1) aA)))))) aA))))))) aR) (ar (bp (DW.dt (iA (aN kU (aj 0) (DE.db fZ) (aM _)) (fq (aN kU (aj 1) (DE.db fZ) (aM _))))) (aw (aV (lA (lE kU (aj 0) (DE.db fZ) (aM _)) (oA (lE kU (aj 1) (DE.db fZ) (aM _)))))) aR) (ar (bp (DW.dt (iA (aN (ji hr) (DE.db (dO (T:="bool") (by simp) (aj 0) M.b_isinstance M.b_bool (by rfl))) (DE.db (dO (T:="bool") (by simp) (aj 1) M.b_isinstance M.b_bool (by rfl))) (aM _)) (fq (aN (ji hr) (DE.db (dO (T:="int") (by simp) (aj 0) M.b_isinstance M.b_int (by rfl))) (DE.db (dO (T:="int") (by simp) (aj 1) M.b_isinstance M.b_int (by rfl))) (aM _))))) (aw (aV mr)) aR) (aw (aV (lE (bX hr) (aj 0) (aj 1) (aM _)))))))
theorem mI{Z:Wq}(R:FX Z "_law_same" (top 30) bM)(M:Md Z):iE Z:=let⟨f,fd,A⟩:=R;⟨f,fd,A,λbase=>(iu A.1 M 4 base).mono (by decide)⟩
theorem AI{Z:Wq}(R:FX Z "law" (top 31) oS)(M:Md Z)(h__law_numbers:fg Z)(h_needed:mE Z)(h__law_same:iE Z):sF Z:=bdF R λd _ _ _ _ _ _ _ _ hr=>(ar (bo 1 d (cF h__law_numbers hr (ae (ak 0) (ae aq aA)))) (ar (bo 2 d (aG cg (DE.db aq) (DE.db (aG cJ (DE.db (bF (aj 1) (DE.db aq))) (DE.db aq))))) (ar (eA (bF (DE.db (DF.de (bZ (ae (aZ (ae aq (ae aq aA))) (ae (aZ (ae (d6 (DE.db aq)) (ae aq aA))) (ae (aZ (ae aq (ae aq aA))) (ae (aZ (ae aq (ae (d6 (DE.db aq)) aA))) (ae (aZ (ae aq (ae aq aA))) (ae (aZ (ae (d6 (DE.db aq)) (ae aq aA))) (ae (aZ (ae aq (ae aq aA))) (ae (aZ (ae (d6 (DE.db aq)) (ae (d6 (DE.db aq)) aA))) aA))))))))))) (DE.db (aG cJ (DE.db (bF (aj 1) (DE.db aq))) (DE.db aq)))) (d9 rfl (av (au 3 d) (av (au 4 d) bu)))) (ar (bo 5 d (aG cw (DE.db aq) (DE.db (aG cJ (DE.db (bF (aj 1) (DE.db aq))) (DE.db aq))))) (ar (bo 6 d (aG cJ (DE.db (bF (aj 1) (DE.db aq))) (DE.db (aG cw (DE.db aq) (aj 5))))) (ar (bo 7 d (aG cw (DE.db (bF (aj 1) (DE.db aq))) (DE.db aq))) (ar (bo 8 d (aG cw (DE.db (bF (aj 1) (DE.db aq))) (DE.db aq))) (ar (bo 9 d (aZ (ae (DF.de (bZ aA)) (ae (DF.de (wB rfl aq M.b_list M.b_range)) (ae (DF.de (bZ (ae (aZ (ae aq (ae (ak 2) (ae (ak 3) (ae (ak 4) aA))))) aA))) (ae (DF.de (bZ aA)) aA)))))) (ar (b8 QY rfl (uD (aZ (ae aq (ae (jG (wM rfl) M.b_min (by rfl) (ae aq (ae (ak 5) aA))) (ae (bF (DE.db (DF.de (bZ (ae aq (ae aq (ae aq (ae (aG cg (DE.db aq) (DE.db (aG cJ (DE.db (bF (aj 1) (DE.db aq))) (DE.db aq)))) aA))))))) (DE.db (aG cJ (DE.db (bF (aj 1) (DE.db aq))) (DE.db aq)))) aA))))) (au 10 d) (ar (bo 11 d (DF.de (bZ aA))) (ar (bp (DW.dt (f_ (aN fU (aj 10) (aj 5) (aM _)) (d_ (aN fU (aj 10) (DE.db aq) (aM _))))) (aw (bo 11 d (DF.de (bZ (ae (aZ (ae (ak 10) (ae aq aA))) aA))))) aR) (aw (bp (nR (cW (DE.db (cF h__law_same hr (ae (cF h_needed.d hr (ae (ak 9) (ae (ak 6) (ae (ak 5) (ae (ak 7) (ae (ak 8) (ae (ak 2) (ae (aG cg (aj 7) (DE.db (aG jM (aj 10) (aj 3)))) (ae (aG cg (aj 8) (DE.db (aG jM (aj 10) (aj 4)))) aA))))))))) (ae (ak 11) aA)))))) (aw (aV mr)) aR))))) (aw (aV (cF h__law_same hr (ae (cF h_needed.d hr (ae (ak 9) (ae (ak 6) (ae (ak 5) (ae (ak 7) (ae (ak 8) (ae (ak 2) (ae (aG cw (aj 7) (aj 3)) (ae (aG cw (aj 8) (aj 4)) aA))))))))) (ae (DF.de (bZ aA)) aA))))))))))))))
theorem yt{Z:Wq}(M:Md Z)(A0:FX Z "_law_numbers" (top 29) ck)(A1:FX Z "wind_at" (top 12) fK)(A2:FX Z "led_to" (top 16) gG)(A3:FX Z "why_not_ordered" (top 15) bK)(A4:FX Z "ground_at" (top 7) dG)(A5:FX Z "inside" (top 5) gT)(A6:FX Z "shut_at" (top 9) fO)(A7:FX Z "why_not_stand" (top 10) bS)(A8:FX Z "tried" (top 17) i7)(A9:FX Z "moves" (top 18) iZ)(A10:FX Z "flown_on" (top 22) ee)(A11:FX Z "loads_by_spot" (top 20) bV)(A12:FX Z "front" (top 1) gu)(A13:FX Z "unbeaten" (top 21) eo)(A14:FX Z "first_flights" (top 23) bU)(A15:FX Z "table" (top 24) i8)(A16:FX Z "least" (top 2) gK)(A17:FX Z "needed" (top 27) fD)(A18:FX Z "_law_same" (top 30) bM)(A19:FX Z "law" (top 31) oS):sF Z:=
 have H0:=jA A0 M;have H1:=rk A1 M;have H2:=uz A2 M H1;have H3:=gM A3 M;have H4:=me A4 M;have H5:=sk A5 M;have H6:=rp A6 M H5;have H7:=iO A7 M H4 H6;have H8:=vh A8 M H2 H3 H7;have H9:=wH A9 M H8;have H10:=nJ A10 M H9;have H11:=iS A11 M;have H12:=vg A12 M;have H13:=nO A13 M H11 H12;have H14:=iN A14 M H10 H13;have H15:=vo A15 M H14;have H16:=vX A16 M;have H17:=sy A17 M H15 H16;have H18:=mI A18 M;have H19:=AI A19 M H0 H17 H18
 H19
theorem AL{P:Qs}{w:QC}{K:v0}{h:Heap}{mg:Str->Option vv}{t_MOST:Tok}{t_TOP_HEIGHT:Tok}{ga_ORDERS:Addr}{go_ORDERS:Option Addr}{gn_ORDERS:Nat}{gs_ORDERS:Array (Option vv)}{gu_ORDERS gv_ORDERS gw_ORDERS:Tok}(X:K.In h)(G:h.Ns Qz mg)
  (z_all:Q1 K Qz "all" = some none)
  (z_bool:Q1 K Qz "bool" = some none)
  (z_int:Q1 K Qz "int" = some none)
  (z_isinstance:Q1 K Qz "isinstance" = some none)
  (z_len:Q1 K Qz "len" = some none)
  (z_list:Q1 K Qz "list" = some none)
  (z_max:Q1 K Qz "max" = some none)
  (z_min:Q1 K Qz "min" = some none)
  (z_range:Q1 K Qz "range" = some none)
  (z_reversed:Q1 K Qz "reversed" = some none)
  (z_sorted:Q1 K Qz "sorted" = some none)
  (z_tuple:Q1 K Qz "tuple" = some none)
  (z_zip:Q1 K Qz "zip" = some none)
  (y_MOST:Q1 K Qz "MOST" = some (some (.int 6 t_MOST)))
  (y_TOP_HEIGHT:Q1 K Qz "TOP_HEIGHT" = some (some (.int 5 t_TOP_HEIGHT)))
  (y_ORDERS:Q1 K Qz "ORDERS" = some (some (.ref ga_ORDERS))) (x_ORDERS:K.lookup ga_ORDERS=some ⟨.type "tuple",go_ORDERS,.seq #[.str "up" gu_ORDERS,.str "level" gv_ORDERS,.str "down" gw_ORDERS] gn_ORDERS,gs_ORDERS⟩):Md ⟨P,w,K,mg⟩:=⟨⟨_,PySem.W.mg_of X G y_ORDERS,Bj x_ORDERS⟩,QT X G z_all,QT X G z_bool,QT X G z_int,QT X G z_isinstance,QT X G z_len,QT X G z_list,QT X G z_max,QT X G z_min,QT X G z_range,QT X G z_reversed,QT X G z_sorted,QT X G z_tuple,QT X G z_zip,⟨_,PySem.W.mg_of X G y_MOST⟩,⟨_,PySem.W.mg_of X G y_TOP_HEIGHT⟩⟩
theorem walk{l:PySem.W.OpenLaw}{q:Qs}{loose:List Str}{XP:(Str->Option vv)->Heap->Prop}{YP:QC->Heap->Prop}{d:DefRec}{K:Params->v0}(hn:l.most=some 63)(hdf:d.params.defaults=[])(hnm:d.name = "law")
  (hY:∀(w:QC) (h:Heap),YP w h->(K w.params).In h) (worth:∀ns:List Int,ns.length<=63->p8 [.lst (ns.map D.int)]=some (.bl true))
  (F:∀(w:QC) (mg:Str->Option vv) (h:Heap),(K w.params).In h->h.Ns Qz mg->sF ⟨l.prog,w,K w.params,mg⟩) :
  PySem.W.WalkO q loose XP YP l.row.toRowW d [] (λf vs=>PySem.call f vs):=
 L2.vp (n:=63) (k:=10) (x:="_law_script") (CX:=λ_=>CX0) (sp:=λw=>spF (K w.params) p8) hn (by decide) hdf ⟨rfl,by decide,by decide⟩ hY (λw mg fa h a b c=>zh (F w mg h a b) (by rw[<-hnm];exact c))
  (λw H a ns hl _ hS=>⟨H,[.lst (ns.map D.int)],.bl true,aF.refl _,.one (.lst hS (lq _ _ ns)),worth ns hl,λv G' H' g hd=>hd.blV⟩) λ_ _ _ _ _ z=>z
theorem zA:Lw.eX=yK:=rfl
theorem yx(ns:List Int)(hn:ns.length<=63)(m:Nat)(hm:m<=5000):∃f:Nat->Int,Lw.c6 [.lst (iL ns),.int (m:Int)]=some (.lst (iL (nG f m)))/\∀j,0<=f j/\f j<1000:=by
 obtain⟨row,e,h1,h2⟩:=w9 ns hn m hm;obtain⟨f,rfl,hf⟩:=zR h1 h2;exact⟨f,bH rfl (by rw[zA];exact e),hf⟩
theorem pU:∀n,cb n=FrS n
 |0=>rfl
 |n+1=>by
  show fnD _ _ (iw (cb n))=fnD _ _ (iH (FrS n));rw[pU n];rfl
theorem uC(d:D)(h:OkS 4 d):bB [d,d]=some (.bl true):=by
 unfold bB;rw[pU];exact lF 4 d h
def c24:List Int:=(QF 24).map λi=>((i:Nat):Int)
theorem tR(h:Int)(h0:0<=h)(h1:h<=23):inC c24 h=true:=by
 unfold inC;have:∀n:Nat,n<24->inV (.int (n:Int)) (c24.map V.int)=true:=by decide
 have:=this h.toNat (by lia);rwa [show((h.toNat:Nat):Int)=h by lia] at this
section
variable(z0 dx dy:Int)
def k0:Sk:=⟨[],c24,[⟨0,z0,dx,dy⟩],[]⟩
theorem BF:SkW (k0 z0 dx dy):=⟨QA _,(λ_ h=>nomatch h),by show c24.length<=900;decide,by show 1<=99;decide,QA _⟩
theorem wv0(h:Int)(h0:0<=h)(z:Int):wv h z (k0 z0 dx dy).ws=if z=z0 then(dx,dy) else(0,0):=by
 show(match gm h z [⟨0,z0,dx,dy⟩] none with | none=>(0,0) | some b=>(b.dx,b.dy))=_;unfold gm nH uI gm
 by_cases c:z=z0
 ·rw[if_pos c];simp[c,h0]
 ·rw[if_neg c];simp[c,h0,Ne.symm c]
theorem B4(h:Int)(s:Stt)(hz:0<=s.z):why (k0 z0 dx dy).hs (k0 z0 dx dy).ss h s = "":=by
 have g:gr [] s.x s.y=0:=rfl;unfold why;rw[show(k0 z0 dx dy).hs=[] from rfl,g,if_neg (by lia)];rfl
end
section
variable(z0 dx dy:Int)(hz:1<=z0/\z0<=4)(hd:¬ (dx=0/\dy=0))(h x y:Int)(h0:0<=h)
abbrev q0(z0 x y:Int):Stt:=⟨x,y,z0,6,6⟩
structure I24(i:Nat)(s:Stt):Prop where
 iz:0<=s.z/\s.z<=z0
 is_:0<=s.s
 ip:s.p<=6
 ij:∃j:Nat,j<=i/\s.x=x+j*dx/\s.y=y+j*dy/\s.s<=6-j/\(s.z=z0->j=i)
include hz in
theorem vb(i:Nat)(s:Stt)(hi:h+(i:Int)<=23)(h0:0<=h)(I:I24 z0 dx dy x y i s)(o:Str)(ho:o∈can (k0 z0 dx dy) (h+(i:Int)) s):I24 z0 dx dy x y (i+1) (bN (k0 z0 dx dy) (h+(i:Int)) s o):=by
 obtain⟨⟨iz0,iz1⟩,is_,ip,j,j1,jx,jy,js,jz⟩:=I;obtain⟨ho1,ho2⟩:=QM.mp ho
 have hw:wo o s = "":=by
  have:=of_decide_eq_true ho2;unfold wh at this
  by_cases c:wo o s = ""
  ·exact c
  ·rw[if_neg c] at this;exact this
 have hc:inC (k0 z0 dx dy).cs (h+(i:Int))=true:=tR _ (by lia) hi;unfold bN;rw[hc,wv0 z0 dx dy _ (by lia)];simp only[Ods,ut,List.mem_nil_iff,or_false] at ho1;rcases ho1 with rfl | rfl | rfl
 ·rw[show z1 "up" s=s.z+1 from rfl,show s1 "up" s=s.s-1 from rfl,show p1 "up" s=s.p from rfl,show czP true (s.z+1)=s.z by unfold czP;rw[if_pos rfl,if_neg (by lia)];lia]
  rw[sZ] at hw
  have s1:1<=s.s:=by
   by_cases c:s.s<1
   ·rw[if_pos c] at hw;exact absurd hw (by decide)
   ·lia
  by_cases c:s.z=z0
  ·rw[if_pos c]
   have:=jz c;subst this;exact⟨⟨iz0,iz1⟩,by show 0<=s.s-1;lia,ip,j+1,wp _,by show s.x+dx=_;rw[jx];push_cast;rw[Int.add_mul];lia,by show s.y+dy=_;rw[jy];push_cast;rw[Int.add_mul];lia,by show s.s-1<=_;push_cast;lia,λ_=>rfl⟩
  ·rw[if_neg c]
   exact⟨⟨iz0,iz1⟩,by show 0<=s.s-1;lia,ip,j,by lia,by show s.x+0=_;lia,by show s.y+0=_;lia,by show s.s-1<=_;lia,λe=>absurd e c⟩
 ·rw[show z1 "level" s=s.z from rfl,show s1 "level" s=s.s from rfl,show p1 "level" s=s.p from rfl]
  have cz:0<=czP true s.z/\czP true s.z<z0:=by
   unfold czP;rw[if_pos rfl]
   by_cases c:(0:Int)>s.z-1
   ·rw[if_pos c];lia
   ·rw[if_neg c];lia
  rw[if_neg (by lia)];exact⟨⟨cz.1,by show czP true s.z<=z0;lia⟩,is_,ip,j,by lia,by show s.x+0=_;lia,by show s.y+0=_;lia,js,λe=>by have:czP true s.z=z0:=e;lia⟩
 ·rw[show z1 "down" s=s.z-1 from rfl,show s1 "down" s=s.s from rfl,show p1 "down" s=s.p-1 from rfl]
  have cz:0<=czP true (s.z-1)/\czP true (s.z-1)<z0:=by
   unfold czP;rw[if_pos rfl]
   by_cases c:(0:Int)>s.z-1-1
   ·rw[if_pos c];lia
   ·rw[if_neg c];lia
  rw[if_neg (by lia)];exact⟨⟨cz.1,by show czP true (s.z-1)<=z0;lia⟩,is_,by show s.p-1<=6;lia,j,by lia,by show s.x+0=_;lia,by show s.y+0=_;lia,js,λe=>by have:czP true (s.z-1)=z0:=e;lia⟩
include hz in
theorem pq(h0:0<=h):∀i:Nat,h+(i:Int)<=24->∀r∈eN (k0 z0 dx dy) h (q0 z0 x y) i,I24 z0 dx dy x y i r.2
 |0,_,r,hr=>by
  rw[show r=([],q0 z0 x y) by simpa[eN] using hr];exact⟨⟨by show 0<=z0;lia,ZY _⟩,by show(0:Int)<=6;decide,ZY _,0,wp _,by show x=_;simp,by show y=_;simp,by show(6:Int)<=_;simp,λ_=>rfl⟩
 |i+1,hi,r,hr=>by
  obtain⟨r0,h1,h2⟩:=J7.mp (show r∈flR _ _ _ from hr);obtain⟨o,ho,rfl⟩:=Qo.mp (show r∈Aa _ _ _ from h2);exact vb z0 dx dy hz h x y i r0.2 (by push_cast at hi;lia) h0 (pq h0 i (by push_cast at hi;lia) r0 h1) o ho
include hz in
theorem ups(h0:0<=h):∀j:Nat,j<=6->h+(j:Int)<=24->∃r∈eN (k0 z0 dx dy) h (q0 z0 x y) j,r.2=⟨x+j*dx,y+j*dy,z0,6-j,6⟩
 |0,_,_=>⟨([],q0 z0 x y),by simp[eN],by simp[q0]⟩
 |j+1,hj,hh=>by
  obtain⟨r,hr,e⟩:=ups h0 j (by lia) (by push_cast at hh;lia);have wu:wo "up" r.2 = "":=by rw[sZ,e,if_neg (by show ¬ (6-(j:Int)<1);lia),if_neg (by show ¬ z0=5;lia)]
  have hc:inC (k0 z0 dx dy).cs (h+(j:Int))=true:=tR _ (by lia) (by push_cast at hh;lia)
  have el:bN (k0 z0 dx dy) (h+(j:Int)) r.2 "up" = ⟨x+(j+1:Nat)*dx,y+(j+1:Nat)*dy,z0,6-(j+1:Nat),6⟩:=by
   unfold bN;rw[hc,wv0 z0 dx dy _ (by lia),show z1 "up" r.2=r.2.z+1 from rfl,show s1 "up" r.2=r.2.s-1 from rfl,show p1 "up" r.2=r.2.p from rfl,e];have cz:czP true (z0+1)=z0:=by unfold czP;rw[if_pos rfl,if_neg (by lia)];lia
   show Stt.mk (x+(j:Int)*dx+(if czP true (z0+1)=z0 then(dx,dy) else(0,0)).1) (y+(j:Int)*dy+(if czP true (z0+1)=z0 then(dx,dy) else(0,0)).2) (czP true (z0+1)) (6-(j:Int)-1) 6=_;rw[cz,if_pos rfl]
   push_cast
   rw[Int.add_mul,Int.add_mul];congr 1<;>lia
  refine⟨zy (k0 z0 dx dy) (h+(j:Int)) r "up",J7.mpr ⟨r,hr,Qo.mpr ⟨"up",QM.mpr ⟨by simp[Ods],decide_eq_true ?_⟩,rfl⟩⟩,el⟩;unfold wh;rw[if_pos wu,el];exact B4 z0 dx dy _ _ (by show 0<=z0;lia)
def due(n:Nat)(m:Int):List Pr:=if 0<=m/\m<=n/\m<=6 then[(m,0)] else[]
include hz hd in
theorem tq(h0:0<=h)(n:Nat)(hn:h+(n:Int)<=24)(m:Int):lsP (CT (k0 z0 dx dy) h (q0 z0 x y) (x+m*dx) (y+m*dy) (n+1))=due n m:=by
 rw[nS]
 have one:∀(s:Stt) (i:Nat),I24 z0 dx dy x y i s->pl (x+m*dx) (y+m*dy) s=true->0<=m/\m<=i/\m<=6-s.s:=by
  intro s i I e;unfold pl at e;simp only[ZR,decide_eq_true_eq] at e;obtain⟨j,j1,jx,jy,js,_⟩:=I.ij;have ex:((j:Int)-m)*dx=0:=by rw[Int.sub_mul];lia
  have ey:((j:Int)-m)*dy=0:=by rw[Int.sub_mul];lia
  have:(j:Int)=m:=by
   rcases Int.mul_eq_zero.mp ex with c | c
   ·lia
   ·rcases Int.mul_eq_zero.mp ey with c2 | c2
    ·lia
    ·exact absurd ⟨c,c2⟩ hd
  lia
 have inv:∀s∈RS (k0 z0 dx dy) h (q0 z0 x y) (n+1),∃i,i<=n/\I24 z0 dx dy x y i s:=by
  intro s hs;obtain⟨i,hi,r,hr,e⟩:=(lP _ _ _ _ _).mp hs;exact⟨i,by lia,e▸pq z0 dx dy hz h x y h0 i (by lia) r hr⟩
 unfold due
 by_cases c:0<=m/\m<=n/\m<=6
 ·rw[if_pos c]
  have l1:lsP [(m,0)]=[(m,0)]:=rfl;rw[<-l1];refine(pQ (λp hp=>?_) λr hr=>?_).symm
  ·rw[xz.mp hp]
   obtain⟨r,hr,e⟩:=ups z0 dx dy hz h x y h0 m.toNat (by lia) (by lia);have em:((m.toNat:Nat):Int)=m:=by lia
   rw[em] at e;refine Qo.mpr ⟨r.2,QM.mpr ⟨(lP _ _ _ _ _).mpr ⟨m.toNat,by lia,r,hr,rfl⟩,?_⟩,?_⟩
   ·rw[e];unfold pl;simp
   ·rw[e];unfold cst;simp;lia
  ·obtain⟨s,hs,rfl⟩:=Qo.mp hr
   obtain⟨hs,hl⟩:=QM.mp hs;obtain⟨i,hi,I⟩:=inv s hs;have:=one s i I hl;exact⟨(m,0),Qh ..,by show m<=6-s.s;lia,by show 0<=6-s.p;have:=I.ip;lia⟩
 ·rw[if_neg c]
  have:(RS (k0 z0 dx dy) h (q0 z0 x y) (n+1)).filter (pl (x+m*dx) (y+m*dy))=[]:=by
   rw[List.filter_eq_nil_iff];intro s hs e;obtain⟨i,hi,I⟩:=inv s hs;have:=one s i I e;have:=I.is_;exact c (by lia)
  rw[this];rfl
end
theorem wV(n:Nat)(m:Int):OkS 4 (.lst (pL (due n m))):=uU _ (by unfold due;split<;>simp)
section
variable(A N:Sl)(z0 dx dy:Int)(hz:1<=z0/\z0<=4)(hd:¬ (dx=0/\dy=0))(h x y:Int)(h0:0<=h)(n:Nat)(hn:n<=8)(hh:h+(n:Int)<=24)
abbrev evL(st du:Sl):Ev:=[A,N,.dat (.int z0),.dat (.int dx),.dat (.int dy),.dat (.int (n:Int)),.dat (.int h),.dat (.int x),.dat (.int y),.dat (skD (k0 z0 dx dy)),st,du]
include hz hd h0 hn hh in
theorem ya(m:Int):fG [skD (k0 z0 dx dy),.int h,.int (n:Int),.int x,.int y,.int z0,.int (x+m*dx),.int (y+m*dy)]=some (.lst (pL (due n m))):=by
 have:=sR (k0 z0 dx dy) (BF z0 dx dy) h (q0 z0 x y) (x+m*dx) (y+m*dy) n hn x y z0 rfl;rw[tq z0 dx dy hz hd h x y h0 n hh m] at this;exact sv rfl this
include hz hd h0 hn hh in
theorem AK(m:Int)(m0:0<=m/\m<=8)(du:Sl):gF (evL A N z0 dx dy h x y n (.dat (.int m)) du)=some (.nx (evL A N z0 dx dy h x y n (.dat (.int m)) (.dat (.lst (pL (due n m)))))):=by
 have t:b9 (az leI (ag 10) (ag 5)) (az leI (ag 10) (eC (.int 6))) (evL A N z0 dx dy h x y n (.dat (.int m)) (.dat (.lst [])))=some (decide (m<=(n:Int))&&decide (m<=6)):=fL rfl rfl
 have fin:sIf (eO (dN (aJ bB (aa (aJ fG (aa (ao 9) (aa (ao 6) (aa (ao 5) (aa (ao 7) (aa (ao 8) (aa (ao 2) (aa (e2 bP (ag 7) (e2 eQ (ag 10) (ag 3))) (aa (e2 bP (ag 8) (e2 eQ (ag 10) (ag 4))) aB))))))))) (aa (ao 11) aB))))) (a8 (eC (.bl false))) a_ (evL A N z0 dx dy h x y n (.dat (.int m)) (.dat (.lst (pL (due n m)))))=some (.nx (evL A N z0 dx dy h x y n (.dat (.int m)) (.dat (.lst (pL (due n m)))))):=by
  have e1:e2 eQ (ag 10) (ag 3) (evL A N z0 dx dy h x y n (.dat (.int m)) (.dat (.lst (pL (due n m)))))=some (.int (m*dx)):=bI rfl rfl (xW (by lia));have e2':e2 eQ (ag 10) (ag 4) (evL A N z0 dx dy h x y n (.dat (.int m)) (.dat (.lst (pL (due n m)))))=some (.int (m*dy)):=bI rfl rfl (xW (by lia));refine(eL (lL (a:=true) (v_ ((tD (F:=bB) (x:=.lst (pL (due n m))) (y:=.lst (pL (due n m))) (aX (ds:=[skD (k0 z0 dx dy),.int h,.int (n:Int),.int x,.int y,.int z0,.int (x+m*dx),.int (y+m*dy)]) ?_ (ya z0 dx dy hz hd h x y h0 n hn hh m)) rfl).trans (uC _ (wV n m)))))).trans rfl;exact aU rfl (aU rfl (aU rfl (aU rfl (aU rfl (aU rfl (aU (bI (x:=.int x) (y:=.int (m*dx)) rfl e1 rfl) (aU (bI (x:=.int y) (y:=.int (m*dy)) rfl e2' rfl) rfl)))))))
 unfold gF;refine(ay (ε':=evL A N z0 dx dy h x y n (.dat (.int m)) (.dat (.lst []))) rfl).trans ?_;refine(ay (ε':=evL A N z0 dx dy h x y n (.dat (.int m)) (.dat (.lst (pL (due n m))))) ?_).trans fin;unfold due
 by_cases c:m<=(n:Int)/\m<=6
 ·rw[if_pos ⟨m0.1,c⟩]
  exact(dE (t.trans (by simp[c]))).trans rfl
 ·rw[if_neg λz=>c z.2]
  refine(eL (t.trans ?_)).trans rfl
  by_cases a:m<=(n:Int)<;>by_cases b:m<=6<;>simp[a,b]
  exact absurd ⟨a,b⟩ c
end
theorem Ai(a:Int):∃dx dy:Int,¬ (dx=0/\dy=0)/\ixD (.lst [.tup [.int 1,.int 0],.tup [.int (-1),.int 0],.tup [.int 0,.int 1],.tup [.int 0,.int (-1)],.tup [.int 2,.int 1],.tup [.int (-1),.int 2],.tup [.int 1,.int 1],.tup [.int (-2),.int (-2)]]) (.int (a%8))=some (.tup [.int dx,.int dy]):=by
 have h4:a%8=0\/a%8=1\/a%8=2\/a%8=3\/a%8=4\/a%8=5\/a%8=6\/a%8=7:=by lia
 rcases h4 with h | h | h | h | h | h | h | h<;>rw[h]
 ·exact⟨1,0,by decide,rfl⟩
 ·exact⟨-1,0,by decide,rfl⟩
 ·exact⟨0,1,by decide,rfl⟩
 ·exact⟨0,-1,by decide,rfl⟩
 ·exact⟨2,1,by decide,rfl⟩
 ·exact⟨-1,2,by decide,rfl⟩
 ·exact⟨1,1,by decide,rfl⟩
 ·exact⟨-2,-2,by decide,rfl⟩
theorem AJ(a b:Int):∃m:Int,(0<=m/\m<=8)/\ixD (.lst [.int 5,.int 6,.int 7,.int (1+b%4)]) (.int (a%4))=some (.int m):=by
 have h4:a%4=0\/a%4=1\/a%4=2\/a%4=3:=by lia
 rcases h4 with h | h | h | h<;>rw[h]
 ·exact⟨5,by decide,rfl⟩
 ·exact⟨6,by decide,rfl⟩
 ·exact⟨7,by decide,rfl⟩
 ·exact⟨1+b%4,by lia,rfl⟩
theorem worth(ns:List Int)(hn:ns.length<=63):p8 [.lst (ns.map D.int)]=some (.bl true):=by
 obtain⟨f,e1,hf⟩:=yx ns hn 20 (by decide);refine bH rfl ?_;unfold ym;show aH _ _ [.dat (.lst (iL ns)),.un,.un,.un,.un,.un,.un,.un,.un,.un,.un,.un]=_;refine(ay (b_ (d:=.lst (iL (nG f 20))) (aX (ds:=[.lst (iL ns),.int 20]) rfl e1))).trans ?_;let A:Sl:=.dat (.lst (iL ns));let N:Sl:=.dat (.lst (iL (nG f 20)));have at_:∀(j:Nat) (rest:List Sl),j<20->e2 ixD (ag 1) (eC (.int (j:Int))) (A::N::rest)=some (.int (f j)):=λj rest hj=>bI rfl rfl (xn f 20 j (by lia));generalize hz0:1+f 0%4=z0;obtain⟨dx,dy,hd,ed⟩:=Ai (f 1);generalize hN:(8-f 2%9).toNat=n;have en:8-f 2%9=(n:Int):=by lia
 generalize hH:f 3%(25-(n:Int))=h;have hh0:0<=h:=by rw[<-hH];exact Int.emod_nonneg _ (by lia)
 have hh1:h+(n:Int)<=24:=by have:=Int.emod_lt_of_pos (f 3) (show 0<25-(n:Int) by lia);lia
 generalize hx:f 4-500=x;generalize hy:f 5-500=y;obtain⟨m,hm,em⟩:=AJ (f 6) (f 7);refine(ay (b_ (d:=.int z0) (bI (x:=.int 1) (y:=.int (f 0%4)) rfl (bI (at_ 0 _ (by decide)) rfl (rq (by decide))) (by rw[<-hz0];rfl)))).trans ?_;refine(ay (ε':=[A,N,.dat (.int z0),.dat (.int dx),.dat (.int dy),.un,.un,.un,.un,.un,.un,.un]) ?_).trans ?_
 ·have e:e2 ixD (eF (cD (aa (aY (aa (eC (.int 1)) (aa (eC (.int 0)) aB))) (aa (aY (aa (dg (eC (.int 1))) (aa (eC (.int 0)) aB))) (aa (aY (aa (eC (.int 0)) (aa (eC (.int 1)) aB))) (aa (aY (aa (eC (.int 0)) (aa (dg (eC (.int 1))) aB))) (aa (aY (aa (eC (.int 2)) (aa (eC (.int 1)) aB))) (aa (aY (aa (dg (eC (.int 1))) (aa (eC (.int 2)) aB))) (aa (aY (aa (eC (.int 1)) (aa (eC (.int 1)) aB))) (aa (aY (aa (dg (eC (.int 2))) (aa (dg (eC (.int 2))) aB))) aB)))))))))) (e2 bG (e2 ixD (ag 1) (eC (.int 1))) (eC (.int 8))) [A,N,.dat (.int z0),.un,.un,.un,.un,.un,.un,.un,.un,.un]=some (.tup [.int dx,.int dy]):=bI rfl (bI (at_ 1 _ (by decide)) rfl (rq (by decide))) ed
  show((e2 ixD _ _ [A,N,.dat (.int z0),.un,.un,.un,.un,.un,.un,.un,.un,.un]).bind λd=>_)=_;rw[e];rfl
 refine(ay (b_ (d:=.int (n:Int)) (bI (x:=.int 8) (y:=.int (f 2%9)) rfl (bI (at_ 2 _ (by decide)) rfl (rq (by decide))) (by rw[<-en];rfl)))).trans ?_;refine(ay (b_ (d:=.int h) (bI (x:=.int (f 3)) (y:=.int (25-(n:Int))) (at_ 3 _ (by decide)) rfl (by rw[rq (by lia),hH])))).trans ?_;refine(ay (b_ (d:=.int x) (bI (x:=.int (f 4)) (y:=.int 500) (at_ 4 _ (by decide)) rfl (by rw[<-hx];rfl)))).trans ?_;refine(ay (b_ (d:=.int y) (bI (x:=.int (f 5)) (y:=.int 500) (at_ 5 _ (by decide)) rfl (by rw[<-hy];rfl)))).trans ?_;refine(ay (ε':=evL A N z0 dx dy h x y n .un .un) rfl).trans ?_;have mn:∃m1:Int,(0<=m1/\m1<=8)/\ki [.int 8,.int (n:Int)]=some (.int m1):=⟨if(n:Int)<8 then(n:Int) else 8,by split<;>lia,rfl⟩;obtain⟨m1,hm1,em1⟩:=mn
 have tp:kj (aY (aa (eC (.int 0)) (aa (aJ ki (aa (eC (.int 8)) (aa (ao 5) aB))) (aa (e2 ixD (eF (cD (aa (eC (.int 5)) (aa (eC (.int 6)) (aa (eC (.int 7)) (aa (e2 bP (eC (.int 1)) (e2 bG (e2 ixD (ag 1) (eC (.int 7))) (eC (.int 4)))) aB)))))) (e2 bG (e2 ixD (ag 1) (eC (.int 6))) (eC (.int 4)))) aB)))) (evL A N z0 dx dy h x y n .un .un)=some [.int 0,.int m1,.int m]:=by
  have el:eF (cD (aa (eC (.int 5)) (aa (eC (.int 6)) (aa (eC (.int 7)) (aa (e2 bP (eC (.int 1)) (e2 bG (e2 ixD (ag 1) (eC (.int 7))) (eC (.int 4)))) aB))))) (evL A N z0 dx dy h x y n .un .un)=some (.lst [.int 5,.int 6,.int 7,.int (1+f 7%4)]):=by
   refine fT ?_;have:e2 bP (eC (.int 1)) (e2 bG (e2 ixD (ag 1) (eC (.int 7))) (eC (.int 4))) (evL A N z0 dx dy h x y n .un .un)=some (.int (1+f 7%4)):=bI (x:=.int 1) (y:=.int (f 7%4)) rfl (bI (at_ 7 _ (by decide)) rfl (rq (by decide))) rfl;unfold cD;rw[show aa (eC (.int 5)) (aa (eC (.int 6)) (aa (eC (.int 7)) (aa (e2 bP (eC (.int 1)) (e2 bG (e2 ixD (ag 1) (eC (.int 7))) (eC (.int 4)))) aB))) (evL A N z0 dx dy h x y n .un .un)=some [.int 5,.int 6,.int 7,.int (1+f 7%4)] from aU rfl (aU rfl (aU rfl (aU this rfl)))];rfl
  have e6:e2 bG (e2 ixD (ag 1) (eC (.int 6))) (eC (.int 4)) (evL A N z0 dx dy h x y n .un .un)=some (.int (f 6%4)):=bI (at_ 6 _ (by decide)) rfl (rq (by decide))
  have et:aY (aa (eC (.int 0)) (aa (aJ ki (aa (eC (.int 8)) (aa (ao 5) aB))) (aa (e2 ixD (eF (cD (aa (eC (.int 5)) (aa (eC (.int 6)) (aa (eC (.int 7)) (aa (e2 bP (eC (.int 1)) (e2 bG (e2 ixD (ag 1) (eC (.int 7))) (eC (.int 4)))) aB)))))) (e2 bG (e2 ixD (ag 1) (eC (.int 6))) (eC (.int 4)))) aB))) (evL A N z0 dx dy h x y n .un .un)=some (.tup [.int 0,.int m1,.int m]):=
   vU (ds:=[.int 0,.int m1,.int m]) (aU rfl (aU (aX (ds:=[.int 8,.int (n:Int)]) rfl em1) (aU (bI el e6 em) rfl))) (show 3<=1000 by decide)
  unfold kj;rw[et]
 have zz:1<=z0/\z0<=4:=by lia
 have hn8:n<=8:=by lia
 obtain⟨ε',ef,st,du,rfl⟩:=cX (g:=ah 10) (gb:=gF) D.int (λdone ε=>∃st du,ε=evL A N z0 dx dy h x y n st du) [0,m1,m] (λdone v rest hv ε ⟨st,du,he⟩=>by
  subst he;have mv:v∈[0,m1,m]:=by rw[<-hv];simp
  have bv:0<=v/\v<=8:=by
   simp only[ut,List.mem_nil_iff,or_false] at mv;rcases mv with rfl | rfl | rfl
   ·decide
   ·exact hm1
   ·exact hm
  exact⟨_,_,rfl,.inl (AK A N z0 dx dy zz hd h x y hh0 n hn8 hh1 v bv du),_,_,rfl⟩) (evL A N z0 dx dy h x y n .un .un) ⟨_,_,rfl⟩
 refine(ay (i0 tp ef)).trans ?_;refine eB ((tD (F:=bB) (x:=.lst []) (y:=.lst []) (aX (ds:=[skD (k0 z0 dx dy),.int h,.int (n:Int),.int x,.int y,.int z0,.int (x-dx),.int (y-dy)]) rfl ?_) rfl).trans (uC _ ?_))
 ·have:=ya z0 dx dy zz hd h x y hh0 n hn8 hh1 (-1)
  rw[show x + -1*dx=x-dx by lia,show y + -1*dy=y-dy by lia,show due n (-1)=[] from by unfold due;rw[if_neg (by lia)]] at this;exact this
 ·exact uU [] (by decide)
end Lw
open PySem PySem.W PyProof.Rows
theorem PySem.W.Fast.te8710713911519094327 : True := trivial
theorem PySem.W.Fast.te16505646498256869105 : True := trivial
theorem PySem.W.Fast.te16899659740978875299 : True := trivial
theorem PySem.W.Fast.te11170647594757549424 : True := trivial
set_option maxRecDepth 100000 in
set_option maxHeartbeats 0 in
theorem PySem.Challenge.cw_ballastbook_k24_needs_where_all_hours_ar_holds : PySem.Challenge.rw_ballastbook_k24_needs_where_all_hours_ar.Holds := by
 w_on;o_law;k_head;(case hw=>w_witness2)
 k_fill
 refine Lw.walk (l:=PySem.Challenge.rw_ballastbook_k24_needs_where_all_hours_ar) rfl rfl rfl (λw h Y=>PySem.W.kIn_of Y) Lw.worth ?F
 case F=>
  intro w mg h KX G;refine' Lw.yt ?qM ?qA0 ?qA1 ?qA2 ?qA3 ?qA4 ?qA5 ?qA6 ?qA7 ?qA8 ?qA9 ?qA10 ?qA11 ?qA12 ?qA13 ?qA14 ?qA15 ?qA16 ?qA17 ?qA18 ?qA19
  case qM=>
   refine' Lw.AL KX G ?qz_all ?qz_bool ?qz_int ?qz_isinstance ?qz_len ?qz_list ?qz_max ?qz_min ?qz_range ?qz_reversed ?qz_sorted ?qz_tuple ?qz_zip ?qy_MOST ?qy_TOP_HEIGHT ?qy_ORDERS ?qx_ORDERS
   (case qz_all=>k_is)
   (case qz_bool=>k_is)
   (case qz_int=>k_is)
   (case qz_isinstance=>k_is)
   (case qz_len=>k_is)
   (case qz_list=>k_is)
   (case qz_max=>k_is)
   (case qz_min=>k_is)
   (case qz_range=>k_is)
   (case qz_reversed=>k_is)
   (case qz_sorted=>k_is)
   (case qz_tuple=>k_is)
   (case qz_zip=>k_is)
   (case qy_MOST=>k_is)
   (case qy_TOP_HEIGHT=>k_is)
   (case qy_ORDERS=>k_is)
   (case qx_ORDERS=>k_is)
  all_goals
   apply Dn.Bw KX G
   k_is
   k_is
   k_is
   k_is
   intro _ _ _ _ _ _
   first | exact Dn.BG λ_=>rfl | exact Dn.B5 λ_ _=>rfl | exact Dn.BH λ_ _ _=>rfl | exact Dn.BX λ_ _ _ _=>rfl | exact Dn.len5 λ_ _ _ _ _=>rfl | exact Dn.BC λ_ _ _ _ _ _=>rfl | exact Dn.BI λ_ _ _ _ _ _ _=>rfl | exact Dn.BV λ_ _ _ _ _ _ _ _=>rfl
#print axioms PySem.Challenge.cw_ballastbook_k24_needs_where_all_hours_ar_holds
