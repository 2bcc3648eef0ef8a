import PyProof.Rows.All
import Wide.All
import OpenK.AllK
import Wide.FinOn
import Lean
import PyProof.EqAt
import PyProof.EqKinds
import PyProof.TupleCall
import PyProof.NeKinds
import PySem.Challenge.RW_ballastbook_k33_whole_the_true_flight_is
set_option Elab.async false
set_option linter.all false
set_option maxRecDepth 100000
set_option maxHeartbeats 4100000
open PySem renaming wpAny_bind → Qa, Value → Qb, Shared → Qc, wpAny_pure → Qd, wpAny → Qm, model → Qo, starEach → Qy, Program → QJ, World → QL, sizeLine → QO, Around → QU, wpAny_mono → QV, compareOp → QX, wpAny_holding → Q0, mainGlobals → Q5, wpAny_newObj_type → Jd, foldedSetIterable → Je, Spec → Jh, assignEach → Jm, SetTable → Jt, argBest → JD, backTo → JG, sysModules → JM, wpAny_truthy_bool → JN, codeAny → JO, cLine → JR, Paired → JU, wpAny_standAt → JX, mem_of_lookup → J3, atKey → J6, binaryOp → J7, FuncData → J8, wpAny_call_entry → J9, wpAny_setState_of → Zd, codeAny_builtin → Zf, DictEntry → Zi, wpAny_tryCatch → Zk, letOwnedTupleGo → Zp, plainId_quiet → Zz, assign → ZC, wpAny_seqItems → ZF, keywordEach → ZJ, bootBuiltins → ZL, swapsWith → ZM, Builtin → ZU, wpAny_letGo → Z3, wpAny_askSetting → Z9, wpAny_callSpecial?_slot → Ka, wpAny_loadPart' → Kd, wpAny_specialOf → Kg, wpAny_updateSeq → Kh, sizeLine_eq → Kj, wpAny_pyIter_list → Km, behindInMarks → KD, sliceBounds → KJ, wpAny_passesOwn → KR, wpAny_Call_Name_kw → KU
open PySem.W renaming Frag → Qe, mg_none_of → JL, nsIn → JQ, fnOf → Zh, kia_one → ZT, keepIn → Ko
open Nat renaming le_refl → Qf, zero_le → QN, ne_of_lt → QQ, lt_of_lt_of_le → QS, le_trans → Q4, lt_irrefl → Ja, zero_add → Jg, le_of_not_lt → Jj, le_of_lt → Jr, lt_trans → Jw, not_lt_zero → Zg, sub_self → Zv, add_sub_cancel_left → ZA, mod_eq_of_lt → ZI, lt_of_le_of_lt → ZO, add_zero → ZR, lt_or_eq_of_le → ZS, pow_succ → Ku, le_add_right → Kx, add_lt_add_left → KO, add_le_add_left → KP, min_eq_left → KS
open List renaming mem_cons_of_mem → Qg, length_map → Qi, mem_cons_self → Qj, getElem?_eq_some_iff → Qk, mem_cons → Qn, length_append → Qr, mem_singleton → Qt, map_cons → Qv, getElem?_map → Qx, length_cons → QA, getElem?_set → QB, mem_append_right → QD, range → QE, append_assoc → QG, getElem?_append_right → QH, mem_append → QM, length_take → QP, size_toArray → QR, getElem?_append_left → QT, pairwise_append → QW, mem_of_getElem? → QZ, take_append_drop → Q1, mem_map → Q2, getElem?_of_mem → Q6, mem_range → Q7, drop_eq_getElem_cons → Q9, all_eq_true → Jc, map_append → Jf, length_drop → Ji, toArray → Jk, getD_eq_getElem?_getD → Jl, append_nil → Jp, nodup_cons → Ju, ext_getElem? → Jv, length_range → Jy, drop_length → JA, map_map → JK, length_set → JS, find?_cons → JT, getElem?_take → JV, getElem?_drop → JW, take_of_length_le → JZ, Perm → J0, length_replicate → J4, pairwise_cons → Za, getElem?_replicate → Zb, mem_filter → Ze, pairwise_iff_getElem → Zl, getElem?_take_of_lt → Zr, getElem?_modify → Zt, mem_of_mem_drop → Zu, mem_iff_getElem → Zw, any_cons → Zy, getElem?_range → ZD, length_reverse → ZE, getElem_mem → ZG, length_nil → ZV, getElem?_eq_none → ZW, filter_cons → Z7, getElem_range → Kf, range_succ_eq_map → Kk, flatten_singleton → Kl, pairwise_map → Kn, map_nil → Kq, getElem?_reverse → Kt, mem_of_mem_take → Kw, reverse_reverse → KA, all_cons → KG, map_take → KH, reverse_append → KN, flatten_append → KQ
open PySem.Heap renaming get?_push_of_some → Qh, lt_size → Qz, get?_push_size → QF, get?_update_other → Q8, get?_update_self → JE, SameBut → Zn, size_push → Kr, get?_update_ne → KL
open Bool renaming false_ne_true → Ql, false_eq_true → QK, not_eq_true' → J1, eq_iff_iff → Zq, not_true → ZZ, and_eq_true → Z4, and_eq_true_iff → KC
open PyProof.Rows renaming Keyed → Qp, arrOf → Qq, wpS_bind → Qs, wpS_pure → QC, SortSt → QY, pendingOf → Jb, kindOf → Js, wpS_forRange → Jx, failedOf → JB, IntsAre → JP, wpS_mono → Zc, SortKind → ZH, callWith_type1 → ZN, mirror → Z8, wpS_modify → Kz, listUpdate_at → KI
open Array renaming length_toList → Qu, getElem?_toList → Qw, toList_append → Jo, getElem?_eq_none → Jz, getD_eq_getD_getElem? → JF, getElem?_eq_some_iff → JY, toList_push → Zx, perm_iff_toList_perm → ZY, replicate → Ki
open PySem.Value renaming ref → QI, none → JH, bool → Z1
open PySem.PassesOwn renaming never → Q3
open PySem.F renaming plain_max_loop → Jq, entry_max_loop → Z6
open PySem.Heap.SameBut renaming update → JC
open PySem.Around renaming under_plainId → JI
open Or renaming inr → Zj
open Classical renaming byContradiction → Zm
open False renaming elim → Zo
open PySem.Str renaming ofString → Zs
open PyProof.Rows.SortSt renaming mk' → ZK
open Int renaming emod_lt_of_pos → ZP, emod_nonneg → ZX, toNat_natCast → Z0
open PySem.Obj renaming data_mapFields → ZQ, mapSeq → Ke
open PySem.Builtin.Slice renaming slicePlaces → Z2
open PySem.Builtin.Tuple renaming tupleExact → Z5
open Sum renaming inr → Kb
open PySem.SeqAt renaming EqAt → Kc
open True renaming intro → Kv
namespace L2
open PySem PySem.Spec PyProof.Rows
abbrev Key:=Sum Int Str
def nh:Key->Qb->Bool
 |.inl k,v=>Value.isInt k v
 |.inr x,v=>Value.isStrOf x v
def GN(w:QL):Key->Int
 |.inl k=>hashInt k
 |.inr x=>hashStr w x
theorem bV:∀{k:Key} {v:Qb},nh k v=true->(∃i t,k=Sum.inl i/\v=Value.int i t)\/(∃x t,k=Kb x/\v=Value.str x t)
 |.inl i,v,h=>by
  obtain⟨t,e⟩:=Value.isInt_shape (k:=i) (v:=v) h;exact .inl ⟨i,t,rfl,e⟩
 |.inr x,v,h=>by
  obtain⟨t,e⟩:=Value.isStrOf_shape (x:=x) (v:=v) h;exact .inr ⟨x,t,rfl,e⟩
theorem v_(i:Int)(t:Tok):nh (.inl i) (.int i t)=true:=by simp[nh,Value.isInt]
theorem uR(x:Str)(t:Tok):nh (.inr x) (.str x t)=true:=by simp[nh,Value.isStrOf]
theorem Da(a b:Int):decide ((Sum.inl a:Key)=Sum.inl b)=(a==b):=by
 by_cases e:a=b
 ·subst e;simp
 ·have h:¬ (Sum.inl a:Key)=Sum.inl b:=λq=>e (Sum.inl.inj q)
  rw[decide_eq_false h];exact(beq_eq_false_iff_ne.mpr e).symm
theorem Ey(a b:Str):decide ((Kb a:Key)=Kb b)=decide (a=b):=by
 by_cases e:a=b
 ·subst e;simp
 ·have h:¬ (Kb a:Key)=Kb b:=λq=>e (Sum.inr.inj q)
  rw[decide_eq_false h,decide_eq_false e]
theorem Dz(a:Int)(b:Str):decide ((Sum.inl a:Key)=Kb b)=false:=decide_eq_false (λq=>nomatch q)
theorem Dx(a:Str)(b:Int):decide ((Kb a:Key)=Sum.inl b)=false:=decide_eq_false (λq=>nomatch q)
def cf(prog:QJ)(w:QL):PySem.KeyKind prog w Key where
 is:=nh
 hash:=GN w
 inj:=λv a b ha hb=>by
  rcases bV ha with⟨i,t,rfl,rfl⟩ | ⟨x,t,rfl,rfl⟩
  ·rcases bV hb with⟨j,u,rfl,e⟩ | ⟨y,u,rfl,e⟩
   ·injection e with e1 _;rw[e1]
   ·exact nomatch e
  ·rcases bV hb with⟨j,u,rfl,e⟩ | ⟨y,u,rfl,e⟩
   ·exact nomatch e
   ·injection e with e1 _;rw[e1]
 byValue:=λk v h=>by
  rcases bV h with⟨i,t,rfl,rfl⟩ | ⟨x,t,rfl,rfl⟩<;>rfl
 pyHash:=λhv h=>by
  rcases bV hv with⟨i,t,rfl,rfl⟩ | ⟨x,t,rfl,rfl⟩
  ·exact wpAny_pyHash_int h
  ·exact wpAny_pyHash_str h
 eqBool:=λhu hv h=>by
  rcases bV hu with⟨i,t,rfl,rfl⟩ | ⟨x,t,rfl,rfl⟩
  ·rcases bV hv with⟨j,u,rfl,rfl⟩ | ⟨y,u,rfl,rfl⟩
   ·rw[Da] at h;exact wpAny_eqBool_int h
   ·rw[Dz] at h;exact SeqAt.EqAt.int_str i t y u _ _ _ _ h
  ·rcases bV hv with⟨j,u,rfl,rfl⟩ | ⟨y,u,rfl,rfl⟩
   ·rw[Dx] at h;exact SeqAt.EqAt.str_int x t j u _ _ _ _ h
   ·rw[Ey] at h;exact wpAny_eqBool_str h
 «strs»:=λk x t v h=>by
  rcases bV h with⟨i,u,rfl,e⟩ | ⟨y,u,rfl,e⟩
  ·exact nomatch e
  ·injection e with e1 _
   subst e1;cases v<;>rfl
theorem pP(prog:QJ)(w:QL)(i:Int)(t:Tok):(cf prog w).is (.inl i) (.int i t)=true:=v_ i t
theorem ql(prog:QJ)(w:QL)(x:Str)(t:Tok):(cf prog w).is (.inr x) (.str x t)=true:=uR x t
inductive V where
 |non | bl (b:Bool) | int (i:Int) | str (x:Str) | byt (b:Array UInt8) | flt (b:UInt64) | ref (a:Addr) | ty (n:String)
 deriving DecidableEq
def ba:V->Qb->Prop
 |.non,u=>u=JH
 |.bl b,u=>u=Z1 b
 |.int i,u=>∃t,u=Value.int i t
 |.str x,u=>∃t,u=Value.str x t
 |.byt b,u=>∃t,u=Value.bytes b t
 |.flt b,u=>∃t,u=Value.float b t
 |.ref a,u=>u=QI a
 |.ty n,u=>u=Value.type n
abbrev a9:List V->List Qb->Prop:=JU ba
theorem a9.length{xs:List V}{us:List Qb}(r:a9 xs us):xs.length=us.length:=Paired.length r
theorem a9.get:∀{xs:List V} {us:List Qb} {i:Nat} {x:V},a9 xs us->xs[i]?=some x->∃u,us[i]?=some u/\ba x u
 |_,_,_,_,.nil,e=>by simp at e
 |_,_,0,_,.cons r _,e=>by simp at e;subst e;exact⟨_,rfl,r⟩
 |_,_,i+1,x,.cons _ t,e=>by
  obtain⟨u,h1,h2⟩:=a9.get (i:=i) (x:=x) t (by simpa using e);exact⟨u,by simpa using h1,h2⟩
theorem a9.set{x:V}{u:Qb}(r:ba x u):∀{xs:List V} {us:List Qb} (i:Nat),a9 xs us->a9 (xs.set i x) (us.set i u)
 |_,_,_,.nil=>.nil
 |_,_,0,.cons _ t=>.cons r t
 |_,_,i+1,.cons q t=>.cons q (a9.set r i t)
theorem a9.append:∀{xs ys:List V} {us ws:List Qb},a9 xs us->a9 ys ws->a9 (xs++ys) (us++ws)
 |_,_,_,_,.nil,s=>s
 |_,_,_,_,.cons r t,s=>.cons r (a9.append t s)
theorem a9.take:∀{xs:List V} {us:List Qb} (n:Nat),a9 xs us->a9 (xs.take n) (us.take n)
 |_,_,0,_=>.nil
 |_,_,_+1,.nil=>.nil
 |_,_,n+1,.cons r t=>.cons r (a9.take n t)
theorem a9.drop:∀{xs:List V} {us:List Qb} (n:Nat),a9 xs us->a9 (xs.drop n) (us.drop n)
 |_,_,0,r=>r
 |_,_,_+1,.nil=>.nil
 |_,_,n+1,.cons _ t=>a9.drop n t
def kh:Option V->Option Qb->Prop
 |some v,some u=>ba v u
 |none,none=>True
 |_,_=>False
def KV{κ:Type}:List (κ×V)->List (κ×Qb)->Prop:=JU λ(p:κ×V) (q:κ×Qb)=>p.1=q.1/\ba p.2 q.2
def kV:Key->V
 |.inl i=>.int i
 |.inr x=>.str x
inductive HO where
 |lst (xs:List V)
 |tup (xs:List V)
 |dK (kvs:List (Key×V)) | dT (kvs:List (List Key×V))
 |set (S:Int->Bool) (n:Nat)
 |ins (C dx:Addr) (fs:List (Str×V))
 |own (x:Addr)
 |xd (fs:List (Str×V))
 |met (f x:Addr)
 |rng (lo hi:Int)
 |frz (o:Obj) (u:HO)
 |tbl (ps:Array Qb)
 |ext (φ:Heap->Prop)
abbrev Hp:=Addr->Option HO
def upd(H:Hp)(a:Addr)(o:HO):Hp:=λb=>if b=a then some o else H b
theorem aG{H:Hp}{a:Addr}{o:HO}:upd H a o a=some o:=by unfold upd;rw[if_pos rfl]
theorem aM{H:Hp}{a b:Addr}{o:HO}(h:b≠a):upd H a o b=H b:=by unfold upd;rw[if_neg h]
theorem aE{H:Hp}{a b:Addr}{o:HO}(h:H a=some o)(h':H b=none):a≠b:=by
 intro e;subst e;rw[h] at h';cases h'
section
variable(P:QJ)(w:QL)
def bL(H:Hp)(h:Heap)(a:Addr):HO->Prop
 |.lst xs=>xs.length<=QO/\∃(its:List Qb) (n:Nat),a9 xs its/\h.get? a=some { cls:=.type "list",data:=.seq its.toArray n }
 |.tup xs=>xs.length<=QO/\∃its:List Qb,a9 xs its/\IsTup h a its.toArray
 |.dK kvs=>kvs.length<=QO/\(a==JM)=false/\∃vs,KV kvs vs/\h.DictOf (cf P w) a vs
 |.dT kvs=>kvs.length<=QO/\(a==JM)=false/\∃xs:List (List Key×Addr×Qb),
   JU (λ(p:List Key×V) (q:List Key×Addr×Qb)=>p.1=q.1/\H q.2.1=some (.tup (p.1.map kV))/\ba p.2 q.2.2) kvs xs/\
   ∃o es ep,h.get? a=some o/\o.ExactDict/\o.data=.dict es ep/\es.toList=xs.map (entryOfKey (tupleKind (cf P w)))/\(xs.map (·.1)).Nodup
 |.set S n=>h.SetOf (intKind P w) a S n
 |.ins C dx fs=>H dx=some (.own a)/\fs.length<=1000/\dx≠a/\h.get? a=some (PySem.W.instObj C dx)/\
   ∃mA,h.Ns1 dx mA/\(∀f,kh (fs.lookup f) (mA f))/\PySem.Within mA (fs.map (·.1))
 |.own _=>∃o,h.get? a=some o
 |.xd fs=>∃mA,h.Ns1 a mA/\∀f,kh (fs.lookup f) (mA f)
 |.rng lo hi=>∃t u v,h.get? a=some { cls:=.type "range",data:=.fields #[.int lo t,.int hi u,.int 1 v] }
 |.frz o u=>h.get? a=some o/\bL H h a u
 |.tbl ps=>h.get? a=some { cls:=.none,data:=.fields ps }
 |.met f x=>h.get? a=some (PySem.W.methodObj (.ref f) (.ref x))
 |.ext φ=>φ h/\(∃o,h.get? a=some o)/\∀h1 h2:Heap,φ h1->(∀o,h1.get? a=some o->h2.get? a=some o)->φ h2
def HOk(H:Hp)(h:Heap):Prop:=∀a o,H a=some o->bL P w H h a o
end
section
variable{P:QJ}{w:QL}{H H':Hp}{h h':Heap}{a:Addr}{o:HO}
theorem bL.lt(x:bL P w H h a o):a<h.objs.size:=by
 cases o with
 |lst xs=>obtain⟨_,_,_,_,e⟩:=x;exact Qz e
 |tup xs=>obtain⟨_,_,_,p⟩:=x;exact p.lt
 |dK kvs=>obtain⟨_,_,_,_,o,_,_,e,_⟩:=x;exact Qz e
 |dT kvs=>obtain⟨_,_,_,_,o,_,_,e,_⟩:=x;exact Qz e
 |set S n=>obtain⟨o,_,_,_,e,_⟩:=x;exact Qz e
 |ins C dx fs=>obtain⟨_,_,_,e,_⟩:=x;exact Qz e
 |own y=>obtain⟨_,e⟩:=x;exact Qz e
 |xd fs=>obtain⟨_,⟨_,_,_,e,_⟩,_⟩:=x;exact Qz e
 |rng lo hi=>obtain⟨_,_,_,e⟩:=x;exact Qz e
 |frz ob u=>obtain⟨e,_⟩:=x;exact Qz e
 |tbl ps=>exact Qz (show h.get? a=some _ from x)
 |met f y=>exact Qz (show h.get? a=some _ from x)
 |ext φ=>obtain⟨_,⟨_,e⟩,_⟩:=x;exact Qz e
theorem Paired.mapP{α β:Type}{F G:α->β->Prop}:∀{l₁:List α} {l₂:List β},JU F l₁ l₂->(∀a b,F a b->G a b)->JU G l₁ l₂
 |_,_,.nil,_=>.nil
 |_,_,.cons r t,f=>.cons (f _ _ r) (Paired.mapP t f)
theorem bL.stay(x:bL P w H h a o)(k:∀b u,(b=a\/H b=some (.own a))->h.get? b=some u->h'.get? b=some u)
  (ho:∀b,H b=some (.own a)->H' b=some (.own a)) (ht:∀b xs,H b=some (.tup xs)->H' b=some (.tup xs)):bL P w H' h' a o:=by
 induction o with
 |lst xs=>obtain⟨z,its,n,r,e⟩:=x;exact⟨z,its,n,r,k _ _ (.inl rfl) e⟩
 |tup xs=>obtain⟨z,its,r,ob,e,c⟩:=x;exact⟨z,its,r,ob,k _ _ (.inl rfl) e,c⟩
 |dK kvs=>obtain⟨z,y,vs,r,ob,es,ep,e,c⟩:=x;exact⟨z,y,vs,r,ob,es,ep,k _ _ (.inl rfl) e,c⟩
 |dT kvs=>
  obtain⟨z,y,xs,r,ob,es,ep,e,c⟩:=x;exact⟨z,y,xs,Paired.mapP r λp q z=>⟨z.1,ht _ _ z.2.1,z.2.2⟩,ob,es,ep,k _ _ (.inl rfl) e,c⟩
 |set S n=>obtain⟨ob,es,ep,t,e,c⟩:=x;exact⟨ob,es,ep,t,k _ _ (.inl rfl) e,c⟩
 |ins C dx fs=>
  obtain⟨d,z,ne,e,mA,⟨od,es,ep,e2,c⟩,r⟩:=x;exact⟨ho _ d,z,ne,k _ _ (.inl rfl) e,mA,⟨od,es,ep,k _ _ (.inr d) e2,c⟩,r⟩
 |own y=>obtain⟨ob,e⟩:=x;exact⟨ob,k _ _ (.inl rfl) e⟩
 |xd fs=>obtain⟨mA,⟨od,es,ep,e,c⟩,r⟩:=x;exact⟨mA,⟨od,es,ep,k _ _ (.inl rfl) e,c⟩,r⟩
 |rng lo hi=>obtain⟨t,u,v,e⟩:=x;exact⟨t,u,v,k _ _ (.inl rfl) e⟩
 |frz ob u ih=>obtain⟨e,q⟩:=x;exact⟨k _ _ (.inl rfl) e,ih q⟩
 |tbl ps=>
  have e:h.get? a=some { cls:=.none,data:=.fields ps }:=x;show h'.get? a=some { cls:=.none,data:=.fields ps };exact k a _ (.inl rfl) e
 |met f y=>
  have e:h.get? a=some (PySem.W.methodObj (.ref f) (.ref y)):=x;show h'.get? a=some (PySem.W.methodObj (.ref f) (.ref y));exact k a _ (.inl rfl) e
 |ext φ=>obtain⟨p,⟨o,e⟩,st⟩:=x;exact⟨st _ _ p λo q=>k _ _ (.inl rfl) q,⟨o,k _ _ (.inl rfl) e⟩,st⟩
theorem HOk.lt(x:HOk P w H h)(e:H a=some o):a<h.objs.size:=(x a o e).lt
theorem HOk.fresh(x:HOk P w H h)(e:h.objs.size<=a):H a=none:=by
 cases q:H a with
 |none=>rfl
 |some u=>exact absurd (QS (x.lt q) e) (Ja _)
theorem HOk.kept(x:HOk P w H h)(k:∀b u,h.get? b=some u->h'.get? b=some u):HOk P w H h':=λa o e=>
 (x a o e).stay (λb u _ q=>k b u q) (λ_ q=>q) λ_ _ q=>q
theorem HOk.laid(x:HOk P w H h)(k:∀b u,h.get? b=some u->h'.get? b=some u)(hp:h.objs.size<=a)(new:bL P w (upd H a o) h' a o):HOk P w (upd H a o) h':=λb u e=>by
 have hn:=x.fresh hp
 by_cases hb:b=a
 ·subst hb;rw[aG] at e;cases e;exact new
 ·rw[aM hb] at e
  exact(x b u e).stay (λc v _ q=>k c v q) (λc q=>by rw[aM (aE q hn)];exact q) λc xs q=>by rw[aM (aE q hn)];exact q
end
def Rd(H:Hp)(a:Addr)(u:HO):Prop:=H a=some u\/∃o,H a=some (.frz o u)
theorem Rd.of{H:Hp}{a:Addr}{u:HO}(h:H a=some u):Rd H a u:=.inl h
theorem Rd.ok{P:QJ}{w:QL}{H:Hp}{h:Heap}{a:Addr}{u:HO}(r:Rd H a u)(x:HOk P w H h):bL P w H h a u:=by
 rcases r with r | ⟨o,r⟩
 ·exact x a u r
 ·obtain⟨_,q⟩:=x a _ r
  exact q
def Mut:Option HO->Prop
 |some (.lst _)=>True
 |some (.dK _)=>True
 |some (.dT _)=>True
 |some (.set _ _)=>True
 |some (.ins _ _ _)=>True
 |some (.ext _)=>True
 |_=>False
section
variable{P:QJ}{w:QL}{H:Hp}{h h':Heap}{x e:Addr}{o':HO}
theorem HOk.write(ok:HOk P w H h)(mu:Mut (H x))(he:e=x\/H e=some (.own x))(k:∀b u,b≠e->h.get? b=some u->h'.get? b=some u)(heo:∃u,h'.get? e=some u)
  (new:bL P w (upd H x o') h' x o'):HOk P w (upd H x o') h':=λb u q=>by
 have nown:∀c y,H c=some (.own y)->c≠x:=λc y r z=>by subst z;rw[r] at mu;exact mu
 have ntup:∀c xs,H c=some (.tup xs)->c≠x:=λc xs r z=>by subst z;rw[r] at mu;exact mu
 by_cases hb:b=x
 ·subst hb;rw[aG] at q;cases q;exact new
 ·rw[aM hb] at q
  by_cases hbe:b=e
  ·have q':H b=some (.own x):=by
    rcases he with z | z
    ·exact absurd (hbe.trans z) hb
    ·rw[hbe];exact z
   rw[q] at q';cases q';obtain⟨v,hv⟩:=heo;exact⟨v,by rw[hbe];exact hv⟩
  ·refine(ok b u q).stay (λc v hc r=>k c v ?_ r) (λc r=>by rw[aM (nown c b r)];exact r) λc xs r=>by rw[aM (ntup c xs r)];exact r
   rcases hc with rfl | hc
   ·exact hbe
   ·rintro rfl
    rcases he with z | z
    ·exact nown c b hc z
    ·rw[hc] at z;cases z;exact hb rfl
end
structure Un(fs ex:List Addr)(H H':Hp)(h h':Heap):Prop where
 keep:∀b o,h.get? b=some o->H b=none->b∉fs->b∉ex->h'.get? b=some o
 slot:∀b o,h.get? b=some o->H b=none->b∈fs->b∉ex->∃sl,h'.get? b=some { o with slots:=sl }
 free:∀b o,h.get? b=some o->H b=none->b∉ex->H' b=none
 there:∀b o,h.get? b=some o->b∉ex->∃o',h'.get? b=some o'
 tups:∀b xs,H b=some (.tup xs)->H' b=some (.tup xs)
 frzs:∀b o u,H b=some (.frz o u)->H' b=some (.frz o u)
 tbls:∀b ps,H b=some (.tbl ps)->∃more,H' b=some (.tbl (ps++more))
section
variable{fs fs' ex ex':List Addr}{H H1 H2:Hp}{h h1 h2 h':Heap}{a x e:Addr}{o:HO}
theorem Un.any(u:Un fs ex H H1 h h1){b:Addr}{ob:Obj}(q:h.get? b=some ob)(n:H b=none)(hx:b∉ex):∃sl,h1.get? b=some { ob with slots:=sl }:=by
 by_cases hb:b∈fs
 ·exact u.slot b ob q n hb hx
 ·exact⟨ob.slots,u.keep b ob q n hb hx⟩
theorem Un.trans(a:Un fs ex H H1 h h1)(b:Un fs ex H1 H2 h1 h2):Un fs ex H H2 h h2 where
 keep:=λc ob q n hc hx=>b.keep c ob (a.keep c ob q n hc hx) (a.free c ob q n hx) hc hx
 slot:=λc ob q n hc hx=>by
  obtain⟨sl,e1⟩:=a.slot c ob q n hc hx;obtain⟨sl',e2⟩:=b.slot c _ e1 (a.free c ob q n hx) hc hx;exact⟨sl',e2⟩
 free:=λc ob q n hx=>by
  obtain⟨o',e1⟩:=a.there c ob q hx;exact b.free c o' e1 (a.free c ob q n hx) hx
 there:=λc ob q hx=>by
  obtain⟨o',e1⟩:=a.there c ob q hx;exact b.there c o' e1 hx
 tups:=λc xs q=>b.tups c xs (a.tups c xs q)
 frzs:=λc ob xs q=>b.frzs c ob xs (a.frzs c ob xs q)
 tbls:=λc ps q=>by
  obtain⟨m1,e1⟩:=a.tbls c ps q;obtain⟨m2,e2⟩:=b.tbls c _ e1;exact⟨m1++m2,by rw[e2,Array.append_assoc]⟩
theorem Un.kept(k:∀b u,h.get? b=some u->h'.get? b=some u):Un fs ex H H h h':=
 ⟨λb ob q _ _ _=>k b ob q,λb ob q _ _ _=>⟨ob.slots,k b ob q⟩,λ_ _ _ n _=>n,λb ob q _=>⟨ob,k b ob q⟩,λ_ _ q=>q,λ_ _ _ q=>q,λ_ ps q=>⟨#[],by rw[q];simp⟩⟩
theorem Un.refl:Un fs ex H H h h:=Un.kept λ_ _ q=>q
theorem Un.laid(k:∀b u,h.get? b=some u->h'.get? b=some u)(hp:h.objs.size<=a)(hn:H a=none):Un fs ex H (upd H a o) h h' where
 keep:=λb u q _ _ _=>k b u q
 slot:=λb u q _ _ _=>⟨u.slots,k b u q⟩
 free:=λb u q n _=>by rw[aM (QQ (QS (Qz q) hp))];exact n
 there:=λb u q _=>⟨u,k b u q⟩
 tups:=λb xs q=>by rw[aM (aE q hn)];exact q
 frzs:=λb u xs q=>by rw[aM (aE q hn)];exact q
 tbls:=λb ps q=>⟨#[],by rw[aM (aE q hn),q];simp⟩
theorem Un.write(mu:Mut (H x))(he:e=x\/H e=some (.own x))(k:∀b u,b≠e->h.get? b=some u->h'.get? b=some u)(heo:∃u,h'.get? e=some u):Un fs ex H (upd H x o) h h':=by
 have hx:∀b,H b=none->b≠x:=λb n z=>by subst z;rw[n] at mu;exact mu
 have hb:∀b,H b=none->b≠e:=λb n z=>by
  subst z;rcases he with r | r
  ·exact hx b n r
  ·rw[n] at r;cases r
 have hm:∀b u,H b=some u->¬ Mut (some u)->b≠x:=λb u q nm z=>by subst z;rw[q] at mu;exact nm mu
 refine⟨λb u q n _ _=>k b u (hb b n) q,λb u q n _ _=>⟨u.slots,k b u (hb b n) q⟩,λb u q n _=>by rw[aM (hx b n)];exact n,λb u q _=>?_,
  λb xs q=>by rw[aM (hm b _ q λz=>z)];exact q,λb u xs q=>by rw[aM (hm b _ q λz=>z)];exact q,λb ps q=>⟨#[],by rw[aM (hm b _ q λz=>z),q];simp⟩⟩
 by_cases hbe:b=e
 ·subst hbe;exact heo
 ·exact⟨u,k b u hbe q⟩
theorem Un.mono(u:Un fs ex H H1 h h1)(hs:∀b∈fs,b∈fs')(hx:∀b∈ex,b∈ex'):Un fs' ex' H H1 h h1:=
 ⟨λb ob q n hb he=>u.keep b ob q n (λz=>hb (hs b z)) λz=>he (hx b z),λ_ _ q n _ he=>u.any q n λz=>he (hx _ z),λb ob q n he=>u.free b ob q n λz=>he (hx b z),λb ob q he=>u.there b ob q λz=>he (hx b z),u.tups,u.frzs,u.tbls⟩
end
def trk(h:Heap)(H:Hp):List Addr:=(QE h.objs.size).filter λa=>(H a).isSome
def nV(h:Heap)(H:Hp):Heap:=PySem.W.hideAll h (trk h H)
theorem wj(h:Heap)(H:Hp):(nV h H).objs.size=h.objs.size:=PySem.W.hideAll_size _ _
theorem xO{h:Heap}{H:Hp}{b:Addr}{o:Obj}(e:h.get? b=some o)(n:H b=none):(nV h H).get? b=some o:=
 PySem.W.hideAll_get _ e λhm=>by
  have q:(H b).isSome=true:=(Ze.mp hm).2;rw[n] at q;simp at q
theorem AO{h:Heap}{H:Hp}{b:Addr}{o:Obj}(e:(nV h H).get? b=some o):h.get? b=some o/\H b=none:=by
 have e':h.get? b=some o:=PySem.W.of_hideAll (trk h H) e;refine⟨e',?_⟩;cases q:H b with
 |none=>rfl
 |some x=>
  have hm:b∈trk h H:=Ze.mpr ⟨Q7.mpr (Qz e'),by simp[q]⟩;have z:(nV h H).get? b=none:=PySem.W.hideAll_none (trk h H) hm;rw[z] at e;cases e
def Ah(g h:Heap)(L:Addr):List (Addr×Obj):=(QE h.objs.size).filterMap λa=>if a=L\/(g.get? a).isSome=true then none else(h.get? a).map λo=>(a,o)
def rest(g h:Heap)(L d:Addr):List (Addr×Obj):=(Ah g h L).filter λp=>decide (p.1≠d)
structure Mod(K:Qe)(mg:Str->Option Qb)(base:Heap):Prop where
 kin:K.In base
 glob:base.Ns Q5 mg
 blt:∃mb,base.Ns builtinsNs mb/\∀x:Str,x≠"__name__"->mb x=ZL x
 nolimit:base.NoLimit
structure Cx where
 prog:QJ
 w:QL
 K:Qe
 mg:Str->Option Qb
 base:Heap
 A:QU
 N:List Str
 s₀:Qc
 H₀:Hp
 env:Env
 outer:List Env
 stack:List Env
 ex:List Addr
 fn:Str->Bool
 calm:Bool
 pn:List (Addr×Obj)
 xe:Qb->Qc->Prop
def frs(l:List Env):List Addr:=l.filterMap (·.frame)
abbrev Cx.fs(X:Cx):List Addr:=frs X.outer
def Vis(sc:Scope)(x:Str):Prop:=sc.names.lookup x=some .local\/sc.names.lookup x=some .cell\/sc.names.lookup x=some .free
def Loc(sc:Scope)(x:Str):Prop:=sc.names.lookup x=some .local\/sc.names.lookup x=some .cell
def GW(env:Env)(h:Heap)(m:Str->Option Qb)(x:Str)(u:Qb):Prop:=
 (env.kindOf x=some .local/\m x=some u)\/((env.kindOf x=some .cell\/env.kindOf x=some .free)/\∃c,env.cells.lookup x=some c/\h.IsCell c (some u))
structure Cx.Ok(X:Cx):Prop where
 mod:Mod X.K X.mg X.base
 kind:X.env.scope.kind=.function
 glob:X.env.globals=Q5
 blt:X.env.builtins=builtinsNs
 above:X.s₀.heap.objs.size<=X.env.locals
 inj:∀x y c,X.env.cells.lookup x=some c->X.env.cells.lookup y=some c->x=y
 has:∀x,(X.env.kindOf x=some .cell\/X.env.kindOf x=some .free)->∃c,X.env.cells.lookup x=some c
 cab:∀x c,X.fn x=true->X.env.cells.lookup x=some c->X.s₀.heap.objs.size<=c
 hd:X.calm=true->X.A.handled=none
 frames:X.A.frames=some X.stack
 stk:X.stack=X.outer\/(X.stack=X.env::X.outer/\X.env.frame=some X.env.locals)
 exf:∀b∈X.ex,b≠X.env.locals/\∀x c,X.env.cells.lookup x=some c->c≠b
 bs:∀b o,X.base.get? b=some o->X.s₀.heap.get? b=some o/\X.H₀ b=none
 bsz:X.base.objs.size<=X.s₀.heap.objs.size
 noex:∀b o,X.base.get? b=some o->b∉X.ex
 exfs:∀b∈X.ex,b∉X.fs
 funs:X.s₀.heap.FunFrames X.base X.outer
 frf:∀b∈X.fs,X.H₀ b=none
structure Inv(X:Cx)(pins:List (Addr×Obj))(σ:List (Option V))(H:Hp)(s:Qc):Prop where
 ok:X.Ok
 os:s.os=X.s₀.os
 bare:AllBare s.gens
 base:Un X.fs X.ex X.H₀ H X.s₀.heap s.heap
 loc:∃m,s.heap.Ns X.env.locals m/\∀(i:Nat) (x:Str) (v:V),X.N[i]?=some x->σ[i]?=some (some v)->Vis X.env.scope x->∃u,ba v u/\GW X.env s.heap m x u
 cell:∀x c,X.env.cells.lookup x=some c->∃v,s.heap.IsCell c v
 free:H X.env.locals=none
 freeC:∀x c,X.env.cells.lookup x=some c->H c=none
 pin:∀p∈X.pn++pins,s.heap.get? p.1=some p.2/\H p.1=none/\p.1≠X.env.locals/\p.1∉X.fs/\∀v,p.2.data≠.cell v
 hok:HOk X.prog X.w H s.heap
 len:σ.length=X.N.length
section
variable{X:Cx}{pins:List (Addr×Obj)}{σ:List (Option V)}{H H':Hp}{s:Qc}{h':Heap}
theorem Cx.Ok.nofr(ok:X.Ok){b:Addr}{o:Obj}(e:X.base.get? b=some o):b∉X.fs:=λhb=>by
 have:=(ok.funs.mem hb).1;rw[e] at this;cases this
theorem Inv.bs(I:Inv X pins σ H s):∀b o,X.base.get? b=some o->s.heap.get? b=some o/\H b=none:=λb o e=>
 ⟨I.base.keep b o (I.ok.bs b o e).1 (I.ok.bs b o e).2 (I.ok.nofr e) (I.ok.noex b o e),I.base.free b o (I.ok.bs b o e).1 (I.ok.bs b o e).2 (I.ok.noex b o e)⟩
theorem Inv.bk(I:Inv X pins σ H s):∀b o,X.base.get? b=some o->s.heap.get? b=some o:=λb o e=>(I.bs b o e).1
theorem Inv.mod(I:Inv X pins σ H s):Mod X.K X.mg X.base:=I.ok.mod
theorem Inv.kIn(I:Inv X pins σ H s):X.K.In s.heap:=I.ok.mod.kin.keeps I.bk
theorem Inv.nolimit(I:Inv X pins σ H s):s.heap.NoLimit:=I.ok.mod.nolimit.keeps I.bk
theorem Inv.fr(I:Inv X pins σ H s):∃m,Fr X.base X.env.locals s.heap m:=
 let⟨m,hn,_⟩:=I.loc
 ⟨m,hn,I.bk,Q4 I.ok.bsz I.ok.above⟩
theorem Inv.lt(I:Inv X pins σ H s):X.env.locals<s.heap.objs.size:=let⟨_,hn,_⟩:=I.loc;hn.lt
theorem Inv.sz(I:Inv X pins σ H s):X.s₀.heap.objs.size<=s.heap.objs.size:=Q4 I.ok.above (Jr I.lt)
theorem Inv.nofs(I:Inv X pins σ H s){a:Addr}(h:s.heap.objs.size<=a):a∉X.fs:=λhb=>by
 obtain⟨_,o,ho,_⟩:=I.ok.funs.mem hb;exact absurd (QS (Qz ho) (Q4 I.sz h)) (Ja _)
theorem Inv.cne(I:Inv X pins σ H s):∀x c,X.env.cells.lookup x=some c->c≠X.env.locals:=λx c e z=>by
 obtain⟨v,o,ho,hd⟩:=I.cell x c e;obtain⟨m,⟨o',es,ep,ho',hd',_⟩,_⟩:=I.loc;rw[z,ho'] at ho;cases ho;rw[hd'] at hd;cases hd
theorem Inv.funs(I:Inv X pins σ H s):s.heap.FunFrames X.base X.outer:=by
 have all:∀(l:List Env),(∀b∈frs l,b∈X.fs)->X.s₀.heap.FunFrames X.base l->s.heap.FunFrames X.base l:=by
  intro l
  induction l with
  |nil=>intro _ _;trivial
  |cons env r ih=>
   intro hs hl;obtain⟨hk,⟨L,o,hf,hn,ho,hd⟩,hr⟩:=hl;have hL:L∈X.fs:=hs L (by unfold frs;rw[List.filterMap_cons,hf];exact Qj);obtain⟨sl,e⟩:=I.base.slot L o ho (I.ok.frf L hL) hL λz=>I.ok.exfs L z hL;exact⟨hk,⟨L,_,hf,hn,e,hd⟩,ih (λb hb=>hs b (by unfold frs;rw[List.filterMap_cons,hf];exact Qg _ hb)) hr⟩
 exact all X.outer (λ_ hb=>hb) I.ok.funs
theorem Inv.stack(I:Inv X pins σ H s):s.heap.FunFrames X.base X.stack:=by
 rcases I.ok.stk with e | ⟨e,hf⟩
 ·rw[e];exact I.funs
 ·rw[e]
  obtain⟨m,hn,_⟩:=I.loc;refine .cons (by rw[I.ok.kind];decide) hf hn ?_ I.funs;exact Heap.get?_none_of_le (Q4 I.ok.bsz I.ok.above)
theorem Inv.stkSub(I:Inv X pins σ H s):∀b∈frs X.stack,b∈X.env.locals::X.fs:=λb hb=>by
 rcases I.ok.stk with e | ⟨e,hf⟩
 ·rw[e] at hb;exact Qg _ hb
 ·rw[e] at hb
  unfold frs at hb;rw[List.filterMap_cons,hf] at hb;exact hb
theorem Inv.stkFree(I:Inv X pins σ H s):∀b∈frs X.stack,H b=none:=λb hb=>by
 rcases Qn.mp (I.stkSub b hb) with e | hb
 ·rw[e];exact I.free
 ·obtain⟨_,o,ho,_⟩:=I.ok.funs.mem hb
  exact I.base.free b o ho (I.ok.frf b hb) λz=>I.ok.exfs b z hb
theorem Inv.step{g':Array GenState}{t':Nat}{d':Drawn}{ch:List Addr}(I:Inv X pins σ H s)
  (hch:∀b∈ch,(b∈X.ex\/X.s₀.heap.objs.size<=b)/\b≠X.env.locals/\(∀x c,X.env.cells.lookup x=some c->c≠b)/\∀p∈X.pn++pins,p.1≠b)
  (keep:∀b o,b≠X.env.locals->b∉X.fs->b∉ch->s.heap.get? b=some o->H b=none->h'.get? b=some o)
  (slot:∀b o,b≠X.env.locals->b∈X.fs->b∉ch->s.heap.get? b=some o->H b=none->∃sl,h'.get? b=some { o with slots:=sl }) (free:∀b o,b∉ch->s.heap.get? b=some o->H b=none->H' b=none)
  (there:∀b o,b∉ch->s.heap.get? b=some o->∃o',h'.get? b=some o')
  (tups:∀b xs,H b=some (.tup xs)->H' b=some (.tup xs)) (frzs:∀b o u,H b=some (.frz o u)->H' b=some (.frz o u)) (tbls:∀b ps,H b=some (.tbl ps)->∃more,H' b=some (.tbl (ps++more)))
  (ns:∀m,s.heap.Ns X.env.locals m->h'.Ns X.env.locals m) (hok:HOk X.prog X.w H' h') (hg:AllBare g') :
  Inv X pins σ H' { s with heap:=h',gens:=g',drawn:=d',toks:=t' }:=by
 have neL:∀b o,X.s₀.heap.get? b=some o->b≠X.env.locals:=λb o e=>QQ (QS (Qz e) I.ok.above)
 have neC:∀b o,X.s₀.heap.get? b=some o->b∉X.ex->b∉ch:=λb o e hx hb=>by
  rcases(hch b hb).1 with z | z
  ·exact hx z
  ·exact absurd (QS (Qz e) z) (Ja _)
 have cellK:∀x c,X.env.cells.lookup x=some c->∀v,s.heap.IsCell c v->h'.IsCell c v:=λx c e v ⟨o,ho,hd⟩=>by
  have nch:c∉ch:=λz=>(hch c z).2.2.1 x c e rfl
  by_cases hc:c∈X.fs
  ·obtain⟨sl,q⟩:=slot c o (I.cne x c e) hc nch ho (I.freeC x c e)
   exact⟨_,q,hd⟩
  ·exact⟨o,keep c o (I.cne x c e) hc nch ho (I.freeC x c e),hd⟩
 refine⟨I.ok,I.os,hg,⟨λb o e n hb hx=>?_,λb o e n hb hx=>?_,λb o e n hx=>?_,λb o e hx=>?_,λb xs e=>tups b xs (I.base.tups b xs e),λb o xs e=>frzs b o xs (I.base.frzs b o xs e),λb ps e=>?_⟩,?_,λx c e=>?_,?_,λx c e=>?_,λp hp=>?_,hok,I.len⟩
 ·exact keep b o (neL b o e) hb (neC b o e hx) (I.base.keep b o e n hb hx) (I.base.free b o e n hx)
 ·obtain⟨sl,e1⟩:=I.base.slot b o e n hb hx
  obtain⟨sl',e2⟩:=slot b _ (neL b o e) hb (neC b o e hx) e1 (I.base.free b o e n hx);exact⟨sl',e2⟩
 ·obtain⟨o',e1⟩:=I.base.there b o e hx
  exact free b o' (neC b o e hx) e1 (I.base.free b o e n hx)
 ·obtain⟨o',e1⟩:=I.base.there b o e hx
  exact there b o' (neC b o e hx) e1
 ·obtain⟨m1,e1⟩:=I.base.tbls b ps e
  obtain⟨m2,e2⟩:=tbls b _ e1;exact⟨m1++m2,by rw[e2,Array.append_assoc]⟩
 ·obtain⟨m,hn,hl⟩:=I.loc
  refine⟨m,ns m hn,λi x v e1 e2 e3=>?_⟩;obtain⟨u,r,l⟩:=hl i x v e1 e2 e3;refine⟨u,r,?_⟩;rcases l with l | ⟨k,c,e,z⟩
  ·exact .inl l
  ·exact .inr ⟨k,c,e,cellK x c e _ z⟩
 ·obtain⟨v,z⟩:=I.cell x c e
  exact⟨v,cellK x c e v z⟩
 ·obtain⟨m,⟨o,_,_,ho,_⟩,_⟩:=I.loc
  exact free _ o (λz=>(hch _ z).2.1 rfl) ho I.free
 ·obtain⟨v,o,ho,hd⟩:=I.cell x c e
  exact free c o (λz=>(hch c z).2.2.1 x c e rfl) ho (I.freeC x c e)
 ·obtain⟨e,n,ne,nf,d⟩:=I.pin p hp
  have nch:p.1∉ch:=λz=>(hch p.1 z).2.2.2 p hp rfl;exact⟨keep p.1 p.2 ne nf nch e n,free p.1 p.2 nch e n,ne,nf,d⟩
theorem Inv.un{t':Nat}(I:Inv X pins σ H s)(u:Un X.fs [] H H' s.heap h')(hok:HOk X.prog X.w H' h'):Inv X pins σ H' { s with heap:=h',toks:=t' }:=by
 obtain⟨m,⟨o,es,ep,ho,r⟩,_⟩:=id I.loc;obtain⟨sl,hL⟩:=u.any ho I.free (by simp)
 exact I.step (g':=s.gens) (d':=s.drawn) (ch:=[]) (λ_ z=>nomatch z) (λb o _ hb _ e n=>u.keep b o e n hb (by simp)) (λb o _ hb _ e n=>u.slot b o e n hb (by simp)) (λb o _ e n=>u.free b o e n (by simp)) (λb o _ e=>u.there b o e (by simp)) u.tups u.frzs u.tbls (λm' hm=>by
  obtain⟨o',es',ep',ho',r'⟩:=hm;rw[ho] at ho';cases ho'
  exact⟨_,es',ep',hL,r'⟩) hok I.bare
theorem Inv.call{g':Array GenState}{t':Nat}{d':Drawn}{ch:List Addr}(I:Inv X pins σ H s)(u:Un (frs X.stack) ch H H' s.heap h')(hok:HOk X.prog X.w H' h')(hg:AllBare g')
  (hch:∀b∈ch,(b∈X.ex\/X.s₀.heap.objs.size<=b)/\b≠X.env.locals/\(∀x c,X.env.cells.lookup x=some c->c≠b)/\∀p∈X.pn++pins,p.1≠b) :
  Inv X pins σ H' { s with heap:=h',gens:=g',drawn:=d',toks:=t' }:=by
 obtain⟨m,⟨o,es,ep,ho,r⟩,_⟩:=id I.loc;obtain⟨sl,hL⟩:=u.any ho I.free λz=>(hch _ z).2.1 rfl
 exact I.step (ch:=ch) hch (λb o hL hb hc e n=>u.keep b o e n (λz=>(Qn.mp (I.stkSub b z)).elim hL hb) hc) (λb o _ _ hc e n=>u.any e n hc) (λb o hc e n=>u.free b o e n hc) (λb o hc e=>u.there b o e hc) u.tups u.frzs u.tbls (λm' hm=>by
  obtain⟨o',es',ep',ho',r'⟩:=hm;rw[ho] at ho';cases ho'
  exact⟨_,es',ep',hL,r'⟩) hok hg
theorem Inv.turned{t':Nat}{it:Addr}(I:Inv X pins σ H s)(k:∀b o,b≠it->s.heap.get? b=some o->h'.get? b=some o)(hn:H it=none)(hL:it≠X.env.locals)
  (h1:it∈X.ex\/X.s₀.heap.objs.size<=it) (h2:∀x c,X.env.cells.lookup x=some c->c≠it) (h3:∀p∈X.pn++pins,p.1≠it):Inv X pins σ H { s with heap:=h',toks:=t' }:=by
 have nit:∀b u,H b=some u->b≠it:=λb u e z=>by rw[z,hn] at e;cases e
 refine I.step (g':=s.gens) (d':=s.drawn) (ch:=[it]) (λb hb=>?_) (λb o _ _ hc e _=>k b o (λz=>hc (by simp[z])) e) (λb o _ _ hc e _=>⟨o.slots,k b o (λz=>hc (by simp[z])) e⟩) (λ_ _ _ _ n=>n)
  (λb o hc e=>⟨o,k b o (λz=>hc (by simp[z])) e⟩) (λ_ _ e=>e) (λ_ _ _ e=>e) (λb ps e=>⟨#[],by rw[e];simp⟩) (λm hm=>?_) (λb u e=>?_) I.bare
 ·have e:b=it:=by simpa using hb
  subst e;exact⟨h1,hL,h2,h3⟩
 ·obtain⟨o,es,ep,ho,r⟩:=hm
  exact⟨o,es,ep,k _ o (Ne.symm hL) ho,r⟩
 ·refine(I.hok b u e).stay (λc v hc q=>k c v ?_ q) (λ_ q=>q) λ_ _ q=>q
  rcases hc with z | z
  ·rw[z];exact nit b u e
  ·exact nit c _ z
theorem Inv.tok(I:Inv X pins σ H s)(t:Nat):Inv X pins σ H { s with toks:=t }:=I.un (h':=s.heap) (t':=t) Un.refl I.hok
theorem Inv.kept{t':Nat}(I:Inv X pins σ H s)(k:∀b u,s.heap.get? b=some u->h'.get? b=some u):Inv X pins σ H { s with heap:=h',toks:=t' }:=I.un (Un.kept k) (I.hok.kept k)
theorem Inv.laid{a:Addr}{o:HO}{t':Nat}(I:Inv X pins σ H s)(k:∀b u,s.heap.get? b=some u->h'.get? b=some u)(hp:s.heap.objs.size<=a)(new:bL X.prog X.w (upd H a o) h' a o) :
  Inv X pins σ (upd H a o) { s with heap:=h',toks:=t' }:=I.un (Un.laid k hp (I.hok.fresh hp)) (I.hok.laid k hp new)
theorem Inv.write{x e:Addr}{o:HO}{t':Nat}(I:Inv X pins σ H s)(mu:Mut (H x))(he:e=x\/H e=some (.own x))(k:∀b u,b≠e->s.heap.get? b=some u->h'.get? b=some u)(heo:∃u,h'.get? e=some u)
  (new:bL X.prog X.w (upd H x o) h' x o):Inv X pins σ (upd H x o) { s with heap:=h',toks:=t' }:=I.un (Un.write mu he k heo) (I.hok.write mu he k heo new)
theorem Inv.pins_of{pins':List (Addr×Obj)}(I:Inv X pins σ H s)(h:∀p∈pins',s.heap.get? p.1=some p.2/\H p.1=none/\p.1≠X.env.locals/\p.1∉X.fs/\∀v,p.2.data≠.cell v):Inv X pins' σ H s:=
 ⟨I.ok,I.os,I.bare,I.base,I.loc,I.cell,I.free,I.freeC,λp hp=>(QM.mp hp).elim (λz=>I.pin p (List.mem_append_left _ z)) (h p),I.hok,I.len⟩
theorem pd{N:List Str}(hN:N.Nodup){i j:Nat}{x:Str}(a:N[i]?=some x)(b:N[j]?=some x):i=j:=by
 obtain⟨h1,e1⟩:=Qk.mp a;obtain⟨h2,e2⟩:=Qk.mp b;exact(List.getElem_inj hN).mp (e1.trans e2.symm)
theorem vK{M:Model}{A:QU}{E:Qb->Qc->Prop}{i:Nat}{x:Str}{v:V}{u:Qb}{Q:Unit->Qc->Prop}(I:Inv X pins σ H s)(hN:X.N.Nodup)(hi:X.N[i]?=some x)(hx:Loc X.env.scope x)(r:ba v u)
  (h:∀s',Inv X pins (σ.set i (some v)) H s'->(∃a,Zn a s.heap s'.heap/\(a=X.env.locals\/X.env.cells.lookup x=some a))->Q () s') (hf:X.fn x=true\/X.env.scope.names.lookup x=some .local:=by first | exact .inl rfl | exact .inr rfl | assumption):Qm M A (storeName X.env x u) Q E s:=by
 obtain⟨m,hn,hl⟩:=id I.loc;have hcls:(X.env.scope.kind == .class || (X.env.scope.kind == .module&&X.env.locals != X.env.globals))=false:=by rw[I.ok.kind];rfl
 have hiσ:i<σ.length:=by rw[I.len];exact(Qk.mp hi).1
 have cne:=I.cne
 have tracked:∀{a:Addr} {h':Heap},(∃o,s.heap.get? a=some o/\H a=none)->Zn a s.heap h'->HOk X.prog X.w H h':=λ{a h'} ha hs b ob e=>by
  obtain⟨_,_,hfree⟩:=ha;refine(I.hok b ob e).stay (λc w' hc q=>(hs.2 c ?_).trans q) (λ_ q=>q) λ_ _ q=>q;rintro rfl;rcases hc with rfl | hc
  ·rw[hfree] at e;cases e
  ·rw[hfree] at hc;cases hc
 rcases hx with hk | hk
 ·refine wpAny_storeName_local hk hn (λh' hn' hs=>?_) hcls
  obtain⟨oL,_,_,hoL,_⟩:=id hn;refine h _ ⟨I.ok,I.os,I.bare,⟨λb o e n hb hx=>?_,λb o e n hb hx=>?_,I.base.free,λb o e hx=>?_,I.base.tups,I.base.frzs,I.base.tbls⟩,⟨_,hn',λj y v' e1 e2 e3=>?_⟩,λy c e=>?_,I.free,I.freeC,λp hp=>?_,tracked ⟨oL,hoL,I.free⟩ hs,by simpa using I.len⟩ ⟨_,hs,.inl rfl⟩
  ·exact(hs.2 b (QQ (QS (Qz e) I.ok.above))).trans (I.base.keep b o e n hb hx)
  ·obtain⟨sl,e1⟩:=I.base.slot b o e n hb hx
   exact⟨sl,(hs.2 b (QQ (QS (Qz e) I.ok.above))).trans e1⟩
  ·obtain⟨o',e1⟩:=I.base.there b o e hx
   exact⟨o',(hs.2 b (QQ (QS (Qz e) I.ok.above))).trans e1⟩
  ·by_cases hj:j=i
   ·subst hj
    rw[hi] at e1;cases e1;rw[List.getElem?_set_self hiσ] at e2;cases e2;exact⟨u,r,.inl ⟨hk,by simp⟩⟩
   ·rw[List.getElem?_set_ne (Ne.symm hj)] at e2
    obtain⟨u',r',q⟩:=hl j y v' e1 e2 e3;refine⟨u',r',?_⟩;rcases q with⟨k,e⟩ | ⟨k,c,e,z⟩
    ·refine .inl ⟨k,?_⟩
     have:y≠x:=λe=>hj (pd hN e1 (e▸hi));simp[this,e]
    ·exact .inr ⟨k,c,e,z.sameBut hs (cne y c e)⟩
  ·obtain⟨w',z⟩:=I.cell y c e
   exact⟨w',z.sameBut hs (cne y c e)⟩
  ·obtain⟨e,n,ne,nf,d⟩:=I.pin p hp
   exact⟨(hs.2 p.1 ne).trans e,n,ne,nf,d⟩
 ·have hfn:X.fn x=true:=by
   rcases hf with z | z
   ·exact z
   ·rw[z] at hk;cases hk
  obtain⟨c,hc⟩:=I.ok.has x (.inl hk);obtain⟨w',z⟩:=I.cell x c hc;refine wpAny_storeName_cell I.ok.kind hk hc z (λh' hc' hs=>?_);obtain⟨oc,hoc,hocd⟩:=id z;refine h { s with heap:=h' } ⟨I.ok,I.os,I.bare,⟨λb o e n hb hx=>?_,λb o e n hb hx=>?_,I.base.free,λb o e hx=>?_,I.base.tups,I.base.frzs,I.base.tbls⟩,⟨m,hn.sameBut hs (Ne.symm (cne x c hc)),λj y v' e1 e2 e3=>?_⟩,λy c' e=>?_,I.free,I.freeC,λp hp=>?_,tracked ⟨oc,hoc,I.freeC x c hc⟩ hs,by simpa using I.len⟩ ⟨c,hs,.inr hc⟩
  ·exact(hs.2 b (QQ (QS (Qz e) (I.ok.cab x c hfn hc)))).trans (I.base.keep b o e n hb hx)
  ·obtain⟨sl,e1⟩:=I.base.slot b o e n hb hx
   exact⟨sl,(hs.2 b (QQ (QS (Qz e) (I.ok.cab x c hfn hc)))).trans e1⟩
  ·obtain⟨o',e1⟩:=I.base.there b o e hx
   exact⟨o',(hs.2 b (QQ (QS (Qz e) (I.ok.cab x c hfn hc)))).trans e1⟩
  ·by_cases hj:j=i
   ·subst hj
    rw[hi] at e1;cases e1;rw[List.getElem?_set_self hiσ] at e2;cases e2;exact⟨u,r,.inr ⟨.inl hk,c,hc,hc'⟩⟩
   ·rw[List.getElem?_set_ne (Ne.symm hj)] at e2
    obtain⟨u',r',q⟩:=hl j y v' e1 e2 e3;refine⟨u',r',?_⟩;rcases q with q | ⟨k,c',e,z'⟩
    ·exact .inl q
    ·refine .inr ⟨k,c',e,z'.sameBut hs ?_⟩
     rintro rfl;exact hj (pd hN e1 (I.ok.inj _ _ _ e hc▸hi))
  ·by_cases hcc:c'=c
   ·subst hcc;exact⟨_,hc'⟩
   ·obtain⟨w2,z2⟩:=I.cell y c' e
    exact⟨w2,z2.sameBut hs hcc⟩
  ·obtain⟨e,n,ne,nf,d⟩:=I.pin p hp
   refine⟨(hs.2 p.1 ?_).trans e,n,ne,nf,d⟩;intro q;rw[q,hoc] at e;have q':oc=p.2:=Option.some.inj e;exact d w' (by rw[<-q'];exact hocd)
theorem gX{M:Model}{A:QU}{E:Qb->Qc->Prop}{i:Nat}{x:Str}{v:V}{u:Qb}{Q:Unit->Qc->Prop}(I:Inv X pins σ H s)(hN:X.N.Nodup)(hi:X.N[i]?=some x)(hx:Loc X.env.scope x)(r:ba v u)
  (h:∀s',Inv X pins (σ.set i (some v)) H s'->Q () s') (hf:X.fn x=true\/X.env.scope.names.lookup x=some .local:=by first | exact .inl rfl | exact .inr rfl | assumption):Qm M A (storeName X.env x u) Q E s:=
 vK I hN hi hx r (λs' I' _=>h s' I') hf
theorem Inv.call'{s':Qc}{ch:List Addr}(I:Inv X pins σ H s)(ho:s'.os=s.os)(u:Un (frs X.stack) ch H H' s.heap s'.heap)(hok:HOk X.prog X.w H' s'.heap)(hg:AllBare s'.gens)
  (hch:∀b∈ch,(b∈X.ex\/X.s₀.heap.objs.size<=b)/\b≠X.env.locals/\(∀x c,X.env.cells.lookup x=some c->c≠b)/\∀p∈X.pn++pins,p.1≠b):Inv X pins σ H' s':=by
 obtain⟨h',g',d',t',o'⟩:=s';have e:o'=s.os:=ho;subst e;exact I.call (g':=g') (t':=t') (d':=d') u hok hg hch
end
abbrev XK:=Qb->Option Addr->Hp->Prop
abbrev St:=List (Option V)
abbrev VK:=V->Hp->Prop
abbrev TE:=St->Hp->VK->Prop
abbrev TT:=St->Hp->(Bool->Hp->Prop)->Prop
abbrev TA:=St->Hp->(List V->Hp->Prop)->Prop
structure Ends where
 nx:St->Hp->Prop
 rt:VK
 bk:St->Hp->Prop:=λ_ _=>False
 ct:St->Hp->Prop:=λ_ _=>False
abbrev TS:=Ends->St->Hp->Prop
def EP(X:Cx)(pins:List (Addr×Obj))(σ:St)(Q:VK)(u:Qb)(s':Qc):Prop:=∃v H',Inv X pins σ H' s'/\ba v u/\Q v H'
def TP(X:Cx)(pins:List (Addr×Obj))(σ:St)(Q:Bool->Hp->Prop)(b:Bool)(s':Qc):Prop:=∃H',Inv X pins σ H' s'/\Q b H'
def AP(X:Cx)(pins:List (Addr×Obj))(σ:St)(Q:List V->Hp->Prop)(us:List Qb)(s':Qc):Prop:=∃vs H',Inv X pins σ H' s'/\a9 vs us/\Q vs H'
def SP(X:Cx)(pins:List (Addr×Obj))(D:Ends)(f:Flow)(s':Qc):Prop:=
 match f with
 |.next=>∃σ' H',Inv X pins σ' H' s'/\D.nx σ' H'
 |.brk=>∃σ' H',Inv X pins σ' H' s'/\D.bk σ' H'
 |.cont=>∃σ' H',Inv X pins σ' H' s'/\D.ct σ' H'
 |.ret u=>∃v σ' H',Inv X pins σ' H' s'/\ba v u/\D.rt v H'
def PE(X:Cx)(e:Expr)(t:TE):Prop:=
 ∀(pins:List (Addr×Obj)) (s:Qc) (σ:St) (H:Hp) (Q:VK),Inv X pins σ H s->t σ H Q->Qm (Qo X.prog X.w) X.A (eval e X.env) (EP X pins σ Q) X.xe s
def PT(X:Cx)(e:Expr)(t:TT):Prop:=
 ∀(pins:List (Addr×Obj)) (s:Qc) (σ:St) (H:Hp) (Q:Bool->Hp->Prop),Inv X pins σ H s->t σ H Q->Qm (Qo X.prog X.w) X.A (isTrue e X.env (eval e X.env)) (TP X pins σ Q) X.xe s
def PW(X:Cx)(e:Expr)(t:TT):Prop:=
 ∀(whole:Sem Qb) (pins:List (Addr×Obj)) (s:Qc) (σ:St) (H:Hp) (Q:Bool->Hp->Prop),Inv X pins σ H s->t σ H Q->Qm (Qo X.prog X.w) X.A (isTrue e X.env whole) (TP X pins σ Q) X.xe s
theorem PW.pt{X:Cx}{e:Expr}{t:TT}(h:PW X e t):PT X e t:=h _
def PA(X:Cx)(es:List Expr)(t:TA):Prop:=
 ∀(pos:Pos) (pins:List (Addr×Obj)) (s:Qc) (σ:St) (H:Hp) (Q:List V->Hp->Prop),Inv X pins σ H s->t σ H Q->Qm (Qo X.prog X.w) X.A (spliced (JG pos (Qy es X.env))) (AP X pins σ Q) X.xe s
def PS(X:Cx)(st:Stmt)(t:TS):Prop:=
 ∀(pins:List (Addr×Obj)) (s:Qc) (σ:St) (H:Hp) (D:Ends),Inv X pins σ H s->t D σ H->Qm (Qo X.prog X.w) X.A (exec st X.env) (SP X pins D) X.xe s
def PSs(X:Cx)(st:List Stmt)(t:TS):Prop:=
 ∀(pins:List (Addr×Obj)) (s:Qc) (σ:St) (H:Hp) (D:Ends),Inv X pins σ H s->t D σ H->Qm (Qo X.prog X.w) X.A (execs st X.env) (SP X pins D) X.xe s
theorem thn{α:Type}{t:Sem α}{Q Q':α->Qc->Prop}{M:Model}{A:QU}{E:Qb->Qc->Prop}{s:Qc}(h:Qm M A t Q E s)(hQ:∀a s,Q a s->Q' a s):Qm M A t Q' E s:=QV h hQ λ_ _ x=>x
section
variable{X:Cx}
theorem bin{a b:Expr}{ta tb:TE}(ha:PE X a ta)(hb:PE X b tb){pins:List (Addr×Obj)}{s:Qc}{σ:St}{H:Hp}{R:V->V->Hp->Prop}(I:Inv X pins σ H s)(h:ta σ H λx H1=>tb σ H1 λy H2=>R x y H2)
  {α:Type} {Q:α->Qc->Prop} {f:Qb->Qb->Sem α}
  (hf:∀v u s2 x y H2,Inv X pins σ H2 s2->ba x v->ba y u->R x y H2->Qm (Qo X.prog X.w) X.A (f v u) Q X.xe s2) :
  Qm (Qo X.prog X.w) X.A (eval a X.env) (λv s₁=>Qm (Qo X.prog X.w) X.A (eval b X.env) (λu s₂=>Qm (Qo X.prog X.w) X.A (f v u) Q X.xe s₂) X.xe s₁) X.xe s:=by
 refine thn (ha pins s σ H _ I h) λv s1 ⟨x,H1,I1,r1,q1⟩=>?_;refine thn (hb pins s1 σ H1 _ I1 q1) λu s2 ⟨y,H2,I2,r2,q2⟩=>?_;exact hf v u s2 x y H2 I2 r1 r2 q2
def GD(i:Nat):TE:=λσ H Q=>∃v,σ[i]?=some (some v)/\Q v H
def tC(v:V):TE:=λ_ H Q=>Q v H
theorem lP{i:Nat}{x:Str}{pos:Pos}(hN:X.N[i]?=some x)(hv:Vis X.env.scope x)(hd:(x==("__debug__" : Str))=false:=by decide)(hcd:(x==("__classdict__" : Str))=false:=by decide):PE X (.Name x pos) (GD i):=by
 intro pins s σ H Q I h;obtain⟨v,e,h⟩:=h;obtain⟨m,hn,hl⟩:=I.loc;obtain⟨u,r,l⟩:=hl i x v hN e hv;have fin:EP X pins σ Q u s:=⟨v,H,I,r,h⟩;rcases l with⟨hk,hm⟩ | ⟨hk,c,hc,hcell⟩
 ·exact wpAny_Name (wpAny_loadName_local I.ok.kind hk hn hm fin) hd
 ·rcases hk with hk | hk
  ·exact wpAny_Name (wpAny_loadName_cell I.ok.kind hk hc hcell fin) hd
  ·exact wpAny_Name (wpAny_loadName_free I.ok.kind hk hc hcell fin hcd) hd
theorem El{i j pos}:PE X (.Constant (.int i) j pos) (tC (.int i)):=λ_ _ _ H _ I h=>wpAny_Constant_int ⟨.int i,H,I.tok _,⟨_,rfl⟩,h⟩
theorem Fd{b j pos}:PE X (.Constant (.bool b) j pos) (tC (.bl b)):=λ_ _ _ H _ I h=>Constant_bool ⟨.bl b,H,I,rfl,h⟩
theorem C6{j pos}:PE X (.Constant .none j pos) (tC .non):=λ_ _ _ H _ I h=>Constant_none ⟨.non,H,I,rfl,h⟩
theorem CC{x j pos}:PE X (.Constant (.str x) j pos) (tC (.str x)):=λ_ _ _ H _ I h=>Calls.Constant_str ⟨.str x,H,I.tok _,⟨_,rfl⟩,h⟩
def Gl(X:Cx)(x:Str):Prop:=X.env.kindOf x=some .globalImplicit
theorem uk{E:Qb->Qc->Prop}{pins:List (Addr×Obj)}{s:Qc}{σ:St}{H:Hp}{x:Str}{u:Qb}{pos:Pos}{Q:Qb->Qc->Prop}(I:Inv X pins σ H s)(hg:Gl X x)(hm:X.mg x=some u)(h:Q u s)
  (hd:(x==("__debug__" : Str))=false:=by decide):Qm (Qo X.prog X.w) X.A (eval (.Name x pos) X.env) Q E s:=
 Calls.Name_function_global I.ok.kind hg (Calls.loadGlobal_global (by rw[I.ok.glob];exact I.mod.glob.keeps I.bk) hm h) hd
theorem iT{E:Qb->Qc->Prop}{pins:List (Addr×Obj)}{s:Qc}{σ:St}{H:Hp}{x:Str}{u:Qb}{pos:Pos}{Q:Qb->Qc->Prop}(I:Inv X pins σ H s)(hg:Gl X x)(hm:X.mg x=none)(hv:ZL x=some u)(h:Q u s)
  (hn:x≠"__name__":=by decide) (hd:(x==("__debug__" : Str))=false:=by decide):Qm (Qo X.prog X.w) X.A (eval (.Name x pos) X.env) Q E s:=by
 obtain⟨mb,h1,h2⟩:=I.mod.blt;exact Calls.Name_function_global I.ok.kind hg (Calls.loadGlobal_builtin (by rw[I.ok.glob];exact I.mod.glob.keeps I.bk) hm (by rw[I.ok.blt];exact h1.keeps I.bk) ((h2 x hn).trans hv) h) hd
theorem sR{x:Str}{v:V}{u:Qb}{pos:Pos}(hg:Gl X x)(hm:X.mg x=some u)(r:ba v u)(hd:(x==("__debug__" : Str))=false:=by decide):PE X (.Name x pos) (tC v):=
 λ_ _ _ H _ I h=>uk I hg hm ⟨v,H,I,r,h⟩ hd
theorem Ab{x:Str}{v:V}{u:Qb}{pos:Pos}(hg:Gl X x)(hm:X.mg x=none)(hv:ZL x=some u)(r:ba v u)(hn:x≠"__name__":=by decide)(hd:(x==("__debug__" : Str))=false:=by decide):PE X (.Name x pos) (tC v):=
 λ_ _ _ H _ I h=>iT I hg hm hv ⟨v,H,I,r,h⟩ hn hd
variable{a b:Expr}{ta tb:TE}{pos:Pos}
variable{tA tB':TT}{rest:List Expr}
def Gh(t u:TT):TT:=λσ H Q=>t σ H λc H1=>if c=true then u σ H1 Q else Q false H1
def tOr(t u:TT):TT:=λσ H Q=>t σ H λc H1=>if c=true then Q true H1 else u σ H1 Q
def GB(t:TT):TT:=λσ H Q=>t σ H λc H1=>Q (!c) H1
theorem zG(ha:PT X a tA):PW X (.BoolOp .And [a] pos) tA:=by
 intro wh pins s σ H Q I h;refine isTrue_and (thn (ha pins s σ H Q I h) λc s1 e=>?_);cases c with
 |true=>exact isTrue_and_nil e
 |false=>exact e
theorem Di(ha:PT X a tA):PW X (.BoolOp .Or [a] pos) tA:=by
 intro wh pins s σ H Q I h;refine isTrue_or (thn (ha pins s σ H Q I h) λc s1 e=>?_);cases c with
 |false=>exact isTrue_or_nil e
 |true=>exact e
theorem CD(ha:PT X a tA)(hb:PW X (.BoolOp .And (b::rest) pos) tB'):PW X (.BoolOp .And (a::b::rest) pos) (Gh tA tB'):=by
 intro wh pins s σ H Q I h;refine isTrue_and (thn (ha pins s σ H _ I h) λc s1 ⟨H1,I1,q1⟩=>?_);cases c with
 |true=>exact hb wh pins s1 σ H1 Q I1 q1
 |false=>exact⟨H1,I1,q1⟩
theorem Gf(ha:PT X a tA)(hb:PW X (.BoolOp .Or (b::rest) pos) tB'):PW X (.BoolOp .Or (a::b::rest) pos) (tOr tA tB'):=by
 intro wh pins s σ H Q I h;refine isTrue_or (thn (ha pins s σ H _ I h) λc s1 ⟨H1,I1,q1⟩=>?_);cases c with
 |true=>exact⟨H1,I1,q1⟩
 |false=>exact hb wh pins s1 σ H1 Q I1 q1
theorem CM(ha:PT X a tA):PT X (.UnaryOp .Not a pos) (GB tA):=by
 intro pins s σ H Q I h;exact isTrue_not (ha pins s σ H (λc H1=>Q (!c) H1) I h)
def FC(ta tb:TE):TE:=λσ H Q=>ta σ H λx H1=>∃c,x=.bl c/\if c=true then tb σ H1 Q else Q (.bl false) H1
theorem CV{op}{t:TE}(h:PE X a t):PE X (.BoolOp op [a] pos) t:=λpins s σ H Q I hw=>BoolOp_one (h pins s σ H Q I hw)
theorem Dk(ha:PE X a ta)(hb:PE X (.BoolOp .And (b::rest) pos) tb):PE X (.BoolOp .And (a::b::rest) pos) (FC ta tb):=by
 intro pins s σ H Q I h;refine BoolOp_and (thn (ha pins s σ H _ I h) λv s1 ⟨x,H1,I1,r1,q1⟩=>?_);obtain⟨c,rfl,q1⟩:=q1;cases r1;refine JN ?_;cases c with
 |true=>exact hb pins s1 σ H1 Q I1 q1
 |false=>exact⟨.bl false,H1,I1,rfl,q1⟩
end
def SqL(K:Qe)(H:Hp)(a:Addr)(xs:List V):Prop:=
 Rd H a (.lst xs)\/
  ∃(o:Obj) (its:Array Qb) (n:Nat),K.lookup a=some o/\o.cls=.type "list"/\o.dict=none/\o.data=.seq its n/\its.size<=QO/\a9 xs its.toList
def SqT(K:Qe)(H:Hp)(a:Addr)(xs:List V):Prop:=
 Rd H a (.tup xs)\/
  ∃(o:Obj) (its:Array Qb) (n:Nat),K.lookup a=some o/\o.cls=.type "tuple"/\o.data=.seq its n/\its.size<=QO/\a9 xs its.toList
def GV:Qb->Option V
 |.none=>some .non
 |.bool b=>some (.bl b)
 |.int i _=>some (.int i)
 |.str x _=>some (.str x)
 |.bytes b _=>some (.byt b)
 |.float b _=>some (.flt b)
 |.ref a=>some (.ref a)
 |.type n=>some (.ty n)
 |_=>none
theorem ba.abs{x:V}{u:Qb}(r:ba x u):GV u=some x:=by
 cases x with
 |non=>cases r;rfl
 |bl _=>cases r;rfl
 |int _=>obtain⟨t,rfl⟩:=r;rfl
 |str _=>obtain⟨t,rfl⟩:=r;rfl
 |byt _=>obtain⟨t,rfl⟩:=r;rfl
 |flt _=>obtain⟨t,rfl⟩:=r;rfl
 |ref _=>cases r;rfl
 |ty _=>cases r;rfl
theorem ba.inj{x y:V}{u:Qb}(r:ba x u)(q:ba y u):x=y:=Option.some.inj (r.abs.symm.trans q.abs)
theorem a9.inj:∀{xs ys:List V} {us:List Qb},a9 xs us->a9 ys us->xs=ys:=λ{xs ys us} h=>by
 induction h generalizing ys with
 |nil=>intro g;cases g;rfl
 |cons r t ih=>intro g;cases g with | cons r' t'=>rw[r.inj r',ih t']
section
variable{X:Cx}{pins:List (Addr×Obj)}{σ:St}{H:Hp}{s:Qc}{a:Addr}{xs ys:List V}
theorem SqL.of{K:Qe}(h:H a=some (.lst xs)):SqL K H a xs:=.inl (.inl h)
theorem SqT.of{K:Qe}(h:H a=some (.tup xs)):SqT K H a xs:=.inl (.inl h)
theorem Inv.list(I:Inv X pins σ H s)(h:SqL X.K H a xs):∃its:List Qb,a9 xs its/\PlainL s.heap a its.toArray/\xs.length<=QO:=by
 rcases h with h | ⟨o,its,n,hk,hc,hd,hs,hz,r⟩
 ·obtain⟨z,its,n,r,e⟩:=h.ok I.hok
  exact⟨its,r,⟨_,n,e,rfl,rfl,rfl⟩,z⟩
 ·refine⟨its.toList,r,⟨o,n,I.kIn a o hk,hc,hd,by simpa using hs⟩,?_⟩
  have e:=r.length;simp only[Qu] at e
  lia
theorem Inv.tuple(I:Inv X pins σ H s)(h:SqT X.K H a xs):∃its:List Qb,a9 xs its/\IsTup s.heap a its.toArray/\xs.length<=QO:=by
 rcases h with h | ⟨o,its,n,hk,hc,hs,hz,r⟩
 ·obtain⟨z,its,r,p⟩:=h.ok I.hok
  exact⟨its,r,p,z⟩
 ·refine⟨its.toList,r,⟨o,I.kIn a o hk,hc,n,by simpa using hs⟩,?_⟩
  have e:=r.length;simp only[Qu] at e
  lia
theorem Inv.list_inj(I:Inv X pins σ H s)(h:SqL X.K H a xs)(h':SqL X.K H a ys):xs=ys:=by
 obtain⟨its,r,⟨o,n,e,_,_,d⟩,_⟩:=I.list h;obtain⟨its',r',⟨o',n',e',_,_,d'⟩,_⟩:=I.list h';rw[e] at e';cases e';rw[d] at d';injection d' with d1 _
 have:its=its':=by simpa using congrArg Array.toList d1
 subst this;exact r.inj r'
theorem Inv.tuple_inj(I:Inv X pins σ H s)(h:SqT X.K H a xs)(h':SqT X.K H a ys):xs=ys:=by
 obtain⟨its,r,⟨o,e,_,n,d⟩,_⟩:=I.tuple h;obtain⟨its',r',⟨o',e',_,n',d'⟩,_⟩:=I.tuple h';rw[e] at e';cases e';rw[d] at d';injection d' with d1 _
 have:its=its':=by simpa using congrArg Array.toList d1
 subst this;exact r.inj r'
end
abbrev Cx.wish(X:Cx)(E:Qb->Qc->Prop):Cx:={ X with xe:=E }
abbrev Cx.nox(X:Cx):Cx:=X.wish λ_ _=>False
theorem Cx.Ok.wish{X:Cx}(ok:X.Ok)(E:Qb->Qc->Prop):(X.wish E).Ok:=
 ⟨ok.mod,ok.kind,ok.glob,ok.blt,ok.above,ok.inj,ok.has,ok.cab,ok.hd,ok.frames,ok.stk,ok.exf,ok.bs,ok.bsz,ok.noex,ok.exfs,ok.funs,ok.frf⟩
theorem Cx.Ok.unwish{X:Cx}{E:Qb->Qc->Prop}(ok:(X.wish E).Ok):X.Ok:=
 ⟨ok.mod,ok.kind,ok.glob,ok.blt,ok.above,ok.inj,ok.has,ok.cab,ok.hd,ok.frames,ok.stk,ok.exf,ok.bs,ok.bsz,ok.noex,ok.exfs,ok.funs,ok.frf⟩
section
variable{X:Cx}{pins:List (Addr×Obj)}{σ:St}{H:Hp}{s:Qc}{E:Qb->Qc->Prop}
theorem Inv.wish(I:Inv X pins σ H s)(E:Qb->Qc->Prop):Inv (X.wish E) pins σ H s:=⟨I.ok.wish E,I.os,I.bare,I.base,I.loc,I.cell,I.free,I.freeC,I.pin,I.hok,I.len⟩
theorem Inv.unwish(I:Inv (X.wish E) pins σ H s):Inv X pins σ H s:=⟨I.ok.unwish,I.os,I.bare,I.base,I.loc,I.cell,I.free,I.freeC,I.pin,I.hok,I.len⟩
theorem SP.unwish{D:Ends}{f:Flow}{s':Qc}(h:SP (X.wish E) pins D f s'):SP X pins D f s':=by
 cases f with
 |next=>obtain⟨σ',H',I,q⟩:=h;exact⟨σ',H',I.unwish,q⟩
 |brk=>obtain⟨σ',H',I,q⟩:=h;exact⟨σ',H',I.unwish,q⟩
 |cont=>obtain⟨σ',H',I,q⟩:=h;exact⟨σ',H',I.unwish,q⟩
 |ret u=>obtain⟨v,σ',H',I,r,q⟩:=h;exact⟨v,σ',H',I.unwish,r,q⟩
theorem PE.nox{e:Expr}{t:TE}(h:PE X.nox e t):PE X e t:=λpins s σ H Q I hw=>
 QV (h pins s σ H Q (I.wish _) hw) (λ_ _ ⟨v,H',I',r,q⟩=>⟨v,H',I'.unwish,r,q⟩) λ_ _ z=>Zo z
theorem PT.nox{e:Expr}{t:TT}(h:PT X.nox e t):PT X e t:=λpins s σ H Q I hw=>
 QV (h pins s σ H Q (I.wish _) hw) (λ_ _ ⟨H',I',q⟩=>⟨H',I'.unwish,q⟩) λ_ _ z=>Zo z
theorem PSs.nox{st:List Stmt}{t:TS}(h:PSs X.nox st t):PSs X st t:=λpins s σ H D I hw=>
 QV (h pins s σ H D (I.wish _) hw) (λ_ _ q=>q.unwish) λ_ _ z=>Zo z
end
section
variable{X:Cx}{st:Stmt}{rest:List Stmt}{t u:TS}{e:Expr}{te:TE}{pos:Pos}
def Fw:TS:=λD σ H=>D.nx σ H
def GC(t u:TS):TS:=λD σ H=>t { D with nx:=u D } σ H
theorem nR:PSs X [] Fw:=λ_ _ σ H _ I h=>wpAny_execs_nil ⟨σ,H,I,h⟩
theorem gY(h1:PS X st t)(h2:PSs X rest u):PSs X (st::rest) (GC t u):=by
 intro pins s σ H D I h;refine wpAny_execs_cons (thn (h1 pins s σ H { D with nx:=u D } I h) λf s1 q=>?_);cases f with
 |next=>
  obtain⟨σ',H',I',q⟩:=q;exact h2 pins s1 σ' H' D I' q
 |ret v=>exact q
 |brk=>exact q
 |cont=>exact q
theorem kz(h1:PS X st t):PSs X [st] t:=by
 intro pins s σ H D I h;refine wpAny_execs_cons (thn (h1 pins s σ H D I h) λf s1 q=>?_);cases f with
 |next=>exact wpAny_execs_nil q
 |ret v=>exact q
 |brk=>exact q
 |cont=>exact q
def Ff:TS:=λD σ H=>D.ct σ H
theorem pZ:PS X (.Continue pos) Ff:=λ_ _ σ H _ I h=>wpAny_Continue ⟨σ,H,I,h⟩
theorem Inv.quiet{pins:List (Addr×Obj)}{σ:St}{H:Hp}{s:Qc}(I:Inv X pins σ H s):interactive X.env=false:=by simp[interactive,I.ok.kind]
def ES(te:TE):TS:=λD σ H=>te σ H λ_ H1=>D.nx σ H1
theorem tE(he:PE X e te)(hs:ZM e none pos.line X.env=pure false:=by rfl):PS X (.Expr e pos) (ES te):=by
 intro pins s σ H D I h;exact wpAny_Expr_any (thn (he pins s σ H _ I h) λv s1 ⟨x,H1,I1,r1,q1⟩=>⟨σ,H1,I1,q1⟩) I.quiet hs
def Gr(te:TE):TS:=λD σ H=>te σ H D.rt
theorem DX(he:PE X e te):PS X (.Return (some e) pos) (Gr te):=by
 intro pins s σ H D I h;exact wpAny_Return_some (thn (he pins s σ H _ I h) λv s1 ⟨x,H1,I1,r1,q1⟩=>⟨x,σ,H1,I1,r1,q1⟩)
def Gj(c:TT)(t u:TS):TS:=λD σ H=>c σ H λb H1=>if b=true then t D σ H1 else u D σ H1
theorem wH{c:Expr}{a b:List Stmt}{tc:TT}(hc:PT X c tc)(ha:PSs X a t)(hb:PSs X b u):PS X (.If c a b pos) (Gj tc t u):=by
 intro pins s σ H D I h;refine wpAny_If (thn (hc pins s σ H _ I h) λd s1 ⟨H1,I1,q1⟩=>?_);cases d with
 |true=>exact ha pins s1 σ H1 D I1 q1
 |false=>exact hb pins s1 σ H1 D I1 q1
def yq:TS:=λ_ _ _=>False
theorem w_:PS X st yq:=λ_ _ _ _ _ _ h=>h.elim
theorem uZ{sts:List Stmt}:PSs X sts yq:=λ_ _ _ _ _ _ h=>h.elim
end
abbrev TG:=V->St->Hp->(St->Hp->Prop)->Prop
abbrev TGs:=List V->St->Hp->(St->Hp->Prop)->Prop
def PG(X:Cx)(target:Expr)(t:TG):Prop:=
 ∀(pins:List (Addr×Obj)) (s:Qc) (σ:St) (H:Hp) (v:V) (u:Qb) (Q:St->Hp->Prop),Inv X pins σ H s->ba v u->t v σ H Q->
  Qm (Qo X.prog X.w) X.A (ZC target X.env u) (λ_ s'=>∃σ' H',Inv X pins σ' H' s'/\Q σ' H') X.xe s
def PGs(X:Cx)(ts:List Expr)(t:TGs):Prop:=
 ∀(pins:List (Addr×Obj)) (s:Qc) (σ:St) (H:Hp) (vs:List V) (us:List Qb) (Q:St->Hp->Prop),Inv X pins σ H s->a9 vs us->t vs σ H Q->
  Qm (Qo X.prog X.w) X.A (assignInOrder ((Jm ts X.env).map (·.2)) us) (λ_ s'=>∃σ' H',Inv X pins σ' H' s'/\Q σ' H') X.xe s
abbrev CN:=V->V->V->Hp->(Hp->Prop)->Prop
def Fy(X:Cx)(t:CN):Prop:=
 ∀(pins:List (Addr×Obj)) (s:Qc) (σ:St) (H:Hp) (o i v:V) (ov iv u:Qb) (Q:Hp->Prop),Inv X pins σ H s->ba o ov->ba i iv->ba v u->t o i v H Q->
  Qm (Qo X.prog X.w) X.A (setItem ov iv u) (λ_ s'=>∃H',Inv X pins σ H' s'/\Q H') X.xe s
section
variable{X:Cx}{pos:Pos}
def BV(i:Nat):TG:=λv σ H Q=>Q (σ.set i (some v)) H
theorem t_{i:Nat}{x:Str}(hN:X.N.Nodup)(hi:X.N[i]?=some x)(hx:Loc X.env.scope x)(hf:X.fn x=true\/X.env.scope.names.lookup x=some .local:=by first | exact .inl rfl | exact .inr rfl | assumption):PG X (.Name x pos) (BV i):=by
 intro pins s σ H v u Q I r h;exact wpAny_assign_Name (gX I hN hi hx r (λs' I'=>⟨_,H,I',h⟩) hf)
def Gz:TGs:=λvs σ H Q=>vs=[]/\Q σ H
def Gb(t:TG)(u:TGs):TGs:=λvs σ H Q=>∃v r,vs=v::r/\t v σ H λσ' H'=>u r σ' H' Q
theorem ux:PGs X [] Gz:=by
 intro pins s σ H vs us Q I r h;obtain⟨e,h⟩:=h;subst e;cases r;exact assignInOrder_nil ⟨σ,H,I,h⟩
theorem qa{e:Expr}{es:List Expr}{t:TG}{u:TGs}(h1:PG X e t)(h2:PGs X es u)
  (hs:(Jm (e::es) X.env).map (·.2)=ZC e X.env::(Jm es X.env).map (·.2):=by rfl):PGs X (e::es) (Gb t u):=by
 intro pins s σ H vs us Q I r h;obtain⟨v,vr,e1,h⟩:=h;subst e1;cases r with
 |cons r rr=>
  rw[hs];refine assignInOrder_cons (thn (h1 pins s σ H _ _ _ I r h) λ_ s1 ⟨σ1,H1,I1,q1⟩=>?_);exact h2 pins s1 σ1 H1 _ _ Q I1 rr q1
def Gi(K:Qe)(n:Nat)(t:TGs):TG:=λv σ H Q=>∃a xs,v=.ref a/\SqT K H a xs/\xs.length=n/\t xs σ H Q
theorem r8{es:List Expr}{k:Nat}{t:TGs}{n:Nat}(hc:X.calm=true)(h:PGs X es t)
  (hn:(Jm es X.env).length=n:=by rfl) (hst:(Jm es X.env).findIdx? (·.1)=none:=by rfl):PG X (.Tuple es k pos) (Gi X.K n t):=by
 intro pins s σ H v u Q I r hw;obtain⟨a,xs,e1,hq,hl,hw⟩:=hw;subst e1;cases r;obtain⟨its,rv,ht,hz⟩:=I.tuple hq;refine assign_Tuple_tuple (I.ok.hd hc) ht (by simp[hn,<-hl,rv.length]) hst λh' hx=>?_;have I1:Inv X pins σ H { s with heap:=h' }:=I.kept (t':=s.toks) λb o e=>hx b o (QQ (Qz e)) e;exact h pins _ σ H xs _ Q I1 (by simpa using rv) hw
def GL(to ti:TE)(t:CN):TG:=λv σ H Q=>to σ H λo H1=>ti σ H1 λi H2=>t o i v H2 λH3=>Q σ H3
theorem Dg{o i:Expr}{to ti:TE}{t:CN}(ho:PE X o to)(hi:PE X i ti)(hs:Fy X t)
  (ha:∀v,ZC (.Subscript o i pos) X.env v=(do
   let ov<-holding [v] (eval o X.env);let iv<-holding [v,ov] (eval i X.env)
   standAt pos
   holding [v,ov,iv] (setItem ov iv v)
   release [v,ov,iv] []):=by intro _;rfl):PG X (.Subscript o i pos) (GL to ti t):=by
 intro pins s σ H v u Q I r h;rw[ha];refine Qa (Q0 (thn (ho pins s σ H _ I h) λov s1 ⟨x,H1,I1,r1,q1⟩=>?_));refine Qa (Q0 (thn (hi pins s1 σ H1 _ I1 q1) λiv s2 ⟨y,H2,I2,r2,q2⟩=>?_));refine Qa (JX (Qa (Q0 (thn (hs pins s2 σ H2 x y v ov iv u _ I2 r1 r2 r q2) λ_ s3 ⟨H3,I3,q3⟩=>?_))));exact wpAny_release ⟨σ,H3,I3,q3⟩
def F7(te:TE)(g:TG):TS:=λD σ H=>te σ H λx H1=>g x σ H1 D.nx
theorem yp{tg e:Expr}{te:TE}{g:TG}(he:PE X e te)(hg:PG X tg g)(hs:swapsWithSole [tg] e pos.line X.env=pure false:=by rfl)(hw:swappedStores [tg] e X.env=pure none:=by rfl)
  (h1:(Jm [tg] X.env).map (·.2)=[ZC tg X.env]:=by rfl):PS X (.Assign [tg] e pos) (F7 te g):=by
 intro pins s σ H D I h;refine wpAny_Assign_stores (thn (he pins s σ H _ I h) λv s1 ⟨x,H1,I1,r1,q1⟩=>?_) hs hw;rw[h1];exact thn (hg pins s1 σ H1 x v _ I1 r1 q1) λ_ s2 q=>q
theorem lT{i:Nat}{x:Str}{e:Expr}{te:TE}{pos':Pos}(hN:X.N.Nodup)(hi:X.N[i]?=some x)(hx:Loc X.env.scope x)(he:PE X e te)(hs:ZM e (some (.Name x pos')) pos.line X.env=pure false:=by rfl)(hf:X.fn x=true\/X.env.scope.names.lookup x=some .local:=by first | exact .inl rfl | exact .inr rfl | assumption) :
  PS X (.Assign [.Name x pos'] e pos) (F7 te (BV i)):=by
 intro pins s σ H D I h;refine wpAny_Assign_Name (thn (he pins s σ H _ I h) λv s1 ⟨y,H1,I1,r1,q1⟩=>?_) hs;exact gX I1 hN hi hx r1 (λs2 I2=>⟨_,H1,I2,q1⟩) hf
def Gk(i j:Nat)(ta:TA):TS:=λD σ H=>ta σ H λvs H1=>∃v w,vs=[v,w]/\D.nx ((σ.set i (some v)).set j (some w)) H1
theorem Ef{i j:Nat}{x y:Str}{a b:Expr}{ta:TA}{px py pt:Pos}{kt k2 pt2}(hc:X.calm=true)(hN:X.N.Nodup)(hi:X.N[i]?=some x)(hj:X.N[j]?=some y)(hij:i≠j)
  (hx:X.env.scope.names.lookup x=some .local) (hy:X.env.scope.names.lookup y=some .local) (ha:PA X [a,b] ta)
  (hw:swappedStores [.Tuple [.Name x px,.Name y py] kt pt] (.Tuple [a,b] k2 pt2) X.env=pure (some [x,y]))
  (hs:swapsWithSole [.Tuple [.Name x px,.Name y py] kt pt] (.Tuple [a,b] k2 pt2) pos.line X.env=pure false:=by rfl) :
  PS X (.Assign [.Tuple [.Name x px,.Name y py] kt pt] (.Tuple [a,b] k2 pt2) pos) (Gk i j ta):=by
 intro pins s σ H D I h;rw[exec_Assign_arm];refine Qa (JX ?_);rw[hs];refine Qa (Qd ?_);rw[if_neg (by decide)];refine Qa (Tuple_ (thn (ha _ pins s σ H _ I h) λus s1 ⟨vs,H1,I1,r1,q1⟩=>?_));obtain⟨v,w,e1,q1⟩:=q1;subst e1
 obtain⟨u1,u2,rfl,rv,rw'⟩:∃u1 u2,us=[u1,u2]/\ba v u1/\ba w u2:=by
  cases r1 with
  |cons p q=>
   cases q with
   |cons p' q'=>
    cases q';exact⟨_,_,rfl,p,p'⟩
 refine Jd ?_ (by show 2<=QO;decide);have I2:Inv X pins σ H1 { s1 with heap:=s1.heap.push { cls:=.type "tuple",data:=.seq [u1,u2].toArray } }:=I1.kept (t':=s1.toks) λb o e=>Qh _ e;rw[hw];refine Qa (Qd ?_);show Qm (Qo X.prog X.w) X.A (do rule "assign.swapped-stores";let items<-unpackItems (.ref s1.heap.objs.size) 2 none;assignInOrder [λv=>bindName X.env y v,λv=>bindName X.env x v] items.reverse;pure Flow.next) _ _ _;refine Qa (wpAny_rule (Qa (unpackItems_tuple (items:=#[u1,u2]) (I.ok.hd hc) (IsTup.new s1.heap _) λh' hx'=>?_)));have I3:=I2.kept (h':=h') (t':=s1.toks) λb o e=>hx' b o (QQ (Qz e)) e;show Qm _ _ (assignInOrder [λv=>bindName X.env y v,λv=>bindName X.env x v] [u2,u1]>>=λ_=>pure Flow.next) _ _ _;refine Qa (assignInOrder_cons (wpAny_bindName (gX I3 hN hj (.inl hy) rw' (λs2 I4=>?_) (.inr hy))));refine assignInOrder_cons (wpAny_bindName (gX I4 hN hi (.inl hx) rv (λs3 I5=>assignInOrder_nil (Qd ?_)) (.inr hx)));rw[List.set_comm _ _ (Ne.symm hij)] at I5;exact⟨_,H1,I5,q1⟩
end
structure It where
 go:Nat->Hp->Prop
 yld:Nat->Hp->V->Hp->Prop
 stop:Nat->Hp->Prop
def jj(X:Cx)(pins:List (Addr×Obj))(H:Hp)(b:Addr):Prop:=
 H b=none/\b≠X.env.locals/\b∉X.fs/\(b∈X.ex\/X.s₀.heap.objs.size<=b)/\(∀x c,X.env.cells.lookup x=some c->c≠b)/\∀p∈X.pn++pins,p.1≠b
theorem Inv.fpOk{X:Cx}{pins:List (Addr×Obj)}{σ:St}{H H':Hp}{s:Qc}{b:Addr}(I:Inv X pins σ H s)(hb:s.heap.objs.size<=b)(hn:H' b=none):jj X pins H' b:=by
 refine⟨hn,Nat.ne_of_gt (QS I.lt hb),I.nofs hb,.inr (Q4 I.sz hb),λx c e z=>?_,λp hp z=>?_⟩
 ·obtain⟨v,q⟩:=I.cell x c e
  exact absurd (QS q.lt (by rw[z];exact hb)) (Ja _)
 ·exact absurd (QS (Qz (I.pin p hp).1) (by rw[z];exact hb)) (Ja _)
structure Turn(P:QJ)(w:QL)(K:Qe)(tg:Expr)(J:It)(fp:List Addr)(it:Addr)(tn:Nat->Heap->Prop):Prop where
 mem:it∈fp
 obj:∀i h,tn i h->∀b∈fp,∃o,h.get? b=some o/\∀v,o.data≠.cell v
 keep:∀i h h',tn i h->(∀b∈fp,∀o,h.get? b=some o->h'.get? b=some o)->tn i h'
 item:∀(X:Cx),X.prog=P->X.w=w->X.K=K->X.calm=true->∀(i:Nat) (pins:List (Addr×Obj)) (s:Qc) (σ:St) (H:Hp) (E:Qb->Qc->Prop),Inv X pins σ H s->(∀b∈fp,jj X pins H b)->tn i s.heap->J.go i H->
  Qm (Qo P w) X.A (pyNext (.ref it)) (λr s1=>∃u,r=some u/\
   Qm (Qo P w) X.A (Zp tg (.ref it) u) (λ_ s2=>∃x H',Inv X pins σ H' s2/\ba x u/\J.yld i H x H'/\tn (i+1) s2.heap/\∀b∈fp,H' b=none) E s1) E s
 done:∀(X:Cx),X.prog=P->X.w=w->X.K=K->X.calm=true->∀(i:Nat) (pins:List (Addr×Obj)) (s:Qc) (σ:St) (H:Hp) (E:Qb->Qc->Prop),Inv X pins σ H s->(∀b∈fp,jj X pins H b)->tn i s.heap->J.stop i H->
  Qm (Qo P w) X.A (pyNext (.ref it)) (λr s1=>r=none/\Inv X pins σ H s1) E s
 self:∀(A:QU) (i:Nat) (s:Qc) (Q:Qb->Qc->Prop) (E:Qb->Qc->Prop),tn i s.heap->Q (.ref it) s->Qm (Qo P w) A (pyIter (.ref it)) Q E s
abbrev TI:=St->Hp->(It->Hp->Prop)->Prop
def PIE(X:Cx)(pins:List (Addr×Obj))(σ:St)(tg:Expr)(R:It->Hp->Prop)(itv:Qb)(s2:Qc):Prop:=
 ∃(it:Addr) (fp:List Addr) (tn:Nat->Heap->Prop) (J:It) (H':Hp),itv=.ref it/\Inv X pins σ H' s2/\Turn X.prog X.w X.K tg J fp it tn/\tn 0 s2.heap/\(∀b∈fp,jj X pins H' b)/\R J H'
def PI(X:Cx)(tg iter:Expr)(wi:TI):Prop:=
 ∀(pins:List (Addr×Obj)) (s:Qc) (σ:St) (H:Hp) (R:It->Hp->Prop),Inv X pins σ H s->wi σ H R->
  Qm (Qo X.prog X.w) X.A (eval iter X.env) (λv s1=>Qm (Qo X.prog X.w) X.A (pyIter v) (PIE X pins σ tg R) X.xe s1) X.xe s
theorem uF{M:Model}{A:QU}{E:Qb->Qc->Prop}{s:Qc}{tg:Expr}{it:Addr}{u:Qb}{o:Obj}{n:String}{vs:Array Qb}{Q:Unit->Qc->Prop}(ho:s.heap.get? it=some o)(hc:o.cls=.type n)(hd:o.data=.fields vs)
  (hn:["enumerate","zip","dict_itemiterator","dict_reverseitemiterator","odict_iterator","itertools.zip_longest","itertools.pairwise"].contains n=false) (hQ:Q () s):Qm M A (Zp tg (.ref it) u) Q E s:=by
 unfold Zp
 cases tg<;>first
  |exact Qd hQ
  |(cases u<;>first
    |exact Qd hQ
    |(refine Qa (wpAny_load ho ?_)
      rw[hc,hd];show Qm M A (if(["enumerate","zip","dict_itemiterator","dict_reverseitemiterator","odict_iterator","itertools.zip_longest","itertools.pairwise"].contains n&&vs[0]?==some (rawInt _))=true then _ else _) Q E s;rw[if_neg (by intro h;rw[hn,Bool.false_and] at h;cases h)]
      exact Qd hQ))
def Itl(K:Qe)(a:Addr):It:=
 ⟨λi H=>∃xs x,SqL K H a xs/\xs[i]?=some x,λi H x H'=>H'=H/\∀xs,SqL K H a xs->xs[i]?=some x,λi H=>∃xs,SqL K H a xs/\xs.length<=i⟩
def Itt(K:Qe)(a:Addr):It:=
 ⟨λi H=>∃xs x,SqT K H a xs/\xs[i]?=some x,λi H x H'=>H'=H/\∀xs,SqT K H a xs->xs[i]?=some x,λi H=>∃xs,SqT K H a xs/\xs.length<=i⟩
def Itr(lo:Int)(n:Nat):It:=⟨λi _=>i<n,λi H x H'=>H'=H/\x=.int (lo+i),λi _=>n<=i⟩
theorem vV{P:QJ}{w:QL}{K:Qe}{tg:Expr}(a it:Addr):Turn P w K tg (Itl K a) [it] it (λi h=>h.IsListIter it a i) where
 mem:=by simp
 obj:=λi h st b hb=>by
  have e:b=it:=by simpa using hb
  subst e;obtain⟨o,e,c,d⟩:=st;exact⟨o,e,λv z=>by rw[d] at z;cases z⟩
 keep:=λi h h' st k=>st.at λo e=>k it (by simp) o e
 item:=by
  intro X hP hw hK hc i pins s σ H E I hf st hg;subst hP hw hK;obtain⟨xs,x,hq,hx⟩:=hg;obtain⟨its,rv,p,hz⟩:=I.list hq;obtain⟨u,hu,ru⟩:=rv.get hx;obtain⟨f0,f1,f2,f3,f4,f5⟩:=hf it (by simp);refine wpAny_pyNext_list_item st p.isList (x:=u) (by simpa using hu) λh' st' sb=>?_;have I1:Inv X pins σ H { s with heap:=h' }:=I.turned (t':=s.toks) (λb o hb e=>(sb.2 b hb).trans e) f0 f1 f3 f4 f5;obtain⟨o,e,c,d⟩:=id st';exact⟨u,rfl,uF (s:={ s with heap:=h' }) e c d (by decide) ⟨x,H,I1,ru,⟨rfl,λys hy=>by rw[I.list_inj hy hq];exact hx⟩,st',λb hb=>(hf b hb).1⟩⟩
 done:=by
  intro X hP hw hK hc i pins s σ H E I hf st hg;subst hP hw hK;obtain⟨xs,hq,hx⟩:=hg;obtain⟨its,rv,p,hz⟩:=I.list hq;obtain⟨f0,f1,f2,f3,f4,f5⟩:=hf it (by simp);have hl:=rv.length;exact wpAny_pyNext_list_end (I.ok.hd hc) st p.isList (by simp;lia) λh' eb=>⟨rfl,I.turned (t':=s.toks) (λb o hb e=>eb b o hb e) f0 f1 f3 f4 f5⟩
 self:=λ_ _ _ _ _ st h=>wpAny_pyIter_listiter st h
theorem rF{P:QJ}{w:QL}{K:Qe}{tg:Expr}(a it:Addr):Turn P w K tg (Itt K a) [it] it (λi h=>h.IsTupleIter it a i) where
 mem:=by simp
 obj:=λi h st b hb=>by
  have e:b=it:=by simpa using hb
  subst e;obtain⟨o,e,c,d⟩:=st;exact⟨o,e,λv z=>by rw[d] at z;cases z⟩
 keep:=λi h h' st k=>st.at λo e=>k it (by simp) o e
 item:=by
  intro X hP hw hK hc i pins s σ H E I hf st hg;subst hP hw hK;obtain⟨xs,x,hq,hx⟩:=hg;obtain⟨its,rv,p,hz⟩:=I.tuple hq;obtain⟨u,hu,ru⟩:=rv.get hx;obtain⟨f0,f1,f2,f3,f4,f5⟩:=hf it (by simp);refine wpAny_pyNext_tuple_item st (show s.heap.IsTuple a its.toArray from p) (x:=u) (by simpa using hu) λh' st' sb=>?_;have I1:Inv X pins σ H { s with heap:=h' }:=I.turned (t':=s.toks) (λb o hb e=>(sb.2 b hb).trans e) f0 f1 f3 f4 f5;obtain⟨o,e,c,d⟩:=id st';exact⟨u,rfl,uF (s:={ s with heap:=h' }) e c d (by decide) ⟨x,H,I1,ru,⟨rfl,λys hy=>by rw[I.tuple_inj hy hq];exact hx⟩,st',λb hb=>(hf b hb).1⟩⟩
 done:=by
  intro X hP hw hK hc i pins s σ H E I hf st hg;subst hP hw hK;obtain⟨xs,hq,hx⟩:=hg;obtain⟨its,rv,p,hz⟩:=I.tuple hq;obtain⟨f0,f1,f2,f3,f4,f5⟩:=hf it (by simp);have hl:=rv.length;exact wpAny_pyNext_tuple_end (I.ok.hd hc) st (show s.heap.IsTuple a its.toArray from p) (by simp;lia) λh' eb=>⟨rfl,I.turned (t':=s.toks) (λb o hb e=>eb b o hb e) f0 f1 f3 f4 f5⟩
 self:=λ_ _ _ _ _ st h=>wpAny_pyIter_tupleiter st h
theorem sf{P:QJ}{w:QL}{K:Qe}{tg:Expr}(it:Addr)(lo:Int)(n:Nat):Turn P w K tg (Itr lo n) [it] it (λi h=>IsRangeIter h it (lo+(i:Nat)*1) ((n:Int)-(i:Nat)) 1) where
 mem:=by simp
 obj:=λi h st b hb=>by
  have e:b=it:=by simpa using hb
  subst e
  exact⟨_,st,λv z=>by
   have z':Data.fields _=Data.cell v:=z
   cases z'⟩
 keep:=λi h h' st k=>k it (by simp) _ st
 item:=by
  intro X hP hw hK hc i pins s σ H E I hf st hg;subst hP hw hK;obtain⟨f0,f1,f2,f3,f4,f5⟩:=hf it (by simp);have W:=Walks.range (prog:=X.prog) (w:=X.w) (I.ok.hd hc) it lo 1 n;refine W.item i s _ _ hg st λv h' tk hv st' kk=>?_;obtain⟨t,rfl⟩:=hv;have I1:Inv X pins σ H { s with heap:=h',toks:=tk }:=I.turned (λb o hb e=>kk b o (by simpa using hb) e) f0 f1 f3 f4 f5;refine⟨_,rfl,uF (s:={ s with heap:=h',toks:=tk }) (n:="range_iterator") st' rfl rfl (by decide) ⟨.int (lo+i),H,I1,⟨t,?_⟩,⟨rfl,rfl⟩,st',λb hb=>(hf b hb).1⟩⟩;rw[Int.mul_one]
 done:=by
  intro X hP hw hK hc i pins s σ H E I hf st hg;subst hP hw hK;obtain⟨f0,f1,f2,f3,f4,f5⟩:=hf it (by simp);exact wpAny_pyNext_range_end (I.ok.hd hc) st (by have:n<=i:=hg;lia) λh' eb=>⟨rfl,I.turned (t':=s.toks) (λb o hb e=>eb b o hb e) f0 f1 f3 f4 f5⟩
 self:=λ_ _ _ _ _ st h=>wpAny_pyIter_rangeiter st h
section
variable{X:Cx}{tg:Expr}
def EI(K:Qe)(tl:TE):TI:=λσ H R=>tl σ H λx H1=>∃a,x=.ref a/\(∃xs,SqL K H1 a xs)/\R (Itl K a) H1
def GO(K:Qe)(tl:TE):TI:=λσ H R=>tl σ H λx H1=>∃a,x=.ref a/\(∃xs,SqT K H1 a xs)/\R (Itt K a) H1
theorem Ad{l:Expr}{tl:TE}(hl:PE X l tl):PI X tg l (EI X.K tl):=by
 intro pins s σ H R I h;refine thn (hl pins s σ H _ I h) λv s1 ⟨x,H1,I1,r1,q1⟩=>?_;obtain⟨a,e,⟨xs,hq⟩,q⟩:=q1;subst e;cases r1;obtain⟨its,rv,p,hz⟩:=I1.list hq;refine Km p.isList ?_;refine⟨s1.heap.objs.size,[s1.heap.objs.size],_,_,H1,rfl,I1.kept (t':=s1.toks) λb o e=>Qh _ e,vV a _,⟨_,QF _ rfl,rfl,rfl⟩,λb hb=>?_,q⟩;have e:b=s1.heap.objs.size:=by simpa using hb
 subst e;exact I1.fpOk (Qf _) (I1.hok.fresh (Qf _))
theorem Dw{l:Expr}{tl:TE}(hl:PE X l tl):PI X tg l (GO X.K tl):=by
 intro pins s σ H R I h;refine thn (hl pins s σ H _ I h) λv s1 ⟨x,H1,I1,r1,q1⟩=>?_;obtain⟨a,e,⟨xs,hq⟩,q⟩:=q1;subst e;cases r1;obtain⟨its,rv,p,hz⟩:=I1.tuple hq;refine wpAny_pyIter_tuple (show s1.heap.IsTuple a its.toArray from p) ?_;refine⟨s1.heap.objs.size,[s1.heap.objs.size],_,_,H1,rfl,I1.kept (t':=s1.toks) λb o e=>Qh _ e,rF a _,⟨_,QF _ rfl,rfl,rfl⟩,λb hb=>?_,q⟩;have e:b=s1.heap.objs.size:=by simpa using hb
 subst e;exact I1.fpOk (Qf _) (I1.hok.fresh (Qf _))
theorem pG{pins:List (Addr×Obj)}{σ:St}{H:Hp}{s:Qc}{R:It->Hp->Prop}{E:Qb->Qc->Prop}{lo hi:Int}{t u v:Tok}{tk:Nat}(I:Inv X pins σ H s)(h1:-(2 ^ 62)<=lo)(h2:lo<2 ^ 62)(h3:-(2 ^ 62)<=hi)(h4:hi<2 ^ 62)
  (q:R (Itr lo (hi-lo).toNat) H):Qm (Qo X.prog X.w) X.A (pyIter (.ref s.heap.objs.size)) (PIE X pins σ tg R) E { s with heap:=s.heap.push { cls:=.type "range",data:=.fields #[.int lo t,.int hi u,.int 1 v] },toks:=tk }:=by
 refine wpAny_pyIter_range (IsRange.new ..) (small_one h1 h2 h3 h4) ?_;have I1:Inv X pins σ H { s with heap:=s.heap.push { cls:=.type "range",data:=.fields #[.int lo t,.int hi u,.int 1 v] },toks:=tk }:=I.kept λb o e=>Qh _ e
 refine⟨(s.heap.push { cls:=.type "range",data:=.fields #[.int lo t,.int hi u,.int 1 v] }).objs.size,[(s.heap.push { cls:=.type "range",data:=.fields #[.int lo t,.int hi u,.int 1 v] }).objs.size],_,_,H,rfl,
  I1.kept (t':=tk) λb o e=>Qh _ e,sf _ lo (hi-lo).toNat,?_,λb hb=>?_,q⟩
 ·have e1:lo+((0:Nat):Int)*1=lo:=by simp
  have e2:(((hi-lo).toNat:Nat):Int)-((0:Nat):Int)=Builtin.Range.rangeSize lo hi 1:=by rw[rangeSize_one];split<;>lia
  show IsRangeIter _ _ (lo+((0:Nat):Int)*1) ((((hi-lo).toNat:Nat):Int)-((0:Nat):Int)) 1;rw[e1,e2];exact QF _ rfl
 ·have e:b=(s.heap.push { cls:=.type "range",data:=.fields #[.int lo t,.int hi u,.int 1 v] }).objs.size:=by simpa using hb
  subst e;exact I1.fpOk (Qf _) (I1.hok.fresh (Qf _))
def Fq(ta:TA):TI:=λσ H R=>ta σ H λvs H1=>∃j:Int,vs=[.int j]/\-(2 ^ 62)<=j/\j<2 ^ 62/\R (Itr 0 j.toNat) H1
def FR(ta:TA):TI:=λσ H R=>ta σ H λvs H1=>∃i j:Int,vs=[.int i,.int j]/\(-(2 ^ 62)<=i/\i<2 ^ 62/\-(2 ^ 62)<=j/\j<2 ^ 62)/\R (Itr i (j-i).toNat) H1
theorem we{a:Expr}{ta:TA}{p pos:Pos}(hg:Gl X "range")(hm:X.mg "range" = none)(ha:PA X [a] ta)(hs:Qy [a] X.env=[(false,eval a X.env)]:=by rfl):PI X tg (.Call (.Name "range" p) [a] [] pos) (Fq ta):=by
 intro pins s σ H R I h;refine Call_ (iT I hg hm boot_range (ZN (thn (ha pos pins s σ H _ I h) λus s1 ⟨vs,H1,I1,r1,q1⟩=>?_) hs rfl));obtain⟨j,e,q1,q2,q⟩:=q1;subst e;cases r1 with
 |cons r rr=>
  cases rr;obtain⟨t,rfl⟩:=r;exact call_range_1 (pG I1 (by lia) (by lia) q1 q2 (by simpa using q))
theorem vY{a b:Expr}{ta:TA}{p pos:Pos}(hg:Gl X "range")(hm:X.mg "range" = none)(ha:PA X [a,b] ta)(hs:Qy [a,b] X.env=[(false,eval a X.env),(false,eval b X.env)]:=by rfl)(hs2:Qy [b] X.env=[(false,eval b X.env)]:=by rfl) :
  PI X tg (.Call (.Name "range" p) [a,b] [] pos) (FR ta):=by
 intro pins s σ H R I h;refine Call_ (iT I hg hm boot_range (ZN (thn (ha pos pins s σ H _ I h) λus s1 ⟨vs,H1,I1,r1,q1⟩=>?_) (by rw[hs,hs2]) (by rw[hs2];rfl)));obtain⟨i,j,e,⟨q1,q2,q3,q4⟩,q⟩:=q1;subst e;cases r1 with
 |cons r rr=>
  cases rr with
  |cons r' rr=>
   cases rr;obtain⟨t,rfl⟩:=r;obtain⟨t',rfl⟩:=r';exact call_range_2 (pG I1 q1 q2 q3 q4 q)
def Gw(wi:TI)(g:TG)(tb:TS):TS:=λD σ H=>wi σ H λJ H1=>∃W:Nat->Nat->St->Hp->Prop,(∃m,W 0 m σ H1)/\∀i m σ H,W i m σ H->
 (J.stop i H/\D.nx σ H)\/(J.go i H/\∃N:St->Hp->Prop,(∀σ' H',N σ' H'->∃m',m'<m/\W (i+1) m' σ' H')/\∀x H',J.yld i H x H'->g x σ H' λσ2 H2=>tb { D with nx:=N,ct:=N,bk:=D.nx } σ2 H2)
def jF(fp:List Addr)(h:Heap):List (Addr×Obj):=fp.filterMap λb=>(h.get? b).map λo=>(b,o)
theorem cL{fp:List Addr}{h:Heap}{b:Addr}{o:Obj}(hb:b∈fp)(e:h.get? b=some o):(b,o)∈jF fp h:=List.mem_filterMap.mpr ⟨b,hb,by rw[e];rfl⟩
theorem vH{fp:List Addr}{h:Heap}{p:Addr×Obj}(hp:p∈jF fp h):p.1∈fp/\h.get? p.1=some p.2:=by
 obtain⟨b,hb,e⟩:=List.mem_filterMap.mp hp;cases q:h.get? b with
 |none=>rw[q] at e;cases e
 |some o=>
  rw[q] at e;have e':(b,o)=p:=Option.some.inj e;subst e';exact⟨hb,q⟩
theorem Inv.pinned{pins:List (Addr×Obj)}{σ:St}{H:Hp}{s:Qc}{fp:List Addr}(I:Inv X pins σ H s)(hf:∀b∈fp,jj X pins H b)(ho:∀b∈fp,∃o,s.heap.get? b=some o/\∀v,o.data≠.cell v):Inv X (pins++jF fp s.heap) σ H s:=
 I.pins_of λp hp=>(QM.mp hp).elim (λz=>I.pin p (QD _ z)) λz=>by
  obtain⟨hb,e⟩:=vH z;obtain⟨f0,f1,f2,_⟩:=hf p.1 hb;obtain⟨o,e',d⟩:=ho p.1 hb;rw[e] at e';cases e';exact⟨e,f0,f1,f2,d⟩
theorem Inv.unpinned{pins pl:List (Addr×Obj)}{σ:St}{H:Hp}{s:Qc}(I:Inv X (pins++pl) σ H s):Inv X pins σ H s:=I.pins_of λp hp=>I.pin p (QD _ (List.mem_append_left _ hp))
theorem rQ{iter:Expr}{body:List Stmt}{wi:TI}{g:TG}{tb:TS}{pos:Pos}(hp:PassesOwn (Qo X.prog X.w) X.A X.env X.xe)(hc:X.calm=true)(hi:PI X tg iter wi)(hg:PG X tg g)(hb:PSs X body tb)
  (hs:∀x,Je iter X.env x=pure x:=by intro _;rfl):PS X (.For tg iter body [] pos) (Gw wi g tb):=by
 intro pins s σ H D I h;refine wpAny_For (thn (hi pins s σ H _ I h) λv s1 h1=>thn h1 λitv s2 h2=>?_) hs;obtain⟨it,fp,tn,J,H2,e,I2,T,st2,f2,W,⟨m0,w0⟩,turn⟩:=h2;subst e;have stat:∀{H':Hp},(∀b∈fp,H' b=none)->∀b∈fp,jj X pins H' b:=λhn b hb=>⟨hn b hb,(f2 b hb).2⟩;refine codeAny_forLoop_any (λn s'=>∃i σ' H',Inv X pins σ' H' s'/\tn i s'.heap/\(∀b∈fp,H' b=none)/\W i n σ' H') ?_ m0 ⟨0,σ,H2,I2,st2,λb hb=>(f2 b hb).1,w0⟩;rintro n s3 ⟨i,σ3,H3,I3,st3,fr3,w3⟩;rcases turn i n σ3 H3 w3 with⟨stop,qn⟩ | ⟨go,N,hN,step⟩
 ·refine KR hp (thn (T.done X rfl rfl rfl hc i pins s3 σ3 H3 X.xe I3 (stat fr3) st3 stop) λr s4 ⟨hr,I4⟩=>?_)
  subst hr;exact wpAny_execs_nil ⟨σ3,H3,I4,qn⟩
 ·refine KR hp (thn (T.item X rfl rfl rfl hc i pins s3 σ3 H3 X.xe I3 (stat fr3) st3 go) λr s4 ⟨u,hr,h4⟩=>?_)
  subst hr;refine KR hp (thn h4 λ_ s5 ⟨x,H5,I5,r5,y5,st5,fr5⟩=>?_);have I5':=I5.pinned (stat fr5) (T.obj _ _ st5);refine KR hp (thn (hg _ s5 σ3 H5 x u _ I5' r5 (step x H5 y5)) λ_ s6 ⟨σ6,H6,I6,q6⟩=>?_);refine KR hp (thn (hb _ s6 σ6 H6 _ I6 q6) λf s7 q7=>?_)
  have again:∀{σ7:St} {H7:Hp},Inv X (pins++jF fp s5.heap) σ7 H7 s7->N σ7 H7->∃m,m<n/\∃i σ' H',Inv X pins σ' H' s7/\tn i s7.heap/\(∀b∈fp,H' b=none)/\W i m σ' H':=λ{σ7 H7} I7 n7=>by
   obtain⟨m',hm,w7⟩:=hN σ7 H7 n7;refine⟨m',hm,i+1,σ7,H7,I7.unpinned,T.keep _ _ _ st5 λb hb o e=>(I7.pin (b,o) (QD _ (QD _ (cL hb e)))).1,λb hb=>?_,w7⟩;obtain⟨o,e,d⟩:=T.obj _ _ st5 b hb;exact(I7.pin (b,o) (QD _ (QD _ (cL hb e)))).2.1
  cases f with
  |next=>obtain⟨σ7,H7,I7,n7⟩:=q7;exact again I7 n7
  |cont=>obtain⟨σ7,H7,I7,n7⟩:=q7;exact again I7 n7
  |brk=>obtain⟨σ7,H7,I7,q7⟩:=q7;exact⟨σ7,H7,I7.unpinned,q7⟩
  |ret v=>obtain⟨x7,σ7,H7,I7,r7,q7⟩:=q7;exact⟨x7,σ7,H7,I7.unpinned,r7,q7⟩
end
abbrev R2:=V->V->Hp->VK->Prop
def OpR(X:Cx)(f:Qb->Qb->Sem Qb)(r:R2):Prop:=
 ∀(pins:List (Addr×Obj)) (s:Qc) (σ:St) (H:Hp) (x y:V) (v u:Qb) (Q:VK),Inv X pins σ H s->ba x v->ba y u->r x y H Q->
  Qm (Qo X.prog X.w) X.A (f v u) (EP X pins σ Q) X.xe s
def UnR(X:Cx)(f:Qb->Sem Qb)(r:V->Hp->VK->Prop):Prop:=
 ∀(pins:List (Addr×Obj)) (s:Qc) (σ:St) (H:Hp) (x:V) (v:Qb) (Q:VK),Inv X pins σ H s->ba x v->r x H Q->
  Qm (Qo X.prog X.w) X.A (f v) (EP X pins σ Q) X.xe s
def eY(X:Cx)(f:Qb)(r:List V->Hp->VK->Prop):Prop:=
 ∀(pins:List (Addr×Obj)) (s:Qc) (σ:St) (H:Hp) (xs:List V) (us:List Qb) (Q:VK),Inv X pins σ H s->a9 xs us->r xs H Q->
  Qm (Qo X.prog X.w) X.A (call f us) (EP X pins σ Q) X.xe s
def GM(X:Cx)(r:V->Hp->(Bool->Hp->Prop)->Prop):Prop:=
 ∀(pins:List (Addr×Obj)) (s:Qc) (σ:St) (H:Hp) (x:V) (v:Qb) (Q:Bool->Hp->Prop),Inv X pins σ H s->ba x v->r x H Q->
  Qm (Qo X.prog X.w) X.A (truthy v) (TP X pins σ Q) X.xe s
def tOp(r:R2)(ta tb:TE):TE:=λσ H Q=>ta σ H λx H1=>tb σ H1 λy H2=>r x y H2 Q
def tUn(r:V->Hp->VK->Prop)(ta:TE):TE:=λσ H Q=>ta σ H λx H1=>r x H1 Q
def rI(C:Int->Int->Prop)(g:Int->Int->V):R2:=λx y H Q=>∃i j,x=.int i/\y=.int j/\C i j/\Q (g i j) H
def rI0(g:Int->Int->V):R2:=λx y H Q=>∃i j,x=.int i/\y=.int j/\Q (g i j) H
def rU(g:Int->V):V->Hp->VK->Prop:=λx H Q=>∃i,x=.int i/\Q (g i) H
section
variable{X:Cx}{a b c:Expr}{ta tb tc:TE}{pos:Pos}
theorem DU(ha:PE X a ta)(hb:PE X b tb){pins:List (Addr×Obj)}{s:Qc}{σ:St}{H:Hp}{R:V->V->Hp->Prop}(I:Inv X pins σ H s)
  (h:ta σ H λx H1=>tb σ H1 λy H2=>R x y H2) {Q:Qb->Qc->Prop} {f:Qb->Qb->Sem Qb}
  (hf:∀v u s2 x y H2,Inv X pins σ H2 s2->ba x v->ba y u->R x y H2->Qm (Qo X.prog X.w) X.A (f v u) Q X.xe s2) :
  Qm (Qo X.prog X.w) X.A (eval a X.env) (λv s₁=>Qm (Qo X.prog X.w) X.A (eval b X.env) (λu s₂=>Qm (Qo X.prog X.w) X.A (f v u) Q X.xe s₂) X.xe s₁) X.xe s:=by
 refine thn (ha pins s σ H _ I h) λv s1 ⟨x,H1,I1,r1,q1⟩=>?_;refine thn (hb pins s1 σ H1 _ I1 q1) λu s2 ⟨y,H2,I2,r2,q2⟩=>?_;exact hf v u s2 x y H2 I2 r1 r2 q2
theorem B6{op:Operator}{r:R2}(ho:OpR X (J7 op) r)(ha:PE X a ta)(hb:PE X b tb):PE X (.BinOp a op b pos) (tOp r ta tb):=by
 intro pins s σ H Q I h;exact wpAny_BinOp (DU ha hb I h λv u s2 x y H2 I2 rx ry q=>ho pins s2 σ H2 x y v u Q I2 rx ry q)
theorem EH{op:UnaryOp}{r:V->Hp->VK->Prop}(ho:UnR X (unaryOp op) r)(ha:PE X a ta):PE X (.UnaryOp op a pos) (tUn r ta):=by
 intro pins s σ H Q I h;exact UnaryOp_ (thn (ha pins s σ H _ I h) λv s1 ⟨x,H1,I1,r1,q1⟩=>ho pins s1 σ H1 x v Q I1 r1 q1)
theorem opI{f:Qb->Qb->Sem Qb}{C:Int->Int->Prop}{g:Int->Int->Int}
  (rule:∀(i j:Int) (t u:Tok) (s:Qc) (Q:Qb->Qc->Prop) (E:Qb->Qc->Prop),C i j->Q (.int (g i j) s.toks) { s with toks:=s.toks+1 }->Qm (Qo X.prog X.w) X.A (f (.int i t) (.int j u)) Q E s) :
  OpR X f (rI C λi j=>.int (g i j)):=by
 intro pins s σ H x y v u Q I rx ry h;obtain⟨i,j,rfl,rfl,hc,q⟩:=h;obtain⟨t,rfl⟩:=rx;obtain⟨t',rfl⟩:=ry;exact rule i j t t' s _ _ hc ⟨.int (g i j),H,I.tok _,⟨_,rfl⟩,q⟩
theorem FJ{f:Qb->Qb->Sem Qb}{g:Int->Int->Int}
  (rule:∀(i j:Int) (t u:Tok) (s:Qc) (Q:Qb->Qc->Prop) (E:Qb->Qc->Prop),Q (.int (g i j) s.toks) { s with toks:=s.toks+1 }->Qm (Qo X.prog X.w) X.A (f (.int i t) (.int j u)) Q E s) :
  OpR X f (rI0 λi j=>.int (g i j)):=by
 intro pins s σ H x y v u Q I rx ry h;obtain⟨i,j,rfl,rfl,q⟩:=h;obtain⟨t,rfl⟩:=rx;obtain⟨t',rfl⟩:=ry;exact rule i j t t' s _ _ ⟨.int (g i j),H,I.tok _,⟨_,rfl⟩,q⟩
theorem AM{f:Qb->Qb->Sem Qb}{g:Int->Int->Bool}
  (rule:∀(i j:Int) (t u:Tok) (s:Qc) (Q:Qb->Qc->Prop) (E:Qb->Qc->Prop),Q (.bool (g i j)) s->Qm (Qo X.prog X.w) X.A (f (.int i t) (.int j u)) Q E s) :
  OpR X f (rI0 λi j=>.bl (g i j)):=by
 intro pins s σ H x y v u Q I rx ry h;obtain⟨i,j,rfl,rfl,q⟩:=h;obtain⟨t,rfl⟩:=rx;obtain⟨t',rfl⟩:=ry;exact rule i j t t' s _ _ ⟨.bl (g i j),H,I,rfl,q⟩
def wc(i j:Int):Prop:=0<j/\j<1073741824
def wq(i j:Int):Prop:=0<=j/\j<=1000000/\i.natAbs<2 ^ 64
def mD(i j:Int):Prop:=(-(2 ^ 64)<i/\i<2 ^ 64)\/(-(2 ^ 64)<j/\j<2 ^ 64)
theorem mD.ok{i j:Int}(h:mD i j):IntMulOk i j:=by
 rcases h with⟨h1,h2⟩ | ⟨h1,h2⟩
 ·exact .of_left (intBits_le_64 h1 h2)
 ·exact .of_right (intBits_le_64 h1 h2)
theorem DD:OpR X (J7 .Add) (rI0 λi j=>.int (i+j)):=FJ λ_ _ _ _ _ _ _ q=>add_int q
theorem Dc:OpR X (J7 .Sub) (rI0 λi j=>.int (i-j)):=FJ λ_ _ _ _ _ _ _ q=>sub_int q
theorem Dp:OpR X (J7 .Mult) (rI mD λi j=>.int (i*j)):=opI λ_ _ _ _ _ _ _ hc q=>mul_int q hc.ok
theorem AI:OpR X (J7 .FloorDiv) (rI wc λi j=>.int (i/j)):=opI λi j _ _ _ _ _ hc q=>by
 have h1:(0:Int)<j:=hc.1;have h2:j<1073741824:=hc.2;exact floordiv_int (by lia) (by rw[Int.fdiv_eq_ediv_of_nonneg i (by lia)];exact q) (.inl (PyProof.noPylong_small (by lia)))
theorem CA:OpR X (J7 .Mod) (rI (λ_ j=>0<j) λi j=>.int (i%j)):=opI λi j _ _ _ _ _ hc q=>by
 have h1:(0:Int)<j:=hc;exact mod_int' (by lia) (by rw[Int.fmod_eq_emod_of_nonneg i (by lia)];exact q)
theorem Dr:OpR X (J7 .Pow) (rI wq λi j=>.int (i ^ j.toNat)):=opI λ_ _ _ _ _ _ _ hc q=>pow_int_small hc.1 hc.2.1 hc.2.2 q
theorem unI{f:Qb->Sem Qb}{g:Int->Int}
  (rule:∀(i:Int) (t:Tok) (s:Qc) (Q:Qb->Qc->Prop) (E:Qb->Qc->Prop),Q (.int (g i) s.toks) { s with toks:=s.toks+1 }->Qm (Qo X.prog X.w) X.A (f (.int i t)) Q E s) :
  UnR X f (rU λi=>.int (g i)):=by
 intro pins s σ H x v Q I rx h;obtain⟨i,rfl,q⟩:=h;obtain⟨t,rfl⟩:=rx;exact rule i t s _ _ ⟨.int (g i),H,I.tok _,⟨_,rfl⟩,q⟩
theorem Df:UnR X (unaryOp .USub) (rU λi=>.int (-i)):=unI λ_ _ _ _ _ q=>neg_int q
end
def D7:V->V->Bool
 |.non,.non=>true | .non,.int _=>true | .int _,.non=>true | .non,.bl _=>true | .bl _,.non=>true | .non,.str _=>true | .str _,.non=>true
 |.int _,.int _=>true | .bl _,.bl _=>true | .str _,.str _=>true | .byt _,.byt _=>true
 |.int _,.str _=>true | .str _,.int _=>true | .bl _,.str _=>true | .str _,.bl _=>true
 |_,_=>false
def rEq:R2:=λx y H Q=>D7 x y=true/\Q (.bl (decide (x=y))) H
def rNe:R2:=λx y H Q=>D7 x y=true/\Q (.bl (!decide (x=y))) H
theorem tR{i j:Int}:decide (V.int i=V.int j)=(i==j):=by
 rw[Zq];simp
theorem ze{i j:Bool}:decide (V.bl i=V.bl j)=(i==j):=by
 rw[Zq];simp
theorem tL{i j:Str}:decide (V.str i=V.str j)=(i==j):=by
 rw[Zq];simp
theorem ub{i j:Array UInt8}:decide (V.byt i=V.byt j)=(i.toList==j.toList):=by
 rw[Zq];cases i;cases j;simp
section
variable{X:Cx}{a b c:Expr}{ta tb tc:TE}{pos:Pos}
theorem bu{pins:List (Addr×Obj)}{σ:St}{H:Hp}{s:Qc}{Q:VK}{k k':Bool}(I:Inv X pins σ H s)(q:Q (.bl k) H)(e:k=k'):EP X pins σ Q (.bool k') s:=by
 subst e;exact⟨.bl k,H,I,rfl,q⟩
theorem EV:OpR X (QX .Eq) rEq:=by
 intro pins s σ H x y v u Q I rx ry h;obtain⟨hs,q⟩:=h;cases x with
 |non=>
  cases rx;cases y with
  |non=>cases ry;exact PySem.EqNone.eq_none_none (bu I q (by simp))
  |bl j=>cases ry;exact PySem.EqNone.eq_none_bool (bu I q (by simp))
  |int j=>obtain⟨t',rfl⟩:=ry;exact PySem.EqNone.eq_none_int (bu I q (by simp))
  |str j=>obtain⟨t',rfl⟩:=ry;exact PySem.EqNone.eq_none_str (bu I q (by simp))
  |_=>exact absurd (show false=true from hs) Ql
 |bl i=>
  cases rx;cases y with
  |non=>cases ry;exact PySem.EqNone.eq_bool_none (bu I q (by simp))
  |bl j=>cases ry;exact eq_bool (bu I q ze)
  |str j=>obtain⟨t',rfl⟩:=ry;exact PySem.EqMixed.eq_bool_str (bu I q (by simp))
  |_=>exact absurd (show false=true from hs) Ql
 |int i=>
  obtain⟨t,rfl⟩:=rx;cases y with
  |non=>cases ry;exact PySem.EqNone.eq_int_none (bu I q (by simp))
  |int j=>obtain⟨t',rfl⟩:=ry;exact eq_int (bu I q tR)
  |str j=>obtain⟨t',rfl⟩:=ry;exact PySem.EqMixed.eq_int_str (bu I q (by simp))
  |_=>exact absurd (show false=true from hs) Ql
 |str i=>
  obtain⟨t,rfl⟩:=rx;cases y with
  |non=>cases ry;exact PySem.EqNone.eq_str_none (bu I q (by simp))
  |bl j=>cases ry;exact PySem.EqMixed.eq_str_bool (bu I q (by simp))
  |int j=>obtain⟨t',rfl⟩:=ry;exact PySem.EqMixed.eq_str_int (bu I q (by simp))
  |str j=>obtain⟨t',rfl⟩:=ry;exact eq_str (bu I q tL)
  |_=>exact absurd (show false=true from hs) Ql
 |byt i=>
  obtain⟨t,rfl⟩:=rx;cases y with
  |byt j=>obtain⟨t',rfl⟩:=ry;exact PySem.W.eq_bytes (bu I q ub)
  |_=>exact absurd (show false=true from hs) Ql
 |_=>cases y<;>exact absurd (show false=true from hs) Ql
theorem EE:OpR X (QX .NotEq) rNe:=by
 intro pins s σ H x y v u Q I rx ry h;obtain⟨hs,q⟩:=h;cases x with
 |non=>
  cases rx;cases y with
  |non=>cases ry;exact PySem.EqNone.ne_none_none (bu I q (by simp))
  |bl j=>cases ry;exact PySem.EqNone.ne_none_bool (bu I q (by simp))
  |int j=>obtain⟨t',rfl⟩:=ry;exact PySem.EqNone.ne_none_int (bu I q (by simp))
  |str j=>obtain⟨t',rfl⟩:=ry;exact PySem.EqNone.ne_none_str (bu I q (by simp))
  |_=>exact absurd (show false=true from hs) Ql
 |bl i=>
  cases rx;cases y with
  |non=>cases ry;exact PySem.EqNone.ne_bool_none (bu I q (by simp))
  |bl j=>cases ry;exact ne_bool (bu I q (congrArg not ze))
  |str j=>obtain⟨t',rfl⟩:=ry;exact PySem.EqMixed.ne_bool_str (bu I q (by simp))
  |_=>exact absurd (show false=true from hs) Ql
 |int i=>
  obtain⟨t,rfl⟩:=rx;cases y with
  |non=>cases ry;exact PySem.EqNone.ne_int_none (bu I q (by simp))
  |int j=>obtain⟨t',rfl⟩:=ry;exact ne_int (bu I q (congrArg not tR))
  |str j=>obtain⟨t',rfl⟩:=ry;exact PySem.EqMixed.ne_int_str (bu I q (by simp))
  |_=>exact absurd (show false=true from hs) Ql
 |str i=>
  obtain⟨t,rfl⟩:=rx;cases y with
  |non=>cases ry;exact PySem.EqNone.ne_str_none (bu I q (by simp))
  |bl j=>cases ry;exact PySem.EqMixed.ne_str_bool (bu I q (by simp))
  |int j=>obtain⟨t',rfl⟩:=ry;exact PySem.EqMixed.ne_str_int (bu I q (by simp))
  |str j=>obtain⟨t',rfl⟩:=ry;exact ne_str (bu I q (congrArg not tL))
  |_=>exact absurd (show false=true from hs) Ql
 |byt i=>
  obtain⟨t,rfl⟩:=rx;cases y with
  |byt j=>obtain⟨t',rfl⟩:=ry;exact PySem.W.ne_bytes (bu I q (congrArg not ub))
  |_=>exact absurd (show false=true from hs) Ql
 |_=>cases y<;>exact absurd (show false=true from hs) Ql
theorem F5:OpR X (QX .Lt) (rI0 λi j=>.bl (decide (i<j))):=AM λ_ _ _ _ _ _ _ q=>lt_int q
theorem EN:OpR X (QX .LtE) (rI0 λi j=>.bl (decide (i<=j))):=AM λ_ _ _ _ _ _ _ q=>le_int q
theorem Gg:OpR X (QX .Gt) (rI0 λi j=>.bl (decide (j<i))):=AM λ_ _ _ _ _ _ _ q=>gt_int q
theorem Fi:OpR X (QX .GtE) (rI0 λi j=>.bl (decide (j<=i))):=AM λ_ _ _ _ _ _ _ q=>ge_int q
theorem Eo:OpR X (QX .Is) (λx y H Q=>y=.non/\Q (.bl (decide (x=.non))) H):=by
 intro pins s σ H x y v u Q I rx ry h;obtain⟨rfl,q⟩:=h;cases ry;refine is_none_gen (bu I q ?_)
 cases x<;>first
  |(cases rx;rfl)
  |(obtain⟨t,rfl⟩:=rx;rfl)
theorem OpR.or{f:Qb->Qb->Sem Qb}{r r':R2}(h:OpR X f r)(h':OpR X f r'):OpR X f (λx y H Q=>r x y H Q\/r' x y H Q):=by
 intro pins s σ H x y v u Q I rx ry q;rcases q with q | q
 ·exact h pins s σ H x y v u Q I rx ry q
 ·exact h' pins s σ H x y v u Q I rx ry q
theorem aL(b:Expr){op:CmpOp}(h:op≠.In:=by decide)(h2:op≠.NotIn:=by decide):KD op b=false:=by
 have e1:(op==CmpOp.In)=false:=by cases op<;>first | rfl | exact absurd rfl h
 have e2:(op==CmpOp.NotIn)=false:=by cases op<;>first | rfl | exact absurd rfl h2
 cases b<;>simp[KD,e1,e2]
theorem Ap{op:CmpOp}{r:R2}(ho:OpR X (QX op) r)(ha:PE X a ta)(hb:PE X b tb)(hm:KD op b=false):PE X (.Compare a [op] [b] pos) (tOp r ta tb):=by
 intro pins s σ H Q I h;exact wpAny_Compare1 (DU ha hb I h λv u s2 x y H2 I2 rx ry q=>ho pins s2 σ H2 x y v u Q I2 rx ry q) hm
def Cu(t:TE):TT:=λσ H Q=>t σ H λx H'=>∃k,x=.bl k/\Q k H'
theorem Az{op:CmpOp}{r:R2}(ho:OpR X (QX op) r)(ha:PE X a ta)(hb:PE X b tb)(hm:KD op b=false):PT X (.Compare a [op] [b] pos) (Cu (tOp r ta tb)):=by
 intro pins s σ H Q I h
 refine wpAny_isTrue_Compare1 (thn (ha pins s σ H _ I h) λv s1 ⟨x,H1,I1,r1,q1⟩=>thn (hb pins s1 σ H1 _ I1 q1) λu s2 ⟨y,H2,I2,r2,q2⟩=>
  thn (ho pins s2 σ H2 x y v u _ I2 r1 r2 q2) λc s3 ⟨z,H3,I3,r3,k,e,q3⟩=>?_) hm
 subst e;cases r3;exact JN ⟨H3,I3,q3⟩
def wU(r r':R2)(ta tb tc:TE):TE:=λσ H Q=>ta σ H λx H1=>tb σ H1 λy H2=>r x y H2 λz H3=>∃k,z=.bl k/\
 (if k=true then tc σ H3 λw' H4=>r' y w' H4 Q else Q (.bl false) H3)
theorem xG{op op':CmpOp}{r r':R2}(ho:OpR X (QX op) r)(ho':OpR X (QX op') r')(ha:PE X a ta)(hb:PE X b tb)(hc:PE X c tc)
  (hm:lastMarks [op,op'] [b,c]=false:=by with_unfolding_all rfl):PE X (.Compare a [op,op'] [b,c] pos) (wU r r' ta tb tc):=by
 intro pins s σ H Q I h
 refine Compare_chain (thn (ha pins s σ H _ I h) λv s1 ⟨x,H1,I1,r1,q1⟩=>chain_link (thn (hb pins s1 σ H1 _ I1 q1) λu s2 ⟨y,H2,I2,r2,q2⟩=>
  thn (ho pins s2 σ H2 x y v u _ I2 r1 r2 q2) λd s3 ⟨z,H3,I3,r3,k,e,q3⟩=>?_)) hm
 subst e;cases r3;refine JN ?_;cases k with
 |false=>exact ite_ff ⟨.bl false,H3,I3,rfl,q3⟩
 |true=>exact ite_tt (chain_last (thn (hc pins s3 σ H3 _ I3 q3) λw' s4 ⟨z',H4,I4,r4,q4⟩=>ho' pins s4 σ H4 y z' u w' Q I4 r2 r4 q4))
theorem xN{op op':CmpOp}{r r':R2}(ho:OpR X (QX op) r)(ho':OpR X (QX op') r')(ha:PE X a ta)(hb:PE X b tb)(hc:PE X c tc)
  (hm:lastMarks [op,op'] [b,c]=false:=by with_unfolding_all rfl):PT X (.Compare a [op,op'] [b,c] pos) (Cu (wU r r' ta tb tc)):=by
 intro pins s σ H Q I h
 refine isTrue_chain (thn (ha pins s σ H _ I h) λv s1 ⟨x,H1,I1,r1,q1⟩=>test_link (thn (hb pins s1 σ H1 _ I1 q1) λu s2 ⟨y,H2,I2,r2,q2⟩=>
  thn (ho pins s2 σ H2 x y v u _ I2 r1 r2 q2) λd s3 ⟨z,H3,I3,r3,k,e,q3⟩=>?_)) hm
 subst e;cases r3;refine JN ?_;cases k with
 |false=>
  obtain⟨k',e',q'⟩:=q3;cases e';exact ite_ff ⟨H3,I3,q'⟩
 |true=>
  refine ite_tt (test_last (thn (hc pins s3 σ H3 _ I3 q3) λw' s4 ⟨z',H4,I4,r4,q4⟩=>thn (ho' pins s4 σ H4 y z' u w' _ I4 r2 r4 q4) λd' s5 ⟨z2,H5,I5,r5,k2,e2,q5⟩=>?_));subst e2;cases r5;exact JN ⟨H5,I5,q5⟩
def FZ(K:Qe)(x:V)(H:Hp)(k:Bool):Prop:=
 match x with
 |.non=>k=false
 |.bl b=>k=b
 |.int i=>k=(i != 0)
 |.str y=>y.length<=QO/\k=((y.length:Int) != 0)
 |.byt y=>y.size<=QO/\k=((y.size:Int) != 0)
 |.ref p=>(∃xs,SqL K H p xs/\k = !xs.isEmpty)\/(∃xs,SqT K H p xs/\k = !xs.isEmpty)\/∃kvs,H p=some (.dK kvs)/\k = !kvs.isEmpty
 |_=>False
theorem sj{κ:Type}{kvs:List (κ×V)}{vs:List (κ×Qb)}(r:KV kvs vs):(!vs.isEmpty) = !kvs.isEmpty:=by
 cases r<;>rfl
theorem kZ{xs:List V}{its:List Qb}(r:a9 xs its):(!its.toArray.isEmpty) = !xs.isEmpty:=by
 cases r<;>simp
theorem oh:(QO:Nat)<2 ^ 63:=by rw[Kj];decide
theorem Cz:GM X (λx H Q=>∃k,FZ X.K x H k/\Q k H):=by
 intro pins s σ H x v Q I rx h;obtain⟨k,e,q⟩:=h;have hl:=oh;have hs:QO=16777216:=Kj;cases x with
 |non=>
  cases rx;have e':k=false:=e;subst e';exact truthy_none ⟨H,I,q⟩
 |bl b=>
  cases rx;have e':k=b:=e;subst e';exact JN ⟨H,I,q⟩
 |int i=>
  obtain⟨t,rfl⟩:=rx;have e':k=(i != 0):=e;subst e';exact PySem.P.truthy_int ⟨H,I,q⟩
 |str y=>
  obtain⟨t,rfl⟩:=rx;obtain⟨hy,e'⟩:y.length<=QO/\k=((y.length:Int) != 0):=e;subst e';exact PySem.P.truthy_str (by lia) ⟨H,I.tok _,q⟩
 |byt y=>
  obtain⟨t,rfl⟩:=rx;obtain⟨hy,e'⟩:y.size<=QO/\k=((y.size:Int) != 0):=e;subst e';exact PySem.W.truthy_bytes (by lia) ⟨H,I.tok _,q⟩
 |ref p=>
  cases rx;have e':(∃xs,SqL X.K H p xs/\k = !xs.isEmpty)\/(∃xs,SqT X.K H p xs/\k = !xs.isEmpty)\/∃kvs,H p=some (.dK kvs)/\k = !kvs.isEmpty:=e;rcases e' with⟨xs,hx,e'⟩ | ⟨xs,hx,e'⟩ | ⟨kvs,hx,e'⟩
  ·subst e'
   obtain⟨its,r,pl,hz⟩:=I.list hx;have hlen:=r.length;exact wpAny_truthy_list pl.isList (by simp only[QR];lia) ⟨H,I.tok _,by rw[kZ r];exact q⟩
  ·subst e'
   obtain⟨its,r,pl,hz⟩:=I.tuple hx;have hlen:=r.length;exact truthy_tuple pl (by simp only[QR];lia) ⟨H,I.tok _,by rw[kZ r];exact q⟩
  ·subst e'
   obtain⟨hz,hS,vs,r,m⟩:kvs.length<=QO/\(p==JM)=false/\∃vs,KV kvs vs/\s.heap.DictOf (cf X.prog X.w) p vs:=I.hok p _ hx;have hlen:kvs.length=vs.length:=Paired.length r;exact wpAny_truthy_dict hS m (by lia) ⟨H,I.tok _,by rw[sj r];exact q⟩
 |_=>exact(show False from e).elim
theorem wN(ha:PE X a ta)(he:∀whole,isTrue a X.env whole=(do let v<-whole;standAt a.pos;holding [v] (truthy v))) :
  PT X a (λσ H Q=>ta σ H λx H'=>∃k,FZ X.K x H' k/\Q k H'):=by
 intro pins s σ H Q I h;exact isTrue_plain (thn (ha pins s σ H _ I h) λv s1 ⟨x,H1,I1,r1,q1⟩=>Cz pins s1 σ H1 x v Q I1 r1 q1) (he _)
theorem B_{x:V}{us:List Qb}(r:a9 [x] us):∃u,us=[u]/\ba x u:=by
 cases r with
 |cons r1 r2=>cases r2;exact⟨_,rfl,r1⟩
theorem BX{x y:V}{us:List Qb}(r:a9 [x,y] us):∃u w',us=[u,w']/\ba x u/\ba y w':=by
 cases r with
 |cons r1 r2=>
  cases r2 with
  |cons r3 r4=>cases r4;exact⟨_,_,rfl,r1,r3⟩
theorem vE(hc:X.calm=true):eY X (.builtin "max") (λxs H Q=>∃i j,xs=[.int i,.int j]/\Q (.int (if j>i then j else i)) H):=by
 intro pins s σ H xs us Q I r h;obtain⟨i,j,rfl,q⟩:=h;obtain⟨u,w',rfl,⟨t,rfl⟩,⟨t',rfl⟩⟩:=BX r;refine max_two_ints (I.ok.hd hc) λh' tk k=>⟨_,H,I.kept k,?_,q⟩
 by_cases hj:j>i
 ·rw[if_pos hj,if_pos hj];exact⟨_,rfl⟩
 ·rw[if_neg hj,if_neg hj];exact⟨_,rfl⟩
theorem u_(hc:X.calm=true):eY X (.builtin "min") (λxs H Q=>∃i j,xs=[.int i,.int j]/\Q (.int (if j<i then j else i)) H):=by
 intro pins s σ H xs us Q I r h;obtain⟨i,j,rfl,q⟩:=h;obtain⟨u,w',rfl,⟨t,rfl⟩,⟨t',rfl⟩⟩:=BX r;refine min_two_ints (I.ok.hd hc) λh' tk k=>⟨_,H,I.kept k,?_,q⟩
 by_cases hj:j<i
 ·rw[if_pos hj,if_pos hj];exact⟨_,rfl⟩
 ·rw[if_neg hj,if_neg hj];exact⟨_,rfl⟩
end
theorem kh.some_of{v:V}{o:Option Qb}(r:kh (some v) o):∃u,o=some u/\ba v u:=by
 cases o with
 |none=>exact(show False from r).elim
 |some u=>exact⟨u,rfl,r⟩
structure Room(k:Nat)(A:QU):Prop where
 hd:A.handled=none
 dp:A.depth+3*k+5<recursionLimit
 un:A.units+16*k+200<JR
theorem Room.mono{j k:Nat}{A:QU}(r:Room k A)(h:j<=k):Room j A:=⟨r.hd,by have:=r.dp;lia,by have:=r.un;lia⟩
theorem Room.deeper{k:Nat}{A:QU}(r:Room (k+1) A)(env:Env):Room k (A.deeper env):=
 ⟨r.hd,by have:=r.dp;show A.depth+1+3*k+5<_;lia,by have:=r.un;show A.units+3+16*k+200<_;lia⟩
theorem Room.in1{k:Nat}{A:QU}(r:Room (k+1) A):Room k A.in1:=
 ⟨r.hd,by have:=r.dp;show A.depth+3*k+5<_;lia,by have:=r.un;show A.units+1+16*k+200<_;lia⟩
theorem Room.depth{k:Nat}{A:QU}(r:Room k A):A.depth<recursionLimit:=by have:=r.dp;lia
theorem Room.units{k:Nat}{A:QU}(r:Room k A):A.units+64<JR:=by have:=r.un;lia
def BA:TA:=λ_ H Q=>Q [] H
def ud(ta:TE)(tr:TA):TA:=λσ H Q=>ta σ H λx H1=>tr σ H1 λxs H2=>Q (x::xs) H2
section
variable{X:Cx}{e:Expr}{es:List Expr}{te:TE}{t:TA}{pos:Pos}
theorem cR:PA X [] BA:=λ_ _ _ _ H Q I h=>Calls.spliced_nil ⟨[],H,I,.nil,h⟩
theorem bR(ha:PE X e te)(hr:PA X es t)(hs:Qy (e::es) X.env=(false,eval e X.env)::Qy es X.env:=by rfl):PA X (e::es) (ud te t):=by
 intro pos pins s σ H Q I h;rw[hs];show Qm _ _ (spliced ((false,eval e X.env)::JG pos (Qy es X.env))) _ _ s;refine Calls.spliced_cons (thn (ha pins s σ H _ I h) λu s1 ⟨x,H1,I1,r1,q1⟩=>?_);exact thn (hr pos pins s1 σ H1 _ I1 q1) λus s2 ⟨xs,H2,I2,r2,q2⟩=>⟨x::xs,H2,I2,.cons r1 r2,q2⟩
def Gu(t:TA):TE:=λσ H Q=>t σ H λxs H1=>xs.length<=QO/\∀p,H1 p=none->Q (.ref p) (upd H1 p (.tup xs))
def GE(t:TA):TE:=λσ H Q=>t σ H λxs H1=>xs.length<=QO/\∀p,H1 p=none->Q (.ref p) (upd H1 p (.lst xs))
theorem C0{x1}(h:PA X es t):PE X (.Tuple es x1 pos) (Gu t):=by
 intro pins s σ H Q I hq;refine wpAny_Tuple_spliced (thn (h pos pins s σ H _ I hq) λus s1 ⟨xs,H1,I1,r,z,q⟩=>⟨by rw[<-r.length];exact z,?_⟩);have hf:H1 s1.heap.objs.size=none:=I1.hok.fresh (Qf _);refine⟨.ref s1.heap.objs.size,upd H1 s1.heap.objs.size (.tup xs),I1.laid (t':=s1.toks) (λb u e=>Qh _ e) (Qf _) ?_,rfl,q _ hf⟩;exact⟨z,us,r,⟨_,QF _ rfl,rfl,_,rfl⟩⟩
theorem yW(h:PA X es t):PE X (.List es pos) (GE t):=by
 intro pins s σ H Q I hq;refine wpAny_List_spliced (thn (h pos pins s σ H _ I hq) λus s1 ⟨xs,H1,I1,r,z,q⟩=>⟨by rw[<-r.length];exact z,?_⟩);have hf:H1 s1.heap.objs.size=none:=I1.hok.fresh (Qf _);refine⟨.ref s1.heap.objs.size,upd H1 s1.heap.objs.size (.lst xs),I1.laid (t':=s1.toks) (λb u e=>Qh _ e) (Qf _) ?_,rfl,q _ hf⟩;exact⟨z,us,0,r,QF _ rfl⟩
end
abbrev Sp:=List V->Hp->VK->XK->Prop
abbrev CXT:=List Env->Hp->Qc->XK->Qb->Qc->Prop
structure Env0(P:QJ)(w:QL)(K:Qe)(mg:Str->Option Qb)(base:Heap)(A:QU)(outer:List Env)(s:Qc)(H:Hp):Prop where
 frames:A.frames=some outer
 mod:Mod K mg base
 bs:∀b o,base.get? b=some o->s.heap.get? b=some o/\H b=none
 bsz:base.objs.size<=s.heap.objs.size
 funs:s.heap.FunFrames base outer
 frf:∀b∈frs outer,H b=none
 hok:HOk P w H s.heap
 bare:AllBare s.gens
def CE(outer:List Env)(P:QJ)(w:QL)(H:Hp)(s:Qc)(Q:VK)(u:Qb)(s':Qc):Prop:=
 ∃v H',s'.os=s.os/\AllBare s'.gens/\Un (frs outer) [] H H' s.heap s'.heap/\HOk P w H' s'.heap/\ba v u/\Q v H'
def CR(CX:CXT)(outer:List Env)(P:QJ)(w:QL)(H:Hp)(s:Qc)(Q:VK)(E:XK)(r:Result)(s':Qc):Prop:=
 match r with
 |.ok (.ret u)=>CE outer P w H s Q u s'
 |.ok _=>False
 |.error e=>CX outer H s E e s'
structure FnOk(P:QJ)(w:QL)(K:Qe)(mg:Str->Option Qb)(base:Heap)(CX:CXT)(k:Nat)(f:Addr)(fd:J8)(ps:List Str)(sp:Sp):Prop where
 len:∀vs H Q E,sp vs H Q E->vs.length=ps.length
 run:∀(A:QU) (outer:List Env) (s:Qc) (H:Hp) (args:Args) (us:List Qb) (vs:List V) (Q:VK) (E:XK),Room k A->Env0 P w K mg base A outer s H->BindsTo s fd args (ps.zip us)->a9 vs us->sp vs H Q E->
  JO (Qo P w) A (.call (.ref f) args) (CR CX outer P w H s Q E) s
theorem FnOk.mono{P:QJ}{w:QL}{K:Qe}{mg:Str->Option Qb}{base:Heap}{CX:CXT}{j k:Nat}{f:Addr}{fd:J8}{ps:List Str}{sp:Sp}(F:FnOk P w K mg base CX j f fd ps sp)(h:j<=k) :
  FnOk P w K mg base CX k f fd ps sp:=⟨F.len,λA outer s H args us vs Q E hr=>F.run A outer s H args us vs Q E (hr.mono h)⟩
theorem Env0.in1{P:QJ}{w:QL}{K:Qe}{mg:Str->Option Qb}{base:Heap}{A:QU}{outer:List Env}{s:Qc}{H:Hp}(e:Env0 P w K mg base A outer s H) :
  Env0 P w K mg base A.in1 outer s H:=⟨e.frames,e.mod,e.bs,e.bsz,e.funs,e.frf,e.hok,e.bare⟩
section
variable{X:Cx}{pins:List (Addr×Obj)}{σ:St}{H:Hp}{s s':Qc}
theorem Inv.env0(I:Inv X pins σ H s):Env0 X.prog X.w X.K X.mg X.base X.A X.stack s H:=
 ⟨I.ok.frames,I.ok.mod,I.bs,Q4 I.ok.bsz I.sz,I.stack,I.stkFree,I.hok,I.bare⟩
theorem Inv.after{Q:VK}{u:Qb}(I:Inv X pins σ H s)(h:CE X.stack X.prog X.w H s Q u s'):EP X pins σ Q u s':=by
 obtain⟨v,H',os,bare,un,hok,r,q⟩:=h;obtain⟨hh,g,d,t,os'⟩:=s';obtain rfl:os'=s.os:=os;exact⟨v,H',I.call (h':=hh) (g':=g) (d':=d) (t':=t) (ch:=[]) un hok bare (λb z=>absurd z (by simp)),r,q⟩
end
def Gd(sp:Sp)(dvs:List V)(E:XK)(t:TA):TE:=λσ H Q=>t σ H λvs H1=>sp (vs++dvs) H1 Q E
def k7(K:Qe)(fd:J8)(ps:List Str)(ds:List Qb):Prop:=
 ∀(s:Qc) (us:List Qb),K.In s.heap->(us++ds).length=ps.length->BindsTo s fd ⟨us,[]⟩ (ps.zip (us++ds))
theorem k7.all{K:Qe}{fd:J8}{ps:List Str}(h:∀us:List Qb,us.length=ps.length->bindArgs fd ⟨us,[]⟩=pure (ps.zip us)):k7 K fd ps []:=λs us _ hl=>by
 rw[Jp] at hl ⊢;exact .of_eq (h us hl)
def rP(CX:CXT)(X:Cx)(E:XK):Prop:=∀(pins:List (Addr×Obj)) (σ:St) (H:Hp) (s:Qc) (e:Qb) (s':Qc),Inv X pins σ H s->CX X.stack H s E e s'->X.xe e s'
section
variable{X:Cx}{CX:CXT}{k:Nat}{f C:Addr}{fd:J8}{ps:List Str}{sp:Sp}{dvs:List V}{ds:List Qb}{E:XK}{x m:Str}{p pos apos:Pos}{e o:Expr}{es:List Expr}{ta:TE}{t:TA}
theorem D2{pins:List (Addr×Obj)}{σ:St}{H:Hp}{s:Qc}{Q:VK}{us:List Qb}{vs:List V}(F:FnOk X.prog X.w X.K X.mg X.base CX k f fd ps sp)(hr:Room k X.A)(hb:k7 X.K fd ps ds)(hd:a9 dvs ds)(hx:rP CX X E)
  (I:Inv X pins σ H s) (r:a9 vs us) (h:sp (vs++dvs) H Q E):Qm (Qo X.prog X.w) X.A (call (.ref f) us) (EP X pins σ Q) X.xe s:=by
 have r2:a9 (vs++dvs) (us++ds):=r.append hd;have hl:(us++ds).length=ps.length:=by rw[<-r2.length];exact F.len _ _ _ _ h
 refine wpAny_call (codeAny_mono (F.run X.A X.stack s H ⟨us,[]⟩ (us++ds) (vs++dvs) Q E hr I.env0 (hb s us I.kIn hl) r2 h) λr s' hq=>?_);cases r with
 |error e=>exact hx pins σ H s e s' I hq
 |ok fl=>
  cases fl with
  |ret u=>exact I.after hq
  |next=>exact Zo hq
  |brk=>exact Zo hq
  |cont=>exact Zo hq
theorem AD(F:FnOk X.prog X.w X.K X.mg X.base CX k f fd ps sp)(hr:Room k X.A)(hg:Gl X x)(hm:X.mg x=some (.ref f))(hk:Ko X.K (.ref f)=true)(hb:k7 X.K fd ps ds)(hd:a9 dvs ds)(hx:rP CX X E)
  (ha:PA X (e::es) t) (hdb:(x==("__debug__" : Str))=false:=by decide) (he:Qy (e::es) X.env=(false,eval e X.env)::Qy es X.env:=by rfl) (hpl:(JG pos (Qy es X.env)).any (·.1)=false:=by rfl) :
  PE X (.Call (.Name x p) (e::es) [] pos) (Gd sp dvs E t):=by
 intro pins s σ H Q I h;refine KU (uk I hg hm ?_ hdb);refine PySem.W.callWith_K (h₀:=X.base) I.ok.mod.kin hk (thn (ha pos pins s σ H _ I h) λus s1 ⟨vs,H1,I1,r,q⟩=>⟨I1.kIn,?_⟩) he hpl;exact D2 F hr hb hd hx I1 r q
end
def PK(X:Cx)(kws:List Keyword)(t:TA):Prop:=
 ∀(pos:Pos) (pins:List (Addr×Obj)) (s:Qc) (σ:St) (H:Hp) (Q:List V->Hp->Prop),Inv X pins σ H s->t σ H Q->Qm (Qo X.prog X.w) X.A (evalAll ((backToKw pos (ZJ kws X.env)).map (·.2))) (AP X pins σ Q) X.xe s
section
variable{X:Cx}{CX:CXT}{k:Nat}{f C:Addr}{fd:J8}{ps ks:List Str}{sp:Sp}{E:XK}{x m:Str}{p pos apos kpos:Pos}{e o:Expr}{es:List Expr}{kws:List Keyword}{te ta:TE}{t tk:TA}{nm:Option Str}
theorem Dl:PK X [] BA:=λ_ _ _ _ H Q I h=>wpAny_evalAll_nil ⟨[],H,I,.nil,h⟩
theorem Bb(ha:PE X e te)(hr:PK X kws t):PK X (⟨nm,e,kpos⟩::kws) (ud te t):=by
 intro pos pins s σ H Q I h;show Qm _ _ (evalAll ((do let v<-eval e X.env;standAt pos;pure v)::(backToKw pos (ZJ kws X.env)).map (·.2))) _ _ s;refine wpAny_evalAll_cons (Qa (thn (ha pins s σ H _ I h) λu s1 ⟨x,H1,I1,r1,q1⟩=>Qa (JX (Qd ?_))));exact thn (hr pos pins s1 σ H1 _ I1 q1) λus s2 ⟨xs,H2,I2,r2,q2⟩=>⟨x::xs,H2,I2,.cons r1 r2,q2⟩
variable{g:List Qb->List Qb->List Qb}{gV:List V->List V->List V}
end
structure FnScope(N P:List Str)(sc:Scope):Prop where
 kind:sc.kind=.function
 co:sc.isCoroutine=false
 gen:sc.isGenerator=false
 nd:N.Nodup
 pre:N.take P.length=P
 par:∀x∈P,sc.names.lookup x=some .local\/sc.names.lookup x=some .cell
 nofree:∀y∈sc.names,y.2≠.free
theorem nM{Js:Str->Option NameKind}{x:Str}:∀{binds:List (Str×Qb)} {m:Str->Option Qb},(∀v,(x,v)∉binds)->bindL Js binds m x=m x
 |[],_,_=>rfl
 |(n,v)::r,m,h=>by
  unfold bindL;rw[nM λw hw=>h w (Qg _ hw)];split
  ·have:x≠n:=by rintro rfl;exact h v Qj
   simp[this]
  ·rfl
theorem nH{Js:Str->Option NameKind}{x:Str}:∀{binds:List (Str×Qb)} {m:Str->Option Qb},(∀v,(x,v)∉binds)->bindC Js binds m x=m x
 |[],_,_=>rfl
 |(n,v)::r,m,h=>by
  unfold bindC;rw[nH λw hw=>h w (Qg _ hw)];split
  ·rfl
  ·have:x≠n:=by rintro rfl;exact h v Qj
   simp[this]
theorem nI{Js:Str->Option NameKind}{x:Str}{v:Qb}:∀{P:List Str} {vs:List Qb} {i:Nat} {m:Str->Option Qb},P.Nodup->P[i]?=some x->vs[i]?=some v->Js x=some .local->
  bindL Js (P.zip vs) m x=some v
 |[],_,_,_,_,h,_,_=>by simp at h
 |_::_,[],_,_,_,_,h,_=>by simp at h
 |p::P,w::vs,0,m,nd,h1,h2,hk=>by
  simp at h1 h2;subst h1;subst h2;show bindL Js ((p,w)::P.zip vs) m p=_;unfold bindL;rw[nM λv hv=>(Ju.mp nd).1 (List.of_mem_zip hv).1,if_pos hk];simp
 |p::P,w::vs,i+1,m,nd,h1,h2,hk=>by
  show bindL Js ((p,w)::P.zip vs) m x=_;unfold bindL;exact nI (i:=i) (Ju.mp nd).2 (by simpa using h1) (by simpa using h2) hk
theorem mY{Js:Str->Option NameKind}{x:Str}{v:Qb}:∀{P:List Str} {vs:List Qb} {i:Nat} {m:Str->Option Qb},P.Nodup->P[i]?=some x->vs[i]?=some v->Js x≠some .local->
  bindC Js (P.zip vs) m x=some v
 |[],_,_,_,_,h,_,_=>by simp at h
 |_::_,[],_,_,_,_,h,_=>by simp at h
 |p::P,w::vs,0,m,nd,h1,h2,hk=>by
  simp at h1 h2;subst h1;subst h2;show bindC Js ((p,w)::P.zip vs) m p=_;unfold bindC;rw[nH λv hv=>(Ju.mp nd).1 (List.of_mem_zip hv).1,if_neg hk];simp
 |p::P,w::vs,i+1,m,nd,h1,h2,hk=>by
  show bindC Js ((p,w)::P.zip vs) m x=_;unfold bindC;exact mY (i:=i) (Ju.mp nd).2 (by simpa using h1) (by simpa using h2) hk
def start(N:List Str)(vs:List V):St:=vs.map some++List.replicate (N.length-vs.length) none
def oU(CX:CXT)(P:QJ)(w:QL)(K:Qe)(mg:Str->Option Qb)(base:Heap)(N:List Str)(qual:Str)(scope:Scope)(f:Addr)(cd:Qb)(A:QU)(outer:List Env)(s:Qc)(H:Hp)(E:XK):Cx where
 prog:=P
 w:=w
 K:=K
 mg:=mg
 base:=base
 A:=A.deeper (envOfC qual scope s.heap.objs.size f cd)
 N:=N
 s₀:=s
 H₀:=H
 env:=envOfC qual scope s.heap.objs.size f cd
 outer:=outer
 stack:=envOfC qual scope s.heap.objs.size f cd::outer
 ex:=[]
 calm:=true
 fn:=λ_=>true
 pn:=[]
 xe:=λe s'=>Qm (Qo P w) (A.deeper (envOfC qual scope s.heap.objs.size f cd)) (leaving (envOfC qual scope s.heap.objs.size f cd) e) (λ_ s''=>CX outer H s E e s'') (λe' s''=>CX outer H s E e' s'') s'
theorem qw{sc:Scope}{n:Nat}{x:Str}(h:sc.names.lookup x=some .cell):∃c,(cellsFrom n sc.names []).lookup x=some c:=by
 have q:=PySem.W.cellsFrom_some sc.names n [] (.inl h);exact Option.isSome_iff_exists.mp q
theorem wg{CX:CXT}{P:QJ}{w:QL}{K:Qe}{mg:Str->Option Qb}{base:Heap}{N ps:List Str}{qual:Str}{scope:Scope}{f:Addr}{cd:Qb}{A:QU}{outer:List Env}{s s1:Qc}{H:Hp}{E:XK}{us:List Qb}{vs:List V}
  (S:FnScope N ps scope) (hd:A.handled=none) (e0:Env0 P w K mg base A outer s H) (hl:vs.length=ps.length) (r:a9 vs us)
  (x:InCallC s s.heap.objs.size (bindL (envOfC qual scope s.heap.objs.size f cd).kindOf (ps.zip us) λ_=>none) (cellsFrom (s.heap.objs.size+1) scope.names []) (bindC (envOfC qual scope s.heap.objs.size f cd).kindOf (ps.zip us) λ_=>none) s1) :
  Inv (oU CX P w K mg base N qual scope f cd A outer s H E) [] (start N vs) H s1:=by
 have hpl:ps.length<=N.length:=by have:=congrArg List.length S.pre;rw[QP] at this;lia
 obtain⟨h1,tk,rfl,hk⟩:=x.done;have noA:∀b:Addr,b∉(oU CX P w K mg base N qual scope f cd A outer s H E).ex:=λb z=>absurd (show b∈([]:List Addr) from z) (by simp)
 refine⟨⟨e0.mod,S.kind,rfl,rfl,Qf _,λy z c h1 h2=>?_,λy hy=>?_,λy c _ h=>?_,λ_=>hd,Around.frames_deeper e0.frames,.inr ⟨rfl,rfl⟩,λb z=>absurd z (noA b),e0.bs,e0.bsz,λb _ _=>noA b,λb z=>absurd z (noA b),e0.funs,e0.frf⟩,
  rfl,e0.bare,Un.kept hk,⟨_,x.toInCall.ns,λi y v h1 h2 h3=>?_⟩,λy c h=>⟨_,x.cell y c h⟩,e0.hok.fresh (Qf _),λy c h=>?_,λp hp=>absurd (show p∈([]:List (Addr×Obj)) from hp) (by simp),e0.hok.kept hk,?_⟩
 ·exact name_of_addr x.apart (J3 h1) (J3 h2)
 ·have hy:scope.names.lookup y=some .cell\/scope.names.lookup y=some .free:=hy
  rcases hy with hy | hy
  ·exact qw hy
  ·exact absurd rfl (S.nofree _ (J3 hy))
 ·exact Jr (x.above y c (J3 h))
 ·have hi:i<vs.length:=by
   unfold start at h2
   by_cases hi:i<vs.length
   ·exact hi
   ·rw[QH (by simpa using hi)] at h2
    rw[Zb] at h2;split at h2<;>cases h2
  have ha:vs[i]?=some v:=by
   unfold start at h2;rw[QT (by simpa using hi),Qx] at h2;cases e:vs[i]? with
   |none=>rw[e] at h2;cases h2
   |some a=>rw[e] at h2;cases h2;rfl
  obtain⟨u,hu,rv⟩:=r.get ha
  have hp:ps[i]?=some y:=by
   rw[<-S.pre,Zr (by lia)];exact h1
  have ndP:ps.Nodup:=by rw[<-S.pre];exact S.nd.sublist (List.take_sublist _ _)
  refine⟨u,rv,?_⟩;rcases S.par y (QZ hp) with k | k
  ·exact .inl ⟨k,nI ndP hp hu k⟩
  ·obtain⟨c,e⟩:=qw (n:=s.heap.objs.size+1) k
   refine .inr ⟨.inl k,c,e,?_⟩;have q:=x.cell y c e;rw[mY ndP hp hu (by show scope.names.lookup y≠_;rw[k];decide)] at q;exact q
 ·exact e0.hok.fresh (Jr (x.above y c (J3 h)))
 ·unfold start
  show _=N.length;rw[Qr,Qi,J4]
  lia
theorem Fh{CX:CXT}{P:QJ}{w:QL}{K:Qe}{mg:Str->Option Qb}{base:Heap}{k:Nat}{f:Addr}{name qual:Str}{params:Arguments}{body:List Stmt}{scope:Scope}{dV kV doc pm cdv ct oc:Qb}{an od:Option Addr}
  {osl:Array (Option Qb)} {N ps:List Str} {sp:Sp} (lk:K.lookup f=some ⟨oc,od,.func (Zh name qual params body scope dV kV doc pm an cdv ct),osl⟩) (hcd:PySem.W.codeIn K cdv qual=true) (S:FnScope N ps scope)
  (len:∀vs H Q E,sp vs H Q E->vs.length=ps.length)
  (hbody:∀(A:QU) (outer:List Env) (s:Qc) (H:Hp) (vs:List V) (Q:VK) (E:XK),Room k (A.deeper (envOfC qual scope s.heap.objs.size f cdv))->sp vs H Q E->
   ∃t,PSs (oU CX P w K mg base N qual scope f cdv A outer s H E) body t/\t { nx:=λ_ H'=>Q .non H',rt:=Q } (start N vs) H) :
  FnOk P w K mg base CX (k+1) f (Zh name qual params body scope dV kV doc pm an cdv ct) ps sp:=by
 refine⟨len,λA outer s H args us vs Q E hr e0 hb r hsp=>?_⟩;have hl:=len _ _ _ _ hsp;have KX:K.In s.heap:=e0.mod.kin.keeps λb o e=>(e0.bs b o e).1;have lim:s.heap.NoLimit:=e0.mod.nolimit.keeps λb o e=>(e0.bs b o e).1
 have hkind:∀y∈ps.zip us,scope.names.lookup y.1=some .local\/(scope.names.lookup y.1=some .cell/\((cellsFrom (s.heap.objs.size+1) scope.names []).lookup y.1).isSome=true):=λ⟨n,v⟩ hy=>by
  rcases S.par n (List.of_mem_zip hy).1 with q | q
  ·exact .inl q
  ·exact .inr ⟨q,PySem.W.cellsFrom_some _ _ _ (.inl q)⟩
 refine codeAny_call_function hr.depth (KX _ _ lk) rfl S.co S.gen rfl (PySem.W.codeRec_of KX hcd) (hb _ _ _ _ ?_);refine wpAny_newFunctionEnv_cells S.kind hkind λenv he s1 x=>?_;subst he;refine⟨lim.keeps x.toInCall.keep,codeAny_func ?_⟩;obtain⟨t,ht,hq⟩:=hbody A outer s H vs Q E (hr.deeper _) hsp;have I:Inv (oU CX P w K mg base N qual scope f cdv A outer s H E) [] (start N vs) H s1:=wg S hr.hd e0 hl r x;refine QV (ht [] s1 (start N vs) H _ I hq) (λfl s' hs=>?_) λe s' hs=>hs
 have fin:∀{σ':St} {H':Hp} {v:V} {u:Qb},Inv (oU CX P w K mg base N qual scope f cdv A outer s H E) [] σ' H' s'->ba v u->Q v H'->CE outer P w H s Q u s':=
  λ{σ' H' v u} J rv q=>⟨v,H',J.os,J.bare,J.base,J.hok,rv,q⟩
 cases fl with
 |ret u=>
  obtain⟨v,σ',H',J,rv,q⟩:=hs;exact fin J rv q
 |next=>
  obtain⟨σ',H',J,q⟩:=hs;exact fin (v:=V.non) (u:=JH) J rfl q
 |brk=>
  obtain⟨_,_,_,q⟩:=hs;exact Zo q
 |cont=>
  obtain⟨_,_,_,q⟩:=hs;exact Zo q
section
variable{X:Cx}{x:Str}{p pos:Pos}{e:Expr}{es:List Expr}{t:TA}{id T:String}{r:List V->Hp->VK->Prop}
def tCB(r:List V->Hp->VK->Prop)(t:TA):TE:=λσ H Q=>t σ H λvs H1=>r vs H1 Q
theorem fX(hc:eY X (.builtin id) r)(hg:Gl X x)(hm:X.mg x=none)(hv:ZL x=some (.builtin id))(ha:PA X (e::es) t)(hn:x≠"__name__":=by decide)(hdb:(x==("__debug__" : Str))=false:=by decide)
  (he:Qy (e::es) X.env=(false,eval e X.env)::Qy es X.env:=by rfl) (hpl:(JG pos (Qy es X.env)).any (·.1)=false:=by rfl):PE X (.Call (.Name x p) (e::es) [] pos) (tCB r t):=by
 intro pins s σ H Q I h;refine KU (iT I hg hm hv ?_ hn hdb);exact PyProof.Rows.callWith_builtin1 (thn (ha pos pins s σ H _ I h) λus s1 ⟨vs,H1,I1,r1,q1⟩=>hc pins s1 σ H1 vs us Q I1 r1 q1) he hpl
theorem nC(hc:eY X (.type T) r)(hg:Gl X x)(hm:X.mg x=none)(hv:ZL x=some (.type T))(ha:PA X (e::es) t)(hn:x≠"__name__":=by decide)(hdb:(x==("__debug__" : Str))=false:=by decide)
  (he:Qy (e::es) X.env=(false,eval e X.env)::Qy es X.env:=by rfl) (hpl:(JG pos (Qy es X.env)).any (·.1)=false:=by rfl):PE X (.Call (.Name x p) (e::es) [] pos) (tCB r t):=by
 intro pins s σ H Q I h;refine KU (iT I hg hm hv ?_ hn hdb);exact ZN (thn (ha pos pins s σ H _ I h) λus s1 ⟨vs,H1,I1,r1,q1⟩=>hc pins s1 σ H1 vs us Q I1 r1 q1) he hpl
end
end L2
namespace HT
open PySem PyProof.Rows
def BP:List Int->List Int->Bool
 |[],[]=>false
 |[],_::_=>true
 |_::_,[]=>false
 |x::xs,y::ys=>if x=y then BP xs ys else decide (x<y)
theorem yB(A:QU)(s:Qc)(a:Int)(t:Tok)(c:Int)(u:Tok):∃e,Kc A s (.int a t) (.int c u) e/\(e=true↔a=c):=
 ⟨(a==c),SeqAt.EqAt.int_int a t c u,by simp⟩
section
open PySem.SeqAt
open PySem.AutoSeq1 (wpAny_loadPart')
open PySem.MeetsSeq PySem.MeetsSeq2 PySem.MeetsSeq3
end
section
variable{prog:QJ}{w:QL}{A:QU}{E:Qb->Qc->Prop}{s:Qc}
theorem zF{t b:Addr}{vs ws:List Qb}{Q:Qb->Qc->Prop}(ht:IsTup s.heap t vs.toArray)(hb:IsTup s.heap b ws.toArray)(hv:vs≠[])
  (h1:ws=[]->Q (.ref t) s) (h2:ws≠[]->Q (.ref s.heap.objs.size) { s with heap:=s.heap.push { cls:=.type "tuple",data:=.seq (vs++ws).toArray } })
  (hsz:vs.length+ws.length<=QO):Qm (Qo prog w) A (J7 .Add (.ref t) (.ref b)) Q E s:=by
 obtain⟨⟨cls,dd,data,sl⟩,ho,hc,n,hd⟩:=id ht;obtain⟨⟨cls2,dd2,data2,sl2⟩,ho2,hc2,n2,hd2⟩:=id hb;simp only at hc hd hc2 hd2;subst hc hd hc2 hd2;have e:vs.toArray++ws.toArray=(vs++ws).toArray:=by simp
 by_cases hw:ws=[]
 ·exact concat_meets ⟨_,ho,rfl⟩ ⟨_,ho2,rfl⟩ noFill_tuple_add seq_tuple_add PySem.F.slot_tuple_add PySem.F.entry_tuple_add (PySem.F.args_tuple_add_2 _ _)
   (tuple_addW1 t b vs.toArray ws.toArray n n2 dd dd2 sl sl2 (by simpa using hv) (by simp[hw])) ⟨ho,ho2,h1 hw⟩
 ·refine concat_meets ⟨_,ho,rfl⟩ ⟨_,ho2,rfl⟩ noFill_tuple_add seq_tuple_add PySem.F.slot_tuple_add PySem.F.entry_tuple_add (PySem.F.args_tuple_add_2 _ _)
   (tuple_addW2 t b vs.toArray ws.toArray n n2 dd dd2 sl sl2 (by simpa using hv) (by simpa using hw) (by rw[QR,QR];exact hsz)) ⟨ho,ho2,?_⟩
  rw[e];exact h2 hw
def sIx(n d:Nat):Option Int->Nat
 |none=>d
 |some v=>if v<0 then(v+(n:Int)).toNat else min v.toNat n
theorem ph(n d:Nat):sIx n d none=d:=rfl
theorem ko(n d k:Nat):sIx n d (some (k:Int))=min k n:=by
 show(if(k:Int)<0 then((k:Int)+(n:Int)).toNat else min (k:Int).toNat n)=min k n;rw[if_neg (by lia),Z0]
theorem Ep(n d:Nat)(hd:d<=n)(o:Option Int):sIx n d o<=n:=by
 cases o with
 |none=>exact hd
 |some v=>
  show(if v<0 then(v+(n:Int)).toNat else min v.toNat n)<=n
  by_cases hv:v<0
  ·rw[if_pos hv];lia
  ·rw[if_neg hv];exact Nat.min_le_right _ _
theorem tI(v:Int)(n d:Nat):(if v<0 then max (v+(n:Int)) 0 else min v (n:Int))=((sIx n d (some v):Nat):Int):=by
 show(if v<0 then max (v+(n:Int)) 0 else min v (n:Int))=(((if v<0 then(v+(n:Int)).toNat else min v.toNat n):Nat):Int)
 by_cases hv:v<0
 ·simp only[if_pos hv];lia
 ·simp only[if_neg hv];lia
theorem rS(lo hi:Option Int)(n:Nat):Builtin.Slice.sliceAdjust lo hi 1 (n:Int)=(((sIx n 0 lo:Nat):Int),((sIx n n hi:Nat):Int)):=by
 have h1:¬ ((1:Int)<0):=by lia
 unfold Builtin.Slice.sliceAdjust;simp only[h1,if_false];refine Prod.ext ?_ ?_
 ·cases lo with
  |none=>rfl
  |some v=>exact tI v n 0
 ·cases hi with
  |none=>rfl
  |some v=>exact tI v n n
theorem rD(i j:Nat):Z2 (i:Int) (j:Int) 1=j-i:=by
 unfold Z2;have h1:(1:Int)>0:=by lia
 simp only[h1,if_true,Int.ediv_one];split<;>lia
theorem lB{v:Qb}{o:Option Int}{Q:Option Int->Qc->Prop}(p:IsPart v o)(h:Q o s):Qm (Qo prog w) A (Builtin.Slice.slicePartIndex v) Q E s:=by
 cases p with
 |none=>exact slicePart_none h
 |int i t=>exact slicePart_int h
theorem jJ{sl:Addr}{vl vu:Qb}{lo hi:Option Int}{n:Nat}{Q:Int×Int×Nat->Qc->Prop}(hs:s.heap.IsSliceOf sl vl vu .none)(pl:IsPart vl lo)(pu:IsPart vu hi)
  (h:Q (((sIx n 0 lo:Nat):Int),1,sIx n n hi-sIx n 0 lo) s):Qm (Qo prog w) A (Builtin.Slice.sliceApplied (.ref sl) (pure (n:Int))) Q E s:=by
 obtain⟨os,hos,hcs,hds⟩:=id hs;unfold Builtin.Slice.sliceApplied Builtin.Slice.sliceFields;refine Qa (Qa (wpAny_field hos hds (x:=vl) rfl (Qa (wpAny_field hos hds (x:=vu) rfl (Qa (wpAny_field hos hds (x:=.none) rfl (Qd ?_)))))));refine Qa (slicePart_none ?_);show Qm _ _ (if((1:Int)==0)=true then _ else _) _ _ s;rw[if_neg (by decide)];refine Qa (lB pl (Qa (lB pu (Qa (Qd ?_)))));show Qm _ _ (match Builtin.Slice.sliceAdjust lo hi 1 (n:Int) with | (lo,hi)=>pure (lo,(1:Int),Z2 lo hi 1)) _ _ s;rw[rS lo hi n];show Qm _ _ (pure (((sIx n 0 lo:Nat):Int),(1:Int),Z2 ((sIx n 0 lo:Nat):Int) ((sIx n n hi:Nat):Int) 1)) _ _ s;rw[rD];exact Qd h
theorem xM(xs:Array Qb)(i k:Nat):((QE k).filterMap λ(m:Nat)=>xs[((i:Int)+(m:Int)*1).toNat]?).toArray=((xs.toList.drop i).take k).toArray:=by
 have e:(λ(m:Nat)=>xs[((i:Int)+(m:Int)*1).toNat]?)=λm=>xs[i+m]?:=by
  funext m
  have:((i:Int)+(m:Int)*1).toNat=i+m:=by lia
  rw[this]
 rw[e];have:=pick_run xs i k;rw[List.filterMap_map] at this;have e2:((λx=>xs[x]?)∘λx=>i+x)=λm=>xs[i+m]?:=rfl;rw[e2] at this;rw[this]
theorem iX{t sl:Addr}{items:Array Qb}{vl vu:Qb}{lo hi:Option Int}{Q:Qb->Qc->Prop}(ht:IsTup s.heap t items)(hs:s.heap.IsSliceOf sl vl vu .none)(pl:IsPart vl lo)(pu:IsPart vu hi)
  (hw:¬ (sIx items.size 0 lo=0/\sIx items.size items.size hi=items.size))
  (h:Q (.ref s.heap.objs.size) { s with heap:=s.heap.push { cls:=.type "tuple",data:=.seq ((items.toList.drop (sIx items.size 0 lo)).take (sIx items.size items.size hi-sIx items.size 0 lo)).toArray } })
  (hsz:items.size<=QO):Qm (Qo prog w) A (getItem (.ref t) (.ref sl)) Q E s:=by
 have htake:sizeOk (.seq ((items.toList.drop (sIx items.size 0 lo)).take (sIx items.size items.size hi-sIx items.size 0 lo)).toArray):=by
  show((items.toList.drop (sIx items.size 0 lo)).take (sIx items.size items.size hi-sIx items.size 0 lo)).toArray.size<=QO;rw[QR,QP,Ji,Qu]
  lia
 have hj:sIx items.size items.size hi<=items.size:=Ep _ _ (Qf _) hi;obtain⟨os,hos,hcs,hds⟩:=id hs;have hTs:s.TypeIs (.ref sl) "slice":=⟨os,hos,hcs⟩;unfold getItem
 try with_reducible refine Q0 ?_
 first | refine Qa (Qd ?_) | skip
 refine Qa (wpAny_sequenceKey ht.typeIs (by decide) ?_)
 refine Qa (Ka (name:=Zs "__getitem__") ht.typeIs PyProof.Rows.slot_tuple_getitem
  (J9 PyProof.Rows.slot_tuple_getitem ht.typeIs entry_tuple_getitem ?_ (args_tuple_getitem _ _)))
 show Qm _ _ (Builtin.Tuple.tupleItemsOf (.ref t)>>=_) _ _ s;refine Qa (tupleItemsOf_ ht ?_);refine Qa (wpAny_typeOf hTs ?_);rw[if_pos (by decide)];refine Qa (jJ hs pl pu ?_)
 have hno:¬ ((((sIx items.size 0 lo:Nat):Int)==0&&(1:Int)==1&&(sIx items.size items.size hi-sIx items.size 0 lo)==items.size)=true):=by
  intro q;rw[Z4,Z4] at q;have q1:((sIx items.size 0 lo:Nat):Int)=0:=eq_of_beq q.1.1;have q2:sIx items.size items.size hi-sIx items.size 0 lo=items.size:=eq_of_beq q.2;exact hw ⟨by lia,by lia⟩
 show Qm _ _ (if(((sIx items.size 0 lo:Nat):Int)==0&&(1:Int)==1&&(sIx items.size items.size hi-sIx items.size 0 lo)==items.size)=true then _ else _) _ _ s;rw[if_neg hno,xM]
 first
  |exact Qa (m:=Z5 _) (Jd (Qd ⟨_,rfl,Qd h⟩) htake)
  |exact Qa (m:=Z5 _) (Jd (Qa (Qd (Qd ⟨_,rfl,Qd h⟩))) htake)
  |exact Qa (Qa (m:=Z5 _) (Jd (Qd (Qd ⟨_,rfl,Qd h⟩)) htake))
  |exact Qa (Qa (m:=Z5 _) (Jd (Qd ⟨_,rfl,Qd h⟩) htake))
end
end HT
namespace L2
open PySem PySem.Spec PyProof.Rows
abbrev TO:=St->Hp->(Option Int->Hp->Prop)->Prop
def PO(X:Cx)(e:Option Expr)(t:TO):Prop:=
 ∀(pins:List (Addr×Obj)) (s:Qc) (σ:St) (H:Hp) (Q:Option Int->Hp->Prop),Inv X pins σ H s->t σ H Q->
  Qm (Qo X.prog X.w) X.A (evalPart e X.env) (λu s'=>∃o H',Inv X pins σ H' s'/\IsPart u o/\Q o H') X.xe s
def BL:TO:=λ_ H Q=>Q none H
def FY(t:TE):TO:=λσ H Q=>t σ H λx H1=>∃i,x=.int i/\Q (some i) H1
theorem eO{ns:List Int}:∀{us:List Qb},a9 (ns.map V.int) us->JP us ns:=by
 induction ns with
 |nil=>intro us r;rw[Kq] at r;cases r;exact .nil
 |cons n ns ih=>
  intro us r;rw[Qv] at r;cases r with
  |cons r1 r2=>
   obtain⟨t,e⟩:=r1;subst e;exact .cons n t (ih r2)
section
variable{X:Cx}{e:Expr}{te:TE}{lo hi:Option Expr}{tl th:TO}{pos p2:Pos}
theorem Ag:PO X none BL:=by
 intro pins s σ H Q I h;rw[evalPart_none];exact Qd ⟨none,H,I,.none,h⟩
theorem By(h:PE X e te):PO X (some e) (FY te):=by
 intro pins s σ H Q I hw;rw[evalPart_some];refine thn (h pins s σ H _ I hw) λu s1 ⟨x,H1,I1,r1,q1⟩=>?_;obtain⟨i,rfl,q⟩:=q1;obtain⟨t,rfl⟩:=r1;exact⟨some i,H1,I1,.int i t,q⟩
def SlR(X:Cx)(r:V->Option Int->Option Int->Hp->VK->Prop):Prop:=
 ∀(pins:List (Addr×Obj)) (s:Qc) (σ:St) (H:Hp) (x:V) (v vl vu:Qb) (lo hi:Option Int) (sl:Addr) (Q:VK),Inv X pins σ H s->ba x v->s.heap.IsSliceOf sl vl vu .none->IsPart vl lo->IsPart vu hi->r x lo hi H Q->
  ∃T id,typeLookup (.type T) "__getitem__" = pure (some (.builtin id))/\s.TypeIs v T/\Qm (Qo X.prog X.w) X.A (getItem v (.ref sl)) (EP X pins σ Q) X.xe s
theorem SlR.or{r r':V->Option Int->Option Int->Hp->VK->Prop}(h:SlR X r)(h':SlR X r'):SlR X (λx lo hi H Q=>r x lo hi H Q\/r' x lo hi H Q):=by
 intro pins s σ H x v vl vu lo hi sl Q I rx hs pl pu q;rcases q with q | q
 ·exact h pins s σ H x v vl vu lo hi sl Q I rx hs pl pu q
 ·exact h' pins s σ H x v vl vu lo hi sl Q I rx hs pl pu q
def tSl(r:V->Option Int->Option Int->Hp->VK->Prop)(te:TE)(tl th:TO):TE:=λσ H Q=>te σ H λx H1=>tl σ H1 λl H2=>th σ H2 λu H3=>r x l u H3 Q
theorem qQ{r:V->Option Int->Option Int->Hp->VK->Prop}(hr:SlR X r)(he:PE X e te)(hl:PO X lo tl)(hu:PO X hi th):PE X (.Subscript e (.Slice lo hi none p2) pos) (tSl r te tl th):=by
 intro pins s σ H Q I h;refine Subscript_ (thn (he pins s σ H _ I h) λv s1 ⟨x,H1,I1,r1,q1⟩=>?_);refine wpAny_Slice (thn (hl pins s1 σ H1 _ I1 q1) λvl s2 ⟨l,H2,I2,pl,q2⟩=>thn (hu pins s2 σ H2 _ I2 q2) λvu s3 ⟨u,H3,I3,pu,q3⟩=>?_);rw[evalPart_none];refine Qd ?_;have I4:Inv X pins σ H3 { s3 with heap:=s3.heap.push { cls:=.type "slice",data:=.fields #[vl,vu,.none] } }:=I3.kept (t':=s3.toks) λb ob q=>Qh _ q;obtain⟨T,id,hT,ht,hg⟩:=hr pins { s3 with heap:=s3.heap.push { cls:=.type "slice",data:=.fields #[vl,vu,.none] } } σ H3 x v vl vu l u s3.heap.objs.size Q I4 r1 (Heap.IsSliceOf.new ..) pl pu q3;show Qm (Qo X.prog X.w) X.A (subscriptTail e (.Slice lo hi none p2) v (.ref s3.heap.objs.size)) (EP X pins σ Q) X.xe { s3 with heap:=s3.heap.push { cls:=.type "slice",data:=.fields #[vl,vu,.none] } };exact tail_any (ops:=[.ref s3.heap.objs.size,v]) ht hT hg (by with_unfolding_all rfl)
def n5(xs:List V)(lo hi:Option Int):List V:=(xs.drop (HT.sIx xs.length 0 lo)).take (HT.sIx xs.length xs.length hi-HT.sIx xs.length 0 lo)
theorem j5(xs:List V)(lo hi:Option Int):(n5 xs lo hi).length<=xs.length:=by
 unfold n5;rw[QP,Ji]
 lia
def GK(K:Qe):V->Option Int->Option Int->Hp->VK->Prop:=λx lo hi H Q=>∃a xs,x=.ref a/\SqT K H a xs/\
 ¬ (HT.sIx xs.length 0 lo=0/\HT.sIx xs.length xs.length hi=xs.length)/\∀p,H p=none->Q (.ref p) (upd H p (.tup (n5 xs lo hi)))
theorem Ed:SlR X (GK X.K):=by
 intro pins s σ H x v vl vu lo hi sl Q I rx hs pl pu h;obtain⟨a,xs,rfl,hx,hw,q⟩:=h;cases rx;obtain⟨its,r,ht,hz⟩:=I.tuple hx;have hlen:its.toArray.size=xs.length:=by rw[QR];exact r.length.symm
 refine⟨"tuple",_,PyProof.Rows.slot_tuple_getitem.lookup,ht.typeIs,?_⟩;refine HT.iX ht hs pl pu (by rw[hlen];exact hw) ?_ (by rw[hlen];exact hz);rw[hlen];refine⟨.ref s.heap.objs.size,_,I.laid (t':=s.toks) (o:=.tup (n5 xs lo hi)) (λb ob q=>Qh _ q) (Qf _) ?_,rfl,q _ (I.hok.fresh (Qf _))⟩;exact⟨Q4 (j5 xs lo hi) hz,_,(r.drop (HT.sIx xs.length 0 lo)).take (HT.sIx xs.length xs.length hi-HT.sIx xs.length 0 lo),IsTup.new _ _⟩
def FU(K:Qe):R2:=λx y H Q=>∃a b xs ys,x=.ref a/\y=.ref b/\SqT K H a xs/\SqT K H b ys/\xs≠[]/\xs.length+ys.length<=QO/\
 (ys=[]->Q (.ref a) H)/\(ys≠[]->∀p,H p=none->Q (.ref p) (upd H p (.tup (xs++ys))))
theorem a9.nil_iff{xs:List V}{us:List Qb}(r:a9 xs us):us=[]↔xs=[]:=by
 cases r with
 |nil=>simp
 |cons _ _=>simp
theorem Au:OpR X (J7 .Add) (FU X.K):=by
 intro pins s σ H x y v u Q I rx ry h;obtain⟨a,b,xs,ys,rfl,rfl,ha,hb,hx,hz,q1,q2⟩:=h;cases rx;cases ry;obtain⟨its,r1,p1,_⟩:=I.tuple ha;obtain⟨its2,r2,p2,_⟩:=I.tuple hb;refine HT.zF p1 p2 (λz=>hx (r1.nil_iff.mp z)) (λz=>⟨.ref a,H,I,rfl,q1 (r2.nil_iff.mp z)⟩) (λz=>?_) (by rw[<-r1.length,<-r2.length];exact hz);refine⟨.ref s.heap.objs.size,_,I.laid (t':=s.toks) (o:=.tup (xs++ys)) (λb ob q=>Qh _ q) (Qf _) ?_,rfl,q2 (λw=>z (r2.nil_iff.mpr w)) _ (I.hok.fresh (Qf _))⟩;exact⟨by rw[Qr];exact hz,_,r1.append r2,IsTup.new _ _⟩
end
def ixN(n:Nat)(i:Int):Option Nat:=if 0<=i then(if i<n then some i.toNat else none) else if -(n:Int)<=i then some (i+n).toNat else none
def atI{α:Type}(xs:List α)(i:Int):Option α:=(ixN xs.length i).bind λj=>xs[j]?
theorem zZ{n:Nat}{i:Int}{j:Nat}(h:ixN n i=some j):seqIndex? i n=some j/\j<n/\-(n:Int)<=i/\i<n:=by
 unfold ixN at h
 by_cases h0:0<=i
 ·rw[if_pos h0] at h
  by_cases h1:i<n
  ·rw[if_pos h1] at h
   have e:i.toNat=j:=Option.some.inj h;exact⟨by rw[seqIndex_of h0 h1,e],by lia,by lia,h1⟩
  ·rw[if_neg h1] at h;cases h
 ·rw[if_neg h0] at h
  by_cases h1:-(n:Int)<=i
  ·rw[if_pos h1] at h
   have e:(i+n).toNat=j:=Option.some.inj h;exact⟨by rw[seqIndex_neg (by lia) h1,e],by lia,h1,by lia⟩
  ·rw[if_neg h1] at h;cases h
theorem uj{α:Type}{xs:List α}{i:Int}{v:α}(h:atI xs i=some v):∃j,seqIndex? i xs.length=some j/\xs[j]?=some v/\j<xs.length/\-(xs.length:Int)<=i/\i<xs.length:=by
 unfold atI at h;cases e:ixN xs.length i with
 |none=>rw[e] at h;cases h
 |some j=>
  rw[e] at h;obtain⟨h1,h2,h3,h4⟩:=zZ e;exact⟨j,h1,h,h2,h3,h4⟩
theorem kP{α:Type}{xs:List α}{j:Nat}{v:α}(h:xs[j]?=some v):atI xs (j:Int)=some v:=by
 have hj:j<xs.length:=(Qk.mp h).1
 have e:ixN xs.length (j:Int)=some j:=by
  unfold ixN;rw[if_pos (by lia),if_pos (by lia)];simp
 unfold atI;rw[e];exact h
def kr(b:Expr):Prop:=∀o i,subscripted b false o i=operate [o,i] (getItem o i)
def IxR(X:Cx)(r:R2):Prop:=
 ∀(value slice:Expr) (pins:List (Addr×Obj)) (s:Qc) (σ:St) (H:Hp) (x y:V) (v u:Qb) (Q:VK),Inv X pins σ H s->ba x v->ba y u->r x y H Q->
  subscripted slice false v u=operate [v,u] (getItem v u)->Qm (Qo X.prog X.w) X.A (subscriptTail value slice v u) (EP X pins σ Q) X.xe s
def MtR(X:Cx)(id:String)(r:V->List V->Hp->VK->Prop):Prop:=
 ∀(pins:List (Addr×Obj)) (s:Qc) (σ:St) (H:Hp) (x:V) (xs:List V) (v:Qb) (us:List Qb) (Q:VK),Inv X pins σ H s->ba x v->a9 xs us->r x xs H Q->
  Qm (Qo X.prog X.w) X.A (call (.builtin id) (v::us)) (EP X pins σ Q) X.xe s
section
variable{X:Cx}{a b:Expr}{ta tb:TE}{pos:Pos}
theorem IxR.or{r r':R2}(h:IxR X r)(h':IxR X r'):IxR X (λx y H Q=>r x y H Q\/r' x y H Q):=by
 intro value slice pins s σ H x y v u Q I rx ry q hs;rcases q with q | q
 ·exact h value slice pins s σ H x y v u Q I rx ry q hs
 ·exact h' value slice pins s σ H x y v u Q I rx ry q hs
theorem MtR.or{id:String}{r r':V->List V->Hp->VK->Prop}(h:MtR X id r)(h':MtR X id r'):MtR X id (λx xs H Q=>r x xs H Q\/r' x xs H Q):=by
 intro pins s σ H x xs v us Q I rx rs q;rcases q with q | q
 ·exact h pins s σ H x xs v us Q I rx rs q
 ·exact h' pins s σ H x xs v us Q I rx rs q
theorem Fz{r:R2}(hr:IxR X r)(ha:PE X a ta)(hb:PE X b tb)(hs:kr b):PE X (.Subscript a b pos) (tOp r ta tb):=by
 intro pins s σ H Q I h;exact Subscript_ (DU ha hb I h λv u s2 x y H2 I2 rx ry q=>hr a b pins s2 σ H2 x y v u Q I2 rx ry q (hs _ _))
def GT(K:Qe):R2:=λx y H Q=>∃p xs i v,x=.ref p/\y=.int i/\SqL K H p xs/\atI xs i=some v/\Q v H
def Gp(K:Qe):R2:=λx y H Q=>∃p xs i v,x=.ref p/\y=.int i/\SqT K H p xs/\atI xs i=some v/\Q v H
theorem AV:IxR X (GT X.K):=by
 intro value slice pins s σ H x y v u Q I rx ry h hs;obtain⟨p,xs,i,z,rfl,rfl,hq,he,q⟩:=h;cases rx;obtain⟨t,rfl⟩:=ry;obtain⟨its,r,pl,hz⟩:=I.list hq;obtain⟨j,h1,h2,h3,h4,h5⟩:=uj he;obtain⟨w,ew,rw'⟩:=r.get h2;have hl:=r.length;have hn:=oh;have fin:EP X pins σ Q w s:=⟨z,H,I,rw',q⟩
 by_cases h0:0<=i
 ·have hj:i.toNat=j:=by
   rw[seqIndex_of h0 h5] at h1;exact Option.some.inj h1
  exact item_listR pl.isList h0 (by lia) (by rw[hj];simpa using ew) fin hs
 ·have hj:(i+(its.toArray.size:Int)).toNat=j:=by
   rw[seqIndex_neg (by lia) h4] at h1;rw[QR,<-hl];exact Option.some.inj h1
  exact subscriptTail_builtinR (x:=w) pl.isList.typeIs slot_list_getitem.lookup
   (wpAny_getItem_list_neg (Q:=λr s'=>r=w/\EP X pins σ Q r s') pl.isList (by lia) (by rw[QR]<;>lia) (by lia) (by rw[hj];simpa using ew) ⟨rfl,fin⟩) hs
theorem Dh:IxR X (Gp X.K):=by
 intro value slice pins s σ H x y v u Q I rx ry h hs;obtain⟨p,xs,i,z,rfl,rfl,hq,he,q⟩:=h;cases rx;obtain⟨t,rfl⟩:=ry;obtain⟨its,r,pl,hz⟩:=I.tuple hq;obtain⟨j,h1,h2,h3,h4,h5⟩:=uj he;obtain⟨w,ew,rw'⟩:=r.get h2;have hl:=r.length;have hn:=oh;have fin:EP X pins σ Q w s:=⟨z,H,I,rw',q⟩
 exact subscriptTail_builtinR (x:=w) pl.typeIs slot_tuple_getitem.lookup
  (getItem_tuple (j:=j) (Q:=λr s'=>r=w/\EP X pins σ Q r s') pl (by lia) (by lia) (by rw[QR,<-hl];exact h1) (by simpa using ew) ⟨rfl,fin⟩) hs
theorem Inv.lst{pins:List (Addr×Obj)}{σ:St}{H:Hp}{s:Qc}{p:Addr}{xs:List V}(I:Inv X pins σ H s)(h:H p=some (.lst xs)) :
  ∃(its:List Qb) (n:Nat),a9 xs its/\s.heap.get? p=some { cls:=.type "list",data:=.seq its.toArray n }/\xs.length<=QO:=by
 obtain⟨z,its,n,r,e⟩:=I.hok p _ h;exact⟨its,n,r,e,z⟩
theorem n8(lo hi:Option Int)(n:Nat):(KJ lo hi none n).1=((HT.sIx n 0 lo:Nat):Int)/\(KJ lo hi none n).2.1=((HT.sIx n n hi:Nat):Int)/\(KJ lo hi none n).2.2=1:=by
 refine⟨?_,?_,rfl⟩
 ·cases lo with
  |none=>simp[KJ,HT.sIx]
  |some i=>
   simp only[KJ,HT.sIx,Option.getD_none,show(1:Int)>0 by decide,if_true]
   by_cases h:i<0
   ·simp only[h,if_true]<;>lia
   ·simp only[h,if_false]<;>lia
 ·cases hi with
  |none=>simp[KJ,HT.sIx]
  |some i=>
   simp only[KJ,HT.sIx,Option.getD_none,show(1:Int)>0 by decide,if_true]
   by_cases h:i<0
   ·simp only[h,if_true]<;>lia
   ·simp only[h,if_false]<;>lia
theorem mz(its:List Qb)(lo hi:Option Int):slicePick its.toArray lo hi none=((its.drop (HT.sIx its.length 0 lo)).take (HT.sIx its.length its.length hi-HT.sIx its.length 0 lo)).toArray:=by
 obtain⟨h1,h2,h3⟩:=n8 lo hi its.toArray.size;unfold slicePick;rw[h1,h2,h3];simp only[sliceRange_one,pick_run,QR]<;>rfl
def GP(K:Qe):V->Option Int->Option Int->Hp->VK->Prop:=λx lo hi H Q=>∃a xs,x=.ref a/\SqL K H a xs/\∀p,H p=none->Q (.ref p) (upd H p (.lst (n5 xs lo hi)))
theorem Bt:SlR X (GP X.K):=by
 intro pins s σ H x v vl vu lo hi sl Q I rx hs pl pu h;obtain⟨a,xs,rfl,hx,q⟩:=h;cases rx;obtain⟨its,r,ht,hz⟩:=I.list hx;have hlen:=r.length;refine⟨"list",_,slot_list_getitem.lookup,ht.isList.typeIs,?_⟩;refine wpAny_getItem_list_slice ht.isList hs pl pu .none (by simp) ?_ (by rw[QR]<;>lia);rw[mz,<-hlen];refine⟨.ref s.heap.objs.size,_,I.laid (t':=s.toks) (o:=.lst (n5 xs lo hi)) (λb ob q=>Qh _ q) (Qf _) ?_,rfl,q _ (I.hok.fresh (Qf _))⟩;exact⟨Q4 (j5 xs lo hi) hz,_,0,(r.drop (HT.sIx xs.length 0 lo)).take (HT.sIx xs.length xs.length hi-HT.sIx xs.length 0 lo),QF _ rfl⟩
def gM:V->Bool
 |.non=>true
 |.bl _=>true
 |.int _=>true
 |.str _=>true
 |_=>false
def eqV:V->V->Bool
 |.non,.non=>true
 |.bl a,.bl b=>a==b
 |.bl a,.int b=>(if a then 1 else 0)==b
 |.int a,.bl b=>a==(if b then 1 else 0)
 |.int a,.int b=>a==b
 |.str a,.str b=>a==b
 |_,_=>false
theorem rL{A:QU}{s:Qc}{y x:V}{u v:Qb}(ry:ba y u)(rx:ba x v)(fy:gM y=true)(fx:gM x=true):Kc A s u v (eqV y x):=by
 cases y with
 |non=>
  cases ry;cases x with
  |non=>cases rx;exact SeqAt.EqAt.same _
  |bl b=>cases rx;exact SeqAt.EqAt.none_bool b
  |int b=>obtain⟨t,rfl⟩:=rx;exact SeqAt.EqAt.none_int b t
  |str b=>obtain⟨t,rfl⟩:=rx;exact SeqAt.EqAt.none_str b t
  |_=>exact absurd (show false=true from fx) Ql
 |bl a=>
  cases ry;cases x with
  |non=>cases rx;exact SeqAt.EqAt.bool_none a
  |bl b=>cases rx;exact SeqAt.EqAt.bool_bool a b
  |int b=>obtain⟨t,rfl⟩:=rx;exact SeqAt.EqAt.bool_int a b t
  |str b=>obtain⟨t,rfl⟩:=rx;exact SeqAt.EqAt.bool_str a b t
  |_=>exact absurd (show false=true from fx) Ql
 |int a=>
  obtain⟨t',rfl⟩:=ry;cases x with
  |non=>cases rx;exact SeqAt.EqAt.int_none a t'
  |bl b=>cases rx;exact SeqAt.EqAt.int_bool a t' b
  |int b=>obtain⟨t,rfl⟩:=rx;exact SeqAt.EqAt.int_int a t' b t
  |str b=>obtain⟨t,rfl⟩:=rx;exact SeqAt.EqAt.int_str a t' b t
  |_=>exact absurd (show false=true from fx) Ql
 |str a=>
  obtain⟨t',rfl⟩:=ry;cases x with
  |non=>cases rx;exact SeqAt.EqAt.str_none a t'
  |bl b=>cases rx;exact SeqAt.EqAt.str_bool a t' b
  |int b=>obtain⟨t,rfl⟩:=rx;exact SeqAt.EqAt.str_int a t' b t
  |str b=>obtain⟨t,rfl⟩:=rx;exact SeqAt.EqAt.str_str a t' b t
  |_=>exact absurd (show false=true from fx) Ql
 |_=>exact absurd (show false=true from fy) Ql
def eqU(x:V)(u:Qb):Bool:=match u with
 |.none=>eqV .non x
 |.bool b=>eqV (.bl b) x
 |.int i _=>eqV (.int i) x
 |.str z _=>eqV (.str z) x
 |_=>false
theorem xR{x y:V}{u:Qb}(r:ba y u)(f:gM y=true):eqU x u=eqV y x:=by
 cases y with
 |non=>cases r;rfl
 |bl b=>cases r;rfl
 |int i=>obtain⟨t,rfl⟩:=r;rfl
 |str z=>obtain⟨t,rfl⟩:=r;rfl
 |_=>exact absurd (show false=true from f) Ql
theorem i7{x:V}:∀{xs:List V} {us:List Qb},a9 xs us->xs.all gM=true->us.any (eqU x)=xs.any λy=>eqV y x
 |_,_,.nil,_=>rfl
 |y::xs,u::us,.cons r t,f=>by
  rw[KG,Z4] at f;rw[Zy,Zy,xR r f.1,i7 t f.2]
theorem h_{A:QU}{s:Qc}{x:V}{v:Qb}(rx:ba x v)(fx:gM x=true):∀{xs:List V} {us:List Qb},a9 xs us->xs.all gM=true->∀u∈us,Kc A s u v (eqU x u)
 |_,_,.nil,_=>λu hu=>by cases hu
 |y::xs,u::us,.cons r t,f=>λu' hu=>by
  rw[KG,Z4] at f;rcases Qn.mp hu with rfl | hu
  ·rw[xR r f.1];exact rL r rx f.1 fx
  ·exact h_ rx fx t f.2 u' hu
def inV(x:V)(xs:List V):Bool:=xs.any λy=>eqV y x
def rIn(K:Qe)(neg:Bool):R2:=λx y H Q=>∃p xs,y=.ref p/\(SqL K H p xs\/SqT K H p xs)/\gM x=true/\xs.all gM=true/\Q (.bl (if neg then !inV x xs else inV x xs)) H
theorem vZ:OpR X (QX .In) (rIn X.K false):=by
 intro pins s σ H x y v u Q I rx ry h;obtain⟨p,xs,rfl,hq,fx,fs,q⟩:=h;cases ry;rcases hq with hq | hq
 ·obtain⟨its,r,pl,hz⟩:=I.list hq
  refine SeqAt.in_listAt (eqU x) pl.isList (λw hw=>h_ rx fx r fs w (by simpa using hw)) ⟨.bl _,H,I,rfl,?_⟩;rw[show its.toArray.any (eqU x)=its.any (eqU x) by simp,i7 r fs];exact q
 ·obtain⟨its,r,pl,hz⟩:=I.tuple hq
  refine SeqAt.in_tupleAt (eqU x) pl (λw hw=>h_ rx fx r fs w (by simpa using hw)) ⟨.bl _,H,I,rfl,?_⟩;rw[show its.toArray.any (eqU x)=its.any (eqU x) by simp,i7 r fs];exact q
theorem oK:OpR X (QX .NotIn) (rIn X.K true):=by
 intro pins s σ H x y v u Q I rx ry h;obtain⟨p,xs,rfl,hq,fx,fs,q⟩:=h;cases ry;rcases hq with hq | hq
 ·obtain⟨its,r,pl,hz⟩:=I.list hq
  refine SeqAt.notIn_listAt (eqU x) pl.isList (λw hw=>h_ rx fx r fs w (by simpa using hw)) ⟨.bl _,H,I,rfl,?_⟩;rw[show its.toArray.any (eqU x)=its.any (eqU x) by simp,i7 r fs];exact q
 ·obtain⟨its,r,pl,hz⟩:=I.tuple hq
  refine SeqAt.notIn_tupleAt (eqU x) pl (λw hw=>h_ rx fx r fs w (by simpa using hw)) ⟨.bl _,H,I,rfl,?_⟩;rw[show its.toArray.any (eqU x)=its.any (eqU x) by simp,i7 r fs];exact q
theorem oH:eY X (.builtin "len") (λxs H Q=>∃p ys,xs=[.ref p]/\(SqL X.K H p ys\/SqT X.K H p ys)/\Q (.int ys.length) H):=by
 intro pins s σ H xs us Q I r h;obtain⟨p,ys,rfl,hq,q⟩:=h;obtain⟨u,rfl,rx⟩:=B_ r;cases rx;have hn:=oh;rcases hq with hq | hq
 ·obtain⟨its,r',pl,hz⟩:=I.list hq
  have hlen:=r'.length;exact Calls.call_len_list pl.isList (by simp only[QR]<;>lia) ⟨.int ys.length,H,I.tok _,⟨s.toks+1,by rw[QR,hlen]⟩,q⟩
 ·obtain⟨its,r',pl,hz⟩:=I.tuple hq
  have hlen:=r'.length;exact len_tuple pl (by simp only[QR]<;>lia) ⟨.int ys.length,H,I.tok _,⟨s.toks+1,by rw[QR,hlen]⟩,q⟩
theorem eY.or{f:Qb}{r r':List V->Hp->VK->Prop}(h:eY X f r)(h':eY X f r'):eY X f (λxs H Q=>r xs H Q\/r' xs H Q):=by
 intro pins s σ H xs us Q I rs q;rcases q with q | q
 ·exact h pins s σ H xs us Q I rs q
 ·exact h' pins s σ H xs us Q I rs q
theorem oq:eY X (.type "list") (λxs H Q=>∃p ys,xs=[.ref p]/\(SqL X.K H p ys\/SqT X.K H p ys)/\∀l,H l=none->Q (.ref l) (upd H l (.lst ys))):=by
 intro pins s σ H xs us Q I r h;obtain⟨p,ys,rfl,hq,q⟩:=h;obtain⟨u,rfl,rx⟩:=B_ r;cases rx
 have fin:∀(its:List Qb),a9 ys its->ys.length<=QO->∀(h':Heap) (c':Nat),(∀b o',s.heap.get? b=some o'->h'.get? b=some o')->
   h'.get? s.heap.objs.size=some { cls:=.type "list",dict:=none,data:=.seq its.toArray c',slots:=#[] }->EP X pins σ Q (.ref s.heap.objs.size) { s with heap:=h' }:=λits r' hz h' c' kp e=>
  ⟨.ref s.heap.objs.size,_,I.laid (t':=s.toks) kp (Qf _) (show bL X.prog X.w _ h' _ (.lst ys) from⟨hz,its,c',r',e⟩),rfl,q _ (I.hok.fresh (Qf _))⟩
 rcases hq with hq | hq
 ·obtain⟨its,r',pl,hz⟩:=I.list hq
  have hlen:=r'.length;obtain⟨o,ho,hc,n,hd⟩:=pl.isList;exact call_list_seq p (.inl rfl) ho hc hd (λh' c' kp e=>fin its r' hz h' c' kp e) (by simp only[QR]<;>lia)
 ·obtain⟨its,r',pl,hz⟩:=I.tuple hq
  have hlen:=r'.length;obtain⟨o,ho,hc,n,hd⟩:=pl;exact call_list_seq p (.inr rfl) ho hc hd (λh' c' kp e=>fin its r' hz h' c' kp e) (by simp only[QR]<;>lia)
def tyV(K:Qe)(T:String)(x:V)(H:Hp):Prop:=match x with
 |.str _=>T = "str"
 |.int _=>T = "int"
 |.ref p=>(T = "list"/\∃xs,SqL K H p xs)\/(T = "tuple"/\∃o,K.lookup p=some o/\o.cls=.type "tuple"/\o.dict=none)\/
   (T = "dict"/\((∃kvs,H p=some (.dK kvs))\/∃kvs,H p=some (.dT kvs)))\/(T = "set"/\∃S n,H p=some (.set S n))
 |_=>False
theorem Dj{pins:List (Addr×Obj)}{σ:St}{H:Hp}{s:Qc}{T:String}{x:V}{v:Qb}(I:Inv X pins σ H s)(r:ba x v)(ty:tyV X.K T x H) :
  s.TypeIs v T/\∀a,v=.ref a->∃ob,s.heap.get? a=some ob/\ob.dict=none:=by
 cases x with
 |str z=>
  obtain⟨t,rfl⟩:=r;cases(show T = "str" from ty);exact⟨typeIs_str s z t,λ_ e=>nomatch e⟩
 |int i=>
  obtain⟨t,rfl⟩:=r;cases(show T = "int" from ty);exact⟨typeIs_int s i t,λ_ e=>nomatch e⟩
 |ref p=>
  cases r;rcases ty with⟨rfl,xs,hq⟩ | ⟨rfl,o,hk,hc,hd⟩ | ⟨rfl,hk⟩ | ⟨rfl,S,n,hk⟩
  ·obtain⟨its,_,pl,_⟩:=I.list hq
   refine⟨pl.isList.typeIs,λa e=>?_⟩;cases e;obtain⟨o,n,e,c,hd,_⟩:=pl;exact⟨o,e,hd⟩
  ·refine⟨⟨o,I.kIn p o hk,hc⟩,λa e=>?_⟩
   cases e;exact⟨o,I.kIn _ o hk,hd⟩
  ·have z:∃o,s.heap.get? p=some o/\o.ExactDict:=by
    rcases hk with⟨kvs,hk⟩ | ⟨kvs,hk⟩
    ·obtain⟨_,_,_,_,o,_,_,e,ex,_⟩:=I.hok p _ hk
     exact⟨o,e,ex⟩
    ·obtain⟨_,_,_,_,o,_,_,e,ex,_⟩:=I.hok p _ hk
     exact⟨o,e,ex⟩
   obtain⟨o,e,ex⟩:=z;refine⟨⟨o,e,ex.1⟩,λa e2=>?_⟩;cases e2;exact⟨o,e,ex.2.1⟩
  ·obtain⟨o,_,_,_,e,ex,_⟩:=I.hok p _ hk
   refine⟨⟨o,e,ex.1⟩,λa e2=>?_⟩;cases e2;exact⟨o,e,ex.2.1⟩
 |_=>exact Zo ty
def tBM(K:Qe)(T:String)(r:V->List V->Hp->VK->Prop)(to:TE)(t:TA):TE:=λσ H Q=>to σ H λx H1=>tyV K T x H1/\t σ H1 λxs H2=>r x xs H2 Q
variable{o e:Expr}{es:List Expr}{to:TE}{t:TA}{name:Str}{apos cpos:Pos}{T id:String}{r:V->List V->Hp->VK->Prop}
theorem BR(pa:PlainAttrs T)(slot:Slot T name id)(hty:typeOf (.builtin id)=pure (.type "method_descriptor"))(hm:MtR X id r)(ho:PE X o to)(ha:PA X (e::es) t)
  (hbase:attributeBase o name X.env (eval o X.env)=eval o X.env:=by rfl)
  (hfew:((JG cpos (Qy (e::es) X.env)).all (λx=>!x.1)&&(backToKw cpos (ZJ [] X.env)).all (λx=>x.1.isSome)
   && decide ((e::es).length+([]:List Keyword).length+(if([]:List Keyword).isEmpty then 0 else 1)<30))=true:=by rfl)
  (hline:(apos.endLine==cpos.line)=true:=by rfl) (hs:Qy (e::es) X.env=(false,eval e X.env)::Qy es X.env:=by rfl) (hplain:(JG cpos (Qy es X.env)).any (·.1)=false:=by rfl) :
  PE X (.Call (.Attribute o name apos) (e::es) [] cpos) (tBM X.K T r to t):=by
 intro pins s σ H Q I h;refine wpAny_Call_method_late hbase hfew hline rfl (thn (ho pins s σ H _ I h) λv s1 ⟨x,H1,I1,r1,ty,q1⟩=>?_);obtain⟨h1,h2⟩:=Dj I1 r1 ty;refine⟨T,id,pa,slot,hty,h1,h2,?_⟩;have hA:=ha cpos pins s1 σ H1 _ I1 q1;rw[hs] at hA ⊢;refine Calls.callWith_builtin (by show(false || (JG cpos (Qy es X.env)).any (·.1))=false;rw[hplain]<;>rfl) (Calls.evalArgs_plain ?_);exact thn hA λus s2 ⟨vs,H2,I2,r2,q2⟩=>hm pins s2 σ H2 x vs v us Q I2 r1 r2 q2
end
def MtM(X:Cx)(id:String)(r:V->List V->Hp->VK->Prop):Prop:=
 ∀(pins:List (Addr×Obj)) (s:Qc) (σ:St) (H:Hp) (x:V) (xs:List V) (v:Qb) (us:List Qb) (Q:VK),Inv X pins σ H s->ba x v->a9 xs us->r x xs H Q->
  Qm (Qo X.prog X.w) X.A (call (.builtin id) (v::us)) (EP X pins σ Q) X.xe s
theorem a9.one:∀{x:V} {us:List Qb},a9 [x] us->∃u,us=[u]/\ba x u:=λh=>by
 cases h with | cons r t=>cases t;exact⟨_,rfl,r⟩
theorem a9.two:∀{x y:V} {us:List Qb},a9 [x,y] us->∃u v,us=[u,v]/\ba x u/\ba y v:=λh=>by
 cases h with | cons r t=>cases t with | cons q t=>cases t;exact⟨_,_,rfl,r,q⟩
theorem a9.zero:∀{us:List Qb},a9 [] us->us=[]
 |_,.nil=>rfl
theorem a9.eraseIdx:∀{xs:List V} {us:List Qb} (i:Nat),a9 xs us->a9 (xs.eraseIdx i) (us.eraseIdx i)
 |_,_,_,.nil=>.nil
 |_,_,0,.cons _ t=>t
 |_,_,i+1,.cons r t=>.cons r (a9.eraseIdx i t)
theorem a9.reverse{xs:List V}{us:List Qb}(h:a9 xs us):a9 xs.reverse us.reverse:=by
 induction h with
 |nil=>exact .nil
 |cons r t ih=>rw[List.reverse_cons,List.reverse_cons];exact a9.append ih (.cons r .nil)
section
variable{X:Cx}{pins:List (Addr×Obj)}{σ:St}{H:Hp}{s:Qc}{l b:Addr}{xs ys zs:List V}
theorem Inv.lset{its its':List Qb}{n:Nat}{f:Array Qb->Array Qb}{t':Nat}(I:Inv X pins σ H s)(hH:H l=some (.lst xs))
  (e:s.heap.get? l=some { cls:=.type "list",data:=.seq its.toArray n }) (hf:f its.toArray=its'.toArray) (hv:a9 ys its') (hz:ys.length<=QO) :
  Inv X pins σ (upd H l (.lst ys)) { s with heap:=s.heap.update l (Ke f),toks:=t' }:=by
 have q:=PySem.IsL.update e f;rw[hf] at q;refine I.write (x:=l) (e:=l) (by rw[hH];exact trivial) (.inl rfl) (λb' u hb hu=>(Q8 s.heap (Ke f) (Ne.symm hb)).trans hu) ⟨_,q⟩ ?_;exact⟨hz,its',_,hv,q⟩
theorem Inv.lnew{its:List Qb}{t':Nat}(I:Inv X pins σ H s)(hv:a9 ys its)(hz:ys.length<=QO) :
  Inv X pins σ (upd H s.heap.objs.size (.lst ys)) { s with heap:=s.heap.push { cls:=.type "list",data:=.seq its.toArray },toks:=t' }:=
 I.laid (λ_ _ q=>Qh _ q) (Qf _) ⟨hz,its,0,hv,QF _ rfl⟩
theorem Inv.fresh(I:Inv X pins σ H s):H s.heap.objs.size=none:=I.hok.fresh (Qf _)
theorem Inv.lstM(I:Inv X pins σ H s)(hH:H l=some (.lst xs)):xs.length<=QO/\∃(its:List Qb) (n:Nat),a9 xs its/\xs.length=its.length/\s.heap.get? l=some { cls:=.type "list",data:=.seq its.toArray n }:=by
 obtain⟨z,its,n,r,e⟩:=I.hok l _ hH;exact⟨z,its,n,r,r.length,e⟩
end
section
variable{X:Cx}
def uu:V->List V->Hp->VK->Prop:=λx vs H Q=>∃l xs y,x=.ref l/\vs=[y]/\H l=some (.lst xs)/\xs.length<QO/\Q .non (upd H l (.lst (xs++[y])))
theorem jA:MtM X "list.append" uu:=by
 intro pins s σ H x vs v us Q I rx rv h;obtain⟨l,xs,y,rfl,rfl,hH,hz,q⟩:=h;cases rx;obtain⟨u,rfl,ru⟩:=rv.one;obtain⟨z,its,n,r,hl,e⟩:=I.lstM hH;refine call_meets F.slot_list_append ⟨_,e,rfl⟩ F.entry_list_append (F.args_list_append_2 _ _) (PySem.list_append l its.toArray n u (by rw[QR];lia)) ⟨e,?_⟩;refine⟨.non,_,I.lset (its':=its++[u]) hH e (by simp) (r.append (.cons ru .nil)) ?_,rfl,q⟩;rw[Qr,List.length_singleton]
 lia
end
end L2
namespace Att
open PySem PySem.W PySem.Calls PyProof.Rows
theorem kg{P:Params}{h:Heap}:∀(ns:List Int) (vs:List Qb),WellAll P h vs (ns.map WData.int)->JP vs ns:=by
 intro ns
 induction ns with
 |nil=>
  intro vs w;rw[Kq] at w;cases w;exact .nil
 |cons n ns ih=>
  intro vs w;rw[Qv] at w;cases w with
  |cons a b=>
   cases a;exact .cons _ _ (ih _ b)
theorem vn{l:OpenLaw}{n:Nat}(hn:l.most=some n){P:Params}{h:Heap}{args:List WData}{vals:List Qb}
  (hpre:l.row.toRowW.claim.pre args=true) (hwl:WellAll P h vals args) :
  ∃a vs ns,vals=[QI a]/\args=[WData.list (ns.map WData.int)]/\h.get? a=some { cls:=.type "list",data:=.seq vs.toArray }/\JP vs ns/\ns.length<=n:=by
 have hsh:WShape.hasAll [] args [.list .int]=true:=(pre_splitW hpre).1;have hc:l.pre.holds [] { args:=args }=true:=(pre_splitW hpre).2;obtain⟨d,r,rfl,h1,h2⟩:=hasAllW_cons hsh;obtain rfl:=hasAllW_nil h2;obtain⟨xs,rfl,h3⟩:=hasW_list h1;obtain⟨ns,rfl⟩:=items_int h3
 have hlen:ns.length<=n:=by
  unfold OpenLaw.pre at hc
  have h4:(WTm.not (.lt (.lit (.int (n:Int))) (.len (.arg 0)))).holds [] { args:=[.list (ns.map .int)] }=true:=by
   have h4:=(holds_andW hc).1;rw[hn] at h4;exact h4
  have h5:=condW_of h4 (w_not (w_lt w_lit (w_len_list (w_arg rfl))));rw[Qi] at h5;refine Jj λq=>?_;have q':(n:Int)<((ns.length:Nat):Int):=by lia
  first
   |(rw[decide_eq_true q'] at h5;exact absurd h5 (by decide))
   |(simp at h5;lia)
 cases hwl with
 |cons w1 w2=>
  cases w2;cases w1 with
  |list ho hall=>exact⟨_,_,ns,rfl,rfl,ho,kg ns _ hall,hlen⟩
theorem vt(l:OpenLaw)(args:List WData):l.row.toRowW.claim.post args (.bool true) args=true:=
 postW_of (r:=l.row.toRowW) (X:=(true==true))
  (show WShape.has [] (.bool true) .bool=true by first | rfl | decide | simp[WShape.has,WShape.arms,WShape.armsAll])
  (show(WTm.eq .res (.lit (.bool true))).value [] { args:=args,res:=some (.bool true),after:=args }=some (.bool (true==true)) from w_eq_bool (w_res rfl) w_lit) rfl
theorem qP{l:OpenLaw}{n:Nat}{q:QJ}{loose:List Str}{XP:(Str->Option Qb)->Heap->Prop}{YP:QL->Heap->Prop}{d:DefRec}
  (hn:l.most=some n) (hdf:d.params.defaults=[])
  (call:∀(w:QL) (s₀ s₁:Qc) (mg mb:Str->Option Qb) (fa:Addr) (o:Obj) (pm cd doc:Qb) (a:Addr) (vs:List Qb) (ns:List Int),
   Ground q loose [] XP w s₀ mg mb s₁.heap->YP w s₁.heap->
   s₁.heap.get? fa=some o->o.data=.func (docDef d.name d.params d.body d.scope pm cd doc)->s₁.heap.CodeRec cd d.name->mg d.name=some (.ref fa)->
   s₁.heap.get? a=some { cls:=.type "list",data:=.seq vs.toArray }->JP vs ns->ns.length<=n->s₁.gens=#[]->
   JO (Qo l.prog w) callerA (.call (.ref fa) ⟨[.ref a],[]⟩) (λr s'=>r=.ok (.ret (.bool true))/\OldK s₁.heap s'.heap/\s'.os=s₁.os/\AllBare s'.gens) s₁) :
  WalkO q loose XP YP l.row.toRowW d [] (λf vs=>PySem.call f vs):=by
 intro w s₀ s₁ mg mb G Y fa o pm cd doc dV kV ho hd hcd hD hmg hg args vals as hpre hlay hrd hwl hlo;obtain rfl:dV=.none:=Dflts.none hD hdf;obtain rfl:kV=.none:=Dflts.noKw hD;obtain⟨a,vs,ns,rfl,rfl,hobj,hints,hlen⟩:=vn hn hpre hwl;refine enter_call (codeAny_mono (call w s₀ s₁ mg mb fa o pm cd doc a vs ns G Y ho (fd_plain hd) hcd hmg hobj hints hlen hg) λr s' hq=>?_);obtain⟨rfl,h2,h3,h4⟩:=hq;exact⟨.inl ⟨.bool true,.bool true,[],rfl,λ_=>rfl,.bool true,vt l _,λ_=>⟨List.Pairwise.nil,λ_ hm=>(nomatch hm)⟩⟩,h2,h3,h4⟩
end Att
namespace L2
open PySem PySem.Spec PyProof.Rows
theorem mP:∀{vs:List Qb} {ns:List Int},JP vs ns->a9 (ns.map V.int) vs
 |_,_,.nil=>.nil
 |_,_,.cons n t h=>.cons ⟨t,rfl⟩ (mP h)
def Et(H:Hp):Prop:=∀b,H b=none\/∃o xs,H b=some (.frz o (.lst xs))
theorem wW{P:QJ}{w:QL}{K:Qe}{mg mb:Str->Option Qb}{CX:CXT}{k:Nat}{fa a:Addr}{fd:J8}{x:Str}{sp:Sp}{s₁:Qc}{vs:List Qb}{ns:List Int}
  (KX:K.In s₁.heap) (hns:s₁.heap.Ns Q5 mg) (hb:s₁.heap.Ns builtinsNs mb) (hbb:∀x:Str,x≠"__name__"->mb x=ZL x) (hlim:s₁.heap.NoLimit) (hg:s₁.gens=#[])
  (ha:s₁.heap.get? a=some { cls:=.type "list",data:=.seq vs.toArray }) (hi:JP vs ns) (hl:ns.length<=QO) (hr:Room k callerA)
  (F:∀base:Heap,K.In base->base.Ns Q5 mg->FnOk P w K mg base CX k fa fd [x] sp) (hbind:∀(s:Qc) (u:Qb),BindsTo s fd ⟨[u],[]⟩ [(x,u)])
  (hsp:∀H:Hp,Et H->SqL K H a (ns.map V.int)->sp [.ref a] H (λv _=>v=.bl true) λ_ _ _=>False)
  (hCX:∀H e s',CX [] H s₁ (λ_ _ _=>False) e s'->False) :
  JO (Qo P w) callerA (.call (.ref fa) ⟨[.ref a],[]⟩) (λr s'=>r=.ok (.ret (.bool true))/\OldK s₁.heap s'.heap/\s'.os=s₁.os/\AllBare s'.gens) s₁:=by
 have rv:=mP hi;have lenV:=hi.length
 have core:∀H:Hp,Et H->SqL K H a (ns.map V.int)->HOk P w H s₁.heap->(∀b,H b≠none->b=a)->(H a≠none->K.lookup a=none)->
   JO (Qo P w) callerA (.call (.ref fa) ⟨[.ref a],[]⟩) (λr s'=>r=.ok (.ret (.bool true))/\OldK s₁.heap s'.heap/\s'.os=s₁.os/\AllBare s'.gens) s₁:=by
  intro H hO hS hok hA hK;have base_of:∀{b:Addr} {o:Obj},s₁.heap.get? b=some o->H b=none->(nV s₁.heap H).get? b=some o:=λe n=>xO e n
  have noA:∀{b:Addr} {o:Obj} {es:Array Zi} {ep:Nat},s₁.heap.get? b=some o->o.data=.dict es ep->H b=none:=λ{b o es ep} e d=>by
   cases q:H b with
   |none=>rfl
   |some u=>
    have e':b=a:=hA b (by rw[q];simp);subst e';rw[ha] at e;cases e;have d':Data.seq vs.toArray _=Data.dict es ep:=d;cases d'
  have nsK:∀{b:Addr} {m:Str->Option Qb},s₁.heap.Ns b m->(nV s₁.heap H).Ns b m:=λ{b m} ⟨o,es,ep,e,d,r⟩=>⟨o,es,ep,base_of e (noA e d),d,r⟩
  have hKb:K.In (nV s₁.heap H):=λb o e=>base_of (KX b o e) (by
   cases q:H b with
   |none=>rfl
   |some u=>
    have e':b=a:=hA b (by rw[q];simp);subst e'
    rw[hK (by rw[q];simp)] at e;cases e)
  have hM:Mod K mg (nV s₁.heap H):=⟨hKb,nsK hns,⟨mb,nsK hb,hbb⟩,let⟨mc,h1,h2⟩:=hlim;⟨mc,nsK h1,h2⟩⟩;have e0:Env0 P w K mg (nV s₁.heap H) callerA [] s₁ H:=⟨rfl,hM,λb o e=>AO e,Nat.le_of_eq (wj _ _),trivial,λb hb=>absurd (show b∈([]:List Addr) from hb) (by simp),hok,.of_eq hg⟩;refine codeAny_mono ((F _ hKb (nsK hns)).run callerA [] s₁ H ⟨[.ref a],[]⟩ [.ref a] [.ref a] _ _ hr e0 (hbind s₁ (.ref a)) (.cons rfl .nil) (hsp H hO hS)) λr s' h=>?_;cases r with
  |error e=>exact(hCX H e s' h).elim
  |ok fl=>
   cases fl with
   |next=>exact Zo h
   |brk=>exact Zo h
   |cont=>exact Zo h
   |ret u=>
    obtain⟨v,H',os,bare,un,hok',r',q⟩:=h;have q':v=.bl true:=q;subst q';obtain rfl:u=Z1 true:=r';refine⟨rfl,OldK.of_keep λb o e=>?_,os,bare⟩;cases q:H b with
    |none=>exact un.keep b o e q (by intro z;exact absurd (show b∈([]:List Addr) from z) (by simp)) (by simp)
    |some u=>
     rcases hO b with z | ⟨ob,xs,z⟩
     ·rw[q] at z;cases z
     ·have z2:=un.frzs b ob _ z
      obtain⟨e1,_⟩:=hok b _ z;obtain⟨e2,_⟩:=hok' b _ z2;rw[e] at e1;cases e1;exact e2
 cases hk:K.lookup a with
 |some o=>
  have e:=KX a o hk;rw[ha] at e;cases e;refine core (λ_=>none) (λ_=>.inl rfl) (.inr ⟨_,vs.toArray,_,hk,rfl,rfl,rfl,by rw[QR,lenV];exact hl,by simpa using rv⟩) (λb u z=>by have z':(none:Option HO)=some u:=z;cases z') (λb z=>absurd rfl z) λz=>absurd rfl z
 |none=>
  refine core (λb=>if b=a then some (.frz { cls:=.type "list",data:=.seq vs.toArray } (.lst (ns.map V.int))) else none) (λb=>?_) (.inl (.inr ⟨{ cls:=.type "list",data:=.seq vs.toArray },if_pos rfl⟩)) (λb u z=>?_) (λb z=>?_) λ_=>hk
  ·by_cases hb:b=a
   ·exact .inr ⟨_,_,if_pos hb⟩
   ·exact .inl (if_neg hb)
  ·by_cases hb:b=a
   ·have z':=(if_pos hb).symm.trans z
    cases z';subst hb;exact⟨ha,by rw[Qi];exact hl,vs,_,rv,ha⟩
   ·have z':=(if_neg hb).symm.trans z
    cases z'
  ·by_cases hb:b=a
   ·exact hb
   ·exact absurd (if_neg hb) z
theorem zC{l:PySem.W.OpenLaw}{n k:Nat}{q:QJ}{loose:List Str}{XP:(Str->Option Qb)->Heap->Prop}{YP:QL->Heap->Prop}{d:DefRec}{K:Params->Qe}{CX:QL->CXT}{sp:QL->Sp}{x:Str}
  (hn:l.most=some n) (hn2:n<=QO) (hdf:d.params.defaults=[]) (hr:Room k callerA)
  (hY:∀(w:QL) (h:Heap),YP w h->(K w.params).In h)
  (F:∀(w:QL) (mg:Str->Option Qb) (fa:Addr) (h:Heap),(K w.params).In h->h.Ns Q5 mg->mg d.name=some (.ref fa)->
   ∃fd:J8,(∀(s:Qc) (u:Qb),BindsTo s fd ⟨[u],[]⟩ [(x,u)])/\
    ∀base:Heap,(K w.params).In base->base.Ns Q5 mg->FnOk l.prog w (K w.params) mg base (CX w) k fa fd [x] (sp w))
  (hsp:∀(w:QL) (H:Hp) (a:Addr) (ns:List Int),ns.length<=n->Et H->SqL (K w.params) H a (ns.map V.int)->sp w [.ref a] H (λv _=>v=.bl true) λ_ _ _=>False)
  (hCX:∀(w:QL) (H:Hp) (s:Qc) (e:Qb) (s':Qc),CX w [] H s (λ_ _ _=>False) e s'->False) :
  PySem.W.WalkO q loose XP YP l.row.toRowW d [] (λf vs=>PySem.call f vs):=by
 refine Att.qP hn hdf λw s₀ s₁ mg mb fa o pm cd doc a vs ns G Y ho hd hcd hmg hobj hints hlen hg=>?_;have KX:=hY w _ Y;obtain⟨fd,hb,hF⟩:=F w mg fa _ KX G.T.g hmg;exact wW KX G.T.g G.T.b G.T.builtins G.T.nolimit hg hobj hints (Q4 hlen hn2) hr hF hb (λH hO hS=>hsp w H a ns hlen hO hS) λH e s'=>hCX w H s₁ e s'
def eA(s:Stmt):Arguments:=match s with
 |.FunctionDef _ a _ _ _ _ _ _ _ _=>a
 |_=>{ posonlyargs:=[],args:=[],vararg:=none,kwonlyargs:=[],kw_defaults:=[],kwarg:=none,defaults:=[] }
def cN(s:Stmt):List Stmt:=match s with
 |.FunctionDef _ _ b _ _ _ _ _ _ _=>b
 |_=>[]
def bj(s:Stmt):Scope:=match s with
 |.FunctionDef _ _ _ _ _ _ sc _ _ _=>sc
 |_=>{ kind:=.function,names:=[],isGenerator:=false,isCoroutine:=false }
abbrev CX0:CXT:=λ_ _ _ _ _ _=>False
abbrev E0:XK:=λ_ _ _=>False
theorem FL{X:Cx}:rP CX0 X E0:=λ_ _ _ _ _ _ _ h=>h.elim
structure Fun(K:Qe)(x qual:Str)(st:Stmt)(f:Addr)(fd:J8):Prop where
 ex:∃(oc:Qb) (od:Option Addr) (kV doc pm:Qb) (an:Option Addr) (cdv ct:Qb) (osl:Array (Option Qb)),
  fd=Zh x qual (eA st) (cN st) (bj st) .none kV doc pm an cdv ct/\K.lookup f=some ⟨oc,od,.func fd,osl⟩/\PySem.W.codeIn K cdv qual=true
 kp:Ko K (.ref f)=true
section
variable{P:QJ}{w:QL}{K:Qe}{mg:Str->Option Qb}{base:Heap}
theorem Fun.ok{x qual:Str}{st:Stmt}{f:Addr}{fd:J8}{N ps:List Str}{k:Nat}{sp:Sp}(F:Fun K x qual st f fd)(S:FnScope N ps (bj st))(len:∀vs H Q E,sp vs H Q E->vs.length=ps.length)
  (hbody:∀(cdv:Qb) (A:QU) (outer:List Env) (s:Qc) (H:Hp) (vs:List V) (Q:VK) (E:XK),Room k (A.deeper (envOfC qual (bj st) s.heap.objs.size f cdv))->sp vs H Q E->
   ∃t,PSs (oU CX0 P w K mg base N qual (bj st) f cdv A outer s H E).nox (cN st) t/\t { nx:=λ_ H'=>Q .non H',rt:=Q } (start N vs) H):FnOk P w K mg base CX0 (k+1) f fd ps sp:=by
 obtain⟨oc,od,kV,doc,pm,an,cdv,ct,osl,rfl,lk,hcd⟩:=F.ex;refine Fh lk hcd S len λA outer s H vs Q E hr hsp=>?_;obtain⟨t,h,q⟩:=hbody cdv A outer s H vs Q E hr hsp;exact⟨t,h.nox,q⟩
theorem Fun.binds{x qual:Str}{st:Stmt}{f:Addr}{fd:J8}{ps:List Str}(F:Fun K x qual st f fd)
  (h:∀(kV doc pm:Qb) (an:Option Addr) (cdv ct:Qb) (us:List Qb),us.length=ps.length->bindArgs (Zh x qual (eA st) (cN st) (bj st) .none kV doc pm an cdv ct) ⟨us,[]⟩=pure (ps.zip us)):k7 K fd ps []:=by
 obtain⟨oc,od,kV,doc,pm,an,cdv,ct,osl,rfl,lk,hcd⟩:=F.ex;exact .all (h kV doc pm an cdv ct)
theorem yi{x qual:Str}{st:Stmt}{f:Addr}{oc:Qb}{od an:Option Addr}{osl:Array (Option Qb)}{kV doc pm cdv ct:Qb}(l:K.lookup f=some ⟨oc,od,.func (Zh x qual (eA st) (cN st) (bj st) .none kV doc pm an cdv ct),osl⟩)
  (c:PySem.W.codeIn K cdv qual=true) (k:Ko K (.ref f)=true):Fun K x qual st f (Zh x qual (eA st) (cN st) (bj st) .none kV doc pm an cdv ct):=⟨⟨oc,od,kV,doc,pm,an,cdv,ct,osl,rfl,l,c⟩,k⟩
end
theorem u7{n:Nat}(h:n<=1000):n<QO:=ZO h (by decide)
def aI(H H':Hp):Prop:=∀b o,H b=some o->H' b=some o
theorem aI.refl(H:Hp):aI H H:=λ_ _ h=>h
theorem aI.trans{H H1 H2:Hp}(a:aI H H1)(b:aI H1 H2):aI H H2:=λc o h=>b c o (a c o h)
theorem aI.free{H H':Hp}(e:aI H H'){l:Addr}(h:H' l=Option.none):H l=Option.none:=by
 cases q:H l with
 |none=>rfl
 |some o=>
  rw[e l o q] at h;cases h
theorem aI.seq{K:Qe}{H H':Hp}{a:Addr}{xs:List V}(e:aI H H')(h:SqL K H a xs):SqL K H' a xs:=by
 rcases h with(h | ⟨o,h⟩) | h
 ·exact .inl (.inl (e _ _ h))
 ·exact .inl (.inr ⟨o,e _ _ h⟩)
 ·exact .inr h
end L2
namespace Ex
open PySem PySem.Spec PyProof.Rows L2
structure XT(n:Nat)(H:Hp)(h:Heap)(a:Addr)(cls:Qb)(dx:Addr)(fl:Qb):Prop where
 ge:n<=a
 un:H a=none
 ob:∃oe vs T oT ts,h.get? a=some oe/\oe.cls=cls/\oe.dict=some dx/\oe.data=.fields vs/\vs[1]?=some (.ref T)/\n<=T/\T≠a/\H T=none/\h.get? T=some oT/\oT.data=.fields ts/\ts[3]?=some fl
structure XN(n:Nat)(H:Hp)(h:Heap)(a:Addr)(cls:Qb)(dx:Addr):Prop where
 ge:n<=a
 un:H a=none
 ob:∃oe vs,h.get? a=some oe/\oe.cls=cls/\oe.dict=some dx/\oe.data=.fields vs/\vs[1]?=some .none
def XAt(n:Nat)(H:Hp)(h:Heap)(a:Addr)(cls:Qb)(dx:Addr):Prop:=XN n H h a cls dx\/XT n H h a cls dx .none
theorem XT.le{n n':Nat}{H:Hp}{h:Heap}{a dx:Addr}{cls fl:Qb}(x:XT n H h a cls dx fl)(l:n'<=n):XT n' H h a cls dx fl:=by
 obtain⟨g,u,oe,vs,T,oT,ts,e1,e2,e3,e4,e5,e6,e7⟩:=x;exact⟨Q4 l g,u,oe,vs,T,oT,ts,e1,e2,e3,e4,e5,Q4 l e6,e7⟩
theorem XAt.le{n n':Nat}{H:Hp}{h:Heap}{a dx:Addr}{cls:Qb}(x:XAt n H h a cls dx)(l:n'<=n):XAt n' H h a cls dx:=
 x.elim (λx=>.inl ⟨Q4 l x.ge,x.un,x.ob⟩) λx=>.inr (x.le l)
end Ex
namespace Dn
open PySem PySem.Spec PyProof.Rows L2
inductive D where
 |non | bl (b:Bool) | int (i:Int) | str (x:Str) | tup (xs:List D) | lst (xs:List D) | dic (es:List (List Int×D))
 deriving Inhabited
def bF(ns:List Int):Int:=reduceHash (Builtin.Tuple.tupleHashOf (ns.map hashInt))
abbrev bB:=List (List Int×Addr×V)
structure EntOk(p:List Int×Addr×V)(e:Zi):Prop where
 hash:e.hash=bF p.1
 key:e.key=.ref p.2.1
 val:ba p.2.2 e.val
def DAt(a:Addr)(us:bB)(ep:Nat):Heap->Prop:=λh=>(a==JM)=false/\us.length<=1000000/\∃o raw,h.get? a=some o/\o.ExactDict/\o.data=.dict raw ep/\JU EntOk us raw.toList
theorem DAt.at{a:Addr}{us:bB}{ep:Nat}{h h':Heap}(x:DAt a us ep h)(k:∀o,h.get? a=some o->h'.get? a=some o):DAt a us ep h':=let⟨n,z,o,raw,e,r⟩:=x;⟨n,z,o,raw,k o e,r⟩
def RdI(K:Qe)(G:Hp)(a:Addr)(xs:List V):Prop:=G a=some (.lst xs)\/∃ns:List Int,xs=ns.map V.int/\SqL K G a xs
theorem RdI.sq{K:Qe}{G:Hp}{a:Addr}{xs:List V}(h:RdI K G a xs):SqL K G a xs:=h.elim (λh=>SqL.of h) λ⟨_,_,h⟩=>h
theorem RdI.mono{K:Qe}{G G':Hp}{a:Addr}{xs:List V}(e:aI G G')(h:RdI K G a xs):RdI K G' a xs:=h.elim (λh=>.inl (e _ _ h)) λ⟨n,z,h⟩=>.inr ⟨n,z,e.seq h⟩
mutual
inductive Den(K:Qe)(G:Hp):V->D->Prop where
 |non:Den K G .non .non
 |bl (b:Bool):Den K G (.bl b) (.bl b)
 |int (i:Int):Den K G (.int i) (.int i)
 |str (x:Str):Den K G (.str x) (.str x)
 |tup {a:Addr} {xs:List V} {ds:List D} (h:SqT K G a xs) (hs:DenL K G xs ds):Den K G (.ref a) (.tup ds)
 |lst {a:Addr} {xs:List V} {ds:List D} (h:RdI K G a xs) (hs:DenL K G xs ds):Den K G (.ref a) (.lst ds)
 |dic {a:Addr} {us:bB} {ep:Nat} {es:List (List Int×D)} (h:G a=some (.ext (DAt a us ep))) (nd:(us.map (·.1)).Nodup) (hs:DenM K G us es):Den K G (.ref a) (.dic es)
inductive DenM(K:Qe)(G:Hp):bB->List (List Int×D)->Prop where
 |nil:DenM K G [] []
 |cons {k:List Int} {b:Addr} {v:V} {d:D} {us:bB} {es:List (List Int×D)} (hk:SqT K G b (k.map V.int)) (hv:Den K G v d) (hs:DenM K G us es):DenM K G ((k,b,v)::us) ((k,d)::es)
inductive DenL(K:Qe)(G:Hp):List V->List D->Prop where
 |nil:DenL K G [] []
 |cons {x:V} {d:D} {xs:List V} {ds:List D} (h:Den K G x d) (hs:DenL K G xs ds):DenL K G (x::xs) (d::ds)
end
theorem aR{K:Qe}{H H':Hp}{a:Addr}{xs:List V}(e:aI H H')(h:SqT K H a xs):SqT K H' a xs:=by
 rcases h with(h | ⟨o,h⟩) | h
 ·exact .inl (.inl (e _ _ h))
 ·exact .inl (.inr ⟨o,e _ _ h⟩)
 ·exact .inr h
theorem Den.mono{K:Qe}{G G':Hp}(e:aI G G'){v:V}{d:D}(h:Den K G v d):Den K G' v d:=
 Den.rec (motive_1:=λv d _=>Den K G' v d) (motive_2:=λu e _=>DenM K G' u e) (motive_3:=λv d _=>DenL K G' v d) .non .bl .int .str (λh _ y=>.tup (aR e h) y) (λh _ y=>.lst (h.mono e) y) (λh n _ y=>.dic (e _ _ h) n y) .nil (λk _ _ y z=>.cons (aR e k) y z) .nil (λ_ _ y z=>.cons y z) h
theorem DenM.mono{K:Qe}{G G':Hp}(e:aI G G'){us:bB}{es:List (List Int×D)}(h:DenM K G us es):DenM K G' us es:=
 DenM.rec (motive_1:=λv d _=>Den K G' v d) (motive_2:=λu e _=>DenM K G' u e) (motive_3:=λv d _=>DenL K G' v d) .non .bl .int .str (λh _ y=>.tup (aR e h) y) (λh _ y=>.lst (h.mono e) y) (λh n _ y=>.dic (e _ _ h) n y) .nil (λk _ _ y z=>.cons (aR e k) y z) .nil (λ_ _ y z=>.cons y z) h
theorem DenL.mono{K:Qe}{G G':Hp}(e:aI G G'){v:List V}{d:List D}(h:DenL K G v d):DenL K G' v d:=
 DenL.rec (motive_1:=λv d _=>Den K G' v d) (motive_2:=λu e _=>DenM K G' u e) (motive_3:=λv d _=>DenL K G' v d) .non .bl .int .str (λh _ y=>.tup (aR e h) y) (λh _ y=>.lst (h.mono e) y) (λh n _ y=>.dic (e _ _ h) n y) .nil (λk _ _ y z=>.cons (aR e k) y z) .nil (λ_ _ y z=>.cons y z) h
section
variable{K:Qe}{G:Hp}
theorem DenL.ind{P:List V->List D->Prop}(n:P [] [])(c:∀{x:V} {d:D} {xs:List V} {ds:List D},Den K G x d->DenL K G xs ds->P xs ds->P (x::xs) (d::ds)){xs:List V}{ds:List D}(h:DenL K G xs ds):P xs ds:=
 DenL.rec (motive_1:=λ_ _ _=>True) (motive_2:=λ_ _ _=>True) (motive_3:=λxs ds _=>P xs ds) trivial (λ_=>trivial) (λ_=>trivial) (λ_=>trivial) (λ_ _ _=>trivial) (λ_ _ _=>trivial) (λ_ _ _ _=>trivial) trivial (λ_ _ _ _ _=>trivial) n (λh hs _ y=>c h hs y) h
theorem DenM.ind{P:bB->List (List Int×D)->Prop}(n:P [] [])(c:∀{k:List Int} {b:Addr} {v:V} {d:D} {us:bB} {es:List (List Int×D)},SqT K G b (k.map V.int)->Den K G v d->DenM K G us es->P us es->P ((k,b,v)::us) ((k,d)::es)){us:bB}{es:List (List Int×D)}(h:DenM K G us es):P us es:=
 DenM.rec (motive_1:=λ_ _ _=>True) (motive_2:=λus es _=>P us es) (motive_3:=λ_ _ _=>True) trivial (λ_=>trivial) (λ_=>trivial) (λ_=>trivial) (λ_ _ _=>trivial) (λ_ _ _=>trivial) (λ_ _ _ _=>trivial) n (λk v hs _ y=>c k v hs y) trivial (λ_ _ _ _=>trivial) h
theorem DenL.length{xs:List V}{ds:List D}(h:DenL K G xs ds):xs.length=ds.length:=
 DenL.ind (P:=λxs ds=>xs.length=ds.length) rfl (λ_ _ y=>congrArg (· + 1) y) h
theorem DenL.get{xs:List V}{ds:List D}{i:Nat}{d:D}(h:DenL K G xs ds):ds[i]?=some d->∃x,xs[i]?=some x/\Den K G x d:=by
 revert i
 refine DenL.ind (P:=λxs ds=>∀{i:Nat},ds[i]?=some d->∃x,xs[i]?=some x/\Den K G x d) (λ{i} e=>nomatch e) (λ{x d' xs ds} h _ y {i} e=>?_) h;cases i with
 |zero=>cases e;exact⟨_,rfl,h⟩
 |succ i=>exact y (i:=i) e
theorem DenL.getV{xs:List V}{ds:List D}{i:Nat}{x:V}(h:DenL K G xs ds):xs[i]?=some x->∃d,ds[i]?=some d/\Den K G x d:=by
 revert i
 refine DenL.ind (P:=λxs ds=>∀{i:Nat},xs[i]?=some x->∃d,ds[i]?=some d/\Den K G x d) (λ{i} e=>nomatch e) (λ{x' d' xs ds} h _ y {i} e=>?_) h;cases i with
 |zero=>cases e;exact⟨_,rfl,h⟩
 |succ i=>exact y (i:=i) e
theorem DenL.append{xs ys:List V}{ds es:List D}(h:DenL K G xs ds)(s:DenL K G ys es):DenL K G (xs++ys) (ds++es):=
 DenL.ind (P:=λxs ds=>DenL K G (xs++ys) (ds++es)) s (λh _ y=>.cons h y) h
theorem DenL.take{xs:List V}{ds:List D}(n:Nat)(h:DenL K G xs ds):DenL K G (xs.take n) (ds.take n):=by
 refine DenL.ind (P:=λxs ds=>∀n,DenL K G (xs.take n) (ds.take n)) (λn=>?_) (λh _ y n=>?_) h n
 ·cases n<;>exact .nil
 ·cases n with
  |zero=>exact .nil
  |succ n=>exact .cons h (y n)
theorem DenL.drop{xs:List V}{ds:List D}(n:Nat)(h:DenL K G xs ds):DenL K G (xs.drop n) (ds.drop n):=by
 refine DenL.ind (P:=λxs ds=>∀n,DenL K G (xs.drop n) (ds.drop n)) (λn=>?_) (λh hs y n=>?_) h n
 ·cases n<;>exact .nil
 ·cases n with
  |zero=>exact .cons h hs
  |succ n=>exact y n
theorem DenL.set{x:V}{d:D}(r:Den K G x d){xs:List V}{ds:List D}(i:Nat)(h:DenL K G xs ds):DenL K G (xs.set i x) (ds.set i d):=by
 refine DenL.ind (P:=λxs ds=>∀i,DenL K G (xs.set i x) (ds.set i d)) (λn=>.nil) (λq t y i=>?_) h i;cases i with
 |zero=>exact .cons r t
 |succ i=>exact .cons q (y i)
theorem DenL.one{x:V}{d:D}(h:Den K G x d):DenL K G [x] [d]:=.cons h .nil
end
structure Grow(G H G' H':Hp):Prop where
 hh:aI H H'
 gg:aI G G'
 gh:aI G' H'
 fo:∀a o,H a=some o->G a=none->G' a=none
theorem Grow.refl{G H:Hp}(h:aI G H):Grow G H G H:=⟨aI.refl _,aI.refl _,h,λ_ _ _ e=>e⟩
theorem Grow.trans{G H G1 H1 G2 H2:Hp}(a:Grow G H G1 H1)(b:Grow G1 H1 G2 H2):Grow G H G2 H2:=
 ⟨a.hh.trans b.hh,a.gg.trans b.gg,b.gh,λc o h e=>b.fo c o (a.hh c o h) (a.fo c o h e)⟩
theorem Grow.new{G H:Hp}{p:Addr}(o:HO)(gh:aI G H)(hn:H p=none):Grow G H (upd G p o) (upd H p o) where
 hh:=λb u e=>by rw[aM (aE e hn)];exact e
 gg:=λb u e=>by rw[aM (aE (gh b u e) hn)];exact e
 gh:=λb u e=>by
  unfold upd at e ⊢
  by_cases z:b=p
  ·rw[if_pos z] at e ⊢;exact e
  ·rw[if_neg z] at e ⊢;exact gh b u e
 fo:=λa u e g=>by rw[aM (aE e hn)];exact g
theorem Grow.lay{G H:Hp}{p:Addr}(o:HO)(gh:aI G H)(hn:H p=none):Grow G H G (upd H p o) where
 hh:=λb u e=>by rw[aM (aE e hn)];exact e
 gg:=aI.refl _
 gh:=λb u e=>by rw[aM (aE (gh b u e) hn)];exact gh b u e
 fo:=λa u e g=>g
inductive Sl where
 |un | dat (d:D) | own (ds:List D) | odi (es:List (List Int×D))
abbrev Ev:=List Sl
structure EnvD(K:Qe)(He G H:Hp)(σ:L2.St)(ε:Ev):Prop where
 len:σ.length=ε.length
 dat:∀{i:Nat} {d:D},ε[i]?=some (.dat d)->∃v,σ[i]?=some (some v)/\Den K G v d
 own:∀{i:Nat} {ds:List D},ε[i]?=some (.own ds)->∃a xs,σ[i]?=some (some (.ref a))/\H a=some (.lst xs)/\G a=none/\He a=none/\DenL K G xs ds
 apart:∀{i j:Nat} {ds es:List D} {a:Addr},ε[i]?=some (.own ds)->ε[j]?=some (.own es)->σ[i]?=some (some (.ref a))->σ[j]?=some (some (.ref a))->i=j
 odi:∀{i:Nat} {es:List (List Int×D)},ε[i]?=some (.odi es)->∃a us ep,σ[i]?=some (some (.ref a))/\H a=some (.ext (DAt a us ep))/\G a=none/\He a=none/\(us.map (·.1)).Nodup/\DenM K G us es
 apartD:∀{i j:Nat} {ds es:List (List Int×D)} {a:Addr},ε[i]?=some (.odi ds)->ε[j]?=some (.odi es)->σ[i]?=some (some (.ref a))->σ[j]?=some (some (.ref a))->i=j
theorem EnvD.grow{K:Qe}{He G H G' H':Hp}{σ:L2.St}{ε:Ev}(E:EnvD K He G H σ ε)(g:Grow G H G' H'):EnvD K He G' H' σ ε where
 len:=E.len
 dat:=λe=>let⟨v,h1,h2⟩:=E.dat e;⟨v,h1,h2.mono g.gg⟩
 own:=λe=>let⟨a,xs,h1,h2,h3,h4,h5⟩:=E.own e;⟨a,xs,h1,g.hh _ _ h2,g.fo _ _ h2 h3,h4,h5.mono g.gg⟩
 apart:=E.apart
 odi:=λe=>let⟨a,us,ep,h1,h2,h3,h4,h5,h6⟩:=E.odi e;⟨a,us,ep,h1,g.hh _ _ h2,g.fo _ _ h2 h3,h4,h5,h6.mono g.gg⟩
 apartD:=E.apartD
structure Sta(K:Qe)(He Ge G H:Hp)(σ:L2.St)(ε:Ev):Prop where
 g:Grow Ge He G H
 e:EnvD K He G H σ ε
theorem Sta.grow{K:Qe}{He Ge G H G' H':Hp}{σ:L2.St}{ε:Ev}(S:Sta K He Ge G H σ ε)(g:Grow G H G' H'):Sta K He Ge G' H' σ ε:=⟨S.g.trans g,S.e.grow g⟩
def DE(X:Cx)(e:Expr)(f:Ev->Option D):Prop:=∃t,PE X e t/\∀(He G H:Hp) (σ:L2.St) (ε:Ev) (d:D) (Q:VK),aI G H->EnvD X.K He G H σ ε->f ε=some d->
 (∀v G' H',Grow G H G' H'->Den X.K G' v d->Q v H')->t σ H Q
def DF(X:Cx)(e:Expr)(f:Ev->Option (List D)):Prop:=∃t,PE X e t/\∀(He G H:Hp) (σ:L2.St) (ε:Ev) (ds:List D) (Q:VK),aI G H->EnvD X.K He G H σ ε->f ε=some ds->
 (∀a xs G' H',Grow G H G' H'->H a=none->G' a=none->H' a=some (.lst xs)->DenL X.K G' xs ds->Q (.ref a) H')->t σ H Q
def DT(X:Cx)(e:Expr)(f:Ev->Option Bool):Prop:=∃t,PT X e t/\∀(He G H:Hp) (σ:L2.St) (ε:Ev) (b:Bool) (Q:Bool->Hp->Prop),aI G H->EnvD X.K He G H σ ε->f ε=some b->
 (∀G' H',Grow G H G' H'->Q b H')->t σ H Q
def DW(X:Cx)(e:Expr)(f:Ev->Option Bool):Prop:=∃t,PW X e t/\∀(He G H:Hp) (σ:L2.St) (ε:Ev) (b:Bool) (Q:Bool->Hp->Prop),aI G H->EnvD X.K He G H σ ε->f ε=some b->
 (∀G' H',Grow G H G' H'->Q b H')->t σ H Q
def DA(X:Cx)(es:List Expr)(f:Ev->Option (List D)):Prop:=∃t,PA X es t/\∀(He G H:Hp) (σ:L2.St) (ε:Ev) (ds:List D) (Q:List V->Hp->Prop),aI G H->EnvD X.K He G H σ ε->f ε=some ds->
 (∀vs G' H',Grow G H G' H'->DenL X.K G' vs ds->Q vs H')->t σ H Q
theorem DW.dt{X:Cx}{e:Expr}{f:Ev->Option Bool}(h:DW X e f):DT X e f:=let⟨t,h1,h2⟩:=h;⟨t,h1.pt,h2⟩
theorem Grow.seal{G H G' H':Hp}{a:Addr}{xs:List V}(g:Grow G H G' H')(hn:H a=none)(gn:G' a=none)(ha:H' a=some (.lst xs)):Grow G H (upd G' a (.lst xs)) H':=
 ⟨g.hh,λb o e=>by rw[aM (aE (g.gg b o e) gn)];exact g.gg b o e,λb o e=>by
   unfold upd at e
   by_cases z:b=a
   ·rw[if_pos z] at e;cases e;rw[z];exact ha
   ·rw[if_neg z] at e;exact g.gh b o e,λb o e z=>by rw[aM (aE e hn)];exact g.fo b o e z⟩
theorem yS{K:Qe}{G':Hp}{a:Addr}{xs:List V}{ds:List D}(gn:G' a=none)(hd:DenL K G' xs ds):Den K (upd G' a (.lst xs)) (.ref a) (.lst ds):=
 .lst (.inl aG) (hd.mono λb o e=>by rw[aM (aE e gn)];exact e)
def eF(f:Ev->Option (List D)):Ev->Option D:=λε=>(f ε).map D.lst
theorem DF.de{X:Cx}{e:Expr}{f:Ev->Option (List D)}(h:DF X e f):DE X e (eF f):=by
 obtain⟨t,h1,h2⟩:=h;refine⟨t,h1,λHe G H σ ε d Q gh E ef q=>?_⟩;unfold eF at ef;cases e1:f ε with
 |none=>rw[e1] at ef;cases ef
 |some ds=>
  rw[e1] at ef;cases ef;refine h2 He G H σ ε ds Q gh E e1 λa xs G' H' g hn gn ha hd=>?_;exact q _ _ _ (g.seal hn gn ha) (yS gn hd)
inductive Fl where
 |nx (ε:Ev) | rt (d:D) | bk (ε:Ev) | ct (ε:Ev) | ro (ds:List D) | xc (c:Str) (fs:List (Str×D))
def XD(K:Qe)(G:Hp)(dx:Addr)(fs:List (Str×D)):Prop:=∃vs,G dx=some (.xd vs)/\∀n d,(n,d)∈fs->∃v,vs.lookup n=some v/\Den K G v d
def D9(X:Cx)(He Ge:Hp)(r:Fl)(W:Ends):Prop:=match r with
 |.nx ε=>∀σ G H,Sta X.K He Ge G H σ ε->W.nx σ H
 |.bk ε=>∀σ G H,Sta X.K He Ge G H σ ε->W.bk σ H
 |.ct ε=>∀σ G H,Sta X.K He Ge G H σ ε->W.ct σ H
 |.rt d=>∀v G H,Grow Ge He G H->Den X.K G v d->W.rt v H
 |.ro ds=>∀a xs G H,Grow Ge He G H->He a=none->G a=none->H a=some (.lst xs)->DenL X.K G xs ds->W.rt (.ref a) H
 |.xc c fs=>∀(pins:List (Addr×Obj)) (σ:L2.St) (G H:Hp) (s:Qc) (a dx:Addr) (cls:Qb),L2.Inv X pins σ H s->Grow Ge He G H->Ex.XAt X.s₀.heap.objs.size H s.heap a cls dx->X.mg c=some cls->XD X.K G dx fs->X.xe (.ref a) s
def DS(X:Cx)(st:Stmt)(g:Ev->Option Fl):Prop:=∃t,PS X st t/\∀(He Ge G H:Hp) (σ:L2.St) (ε:Ev) (r:Fl) (W:Ends),Sta X.K He Ge G H σ ε->g ε=some r->D9 X He Ge r W->t W σ H
def DSs(X:Cx)(st:List Stmt)(g:Ev->Option Fl):Prop:=∃t,PSs X st t/\∀(He Ge G H:Hp) (σ:L2.St) (ε:Ev) (r:Fl) (W:Ends),Sta X.K He Ge G H σ ε->g ε=some r->D9 X He Ge r W->t W σ H
def cb(K:Qe)(G H:Hp)(v:V)(d:D):Prop:=Den K G v d\/∃a xs ds,v=.ref a/\d=.lst ds/\H a=some (.lst xs)/\DenL K G xs ds
theorem cb.grow{K:Qe}{G H G' H':Hp}{v:V}{d:D}(h:cb K G H v d)(g:Grow G H G' H'):cb K G' H' v d:=by
 rcases h with h | ⟨a,xs,ds,h1,h2,h3,h4⟩
 ·exact .inl (h.mono g.gg)
 ·exact .inr ⟨a,xs,ds,h1,h2,g.hh _ _ h3,h4.mono g.gg⟩
theorem cb.int{K:Qe}{G H:Hp}{v:V}{i:Int}(h:cb K G H v (.int i)):v=.int i:=by
 rcases h with h | ⟨_,_,_,_,h,_⟩
 ·cases h;rfl
 ·cases h
theorem cb.bl{K:Qe}{G H:Hp}{v:V}{i:Bool}(h:cb K G H v (.bl i)):v=.bl i:=by
 rcases h with h | ⟨_,_,_,_,h,_⟩
 ·cases h;rfl
 ·cases h
theorem cb.str{K:Qe}{G H:Hp}{v:V}{i:Str}(h:cb K G H v (.str i)):v=.str i:=by
 rcases h with h | ⟨_,_,_,_,h,_⟩
 ·cases h;rfl
 ·cases h
theorem cb.non{K:Qe}{G H:Hp}{v:V}(h:cb K G H v .non):v=.non:=by
 rcases h with h | ⟨_,_,_,_,h,_⟩
 ·cases h;rfl
 ·cases h
theorem cb.tup{K:Qe}{G H:Hp}{v:V}{ds:List D}(gh:aI G H)(h:cb K G H v (.tup ds)):∃a xs,v=.ref a/\SqT K G a xs/\SqT K H a xs/\DenL K G xs ds:=by
 rcases h with h | ⟨_,_,_,_,h,_⟩
 ·cases h with | tup h hs=>exact⟨_,_,rfl,h,aR gh h,hs⟩
 ·cases h
theorem cb.lst{K:Qe}{G H:Hp}{v:V}{ds:List D}(gh:aI G H)(h:cb K G H v (.lst ds)):∃a xs,v=.ref a/\SqL K H a xs/\DenL K G xs ds:=by
 rcases h with h | ⟨a,xs,ds',h1,h,h3,h4⟩
 ·cases h with | lst h hs=>exact⟨_,_,rfl,gh.seq h.sq,hs⟩
 ·cases h;exact⟨a,xs,h1,.of h3,h4⟩
def DB(X:Cx)(e:Expr)(f:Ev->Option D):Prop:=∃t,PE X e t/\∀(He G H:Hp) (σ:L2.St) (ε:Ev) (d:D) (Q:VK),aI G H->EnvD X.K He G H σ ε->f ε=some d->
 (∀v G' H',Grow G H G' H'->cb X.K G' H' v d->Q v H')->t σ H Q
theorem DE.db{X:Cx}{e:Expr}{f:Ev->Option D}(h:DE X e f):DB X e f:=
 let⟨t,h1,h2⟩:=h;⟨t,h1,λHe G H σ ε d Q gh E ef q=>h2 He G H σ ε d Q gh E ef λv G' H' g hd=>q v G' H' g (.inl hd)⟩
section
variable{X:Cx}{a b c:Expr}{fa fb fc:Ev->Option D}{pos:Pos}
def av(i:Nat):Ev->Option D:=λε=>match ε[i]? with | some (.dat d)=>some d | _=>none
def aa(i:Nat):Ev->Option D:=λε=>match ε[i]? with | some (.dat d)=>some d | some (.own ds)=>some (.lst ds) | _=>none
def eC(d:D):Ev->Option D:=λ_=>some d
theorem ar(i:Nat){x:Str}{pos:Pos}(hN:X.N[i]?=some x:=by rfl)(hv:Vis X.env.scope x:=by first | exact Or.inl rfl | exact Zj (Or.inl rfl) | exact Zj (Zj rfl))(hd:(x==("__debug__" : Str))=false:=by decide)
  (hcd:(x==("__classdict__" : Str))=false:=by decide):DE X (.Name x pos) (av i):=by
 refine⟨_,lP hN hv hd hcd,λHe G H σ ε d Q gh E ef q=>?_⟩;unfold av at ef;split at ef
 ·rename_i d' e
  cases ef;obtain⟨v,h1,h2⟩:=E.dat e;exact⟨v,h1,q v G H (.refl gh) h2⟩
 ·cases ef
theorem ae(i:Nat){x:Str}{pos:Pos}(hN:X.N[i]?=some x:=by rfl)(hv:Vis X.env.scope x:=by first | exact Or.inl rfl | exact Zj (Or.inl rfl) | exact Zj (Zj rfl))(hd:(x==("__debug__" : Str))=false:=by decide)
  (hcd:(x==("__classdict__" : Str))=false:=by decide):DB X (.Name x pos) (aa i):=by
 refine⟨_,lP hN hv hd hcd,λHe G H σ ε d Q gh E ef q=>?_⟩;unfold aa at ef;split at ef
 ·rename_i d' e
  cases ef;obtain⟨v,h1,h2⟩:=E.dat e;exact⟨v,h1,q v G H (.refl gh) (.inl h2)⟩
 ·rename_i ds e
  cases ef;obtain⟨l,xs,h1,h2,h3,h4,h5⟩:=E.own e;exact⟨_,h1,q _ G H (.refl gh) (.inr ⟨l,xs,ds,rfl,rfl,h2,h5⟩)⟩
 ·cases ef
theorem fY{e:Expr}{v:V}{d:D}(h:PE X e (tC v))(hd:∀G,Den X.K G v d):DE X e (eC d):=
 ⟨_,h,λHe G H σ ε d' Q gh E ef q=>by cases ef;exact q v G H (.refl gh) (hd G)⟩
theorem af{i j pos}:DE X (.Constant (.int i) j pos) (eC (.int i)):=fY El λ_=>.int i
theorem i5{i j pos}:DE X (.Constant (.bool i) j pos) (eC (.bl i)):=fY Fd λ_=>.bl i
theorem rg{j pos}:DE X (.Constant .none j pos) (eC .non):=fY C6 λ_=>.non
theorem bg{x j pos}:DE X (.Constant (.str x) j pos) (eC (.str x)):=fY CC λ_=>.str x
theorem Bo{x:Str}{i:Int}{t:Tok}{pos:Pos}(hg:Gl X x)(hm:X.mg x=some (.int i t))(hd:(x==("__debug__" : Str))=false:=by decide):DE X (.Name x pos) (eC (.int i)):=
 fY (sR (v:=.int i) hg hm ⟨t,rfl⟩ hd) λ_=>.int i
def e2(op:D->D->Option D)(fa fb:Ev->Option D):Ev->Option D:=λε=>(fa ε).bind λx=>(fb ε).bind λy=>op x y
def OpD(X:Cx)(f:Qb->Qb->Sem Qb)(op:D->D->Option D):Prop:=∃r,OpR X f r/\∀(G H:Hp) (x y:V) (dx dy d:D) (Q:VK),aI G H->cb X.K G H x dx->cb X.K G H y dy->op dx dy=some d->
 (∀v G' H',Grow G H G' H'->Den X.K G' v d->Q v H')->r x y H Q
theorem ai{α β:Type}{o:Option α}{f:α->Option β}{y:β}(h:o.bind f=some y):∃x,o=some x/\f x=some y:=by
 cases o with
 |none=>cases h
 |some x=>exact⟨x,rfl,h⟩
theorem two{ta tb:TE}{He G H:Hp}{σ:L2.St}{ε:Ev}{op:D->D->Option D}{r:R2}{d:D}{Q:VK}
  (ha:∀(He G H:Hp) (σ:L2.St) (ε:Ev) (d:D) (Q:VK),aI G H->EnvD X.K He G H σ ε->fa ε=some d->(∀v G' H',Grow G H G' H'->cb X.K G' H' v d->Q v H')->ta σ H Q)
  (hb:∀(He G H:Hp) (σ:L2.St) (ε:Ev) (d:D) (Q:VK),aI G H->EnvD X.K He G H σ ε->fb ε=some d->(∀v G' H',Grow G H G' H'->cb X.K G' H' v d->Q v H')->tb σ H Q)
  (ho:∀(G H:Hp) (x y:V) (dx dy d:D) (Q:VK),aI G H->cb X.K G H x dx->cb X.K G H y dy->op dx dy=some d->(∀v G' H',Grow G H G' H'->Den X.K G' v d->Q v H')->r x y H Q)
  (gh:aI G H) (E:EnvD X.K He G H σ ε) (ef:e2 op fa fb ε=some d) (q:∀v G' H',Grow G H G' H'->Den X.K G' v d->Q v H'):tOp r ta tb σ H Q:=by
 obtain⟨x,e1,ef⟩:=ai ef;obtain⟨y,e2,ef⟩:=ai ef;refine ha He G H σ ε x _ gh E e1 λv G1 H1 g1 d1=>?_;refine hb He G1 H1 σ ε y _ g1.gh (E.grow g1) e2 λu G2 H2 g2 d2=>?_;exact ho G2 H2 v u x y d Q g2.gh (d1.grow g2) d2 ef λw G3 H3 g3 d3=>q w G3 H3 (g1.trans (g2.trans g3)) d3
theorem ao{op:Operator}{f:D->D->Option D}(ho:OpD X (J7 op) f)(ha:DB X a fa)(hb:DB X b fb):DE X (.BinOp a op b pos) (e2 f fa fb):=by
 obtain⟨r,h1,h2⟩:=ho;obtain⟨ta,a1,a2⟩:=ha;obtain⟨tb,b1,b2⟩:=hb;exact⟨_,B6 h1 a1 b1,λHe G H σ ε d Q gh E ef q=>two a2 b2 h2 gh E ef q⟩
theorem fT{op:CmpOp}{f:D->D->Option D}(ho:OpD X (QX op) f)(ha:DB X a fa)(hb:DB X b fb)(hm:KD op b=false):DE X (.Compare a [op] [b] pos) (e2 f fa fb):=by
 obtain⟨r,h1,h2⟩:=ho;obtain⟨ta,a1,a2⟩:=ha;obtain⟨tb,b1,b2⟩:=hb;exact⟨_,Ap h1 a1 b1 hm,λHe G H σ ε d Q gh E ef q=>two a2 b2 h2 gh E ef q⟩
def asB:Option D->Option Bool
 |some (.bl b)=>some b
 |_=>none
theorem pH{o:Option D}{b:Bool}(h:asB o=some b):o=some (.bl b):=by
 unfold asB at h;split at h
 ·cases h;rfl
 ·cases h
theorem Den.blV{K:Qe}{G:Hp}{v:V}{b:Bool}(h:Den K G v (.bl b)):v=.bl b:=by cases h;rfl
def ay(op:D->D->Option D)(fa fb:Ev->Option D):Ev->Option Bool:=λε=>asB (e2 op fa fb ε)
theorem aP{op:CmpOp}{f:D->D->Option D}(ho:OpD X (QX op) f)(ha:DB X a fa)(hb:DB X b fb)(hm:KD op b=false):DT X (.Compare a [op] [b] pos) (ay f fa fb):=by
 obtain⟨r,h1,h2⟩:=ho;obtain⟨ta,a1,a2⟩:=ha;obtain⟨tb,b1,b2⟩:=hb;refine⟨_,Az h1 a1 b1 hm,λHe G H σ ε k Q gh E ef q=>?_⟩;refine two a2 b2 h2 gh E (pH ef) λv G' H' g hd=>?_;exact⟨k,hd.blV,q G' H' g⟩
theorem wF{r:R2}{f:D->D->Option D}(hr:IxR X r)(ho:∀(G H:Hp) (x y:V) (dx dy d:D) (Q:VK),aI G H->cb X.K G H x dx->cb X.K G H y dy->f dx dy=some d->(∀v G' H',Grow G H G' H'->Den X.K G' v d->Q v H')->r x y H Q)
  (ha:DB X a fa) (hb:DB X b fb) (hs:kr b):DE X (.Subscript a b pos) (e2 f fa fb):=by
 obtain⟨ta,a1,a2⟩:=ha;obtain⟨tb,b1,b2⟩:=hb;exact⟨_,Fz hr a1 b1 hs,λHe G H σ ε d Q gh E ef q=>two a2 b2 ho gh E ef q⟩
def dX(g:Int->Int->Option D):D->D->Option D:=λx y=>match x,y with | .int i,.int j=>g i j | _,_=>none
theorem m_{g:Int->Int->Option D}{x y d:D}(h:dX g x y=some d):∃i j,x=.int i/\y=.int j/\g i j=some d:=by
 unfold dX at h;split at h
 ·exact⟨_,_,rfl,rfl,h⟩
 ·cases h
theorem sC{f:Qb->Qb->Sem Qb}{C:Int->Int->Prop}{g:Int->Int->V}{k:Int->Int->Option D}(ho:OpR X f (rI C g))(hk:∀i j d,k i j=some d->C i j/\∀G,Den X.K G (g i j) d):OpD X f (dX k):=
 ⟨_,ho,λG H x y dx dy d Q gh hx hy e q=>by
  obtain⟨i,j,rfl,rfl,e⟩:=m_ e;obtain⟨c,hd⟩:=hk i j d e
  exact⟨i,j,hx.int,hy.int,c,q _ G H (.refl gh) (hd G)⟩⟩
theorem jy{f:Qb->Qb->Sem Qb}{g:Int->Int->V}{k:Int->Int->Option D}(ho:OpR X f (rI0 g))(hk:∀i j d,k i j=some d->∀G,Den X.K G (g i j) d):OpD X f (dX k):=
 ⟨_,ho,λG H x y dx dy d Q gh hx hy e q=>by
  obtain⟨i,j,rfl,rfl,e⟩:=m_ e
  exact⟨i,j,hx.int,hy.int,q _ G H (.refl gh) (hk i j d e G)⟩⟩
def aN:D->D->Option D:=dX λi j=>some (.int (i+j))
def bA:D->D->Option D:=dX λi j=>some (.int (i-j))
instance (i j:Int):Decidable (mD i j):=by unfold mD;infer_instance
instance (i j:Int):Decidable (wc i j):=by unfold wc;infer_instance
instance (i j:Int):Decidable (wq i j):=by unfold wq;infer_instance
def bH:D->D->Option D:=dX λi j=>if mD i j then some (.int (i*j)) else none
def cC:D->D->Option D:=dX λi j=>if wc i j then some (.int (i/j)) else none
def aH:D->D->Option D:=dX λi j=>if 0<j then some (.int (i%j)) else none
def p0:D->D->Option D:=dX λi j=>if wq i j then some (.int (i ^ j.toNat)) else none
theorem aQ:OpD X (J7 .Add) aN:=jy DD λi j d e G=>by cases e;exact .int _
theorem bq:OpD X (J7 .Sub) bA:=jy Dc λi j d e G=>by cases e;exact .int _
theorem cS:OpD X (J7 .Mult) bH:=sC Dp λi j d e=>by
 split at e
 ·rename_i h;cases e;exact⟨h,λG=>.int _⟩
 ·cases e
theorem d8:OpD X (J7 .FloorDiv) cC:=sC AI λi j d e=>by
 split at e
 ·rename_i h;cases e;exact⟨h,λG=>.int _⟩
 ·cases e
theorem aO:OpD X (J7 .Mod) aH:=sC CA λi j d e=>by
 split at e
 ·rename_i h;cases e;exact⟨h,λG=>.int _⟩
 ·cases e
theorem y6:OpD X (J7 .Pow) p0:=sC Dr λi j d e=>by
 split at e
 ·rename_i h;cases e;exact⟨h,λG=>.int _⟩
 ·cases e
def ltI:D->D->Option D:=dX λi j=>some (.bl (decide (i<j)))
def leI:D->D->Option D:=dX λi j=>some (.bl (decide (i<=j)))
def gtI:D->D->Option D:=dX λi j=>some (.bl (decide (j<i)))
def geI:D->D->Option D:=dX λi j=>some (.bl (decide (j<=i)))
theorem nP:OpD X (QX .Lt) ltI:=jy F5 λi j d e G=>by cases e;exact .bl _
theorem dQ:OpD X (QX .LtE) leI:=jy EN λi j d e G=>by cases e;exact .bl _
theorem jN:OpD X (QX .Gt) gtI:=jy Gg λi j d e G=>by cases e;exact .bl _
theorem F6:OpD X (QX .GtE) geI:=jy Fi λi j d e G=>by cases e;exact .bl _
def eqS:D->D->Option Bool
 |.non,.non=>some true | .non,.int _=>some false | .int _,.non=>some false | .non,.bl _=>some false | .bl _,.non=>some false | .non,.str _=>some false | .str _,.non=>some false
 |.int i,.int j=>some (decide (i=j)) | .bl i,.bl j=>some (decide (i=j)) | .str i,.str j=>some (decide (i=j))
 |.int _,.str _=>some false | .str _,.int _=>some false | .bl _,.str _=>some false | .str _,.bl _=>some false
 |_,_=>none
theorem qg{K:Qe}{G H:Hp}{x y:V}{dx dy:D}{k:Bool}(hx:cb K G H x dx)(hy:cb K G H y dy)(e:eqS dx dy=some k):D7 x y=true/\decide (x=y)=k:=by
 unfold eqS at e;split at e<;>first | (cases e;done) | skip
 all_goals first
  |(cases hx.non) | (cases hx.int) | (cases hx.bl) | (cases hx.str)
 all_goals first
  |(cases hy.non) | (cases hy.int) | (cases hy.bl) | (cases hy.str)
 all_goals (refine⟨rfl,?_⟩;cases e;simp)
def qj:D->Bool
 |.non=>true
 |_=>false
theorem cb.isNon{K:Qe}{G H:Hp}{v:V}{d:D}(h:cb K G H v d):decide (v=.non)=qj d:=by
 rcases h with h | ⟨a,xs,ds,rfl,rfl,_⟩
 ·cases h<;>simp[Dn.qj]
 ·simp[Dn.qj]
def isD(neg:Bool):D->D->Option D:=λx y=>match y with | .non=>some (.bl (if neg then !qj x else qj x)) | _=>none
theorem BZ:OpD X (QX .Is) (isD false):=⟨_,Eo,λG H x y dx dy d Q gh hx hy e q=>by
 unfold isD at e;split at e
 ·cases e;exact⟨hy.non,q _ G H (.refl gh) (by rw[hx.isNon];exact .bl _)⟩
 ·cases e⟩
def EG:D->Option D
 |.int i=>some (.int (-i))
 |_=>none
def ma(fa:Ev->Option D):Ev->Option D:=λε=>(fa ε).bind EG
theorem jx(ha:DB X a fa):DE X (.UnaryOp .USub a pos) (ma fa):=by
 obtain⟨ta,a1,a2⟩:=ha;refine⟨_,EH Df a1,λHe G H σ ε d Q gh E ef q=>?_⟩;obtain⟨x,e1,ef⟩:=ai ef;refine a2 He G H σ ε x _ gh E e1 λv G1 H1 g1 d1=>?_;unfold EG at ef;split at ef
 ·cases ef;exact⟨_,d1.int,q _ G1 H1 g1 (.int _)⟩
 ·cases ef
def ixD:D->D->Option D:=λx y=>match x,y with | .lst xs,.int i=>atI xs i | .tup xs,.int i=>atI xs i | _,_=>none
theorem uC{K:Qe}{G:Hp}{xs:List V}{ds:List D}{i:Int}{d:D}(h:DenL K G xs ds)(e:atI ds i=some d):∃v,atI xs i=some v/\Den K G v d:=by
 unfold atI at e ⊢;rw[h.length];cases e1:ixN ds.length i with
 |none=>rw[e1] at e;cases e
 |some j=>
  rw[e1] at e;exact h.get e
theorem az(ha:DB X a fa)(hb:DB X b fb)(hs:kr b:=by intro _ _;rfl):DE X (.Subscript a b pos) (e2 ixD fa fb):=
 wF (AV.or Dh) (λG H x y dx dy d Q gh hx hy e q=>by
  unfold ixD at e;split at e
  ·obtain⟨p,xs,rfl,h1,h2⟩:=hx.lst gh
   obtain⟨v,h3,h4⟩:=uC h2 e;exact .inl ⟨p,xs,_,v,rfl,hy.int,h1,h3,q _ G H (.refl gh) h4⟩
  ·obtain⟨p,xs,rfl,h0,h1,h2⟩:=hx.tup gh
   obtain⟨v,h3,h4⟩:=uC h2 e;exact .inr ⟨p,xs,_,v,rfl,hy.int,h1,h3,q _ G H (.refl gh) h4⟩
  ·cases e) ha hb hs
def aF:Ev->Option (List D):=λ_=>some []
def ag(f:Ev->Option D)(g:Ev->Option (List D)):Ev->Option (List D):=λε=>(f ε).bind λd=>(g ε).bind λds=>some (d::ds)
theorem aB:DA X [] aF:=⟨_,cR,λHe G H σ ε ds Q gh E ef q=>by cases ef;exact q [] G H (.refl gh) .nil⟩
theorem ah{e:Expr}{es:List Expr}{f:Ev->Option D}{g:Ev->Option (List D)}(h:DE X e f)(hs:DA X es g)(hst:Qy (e::es) X.env=(false,eval e X.env)::Qy es X.env:=by rfl):DA X (e::es) (ag f g):=by
 obtain⟨t,a1,a2⟩:=h;obtain⟨u,b1,b2⟩:=hs;refine⟨_,bR a1 b1 hst,λHe G H σ ε ds Q gh E ef q=>?_⟩;obtain⟨x,e1,ef⟩:=ai ef;obtain⟨xs,e2,ef⟩:=ai ef;cases ef;refine a2 He G H σ ε x _ gh E e1 λv G1 H1 g1 d1=>?_;refine b2 He G1 H1 σ ε xs _ g1.gh (E.grow g1) e2 λvs G2 H2 g2 d2=>?_;exact q _ G2 H2 (g1.trans g2) (.cons (d1.mono g2.gg) d2)
def bM(g:Ev->Option (List D)):Ev->Option D:=λε=>(g ε).bind λds=>if ds.length<=1000 then some (.tup ds) else none
theorem uK{n:Nat}(h:n<=1000):n<=QO:=Jr (u7 h)
theorem bK{es:List Expr}{g:Ev->Option (List D)}{x1}(h:DA X es g):DE X (.Tuple es x1 pos) (bM g):=by
 obtain⟨t,a1,a2⟩:=h;refine⟨_,C0 a1,λHe G H σ ε d Q gh E ef q=>?_⟩;obtain⟨ds,e1,ef⟩:=ai ef;split at ef
 ·rename_i hl
  cases ef;refine a2 He G H σ ε ds _ gh E e1 λvs G1 H1 g1 d1=>⟨by rw[d1.length];exact uK hl,λp hp=>?_⟩;have g2:=Grow.new (.tup vs) g1.gh hp;exact q _ _ _ (g1.trans g2) (.tup (SqT.of aG) (d1.mono g2.gg))
 ·cases ef
def cI(g:Ev->Option (List D)):Ev->Option (List D):=λε=>(g ε).bind λds=>if ds.length<=1000 then some ds else none
theorem Grow.gnone{G H G' H':Hp}{p:Addr}(g:Grow G H G' H')(h:H' p=none):G' p=none:=g.gh.free h
theorem cx{es:List Expr}{g:Ev->Option (List D)}(h:DA X es g):DF X (.List es pos) (cI g):=by
 obtain⟨t,a1,a2⟩:=h;refine⟨_,yW a1,λHe G H σ ε ds Q gh E ef q=>?_⟩;obtain⟨ds',e1,ef⟩:=ai ef;split at ef
 ·rename_i hl
  cases ef;refine a2 He G H σ ε _ _ gh E e1 λvs G1 H1 g1 d1=>⟨by rw[d1.length];exact uK hl,λp hp=>?_⟩;exact q p vs G1 _ (g1.trans (.lay _ g1.gh hp)) (g1.hh.free hp) (g1.gnone hp) aG d1
 ·cases ef
def DO(X:Cx)(e:Option Expr)(f:Ev->Option (Option Int)):Prop:=∃t,PO X e t/\∀(He G H:Hp) (σ:L2.St) (ε:Ev) (d:Option Int) (Q:Option Int->Hp->Prop),aI G H->EnvD X.K He G H σ ε->f ε=some d->
 (∀G' H',Grow G H G' H'->Q d H')->t σ H Q
def b9:Ev->Option (Option Int):=λ_=>some none
def aT(f:Ev->Option D):Ev->Option (Option Int):=λε=>match f ε with | some (.int i)=>some (some i) | _=>none
theorem cY:DO X none b9:=⟨_,Ag,λHe G H σ ε d Q gh E ef q=>by cases ef;exact q G H (.refl gh)⟩
theorem aZ{e:Expr}{f:Ev->Option D}(h:DB X e f):DO X (some e) (aT f):=by
 obtain⟨t,a1,a2⟩:=h;refine⟨_,By a1,λHe G H σ ε d Q gh E ef q=>?_⟩;unfold aT at ef;split at ef
 ·rename_i i e1
  cases ef;exact a2 He G H σ ε _ _ gh E e1 λv G1 H1 g1 d1=>⟨i,d1.int,q G1 H1 g1⟩
 ·cases ef
def gO(xs:List D)(lo hi:Option Int):List D:=(xs.drop (HT.sIx xs.length 0 lo)).take (HT.sIx xs.length xs.length hi-HT.sIx xs.length 0 lo)
theorem tM{K:Qe}{G:Hp}{xs:List V}{ds:List D}(lo hi:Option Int)(h:DenL K G xs ds):DenL K G (n5 xs lo hi) (gO ds lo hi):=by
 unfold n5 gO;rw[h.length];exact(h.drop _).take _
def eSl(fa:Ev->Option D)(fl fh:Ev->Option (Option Int)):Ev->Option (List D):=λε=>(fa ε).bind λx=>(fl ε).bind λlo=>(fh ε).bind λhi=>match x with | .lst xs=>some (gO xs lo hi) | _=>none
theorem f6{lo hi:Option Expr}{fl fh:Ev->Option (Option Int)}{p2:Pos}(ha:DB X a fa)(hl:DO X lo fl)(hh:DO X hi fh):DF X (.Subscript a (.Slice lo hi none p2) pos) (eSl fa fl fh):=by
 obtain⟨ta,a1,a2⟩:=ha;obtain⟨tl,b1,b2⟩:=hl;obtain⟨th,c1,c2⟩:=hh;refine⟨_,qQ Bt a1 b1 c1,λHe G H σ ε ds Q gh E ef q=>?_⟩;obtain⟨x,e1,ef⟩:=ai ef;obtain⟨l,e2,ef⟩:=ai ef;obtain⟨u,e3,ef⟩:=ai ef;refine a2 He G H σ ε x _ gh E e1 λv G1 H1 g1 d1=>?_;refine b2 He G1 H1 σ ε l _ g1.gh (E.grow g1) e2 λG2 H2 g2=>?_;refine c2 He G2 H2 σ ε u _ g2.gh ((E.grow g1).grow g2) e3 λG3 H3 g3=>?_;split at ef
 ·cases ef
  obtain⟨p,xs,rfl,h1,h2⟩:=((d1.grow g2).grow g3).lst g3.gh;refine⟨p,xs,rfl,h1,λp' hp=>?_⟩;have g:=g1.trans (g2.trans g3);exact q p' _ G3 _ (g.trans (.lay _ g3.gh hp)) (g.hh.free hp) (g3.gnone hp) aG (tM l u h2)
 ·cases ef
def fq(fa:Ev->Option D)(fl fh:Ev->Option (Option Int)):Ev->Option D:=λε=>(fa ε).bind λx=>(fl ε).bind λlo=>(fh ε).bind λhi=>match x with
 |.tup xs=>if HT.sIx xs.length 0 lo=0/\HT.sIx xs.length xs.length hi=xs.length then none else some (.tup (gO xs lo hi))
 |_=>none
theorem gc{lo hi:Option Expr}{fl fh:Ev->Option (Option Int)}{p2:Pos}(ha:DB X a fa)(hl:DO X lo fl)(hh:DO X hi fh):DE X (.Subscript a (.Slice lo hi none p2) pos) (fq fa fl fh):=by
 obtain⟨ta,a1,a2⟩:=ha;obtain⟨tl,b1,b2⟩:=hl;obtain⟨th,c1,c2⟩:=hh;refine⟨_,qQ Ed a1 b1 c1,λHe G H σ ε ds Q gh E ef q=>?_⟩;obtain⟨x,e1,ef⟩:=ai ef;obtain⟨l,e2,ef⟩:=ai ef;obtain⟨u,e3,ef⟩:=ai ef;refine a2 He G H σ ε x _ gh E e1 λv G1 H1 g1 d1=>?_;refine b2 He G1 H1 σ ε l _ g1.gh (E.grow g1) e2 λG2 H2 g2=>?_;refine c2 He G2 H2 σ ε u _ g2.gh ((E.grow g1).grow g2) e3 λG3 H3 g3=>?_;split at ef
 ·split at ef
  ·cases ef
  ·rename_i hw
   cases ef;obtain⟨p,xs,rfl,h0,h1,h2⟩:=((d1.grow g2).grow g3).tup g3.gh;refine⟨p,xs,rfl,h1,by rw[h2.length];exact hw,λp' hp=>?_⟩;have g4:=Grow.new (.tup (n5 xs l u)) g3.gh hp;exact q _ _ _ ((g1.trans (g2.trans g3)).trans g4) (.tup (SqT.of aG) ((tM l u h2).mono g4.gg))
 ·cases ef
def bJ(f g:Ev->Option Bool):Ev->Option Bool:=λε=>(f ε).bind λk=>if k=true then g ε else some false
def jE(f g:Ev->Option Bool):Ev->Option Bool:=λε=>(f ε).bind λk=>if k=true then some true else g ε
def dZ(f:Ev->Option Bool):Ev->Option Bool:=λε=>(f ε).map λk=>!k
section
variable{f g:Ev->Option Bool}{rest:List Expr}
theorem bZ(h:DT X a f):DW X (.BoolOp .And [a] pos) f:=let⟨t,h1,h2⟩:=h;⟨t,zG h1,h2⟩
theorem oW(h:DT X a f):DW X (.BoolOp .Or [a] pos) f:=let⟨t,h1,h2⟩:=h;⟨t,Di h1,h2⟩
theorem cT(h:DT X a f)(hr:DW X (.BoolOp .And (b::rest) pos) g):DW X (.BoolOp .And (a::b::rest) pos) (bJ f g):=by
 obtain⟨t,a1,a2⟩:=h;obtain⟨u,b1,b2⟩:=hr;refine⟨_,CD a1 b1,λHe G H σ ε k Q gh E ef q=>?_⟩;obtain⟨c,e1,ef⟩:=ai ef;refine a2 He G H σ ε c _ gh E e1 λG1 H1 g1=>?_;cases c with
 |true=>
  rw[if_pos rfl] at ef ⊢;exact b2 He G1 H1 σ ε k _ g1.gh (E.grow g1) ef λG2 H2 g2=>q _ _ (g1.trans g2)
 |false=>
  rw[if_neg Ql] at ef ⊢;cases ef;exact q _ _ g1
theorem uG(h:DT X a f)(hr:DW X (.BoolOp .Or (b::rest) pos) g):DW X (.BoolOp .Or (a::b::rest) pos) (jE f g):=by
 obtain⟨t,a1,a2⟩:=h;obtain⟨u,b1,b2⟩:=hr;refine⟨_,Gf a1 b1,λHe G H σ ε k Q gh E ef q=>?_⟩;obtain⟨c,e1,ef⟩:=ai ef;refine a2 He G H σ ε c _ gh E e1 λG1 H1 g1=>?_;cases c with
 |true=>
  rw[if_pos rfl] at ef ⊢;cases ef;exact q _ _ g1
 |false=>
  rw[if_neg Ql] at ef ⊢;exact b2 He G1 H1 σ ε k _ g1.gh (E.grow g1) ef λG2 H2 g2=>q _ _ (g1.trans g2)
theorem o6(h:DT X a f):DT X (.UnaryOp .Not a pos) (dZ f):=by
 obtain⟨t,a1,a2⟩:=h;refine⟨_,CM a1,λHe G H σ ε k Q gh E ef q=>?_⟩;unfold dZ at ef;cases e1:f ε with
 |none=>rw[e1] at ef;cases ef
 |some c=>
  rw[e1] at ef;cases ef;exact a2 He G H σ ε c _ gh E e1 q
end
def mx(fa fb:Ev->Option D):Ev->Option D:=λε=>(fa ε).bind λx=>match x with | .bl k=>if k=true then fb ε else some (.bl false) | _=>none
theorem xY{op}(h:DE X a fa):DE X (.BoolOp op [a] pos) fa:=let⟨t,h1,h2⟩:=h;⟨t,CV h1,h2⟩
theorem iP{rest:List Expr}(h:DE X a fa)(hr:DE X (.BoolOp .And (b::rest) pos) fb):DE X (.BoolOp .And (a::b::rest) pos) (mx fa fb):=by
 obtain⟨t,a1,a2⟩:=h;obtain⟨u,b1,b2⟩:=hr;refine⟨_,Dk a1 b1,λHe G H σ ε d Q gh E ef q=>?_⟩;obtain⟨x,e1,ef⟩:=ai ef;refine a2 He G H σ ε x _ gh E e1 λv G1 H1 g1 d1=>?_;split at ef
 ·rename_i k
  refine⟨k,d1.blV,?_⟩;cases k with
  |true=>
   rw[if_pos rfl] at ef ⊢;exact b2 He G1 H1 σ ε d _ g1.gh (E.grow g1) ef λv G2 H2 g2=>q _ _ _ (g1.trans g2)
  |false=>
   rw[if_neg Ql] at ef ⊢;cases ef;exact q _ _ _ g1 (.bl _)
 ·cases ef
def FV:D->Option Bool
 |.non=>some false
 |.bl b=>some b
 |.int i=>some (i != 0)
 |.str _=>none
 |.tup xs=>some (!xs.isEmpty)
 |.lst xs=>some (!xs.isEmpty)
 |.dic _=>none
theorem DenL.emp{K:Qe}{G:Hp}{xs:List V}{ds:List D}(h:DenL K G xs ds):xs.isEmpty=ds.isEmpty:=by cases h<;>rfl
def ec(fa:Ev->Option D):Ev->Option Bool:=λε=>(fa ε).bind FV
theorem dP(ha:DB X a fa)(he:∀whole,isTrue a X.env whole=(do let v<-whole;standAt a.pos;holding [v] (truthy v)):=by intro _;rfl):DT X a (ec fa):=by
 obtain⟨ta,a1,a2⟩:=ha;refine⟨_,wN a1 he,λHe G H σ ε k Q gh E ef q=>?_⟩;obtain⟨x,e1,ef⟩:=ai ef;refine a2 He G H σ ε x _ gh E e1 λv G1 H1 g1 d1=>⟨k,?_,q _ _ g1⟩;unfold FV at ef;split at ef
 ·cases d1.non;cases ef;rfl
 ·cases d1.bl;cases ef;rfl
 ·cases d1.int;cases ef;rfl
 ·cases ef
 ·cases ef
  obtain⟨p,xs,rfl,h0,h1,h2⟩:=d1.tup g1.gh;exact .inr (.inl ⟨xs,h1,by rw[h2.emp]⟩)
 ·cases ef
  obtain⟨p,xs,rfl,h1,h2⟩:=d1.lst g1.gh;exact .inl ⟨xs,h1,by rw[h2.emp]⟩
 ·cases ef
end
def spF(K:Qe)(F:List D->Option D):Sp:=λvs H Q _=>∃G ds d,aI G H/\DenL K G vs ds/\F ds=some d/\∀v G' H',Grow G H G' H'->Den K G' v d->Q v H'
def gw(N:List Str)(ds:List D):Ev:=ds.map Sl.dat++List.replicate (N.length-ds.length) Sl.un
section
variable{X:Cx}{a b c:Expr}{fa fb fc:Ev->Option D}{pos:Pos}
def aK(F:List D->Option D)(g:Ev->Option (List D)):Ev->Option D:=λε=>(g ε).bind F
def bS(op:D->Option D)(fa:Ev->Option D):Ev->Option D:=λε=>(fa ε).bind op
def xw(op:D->D)(fa:Ev->Option D):Ev->Option D:=λε=>(fa ε).map op
theorem zW{k:Nat}{f:Addr}{fd:J8}{ps:List Str}{Fn:List D->Option D}{x:Str}{e:Expr}{es:List Expr}{g:Ev->Option (List D)}{p:Pos}
  (F:FnOk X.prog X.w X.K X.mg X.base CX0 k f fd ps (spF X.K Fn)) (hr:Room k X.A) (hm:X.mg x=some (.ref f)) (hk:Ko X.K (.ref f)=true) (hb:k7 X.K fd ps [])
  (ha:DA X (e::es) g) (hg:Gl X x:=by rfl) (hdb:(x==("__debug__" : Str))=false:=by decide) (he:Qy (e::es) X.env=(false,eval e X.env)::Qy es X.env:=by rfl) (hpl:(JG pos (Qy es X.env)).any (·.1)=false:=by rfl) :
  DE X (.Call (.Name x p) (e::es) [] pos) (aK Fn g):=by
 obtain⟨t,a1,a2⟩:=ha;refine⟨_,AD (E:=E0) F hr hg hm hk hb .nil FL a1 hdb he hpl,λHe G H σ ε d Q gh E ef q=>?_⟩;obtain⟨ds,e1,ef⟩:=ai ef;refine a2 He G H σ ε ds _ gh E e1 λvs G1 H1 g1 d1=>?_;show spF X.K Fn (vs++[]) H1 Q E0;rw[Jp];exact⟨G1,ds,d,g1.gh,d1,ef,λv G2 H2 g2 d2=>q v G2 H2 (g1.trans g2) d2⟩
def bU:D->Option D
 |.lst xs=>some (.int xs.length)
 |.tup xs=>some (.int xs.length)
 |_=>none
theorem cQ{p:Pos}(ha:DB X a fa)(hm:X.mg "len" = none)(hg:Gl X "len":=by rfl)(hst:Qy [a] X.env=(false,eval a X.env)::Qy [] X.env:=by rfl)(hpl:(JG pos (Qy [] X.env)).any (·.1)=false:=by rfl):DE X (.Call (.Name "len" p) [a] [] pos) (bS bU fa):=by
 obtain⟨ta,a1,a2⟩:=ha;refine⟨_,fX oH hg hm PySem.boot_len (bR a1 cR hst) (by decide) (by decide) hst hpl,λHe G H σ ε d Q gh E ef q=>?_⟩;obtain⟨x,e1,ef⟩:=ai ef;refine a2 He G H σ ε x _ gh E e1 λv G1 H1 g1 d1=>?_;unfold bU at ef;split at ef
 ·cases ef
  obtain⟨p,xs,rfl,h1,h2⟩:=d1.lst g1.gh;exact⟨p,xs,rfl,.inl h1,q _ _ _ g1 (by rw[h2.length];exact .int _)⟩
 ·cases ef
  obtain⟨p,xs,rfl,h0,h1,h2⟩:=d1.tup g1.gh;exact⟨p,xs,rfl,.inr h1,q _ _ _ g1 (by rw[h2.length];exact .int _)⟩
 ·cases ef
def kU(X:Cx)(f:Qb)(op:List D->Option D):Prop:=∃r,eY X f r/\∀(G H:Hp) (vs:List V) (ds:List D) (d:D) (Q:VK),aI G H->DenL X.K G vs ds->op ds=some d->
 (∀v G' H',Grow G H G' H'->Den X.K G' v d->Q v H')->r vs H Q
theorem dO{id:String}{op:List D->Option D}{x:Str}{e:Expr}{es:List Expr}{g:Ev->Option (List D)}{p:Pos}(hc:kU X (.builtin id) op)(hm:X.mg x=none)(hv:ZL x=some (.builtin id))(ha:DA X (e::es) g)(hg:Gl X x:=by rfl)
  (hn:x≠"__name__":=by decide) (hdb:(x==("__debug__" : Str))=false:=by decide) (he:Qy (e::es) X.env=(false,eval e X.env)::Qy es X.env:=by rfl) (hpl:(JG pos (Qy es X.env)).any (·.1)=false:=by rfl) :
  DE X (.Call (.Name x p) (e::es) [] pos) (aK op g):=by
 obtain⟨r,c1,c2⟩:=hc;obtain⟨t,a1,a2⟩:=ha;refine⟨_,fX c1 hg hm hv a1 hn hdb he hpl,λHe G H σ ε d Q gh E ef q=>?_⟩;obtain⟨ds,e1,ef⟩:=ai ef;refine a2 He G H σ ε ds _ gh E e1 λvs G1 H1 g1 d1=>?_;exact c2 G1 H1 vs ds d Q g1.gh d1 ef λv G2 H2 g2 d2=>q v G2 H2 (g1.trans g2) d2
def lE:List D->Option D
 |[.int i,.int j]=>some (.int (if j>i then j else i))
 |_=>none
def pX:List D->Option D
 |[.int i,.int j]=>some (.int (if j<i then j else i))
 |_=>none
theorem Den.intV{K:Qe}{G:Hp}{v:V}{i:Int}(h:Den K G v (.int i)):v=.int i:=by cases h;rfl
theorem oE(hc:X.calm=true):kU X (.builtin "max") lE:=⟨_,vE hc,λG H vs ds d Q gh hd e q=>by
 unfold lE at e;split at e
 ·cases e
  cases hd with | cons h1 h2=>cases h2 with | cons h2 h3=>cases h3;exact⟨_,_,by rw[h1.intV,h2.intV],q _ _ _ (.refl gh) (.int _)⟩
 ·cases e⟩
theorem Av(hc:X.calm=true):kU X (.builtin "min") pX:=⟨_,u_ hc,λG H vs ds d Q gh hd e q=>by
 unfold pX at e;split at e
 ·cases e
  cases hd with | cons h1 h2=>cases h2 with | cons h2 h3=>cases h3;exact⟨_,_,by rw[h1.intV,h2.intV],q _ _ _ (.refl gh) (.int _)⟩
 ·cases e⟩
theorem Den.lstV{K:Qe}{G:Hp}{v:V}{ds:List D}(h:Den K G v (.lst ds)):∃a xs,v=.ref a/\SqL K G a xs/\DenL K G xs ds:=by cases h with | lst h hs=>exact⟨_,_,rfl,h.sq,hs⟩
theorem Den.tupV{K:Qe}{G:Hp}{v:V}{ds:List D}(h:Den K G v (.tup ds)):∃a xs,v=.ref a/\SqT K G a xs/\DenL K G xs ds:=by cases h with | tup h hs=>exact⟨_,_,rfl,h,hs⟩
def nk(fa:Ev->Option D):Ev->Option (List D):=λε=>match fa ε with | some (.lst xs)=>some xs | some (.tup xs)=>some xs | _=>none
theorem kF{p:Pos}(ha:DB X a fa)(hm:X.mg "list" = none)(hg:Gl X "list":=by rfl)(hst:Qy [a] X.env=(false,eval a X.env)::Qy [] X.env:=by rfl)(hpl:(JG pos (Qy [] X.env)).any (·.1)=false:=by rfl):DF X (.Call (.Name "list" p) [a] [] pos) (nk fa):=by
 obtain⟨ta,a1,a2⟩:=ha;refine⟨_,nC oq hg hm (by rfl) (bR a1 cR hst) (by decide) (by decide) hst hpl,λHe G H σ ε d Q gh E ef q=>?_⟩;unfold nk at ef;split at ef
 ·rename_i e1
  cases ef;refine a2 He G H σ ε _ _ gh E e1 λv G1 H1 g1 d1=>?_;obtain⟨p,xs,rfl,h1,h2⟩:=d1.lst g1.gh;exact⟨p,xs,rfl,.inl h1,λl hl=>q l xs G1 _ (g1.trans (.lay _ g1.gh hl)) (g1.hh.free hl) (g1.gnone hl) aG h2⟩
 ·rename_i e1
  cases ef;refine a2 He G H σ ε _ _ gh E e1 λv G1 H1 g1 d1=>?_;obtain⟨p,xs,rfl,h0,h1,h2⟩:=d1.tup g1.gh;exact⟨p,xs,rfl,.inr h1,λl hl=>q l xs G1 _ (g1.trans (.lay _ g1.gh hl)) (g1.hh.free hl) (g1.gnone hl) aG h2⟩
 ·cases ef
def tyD:D->String
 |.non=>"NoneType" | .bl _=>"bool" | .int _=>"int" | .str _=>"str" | .tup _=>"tuple" | .lst _=>"list" | .dic _=>"dict"
def wA(T:String)(d:D):D:=.bl (tyD d==T || (tyD d == "bool" && T == "int"))
theorem AH{K:Qe}{t T:String}(hT:T = "list"\/T = "tuple"\/T = "bool"\/T = "int"\/T = "str")(ht:t = "NoneType"\/t = "bool"\/t = "int"\/t = "str"\/t = "tuple"\/t = "list"\/t = "dict") :
  PySem.W.kitOne K (.type t) (.type T)=some (t==T || (t == "bool" && T == "int")):=by
 rcases hT with rfl | rfl | rfl | rfl | rfl<;>rcases ht with rfl | rfl | rfl | rfl | rfl | rfl | rfl<;>rfl
theorem zH(d:D):tyD d = "NoneType"\/tyD d = "bool"\/tyD d = "int"\/tyD d = "str"\/tyD d = "tuple"\/tyD d = "list"\/tyD d = "dict":=by cases d<;>simp[tyD]
theorem wX{T:String}(hT:T = "list"\/T = "tuple"\/T = "bool"\/T = "int"\/T = "str"):eY X (.builtin "isinstance") (λxs H Q=>∃G v d,xs=[v,.ty T]/\aI G H/\cb X.K G H v d/\∃k,wA T d=.bl k/\Q (.bl k) H):=by
 intro pins s σ H xs us Q I rv h;obtain⟨G,v,d,rfl,gh,hd,k,ek,q⟩:=h;obtain⟨u,u2,rfl,r1,r2⟩:=rv.two;have e2:u2=Value.type T:=r2;subst e2
 have kt:PySem.W.kitOne X.K (.type (tyD d)) (.type T)=some k:=by
  rw[AH hT (zH d)];unfold wA at ek;injection ek with ek
  rw[ek]
 have fin:∀tk,EP X pins σ Q (.bool k) { s with toks:=tk }:=λtk=>⟨.bl k,H,I.tok tk,rfl,q⟩;cases d with
 |non=>cases hd.non;cases(show u=JH from r1);exact ZT PySem.W.kitx_none I.kIn Kv kt (λz=>nomatch z) fin
 |bl y=>cases hd.bl;cases(show u=Z1 y from r1);exact ZT PySem.W.kitx_bool I.kIn Kv kt (λz=>nomatch z) fin
 |int i=>cases hd.int;obtain⟨t,z⟩:=(show ∃t,u=Value.int i t from r1);cases z;exact ZT PySem.W.kitx_int I.kIn Kv kt (λz=>nomatch z) fin
 |str i=>cases hd.str;obtain⟨t,z⟩:=(show ∃t,u=Value.str i t from r1);cases z;exact ZT PySem.W.kitx_str I.kIn Kv kt (λz=>nomatch z) fin
 |tup ds=>
  obtain⟨p,ys,rfl,h0,h1,h2⟩:=hd.tup gh;cases(show u=QI p from r1);obtain⟨its,_,⟨o,h3,h4,_⟩,_⟩:=I.tuple h1;exact ZT PySem.W.kitx_tuple I.kIn ⟨o,h3,h4⟩ kt (λz=>nomatch z) fin
 |lst ds=>
  obtain⟨p,ys,rfl,h1,h2⟩:=hd.lst gh;cases(show u=QI p from r1);obtain⟨its,_,⟨o,n,h3,h4,_⟩,_⟩:=I.list h1;exact ZT PySem.W.kitx_list I.kIn ⟨o,h3,h4⟩ kt (λz=>nomatch z) fin
 |dic es=>
  rcases hd with hd | ⟨_,_,_,_,z,_⟩
  ·cases hd with
   |@dic p us ep _ h nd hs=>
    cases(show u=QI p from r1);obtain⟨⟨_,_,o,raw,h3,h4,_⟩,_,_⟩:=(show bL X.prog X.w H s.heap p (.ext (DAt p us ep)) from I.hok p _ (gh _ _ h));exact ZT PySem.W.kitx_dict I.kIn ⟨o,h3,h4.1⟩ kt (λz=>nomatch z) fin
  ·cases z
theorem C_{T:String}{p p2:Pos}{x:Str}(hT:T = "list"\/T = "tuple"\/T = "bool"\/T = "int"\/T = "str")(ha:DB X a fa)(hm:X.mg "isinstance" = none)(hm2:X.mg x=none)(hv:ZL x=some (.type T))(hv0:ZL "isinstance" = some (.builtin "isinstance"):=by rfl)(hg:Gl X "isinstance":=by rfl)(hg2:Gl X x:=by rfl)(hn2:x≠"__name__":=by decide)(hd2:(x==("__debug__" : Str))=false:=by decide)
  (hst:Qy [a,.Name x p2] X.env=(false,eval a X.env)::Qy [.Name x p2] X.env:=by rfl) (hst2:Qy [.Name x p2] X.env=(false,eval (.Name x p2) X.env)::Qy [] X.env:=by rfl) (hpl:(JG pos (Qy [.Name x p2] X.env)).any (·.1)=false:=by rfl) :
  DE X (.Call (.Name "isinstance" p) [a,.Name x p2] [] pos) (xw (wA T) fa):=by
 obtain⟨ta,a1,a2⟩:=ha;refine⟨_,fX (wX hT) hg hm hv0 (bR a1 (bR (Ab (v:=.ty T) hg2 hm2 hv rfl hn2 hd2) cR hst2) hst) (by decide) (by decide) hst hpl,λHe G H σ ε d Q gh E ef q=>?_⟩;unfold xw at ef;cases e1:fa ε with
 |none=>rw[e1] at ef;cases ef
 |some y=>
  rw[e1] at ef;cases ef;refine a2 He G H σ ε y _ gh E e1 λv G1 H1 g1 d1=>?_;exact⟨G1,v,y,rfl,g1.gh,d1,_,rfl,q _ _ _ g1 (.bl _)⟩
end
theorem EnvD.put{K:Qe}{He G H:Hp}{σ:L2.St}{ε:Ev}{i:Nat}{v:V}{d:D}(E:EnvD K He G H σ ε)(h:Den K G v d):EnvD K He G H (σ.set i (some v)) (ε.set i (.dat d)) where
 len:=by rw[JS,JS];exact E.len
 dat:=λ{j d'} e=>by
  rw[QB] at e ⊢
  by_cases z:i=j
  ·rw[if_pos z] at e ⊢
   subst z;rw[E.len];split at e
   ·rename_i hl;cases e;exact⟨v,by rw[if_pos hl],h⟩
   ·cases e
  ·rw[if_neg z] at e ⊢
   exact E.dat e
 own:=λ{j ds} e=>by
  rw[QB] at e ⊢
  by_cases z:i=j
  ·rw[if_pos z] at e;split at e<;>cases e
  ·rw[if_neg z] at e ⊢
   exact E.own e
 apart:=λ{j k ds es a} e1 e2 h1 h2=>by
  rw[QB] at e1 e2 h1 h2
  by_cases z:i=j
  ·rw[if_pos z] at e1;split at e1<;>cases e1
  ·by_cases z2:i=k
   ·rw[if_pos z2] at e2;split at e2<;>cases e2
   ·rw[if_neg z] at e1 h1
    rw[if_neg z2] at e2 h2;exact E.apart e1 e2 h1 h2
 odi:=λ{j ds} e=>by
  rw[QB] at e ⊢
  by_cases z:i=j
  ·rw[if_pos z] at e;split at e<;>cases e
  ·rw[if_neg z] at e ⊢
   exact E.odi e
 apartD:=λ{j k ds es a} e1 e2 h1 h2=>by
  rw[QB] at e1 e2 h1 h2
  by_cases z:i=j
  ·rw[if_pos z] at e1;split at e1<;>cases e1
  ·by_cases z2:i=k
   ·rw[if_pos z2] at e2;split at e2<;>cases e2
   ·rw[if_neg z] at e1 h1
    rw[if_neg z2] at e2 h2;exact E.apartD e1 e2 h1 h2
theorem EnvD.putO{K:Qe}{He G H G' H':Hp}{σ:L2.St}{ε:Ev}{i:Nat}{a:Addr}{xs:List V}{ds:List D}(E:EnvD K He G H σ ε)(g:Grow G H G' H')(heH:aI He H)(hn:H a=none)(gn:G' a=none)(ha:H' a=some (.lst xs))(hd:DenL K G' xs ds) :
  EnvD K He G' H' (σ.set i (some (.ref a))) (ε.set i (.own ds)) where
 len:=by rw[JS,JS];exact E.len
 dat:=λ{j d'} e=>by
  rw[QB] at e ⊢
  by_cases z:i=j
  ·rw[if_pos z] at e;split at e<;>cases e
  ·rw[if_neg z] at e ⊢
   exact(E.grow g).dat e
 own:=λ{j ds'} e=>by
  rw[QB] at e ⊢
  by_cases z:i=j
  ·rw[if_pos z] at e ⊢
   subst z;rw[E.len];split at e
   ·rename_i hl;cases e;exact⟨a,xs,by rw[if_pos hl],ha,gn,heH.free hn,hd⟩
   ·cases e
  ·rw[if_neg z] at e ⊢
   exact(E.grow g).own e
 apart:=λ{j k ds' es b} e1 e2 h1 h2=>by
  rw[QB] at e1 e2 h1 h2
  have key:∀{m:Nat} {es:List D},ε[m]?=some (.own es)->σ[m]?=some (some (.ref a))->False:=λ{m es} q1 q2=>by
   obtain⟨b',ys,w1,w2,_⟩:=E.own q1;rw[q2] at w1;cases w1;rw[hn] at w2;cases w2
  by_cases z:i=j
  ·by_cases z2:i=k
   ·rw[<-z,<-z2]
   ·rw[if_pos z] at h1
    rw[if_neg z2] at e2 h2;split at h1
    ·cases h1;exact(key e2 h2).elim
    ·cases h1
  ·by_cases z2:i=k
   ·rw[if_neg z] at e1 h1
    rw[if_pos z2] at h2;split at h2
    ·cases h2;exact(key e1 h1).elim
    ·cases h2
   ·rw[if_neg z] at e1 h1
    rw[if_neg z2] at e2 h2;exact E.apart e1 e2 h1 h2
 odi:=λ{j ds'} e=>by
  rw[QB] at e ⊢
  by_cases z:i=j
  ·rw[if_pos z] at e;split at e<;>cases e
  ·rw[if_neg z] at e ⊢
   exact(E.grow g).odi e
 apartD:=λ{j k ds es a} e1 e2 h1 h2=>by
  rw[QB] at e1 e2 h1 h2
  by_cases z:i=j
  ·rw[if_pos z] at e1;split at e1<;>cases e1
  ·by_cases z2:i=k
   ·rw[if_pos z2] at e2;split at e2<;>cases e2
   ·rw[if_neg z] at e1 h1
    rw[if_neg z2] at e2 h2;exact E.apartD e1 e2 h1 h2
theorem Sta.write{K:Qe}{He Ge G H:Hp}{σ:L2.St}{ε:Ev}{i:Nat}{a:Addr}{xs ys:List V}{ds es:List D}(S:Sta K He Ge G H σ ε)(ei:ε[i]?=some (.own ds))(hs:σ[i]?=some (some (.ref a)))(ha:H a=some (.lst xs))(hd:DenL K G ys es) :
  Sta K He Ge G (upd H a (.lst ys)) σ (ε.set i (.own es)):=by
 obtain⟨a',xs',h1,h2,h3,h4,h5⟩:=S.e.own ei;rw[hs] at h1;cases h1;have keep:∀{b:Addr} {o:HO},b≠a->H b=some o->upd H a (.lst ys) b=some o:=λ{b o} n e=>by rw[aM n];exact e
 refine⟨⟨λb o e=>keep (aE e h4) (S.g.hh b o e),S.g.gg,λb o e=>keep (aE e h3) (S.g.gh b o e),S.g.fo⟩,?_⟩;have hil:i<ε.length:=(Qk.mp ei).1;refine⟨by rw[JS];exact S.e.len,λ{j d} e=>?_,λ{j fs} e=>?_,λ{j k fs gs b} e1 e2 w1 w2=>?_,λ{j fs} e=>?_,λ{j k fs gs b} e1 e2 w1 w2=>?_⟩
 ·rw[QB] at e
  by_cases z:i=j
  ·rw[if_pos z] at e;split at e<;>cases e
  ·rw[if_neg z] at e;exact S.e.dat e
 ·rw[QB] at e
  by_cases z:i=j
  ·rw[if_pos z,if_pos (z▸hil)] at e
   cases e;subst z;exact⟨a,ys,hs,aG,h3,h4,hd⟩
  ·rw[if_neg z] at e
   obtain⟨b,zs,w1,w2,w3,w4,w5⟩:=S.e.own e;refine⟨b,zs,w1,keep (λq=>z ?_) w2,w3,w4,w5⟩;subst q;exact S.e.apart ei e hs w1
 ·have own_of:∀{m:Nat} {fs:List D},(ε.set i (.own es))[m]?=some (.own fs)->∃gs,ε[m]?=some (.own gs):=λ{m fs} e=>by
   rw[QB] at e
   by_cases z:i=m
   ·subst z;exact⟨_,ei⟩
   ·rw[if_neg z] at e;exact⟨_,e⟩
  obtain⟨_,q1⟩:=own_of e1;obtain⟨_,q2⟩:=own_of e2;exact S.e.apart q1 q2 w1 w2
 ·rw[QB] at e
  by_cases z:i=j
  ·rw[if_pos z] at e;split at e<;>cases e
  ·rw[if_neg z] at e
   obtain⟨b,us,ep,w1,w2,w3⟩:=S.e.odi e;exact⟨b,us,ep,w1,keep (λq=>by subst q;rw[ha] at w2;cases w2) w2,w3⟩
 ·have odi_of:∀{m:Nat} {fs:List (List Int×D)},(ε.set i (.own es))[m]?=some (.odi fs)->ε[m]?=some (.odi fs):=λ{m fs} e=>by
   rw[QB] at e
   by_cases z:i=m
   ·rw[if_pos z] at e;split at e<;>cases e
   ·rw[if_neg z] at e;exact e
  exact S.e.apartD (odi_of e1) (odi_of e2) w1 w2
def fzS:Sl->Sl
 |.own ds=>.dat (.lst ds)
 |.odi es=>.dat (.dic es)
 |x=>x
def fz1(i:Nat)(ε:Ev):Ev:=ε.modify i fzS
theorem Sta.freeze{K:Qe}{He Ge G H:Hp}{σ:L2.St}{ε:Ev}(S:Sta K He Ge G H σ ε)(i:Nat):∃G',Sta K He Ge G' H σ (fz1 i ε):=by
 unfold fz1;cases ei:ε[i]? with
 |none=>
  have:ε.modify i fzS=ε:=by
   apply Jv;intro j;rw[Zt]
   by_cases z:i=j
   ·subst z;rw[ei];rfl
   ·simp[z]
  rw[this];exact⟨G,S⟩
 |some sl=>
  cases sl with
  |un=>
   have:ε.modify i fzS=ε:=by
    apply Jv;intro j;rw[Zt]
    by_cases z:i=j
    ·subst z;rw[ei];simp[fzS]
    ·simp[z]
   rw[this];exact⟨G,S⟩
  |dat d=>
   have:ε.modify i fzS=ε:=by
    apply Jv;intro j;rw[Zt]
    by_cases z:i=j
    ·subst z;rw[ei];simp[fzS]
    ·simp[z]
   rw[this];exact⟨G,S⟩
  |own ds=>
   obtain⟨a,xs,h1,h2,h3,h4,h5⟩:=S.e.own ei;have s2:aI G (upd G a (.lst xs)):=λb o e=>by rw[aM (aE e h3)];exact e
   have gt:∀j,(ε.modify i fzS)[j]?=if i=j then some (.dat (.lst ds)) else ε[j]?:=λj=>by
    rw[Zt]
    by_cases z:i=j
    ·subst z;rw[ei];simp[fzS]
    ·simp[z]
   refine⟨upd G a (.lst xs),⟨S.g.hh,S.g.gg.trans s2,λb o e=>?_,λb o e z=>?_⟩,⟨by rw[List.length_modify];exact S.e.len,λ{j d} e=>?_,λ{j fs} e=>?_,λ{j k fs gs b} e1 e2 w1 w2=>?_,λ{j fs} e=>?_,λ{j k fs gs b} e1 e2 w1 w2=>?_⟩⟩
   ·unfold upd at e
    by_cases z:b=a
    ·rw[if_pos z] at e;cases e;rw[z];exact h2
    ·rw[if_neg z] at e;exact S.g.gh b o e
   ·rw[aM (aE e h4)];exact S.g.fo b o e z
   ·rw[gt] at e
    split at e
    ·rename_i z;subst z;cases e;exact⟨_,h1,.lst (.inl aG) (h5.mono s2)⟩
    ·obtain⟨v,w1,w2⟩:=S.e.dat e;exact⟨v,w1,w2.mono s2⟩
   ·rw[gt] at e
    split at e
    ·cases e
    ·rename_i z
     obtain⟨b,zs,w1,w2,w3,w4,w5⟩:=S.e.own e;refine⟨b,zs,w1,w2,?_,w4,w5.mono s2⟩;rw[aM (λq=>z (by subst q;exact S.e.apart ei e h1 w1))];exact w3
   ·rw[gt] at e1 e2
    split at e1
    ·cases e1
    ·split at e2
     ·cases e2
     ·exact S.e.apart e1 e2 w1 w2
   ·rw[gt] at e
    split at e
    ·cases e
    ·obtain⟨b,us,ep,w1,w2,w3,w4,w5,w6⟩:=S.e.odi e
     refine⟨b,us,ep,w1,w2,?_,w4,w5,w6.mono s2⟩;rw[aM (λq=>by subst q;rw[h2] at w2;cases w2)];exact w3
   ·rw[gt] at e1 e2
    split at e1
    ·cases e1
    ·split at e2
     ·cases e2
     ·exact S.e.apartD e1 e2 w1 w2
  |odi es=>
   obtain⟨a,us,ep,h1,h2,h3,h4,h5,h6⟩:=S.e.odi ei;have s2:aI G (upd G a (.ext (DAt a us ep))):=λb o e=>by rw[aM (aE e h3)];exact e
   have gt:∀j,(ε.modify i fzS)[j]?=if i=j then some (.dat (.dic es)) else ε[j]?:=λj=>by
    rw[Zt]
    by_cases z:i=j
    ·subst z;rw[ei];simp[fzS]
    ·simp[z]
   refine⟨upd G a (.ext (DAt a us ep)),⟨S.g.hh,S.g.gg.trans s2,λb o e=>?_,λb o e z=>?_⟩,⟨by rw[List.length_modify];exact S.e.len,λ{j d} e=>?_,λ{j fs} e=>?_,λ{j k fs gs b} e1 e2 w1 w2=>?_,λ{j fs} e=>?_,λ{j k fs gs b} e1 e2 w1 w2=>?_⟩⟩
   ·unfold upd at e
    by_cases z:b=a
    ·rw[if_pos z] at e;cases e;rw[z];exact h2
    ·rw[if_neg z] at e;exact S.g.gh b o e
   ·rw[aM (aE e h4)];exact S.g.fo b o e z
   ·rw[gt] at e
    split at e
    ·rename_i z;subst z;cases e;exact⟨_,h1,.dic aG h5 (h6.mono s2)⟩
    ·obtain⟨v,w1,w2⟩:=S.e.dat e;exact⟨v,w1,w2.mono s2⟩
   ·rw[gt] at e
    split at e
    ·cases e
    ·obtain⟨b,zs,w1,w2,w3,w4,w5⟩:=S.e.own e
     refine⟨b,zs,w1,w2,?_,w4,w5.mono s2⟩;rw[aM (λq=>by subst q;rw[h2] at w2;cases w2)];exact w3
   ·rw[gt] at e1 e2
    split at e1
    ·cases e1
    ·split at e2
     ·cases e2
     ·exact S.e.apart e1 e2 w1 w2
   ·rw[gt] at e
    split at e
    ·cases e
    ·rename_i z
     obtain⟨b,us',ep',w1,w2,w3,w4,w5,w6⟩:=S.e.odi e;refine⟨b,us',ep',w1,w2,?_,w4,w5,w6.mono s2⟩;rw[aM (λq=>z (by subst q;exact S.e.apartD ei e h1 w1))];exact w3
   ·rw[gt] at e1 e2
    split at e1
    ·cases e1
    ·split at e2
     ·cases e2
     ·exact S.e.apartD e1 e2 w1 w2
theorem Grow.base{Ge He G1 H1 G H:Hp}(a:Grow Ge He G1 H1)(b:Grow G1 He G H):Grow Ge He G H:=⟨b.hh,a.gg.trans b.gg,b.gh,λc o h e=>b.fo c o h (a.fo c o h e)⟩
theorem Grow.self{Ge He G1 H1:Hp}(a:Grow Ge He G1 H1):Grow G1 He G1 H1:=⟨a.hh,aI.refl _,a.gh,λ_ _ _ e=>e⟩
section
variable{X:Cx}{a b c:Expr}{fa fb fc:Ev->Option D}{pos:Pos}{st:Stmt}{rest:List Stmt}{g g':Ev->Option Fl}
def bC:Ev->Option Fl:=λε=>some (.nx ε)
def aC(g g':Ev->Option Fl):Ev->Option Fl:=λε=>(g ε).bind λr=>match r with | .nx ε'=>g' ε' | r=>some r
theorem aV:DSs X [] bC:=⟨_,nR,λHe Ge G H σ ε r W S e P=>by cases e;exact P σ G H S⟩
theorem aw(h:DS X st g):DSs X [st] g:=let⟨t,h1,h2⟩:=h;⟨_,kz h1,h2⟩
theorem aq(h:DS X st g)(hs:DSs X rest g'):DSs X (st::rest) (aC g g'):=by
 obtain⟨t,a1,a2⟩:=h;obtain⟨u,b1,b2⟩:=hs;refine⟨_,gY a1 b1,λHe Ge G H σ ε r W S e P=>?_⟩;obtain⟨r1,e1,e⟩:=ai e;refine a2 He Ge G H σ ε r1 _ S e1 ?_;cases r1 with
 |nx ε'=>exact λσ' G' H' S'=>b2 He Ge G' H' σ' ε' r W S' e P
 |rt d=>cases e;exact P
 |ro ds=>cases e;exact P
 |xc c fs=>cases e;exact P
 |bk ε'=>cases e;exact P
 |ct ε'=>cases e;exact P
theorem qf:DS X st (λ_=>none):=⟨_,w_,λHe Ge G H σ ε r W S e P=>by cases e⟩
theorem qW:DS X (.Continue pos) (λε=>some (.ct ε)):=⟨_,pZ,λHe Ge G H σ ε r W S e P=>by cases e;exact P σ G H S⟩
def sFz(i:Nat)(g:Ev->Option Fl):Ev->Option Fl:=λε=>g (fz1 i ε)
theorem gL(i:Nat)(h:DS X st g):DS X st (sFz i g):=let⟨t,h1,h2⟩:=h;⟨t,h1,λHe Ge G H σ ε r W S e P=>let⟨G',S'⟩:=S.freeze i;h2 He Ge G' H σ _ r W S' e P⟩
def bh(f:Ev->Option D):Ev->Option Fl:=λε=>(f ε).map Fl.rt
theorem a_{α β:Type}{o:Option α}{f:α->β}{y:β}(h:o.map f=some y):∃x,o=some x/\f x=y:=by
 cases o with
 |none=>cases h
 |some x=>exact⟨x,rfl,Option.some.inj h⟩
theorem aS(h:DE X a fa):DS X (.Return (some a) pos) (bh fa):=by
 obtain⟨t,a1,a2⟩:=h;refine⟨_,DX a1,λHe Ge G H σ ε r W S e P=>?_⟩;obtain⟨d,e1,rfl⟩:=a_ e;exact a2 He G H σ ε d _ S.g.gh S.e e1 λv G' H' g hd=>P v G' H' (S.g.trans g) hd
def GY(i:Nat):Ev->Option Fl:=λε=>match ε[i]? with | some (.own ds)=>some (.ro ds) | _=>none
def sIf(f:Ev->Option Bool)(g g':Ev->Option Fl):Ev->Option Fl:=λε=>(f ε).bind λk=>if k=true then g ε else g' ε
theorem bG{f:Ev->Option Bool}{s1 s2:List Stmt}(hc:DT X c f)(h1:DSs X s1 g)(h2:DSs X s2 g'):DS X (.If c s1 s2 pos) (sIf f g g'):=by
 obtain⟨t,c1,c2⟩:=hc;obtain⟨ta,a1,a2⟩:=h1;obtain⟨tb,b1,b2⟩:=h2;refine⟨_,wH c1 a1 b1,λHe Ge G H σ ε r W S e P=>?_⟩;obtain⟨k,e1,e⟩:=ai e;refine c2 He G H σ ε k _ S.g.gh S.e e1 λG1 H1 g1=>?_;cases k with
 |true=>
  rw[if_pos rfl] at e ⊢;exact a2 He Ge G1 H1 σ ε r W (S.grow g1) e P
 |false=>
  rw[if_neg Ql] at e ⊢;exact b2 He Ge G1 H1 σ ε r W (S.grow g1) e P
def a8(i:Nat)(f:Ev->Option D):Ev->Option Fl:=λε=>(f ε).map λd=>Fl.nx (ε.set i (.dat d))
theorem aY(i:Nat){x:Str}{pos':Pos}(hN:X.N.Nodup)(ha:DE X a fa)(hi:X.N[i]?=some x:=by rfl)(hx:Loc X.env.scope x:=by first | exact Or.inl rfl | exact Zj rfl)(hs:ZM a (some (.Name x pos')) pos.line X.env=pure false:=by rfl)
  (hf:X.fn x=true\/X.env.scope.names.lookup x=some .local:=by first | exact .inl rfl | exact .inr rfl):DS X (.Assign [.Name x pos'] a pos) (a8 i fa):=by
 obtain⟨t,a1,a2⟩:=ha;refine⟨_,lT hN hi hx a1 hs hf,λHe Ge G H σ ε r W S e P=>?_⟩;obtain⟨d,e1,rfl⟩:=a_ e;exact a2 He G H σ ε d _ S.g.gh S.e e1 λv G' H' g hd=>P _ G' H' ⟨S.g.trans g,(S.e.grow g).put hd⟩
def fj(i:Nat)(f:Ev->Option (List D)):Ev->Option Fl:=λε=>(f ε).map λd=>Fl.nx (ε.set i (.own d))
theorem eX(i:Nat){x:Str}{pos':Pos}{f:Ev->Option (List D)}(hN:X.N.Nodup)(ha:DF X a f)(hi:X.N[i]?=some x:=by rfl)(hx:Loc X.env.scope x:=by first | exact Or.inl rfl | exact Zj rfl)(hs:ZM a (some (.Name x pos')) pos.line X.env=pure false:=by rfl)
  (hf:X.fn x=true\/X.env.scope.names.lookup x=some .local:=by first | exact .inl rfl | exact .inr rfl):DS X (.Assign [.Name x pos'] a pos) (fj i f):=by
 obtain⟨t,a1,a2⟩:=ha;refine⟨_,lT hN hi hx a1 hs hf,λHe Ge G H σ ε r W S e P=>?_⟩;obtain⟨d,e1,rfl⟩:=a_ e;exact a2 He G H σ ε d _ S.g.gh S.e e1 λl xs G' H' g hn gn hl hd=>P _ G' H' ⟨S.g.trans g,S.e.putO g S.g.hh hn gn hl hd⟩
def dg(i:Nat)(f:Ev->Option D):Ev->Option Fl:=λε=>(f ε).bind λd=>match ε[i]? with
 |some (.own ds)=>if ds.length<1000000 then some (.nx (ε.set i (.own (ds++[d])))) else none
 |_=>none
theorem du(i:Nat){x:Str}{p1 p2:Pos}(ha:DE X a fa)(hN:X.N[i]?=some x:=by rfl)(hv:Vis X.env.scope x:=by first | exact Or.inl rfl | exact Zj (Or.inl rfl))(hd:(x==("__debug__" : Str))=false:=by decide)
  (hcd:(x==("__classdict__" : Str))=false:=by decide)
  (hbase:attributeBase (.Name x p1) "append" X.env (eval (.Name x p1) X.env)=eval (.Name x p1) X.env:=by rfl)
  (hfew:((JG pos (Qy [a] X.env)).all (λx=>!x.1)&&(backToKw pos (ZJ [] X.env)).all (λx=>x.1.isSome)
   && decide (([a]:List Expr).length+([]:List Keyword).length+(if([]:List Keyword).isEmpty then 0 else 1)<30))=true:=by rfl)
  (hline:(p2.endLine==pos.line)=true:=by rfl) (hs:Qy [a] X.env=(false,eval a X.env)::Qy [] X.env:=by rfl) (hplain:(JG pos (Qy [] X.env)).any (·.1)=false:=by rfl)
  (hsw:ZM (.Call (.Attribute (.Name x p1) "append" p2) [a] [] pos) none pos.line X.env=pure false:=by rfl) :
  DS X (.Expr (.Call (.Attribute (.Name x p1) "append" p2) [a] [] pos) pos) (dg i fa):=by
 obtain⟨t,a1,a2⟩:=ha;refine⟨_,tE (BR PySem.F.plainAttrs_list PySem.F.slot_list_append PySem.F.type_list_append jA (lP hN hv hd hcd) (bR a1 cR hs) hbase hfew hline hs hplain) hsw,λHe Ge G H σ ε r W S e P=>?_⟩;obtain⟨d,e1,e⟩:=ai e;split at e
 ·rename_i ds ei
  split at e
  ·rename_i hl
   cases e;obtain⟨l,xs,h1,h2,h3,h4,h5⟩:=S.e.own ei;refine⟨_,h1,.inl ⟨rfl,xs,SqL.of h2⟩,?_⟩;refine a2 He G H σ ε d _ S.g.gh S.e e1 λv G' H' g hd=>?_;have S':=S.grow g;obtain⟨l',xs',w1,w2,w3,w4,w5⟩:=S'.e.own ei;rw[h1] at w1;cases w1
   have hz:xs'.length<QO:=by
    rw[w5.length];exact Jw hl (by decide)
   exact⟨l,xs',v,rfl,rfl,w2,hz,P σ G' _ (S'.write ei h1 w2 (w5.append (.one hd)))⟩
  ·cases e
 ·cases e
def GX(i:Nat)(fk f:Ev->Option D):Ev->Option Fl:=λε=>(f ε).bind λd=>(fk ε).bind λk=>match ε[i]?,k with
 |some (.own ds),.int j=>(ixN ds.length j).map λm=>.nx (ε.set i (.own (ds.set m d)))
 |_,_=>none
def DG(X:Cx)(tg:Expr)(g:D->Ev->Option Ev):Prop:=∃t,PG X tg t/\∀(He G H:Hp) (σ:L2.St) (ε ε':Ev) (v:V) (d:D) (Q:L2.St->Hp->Prop),aI G H->EnvD X.K He G H σ ε->Den X.K G v d->g d ε=some ε'->
 (∀σ',EnvD X.K He G H σ' ε'->Q σ' H)->t v σ H Q
def DGs(X:Cx)(ts:List Expr)(g:List D->Ev->Option Ev):Prop:=∃t,PGs X ts t/\∀(He G H:Hp) (σ:L2.St) (ε ε':Ev) (vs:List V) (ds:List D) (Q:L2.St->Hp->Prop),aI G H->EnvD X.K He G H σ ε->DenL X.K G vs ds->g ds ε=some ε'->
 (∀σ',EnvD X.K He G H σ' ε'->Q σ' H)->t vs σ H Q
def ak(i:Nat):D->Ev->Option Ev:=λd ε=>some (ε.set i (.dat d))
theorem ax(i:Nat){x:Str}(hN:X.N.Nodup)(hi:X.N[i]?=some x:=by rfl)(hx:Loc X.env.scope x:=by first | exact Or.inl rfl | exact Zj rfl)(hf:X.fn x=true\/X.env.scope.names.lookup x=some .local:=by first | exact .inl rfl | exact .inr rfl):DG X (.Name x pos) (ak i):=
 ⟨_,t_ hN hi hx hf,λHe G H σ ε ε' v d Q gh E hd e q=>by cases e;exact q _ (E.put hd)⟩
def bI:List D->Ev->Option Ev:=λds ε=>match ds with | []=>some ε | _=>none
def aA(g:D->Ev->Option Ev)(g':List D->Ev->Option Ev):List D->Ev->Option Ev:=λds ε=>match ds with | d::r=>(g d ε).bind (g' r) | []=>none
theorem cG:DGs X [] bI:=⟨_,ux,λHe G H σ ε ε' vs ds Q gh E hd e q=>by
 cases hd with
 |nil=>cases e;exact⟨rfl,q _ E⟩
 |cons _ _=>cases e⟩
theorem aD{e:Expr}{es:List Expr}{g1:D->Ev->Option Ev}{g2:List D->Ev->Option Ev}(h1:DG X e g1)(h2:DGs X es g2)(hs:(Jm (e::es) X.env).map (·.2)=ZC e X.env::(Jm es X.env).map (·.2):=by rfl):DGs X (e::es) (aA g1 g2):=by
 obtain⟨t,a1,a2⟩:=h1;obtain⟨u,b1,b2⟩:=h2;refine⟨_,qa a1 b1 hs,λHe G H σ ε ε' vs ds Q gh E hd e q=>?_⟩;cases hd with
 |nil=>cases e
 |cons h3 h4=>
  obtain⟨ε1,e1,e⟩:=ai e;exact⟨_,_,rfl,a2 He G H σ ε ε1 _ _ _ gh E h3 e1 λσ1 E1=>b2 He G H σ1 ε1 ε' _ _ _ gh E1 h4 e q⟩
def g9(n:Nat)(g:List D->Ev->Option Ev):D->Ev->Option Ev:=λd ε=>match d with | .tup ds=>if ds.length=n then g ds ε else none | _=>none
theorem xx{es:List Expr}{k:Nat}{g:List D->Ev->Option Ev}{n:Nat}(hc:X.calm=true)(h:DGs X es g)(hn:(Jm es X.env).length=n:=by rfl)(hst:(Jm es X.env).findIdx? (·.1)=none:=by rfl):DG X (.Tuple es k pos) (g9 n g):=by
 obtain⟨t,a1,a2⟩:=h;refine⟨_,r8 hc a1 hn hst,λHe G H σ ε ε' v d Q gh E hd e q=>?_⟩;unfold g9 at e;split at e
 ·split at e
  ·rename_i hl
   obtain⟨p,xs,rfl,h1,h2⟩:=hd.tupV;exact⟨p,xs,rfl,aR gh h1,by rw[h2.length];exact hl,a2 He G H σ ε ε' _ _ _ gh E h2 e q⟩
  ·cases e
 ·cases e
def gS(f:Ev->Option D)(g:D->Ev->Option Ev):Ev->Option Fl:=λε=>(f ε).bind λd=>(g d ε).map Fl.nx
theorem dS{tg:Expr}{g:D->Ev->Option Ev}(he:DE X a fa)(hg:DG X tg g)(hs:swapsWithSole [tg] a pos.line X.env=pure false:=by rfl)(hw:swappedStores [tg] a X.env=pure none:=by rfl)
  (h1:(Jm [tg] X.env).map (·.2)=[ZC tg X.env]:=by rfl):DS X (.Assign [tg] a pos) (gS fa g):=by
 obtain⟨t,a1,a2⟩:=he;obtain⟨u,b1,b2⟩:=hg;refine⟨_,yp a1 b1 hs hw h1,λHe Ge G H σ ε r W S e P=>?_⟩;obtain⟨d,e1,e⟩:=ai e;obtain⟨ε',e2,rfl⟩:=a_ e;exact a2 He G H σ ε d _ S.g.gh S.e e1 λv G' H' g hd=>b2 He G' H' σ ε ε' v d _ g.gh (S.e.grow g) hd e2 λσ' E'=>P σ' G' H' ⟨S.g.trans g,E'⟩
def ItD(K:Qe)(J:It)(ds:List D)(G:Hp):Prop:=∀(i:Nat) (H2:Hp),aI G H2->(i<ds.length->J.go i H2)/\(ds.length<=i->J.stop i H2)/\
 ∀x H3,J.yld i H2 x H3->∀d,ds[i]?=some d->∀G2,aI G G2->aI G2 H2->∃G3,Grow G2 H2 G3 H3/\Den K G3 x d
def DI(X:Cx)(tg iter:Expr)(f:Ev->Option (List D)):Prop:=∃wi,PI X tg iter wi/\∀(He G H:Hp) (σ:L2.St) (ε:Ev) (ds:List D) (R:It->Hp->Prop),aI G H->EnvD X.K He G H σ ε->f ε=some ds->
 (∀J G' H',Grow G H G' H'->ItD X.K J ds G'->R J H')->wi σ H R
def cV(f:Ev->Option D):Ev->Option (List D):=λε=>match f ε with | some (.lst ds)=>some ds | _=>none
theorem ck{tg:Expr}(h:DE X a fa):DI X tg a (cV fa):=by
 obtain⟨t,a1,a2⟩:=h;refine⟨_,Ad a1,λHe G H σ ε ds R gh E ef q=>?_⟩;unfold cV at ef;split at ef
 ·rename_i e1
  cases ef;refine a2 He G H σ ε _ _ gh E e1 λv G1 H1 g1 d1=>?_;obtain⟨p,xs,rfl,h1,h2⟩:=d1.lstV;refine⟨p,rfl,⟨xs,g1.gh.seq h1⟩,q _ G1 H1 g1 λi H2 s2=>⟨λhi=>?_,λhi=>⟨xs,s2.seq h1,by rw[h2.length];exact hi⟩,?_⟩⟩
  ·have hi':i<xs.length:=by rw[h2.length];exact hi
   exact⟨xs,xs[i],s2.seq h1,by simp[hi']⟩
  ·rintro x H3 ⟨rfl,y⟩ d ed G2 s3 s4
   obtain⟨x',e3,e4⟩:=h2.get ed;have:=y xs (s2.seq h1);rw[e3] at this;cases this;exact⟨G2,.refl s4,e4.mono s3⟩
 ·cases ef
def sW(f:Ev->Option D):Ev->Option (List D):=λε=>match f ε with | some (.tup ds)=>some ds | _=>none
theorem ym{tg:Expr}(h:DE X a fa):DI X tg a (sW fa):=by
 obtain⟨t,a1,a2⟩:=h;refine⟨_,Dw a1,λHe G H σ ε ds R gh E ef q=>?_⟩;unfold sW at ef;split at ef
 ·rename_i e1
  cases ef;refine a2 He G H σ ε _ _ gh E e1 λv G1 H1 g1 d1=>?_;obtain⟨p,xs,rfl,h1,h2⟩:=d1.tupV;refine⟨p,rfl,⟨xs,aR g1.gh h1⟩,q _ G1 H1 g1 λi H2 s2=>⟨λhi=>?_,λhi=>⟨xs,aR s2 h1,by rw[h2.length];exact hi⟩,?_⟩⟩
  ·have hi':i<xs.length:=by rw[h2.length];exact hi
   exact⟨xs,xs[i],aR s2 h1,by simp[hi']⟩
  ·rintro x H3 ⟨rfl,y⟩ d ed G2 s3 s4
   obtain⟨x',e3,e4⟩:=h2.get ed;have:=y xs (aR s2 h1);rw[e3] at this;cases this;exact⟨G2,.refl s4,e4.mono s3⟩
 ·cases ef
def da(n:Nat):List D:=(QE n).map λi=>.int (i:Nat)
def cy(f:Ev->Option D):Ev->Option (List D):=λε=>match f ε with | some (.int j)=>if j<1000000/\-1000000<j then some (da j.toNat) else none | _=>none
theorem b8{tg:Expr}{p:Pos}(h:DE X a fa)(hm:X.mg "range" = none)(hg:Gl X "range":=by rfl)(hs:Qy [a] X.env=[(false,eval a X.env)]:=by rfl):DI X tg (.Call (.Name "range" p) [a] [] pos) (cy fa):=by
 obtain⟨t,a1,a2⟩:=h;refine⟨_,we hg hm (bR a1 cR hs) hs,λHe G H σ ε ds R gh E ef q=>?_⟩;unfold cy at ef;split at ef
 ·rename_i j e1
  split at ef
  ·rename_i hj
   cases ef;refine a2 He G H σ ε _ _ gh E e1 λv G1 H1 g1 d1=>?_;refine⟨j,by rw[d1.intV],by lia,by lia,q _ G1 H1 g1 λi H2 s2=>⟨λhi=>?_,λhi=>?_,?_⟩⟩
   ·show i<j.toNat
    simpa[da] using hi
   ·show j.toNat<=i
    simpa[da] using hi
   ·rintro x H3 ⟨rfl,rfl⟩ d ed G2 s3 s4
    refine⟨G2,.refl s4,?_⟩;unfold da at ed;rw[Qx] at ed;obtain⟨m,em,rfl⟩:=a_ ed;obtain⟨hm,em⟩:=Qk.mp em;rw[Kf] at em;subst em;rw[Int.zero_add];exact .int _
  ·cases ef
 ·cases ef
def cO(g:D->Ev->Option Ev)(gb:Ev->Option Fl):List D->Ev->Option Fl
 |[],ε=>some (.nx ε)
 |d::ds,ε=>(g d ε).bind λε1=>(gb ε1).bind λr=>match r with
  |.nx ε2=>cO g gb ds ε2
  |.ct ε2=>cO g gb ds ε2
  |.bk ε2=>some (.nx ε2)
  |.rt v=>some (.rt v)
  |.ro v=>some (.ro v)
  |.xc c v=>some (.xc c v)
def cJ(f:Ev->Option (List D))(g:D->Ev->Option Ev)(gb:Ev->Option Fl):Ev->Option Fl:=λε=>(f ε).bind λds=>cO g gb ds ε
theorem b6{tg iter:Expr}{body:List Stmt}{f:Ev->Option (List D)}{g:D->Ev->Option Ev}{gb:Ev->Option Fl}(hp:PassesOwn (Qo X.prog X.w) X.A X.env X.xe)(hc:X.calm=true)(hi:DI X tg iter f)(hg:DG X tg g)(hb:DSs X body gb)
  (hs:∀x,Je iter X.env x=pure x:=by intro _;rfl):DS X (.For tg iter body [] pos) (cJ f g gb):=by
 obtain⟨wi,i1,i2⟩:=hi;obtain⟨tg',g1,g2⟩:=hg;obtain⟨tb,b1,b2⟩:=hb;refine⟨_,rQ hp hc i1 g1 b1 hs,λHe Ge G H σ ε r W S e P=>?_⟩;obtain⟨ds,e1,e⟩:=ai e;refine i2 He G H σ ε ds _ S.g.gh S.e e1 λJ G1 H1 gr it=>?_;have S1:=S.grow gr;refine⟨λi m σ H=>m=ds.length-i/\i<=ds.length/\∃G ε,Sta X.K He G1 G H σ ε/\cO g gb (ds.drop i) ε=some r,⟨ds.length,by simp,QN _,G1,ε,⟨S1.g.self,S1.e⟩,by simpa using e⟩,?_⟩;rintro i m σ2 H2 ⟨rfl,hi,G2,ε2,S2,e2⟩;obtain⟨go,stop,yld⟩:=it i H2 (S2.g.gg.trans S2.g.gh)
 by_cases hlt:i<ds.length
 ·refine .inr ⟨go hlt,λσ' H'=>i+1<=ds.length/\∃G ε,Sta X.K He G1 G H' σ' ε/\cO g gb (ds.drop (i+1)) ε=some r,λσ' H' ⟨q1,q2⟩=>⟨ds.length-(i+1),by lia,rfl,q1,q2⟩,λx H3 y=>?_⟩
  have ed:ds[i]?=some ds[i]:=by simp[hlt]
  obtain⟨G3,gr3,dx⟩:=yld x H3 y _ ed G2 S2.g.gg S2.g.gh;have S3:=S2.grow gr3;rw[Q9 hlt] at e2;obtain⟨ε3,e3,e2⟩:=ai e2;obtain⟨r4,e4,e2⟩:=ai e2;refine g2 He G3 H3 σ2 ε2 ε3 x ds[i] _ S3.g.gh S3.e dx e3 λσ4 E4=>?_;refine b2 He G1 G3 H3 σ4 ε3 r4 _ ⟨S3.g,E4⟩ e4 ?_;cases r4 with
  |nx ε5=>exact λσ5 G5 H5 S5=>⟨hlt,G5,ε5,S5,e2⟩
  |ct ε5=>exact λσ5 G5 H5 S5=>⟨hlt,G5,ε5,S5,e2⟩
  |bk ε5=>cases e2;exact λσ5 G5 H5 S5=>P σ5 G5 H5 ⟨S1.g.base S5.g,S5.e⟩
  |rt d=>cases e2;exact λv G5 H5 g5 d5=>P v G5 H5 (S1.g.base g5) d5
  |ro ds=>cases e2;exact λa xs G5 H5 g5 n1 n2 h5 d5=>P a xs G5 H5 (S1.g.base g5) n1 n2 h5 d5
  |xc c fs=>cases e2;exact λpins σ5 G5 H5 s5 a dx cls I5 g5 x5 m5 d5=>P pins σ5 G5 H5 s5 a dx cls I5 (S1.g.base g5) x5 m5 d5
 ·have e5:i=ds.length:=by lia
  subst e5;rw[JA] at e2;cases e2;exact .inl ⟨stop (Qf _),P σ2 G2 H2 ⟨S1.g.base S2.g,S2.e⟩⟩
end
theorem jg{K:Qe}{H:Hp}{vs:List V}{ds:List D}{N:List Str}{i:Nat}{s:Sl}(e:(gw N ds)[i]?=some s):(∃d,s=.dat d/\ds[i]?=some d)\/s=.un:=by
 unfold gw at e
 by_cases h:i<ds.length
 ·rw[QT (by simpa using h),Qx] at e
  obtain⟨d,e1,rfl⟩:=a_ e;exact .inl ⟨d,rfl,e1⟩
 ·rw[QH (by simpa using h),Zb] at e
  split at e
  ·cases e;exact .inr rfl
  ·cases e
theorem jz{K:Qe}{G H:Hp}{vs:List V}{ds:List D}{N:List Str}(gh:aI G H)(h:DenL K G vs ds):Sta K H G G H (L2.start N vs) (gw N ds):=by
 refine⟨.refl gh,?_,λ{i d} e=>?_,λ{i d} e=>?_,λ{i j ds' es a} e _ _ _=>?_,λ{i d} e=>?_,λ{i j ds' es a} e _ _ _=>?_⟩
 ·unfold L2.start gw
  simp[h.length]
 ·rcases jg (K:=K) (H:=H) (vs:=vs) e with⟨d',e1,e2⟩ | e1
  ·cases e1
   obtain⟨v,h1,h2⟩:=h.get e2;refine⟨v,?_,h2⟩;unfold L2.start;have hl:i<vs.length:=(Qk.mp h1).1;rw[QT (by simpa using hl),Qx,h1];rfl
  ·cases e1
 ·rcases jg (K:=K) (H:=H) (vs:=vs) e with⟨d',e1,e2⟩ | e1<;>cases e1
 ·rcases jg (K:=K) (H:=H) (vs:=vs) e with⟨d',e1,e2⟩ | e1<;>cases e1
 ·rcases jg (K:=K) (H:=H) (vs:=vs) e with⟨d',e1,e2⟩ | e1<;>cases e1
 ·rcases jg (K:=K) (H:=H) (vs:=vs) e with⟨d',e1,e2⟩ | e1<;>cases e1
section
variable{P:QJ}{w:QL}{K:Qe}{mg:Str->Option Qb}{base:Heap}
theorem DK{x qual:Str}{st:Stmt}{f:Addr}{fd:J8}{N ps:List Str}{k:Nat}{F:List D->Option D}(g:Ev->Option Fl)(Fu:Fun K x qual st f fd)(S:FnScope N ps (bj st))(hlen:∀ds d,F ds=some d->ds.length=ps.length)
  (hg:∀ds d,F ds=some d->g (gw N ds)=some (.rt d)\/(∃ε,g (gw N ds)=some (.nx ε)/\d=.non)\/∃rs,g (gw N ds)=some (.ro rs)/\d=.lst rs)
  (hb:∀(cdv:Qb) (A:QU) (outer:List Env) (s:Qc) (H:Hp) (E:XK),Room k (A.deeper (envOfC qual (bj st) s.heap.objs.size f cdv))->DSs (oU CX0 P w K mg base N qual (bj st) f cdv A outer s H E).nox (cN st) g):FnOk P w K mg base CX0 (k+1) f fd ps (spF K F):=by
 refine Fu.ok S (λvs H Q E h=>?_) (λcdv A outer s H vs Q E hr h=>?_)
 ·obtain⟨G,ds,d,gh,hd,e,q⟩:=h
  rw[hd.length];exact hlen ds d e
 ·obtain⟨G,ds,d,gh,hd,e,q⟩:=h
  obtain⟨t,h1,h2⟩:=hb cdv A outer s H E hr;refine⟨t,h1,?_⟩;rcases hg ds d e with e1 | ⟨ε,e1,rfl⟩ | ⟨rs,e1,rfl⟩
  ·exact h2 H G G H _ _ _ _ (jz gh hd) e1 λv G' H' g hd=>q v G' H' g hd
  ·exact h2 H G G H _ _ _ _ (jz gh hd) e1 λσ G' H' S'=>q _ G' H' S'.g .non
  ·exact h2 H G G H _ _ _ _ (jz gh hd) e1 λa xs G' H' g n1 n2 h3 d3=>q _ _ H' (g.seal n1 n2 h3) (yS n2 d3)
end
def fnD(N ps:List Str)(g:Ev->Option Fl):List D->Option D:=λds=>if ds.length=ps.length then(match g (gw N ds) with | some (.rt d)=>some d | some (.nx _)=>some .non | some (.ro rs)=>some (.lst rs) | _=>none) else none
section
variable{P:QJ}{w:QL}{K:Qe}{mg:Str->Option Qb}{base:Heap}
theorem AW{x qual:Str}{st:Stmt}{f:Addr}{fd:J8}{N ps:List Str}{k:Nat}{g:Ev->Option Fl}(Fu:Fun K x qual st f fd)(S:FnScope N ps (bj st))
  (hb:∀(cdv:Qb) (A:QU) (outer:List Env) (s:Qc) (H:Hp) (E:XK),Room k (A.deeper (envOfC qual (bj st) s.heap.objs.size f cdv))->DSs (oU CX0 P w K mg base N qual (bj st) f cdv A outer s H E).nox (cN st) g):FnOk P w K mg base CX0 (k+1) f fd ps (spF K (fnD N ps g)):=by
 refine DK g Fu S (λds d e=>?_) (λds d e=>?_) hb
 ·unfold fnD at e
  split at e
  ·assumption
  ·cases e
 ·unfold fnD at e
  split at e
  ·split at e
   ·rename_i d' e1;cases e;exact .inl e1
   ·rename_i ε e1;cases e;exact .inr (.inl ⟨ε,e1,rfl⟩)
   ·rename_i rs e1;cases e;exact .inr (.inr ⟨rs,e1,rfl⟩)
   ·cases e
  ·cases e
structure FA(K:Qe)(mg:Str->Option Qb)(x:Str)(st:Stmt)(ps:List Str)(f:Addr)(fd:J8):Prop where
 fu:Fun K x x st f fd
 bi:k7 K fd ps []
 mgf:mg x=some (.ref f)
theorem FE{h:Heap}{x:Str}{st:Stmt}{ps:List Str}{f:Addr}{oc:Qb}{od an:Option Addr}{osl:Array (Option Qb)}{kV doc pm cdv ct:Qb}(X:K.In h)(G:h.Ns Q5 mg)
  (a:JQ K Q5 x=some (some (.ref f)))
  (l:K.lookup f=some ⟨oc,od,.func (Zh x x (eA st) (cN st) (bj st) .none kV doc pm an cdv ct),osl⟩)
  (c:PySem.W.codeIn K cdv x=true) (k:Ko K (.ref f)=true)
  (hb:∀(kV doc pm:Qb) (an:Option Addr) (cdv ct:Qb) (us:List Qb),us.length=ps.length->bindArgs (Zh x x (eA st) (cN st) (bj st) .none kV doc pm an cdv ct) ⟨us,[]⟩=pure (ps.zip us)) :
  FA K mg x st ps f (Zh x x (eA st) (cN st) (bj st) .none kV doc pm an cdv ct):=
 ⟨yi l c k,(yi l c k).binds hb,PySem.W.mg_of X G a⟩
end
section
variable{X:Cx}{a b c:Expr}{fa fb fc:Ev->Option D}{pos:Pos}
theorem xC{k j:Nat}{f:Addr}{fd:J8}{st:Stmt}{ps:List Str}{Fn:List D->Option D}{x:Str}{e:Expr}{es:List Expr}{g:Ev->Option (List D)}{p:Pos}
  (A:FA X.K X.mg x st ps f fd) (F:FnOk X.prog X.w X.K X.mg X.base CX0 j f fd ps (spF X.K Fn)) (hr:Room k X.A) (hj:j<=k)
  (ha:DA X (e::es) g) (hg:Gl X x:=by rfl) (hdb:(x==("__debug__" : Str))=false:=by decide) (he:Qy (e::es) X.env=(false,eval e X.env)::Qy es X.env:=by rfl) (hpl:(JG pos (Qy es X.env)).any (·.1)=false:=by rfl) :
  DE X (.Call (.Name x p) (e::es) [] pos) (aK Fn g):=zW F (hr.mono hj) A.mgf A.fu.kp A.bi ha hg hdb he hpl
def eCh(f f':D->D->Option D)(fa fb fc:Ev->Option D):Ev->Option D:=λε=>(fa ε).bind λx=>(fb ε).bind λy=>(f x y).bind λz=>match z with | .bl k=>if k=true then(fc ε).bind λw=>f' y w else some (.bl false) | _=>none
theorem xU{op op':CmpOp}{f f':D->D->Option D}(ho:OpD X (QX op) f)(ho':OpD X (QX op') f')(ha:DB X a fa)(hb:DB X b fb)(hc:DB X c fc)(hm:lastMarks [op,op'] [b,c]=false:=by with_unfolding_all rfl) :
  DE X (.Compare a [op,op'] [b,c] pos) (eCh f f' fa fb fc):=by
 obtain⟨r,o1,o2⟩:=ho;obtain⟨r',p1,p2⟩:=ho';obtain⟨ta,a1,a2⟩:=ha;obtain⟨tb,b1,b2⟩:=hb;obtain⟨tc,c1,c2⟩:=hc;refine⟨_,xG o1 p1 a1 b1 c1 hm,λHe G H σ ε d Q gh E ef q=>?_⟩;obtain⟨x,e1,ef⟩:=ai ef;obtain⟨y,e2,ef⟩:=ai ef;obtain⟨z,e3,ef⟩:=ai ef;refine a2 He G H σ ε x _ gh E e1 λv G1 H1 g1 d1=>?_;refine b2 He G1 H1 σ ε y _ g1.gh (E.grow g1) e2 λu G2 H2 g2 d2=>?_;split at ef
 ·rename_i k
  refine o2 G2 H2 v u x y (.bl k) _ g2.gh (d1.grow g2) d2 e3 λw G3 H3 g3 d3=>⟨k,d3.blV,?_⟩;cases k with
  |true=>
   rw[if_pos rfl] at ef ⊢;obtain⟨w',e4,ef⟩:=ai ef;refine c2 He G3 H3 σ ε w' _ g3.gh (((E.grow g1).grow g2).grow g3) e4 λv4 G4 H4 g4 d4=>?_;exact p2 G4 H4 u v4 y w' d Q g4.gh ((d2.grow g3).grow g4) d4 ef λv5 G5 H5 g5 d5=>q v5 G5 H5 (g1.trans (g2.trans (g3.trans (g4.trans g5)))) d5
  |false=>
   rw[if_neg Ql] at ef ⊢;cases ef;exact q _ _ _ (g1.trans (g2.trans g3)) (.bl _)
 ·cases ef
end
theorem ow(K:Qe)(G:Hp):∀ns:List Int,DenL K G (ns.map V.int) (ns.map D.int)
 |[]=>.nil
 |n::r=>.cons (.int n) (ow K G r)
def cxC(X:Cx)(sc:Scope)(cl:List (Str×Addr))(N':List Str)(C:Addr)(s₃:Qc)(H₃:Hp)(fp:List Addr)(pins:List (Addr×Obj)):Cx where
 prog:=X.prog
 w:=X.w
 K:=X.K
 mg:=X.mg
 base:=X.base
 A:=X.A
 N:=N'
 s₀:=s₃
 H₀:=H₃
 env:=compEnvC sc cl C X.env
 outer:=X.stack
 stack:=X.stack
 ex:=fp
 fn:=λ_=>false
 calm:=true
 pn:=X.pn++pins
 xe:=λ_ _=>False
structure CompSc(X:Cx)(sc:Scope)(cl:List (Str×Addr))(tn fr:List Str)(ix:List Nat):Prop where
 kind:sc.kind=.function
 nocell:∀y∈sc.names,y.2≠.cell
 names:∀y∈sc.names,y.2=.local->sc.names.lookup y.1=some .local
 clos:closureFor sc X.env=pure cl
 len:ix.length=fr.length
 at_:∀(k:Nat) (x:Str),fr[k]?=some x->∃j,ix[k]?=some j/\X.N[j]?=some x/\X.env.scope.names.lookup x=some .cell
 sub:∀x c,cl.lookup x=some c->X.env.cells.lookup x=some c
 has:∀x,((relabel sc X.env).names.lookup x=some .cell\/(relabel sc X.env).names.lookup x=some .free)->∃c,cl.lookup x=some c
 frc:∀x∈fr,(relabel sc X.env).names.lookup x=some .cell
def prS(n:Nat)(ix:List Nat)(σ:L2.St):L2.St:=List.replicate n none++ix.map λi=>σ.getD i none
def GF:Sl->Sl
 |.dat d=>.dat d
 |_=>.un
def prE(n:Nat)(ix:List Nat)(ε:Ev):Ev:=List.replicate n Sl.un++ix.map λi=>GF (ε.getD i .un)
theorem qF{X:Cx}{sc:Scope}{cl:List (Str×Addr)}{tn fr:List Str}{ix:List Nat}{pins:List (Addr×Obj)}{σ:L2.St}{H₃:Hp}{s₃:Qc}{fp:List Addr}{h₁:Heap}{tk:Nat}{m:Str->Option Qb}
  (S:CompSc X sc cl tn fr ix) (hc:X.calm=true) (I:Inv X pins σ H₃ s₃) (hf:∀b∈fp,jj X pins H₃ b) (hlt:∀b∈fp,b<s₃.heap.objs.size) (hn:h₁.Ns s₃.heap.objs.size m) (hk:∀b o,s₃.heap.get? b=some o->h₁.get? b=some o) :
  Inv (cxC X sc cl (tn++fr) s₃.heap.objs.size s₃ H₃ fp pins) [] (prS tn.length ix σ) H₃ { s₃ with heap:=h₁,toks:=tk }:=by
 have ncell:∀{x:Str} {c:Addr},X.env.cells.lookup x=some c->c<s₃.heap.objs.size:=λ{x c} e=>let⟨v,q⟩:=I.cell x c e;q.lt
 have hfs:∀b,b∈frs X.stack->b<s₃.heap.objs.size:=λb hb=>by
  rcases Qn.mp (I.stkSub b hb) with z | z
  ·rw[z];exact I.lt
  ·exact Nat.lt_of_not_le λq=>I.nofs q z
 refine⟨⟨I.ok.mod,?_,I.ok.glob,I.ok.blt,Qf _,?_,?_,?_,?_,I.ok.frames,.inl rfl,?_,?_,?_,?_,?_,?_,?_⟩,rfl,I.bare,Un.kept hk,⟨m,hn,?_⟩,?_,?_,?_,?_,I.hok.kept hk,?_⟩
 ·exact S.kind
 ·intro x y c h1 h2;exact I.ok.inj x y c (S.sub x c h1) (S.sub y c h2)
 ·intro x hx;exact S.has x hx
 ·intro x c h;cases h
 ·intro _;exact I.ok.hd hc
 ·intro b hb
  exact⟨QQ (hlt b hb),λx c e=>(hf b hb).2.2.2.2.1 x c (S.sub x c e)⟩
 ·exact I.bs
 ·exact Q4 I.ok.bsz I.sz
 ·intro b o e hb
  rcases(hf b hb).2.2.2.1 with z | z
  ·exact I.ok.noex b o e z
  ·exact absurd (QS (Qz e) (Q4 I.ok.bsz z)) (Ja _)
 ·intro b hb z
  rcases Qn.mp (I.stkSub b z) with q | q
  ·exact(hf b hb).2.1 q
  ·exact(hf b hb).2.2.1 q
 ·exact I.stack
 ·exact I.stkFree
 ·intro i x v h1 h2 hv
  have hi:tn.length<=i:=by
   refine Jj λq=>?_;unfold prS at h2;rw[QT (by simpa using q),Zb] at h2;split at h2<;>cases h2
  have h1':fr[i-tn.length]?=some x:=by
   have:(tn++fr)[i]?=some x:=h1;rwa [QH hi] at this
  obtain⟨j,e1,e2,e3⟩:=S.at_ _ x h1'
  have h2':σ[j]?=some (some v):=by
   unfold prS at h2;rw[QH (by simpa using hi),J4,Qx,e1] at h2;have h3:σ.getD j none=some v:=Option.some.inj h2;rw[Jl] at h3;cases q:σ[j]? with
   |none=>rw[q] at h3;cases h3
   |some o=>rw[q] at h3;exact congrArg some h3
  obtain⟨mm,hm,hl⟩:=I.loc;obtain⟨u,r,l⟩:=hl j x v e2 h2' (.inr (.inl e3));refine⟨u,r,.inr ⟨.inl (S.frc x (QZ h1')),?_⟩⟩;rcases l with⟨k1,_⟩ | ⟨_,c,k2,k3⟩
  ·have:X.env.kindOf x=some .cell:=e3
   rw[this] at k1;cases k1
  ·obtain⟨c',k4⟩:=S.has x (.inl (S.frc x (QZ h1')))
   have:=S.sub x c' k4;rw[k2] at this;cases this;exact⟨c,k4,k3.keeps hk⟩
 ·intro x c e
  obtain⟨v,q⟩:=I.cell x c (S.sub x c e);exact⟨v,q.keeps hk⟩
 ·exact I.hok.fresh (Qf _)
 ·intro x c e;exact I.freeC x c (S.sub x c e)
 ·intro p hp
  have hp':p∈X.pn++pins:=(QM.mp hp).elim (λin1=>in1) λin2=>by cases in2
  obtain⟨q1,q2,q3,q4,q5⟩:=I.pin p hp';refine⟨hk _ _ q1,q2,QQ (Qz q1),λz=>?_,q5⟩;rcases Qn.mp (I.stkSub _ z) with w | w
  ·exact q3 w
  ·exact q4 w
 ·unfold prS
  show _=(tn++fr).length;rw[Qr,Qr,J4,Qi,S.len]
theorem qK{K:Qe}{He G H:Hp}{σ:L2.St}{ε:Ev}(n:Nat)(ix:List Nat)(E:EnvD K He G H σ ε):EnvD K He G H (prS n ix σ) (prE n ix ε):=by
 have look:∀{i:Nat} {s:Sl},(prE n ix ε)[i]?=some s->s=.un\/∃j d,n<=i/\ix[i-n]?=some j/\ε[j]?=some (.dat d)/\s=.dat d:=λ{i s} e=>by
  unfold prE at e
  by_cases h:i<n
  ·rw[QT (by simpa using h),Zb,if_pos h] at e
   cases e;exact .inl rfl
  ·rw[QH (by simpa using h),J4,Qx] at e
   obtain⟨j,e1,rfl⟩:=a_ e;rw[show ε.getD j .un=(ε[j]?).getD .un from Jl];cases q:ε[j]? with
   |none=>exact .inl rfl
   |some sl=>
    cases sl with
    |un=>exact .inl rfl
    |own ds=>exact .inl rfl
    |odi ds=>exact .inl rfl
    |dat d=>exact .inr ⟨j,d,by lia,e1,q,rfl⟩
 refine⟨by simp[prS,prE],λ{i d} e=>?_,λ{i ds} e=>?_,λ{i j ds es a} e _ _ _=>?_,λ{i ds} e=>?_,λ{i j ds es a} e _ _ _=>?_⟩
 ·rcases look e with z | ⟨j,d',h1,h2,h3,h4⟩
  ·cases z
  ·cases h4
   obtain⟨v,w1,w2⟩:=E.dat h3;refine⟨v,?_,w2⟩;unfold prS;rw[QH (by simpa using h1),J4,Qx,h2];show some (σ.getD j none)=_;rw[Jl,w1];rfl
 ·rcases look e with z | ⟨j,d',h1,h2,h3,h4⟩
  ·cases z
  ·cases h4
 ·rcases look e with z | ⟨j,d',h1,h2,h3,h4⟩
  ·cases z
  ·cases h4
 ·rcases look e with z | ⟨j,d',h1,h2,h3,h4⟩
  ·cases z
  ·cases h4
 ·rcases look e with z | ⟨j,d',h1,h2,h3,h4⟩
  ·cases z
  ·cases h4
def NoO(ε:Ev):Prop:=∀(j:Nat) es,ε[j]?≠some (.own es)
def NoG(g:D->Ev->Option Ev):Prop:=∀d ε ε',g d ε=some ε'->NoO ε->NoO ε'
def z9(g:List D->Ev->Option Ev):Prop:=∀d ε ε',g d ε=some ε'->NoO ε->NoO ε'
theorem cD(i:Nat):NoG (ak i):=λd ε ε' e h j es q=>by
 cases e;rw[QB] at q;split at q
 ·split at q<;>cases q
 ·exact h j es q
theorem uc:z9 bI:=λd ε ε' e h=>by
 unfold bI at e;split at e
 ·cases e;exact h
 ·cases e
theorem fV{g1:D->Ev->Option Ev}{g2:List D->Ev->Option Ev}(h1:NoG g1)(h2:z9 g2):z9 (aA g1 g2):=λd ε ε' e h=>by
 unfold aA at e;split at e
 ·obtain⟨ε1,e1,e⟩:=ai e
  exact h2 _ _ _ e (h1 _ _ _ e1 h)
 ·cases e
theorem wY{n:Nat}{g:List D->Ev->Option Ev}(h:z9 g):NoG (g9 n g):=λd ε ε' e hn=>by
 unfold g9 at e;split at e
 ·split at e
  ·exact h _ _ _ e hn
  ·cases e
 ·cases e
theorem xq(n:Nat)(ix:List Nat)(ε:Ev):NoO (prE n ix ε):=λi es e=>by
 unfold prE at e
 by_cases h:i<n
 ·rw[QT (by simpa using h),Zb,if_pos h] at e
  cases e
 ·rw[QH (by simpa using h),J4,Qx] at e
  obtain⟨j,e1,e2⟩:=a_ e
  revert e2
  cases ε.getD j .un<;>intro z<;>cases z
def DIf(X:Cx)(ifs:List Expr)(f:Ev->Option Bool):Prop:=∃t:TT,(∀(pins:List (Addr×Obj)) (s:Qc) (σ:L2.St) (H:Hp) (Q:Bool->Hp->Prop),Inv X pins σ H s->t σ H Q->
  Qm (Qo X.prog X.w) X.A (forIn ifs true λc r=>if r=true then do let ok<-isTrue c X.env (eval c X.env);pure (ForInStep.yield ok) else pure (ForInStep.yield r)) (TP X pins σ Q) X.xe s)/\
 ∀(He G H:Hp) (σ:L2.St) (ε:Ev) (b:Bool) (Q:Bool->Hp->Prop),aI G H->EnvD X.K He G H σ ε->f ε=some b->(∀G' H',Grow G H G' H'->Q b H')->t σ H Q
def lr:Ev->Option Bool:=λ_=>some true
theorem kD{X:Cx}:DIf X [] lr:=⟨λσ H Q=>Q true H,λpins s σ H Q I h=>wpAny_tests_nil ⟨H,I,h⟩,λHe G H σ ε b Q gh E e q=>by cases e;exact q G H (.refl gh)⟩
theorem kH{X:Cx}{c:Expr}{f:Ev->Option Bool}(h:DT X c f):DIf X [c] f:=by
 obtain⟨t,h1,h2⟩:=h;exact⟨t,λpins s σ H Q I hq=>wpAny_tests_one (h1 pins s σ H Q I hq),h2⟩
def lcD(g:D->Ev->Option Ev)(ft:Ev->Option Bool)(fe:Ev->Option D):List D->Ev->Option (List D)
 |[],_=>some []
 |d::ds,ε=>(g d ε).bind λε1=>(ft ε1).bind λk=>if k=true then(fe ε1).bind λv=>(lcD g ft fe ds ε1).bind λr=>some (v::r) else lcD g ft fe ds ε1
theorem ie{prog:QJ}{w:QL}{A:QU}{R:Result->Qc->Prop}{t0:Qc}{elt tg iter:Expr}{ifs:List Expr}{sc:Scope}{pos:Pos}{it acc:Qb}{ce:Env}(J:Nat->Qc->Prop)
  (step:∀k t,J k t->Qm (Qo prog w) A (pyNext it) (λo t1=>match o with | none=>R (.ok .next) t1 | some v=>Qm (Qo prog w) A (Zp tg it v) (λ_ t2=>Qm (Qo prog w) A (ZC tg ce v) (λ_ t3=>
   Qm (Qo prog w) A (forIn ifs true λc r=>if r=true then do let ok<-isTrue c ce (eval c ce);pure (ForInStep.yield ok) else pure (ForInStep.yield r)) (λyes t4=>if yes=true then Qm (Qo prog w) A (eval elt ce) (λx t5=>
    Qm (Qo prog w) A (call (.builtin "list.append") [acc,x]) (λ_ t6=>∃j,j<k/\J j t6) (λ_ _=>False) t5) (λ_ _=>False) t4 else ∃j,j<k/\J j t4) (λ_ _=>False) t3) (λ_ _=>False) t2) (λ_ _=>False) t1) (λ_ _=>False) t)
  (k0:Nat) (h0:J k0 t0):JO (Qo prog w) A (.compLoop (.ListComp elt [⟨tg,iter,ifs,0⟩] sc pos) 0 it acc ce) R t0:=by
 refine codeAny_loop rfl J (λk t hJ=>?_) k0 h0;show Qm _ A ((compTurn (.ListComp elt [⟨tg,iter,ifs,0⟩] sc pos) 0 it acc ce).onRaise (λx=>do noteFrame x ce;theTreesLotGoes x)) _ _ t;refine wpAny_noted ?_;rw[compTurn_list];refine Qa (JX (Qa (QV (step k t hJ) (λo t1 q1=>?_) λ_ _ z=>z.elim)));cases o with
 |none=>exact Qd q1
 |some v=>
  refine Qa (QV q1 (λ_ t2 q2=>Qa (QV q2 (λ_ t3 q3=>Qa (QV q3 (λyes t4 q4=>?_) λ_ _ z=>z.elim)) λ_ _ z=>z.elim)) λ_ _ z=>z.elim);cases yes with
  |true=>exact Qa (Qa (QV q4 (λx t5 q5=>Qa (QV q5 (λ_ t6 q6=>Qd (Qd ⟨rfl,q6⟩)) λ_ _ z=>z.elim)) λ_ _ z=>z.elim))
  |false=>exact Qd ⟨rfl,q4⟩
section
variable{X:Cx}{elt tg iter:Expr}{ifs:List Expr}{sc:Scope}{cl:List (Str×Addr)}{tn fr:List Str}{ix:List Nat}{pos:Pos}{fi:Ev->Option (List D)}{g:D->Ev->Option Ev}{ft:Ev->Option Bool}{fe:Ev->Option D}
def DEp(Nv:Hp->Hp->V->Prop)(X:Cx)(e:Expr)(f:Ev->Option D):Prop:=∃t,PE X e t/\∀(He G H:Hp) (σ:L2.St) (ε:Ev) (d:D) (Q:VK),aI G H->EnvD X.K He G H σ ε->f ε=some d->
 (∀v G' H',Grow G H G' H'->Den X.K G' v d->Nv H G' v->Q v H')->t σ H Q
theorem DE.p{X:Cx}{e:Expr}{f:Ev->Option D}(h:DE X e f):DEp (λ_ _ _=>True) X e f:=
 let⟨t,h1,h2⟩:=h;⟨t,h1,λHe G H σ ε d Q gh E ef q=>h2 He G H σ ε d Q gh E ef λv G' H' g hd=>q v G' H' g hd trivial⟩
def xE(Nl:Hp->Hp->List V->Prop)(X:Cx)(pins:List (Addr×Obj))(σ:L2.St)(G H:Hp)(ds:List D)(RR:Qb->Addr->Result->Qc->Prop):Prop:=
 ∀(a:Addr) (xs:List V) (G' H':Hp) (C:Addr) (oC:Obj) (m:Str->Option Qb) (s':Qc),Inv X (pins++[(C,oC)]) σ H' s'->s'.heap.Ns C m->X.s₀.heap.objs.size<=C->(∀p∈X.pn++pins,p.1≠C)->
  Grow G H G' H'->H a=none->G' a=none->H' a=some (.lst xs)->DenL X.K G' xs ds->Nl H G' xs->RR (.ref a) C (.ok .next) s'
variable{Nv:Hp->Hp->V->Prop}{Nl:Hp->Hp->List V->Prop}(n0:∀H G,Nl H G [])(nm:∀H G G' xs,aI G G'->Nl H G xs->Nl H G' xs)(ns:∀H H1 G G' xs v,aI H H1->aI G H1->aI G G'->Nl H G xs->Nv H1 G' v->Nl H G' (xs++[v]))
include n0 nm ns
theorem xS{pins:List (Addr×Obj)}{σ:L2.St}{H He G G1 H3:Hp}{s3:Qc}{ε:Ev}{ds rs:List D}{RR:Qb->Addr->Result->Qc->Prop}{it Dd:Addr}{fp:List Addr}{tn':Nat->Heap->Prop}{J:It}{h₁:Heap}{m:Str->Option Qb}{tk:Nat}
  (hc:X.calm=true) (S:CompSc X sc cl tn fr ix) (ng:NoG g)
  (hg:∀C s₃ H₃ fp pins,DG (cxC X sc cl (tn++fr) C s₃ H₃ fp pins) tg g) (ht:∀C s₃ H₃ fp pins,DIf (cxC X sc cl (tn++fr) C s₃ H₃ fp pins) ifs ft) (he:∀C s₃ H₃ fp pins,DEp Nv (cxC X sc cl (tn++fr) C s₃ H₃ fp pins) elt fe)
  (I3:Inv X pins σ H3 s3) (E:EnvD X.K He G H σ ε) (hz:ds.length<1000000) (er:lcD g ft fe ds (prE tn.length ix ε)=some rs) (after:xE Nl X pins σ G H rs RR)
  (T:Turn X.prog X.w X.K tg J fp it tn') (itd:ItD X.K J ds G1) (f3:∀b∈fp,jj X pins H3 b) (lt3:∀b∈fp,b<s3.heap.objs.size) (st3:tn' 0 s3.heap) (gr3:Grow G H G1 H3)
  (eD:H3 Dd=some (.lst [])) (nD:H Dd=none) (gD:G1 Dd=none) (hn:h₁.Ns s3.heap.objs.size m) (hk:∀b o,s3.heap.get? b=some o->h₁.get? b=some o) :
  JO (Qo X.prog X.w) X.A (.compStart (.ListComp elt [⟨tg,iter,ifs,0⟩] sc pos) 0 (.ref it) (.ref Dd) (compEnvC sc cl s3.heap.objs.size X.env)) (RR (.ref Dd) s3.heap.objs.size) { s3 with heap:=h₁,toks:=tk }:=by
 have I4:=qF (tk:=tk) S hc I3 f3 lt3 hn hk;have st4:tn' 0 h₁:=T.keep _ _ _ st3 λb hb o e=>hk b o e;obtain⟨tgt,g1,g2⟩:=hg s3.heap.objs.size s3 H3 fp pins;obtain⟨tt,t1,t2⟩:=ht s3.heap.objs.size s3 H3 fp pins;obtain⟨te,e1,e2⟩:=he s3.heap.objs.size s3 H3 fp pins
 have stat:∀{H':Hp},(∀b∈fp,H' b=none)->∀b∈fp,jj (cxC X sc cl (tn++fr) s3.heap.objs.size s3 H3 fp pins) [] H' b:=λ{H'} hn b hb=>by
  obtain⟨_,q1,q2,q3,q4,q5⟩:=f3 b hb;refine⟨hn b hb,QQ (lt3 b hb),λz=>?_,.inl hb,λx c e=>q4 x c (S.sub x c e),λp hp=>q5 p ?_⟩
  ·rcases Qn.mp (I3.stkSub b z) with w | w
   ·exact q1 w
   ·exact q2 w
  ·rcases QM.mp hp with w | w
   ·exact w
   ·cases w
 have loop:∀s':Qc,s'={ s3 with heap:=h₁,toks:=tk }->JO (Qo X.prog X.w) X.A (.compLoop (.ListComp elt [⟨tg,iter,ifs,0⟩] sc pos) 0 (.ref it) (.ref Dd) (compEnvC sc cl s3.heap.objs.size X.env)) (RR (.ref Dd) s3.heap.objs.size) s':=by
  rintro s' rfl
  refine ie (λn s'=>∃(i:Nat) (σ':L2.St) (G' H':Hp) (ε':Ev) (xs:List V) (dn rest:List D),n=ds.length+1-i/\i<=ds.length/\Inv (cxC X sc cl (tn++fr) s3.heap.objs.size s3 H3 fp pins) [] σ' H' s'/\tn' i s'.heap/\(∀b∈fp,H' b=none)/\
   Grow G H G' H'/\aI G1 G'/\EnvD X.K He G' H' σ' ε'/\NoO ε'/\H' Dd=some (.lst xs)/\G' Dd=none/\DenL X.K G' xs dn/\Nl H G' xs/\xs.length<=i/\lcD g ft fe (ds.drop i) ε'=some rest/\rs=dn++rest) ?_ (ds.length+1)
   ⟨0,_,G1,H3,_,[],[],rs,rfl,QN _,I4,st4,λb hb=>(f3 b hb).1,gr3,aI.refl _,qK tn.length ix (E.grow gr3),xq _ _ _,eD,gD,.nil,n0 _ _,Qf _,by simpa using er,rfl⟩
  rintro n s5 ⟨i,σ',G',H',ε',xs,dn,rest,rfl,hi,I5,st5,fr5,gr5,sG,E5,no5,hD,hGD,hden,hNv,hxl,el,ers⟩;obtain⟨go,stop,yld⟩:=itd i H' (sG.trans gr5.gh)
  by_cases hlt:i<ds.length
  ·refine thn (T.item (cxC X sc cl (tn++fr) s3.heap.objs.size s3 H3 fp pins) rfl rfl rfl rfl i [] s5 σ' H' (λ_ _=>False) I5 (stat fr5) st5 (go hlt)) λr s6 ⟨u,hr,h6⟩=>?_
   subst hr;refine thn h6 λ_ s7 ⟨x,H7,I7,r7,y7,st7,fr7⟩=>?_;have I7':=I7.pinned (stat fr7) (T.obj _ _ st7);have ed:ds[i]?=some ds[i]:=by simp[hlt]
   obtain⟨G7,gr7,dx⟩:=yld x H7 y7 _ ed G' sG gr5.gh;rw[Q9 hlt] at el;obtain⟨ε8,e8,el⟩:=ai el;obtain⟨k,e9,el⟩:=ai el;refine thn (g1 _ s7 σ' H7 x u (λσ8 H8=>H8=H7/\EnvD X.K He G7 H7 σ8 ε8) I7' r7 (g2 He G7 H7 σ' ε' ε8 x ds[i] _ gr7.gh (E5.grow gr7) dx e8 λσ8 E8=>⟨rfl,E8⟩)) λ_ s8 ⟨σ8,H8,I8,e10,E8⟩=>?_;subst e10;refine thn (t1 _ s8 σ8 H8 (λb H9=>b=k/\∃G9,Grow G7 H8 G9 H9) I8 (t2 He G7 H8 σ8 ε8 k _ gr7.gh E8 e9 λG9 H9 gr9=>⟨rfl,G9,gr9⟩)) λok s9 ⟨H9,I9,ek,G9,gr9⟩=>?_;subst ek
   have again:∀{s10:Qc} {G10 H10:Hp} {ys:List V} {dn' rest':List D},Inv (cxC X sc cl (tn++fr) s3.heap.objs.size s3 H3 fp pins) ([]++jF fp s7.heap) σ8 H10 s10->Grow G H G10 H10->aI G1 G10->EnvD X.K He G10 H10 σ8 ε8->H10 Dd=some (.lst ys)->G10 Dd=none->DenL X.K G10 ys dn'->Nl H G10 ys->ys.length<=i+1->
     lcD g ft fe (ds.drop (i+1)) ε8=some rest'->rs=dn'++rest'->∃m,m<ds.length+1-i/\∃(i:Nat) (σ':L2.St) (G' H':Hp) (ε':Ev) (xs:List V) (dn rest:List D),m=ds.length+1-i/\i<=ds.length/\Inv (cxC X sc cl (tn++fr) s3.heap.objs.size s3 H3 fp pins) [] σ' H' s10/\tn' i s10.heap/\(∀b∈fp,H' b=none)/\
   Grow G H G' H'/\aI G1 G'/\EnvD X.K He G' H' σ' ε'/\NoO ε'/\H' Dd=some (.lst xs)/\G' Dd=none/\DenL X.K G' xs dn/\Nl H G' xs/\xs.length<=i/\lcD g ft fe (ds.drop i) ε'=some rest/\rs=dn++rest:=λ{s10 G10 H10 ys dn' rest'} I10 gr10 sG10 E10 hD10 hG10 den10 nv10 len10 el10 ers10=>by
    refine⟨ds.length+1-(i+1),by lia,i+1,σ8,G10,H10,ε8,ys,dn',rest',rfl,hlt,I10.unpinned,T.keep _ _ _ st7 λb hb o e=>(I10.pin (b,o) (QD _ (QD _ (cL hb e)))).1,λb hb=>?_,gr10,sG10,E10,ng _ _ _ e8 no5,hD10,hG10,den10,nv10,len10,el10,ers10⟩;obtain⟨o,e,d⟩:=T.obj _ _ st7 b hb;exact(I10.pin (b,o) (QD _ (QD _ (cL hb e)))).2.1
   have gr9':=gr5.trans (gr7.trans gr9);have sG9:aI G1 G9:=sG.trans (gr7.gg.trans gr9.gg);have hD9:H9 Dd=some (.lst xs):=gr9.hh _ _ (gr7.hh _ _ hD);have hG9:G9 Dd=none:=gr9.fo _ _ (gr7.hh _ _ hD) (gr7.fo _ _ hD hGD);cases ok with
   |false=>
    rw[if_neg Ql] at el;rw[if_neg Ql];exact again I9 gr9' sG9 (E8.grow gr9) hD9 hG9 (hden.mono (gr7.gg.trans gr9.gg)) (nm _ _ _ _ (gr7.gg.trans gr9.gg) hNv) (by lia) el ers
   |true=>
    rw[if_pos rfl] at el;rw[if_pos rfl];obtain⟨vd,e11,el⟩:=ai el;obtain⟨rest',e12,el⟩:=ai el;cases el;refine thn (e1 _ s9 σ8 H9 (λy H10=>∃G10,Grow G9 H9 G10 H10/\Den X.K G10 y vd/\Nv H9 G10 y) I9 (e2 He G9 H9 σ8 ε8 vd _ gr9.gh (E8.grow gr9) e11 λy G10 H10 gr10 dy ny=>⟨G10,gr10,dy,ny⟩)) λuv s10 ⟨y,H10,I10,r10,G10,gr10,dy,ny⟩=>?_;have hD10:=gr10.hh _ _ hD9;have hG10:=gr10.fo _ _ hD9 hG9;have hl:xs.length<QO:=ZO hxl (Jw (Jw hlt hz) (by decide));refine thn (jA _ s10 σ8 H10 (.ref Dd) [y] (.ref Dd) [uv] (λ_ H11=>H11=upd H10 Dd (.lst (xs++[y]))) I10 rfl (.cons r10 .nil) ⟨Dd,xs,y,rfl,rfl,hD10,hl,rfl⟩) λ_ s11 ⟨_,H11,I11,_,e13⟩=>?_;subst e13;have gr10':=gr9'.trans gr10;have keep:∀{b:Addr} {o:HO},b≠Dd->H10 b=some o->upd H10 Dd (.lst (xs++[y])) b=some o:=λ{b o} nb e=>by rw[aM nb];exact e
    refine again I11 ⟨λb o e=>keep (aE e nD) (gr10'.hh b o e),gr10'.gg,λb o e=>keep (aE e hG10) (gr10'.gh b o e),gr10'.fo⟩ (sG9.trans gr10.gg) ?_ aG hG10 (((hden.mono (gr7.gg.trans gr9.gg)).mono gr10.gg).append (.one dy)) (ns _ _ _ _ _ _ gr9'.hh gr9.gh gr10.gg (nm _ _ _ _ (gr7.gg.trans gr9.gg) hNv) ny) (by rw[Qr];simp;lia) e12 (by rw[ers];simp);have E10:=(E8.grow gr9).grow gr10
    exact⟨E10.len,E10.dat,λ{j es} e=>by
     obtain⟨b,zs,w1,w2,w3,w4,w5⟩:=E10.own e;exact(ng _ _ _ e8 no5 _ _ e).elim,E10.apart,λ{j es} e=>by
     obtain⟨b,zs,ep,w1,w2,w3,w4,w5,w6⟩:=E10.odi e
     exact⟨b,zs,ep,w1,keep (λq=>by subst q;rw[hD10] at w2;cases w2) w2,w3,w4,w5,w6⟩,E10.apartD⟩
  ·have e5:i=ds.length:=by lia
   subst e5;rw[JA] at el;cases el;refine thn (T.done (cxC X sc cl (tn++fr) s3.heap.objs.size s3 H3 fp pins) rfl rfl rfl rfl ds.length [] s5 σ' H' (λ_ _=>False) I5 (stat fr5) st5 (stop (Qf _))) λr s6 ⟨hr,I6⟩=>?_;subst hr;obtain⟨m6,⟨oC,es,ep,ho,hdt,hrest⟩,_⟩:=id I6.loc;have IX:Inv X pins σ H' s6:=I3.call' I6.os I6.base I6.hok I6.bare λb hb=>⟨(f3 b hb).2.2.2.1,(f3 b hb).2.1,(f3 b hb).2.2.2.2.1,(f3 b hb).2.2.2.2.2⟩;have pC:∀p∈X.pn++pins,p.1≠s3.heap.objs.size:=λp hp=>QQ (Qz (I3.pin p hp).1)
   have IX':Inv X (pins++[(s3.heap.objs.size,oC)]) σ H' s6:=IX.pins_of λp hp=>by
    rcases QM.mp hp with older | newer
    ·exact IX.pin p (QD _ older)
    ·rw[Qt.mp newer]
     exact⟨ho,I6.free,Ne.symm (QQ I3.lt),I3.nofs (Qf _),λv q=>by rw[hdt] at q;cases q⟩
   exact after Dd xs G' H' s3.heap.objs.size oC m6 s6 IX' ⟨oC,es,ep,ho,hdt,hrest⟩ I3.sz pC gr5 nD hGD hD (by rw[ers,Jp];exact hden) hNv
 exact codeAny_compStart_list (loop _ rfl) (T.self X.A 0 _ _ _ st4 (loop _ rfl))
theorem sZ{pins:List (Addr×Obj)}{σ:L2.St}{H He G:Hp}{s:Qc}{ε:Ev}{ds rs:List D}{RR:Qb->Addr->Result->Qc->Prop}(hc:X.calm=true)(hi:DI X tg iter fi)(S:CompSc X sc cl tn fr ix)(ng:NoG g)
  (hg:∀C s₃ H₃ fp pins,DG (cxC X sc cl (tn++fr) C s₃ H₃ fp pins) tg g) (ht:∀C s₃ H₃ fp pins,DIf (cxC X sc cl (tn++fr) C s₃ H₃ fp pins) ifs ft) (he:∀C s₃ H₃ fp pins,DEp Nv (cxC X sc cl (tn++fr) C s₃ H₃ fp pins) elt fe)
  (I:Inv X pins σ H s) (gh:aI G H) (E:EnvD X.K He G H σ ε) (ei:fi ε=some ds) (hz:ds.length<1000000) (er:lcD g ft fe ds (prE tn.length ix ε)=some rs) (after:xE Nl X pins σ G H rs RR) :
  Qm (Qo X.prog X.w) X.A (eval iter X.env) (λx s₁=>Qm (Qo X.prog X.w) X.A (pyIter x) (λit s₂=>Qm (Qo X.prog X.w) X.A (newList []) (λacc s₃=>
   Qm (Qo X.prog X.w) X.A (newFunctionEnv sc X.env.globals cl [] X.env.qual none .none (some X.env)) (λcenv s₄=>
    JO (Qo X.prog X.w) X.A (.compStart (.ListComp elt [⟨tg,iter,ifs,0⟩] sc pos) 0 it acc { cenv with scope:=relabel sc X.env }) (RR acc cenv.locals) s₄) X.xe s₃) X.xe s₂) X.xe s₁) X.xe s:=by
 obtain⟨wi,i1,i2⟩:=hi;refine thn (i1 pins s σ H (λJ H'=>∃G1,Grow G H G1 H'/\ItD X.K J ds G1) I (i2 He G H σ ε ds _ gh E ei λJ G' H' gr itd=>⟨G',gr,itd⟩)) λv s1 h1=>thn h1 λitv s2 h2=>?_;obtain⟨it,fp,tn',J,H2,rfl,I2,T,st2,f2,G1,gr,itd⟩:=h2;refine Jd (wpAny_newFunctionEnv S.nocell (by intro y hy;simp at hy) (λh₁ hns₁ hsb₁=>?_) S.kind);dsimp only at hns₁ hsb₁ ⊢;have fr2:H2 s2.heap.objs.size=none:=I2.hok.fresh (Qf _)
 have I3:Inv X pins σ (upd H2 s2.heap.objs.size (.lst [])) { s2 with heap:=s2.heap.push { cls:=.type "list",dict:=none,data:=.seq ([]:List Qb).toArray } }:=
  I2.laid (t':=s2.toks) (o:=.lst []) (λb ob q=>Qh _ q) (Qf _) ⟨QN _,[],0,.nil,QF _ rfl⟩
 have fpD:∀b∈fp,b≠s2.heap.objs.size:=λb hb z=>by
  obtain⟨o,e,_⟩:=T.obj 0 _ st2 b hb;exact absurd (Qz e) (by rw[z];exact Ja _)
 have f3:∀b∈fp,jj X pins (upd H2 s2.heap.objs.size (.lst [])) b:=λb hb=>⟨by rw[aM (fpD b hb)];exact(f2 b hb).1,(f2 b hb).2⟩
 have lt3:∀b∈fp,b<(s2.heap.push { cls:=.type "list",dict:=none,data:=.seq ([]:List Qb).toArray }).objs.size:=λb hb=>by
  obtain⟨o,e,_⟩:=T.obj 0 _ st2 b hb;rw[Kr];exact Nat.lt_succ_of_lt (Qz e)
 have st3:tn' 0 (s2.heap.push { cls:=.type "list",dict:=none,data:=.seq ([]:List Qb).toArray }):=T.keep _ _ _ st2 λb hb o e=>Qh _ e;have gr3:Grow G H G1 (upd H2 s2.heap.objs.size (.lst [])):=gr.trans (.lay _ gr.gh fr2);have nD:H s2.heap.objs.size=none:=gr.hh.free fr2;have gD:G1 s2.heap.objs.size=none:=gr.gh.free fr2;exact xS n0 nm ns (s3:={ s2 with heap:=s2.heap.push { cls:=.type "list",dict:=none,data:=.seq ([]:List Qb).toArray } }) hc S ng hg ht he I3 E hz er after T itd f3 lt3 st3 gr3 aG nD gD hns₁ λb o e=>hsb₁.extBut b o (QQ (Qz e)) (Qh _ e)
omit n0 nm ns
theorem oo{pins:List (Addr×Obj)}{σ:L2.St}{H':Hp}{s':Qc}{C:Addr}{oC:Obj}{h':Heap}(IX:Inv X (pins++[(C,oC)]) σ H' s')(hC:X.s₀.heap.objs.size<=C)(pC:∀p∈X.pn++pins,p.1≠C)(hs:Zn C s'.heap h') :
  Inv X pins σ H' { s' with heap:=h' }:=by
 obtain⟨q1,q2,q3,q4,q5⟩:=IX.pin (C,oC) (QD _ (QD _ (Qt.mpr rfl)));refine IX.unpinned.turned (t':=s'.toks) (it:=C) (λb o hb e=>hs.extBut b o hb e) q2 q3 (.inr hC) (λx c e z=>?_) pC;obtain⟨v,w⟩:=IX.cell x c e;rw[z] at w;obtain⟨o,w1,w2⟩:=id w;rw[q1] at w1;cases w1;exact q5 _ w2
def eLC(fi:Ev->Option (List D))(n:Nat)(ix:List Nat)(g:D->Ev->Option Ev)(ft:Ev->Option Bool)(fe:Ev->Option D):Ev->Option (List D):=λε=>(fi ε).bind λds=>if ds.length<1000000 then lcD g ft fe ds (prE n ix ε) else none
include n0 nm ns in
theorem C5(hc:X.calm=true)(hi:DI X tg iter fi)(S:CompSc X sc cl tn fr ix)(ng:NoG g)
  (hg:∀C s₃ H₃ fp pins,DG (cxC X sc cl (tn++fr) C s₃ H₃ fp pins) tg g) (ht:∀C s₃ H₃ fp pins,DIf (cxC X sc cl (tn++fr) C s₃ H₃ fp pins) ifs ft) (he:∀C s₃ H₃ fp pins,DEp Nv (cxC X sc cl (tn++fr) C s₃ H₃ fp pins) elt fe)
  (hs:∀x,Je iter X.env x=pure x:=by intro _;rfl):∃t,PE X (.ListComp elt [⟨tg,iter,ifs,0⟩] sc pos) t/\∀(He G H:Hp) (σ:L2.St) (ε:Ev) (ds:List D) (Q:VK),aI G H->EnvD X.K He G H σ ε->eLC fi tn.length ix g ft fe ε=some ds->
   (∀a xs G' H',Grow G H G' H'->H a=none->G' a=none->H' a=some (.lst xs)->DenL X.K G' xs ds->Nl H G' xs->Q (.ref a) H')->t σ H Q:=by
 refine⟨λσ H Q=>∃He G ε rs,aI G H/\EnvD X.K He G H σ ε/\eLC fi tn.length ix g ft fe ε=some rs/\∀a xs G' H',Grow G H G' H'->H a=none->G' a=none->H' a=some (.lst xs)->DenL X.K G' xs rs->Nl H G' xs->Q (.ref a) H',λpins s σ H Q I hq=>?_,
  λHe G H σ ε ds Q gh E ef q=>⟨He,G,ε,ds,gh,E,ef,q⟩⟩
 obtain⟨He,G,ε,rs,gh,E,ef,q⟩:=hq;obtain⟨ds,ei,ef⟩:=ai ef;split at ef
 ·rename_i hz
  rw[eval_ListComp];refine wpAny_comprehension_free (use:=none) rfl hs S.clos S.kind S.names (sZ n0 nm ns (RR:=λacc C=>compPost (Qo X.prog X.w) X.A X.xe none (EP X pins σ Q) acc C) hc hi S ng hg ht he I gh E ei hz ef ?_);intro a xs G' H' C oC m s' IX hNs hC pC gr hn gn ha hd nv;exact⟨m,hNs,λh' hs'=>⟨.ref a,H',oo IX hC pC hs',rfl,q a xs G' H' gr hn gn ha hd nv⟩⟩
 ·cases ef
theorem tj(hc:X.calm=true)(hi:DI X tg iter fi)(S:CompSc X sc cl tn fr ix)(ng:NoG g)
  (hg:∀C s₃ H₃ fp pins,DG (cxC X sc cl (tn++fr) C s₃ H₃ fp pins) tg g) (ht:∀C s₃ H₃ fp pins,DIf (cxC X sc cl (tn++fr) C s₃ H₃ fp pins) ifs ft) (he:∀C s₃ H₃ fp pins,DE (cxC X sc cl (tn++fr) C s₃ H₃ fp pins) elt fe)
  (hs:∀x,Je iter X.env x=pure x:=by intro _;rfl):DF X (.ListComp elt [⟨tg,iter,ifs,0⟩] sc pos) (eLC fi tn.length ix g ft fe):=
 let⟨t,h1,h2⟩:=C5 (Nv:=λ_ _ _=>True) (Nl:=λ_ _ _=>True) (λ_ _=>trivial) (λ_ _ _ _ _ _=>trivial) (λ_ _ _ _ _ _ _ _ _ _ _=>trivial) hc hi S ng hg ht (λC s H f p=>(he C s H f p).p) hs
 ⟨t,h1,λHe G H σ ε ds Q gh E ef q=>h2 He G H σ ε ds Q gh E ef λa xs G' H' g n1 n2 h3 d3 _=>q a xs G' H' g n1 n2 h3 d3⟩
theorem wI{i:Nat}{y:Str}{py spos:Pos}{W':Ends->L2.St->Hp->Prop}{gg:Ev->Option Fl}(hc:X.calm=true)(hN:X.N.Nodup)(hi:DI X tg iter fi)(S:CompSc X sc cl tn fr ix)(ng:NoG g)
  (hg:∀C s₃ H₃ fp pins,DG (cxC X sc cl (tn++fr) C s₃ H₃ fp pins) tg g) (ht:∀C s₃ H₃ fp pins,DIf (cxC X sc cl (tn++fr) C s₃ H₃ fp pins) ifs ft) (he:∀C s₃ H₃ fp pins,DE (cxC X sc cl (tn++fr) C s₃ H₃ fp pins) elt fe)
  (hiN:X.N[i]?=some y) (hx:Loc X.env.scope y) (hf:X.fn y=true\/X.env.scope.names.lookup y=some .local) (hsw:ZM (.ListComp elt [⟨tg,iter,ifs,0⟩] sc pos) (some (.Name y py)) spos.line X.env=pure true)
  (hs:∀x,Je iter X.env x=pure x)
  (hgg:∀(He Ge G H:Hp) (σ:L2.St) (ε:Ev) (r:Fl) (W:Ends),Sta X.K He Ge G H σ ε->gg ε=some r->D9 X He Ge r W->∃rs,eLC fi tn.length ix g ft fe ε=some rs/\∀a xs G' H',Grow G H G' H'->H a=none->G' a=none->H' a=some (.lst xs)->DenL X.K G' xs rs->W.nx (σ.set i (some (.ref a))) H') :
  DS X (.Assign [.Name y py] (.ListComp elt [⟨tg,iter,ifs,0⟩] sc pos) spos) gg:=by
 refine⟨λW σ H=>∃He G ε rs,aI G H/\EnvD X.K He G H σ ε/\eLC fi tn.length ix g ft fe ε=some rs/\∀a xs G' H',Grow G H G' H'->H a=none->G' a=none->H' a=some (.lst xs)->DenL X.K G' xs rs->W.nx (σ.set i (some (.ref a))) H',λpins s σ H W I hq=>?_,
  λHe Ge G H σ ε r W S' e P=>let⟨rs,e1,e2⟩:=hgg He Ge G H σ ε r W S' e P;⟨He,G,ε,rs,S'.g.gh,S'.e,e1,e2⟩⟩
 obtain⟨He,G,ε,rs,gh,E,ef,q⟩:=hq;obtain⟨ds,ei,ef⟩:=ai ef;split at ef
 ·rename_i hz
  rw[exec_Assign_Name_used _ _ _ _ hsw];refine Qa (JX (Qa ?_));show Qm _ X.A (do let _<-comprehension (.ListComp elt [⟨tg,iter,ifs,0⟩] sc pos) sc X.env _ (newList []) false (eval iter X.env) (some (ZC (.Name y py) X.env))) _ _ s
  refine Qa (QV (wpAny_comprehension_free (use:=some (ZC (.Name y py) X.env)) (Q:=λ_ s'=>SP X pins W .next s') rfl hs S.clos S.kind S.names
   (sZ (Nv:=λ_ _ _=>True) (Nl:=λ_ _ _=>True) (λ_ _=>trivial) (λ_ _ _ _ _ _=>trivial) (λ_ _ _ _ _ _ _ _ _ _ _=>trivial) (RR:=λacc C=>compPost (Qo X.prog X.w) X.A X.xe (some (ZC (.Name y py) X.env)) (λ_ s'=>SP X pins W .next s') acc C) hc hi S ng hg ht (λC s H f p=>(he C s H f p).p) I gh E ei hz ef ?_)) (λ_ s' hq=>Qd (Qd hq)) λ_ _ e=>e)
  intro a xs G' H' C oC m s' IX hNs hC pC gr hn gn ha hd _;show Qm _ X.A (ZC (.Name y py) X.env (.ref a)) _ _ _;refine wpAny_assign_Name (gX IX hN hiN hx (v:=.ref a) (u:=.ref a) rfl (λs2 I2=>?_) hf);obtain⟨q1,_⟩:=IX.pin (C,oC) (QD _ (QD _ (Qt.mpr rfl)));obtain⟨w1,_⟩:=I2.pin (C,oC) (QD _ (QD _ (Qt.mpr rfl)));refine⟨m,?_,λh' hs'=>⟨_,H',oo I2 hC pC hs',q a xs G' H' gr hn gn ha hd⟩⟩;obtain⟨o,es,ep,h1,h2⟩:=hNs;rw[q1] at h1;cases h1;exact⟨oC,es,ep,w1,h2⟩
 ·cases ef
theorem CL(i:Nat){y:Str}{py spos:Pos}(hc:X.calm=true)(hN:X.N.Nodup)(hi:DI X tg iter fi)(S:CompSc X sc cl tn fr ix)(ng:NoG g)
  (hg:∀C s₃ H₃ fp pins,DG (cxC X sc cl (tn++fr) C s₃ H₃ fp pins) tg g) (ht:∀C s₃ H₃ fp pins,DIf (cxC X sc cl (tn++fr) C s₃ H₃ fp pins) ifs ft) (he:∀C s₃ H₃ fp pins,DE (cxC X sc cl (tn++fr) C s₃ H₃ fp pins) elt fe)
  (hiN:X.N[i]?=some y:=by rfl) (hx:Loc X.env.scope y:=by first | exact Or.inl rfl | exact Zj rfl) (hf:X.fn y=true\/X.env.scope.names.lookup y=some .local:=by first | exact .inl rfl | exact .inr rfl) (hsw:ZM (.ListComp elt [⟨tg,iter,ifs,0⟩] sc pos) (some (.Name y py)) spos.line X.env=pure true:=by rfl)
  (hs:∀x,Je iter X.env x=pure x:=by intro _;rfl):DS X (.Assign [.Name y py] (.ListComp elt [⟨tg,iter,ifs,0⟩] sc pos) spos) (fj i (eLC fi tn.length ix g ft fe)):=
 wI (i:=i) (W':=λ_ _ _=>True) hc hN hi S ng hg ht he hiN hx hf hsw hs λHe Ge G H σ ε r W S' e P=>by
  obtain⟨rs,e1,rfl⟩:=a_ e;exact⟨rs,e1,λa xs G' H' gr hn gn ha hd=>P _ G' H' ⟨S'.g.trans gr,S'.e.putO gr S'.g.hh hn gn ha hd⟩⟩
theorem rK(i:Nat){y:Str}{py spos:Pos}(hc:X.calm=true)(hN:X.N.Nodup)(hi:DI X tg iter fi)(S:CompSc X sc cl tn fr ix)(ng:NoG g)
  (hg:∀C s₃ H₃ fp pins,DG (cxC X sc cl (tn++fr) C s₃ H₃ fp pins) tg g) (ht:∀C s₃ H₃ fp pins,DIf (cxC X sc cl (tn++fr) C s₃ H₃ fp pins) ifs ft) (he:∀C s₃ H₃ fp pins,DE (cxC X sc cl (tn++fr) C s₃ H₃ fp pins) elt fe)
  (hiN:X.N[i]?=some y:=by rfl) (hx:Loc X.env.scope y:=by first | exact Or.inl rfl | exact Zj rfl) (hf:X.fn y=true\/X.env.scope.names.lookup y=some .local:=by first | exact .inl rfl | exact .inr rfl) (hsw:ZM (.ListComp elt [⟨tg,iter,ifs,0⟩] sc pos) (some (.Name y py)) spos.line X.env=pure true:=by rfl)
  (hs:∀x,Je iter X.env x=pure x:=by intro _;rfl):DS X (.Assign [.Name y py] (.ListComp elt [⟨tg,iter,ifs,0⟩] sc pos) spos) (a8 i (eF (eLC fi tn.length ix g ft fe))):=
 wI (i:=i) (W':=λ_ _ _=>True) hc hN hi S ng hg ht he hiN hx hf hsw hs λHe Ge G H σ ε r W S' e P=>by
  obtain⟨d,e0,rfl⟩:=a_ e;obtain⟨rs,e1,rfl⟩:=a_ e0;refine⟨rs,e1,λa xs G' H' gr hn gn ha hd=>?_⟩;have s2:aI G' (upd G' a (.lst xs)):=λb o e=>by rw[aM (aE e gn)];exact e
  have g2:Grow G H (upd G' a (.lst xs)) H':=⟨gr.hh,gr.gg.trans s2,λb o e=>by
   unfold upd at e
   by_cases z:b=a
   ·rw[if_pos z] at e;cases e;rw[z];exact ha
   ·rw[if_neg z] at e;exact gr.gh b o e,λb o e z=>by rw[aM (aE e hn)];exact gr.fo b o e z⟩
  exact P _ _ H' ⟨S'.g.trans g2,(S'.e.grow g2).put (.lst (.inl aG) (hd.mono s2))⟩
end
section
variable{X:Cx}{a b c:Expr}{fa fb fc:Ev->Option D}{pos:Pos}
def FI(K:Qe):R2:=λx y H Q=>∃l b xs zs,x=.ref l/\y=.ref b/\SqL K H l xs/\SqL K H b zs/\xs.length+zs.length<=QO/\∀p,H p=none->Q (.ref p) (upd H p (.lst (xs++zs)))
theorem zN:OpR X (J7 .Add) (FI X.K):=by
 intro pins s σ H x y v u Q I rx ry h;obtain⟨l,b,xs,zs,rfl,rfl,hH,hB,hz,q⟩:=h;cases rx;cases ry;obtain⟨its,r,pl,z⟩:=I.list hH;obtain⟨its2,r2,pl2,z2⟩:=I.list hB;have hl:=r.length;have hl2:=r2.length;obtain⟨⟨cls,dd,data,sl⟩,ho,hc,n,hd⟩:=id pl.isList;obtain⟨⟨cls2,dd2,data2,sl2⟩,ho2,hc2,n2,hd2⟩:=id pl2.isList;simp only at hc hd hc2 hd2;subst hc hd hc2 hd2;have ea:its.toArray++its2.toArray=(its++its2).toArray:=by simp
 refine concat_meets ⟨_,ho,rfl⟩ ⟨_,ho2,rfl⟩ noFill_list_add seq_list_add PySem.F.slot_list_add PySem.F.entry_list_add (PySem.F.args_list_add_2 _ _) (list_addW l b its.toArray its2.toArray n n2 dd dd2 sl sl2 (by simp;lia)) ⟨ho,ho2,?_⟩;rw[ea];exact⟨.ref _,_,I.lnew (t':=s.toks) (r.append r2) (by rw[Qr];lia),rfl,q _ I.fresh⟩
def zK(fa fb:Ev->Option D):Ev->Option (List D):=λε=>(fa ε).bind λx=>(fb ε).bind λy=>match x,y with | .lst xs,.lst ys=>if xs.length+ys.length<=1000000 then some (xs++ys) else none | _,_=>none
theorem Eg(ha:DB X a fa)(hb:DB X b fb):DF X (.BinOp a .Add b pos) (zK fa fb):=by
 obtain⟨ta,a1,a2⟩:=ha;obtain⟨tb,b1,b2⟩:=hb;refine⟨_,B6 zN a1 b1,λHe G H σ ε ds Q gh E ef q=>?_⟩;obtain⟨x,e1,ef⟩:=ai ef;obtain⟨y,e2,ef⟩:=ai ef;refine a2 He G H σ ε x _ gh E e1 λv G1 H1 g1 d1=>?_;refine b2 He G1 H1 σ ε y _ g1.gh (E.grow g1) e2 λu G2 H2 g2 d2=>?_;split at ef
 ·split at ef
  ·rename_i hz
   cases ef;obtain⟨p,xs,rfl,h1,h2⟩:=(d1.grow g2).lst g2.gh;obtain⟨p',ys,rfl,h3,h4⟩:=d2.lst g2.gh;have g:=g1.trans g2;refine⟨p,p',xs,ys,rfl,rfl,h1,h3,?_,λl hl=>q l _ G2 _ (g.trans (.lay _ g2.gh hl)) (g.hh.free hl) (g2.gnone hl) aG (h2.append h4)⟩;rw[h2.length,h4.length];exact Q4 hz (by decide)
  ·cases ef
 ·cases ef
theorem DenL.nil_iff{K:Qe}{G:Hp}{xs:List V}{ds:List D}(h:DenL K G xs ds):xs=[]↔ds=[]:=by cases h<;>simp
end
namespace CatI
def oS:D->D->Option D:=λx y=>match x,y with | .tup (x0::xs),.tup (y0::ys)=>if xs.length+ys.length<=1000 then some (.tup (x0::xs++y0::ys)) else none | _,_=>none
end CatI
section
variable{X:Cx}{a b c:Expr}{fa fb fc:Ev->Option D}{pos:Pos}
theorem oa:OpD X (J7 .Add) CatI.oS:=⟨_,Au,λG H x y dx dy d Q gh hx hy e q=>by
 unfold CatI.oS at e;split at e
 ·split at e
  ·rename_i hz
   cases e;obtain⟨p,xs,rfl,h0,h1,h2⟩:=hx.tup gh;obtain⟨p',ys,rfl,h3,h4,h5⟩:=hy.tup gh;have n1:xs≠[]:=λz=>by have:=h2.nil_iff.mp z;cases this
   have n2:ys≠[]:=λz=>by have:=h5.nil_iff.mp z;cases this
   refine⟨p,p',xs,ys,rfl,rfl,h1,h4,n1,?_,λz=>absurd z n2,λ_ l hl=>?_⟩
   ·rw[h2.length,h5.length]
    simp only[QA];exact Q4 (Nat.add_le_add (Qf _) (Qf _)) (le_line2 hz)
   ·have g:=Grow.new (.tup (xs++ys)) gh hl
    exact q _ _ _ g (.tup (SqT.of aG) ((h2.append h5).mono g.gg))
  ·cases e
 ·cases e⟩
where
 le_line2 {m n:Nat} (h:m+n<=1000):m+1+(n+1)<=QO:=Q4 (by lia:m+1+(n+1)<=2000) (by decide)
def AK(i j:Nat)(g:Ev->Option (List D)):Ev->Option Fl:=λε=>match g ε with | some [x,y]=>some (.nx ((ε.set i (.dat x)).set j (.dat y))) | _=>none
end
section
variable{prog:QJ}{w:QL}{Ar:QU}{Ex:Qb->Qc->Prop}
theorem vx{I L:Addr}{xs:Array Qb}(apart:L≠I):∀(k i:Nat) (t:Qc) (Q:List Qb->Qc->Prop) (_:t.heap.IsListIter I L i) (_:t.heap.IsList L xs) (_:i+k<=xs.size)
  (_:∀g,g.IsListIter I L (i+k)->Zn I t.heap g->Q ((xs.toList.drop i).take k) { t with heap:=g }),Qm (Qo prog w) Ar (draw (.ref I) k) Q Ex t:=by
 intro k
 induction k with
 |zero=>intro i t Q itr ls room want;exact Qd (want t.heap itr (Heap.SameBut.refl ..))
 |succ k ih=>
  intro i t Q itr ls room want;have there:i<xs.size:=QS (Nat.lt_add_of_pos_right (Nat.succ_pos k)) room;refine Qa (m:=pyNext (.ref I)) (wpAny_pyNext_list_item itr ls (x:=xs[i]) (by simp[there]) λg1 itr1 same1=>?_);refine Qa (Q0 (ih (i+1) _ _ itr1 (ls.extBut same1.extBut apart) (by lia) λg2 itr2 same2=>Qd ?_))
  have e:(xs.toList.drop i).take (k+1)=xs[i]::(xs.toList.drop (i+1)).take k:=by
   rw[Q9 (by simpa using there),List.take_succ_cons];simp
  have c:i+(k+1)=i+1+k:=by lia
  have fin:=want g2 (c▸itr2) (same1.trans same2);rw[e] at fin;exact fin
theorem ju{t:Qc}{L:Addr}{xs:Array Qb}{Q:List Qb->Qc->Prop}(hh:Ar.handled=none)(ls:t.heap.IsList L xs)
  (want:∀g,Heap.ExtBut t.heap.objs.size t.heap g->Q xs.toList { t with heap:=g }):Qm (Qo prog w) Ar (unpackItems (.ref L) xs.size none) Q Ex t:=by
 have apart:L≠t.heap.objs.size:=let⟨_,there,_⟩:=ls;QQ (Qz there);unfold unpackItems notIterableAtAll;refine Qa (Qa (Kg ls.typeIs slot_list_iter.lookup (Qd ?_)));rw[if_neg Ql];refine Qa (Q0 (Km ls ?_));refine Qa (Q0 (vx apart xs.size 0 _ _ ⟨_,QF _ rfl,rfl,rfl⟩ (ls.push _) (Nat.le_of_eq (Jg _)) λg1 itr1 same1=>?_));rw[List.drop_zero,JZ (Nat.le_of_eq (by simp)),if_neg (by simp)];refine Qa (Q0 (wpAny_pyNext_list_end hh itr1 ((ls.push _).extBut same1.extBut apart) (by simp) λg2 ext2=>?_));exact(if_neg (show ¬ (none:Option Qb).isSome=true by simp)).symm▸Qd (want g2 λb o away e=>ext2 b o away (same1.extBut b o away (Qh _ e)))
theorem iV{t:Qc}{ev:Env}{es:List Expr}{x1}{pos:Pos}{L:Addr}{xs:Array Qb}{Q:Unit->Qc->Prop}(hh:Ar.handled=none)(ls:t.heap.IsList L xs)
  (many:(Jm es ev).length=xs.size) (nostar:(Jm es ev).findIdx? (·.1)=none)
  (rest:∀g,Heap.ExtBut t.heap.objs.size t.heap g->Qm (Qo prog w) Ar (assignInOrder ((Jm es ev).map (·.2)) xs.toList) Q Ex { t with heap:=g }):Qm (Qo prog w) Ar (ZC (.Tuple es x1 pos) ev (.ref L)) Q Ex t:=by
 rw[assign_Tuple];refine Qa (JX ?_);unfold unpack;rw[many,nostar];exact Qa (Q0 (ju hh ls rest))
end
section
variable{X:Cx}{pos:Pos}
theorem Bp{es:List Expr}{k:Nat}{t:TGs}{n:Nat}(hc:X.calm=true)(h:PGs X es t)
  (hn:(Jm es X.env).length=n:=by rfl) (hst:(Jm es X.env).findIdx? (·.1)=none:=by rfl):PG X (.Tuple es k pos) (λv σ H Q=>∃a xs,v=.ref a/\SqL X.K H a xs/\xs.length=n/\t xs σ H Q):=by
 intro pins s σ H v u Q I r hw;obtain⟨a,xs,e1,hq,hl,hw⟩:=hw;subst e1;cases r;obtain⟨its,rv,ht,hz⟩:=I.list hq;refine iV (I.ok.hd hc) ht.isList (by simp[hn,<-hl,rv.length]) hst λh' hx=>?_;have I1:Inv X pins σ H { s with heap:=h' }:=I.kept (t':=s.toks) λb o e=>hx b o (QQ (Qz e)) e;exact h pins _ σ H xs _ Q I1 (by simpa using rv) hw
def df(n:Nat)(g:List D->Ev->Option Ev):D->Ev->Option Ev:=λd ε=>match d with | .tup ds=>if ds.length=n then g ds ε else none | .lst ds=>if ds.length=n then g ds ε else none | _=>none
theorem EM{tg:Expr}{t t':TG}(h:PG X tg t)(h':PG X tg t'):PG X tg (λv σ H Q=>t v σ H Q\/t' v σ H Q):=by
 intro pins s σ H v u Q I r hw;rcases hw with hw | hw
 ·exact h pins s σ H v u Q I r hw
 ·exact h' pins s σ H v u Q I r hw
theorem dU{es:List Expr}{k:Nat}{g:List D->Ev->Option Ev}{n:Nat}(hc:X.calm=true)(h:DGs X es g)(hn:(Jm es X.env).length=n:=by rfl)(hst:(Jm es X.env).findIdx? (·.1)=none:=by rfl):DG X (.Tuple es k pos) (df n g):=by
 obtain⟨t,a1,a2⟩:=h;refine⟨_,EM (r8 hc a1 hn hst) (Bp hc a1 hn hst),λHe G H σ ε ε' v d Q gh E hd e q=>?_⟩;unfold df at e;split at e
 ·split at e
  ·rename_i hl
   obtain⟨p,xs,rfl,h1,h2⟩:=hd.tupV;exact .inl ⟨p,xs,rfl,aR gh h1,by rw[h2.length];exact hl,a2 He G H σ ε ε' _ _ _ gh E h2 e q⟩
  ·cases e
 ·split at e
  ·rename_i hl
   obtain⟨p,xs,rfl,h1,h2⟩:=hd.lstV;exact .inr ⟨p,xs,rfl,gh.seq h1,by rw[h2.length];exact hl,a2 He G H σ ε ε' _ _ _ gh E h2 e q⟩
  ·cases e
 ·cases e
end
def AtL(X:Cx):List Str->List Nat->Prop
 |[],[]=>True
 |x::fr,j::ix=>(X.N[j]?=some x/\X.env.scope.names.lookup x=some .cell)/\AtL X fr ix
 |_,_=>False
theorem AtL.len{X:Cx}:∀{fr:List Str} {ix:List Nat},AtL X fr ix->ix.length=fr.length
 |[],[],_=>rfl
 |_::_,_::_,h=>congrArg (· + 1) (AtL.len h.2)
 |[],_::_,h=>h.elim
 |_::_,[],h=>h.elim
theorem AtL.get{X:Cx}:∀{fr:List Str} {ix:List Nat} (k:Nat) (x:Str),AtL X fr ix->fr[k]?=some x->∃j,ix[k]?=some j/\X.N[j]?=some x/\X.env.scope.names.lookup x=some .cell
 |[],_,k,x,_,e=>by simp at e
 |_::_,[],_,_,h,_=>h.elim
 |y::fr,j::ix,0,x,h,e=>by simp at e;subst e;exact⟨j,rfl,h.1.1,h.1.2⟩
 |y::fr,j::ix,k+1,x,h,e=>by
  obtain⟨j',h1,h2⟩:=AtL.get k x h.2 (by simpa using e);exact⟨j',by simpa using h1,h2⟩
def zj(X:Cx):List (Str×Addr)->Prop
 |[]=>True
 |p::cl=>X.env.cells.lookup p.1=some p.2/\zj X cl
theorem zj.mem{X:Cx}:∀{cl:List (Str×Addr)},zj X cl->∀p∈cl,X.env.cells.lookup p.1=some p.2
 |[],_,_,h=>by cases h
 |q::cl,h,p,hp=>by
  rcases Qn.mp hp with z | z
  ·rw[z];exact h.1
  ·exact zj.mem h.2 p z
theorem gK{cl:List (Str×Addr)}{x:Str}(h:(cl.map (·.1)).contains x=true):∃c,cl.lookup x=some c:=by
 induction cl with
 |nil=>simp at h
 |cons p cl ih=>
  rw[Qv,List.contains_cons] at h;obtain⟨y,c0⟩:=p;cases e:(x==y) with
  |true=>exact⟨c0,by unfold List.lookup;rw[e]⟩
  |false=>
   have h':(x==y || (cl.map (·.1)).contains x)=true:=h;rw[e,Bool.false_or] at h';obtain⟨c,hc⟩:=ih h';exact⟨c,by unfold List.lookup;rw[e];exact hc⟩
theorem d7{X:Cx}{sc:Scope}{cl:List (Str×Addr)}{tn fr:List Str}{ix:List Nat}(clos:closureFor sc X.env=pure cl)(hat:AtL X fr ix)(sub:zj X cl)
  (kind:sc.kind=.function) (nc:(sc.names.all λy=>!(y.2 == .cell))=true)
  (nm:(sc.names.all λy=>!(y.2 == .local) || (sc.names.lookup y.1==some .local))=true)
  (hs:((relabel sc X.env).names.all λy=>!(y.2 == .cell || y.2 == .free) || (cl.map (·.1)).contains y.1)=true)
  (fc:(fr.all λx=>(relabel sc X.env).names.lookup x==some .cell)=true):CompSc X sc cl tn fr ix where
 kind:=kind
 nocell:=λy hy e=>by
  have:=Jc.mp nc y hy;rw[e] at this;exact absurd this (by decide)
 names:=λy hy e=>by
  have:=Jc.mp nm y hy;rw[e] at this;exact eq_of_beq this
 clos:=clos
 len:=hat.len
 at_:=λk x e=>hat.get k x e
 sub:=λx c e=>sub.mem _ (J3 e)
 has:=λx h=>by
  rcases h with h | h
  ·have:=Jc.mp hs _ (J3 h)
   exact gK this
  ·have:=Jc.mp hs _ (J3 h)
   exact gK this
 frc:=λx hx=>eq_of_beq (Jc.mp fc x hx)
theorem ll{fi:Ev->Option (List D)}{n:Nat}{ix:List Nat}{g:D->Ev->Option Ev}{ft:Ev->Option Bool}{fe:Ev->Option D}{ε:Ev}{ds:List D}(h:fi ε=some ds)(hl:ds.length<1000000):eLC fi n ix g ft fe ε=lcD g ft fe ds (prE n ix ε):=by
 unfold eLC;rw[h];show(if ds.length<1000000 then _ else none)=_;rw[if_pos hl]
def iF(f:D->D->Option Bool):List D->List D->Option Bool
 |x::xs,y::ys=>(f x y).bind λa=>(iF f xs ys).bind λb=>some (a&&b)
 |_,_=>some true
def cq:Nat->D->D->Option Bool
 |0,x,y=>eqS x y
 |n+1,x,y=>match x,y with
  |.tup xs,.tup ys=>(iF (cq n) xs ys).map λb=>b&&xs.length==ys.length
  |.lst xs,.lst ys=>if xs.length=ys.length then iF (cq n) xs ys else some false
  |x,y=>eqS x y
def e_(f:D->D->Option Bool)(xs ys:List D)(j:Nat):Bool:=match xs[j]?,ys[j]? with
 |some x,some y=>(f x y).getD false
 |_,_=>false
theorem dc{f:D->D->Option Bool}:∀{xs ys:List D} {b:Bool},iF f xs ys=some b->b=(QE (min xs.length ys.length)).all (e_ f xs ys)/\∀j x y,xs[j]?=some x->ys[j]?=some y->f x y=some (e_ f xs ys j)
 |[],ys,b,e=>by cases e;exact⟨by simp,λj x y h _=>by simp at h⟩
 |x::xs,[],b,e=>by cases e;exact⟨by simp,λj x y _ h=>by simp at h⟩
 |x::xs,y::ys,b,e=>by
  obtain⟨a,e1,e⟩:=ai e;obtain⟨c,e2,e⟩:=ai e;cases e;obtain⟨h1,h2⟩:=dc e2;have sh:∀j,e_ f (x::xs) (y::ys) (j+1)=e_ f xs ys j:=λj=>by unfold e_;simp
  have s0:e_ f (x::xs) (y::ys) 0=a:=by unfold e_;simp[e1]
  refine⟨?_,λj u v hu hv=>?_⟩
  ·have hm:min (x::xs).length (y::ys).length=min xs.length ys.length+1:=by simp only[QA];lia
   rw[hm,Kk,KG,s0,List.all_map,h1];congr 1
  ·cases j with
   |zero=>simp at hu hv;subst hu hv;rw[s0,e1]
   |succ j=>rw[sh];exact h2 j u v (by simpa using hu) (by simpa using hv)
theorem hW{d:D}{b:Bool}(h:eqS d d=some b):b=true:=by
 cases d<;>simp[eqS] at h<;>first | exact h | exact h.symm
theorem jw{f:D->D->Option Bool}(hf:∀d b,f d d=some b->b=true):∀{ds:List D} {b:Bool},iF f ds ds=some b->b=true
 |[],b,e=>by cases e;rfl
 |d::ds,b,e=>by
  obtain⟨a,e1,e⟩:=ai e;obtain⟨c,e2,e⟩:=ai e;cases e;rw[hf d a e1,jw hf e2];rfl
theorem iw:∀(n:Nat) (d:D) (b:Bool),cq n d d=some b->b=true
 |0,d,b,e=>hW e
 |n+1,.tup xs,b,e=>by
  obtain⟨c,e1,rfl⟩:=a_ e;rw[jw (iw n) e1];simp
 |n+1,.lst xs,b,e=>by
  have e':(if xs.length=xs.length then iF (cq n) xs xs else some false)=some b:=e;rw[if_pos rfl] at e';exact jw (iw n) e'
 |n+1,.non,b,e=>hW (d:=.non) e
 |n+1,.bl k,b,e=>hW (d:=.bl k) e
 |n+1,.int k,b,e=>hW (d:=.int k) e
 |n+1,.str k,b,e=>hW (d:=.str k) e
section
variable{X:Cx}{pins:List (Addr×Obj)}{σ:L2.St}{G H:Hp}{s:Qc}
theorem pV(I:Inv X pins σ H s){a:Addr}{xs ys:List V}(h1:SqT X.K H a xs)(h2:SqL X.K H a ys):False:=by
 obtain⟨its,_,⟨o,e1,c1,_⟩,_⟩:=I.tuple h1;obtain⟨its2,_,⟨o2,n,e2,c2,_⟩,_⟩:=I.list h2;rw[e1] at e2;cases e2;rw[c1] at c2;exact absurd (Value.type.inj c2) (by decide)
theorem o_{x y:V}{u:Qb}(hx:L2.ba x u)(hy:L2.ba y u):x=y:=by
 cases x<;>cases y<;>simp only[L2.ba] at hx hy<;>first | rfl | (subst hx;cases hy;done) | (subst hx;cases hy;rfl) | (obtain⟨t,rfl⟩:=hx;obtain⟨t',e⟩:=hy;cases e;first | rfl | done) | (obtain⟨t,rfl⟩:=hx;cases hy) | (subst hx;obtain⟨t',e⟩:=hy;cases e)
theorem kK(I:Inv X pins σ H s)(gh:aI G H){a:Addr}{us:bB}{ep:Nat}(h:G a=some (.ext (DAt a us ep))):DAt a us ep s.heap:=(show bL X.prog X.w H s.heap a (.ext (DAt a us ep)) from I.hok a _ (gh _ _ h)).1
theorem nJ(I:Inv X pins σ H s)(gh:aI G H){a:Addr}{xs:List V}{us:bB}{ep:Nat}(h1:SqT X.K H a xs)(h:G a=some (.ext (DAt a us ep))):False:=by
 obtain⟨its,_,⟨o,e1,c1,_⟩,_⟩:=I.tuple h1;obtain⟨_,_,o2,raw,e2,⟨c2,_⟩,_⟩:=kK I gh h;rw[e1] at e2;cases e2;rw[c1] at c2;exact absurd (Value.type.inj c2) (by decide)
theorem mK(I:Inv X pins σ H s)(gh:aI G H){a:Addr}{xs:List V}{us:bB}{ep:Nat}(h1:SqL X.K H a xs)(h:G a=some (.ext (DAt a us ep))):False:=by
 obtain⟨its,_,⟨o,n,e1,c1,_⟩,_⟩:=I.list h1;obtain⟨_,_,o2,raw,e2,⟨c2,_⟩,_⟩:=kK I gh h;rw[e1] at e2;cases e2;rw[c1] at c2;exact absurd (Value.type.inj c2) (by decide)
theorem j4:∀{k k':List Int},k.map V.int=k'.map V.int->k=k'
 |[],[],_=>rfl
 |[],_::_,e=>by cases e
 |_::_,[],e=>by cases e
 |a::k,b::k',e=>by
  rw[Qv,Qv] at e;injection e with e1 e2
  cases e1;rw[j4 e2]
theorem vp(I:Inv X pins σ H s)(gh:aI G H):∀{raw:List Zi} {us vs:bB} {es fs:List (List Int×D)},DenM X.K G us es->DenM X.K G vs fs->JU EntOk us raw->JU EntOk vs raw->us=vs:=by
 intro raw
 induction raw with
 |nil=>intro us vs es fs _ _ p p';cases p;cases p';rfl
 |cons r rs ih=>
  intro us vs es fs m m' p p';cases p with
  |cons q qs=>
   cases p' with
   |cons q' qs'=>
    cases m with
    |cons hk hv hs=>
     cases m' with
     |cons hk' hv' hs'=>
      have e0:=q.key.symm.trans q'.key;injection e0 with e0
      simp only at e0;subst e0;have ek:=j4 (I.tuple_inj (aR gh hk) (aR gh hk'));subst ek;have ev:=o_ q.val q'.val;simp only at ev;subst ev;rw[ih hs hs' qs qs']
theorem DenL.uniq(I:Inv X pins σ H s)(gh:aI G H){vs:List V}{ds es:List D}(h:DenL X.K G vs ds):DenL X.K G vs es->ds=es:=by
 refine DenL.rec (motive_1:=λv d _=>∀e,Den X.K G v e->d=e) (motive_2:=λu d _=>∀e,DenM X.K G u e->d=e) (motive_3:=λv d _=>∀e,DenL X.K G v e->d=e) ?_ ?_ ?_ ?_ ?_ ?_ ?_ ?_ ?_ ?_ ?_ h es
 ·intro e w;cases w;rfl
 ·intro b e w;cases w;rfl
 ·intro b e w;cases w;rfl
 ·intro b e w;cases w;rfl
 ·intro a xs ds h _ y e w
  cases w with
  |tup h' hs'=>
   have:=I.tuple_inj (aR gh h) (aR gh h');subst this;rw[y _ hs']
  |lst h' _=>exact(pV I (aR gh h) (gh.seq h'.sq)).elim
  |dic h' _ _=>exact(nJ I gh (aR gh h) h').elim
 ·intro a xs ds h _ y e w
  cases w with
  |lst h' hs'=>
   have:=I.list_inj (gh.seq h.sq) (gh.seq h'.sq);subst this;rw[y _ hs']
  |tup h' _=>exact(pV I (aR gh h') (gh.seq h.sq)).elim
  |dic h' _ _=>exact(mK I gh (gh.seq h.sq) h').elim
 ·intro a us ep es h nd hs y e w
  cases w with
  |tup h' _=>exact(nJ I gh (aR gh h') h).elim
  |lst h' _=>exact(mK I gh (gh.seq h'.sq) h).elim
  |dic h' nd' hs'=>
   obtain⟨_,_,o,raw,e,_,e1,p⟩:=kK I gh h;obtain⟨_,_,o',raw',e',_,e1',p'⟩:=kK I gh h';rw[e] at e';cases e';rw[e1] at e1';cases e1';have z:=vp I gh hs hs' p p';subst z;rw[y _ hs']
 ·intro e w;cases w;rfl
 ·intro k b v d us es _ _ _ y z e w
  cases w with
  |cons _ h' hs'=>rw[y _ h',z _ hs']
 ·intro e w;cases w;rfl
 ·intro v d vs ds _ _ y z e w
  cases w with
  |cons h' hs'=>rw[y _ h',z _ hs']
theorem Den.uniq(I:Inv X pins σ H s)(gh:aI G H){v:V}{d e:D}(h:Den X.K G v d)(h':Den X.K G v e):d=e:=List.head_eq_of_cons_eq (DenL.uniq I gh (.cons h .nil) (.cons h' .nil))
theorem pq{K:Qe}{G:Hp}{x y:V}{dx dy:D}{b:Bool}(hx:Den K G x dx)(hy:Den K G y dy)(e:eqS dx dy=some b):gM x=true/\gM y=true/\eqV x y=b:=by
 cases hx<;>cases hy<;>simp[eqS] at e<;>subst e<;>refine⟨rfl,rfl,?_⟩<;>first | rfl | (simp[eqV];done) | (rw[Zq];simp[eqV])
theorem eJ{x y:V}{xs ys:List V}{ds es:List D}{its its2:List Qb}{n:Nat}{A:QU}(hs:DenL X.K G xs ds)(hs':DenL X.K G ys es)(r:a9 xs its)(r2:a9 ys its2)
  (step:∀{dx dy:D} {x y:V} {v u:Qb} {b:Bool},Den X.K G x dx->Den X.K G y dy->ba x v->ba y u->cq n dx dy=some b->Kc A s v u b)
  (pr:∀j x y,ds[j]?=some x->es[j]?=some y->cq n x y=some (e_ (cq n) ds es j)) :
  ∀j (h1:j<its.toArray.size) (h2:j<its2.toArray.size),Kc A s its.toArray[j] its2.toArray[j] (e_ (cq n) ds es j):=by
 intro j h1 h2;have l1:=r.length;have l2:=r2.length;have h1':j<its.length:=by simpa using h1
 have h2':j<its2.length:=by simpa using h2
 have hx:xs[j]?=some xs[j]:=by simp[show j<xs.length by lia]
 have hy:ys[j]?=some ys[j]:=by simp[show j<ys.length by lia]
 obtain⟨dx,e1,d1⟩:=hs.getV hx;obtain⟨dy,e2,d2⟩:=hs'.getV hy;obtain⟨v,e3,r3⟩:=r.get hx;obtain⟨u,e4,r4⟩:=r2.get hy
 have ev:its.toArray[j]=v:=by
  have:=(Qk.mp e3).2;simpa using this
 have eu:its2.toArray[j]=u:=by
  have:=(Qk.mp e4).2;simpa using this
 rw[ev,eu];exact step d1 d2 r3 r4 (pr j dx dy e1 e2)
theorem lF(I:Inv X pins σ H s)(gh:aI G H):∀(n:Nat) (A:QU),A.units+n<JR->∀{dx dy:D} {x y:V} {v u:Qb} {b:Bool},Den X.K G x dx->Den X.K G y dy->ba x v->ba y u->cq n dx dy=some b->Kc A s v u b:=by
 intro n
 induction n with
 |zero=>
  intro A hu dx dy x y v u b hx hy rx ry e;obtain⟨f1,f2,e1⟩:=pq hx hy e;rw[<-e1];exact rL rx ry f1 f2
 |succ n ih=>
  intro A hu dx dy x y v u b hx hy rx ry e;have hu1:A.in1.units+n<JR:=by show A.units+1+n<JR;lia
  have step:=λ{dx dy:D} {x y:V} {v u:Qb} {b:Bool}=>ih A.in1 hu1 (dx:=dx) (dy:=dy) (x:=x) (y:=y) (v:=v) (u:=u) (b:=b)
  have flat:∀{b},eqS dx dy=some b->Kc A s v u b:=λ{b} e=>by
   obtain⟨f1,f2,e1⟩:=pq hx hy e;rw[<-e1];exact rL rx ry f1 f2
  cases hx with
  |@tup a xs ds h hs=>
   cases hy with
   |@tup a' ys es h' hs'=>
    cases(show v=QI a from rx);cases(show u=QI a' from ry)
    by_cases z:a=a'
    ·subst z
     have:=I.tuple_inj (aR gh h) (aR gh h');subst this;have:=DenL.uniq I gh hs hs';subst this;rw[iw _ _ _ e];exact SeqAt.EqAt.same _
    ·obtain⟨c,e1,rfl⟩:=a_ e
     obtain⟨q1,q2⟩:=dc e1;obtain⟨its,r,p1,_⟩:=I.tuple (aR gh h);obtain⟨its2,r2,p2,_⟩:=I.tuple (aR gh h');have l1:its.toArray.size=ds.length:=by simp[<-r.length,hs.length]
     have l2:its2.toArray.size=es.length:=by simp[<-r2.length,hs'.length]
     refine SeqAt.EqAt.of_refs z ?_;have:=SeqAt.RcAt.tuples (e:=e_ (cq n) ds es) p1 p2 (by lia) (eJ (x:=.non) (y:=.non) hs hs' r r2 step q2);rw[l1,l2,<-q1] at this;exact this
   |lst h' hs'=>exact flat e
   |dic _ _ _=>exact flat e
   |non=>exact flat e
   |bl _=>exact flat e
   |int _=>exact flat e
   |str _=>exact flat e
  |@lst a xs ds h hs=>
   cases hy with
   |@lst a' ys es h' hs'=>
    cases(show v=QI a from rx);cases(show u=QI a' from ry)
    by_cases z:a=a'
    ·subst z
     have:=I.list_inj (gh.seq h.sq) (gh.seq h'.sq);subst this;have:=DenL.uniq I gh hs hs';subst this;rw[iw _ _ _ e];exact SeqAt.EqAt.same _
    ·have e':(if ds.length=es.length then iF (cq n) ds es else some false)=some b:=e
     obtain⟨its,r,p1,_⟩:=I.list (gh.seq h.sq);obtain⟨its2,r2,p2,_⟩:=I.list (gh.seq h'.sq);have l1:its.toArray.size=ds.length:=by simp[<-r.length,hs.length]
     have l2:its2.toArray.size=es.length:=by simp[<-r2.length,hs'.length]
     refine SeqAt.EqAt.of_refs z ?_
     by_cases hl:ds.length=es.length
     ·rw[if_pos hl] at e'
      obtain⟨q1,q2⟩:=dc e';have:=SeqAt.RcAt.lists (e:=e_ (cq n) ds es) p1.isList p2.isList (by rw[l1,l2,hl]) (by lia) (eJ (x:=.non) (y:=.non) hs hs' r r2 step q2);rw[l1] at this;rw[<-hl,Nat.min_self] at q1;rw[q1];exact this
     ·rw[if_neg hl] at e'
      cases e';exact SeqAt.RcAt.lists_lengths p1.isList p2.isList (by rw[l1,l2];simpa using hl) (by lia)
   |tup h' hs'=>exact flat e
   |dic _ _ _=>exact flat e
   |non=>exact flat e
   |bl _=>exact flat e
   |int _=>exact flat e
   |str _=>exact flat e
  |dic _ _ _=>cases hy<;>exact flat e
  |non=>cases hy<;>exact flat e
  |bl _=>cases hy<;>exact flat e
  |int _=>cases hy<;>exact flat e
  |str _=>cases hy<;>exact flat e
end
section
variable{X:Cx}
def ED(K:Qe)(neg:Bool):R2:=λx y H Q=>∃G dx dy b,aI G H/\cb K G H x dx/\cb K G H y dy/\cq 9 dx dy=some b/\Q (.bl (if neg then !b else b)) H
theorem cb.flat{K:Qe}{G H:Hp}{v:V}{d:D}(h:cb K G H v d):Den K G v d\/∃ds,d=.lst ds:=by
 rcases h with h | ⟨_,_,ds,_,e,_⟩
 ·exact .inl h
 ·exact .inr ⟨ds,e⟩
theorem D5(hu:X.A.units+64<JR):OpR X (QX .Eq) (ED X.K false):=by
 intro pins s σ H x y v u Q I rx ry h;obtain⟨G,dx,dy,b,gh,hx,hy,e,q⟩:=h;have step:=λ{dx dy:D} {x y:V} {v u:Qb} {b:Bool}=>lF I gh 8 X.A.in1 (by show X.A.units+1+8<JR;lia) (dx:=dx) (dy:=dy) (x:=x) (y:=y) (v:=v) (u:=u) (b:=b);have fin:∀{k:Bool},k=b->EP X pins σ Q (.bool k) s:=λ{k} z=>⟨.bl k,H,I,rfl,by rw[z];exact q⟩
 have scl:eqS dx dy=some b->Qm (Qo X.prog X.w) X.A (QX .Eq v u) (EP X pins σ Q) X.xe s:=λe=>by
  obtain⟨h1,h2⟩:=qg hx hy e;exact EV pins s σ H x y v u Q I rx ry ⟨h1,by rw[h2];exact q⟩
 cases dx with
 |tup ds=>
  cases dy with
  |tup es=>
   obtain⟨a,xs,rfl,_,h1,h2⟩:=hx.tup gh;obtain⟨a',ys,rfl,_,h3,h4⟩:=hy.tup gh;cases rx;cases ry;obtain⟨c,e1,e2⟩:=a_ e;obtain⟨q1,q2⟩:=dc e1;obtain⟨its,r,p1,_⟩:=I.tuple h1;obtain⟨its2,r2,p2,_⟩:=I.tuple h3;have l1:its.toArray.size=ds.length:=by simp[<-r.length,h2.length]
   have l2:its2.toArray.size=es.length:=by simp[<-r2.length,h4.length]
   refine SeqAt.RcAt.tuples (e:=e_ (cq 8) ds es) p1 p2 (by lia) (eJ (x:=.non) (y:=.non) h2 h4 r r2 step q2) X.prog X.w X.xe _ (fin ?_);rw[l1,l2,<-q1];exact e2
  |_=>exact scl e
 |lst ds=>
  cases dy with
  |lst es=>
   obtain⟨a,xs,rfl,h1,h2⟩:=hx.lst gh;obtain⟨a',ys,rfl,h3,h4⟩:=hy.lst gh;cases rx;cases ry;have e':(if ds.length=es.length then iF (cq 8) ds es else some false)=some b:=e;obtain⟨its,r,p1,_⟩:=I.list h1;obtain⟨its2,r2,p2,_⟩:=I.list h3;have l1:its.toArray.size=ds.length:=by simp[<-r.length,h2.length]
   have l2:its2.toArray.size=es.length:=by simp[<-r2.length,h4.length]
   by_cases hl:ds.length=es.length
   ·rw[if_pos hl] at e'
    obtain⟨q1,q2⟩:=dc e';refine SeqAt.RcAt.lists (e:=e_ (cq 8) ds es) p1.isList p2.isList (by rw[l1,l2,hl]) (by lia) (eJ (x:=.non) (y:=.non) h2 h4 r r2 step q2) X.prog X.w X.xe _ (fin ?_);rw[l1];rw[<-hl,Nat.min_self] at q1;exact q1.symm
   ·rw[if_neg hl] at e'
    cases e';exact SeqAt.RcAt.lists_lengths p1.isList p2.isList (by rw[l1,l2];simpa using hl) (by lia) X.prog X.w X.xe _ (fin rfl)
  |_=>exact scl e
 |_=>cases dy<;>exact scl e
theorem DQ(hu:X.A.units+64<JR):OpR X (QX .NotEq) (ED X.K true):=by
 intro pins s σ H x y v u Q I rx ry h;obtain⟨G,dx,dy,b,gh,hx,hy,e,q⟩:=h;have step:=λ{dx dy:D} {x y:V} {v u:Qb} {b:Bool}=>lF I gh 8 X.A.in1 (by show X.A.units+1+8<JR;lia) (dx:=dx) (dy:=dy) (x:=x) (y:=y) (v:=v) (u:=u) (b:=b);have fin:∀{k:Bool},k = !b->EP X pins σ Q (.bool k) s:=λ{k} z=>⟨.bl k,H,I,rfl,by rw[z];exact q⟩
 have scl:eqS dx dy=some b->Qm (Qo X.prog X.w) X.A (QX .NotEq v u) (EP X pins σ Q) X.xe s:=λe=>by
  obtain⟨h1,h2⟩:=qg hx hy e;exact EE pins s σ H x y v u Q I rx ry ⟨h1,by rw[h2];exact q⟩
 cases dx with
 |tup ds=>
  cases dy with
  |tup es=>
   obtain⟨a,xs,rfl,_,h1,h2⟩:=hx.tup gh;obtain⟨a',ys,rfl,_,h3,h4⟩:=hy.tup gh;cases rx;cases ry;obtain⟨c,e1,e2⟩:=a_ e;obtain⟨q1,q2⟩:=dc e1;obtain⟨its,r,p1,_⟩:=I.tuple h1;obtain⟨its2,r2,p2,_⟩:=I.tuple h3;have l1:its.toArray.size=ds.length:=by simp[<-r.length,h2.length]
   have l2:its2.toArray.size=es.length:=by simp[<-r2.length,h4.length]
   refine SeqAt.RcNeAt.tuples (e:=e_ (cq 8) ds es) p1 p2 (by lia) (eJ (x:=.non) (y:=.non) h2 h4 r r2 step q2) X.prog X.w X.xe _ (fin ?_);rw[l1,l2,<-q1];exact congrArg not e2
  |_=>exact scl e
 |lst ds=>
  cases dy with
  |lst es=>
   obtain⟨a,xs,rfl,h1,h2⟩:=hx.lst gh;obtain⟨a',ys,rfl,h3,h4⟩:=hy.lst gh;cases rx;cases ry;have e':(if ds.length=es.length then iF (cq 8) ds es else some false)=some b:=e;obtain⟨its,r,p1,_⟩:=I.list h1;obtain⟨its2,r2,p2,_⟩:=I.list h3;have l1:its.toArray.size=ds.length:=by simp[<-r.length,h2.length]
   have l2:its2.toArray.size=es.length:=by simp[<-r2.length,h4.length]
   by_cases hl:ds.length=es.length
   ·rw[if_pos hl] at e'
    obtain⟨q1,q2⟩:=dc e';refine SeqAt.RcNeAt.lists (e:=e_ (cq 8) ds es) p1.isList p2.isList (by rw[l1,l2,hl]) (by lia) (eJ (x:=.non) (y:=.non) h2 h4 r r2 step q2) X.prog X.w X.xe _ (fin ?_);rw[l1];rw[<-hl,Nat.min_self] at q1;rw[q1]
   ·rw[if_neg hl] at e'
    cases e';exact SeqAt.RcNeAt.lists_lengths p1.isList p2.isList (by rw[l1,l2];simpa using hl) (by lia) X.prog X.w X.xe _ (fin rfl)
  |_=>exact scl e
 |_=>cases dy<;>exact scl e
def br:D->D->Option D:=λx y=>(cq 9 x y).map D.bl
def kn:D->D->Option D:=λx y=>(cq 9 x y).map λb=>D.bl (!b)
theorem bw{k:Nat}(hr:Room k X.A):OpD X (QX .Eq) br:=⟨_,D5 hr.units,λG H x y dx dy d Q gh hx hy e q=>by
 obtain⟨b,e1,rfl⟩:=a_ e
 exact⟨G,dx,dy,b,gh,hx,hy,e1,q _ G H (.refl gh) (.bl _)⟩⟩
theorem oI{k:Nat}(hr:Room k X.A):OpD X (QX .NotEq) kn:=⟨_,DQ hr.units,λG H x y dx dy d Q gh hx hy e q=>by
 obtain⟨b,e1,rfl⟩:=a_ e
 exact⟨G,dx,dy,b,gh,hx,hy,e1,q _ G H (.refl gh) (.bl _)⟩⟩
end
section
variable{prog:QJ}{w:QL}{Ar:QU}{Rs:Result->Qc->Prop}{It S:Addr}{fp wr:List Addr}{n:Nat}{Pv:Nat->Qb->Prop}{St:Nat->Heap->Prop}{kw:List (Str×Qb)}
theorem fK:(toString "max" ++ toString ".loop" : String) = "max.loop":=by decide
theorem FT(W:Walks prog w Ar.in1 It fp wr n Pv St){bt:Nat->Nat->Bool}(cmp:CmpOf prog w Ar.in1 .Gt Pv bt)(apart:S∉fp):∀(k j:Nat) (t:Qc) (best:Qb) (c:Nat),j+1+k=n->St (j+1) t.heap->Pv (JD bt j) best->IsL t.heap S #[best,best] c->
  (∀v g tk,Pv (JD bt (n-1)) v->(∀b o,b∉wr->b≠S->t.heap.get? b=some o->g.get? b=some o)->Rs (.ok (.ret v)) { t with heap:=g,toks:=tk })->JO (Qo prog w) Ar (.builtin "max.loop" ⟨[.ref It,.none,.ref S],kw⟩) Rs t:=by
 have away:S∉wr:=λz=>apart (W.sub _ z);intro k
 induction k with
 |zero=>
  intro j t best c ej st hb hS want;refine Zf Z6 ?_;rw[JI Jq _];refine Qa (m:=seqItems? (.ref S)) (ZF hS rfl ?_);refine Qa (Zk (W.done t _ _ (ej▸st) λg tk kept=>?_));have hS1:IsL g S #[best,best] c:=kept S _ away hS;refine Qa (m:=updateSeq S (λ_=>#[])) (Kh hS1 rfl (Qa (Z3 (Qd ?_))));refine want best _ tk (by rw[<-ej];exact hb) λb o q1 q2 e=>(Q8 _ _ (Ne.symm q2)).trans (kept b o q1 e)
 |succ k ih=>
  intro j t best c ej st hb hS want;have more:j+1<n:=by lia
  refine Zf Z6 ?_;rw[JI Jq _];refine Qa (m:=seqItems? (.ref S)) (ZF hS rfl ?_);refine Qa (Zk (W.item (j+1) t _ _ more st λv g tk hv st1 kept=>?_));have hS1:IsL g S #[best,best] c:=kept S _ away hS;refine Qa (Qd ?_);refine Qa (Zk (Q0 (Qa (cmp (j+1) (JD bt j) v best _ _ _ hv hb (Qa (Q0 (JN (Qa (Z3 (Qd ?_))))))))));cases yes:bt (j+1) (JD bt j) with
  |true=>
   rw[if_pos rfl];refine Qa (m:=updateSeq S (λ_=>#[v,v])) (Kh hS1 rfl (Qa (Z3 ?_)));rw[fK];refine Qd ⟨Zz Jq _,ih (j+1) _ v _ (by lia) (W.frame _ _ _ st1 λb q o e=>(Q8 _ _ (λz:S=b=>apart (by rw[z];exact q))).trans e) ?_ (JE _ hS1 rfl) λv2 g2 tk2 hv2 kept2=>want v2 g2 tk2 hv2 λb o q1 q2 e=>kept2 b o q1 q2 ((Q8 _ _ (Ne.symm q2)).trans (kept b o q1 e))⟩;unfold JD;rw[if_pos yes];exact hv
  |false=>
   rw[if_neg Ql];refine Qa (Z3 ?_);rw[fK];refine Qd ⟨Zz Jq _,ih (j+1) _ best c (by lia) st1 ?_ hS1 λv2 g2 tk2 hv2 kept2=>want v2 g2 tk2 hv2 λb o q1 q2 e=>kept2 b o q1 q2 (kept b o q1 e)⟩;unfold JD;rw[yes,if_neg Ql];exact hb
theorem zd(W:Walks prog w Ar.in1 It fp wr n Pv St){bt:Nat->Nat->Bool}(cmp:CmpOf prog w Ar.in1 .Gt Pv bt)(apart:S∉fp){t:Qc}{c:Nat}{d:Qb}{nm:Str}(st:St 0 t.heap)(hS:IsL t.heap S #[] c)
  (want:∀v g tk,((n=0/\v=d)\/(0<n/\Pv (JD bt (n-1)) v))->(∀b o,b∉wr->b≠S->t.heap.get? b=some o->g.get? b=some o)->Rs (.ok (.ret v)) { t with heap:=g,toks:=tk }) :
  JO (Qo prog w) Ar (.builtin "max.loop" ⟨[.ref It,.none,.ref S],[(nm,d)]⟩) Rs t:=by
 have away:S∉wr:=λz=>apart (W.sub _ z);refine Zf Z6 ?_;rw[JI Jq _];refine Qa (m:=seqItems? (.ref S)) (ZF hS rfl ?_)
 by_cases hn:n=0
 ·refine Qa (Zk (W.done t _ _ (hn▸st) λg tk kept=>?_))
  exact Qa (wpAny_rule (Qd (want d g tk (.inl ⟨hn,rfl⟩) λb o q1 _ e=>kept b o q1 e)))
 ·have pos:0<n:=Nat.pos_of_ne_zero hn
  refine Qa (Zk (W.item 0 t _ _ pos st λv g tk hv st1 kept=>?_));have hS1:IsL g S #[] c:=kept S _ away hS;refine Qa (Qd ?_);refine Qa (m:=updateSeq S (λ_=>#[v,v])) (Kh hS1 rfl ?_);rw[fK]
  exact Qd ⟨Zz Jq _,FT W cmp apart (n-1) 0 _ v _ (by lia) (W.frame _ _ _ st1 λb q o e=>(Q8 _ _ (λz:S=b=>apart (by rw[z];exact q))).trans e) hv (JE _ hS1 rfl)
   λv2 g2 tk2 hv2 kept2=>want v2 g2 tk2 (.inr ⟨pos,hv2⟩) λb o q1 q2 e=>kept2 b o q1 q2 ((Q8 _ _ (Ne.symm q2)).trans (kept b o q1 e))⟩
end
def mxI:Int->List Int->Int
 |m,[]=>m
 |m,x::xs=>mxI (if x>m then x else m) xs
theorem pJ:∀(xs:List Int) (m:Int),(mxI m xs=m\/mxI m xs∈xs)/\m<=mxI m xs/\∀a∈xs,a<=mxI m xs
 |[],m=>⟨.inl rfl,Int.le_refl _,λa h=>by cases h⟩
 |x::xs,m=>by
  obtain⟨h1,h2,h3⟩:=pJ xs (if x>m then x else m);show(mxI (if x>m then x else m) xs=m\/_)/\_;have c1:m<=(if x>m then x else m):=by split<;>lia
  have c2:x<=(if x>m then x else m):=by split<;>lia
  refine⟨?_,Int.le_trans c1 h2,λa ha=>?_⟩
  ·rcases h1 with h1 | h1
   ·by_cases g:x>m
    ·rw[if_pos g] at h1 ⊢;exact .inr (by rw[show mxI m (x::xs)=mxI (if x>m then x else m) xs from rfl,if_pos g,h1];exact Qj)
    ·rw[if_neg g] at h1 ⊢;exact .inl h1
   ·exact .inr (Qg _ h1)
  ·rcases Qn.mp ha with z | z
   ·rw[z];exact Int.le_trans c2 h2
   ·exact h3 a z
theorem zw{m M:Int}{xs:List Int}(h1:M∈m::xs)(h2:∀a∈m::xs,a<=M):M=mxI m xs:=by
 obtain⟨q1,q2,q3⟩:=pJ xs m
 have u1:mxI m xs<=M:=by
  rcases q1 with z | z
  ·rw[z];exact h2 m Qj
  ·exact h2 _ (Qg _ z)
 have u2:M<=mxI m xs:=by
  rcases Qn.mp h1 with z | z
  ·rw[z];exact q2
  ·exact q3 M z
 lia
def cg:List D->Option (List Int)
 |[]=>some []
 |.int i::ds=>(cg ds).bind λr=>some (i::r)
 |_=>none
theorem mX(l:List Int):cg (l.map D.int)=some l:=by
 induction l with
 |nil=>rfl
 |cons i l ih=>show(cg (l.map D.int)).bind _=_;rw[ih];rfl
theorem dD{K:Qe}{G:Hp}{xs:List V}{ds:List D}{ns:List Int}(h:DenL K G xs ds):cg ds=some ns->xs=ns.map V.int:=by
 refine DenL.ind (P:=λxs ds=>∀ns,cg ds=some ns->xs=ns.map V.int) (λns e=>by cases e;rfl) (λ{x d xs ds} h _ y ns e=>?_) h ns;cases d with
 |int i=>
  obtain⟨r,e1,e2⟩:=ai (show(cg ds).bind _=some ns from e);cases e2;rw[h.intV,y _ e1];rfl
 |_=>cases e
section
variable{prog:QJ}{w:QL}{Ar:QU}{Ex:Qb->Qc->Prop}{t:Qc}
theorem tN{id:String}{b:ZU}{args:List Qb}{kw:List (Str×Qb)}{Q:Qb->Qc->Prop}(hk:builtinKind id=none)(hp:plainId id=true)(hb:entryFor table id=some b)(ha:argsOk id ⟨args,kw⟩)
  (hc:Qm (Qo prog w) Ar.in1 (b ⟨args,kw⟩) (λfin t'=>match fin with
   |.done f=>match(Except.ok f:Result) with
    |.ok (.ret v)=>Q v t'
    |.ok _=>False
    |.error e=>Ex e t'
   |.again c'=>c'.quiet=true/\JO (Qo prog w) Ar c' (λr t'=>match r with
    |.ok (.ret v)=>Q v t'
    |.ok _=>False
    |.error e=>Ex e t') t') Ex t):Qm (Qo prog w) Ar (call (.builtin id) args kw) Q Ex t:=by
 refine wpAny_call (codeAny_call_builtin hp hb ?_);simp only[checkBuiltinCall,hk];cases sg:Manifest.signature? id with
 |none=>exact Qd hc
 |some sig=>
  have ok:Bind.checkArgs id sig ⟨args,kw⟩=pure ():=by simpa only[argsOk,sg] using ha
  simp only[ok];exact Qd hc
theorem uS(a d:Qb):argsOk "max" ⟨[a],[("default",d)]⟩:=by unfold argsOk;kernel_rfl
theorem DZ{l:Addr}{d:Qb}{xs:Array (Int×Tok)}{Q:Qb->Qc->Prop}(hh:Ar.handled=none)(ls:t.heap.IsList l (intItems xs))
  (want:∀v g tk,((xs.size=0/\v=d)\/(0<xs.size/\(intItems xs)[JD (λi j=>decide (numAt xs i>numAt xs j)) (xs.size-1)]?=some v))->(∀b o,t.heap.get? b=some o->g.get? b=some o)->Q v { t with heap:=g,toks:=tk }) :
  Qm (Qo prog w) Ar (call (.builtin "max") [.ref l] [("default",d)]) Q Ex t:=by
 refine tN F.kind_max F.plain_max F.entry_max (uS _ _) ?_;refine Qa (m:=Builtin.Builtins.bindParams "max" ["key","default"] 0 ⟨[],[("default",d)]⟩) (wpAny_of_eq (a:=[none,some d]) rfl (Qa (Qd ?_)));refine Qa (iter_intList ls λt2 e st hfp hl=>?_);subst e;refine Qa (Jd ?_);have sz:(intItems xs).size=xs.size:=by simp[intItems]
 have W:=Walks.list (prog:=prog) (w:=w) (A:=Ar.in1) hh t.heap.objs.size l hl (intItems xs);have ap:(t.heap.push { cls:=.type "list_iterator",data:=.fields #[.ref l,.int 0 0] }).objs.size∉[t.heap.objs.size,l]:=λz=>Ja _ (hfp _ z);rw[fK];refine Qd ⟨Zz Jq _,zd W (CmpOf.ints_gt (numAt xs) (λ_ _=>intItems_at)) ap (W.frame _ _ _ st λb _ o e=>Qh _ e) (QF _ rfl) λv g tk hv kept=>?_⟩;refine want v g tk (by rw[sz] at hv;exact hv) λb o e=>?_;have lt:=Qz e;refine kept b o (λz=>?_) (QQ (QS lt (by rw[Kr];exact Nat.le_succ _))) (Qh _ (Qh _ e));rw[Qt.mp z] at lt;exact Ja _ lt
end
section
variable{X:Cx}{a c:Expr}{fa fc:Ev->Option D}{pos:Pos}
theorem tJ{its:List Qb}{ns:List Int}{xs:Array (Int×Tok)}(hi:JP its ns)(e:its.toArray=intItems xs){v:Qb}{m:Int}{r:List Int}(en:ns=m::r)
  (hv:(intItems xs)[JD (λi j=>decide (numAt xs i>numAt xs j)) (xs.size-1)]?=some v):∃tk,v=.int (mxI m r) tk:=by
 have hns:ns=xs.toList.map (·.1):=by rw[<-hi.numsOf,<-nums_intItems,<-e]
 have hsz:ns.length=xs.size:=by rw[hns];simp
 obtain⟨tk,rfl⟩:=intItems_at hv;obtain⟨b1,b2⟩:=argBest_gt (numAt xs) (xs.size-1);have pos:0<xs.size:=by rw[<-hsz,en];simp
 refine⟨tk,?_⟩
 have hm:numAt xs (JD (λi j=>decide (numAt xs i>numAt xs j)) (xs.size-1))=mxI m r:=by
  refine zw ?_ λu hu=>?_
  ·rw[<-en,hns,numAt_eq];exact getD_mem (by rw[Qi,Qu];lia)
  ·rw[<-en,hns] at hu
   obtain⟨j,hj,rfl⟩:=mem_getD hu;rw[Qi,Qu] at hj;rw[<-numAt_eq];exact b2 j (by lia)
 rw[hm]
def pI:D->D->Option D:=λx d=>match x with | .lst ds=>(match cg ds with | some []=>some d | some (m::r)=>some (.int (mxI m r)) | none=>none) | _=>none
theorem yj{p kp:Pos}(ha:DE X a fa)(hd:DE X c fc)(hc:X.calm=true)(hm:X.mg "max" = none)(hg:Gl X "max":=by rfl)
  (hst:Qy [a] X.env=(false,eval a X.env)::Qy [] X.env:=by rfl) (he:JG pos (Qy [a] X.env)=(false,eval a X.env)::JG pos (Qy [] X.env):=by rfl) (hpl:(JG pos (Qy [a] X.env)).any (·.1)=false:=by rfl)
  (hall:(backToKw pos (ZJ [⟨some "default",c,kp⟩] X.env)).all (·.1.isSome)=true:=by rfl) (hkw:(backToKw pos (ZJ [⟨some "default",c,kp⟩] X.env)).any (·.1.isNone)=false:=by rfl)
  (hnm:(backToKw pos (ZJ [⟨some "default",c,kp⟩] X.env)).filterMap (·.1)=[Zs "default"]:=by rfl):DE X (.Call (.Name "max" p) [a] [⟨some "default",c,kp⟩] pos) (e2 pI fa fc):=by
 obtain⟨ta,a1,a2⟩:=ha;obtain⟨tc,c1,c2⟩:=hd;refine⟨λσ H Q=>ud ta BA σ H λvs H1=>ud tc BA σ H1 λzs H2=>∃l ns v,vs=[.ref l]/\zs=[v]/\SqL X.K H2 l (ns.map V.int)/\(ns=[]->Q v H2)/\∀m r,ns=m::r->Q (.int (mxI m r)) H2,λpins s σ H Q I h=>?_,λHe G H σ ε d Q gh E ef q=>?_⟩
 ·refine KU (iT I hg hm boot_max ?_ (by decide) (by decide))
  refine callWith_kw (thn (bR a1 cR hst pos pins s σ H _ I h) λus s1 ⟨vs,H1,I1,r1,q1⟩=>?_) he hpl hall hkw;refine thn (Bb (nm:=some "default") (kpos:=kp) c1 Dl pos pins s1 σ H1 _ I1 q1) λws s2 ⟨zs,H2,I2,r2,q2⟩=>?_;obtain⟨l,ns,v,rfl,rfl,hq,qe,qc⟩:=q2;obtain⟨u,rfl,ru⟩:=r1.one;obtain⟨uv,rfl,rv⟩:=r2.one;cases ru;obtain⟨its,r,pl,hz⟩:=I2.list hq;have hi:JP its ns:=eO r;have⟨xs,e⟩:=hi.allInts.items
  have hsz:ns.length=xs.size:=by
   have:ns=xs.toList.map (·.1):=by rw[<-hi.numsOf,<-nums_intItems,<-e]
   rw[this];simp
  have hl:=pl.isList;rw[e] at hl;rw[hnm];refine DZ (I2.ok.hd hc) hl λv' g tk hv kept=>?_;have I3:=I2.kept (t':=tk) kept;rcases hv with⟨z,rfl⟩ | ⟨z,hv⟩
  ·exact⟨v,H2,I3,rv,qe (List.eq_nil_of_length_eq_zero (by lia))⟩
  ·cases en:ns with
   |nil=>rw[en] at hsz;simp at hsz;lia
   |cons m r=>
    obtain⟨tk',rfl⟩:=tJ hi e en hv;exact⟨.int (mxI m r),H2,I3,⟨_,rfl⟩,qc m r en⟩
 ·obtain⟨x,e1,ef⟩:=ai ef
  obtain⟨y,e2',ef⟩:=ai ef;refine a2 He G H σ ε x _ gh E e1 λv1 G1 H1 g1 d1=>?_;refine c2 He G1 H1 σ ε y _ g1.gh (E.grow g1) e2' λv2 G2 H2 g2 d2=>?_;unfold pI at ef;split at ef
  ·obtain⟨l,xs,rfl,h1,h2⟩:=d1.lstV
   have g:=g1.trans g2;split at ef
   ·rename_i et
    cases ef;have:=dD h2 et;subst this;exact⟨l,[],v2,rfl,rfl,(g2.gg.trans g2.gh).seq h1,λ_=>q _ G2 H2 g d2,λm r z=>(nomatch z)⟩
   ·rename_i m r et
    cases ef;have:=dD h2 et;subst this
    exact⟨l,m::r,v2,rfl,rfl,(g2.gg.trans g2.gh).seq h1,(λz=>nomatch z),λm' r' z=>by
     cases z
     exact q _ G2 H2 g (.int _)⟩
   ·cases ef
  ·cases ef
def yC:List D->Option D
 |[.lst ds]=>(match cg ds with | some (m::r)=>some (.int (mxI m r)) | _=>none)
 |_=>none
theorem Bq(hc:X.calm=true):kU X (.builtin "max") yC:=by
 refine⟨λxs H Q=>∃l m r,xs=[.ref l]/\SqL X.K H l ((m::r).map V.int)/\Q (.int (mxI m r)) H,λpins s σ H xs us Q I rv h=>?_,λG H vs ds d Q gh hd e q=>?_⟩
 ·obtain⟨l,m,r,rfl,hq,q⟩:=h
  obtain⟨u,rfl,ru⟩:=rv.one;cases ru;obtain⟨its,rr,pl,hz⟩:=I.list hq;have hi:JP its (m::r):=eO rr;have⟨xs,e⟩:=hi.allInts.items
  have hsz:(m::r).length=xs.size:=by
   have:(m::r)=xs.toList.map (·.1):=by rw[<-hi.numsOf,<-nums_intItems,<-e]
   rw[this];simp
  have hl:=pl.isList;rw[e] at hl;refine max_intList (I.ok.hd hc) hl (by rw[<-hsz];simp) λv g tk hv kept=>?_;obtain⟨tk',rfl⟩:=tJ hi e rfl hv;exact⟨.int (mxI m r),H,I.kept (t':=tk) kept,⟨_,rfl⟩,q⟩
 ·unfold yC at e
  split at e
  ·split at e
   ·rename_i m r et
    cases e
    cases hd with | cons h1 h2=>
     cases h2;obtain⟨l,xs,rfl,h3,h4⟩:=h1.lstV;have:=dD h4 et;subst this;exact⟨l,m,r,rfl,gh.seq h3,q _ G H (.refl gh) (.int _)⟩
   ·cases e
  ·cases e
end
def gH:List D->Option (List Bool)
 |[]=>some []
 |.bl b::ds=>(gH ds).bind λr=>some (b::r)
 |_=>none
theorem iq(l:List Bool):gH (l.map D.bl)=some l:=by
 induction l with
 |nil=>rfl
 |cons i l ih=>show(gH (l.map D.bl)).bind _=_;rw[ih];rfl
theorem nq{K:Qe}{G:Hp}{xs:List V}{ds:List D}{ns:List Bool}(h:DenL K G xs ds):gH ds=some ns->xs=ns.map V.bl:=by
 refine DenL.ind (P:=λxs ds=>∀ns,gH ds=some ns->xs=ns.map V.bl) (λns e=>by cases e;rfl) (λ{x d xs ds} h _ y ns e=>?_) h ns;cases d with
 |bl i=>
  obtain⟨r,e1,e2⟩:=ai (show(gH ds).bind _=some ns from e);cases e2;rw[h.blV,y _ e1];rfl
 |_=>cases e
theorem lJ:∀{bs:List Bool} {us:List Qb},a9 (bs.map V.bl) us->us=bs.map Z1
 |[],_,.nil=>rfl
 |b::bs,_,.cons r rs=>by rw[lJ rs,show _=Z1 b from r];rfl
theorem m9:∀bs:List Bool,(QE bs.length).all (λi=>(bs[i]?).getD true)=bs.all id
 |[]=>rfl
 |b::bs=>by
  rw[QA,Kk,KG,List.all_map,KG,<-m9 bs];rfl
section
variable{X:Cx}{a b c:Expr}{fa fb fc:Ev->Option D}{pos:Pos}
def qx:List D->Option D
 |[.lst ds]=>(gH ds).bind λbs=>some (.bl (bs.all id))
 |_=>none
theorem DN(hc:X.calm=true):kU X (.builtin "all") qx:=by
 refine⟨λxs H Q=>∃(l:Addr) (bs:List Bool),xs=[.ref l]/\SqL X.K H l (bs.map V.bl)/\Q (.bl (bs.all id)) H,λpins s σ H xs us Q I rv h=>?_,λG H vs ds d Q gh hd e q=>?_⟩
 ·obtain⟨l,bs,rfl,hq,q⟩:=h
  obtain⟨u,rfl,ru⟩:=rv.one;cases ru;obtain⟨its,rr,pl,hz⟩:=I.list hq;have ei:=lJ rr;subst ei;have hl:=pl.isList;have lt:l<s.heap.objs.size:=let⟨_,there,_⟩:=hl;Qz there;apply call_all_walk;apply Km hl;refine⟨s.heap.objs.size,_,_,_,_,_,λi=>(bs[i]?).getD true,rfl,Walks.list (A:=X.A.in1) (I.ok.hd hc) _ l (QQ lt) _,⟨⟨_,QF _ rfl,rfl,rfl⟩,hl.push _⟩,λi v t Q' E' hv hQ=>?_,λg tk kept=>?_⟩
  ·have hv':(bs.map Z1)[i]?=some v:=by simpa using hv
   rw[Qx] at hv';obtain⟨k,ek,rfl⟩:=a_ hv';have hQ2:Q' k t:=by simpa[ek] using hQ
   exact JN hQ2
  ·refine⟨.bl (bs.all id),H,I.kept (t':=tk) λb o e=>kept b o (λz=>?_) (Qh _ e),?_,q⟩
   ·rw[Qt.mp z] at e
    exact absurd (Qz e) (Ja _)
   ·have hn:(bs.map Z1).toArray.size=bs.length:=by simp
    rw[hn,m9];rfl
 ·unfold qx at e
  split at e
  ·obtain⟨bs,eb,e⟩:=ai e
   cases e
   cases hd with | cons h1 h2=>
    cases h2;obtain⟨l,xs,rfl,h3,h4⟩:=h1.lstV;have:=nq h4 eb;subst this;exact⟨l,bs,rfl,gh.seq h3,q _ G H (.refl gh) (.bl _)⟩
  ·cases e
theorem yN(i j:Nat){x y:Str}{ga:Ev->Option (List D)}{px py pt:Pos}{kt k2 pt2}(hN:X.N.Nodup)(ha:DA X [a,b] ga)(hc:X.calm=true:=by rfl)(hi:X.N[i]?=some x:=by rfl)(hj:X.N[j]?=some y:=by rfl)(hij:i≠j:=by decide)
  (hx:X.env.scope.names.lookup x=some .local:=by rfl) (hy:X.env.scope.names.lookup y=some .local:=by rfl)
  (hw:swappedStores [.Tuple [.Name x px,.Name y py] kt pt] (.Tuple [a,b] k2 pt2) X.env=pure (some [x,y]):=by rfl)
  (hs:swapsWithSole [.Tuple [.Name x px,.Name y py] kt pt] (.Tuple [a,b] k2 pt2) pos.line X.env=pure false:=by rfl) :
  DS X (.Assign [.Tuple [.Name x px,.Name y py] kt pt] (.Tuple [a,b] k2 pt2) pos) (AK i j ga):=by
 obtain⟨t,a1,a2⟩:=ha;refine⟨_,Ef hc hN hi hj hij hx hy a1 hw hs,λHe Ge G H σ ε r W S e P=>?_⟩;unfold AK at e;split at e
 ·rename_i dx dy eg
  cases e;refine a2 He G H σ ε _ _ S.g.gh S.e eg λvs G' H' g hd=>?_
  cases hd with | cons h1 h2=>cases h2 with | cons h2 h3=>
   cases h3;exact⟨_,_,rfl,P _ G' H' ⟨S.g.trans g,((S.e.grow g).put h1).put h2⟩⟩
 ·cases e
end
def flD:D->Option V
 |.non=>some .non
 |.bl b=>some (.bl b)
 |.int i=>some (.int i)
 |.str x=>some (.str x)
 |_=>none
def mG:List D->Option (List V)
 |[]=>some []
 |d::ds=>(flD d).bind λv=>(mG ds).bind λr=>some (v::r)
def GI:D->Option (List D)
 |.lst ds=>some ds
 |.tup ds=>some ds
 |_=>none
def inD(neg:Bool):D->D->Option D:=λx y=>(flD x).bind λv=>(GI y).bind λds=>(mG ds).bind λvs=>some (.bl (if neg then !inV v vs else inV v vs))
theorem uD{K:Qe}{G:Hp}{v w:V}{d:D}(h:Den K G v d)(e:flD d=some w):v=w/\gM v=true:=by
 cases h<;>cases e<;>exact⟨rfl,rfl⟩
theorem lR{K:Qe}{G:Hp}:∀{xs:List V} {ds:List D} {ws:List V},DenL K G xs ds->mG ds=some ws->xs=ws/\xs.all gM=true
 |_,_,_,.nil,e=>by cases e;exact⟨rfl,rfl⟩
 |_,_,_,.cons h hs,e=>by
  obtain⟨v,e1,e⟩:=ai e;obtain⟨r,e2,e⟩:=ai e;cases e;obtain⟨rfl,f1⟩:=uD h e1;obtain⟨rfl,f2⟩:=lR hs e2;exact⟨rfl,by rw[KG,f1,f2];rfl⟩
section
variable{X:Cx}{a b c:Expr}{fa fb fc:Ev->Option D}{pos:Pos}
theorem sM{neg:Bool}(G H:Hp)(x y:V)(dx dy d:D)(Q:VK)(gh:aI G H)(hx:cb X.K G H x dx)(hy:cb X.K G H y dy)(e:inD neg dx dy=some d)(q:∀v G' H',Grow G H G' H'->Den X.K G' v d->Q v H'):rIn X.K neg x y H Q:=by
 obtain⟨v,e1,e⟩:=ai e;obtain⟨ds,e2,e⟩:=ai e;obtain⟨vs,e3,e⟩:=ai e;cases e
 have hx':Den X.K G x dx:=by
  rcases hx with h | ⟨_,_,_,_,rfl,_⟩
  ·exact h
  ·cases e1
 obtain⟨rfl,f1⟩:=uD hx' e1;cases dy with
 |lst es=>
  cases e2;obtain⟨p,xs,rfl,h1,h2⟩:=hy.lst gh;obtain⟨rfl,f2⟩:=lR h2 e3;exact⟨p,_,rfl,.inl h1,f1,f2,q _ G H (.refl gh) (.bl _)⟩
 |tup es=>
  cases e2;obtain⟨p,xs,rfl,_,h1,h2⟩:=hy.tup gh;obtain⟨rfl,f2⟩:=lR h2 e3;exact⟨p,_,rfl,.inr h1,f1,f2,q _ G H (.refl gh) (.bl _)⟩
 |_=>cases e2
theorem yV:OpD X (QX .In) (inD false):=⟨_,vZ,sM⟩
theorem yZ:OpD X (QX .NotIn) (inD true):=⟨_,oK,sM⟩
end
def E_:D->Bool
 |.tup _=>false
 |.lst _=>false
 |.dic _=>false
 |_=>true
theorem Den.scal{K:Qe}{G G':Hp}{v:V}{d:D}(h:Den K G v d)(s:E_ d=true):Den K G' v d:=by
 cases h with
 |non=>exact .non
 |bl b=>exact .bl b
 |int i=>exact .int i
 |str x=>exact .str x
 |tup _ _=>cases s
 |lst _ _=>cases s
 |dic _ _ _=>cases s
section
variable{X:Cx}{a b c:Expr}{fa fb fc:Ev->Option D}{pos:Pos}
def BI(f f':D->D->Option D)(fa fb fc:Ev->Option D):Ev->Option Bool:=λε=>asB (eCh f f' fa fb fc ε)
theorem Fo{op op':CmpOp}{f f':D->D->Option D}(ho:OpD X (QX op) f)(ho':OpD X (QX op') f')(ha:DB X a fa)(hb:DB X b fb)(hc:DB X c fc)(hm:lastMarks [op,op'] [b,c]=false:=by with_unfolding_all rfl) :
  DT X (.Compare a [op,op'] [b,c] pos) (BI f f' fa fb fc):=by
 obtain⟨r,o1,o2⟩:=ho;obtain⟨r',p1,p2⟩:=ho';obtain⟨ta,a1,a2⟩:=ha;obtain⟨tb,b1,b2⟩:=hb;obtain⟨tc,c1,c2⟩:=hc;refine⟨_,xN o1 p1 a1 b1 c1 hm,λHe G H σ ε k Q gh E ef q=>?_⟩;obtain⟨x,e1,ef⟩:=ai (pH ef);obtain⟨y,e2,ef⟩:=ai ef;obtain⟨z,e3,ef⟩:=ai ef;refine a2 He G H σ ε x _ gh E e1 λv G1 H1 g1 d1=>?_;refine b2 He G1 H1 σ ε y _ g1.gh (E.grow g1) e2 λu G2 H2 g2 d2=>?_;split at ef
 ·rename_i j
  refine o2 G2 H2 v u x y (.bl j) _ g2.gh (d1.grow g2) d2 e3 λw G3 H3 g3 d3=>⟨j,d3.blV,?_⟩;cases j with
  |true=>
   rw[if_pos rfl] at ef ⊢;obtain⟨w',e4,ef⟩:=ai ef;refine c2 He G3 H3 σ ε w' _ g3.gh (((E.grow g1).grow g2).grow g3) e4 λv4 G4 H4 g4 d4=>?_;exact p2 G4 H4 u v4 y w' (.bl k) _ g4.gh ((d2.grow g3).grow g4) d4 ef λv5 G5 H5 g5 d5=>⟨k,d5.blV,q G5 H5 (g1.trans (g2.trans (g3.trans (g4.trans g5))))⟩
  |false=>
   rw[if_neg Ql] at ef ⊢;cases ef;exact⟨false,rfl,q _ _ (g1.trans (g2.trans g3))⟩
 ·cases ef
end
end Dn
namespace HG
open PySem PyProof.Rows
def iK:List Int->List Int->Bool
 |[],_=>false
 |_::_,[]=>true
 |x::xs,y::ys=>if x=y then iK xs ys else decide (y<x)
theorem yT(x y:Int)(xs ys:List Int):iK (x::xs) (y::ys)=if x=y then iK xs ys else decide (y<x):=rfl
theorem xK(A:QU)(s:Qc)(a:Int)(t:Tok)(c:Int)(u:Tok)(prog:QJ)(w:QL)(E:Qb->Qc->Prop)(Q:Qb->Qc->Prop)(h:Q (.bool (decide (c<a))) s) :
  Qm (Qo prog w) A (richCompare .Gt (.int a t) (.int c u)) Q E s:=
 (PyProof.Rows.gt_int h:Qm (Qo prog w) A (QX .Gt (.int a t) (.int c u)) Q E s)
section
open PySem.SeqAt
open PySem.AutoSeq1 (wpAny_loadPart')
open PySem.MeetsSeq PySem.MeetsSeq2 PySem.MeetsSeq3
theorem mB(l b:Addr)(items items2:Array Qb)(n n2:Nat)(dd dd2:Option Addr)(sl sl2:Array (Option Qb))(ns ms:List Int)(hi:JP items.toList ns)(hj:JP items2.toList ms) :
  Meets (ZU.«tuple.__gt__» ⟨[.ref l,.ref b],[]⟩)
   (λ_ R s=>s.heap.get? l=some { cls:=.type "tuple",dict:=dd,data:=.seq items n,slots:=sl }/\s.heap.get? b=some { cls:=.type "tuple",dict:=dd2,data:=.seq items2 n2,slots:=sl2 }/\
    R (.ok (.ret (.bool (iK ns ms)))) s):=
 .of_wp λprog w A R s h=>by
  obtain⟨hp,g,d,tk,os⟩:=s;obtain⟨hl,hb,h⟩:=h;have f2:=AutoSeq1.sub_tuple_tuple;have z1:items.size=ns.length:=by rw[<-hi.length];simp
  have z2:items2.size=ms.length:=by rw[<-hj.length];simp
  wp_walk using Kd hl,Kd hb,wpAny_forIn_list _ (λrest b s'=>b.1=none/\s'=⟨hp,g,d,tk,os⟩/\∃(vs ws:List Qb) (ns' ms':List Int),rest=vs.zip ws/\
   JP vs ns'/\JP ws ms'/\ns'.length+items2.size=ms'.length+items.size/\R (.ok (.ret (.bool (iK ns' ms')))) ⟨hp,g,d,tk,os⟩) _
  case turn=>
   rintro⟨y,x⟩ rest b s' ⟨hb',rfl,vs,ws,ns',ms',hz,hvi,hwi,hlen,hR⟩;cases hvi with
   |nil=>rw[List.zip_nil_left] at hz;cases hz
   |cons a t hvi'=>
    cases hwi with
    |nil=>rw[List.zip_nil_right] at hz;cases hz
    |cons c u hwi'=>
     rw[List.zip_cons_cons] at hz;injection hz with hyx hrest
     injection hyx with hy hx
     subst hy hx;rw[yT] at hR;simp only[QA] at hlen;obtain⟨e,he,hiff⟩:=HT.yB A.in1 ⟨hp,g,d,tk,os⟩ a t c u;refine Qa (he prog w _ _ ?_);cases e with
     |true=>
      rw[if_pos (hiff.mp rfl)] at hR
      wp_walk
      exact⟨rfl,rfl,_,_,_,_,hrest,hvi',hwi',by lia,hR⟩
     |false=>
      rw[if_neg (λq=>absurd (hiff.mpr q) Ql)] at hR;have hri:=xK A.in1 ⟨hp,g,d,tk,os⟩ a t c u prog w
      wp_walk using hri
      exact⟨_,rfl,by simpa using hR⟩
  case fin=>
   rintro⟨b1,b2⟩ s' ⟨hb',rfl,vs,ws,ns',ms',hz,hvi,hwi,hlen,hR⟩;simp only at hb';subst hb'
   have hv:iK ns' ms'=decide (items2.size<items.size):=by
    cases hvi with
    |nil=>
     cases hwi with
     |nil=>
      simp only[ZV] at hlen;exact(decide_eq_false (by lia)).symm
     |cons c u hw=>
      simp only[ZV,QA] at hlen;exact(decide_eq_false (by lia)).symm
    |cons a t hv=>
     cases hwi with
     |nil=>
      simp only[ZV,QA] at hlen;exact(decide_eq_true (by lia)).symm
     |cons c u hw=>
      rw[List.zip_cons_cons] at hz;cases hz
   rw[hv] at hR
   wp_walk
   exact⟨_,rfl,by simpa[Builtin.Tuple.tupleCompareSizes] using hR⟩
  case h=>
   exact⟨rfl,rfl,items.toList,items2.toList,ns,ms,rfl,hi,hj,by lia,h⟩
end
theorem q_{prog:QJ}{w:QL}{A:QU}{E:Qb->Qc->Prop}{s:Qc}{l b:Addr}{items items2:Array Qb}{ns ms:List Int}{Q:Qb->Qc->Prop}(hl:IsTup s.heap l items)(hb:IsTup s.heap b items2)(hi:JP items.toList ns)(hj:JP items2.toList ms)
  (hu:A.units<JR) (h:Q (.bool (iK ns ms)) s):Qm (Qo prog w) A (richCompare .Gt (.ref l) (.ref b)) Q E s:=by
 obtain⟨⟨cls,dd,data,sl⟩,ho,hc,n,hd⟩:=id hl;obtain⟨⟨cls2,dd2,data2,sl2⟩,ho2,hc2,n2,hd2⟩:=id hb;simp only at hc hd hc2 hd2;subst hc hd hc2 hd2
 exact richCompare_meets_room (op:=.Gt) ⟨_,ho,rfl⟩ ⟨_,ho2,rfl⟩ PySem.F.slot_tuple_gt PySem.F.entry_tuple_gt (PySem.F.args_tuple_gt_2 _ _) (mB l b items items2 n n2 dd dd2 sl sl2 ns ms hi hj)
  ⟨ho,ho2,show Z1 (iK ns ms)≠Value.notImplemented/\Q (.bool (iK ns ms)) s from⟨(λx=>nomatch x),h⟩⟩ hu
end HG
namespace Dn
open PySem PySem.Spec PyProof.Rows L2
section
variable{prog:QJ}{w:QL}{Ar:QU}{Rs:Result->Qc->Prop}{It S:Addr}{fp wr:List Addr}{n:Nat}{Pv:Nat->Qb->Prop}{St:Nat->Heap->Prop}{kw:List (Str×Qb)}{hv:Heap->Prop}{bt:Nat->Nat->Bool}
theorem EO(W:Walks prog w Ar.in1 It fp wr n Pv St)(cmp:∀i j vi vj (t:Qc) (Q:Qb->Qc->Prop) (E:Qb->Qc->Prop),Pv i vi->Pv j vj->hv t.heap->Q (.bool (bt i j)) t->Qm (Qo prog w) Ar.in1 (richCompare .Gt vi vj) Q E t)
  (kp:∀g g',hv g->(∀b o,b∉wr->b≠S->g.get? b=some o->g'.get? b=some o)->hv g') (apart:S∉fp):∀(k j:Nat) (t:Qc) (best:Qb) (c:Nat),j+1+k=n->St (j+1) t.heap->hv t.heap->Pv (JD bt j) best->IsL t.heap S #[best,best] c->
  (∀v g tk,Pv (JD bt (n-1)) v->(∀b o,b∉wr->b≠S->t.heap.get? b=some o->g.get? b=some o)->Rs (.ok (.ret v)) { t with heap:=g,toks:=tk })->JO (Qo prog w) Ar (.builtin "max.loop" ⟨[.ref It,.none,.ref S],kw⟩) Rs t:=by
 have away:S∉wr:=λz=>apart (W.sub _ z);intro k
 induction k with
 |zero=>
  intro j t best c ej st hv0 hb hS want;refine Zf Z6 ?_;rw[JI Jq _];refine Qa (m:=seqItems? (.ref S)) (ZF hS rfl (Qa (Zk (W.done t _ _ (ej▸st) λg tk kept=>?_))));have hS1:IsL g S #[best,best] c:=kept S _ away hS;refine Qa (m:=updateSeq S (λ_=>#[])) (Kh hS1 rfl (Qa (Z3 (Qd ?_))));refine want best _ tk (by rw[<-ej];exact hb) λb o q1 q2 e=>(Q8 _ _ (Ne.symm q2)).trans (kept b o q1 e)
 |succ k ih=>
  intro j t best c ej st hv0 hb hS want;have more:j+1<n:=by lia
  refine Zf Z6 ?_;rw[JI Jq _];refine Qa (m:=seqItems? (.ref S)) (ZF hS rfl (Qa (Zk (W.item (j+1) t _ _ more st λv g tk hpv st1 kept=>?_))));have hS1:IsL g S #[best,best] c:=kept S _ away hS;have hv1:hv g:=kp _ _ hv0 λb o q1 _ e=>kept b o q1 e;refine Qa (Qd (Qa (Zk (Q0 (Qa (cmp (j+1) (JD bt j) v best _ _ _ hpv hb hv1 (Qa (Q0 (JN (Qa (Z3 (Qd ?_))))))))))));cases yes:bt (j+1) (JD bt j) with
  |true=>
   rw[if_pos rfl];refine Qa (m:=updateSeq S (λ_=>#[v,v])) (Kh hS1 rfl (Qa (Z3 ?_)));rw[fK];refine Qd ⟨Zz Jq _,ih (j+1) _ v _ (by lia) (W.frame _ _ _ st1 λb q o e=>(Q8 _ _ (λz:S=b=>apart (by rw[z];exact q))).trans e) (kp _ _ hv1 λb o _ q2 e=>(Q8 _ _ (Ne.symm q2)).trans e) ?_ (JE _ hS1 rfl) λv2 g2 tk2 hv2 kept2=>want v2 g2 tk2 hv2 λb o q1 q2 e=>kept2 b o q1 q2 ((Q8 _ _ (Ne.symm q2)).trans (kept b o q1 e))⟩;unfold JD;rw[if_pos yes];exact hpv
  |false=>
   rw[if_neg Ql];refine Qa (Z3 ?_);rw[fK];refine Qd ⟨Zz Jq _,ih (j+1) _ best c (by lia) st1 hv1 ?_ hS1 λv2 g2 tk2 hv2 kept2=>want v2 g2 tk2 hv2 λb o q1 q2 e=>kept2 b o q1 q2 (kept b o q1 e)⟩;unfold JD;rw[yes,if_neg Ql];exact hb
theorem xH(W:Walks prog w Ar.in1 It fp wr n Pv St)(cmp:∀i j vi vj (t:Qc) (Q:Qb->Qc->Prop) (E:Qb->Qc->Prop),Pv i vi->Pv j vj->hv t.heap->Q (.bool (bt i j)) t->Qm (Qo prog w) Ar.in1 (richCompare .Gt vi vj) Q E t)
  (kp:∀g g',hv g->(∀b o,b∉wr->b≠S->g.get? b=some o->g'.get? b=some o)->hv g') (apart:S∉fp) {t:Qc} {c:Nat} (pos:0<n) (st:St 0 t.heap) (hv0:hv t.heap) (hS:IsL t.heap S #[] c)
  (want:∀v g tk,Pv (JD bt (n-1)) v->(∀b o,b∉wr->b≠S->t.heap.get? b=some o->g.get? b=some o)->Rs (.ok (.ret v)) { t with heap:=g,toks:=tk }) :
  JO (Qo prog w) Ar (.builtin "max.loop" ⟨[.ref It,.none,.ref S],kw⟩) Rs t:=by
 have away:S∉wr:=λz=>apart (W.sub _ z);refine Zf Z6 ?_;rw[JI Jq _];refine Qa (m:=seqItems? (.ref S)) (ZF hS rfl (Qa (Zk (W.item 0 t _ _ pos st λv g tk hpv st1 kept=>?_))));have hS1:IsL g S #[] c:=kept S _ away hS;have hv1:hv g:=kp _ _ hv0 λb o q1 _ e=>kept b o q1 e;refine Qa (Qd (Qa (m:=updateSeq S (λ_=>#[v,v])) (Kh hS1 rfl ?_)));rw[fK]
 exact Qd ⟨Zz Jq _,EO W cmp kp apart (n-1) 0 _ v _ (by lia) (W.frame _ _ _ st1 λb q o e=>(Q8 _ _ (λz:S=b=>apart (by rw[z];exact q))).trans e) (kp _ _ hv1 λb o _ q2 e=>(Q8 _ _ (Ne.symm q2)).trans e) hpv (JE _ hS1 rfl)
  λv2 g2 tk2 hv2 kept2=>want v2 g2 tk2 hv2 λb o q1 q2 e=>kept2 b o q1 q2 ((Q8 _ _ (Ne.symm q2)).trans (kept b o q1 e))⟩
end
def fz:List D->Option (List (Int×Int))
 |[]=>some []
 |.tup [.int a,.int b]::ds=>(fz ds).bind λr=>some ((a,b)::r)
 |_=>none
def btP(ps:List (Int×Int))(i j:Nat):Bool:=HG.iK [(ps.getD i (0,0)).1,(ps.getD i (0,0)).2] [(ps.getD j (0,0)).1,(ps.getD j (0,0)).2]
def nK:List D->Option D
 |[.lst ds]=>(fz ds).bind λps=>if 0<ps.length then ds[JD (btP ps) (ps.length-1)]? else none
 |_=>none
theorem j0:∀{ds:List D} {ps:List (Int×Int)},fz ds=some ps->ds.length=ps.length/\∀(i:Nat) d,ds[i]?=some d->d=.tup [.int (ps.getD i (0,0)).1,.int (ps.getD i (0,0)).2]
 |[],ps,e=>by cases e;exact⟨rfl,λi d h=>by simp at h⟩
 |d::ds,ps,e=>by
  unfold fz at e;split at e
  ·rename_i h;cases h
  ·rename_i a b ds' h
   cases h;obtain⟨r,e1,e2⟩:=ai e;cases e2;obtain⟨h1,h2⟩:=j0 e1;refine⟨by simp[h1],λi d hd=>?_⟩;cases i with
   |zero=>simp at hd;subst hd;rfl
   |succ i=>exact h2 i d (by simpa using hd)
  ·cases e
section
variable{X:Cx}
theorem AX{k:Nat}(hr:Room k X.A)(hc:X.calm=true):kU X (.builtin "max") nK:=by
 refine⟨λxs H Q=>∃G l vs ds ps,xs=[.ref l]/\aI G H/\SqL X.K G l vs/\DenL X.K G vs ds/\fz ds=some ps/\0<ps.length/\∀v,vs[JD (btP ps) (ps.length-1)]?=some v->Q v H,λpins s σ H xs us Q I rv h=>?_,λG H vs ds d Q gh hd e q=>?_⟩
 ·obtain⟨G,l,vs,ds,ps,rfl,gh,hq,hd,et,pos,q⟩:=h
  obtain⟨u,rfl,ru⟩:=rv.one;cases ru;obtain⟨its,rr,pl,hz⟩:=I.list (gh.seq hq);obtain⟨n1,n2⟩:=j0 et;have nl:its.length=ps.length:=by rw[<-rr.length,hd.length,n1]
  have hl:=pl.isList;have lt:l<s.heap.objs.size:=let⟨_,there,_⟩:=hl;Qz there
  have at_:∀i v,its[i]?=some v->∃(a:Addr) (arr:Array Qb),v=.ref a/\IsTup s.heap a arr/\JP arr.toList [(ps.getD i (0,0)).1,(ps.getD i (0,0)).2]:=λi v hv=>by
   have hi:i<its.length:=(Qk.mp hv).1;have hx:vs[i]?=some (vs[i]'(by rw[rr.length];exact hi)):=by simp
   obtain⟨d,e1,e2⟩:=hd.getV hx;have:=n2 i d e1;subst this;obtain⟨a,ys,ea,w1,w2⟩:=e2.tupV;obtain⟨u,eu,ru⟩:=rr.get hx;rw[hv] at eu;cases eu;rw[ea] at ru;cases(show v=QI a from ru);obtain⟨arr,r2,p2,_⟩:=I.tuple (aR gh w1);refine⟨a,arr.toArray,rfl,p2,?_⟩
   have:ys=[(ps.getD i (0,0)).1,(ps.getD i (0,0)).2].map V.int:=by
    cases w2 with | cons g1 w2=>cases w2 with | cons g2 w2=>
     cases w2;rw[g1.intV,g2.intV];rfl
   rw[this] at r2;simpa using eO r2
  have sz:its.toArray.size=ps.length:=by simp[nl]
  refine tN F.kind_max F.plain_max F.entry_max (F.args_max1 _) ?_;refine Qa (m:=Builtin.Builtins.bindParams "max" ["key","default"] 0 ⟨[],[]⟩) (wpAny_of_eq (a:=[none,none]) rfl (Qa (Qd ?_)));refine Qa (Km hl (Qa (Jd ?_)));have W:=Walks.list (prog:=X.prog) (w:=X.w) (A:=X.A.in1) (I.ok.hd hc) s.heap.objs.size l (QQ lt) its.toArray
  have ap:(s.heap.push { cls:=.type "list_iterator",data:=.fields #[.ref l,.int 0 0] }).objs.size∉[s.heap.objs.size,l]:=λz=>by
   rw[Kr] at z;simp only[Qn,List.not_mem_nil,or_false] at z;rcases z with z | z
   ·exact absurd z (Nat.succ_ne_self _)
   ·rw[<-z] at lt;exact absurd (Jw (Nat.lt_succ_self _) lt) (Ja _)
  rw[fK]
  refine Qd ⟨Zz Jq _,xH (hv:=λg=>∀b o,s.heap.get? b=some o->g.get? b=some o) (bt:=btP ps) W (λi j vi vj t Q' E' hi hj hg hQ=>?_) (λg g' hg hk b o e=>?_) ap (by rw[sz];exact pos)
   (W.frame _ _ _ (show _/\_ from⟨⟨_,QF _ rfl,rfl,rfl⟩,hl.push _⟩) λb _ o e=>Qh _ e) (λb o e=>Qh _ (Qh _ e)) (QF _ rfl) λv g tk hv kept=>?_⟩
  ·obtain⟨a1,r1,rfl,p1,i1⟩:=at_ i vi (by simpa using hi)
   obtain⟨a2,r2,rfl,p2,i2⟩:=at_ j vj (by simpa using hj);have k1:IsTup t.heap a1 r1:=let⟨o,e,r⟩:=p1;⟨o,hg _ _ e,r⟩;have k2:IsTup t.heap a2 r2:=let⟨o,e,r⟩:=p2;⟨o,hg _ _ e,r⟩;exact HG.q_ k1 k2 i1 i2 (by show X.A.units+1<JR;have:=hr.units;lia) hQ
  ·have l0:=Qz e
   refine hk b o (λz=>?_) (λz=>?_) (hg b o e)
   ·rw[Qt.mp z] at l0;exact Ja _ l0
   ·rw[z,Kr] at l0;exact absurd (Jw (Nat.lt_succ_self _) l0) (Ja _)
  ·rw[sz] at hv
   have I3:Inv X pins σ H { s with heap:=g,toks:=tk }:=I.kept (t':=tk) λb o e=>by
    have l0:=Qz e;refine kept b o (λz=>?_) (λz=>?_) (Qh _ (Qh _ e))
    ·rw[Qt.mp z] at l0;exact Ja _ l0
    ·rw[z,Kr] at l0;exact absurd (Jw (Nat.lt_succ_self _) l0) (Ja _)
   have hv':its[JD (btP ps) (ps.length-1)]?=some v:=by simpa using hv
   have hi:=(Qk.mp hv').1;have hx:vs[JD (btP ps) (ps.length-1)]?=some (vs[JD (btP ps) (ps.length-1)]'(by rw[rr.length];exact hi)):=by simp
   obtain⟨u,eu,ru⟩:=rr.get hx;rw[hv'] at eu;cases eu;exact⟨_,H,I3,ru,q _ hx⟩
 ·unfold nK at e
  split at e
  ·rename_i es
   obtain⟨ps,et,e⟩:=ai e;split at e
   ·rename_i pos
    cases hd with | cons h1 h2=>
     cases h2;obtain⟨l,xs,rfl,h3,h4⟩:=h1.lstV;refine⟨G,l,xs,es,ps,rfl,gh,h3,h4,et,pos,λv hv=>?_⟩;obtain⟨d',e1,e2⟩:=h4.getV hv;rw[e] at e1;cases e1;exact q v G H (.refl gh) e2
   ·cases e
  ·cases e
end
end Dn
namespace L2
open PySem PySem.Spec PyProof.Rows
section
variable{κ:Type}[DecidableEq κ]
def iS(kvs:List (κ×V))(k:κ):Option V:=(kvs.find? λkv=>decide (kv.1=k)).map (·.2)
def lX(kvs:List (κ×V))(k:κ)(v:V):List (κ×V):=
 if(kvs.any λkv=>decide (kv.1=k))=true then kvs.map (λkv=>if kv.1=k then(kv.1,v) else kv) else kvs++[(k,v)]
def Co(kvs:List (κ×V))(k:κ):List (κ×V):=kvs.filter λkv=>decide (kv.1≠k)
theorem lZ{p:κ×V}{r:List (κ×V)}{k:κ}(e:p.1=k):iS (p::r) k=some p.2:=by simp[iS,JT,e]
theorem lW{p:κ×V}{r:List (κ×V)}{k:κ}(e:¬ p.1=k):iS (p::r) k=iS r k:=by simp[iS,JT,e]
theorem qA(k:κ):∀kvs:List (κ×V),(kvs.any λkv=>decide (kv.1=k))=(iS kvs k).isSome
 |[]=>rfl
 |p::r=>by
  rw[Zy]
  by_cases e:p.1=k
  ·simp only[lZ e,decide_eq_true e,Bool.true_or,Option.isSome_some]
  ·rw[lW e,decide_eq_false e,Bool.false_or];exact qA k r
theorem qH(kvs:List (κ×V))(k:κ)(v:V):(lX kvs k v).length<=kvs.length+1:=by
 unfold lX;split
 ·rw[Qi];lia
 ·rw[Qr,QA,ZV];lia
theorem kh.isSome_eq{o:Option V}{u:Option Qb}(r:kh o u):o.isSome=u.isSome:=by
 cases o with
 |none=>cases u with
  |none=>rfl
  |some _=>exact(show False from r).elim
 |some _=>cases u with
  |none=>exact(show False from r).elim
  |some _=>rfl
theorem kh.getD{o:Option V}{u:Option Qb}{d:V}{d':Qb}(r:kh o u)(rd:ba d d'):ba (o.getD d) (u.getD d'):=by
 cases o with
 |none=>cases u with
  |none=>exact rd
  |some _=>exact(show False from r).elim
 |some _=>cases u with
  |none=>exact(show False from r).elim
  |some _=>exact r
theorem KV.val{kvs:List (κ×V)}{vs:List (κ×Qb)}(r:KV kvs vs)(k:κ):kh (iS kvs k) (valueAt vs k):=by
 unfold KV at r
 induction r with
 |nil=>exact Kv
 |@cons p q ps qs h t ih=>
  obtain⟨h1,h2⟩:=h
  by_cases e:p.1=k
  ·have e':q.1=k:=h1.symm.trans e
   have b:valueAt (q::qs) k=some q.2:=by simp[valueAt,JT,e']
   rw[lZ e,b];exact h2
  ·have e':¬ q.1=k:=λz=>e (h1.trans z)
   have b:valueAt (q::qs) k=valueAt qs k:=by simp[valueAt,JT,e']
   rw[lW e,b];exact ih
theorem KV.any{kvs:List (κ×V)}{vs:List (κ×Qb)}(r:KV kvs vs)(k:κ):(kvs.any λkv=>decide (kv.1=k))=vs.any λkv=>decide (kv.1=k):=by
 unfold KV at r
 induction r with
 |nil=>rfl
 |cons h t ih=>rw[Zy,Zy,ih,h.1]
theorem KV.repl{kvs:List (κ×V)}{vs:List (κ×Qb)}(r:KV kvs vs)(k:κ){y:V}{u:Qb}(ry:ba y u) :
  KV (kvs.map λkv=>if kv.1=k then(kv.1,y) else kv) (vs.map λkv=>if kv.1=k then(kv.1,u) else kv):=by
 unfold KV at r ⊢
 induction r with
 |nil=>exact .nil
 |@cons p q ps qs h t ih=>
  rw[Qv,Qv];refine .cons ?_ ih;obtain⟨h1,h2⟩:=h
  by_cases e:p.1=k
  ·rw[if_pos e,if_pos (h1.symm.trans e)];exact⟨h1,ry⟩
  ·rw[if_neg e,if_neg (λz=>e (h1.trans z))];exact⟨h1,h2⟩
theorem KV.put{kvs:List (κ×V)}{vs:List (κ×Qb)}(r:KV kvs vs)(k:κ){y:V}{u:Qb}(ry:ba y u):KV (lX kvs k y) (stored vs k u):=by
 unfold lX stored;rw[r.any k]
 by_cases e:(vs.any λkv=>decide (kv.1=k))=true
 ·rw[if_pos e,if_pos e];exact r.repl k ry
 ·rw[if_neg e,if_neg e];exact Paired.snoc r ⟨rfl,ry⟩
theorem KV.drop{kvs:List (κ×V)}{vs:List (κ×Qb)}(r:KV kvs vs)(k:κ):KV (Co kvs k) (without vs k):=by
 unfold KV at r ⊢;unfold Co without
 induction r with
 |nil=>exact .nil
 |@cons p q ps qs h t ih=>
  obtain⟨h1,h2⟩:=h;rw[Z7,Z7]
  by_cases e:p.1=k
  ·have a:¬ decide (p.1≠k)=true:=by simp[e]
   have b:¬ decide (q.1≠k)=true:=by simp[h1.symm.trans e]
   rw[if_neg a,if_neg b];exact ih
  ·have e':¬ q.1=k:=λz=>e (h1.trans z)
   have a:decide (p.1≠k)=true:=by simp[e]
   have b:decide (q.1≠k)=true:=by simp[e']
   rw[if_pos a,if_pos b];exact .cons ⟨h1,h2⟩ ih
theorem KV.keys{kvs:List (κ×V)}{vs:List (κ×Qb)}(r:KV kvs vs):kvs.map (·.1)=vs.map (·.1):=by
 unfold KV at r
 induction r with
 |nil=>rfl
 |cons h t ih=>rw[Qv,Qv,ih,h.1]
theorem KV.length{kvs:List (κ×V)}{vs:List (κ×Qb)}(r:KV kvs vs):kvs.length=vs.length:=Paired.length r
end
theorem y3{P:QJ}{w:QL}{k:Key}{u:Qb}(r:ba (kV k) u):(cf P w).is k u=true:=by
 cases k with
 |inl i=>obtain⟨t,e⟩:=(show ∃t,u=Value.int i t from r);subst e;exact pP P w i t
 |inr x=>obtain⟨t,e⟩:=(show ∃t,u=Value.str x t from r);subst e;exact ql P w x t
theorem mM{P:QJ}{w:QL}:∀{ks:List Key} {us:List Qb},a9 (ks.map kV) us->ItemsAre (cf P w) ks us
 |[],_,r=>by rw[Kq] at r;cases r;exact .nil
 |k::ks,_,r=>by
  rw[Qv] at r;cases r with
  |cons h t=>exact .cons (y3 h) (mM t)
abbrev KT(H:Hp):List (List Key×V)->List (List Key×Addr×Qb)->Prop:=JU λp q=>p.1=q.1/\H q.2.1=some (.tup (p.1.map kV))/\ba p.2 q.2.2
theorem KT.val{H:Hp}{kvs:List (List Key×V)}{xs:List (List Key×Addr×Qb)}(r:KT H kvs xs)(k:List Key):kh (iS kvs k) ((J6 xs k).map (·.2)):=by
 induction r with
 |nil=>exact Kv
 |@cons p q ps qs h t ih=>
  obtain⟨h1,_,h2⟩:=h
  by_cases e:p.1=k
  ·have e':q.1=k:=h1.symm.trans e
   have b:J6 (q::qs) k=some q.2:=by simp[J6,JT,e']
   rw[lZ e,b];exact h2
  ·have e':¬ q.1=k:=λz=>e (h1.trans z)
   have b:J6 (q::qs) k=J6 qs k:=by simp[J6,JT,e']
   rw[lW e,b];exact ih
theorem KT.repl{H:Hp}{kvs:List (List Key×V)}{xs:List (List Key×Addr×Qb)}(r:KT H kvs xs)(k:List Key){y:V}{u:Qb}(ry:ba y u) :
  KT H (kvs.map λkv=>if kv.1=k then(kv.1,y) else kv) (xs.map (putAt k u)):=by
 induction r with
 |nil=>exact .nil
 |@cons p q ps qs h t ih=>
  rw[Qv,Qv];refine .cons ?_ ih;obtain⟨h1,h2,h3⟩:=h;unfold putAt
  by_cases e:p.1=k
  ·rw[if_pos e,if_pos (h1.symm.trans e)];exact⟨h1,h2,ry⟩
  ·rw[if_neg e,if_neg (λz=>e (h1.trans z))];exact⟨h1,h2,h3⟩
theorem KT.put{H:Hp}{kvs:List (List Key×V)}{xs:List (List Key×Addr×Qb)}(r:KT H kvs xs)(k:List Key){b:Addr}{y:V}{u:Qb}(hb:H b=some (.tup (k.map kV)))(ry:ba y u) :
  KT H (lX kvs k y) (storedH xs k b u):=by
 have e:(kvs.any λkv=>decide (kv.1=k))=(J6 xs k).isSome:=by
  rw[qA,(r.val k).isSome_eq,Option.isSome_map]
 unfold lX storedH;rw[e]
 by_cases q:(J6 xs k).isSome=true
 ·rw[if_pos q,if_pos q];exact r.repl k ry
 ·rw[if_neg q,if_neg q];exact Paired.snoc r ⟨rfl,hb,ry⟩
theorem KT.keeps{H H':Hp}{kvs:List (List Key×V)}{xs:List (List Key×Addr×Qb)}(r:KT H kvs xs)(ht:∀b ys,H b=some (.tup ys)->H' b=some (.tup ys)):KT H' kvs xs:=
 Paired.mapP r λ_ _ z=>⟨z.1,ht _ _ z.2.1,z.2.2⟩
section
variable{P:QJ}{w:QL}{H:Hp}{h:Heap}{a:Addr}
theorem Cg{u:HO}(ok:HOk P w H h)(e:Rd H a u):bL P w H h a u:=e.ok ok
theorem yx{kvs:List (Key×V)}(ok:HOk P w H h)(e:Rd H a (.dK kvs)):kvs.length<=QO/\(a==JM)=false/\∃vs,KV kvs vs/\h.DictOf (cf P w) a vs:=
 show bL P w H h a (.dK kvs) from Cg ok e
theorem Fx{kvs:List (Key×V)}(ok:HOk P w H h)(e:H a=some (.dK kvs)):kvs.length<=QO/\(a==JM)=false/\∃vs,KV kvs vs/\h.DictOf (cf P w) a vs:=yx ok (.inl e)
theorem yd{ks:List Key}(ok:HOk P w H h)(e:H a=some (.tup (ks.map kV))):(tupleKind (cf P w)).is h ks a:=by
 obtain⟨_,its,r,o,h1,h2,n,h3⟩:=(show bL P w H h a (.tup (ks.map kV)) from ok a _ e);exact⟨o,its.toArray,n,h1,h2,h3,by simpa using mM r⟩
theorem Ca{kvs:List (List Key×V)}(ok:HOk P w H h)(e:Rd H a (.dT kvs)):kvs.length<=QO/\(a==JM)=false/\
  ∃xs,KT H kvs xs/\h.DictOfH (tupleKind (cf P w)) a xs:=by
 obtain⟨z,y,xs,r,o,es,ep,h1,h2,h3,h4,h5⟩:=(show bL P w H h a (.dT kvs) from Cg ok e);refine⟨z,y,xs,r,o,es,ep,h1,h2,h3,h4,λx hx=>?_,h5⟩
 have all:∀{l:List (List Key×V)} {m:List (List Key×Addr×Qb)},KT H l m->∀x∈m,(tupleKind (cf P w)).is h x.1 x.2.1:=by
  intro l m q
  induction q with
  |nil=>intro x hx;exact nomatch hx
  |@cons p q ps qs hq t ih=>
   intro x hx;rcases Qn.mp hx with e | hx
   ·subst e
    exact yd ok (by rw[<-hq.1];exact hq.2.1)
   ·exact ih x hx
 exact all r x hx
end
def my(H:Hp)(a:Addr)(y:V)(r:Option V):Prop:=
 (∃kvs k,Rd H a (.dK kvs)/\y=kV k/\r=iS kvs k)\/∃kvs k b,Rd H a (.dT kvs)/\y=.ref b/\H b=some (.tup (k.map kV))/\r=iS kvs k
theorem my.k{H:Hp}{a:Addr}{kvs:List (Key×V)}{k:Key}(e:H a=some (.dK kvs)):my H a (kV k) (iS kvs k):=.inl ⟨kvs,k,.inl e,rfl,rfl⟩
theorem my.t{H:Hp}{a b:Addr}{kvs:List (List Key×V)}{k:List Key}(e:H a=some (.dT kvs))(eb:H b=some (.tup (k.map kV))):my H a (.ref b) (iS kvs k):=.inr ⟨kvs,k,b,.inl e,rfl,eb,rfl⟩
section
variable{X:Cx}{pins:List (Addr×Obj)}{σ:St}{H:Hp}{s:Qc}{a:Addr}{y v:V}{u r:Qb}{o:Option V}{A:QU}{E:Qb->Qc->Prop}
theorem Inv.big(I:Inv X pins σ H s):JM<s.heap.objs.size:=by
 have h:Q5<s.heap.objs.size:=(I.mod.glob.keeps I.bk).lt;exact Jw (by decide) h
theorem wd{Q:Qb->Qc->Prop}(hu:A.units+1<JR)(I:Inv X pins σ H s)(g:my H a y (some v))(ry:ba y u)(h:∀w' s',Inv X pins σ H s'->ba v w'->Q w' s') :
  Qm (Qo X.prog X.w) A (getItem (.ref a) u) Q E s:=by
 rcases g with⟨kvs,k,e,ey,l⟩ | ⟨kvs,k,b,e,ey,eb,l⟩
 ·subst ey
  obtain⟨z,hd,vs,rel,dd⟩:=yx I.hok e;obtain⟨w',hw,rw'⟩:=kh.some_of (v:=v) (o:=valueAt vs k) (by rw[l];exact rel.val k);exact wpAny_getItem_of (y3 ry) dd.mapOf hw (h w' _ (I.tok _) rw')
 ·subst ey
  cases(show u=QI b from ry);obtain⟨z,hd,xs,rel,dd⟩:=Ca I.hok e;obtain⟨w',hw,rw'⟩:=kh.some_of (v:=v) (o:=(J6 xs k).map (·.2)) (by rw[l];exact rel.val k);obtain⟨p,hp,hp2⟩:=Option.map_eq_some_iff.mp hw;refine wpAny_getItem_heap (tupleKind_room_in1 hu) (yd I.hok eb) dd hp ?_;rw[hp2];exact h w' _ (I.tok _) rw'
theorem An{h':Heap}{t':Nat}{ob:HO}(I:Inv X pins σ H s)(mu:Mut (H a))(hs:Zn a s.heap h')(he:∃q,h'.get? a=some q)(new:bL X.prog X.w (upd H a ob) h' a ob) :
  Inv X pins σ (upd H a ob) { s with heap:=h',toks:=t' }:=
 I.write (x:=a) (e:=a) mu (.inl rfl) (λb q hb z=>(hs.2 b hb).trans z) he new
theorem C1{P:QJ}{w:QL}{H':Hp}{h':Heap}{kvs:List (Key×V)}{vs:List (Key×Qb)}(z:kvs.length<=QO)(hd:(a==JM)=false)(rel:KV kvs vs)(dd:h'.DictOf (cf P w) a vs) :
  bL P w H' h' a (.dK kvs):=⟨z,hd,vs,rel,dd⟩
end
def C2(i:Expr):Prop:=∀ov iv,subscripted i false ov iv=operate [ov,iv] (getItem ov iv)
theorem Ax{prog:QJ}{w:QL}{A:QU}{E:Qb->Qc->Prop}{s:Qc}{env:Env}{value slice:Expr}{pos:Pos}{T id:String}{Q:Qb->Qc->Prop}
  (hl:typeLookup (.type T) "__getitem__" = pure (some (.builtin id))) (hs:C2 slice)
  (h:Qm (Qo prog w) A (eval value env) (λo s₁=>Qm (Qo prog w) A (eval slice env) (λi s₂=>s₂.TypeIs o T/\Qm (Qo prog w) A (getItem o i) Q E s₂) E s₁) E s) :
  Qm (Qo prog w) A (eval (.Subscript value slice pos) env) Q E s:=by
 refine Subscript_ (QV h (λo s₁ h₁=>QV h₁ (λi s₂ h₂=>?_) λ_ _ x=>x) λ_ _ x=>x);obtain⟨hT,h₂⟩:=h₂;unfold subscriptTail;refine Qa ?_;rw[getitemInPython_of_ne hT.not_modules];refine Qa (Kg hT hl ?_)
 have fin:Qm (Qo prog w) A (subscripted slice false o i) (λr s₃=>Qm (Qo prog w) A (letTemporaryGo value o r>>=λ_=>pure r) Q E s₃) E s₂:=by
  rw[hs o i];exact wpAny_operating (QV h₂ (λr s₃ h₃=>Qa (wpAny_letTemporaryGo (Qd h₃))) λ_ _ x=>x)
 first
  |exact Qd (Qa fin)
  |exact Qa (Qd (Qa fin))
  |exact Qa fin
theorem pD{X:Cx}{pins:List (Addr×Obj)}{σ:St}{H:Hp}{s:Qc}{a:Addr}{y:V}{o:Option V}(I:Inv X pins σ H s)(g:my H a y o):s.TypeIs (.ref a) "dict":=by
 rcases g with⟨kvs,k,e,_,_⟩ | ⟨kvs,k,b,e,_,_,_⟩
 ·obtain⟨_,_,vs,_,dd⟩:=yx I.hok e
  exact dd.typeIs
 ·obtain⟨_,_,xs,_,dd⟩:=Ca I.hok e
  exact dd.typeIs
def E3(td ty:TE):TE:=λσ H Q=>td σ H λx H1=>ty σ H1 λy H2=>∃a v,x=.ref a/\my H2 a y (some v)/\Q v H2
section
variable{X:Cx}{o i e value:Expr}{pos pos' tpos:Pos}{td ty tv:TE}
theorem zX(hu:X.A.units+1<JR)(ho:PE X o td)(hi:PE X i ty)(hs:C2 i):PE X (.Subscript o i pos) (E3 td ty):=by
 intro pins s σ H Q I h;refine Ax PySem.F.slot_dict_getitem.lookup hs (thn (ho pins s σ H _ I h) λu s1 ⟨x,H1,I1,rx,q1⟩=>thn (hi pins s1 σ H1 _ I1 q1) λiv s2 ⟨y,H2,I2,ry,a,v,ex,g,q2⟩=>?_);subst ex;obtain rfl:u=QI a:=rx;exact⟨pD I2 g,wd hu I2 g ry λw' s3 I3 rw'=>⟨v,H2,I3,rw',q2⟩⟩
end
theorem xf{P:QJ}{w:QL}{H:Hp}(h:Heap)(hb:JM<h.objs.size):bL P w H (h.push { cls:=.type "dict",data:=.dict #[] }) h.objs.size (.dK []):=
 ⟨QN _,beq_eq_false_iff_ne.mpr (Ne.symm (QQ hb)),[],.nil,Heap.DictOf.new h⟩
def r9:List (TE×TE)->St->Hp->(List (V×V)->Hp->Prop)->Prop
 |[],_,H,Q=>Q [] H
 |(tk,tv)::r,σ,H,Q=>tk σ H λx H1=>tv σ H1 λy H2=>r9 r σ H2 λps H3=>Q ((x,y)::ps) H3
abbrev VV:List (V×V)->List (Qb×Qb)->Prop:=JU λp q=>ba p.1 q.1/\ba p.2 q.2
def PPs(X:Cx)(pos:Pos)(keys:List (Option Expr))(values:List Expr)(trs:List (TE×TE)):Prop:=
 ∀(pins:List (Addr×Obj)) (s:Qc) (σ:St) (H:Hp) (Q:List (V×V)->Hp->Prop),Inv X pins σ H s->r9 trs σ H Q->
  Qm (Qo X.prog X.w) X.A (evalPairs (pairTrees keys values X.env pos)) (λvs s'=>∃ps H',Inv X pins σ H' s'/\VV ps vs/\Q ps H') X.xe s
theorem BE{X:Cx}{pos:Pos}:PPs X pos [] [] []:=λpins s σ H Q I h=>pairTrees_nil_walk ⟨[],H,I,.nil,h⟩
theorem lA{X:Cx}{pos:Pos}{k v:Expr}{ks:List (Option Expr)}{vs:List Expr}{tk tv:TE}{trs:List (TE×TE)}(hk:PE X k tk)(hv:PE X v tv)(hr:PPs X pos ks vs trs) :
  PPs X pos (some k::ks) (v::vs) ((tk,tv)::trs):=λpins s σ H Q I h=>
 pairTrees_cons_walk (thn (hk pins s σ H _ I h) λu s1 ⟨x,H1,I1,rx,q1⟩=>thn (hv pins s1 σ H1 _ I1 q1) λw2 s2 ⟨y,H2,I2,ry,q2⟩=>
  thn (hr pins s2 σ H2 _ I2 q2) λws s3 ⟨ps,H3,I3,rel,q3⟩=>⟨(x,y)::ps,H3,I3,.cons ⟨rx,ry⟩ rel,q3⟩)
def gj(kvs more:List (Key×V)):List (Key×V):=more.foldl (λacc kv=>lX acc kv.1 kv.2) kvs
theorem KV.merge:∀{more:List (Key×V)} {rs:List (Key×Qb)} {kvs:List (Key×V)} {vs:List (Key×Qb)},KV more rs->KV kvs vs->KV (gj kvs more) (merged vs rs):=by
 intro more rs kvs vs r;unfold KV at r
 induction r generalizing kvs vs with
 |nil=>intro q;exact q
 |@cons p q ps qs h t ih=>
  intro r0
  have e:KV (lX kvs p.1 p.2) (stored vs q.1 q.2):=by
   have:=r0.put p.1 h.2;rw[<-h.1];exact this
  exact ih e
theorem iH:∀(more kvs:List (Key×V)),(gj kvs more).length<=kvs.length+more.length
 |[],kvs=>by show kvs.length<=kvs.length+0;lia
 |p::r,kvs=>by
  have h1:=iH r (lX kvs p.1 p.2);have h2:=qH kvs p.1 p.2;show(gj (lX kvs p.1 p.2) r).length<=_;rw[QA];lia
theorem kQ{P:QJ}{w:QL}:∀{kvs:List (Key×V)} {ws:List (Qb×Qb)},VV (kvs.map λkv=>(kV kv.1,kv.2)) ws->∃rs,Carries (cf P w) ws rs/\KV kvs rs
 |[],_,r=>by rw[Kq] at r;cases r;exact⟨[],Kv,.nil⟩
 |p::kvs,_,r=>by
  rw[Qv] at r;cases r with
  |@cons a b as bs h t=>
   obtain⟨rs,c,q⟩:=kQ (P:=P) (w:=w) t;obtain⟨b1,b2⟩:=b;exact⟨(p.1,b2)::rs,⟨y3 h.1,rfl,c⟩,.cons ⟨rfl,h.2⟩ q⟩
def FN(trs:List (TE×TE)):TE:=λσ H Q=>∀p,H p=none->r9 trs σ (upd H p (.dK [])) λps H2=>H2 p=some (.dK [])/\∃kvs:List (Key×V),ps=kvs.map (λkv=>(kV kv.1,kv.2))/\kvs.length<=15/\Q (.ref p) (upd H2 p (.dK (gj [] kvs)))
theorem Bk{X:Cx}{pos:Pos}{keys:List (Option Expr)}{values:List Expr}{trs:List (TE×TE)}(h:PPs X pos keys values trs)(hall:keys.all (·.isSome)=true)(hl:keys.length=values.length)(h0:keys≠[])
  (h15:keys.length<=15):PE X (.Dict keys values pos) (FN trs):=by
 intro pins s σ H Q I q;have hn:=I.hok.fresh (Qf s.heap.objs.size);have I1:=I.laid (a:=s.heap.objs.size) (o:=.dK []) (h':=s.heap.push { cls:=.type "dict",data:=.dict #[] }) (t':=s.toks) (λ_ _ q=>Qh _ q) (Qf _) (xf s.heap I.big);refine wpAny_Dict_walk (knd:=cf X.prog X.w) hall hl h0 h15 (thn (h pins _ σ _ _ I1 (q _ hn)) λws s2 ⟨ps,H2,I2,rel,e,kvs,ep,lk,q2⟩=>?_);subst ep;obtain⟨rs,c,rk⟩:=kQ (P:=X.prog) (w:=X.w) rel;obtain⟨z,hd,vs0,r0,dd⟩:=Fx I2.hok e;cases r0;refine⟨rs,c,dd,λh' dd' hs=>⟨.ref s.heap.objs.size,_,?_,rfl,q2⟩⟩
 have hz:(gj [] kvs).length<=QO:=by
  have h1:=iH kvs [];rw[ZV] at h1;rw[Kj];lia
 have he:∃q,h'.get? s.heap.objs.size=some q:=let⟨q,_,_,hq,_⟩:=dd';⟨q,hq⟩;exact An I2 (by rw[e];exact Kv) hs he (C1 hz hd (rk.merge .nil) dd')
end L2
namespace Dn
open PySem PySem.Spec PyProof.Rows L2
section
variable{X:Cx}{pos dpos:Pos}{ka kb kc va vb vc ix:Expr}{a b c:Str}{i j k:Int}{fi:Ev->Option D}
def eD3(a:Str)(i:Int)(b:Str)(j:Int)(c:Str)(k:Int)(fi:Ev->Option D):Ev->Option D:=λε=>match fi ε with
 |some (.str x)=>if x=a then some (.int i) else if x=b then some (.int j) else if x=c then some (.int k) else none
 |_=>none
theorem Eu{m:Nat}(hr:Room m X.A)(h1:DE X ka (eC (.str a)))(h2:DE X va (eC (.int i)))(h3:DE X kb (eC (.str b)))(h4:DE X vb (eC (.int j)))(h5:DE X kc (eC (.str c)))(h6:DE X vc (eC (.int k)))(hi:DE X ix fi)(hs:C2 ix)
  (d1:a≠b:=by decide) (d2:a≠c:=by decide) (d3:b≠c:=by decide):DE X (.Subscript (.Dict [some ka,some kb,some kc] [va,vb,vc] dpos) ix pos) (eD3 a i b j c k fi):=by
 obtain⟨t1,p1,q1⟩:=h1;obtain⟨t2,p2,q2⟩:=h2;obtain⟨t3,p3,q3⟩:=h3;obtain⟨t4,p4,q4⟩:=h4;obtain⟨t5,p5,q5⟩:=h5;obtain⟨t6,p6,q6⟩:=h6;obtain⟨t7,p7,q7⟩:=hi;refine⟨_,zX (by have:=hr.units;lia) (Bk (lA p1 p2 (lA p3 p4 (lA p5 p6 BE))) rfl rfl (by simp) (show 3<=15 by decide)) p7 hs,λHe G H σ ε d Q gh E ef q=>?_⟩;intro p hp;have g0:Grow G H G (upd H p (.dK [])):=.lay _ gh hp;refine q1 He G _ σ ε _ _ g0.gh (E.grow g0) rfl λv1 G1 H1 g1 w1=>?_;have G01:=g0.trans g1;refine q2 He G1 H1 σ ε _ _ G01.gh (E.grow G01) rfl λv2 G2 H2 g2 w2=>?_;have G02:=G01.trans g2;refine q3 He G2 H2 σ ε _ _ G02.gh (E.grow G02) rfl λv3 G3 H3 g3 w3=>?_;have G03:=G02.trans g3;refine q4 He G3 H3 σ ε _ _ G03.gh (E.grow G03) rfl λv4 G4 H4 g4 w4=>?_;have G04:=G03.trans g4;refine q5 He G4 H4 σ ε _ _ G04.gh (E.grow G04) rfl λv5 G5 H5 g5 w5=>?_;have G05:=G04.trans g5;refine q6 He G5 H5 σ ε _ _ G05.gh (E.grow G05) rfl λv6 G6 H6 g6 w6=>?_;have G06:=G05.trans g6;have gp:Grow G (upd H p (.dK [])) G6 H6:=⟨(g1.hh.trans (g2.hh.trans (g3.hh.trans (g4.hh.trans (g5.hh.trans g6.hh))))),G06.gg,G06.gh,(g1.trans (g2.trans (g3.trans (g4.trans (g5.trans g6))))).fo⟩;have hp6:H6 p=some (.dK []):=gp.hh _ _ aG
 have gn:G6 p=none:=gp.fo p _ aG (by
  cases e:G p with
  |none=>rfl
  |some o=>have:=gh _ _ e;rw[hp] at this;cases this)
 cases w1;cases w2;cases w3;cases w4;cases w5;cases w6;refine⟨hp6,[(.inr a,.int i),(.inr b,.int j),(.inr c,.int k)],rfl,show 3<=15 by decide,?_⟩;have gN:Grow G H G6 (upd H6 p (.dK (gj [] [(.inr a,.int i),(.inr b,.int j),(.inr c,.int k)]))):=⟨λu o e=>by rw[aM (aE e hp)];exact G06.hh u o e,G06.gg,λu o e=>by rw[aM (aE e gn)];exact G06.gh u o e,G06.fo⟩;unfold eD3 at ef;split at ef
 ·rename_i x ex
  refine q7 He G6 _ σ ε (.str x) _ gN.gh (E.grow gN) ex λv7 G7 H7 g7 w7=>?_;cases w7;have hd:H7 p=some (.dK (gj [] [(.inr a,.int i),(.inr b,.int j),(.inr c,.int k)])):=g7.hh _ _ aG
  have em:gj [] [(Kb a,V.int i),(Kb b,V.int j),(Kb c,V.int k)]=[(Kb a,V.int i),(Kb b,V.int j),(Kb c,V.int k)]:=by
   simp[gj,lX,d1,d2,d3]
  rw[em] at hd;have gq:=gN.trans g7
  by_cases x1:x=a
  ·rw[if_pos x1] at ef
   cases ef;subst x1;exact⟨p,.int i,rfl,by have:=my.k (k:=.inr x) hd;simpa[iS,kV] using this,q _ G7 H7 gq (.int _)⟩
  ·rw[if_neg x1] at ef
   by_cases x2:x=b
   ·rw[if_pos x2] at ef
    cases ef;subst x2;exact⟨p,.int j,rfl,by have:=my.k (k:=.inr x) hd;simpa[iS,kV,d1] using this,q _ G7 H7 gq (.int _)⟩
   ·rw[if_neg x2] at ef
    by_cases x3:x=c
    ·rw[if_pos x3] at ef
     cases ef;subst x3;exact⟨p,.int k,rfl,by have:=my.k (k:=.inr x) hd;simpa[iS,kV,d2,d3] using this,q _ G7 H7 gq (.int _)⟩
    ·rw[if_neg x3] at ef;cases ef
 ·cases ef
end
def lkD:List (List Int×D)->List Int->Option D
 |[],_=>none
 |e::r,k=>if e.1=k then some e.2 else lkD r k
def qk:List (List Int×D)->List Int->D->List (List Int×D)
 |[],k,d=>[(k,d)]
 |e::r,k,d=>if e.1=k then(e.1,d)::r else e::qk r k d
def jB:bB->List Int->Addr->V->bB
 |[],k,b,v=>[(k,b,v)]
 |e::r,k,b,v=>if e.1=k then(e.1,e.2.1,v)::r else e::jB r k b v
abbrev Ti(P:QJ)(w:QL):=tupleKind (intKind P w)
abbrev XsL:=List (List Int×Addr×Qb)
def ye:XsL->List Int->Addr->Qb->XsL
 |[],k,b,v=>[(k,b,v)]
 |e::r,k,b,v=>if e.1=k then(e.1,e.2.1,v)::r else e::ye r k b v
theorem ni:∀(es:bB) (k:List Int) (b:Addr) (v:V),(jB es k b v).map (·.1)=if k∈es.map (·.1) then es.map (·.1) else es.map (·.1)++[k]
 |[],k,b,v=>by simp[jB]
 |e::r,k,b,v=>by
  unfold jB
  by_cases z:e.1=k
  ·rw[if_pos z,if_pos (by simp[z])];rfl
  ·rw[if_neg z,Qv,ni r k b v]
   by_cases q:k∈r.map (·.1)
   ·rw[if_pos q,if_pos (by rw[Qv];exact Qg _ q)];rfl
   ·rw[if_neg q,if_neg (by rw[Qv,Qn];exact λh=>h.elim (λh=>z h.symm) q)];rfl
theorem vL{ks:List (List Int)}{k:List Int}(h:ks.Nodup):(if k∈ks then ks else ks++[k]).Nodup:=by
 split
 ·exact h
 ·rename_i hm
  rw[List.nodup_append];exact⟨h,by simp,λa ha b hb=>by rw[Qt.mp hb];exact λe=>hm (e▸ha)⟩
theorem sm{es:bB}{k:List Int}{b:Addr}{v:V}(h:(es.map (·.1)).Nodup):((jB es k b v).map (·.1)).Nodup:=by
 rw[ni];exact vL h
theorem qu:∀(es:bB) (k:List Int) (b:Addr) (v:V),(jB es k b v).length<=es.length+1
 |[],_,_,_=>Qf _
 |e::r,k,b,v=>by
  unfold jB;split
  ·exact Nat.le_succ _
  ·exact Nat.succ_le_succ (qu r k b v)
theorem qp(k:List Int)(v:Qb):∀(xs:XsL),k∉xs.map (·.1)->xs.map (putAt k v)=xs
 |[],_=>rfl
 |e::r,h=>by
  rw[Qv,Qn,not_or] at h;rw[Qv,qp k v r h.2,putAt,if_neg λz=>h.1 z.symm]
theorem l7(k:List Int)(b:Addr)(v:Qb):∀(xs:XsL),(xs.map (·.1)).Nodup->storedH xs k b v=ye xs k b v
 |[],_=>rfl
 |e::r,h=>by
  rw[Qv,Ju] at h;have ih:=l7 k b v r h.2;unfold ye
  by_cases z:e.1=k
  ·rw[if_pos z]
   have:J6 (e::r) k=some e.2:=by simp[J6,JT,z]
   rw[storedH_old this,Qv,qp k v r (z▸h.1),putAt,if_pos z]
  ·rw[if_neg z,<-ih]
   have q:J6 (e::r) k=J6 r k:=by simp[J6,JT,z]
   unfold storedH;rw[q];split
   ·rw[Qv,putAt,if_neg z]
   ·rfl
def EX(u:List Int×Addr×V)(x:List Int×Addr×Qb):Prop:=u.1=x.1/\u.2.1=x.2.1/\L2.ba u.2.2 x.2.2
theorem xt{k:List Int}{b:Addr}{v:V}{u:Qb}(rv:L2.ba v u):∀{us:bB} {xs:XsL},JU EX us xs->JU EX (jB us k b v) (ye xs k b u)
 |_,_,.nil=>.cons ⟨rfl,rfl,rv⟩ .nil
 |_,_,.cons (a:=a) (b:=x) h t=>by
  unfold jB ye;rw[<-h.1];split
  ·exact .cons ⟨rfl,h.2.1,rv⟩ t
  ·exact .cons h (xt rv t)
theorem fC:∀{us:bB} {xs:XsL},JU EX us xs->us.map (·.1)=xs.map (·.1)
 |_,_,.nil=>rfl
 |_,_,.cons h t=>by rw[Qv,Qv,fC t,h.1]
theorem sV{x:List Int×Addr×Qb}{r:XsL}{k:List Int}:J6 (x::r) k=if x.1=k then some x.2 else J6 r k:=by
 by_cases z:x.1=k<;>simp[J6,JT,z]
theorem Cq{k:List Int}{p:Addr×Qb}:∀{us:bB} {xs:XsL},JU EX us xs->J6 xs k=some p->∃b v,(k,b,v)∈us/\L2.ba v p.2:=by
 intro us xs q
 induction q with
 |nil=>intro e;cases e
 |@cons a x us xs h t ih=>
  intro e;rw[sV] at e;split at e
  ·rename_i z
   cases e;exact⟨a.2.1,a.2.2,by rw[<-z,<-h.1];exact Qj ..,h.2.2⟩
  ·obtain⟨b,v,h1,h2⟩:=ih e
   exact⟨b,v,Qg _ h1,h2⟩
section
variable{X:Cx}{pins:List (Addr×Obj)}{σ:L2.St}{G H:Hp}{s:Qc}
theorem qb{P:QJ}{w:QL}:∀{ns:List Int} {us:List Qb},a9 (ns.map V.int) us->ItemsAre (intKind P w) ns us
 |[],_,r=>by cases r;exact .nil
 |n::ns,_,r=>by
  cases r with
  |@cons _ u _ us h t=>
   obtain⟨tk,rfl⟩:=(show ∃t,u=Value.int n t from h);exact .cons (by simp[intKind,Value.isInt]) (qb t)
theorem ig(I:Inv X pins σ H s)(gh:aI G H){b:Addr}{k:List Int}(h:SqT X.K G b (k.map V.int)):(Ti X.prog X.w).is s.heap k b:=by
 obtain⟨its,r,⟨o,o1,o2,n,o3⟩,_⟩:=I.tuple (aR gh h);exact⟨o,its.toArray,n,o1,o2,o3,by simpa using qb r⟩
theorem rN{P:QJ}{w:QL}:∀{us:bB} {raw:List Zi},JU EntOk us raw->∃xs:XsL,raw=xs.map (entryOfKey (Ti P w))/\JU EX us xs
 |_,_,.nil=>⟨[],rfl,.nil⟩
 |_,_,.cons (a:=a) (b:=r) h t=>by
  obtain⟨xs,e,q⟩:=rN (P:=P) (w:=w) t;refine⟨(a.1,a.2.1,r.val)::xs,?_,.cons ⟨rfl,rfl,h.val⟩ q⟩;rw[Qv,<-e];congr 1;obtain⟨r1,r2,r3⟩:=r;have h1:=h.hash;have h2:=h.key;simp only at h1 h2;subst h1 h2;rfl
theorem yn{P:QJ}{w:QL}:∀{us:bB} {xs:XsL},JU EX us xs->JU EntOk us (xs.map (entryOfKey (Ti P w)))
 |_,_,.nil=>.nil
 |_,_,.cons (a:=a) (b:=x) h t=>.cons ⟨by rw[h.1];rfl,by rw[h.2.1];rfl,h.2.2⟩ (yn t)
theorem DenM.mem{K:Qe}{G:Hp}{us:bB}{es:List (List Int×D)}(h:DenM K G us es):∀u∈us,SqT K G u.2.1 (u.1.map V.int):=
 DenM.ind (P:=λus _=>∀u∈us,SqT K G u.2.1 (u.1.map V.int)) (λ_ h=>nomatch h) (λhk _ _ y u hu=>(Qn.mp hu).elim (λe=>by subst e;exact hk) (y u)) h
theorem DenM.keys{K:Qe}{G:Hp}{us:bB}{es:List (List Int×D)}(h:DenM K G us es):us.map (·.1)=es.map (·.1):=
 DenM.ind (P:=λus es=>us.map (·.1)=es.map (·.1)) rfl (λ_ _ _ y=>by rw[Qv,Qv,y]) h
theorem DenM.len{K:Qe}{G:Hp}{us:bB}{es:List (List Int×D)}(h:DenM K G us es):us.length=es.length:=by simpa using congrArg List.length h.keys
theorem DenM.put{K:Qe}{G:Hp}{k:List Int}{b:Addr}{v:V}{d:D}(hb:SqT K G b (k.map V.int))(hv:Den K G v d){us:bB}{es:List (List Int×D)}(h:DenM K G us es):DenM K G (jB us k b v) (qk es k d):=
 DenM.ind (P:=λus es=>DenM K G (jB us k b v) (qk es k d)) (.cons hb hv .nil) (λhk hv' hs y=>by
  unfold jB qk;simp only;split
  ·exact .cons hk hv hs
  ·exact .cons hk hv' y) h
theorem DenM.look{K:Qe}{G:Hp}{k:List Int}{us:bB}{es:List (List Int×D)}(h:DenM K G us es):(us.map (·.1)).Nodup->∀{b:Addr} {v:V},(k,b,v)∈us->∃d,lkD es k=some d/\Den K G v d:=
 DenM.ind (P:=λus es=>(us.map (·.1)).Nodup->∀{b:Addr} {v:V},(k,b,v)∈us->∃d,lkD es k=some d/\Den K G v d) (λ_ {_ _} h=>nomatch h) (λ{k'} _ _ _ _ _ hk hv hs y nd {b v} h=>by
  rw[Qv,Ju] at nd;unfold lkD;rcases Qn.mp h with e9 | h
  ·cases e9
   exact⟨_,if_pos rfl,hv⟩
  ·have:k'≠k:=λz=>nd.1 (by subst z;exact Q2.mpr ⟨_,h,rfl⟩)
   rw[if_neg this]
   exact y nd.2 h) h
theorem ui{k:List Int}:∀{xs:XsL},J6 xs k=none->k∉xs.map (·.1)
 |[],_=>by simp
 |x::r,e=>by
  by_cases z:x.1=k
  ·rw[show J6 (x::r) k=some x.2 by simp[J6,JT,z]] at e;cases e
  ·rw[show J6 (x::r) k=J6 r k by simp[J6,JT,z]] at e
   rw[Qv,Qn,not_or];exact⟨λq=>z q.symm,ui e⟩
theorem xW(I:Inv X pins σ H s)(gh:aI G H){a:Addr}{us:bB}{ep:Nat}{es:List (List Int×D)}(x:DAt a us ep s.heap)(nd:(us.map (·.1)).Nodup)(m:DenM X.K G us es):∃xs:XsL,JU EX us xs/\s.heap.DictOfH (Ti X.prog X.w) a xs:=by
 obtain⟨n,z,o,raw,e,c,dd,p⟩:=x;obtain⟨xs,e1,q⟩:=rN (P:=X.prog) (w:=X.w) p;refine⟨xs,q,o,raw,ep,e,c,dd,e1,λy hy=>?_,by rw[<-fC q];exact nd⟩
 have:∀{us:bB} {xs:XsL},JU EX us xs->∀y∈xs,∃u∈us,EX u y:=by
  intro us xs q
  induction q with
  |nil=>intro y hy;cases hy
  |cons h t ih=>
   intro y hy;rcases Qn.mp hy with rfl | hy9
   ·exact⟨_,Qj ..,h⟩
   ·obtain⟨u,hu,e⟩:=ih y hy9;exact⟨u,Qg _ hu,e⟩
 obtain⟨u,hu,e2⟩:=this q y hy;rw[<-e2.1,<-e2.2.1];exact ig I gh (m.mem u hu)
theorem yc{h:Heap}{P:QJ}{w:QL}{a:Addr}{us:bB}{xs:XsL}(hm:h.DictOfH (Ti P w) a xs)(q:JU EX us xs)(notm:(a==JM)=false)(z:us.length<=1000000):∃ep,DAt a us ep h:=by
 obtain⟨o,raw,ep,e,c,dd,e1,_,_⟩:=hm;exact⟨ep,notm,z,o,raw,e,c,dd,by rw[e1];exact yn q⟩
theorem lq{P:QJ}{w:QL}{H:Hp}{h:Heap}{a:Addr}{us:bB}{ep:Nat}(x:DAt a us ep h):bL P w H h a (.ext (DAt a us ep)):=⟨x,let⟨_,_,o,_,e,_⟩:=x;⟨o,e⟩,λ_ _ z k=>z.at k⟩
def FK(K:Qe):V->V->V->Hp->(Hp->Prop)->Prop:=λo i v H Q=>∃a us ep b k G es,o=.ref a/\i=.ref b/\H a=some (.ext (DAt a us ep))/\aI G H/\SqT K G b (k.map V.int)/\(us.map (·.1)).Nodup/\DenM K G us es/\us.length<1000000/\∀ep',Q (upd H a (.ext (DAt a (jB us k b v) ep')))
theorem yG(hu:X.A.units+1<JR):Fy X (FK X.K):=by
 intro pins s σ H o i v ov iv u Q I ro ri rv h;obtain⟨a,us,ep,b,k,G,es,rfl,rfl,ha,gh,hb,nd,m,hz,q⟩:=h;cases ro;cases ri;have x:DAt a us ep s.heap:=(show bL X.prog X.w H s.heap a (.ext (DAt a us ep)) from I.hok a _ ha).1;obtain⟨xs,p,dh⟩:=xW I gh x nd m;have lx:xs.length=us.length:=by simpa using(congrArg List.length (fC p)).symm
 refine wpAny_setItem_heap (knd:=Ti X.prog X.w) (hsz:=by rw[lx];exact Jr (Jw hz (by decide))) (show X.A.in1.units<JR from hu) (ig I gh hb) dh λh' dh' same=>?_;rw[l7 k b u xs (by rw[<-fC p];exact nd)] at dh';obtain⟨ep',x'⟩:=yc dh' (xt (k:=k) (b:=b) rv p) x.1 (Q4 (qu ..) hz);exact⟨_,I.write (t':=_) (by rw[ha];trivial) (.inl rfl) (λb u hb e=>same.extBut b u hb e) (let⟨_,_,o,_,e,_⟩:=x';⟨o,e⟩) (lq x'),q ep'⟩
end
theorem EnvD.putOD{K:Qe}{He G H G' H':Hp}{σ:L2.St}{ε:Ev}{i:Nat}{a:Addr}{us:bB}{ep:Nat}{ds:List (List Int×D)}(E:EnvD K He G H σ ε)(g:Grow G H G' H')(heH:aI He H)(hn:H a=none)(gn:G' a=none)(ha:H' a=some (.ext (DAt a us ep)))(nd:(us.map (·.1)).Nodup)(hd:DenM K G' us ds) :
  EnvD K He G' H' (σ.set i (some (.ref a))) (ε.set i (.odi ds)) where
 len:=by rw[JS,JS];exact E.len
 dat:=λ{j d'} e=>by
  rw[QB] at e ⊢
  by_cases z:i=j
  ·rw[if_pos z] at e;split at e<;>cases e
  ·rw[if_neg z] at e ⊢
   exact(E.grow g).dat e
 odi:=λ{j ds'} e=>by
  rw[QB] at e ⊢
  by_cases z:i=j
  ·rw[if_pos z] at e ⊢
   subst z;rw[E.len];split at e
   ·rename_i hl;cases e;exact⟨a,us,ep,by rw[if_pos hl],ha,gn,heH.free hn,nd,hd⟩
   ·cases e
  ·rw[if_neg z] at e ⊢
   exact(E.grow g).odi e
 apartD:=λ{j k ds' es b} e1 e2 h1 h2=>by
  rw[QB] at e1 e2 h1 h2
  have key:∀{m:Nat} {es:List (List Int×D)},ε[m]?=some (.odi es)->σ[m]?=some (some (.ref a))->False:=λ{m es} q1 q2=>by
   obtain⟨b',ys,ep',w1,w2,_⟩:=E.odi q1;rw[q2] at w1;cases w1;rw[hn] at w2;cases w2
  by_cases z:i=j
  ·by_cases z2:i=k
   ·rw[<-z,<-z2]
   ·rw[if_pos z] at h1
    rw[if_neg z2] at e2 h2;split at h1
    ·cases h1;exact(key e2 h2).elim
    ·cases h1
  ·by_cases z2:i=k
   ·rw[if_neg z] at e1 h1
    rw[if_pos z2] at h2;split at h2
    ·cases h2;exact(key e1 h1).elim
    ·cases h2
   ·rw[if_neg z] at e1 h1
    rw[if_neg z2] at e2 h2;exact E.apartD e1 e2 h1 h2
 own:=λ{j ds'} e=>by
  rw[QB] at e ⊢
  by_cases z:i=j
  ·rw[if_pos z] at e;split at e<;>cases e
  ·rw[if_neg z] at e ⊢
   exact(E.grow g).own e
 apart:=λ{j k ds es a} e1 e2 h1 h2=>by
  rw[QB] at e1 e2 h1 h2
  by_cases z:i=j
  ·rw[if_pos z] at e1;split at e1<;>cases e1
  ·by_cases z2:i=k
   ·rw[if_pos z2] at e2;split at e2<;>cases e2
   ·rw[if_neg z] at e1 h1
    rw[if_neg z2] at e2 h2;exact E.apart e1 e2 h1 h2
theorem Sta.writeD{K:Qe}{He Ge G H:Hp}{σ:L2.St}{ε:Ev}{i:Nat}{a:Addr}{us vs:bB}{ep ep':Nat}{ds es:List (List Int×D)}(S:Sta K He Ge G H σ ε)(ei:ε[i]?=some (.odi ds))(hs:σ[i]?=some (some (.ref a)))(ha:H a=some (.ext (DAt a us ep)))(nd:(vs.map (·.1)).Nodup)(hd:DenM K G vs es) :
  Sta K He Ge G (upd H a (.ext (DAt a vs ep'))) σ (ε.set i (.odi es)):=by
 obtain⟨a',us',ep2,h1,h2,h3,h4,h5⟩:=S.e.odi ei;rw[hs] at h1;cases h1;have keep:∀{b:Addr} {o:HO},b≠a->H b=some o->upd H a (.ext (DAt a vs ep')) b=some o:=λ{b o} n e=>by rw[aM n];exact e
 refine⟨⟨λb o e=>keep (aE e h4) (S.g.hh b o e),S.g.gg,λb o e=>keep (aE e h3) (S.g.gh b o e),S.g.fo⟩,?_⟩;have hil:i<ε.length:=(Qk.mp ei).1
 have own_of:∀{m:Nat} {fs:List D},(ε.set i (.odi es))[m]?=some (.own fs)->ε[m]?=some (.own fs):=λ{m fs} e=>by
  rw[QB] at e
  by_cases z:i=m
  ·rw[if_pos z] at e;split at e<;>cases e
  ·rw[if_neg z] at e;exact e
 have odi_of:∀{m:Nat} {fs:List (List Int×D)},(ε.set i (.odi es))[m]?=some (.odi fs)->∃gs,ε[m]?=some (.odi gs):=λ{m fs} e=>by
  rw[QB] at e
  by_cases z:i=m
  ·subst z;exact⟨_,ei⟩
  ·rw[if_neg z] at e;exact⟨_,e⟩
 refine⟨by rw[JS];exact S.e.len,λ{j d} e=>?_,λ{j fs} e=>?_,λ{j k fs gs b} e1 e2 w1 w2=>S.e.apart (own_of e1) (own_of e2) w1 w2,λ{j fs} e=>?_,λ{j k fs gs b} e1 e2 w1 w2=>?_⟩
 ·rw[QB] at e
  by_cases z:i=j
  ·rw[if_pos z] at e;split at e<;>cases e
  ·rw[if_neg z] at e;exact S.e.dat e
 ·obtain⟨b,zs,w1,w2,w3⟩:=S.e.own (own_of e)
  exact⟨b,zs,w1,keep (λq=>by subst q;rw[ha] at w2;cases w2) w2,w3⟩
 ·rw[QB] at e
  by_cases z:i=j
  ·rw[if_pos z,if_pos (z▸hil)] at e
   cases e;subst z;exact⟨a,vs,ep',hs,aG,h3,h4,nd,hd⟩
  ·rw[if_neg z] at e
   obtain⟨b,zs,ep3,w1,w2,w3,w4,w5⟩:=S.e.odi e;refine⟨b,zs,ep3,w1,keep (λq=>z ?_) w2,w3,w4,w5⟩;subst q;exact S.e.apartD ei e hs w1
 ·obtain⟨_,q1⟩:=odi_of e1
  obtain⟨_,q2⟩:=odi_of e2;exact S.e.apartD q1 q2 w1 w2
def vT:D->Option (List Int)
 |.tup ds=>cg ds
 |_=>none
theorem hI{K:Qe}{G H:Hp}{v:V}{d:D}{k:List Int}(gh:aI G H)(h:cb K G H v d)(e:vT d=some k):∃b,v=.ref b/\SqT K G b (k.map V.int):=by
 cases d with
 |tup ds=>
  obtain⟨a,xs,rfl,h1,_,h3⟩:=h.tup gh;have:=dD h3 e;subst this;exact⟨a,rfl,h1⟩
 |_=>cases e
section
variable{X:Cx}{a b c:Expr}{fa fb fc:Ev->Option D}{pos:Pos}
theorem CU{pins:List (Addr×Obj)}{σ:L2.St}{H:Hp}{s:Qc}(I:Inv X pins σ H s):(s.heap.objs.size==JM)=false:=by
 have h:Q5<s.heap.objs.size:=(I.mod.glob.keeps I.bk).lt;exact beq_eq_false_iff_ne.mpr (Nat.ne_of_gt (Jw (show JM<Q5 by decide) h))
theorem zr{pins:List (Addr×Obj)}{σ:L2.St}{H:Hp}{s:Qc}(I:Inv X pins σ H s):DAt s.heap.objs.size [] 0 (s.heap.push { cls:=.type "dict",data:=.dict #[] }):=
 ⟨CU I,QN _,_,#[],QF _ rfl,⟨rfl,rfl,rfl⟩,rfl,.nil⟩
def tD0:TE:=λ_ H Q=>∀p,H p=none->Q (.ref p) (upd H p (.ext (DAt p [] 0)))
theorem Cm:PE X (.Dict [] [] pos) tD0:=λpins s σ H Q I h=>
 wpAny_Dict_empty ⟨.ref s.heap.objs.size,_,I.laid (a:=s.heap.objs.size) (t':=s.toks) (λ_ _ q=>Qh _ q) (Qf _) (lq (zr I)),rfl,h _ (I.hok.fresh (Qf _))⟩
def tD1(K:Qe)(tk tv:TE):TE:=λσ H Q=>∀p,H p=none->tk σ (upd H p (.ext (DAt p [] 0))) λy H1=>tv σ H1 λx H2=>∃b k G,y=.ref b/\H2 p=some (.ext (DAt p [] 0))/\aI G H2/\SqT K G b (k.map V.int)/\∀ep,Q (.ref p) (upd H2 p (.ext (DAt p [(k,b,x)] ep)))
theorem Ft{tk tv:TE}(hu:X.A.units<JR)(hk:PE X a tk)(hv:PE X b tv):PE X (.Dict [some a] [b] pos) (tD1 X.K tk tv):=by
 intro pins s σ H Q I h;rw[arm_eval_Dict,zip_pairTrees [some a] [b] X.env pos rfl rfl,dictDisplay_pairs _ (by simp[pairTrees]) (by simp[pairTrees])];have nn:H s.heap.objs.size=none:=I.hok.fresh (Qf _);unfold subDict;refine Qa (JX (Qa ?_));refine Qa (wpAny_alloc (Qa (Q0 ?_)));rw[if_pos (by simp[pairTrees])];have I1:=I.laid (a:=s.heap.objs.size) (t':=s.toks) (λ_ _ q=>Qh _ q) (Qf _) (lq (P:=X.prog) (w:=X.w) (H:=upd H s.heap.objs.size (.ext (DAt s.heap.objs.size [] 0))) (zr I));refine Qa (pairTrees_cons_walk (thn (hk pins _ σ _ _ I1 (h _ nn)) λkv s2 ⟨y,H2,I2,ry,q2⟩=>thn (hv pins s2 σ H2 _ I2 q2) λvv s3 ⟨x,H3,I3,rx,q3⟩=>pairTrees_nil_walk ?_));obtain⟨bb,k,G,rfl,h3,gh,hb,q⟩:=q3;cases ry;have x0:DAt s.heap.objs.size [] 0 s3.heap:=(show bL X.prog X.w H3 s3.heap s.heap.objs.size (.ext (DAt s.heap.objs.size [] 0)) from I3.hok _ _ h3).1;obtain⟨xs,p,dh⟩:=xW I3 gh x0 List.nodup_nil (es:=[]) .nil;cases p;rw[List.forIn_cons];refine Q0 (Qa ?_);refine Qa (Qa (wpAny_dictSet_heap (knd:=Ti X.prog X.w) (show X.A.units<JR from hu) (ig I3 gh hb) dh (hsz:=QN _) λh' dh' same=>Qd ?_));obtain⟨ep,x'⟩:=yc (us:=[(k,bb,x)]) dh' (.cons ⟨rfl,rfl,rx⟩ .nil) x0.1 (show 1<=1000000 by decide);show Qm _ _ (forIn [] _ _) _ _ _;rw[List.forIn_nil];refine Qd (Qd (Qd (Qd ⟨.ref s.heap.objs.size,_,I3.write (t':=_) (by rw[h3];trivial) (.inl rfl) (λb u hb e=>same.extBut b u hb e) (let⟨_,_,o,_,e,_⟩:=x';⟨o,e⟩) (lq x'),rfl,q ep⟩)))
def DFD(X:Cx)(e:Expr)(f:Ev->Option (List (List Int×D))):Prop:=∃t,PE X e t/\∀(He G H:Hp) (σ:L2.St) (ε:Ev) (es:List (List Int×D)) (Q:VK),aI G H->EnvD X.K He G H σ ε->f ε=some es->
 (∀p us ep G' H',Grow G H G' H'->H p=none->G' p=none->H' p=some (.ext (DAt p us ep))->(us.map (·.1)).Nodup->DenM X.K G' us es->Q (.ref p) H')->t σ H Q
def fD0:Ev->Option (List (List Int×D)):=λ_=>some []
theorem EW:DFD X (.Dict [] [] pos) fD0:=⟨_,Cm,λHe G H σ ε es Q gh E ef q p hp=>by cases ef;exact q p [] 0 G _ (.lay _ gh hp) hp (gh.free hp) aG List.nodup_nil .nil⟩
def fD1(fk fv:Ev->Option D):Ev->Option (List (List Int×D)):=λε=>(fk ε).bind λk=>(fv ε).bind λd=>(vT k).bind λn=>some [(n,d)]
theorem EL{kk:Nat}(hr:Room kk X.A)(hk:DE X a fa)(hv:DE X b fb):DFD X (.Dict [some a] [b] pos) (fD1 fa fb):=by
 obtain⟨t,a1,a2⟩:=hk;obtain⟨u,b1,b2⟩:=hv;refine⟨_,Ft (by have:=hr.un;lia) a1 b1,λHe G H σ ε es Q gh E ef q p hp=>?_⟩;obtain⟨dk,e1,ef⟩:=ai ef;obtain⟨dv,e2,ef⟩:=ai ef;obtain⟨n,e3,ef⟩:=ai ef;cases ef;have g0:Grow G H G (upd H p (.ext (DAt p [] 0))):=.lay _ gh hp;have gp:G p=none:=gh.free hp;refine a2 He G _ σ ε dk _ g0.gh (E.grow g0) e1 λy G1 H1 g1 d1=>?_;refine b2 He G1 H1 σ ε dv _ g1.gh ((E.grow g0).grow g1) e2 λx G2 H2 g2 d2=>?_;obtain⟨bb,rfl,hb⟩:=hI g2.gh (.inl (d1.mono g2.gg)) e3;have h1:H1 p=some (.ext (DAt p [] 0)):=g1.hh _ _ aG;have h2:=g2.hh _ _ h1;have n1:G1 p=none:=g1.fo _ _ aG gp;have n2:G2 p=none:=g2.fo _ _ h1 n1;refine⟨bb,n,G2,rfl,h2,g2.gh,hb,λep=>?_⟩;have gr:=g1.trans g2;refine q p [(n,bb,x)] ep G2 _ ⟨λb o e=>?_,gr.gg,λb o e=>?_,λb o e z=>gr.fo b o (g0.hh b o e) z⟩ hp n2 aG (by simp) (.cons hb d2 .nil)
 ·rw[aM (aE e hp)];exact gr.hh b o (g0.hh b o e)
 ·rw[aM (aE e n2)];exact gr.gh b o e
def EA(i:Nat)(f:Ev->Option (List (List Int×D))):Ev->Option Fl:=λε=>(f ε).map λd=>Fl.nx (ε.set i (.odi d))
theorem CY(i:Nat){x:Str}{pos':Pos}{f:Ev->Option (List (List Int×D))}(hN:X.N.Nodup)(ha:DFD X a f)(hi:X.N[i]?=some x:=by rfl)(hx:Loc X.env.scope x:=by first | exact Or.inl rfl | exact Zj rfl)(hs:ZM a (some (.Name x pos')) pos.line X.env=pure false:=by rfl)
  (hf:X.fn x=true\/X.env.scope.names.lookup x=some .local:=by first | exact .inl rfl | exact .inr rfl):DS X (.Assign [.Name x pos'] a pos) (EA i f):=by
 obtain⟨t,a1,a2⟩:=ha;refine⟨_,lT hN hi hx a1 hs hf,λHe Ge G H σ ε r W S e P=>?_⟩;obtain⟨d,e1,rfl⟩:=a_ e;exact a2 He G H σ ε d _ S.g.gh S.e e1 λp us ep G' H' g hn gn hl nd hd=>P _ G' H' ⟨S.g.trans g,S.e.putOD g S.g.hh hn gn hl nd hd⟩
def Cn(i:Nat)(fk f:Ev->Option D):Ev->Option Fl:=λε=>(f ε).bind λd=>(fk ε).bind λk=>(vT k).bind λn=>match ε[i]? with
 |some (.odi es)=>if es.length<1000000 then some (.nx (ε.set i (.odi (qk es n d)))) else none
 |_=>none
theorem zM(i:Nat){x:Str}{p1 p2:Pos}{k:Expr}{fk:Ev->Option D}{kk:Nat}(hr:Room kk X.A)(ha:DE X a fa)(hk:DE X k fk)(hN:X.N[i]?=some x:=by rfl)(hv:Vis X.env.scope x:=by first | exact Or.inl rfl | exact Zj (Or.inl rfl))(hd:(x==("__debug__" : Str))=false:=by decide)
  (hcd:(x==("__classdict__" : Str))=false:=by decide)
  (hasg:∀v,ZC (.Subscript (.Name x p1) k p2) X.env v=(do
   let ov<-holding [v] (eval (.Name x p1) X.env);let iv<-holding [v,ov] (eval k X.env)
   standAt p2
   holding [v,ov,iv] (setItem ov iv v)
   release [v,ov,iv] []):=by intro _;rfl)
  (hs:swapsWithSole [.Subscript (.Name x p1) k p2] a pos.line X.env=pure false:=by rfl) (hw:swappedStores [.Subscript (.Name x p1) k p2] a X.env=pure none:=by rfl)
  (h1:(Jm [.Subscript (.Name x p1) k p2] X.env).map (·.2)=[ZC (.Subscript (.Name x p1) k p2) X.env]:=by rfl) :
  DS X (.Assign [.Subscript (.Name x p1) k p2] a pos) (Cn i fk fa):=by
 obtain⟨t,a1,a2⟩:=ha;obtain⟨u,b1,b2⟩:=hk;refine⟨_,yp a1 (Dg (lP hN hv hd hcd) b1 (yG (by have:=hr.un;lia)) hasg) hs hw h1,λHe Ge G H σ ε r W S e P=>?_⟩;obtain⟨d,e1,e⟩:=ai e;obtain⟨dk,e2,e⟩:=ai e;obtain⟨n,e3,e⟩:=ai e;split at e
 ·rename_i es ei
  split at e
  ·rename_i hl
   cases e;refine a2 He G H σ ε d _ S.g.gh S.e e1 λv G1 H1 g1 hd1=>?_;have S1:=S.grow g1;obtain⟨l,us,ep,w1,w2,w3,w4,w5,w6⟩:=S1.e.odi ei;refine⟨_,w1,?_⟩;refine b2 He G1 H1 σ ε _ _ S1.g.gh S1.e e2 λv2 G2 H2 g2 hd2=>?_;have S2:=S1.grow g2;obtain⟨l',us',ep',z1,z2,z3,z4,z5,z6⟩:=S2.e.odi ei;rw[w1] at z1;cases z1;obtain⟨bb,rfl,hb⟩:=hI g2.gh (.inl hd2) e3;exact⟨l,us',ep',bb,n,G2,es,rfl,rfl,z2,S2.g.gh,hb,z5,z6,by rw[z6.len];exact hl,λep2=>P σ G2 _ (S2.writeD ei w1 z2 (sm z5) (z6.put hb (hd1.mono g2.gg)))⟩
  ·cases e
 ·cases e
def tMD(r:V->List V->Hp->VK->Prop)(to:TE)(t:TA):TE:=λσ H Q=>to σ H λx H1=>(∃p us ep,x=.ref p/\H1 p=some (.ext (DAt p us ep)))/\t σ H1 λxs H2=>r x xs H2 Q
theorem D3{pins:List (Addr×Obj)}{σ:L2.St}{H:Hp}{s:Qc}(I:Inv X pins σ H s){p:Addr}{us:bB}{ep:Nat}(h:H p=some (.ext (DAt p us ep))):s.TypeIs (.ref p) "dict"/\∀a,QI p=.ref a->∃ob,s.heap.get? a=some ob/\ob.dict=none:=by
 obtain⟨_,_,o,raw,e,c,_⟩:=(show bL X.prog X.w H s.heap p (.ext (DAt p us ep)) from I.hok p _ h).1;exact⟨⟨o,e,c.1⟩,λa z=>by cases z;exact⟨o,e,c.2.1⟩⟩
theorem FH{o e:Expr}{es:List Expr}{to:TE}{t:TA}{name:Str}{apos cpos:Pos}{id:String}{r:V->List V->Hp->VK->Prop}(slot:Slot "dict" name id)(hty:typeOf (.builtin id)=pure (.type "method_descriptor"))(hm:MtM X id r)(ho:PE X o to)(ha:PA X (e::es) t)
  (hbase:attributeBase o name X.env (eval o X.env)=eval o X.env:=by rfl)
  (hfew:((JG cpos (Qy (e::es) X.env)).all (λx=>!x.1)&&(backToKw cpos (ZJ [] X.env)).all (λx=>x.1.isSome)
   && decide ((e::es).length+([]:List Keyword).length+(if([]:List Keyword).isEmpty then 0 else 1)<30))=true:=by rfl)
  (hline:(apos.endLine==cpos.line)=true:=by rfl) (hs:Qy (e::es) X.env=(false,eval e X.env)::Qy es X.env:=by rfl) (hplain:(JG cpos (Qy es X.env)).any (·.1)=false:=by rfl) :
  PE X (.Call (.Attribute o name apos) (e::es) [] cpos) (tMD r to t):=by
 intro pins s σ H Q I h;refine wpAny_Call_method_late hbase hfew hline rfl (thn (ho pins s σ H _ I h) λv s1 ⟨x,H1,I1,r1,⟨p,us,ep,ex,eh⟩,q1⟩=>?_);subst ex;cases r1;obtain⟨h1,h2⟩:=D3 I1 eh;refine⟨"dict",id,PySem.F.plainAttrs_dict,slot,hty,h1,h2,?_⟩;have hA:=ha cpos pins s1 σ H1 _ I1 q1;rw[hs] at hA ⊢;refine Calls.callWith_builtin (by show(false || (JG cpos (Qy es X.env)).any (·.1))=false;rw[hplain]<;>rfl) (Calls.evalArgs_plain ?_);exact thn hA λus s2 ⟨vs,H2,I2,r2,q2⟩=>hm pins s2 σ H2 (.ref p) vs (.ref p) us Q I2 (show QI p=QI p from rfl) r2 q2
end
end Dn
namespace RW2
open PySem PyProof.Rows
end RW2
namespace Dn
open PySem PySem.Spec PyProof.Rows L2 RW2
section
variable{X:Cx}{a:Expr}{pos:Pos}{fa:Ev->Option D}
theorem DenM.get{K:Qe}{G:Hp}{i:Nat}:∀{us:bB} {es:List (List Int×D)},DenM K G us es->∀{u},us[i]?=some u->∃d,es[i]?=some (u.1,d)/\SqT K G u.2.1 (u.1.map V.int)/\Den K G u.2.2 d:=by
 induction i with
 |zero=>intro us es m u e;cases m with | nil=>simp at e | cons hk hv hs=>simp at e;subst e;exact⟨_,rfl,hk,hv⟩
 |succ i ih=>intro us es m u e;cases m with | nil=>simp at e | cons hk hv hs=>simp at e;obtain⟨d,h1,h2⟩:=ih hs e;exact⟨d,by simpa using h1,h2⟩
theorem pO{K:Qe}{G:Hp}:∀k:List Int,DenL K G (k.map V.int) (k.map D.int)
 |[]=>.nil
 |n::r=>.cons (.int n) (pO r)
end
def Dt(K:Qe)(a:Addr)(xs:List V):Prop:=∃(o:Obj) (its:Array Qb) (n:Nat),K.lookup a=some o/\o.cls=.type "tuple"/\o.data=.seq its n/\its.size<=QO/\a9 xs its.toList
theorem E6{K:Qe}{a:Addr}{od:Option Addr}{x y z:Str}{t u v:Tok}{n:Nat}{sl:Array (Option Qb)}(h:K.lookup a=some ⟨.type "tuple",od,.seq #[.str x t,.str y u,.str z v] n,sl⟩):Dt K a [.str x,.str y,.str z]:=
 ⟨_,_,_,h,rfl,rfl,(show 3<=QO by decide),.cons ⟨t,rfl⟩ (.cons ⟨u,rfl⟩ (.cons ⟨v,rfl⟩ .nil))⟩
theorem qD{K:Qe}{G:Hp}:∀k:List Str,DenL K G (k.map V.str) (k.map D.str)
 |[]=>.nil
 |n::r=>.cons (.str n) (qD r)
section
variable{X:Cx}{a b c:Expr}{fa fb fc:Ev->Option D}{pos:Pos}
theorem AU{x:Str}{ad:Addr}(ss:List Str)(hg:Gl X x)(hm:X.mg x=some (.ref ad))(ht:Dt X.K ad (ss.map V.str))(hd:(x==("__debug__" : Str))=false:=by decide):DE X (.Name x pos) (eC (.tup (ss.map D.str))):=
 fY (sR (v:=.ref ad) hg hm rfl hd) λG=>.tup (.inr ht) (qD ss)
end
def jI:Ev->Option Fl:=(sIf (ay gtI (aa 5) (eC (.int 0))) (aC (dg 2 (e2 aH (aa 5) (eC (.int 1000)))) (a8 5 (e2 cC (aa 5) (eC (.int 1000))))) bC)
def jM:Ev->Option Fl:=(aC (a8 3 (e2 aH (e2 aN (e2 aN (e2 bH (aa 3) (eC (.int 69621))) (e2 aH (aa 4) (eC (.int 999983)))) (eC (.int 7))) (eC (.int 2147483629)))) (aC (a8 5 (e2 bA (aa 4) (e2 p0 (eC (.int 10)) (eC (.int 18))))) (aC (sIf (ay ltI (aa 5) (eC (.int 0))) (dg 2 (e2 aH (aa 4) (eC (.int 1000)))) bC) (cJ (cy (eC (.int 60))) (ak 6) jI))))
def hZ:Ev->Option Fl:=(sIf (ay ltI (bS bU (aa 2)) (aa 1)) (aC (a8 3 (e2 aH (e2 aN (e2 aN (e2 aN (e2 p0 (aa 3) (eC (.int 3))) (e2 bH (eC (.int 40692)) (aa 3))) (e2 bH (eC (.int 7)) (aa 6))) (eC (.int 5))) (eC (.int 2147483629)))) (dg 2 (e2 aH (e2 cC (aa 3) (eC (.int 1009))) (eC (.int 1000))))) bC)
def CS:Ev->Option Fl:=(aC (fj 2 (cI aF)) (aC (a8 3 (eC (.int 29))) (aC (cJ (cV (eF (eSl (aa 0) b9 (aT (eC (.int 63)))))) (ak 4) jM) (aC (cJ (cy (av 1)) (ak 6) hZ) (bh (eF (eSl (aa 2) b9 (aT (aa 1)))))))))
theorem au{g g':Ev->Option Fl}{ε ε':Ev}(h:g ε=some (.nx ε')):aC g g' ε=g' ε':=by unfold aC;rw[h];rfl
theorem bQ{g g':Ev->Option Fl}{ε:Ev}{d:D}(h:g ε=some (.rt d)):aC g g' ε=some (.rt d):=by unfold aC;rw[h];rfl
theorem bE{f:Ev->Option (List D)}{g:D->Ev->Option Ev}{gb:Ev->Option Fl}{ε:Ev}{ds:List D}(h:f ε=some ds):cJ f g gb ε=cO g gb ds ε:=by unfold cJ;rw[h];rfl
theorem eW{f:Ev->Option Bool}{g g':Ev->Option Fl}{ε:Ev}(h:f ε=some true):sIf f g g' ε=g ε:=by unfold sIf;rw[h];rfl
theorem dB{f:Ev->Option Bool}{g g':Ev->Option Fl}{ε:Ev}(h:f ε=some false):sIf f g g' ε=g' ε:=by unfold sIf;rw[h];rfl
theorem aX{i:Nat}{f:Ev->Option D}{ε:Ev}{d:D}(h:f ε=some d):a8 i f ε=some (.nx (ε.set i (.dat d))):=by unfold a8;rw[h];rfl
theorem cZ{f:Ev->Option D}{ε:Ev}{d:D}(h:f ε=some d):bh f ε=some (.rt d):=by unfold bh;rw[h];rfl
theorem cM{f:Ev->Option (List D)}{ε:Ev}{ds:List D}(h:f ε=some ds):eF f ε=some (.lst ds):=by unfold eF;rw[h];rfl
theorem De{F:List D->Option D}{fa:Ev->Option D}{ε:Ev}{x:D}(h1:fa ε=some x):aK F (ag fa aF) ε=F [x]:=by unfold aK ag;rw[h1];rfl
theorem nz{F:List D->Option D}{g:Ev->Option (List D)}{ε:Ev}{b:Bool}(h:aK F g ε=some (.bl b)):dZ (ec (aK F g)) ε=some (!b):=by unfold dZ ec;rw[h];rfl
theorem gG{fa fb:Ev->Option D}{ε:Ev}{a b:Bool}(h1:fa ε=some (.bl a))(h2:fb ε=some (.bl b)):mx fa fb ε=some (.bl (a&&b)):=by
 unfold mx;rw[h1];cases a
 ·rfl
 ·show fb ε=_;rw[h2];rfl
theorem n4{fa fb fc:Ev->Option D}{ε:Ev}{a b c:Int}(h1:fa ε=some (.int a))(h2:fb ε=some (.int b))(h3:fc ε=some (.int c)):eCh leI leI fa fb fc ε=some (.bl (decide (a<=b)&&decide (b<=c))):=by
 unfold eCh;rw[h1,h2,h3];show(if decide (a<=b)=true then some (D.bl (decide (b<=c))) else some (.bl false))=_;cases decide (a<=b)<;>rfl
theorem bp{N ps:List Str}{g:Ev->Option Fl}{ds:List D}{d:D}(hl:ds.length=ps.length)(h:g (gw N ds)=some (.rt d)):fnD N ps g ds=some d:=by
 unfold fnD;rw[if_pos hl,h]
theorem yR(xs:List D)(a b:Nat)(hb:b<=xs.length):Dn.gO xs (some (a:Int)) (some (b:Int))=(xs.drop a).take (b-a):=by
 unfold Dn.gO;rw[HT.ko,HT.ko,KS hb];rcases Nat.le_total a xs.length with h | h
 ·rw[KS h]
 ·rw[Nat.min_eq_right h,List.drop_eq_nil_of_le h,JA];simp
abbrev iL(l:List Int):List D:=l.map D.int
def Low(l:List Int):Prop:=∀v∈l,0<=v/\v<1000
theorem Low.snoc{l:List Int}{v:Int}(h:Low l)(h0:0<=v)(h1:v<1000):Low (l++[v]):=by
 intro u hu;rcases QM.mp hu with z | z
 ·exact h u z
 ·rw[Qt.mp z];exact⟨h0,h1⟩
theorem vI(A M S C k:Sl)(row:List Int)(rest:Int)(hl:Low row)(hz:row.length<900000) :
  ∃row' rest',jI [A,M,.own (iL row),S,C,.dat (.int rest),k]=some (.nx [A,M,.own (iL row'),S,C,.dat (.int rest'),k])/\Low row'/\row'.length<=row.length+1:=by
 by_cases h:0<rest
 ·refine⟨row++[rest%1000],rest/1000,?_,hl.snoc (by lia) (by lia),by simp⟩
  have:row.length<1000000:=by lia
  simp[jI,sIf,ay,asB,e2,gtI,dX,aa,eC,aC,dg,a8,aH,cC,wc,h,this,iL]
 ·refine⟨row,rest,?_,hl,by simp⟩
  simp[jI,sIf,ay,asB,e2,gtI,dX,aa,eC,bC,h]
theorem sP(A M S C:Sl):∀(l:List D) (k:Sl) (row:List Int) (rest:Int),Low row->row.length+l.length<900000->
  ∃row' rest' k',cO (ak 6) jI l [A,M,.own (iL row),S,C,.dat (.int rest),k]=some (.nx [A,M,.own (iL row'),S,C,.dat (.int rest'),k'])/\Low row'/\row'.length<=row.length+l.length
 |[],k,row,rest,hl,hz=>⟨row,rest,k,rfl,hl,by simp⟩
 |d::l,k,row,rest,hl,hz=>by
  simp only[QA] at hz;obtain⟨row1,rest1,e1,l1,z1⟩:=vI A M S C (.dat d) row rest hl (by lia);obtain⟨row2,rest2,k2,e2,l2,z2⟩:=sP A M S C l (.dat d) row1 rest1 l1 (by lia);refine⟨row2,rest2,k2,?_,l2,by simp only[QA];lia⟩;unfold cO;have t:ak 6 d [A,M,.own (iL row),S,C,.dat (.int rest),k]=some [A,M,.own (iL row),S,C,.dat (.int rest),.dat d]:=rfl;rw[t];show(jI _).bind _=_;rw[e1];exact e2
theorem uV(A M r k:Sl)(row:List Int)(seed cell:Int)(hl:Low row)(hs:0<=seed/\seed<2147483629)(hz:row.length<800000) :
  ∃row' seed' r' k',jM [A,M,.own (iL row),.dat (.int seed),.dat (.int cell),r,k]=some (.nx [A,M,.own (iL row'),.dat (.int seed'),.dat (.int cell),r',k'])/\Low row'/\(0<=seed'/\seed'<2147483629)/\row'.length<=row.length+61:=by
 have key:∃row1,sIf (ay ltI (aa 5) (eC (.int 0))) (dg 2 (e2 aH (aa 4) (eC (.int 1000)))) bC [A,M,.own (iL row),.dat (.int ((seed*69621+cell%999983+7)%2147483629)),.dat (.int cell),.dat (.int (cell-1000000000000000000)),k] =
   some (.nx [A,M,.own (iL row1),.dat (.int ((seed*69621+cell%999983+7)%2147483629)),.dat (.int cell),.dat (.int (cell-1000000000000000000)),k])/\Low row1/\row1.length<=row.length+1:=by
  by_cases h:cell-1000000000000000000<0
  ·refine⟨row++[cell%1000],?_,hl.snoc (by lia) (by lia),by simp⟩
   have h2:row.length<1000000:=by lia
   simp[sIf,ay,asB,e2,ltI,dX,aa,eC,dg,aH,h,h2,iL]
  ·refine⟨row,?_,hl,by simp⟩
   simp[sIf,ay,asB,e2,ltI,dX,aa,eC,bC,h]
 obtain⟨row1,e1,l1,z1⟩:=key;obtain⟨row2,rest2,k2,e2',l2,z2⟩:=sP A M (.dat (.int ((seed*69621+cell%999983+7)%2147483629))) (.dat (.int cell)) (da 60) k row1 (cell-1000000000000000000) l1 (by simp[da];lia);refine⟨row2,(seed*69621+cell%999983+7)%2147483629,.dat (.int rest2),k2,?_,l2,by lia,by simp[da] at z2;lia⟩
 have s1:a8 3 (e2 aH (e2 aN (e2 aN (e2 bH (aa 3) (eC (.int 69621))) (e2 aH (aa 4) (eC (.int 999983)))) (eC (.int 7))) (eC (.int 2147483629))) [A,M,.own (iL row),.dat (.int seed),.dat (.int cell),r,k] =
   some (.nx [A,M,.own (iL row),.dat (.int ((seed*69621+cell%999983+7)%2147483629)),.dat (.int cell),r,k]):=by
  simp[a8,e2,aH,aN,bH,dX,aa,eC,mD]
 have s2:a8 5 (e2 bA (aa 4) (e2 p0 (eC (.int 10)) (eC (.int 18)))) [A,M,.own (iL row),.dat (.int ((seed*69621+cell%999983+7)%2147483629)),.dat (.int cell),r,k] =
   some (.nx [A,M,.own (iL row),.dat (.int ((seed*69621+cell%999983+7)%2147483629)),.dat (.int cell),.dat (.int (cell-1000000000000000000)),k]):=by
  simp[a8,e2,bA,p0,dX,aa,eC,wq]
 have r60:cy (eC (.int 60)) [A,M,.own (iL row1),.dat (.int ((seed*69621+cell%999983+7)%2147483629)),.dat (.int cell),.dat (.int (cell-1000000000000000000)),k]=some (da 60):=rfl;unfold jM;rw[au s1,au s2,au e1,bE r60];exact e2'
theorem qV(A M:Sl):∀(l:List Int) (c r k:Sl) (row:List Int) (seed:Int),Low row->(0<=seed/\seed<2147483629)->row.length+61*l.length<800000->
  ∃row' seed' c' r' k',cO (ak 4) jM (iL l) [A,M,.own (iL row),.dat (.int seed),c,r,k]=some (.nx [A,M,.own (iL row'),.dat (.int seed'),c',r',k'])/\Low row'/\(0<=seed'/\seed'<2147483629)/\row'.length<=row.length+61*l.length
 |[],c,r,k,row,seed,hl,hs,hz=>⟨row,seed,c,r,k,rfl,hl,hs,by simp⟩
 |v::l,c,r,k,row,seed,hl,hs,hz=>by
  simp only[QA] at hz;obtain⟨row1,seed1,r1,k1,e1,l1,h1,z1⟩:=uV A M r k row seed v hl hs (by lia);obtain⟨row2,seed2,c2,r2,k2,e2,l2,h2,z2⟩:=qV A M l (.dat (.int v)) r1 k1 row1 seed1 l1 h1 (by lia);refine⟨row2,seed2,c2,r2,k2,?_,l2,h2,by simp only[QA];lia⟩;show cO (ak 4) jM (.int v::iL l) _=_;unfold cO;have t:ak 4 (.int v) [A,M,.own (iL row),.dat (.int seed),c,r,k]=some [A,M,.own (iL row),.dat (.int seed),.dat (.int v),r,k]:=rfl;rw[t];show(jM _).bind _=_;rw[e1];exact e2
theorem uX(A c r:Sl)(m:Nat)(row:List Int)(seed:Int)(j:Nat)(hl:Low row)(hs:0<=seed/\seed<2147483629)(hz:row.length<900000) :
  ∃row' seed',hZ [A,.dat (.int (m:Int)),.own (iL row),.dat (.int seed),c,r,.dat (.int (j:Int))]=some (.nx [A,.dat (.int (m:Int)),.own (iL row'),.dat (.int seed'),c,r,.dat (.int (j:Int))])/\Low row'/\(0<=seed'/\seed'<2147483629)/\row'.length<=row.length+1/\(row.length<m->row'.length=row.length+1)/\(m<=row.length->row'.length=row.length):=by
 by_cases h:row.length<m
 ·refine⟨row++[(seed ^ 3+40692*seed+7*(j:Int)+5)%2147483629/1009%1000],(seed ^ 3+40692*seed+7*(j:Int)+5)%2147483629,?_,hl.snoc (by lia) (by lia),by lia,by simp,by simp,by lia⟩
  have h2:(row.length:Int)<(m:Int):=by lia
  have h3:row.length<1000000:=by lia
  have h4:seed.natAbs<18446744073709551616:=by lia
  simp[hZ,sIf,ay,asB,e2,ltI,dX,aa,eC,bS,bU,aC,dg,a8,aH,cC,p0,aN,bH,wc,wq,mD,h2,h3,h4,h,iL]
 ·refine⟨row,seed,?_,hl,hs,by lia,by lia,by lia⟩
  have h2:¬ (row.length:Int)<(m:Int):=by lia
  simp[hZ,sIf,ay,asB,e2,ltI,dX,aa,eC,bS,bU,bC,h]
theorem m7(A c r:Sl)(m:Nat):∀(l:List Nat) (k:Sl) (row:List Int) (seed:Int),Low row->(0<=seed/\seed<2147483629)->row.length+l.length<900000->m<=row.length+l.length->
  ∃row' seed' k',cO (ak 6) hZ (l.map λ(i:Nat)=>D.int (i:Int)) [A,.dat (.int (m:Int)),.own (iL row),.dat (.int seed),c,r,k]=some (.nx [A,.dat (.int (m:Int)),.own (iL row'),.dat (.int seed'),c,r,k'])/\Low row'/\m<=row'.length/\row'.length<900000
 |[],k,row,seed,hl,hs,hz,hm=>⟨row,seed,k,rfl,hl,by simpa using hm,by simpa using hz⟩
 |j::l,k,row,seed,hl,hs,hz,hm=>by
  simp only[QA] at hz hm;obtain⟨row1,seed1,e1,l1,h1,z1,z2,z3⟩:=uX A c r m row seed j hl hs (by lia);obtain⟨row2,seed2,k2,e2,l2,h2,h3⟩:=m7 A c r m l (.dat (.int (j:Int))) row1 seed1 l1 h1 (by lia) (by lia);refine⟨row2,seed2,k2,?_,l2,h2,h3⟩;show cO (ak 6) hZ (.int (j:Int)::l.map λ(i:Nat)=>D.int (i:Int)) _=_;unfold cO;have t:ak 6 (.int (j:Int)) [A,.dat (.int (m:Int)),.own (iL row),.dat (.int seed),c,r,k]=some [A,.dat (.int (m:Int)),.own (iL row),.dat (.int seed),c,r,.dat (.int (j:Int))]:=rfl;rw[t];show(hZ _).bind _=_;rw[e1];exact e2
theorem oB(xs:List D)(n:Nat):gO xs none (some (n:Int))=xs.take n:=by
 unfold gO;rw[HT.ph,HT.ko,List.drop_zero,Nat.sub_zero];rcases Nat.le_total n xs.length with h | h
 ·rw[KS h]
 ·rw[Nat.min_eq_right h,List.take_length,JZ h]
theorem zE(ns:List Int)(hn:ns.length<=63)(m:Nat)(hm:m<=5000) :
  ∃row:List Int,CS [.dat (.lst (iL ns)),.dat (.int (m:Int)),.un,.un,.un,.un,.un]=some (.rt (.lst (iL row)))/\row.length=m/\Low row:=by
 have hk:(iL ns).take 63=iL ns:=JZ (by simpa[iL] using hn);obtain⟨row1,seed1,c1,r1,k1,e1,l1,h1,z1⟩:=qV (.dat (.lst (iL ns))) (.dat (.int (m:Int))) ns .un .un .un [] 29 (by intro v hv;cases hv) (by decide) (by simp;lia);obtain⟨row2,seed2,k2,e2',l2,h2,h3⟩:=m7 (.dat (.lst (iL ns))) c1 r1 m (QE m) k1 row1 seed1 l1 h1 (by simp at z1 ⊢;lia) (by simp);refine⟨row2.take m,?_,by rw[QP];lia,λv hv=>l2 v (Kw hv)⟩;have s1:fj 2 (cI aF) [.dat (.lst (iL ns)),.dat (.int (m:Int)),.un,.un,.un,.un,.un]=some (.nx [.dat (.lst (iL ns)),.dat (.int (m:Int)),.own (iL []),.un,.un,.un,.un]):=rfl;have s2:a8 3 (eC (.int 29)) [.dat (.lst (iL ns)),.dat (.int (m:Int)),.own (iL []),.un,.un,.un,.un]=some (.nx [.dat (.lst (iL ns)),.dat (.int (m:Int)),.own (iL []),.dat (.int 29),.un,.un,.un]):=rfl
 have s3:cV (eF (eSl (aa 0) b9 (aT (eC (.int 63))))) [.dat (.lst (iL ns)),.dat (.int (m:Int)),.own (iL []),.dat (.int 29),.un,.un,.un]=some (iL ns):=by
  show cV _ _=_;have:eSl (aa 0) b9 (aT (eC (.int 63))) [.dat (.lst (iL ns)),.dat (.int (m:Int)),.own (iL []),.dat (.int 29),.un,.un,.un]=some (gO (iL ns) none (some ((63:Nat):Int))):=rfl;unfold cV eF;rw[this,oB,hk];rfl
 have s4:cy (av 1) [.dat (.lst (iL ns)),.dat (.int (m:Int)),.own (iL row1),.dat (.int seed1),c1,r1,k1]=some (da m):=by
  have:(m:Int)<1000000/\-1000000<(m:Int):=by lia
  unfold cy;show(if(m:Int)<1000000/\-1000000<(m:Int) then some (da (m:Int).toNat) else none)=_;rw[if_pos this,Z0]
 have s5:bh (eF (eSl (aa 2) b9 (aT (aa 1)))) [.dat (.lst (iL ns)),.dat (.int (m:Int)),.own (iL row2),.dat (.int seed2),c1,r1,k2]=some (.rt (.lst (iL (row2.take m)))):=by
  have:eSl (aa 2) b9 (aT (aa 1)) [.dat (.lst (iL ns)),.dat (.int (m:Int)),.own (iL row2),.dat (.int seed2),c1,r1,k2]=some (gO (iL row2) none (some (m:Int))):=rfl;unfold bh eF;rw[this,oB];simp[iL,KH]
 have e2'':cO (ak 6) hZ (da m) [.dat (.lst (iL ns)),.dat (.int (m:Int)),.own (iL row1),.dat (.int seed1),c1,r1,k1]=_:=e2';unfold CS;rw[au s1,au s2,au (by rw[bE s3];exact e1),au (by rw[bE s4];exact e2'')];exact s5
def OkS:Nat->D->Prop
 |0,_=>False
 |n+1,.tup ds=>ds.length<1000000/\∀d∈ds,OkS n d
 |n+1,.lst ds=>ds.length<1000000/\∀d∈ds,OkS n d
 |_+1,.dic _=>False
 |_+1,_=>True
theorem jL{f:D->D->Option Bool}:∀(ds:List D),(∀d∈ds,f d d=some true)->iF f ds ds=some true
 |[],_=>rfl
 |d::ds,h=>by
  show((f d d).bind λa=>(iF f ds ds).bind λb=>some (a&&b))=_;rw[h d (by simp),jL ds λe he=>h e (by simp[he])];rfl
def OkQ:Nat->D->Prop
 |n+1,.tup ds=>∀d∈ds,OkQ n d
 |n+1,.lst ds=>∀d∈ds,OkQ n d
 |0,.tup _=>False
 |0,.lst _=>False
 |_,.dic _=>False
 |_,_=>True
theorem lV:∀(n:Nat) (d:D),OkQ n d->cq n d d=some true
 |0,.non,_=>rfl
 |0,.bl b,_=>by simp[cq,eqS]
 |0,.int i,_=>by simp[cq,eqS]
 |0,.str x,_=>by simp[cq,eqS]
 |0,.tup _,h=>h.elim
 |0,.lst _,h=>h.elim
 |0,.dic _,h=>h.elim
 |n+1,.dic _,h=>h.elim
 |n+1,.non,_=>rfl
 |n+1,.bl b,_=>by simp[cq,eqS]
 |n+1,.int i,_=>by simp[cq,eqS]
 |n+1,.str x,_=>by simp[cq,eqS]
 |n+1,.tup ds,h=>by
  show(iF (cq n) ds ds).map _=_;rw[jL ds λe he=>lV n e (h e he)];simp
 |n+1,.lst ds,h=>by
  show(if ds.length=ds.length then iF (cq n) ds ds else some false)=_;rw[if_pos rfl,jL ds λe he=>lV n e (h e he)]
theorem mN{d:D}(h:OkQ 9 d):kn d d=some (.bl false):=by unfold kn;rw[lV 9 d h];rfl
theorem OkS.int{n:Nat}(h:0<n)(i:Int):OkS n (.int i):=by
 cases n with
 |zero=>cases h
 |succ n=>exact trivial
def bD(f:Nat->Int)(n:Nat):List Int:=(QE n).map f
theorem D8(row:List Int):row=bD (λj=>row.getD j 0) row.length:=by
 apply Jv;intro i;unfold bD;rw[Qx]
 by_cases h:i<row.length
 ·simp[h,ZD]
 ·have h':row.length<=i:=by lia
  rw[ZW h',ZW (by simpa using h')];rfl
theorem Dy{row:List Int}{n:Nat}(hl:row.length=n)(hL:Low row):∃f:Nat->Int,row=bD f n/\∀j,0<=f j/\f j<1000:=by
 refine⟨λj=>row.getD j 0,by rw[<-hl];exact D8 row,λj=>?_⟩
 by_cases h:j<row.length
 ·have:row.getD j 0=row[j]:=by simp[Jl,h]
  show 0<=row.getD j 0/\row.getD j 0<1000;rw[this];exact hL _ (ZG h)
 ·have:row.getD j 0=0:=by simp[Jl,ZW (show row.length<=j by lia)]
  show 0<=row.getD j 0/\row.getD j 0<1000;rw[this];lia
theorem cz{f:Ev->Option Bool}{g g':Ev->Option Fl}{ε:Ev}(p:Prop)[Decidable p](h:f ε=some (decide p))(hp:p):sIf f g g' ε=g ε:=eW (h.trans (by rw[decide_eq_true hp]))
theorem b_{f:Ev->Option Bool}{g g':Ev->Option Fl}{ε:Ev}(p:Prop)[Decidable p](h:f ε=some (decide p))(hp:¬p):sIf f g g' ε=g' ε:=dB (h.trans (by rw[decide_eq_false hp]))
theorem ET{i j:Int}(h:-(2 ^ 64)<j/\j<2 ^ 64):bH (.int i) (.int j)=some (.int (i*j)):=by
 have c:mD i j:=Zj h;simp[bH,dX,c]
theorem sS{i j:Int}(h:-(2 ^ 64)<i/\i<2 ^ 64):bH (.int i) (.int j)=some (.int (i*j)):=by
 have c:mD i j:=Or.inl h;simp[bH,dX,c]
theorem mh{i j:Int}(h:0<j):aH (.int i) (.int j)=some (.int (i%j)):=by
 simp[aH,dX,h]
theorem bP{op:D->D->Option D}{fa fb:Ev->Option D}{ε:Ev}{x y:D}(h1:fa ε=some x)(h2:fb ε=some y):e2 op fa fb ε=op x y:=by unfold e2;rw[h1,h2];rfl
theorem ix2{x y:D}(i:Int)(h:i=0\/i=1):ixD (.lst [x,y]) (.int i)=some (if i=0 then x else y):=by
 rcases h with rfl | rfl<;>rfl
theorem cU{g:D->Ev->Option Ev}{gb:Ev->Option Fl}(P:Nat->Ev->Prop):∀(ds:List D) (n:Nat),(∀i d,ds[i]?=some d->∀ε,P (n+i) ε->∃ε1 ε2,g d ε=some ε1/\(gb ε1=some (.nx ε2)\/gb ε1=some (.ct ε2))/\P (n+i+1) ε2)->
  ∀ε,P n ε->∃ε',cO g gb ds ε=some (.nx ε')/\P (n+ds.length) ε'
 |[],n,_,ε,h=>⟨ε,rfl,h⟩
 |d::ds,n,st,ε,h=>by
  obtain⟨ε1,ε2,e1,e2,h2⟩:=st 0 d rfl ε h
  obtain⟨ε3,e3,h3⟩:=cU P ds (n+1) (λi d' hd ε h'=>by
   have:=st (i+1) d' hd ε (by rw[show n+(i+1)=n+1+i by lia];exact h');rw[show n+(i+1)+1=n+1+i+1 by lia] at this
   exact this) ε2 h2
  refine⟨ε3,?_,by rw[QA,show n+(ds.length+1)=n+1+ds.length by lia];exact h3⟩;show(g d ε).bind _=_;rw[e1];show(gb ε1).bind _=_;rcases e2 with e2 | e2<;>(rw[e2];exact e3)
theorem vP{g:D->Ev->Option Ev}{gb:Ev->Option Fl}(P:Ev->Prop){ds:List D}(st:∀d∈ds,∀ε,P ε->∃ε1 ε2,g d ε=some ε1/\(gb ε1=some (.nx ε2)\/gb ε1=some (.ct ε2))/\P ε2){ε:Ev}(h:P ε):∃ε',cO g gb ds ε=some (.nx ε')/\P ε':=
 cU (λ_=>P) ds 0 (λi d hd ε h=>st d (QZ hd) ε h) ε h
theorem dR{n i:Nat}{d:D}(h:(da n)[i]?=some d):d=.int (i:Int)/\i<n:=by
 unfold da at h;rw[Qx] at h;obtain⟨m,em,rfl⟩:=a_ h;obtain⟨hm,em⟩:=Qk.mp em;rw[Kf] at em;subst em;exact⟨rfl,by simpa using hm⟩
theorem x6{n:Nat}{d:D}(h:d∈da n):∃i:Nat,d=.int (i:Int)/\i<n:=by
 obtain⟨i,hi⟩:=Q6 h;exact⟨i,dR hi⟩
@[simp] theorem rngD_len (n:Nat):(da n).length=n:=by simp[da]
theorem fB{f:Ev->Option D}{ε:Ev}{j:Int}(h:f ε=some (.int j))(h1:0<=j)(h2:j<1000000):cy f ε=some (da j.toNat):=by
 unfold cy;rw[h];show(if j<1000000/\-1000000<j then some (da j.toNat) else none)=_;rw[if_pos (by lia)]
theorem cE{f g:Ev->Option Bool}{ε:Ev}{a b:Bool}(h1:f ε=some a)(h2:g ε=some b):bJ f g ε=some (a&&b):=by
 unfold bJ;rw[h1];cases a
 ·rfl
 ·exact h2
theorem oZ{f g:Ev->Option Bool}{ε:Ev}{a b:Bool}(h1:f ε=some a)(h2:g ε=some b):jE f g ε=some (a || b):=by
 unfold jE;rw[h1];cases a
 ·exact h2
 ·rfl
theorem Ba{f:Ev->Option Bool}{ε:Ev}{a:Bool}(h1:f ε=some a):dZ f ε=some (!a):=by unfold dZ;rw[h1];rfl
theorem yM{α:Type}(xs:List α)(j:Int)(h0:0<=j)(h1:j<xs.length):∃x∈xs,atI xs j=some x:=by
 have hj:j.toNat<xs.length:=by lia
 refine⟨xs[j.toNat],ZG hj,?_⟩;unfold atI ixN;rw[if_pos h0,if_pos h1];simp[hj]
theorem dE{i:Nat}{f:Ev->Option D}{ε:Ev}{d:D}{ds:List D}(h:f ε=some d)(hi:ε[i]?=some (.own ds))(hl:ds.length<1000000):dg i f ε=some (.nx (ε.set i (.own (ds++[d])))):=by
 unfold dg;rw[h];show(match ε[i]? with | some (.own ds)=>_ | _=>none)=_;rw[hi];show(if ds.length<1000000 then _ else none)=_;rw[if_pos hl]
theorem lC(f:Nat->Int)(m a n:Nat)(h:a+n<=m):Dn.gO (iL (bD f m)) (some (a:Int)) (some ((a+n:Nat):Int))=iL (bD (λj=>f (a+j)) n):=by
 rw[yR _ _ _ (by simp[iL,bD];lia)];unfold iL bD;rw[show a+n-a=n by lia,<-List.map_drop,<-KH,<-List.map_drop,<-KH];congr 1;apply Jv;intro i;rw[Qx,Qx]
 by_cases hi:i<n
 ·rw[JV,if_pos hi,JW]
  simp[ZD,hi,show a+i<m by lia]
 ·rw[JV,if_neg hi]
  simp[ZD,hi]
def Cs:Ev->Option Fl:=(aC (sIf (ay br (e2 aH (e2 ixD (aa 0) (eC (.int 0))) (eC (.int 5))) (eC (.int 1))) (bh (bM (ag (e2 bA (e2 ixD (aa 0) (eC (.int 1))) (eC (.int 500))) (ag (e2 bA (e2 ixD (aa 0) (eC (.int 2))) (eC (.int 500))) aF)))) bC) (aC (sIf (ay br (e2 aH (e2 ixD (aa 0) (eC (.int 0))) (eC (.int 5))) (eC (.int 2))) (bh (bM (ag (e2 bH (e2 bA (e2 aH (e2 ixD (aa 0) (eC (.int 1))) (eC (.int 3))) (eC (.int 1))) (eC (.int 985))) (ag (e2 bH (e2 bA (e2 aH (e2 ixD (aa 0) (eC (.int 2))) (eC (.int 3))) (eC (.int 1))) (eC (.int 985))) aF)))) bC) (bh (bM (ag (eC (.int 0)) (ag (eC (.int 0)) aF))))))
theorem yw(a0 a1 a2:Int):∃b0 b1,Cs [.dat (.lst (iL [a0,a1,a2]))]=some (.rt (.tup [.int b0,.int b1])):=by
 unfold Cs
 by_cases h1:a0%5=1
 ·exact⟨a1-500,a2-500,bQ (by rw[cz (a0%5=1) rfl h1];rfl)⟩
 ·by_cases h2:a0%5=2
  ·refine⟨(a1%3-1)*985,(a2%3-1)*985,(au (by rw[b_ (a0%5=1) rfl h1];rfl)).trans (bQ ?_)⟩
   rw[cz (a0%5=2) rfl h2];refine cZ ?_;have c1:e2 bH (e2 bA (e2 aH (e2 ixD (aa 0) (eC (.int 1))) (eC (.int 3))) (eC (.int 1))) (eC (.int 985)) [.dat (.lst (iL [a0,a1,a2]))]=some (.int ((a1%3-1)*985)):=(bP (x:=.int (a1%3-1)) (y:=.int 985) rfl rfl).trans (ET (by decide));have c2:e2 bH (e2 bA (e2 aH (e2 ixD (aa 0) (eC (.int 2))) (eC (.int 3))) (eC (.int 1))) (eC (.int 985)) [.dat (.lst (iL [a0,a1,a2]))]=some (.int ((a2%3-1)*985)):=(bP (x:=.int (a2%3-1)) (y:=.int 985) rfl rfl).trans (ET (by decide));unfold bM ag;rw[c1,c2];rfl
  ·exact⟨0,0,(au (by rw[b_ (a0%5=1) rfl h1];rfl)).trans ((au (by rw[b_ (a0%5=2) rfl h2];rfl)).trans rfl)⟩
abbrev t6(a0 a1 a2 a3 a4 a5:Int):D:=.tup [.int a0,.int a1,.int a2,.int a3,.int a4,.int a5]
def F9:Ev->Option Fl:=(aC (a8 2 (e2 bA (e2 aN (e2 ixD (aa 1) (eC (.int 0))) (e2 aH (e2 ixD (aa 0) (eC (.int 0))) (eC (.int 9)))) (eC (.int 4)))) (aC (a8 3 (e2 bA (e2 aN (e2 ixD (aa 1) (eC (.int 1))) (e2 aH (e2 ixD (aa 0) (eC (.int 1))) (eC (.int 9)))) (eC (.int 4)))) (aC (a8 4 (e2 aH (e2 ixD (aa 0) (eC (.int 4))) (eC (.int 6)))) (bh (bM (ag (av 2) (ag (av 3) (ag (e2 aN (aa 2) (e2 aH (e2 ixD (aa 0) (eC (.int 2))) (eC (.int 4)))) (ag (e2 aN (aa 3) (e2 aH (e2 ixD (aa 0) (eC (.int 3))) (eC (.int 4)))) (ag (av 4) (ag (e2 aN (aa 4) (e2 aH (e2 ixD (aa 0) (eC (.int 5))) (e2 bA (eC (.int 6)) (aa 4)))) aF)))))))))))
theorem iz{l:List Int}{n:Nat}(h:n+1<=l.length):∃d r,l=d::r/\n<=r.length:=by
 cases l with
 |nil=>cases h
 |cons d r=>exact⟨d,r,rfl,Nat.le_of_succ_le_succ h⟩
theorem BG(l:List Int)(hl:6<=l.length)(b0 b1:Int):∃a0 a1 a2 a3 a4 a5,F9 [.dat (.lst (iL l)),.dat (.tup [.int b0,.int b1]),.un,.un,.un]=some (.rt (t6 a0 a1 a2 a3 a4 a5))/\(a0<=a2/\a1<=a3/\a4<=a5)/\0<=a4/\a5<=5:=by
 obtain⟨d0,d1,d2,d3,d4,d5,r,rfl⟩:∃d0 d1 d2 d3 d4 d5 r,l=d0::d1::d2::d3::d4::d5::r:=by
  obtain⟨d0,r0,rfl,h0⟩:=iz hl;obtain⟨d1,r1,rfl,h1⟩:=iz h0;obtain⟨d2,r2,rfl,h2⟩:=iz h1;obtain⟨d3,r3,rfl,h3⟩:=iz h2;obtain⟨d4,r4,rfl,h4⟩:=iz h3;obtain⟨d5,r5,rfl,h5⟩:=iz h4;exact⟨d0,d1,d2,d3,d4,d5,r5,rfl⟩
 have at_:∀(k:Nat) (v:Int),(d0::d1::d2::d3::d4::d5::r)[k]?=some v->ixD (.lst (iL (d0::d1::d2::d3::d4::d5::r))) (.int (k:Int))=some (.int v):=λk v h=>kP (by unfold iL;rw[Qx,h];rfl);have w0:=at_ 0 d0 rfl;have w1:=at_ 1 d1 rfl;have w2:=at_ 2 d2 rfl;have w3:=at_ 3 d3 rfl;have w4:=at_ 4 d4 rfl;have w5:=at_ 5 d5 rfl;let m:=d4%6;refine⟨b0+d0%9-4,b1+d1%9-4,b0+d0%9-4+d2%4,b1+d1%9-4+d3%4,m,m+d5%(6-m),?_,⟨by lia,by lia,?_⟩,by lia,?_⟩
 ·unfold F9
  refine(au (aX (d:=.int (b0+d0%9-4)) ?_)).trans ?_
  ·refine(bP (x:=.int (b0+d0%9)) (y:=.int 4) ((bP (x:=.int b0) (y:=.int (d0%9)) rfl ((bP (x:=.int d0) (y:=.int 9) ((bP (y:=.int 0) rfl rfl).trans w0) rfl).trans rfl)).trans rfl) rfl).trans rfl
  refine(au (aX (d:=.int (b1+d1%9-4)) ?_)).trans ?_
  ·refine(bP (x:=.int (b1+d1%9)) (y:=.int 4) ((bP (x:=.int b1) (y:=.int (d1%9)) rfl ((bP (x:=.int d1) (y:=.int 9) ((bP (y:=.int 1) rfl rfl).trans w1) rfl).trans rfl)).trans rfl) rfl).trans rfl
  refine(au (aX (d:=.int m) ((bP (x:=.int d4) (y:=.int 6) ((bP (y:=.int 4) rfl rfl).trans w4) rfl).trans rfl))).trans ?_;refine cZ ?_;unfold bM ag
  rw[bP (op:=aN) (fa:=aa 2) (x:=.int (b0+d0%9-4)) (y:=.int (d2%4)) rfl ((bP (x:=.int d2) (y:=.int 4) ((bP (y:=.int 2) rfl rfl).trans w2) rfl).trans rfl),
   bP (op:=aN) (fa:=aa 3) (x:=.int (b1+d1%9-4)) (y:=.int (d3%4)) rfl ((bP (x:=.int d3) (y:=.int 4) ((bP (y:=.int 3) rfl rfl).trans w3) rfl).trans rfl),
   bP (op:=aN) (fa:=aa 4) (x:=.int m) (y:=.int (d5%(6-m))) rfl ((bP (x:=.int d5) (y:=.int (6-m)) ((bP (y:=.int 5) rfl rfl).trans w5) rfl).trans (mh (by lia)))]
  rfl
 ·have hm:m=d4%6:=rfl
  have:=ZX d5 (show 6-m≠0 by lia)
  lia
 ·have hm:m=d4%6:=rfl
  have:=ZP d5 (show 0<6-m by lia)
  lia
structure Stt where
 (x y z s p:Int)
def stD(q:Stt):D:=.tup [.int q.x,.int q.y,.int q.z,.int q.s,.int q.p]
theorem aU{op:D->D->Option D}{fa fb:Ev->Option D}{ε:Ev}{x y z:D}(h1:fa ε=some x)(h2:fb ε=some y)(h3:op x y=some z):e2 op fa fb ε=some z:=(bP h1 h2).trans h3
theorem aJ{f:Ev->Option D}{g:Ev->Option (List D)}{ε:Ev}{x:D}{xs:List D}(h1:f ε=some x)(h2:g ε=some xs):ag f g ε=some (x::xs):=by unfold ag;rw[h1,h2];rfl
theorem AR{ε:Ev}:aF ε=some []:=rfl
theorem iu{g:Ev->Option (List D)}{ε:Ev}{ds:List D}(h1:g ε=some ds)(h2:ds.length<=1000):bM g ε=some (.tup ds):=by unfold bM;rw[h1];show(if ds.length<=1000 then some (D.tup ds) else none)=_;rw[if_pos h2]
theorem gf{op:D->Option D}{fa:Ev->Option D}{ε:Ev}{x z:D}(h1:fa ε=some x)(h2:op x=some z):bS op fa ε=some z:=by unfold bS;rw[h1];exact h2
theorem aW{F:List D->Option D}{g:Ev->Option (List D)}{ε:Ev}{ds:List D}{d:D}(h1:g ε=some ds)(h2:F ds=some d):aK F g ε=some d:=by unfold aK;rw[h1];exact h2
theorem cA{op:D->D->Option D}{fa fb:Ev->Option D}{ε:Ev}{x y:D}{b:Bool}(h1:fa ε=some x)(h2:fb ε=some y)(h3:op x y=some (.bl b)):ay op fa fb ε=some b:=by unfold ay;rw[aU h1 h2 h3];rfl
theorem ox{F:List D->Option D}{g:Ev->Option (List D)}{ε:Ev}{b:Bool}(h:aK F g ε=some (.bl b)):ec (aK F g) ε=some b:=by unfold ec;rw[h];rfl
structure Hl where
 (x y t:Int)
def hD(h:Hl):D:=.tup [.int h.x,.int h.y,.int h.t]
abbrev hL(hs:List Hl):List D:=hs.map hD
structure Wd where
 (h z dx dy:Int)
def wD(q:Wd):D:=.tup [.int q.h,.int q.z,.int q.dx,.int q.dy]
abbrev wL(ws:List Wd):List D:=ws.map wD
structure Sh where
 (a b c d e f t u:Int)
def shD(q:Sh):D:=.tup [.int q.a,.int q.b,.int q.c,.int q.d,.int q.e,.int q.f,.int q.t,.int q.u]
abbrev shL(l:List Sh):List D:=l.map shD
theorem i8(f:Nat->Int)(m j:Nat)(h:j<m):ixD (.lst (iL (bD f m))) (.int (j:Int))=some (.int (f j)):=
 kP (by unfold iL bD;rw[Qx,Qx,ZD h];rfl)
def Bc:Ev->Option Fl:=(dg 3 (bM (ag (e2 bA (e2 aN (e2 ixD (aa 1) (eC (.int 0))) (e2 aH (e2 ixD (aa 0) (e2 aN (e2 bH (eC (.int 3)) (aa 4)) (eC (.int 1)))) (eC (.int 9)))) (eC (.int 4))) (ag (e2 bA (e2 aN (e2 ixD (aa 1) (eC (.int 1))) (e2 aH (e2 ixD (aa 0) (e2 aN (e2 bH (eC (.int 3)) (aa 4)) (eC (.int 2)))) (eC (.int 9)))) (eC (.int 4))) (ag (e2 aN (eC (.int 1)) (e2 aH (e2 ixD (aa 0) (e2 aN (e2 bH (eC (.int 3)) (aa 4)) (eC (.int 3)))) (eC (.int 5)))) aF)))))
def Bj:Ev->Option Fl:=(aC (a8 6 (e2 ixD (eF (cI (ag (e2 aH (e2 ixD (aa 0) (e2 aN (eC (.int 16)) (aa 4))) (eC (.int 24))) (ag (e2 aH (e2 aN (aa 2) (e2 aH (e2 ixD (aa 0) (e2 aN (eC (.int 16)) (aa 4))) (eC (.int 4)))) (eC (.int 24))) aF)))) (e2 aH (e2 cC (e2 ixD (aa 0) (eC (.int 0))) (eC (.int 30))) (eC (.int 2))))) (sIf (ay (inD true) (aa 6) (aa 5)) (dg 5 (av 6)) bC))
def BN:Ev->Option Fl:=(aC (a8 8 (eF (eSl (aa 0) (aT (e2 aN (eC (.int 22)) (e2 bH (eC (.int 4)) (aa 4)))) (aT (e2 aN (eC (.int 26)) (e2 bH (eC (.int 4)) (aa 4))))))) (aC (a8 9 (e2 ixD (eF (cI (ag (e2 aH (e2 ixD (aa 8) (eC (.int 0))) (eC (.int 24))) (ag (e2 aH (e2 aN (aa 2) (e2 aH (e2 cC (e2 ixD (aa 8) (eC (.int 0))) (eC (.int 7))) (eC (.int 6)))) (eC (.int 24))) aF)))) (e2 aH (e2 cC (e2 ixD (aa 8) (eC (.int 1))) (eC (.int 6))) (eC (.int 2))))) (dg 7 (bM (ag (av 9) (ag (e2 aH (e2 ixD (aa 8) (eC (.int 1))) (eC (.int 6))) (ag (e2 bA (e2 aH (e2 ixD (aa 8) (eC (.int 2))) (eC (.int 5))) (eC (.int 2))) (ag (e2 bA (e2 aH (e2 ixD (aa 8) (eC (.int 3))) (eC (.int 5))) (eC (.int 2))) aF))))))))
def BF(Fb:List D->Option D):Ev->Option Fl:=(aC (a8 11 (eF (eSl (aa 0) (aT (e2 aN (eC (.int 91)) (e2 bH (eC (.int 8)) (aa 4)))) (aT (e2 aN (eC (.int 99)) (e2 bH (eC (.int 8)) (aa 4))))))) (aC (a8 9 (e2 ixD (eF (cI (ag (e2 aH (e2 ixD (aa 11) (eC (.int 6))) (eC (.int 25))) (ag (av 2) aF)))) (e2 aH (e2 ixD (aa 11) (eC (.int 7))) (eC (.int 2))))) (dg 10 (e2 CatI.oS (aK Fb (ag (av 11) (ag (av 1) aF))) (bM (ag (av 9) (ag (e2 aN (aa 9) (e2 aH (e2 cC (e2 ixD (aa 11) (eC (.int 7))) (eC (.int 2))) (e2 bA (eC (.int 25)) (aa 9)))) aF)))))))
def Fe(Fb:List D->Option D):Ev->Option Fl:=(aC (fj 3 (cI aF)) (aC (cJ (cy (e2 aH (e2 ixD (aa 0) (eC (.int 0))) (eC (.int 6)))) (ak 4) Bc) (aC (fj 5 (cI aF)) (aC (cJ (cy (e2 aH (e2 cC (e2 ixD (aa 0) (eC (.int 0))) (eC (.int 6))) (eC (.int 5)))) (ak 4) Bj) (aC (fj 7 (cI aF)) (aC (sIf (ay gtI (e2 aH (e2 ixD (aa 0) (eC (.int 21))) (eC (.int 4))) (eC (.int 0))) (fj 7 (eLC (cy (eC (.int 6))) 1 [0] (ak 0) lr (bM (ag (eC (.int 0)) (ag (av 0) (ag (e2 bA (e2 aH (e2 ixD (aa 1) (e2 aN (eC (.int 78)) (e2 bH (eC (.int 2)) (aa 0)))) (eC (.int 5))) (eC (.int 2))) (ag (e2 bA (e2 aH (e2 ixD (aa 1) (e2 aN (eC (.int 79)) (e2 bH (eC (.int 2)) (aa 0)))) (eC (.int 5))) (eC (.int 2))) aF))))))) bC) (aC (cJ (cy (e2 aH (e2 cC (e2 ixD (aa 0) (eC (.int 21))) (eC (.int 4))) (eC (.int 14)))) (ak 4) BN) (aC (fj 10 (cI aF)) (aC (cJ (cy (e2 aH (e2 ixD (aa 0) (eC (.int 90))) (eC (.int 4)))) (ak 4) (BF Fb)) (sFz 10 (sFz 7 (sFz 5 (sFz 3 (bh (bM (ag (av 3) (ag (av 5) (ag (av 7) (ag (av 10) aF)))))))))))))))))))
def zh(Fb:List D->Option D):Prop:=∀(l:List Int) (_:6<=l.length) (b0 b1:Int),∃a0 a1 a2 a3 a4 a5,Fb [.lst (iL l),.tup [.int b0,.int b1]]=some (t6 a0 a1 a2 a3 a4 a5)/\(a0<=a2/\a1<=a3/\a4<=a5)/\0<=a4/\a5<=5
def lL(h:Hl):Prop:=1<=h.t/\h.t<=5
def kS(q:Wd):Prop:=(0<=q.h/\q.h<=23)/\(0<=q.z/\q.z<=5)
def oR(q:Sh):Prop:=q.a<=q.c/\q.b<=q.d/\q.e<=q.f/\0<=q.e/\q.f<=5/\0<=q.t/\q.t<=q.u/\q.u<=24
section
variable(f:Nat->Int)(b0 b1 hour:Int)
abbrev eS(s3 s4 s5 s6 s7 s8 s9 s10 s11:Sl):Ev:=[.dat (.lst (iL (bD f 120))),.dat (.tup [.int b0,.int b1]),.dat (.int hour),s3,s4,s5,s6,s7,s8,s9,s10,s11]
theorem sk0(k:Nat)(hk:k<6)(hs:List Hl)(hz:hs.length<1000)(s5 s6 s7 s8 s9 s10 s11:Sl):∃h:Hl,lL h/\Bc (eS f b0 b1 hour (.own (hL hs)) (.dat (.int (k:Int))) s5 s6 s7 s8 s9 s10 s11)=some (.nx (eS f b0 b1 hour (.own (hL (hs++[h]))) (.dat (.int (k:Int))) s5 s6 s7 s8 s9 s10 s11)):=by
 have m:e2 bH (eC (.int 3)) (aa 4) (eS f b0 b1 hour (.own (hL hs)) (.dat (.int (k:Int))) s5 s6 s7 s8 s9 s10 s11)=some (.int (3*(k:Int))):=(bP (x:=.int 3) (y:=.int (k:Int)) rfl rfl).trans (sS (by decide))
 have at_:∀j:Nat,j<10->e2 ixD (aa 0) (e2 aN (e2 bH (eC (.int 3)) (aa 4)) (eC (.int (j:Int)))) (eS f b0 b1 hour (.own (hL hs)) (.dat (.int (k:Int))) s5 s6 s7 s8 s9 s10 s11)=some (.int (f (3*k+j))):=λj hj=>by
  rw[bP (x:=(.lst (iL (bD f 120)))) (y:=.int ((3*k+j:Nat):Int)) rfl ((bP (x:=.int (3*(k:Int))) (y:=.int (j:Int)) m rfl).trans (by show some (D.int _)=_;rw[show(3*(k:Int)+(j:Int))=((3*k+j:Nat):Int) by lia]))];exact i8 f 120 _ (by lia)
 refine⟨⟨b0+f (3*k+1)%9-4,b1+f (3*k+2)%9-4,1+f (3*k+3)%5⟩,⟨by show 1<=1+_%_;lia,by show 1+_%_<=(5:Int);lia⟩,?_⟩;unfold Bc;refine(dE (ds:=hL hs) (d:=hD ⟨b0+f (3*k+1)%9-4,b1+f (3*k+2)%9-4,1+f (3*k+3)%5⟩) ?_ rfl (by simp;lia)).trans ?_
 ·have a1:e2 ixD (aa 0) (e2 aN (e2 bH (eC (.int 3)) (aa 4)) (eC (.int 1))) (eS f b0 b1 hour (.own (hL hs)) (.dat (.int (k:Int))) s5 s6 s7 s8 s9 s10 s11)=some (.int (f (3*k+1))):=at_ 1 (by decide)
  have a2:e2 ixD (aa 0) (e2 aN (e2 bH (eC (.int 3)) (aa 4)) (eC (.int 2))) (eS f b0 b1 hour (.own (hL hs)) (.dat (.int (k:Int))) s5 s6 s7 s8 s9 s10 s11)=some (.int (f (3*k+2))):=at_ 2 (by decide);have a3:e2 ixD (aa 0) (e2 aN (e2 bH (eC (.int 3)) (aa 4)) (eC (.int 3))) (eS f b0 b1 hour (.own (hL hs)) (.dat (.int (k:Int))) s5 s6 s7 s8 s9 s10 s11)=some (.int (f (3*k+3))):=at_ 3 (by decide);refine iu (aJ (aU (aU rfl (aU a1 rfl rfl) rfl) rfl rfl) (aJ (aU (aU rfl (aU a2 rfl rfl) rfl) rfl rfl) (aJ (aU rfl (aU a3 rfl rfl) rfl) rfl))) (show 3<=1000 by decide)
 ·rw[show hL (hs++[⟨b0+f (3*k+1)%9-4,b1+f (3*k+2)%9-4,1+f (3*k+3)%5⟩])=hL hs++[hD ⟨b0+f (3*k+1)%9-4,b1+f (3*k+2)%9-4,1+f (3*k+3)%5⟩] by simp[hL]]
  rfl
theorem ot:∀l:List Int,mG (iL l)=some (l.map V.int)
 |[]=>rfl
 |i::l=>by show(mG (iL l)).bind _=_;rw[ot l];rfl
theorem sk1(k:Nat)(hk:k<5)(cs:List Int)(hz:cs.length<1000)(s3 s6 s7 s8 s9 s10 s11:Sl):∃(cs':List Int) (e6:Sl),cs'.length<=cs.length+1/\Bj (eS f b0 b1 hour s3 (.dat (.int (k:Int))) (.own (iL cs)) s6 s7 s8 s9 s10 s11)=some (.nx (eS f b0 b1 hour s3 (.dat (.int (k:Int))) (.own (iL cs')) e6 s7 s8 s9 s10 s11)):=by
 have a1:e2 ixD (aa 0) (e2 aN (eC (.int 16)) (aa 4)) (eS f b0 b1 hour s3 (.dat (.int (k:Int))) (.own (iL cs)) s6 s7 s8 s9 s10 s11)=some (.int (f (16+k))):=
  aU (y:=.int ((16+k:Nat):Int)) rfl (aU rfl rfl (by show some (D.int (16+(k:Int)))=_;rw[show(16+(k:Int))=((16+k:Nat):Int) by lia])) (i8 f 120 _ (by lia))
 let c:Int:=if f 0/30%2=0 then f (16+k)%24 else(hour+f (16+k)%4)%24
 have c6:e2 ixD (eF (cI (ag (e2 aH (e2 ixD (aa 0) (e2 aN (eC (.int 16)) (aa 4))) (eC (.int 24))) (ag (e2 aH (e2 aN (aa 2) (e2 aH (e2 ixD (aa 0) (e2 aN (eC (.int 16)) (aa 4))) (eC (.int 4)))) (eC (.int 24))) aF)))) (e2 aH (e2 cC (e2 ixD (aa 0) (eC (.int 0))) (eC (.int 30))) (eC (.int 2))) (eS f b0 b1 hour s3 (.dat (.int (k:Int))) (.own (iL cs)) s6 s7 s8 s9 s10 s11)=some (.int c):=by
  refine aU (x:=.lst [.int (f (16+k)%24),.int ((hour+f (16+k)%4)%24)]) (y:=.int (f 0/30%2)) (cM ?_) rfl ?_
  ·unfold cI
   rw[aJ (aU a1 rfl rfl) (aJ (aU (aU rfl (aU a1 rfl rfl) rfl) rfl rfl) rfl)];rfl
  ·rw[ix2 _ (by lia)]
   show some (if f 0/30%2=0 then D.int (f (16+k)%24) else D.int ((hour+f (16+k)%4)%24))=some (D.int (if f 0/30%2=0 then f (16+k)%24 else(hour+f (16+k)%4)%24));split<;>rfl
 have ci:ay (inD true) (aa 6) (aa 5) (eS f b0 b1 hour s3 (.dat (.int (k:Int))) (.own (iL cs)) (.dat (.int c)) s7 s8 s9 s10 s11)=some (!inV (.int c) (cs.map V.int)):=cA (x:=.int c) (y:=.lst (iL cs)) rfl rfl (by show(mG (iL cs)).bind _=_;rw[ot];rfl);unfold Bj;cases hb:inV (.int c) (cs.map V.int) with
 |true=>
  rw[hb] at ci;refine⟨cs,.dat (.int c),by lia,(au (aX c6)).trans ?_⟩;exact(dB ci).trans rfl
 |false=>
  rw[hb] at ci;refine⟨cs++[c],.dat (.int c),by simp,(au (aX c6)).trans ?_⟩;refine(eW ci).trans ((dE (ds:=iL cs) (d:=.int c) rfl rfl (by simp;lia)).trans ?_);rw[show iL (cs++[c])=iL cs++[.int c] by simp[iL]];rfl
theorem EC(c n m k:Nat)(F1 F2:Ev->Option D)(ε:Ev)(h1:F1 ε=some (.int ((c+m*k:Nat):Int)))(h2:F2 ε=some (.int ((c+m*k+n:Nat):Int)))(h0:aa 0 ε=some (.lst (iL (bD f 120))))(hb:c+m*k+n<=120):eF (eSl (aa 0) (aT F1) (aT F2)) ε=some (.lst (iL (bD (λj=>f (c+m*k+j)) n))):=by
 refine cM ?_;unfold eSl aT;rw[h0,h1,h2];show some (Dn.gO (iL (bD f 120)) (some ((c+m*k:Nat):Int)) (some ((c+m*k+n:Nat):Int)))=_;rw[lC f 120 (c+m*k) n hb]
theorem sk2(k:Nat)(hk:k<14)(ws:List Wd)(hz:ws.length<1000)(s3 s5 s6 s8 s9 s10 s11:Sl):∃(w:Wd) (e8 e9:Sl),kS w/\BN (eS f b0 b1 hour s3 (.dat (.int (k:Int))) s5 s6 (.own (wL ws)) s8 s9 s10 s11)=some (.nx (eS f b0 b1 hour s3 (.dat (.int (k:Int))) s5 s6 (.own (wL (ws++[w]))) e8 e9 s10 s11)):=by
 let g:Nat->Int:=λj=>f (22+4*k+j);have m:e2 bH (eC (.int 4)) (aa 4) (eS f b0 b1 hour s3 (.dat (.int (k:Int))) s5 s6 (.own (wL ws)) s8 s9 s10 s11)=some (.int (4*(k:Int))):=aU rfl rfl (sS (by decide));have c8:=EC f 22 4 4 k (e2 aN (eC (.int 22)) (e2 bH (eC (.int 4)) (aa 4))) (e2 aN (eC (.int 26)) (e2 bH (eC (.int 4)) (aa 4))) (eS f b0 b1 hour s3 (.dat (.int (k:Int))) s5 s6 (.own (wL ws)) s8 s9 s10 s11) (aU rfl m (by show some (D.int (22+4*(k:Int)))=_;rw[show(22+4*(k:Int))=((22+4*k:Nat):Int) by lia])) (aU rfl m (by show some (D.int (26+4*(k:Int)))=_;rw[show(26+4*(k:Int))=((22+4*k+4:Nat):Int) by lia])) rfl (by lia);let c:Int:=if g 1/6%2=0 then g 0%24 else(hour+g 0/7%6)%24
 have c9:e2 ixD (eF (cI (ag (e2 aH (e2 ixD (aa 8) (eC (.int 0))) (eC (.int 24))) (ag (e2 aH (e2 aN (aa 2) (e2 aH (e2 cC (e2 ixD (aa 8) (eC (.int 0))) (eC (.int 7))) (eC (.int 6)))) (eC (.int 24))) aF)))) (e2 aH (e2 cC (e2 ixD (aa 8) (eC (.int 1))) (eC (.int 6))) (eC (.int 2))) (eS f b0 b1 hour s3 (.dat (.int (k:Int))) s5 s6 (.own (wL ws)) (.dat (.lst (iL (bD g 4)))) s9 s10 s11)=some (.int c):=by
  refine aU (x:=.lst [.int (g 0%24),.int ((hour+g 0/7%6)%24)]) (y:=.int (g 1/6%2)) rfl rfl ?_;rw[ix2 _ (by lia)];show some (if g 1/6%2=0 then D.int (g 0%24) else D.int ((hour+g 0/7%6)%24))=some (D.int (if g 1/6%2=0 then g 0%24 else(hour+g 0/7%6)%24));split<;>rfl
 have hc:0<=c/\c<=23:=by
  show 0<=(if g 1/6%2=0 then g 0%24 else(hour+g 0/7%6)%24)/\(if g 1/6%2=0 then g 0%24 else(hour+g 0/7%6)%24)<=23;split<;>lia
 refine⟨⟨c,g 1%6,g 2%5-2,g 3%5-2⟩,.dat (.lst (iL (bD g 4))),.dat (.int c),⟨hc,by show 0<=g 1%6;lia,by show g 1%6<=5;lia⟩,?_⟩;unfold BN;refine(au (aX c8)).trans ?_;refine(au (aX c9)).trans ?_;refine(dE (ds:=wL ws) (d:=wD ⟨c,g 1%6,g 2%5-2,g 3%5-2⟩) rfl rfl (by simp;lia)).trans ?_;rw[show wL (ws++[⟨c,g 1%6,g 2%5-2,g 3%5-2⟩])=wL ws++[wD ⟨c,g 1%6,g 2%5-2,g 3%5-2⟩] by simp[wL]];rfl
theorem sk3{Fb:List D->Option D}(hB:zh Fb)(hh:0<=hour/\hour<=24)(k:Nat)(hk:k<3)(ss:List Sh)(hz:ss.length<1000)(s3 s5 s6 s7 s8 s9 s11:Sl):∃(q:Sh) (e9 e11:Sl),oR q/\BF Fb (eS f b0 b1 hour s3 (.dat (.int (k:Int))) s5 s6 s7 s8 s9 (.own (shL ss)) s11)=some (.nx (eS f b0 b1 hour s3 (.dat (.int (k:Int))) s5 s6 s7 s8 e9 (.own (shL (ss++[q]))) e11)):=by
 let g:Nat->Int:=λj=>f (91+8*k+j);have m:e2 bH (eC (.int 8)) (aa 4) (eS f b0 b1 hour s3 (.dat (.int (k:Int))) s5 s6 s7 s8 s9 (.own (shL ss)) s11)=some (.int (8*(k:Int))):=aU rfl rfl (sS (by decide));have c11:=EC f 91 8 8 k (e2 aN (eC (.int 91)) (e2 bH (eC (.int 8)) (aa 4))) (e2 aN (eC (.int 99)) (e2 bH (eC (.int 8)) (aa 4))) (eS f b0 b1 hour s3 (.dat (.int (k:Int))) s5 s6 s7 s8 s9 (.own (shL ss)) s11) (aU rfl m (by show some (D.int (91+8*(k:Int)))=_;rw[show(91+8*(k:Int))=((91+8*k:Nat):Int) by lia])) (aU rfl m (by show some (D.int (99+8*(k:Int)))=_;rw[show(99+8*(k:Int))=((91+8*k+8:Nat):Int) by lia])) rfl (by lia);let c:Int:=if g 7%2=0 then g 6%25 else hour
 have c9:e2 ixD (eF (cI (ag (e2 aH (e2 ixD (aa 11) (eC (.int 6))) (eC (.int 25))) (ag (av 2) aF)))) (e2 aH (e2 ixD (aa 11) (eC (.int 7))) (eC (.int 2))) (eS f b0 b1 hour s3 (.dat (.int (k:Int))) s5 s6 s7 s8 s9 (.own (shL ss)) (.dat (.lst (iL (bD g 8)))))=some (.int c):=by
  refine aU (x:=.lst [.int (g 6%25),.int hour]) (y:=.int (g 7%2)) rfl rfl ?_;rw[ix2 _ (by lia)];show some (if g 7%2=0 then D.int (g 6%25) else D.int hour)=some (D.int (if g 7%2=0 then g 6%25 else hour));split<;>rfl
 have hc:0<=c/\c<=24:=by
  show 0<=(if g 7%2=0 then g 6%25 else hour)/\(if g 7%2=0 then g 6%25 else hour)<=24;split<;>lia
 obtain⟨a0,a1,a2,a3,a4,a5,eb,⟨o1,o2,o3⟩,o4,o5⟩:=hB (bD g 8) (by simp[bD]) b0 b1;have h1:=ZX (g 7/2) (show 25-c≠0 by lia);have h2:=ZP (g 7/2) (show 0<25-c by lia);refine⟨⟨a0,a1,a2,a3,a4,a5,c,c+g 7/2%(25-c)⟩,.dat (.int c),.dat (.lst (iL (bD g 8))),⟨o1,o2,o3,o4,o5,hc.1,by show c<=c+_;lia,by show c+_<=24;lia⟩,?_⟩;unfold BF;refine(au (aX c11)).trans ?_;refine(au (aX c9)).trans ?_;refine(dE (ds:=shL ss) (d:=shD ⟨a0,a1,a2,a3,a4,a5,c,c+g 7/2%(25-c)⟩) ?_ rfl (by simp;lia)).trans ?_
 ·exact aU (x:=t6 a0 a1 a2 a3 a4 a5) (y:=.tup [.int c,.int (c+g 7/2%(25-c))]) (aW rfl eb) (iu (aJ rfl (aJ (aU rfl (aU rfl rfl (mh (by lia))) rfl) rfl)) (show 2<=1000 by decide)) rfl
 ·rw[show shL (ss++[⟨a0,a1,a2,a3,a4,a5,c,c+g 7/2%(25-c)⟩])=shL ss++[shD ⟨a0,a1,a2,a3,a4,a5,c,c+g 7/2%(25-c)⟩] by simp[shL]];rfl
theorem Af{Fb:List D->Option D}(hB:zh Fb)(hh:0<=hour/\hour<=24):∃(hs:List Hl) (cs:List Int) (ws:List Wd) (ss:List Sh),Fe Fb (eS f b0 b1 hour .un .un .un .un .un .un .un .un .un)=some (.rt (.tup [.lst (hL hs),.lst (iL cs),.lst (wL ws),.lst (shL ss)]))/\
  (hs.length<=5/\∀h∈hs,lL h)/\cs.length<=4/\(ws.length<=19/\∀w∈ws,kS w)/\ss.length<=3/\∀q∈ss,oR q:=by
 have mem_snoc:∀{α:Type} {P:α->Prop} {l:List α} {a:α},(∀x∈l,P x)->P a->∀x∈l++[a],P x:=λ{α P l a} h1 h2 x hx=>by
  rcases QM.mp hx with z | z
  ·exact h1 x z
  ·rw[Qt.mp z];exact h2
 obtain⟨_,e1,hs,t4,hn,hok,rfl⟩:=cU (g:=ak 4) (gb:=Bc) (λi ε=>∃(hs:List Hl) (s4:Sl),hs.length=i/\(∀h∈hs,lL h)/\ε=eS f b0 b1 hour (.own (hL hs)) s4 .un .un .un .un .un .un .un) (da (f 0%6).toNat) 0 (λi d hd ε ⟨hs,s4,hn,hok,he⟩=>by
  obtain⟨rfl,hi⟩:=dR hd;subst he;obtain⟨h,ho,e⟩:=sk0 f b0 b1 hour i (by lia) hs (by lia) .un .un .un .un .un .un .un
  exact⟨_,_,rfl,.inl e,hs++[h],_,by simp[hn],mem_snoc hok ho,rfl⟩) (eS f b0 b1 hour (.own (hL [])) .un .un .un .un .un .un .un .un) ⟨[],_,rfl,(λh hh=>by cases hh),rfl⟩
 rw[rngD_len] at hn
 obtain⟨_,e2,cs,u4,u6,cn,rfl⟩:=cU (g:=ak 4) (gb:=Bj) (λi ε=>∃(cs:List Int) (s4 s6:Sl),cs.length<=i/\ε=eS f b0 b1 hour (.own (hL hs)) s4 (.own (iL cs)) s6 .un .un .un .un .un) (da (f 0/6%5).toNat) 0 (λi d hd ε ⟨cs,s4,s6,cn,he⟩=>by
  obtain⟨rfl,hi⟩:=dR hd;subst he;obtain⟨cs',e6,hl,e⟩:=sk1 f b0 b1 hour i (by lia) cs (by lia) (.own (hL hs)) s6 .un .un .un .un .un
  exact⟨_,_,rfl,.inl e,cs',_,_,by lia,rfl⟩) (eS f b0 b1 hour (.own (hL hs)) t4 (.own (iL [])) .un .un .un .un .un .un) ⟨[],_,_,Qf _,rfl⟩
 rw[rngD_len] at cn
 obtain⟨w0,l0,wk0,e3⟩:∃w0:List Wd,w0.length<=6/\(∀w∈w0,kS w)/\sIf (ay gtI (Dn.e2 aH (Dn.e2 ixD (aa 0) (eC (.int 21))) (eC (.int 4))) (eC (.int 0))) (fj 7 (eLC (cy (eC (.int 6))) 1 [0] (ak 0) lr (bM (ag (eC (.int 0)) (ag (av 0) (ag (Dn.e2 bA (Dn.e2 aH (Dn.e2 ixD (aa 1) (Dn.e2 aN (eC (.int 78)) (Dn.e2 bH (eC (.int 2)) (aa 0)))) (eC (.int 5))) (eC (.int 2))) (ag (Dn.e2 bA (Dn.e2 aH (Dn.e2 ixD (aa 1) (Dn.e2 aN (eC (.int 79)) (Dn.e2 bH (eC (.int 2)) (aa 0)))) (eC (.int 5))) (eC (.int 2))) aF))))))) bC (eS f b0 b1 hour (.own (hL hs)) u4 (.own (iL cs)) u6 (.own (wL [])) .un .un .un .un)=some (.nx (eS f b0 b1 hour (.own (hL hs)) u4 (.own (iL cs)) u6 (.own (wL w0)) .un .un .un .un)):=by
  by_cases h:f 21%4>0
  ·refine⟨[⟨0,0,f 78%5-2,f 79%5-2⟩,⟨0,1,f 80%5-2,f 81%5-2⟩,⟨0,2,f 82%5-2,f 83%5-2⟩,⟨0,3,f 84%5-2,f 85%5-2⟩,⟨0,4,f 86%5-2,f 87%5-2⟩,⟨0,5,f 88%5-2,f 89%5-2⟩],by simp,λw hw=>?_,?_⟩
   ·simp only[Qn,List.not_mem_nil,or_false] at hw
    rcases hw with rfl | rfl | rfl | rfl | rfl | rfl<;>exact⟨⟨by simp,by simp⟩,by simp,by simp⟩
   ·exact(cz (f 21%4>0) rfl h).trans rfl
  ·refine⟨[],by simp,(λw hw=>by cases hw),?_⟩
   exact(b_ (f 21%4>0) rfl h).trans rfl
 obtain⟨_,e4,ws,v4,v8,v9,wn,wok,rfl⟩:=cU (g:=ak 4) (gb:=BN) (λi ε=>∃(ws:List Wd) (s4 s8 s9:Sl),ws.length=w0.length+i/\(∀w∈ws,kS w)/\ε=eS f b0 b1 hour (.own (hL hs)) s4 (.own (iL cs)) u6 (.own (wL ws)) s8 s9 .un .un) (da (f 21/4%14).toNat) 0 (λi d hd ε ⟨ws,s4,s8,s9,wn,wok,he⟩=>by
  obtain⟨rfl,hi⟩:=dR hd;subst he;obtain⟨w,e8,e9,wo,e⟩:=sk2 f b0 b1 hour i (by lia) ws (by lia) (.own (hL hs)) (.own (iL cs)) u6 s8 s9 .un .un
  exact⟨_,_,rfl,.inl e,ws++[w],_,_,_,by simp;lia,mem_snoc wok wo,rfl⟩) (eS f b0 b1 hour (.own (hL hs)) u4 (.own (iL cs)) u6 (.own (wL w0)) .un .un .un .un) ⟨w0,_,_,_,rfl,wk0,rfl⟩
 rw[rngD_len] at wn
 obtain⟨_,e5,ss,x4,x9,x11,sn,sok,rfl⟩:=cU (g:=ak 4) (gb:=BF Fb) (λi ε=>∃(ss:List Sh) (s4 s9 s11:Sl),ss.length=i/\(∀q∈ss,oR q)/\ε=eS f b0 b1 hour (.own (hL hs)) s4 (.own (iL cs)) u6 (.own (wL ws)) v8 s9 (.own (shL ss)) s11) (da (f 90%4).toNat) 0 (λi d hd ε ⟨ss,s4,s9,s11,sn,sok,he⟩=>by
  obtain⟨rfl,hi⟩:=dR hd;subst he;obtain⟨q,e9,e11,qo,e⟩:=sk3 f b0 b1 hour hB hh i (by lia) ss (by lia) (.own (hL hs)) (.own (iL cs)) u6 (.own (wL ws)) v8 s9 s11
  exact⟨_,_,rfl,.inl e,ss++[q],_,_,_,by simp[sn],mem_snoc sok qo,rfl⟩) (eS f b0 b1 hour (.own (hL hs)) v4 (.own (iL cs)) u6 (.own (wL ws)) v8 v9 (.own (shL [])) .un) ⟨[],_,_,_,rfl,(λq hq=>by cases hq),rfl⟩
 rw[rngD_len] at sn;refine⟨hs,cs,ws,ss,?_,⟨by lia,hok⟩,by lia,⟨by lia,wok⟩,by lia,sok⟩;unfold Fe;refine(au rfl).trans ?_;refine(au ((bE (fB (j:=f 0%6) rfl (by lia) (by lia))).trans e1)).trans ?_;refine(au rfl).trans ?_;refine(au ((bE (fB (j:=f 0/6%5) rfl (by lia) (by lia))).trans e2)).trans ?_;refine(au rfl).trans ?_;refine(au e3).trans ?_;refine(au ((bE (fB (j:=f 21/4%14) rfl (by lia) (by lia))).trans e4)).trans ?_;refine(au rfl).trans ?_;refine(au ((bE (fB (j:=f 90%4) rfl (by lia) (by lia))).trans e5)).trans ?_;rfl
end
theorem tV{α:Type}{g:D->Ev->Option Ev}{ft:Ev->Option Bool}{fe:Ev->Option D}(P:Ev->Prop)(enc:α->D)(p:α->Bool)(h:α->D):∀(xs:List α),(∀x∈xs,∀ε,P ε->∃ε1,g (enc x) ε=some ε1/\P ε1/\ft ε1=some (p x)/\(p x=true->fe ε1=some (h x)))->
  ∀ε,P ε->lcD g ft fe (xs.map enc) ε=some ((xs.filter p).map h)
 |[],_,ε,_=>rfl
 |x::xs,st,ε,hp=>by
  obtain⟨ε1,e1,p1,e2,e3⟩:=st x (Qj ..) ε hp;have ih:=tV P enc p h xs (λy hy=>st y (Qg _ hy)) ε1 p1;show(g (enc x) ε).bind _=_;rw[e1];show(ft ε1).bind _=_;rw[e2];show(if p x=true then _ else _)=_;cases hx:p x with
  |true=>
   rw[if_pos rfl,e3 hx];show(lcD g ft fe (xs.map enc) ε1).bind _=_;rw[ih,List.filter_cons_of_pos (by simpa using hx)];rfl
  |false=>
   rw[if_neg Ql,ih,List.filter_cons_of_neg (by simp[hx])]
theorem nS{α:Type}{g:D->Ev->Option Ev}{fe:Ev->Option D}(P:Ev->Prop)(enc:α->D)(h:α->D)(xs:List α)(st:∀x∈xs,∀ε,P ε->∃ε1,g (enc x) ε=some ε1/\P ε1/\fe ε1=some (h x))(ε:Ev)(hp:P ε) :
  lcD g lr fe (xs.map enc) ε=some (xs.map h):=by
 rw[tV (ft:=lr) P enc (λ_=>true) h xs (λx hx ε hp=>let⟨ε1,a,b,c⟩:=st x hx ε hp;⟨ε1,a,b,rfl,λ_=>c⟩) ε hp,List.filter_eq_self.mpr λ_ _=>rfl]
theorem Eh(n:Nat):da n=(QE n).map λi:Nat=>D.int (i:Int):=rfl
theorem nF{α:Type}{g:D->Ev->Option Ev}{gb:Ev->Option Fl}(enc:α->D)(P:List α->Ev->Prop)(xs:List α):∀(rest done:List α),done++rest=xs->
  (∀done x rest,done++x::rest=xs->∀ε,P done ε->∃ε1 ε2,g (enc x) ε=some ε1/\(gb ε1=some (.nx ε2)\/gb ε1=some (.ct ε2))/\P (done++[x]) ε2)->∀ε,P done ε->∃ε',cO g gb (rest.map enc) ε=some (.nx ε')/\P xs ε'
 |[],done,hx,_,ε,hp=>⟨ε,rfl,by rw[<-hx,Jp];exact hp⟩
 |x::rest,done,hx,st,ε,hp=>by
  obtain⟨ε1,ε2,e1,e2,p2⟩:=st done x rest hx ε hp;obtain⟨ε3,e3,p3⟩:=nF enc P xs rest (done++[x]) (by rw[QG];exact hx) st ε2 p2;refine⟨ε3,?_,p3⟩;show(g (enc x) ε).bind _=_;rw[e1];show(gb ε1).bind _=_;rcases e2 with e2 | e2<;>(rw[e2];exact e3)
theorem iW{α:Type}{g:D->Ev->Option Ev}{gb:Ev->Option Fl}(enc:α->D)(P:List α->Ev->Prop)(xs:List α)
  (st:∀done x rest,done++x::rest=xs->∀ε,P done ε->∃ε1 ε2,g (enc x) ε=some ε1/\(gb ε1=some (.nx ε2)\/gb ε1=some (.ct ε2))/\P (done++[x]) ε2) (ε:Ev) (h:P [] ε):∃ε',cO g gb (xs.map enc) ε=some (.nx ε')/\P xs ε':=
 nF enc P xs xs [] rfl st ε h
theorem tZ{α:Type}(l:List α)(a:α):atI (l++[a]) (-1)=some a:=by
 unfold atI ixN;have h1:¬ (0:Int)<=-1:=by decide
 have h2:-(((l++[a]).length:Nat):Int)<=-1:=by simp;lia
 rw[if_neg h1,if_pos h2];have:(-1+(((l++[a]).length:Nat):Int)).toNat=l.length:=by simp;lia
 show(l++[a])[(-1+(((l++[a]).length:Nat):Int)).toNat]?=_;rw[this];simp
theorem y9(l:List D)(d:D):ixD (.lst (l++[d])) (.int (-1))=some d:=tZ l d
theorem tW{f:Ev->Option D}{ε:Ev}{b:Bool}(h:f ε=some (.bl b)):ec f ε=some b:=by unfold ec;rw[h];rfl
theorem nU{f:Ev->Option D}{ε:Ev}{ds:List D}(h:f ε=some (.lst ds)):cV f ε=some ds:=by unfold cV;rw[h]
theorem zI{f:Ev->Option (List D)}{g:D->Ev->Option Ev}{gb:Ev->Option Fl}{ε ε':Ev}{ds:List D}(h:f ε=some ds)(e:cO g gb ds ε=some (.nx ε')):cJ f g gb ε=some (.nx ε'):=(bE h).trans e
theorem rY{fi:Ev->Option (List D)}{n:Nat}{ix:List Nat}{g:D->Ev->Option Ev}{ft:Ev->Option Bool}{fe:Ev->Option D}{ε:Ev}{ds rs:List D}(h:fi ε=some ds)(hl:ds.length<1000000)(h2:lcD g ft fe ds (prE n ix ε)=some rs):eLC fi n ix g ft fe ε=some rs:=(ll h hl).trans h2
structure Sk where
 (hs:List Hl)
 (cs:List Int)
 (ws:List Wd)
 (ss:List Sh)
def skD(k:Sk):D:=.tup [.lst (hL k.hs),.lst (iL k.cs),.lst (wL k.ws),.lst (shL k.ss)]
structure SkOk(k:Sk):Prop where
 hl:k.hs.length<=5
 hk:∀h∈k.hs,lL h
 cl:k.cs.length<=4
 wl:k.ws.length<=19
 wk:∀w∈k.ws,kS w
 sl:k.ss.length<=3
 sk:∀q∈k.ss,oR q
structure SkW(k:Sk):Prop where
 hl:k.hs.length<=900
 hk:∀h∈k.hs,0<=h.t
 cl:k.cs.length<=900
 wl:k.ws.length<=99
 sl:k.ss.length<=900
theorem SkOk.w{k:Sk}(h:SkOk k):SkW k:=⟨by have:=h.hl;lia,λa b=>by have:=h.hk a b;unfold lL at this;lia,by have:=h.cl;lia,by have:=h.wl;lia,by have:=h.sl;lia⟩
structure SkLen(k:Sk):Prop where
 hl:k.hs.length<1000
 cl:k.cs.length<1000
 wl:k.ws.length<1000
 sl:k.ss.length<1000
theorem SkOk.len{k:Sk}(h:SkOk k):SkLen k:=⟨by have:=h.hl;lia,by have:=h.cl;lia,by have:=h.wl;lia,by have:=h.sl;lia⟩
def hE(h z:Int)(w:Wd):Prop:=w.z=z/\w.h<=h
instance (h z:Int) (w:Wd):Decidable (hE h z w):=by unfold hE;infer_instance
def jW(h z:Int)(acc:Option Wd)(w:Wd):Option Wd:=if hE h z w then(match acc with | none=>some w | some b=>if b.h<=w.h then some w else acc) else acc
def iN(h z:Int):List Wd->Option Wd->Option Wd
 |[],acc=>acc
 |w::r,acc=>iN h z r (jW h z acc w)
def kX(h z:Int)(ws:List Wd):D:=match iN h z ws none with | none=>.tup [.int 0,.int 0] | some b=>.tup [.int b.dx,.int b.dy]
def mF:Option Wd->D
 |none=>.non
 |some b=>wD b
def uU:Ev->Option Fl:=(aC (sIf (jE (ay kn (e2 ixD (aa 4) (eC (.int 1))) (aa 2)) (ay gtI (e2 ixD (aa 4) (eC (.int 0))) (aa 1))) (λε=>some (.ct ε)) bC) (sIf (jE (ay (isD false) (aa 3) (eC .non)) (ay geI (e2 ixD (aa 4) (eC (.int 0))) (e2 ixD (aa 3) (eC (.int 0))))) (a8 3 (av 4)) bC))
def gWA:Ev->Option Fl:=(aC (a8 3 (eC .non)) (aC (cJ (cV (av 0)) (ak 4) uU) (aC (sIf (ay (isD false) (aa 3) (eC .non)) (bh (bM (ag (eC (.int 0)) (ag (eC (.int 0)) aF)))) bC) (bh (bM (ag (e2 ixD (aa 3) (eC (.int 2))) (ag (e2 ixD (aa 3) (eC (.int 3))) aF)))))))
theorem BK(L:D)(h z:Int)(acc:Option Wd)(w:Wd):∃ε,(uU [.dat L,.dat (.int h),.dat (.int z),.dat (mF acc),.dat (wD w)]=some (.nx ε)\/uU [.dat L,.dat (.int h),.dat (.int z),.dat (mF acc),.dat (wD w)]=some (.ct ε))/\ε=[.dat L,.dat (.int h),.dat (.int z),.dat (mF (jW h z acc w)),.dat (wD w)]:=by
 have c:jE (ay kn (e2 ixD (aa 4) (eC (.int 1))) (aa 2)) (ay gtI (e2 ixD (aa 4) (eC (.int 0))) (aa 1)) [.dat L,.dat (.int h),.dat (.int z),.dat (mF acc),.dat (wD w)]=some (!decide (w.z=z) || decide (w.h>h)):=oZ rfl rfl;refine⟨_,?_,rfl⟩;unfold uU jW
 by_cases s:hE h z w
 ·rw[if_pos s]
  have c':=c.trans (show some (!decide (w.z=z) || decide (w.h>h))=some false by rw[decide_eq_true s.1,decide_eq_false (show ¬w.h>h by have:=s.2;lia)];rfl)
  left
  refine(au ((dB c').trans rfl)).trans ?_;cases acc with
  |none=>rfl
  |some b=>
   have c2:jE (ay (isD false) (aa 3) (eC .non)) (ay geI (e2 ixD (aa 4) (eC (.int 0))) (e2 ixD (aa 3) (eC (.int 0)))) [.dat L,.dat (.int h),.dat (.int z),.dat (mF (some b)),.dat (wD w)]=some (false || decide (w.h>=b.h)):=oZ rfl rfl;show sIf _ _ _ [.dat L,.dat (.int h),.dat (.int z),.dat (mF (some b)),.dat (wD w)]=some (.nx [.dat L,.dat (.int h),.dat (.int z),.dat (mF (if b.h<=w.h then some w else some b)),.dat (wD w)])
   by_cases g:b.h<=w.h
   ·rw[if_pos g]
    exact(eW (c2.trans (by rw[decide_eq_true (show w.h>=b.h from g)];rfl))).trans rfl
   ·rw[if_neg g]
    exact(dB (c2.trans (by rw[decide_eq_false (show ¬w.h>=b.h from g)];rfl))).trans rfl
 ·rw[if_neg s]
  right
  have c':=c.trans (show some (!decide (w.z=z) || decide (w.h>h))=some true by
   by_cases g:w.z=z
   ·rw[decide_eq_true g,decide_eq_true (show w.h>h by by_cases q:w.h>h;exact q;exact absurd ⟨g,by lia⟩ s)];rfl
   ·rw[decide_eq_false g];rfl)
  unfold aC;rw[eW c'];rfl
theorem tT(L:D)(h z:Int):∀(ws:List Wd) (acc:Option Wd) (s4:Sl),∃e4,cO (ak 4) uU (wL ws) [.dat L,.dat (.int h),.dat (.int z),.dat (mF acc),s4]=some (.nx [.dat L,.dat (.int h),.dat (.int z),.dat (mF (iN h z ws acc)),e4])
 |[],acc,s4=>⟨s4,rfl⟩
 |w::ws,acc,s4=>by
  obtain⟨ε,e,rfl⟩:=BK L h z acc w;obtain⟨e4,e'⟩:=tT L h z ws (jW h z acc w) (.dat (wD w));refine⟨e4,?_⟩;show(uU [.dat L,.dat (.int h),.dat (.int z),.dat (mF acc),.dat (wD w)]).bind _=_;rcases e with e | e<;>(rw[e];exact e')
theorem CT(ws:List Wd)(h z:Int):gWA [.dat (.lst (wL ws)),.dat (.int h),.dat (.int z),.un,.un]=some (.rt (kX h z ws)):=by
 obtain⟨e4,e⟩:=tT (.lst (wL ws)) h z ws none .un;unfold gWA;refine(au rfl).trans ?_;refine(au ((bE (ds:=wL ws) rfl).trans e)).trans ?_;unfold kX;cases iN h z ws none with
 |none=>rfl
 |some b=>rfl
theorem nt(h z:Int):∀(ws:List Wd) (acc:Option Wd),(iN h z ws acc=acc/\∀(k:Nat) (w:Wd),ws[k]?=some w->hE h z w->∃b0,acc=some b0/\w.h<b0.h)\/
  ∃(i:Nat) (b:Wd),ws[i]?=some b/\iN h z ws acc=some b/\hE h z b/\(∀(k:Nat) (w:Wd),ws[k]?=some w->hE h z w->w.h<b.h\/(w.h=b.h/\k<=i))/\∀b0,acc=some b0->b0.h<=b.h
 |[],acc=>.inl ⟨rfl,λk w e=>by simp at e⟩
 |w::r,acc=>by
  have hn:jW h z acc w=some w/\hE h z w/\(∀b0,acc=some b0->b0.h<=w.h)\/jW h z acc w=acc/\(hE h z w->∃b0,acc=some b0/\w.h<b0.h):=by
   unfold jW
   by_cases s:hE h z w
   ·rw[if_pos s]
    cases acc with
    |none=>exact .inl ⟨rfl,s,λb0 e=>by cases e⟩
    |some b=>
     by_cases g:b.h<=w.h
     ·exact .inl ⟨by show(if b.h<=w.h then some w else some b)=_;rw[if_pos g],s,λb0 e=>by cases e;exact g⟩
     ·exact .inr ⟨by show(if b.h<=w.h then some w else some b)=_;rw[if_neg g],λ_=>⟨b,rfl,by lia⟩⟩
   ·rw[if_neg s]
    exact .inr ⟨rfl,λz=>absurd z s⟩
  rcases nt h z r (jW h z acc w) with⟨e,all⟩ | ⟨i,b,ei,e,sb,all,le⟩
  ·rcases hn with⟨n1,n2,n3⟩ | ⟨n1,n2⟩
   ·refine .inr ⟨0,w,rfl,by show iN h z r _=_;rw[e,n1],n2,λk v ek sv=>?_,n3⟩
    cases k with
    |zero=>simp at ek;subst ek;exact .inr ⟨rfl,Qf _⟩
    |succ k=>
     obtain⟨b0,e0,l0⟩:=all k v (by simpa using ek) sv;rw[n1] at e0;cases e0;exact .inl l0
   ·refine .inl ⟨by show iN h z r _=_;rw[e,n1],λk v ek sv=>?_⟩
    cases k with
    |zero=>simp at ek;subst ek;exact n2 sv
    |succ k=>
     obtain⟨b0,e0,l0⟩:=all k v (by simpa using ek) sv;rw[n1] at e0;exact⟨b0,e0,l0⟩
  ·refine .inr ⟨i+1,b,by simpa using ei,e,sb,λk v ek sv=>?_,λb0 e0=>?_⟩
   ·cases k with
    |zero=>
     simp at ek;subst ek;rcases hn with⟨n1,n2,n3⟩ | ⟨n1,n2⟩
     ·have:=le w n1
      rcases Int.lt_or_eq_of_le this with l | l
      ·exact .inl l
      ·exact .inr ⟨l,QN _⟩
     ·obtain⟨b0,e0,l0⟩:=n2 sv
      have:=le b0 (n1.trans e0);exact .inl (by lia)
    |succ k=>
     rcases all k v (by simpa using ek) sv with l | ⟨l1,l2⟩
     ·exact .inl l
     ·exact .inr ⟨l1,by lia⟩
   ·rcases hn with⟨n1,n2,n3⟩ | ⟨n1,n2⟩
    ·have:=n3 b0 e0;have:=le w n1;lia
    ·exact le b0 (n1.trans e0)
abbrev lwT:Ev->Option Bool:=bJ (ay br (e2 ixD (e2 ixD (aa 1) (aa 0)) (eC (.int 1))) (aa 2)) (ay leI (e2 ixD (e2 ixD (aa 1) (aa 0)) (eC (.int 0))) (aa 3))
abbrev lwE:Ev->Option D:=bM (ag (e2 ixD (e2 ixD (aa 1) (aa 0)) (eC (.int 0))) (ag (av 0) aF))
def gLW:Ev->Option Fl:=(aC (a8 3 (eF (eLC (cy (bS bU (aa 0))) 1 [0,2,1] (ak 0) lwT lwE))) (aC (sIf (ay br (bS bU (aa 3)) (eC (.int 0))) (bh (bM (ag (eC (.int 0)) (ag (eC (.int 0)) aF)))) bC) (bh (fq (e2 ixD (aa 0) (e2 ixD (aK nK (ag (av 3) aF)) (eC (.int 1)))) (aT (eC (.int 2))) b9))))
def prD(p:Int×Int):D:=.tup [.int p.1,.int p.2]
abbrev prL(ps:List (Int×Int)):List D:=ps.map prD
def g8(h z:Int)(ws:List Wd):List Nat->List (Int×Int)
 |[]=>[]
 |k::ks=>match ws[k]? with
  |some w=>if hE h z w then(w.h,(k:Int))::g8 h z ws ks else g8 h z ws ks
  |none=>g8 h z ws ks
theorem pY(h z:Int)(ws:List Wd):∀(ks:List Nat) (p:Int×Int),p∈g8 h z ws ks↔∃(k:Nat) (w:Wd),k∈ks/\ws[k]?=some w/\hE h z w/\p=(w.h,(k:Int))
 |[],p=>⟨λe=>(by cases e),λ⟨k,w,e,_⟩=>(by cases e)⟩
 |k::ks,p=>by
  have ih:=pY h z ws ks p;unfold g8;cases ew:ws[k]? with
  |none=>
   show p∈g8 h z ws ks↔_;rw[ih];constructor
   ·rintro⟨j,w,m,r⟩;exact⟨j,w,Qg _ m,r⟩
   ·rintro⟨j,w,m,e,r⟩
    rcases Qn.mp m with rfl | m
    ·rw[ew] at e;cases e
    ·exact⟨j,w,m,e,r⟩
  |some w=>
   show p∈(if hE h z w then(w.h,(k:Int))::g8 h z ws ks else g8 h z ws ks)↔_
   by_cases s:hE h z w
   ·rw[if_pos s,Qn,ih]
    constructor
    ·rintro(rfl | ⟨j,w',m,r⟩)
     ·exact⟨k,w,Qj,ew,s,rfl⟩
     ·exact⟨j,w',Qg _ m,r⟩
    ·rintro⟨j,w',m,e,s',rfl⟩
     rcases Qn.mp m with rfl | m
     ·rw[ew] at e;cases e;exact .inl rfl
     ·exact .inr ⟨j,w',m,e,s',rfl⟩
   ·rw[if_neg s,ih]
    constructor
    ·rintro⟨j,w',m,r⟩;exact⟨j,w',Qg _ m,r⟩
    ·rintro⟨j,w',m,e,s',r⟩
     rcases Qn.mp m with rfl | m
     ·rw[ew] at e;cases e;exact absurd s' s
     ·exact⟨j,w',m,e,s',r⟩
theorem B0{ws:List Wd}{k:Nat}{w:Wd}(e:ws[k]?=some w):ixD (.lst (wL ws)) (.int (k:Int))=some (wD w):=kP (by unfold wL;rw[Qx,e];rfl)
theorem BO(h z:Int)(ws:List Wd):∀(ks:List Nat) (_:∀k∈ks,k<ws.length) (s0:Sl),lcD (ak 0) lwT lwE (ks.map λ(i:Nat)=>D.int (i:Int)) [s0,.dat (.lst (wL ws)),.dat (.int z),.dat (.int h)]=some (prL (g8 h z ws ks))
 |[],_,_=>rfl
 |k::ks,hk,s0=>by
  have kl:=hk k Qj;have ew:ws[k]?=some ws[k]:=by simp[kl]
  have ih:=BO h z ws ks (λj hj=>hk j (Qg _ hj)) (.dat (.int (k:Int)));have i0:e2 ixD (aa 1) (aa 0) [.dat (.int (k:Int)),.dat (.lst (wL ws)),.dat (.int z),.dat (.int h)]=some (wD ws[k]):=B0 ew;have c:lwT [.dat (.int (k:Int)),.dat (.lst (wL ws)),.dat (.int z),.dat (.int h)]=some (decide (ws[k].z=z)&&decide (ws[k].h<=h)):=cE (cA (aU i0 rfl rfl) rfl rfl) (cA (aU i0 rfl rfl) rfl rfl);have ce:lwE [.dat (.int (k:Int)),.dat (.lst (wL ws)),.dat (.int z),.dat (.int h)]=some (prD (ws[k].h,(k:Int))):=iu (aJ (aU i0 rfl rfl) rfl) (show 2<=1000 by decide);show(lwT [.dat (.int (k:Int)),.dat (.lst (wL ws)),.dat (.int z),.dat (.int h)]).bind (λb=>if b=true then(lwE [.dat (.int (k:Int)),.dat (.lst (wL ws)),.dat (.int z),.dat (.int h)]).bind λv=>(lcD (ak 0) lwT lwE (ks.map λ(i:Nat)=>D.int (i:Int)) [.dat (.int (k:Int)),.dat (.lst (wL ws)),.dat (.int z),.dat (.int h)]).bind λr=>some (v::r) else lcD (ak 0) lwT lwE (ks.map λ(i:Nat)=>D.int (i:Int)) [.dat (.int (k:Int)),.dat (.lst (wL ws)),.dat (.int z),.dat (.int h)])=_
  have es:g8 h z ws (k::ks)=if hE h z ws[k] then(ws[k].h,(k:Int))::g8 h z ws ks else g8 h z ws ks:=by
   show(match ws[k]? with | some w=>_ | none=>_)=_;rw[ew]
  rw[c,ce,ih,es];show(if(decide (ws[k].z=z)&&decide (ws[k].h<=h))=true then some (prD (ws[k].h,(k:Int))::prL (g8 h z ws ks)) else some (prL (g8 h z ws ks)))=some (prL (if hE h z ws[k] then(ws[k].h,(k:Int))::g8 h z ws ks else g8 h z ws ks))
  by_cases s:hE h z ws[k]
  ·rw[if_pos s,decide_eq_true s.1,decide_eq_true s.2];rfl
  ·rw[if_neg s]
   by_cases g:ws[k].z=z
   ·rw[decide_eq_true g,decide_eq_false (λq=>s ⟨g,q⟩)];rfl
   ·rw[decide_eq_false g];rfl
theorem lD:∀ps:List (Int×Int),fz (prL ps)=some ps
 |[]=>rfl
 |p::ps=>by show(fz (prL ps)).bind _=_;rw[lD ps];rfl
theorem Aw(ps:List (Int×Int))(h:∀p∈ps,0<=p.2/\p.2<100):btP ps=λi j=>decide ((ps.getD i (0,0)).1*100+(ps.getD i (0,0)).2>(ps.getD j (0,0)).1*100+(ps.getD j (0,0)).2):=by
 have hb:∀i,0<=(ps.getD i (0,0)).2/\(ps.getD i (0,0)).2<100:=λi=>by
  rw[show ps.getD i (0,0)=(ps[i]?).getD (0,0) from Jl];cases e:ps[i]? with
  |none=>exact⟨by decide,by decide⟩
  |some p=>exact h p (QZ e)
 funext i j
 unfold btP;have h1:=hb i;have h2:=hb j;generalize ps.getD i (0,0)=p at h1 ⊢;generalize ps.getD j (0,0)=q at h2 ⊢;show(if p.1=q.1 then(if p.2=q.2 then false else decide (q.2<p.2)) else decide (q.1<p.1))=_
 by_cases g:p.1=q.1
 ·rw[if_pos g]
  by_cases g2:p.2=q.2
  ·rw[if_pos g2];exact(decide_eq_false (by lia)).symm
  ·rw[if_neg g2]
   by_cases g3:q.2<p.2
   ·rw[decide_eq_true g3,decide_eq_true (by lia)]
   ·rw[decide_eq_false g3,decide_eq_false (by lia)]
 ·rw[if_neg g]
  by_cases g3:q.1<p.1
  ·rw[decide_eq_true g3,decide_eq_true (by lia)]
  ·rw[decide_eq_false g3,decide_eq_false (by lia)]
theorem vm(ps:List (Int×Int))(h:∀p∈ps,0<=p.2/\p.2<100)(pos:0<ps.length):∃p∈ps,nK [.lst (prL ps)]=some (prD p)/\∀q∈ps,q.1*100+q.2<=p.1*100+p.2:=by
 obtain⟨b1,b2⟩:=argBest_gt (λi=>(ps.getD i (0,0)).1*100+(ps.getD i (0,0)).2) (ps.length-1);rw[<-Aw ps h] at b1 b2;have hb:JD (btP ps) (ps.length-1)<ps.length:=by lia
 have eb:ps.getD (JD (btP ps) (ps.length-1)) (0,0)=ps[JD (btP ps) (ps.length-1)]:=by simp[Jl,hb]
 refine⟨ps[JD (btP ps) (ps.length-1)],ZG hb,?_,λq hq=>?_⟩
 ·show(fz (prL ps)).bind _=_
  rw[lD];show(if 0<ps.length then(prL ps)[JD (btP ps) (ps.length-1)]? else none)=_;rw[if_pos pos];unfold prL;rw[Qx,List.getElem?_eq_getElem hb];rfl
 ·obtain⟨j,hj⟩:=Q6 hq
  have jl:j<ps.length:=(Qk.mp hj).1;have:=b2 j (by lia);rw[eb] at this;have ej:ps.getD j (0,0)=q:=by simp[Jl,hj]
  rw[ej] at this;exact this
theorem Dv(ws:List Wd)(hz:ws.length<100)(h z:Int):gLW [.dat (.lst (wL ws)),.dat (.int h),.dat (.int z),.un]=some (.rt (kX h z ws)):=by
 let ps:=g8 h z ws (QE ws.length)
 have c3:eF (eLC (cy (bS bU (aa 0))) 1 [0,2,1] (ak 0) lwT lwE) [.dat (.lst (wL ws)),.dat (.int h),.dat (.int z),.un]=some (.lst (prL ps)):=by
  refine cM ?_
  rw[ll (ds:=da ws.length) (by
   have:=fB (f:=bS bU (aa 0)) (ε:=[.dat (.lst (wL ws)),.dat (.int h),.dat (.int z),.un]) (j:=((wL ws).length:Int)) rfl (by lia) (by simp;lia)
   rw[this];simp) (by simp;lia)]
  exact BO h z ws (QE ws.length) (λk hk=>Q7.mp hk) _
 have pm:=pY h z ws (QE ws.length);unfold gLW;refine(au (aX c3)).trans ?_;have cl:ay br (bS bU (aa 3)) (eC (.int 0)) [.dat (.lst (wL ws)),.dat (.int h),.dat (.int z),.dat (.lst (prL ps))]=some (decide (((prL ps).length:Int)=0)):=rfl;rcases nt h z ws none with⟨e,all⟩ | ⟨i,b,ei,e,sb,all,_⟩
 ·have en:ps=[]:=by
   refine List.eq_nil_iff_forall_not_mem.mpr λp hp=>?_;obtain⟨k,w,_,ew,sw,_⟩:=(pm p).mp hp;obtain⟨b0,e0,_⟩:=all k w ew sw;cases e0
  refine bQ ((cz _ cl (by rw[en];rfl)).trans ?_);unfold kX;rw[e];rfl
 ·have il:i<ws.length:=(Qk.mp ei).1
  have hi:(b.h,(i:Int))∈ps:=(pm _).mpr ⟨i,b,Q7.mpr il,ei,sb,rfl⟩;have pos:0<ps.length:=List.length_pos_of_mem hi
  obtain⟨p,hp,em,hmax⟩:=vm ps (λp hp=>by
   obtain⟨k,w,hk,_,_,rfl⟩:=(pm p).mp hp;have:=Q7.mp hk
   exact⟨by show(0:Int)<=k;lia,by show(k:Int)<100;lia⟩) pos
  obtain⟨k,w,hk,ew,sw,rfl⟩:=(pm p).mp hp;have kl:=Q7.mp hk;have m1:=hmax _ hi;have m2:=all k w ew sw
  have ki:k=i:=by
   have m1':b.h*100+(i:Int)<=w.h*100+(k:Int):=m1;rcases m2 with l | ⟨l1,l2⟩<;>lia
  subst ki;rw[ei] at ew;cases ew;refine(au ((b_ _ cl (λz=>by rw[Qi] at z;lia)).trans rfl)).trans ?_;refine cZ ?_;have ix:e2 ixD (aa 0) (e2 ixD (aK nK (ag (av 3) aF)) (eC (.int 1))) [.dat (.lst (wL ws)),.dat (.int h),.dat (.int z),.dat (.lst (prL ps))]=some (wD b):=aU (y:=.int (k:Int)) rfl (aU (aW rfl em) rfl rfl) (B0 ei);show fq _ _ _ [.dat (.lst (wL ws)),.dat (.int h),.dat (.int z),.dat (.lst (prL ps))]=_;unfold fq kX;rw[ix,e];rfl
theorem vD(xs:List D)(n:Nat):gO xs (some (n:Int)) none=xs.drop n:=by
 unfold gO;rw[HT.ph,HT.ko];rcases Nat.le_total n xs.length with h | h
 ·rw[KS h];rw[JZ (by simp)]
 ·rw[Nat.min_eq_right h,List.drop_eq_nil_of_le h,JA];simp
end Dn
namespace Fl
open PySem PySem.Spec PyProof.Rows L2 Dn
abbrev qy:List Str:=["_law_sky_here"]
abbrev fN:List Str:=["_law_sky_here"]
def jU:Ev->Option Fl:=(bh (bM (ag (eF (nk (e2 ixD (aa 0) (eC (.int 0))))) (ag (eF (nk (e2 ixD (aa 0) (eC (.int 1))))) (ag (eF (nk (e2 ixD (aa 0) (eC (.int 2))))) (ag (eF (nk (e2 ixD (aa 0) (eC (.int 3))))) aF))))))
def dN:List D->Option D:=fnD qy fN jU
abbrev qE:List Str:=["_law_winds","_law_hour","_law_height","_law_some"]
abbrev fG:List Str:=["_law_winds","_law_hour","_law_height"]
def p_:Ev->Option Fl:=(aC (a8 3 (eF (eLC (cy (bS bU (aa 0))) 1 [0,2,1] (ak 0) (bJ (ay br (e2 ixD (e2 ixD (aa 1) (aa 0)) (eC (.int 1))) (aa 2)) (ay leI (e2 ixD (e2 ixD (aa 1) (aa 0)) (eC (.int 0))) (aa 3))) (bM (ag (e2 ixD (e2 ixD (aa 1) (aa 0)) (eC (.int 0))) (ag (av 0) aF)))))) (aC (sIf (ay br (bS bU (aa 3)) (eC (.int 0))) (bh (bM (ag (eC (.int 0)) (ag (eC (.int 0)) aF)))) bC) (bh (fq (e2 ixD (aa 0) (e2 ixD (aK nK (ag (av 3) aF)) (eC (.int 1)))) (aT (eC (.int 2))) b9))))
def fM:List D->Option D:=fnD qE fG p_
abbrev qZ:List Str:=["_law_sky_here","_law_hour","_law_state_here","_law_order","_law_x","_law_y","_law_z","_law_sacks","_law_puffs","_law_step","_law_dx","_law_dy"]
abbrev gE:List Str:=["_law_sky_here","_law_hour","_law_state_here","_law_order"]
def kR:Ev->Option Fl:=(aC (gS (av 2) (df 5 (aA (ak 4) (aA (ak 5) (aA (ak 6) (aA (ak 7) (aA (ak 8) bI))))))) (aC (a8 9 (eD3 "up" 1 "level" 0 "down" (-1) (av 3))) (aC (a8 6 (e2 aN (aa 6) (aa 9))) (aC (sIf (bJ (ay (inD false) (aa 1) (e2 ixD (aa 0) (eC (.int 1)))) (ay gtI (aa 6) (eC (.int 0)))) (a8 6 (e2 bA (aa 6) (eC (.int 1)))) bC) (aC (gS (aK fM (ag (e2 ixD (aa 0) (eC (.int 2))) (ag (av 1) (ag (av 6) aF)))) (df 2 (aA (ak 10) (aA (ak 11) bI)))) (bh (bM (ag (e2 aN (aa 4) (aa 10)) (ag (e2 aN (aa 5) (aa 11)) (ag (av 6) (ag (e2 bA (aa 7) (aK lE (ag (eC (.int 0)) (ag (av 9) aF)))) (ag (e2 bA (aa 8) (aK lE (ag (eC (.int 0)) (ag (ma (aa 9)) aF)))) aF))))))))))))
def dC:List D->Option D:=fnD qZ gE kR
abbrev mq:List Str:=["_law_hills","_law_x","_law_y"]
abbrev dG:List Str:=["_law_hills","_law_x","_law_y"]
def fR:Ev->Option Fl:=(bh (aK yC (ag (eF (zK (eF (cI (ag (eC (.int 0)) aF))) (eF (eLC (cV (av 0)) 3 [1,2] (g9 3 (aA (ak 0) (aA (ak 1) (aA (ak 2) bI)))) (bJ (ay br (aa 0) (aa 3)) (ay br (aa 1) (aa 4))) (av 2))))) aF)))
def dI:List D->Option D:=fnD mq dG fR
abbrev wB:List Str:=["_law_box_here","_law_x","_law_y","_law_z"]
abbrev iC:List Str:=["_law_box_here","_law_x","_law_y","_law_z"]
def nO:Ev->Option Fl:=(bh (mx (e2 leI (e2 ixD (aa 0) (eC (.int 0))) (aa 1)) (mx (e2 leI (aa 1) (e2 ixD (aa 0) (eC (.int 2)))) (mx (e2 leI (e2 ixD (aa 0) (eC (.int 1))) (aa 2)) (mx (e2 leI (aa 2) (e2 ixD (aa 0) (eC (.int 3)))) (mx (e2 leI (e2 ixD (aa 0) (eC (.int 4))) (aa 3)) (e2 leI (aa 3) (e2 ixD (aa 0) (eC (.int 5))))))))))
def eN:List D->Option D:=fnD wB iC nO
abbrev qU:List Str:=["_law_shuts","_law_hour","_law_x","_law_y","_law_z"]
abbrev fF:List Str:=["_law_shuts","_law_hour","_law_x","_law_y","_law_z"]
def jT:Ev->Option Fl:=(bh (e2 (inD false) (eC (.bl true)) (eF (eLC (cV (av 0)) 1 [2,3,4,1] (ak 0) (bJ (ay leI (e2 ixD (aa 0) (eC (.int 6))) (aa 4)) (ay leI (aa 4) (e2 ixD (aa 0) (eC (.int 7))))) (aK eN (ag (fq (aa 0) b9 (aT (eC (.int 6)))) (ag (av 1) (ag (av 2) (ag (av 3) aF)))))))))
def fJ:List D->Option D:=fnD qU fF jT
abbrev oF:List Str:=["_law_sky_here","_law_hour","_law_state_here"]
abbrev eE:List Str:=["_law_sky_here","_law_hour","_law_state_here"]
def jk:Ev->Option Fl:=(aC (sIf (ay ltI (e2 ixD (aa 2) (eC (.int 2))) (aK dI (ag (e2 ixD (aa 0) (eC (.int 0))) (ag (e2 ixD (aa 2) (eC (.int 0))) (ag (e2 ixD (aa 2) (eC (.int 1))) aF))))) (bh (eC (.str "hill"))) bC) (aC (sIf (ec (aK fJ (ag (e2 ixD (aa 0) (eC (.int 3))) (ag (av 1) (ag (e2 ixD (aa 2) (eC (.int 0))) (ag (e2 ixD (aa 2) (eC (.int 1))) (ag (e2 ixD (aa 2) (eC (.int 2))) aF))))))) (bh (eC (.str "shut"))) bC) (bh (eC (.str "")))))
def gA:List D->Option D:=fnD oF eE jk
abbrev rG:List Str:=["_law_sky_here","_law_hour","_law_state_here","_law_order"]
abbrev gx:List Str:=["_law_sky_here","_law_hour","_law_state_here","_law_order"]
def lH:Ev->Option Fl:=(aC (sIf (bJ (ay br (aa 3) (eC (.str "up"))) (ay br (e2 ixD (aa 2) (eC (.int 3))) (eC (.int 0)))) (bh (eC (.str "sacks"))) bC) (aC (sIf (bJ (ay br (aa 3) (eC (.str "down"))) (ay br (e2 ixD (aa 2) (eC (.int 4))) (eC (.int 0)))) (bh (eC (.str "puffs"))) bC) (aC (sIf (bJ (ay br (aa 3) (eC (.str "up"))) (ay br (e2 ixD (aa 2) (eC (.int 2))) (eC (.int 5)))) (bh (eC (.str "high"))) bC) (aC (sIf (bJ (ay br (aa 3) (eC (.str "down"))) (ay br (e2 ixD (aa 2) (eC (.int 2))) (eC (.int 0)))) (bh (eC (.str "low"))) bC) (bh (aK gA (ag (av 0) (ag (e2 aN (aa 1) (eC (.int 1))) (ag (aK dC (ag (av 0) (ag (av 1) (ag (av 2) (ag (av 3) aF))))) aF)))))))))
def gv:List D->Option D:=fnD rG gx lH
abbrev vf:List Str:=["winds","hour","height","blowing","wind"]
abbrev iB:List Str:=["winds","hour","height"]
def oG:Ev->Option Fl:=(aC (sIf (jE (ay kn (e2 ixD (aa 4) (eC (.int 1))) (aa 2)) (ay gtI (e2 ixD (aa 4) (eC (.int 0))) (aa 1))) (λε=>some (.ct ε)) bC) (sIf (jE (ay (isD false) (aa 3) (eC .non)) (ay geI (e2 ixD (aa 4) (eC (.int 0))) (e2 ixD (aa 3) (eC (.int 0))))) (a8 3 (av 4)) bC))
def vF:Ev->Option Fl:=(aC (a8 3 (eC .non)) (aC (cJ (cV (av 0)) (ak 4) (oG)) (aC (sIf (ay (isD false) (aa 3) (eC .non)) (bh (bM (ag (eC (.int 0)) (ag (eC (.int 0)) aF)))) bC) (bh (bM (ag (e2 ixD (aa 3) (eC (.int 2))) (ag (e2 ixD (aa 3) (eC (.int 3))) aF)))))))
def f7:List D->Option D:=fnD vf iB vF
abbrev w8:List Str:=["sky","hour","state","order","hills","cool","winds","shuts","x","y","height","sacks","puffs","dx","dy"]
abbrev iY:List Str:=["sky","hour","state","order"]
def qT:Ev->Option Fl:=(aC (gS (av 0) (df 4 (aA (ak 4) (aA (ak 5) (aA (ak 6) (aA (ak 7) bI)))))) (aC (gS (av 2) (df 5 (aA (ak 8) (aA (ak 9) (aA (ak 10) (aA (ak 11) (aA (ak 12) bI))))))) (aC (sIf (ay br (aa 3) (eC (.str "up"))) (AK 10 11 (ag (e2 aN (aa 10) (eC (.int 1))) (ag (e2 bA (aa 11) (eC (.int 1))) aF))) (sIf (ay br (aa 3) (eC (.str "down"))) (AK 10 12 (ag (e2 bA (aa 10) (eC (.int 1))) (ag (e2 bA (aa 12) (eC (.int 1))) aF))) bC)) (aC (sIf (ay (inD false) (aa 1) (aa 5)) (a8 10 (aK lE (ag (e2 bA (aa 10) (eC (.int 1))) (ag (eC (.int 0)) aF)))) bC) (aC (gS (aK f7 (ag (av 6) (ag (av 1) (ag (av 10) aF)))) (df 2 (aA (ak 13) (aA (ak 14) bI)))) (bh (bM (ag (e2 aN (aa 8) (aa 13)) (ag (e2 aN (aa 9) (aa 14)) (ag (av 10) (ag (av 11) (ag (av 12) aF))))))))))))
def lM:List D->Option D:=fnD w8 iY qT
abbrev jb:List Str:=["state","order","x","y","height","sacks","puffs"]
abbrev cB:List Str:=["state","order"]
def fA:Ev->Option Fl:=(aC (gS (av 0) (df 5 (aA (ak 2) (aA (ak 3) (aA (ak 4) (aA (ak 5) (aA (ak 6) bI))))))) (aC (sIf (bJ (ay br (aa 1) (eC (.str "up"))) (ay ltI (aa 5) (eC (.int 1)))) (bh (eC (.str "sacks"))) bC) (aC (sIf (bJ (ay br (aa 1) (eC (.str "down"))) (ay ltI (aa 6) (eC (.int 1)))) (bh (eC (.str "puffs"))) bC) (aC (sIf (bJ (ay br (aa 1) (eC (.str "up"))) (ay br (aa 4) (eC (.int 5)))) (bh (eC (.str "high"))) bC) (aC (sIf (bJ (ay br (aa 1) (eC (.str "down"))) (ay br (aa 4) (eC (.int 0)))) (bh (eC (.str "low"))) bC) (bh (eC (.str ""))))))))
def dm:List D->Option D:=fnD jb cB fA
abbrev qX:List Str:=["hills","x","y","tops"]
abbrev fO:List Str:=["hills","x","y"]
def gQ:Ev->Option Fl:=(aC (a8 3 (eF (eLC (cV (av 0)) 3 [1,2] (g9 3 (aA (ak 0) (aA (ak 1) (aA (ak 2) bI)))) (bJ (ay br (aa 0) (aa 3)) (ay br (aa 1) (aa 4))) (av 2)))) (bh (e2 pI (av 3) (eC (.int 0)))))
def fD:List D->Option D:=fnD qX fO gQ
abbrev zg:List Str:=["box","x","y","height","x1","y1","x2","y2","low","high"]
abbrev jo:List Str:=["box","x","y","height"]
def qi:Ev->Option Fl:=(aC (gS (av 0) (df 6 (aA (ak 4) (aA (ak 5) (aA (ak 6) (aA (ak 7) (aA (ak 8) (aA (ak 9) bI)))))))) (bh (mx (eCh leI leI (aa 4) (aa 1) (aa 6)) (mx (eCh leI leI (aa 5) (aa 2) (aa 7)) (eCh leI leI (aa 8) (aa 3) (aa 9))))))
def fZ:List D->Option D:=fnD zg jo qi
abbrev uM:List Str:=["shuts","hour","x","y","height","shut"]
abbrev iA:List Str:=["shuts","hour","x","y","height"]
def bW:Ev->Option Fl:=(sIf (bJ (BI leI leI (e2 ixD (aa 5) (eC (.int 6))) (aa 1) (e2 ixD (aa 5) (eC (.int 7)))) (ec (aK fZ (ag (fq (aa 5) b9 (aT (eC (.int 6)))) (ag (av 2) (ag (av 3) (ag (av 4) aF))))))) (bh (eC (.bl true))) bC)
def mH:Ev->Option Fl:=(aC (cJ (cV (av 0)) (ak 5) (bW)) (bh (eC (.bl false))))
def iy:List D->Option D:=fnD uM iA mH
abbrev j7:List Str:=["sky","hour","state","hills","cool","winds","shuts","x","y","height","sacks","puffs"]
abbrev cX:List Str:=["sky","hour","state"]
def gI:Ev->Option Fl:=(aC (gS (av 0) (df 4 (aA (ak 3) (aA (ak 4) (aA (ak 5) (aA (ak 6) bI)))))) (aC (gS (av 2) (df 5 (aA (ak 7) (aA (ak 8) (aA (ak 9) (aA (ak 10) (aA (ak 11) bI))))))) (aC (sIf (ay ltI (aa 9) (aK fD (ag (av 3) (ag (av 7) (ag (av 8) aF))))) (bh (eC (.str "hill"))) bC) (aC (sIf (ec (aK iy (ag (av 6) (ag (av 1) (ag (av 7) (ag (av 8) (ag (av 9) aF))))))) (bh (eC (.str "shut"))) bC) (bh (eC (.str "")))))))
def dY:List D->Option D:=fnD j7 cX gI
abbrev Bs:List Str:=["sky","hour","state","order","after","why"]
abbrev kq:List Str:=["sky","hour","state","order"]
def sJ:Ev->Option Fl:=(aC (a8 4 (aK lM (ag (av 0) (ag (av 1) (ag (av 2) (ag (av 3) aF)))))) (aC (a8 5 (aK dm (ag (av 2) (ag (av 3) aF)))) (aC (sIf (ay br (aa 5) (eC (.str ""))) (a8 5 (aK dY (ag (av 0) (ag (e2 aN (aa 1) (eC (.int 1))) (ag (av 4) aF))))) bC) (bh (bM (ag (av 5) (ag (av 4) aF)))))))
def jq:List D->Option D:=fnD Bs kq sJ
abbrev zQ:List Str:=["sky","hour","state","found","order","why","after"]
abbrev kG:List Str:=["sky","hour","state"]
def iU:Ev->Option Fl:=(aC (gS (aK jq (ag (av 0) (ag (av 1) (ag (av 2) (ag (av 4) aF))))) (df 2 (aA (ak 5) (aA (ak 6) bI)))) (sIf (ay br (aa 5) (eC (.str ""))) (dg 3 (bM (ag (av 4) (ag (av 6) aF)))) bC))
def sD:Ev->Option Fl:=(aC (fj 3 (cI aF)) (aC (cJ (sW (eC (.tup [.str "up",.str "level",.str "down"]))) (ak 4) (iU)) (sFz 3 (bh (av 3)))))
def kC:List D->Option D:=fnD zQ kG sD
def bX(hs:List Hl)(x y:Int):List Int:=(hs.filter λh=>decide (h.x=x)&&decide (h.y=y)).map (·.t)
abbrev tgH:D->Ev->Option Ev:=g9 3 (aA (ak 0) (aA (ak 1) (aA (ak 2) bI)))
abbrev ftH:Ev->Option Bool:=bJ (ay br (aa 0) (aa 3)) (ay br (aa 1) (aa 4))
theorem Fp(h:Hl)(x y:Int):ftH [.dat (.int h.x),.dat (.int h.y),.dat (.int h.t),.dat (.int x),.dat (.int y)]=some (decide (h.x=x)&&decide (h.y=y)):=by
 have u1:ay br (aa 0) (aa 3) [.dat (.int h.x),.dat (.int h.y),.dat (.int h.t),.dat (.int x),.dat (.int y)]=some (decide (h.x=x)):=rfl;have u2:ay br (aa 1) (aa 4) [.dat (.int h.x),.dat (.int h.y),.dat (.int h.t),.dat (.int x),.dat (.int y)]=some (decide (h.y=y)):=rfl;unfold ftH bJ;rw[u1,u2];cases decide (h.x=x)<;>rfl
theorem zt(x y:Int):∀(hs:List Hl) (s0 s1 s2:Sl),lcD tgH ftH (av 2) (hL hs) [s0,s1,s2,.dat (.int x),.dat (.int y)]=some (iL (bX hs x y))
 |[],_,_,_=>rfl
 |h::hs,s0,s1,s2=>by
  show((ftH [.dat (.int h.x),.dat (.int h.y),.dat (.int h.t),.dat (.int x),.dat (.int y)]).bind λk=>if k=true then(some (D.int h.t)).bind λv=>(lcD tgH ftH (av 2) (hL hs) [.dat (.int h.x),.dat (.int h.y),.dat (.int h.t),.dat (.int x),.dat (.int y)]).bind λr=>some (v::r) else lcD tgH ftH (av 2) (hL hs) [.dat (.int h.x),.dat (.int h.y),.dat (.int h.t),.dat (.int x),.dat (.int y)])=_;rw[Fp,zt x y hs];unfold bX;rw[Z7];cases e:(decide (h.x=x)&&decide (h.y=y))<;>simp[iL]
def gr(hs:List Hl)(x y:Int):Int:=match bX hs x y with | []=>0 | m::r=>mxI m r
theorem wu(hs:List Hl)(hz:hs.length<1000000)(x y:Int):fD [.lst (hL hs),.int x,.int y]=some (.int (gr hs x y)):=by
 refine bp rfl ?_;show gQ [.dat (.lst (hL hs)),.dat (.int x),.dat (.int y),.un]=_;unfold gQ
 have c:eF (eLC (cV (av 0)) 3 [1,2] tgH ftH (av 2)) [.dat (.lst (hL hs)),.dat (.int x),.dat (.int y),.un]=some (.lst (iL (bX hs x y))):=by
  refine cM ?_;rw[ll (ds:=hL hs) rfl (by simpa[hL] using hz)];exact zt x y hs _ _ _
 rw[au (aX c)];show bh (e2 pI (av 3) (eC (.int 0))) [.dat (.lst (hL hs)),.dat (.int x),.dat (.int y),.dat (.lst (iL (bX hs x y)))]=_;refine cZ ?_;show pI (.lst (iL (bX hs x y))) (.int 0)=_;show(match cg (iL (bX hs x y)) with | some []=>some (D.int 0) | some (m::r)=>some (D.int (mxI m r)) | none=>none)=_;unfold gr;rw[show cg (iL (bX hs x y))=some (bX hs x y) from mX _];cases bX hs x y<;>rfl
theorem zc{hs:List Hl}{x y:Int}(ok:∀h∈hs,0<=h.t):∀v∈bX hs x y,0<=v:=λv hv=>by
 obtain⟨h,h1,rfl⟩:=Q2.mp hv;exact ok h (Ze.mp h1).1
theorem Du(hs:List Hl)(hz:hs.length<100000)(ok:∀h∈hs,0<=h.t)(x y:Int):dI [.lst (hL hs),.int x,.int y]=some (.int (gr hs x y)):=by
 refine bp rfl ?_;show fR [.dat (.lst (hL hs)),.dat (.int x),.dat (.int y)]=_;unfold fR
 have c:eF (eLC (cV (av 0)) 3 [1,2] tgH ftH (av 2)) [.dat (.lst (hL hs)),.dat (.int x),.dat (.int y)]=some (.lst (iL (bX hs x y))):=by
  refine cM ?_;rw[ll (ds:=hL hs) rfl (by simp[hL];lia)];exact zt x y hs _ _ _
 have tl:(bX hs x y).length<=hs.length:=by unfold bX;rw[Qi];exact List.length_filter_le _ _
 have c2:eF (zK (eF (cI (ag (eC (.int 0)) aF))) (eF (eLC (cV (av 0)) 3 [1,2] tgH ftH (av 2)))) [.dat (.lst (hL hs)),.dat (.int x),.dat (.int y)]=some (.lst (iL (0::bX hs x y))):=by
  refine cM ?_;unfold zK;rw[c];show(if 1+(iL (bX hs x y)).length<=1000000 then some ([D.int 0]++iL (bX hs x y)) else none)=_;rw[if_pos (by simp[iL];lia)];rfl
 refine cZ ?_;rw[De c2];show(match cg (iL (0::bX hs x y)) with | some (m::r)=>some (D.int (mxI m r)) | _=>none)=_;rw[show cg (iL (0::bX hs x y))=some (0::bX hs x y) from mX _];have tm:=zc (x:=x) (y:=y) ok;unfold gr
 revert tm
 cases bX hs x y with
 |nil=>intro _;rfl
 |cons m r=>
  intro tm;have h0:=tm m (by simp);show some (D.int (mxI (if m>0 then m else 0) r))=_;rw[show(if m>0 then m else 0)=m by split<;>lia]
def in6(q:Sh)(x y z:Int):Bool:=(decide (q.a<=x)&&decide (x<=q.c))&&((decide (q.b<=y)&&decide (y<=q.d))&&(decide (q.e<=z)&&decide (z<=q.f)))
theorem nL(q:Sh)(x y z:Int):fZ [t6 q.a q.b q.c q.d q.e q.f,.int x,.int y,.int z]=some (.bl (in6 q x y z)):=by
 refine bp rfl ?_;unfold qi;refine(au rfl).trans (cZ ?_);exact gG (n4 rfl rfl rfl) (gG (n4 rfl rfl rfl) (n4 rfl rfl rfl))
theorem qO(q:Sh)(x y z:Int):eN [t6 q.a q.b q.c q.d q.e q.f,.int x,.int y,.int z]=some (.bl (in6 q x y z)):=by
 refine bp rfl ?_;unfold nO;refine cZ ?_;refine(gG (b:=decide (x<=q.c)&&(decide (q.b<=y)&&(decide (y<=q.d)&&(decide (q.e<=z)&&decide (z<=q.f))))) (a:=decide (q.a<=x)) rfl (gG rfl (gG rfl (gG rfl (gG rfl rfl))))).trans ?_;unfold in6;rw[Bool.and_assoc,Bool.and_assoc]
def whB(q:Sh)(h:Int):Bool:=decide (q.t<=h)&&decide (h<=q.u)
def eQ(ss:List Sh)(h x y z:Int):Bool:=ss.any λq=>whB q h&&in6 q x y z
theorem mL(L:D)(h x y z:Int):∀(ss:List Sh) (s5:Sl),(eQ ss h x y z=false->∃e5,cO (ak 5) bW (shL ss) [.dat L,.dat (.int h),.dat (.int x),.dat (.int y),.dat (.int z),s5]=some (.nx [.dat L,.dat (.int h),.dat (.int x),.dat (.int y),.dat (.int z),e5]))/\
  (eQ ss h x y z=true->cO (ak 5) bW (shL ss) [.dat L,.dat (.int h),.dat (.int x),.dat (.int y),.dat (.int z),s5]=some (.rt (.bl true)))
 |[],s5=>⟨λ_=>⟨s5,rfl⟩,λh=>by cases h⟩
 |q::ss,s5=>by
  have c:bJ (BI leI leI (e2 ixD (aa 5) (eC (.int 6))) (aa 1) (e2 ixD (aa 5) (eC (.int 7)))) (ec (aK fZ (ag (fq (aa 5) b9 (aT (eC (.int 6)))) (ag (av 2) (ag (av 3) (ag (av 4) aF)))))) [.dat L,.dat (.int h),.dat (.int x),.dat (.int y),.dat (.int z),.dat (shD q)]=some (whB q h&&in6 q x y z):=by
   refine cE ?_ ?_
   ·unfold BI;rw[n4 (a:=q.t) (b:=h) (c:=q.u) rfl rfl rfl];rfl
   ·exact ox (nL q x y z)
  obtain⟨k1,k2⟩:=mL L h x y z ss (.dat (shD q));have hb:eQ (q::ss) h x y z=((whB q h&&in6 q x y z) || eQ ss h x y z):=rfl
  have e0:cO (ak 5) bW (shL (q::ss)) [.dat L,.dat (.int h),.dat (.int x),.dat (.int y),.dat (.int z),s5]=(bW [.dat L,.dat (.int h),.dat (.int x),.dat (.int y),.dat (.int z),.dat (shD q)]).bind λr=>match r with
   |.nx ε2=>cO (ak 5) bW (shL ss) ε2 | .ct ε2=>cO (ak 5) bW (shL ss) ε2 | .bk ε2=>some (.nx ε2) | .rt v=>some (.rt v) | .ro v=>some (.ro v) | .xc c v=>some (.xc c v):=rfl
  rw[e0];unfold bW at e0 ⊢;cases ho:(whB q h&&in6 q x y z) with
  |true=>
   rw[ho] at c hb;rw[eW c];exact⟨λh=>(by rw[hb] at h;cases h),λ_=>rfl⟩
  |false=>
   rw[ho] at c hb;rw[dB c];exact⟨λh=>k1 (by rw[hb] at h;exact h),λh=>k2 (by rw[hb] at h;exact h)⟩
theorem Aq(ss:List Sh)(h x y z:Int):iy [.lst (shL ss),.int h,.int x,.int y,.int z]=some (.bl (eQ ss h x y z)):=by
 refine bp rfl ?_;unfold mH;obtain⟨k1,k2⟩:=mL (.lst (shL ss)) h x y z ss .un;cases hb:eQ ss h x y z with
 |false=>
  obtain⟨e5,e⟩:=k1 hb;exact(au ((bE (ds:=shL ss) rfl).trans e)).trans rfl
 |true=>exact bQ ((bE (ds:=shL ss) rfl).trans (k2 hb))
abbrev ftS:Ev->Option Bool:=bJ (ay leI (e2 ixD (aa 0) (eC (.int 6))) (aa 4)) (ay leI (aa 4) (e2 ixD (aa 0) (eC (.int 7))))
abbrev feS:Ev->Option D:=aK eN (ag (fq (aa 0) b9 (aT (eC (.int 6)))) (ag (av 1) (ag (av 2) (ag (av 3) aF))))
theorem wC(h x y z:Int):∀(ss:List Sh) (s0:Sl),∃bs:List Bool,lcD (ak 0) ftS feS (shL ss) [s0,.dat (.int x),.dat (.int y),.dat (.int z),.dat (.int h)]=some (bs.map D.bl)/\bs.any id=eQ ss h x y z
 |[],_=>⟨[],rfl,rfl⟩
 |q::ss,s0=>by
  obtain⟨bs,e,hb⟩:=wC h x y z ss (.dat (shD q));have c:ftS [.dat (shD q),.dat (.int x),.dat (.int y),.dat (.int z),.dat (.int h)]=some (whB q h):=cE (a:=decide (q.t<=h)) (b:=decide (h<=q.u)) rfl rfl;have e0:lcD (ak 0) ftS feS (shL (q::ss)) [s0,.dat (.int x),.dat (.int y),.dat (.int z),.dat (.int h)]=(ftS [.dat (shD q),.dat (.int x),.dat (.int y),.dat (.int z),.dat (.int h)]).bind λk=>if k=true then(feS [.dat (shD q),.dat (.int x),.dat (.int y),.dat (.int z),.dat (.int h)]).bind λv=>(lcD (ak 0) ftS feS (shL ss) [.dat (shD q),.dat (.int x),.dat (.int y),.dat (.int z),.dat (.int h)]).bind λr=>some (v::r) else lcD (ak 0) ftS feS (shL ss) [.dat (shD q),.dat (.int x),.dat (.int y),.dat (.int z),.dat (.int h)]:=rfl
  have hs:eQ (q::ss) h x y z=((whB q h&&in6 q x y z) || eQ ss h x y z):=rfl;rw[e0,c,hs];cases whB q h with
  |true=>
   refine⟨in6 q x y z::bs,?_,by rw[<-hb];rfl⟩;rw[show feS [.dat (shD q),.dat (.int x),.dat (.int y),.dat (.int z),.dat (.int h)]=some (.bl (in6 q x y z)) from qO q x y z];show(lcD (ak 0) ftS feS (shL ss) _).bind _=_;rw[e];rfl
  |false=>exact⟨bs,e,by rw[hb];rfl⟩
theorem za:∀bs:List Bool,mG (bs.map D.bl)=some (bs.map V.bl)
 |[]=>rfl
 |b::bs=>by show(mG (bs.map D.bl)).bind _=_;rw[za bs];rfl
theorem B2:∀bs:List Bool,inV (.bl true) (bs.map V.bl)=bs.any id
 |[]=>rfl
 |b::bs=>by
  show(eqV (.bl b) (.bl true) || inV (.bl true) (bs.map V.bl))=_;rw[B2 bs];cases b<;>rfl
theorem se(ss:List Sh)(hz:ss.length<1000000)(h x y z:Int):fJ [.lst (shL ss),.int h,.int x,.int y,.int z]=some (.bl (eQ ss h x y z)):=by
 refine bp rfl ?_;unfold jT;obtain⟨bs,e,hb⟩:=wC h x y z ss .un;refine cZ ?_;refine(bP (x:=.bl true) (y:=.lst (bs.map D.bl)) rfl (cM ?_)).trans ?_
 ·rw[ll (ds:=shL ss) rfl (by simpa using hz)];exact e
 ·show(mG (bs.map D.bl)).bind _=_
  rw[za,<-hb,<-B2];rfl
abbrev sk4(hs:List Hl)(cs:List Int)(ws:List Wd)(ss:List Sh):D:=.tup [.lst (hL hs),.lst (iL cs),.lst (wL ws),.lst (shL ss)]
def why(hs:List Hl)(ss:List Sh)(h:Int)(q:Stt):Str:=if q.z<gr hs q.x q.y then "hill" else if eQ ss h q.x q.y q.z=true then "shut" else ""
section
variable(hs:List Hl)(cs:List Int)(ws:List Wd)(ss:List Sh)(hz:hs.length<=900)(ok:∀h∈hs,0<=h.t)(sz:ss.length<=900)(h:Int)(q:Stt)
include hz in
theorem DP:dY [sk4 hs cs ws ss,.int h,stD q]=some (.str (why hs ss h q)):=by
 refine bp rfl ?_;unfold gI;refine(au rfl).trans ?_;refine(au rfl).trans ?_;show aC _ _ [.dat (sk4 hs cs ws ss),.dat (.int h),.dat (stD q),.dat (.lst (hL hs)),.dat (.lst (iL cs)),.dat (.lst (wL ws)),.dat (.lst (shL ss)),.dat (.int q.x),.dat (.int q.y),.dat (.int q.z),.dat (.int q.s),.dat (.int q.p)]=_;have c1:ay ltI (aa 9) (aK fD (ag (av 3) (ag (av 7) (ag (av 8) aF)))) [.dat (sk4 hs cs ws ss),.dat (.int h),.dat (stD q),.dat (.lst (hL hs)),.dat (.lst (iL cs)),.dat (.lst (wL ws)),.dat (.lst (shL ss)),.dat (.int q.x),.dat (.int q.y),.dat (.int q.z),.dat (.int q.s),.dat (.int q.p)]=some (decide (q.z<gr hs q.x q.y)):=cA (x:=.int q.z) (y:=.int (gr hs q.x q.y)) rfl (aW rfl (wu hs (by lia) q.x q.y)) rfl;have c2:ec (aK iy (ag (av 6) (ag (av 1) (ag (av 7) (ag (av 8) (ag (av 9) aF)))))) [.dat (sk4 hs cs ws ss),.dat (.int h),.dat (stD q),.dat (.lst (hL hs)),.dat (.lst (iL cs)),.dat (.lst (wL ws)),.dat (.lst (shL ss)),.dat (.int q.x),.dat (.int q.y),.dat (.int q.z),.dat (.int q.s),.dat (.int q.p)]=some (eQ ss h q.x q.y q.z):=ox (aW rfl (Aq ss h q.x q.y q.z));unfold why
 by_cases g1:q.z<gr hs q.x q.y
 ·rw[if_pos g1]
  exact bQ ((cz _ c1 g1).trans rfl)
 ·rw[if_neg g1]
  refine(au ((b_ _ c1 g1).trans rfl)).trans ?_;cases hb:eQ ss h q.x q.y q.z with
  |true=>
   rw[hb] at c2;rw[if_pos rfl];exact bQ ((eW c2).trans rfl)
  |false=>
   rw[hb] at c2;rw[if_neg Ql];exact(au ((dB c2).trans rfl)).trans rfl
include hz ok sz in
theorem w9:gA [sk4 hs cs ws ss,.int h,stD q]=some (.str (why hs ss h q)):=by
 refine bp rfl ?_;unfold jk;show aC _ _ [.dat (sk4 hs cs ws ss),.dat (.int h),.dat (stD q)]=_;have c1:ay ltI (e2 ixD (aa 2) (eC (.int 2))) (aK dI (ag (e2 ixD (aa 0) (eC (.int 0))) (ag (e2 ixD (aa 2) (eC (.int 0))) (ag (e2 ixD (aa 2) (eC (.int 1))) aF)))) [.dat (sk4 hs cs ws ss),.dat (.int h),.dat (stD q)]=some (decide (q.z<gr hs q.x q.y)):=cA (x:=.int q.z) (y:=.int (gr hs q.x q.y)) rfl (aW rfl (Du hs (by lia) ok q.x q.y)) rfl;have c2:ec (aK fJ (ag (e2 ixD (aa 0) (eC (.int 3))) (ag (av 1) (ag (e2 ixD (aa 2) (eC (.int 0))) (ag (e2 ixD (aa 2) (eC (.int 1))) (ag (e2 ixD (aa 2) (eC (.int 2))) aF)))))) [.dat (sk4 hs cs ws ss),.dat (.int h),.dat (stD q)]=some (eQ ss h q.x q.y q.z):=ox (aW rfl (se ss (by lia) h q.x q.y q.z));unfold why
 by_cases g1:q.z<gr hs q.x q.y
 ·rw[if_pos g1]
  exact bQ ((cz _ c1 g1).trans rfl)
 ·rw[if_neg g1]
  refine(au ((b_ _ c1 g1).trans rfl)).trans ?_;cases hb:eQ ss h q.x q.y q.z with
  |true=>
   rw[hb] at c2;rw[if_pos rfl];exact bQ ((eW c2).trans rfl)
  |false=>
   rw[hb] at c2;rw[if_neg Ql];exact(au ((dB c2).trans rfl)).trans rfl
end
def wo(o:Str)(q:Stt):Str:=if o = "up"/\q.s<1 then "sacks" else if o = "down"/\q.p<1 then "puffs" else if o = "up"/\q.z=5 then "high" else if o = "down"/\q.z=0 then "low" else ""
theorem Fg(o:Str)(q:Stt):dm [stD q,.str o]=some (.str (wo o q)):=by
 refine bp rfl ?_;unfold fA;refine(au rfl).trans ?_;show aC _ _ [.dat (stD q),.dat (.str o),.dat (.int q.x),.dat (.int q.y),.dat (.int q.z),.dat (.int q.s),.dat (.int q.p)]=_;have b2:∀(P Q:Prop) [Decidable P] [Decidable Q],(decide P&&decide Q)=decide (P/\Q):=λP Q _ _=>by by_cases p:P<;>by_cases q:Q<;>simp[p,q]
 have c1:bJ (ay br (aa 1) (eC (.str "up"))) (ay ltI (aa 5) (eC (.int 1))) [.dat (stD q),.dat (.str o),.dat (.int q.x),.dat (.int q.y),.dat (.int q.z),.dat (.int q.s),.dat (.int q.p)]=some (decide (o = "up"/\q.s<1)):=by rw[<-b2];exact cE rfl rfl
 have c2:bJ (ay br (aa 1) (eC (.str "down"))) (ay ltI (aa 6) (eC (.int 1))) [.dat (stD q),.dat (.str o),.dat (.int q.x),.dat (.int q.y),.dat (.int q.z),.dat (.int q.s),.dat (.int q.p)]=some (decide (o = "down"/\q.p<1)):=by rw[<-b2];exact cE rfl rfl
 have c3:bJ (ay br (aa 1) (eC (.str "up"))) (ay br (aa 4) (eC (.int 5))) [.dat (stD q),.dat (.str o),.dat (.int q.x),.dat (.int q.y),.dat (.int q.z),.dat (.int q.s),.dat (.int q.p)]=some (decide (o = "up"/\q.z=5)):=by rw[<-b2];exact cE rfl rfl
 have c4:bJ (ay br (aa 1) (eC (.str "down"))) (ay br (aa 4) (eC (.int 0))) [.dat (stD q),.dat (.str o),.dat (.int q.x),.dat (.int q.y),.dat (.int q.z),.dat (.int q.s),.dat (.int q.p)]=some (decide (o = "down"/\q.z=0)):=by rw[<-b2];exact cE rfl rfl
 unfold wo
 by_cases g1:o = "up"/\q.s<1
 ·rw[if_pos g1];exact bQ ((cz _ c1 g1).trans rfl)
 ·rw[if_neg g1]
  refine(au ((b_ _ c1 g1).trans rfl)).trans ?_
  by_cases g2:o = "down"/\q.p<1
  ·rw[if_pos g2];exact bQ ((cz _ c2 g2).trans rfl)
  ·rw[if_neg g2]
   refine(au ((b_ _ c2 g2).trans rfl)).trans ?_
   by_cases g3:o = "up"/\q.z=5
   ·rw[if_pos g3];exact bQ ((cz _ c3 g3).trans rfl)
   ·rw[if_neg g3]
    refine(au ((b_ _ c3 g3).trans rfl)).trans ?_
    by_cases g4:o = "down"/\q.z=0
    ·rw[if_pos g4];exact bQ ((cz _ c4 g4).trans rfl)
    ·rw[if_neg g4]
     exact(au ((b_ _ c4 g4).trans rfl)).trans rfl
abbrev isO(o:Str):Prop:=o = "up"\/o = "level"\/o = "down"
def wv(h z:Int)(ws:List Wd):Int×Int:=match iN h z ws none with | none=>(0,0) | some b=>(b.dx,b.dy)
theorem pz(h z:Int)(ws:List Wd):kX h z ws=.tup [.int (wv h z ws).1,.int (wv h z ws).2]:=by unfold kX wv;cases iN h z ws none<;>rfl
theorem EJ(ws:List Wd)(h z:Int):f7 [.lst (wL ws),.int h,.int z]=some (.tup [.int (wv h z ws).1,.int (wv h z ws).2]):=by rw[<-pz];exact bp rfl (CT ws h z)
theorem EY(ws:List Wd)(hz:ws.length<100)(h z:Int):fM [.lst (wL ws),.int h,.int z]=some (.tup [.int (wv h z ws).1,.int (wv h z ws).2]):=by rw[<-pz];exact bp rfl (Dv ws hz h z)
def inC(cs:List Int)(h:Int):Bool:=inV (.int h) (cs.map V.int)
theorem yU(cs:List Int)(h:Int):inD false (.int h) (.lst (iL cs))=some (.bl (inC cs h)):=by show(mG (iL cs)).bind _=_;rw[ot];rfl
def czP(c:Bool)(z:Int):Int:=if c=true then(if(0:Int)>z-1 then 0 else z-1) else z
def z1(o:Str)(q:Stt):Int:=if o = "up" then q.z+1 else if o = "down" then q.z-1 else q.z
def s1(o:Str)(q:Stt):Int:=if o = "up" then q.s-1 else q.s
def p1(o:Str)(q:Stt):Int:=if o = "down" then q.p-1 else q.p
def bo(k:Sk)(h:Int)(q:Stt)(o:Str):Stt:=⟨q.x+(wv h (czP (inC k.cs h) (z1 o q)) k.ws).1,q.y+(wv h (czP (inC k.cs h) (z1 o q)) k.ws).2,czP (inC k.cs h) (z1 o q),s1 o q,p1 o q⟩
abbrev evP(k:Sk)(h:Int)(q:Stt)(o:Str)(z s p:Int)(a b:Sl):Ev:=[.dat (skD k),.dat (.int h),.dat (stD q),.dat (.str o),.dat (.lst (hL k.hs)),.dat (.lst (iL k.cs)),.dat (.lst (wL k.ws)),.dat (.lst (shL k.ss)),.dat (.int q.x),.dat (.int q.y),.dat (.int z),.dat (.int s),.dat (.int p),a,b]
theorem DY(k:Sk)(h:Int)(q:Stt)(o:Str):lM [skD k,.int h,stD q,.str o]=some (stD (bo k h q o)):=by
 refine bp rfl ?_;unfold qT;refine(au rfl).trans ?_;refine(au rfl).trans ?_;show aC _ _ (evP k h q o q.z q.s q.p .un .un)=_;have c1:ay br (aa 3) (eC (.str "up")) (evP k h q o q.z q.s q.p .un .un)=some (decide (o = "up")):=rfl;have c2:ay br (aa 3) (eC (.str "down")) (evP k h q o q.z q.s q.p .un .un)=some (decide (o = "down")):=rfl;have cc:∀z s p,ay (inD false) (aa 1) (aa 5) (evP k h q o z s p .un .un)=some (inC k.cs h):=λz s p=>cA (x:=.int h) (y:=.lst (iL k.cs)) rfl rfl (yU k.cs h)
 have cool:∀z s p,sIf (ay (inD false) (aa 1) (aa 5)) (a8 10 (aK lE (ag (e2 bA (aa 10) (eC (.int 1))) (ag (eC (.int 0)) aF)))) bC (evP k h q o z s p .un .un)=some (.nx (evP k h q o (czP (inC k.cs h) z) s p .un .un)):=λz s p=>by
  have:=cc z s p;unfold czP;cases hb:inC k.cs h with
  |true=>rw[hb] at this;rw[eW this,if_pos rfl];rfl
  |false=>rw[hb] at this;rw[dB this,if_neg Ql];rfl
 have fin:∀z s p,aC (sIf (ay (inD false) (aa 1) (aa 5)) (a8 10 (aK lE (ag (e2 bA (aa 10) (eC (.int 1))) (ag (eC (.int 0)) aF)))) bC) (aC (gS (aK f7 (ag (av 6) (ag (av 1) (ag (av 10) aF)))) (df 2 (aA (ak 13) (aA (ak 14) bI)))) (bh (bM (ag (e2 aN (aa 8) (aa 13)) (ag (e2 aN (aa 9) (aa 14)) (ag (av 10) (ag (av 11) (ag (av 12) aF)))))))) (evP k h q o z s p .un .un)=some (.rt (stD ⟨q.x+(wv h (czP (inC k.cs h) z) k.ws).1,q.y+(wv h (czP (inC k.cs h) z) k.ws).2,czP (inC k.cs h) z,s,p⟩)):=λz s p=>by
  refine(au (cool z s p)).trans ?_;refine(au (ε':=evP k h q o (czP (inC k.cs h) z) s p (.dat (.int (wv h (czP (inC k.cs h) z) k.ws).1)) (.dat (.int (wv h (czP (inC k.cs h) z) k.ws).2))) ?_).trans rfl;show((aK f7 (ag (av 6) (ag (av 1) (ag (av 10) aF))) (evP k h q o (czP (inC k.cs h) z) s p .un .un)).bind λd=>(df 2 (aA (ak 13) (aA (ak 14) bI)) d (evP k h q o (czP (inC k.cs h) z) s p .un .un)).map Fl.nx)=_;rw[aW (ds:=[.lst (wL k.ws),.int h,.int (czP (inC k.cs h) z)]) rfl (EJ k.ws h (czP (inC k.cs h) z))];rfl
 unfold bo z1 s1 p1
 by_cases g1:o = "up"
 ·have g2:¬o = "down":=λz=>by rw[g1] at z;exact absurd z (by decide)
  rw[if_pos g1,if_pos g1,if_neg g2];exact(au (ε':=evP k h q o (q.z+1) (q.s-1) q.p .un .un) ((cz _ c1 g1).trans rfl)).trans (fin _ _ _)
 ·rw[if_neg g1,if_neg g1]
  by_cases g2:o = "down"
  ·rw[if_pos g2,if_pos g2]
   exact(au (ε':=evP k h q o (q.z-1) q.s (q.p-1) .un .un) ((b_ _ c1 g1).trans ((cz _ c2 g2).trans rfl))).trans (fin _ _ _)
  ·rw[if_neg g2,if_neg g2]
   exact(au (ε':=evP k h q o q.z q.s q.p .un .un) ((b_ _ c1 g1).trans ((b_ _ c2 g2).trans rfl))).trans (fin _ _ _)
def wh(k:Sk)(h:Int)(q:Stt)(o:Str):Str:=if wo o q = "" then why k.hs k.ss (h+1) (bo k h q o) else wo o q
theorem zk(k:Sk)(hk:k.hs.length<=900)(h:Int)(q:Stt)(o:Str):jq [skD k,.int h,stD q,.str o]=some (.tup [.str (wh k h q o),stD (bo k h q o)]):=by
 refine bp rfl ?_;unfold sJ;refine(au (aX (d:=stD (bo k h q o)) (aW (ds:=[skD k,.int h,stD q,.str o]) rfl (DY k h q o)))).trans ?_;refine(au (aX (d:=.str (wo o q)) (aW (ds:=[stD q,.str o]) rfl (Fg o q)))).trans ?_;have c:ay br (aa 5) (eC (.str "")) [.dat (skD k),.dat (.int h),.dat (stD q),.dat (.str o),.dat (stD (bo k h q o)),.dat (.str (wo o q))]=some (decide (wo o q = "")):=rfl;unfold wh
 by_cases g:wo o q = ""
 ·rw[if_pos g]
  refine(au ((cz _ c g).trans (aX (d:=.str (why k.hs k.ss (h+1) (bo k h q o))) (aW (ds:=[skD k,.int (h+1),stD (bo k h q o)]) rfl ?_)))).trans rfl;exact DP k.hs k.cs k.ws k.ss hk (h+1) (bo k h q o)
 ·rw[if_neg g]
  exact(au ((b_ _ c g).trans rfl)).trans rfl
abbrev Ods:List Str:=["up","level","down"]
def can(k:Sk)(h:Int)(q:Stt):List Str:=Ods.filter λo=>decide (wh k h q o = "")
def mvD(k:Sk)(h:Int)(q:Stt)(o:Str):D:=.tup [.str o,stD (bo k h q o)]
theorem sU(k:Sk)(h:Int)(q:Stt):(can k h q).length<=3:=List.length_filter_le _ _
theorem yD(k:Sk)(hk:k.hs.length<=900)(h:Int)(q:Stt):kC [skD k,.int h,stD q]=some (.lst ((can k h q).map (mvD k h q))):=by
 refine bp rfl ?_;unfold sD;refine(au rfl).trans ?_
 obtain⟨ε',e,s4,s5,s6,rfl⟩:=iW (g:=ak 4) (gb:=iU) D.str (λdone ε=>∃s4 s5 s6,ε=[.dat (skD k),.dat (.int h),.dat (stD q),.own ((done.filter λo=>decide (wh k h q o = "")).map (mvD k h q)),s4,s5,s6]) Ods (λdone o rest hd ε ⟨s4,s5,s6,he⟩=>by
  subst he;have dl:done.length<3:=by have:=congrArg List.length hd;simp at this;lia
  refine⟨_,[.dat (skD k),.dat (.int h),.dat (stD q),.own (((done++[o]).filter λo=>decide (wh k h q o = "")).map (mvD k h q)),.dat (.str o),.dat (.str (wh k h q o)),.dat (stD (bo k h q o))],rfl,.inl ?_,_,_,_,rfl⟩;unfold iU
  have t:gS (aK jq (ag (av 0) (ag (av 1) (ag (av 2) (ag (av 4) aF))))) (df 2 (aA (ak 5) (aA (ak 6) bI))) [.dat (skD k),.dat (.int h),.dat (stD q),.own ((done.filter λo=>decide (wh k h q o = "")).map (mvD k h q)),.dat (.str o),s5,s6]=some (.nx [.dat (skD k),.dat (.int h),.dat (stD q),.own ((done.filter λo=>decide (wh k h q o = "")).map (mvD k h q)),.dat (.str o),.dat (.str (wh k h q o)),.dat (stD (bo k h q o))]):=by
   show((aK jq (ag (av 0) (ag (av 1) (ag (av 2) (ag (av 4) aF)))) [.dat (skD k),.dat (.int h),.dat (stD q),.own ((done.filter λo=>decide (wh k h q o = "")).map (mvD k h q)),.dat (.str o),s5,s6]).bind λd=>(df 2 (aA (ak 5) (aA (ak 6) bI)) d [.dat (skD k),.dat (.int h),.dat (stD q),.own ((done.filter λo=>decide (wh k h q o = "")).map (mvD k h q)),.dat (.str o),s5,s6]).map Fl.nx)=_;rw[aW (ds:=[skD k,.int h,stD q,.str o]) rfl (zk k hk h q o)];rfl
  refine(au t).trans ?_;have c:ay br (aa 5) (eC (.str "")) [.dat (skD k),.dat (.int h),.dat (stD q),.own ((done.filter λo=>decide (wh k h q o = "")).map (mvD k h q)),.dat (.str o),.dat (.str (wh k h q o)),.dat (stD (bo k h q o))]=some (decide (wh k h q o = "")):=rfl;rw[List.filter_append,Jf]
  by_cases g:wh k h q o = ""
  ·refine(cz _ c g).trans ?_
   rw[List.filter_cons_of_pos (by simpa using g)];show(if((done.filter λo=>decide (wh k h q o = "")).map (mvD k h q)).length<1000000 then _ else _)=_;rw[if_pos (by rw[Qi];have:=List.length_filter_le (λo=>decide (wh k h q o = "")) done;lia)];rfl
  ·refine(b_ _ c g).trans ?_
   rw[List.filter_cons_of_neg (by simpa using g)];simp only[List.filter_nil,Kq,Jp]
   rfl) [.dat (skD k),.dat (.int h),.dat (stD q),.own [],.un,.un,.un] ⟨_,_,_,rfl⟩
 exact(au ((bE (ds:=Ods.map D.str) rfl).trans e)).trans rfl
def dz(o:Str):Int:=if o = "up" then 1 else if o = "level" then 0 else -1
def czL(c:Bool)(z:Int):Int:=if(c&&decide (z>0))=true then z-1 else z
def zY(k:Sk)(h:Int)(q:Stt)(o:Str):Stt:=⟨q.x+(wv h (czL (inC k.cs h) (q.z+dz o)) k.ws).1,q.y+(wv h (czL (inC k.cs h) (q.z+dz o)) k.ws).2,czL (inC k.cs h) (q.z+dz o),q.s-(if dz o>0 then dz o else 0),q.p-(if -dz o>0 then -dz o else 0)⟩
abbrev evQ(k:Sk)(h:Int)(q:Stt)(o:Str)(z:Int)(c a b:Sl):Ev:=[.dat (skD k),.dat (.int h),.dat (stD q),.dat (.str o),.dat (.int q.x),.dat (.int q.y),.dat (.int z),.dat (.int q.s),.dat (.int q.p),c,a,b]
theorem tY(k:Sk)(hw:k.ws.length<100)(h:Int)(q:Stt)(o:Str)(ho:isO o):dC [skD k,.int h,stD q,.str o]=some (stD (zY k h q o)):=by
 refine bp rfl ?_;unfold kR;refine(au (ε':=evQ k h q o q.z .un .un .un) rfl).trans ?_
 have c9:eD3 "up" 1 "level" 0 "down" (-1) (av 3) (evQ k h q o q.z .un .un .un)=some (.int (dz o)):=by
  show(if o = "up" then some (D.int 1) else if o = "level" then some (.int 0) else if o = "down" then some (.int (-1)) else none)=_;unfold dz;rcases ho with rfl | rfl | rfl
  ·rw[if_pos rfl,if_pos rfl]
  ·rw[if_neg (by decide),if_pos rfl,if_neg (by decide),if_pos rfl]
  ·rw[if_neg (by decide),if_neg (by decide),if_pos rfl,if_neg (by decide),if_neg (by decide)]
 refine(au (aX c9)).trans ?_;refine(au (ε':=evQ k h q o (q.z+dz o) (.dat (.int (dz o))) .un .un) rfl).trans ?_
 have cc:bJ (ay (inD false) (aa 1) (e2 ixD (aa 0) (eC (.int 1)))) (ay gtI (aa 6) (eC (.int 0))) (evQ k h q o (q.z+dz o) (.dat (.int (dz o))) .un .un)=some (inC k.cs h&&decide (q.z+dz o>0)):=
  cE (cA (x:=.int h) (y:=.lst (iL k.cs)) rfl rfl (yU k.cs h)) rfl
 refine(au (ε':=evQ k h q o (czL (inC k.cs h) (q.z+dz o)) (.dat (.int (dz o))) .un .un) ?_).trans ?_
 ·unfold czL
  cases hb:(inC k.cs h&&decide (q.z+dz o>0)) with
  |true=>rw[hb] at cc;rw[eW cc,if_pos rfl];rfl
  |false=>rw[hb] at cc;rw[dB cc,if_neg Ql];rfl
 generalize hz:czL (inC k.cs h) (q.z+dz o)=z;refine(au (ε':=evQ k h q o z (.dat (.int (dz o))) (.dat (.int (wv h z k.ws).1)) (.dat (.int (wv h z k.ws).2))) ?_).trans ?_
 ·show((aK fM (ag (e2 ixD (aa 0) (eC (.int 2))) (ag (av 1) (ag (av 6) aF))) (evQ k h q o z (.dat (.int (dz o))) .un .un)).bind λd=>(df 2 (aA (ak 10) (aA (ak 11) bI)) d (evQ k h q o z (.dat (.int (dz o))) .un .un)).map Fl.nx)=_
  rw[aW (ds:=[.lst (wL k.ws),.int h,.int z]) rfl (EY k.ws hw h z)];rfl
 ·unfold zY
  rw[hz];rfl
structure StOk(q:Stt):Prop where
 z:0<=q.z
 s:0<=q.s
 p:0<=q.p
theorem Ce(q:Stt):wo "up" q=(if q.s<1 then("sacks" : Str) else if q.z=5 then("high" : Str) else("" : Str)):=by
 have n1:("up" : Str)≠"down":=by decide
 simp[wo,n1]
theorem nT(q:Stt):wo "down" q=(if q.p<1 then("puffs" : Str) else if q.z=0 then("low" : Str) else("" : Str)):=by
 have n1:("down" : Str)≠"up":=by decide
 simp[wo,n1]
theorem xr:dz "up" = 1:=if_pos rfl
theorem l5:dz "level" = 0:=(if_neg (by decide)).trans (if_pos rfl)
theorem n6:dz "down" = -1:=(if_neg (by decide)).trans (if_neg (by decide))
theorem FF(q:Stt):z1 "up" q=q.z+1:=if_pos rfl
theorem yr(q:Stt):z1 "level" q=q.z:=(if_neg (by decide)).trans (if_neg (by decide))
theorem z8(q:Stt):z1 "down" q=q.z-1:=(if_neg (by decide)).trans (if_pos rfl)
theorem yo(q:Stt):s1 "up" q=q.s-1:=if_pos rfl
theorem l9(q:Stt):s1 "level" q=q.s:=if_neg (by decide)
theorem oj(q:Stt):s1 "down" q=q.s:=if_neg (by decide)
theorem y2(q:Stt):p1 "up" q=q.p:=if_neg (by decide)
theorem l_(q:Stt):p1 "level" q=q.p:=if_neg (by decide)
theorem oy(q:Stt):p1 "down" q=q.p-1:=if_pos rfl
theorem Fc(c:Bool)(z:Int)(hz:0<=z):czL c z=czP c z:=by
 unfold czL czP;cases c with
 |false=>rfl
 |true=>
  by_cases e:z>0
  ·rw[if_pos (by simp[e]),if_pos rfl,if_neg (by lia)]
  ·rw[if_neg (by simp[e]),if_pos rfl,if_pos (by lia)];lia
theorem DM{q:Stt}(hw:wo "down" q = ""):¬q.z=0:=λz=>by
 rw[nT,if_pos z] at hw;split at hw
 ·exact absurd hw (by decide)
 ·exact absurd hw (by decide)
theorem Cy{o:Str}(ho:isO o){q:Stt}(hq:StOk q)(hw:wo o q = ""):0<=z1 o q/\q.z+dz o=z1 o q:=by
 have h0:=hq.z;rcases ho with rfl | rfl | rfl
 ·rw[FF,xr];lia
 ·rw[yr,l5];lia
 ·have:=DM hw
  rw[z8,n6];lia
theorem yF(k:Sk)(h:Int)(q:Stt)(o:Str)(ho:isO o)(hq:StOk q)(hw:wo o q = ""):zY k h q o=bo k h q o:=by
 obtain⟨g1,g2⟩:=Cy ho hq hw
 have ss:q.s-(if dz o>0 then dz o else 0)=s1 o q:=by
  rcases ho with rfl | rfl | rfl
  ·rw[xr,yo,if_pos (by decide)]
  ·rw[l5,l9,if_neg (by decide)];lia
  ·rw[n6,oj,if_neg (by decide)];lia
 have pp:q.p-(if -dz o>0 then -dz o else 0)=p1 o q:=by
  rcases ho with rfl | rfl | rfl
  ·rw[xr,y2,if_neg (by decide)];lia
  ·rw[l5,l_,if_neg (by decide)];lia
  ·rw[n6,oy,if_pos (by decide)];lia
 unfold zY bo;rw[g2,Fc _ _ g1,ss,pp]
theorem Eb(c:Bool)(z:Int)(hz:0<=z):0<=czP c z:=by
 unfold czP;split
 ·split<;>lia
 ·exact hz
theorem yX(k:Sk)(h:Int)(q:Stt)(o:Str)(ho:isO o)(hq:StOk q)(hw:wo o q = ""):StOk (bo k h q o):=by
 have h1:=hq.s;have h2:=hq.p;refine⟨Eb _ _ (Cy ho hq hw).1,?_,?_⟩
 ·show 0<=s1 o q
  rcases ho with rfl | rfl | rfl
  ·rw[Ce] at hw
   rw[yo];split at hw
   ·exact absurd hw (by decide)
   ·lia
  ·rw[l9];exact h1
  ·rw[oj];exact h1
 ·show 0<=p1 o q
  rcases ho with rfl | rfl | rfl
  ·rw[y2];exact h2
  ·rw[l_];exact h2
  ·rw[nT] at hw
   rw[oy];split at hw
   ·exact absurd hw (by decide)
   ·lia
theorem Ak(k:Sk)(kk:SkW k)(h:Int)(q:Stt)(hq:StOk q)(o:Str)(ho:isO o):gv [skD k,.int h,stD q,.str o]=some (.str (wh k h q o)):=by
 refine bp rfl ?_;unfold lH;have b2:∀(P Q:Prop) [Decidable P] [Decidable Q],(decide P&&decide Q)=decide (P/\Q):=λP Q _ _=>by by_cases p:P<;>by_cases q:Q<;>simp[p,q]
 have c1:bJ (ay br (aa 3) (eC (.str "up"))) (ay br (e2 ixD (aa 2) (eC (.int 3))) (eC (.int 0))) [.dat (skD k),.dat (.int h),.dat (stD q),.dat (.str o)]=some (decide (o = "up"/\q.s=0)):=by rw[<-b2];exact cE rfl rfl
 have c2:bJ (ay br (aa 3) (eC (.str "down"))) (ay br (e2 ixD (aa 2) (eC (.int 4))) (eC (.int 0))) [.dat (skD k),.dat (.int h),.dat (stD q),.dat (.str o)]=some (decide (o = "down"/\q.p=0)):=by rw[<-b2];exact cE rfl rfl
 have c3:bJ (ay br (aa 3) (eC (.str "up"))) (ay br (e2 ixD (aa 2) (eC (.int 2))) (eC (.int 5))) [.dat (skD k),.dat (.int h),.dat (stD q),.dat (.str o)]=some (decide (o = "up"/\q.z=5)):=by rw[<-b2];exact cE rfl rfl
 have c4:bJ (ay br (aa 3) (eC (.str "down"))) (ay br (e2 ixD (aa 2) (eC (.int 2))) (eC (.int 0))) [.dat (skD k),.dat (.int h),.dat (stD q),.dat (.str o)]=some (decide (o = "down"/\q.z=0)):=by rw[<-b2];exact cE rfl rfl
 have h1:=hq.s;have h2:=hq.p;have sE:(o = "up"/\q.s<1)↔(o = "up"/\q.s=0):=⟨λ⟨a,b⟩=>⟨a,by lia⟩,λ⟨a,b⟩=>⟨a,by lia⟩⟩;have pE:(o = "down"/\q.p<1)↔(o = "down"/\q.p=0):=⟨λ⟨a,b⟩=>⟨a,by lia⟩,λ⟨a,b⟩=>⟨a,by lia⟩⟩
 have ew:wo o q=if o = "up"/\q.s=0 then("sacks" : Str) else if o = "down"/\q.p=0 then("puffs" : Str) else if o = "up"/\q.z=5 then("high" : Str) else if o = "down"/\q.z=0 then("low" : Str) else("" : Str):=by
  unfold wo;simp only[sE,pE]
 unfold wh
 by_cases g1:o = "up"/\q.s=0
 ·rw[if_pos g1] at ew
  rw[ew,if_neg (by decide)];exact bQ ((cz _ c1 g1).trans rfl)
 ·rw[if_neg g1] at ew
  refine(au ((b_ _ c1 g1).trans rfl)).trans ?_
  by_cases g2:o = "down"/\q.p=0
  ·rw[if_pos g2] at ew
   rw[ew,if_neg (by decide)];exact bQ ((cz _ c2 g2).trans rfl)
  ·rw[if_neg g2] at ew
   refine(au ((b_ _ c2 g2).trans rfl)).trans ?_
   by_cases g3:o = "up"/\q.z=5
   ·rw[if_pos g3] at ew
    rw[ew,if_neg (by decide)];exact bQ ((cz _ c3 g3).trans rfl)
   ·rw[if_neg g3] at ew
    refine(au ((b_ _ c3 g3).trans rfl)).trans ?_
    by_cases g4:o = "down"/\q.z=0
    ·rw[if_pos g4] at ew
     rw[ew,if_neg (by decide)];exact bQ ((cz _ c4 g4).trans rfl)
    ·rw[if_neg g4] at ew
     refine(au ((b_ _ c4 g4).trans rfl)).trans ?_;rw[if_pos ew];refine cZ (aW (ds:=[skD k,.int (h+1),stD (bo k h q o)]) (aJ rfl (aJ rfl (aJ (x:=stD (bo k h q o)) ?_ rfl))) (w9 k.hs k.cs k.ws k.ss kk.hl kk.hk kk.sl (h+1) (bo k h q o)));rw[<-yF k h q o ho hq ew];exact aW (ds:=[skD k,.int h,stD q,.str o]) rfl (tY k (by have:=kk.wl;lia) h q o ho)
theorem um{k:Sk}{h:Int}{q:Stt}{o:Str}(ho:o∈can k h q):isO o/\wo o q = "":=by
 obtain⟨h1,h2⟩:=Ze.mp ho;refine⟨by simpa using h1,?_⟩;have h3:wh k h q o = "":=by simpa using h2
 unfold wh at h3
 by_cases g:wo o q = ""
 ·exact g
 ·rw[if_neg g] at h3;exact h3
theorem Ai(k:Sk)(kk:SkW k):dN [skD k]=some (skD k):=by
 have hl:=kk.hl;have cl:=kk.cl;have wl:=kk.wl;have sl:=kk.sl;refine bp rfl ?_;unfold jU;refine cZ (iu (aJ (x:=.lst (hL k.hs)) (cM ?_) (aJ (x:=.lst (iL k.cs)) (cM ?_) (aJ (x:=.lst (wL k.ws)) (cM ?_) (aJ (x:=.lst (shL k.ss)) (cM ?_) rfl)))) (show 4<=1000 by decide))<;>rfl
end Fl
namespace Dn
open PySem PySem.Spec PyProof.Rows L2
theorem mV:∀bs:List Bool,(QE bs.length).any (λi=>(bs[i]?).getD true)=bs.any id
 |[]=>rfl
 |b::bs=>by
  rw[QA,Kk,Zy,List.any_map,Zy,<-mV bs];rfl
section
variable{X:Cx}
def xX:List D->Option D
 |[.lst ds]=>(gH ds).bind λbs=>some (.bl (bs.any id))
 |_=>none
theorem CH(hc:X.calm=true):kU X (.builtin "any") xX:=by
 refine⟨λxs H Q=>∃(l:Addr) (bs:List Bool),xs=[.ref l]/\SqL X.K H l (bs.map V.bl)/\Q (.bl (bs.any id)) H,λpins s σ H xs us Q I rv h=>?_,λG H vs ds d Q gh hd e q=>?_⟩
 ·obtain⟨l,bs,rfl,hq,q⟩:=h
  obtain⟨u,rfl,ru⟩:=rv.one;cases ru;obtain⟨its,rr,pl,hz⟩:=I.list hq;have ei:=lJ rr;subst ei;have hl:=pl.isList;have lt:l<s.heap.objs.size:=let⟨_,there,_⟩:=hl;Qz there;apply call_any_walk;apply Km hl;refine⟨s.heap.objs.size,_,_,_,_,_,λi=>(bs[i]?).getD true,rfl,Walks.list (A:=X.A.in1) (I.ok.hd hc) _ l (QQ lt) _,⟨⟨_,QF _ rfl,rfl,rfl⟩,hl.push _⟩,λi v t Q' E' hv hQ=>?_,λg tk kept=>?_⟩
  ·have hv':(bs.map Z1)[i]?=some v:=by simpa using hv
   rw[Qx] at hv';obtain⟨k,ek,rfl⟩:=a_ hv';have hQ2:Q' k t:=by simpa[ek] using hQ
   exact JN hQ2
  ·refine⟨.bl (bs.any id),H,I.kept (t':=tk) λb o e=>kept b o (λz=>?_) (Qh _ e),?_,q⟩
   ·rw[Qt.mp z] at e
    exact absurd (Qz e) (Ja _)
   ·have hn:(bs.map Z1).toArray.size=bs.length:=by simp
    rw[hn,mV];rfl
 ·unfold xX at e
  split at e
  ·obtain⟨bs,eb,e⟩:=ai e
   cases e
   cases hd with | cons h1 h2=>
    cases h2;obtain⟨l,xs,rfl,h3,h4⟩:=h1.lstV;have:=nq h4 eb;subst this;exact⟨l,bs,rfl,gh.seq h3,q _ G H (.refl gh) (.bl _)⟩
  ·cases e
end
def Itw(K:Qe)(a:Addr)(n:Nat):It:=
 ⟨λi H=>i<n/\∃xs x,SqL K H a xs/\xs[n-1-i]?=some x,λi H x H'=>H'=H/\∀xs,SqL K H a xs->xs[n-1-i]?=some x,λi _=>n<=i⟩
theorem uT{P:QJ}{w:QL}{K:Qe}{tg:Expr}(a it:Addr)(n:Nat):Turn P w K tg (Itw K a n) [it] it (λi h=>i<=n/\h.IsRevIter it a ((n:Int)-1-(i:Nat))) where
 mem:=by simp
 obj:=λi h st b hb=>by
  have e:b=it:=by simpa using hb
  subst e;obtain⟨_,o,e,_,d⟩:=st;exact⟨o,e,λv z=>by rw[d] at z;cases z⟩
 keep:=λi h h' st k=>⟨st.1,st.2.at λo e=>k it (by simp) o e⟩
 item:=by
  intro X hP hw hK hc i pins s σ H E I hf st hg;subst hP hw hK;obtain⟨hi,xs,x,hq,hx⟩:=hg;obtain⟨its,rv,p,hz⟩:=I.list hq;obtain⟨u,hu,ru⟩:=rv.get hx;obtain⟨f0,f1,f2,f3,f4,f5⟩:=hf it (by simp);have st2:=st.2;rw[show(n:Int)-1-(i:Nat)=((n-1-i:Nat):Int) by lia] at st2;refine wpAny_pyNext_rev_item st2 p.isList (x:=u) (by simpa using hu) λh' st' sb=>?_;have I1:Inv X pins σ H { s with heap:=h' }:=I.turned (t':=s.toks) (λb o hb e=>(sb.2 b hb).trans e) f0 f1 f3 f4 f5;obtain⟨o,e,c,d⟩:=id st';rw[show((n-1-i:Nat):Int)-1=(n:Int)-1-((i+1:Nat):Int) by lia] at st';exact⟨u,rfl,uF (s:={ s with heap:=h' }) e c d (by decide) ⟨x,H,I1,ru,⟨rfl,λys hy=>by rw[I.list_inj hy hq];exact hx⟩,⟨hi,st'⟩,λb hb=>(hf b hb).1⟩⟩
 done:=by
  intro X hP hw hK hc i pins s σ H E I hf st hg;subst hP hw hK;obtain⟨f0,f1,f2,f3,f4,f5⟩:=hf it (by simp);have hn:n<=i:=hg;have st2:=st.2;have h1:=st.1;rw[show(n:Int)-1-(i:Nat)=-1 by lia] at st2;exact wpAny_pyNext_rev_end (I.ok.hd hc) st2 λh' eb=>⟨rfl,I.turned (t':=s.toks) (λb o hb e=>eb b o hb e) f0 f1 f3 f4 f5⟩
 self:=λ_ _ _ _ _ st h=>wpAny_pyIter_revIter st.2 h
section
variable{X:Cx}{a tg:Expr}{pos:Pos}{fa:Ev->Option D}
def CJ(K:Qe)(ta:TA):TI:=λσ H R=>ta σ H λvs H1=>∃l xs,vs=[.ref l]/\SqL K H1 l xs/\R (Itw K l xs.length) H1
theorem Bi{p:Pos}{ta:TA}(hg:Gl X "reversed")(hm:X.mg "reversed" = none)(ha:PA X [a] ta)(hs:Qy [a] X.env=[(false,eval a X.env)]:=by rfl) :
  PI X tg (.Call (.Name "reversed" p) [a] [] pos) (CJ X.K ta):=by
 intro pins s σ H R I h;refine Call_ (iT I hg hm boot_reversed (ZN (thn (ha pos pins s σ H _ I h) λus s1 ⟨vs,H1,I1,r1,q1⟩=>?_) hs rfl));obtain⟨l,xs,e,q1,q⟩:=q1;subst e
 cases r1 with | cons r rr=>
  cases rr;cases r;obtain⟨its,rv,pl,hz⟩:=I1.list q1;have hn:=rv.length;refine call_reversed_list pl.isList ?_;have e0:((its.toArray.size:Nat):Int)-1=(xs.length:Int)-1-((0:Nat):Int):=by simp;lia
  have stn:(s1.heap.push (revObj l (((its.toArray.size:Nat):Int)-1))).IsRevIter s1.heap.objs.size l ((xs.length:Int)-1-((0:Nat):Int)):=by
   rw[<-e0];exact⟨_,QF _ rfl,rfl,rfl⟩
  refine wpAny_pyIter_revIter (s:={ s1 with heap:=s1.heap.push (revObj l (((its.toArray.size:Nat):Int)-1)) }) stn ?_;refine⟨s1.heap.objs.size,[s1.heap.objs.size],_,_,H1,rfl,I1.kept (t':=s1.toks) λb o e=>Qh _ e,uT l _ xs.length,⟨QN _,stn⟩,λb hb=>?_,q⟩;rw[Qt.mp hb];exact I1.fpOk (Qf _) (I1.hok.fresh (Qf _))
def ua(f:Ev->Option D):Ev->Option (List D):=λε=>match f ε with | some (.lst ds)=>some ds.reverse | _=>none
theorem zB{p:Pos}(h:DE X a fa)(hm:X.mg "reversed" = none)(hg:Gl X "reversed":=by rfl)(hs:Qy [a] X.env=[(false,eval a X.env)]:=by rfl):DI X tg (.Call (.Name "reversed" p) [a] [] pos) (ua fa):=by
 obtain⟨t,a1,a2⟩:=h;refine⟨_,Bi hg hm (bR a1 cR hs) hs,λHe G H σ ε ds R gh E ef q=>?_⟩;unfold ua at ef;split at ef
 ·rename_i ds' e1
  cases ef;refine a2 He G H σ ε _ _ gh E e1 λv G1 H1 g1 d1=>?_;obtain⟨l,xs,rfl,w1,w2⟩:=d1.lstV;have n1:=w2.length;refine⟨l,xs,rfl,g1.gh.seq w1,q _ G1 H1 g1 λi H2 s2=>⟨λhi=>?_,λhi=>?_,?_⟩⟩
  ·rw[ZE] at hi
   exact⟨by lia,xs,xs[xs.length-1-i]'(by lia),s2.seq w1,by simp⟩
  ·rw[ZE] at hi
   show xs.length<=i
   lia
  ·rintro x H3 ⟨rfl,y⟩ d ed G2 s3 s4
   have hi:i<ds'.length:=by have:=(Qk.mp ed).1;simpa using this
   rw[Kt hi,<-n1] at ed;obtain⟨x',e3,e4⟩:=w2.get ed;have:=y xs (s2.seq w1);rw[e3] at this;cases this;exact⟨G2,.refl s4,e4.mono s3⟩
 ·cases ef
end
section
variable{X:Cx}{a k:Expr}{pos p2:Pos}{fa:Ev->Option D}{fk:Ev->Option (Option Int)}
theorem pT:∀{xs:List V} {us:List Qb},a9 xs us->a9 xs.reverse us.reverse
 |_,_,.nil=>.nil
 |_,_,.cons r rs=>by
  simp only[List.reverse_cons];exact(pT rs).append (.cons r .nil)
theorem tO{K:Qe}{G:Hp}:∀{xs:List V} {ds:List D},DenL K G xs ds->DenL K G xs.reverse ds.reverse
 |_,_,.nil=>.nil
 |_,_,.cons r rs=>by
  simp only[List.reverse_cons];exact(tO rs).append (.cons r .nil)
theorem zD{te:TE}{tk:TO}(he:PE X a te)(hk:PO X (some k) tk):PE X (.Subscript a (.Slice none none (some k) p2) pos) (λσ H Q=>te σ H λx H1=>tk σ H1 λj H2=>j=some (-1)/\∃l xs,x=.ref l/\SqL X.K H2 l xs/\∀p,H2 p=none->Q (.ref p) (upd H2 p (.lst xs.reverse))):=by
 intro pins s σ H Q I h;refine Subscript_ (thn (he pins s σ H _ I h) λv s1 ⟨x,H1,I1,r1,q1⟩=>?_);refine wpAny_Slice ?_;rw[evalPart_none];refine Qd ?_;refine Qd ?_;refine thn (hk pins s1 σ H1 _ I1 q1) λvk s3 ⟨j,H3,I3,pk,q3⟩=>?_;obtain⟨ej,l,xs,rfl,hx,q⟩:=q3;subst ej;cases r1;have I4:Inv X pins σ H3 { s3 with heap:=s3.heap.push { cls:=.type "slice",data:=.fields #[.none,.none,vk] } }:=I3.kept (t':=s3.toks) λb ob q=>Qh _ q;obtain⟨its,r,ht,hz⟩:=I4.list hx;have hlen:=r.length;refine tail_any (T:="list") ht.isList.typeIs slot_list_getitem.lookup ?_ (by with_unfolding_all rfl);refine wpAny_getItem_list_slice ht.isList (Heap.IsSliceOf.new ..) .none .none pk (by decide) ?_ (by rw[QR]<;>lia);rw[PySem.W.krv_pick];refine⟨.ref (s3.heap.push { cls:=.type "slice",data:=.fields #[.none,.none,vk] }).objs.size,_,I4.laid (t':=s3.toks) (o:=.lst xs.reverse) (λb ob q=>Qh _ q) (Qf _) ?_,rfl,q _ (I4.hok.fresh (Qf _))⟩;exact⟨by rw[ZE];exact hz,_,0,pT r,QF _ rfl⟩
def BU(fa:Ev->Option D)(fk:Ev->Option (Option Int)):Ev->Option (List D):=λε=>(fa ε).bind λx=>(fk ε).bind λj=>match x with | .lst xs=>if j=some (-1) then some xs.reverse else none | _=>none
theorem Bm(ha:DB X a fa)(hk:DO X (some k) fk):DF X (.Subscript a (.Slice none none (some k) p2) pos) (BU fa fk):=by
 obtain⟨ta,a1,a2⟩:=ha;obtain⟨tl,b1,b2⟩:=hk;refine⟨_,zD a1 b1,λHe G H σ ε ds Q gh E ef q=>?_⟩;obtain⟨x,e1,ef⟩:=ai ef;obtain⟨j,e2,ef⟩:=ai ef;refine a2 He G H σ ε x _ gh E e1 λv G1 H1 g1 d1=>?_;refine b2 He G1 H1 σ ε j _ g1.gh (E.grow g1) e2 λG2 H2 g2=>?_;split at ef
 ·split at ef
  ·rename_i ej
   cases ef;obtain⟨p,xs,rfl,h1,h2⟩:=(d1.grow g2).lst g2.gh;refine⟨ej,p,xs,rfl,h1,λp' hp=>?_⟩;have g:=g1.trans g2;exact q p' _ G2 _ (g.trans (.lay _ g2.gh hp)) (g.hh.free hp) (g2.gnone hp) aG (tO h2)
  ·cases ef
 ·cases ef
end
open PySem.W
section tree
variable{α β:Type}
end tree
structure Pm(n:Nat)(p:Array Nat):Prop where
 sz:p.size=n
 pm:p.toList.Perm (QE n)
theorem Pm.lt{n:Nat}{p:Array Nat}(h:Pm n p){i:Nat}(hi:i<n):p.getD i 0<n:=by
 have h1:i<p.size:=by rw[h.sz];exact hi
 have e:p.getD i 0=p[i]:=by simp[Array.getD,h1]
 rw[e];have:p[i]∈p.toList:=by simp
 exact Q7.mp (h.pm.mem_iff.mp this)
theorem Pm.start(n:Nat):Pm n (Jk (QE n)):=⟨by simp,by simp⟩
theorem Pm.mir{n:Nat}{p:Array Nat}(h:Pm n p)(i j:Nat):Pm n (kas_rev p i j):=
 ⟨(mirror_size _ _ _ _).trans h.sz,(ZY.mp (mirror_perm _ _ _ _)).trans h.pm⟩
theorem Pm.bub{n:Nat}{p:Array Nat}(h:Pm n p)(k d:Nat):Pm n (bubble p k d):=
 ⟨(bubble_size _ _ _).trans h.sz,(ZY.mp (bubble_perm _ _ _)).trans h.pm⟩
structure Ord(n:Nat)(lt:Nat->Nat->Bool):Prop where
 as:∀x y,lt x y=true->lt y x=false
 tr:∀x y z,lt y x=false->lt z y=false->lt z x=false
section
variable{n:Nat}{lt:Nat->Nat->Bool}
theorem Ord.rf(O:Ord n lt)(x:Nat):lt x x=false:=by
 cases e:lt x x with
 |false=>rfl
 |true=>exact(O.as _ _ e).symm.trans e |>.symm▸rfl
def Up(lt:Nat->Nat->Bool)(p:Array Nat)(m:Nat):Prop:=∀i j,i<=j->j<m->lt (p.getD j 0) (p.getD i 0)=false
theorem Up.one(O:Ord n lt)(p:Array Nat):Up lt p 1:=λi j h1 h2=>by
 have:i=j:=by lia
 subst this;exact O.rf _
theorem Up.more(O:Ord n lt){p:Array Nat}{m:Nat}(h:Up lt p m)(hm:1<=m)(e:lt (p.getD m 0) (p.getD (m-1) 0)=false):Up lt p (m+1):=λi j h1 h2=>by
 by_cases hj:j<m
 ·exact h i j h1 hj
 ·have:j=m:=by lia
  subst this
  by_cases hi:i=j
  ·subst hi;exact O.rf _
  ·exact O.tr _ _ _ (h i (j-1) (by lia) (by lia)) e
end
def Kp(h g:Heap):Prop:=∀b o,h.get? b=some o->g.get? b=some o
def stA(h:Heap)(vs:List Qb):Heap:=(((h.push (seqObj "list" #[] 0)).update h.objs.size (Ke λx=>x++vs.toArray)).push (seqObj "list" vs.toArray 0))
def stB(h:Heap)(vs:List Qb):Heap:=((((stA h vs).update (h.objs.size+1) (Ke λ_=>#[])).push (seqObj "tuple" vs.toArray 0)).push (seqObj "list" #[] 0))
theorem qr(h:Heap)(vs:List Qb):((h.push (seqObj "list" #[] 0)).update h.objs.size (Ke λx=>x++vs.toArray)).objs.size=h.objs.size+1:=(Heap.size_update ..).trans (size_push' ..)
theorem og(h:Heap)(vs:List Qb):(stA h vs).get? (h.objs.size+1)=some (seqObj "list" vs.toArray 0):=by
 unfold stA;rw[<-qr h vs];exact QF _ rfl
theorem DR(h:Heap)(vs:List Qb):Kp h (stA h vs):=λb o e=>by
 have lt:=Qz e;unfold stA;refine Qh _ ?_;rw[KL _ _ _ _ (QQ lt)];exact Qh _ e
theorem yK(h:Heap)(vs:List Qb):Kp h (stB h vs):=λb o e=>by
 unfold stB;refine Qh _ (Qh _ ?_);rw[KL _ _ _ _ (QQ (Nat.lt_succ_of_lt (Qz e)))];exact DR h vs b o e
theorem Ew(h:Heap)(vs:List Qb):∃c,((stA h vs).update (h.objs.size+1) (Ke λ_=>#[])).get? (h.objs.size+1)=some (seqObj "list" #[] c)/\(stB h vs).get? (h.objs.size+1)=some (seqObj "list" #[] c):=by
 have e:=get?_update_seq (og h vs) λ_=>#[];exact⟨_,e,Qh _ (Qh _ e)⟩
abbrev lxL:=HT.BP
theorem sF(x y:Int)(xs ys:List Int):lxL (x::xs) (y::ys)=if x=y then lxL xs ys else decide (x<y):=rfl
theorem p8:∀x y:List Int,lxL x y=true->lxL y x=false
 |[],[],h=>rfl
 |[],_::_,_=>rfl
 |_::_,[],h=>by cases h
 |a::x,b::y,h=>by
  rw[sF] at h ⊢
  by_cases e:a=b
  ·subst e;rw[if_pos rfl] at h ⊢;exact p8 x y h
  ·rw[if_neg e] at h;rw[if_neg (Ne.symm e)]
   have:=of_decide_eq_true h;exact decide_eq_false (by lia)
theorem uy:∀x y z:List Int,lxL y x=false->lxL z y=false->lxL z x=false
 |x,[],[],h1,h2=>h1
 |[],[],_::_,h1,h2=>rfl
 |_::_,[],_::_,h1,h2=>by cases h1
 |x,_::_,[],h1,h2=>by cases h2
 |[],_::_,_::_,h1,h2=>rfl
 |a::x,b::y,c::z,h1,h2=>by
  rw[sF] at h1 h2 ⊢
  by_cases e1:b=a
  ·subst e1
   rw[if_pos rfl] at h1
   by_cases e2:c=b
   ·subst e2
    rw[if_pos rfl] at h2 ⊢;exact uy x y z h1 h2
   ·rw[if_neg e2] at h2 ⊢;exact h2
  ·rw[if_neg e1] at h1
   have k1:=of_decide_eq_false h1
   by_cases e2:c=b
   ·subst e2
    rw[if_neg e1];exact h1
   ·rw[if_neg e2] at h2
    have k2:=of_decide_eq_false h2;rw[if_neg (by lia)];exact decide_eq_false (by lia)
theorem Cw:∀x y:List Int,lxL x y=false->lxL y x=false->x=y
 |[],[],_,_=>rfl
 |[],_::_,no,_=>by cases no
 |_::_,[],_,no=>by cases no
 |a::x,b::y,h1,h2=>by
  rw[sF] at h1 h2
  by_cases e:a=b
  ·subst e
   rw[if_pos rfl] at h1 h2;rw[Cw x y h1 h2]
  ·rw[if_neg e] at h1
   rw[if_neg (Ne.symm e)] at h2;have k1:=of_decide_eq_false h1;have k2:=of_decide_eq_false h2
   lia
theorem Cv(x:List Int):lxL x x=false:=by
 cases e:lxL x x with
 |false=>rfl
 |true=>exact(p8 x x e).symm.trans e |>.symm
def sr(a:List Int):List (List Int)->List (List Int)
 |[]=>[a]
 |b::r=>if lxL b a=true then b::sr a r else a::b::r
def eB:List (List Int)->List (List Int)
 |[]=>[]
 |a::r=>sr a (eB r)
def UpT(l:List (List Int)):Prop:=l.Pairwise λx y=>lxL y x=false
theorem jK(a:List Int):∀l:List (List Int),(sr a l).Perm (a::l)
 |[]=>.refl _
 |b::r=>by
  unfold sr;split
  ·exact((jK a r).cons b).trans (.swap _ _ _)
  ·exact .refl _
theorem bO:∀l:List (List Int),(eB l).Perm l
 |[]=>.refl _
 |a::r=>(jK a (eB r)).trans ((bO r).cons a)
theorem sQ(a:List Int):∀l:List (List Int),UpT l->UpT (sr a l)
 |[],_=>by simp[sr,UpT]
 |b::r,h=>by
  have⟨h1,h2⟩:=Za.mp h;unfold sr;split
  ·rename_i g
   refine Za.mpr ⟨λc hc=>?_,sQ a r h2⟩;rcases Qn.mp ((jK a r).mem_iff.mp hc) with rfl | hc
   ·exact p8 _ _ g
   ·exact h1 c hc
  ·rename_i g
   have g':lxL b a=false:=by simpa using g
   refine Za.mpr ⟨λc hc=>?_,h⟩;rcases Qn.mp hc with rfl | ht
   ·exact g'
   ·exact uy _ _ _ g' (h1 c ht)
theorem kI:∀l:List (List Int),UpT (eB l)
 |[]=>.nil
 |a::r=>sQ a _ (kI r)
theorem lQ:∀{l m:List (List Int)},UpT l->UpT m->l.Perm m->l=m
 |[],m,_,_,p=>(List.Perm.nil_eq p)
 |a::l,[],_,_,p=>absurd p.length_eq (by simp)
 |a::l,b::m,h1,h2,p=>by
  obtain⟨a1,a2⟩:=Za.mp h1;obtain⟨b1,b2⟩:=Za.mp h2
  have ab:a=b:=by
   have x1:lxL b a=false:=by
    rcases Qn.mp (p.mem_iff.mpr (Qj (a:=b) (l:=m))) with e | e
    ·rw[e];exact Cv _
    ·exact a1 b e
   have x2:lxL a b=false:=by
    rcases Qn.mp (p.mem_iff.mp (Qj (a:=a) (l:=l))) with e | e
    ·rw[e];exact Cv _
    ·exact b1 a e
   exact Cw _ _ x2 x1
  subst ab;rw[lQ a2 b2 (List.perm_cons a |>.mp p)]
theorem yP{ts:List (List Int)}{p:Array Nat}(hp:Pm ts.length p)(up:Up (λi j=>lxL (ts.getD i []) (ts.getD j [])) p ts.length):p.toList.map (λi=>ts.getD i [])=eB ts:=by
 have e0:(QE ts.length).map (λi=>ts.getD i [])=ts:=by
  refine List.ext_getElem (by simp) λi h1 h2=>?_;simp[h2]
 refine lQ ?_ (kI ts) (((hp.pm.map _).trans (.of_eq e0)).trans (bO ts).symm);unfold UpT;rw[Kn,Zl];intro i j hi hj hij;have hi':i<p.size:=by simpa using hi
 have hj':j<p.size:=by simpa using hj
 have:=up i j (Jr hij) (by rw[<-hp.sz];exact hj');simpa[Array.getD,hi',hj'] using this
def rh(fin:Bool):List Int->List Int->Bool
 |x::xs,y::ys=>if x=y then rh fin xs ys else decide (x<y)
 |_,_=>fin
theorem nX:∀xs ys:List Int,rh (decide (xs.length<ys.length)) xs ys=lxL xs ys
 |[],[]=>rfl
 |[],_::_=>rfl
 |_::_,[]=>rfl
 |x::xs,y::ys=>by
  rw[sF];unfold rh;have:decide ((x::xs).length<(y::ys).length)=decide (xs.length<ys.length):=by simp
  rw[this,nX xs ys]
section
variable{prog:QJ}{w:QL}{A:QU}{E:Qb->Qc->Prop}{s:Qc}
theorem AS(b:Bool){x y:Int}{t u:Tok}{Q:Bool->Qc->Prop}(h:Q (decide (x<y)) s):Qm (Qo prog w) A (oneLt' b (.int x t) (.int y u)) Q E s:=by
 cases b with
 |true=>exact oneLt_int h
 |false=>exact kat_one _ _ (PyProof.Rows.lt_int h)
theorem kW{b fin:Bool}{Q:Bool->Qc->Prop}:∀{xs ys:List Qb} {ns ms:List Int} (i:Nat),JP xs ns->JP ys ms->Q (rh fin ns ms) s->KatLex prog w A b fin Q (xs.zip ys) i s
 |_,_,_,_,_,.nil,_,h=>by
  rw[List.zip_nil_left];exact kat_nil (by simpa[rh] using h)
 |_,_,_,_,_,.cons _ _ _,.nil,h=>by
  rw[List.zip_nil_right];exact kat_nil (by simpa[rh] using h)
 |_,_,_,_,i,.cons n t hx,.cons m u hy,h=>by
  rw[List.zip_cons_cons];unfold rh at h;refine kat_cons (wpAny_eqBool_int ?_)
  by_cases e:n=m
  ·rw[if_pos e] at h
   rw[beq_iff_eq.mpr e];exact kat_yes (kW (i+1) hx hy h)
  ·rw[if_neg e] at h
   rw[beq_eq_false_iff_ne.mpr e];exact kat_no (AS _ h)
end
def dW(ns:List Int):D:=.tup (ns.map D.int)
def jC:List D->Option (List (List Int))
 |[]=>some []
 |.tup ds::r=>(cg ds).bind λns=>if ns=[] then none else(jC r).bind λt=>some (ns::t)
 |_=>none
theorem k6:∀{ds:List D} {ns:List Int},cg ds=some ns->ds=ns.map D.int
 |[],ns,e=>by cases e;rfl
 |d::ds,ns,e=>by
  unfold cg at e;split at e
  ·rename_i h;cases h
  ·rename_i i r h
   cases h;obtain⟨t,e1,e2⟩:=ai e;cases e2;rw[k6 e1];rfl
  ·cases e
theorem lG:∀{ds:List D} {ts:List (List Int)},jC ds=some ts->ds=ts.map dW/\∀t∈ts,t≠[]
 |[],ts,e=>by cases e;exact⟨rfl,λt h=>by cases h⟩
 |d::ds,ts,e=>by
  unfold jC at e;split at e
  ·rename_i h;cases h
  ·rename_i es r h
   cases h;obtain⟨ns,e1,e⟩:=ai e;split at e
   ·cases e
   ·rename_i hne
    obtain⟨t,e2,e3⟩:=ai e;cases e3;obtain⟨h1,h2⟩:=lG e2;have:=k6 e1;subst this;refine⟨by rw[h1];rfl,λt ht=>?_⟩;rcases Qn.mp ht with rfl | ht
    ·exact hne
    ·exact h2 t ht
  ·cases e
theorem ir:∀ns:List Int,cg (ns.map D.int)=some ns
 |[]=>rfl
 |n::r=>by
  show(cg (r.map D.int)).bind _=_;rw[ir r];rfl
theorem mI:∀{ts:List (List Int)},(∀t∈ts,t≠[])->jC (ts.map dW)=some ts
 |[],_=>rfl
 |t::r,h=>by
  show(cg (t.map D.int)).bind _=_;rw[ir t];show(if t=[] then none else _)=_;rw[if_neg (h t (Qj ..)),mI λu hu=>h u (Qg _ hu)];rfl
section
variable{X:Cx}{a:Expr}{pos:Pos}{fa:Ev->Option D}
theorem bY{α:Type}{l:List α}{i:Nat}(d:α)(h:i<l.length):l[i]?=some (l.getD i d):=by simp[h]
end
end Dn
namespace RW2
open PySem PyProof.Rows PySem.W
section
variable{prog:QJ}{w:QL}{A:QU}{E:Qb->Qc->Prop}{s:Qc}
def j_(h:Heap)(d:Addr)(es:Array Zi)(ep:Nat):Prop:=∃o,h.get? d=some o/\o.ExactDict/\o.data=.dict es ep
theorem j_.at{h h':Heap}{d:Addr}{es:Array Zi}{ep:Nat}(x:j_ h d es ep)(k:∀o,h.get? d=some o->h'.get? d=some o):j_ h' d es ep:=let⟨o,a,b⟩:=x;⟨o,k o a,b⟩
theorem j_.ty{d:Addr}{es:Array Zi}{ep:Nat}(x:j_ s.heap d es ep):s.TypeIs (.ref d) "dict":=let⟨o,a,b,_⟩:=x;⟨o,a,b.1⟩
theorem j_.lt{h:Heap}{d:Addr}{es:Array Zi}{ep:Nat}(x:j_ h d es ep):d<h.objs.size:=let⟨_,a,_⟩:=x;Qz a
theorem vG{d:Addr}{es:Array Zi}{ep:Nat}{Q:Qb->Qc->Prop}(nm:(d==JM)=false)(x:j_ s.heap d es ep)
  (q:Q (.ref s.heap.objs.size) { s with heap:=s.heap.push { cls:=.type "dict_keyiterator",data:=.fields #[.ref d,.int 0 0,.int es.size 0,.int ep 0] } }):Qm (Qo prog w) A (pyIter (.ref d)) Q E s:=by
 have ty:=x.ty;obtain⟨o,w1,w2,w3⟩:=x;refine wpAny_pyIter_slot ty PySem.F.slot_dict_iter (J9 PySem.F.slot_dict_iter ty PySem.F.entry_dict_iter ?_ (PySem.F.args_dict_iter_1 _));unfold ZU.«dict.__iter__» Builtin.Dict.dictSlotNone;refine Qa (Qa (wpAny_notOrdered_dict ty (show Qm _ _ (pure (QI d)) _ _ s from Qd ?_)));show Qm _ _ (Builtin.Dict.showsAll d>>=λ_=>_) _ _ s;unfold Builtin.Dict.showsAll;rw[if_neg (by rw[nm];exact Ql)];refine Qa (Qd (Qa (wpAny_dictEntries w1 w3 (Qa (wpAny_dictEpoch w1 w3 (Qa (Jd (Qd ⟨_,rfl,"dict_keyiterator",_,⟨_,QF _ rfl,rfl⟩,PySem.F.slot_dict_keyiterator_next.lookup,?_⟩))))))));simpa[rawInt] using q
theorem nG{it d:Addr}{i ep:Nat}{es:Array Zi}{Q:Option Qb->Qc->Prop}(hh:A.handled=none)(hit:s.heap.IsKeyIter it d i es.size ep)(x:j_ s.heap d es ep)
  (some_:∀(lt:i<es.size) h',h'.IsKeyIter it d (i+1) es.size ep->Zn it s.heap h'->Q (some es[i].key) { s with heap:=h' })
  (none_:es.size<=i->∀h',Heap.ExtBut it s.heap h'->Q none { s with heap:=h' }):Qm (Qo prog w) A (pyNext (.ref it)) Q E s:=by
 obtain⟨o,w1,w2,w3⟩:=id hit;obtain⟨od,v1,v2,v3⟩:=id x;unfold pyNext;refine Qa (wpAny_attempt (Ka (name:=Zs "__next__") hit.typeIs PySem.F.slot_dict_keyiterator_next (J9 PySem.F.slot_dict_keyiterator_next hit.typeIs PySem.F.entry_dict_keyiterator_next ?_ (PySem.F.args_dict_keyiterator_next_1 _))));refine Qa (Qd (Qa (Qa ?_)))
 first | refine Qa (wpAny_typeNameOfWhole_keyiter hit.typeIs (Qd (Qa (wpAny_fieldsOf w1 w3 ?_)))) | refine Qa (wpAny_typeNameOf_keyiter hit.typeIs (Qd (Qa (wpAny_fieldsOf w1 w3 ?_))))
 have own0:Builtin.Dict_items.ownsTuple "dict_keyiterator" = false:=by decide
 simp only[own0,if_false,QK];show Qm _ _ (if(QI d==JH)=true then _ else _) (λ_ _=>_) _ s;rw[if_neg (show ¬ ((QI d==JH)=true) by exact Ql)];refine Qa (Qd (Qa (wpAny_dictEntries v1 v3 ?_)));rw[if_neg (by simp)];refine Qa (Qd (Qa (wpAny_dictEpoch v1 v3 ?_)));rw[if_neg (by simp)];refine Qd ?_
 by_cases lt:i<es.size
 ·simp only[show ¬ ((i:Int)<0) from by lia,if_false,Z0,Array.getElem?_eq_getElem lt]
  refine Qa ?_
  first | refine Qa (wpAny_typeNameOfWhole_keyiter hit.typeIs (Qd (Qa (wpAny_isOneOf_keyiter hit.typeIs ?_)))) | refine Qa (wpAny_typeNameOf_keyiter hit.typeIs (Qd (Qa (wpAny_isOneOf_keyiter hit.typeIs ?_))))
  show Qm _ _ (setField (.ref it) 1 (rawInt ((i:Int)+1))>>=λ_=>_) _ _ s;have on:(s.heap.update it (Obj.mapFields (·.setIfInBounds 1 (rawInt ((i:Int)+1))))).IsKeyIter it d (i+1) es.size ep:=⟨_,JE _ w1 (Obj.isFreed_of_fields (ZQ w3 _)),(Obj.cls_mapFields ..).trans w2,(by rw[ZQ w3];simp[rawInt])⟩;refine Qa (wpAny_setField w1 w3 (by simp) (Qa (Q0 (Qa (wpAny_isOneOf_keyiter (s:={ s with heap:=s.heap.update it (Obj.mapFields (·.setIfInBounds 1 (rawInt ((i:Int)+1)))) }) on.typeIs ?_)))));show Qm _ _ (pure es[i].key) (λ_ _=>_) _ _;exact Qd (Qd ⟨_,rfl,Qd (some_ lt _ on (JC ..))⟩)
 ·have ge:es.size<=i:=Jj lt
  simp only[show ¬ ((i:Int)<0) from by lia,if_false,Z0,Jz ge];have gone:∀{R:Unit->Qc->Prop} {X:Qb->Qc->Prop},R () { s with heap:=s.heap.update it (Obj.mapFields (·.setIfInBounds 0 JH)) }->Qm (Qo prog w) A.in1 (setField (.ref it) 0 .none) R X s:=λr=>wpAny_setField w1 w3 (by simp) r
  first | refine Qa (Qa (wpAny_typeNameOfWhole_keyiter hit.typeIs (Qd (Qa (gone ?_))))) | refine Qa (Qa (wpAny_typeNameOf_keyiter hit.typeIs (Qd (Qa (gone ?_)))))
  show Qm _ _ (newExc (.type "StopIteration") []>>=λ_=>_) _ _ _;refine Qa ?_;simp only[newExc,newTuple];refine Qa (Jd (Qa (m:=firstArgMember _ _) (wpAny_of_eq (a:=JH) (by first | rfl | (simp only[firstArgMember];rfl)) (Jd ?_ (by size_fits)))) (by size_fits));simp only[raiseNew];refine Qa (wpAny_handled ?_);rw[show A.in1.handled=none by exact hh];refine Qa (Qd (wpAny_throw ?_)) |> λz=>z
  refine Qa (wpAny_isInstance (b:=true) (T:="StopIteration") ⟨_,QF _ rfl,rfl⟩ isSubtype_stop ?_);exact Qd (none_ ge _ (((JC ..).extBut.push _).push _))
theorem uW(hh:A.handled=none)(it d:Addr)(ne:d≠it)(es:Array Zi)(ep:Nat) :
  Walks prog w A it [it,d] [it] es.size (λi v=>∃e,es[i]?=some e/\v=e.key) (λi h=>h.IsKeyIter it d i es.size ep/\j_ h d es ep) where
 sub:=λb z=>by rw[Qt.mp z];exact Qj ..
 frame:=λ_ _ _ st k=>⟨st.1.at λo e=>k it (by simp) o e,st.2.at λo e=>k d (by simp) o e⟩
 item:=λi s Q E hi st hQ=>nG hh st.1 st.2 (λlt h' on same=>hQ _ h' s.toks ⟨es[i],by simp[lt],rfl⟩ ⟨on,st.2.at λo e=>same.extBut d o ne e⟩ λb o hb e=>same.extBut b o (λz=>hb (by simp[z])) e) λge=>absurd hi (Nat.not_lt.mpr ge)
 done:=λs Q E st hQ=>nG hh st.1 st.2 (λlt=>absurd lt (Ja _)) λ_ h' ext=>hQ h' s.toks λb o hb e=>ext b o (λz=>hb (by simp[z])) e
 self:=λ_ _ _ _ stt q=>wpAny_pyIter_keyiter stt.1 q
theorem qI(d:Addr)(nm:(d==JM)=false)(es:Array Zi)(ep:Nat):KdlSrc prog w "dict" d d es.size (λi v=>∃e,es[i]?=some e/\v=e.key) (λh=>j_ h d es ep) where
 type:=λ_ x=>x.ty
 there:=λ_ x=>⟨x.lt,x.lt⟩
 keep:=λ_ _ x k=>x.at λo e=>k d (.inl rfl) o e
 notList:=by decide
 notTuple:=by decide
 hint:=λ_ _ _ _ x q=>kdl_hint_dict x.ty q
 iter:=λ_ _ hh x=>⟨_,_,(λ_ _ q=>vG nm x q),uW hh _ d (QQ x.lt) es ep,⟨⟨_,QF _ rfl,rfl,rfl⟩,x.at λo e=>Qh _ e⟩⟩
end
open L2
end RW2
namespace Dn
open PySem PySem.Spec PyProof.Rows L2 PySem.W RW2
def inl(k:List Int):List Key:=k.map Sum.inl
def GZ(p:Addr)(as:List Addr):Heap->Prop:=λh=>(p==JM)=false/\∃es ep,j_ h p es ep/\es.toList.map (·.key)=as.map QI
abbrev Pr:=Int×Int
def ov(p q:Pr):Bool:=decide (p.1>=q.1)&&(decide (p.2>=q.2) && !decide (p=q))
end Dn
namespace Tb
open PySem PySem.Spec PyProof.Rows L2 Dn Fl
def stK(q:Stt):List Int:=[q.x,q.y,q.z,q.s,q.p]
theorem jm{a b:Stt}(h:stK a=stK b):a=b:=by
 obtain⟨a1,a2,a3,a4,a5⟩:=a;obtain⟨b1,b2,b3,b4,b5⟩:=b;simp only[stK,List.cons.injEq,and_true] at h;obtain⟨rfl,rfl,rfl,rfl,rfl⟩:=h;rfl
def prS(q:Stt):Pr:=(q.s,q.p)
abbrev Fm:=List (Stt×List Str)
end Tb
namespace Dn
open PySem PySem.Spec PyProof.Rows L2
section
variable{X:Cx}{a c:Expr}{fa fc:Ev->Option D}{pos:Pos}{st:Stmt}{rest:List Stmt}
def G8(g:Ev->Option Fl)(h:Ev->Option (List (List D))):Ev->Option (List (List D)):=λε=>match g ε with | some (.nx ε')=>h ε' | _=>none
end
def dJ(ε:Ev):Bool:=ε.all λs=>match s with | .own _=>false | .odi _=>false | _=>true
theorem l8{ε:Ev}(h:dJ ε=true){i:Nat}{es:List D}(e:ε[i]?=some (.own es)):False:=by
 have:=Jc.mp h _ (QZ e);cases this
theorem je{ε:Ev}(h:dJ ε=true){i:Nat}{es:List (List Int×D)}(e:ε[i]?=some (.odi es)):False:=by
 have:=Jc.mp h _ (QZ e);cases this
theorem EnvD.over{K:Qe}{He G H G' H':Hp}{σ:L2.St}{ε:Ev}(E:EnvD K He G H σ ε)(no:dJ ε=true)(gg:aI G G'):EnvD K He G' H' σ ε where
 len:=E.len
 dat:=λe=>let⟨v,h1,h2⟩:=E.dat e;⟨v,h1,h2.mono gg⟩
 own:=λe=>(l8 no e).elim
 apart:=E.apart
 odi:=λe=>(je no e).elim
 apartD:=E.apartD
theorem EnvD.drop{K:Qe}{He G H:Hp}{σ:L2.St}{ε:Ev}(E:EnvD K He G H σ ε)(i:Nat)(v:V):EnvD K He G H (σ.set i (some v)) (ε.set i .un) where
 len:=by rw[JS,JS];exact E.len
 dat:=λ{j d} e=>by
  rw[QB] at e ⊢
  by_cases z:i=j
  ·rw[if_pos z] at e;split at e<;>cases e
  ·rw[if_neg z] at e ⊢;exact E.dat e
 own:=λ{j ds} e=>by
  rw[QB] at e ⊢
  by_cases z:i=j
  ·rw[if_pos z] at e;split at e<;>cases e
  ·rw[if_neg z] at e ⊢;exact E.own e
 apart:=λ{j k ds es b} e1 e2 h1 h2=>by
  rw[QB] at e1 e2 h1 h2
  by_cases z:i=j
  ·rw[if_pos z] at e1;split at e1<;>cases e1
  ·by_cases z2:i=k
   ·rw[if_pos z2] at e2;split at e2<;>cases e2
   ·rw[if_neg z] at e1 h1
    rw[if_neg z2] at e2 h2;exact E.apart e1 e2 h1 h2
 odi:=λ{j ds} e=>by
  rw[QB] at e ⊢
  by_cases z:i=j
  ·rw[if_pos z] at e;split at e<;>cases e
  ·rw[if_neg z] at e ⊢;exact E.odi e
 apartD:=λ{j k ds es b} e1 e2 h1 h2=>by
  rw[QB] at e1 e2 h1 h2
  by_cases z:i=j
  ·rw[if_pos z] at e1;split at e1<;>cases e1
  ·by_cases z2:i=k
   ·rw[if_pos z2] at e2;split at e2<;>cases e2
   ·rw[if_neg z] at e1 h1
    rw[if_neg z2] at e2 h2;exact E.apartD e1 e2 h1 h2
theorem uY{ε:Ev}(h:dJ ε=true)(i:Nat):dJ (ε.set i .un)=true:=by
 unfold dJ at h ⊢;rw[Jc] at h ⊢;intro s hs;rcases List.mem_or_eq_of_mem_set hs with z | z
 ·exact h s z
 ·rw[z]
section
variable{X:Cx}{a c:Expr}{fa fc:Ev->Option D}{pos:Pos}{st:Stmt}{rest:List Stmt}
def MD(X:Cx)(ms:List Stmt)(f:Ev->Option Bool):Prop:=∀(rest:List Stmt) (tr:TS),PSs X rest tr->∃t,PSs X (ms++rest) t/\∀(He G H:Hp) (σ:L2.St) (ε:Ev) (W:Ends),aI G H->EnvD X.K He G H σ ε->f ε=some true->
 (∀G' H',Grow G H G' H'->tr W σ H')->t W σ H
def CQ:Ev->Option Bool:=λ_=>some true
def mIf(ft f:Ev->Option Bool):Ev->Option Bool:=λε=>match ft ε with | some false=>f ε | _=>none
theorem D1:MD X [] CQ:=λrest tr h=>⟨tr,h,λHe G H σ ε W gh E e q=>q G H (.refl gh)⟩
theorem Cp{ft f:Ev->Option Bool}{body:List Stmt}{ms:List Stmt}(hc:DT X c ft)(hm:MD X ms f):MD X (.If c body [] pos::ms) (mIf ft f):=λrest tr h=>by
 obtain⟨tc,c1,c2⟩:=hc;obtain⟨t,a1,a2⟩:=hm rest tr h;refine⟨_,gY (wH c1 uZ nR) a1,λHe G H σ ε W gh E e q=>?_⟩;unfold mIf at e;split at e
 ·rename_i e1
  refine c2 He G H σ ε false _ gh E e1 λG1 H1 g1=>?_;rw[if_neg Ql];exact a2 He G1 H1 σ ε W g1.gh (E.grow g1) e λG' H' g=>q G' H' (g1.trans g)
 ·cases e
end
abbrev Es:=List (List Int×D)
def NoX(ε:Ev):Prop:=∀(j:Nat) es,ε[j]?≠some (.odi es)
def pN(g:D->Ev->Option Ev):Prop:=∀d ε ε',g d ε=some ε'->NoX ε->NoX ε'
theorem o9(i:Nat):pN (ak i):=λd ε ε' e h j es q=>by
 cases e;rw[QB] at q;split at q
 ·split at q<;>cases q
 ·exact h j es q
theorem AC(n:Nat)(ix:List Nat)(ε:Ev):NoX (prE n ix ε):=λi es e=>by
 unfold prE at e
 by_cases h:i<n
 ·rw[QT (by simpa using h),Zb,if_pos h] at e
  cases e
 ·rw[QH (by simpa using h),J4,Qx] at e
  obtain⟨j,e1,e2⟩:=a_ e
  revert e2
  cases ε.getD j .un<;>intro z<;>cases z
theorem Grow.sealX{G H G' H':Hp}{a:Addr}{o:HO}(g:Grow G H G' H')(hn:H a=none)(gn:G' a=none)(ha:H' a=some o):Grow G H (upd G' a o) H':=
 ⟨g.hh,λb o e=>by rw[aM (aE (g.gg b o e) gn)];exact g.gg b o e,λb o e=>by
   unfold upd at e
   by_cases z:b=a
   ·rw[if_pos z] at e;cases e;rw[z];exact ha
   ·rw[if_neg z] at e;exact g.gh b o e,λb o e z=>by rw[aM (aE e hn)];exact g.fo b o e z⟩
def Fk(f:Ev->Option Es):Ev->Option D:=λε=>(f ε).map D.dic
theorem DFD.de{X:Cx}{e:Expr}{f:Ev->Option Es}(h:DFD X e f):DE X e (Fk f):=by
 obtain⟨t,h1,h2⟩:=h;refine⟨t,h1,λHe G H σ ε d Q gh E ef q=>?_⟩;obtain⟨es,e1,rfl⟩:=a_ ef
 exact h2 He G H σ ε es Q gh E e1 λp us ep G' H' g hn gn ha nd hd=>
  q _ _ _ (g.sealX hn gn ha) (.dic aG nd (hd.mono λb o e=>by rw[aM (aE e gn)];exact e))
theorem j9{prog:QJ}{w:QL}{A:QU}{E:Qb->Qc->Prop}{s:Qc}{K:Type}[DecidableEq K]{knd:HeapKind prog w K}{d a:Addr}{xs:List (K×Addr×Qb)}{k:K}{v:Qb}{Q:Qb->Qc->Prop}(hu:knd.room A)(hkey:knd.is s.heap k a)(hm:s.heap.DictOfH knd d xs)(hsz:xs.length<=QO)
  (q1:∀p,J6 xs k=some p->Q p.2 { s with toks:=s.toks+knd.draws k })
  (q2:J6 xs k=none->∀h',h'.DictOfH knd d (xs++[(k,a,v)])->Zn d s.heap h'->Q v { s with heap:=h',toks:=s.toks+knd.draws k }) :
  Qm (Qo prog w) A (dictSetDefault d (.ref a) v) Q E s:=by
 obtain⟨o,es,ep,ho,hc,hd,he,his,hn⟩:=hm;unfold dictSetDefault;refine Q0 (Qa (knd.pyHash hu hkey ?_));refine Qa (wpAny_dictFind_heap (s:={ s with toks:=s.toks+knd.draws k }) hu hkey ho hd he his hn (λno=>?_) λj p hj=>?_)
 ·have hnot:k∉xs.map (·.1):=not_mem_keys_of_get no
  refine Qa (wpAny_rule (Qa (wpAny_updateDictKeys (hz:=by have e:=size_of_entries he;lia) (s:={ s with toks:=s.toks+knd.draws k }) ho hd (Qd (q2 (atKey_none_of_get no) _ ⟨_,_,ep+1,JE _ ho (Obj.isFreed_of_dict (Obj.data_mapDictKeys hd _)),hc.mapDictKeys _,Obj.data_mapDictKeys hd _,by simp[he,entryOfKey],λx hx=>?_,?_⟩ (JC ..))))))
  ·rcases QM.mp hx with old | new
   ·exact knd.keeps (his x old) ho hd (JC ..)
   ·rw[Qt.mp new];exact knd.keeps hkey ho hd (JC ..)
  ·rw[Jf,List.nodup_append]
   exact⟨hn,by simp,λx hx y hy=>by rw[Qt.mp hy];exact λ(e:x=k)=>hnot (e▸hx)⟩
 ·refine Qa (wpAny_dictEntries (s:={ s with toks:=s.toks+knd.draws k }) ho hd ?_)
  have e1:es[j]?=some (entryOfKey knd (k,p)):=by rw[entry_at he j,hj];rfl
  rw[e1];exact Qa (wpAny_rule (Qd (q1 p (atKey_of_get hn hj))))
theorem j6{k:List Int}:∀{xs:XsL},k∈xs.map (·.1)->∃p,J6 xs k=some p
 |[],h=>by simp at h
 |x::r,h=>by
  rw[sV]
  by_cases z:x.1=k
  ·exact⟨_,if_pos z⟩
  ·rw[if_neg z]
   rw[Qv,Qn] at h;exact j6 (h.resolve_left λq=>z q.symm)
section
variable{X:Cx}{pins:List (Addr×Obj)}{σ:L2.St}{G H:Hp}{s:Qc}
theorem CZ(I:Inv X pins σ H s)(gh:aI G H){a:Addr}{us:bB}{ep:Nat}(x:DAt a us ep s.heap)(nd:(us.map (·.1)).Nodup)(m:∀u∈us,SqT X.K G u.2.1 (u.1.map V.int)):∃xs:XsL,JU EX us xs/\s.heap.DictOfH (Ti X.prog X.w) a xs:=by
 obtain⟨n,z,o,raw,e,c,dd,p⟩:=x;obtain⟨xs,e1,q⟩:=rN (P:=X.prog) (w:=X.w) p;refine⟨xs,q,o,raw,ep,e,c,dd,e1,λy hy=>?_,by rw[<-fC q];exact nd⟩
 have all:∀{us:bB} {xs:XsL},JU EX us xs->∀y∈xs,∃u∈us,EX u y:=by
  intro us xs q
  induction q with
  |nil=>intro y hy;cases hy
  |cons h t ih=>
   intro y hy;rcases Qn.mp hy with rfl | hy9
   ·exact⟨_,Qj ..,h⟩
   ·obtain⟨u,hu,e⟩:=ih y hy9;exact⟨u,Qg _ hu,e⟩
 obtain⟨u,hu,e2⟩:=all q y hy;rw[<-e2.1,<-e2.2.1];exact ig I gh (m u hu)
end
def rSd(K:Qe):V->List V->Hp->VK->Prop:=λx xs H Q=>∃a us ep b k y G,x=.ref a/\xs=[.ref b,y]/\H a=some (.ext (DAt a us ep))/\aI G H/\SqT K G b (k.map V.int)/\(us.map (·.1)).Nodup/\(∀u∈us,SqT K G u.2.1 (u.1.map V.int))/\us.length<1000000/\(∀b' v,(k,b',v)∈us->Q v H)/\(k∉us.map (·.1)->∀ep',Q y (upd H a (.ext (DAt a (us++[(k,b,y)]) ep'))))
theorem jX{α β:Type}{R:α->β->Prop}{a:α}{b:β}(h:R a b):∀{xs:List α} {ys:List β},JU R xs ys->JU R (xs++[a]) (ys++[b])
 |_,_,.nil=>.cons h .nil
 |_,_,.cons q t=>.cons q (jX h t)
theorem AL{X:Cx}(hu:X.A.units+1<JR):MtM X "dict.setdefault" (rSd X.K):=by
 intro pins s σ H x xs v vs Q I rx rv h;obtain⟨a,us,ep,b,k,y,G,rfl,rfl,ha,gh,hb,nd,m,hz,q1,q2⟩:=h;cases rx;obtain⟨u1,u2,rfl,r1,r2⟩:=rv.two;cases r1;have x0:DAt a us ep s.heap:=(show bL X.prog X.w H s.heap a (.ext (DAt a us ep)) from I.hok a _ ha).1;obtain⟨xs,p,dh⟩:=CZ I gh x0 nd m;have lx:xs.length=us.length:=by simpa using(congrArg List.length (fC p)).symm
 have meets:MeetsIn X.prog X.w (ZU.«dict.setdefault» ⟨[.ref a,.ref b,u2],[]⟩) (λA R s=>(Ti X.prog X.w).room A.in1/\∃xs:XsL,(Ti X.prog X.w).is s.heap k b/\s.heap.DictOfH (Ti X.prog X.w) a xs/\xs.length<=QO/\
   (∀p,J6 xs k=some p->R (.ok (.ret p.2)) { s with toks:=s.toks+(Ti X.prog X.w).draws k })/\
   (J6 xs k=none->∀h',h'.DictOfH (Ti X.prog X.w) a (xs++[(k,b,u2)])->Zn a s.heap h'->R (.ok (.ret u2)) { s with heap:=h',toks:=s.toks+(Ti X.prog X.w).draws k })):=
  .of_wp λA R s ⟨hu,xs,hkey,hm,hsz,h1,h2⟩=>by
   unfold ZU.«dict.setdefault»;refine Qa ?_;unfold Builtin.Dict.keyAndDefault at ⊢;refine Qa (wpAny_notOrdered_dict hm.typeIs (show Qm _ _ (pure (a,QI b,some u2)) _ _ s from Qd ?_));show Qm _ _ (if(a==JM)=true then _ else(dictSetDefault a (.ref b) u2>>=_)) _ _ s;rw[if_neg (by rw[x0.1];exact Ql)];exact Qa (j9 hu hkey hm hsz (λp e=>Qd ⟨_,rfl,h1 p e⟩) λe h' dh' same=>Qd ⟨_,rfl,h2 e h' dh' same⟩)
 refine call_meetsIn PySem.F.slot_dict_setdefault dh.typeIs PySem.F.entry_dict_setdefault (PySem.F.args_dict_setdefault_3 _ _ _) meets ⟨(show X.A.in1.units<JR from hu),xs,ig I gh hb,dh,by rw[lx];exact Jr (Jw hz (by decide)),λz e=>?_,λe h' dh' same=>?_⟩
 ·obtain⟨b',v,h1,h2⟩:=Cq p e
  exact⟨v,H,I.kept (t':=_) λ_ _ e=>e,h2,q1 b' v h1⟩
 ·obtain⟨ep',x'⟩:=yc (us:=us++[(k,b,y)]) dh' (jX ⟨rfl,rfl,r2⟩ p) x0.1 (by rw[Qr];exact hz)
  exact⟨y,_,I.write (t':=_) (by rw[ha];trivial) (.inl rfl) (λb u hb e=>same.extBut b u hb e) (let⟨_,_,o,_,e,_⟩:=x';⟨o,e⟩) (lq x'),r2,q2 (by rw[fC p];exact ui e) ep'⟩
abbrev Ms:=List (List Int×List D)
def jG:Ms->List Int->D->Ms
 |[],k,d=>[(k,[d])]
 |e::r,k,d=>if e.1=k then(e.1,e.2++[d])::r else e::jG r k d
inductive OM(K:Qe)(He G H:Hp):bB->Ms->Prop where
 |nil:OM K He G H [] []
 |cons {k:List Int} {b c:Addr} {xs:List V} {ds:List D} {us:bB} {ms:Ms} (hk:SqT K G b (k.map V.int)) (hl:H c=some (.lst xs)) (gn:G c=none) (hn:He c=none) (hd:DenL K G xs ds) (nc:∀u∈us,u.2.2≠.ref c) (t:OM K He G H us ms):OM K He G H ((k,b,.ref c)::us) ((k,ds)::ms)
section
variable{K:Qe}{He G H:Hp}
theorem OM.grow{G' H':Hp}(g:Grow G H G' H'):∀{us:bB} {ms:Ms},OM K He G H us ms->OM K He G' H' us ms
 |_,_,.nil=>.nil
 |_,_,.cons hk hl gn hn hd nc t=>.cons (aR g.gg hk) (g.hh _ _ hl) (g.fo _ _ hl gn) hn (hd.mono g.gg) nc (t.grow g)
theorem OM.keys:∀{us:bB} {ms:Ms},OM K He G H us ms->us.map (·.1)=ms.map (·.1)
 |_,_,.nil=>rfl
 |_,_,.cons _ _ _ _ _ _ t=>by rw[Qv,Qv,t.keys]
theorem OM.sq:∀{us:bB} {ms:Ms},OM K He G H us ms->∀u∈us,SqT K G u.2.1 (u.1.map V.int)
 |_,_,.nil,_,h=>by cases h
 |_,_,.cons hk _ _ _ _ _ t,u,h=>(Qn.mp h).elim (λe=>by subst e;exact hk) λh=>t.sq u h
theorem OM.there:∀{us:bB} {ms:Ms},OM K He G H us ms->∀u∈us,∃c xs,u.2.2=.ref c/\H c=some (.lst xs)/\G c=none/\He c=none
 |_,_,.nil,_,h=>by cases h
 |_,_,.cons _ hl gn hn _ _ t,u,h=>(Qn.mp h).elim (λe=>by subst e;exact⟨_,_,rfl,hl,gn,hn⟩) λh=>t.there u h
theorem OM.off{c:Addr}{o:HO}:∀{us:bB} {ms:Ms},OM K He G H us ms->(∀u∈us,u.2.2≠.ref c)->OM K He G (upd H c o) us ms
 |_,_,.nil,_=>.nil
 |_,_,.cons hk hl gn hn hd nc t,h=>.cons hk (by rw[aM (λz=>h _ (Qj ..) (by rw[z]))];exact hl) gn hn hd nc (t.off λu hu=>h u (Qg _ hu))
theorem OM.snoc{k:List Int}{b c:Addr}(hk:SqT K G b (k.map V.int))(hl:H c=some (.lst []))(gn:G c=none)(hn:He c=none):∀{us:bB} {ms:Ms},OM K He G H us ms->(∀u∈us,u.2.2≠.ref c)->OM K He G H (us++[(k,b,.ref c)]) (ms++[(k,[])])
 |_,_,.nil,_=>.cons hk hl gn hn .nil (λ_ h=>by cases h) .nil
 |_,_,.cons (c:=c') hk' hl' gn' hn' hd' nc' t,h=>.cons hk' hl' gn' hn' hd' (λu hu=>(QM.mp hu).elim (nc' u) λq=>by
   rw[Qt.mp q];intro z
   exact h _ (Qj ..) (by rw[<-z])) (OM.snoc hk hl gn hn t λu hu=>h u (Qg _ hu))
theorem OM.at{k:List Int}{b:Addr}{v y:V}{d:D}(hy:Den K G y d):∀{us:bB} {ms:Ms},OM K He G H us ms->(us.map (·.1)).Nodup->(k,b,v)∈us->∃c xs ds,v=.ref c/\H c=some (.lst xs)/\xs.length=ds.length/\(k,ds)∈ms/\G c=none/\He c=none/\OM K He G (upd H c (.lst (xs++[y]))) us (jG ms k d)
 |_,_,.nil,_,h=>by cases h
 |_,_,.cons (k:=k') (c:=c') (xs:=xs') (ds:=ds') hk hl gn hn hd nc t,nd,h=>by
  rw[Qv,Ju] at nd;unfold jG;rcases Qn.mp h with e9 | h9
  ·cases e9
   refine⟨c',xs',ds',rfl,hl,hd.length,Qj ..,gn,hn,?_⟩;rw[if_pos rfl];exact .cons hk aG gn hn (hd.append (.one hy)) nc (t.off nc)
  ·have kk:k'≠k:=λz=>nd.1 (by subst z;exact Q2.mpr ⟨_,h9,rfl⟩)
   rw[if_neg kk];obtain⟨c,xs,ds,rfl,h1,h2,h3,h4,h5,h6⟩:=OM.at hy t nd.2 h9;have cc:c'≠c:=λz=>nc _ h9 (by rw[z]);exact⟨c,xs,ds,rfl,h1,h2,Qg _ h3,h4,h5,.cons hk (by rw[aM cc];exact hl) gn hn hd nc h6⟩
theorem qq{k:List Int}{d:D}:∀{ms:Ms},k∉ms.map (·.1)->jG (ms++[(k,[])]) k d=jG ms k d
 |[],_=>by simp[jG]
 |e::r,h=>by
  rw[Qv,Qn,not_or] at h;show(if e.1=k then _ else _)=(if e.1=k then _ else _);rw[if_neg λz=>h.1 z.symm,if_neg λz=>h.1 z.symm];exact congrArg (e :: ·) (qq h.2)
def msD(ms:Ms):Es:=ms.map λe=>(e.1,.lst e.2)
theorem OM.seal{Ge:Hp}:∀{us:bB} {ms:Ms} {G:Hp},OM K He G H us ms->Grow Ge He G H->∃G',Grow Ge He G' H/\aI G G'/\DenM K G' us (msD ms)/\∀a o,H a=some o->(∀xs,o≠.lst xs)->G a=none->G' a=none
 |_,_,G,.nil,g=>⟨G,g,aI.refl _,.nil,λ_ _ _ _ e=>e⟩
 |_,_,G,.cons (c:=c) (xs:=xs) (us:=us) (ms:=ms) hk hl gn hn hd nc t,g=>by
  have s1:aI G (upd G c (.lst xs)):=λb o e=>by rw[aM (aE e gn)];exact e
  have g1:Grow Ge He (upd G c (.lst xs)) H:=⟨g.hh,g.gg.trans s1,λb o e=>by
   by_cases z:b=c
   ·subst z;rw[aG] at e;cases e;exact hl
   ·rw[aM z] at e;exact g.gh b o e,λb o e z=>by rw[aM (aE e hn)];exact g.fo b o e z⟩
  have lift:∀{us:bB} {ms:Ms},OM K He G H us ms->(∀u∈us,u.2.2≠.ref c)->OM K He (upd G c (.lst xs)) H us ms:=by
   intro us ms t
   induction t with
   |nil=>intro _;exact .nil
   |@cons k' b' c' _ _ _ _ hk' hl' gn' hn' hd' nc' _ ih=>
    intro h;exact .cons (aR s1 hk') hl' (by rw[aM (λz=>h _ (Qj ..) (by rw[z]))];exact gn') hn' (hd'.mono s1) nc' (ih λu hu=>h u (Qg _ hu))
  obtain⟨G',q1,q2,q3,q4⟩:=OM.seal (lift t nc) g1;refine⟨G',q1,s1.trans q2,.cons (aR (s1.trans q2) hk) (.lst (.inl (q2 _ _ aG)) (hd.mono (s1.trans q2))) q3,λa o e no z=>q4 a o e no ?_⟩;rw[aM (λw=>by subst w;rw[hl] at e;cases e;exact no _ rfl)];exact z
end
section
variable{X:Cx}{pos:Pos}
def DGK(n:Nat)(X:Cx)(tg:Expr)(g:D->Ev->Option Ev):Prop:=∃t,PG X tg t/\∀(He G H:Hp) (σ:L2.St) (ε ε':Ev) (v:V) (d:D) (Q:L2.St->Hp->Prop),aI G H->EnvD X.K He G H σ ε->Den X.K G v d->g d ε=some ε'->dJ ε=true->
 (∀σ',EnvD X.K He G H σ' ε'->dJ ε'=true->σ'[n]?=σ[n]?->Q σ' H)->t v σ H Q
def zP(n:Nat)(X:Cx)(ts:List Expr)(g:List D->Ev->Option Ev):Prop:=∃t,PGs X ts t/\∀(He G H:Hp) (σ:L2.St) (ε ε':Ev) (vs:List V) (ds:List D) (Q:L2.St->Hp->Prop),aI G H->EnvD X.K He G H σ ε->DenL X.K G vs ds->g ds ε=some ε'->dJ ε=true->
 (∀σ',EnvD X.K He G H σ' ε'->dJ ε'=true->σ'[n]?=σ[n]?->Q σ' H)->t vs σ H Q
theorem vU{ε:Ev}(h:dJ ε=true)(i:Nat)(d:D):dJ (ε.set i (.dat d))=true:=by
 unfold dJ at h ⊢;rw[Jc] at h ⊢;intro s hs;rcases List.mem_or_eq_of_mem_set hs with z | z
 ·exact h s z
 ·rw[z]
theorem lO{n:Nat}(i:Nat){x:Str}(hN:X.N.Nodup)(ne:i≠n:=by decide)(hi:X.N[i]?=some x:=by rfl)(hx:Loc X.env.scope x:=by first | exact Or.inl rfl | exact Zj rfl)(hf:X.fn x=true\/X.env.scope.names.lookup x=some .local:=by first | exact .inl rfl | exact .inr rfl):DGK n X (.Name x pos) (ak i):=
 ⟨_,t_ hN hi hx hf,λHe G H σ ε ε' v d Q gh E hd e no q=>by cases e;exact q _ (E.put hd) (vU no _ _) (by rw[QB,if_neg ne])⟩
theorem zf{n:Nat}:zP n X [] bI:=⟨_,ux,λHe G H σ ε ε' vs ds Q gh E hd e no q=>by
 cases hd with
 |nil=>cases e;exact⟨rfl,q _ E no rfl⟩
 |cons _ _=>cases e⟩
theorem mJ{n:Nat}{e:Expr}{es:List Expr}{g1:D->Ev->Option Ev}{g2:List D->Ev->Option Ev}(h1:DGK n X e g1)(h2:zP n X es g2)(hs:(Jm (e::es) X.env).map (·.2)=ZC e X.env::(Jm es X.env).map (·.2):=by rfl):zP n X (e::es) (aA g1 g2):=by
 obtain⟨t,a1,a2⟩:=h1;obtain⟨u,b1,b2⟩:=h2;refine⟨_,qa a1 b1 hs,λHe G H σ ε ε' vs ds Q gh E hd e no q=>?_⟩;cases hd with
 |nil=>cases e
 |cons h3 h4=>
  obtain⟨ε1,e1,e⟩:=ai e;exact⟨_,_,rfl,a2 He G H σ ε ε1 _ _ _ gh E h3 e1 no λσ1 E1 no1 k1=>b2 He G H σ1 ε1 ε' _ _ _ gh E1 h4 e no1 λσ2 E2 no2 k2=>q σ2 E2 no2 (k2.trans k1)⟩
theorem Aj{n m:Nat}{es:List Expr}{k:Nat}{g:List D->Ev->Option Ev}(hc:X.calm=true)(h:zP n X es g)(hn:(Jm es X.env).length=m:=by rfl)(hst:(Jm es X.env).findIdx? (·.1)=none:=by rfl):DGK n X (.Tuple es k pos) (g9 m g):=by
 obtain⟨t,a1,a2⟩:=h;refine⟨_,r8 hc a1 hn hst,λHe G H σ ε ε' v d Q gh E hd e no q=>?_⟩;unfold g9 at e;split at e
 ·split at e
  ·rename_i hl
   obtain⟨p,xs,rfl,h1,h2⟩:=hd.tupV;exact⟨p,xs,rfl,aR gh h1,by rw[h2.length];exact hl,a2 He G H σ ε ε' _ _ _ gh E h2 e no q⟩
  ·cases e
 ·cases e
theorem EnvD.odiOf{K:Qe}{He G H:Hp}{σ:L2.St}{ε:Ev}{i:Nat}{a:Addr}{us:bB}{ep:Nat}{ds:Es}(E:EnvD K He G H σ ε)(no:dJ ε=true)(hs:σ[i]?=some (some (.ref a)))(gn:G a=none)(hn:He a=none)(ha:H a=some (.ext (DAt a us ep)))(nd:(us.map (·.1)).Nodup)(hd:DenM K G us ds):EnvD K He G H σ (ε.set i (.odi ds)) where
 len:=by rw[JS];exact E.len
 dat:=λ{j d} e=>by
  rw[QB] at e;split at e
  ·split at e<;>cases e
  ·exact E.dat e
 own:=λ{j d} e=>by
  rw[QB] at e;split at e
  ·split at e<;>cases e
  ·exact(l8 no e).elim
 apart:=λ{j k d f b} e _ _ _=>by
  rw[QB] at e;split at e
  ·split at e<;>cases e
  ·exact(l8 no e).elim
 odi:=λ{j d} e=>by
  rw[QB] at e;split at e
  ·rename_i z
   subst z;split at e
   ·cases e;exact⟨a,us,ep,hs,ha,gn,hn,nd,hd⟩
   ·cases e
  ·exact(je no e).elim
 apartD:=λ{j k d f b} e1 e2 _ _=>by
  rw[QB] at e1 e2;split at e1
  ·split at e2
   ·rename_i z1 z2;exact z1.symm.trans z2
   ·exact(je no e2).elim
  ·exact(je no e1).elim
end
open PySem.W
section
variable{X:Cx}{a b c:Expr}{fa fb fc:Ev->Option D}{pos:Pos}
theorem rW(hc:X.calm=true):eY X (.type "list") (λxs H Q=>∃p us ep,xs=[.ref p]/\H p=some (.ext (DAt p us ep))/\us.length<1000000/\∀q,H q=none->Q (.ref q) (upd H q (.lst (us.map λu=>V.ref u.2.1)))):=by
 intro pins s σ H xs us' Q I rv h;obtain⟨p,us,ep,rfl,hp,hn,q⟩:=h;obtain⟨u,rfl,ru⟩:=rv.one;cases ru;obtain⟨⟨nm,_,o,es,ho,hx,hd,pr⟩,_,_⟩:=(show bL X.prog X.w H s.heap p (.ext (DAt p us ep)) from I.hok p _ hp)
 have ky:∀{us:bB} {es:List Zi},JU EntOk us es->es.map (·.key)=us.map λu=>QI u.2.1:=by
  intro us es pr
  induction pr with
  |nil=>rfl
  |cons h t ih=>rw[Qv,Qv,ih,h.key]
 have ky:=ky pr;have sz:es.size=us.length:=by have:=congrArg List.length ky;simpa using this
 have lt:es.size<=QO:=by rw[sz];exact Jr (Jw hn (by decide))
 refine kdl_call (RW2.qI p nm es ep) (I.ok.hd hc) ⟨o,ho,hx,hd⟩ lt λg tk acc c kp hl items=>?_;have nn:H s.heap.objs.size=none:=I.hok.fresh (Qf _)
 have ea:acc.toList=us.map λu=>QI u.2.1:=by
  refine Jv λi=>?_;rw[<-ky]
  by_cases hi:i<es.size
  ·have hi2:i<acc.size:=by rw[items.1];exact hi
   obtain⟨e,e1,e2⟩:=items.2 i acc[i] (by simp[hi2]);rw[Qx,Qw,Qw,e1];simp[hi2,e2]
  ·have hi2:acc.size<=i:=by rw[items.1];exact Jj hi
   rw[Qx,Qw,Qw,Jz hi2,Jz (Jj hi)];rfl
 have vals:∀l:bB,a9 (l.map λu=>V.ref u.2.1) (l.map λu=>QI u.2.1):=by
  intro l
  induction l with
  |nil=>exact .nil
  |cons b r ih=>exact .cons rfl ih
 exact⟨.ref s.heap.objs.size,upd H s.heap.objs.size (.lst (us.map λu=>V.ref u.2.1)),I.laid (a:=s.heap.objs.size) (t':=tk) kp (Qf _) ⟨by rw[Qi];exact Jr (Jw hn (by decide)),acc.toList,c,by rw[ea];exact vals us,by rw[hl]⟩,rfl,q _ nn⟩
def zq(k:List Int):D:=.tup (k.map D.int)
theorem tH{K:Qe}{G:Hp}:∀{us:bB} {es:Es},DenM K G us es->DenL K G (us.map λu=>V.ref u.2.1) (es.map λe=>zq e.1)
 |_,_,.nil=>.nil
 |_,_,.cons (k:=k) hk _ hs=>.cons (.tup hk (ow _ _ k)) (tH hs)
def k_(fa:Ev->Option D):Ev->Option (List D):=λε=>match fa ε with
 |some (.dic es)=>if es.length<1000000 then some (es.map λe=>zq e.1) else none
 |_=>none
theorem pR{p:Pos}(hc:X.calm=true)(ha:DE X a fa)(hm1:X.mg "list" = none)(hg1:Gl X "list":=by rfl)
  (hst:Qy [a] X.env=(false,eval a X.env)::Qy [] X.env:=by rfl) (hpl:(JG pos (Qy [] X.env)).any (·.1)=false:=by rfl):DF X (.Call (.Name "list" p) [a] [] pos) (k_ fa):=by
 obtain⟨ta,a1,a2⟩:=ha;refine⟨_,nC (rW hc) hg1 hm1 boot_list (bR a1 cR hst) (by decide) (by decide) hst hpl,λHe G H σ ε d Q gh E ef q=>?_⟩;unfold k_ at ef;split at ef
 ·rename_i es e1
  split at ef
  ·rename_i hl
   cases ef;refine a2 He G H σ ε _ _ gh E e1 λv G1 H1 g1 d1=>?_;cases d1 with
   |dic h nd hs=>exact⟨_,_,_,rfl,g1.gh _ _ h,by rw[hs.len];exact hl,λp hp=>q p _ G1 _ (g1.trans (.lay _ g1.gh hp)) (g1.hh.free hp) (g1.gh.free hp) aG (tH hs)⟩
  ·cases ef
 ·cases ef
def GR(K:Qe):R2:=λx y H Q=>∃a us ep b k G es,x=.ref a/\y=.ref b/\H a=some (.ext (DAt a us ep))/\aI G H/\SqT K G b (k.map V.int)/\(us.map (·.1)).Nodup/\DenM K G us es/\k∈us.map (·.1)/\(∀b' v,(k,b',v)∈us->Q v H)
theorem Bw(hu:X.A.units+2<JR):IxR X (GR X.K):=by
 intro value slice pins s σ H x y v u Q I rx ry h hs;obtain⟨a,us,ep,b,k,G,es,rfl,rfl,ha,gh,hb,nd,m,hk,q⟩:=h;cases rx;cases ry;have x0:DAt a us ep s.heap:=(show bL X.prog X.w H s.heap a (.ext (DAt a us ep)) from I.hok a _ ha).1;obtain⟨xs,p,dh⟩:=xW I gh x0 nd m;obtain⟨w,ew⟩:=j6 (by rw[<-fC p];exact hk);obtain⟨b',v',h1,h2⟩:=Cq p ew
 exact subscriptTail_builtinR (x:=w.2) dh.typeIs PySem.slot_dict_getitem.lookup
  (wpAny_getItem_heap (knd:=Ti X.prog X.w) (Q:=λr s'=>r=w.2/\EP X pins σ Q r s') (show X.A.in1.units<JR from by show X.A.units+1<JR;lia) (ig I gh hb) dh ew ⟨rfl,v',H,I.kept (t':=_) λ_ _ e=>e,h2,q b' v' h1⟩) hs
def wb:D->D->Option D:=λx y=>match x with | .dic es=>(vT y).bind λk=>lkD es k | _=>none
theorem uq:∀{es:Es} {k:List Int} {d:D},lkD es k=some d->k∈es.map (·.1)
 |[],_,_,e=>by cases e
 |e::r,k,d,h=>by
  unfold lkD at h;split at h
  ·rename_i z;rw[<-z];exact Qj ..
  ·exact Qg _ (uq h)
theorem cb.dicV{K:Qe}{G H:Hp}{v:V}{es:Es}(h:cb K G H v (.dic es)):∃a us ep,v=.ref a/\G a=some (.ext (DAt a us ep))/\(us.map (·.1)).Nodup/\DenM K G us es:=by
 rcases h with h | ⟨_,_,_,_,h,_⟩
 ·cases h with
  |dic h nd hs=>exact⟨_,_,_,rfl,h,nd,hs⟩
 ·cases h
theorem Ec{kk:Nat}(hr:Room kk X.A)(ha:DB X a fa)(hb:DB X b fb)(hs:kr b:=by intro _ _;rfl):DE X (.Subscript a b pos) (e2 wb fa fb):=
 wF (Bw (by have:=hr.un;lia)) (λG H x y dx dy d Q gh hx hy e q=>by
  unfold wb at e;split at e
  ·obtain⟨k,e1,e2⟩:=ai e
   obtain⟨a,us,ep,rfl,h1,nd,m⟩:=hx.dicV;obtain⟨bb,rfl,hb⟩:=hI gh hy e1;refine⟨a,us,ep,bb,k,G,_,rfl,rfl,gh _ _ h1,gh,hb,nd,m,by rw[m.keys];exact uq e2,λb' v hm=>?_⟩;obtain⟨d',f1,f2⟩:=m.look nd hm;rw[e2] at f1;cases f1;exact q v G H (.refl gh) f2
  ·cases e) ha hb hs
def inL(x:D):List D->Option (List Bool)
 |[]=>some []
 |d::r=>(cq 9 d x).bind λb=>(inL x r).bind λc=>some (b::c)
def n_(neg:Bool):D->D->Option D:=λx y=>match x,y with
 |.tup _,.lst ds=>(inL x ds).bind λbs=>some (.bl (if neg then !bs.any id else bs.any id))
 |_,_=>none
theorem uJ{x:D}:∀{ds:List D} {bs:List Bool},inL x ds=some bs->bs.length=ds.length/\∀(j:Nat) d,ds[j]?=some d->∃b,bs[j]?=some b/\cq 9 d x=some b
 |[],bs,e=>by cases e;exact⟨rfl,λj d h=>by simp at h⟩
 |d::r,bs,e=>by
  obtain⟨b,e1,e⟩:=ai e;obtain⟨c,e2,e⟩:=ai e;cases e;obtain⟨h1,h2⟩:=uJ e2;refine⟨by rw[QA,QA,h1],λj d' h=>?_⟩;cases j with
  |zero=>simp at h;subst h;exact⟨b,rfl,e1⟩
  |succ j=>simpa using h2 j d' (by simpa using h)
theorem s_{G H:Hp}{s:Qc}{pins:List (Addr×Obj)}{σ:L2.St}(hu:X.A.units+64<JR)(I:Inv X pins σ H s)(gh:aI G H){x:V}{u:Qb}{dx:D}(hx:Den X.K G x dx)(rx:ba x u){xs:List V}{ds:List D}{its:List Qb}{bs:List Bool}(hd:DenL X.K G xs ds)(r:a9 xs its)(e:inL dx ds=some bs):∃e:Qb->Bool,(∀y∈its,Kc X.A.in1 s y u (e y))/\its.any e=bs.any id:=by
 obtain⟨hl,get⟩:=uJ e
 have at_:∀(j:Nat) y,its[j]?=some y->∃z d b,xs[j]?=some z/\ba z y/\ds[j]?=some d/\Den X.K G z d/\bs[j]?=some b/\cq 9 d dx=some b:=λj y hy=>by
  have lx:=r.length;have hj:j<xs.length:=by rw[lx];exact(Qk.mp hy).1
  have ez:xs[j]?=some xs[j]:=by simp[hj]
  obtain⟨w,ew,rw'⟩:=r.get ez;rw[hy] at ew;cases ew;obtain⟨d,e1,e2⟩:=hd.getV ez;obtain⟨b,e3,e4⟩:=get j d e1;exact⟨_,d,b,ez,rw',e1,e2,e3,e4⟩
 classical
 refine⟨λy=>decide (∃j:Nat,its[j]?=some y/\bs[j]?=some true),λy hy=>?_,?_⟩
 ·obtain⟨j,ej⟩:=Q6 hy
  obtain⟨z,d,b,_,h2,_,h4,h5,h6⟩:=at_ j y ej
  have:decide (∃j:Nat,its[j]?=some y/\bs[j]?=some true)=b:=by
   cases b with
   |true=>exact decide_eq_true ⟨j,ej,h5⟩
   |false=>
    refine decide_eq_false ?_;rintro⟨j',q1,q2⟩;obtain⟨z',d',b',_,w2,_,w4,w5,w6⟩:=at_ j' y q1;have:=o_ w2 h2;subst this;have:=Den.uniq I gh w4 h4;subst this;rw[h6] at w6;cases w6;rw[q2] at w5;cases w5
  show Kc X.A.in1 s y u (decide (∃j:Nat,its[j]?=some y/\bs[j]?=some true));rw[this];exact lF I gh 9 X.A.in1 (by show X.A.units+1+9<JR;lia) h4 hx h2 rx h6
 ·rw[Zq,List.any_eq_true,List.any_eq_true]
  constructor
  ·rintro⟨y,_,q⟩
   obtain⟨j,_,q2⟩:=of_decide_eq_true q;exact⟨true,QZ q2,rfl⟩
  ·rintro⟨b,hb,q⟩
   have q:b=true:=q;subst q;obtain⟨j,ej⟩:=Q6 hb
   have hj:j<its.length:=by
    have:=(Qk.mp ej).1;rw[<-r.length,hd.length,<-hl];exact this
   exact⟨its[j],ZG hj,decide_eq_true ⟨j,by simp[hj],ej⟩⟩
def CG(K:Qe)(neg:Bool):R2:=λx y H Q=>∃p xs ds dx bs G,y=.ref p/\aI G H/\SqL K H p xs/\DenL K G xs ds/\Den K G x dx/\inL dx ds=some bs/\Q (.bl (if neg then !bs.any id else bs.any id)) H
theorem Dq(hu:X.A.units+64<JR):OpR X (QX .In) (CG X.K false):=by
 intro pins s σ H x y v u Q I rx ry h;obtain⟨p,xs,ds,dx,bs,G,rfl,gh,hq,hd,hx,e,q⟩:=h;cases ry;obtain⟨its,r,pl,hz⟩:=I.list hq;obtain⟨f,f1,f2⟩:=s_ hu I gh hx rx hd r e;refine SeqAt.in_listAt f pl.isList (λw hw=>f1 w (by simpa using hw)) ⟨.bl _,H,I,rfl,?_⟩;rw[show its.toArray.any f=its.any f by simp,f2];exact q
theorem vh(hu:X.A.units+64<JR):OpR X (QX .NotIn) (CG X.K true):=by
 intro pins s σ H x y v u Q I rx ry h;obtain⟨p,xs,ds,dx,bs,G,rfl,gh,hq,hd,hx,e,q⟩:=h;cases ry;obtain⟨its,r,pl,hz⟩:=I.list hq;obtain⟨f,f1,f2⟩:=s_ hu I gh hx rx hd r e;refine SeqAt.notIn_listAt f pl.isList (λw hw=>f1 w (by simpa using hw)) ⟨.bl _,H,I,rfl,?_⟩;rw[show its.toArray.any f=its.any f by simp,f2];exact q
theorem pQ{neg:Bool}(G H:Hp)(x y:V)(dx dy d:D)(Q:VK)(gh:aI G H)(hx:cb X.K G H x dx)(hy:cb X.K G H y dy)(e:n_ neg dx dy=some d)(q:∀v G' H',Grow G H G' H'->Den X.K G' v d->Q v H'):CG X.K neg x y H Q:=by
 unfold n_ at e;split at e
 ·obtain⟨bs,e1,e⟩:=ai e
  cases e;obtain⟨p,xs,rfl,h1,h2⟩:=hy.lst gh;rcases hx with h | ⟨_,_,_,_,h,_⟩
  ·exact⟨p,xs,_,_,bs,G,rfl,gh,h1,h2,h,e1,q _ G H (.refl gh) (.bl _)⟩
  ·cases h
 ·cases e
theorem D0{k:Nat}(hr:Room k X.A):OpD X (QX .In) (n_ false):=⟨_,Dq hr.units,pQ⟩
theorem u5{k:Nat}(hr:Room k X.A):OpD X (QX .NotIn) (n_ true):=⟨_,vh hr.units,pQ⟩
end
theorem bN{M:Model}{A:QU}{E:Qb->Qc->Prop}{s:Qc}{σ α:Type}{c:Prop}[Decidable c]{a b:StateT σ Sem α}{Q:α->σ->Prop}{st:σ}(h:c)(k:wpS M A E s a Q st):wpS M A E s (if c then a else b) Q st:=by rw[if_pos h];exact k
theorem bz{M:Model}{A:QU}{E:Qb->Qc->Prop}{s:Qc}{σ α:Type}{c:Prop}[Decidable c]{a b:StateT σ Sem α}{Q:α->σ->Prop}{st:σ}(h:¬c)(k:wpS M A E s b Q st):wpS M A E s (if c then a else b) Q st:=by rw[if_neg h];exact k
theorem Cb{l m r k x:Nat}(m1:l<=m)(g:r-l<=k-x):r-(m+1)<=k-(x+1):=Q4 (Nat.sub_le_sub_left (Nat.succ_le_succ m1) r) (Nat.sub_le_sub_right g 1)
theorem Ck{l m r k x:Nat}(m1:l<=m)(m2:m<r)(g:r-l<=k-x):m-l<=k-(x+1):=Nat.le_sub_one_of_lt (QS (Nat.sub_lt_sub_right m1 m2) g)
def AQ:Bool->Qp->Array Qp->Nat->Nat->Nat->StateT QY Sem (Option Nat):=sortPriv% PySem.Builtin.gallop
section
variable{M:Model}{A:QU}{E:Qb->Qc->Prop}{s:Qc}{κ:ZH}{S:Qp->Prop}{L:Qp->Qp->Bool}
def mj(M:Model)(A:QU)(E:Qb->Qc->Prop)(s:Qc)(κ:ZH)(S:Qp->Prop)(L:Qp->Qp->Bool):Prop:=
 ∀(x y:Qp) (st:QY) (Q:Option Bool->QY->Prop),S x->S y->Js st=κ->Q (some (L x y)) st->wpS M A E s (lt' x y) Q st
theorem bf{arr:Array Qp}{i:Nat}{st:QY}{Q:Qp->QY->Prop}(hi:i<arr.size)(h:Q arr[i] st):wpS M A E s (elem' arr i) Q st:=by
 rw[elem'_eq,Array.getElem?_eq_getElem hi];exact QC h
def byd(L:Qp->Qp->Bool)(left:Bool)(key:Qp)(x:Qp):Bool:=if left=true then L x key else !L key x
theorem eK(C:mj M A E s κ S L){left:Bool}{key:Qp}{arr:Array Qp}{base n hint:Nat}{st:QY}{Q:Option Nat->QY->Prop}(hS:∀x∈arr.toList,S x)(hk:S key)(hb:base+n<=arr.size)(hh:hint<n)(hst:Js st=κ)
  (f:Nat->Bool) (hf:∀i (h:base+i<arr.size),i<n->f i=byd L left key arr[base+i]) (mono:∀i j,i<=j->j<n->f j=true->f i=true)
  (h:∀hi,hi<=n->(∀i,i<hi->f i=true)->(∀i,hi<=i->i<n->f i=false)->Q (some hi) st):wpS M A E s (AQ left key arr base n hint) Q st:=by
 have ask:∀(i:Nat) (R:Option Bool->QY->Prop),i<n->R (some (f i)) st->wpS M A E s (do
   let x<-elem' arr (base+i)
   if left then lt' x key else return (<-lt' key x).map (!·)) R st:=λi R hi r=>by
  have hi':base+i<arr.size:=by lia
  refine Qs (bf hi' ?_);have sx:S arr[base+i]:=hS _ (by simp);rw[hf i hi' hi] at r;unfold byd at r;cases left with
  |true=>exact C _ _ st _ sx hk hst r
  |false=>exact Qs (C _ _ st _ hk sx hst (QC r))
 refine Qs (ask hint _ hh ?_);dsimp -zeta -zetaHave only
 extract_lets jp m1 m2
 have K:∀a b lo0 hi0,lo0<=hi0->hi0<=n->(∀i,i<lo0->f i=true)->(∀i,hi0<=i->i<n->f i=false)->wpS M A E s (jp () a b lo0 hi0) Q st:=by
  intro a b lo0 hi0 F1 F2 F3 F4;dsimp only[jp]
  refine Qs (Zc (Jx (I:=λx c st'=>st=st'/\∃lo hi,c=(none,lo,hi)/\lo<=hi/\hi<=n/\hi-lo<=n-x/\(∀i,i<lo->f i=true)/\(∀i,hi<=i->i<n->f i=false))
   (Q:=λc st'=>st=st'/\∃hi,c=(none,hi,hi)/\hi<=n/\(∀i,i<hi->f i=true)/\(∀i,hi<=i->i<n->f i=false)) ?_ ?_ ⟨rfl,_,_,rfl,F1,F2,by lia,F3,F4⟩) ?_)
  ·rintro x c st' _ hx ⟨rfl,lo,hi,rfl,g1,g2,g3,g4,g5⟩
   dsimp only
   by_cases ge:lo>=hi
   ·first | refine bN ge ?_ | rw[if_pos ge]
    have e:lo=hi:=by lia
    subst e;exact QC ⟨rfl,lo,rfl,g2,g4,g5⟩
   ·first | refine bz ge ?_ | rw[if_neg ge]
    have m1:lo<=lo+(hi-lo)/2:=Kx _ _;have m2:lo+(hi-lo)/2<hi:=by lia
    generalize lo+(hi-lo)/2=m at m1 m2 ⊢;refine Qs (ask (m) _ (by lia) ?_);cases hm:f (m) with
    |true=>exact QC ⟨rfl,m+1,hi,rfl,m2,g2,Cb m1 g3,λi hi'=>mono i _ (by lia) (by lia) hm,g5⟩
    |false=>
     refine QC ⟨rfl,lo,m,rfl,m1,Q4 (Jr m2) g2,Ck m1 m2 g3,g4,λi h1 h2=>?_⟩;cases hv:f i with
     |false=>rfl
     |true=>rw[mono _ i h1 h2 hv] at hm;cases hm
  ·rintro c st' ⟨rfl,lo,hi,rfl,g1,g2,g3,g4,g5⟩
   have e:lo=hi:=by lia
   subst e;exact⟨rfl,lo,rfl,g2,g4,g5⟩
  ·rintro c st' ⟨rfl,hi,rfl,g2,g4,g5⟩
   exact QC (h hi g2 g4 g5)
 clear_value jp
 dsimp only[m1,m2];cases hv:f hint with
 |true=>
  first | refine bN rfl ?_ | rw[if_pos rfl]
  refine Qs (Zc (Jx (I:=λx c st'=>st=st'/\∃la of,c=(none,la,of)/\la<of/\x+1<=of/\hint+la<n/\f (hint+la)=true)
   (Q:=λc st'=>st=st'/\∃la of,c=(none,la,of)/\la<of/\hint+la<n/\f (hint+la)=true/\(of>=n-hint\/f (hint+of)=false)) ?_ ?_ ⟨rfl,0,1,rfl,by lia,by lia,hh,hv⟩) ?_)
  ·rintro x c st' _ hx ⟨rfl,la,of,rfl,g1,g2,g3,g4⟩
   dsimp only
   by_cases ge:of>=n-hint
   ·rw[if_pos ge];exact QC ⟨rfl,la,of,rfl,g1,g3,g4,.inl ge⟩
   ·first | refine bz ge ?_ | rw[if_neg ge]
    refine Qs (ask (hint+of) _ (by lia) ?_);cases hm:f (hint+of) with
    |true=>exact QC ⟨rfl,of,2*of+1,rfl,by lia,by lia,by lia,hm⟩
    |false=>exact QC ⟨rfl,la,of,rfl,g1,g3,g4,.inr hm⟩
  ·rintro c st' ⟨rfl,la,of,rfl,g1,g2,g3,g4⟩
   exact⟨rfl,la,of,rfl,g1,g3,g4,.inl (by lia)⟩
  ·rintro c st' ⟨rfl,la,of,rfl,g1,g3,g4,g5⟩
   dsimp only;have F1:hint+la+1<=hint+min of (n-hint):=by lia
   have F2:hint+min of (n-hint)<=n:=by lia
   have F3:∀i,i<hint+la+1->f i=true:=λi hi=>mono i (hint+la) (by lia) g3 g4
   have F4:∀i,hint+min of (n-hint)<=i->i<n->f i=false:=λi h1 h2=>by
    rcases g5 with g5 | g5
    ·lia
    ·cases hv:f i with
     |false=>rfl
     |true=>rw[mono (hint+of) i (by lia) h2 hv] at g5;cases g5
   exact K _ _ _ _ F1 F2 F3 F4
 |false=>
  first | refine bz Ql ?_ | rw[if_neg Ql]
  refine Qs (Zc (Jx (I:=λx c st'=>st=st'/\∃la of,c=(none,la,of)/\la<of/\x+1<=of/\la<=hint/\f (hint-la)=false)
   (Q:=λc st'=>st=st'/\∃la of,c=(none,la,of)/\la<of/\la<=hint/\f (hint-la)=false/\(of>=hint+1\/f (hint-of)=true)) ?_ ?_ ⟨rfl,0,1,rfl,by lia,by lia,by lia,hv⟩) ?_)
  ·rintro x c st' _ hx ⟨rfl,la,of,rfl,g1,g2,g3,g4⟩
   dsimp only
   by_cases ge:of>=hint+1
   ·rw[if_pos ge];exact QC ⟨rfl,la,of,rfl,g1,g3,g4,.inl ge⟩
   ·first | refine bz ge ?_ | rw[if_neg ge]
    refine Qs (ask (hint-of) _ (by lia) ?_);cases hm:f (hint-of) with
    |true=>exact QC ⟨rfl,la,of,rfl,g1,g3,g4,.inr hm⟩
    |false=>exact QC ⟨rfl,of,2*of+1,rfl,by lia,by lia,by lia,hm⟩
  ·rintro c st' ⟨rfl,la,of,rfl,g1,g2,g3,g4⟩
   exact⟨rfl,la,of,rfl,g1,g3,g4,.inl (by lia)⟩
  ·rintro c st' ⟨rfl,la,of,rfl,g1,g3,g4,g5⟩
   dsimp only;have F1:hint+1-min of (hint+1)<=hint-la:=by omega
   have F2:hint-la<=n:=by lia
   have F3:∀i,i<hint+1-min of (hint+1)->f i=true:=λi hi=>by
    rcases g5 with g5 | g5
    ·lia
    ·exact mono i (hint-of) (by lia) (by lia) g5
   have F4:∀i,hint-la<=i->i<n->f i=false:=λi h1 h2=>by
    cases hv:f i with
    |false=>rfl
    |true=>rw[mono (hint-la) i h1 h2 hv] at g4;cases g4
   exact K _ _ _ _ F1 F2 F3 F4
end
abbrev leK(L:Qp->Qp->Bool)(x y:Qp):Prop:=L y x=false
structure MI(L:Qp->Qp->Bool)(a b out:List Qp)(ia ib:Nat):Prop where
 la:ia<=a.length
 lb:ib<=b.length
 pm:out.Perm (a.take ia++b.take ib)
 pa:(out++a.drop ia).Pairwise (leK L)
 pb:(out++b.drop ib).Pairwise (leK L)
def f9(L:Qp->Qp->Bool)(a b r:List Qp):Prop:=r.Pairwise (leK L)/\r.Perm (a++b)
section
variable{L:Qp->Qp->Bool}{a b out:List Qp}{ia ib:Nat}
theorem kL{l:List Qp}{i:Nat}{x:Qp}(h:l[i]?=some x):l.drop i=x::l.drop (i+1):=by
 obtain⟨h1,h2⟩:=Qk.mp h;rw[Q9 h1,h2]
theorem tF{l:List Qp}{i:Nat}{x:Qp}(h:l[i]?=some x):l.take (i+1)=l.take i++[x]:=by
 rw[List.take_add_one,h];rfl
theorem MI.pushB(h:MI L a b out ia ib){x:Qp}(hb:b[ib]?=some x)(hx:∀y∈a.drop ia,leK L x y):MI L a b (out++[x]) ia (ib+1):=by
 have lt:ib<b.length:=(Qk.mp hb).1;obtain⟨p1,p2,p3⟩:=QW.mp h.pa;have pb:=h.pb;rw[kL hb] at pb;obtain⟨q1,q2,q3⟩:=QW.mp pb;refine⟨h.la,lt,?_,?_,?_⟩
 ·rw[tF hb,<-QG]
  exact h.pm.append (List.Perm.refl _)
 ·rw[QG]
  refine QW.mpr ⟨p1,Za.mpr ⟨hx,p2⟩,λu hu v hv=>?_⟩;rcases Qn.mp hv with rfl | hv9
  ·exact q3 u hu _ (Qj ..)
  ·exact p3 u hu v hv9
 ·rw[QG]
  exact pb
theorem MI.pushA(h:MI L a b out ia ib){x:Qp}(ha:a[ia]?=some x)(hx:∀y∈b.drop ib,leK L x y):MI L a b (out++[x]) (ia+1) ib:=by
 have lt:ia<a.length:=(Qk.mp ha).1;obtain⟨p1,p2,p3⟩:=QW.mp h.pb;have pa:=h.pa;rw[kL ha] at pa;obtain⟨q1,q2,q3⟩:=QW.mp pa;refine⟨lt,h.lb,?_,?_,?_⟩
 ·rw[tF ha]
  have:(a.take ia++[x]++b.take ib).Perm (a.take ia++b.take ib++[x]):=by
   rw[QG,QG];exact(List.Perm.refl _).append List.perm_append_comm
  exact(h.pm.append (List.Perm.refl _)).trans this.symm
 ·rw[QG]
  exact pa
 ·rw[QG]
  refine QW.mpr ⟨p1,Za.mpr ⟨hx,p2⟩,λu hu v hv=>?_⟩;rcases Qn.mp hv with rfl | hv9
  ·exact q3 u hu _ (Qj ..)
  ·exact p3 u hu v hv9
theorem mO{l:List Qp}{i k:Nat}{x:Qp}(h:l[i+k]?=some x):(l.drop i).take (k+1)=(l.drop i).take k++[x]:=by
 rw[List.take_add_one,JW,h];rfl
theorem MI.chunkB(h:MI L a b out ia ib):∀(k:Nat),ib+k<=b.length->(∀i,i<k->∀x,b[ib+i]?=some x->∀y∈a.drop ia,leK L x y)->MI L a b (out++(b.drop ib).take k) ia (ib+k)
 |0,_,_=>by rw[List.take_zero,Jp];exact h
 |k+1,hk,hx=>by
  have ih:=MI.chunkB h k (by lia) λi hi=>hx i (by lia);have e:b[ib+k]?=some b[ib+k]:=by simp
  have:=ih.pushB e (hx k (by lia) _ e);rw[mO e,<-QG];exact this
theorem MI.chunkA(h:MI L a b out ia ib):∀(k:Nat),ia+k<=a.length->(∀i,i<k->∀x,a[ia+i]?=some x->∀y∈b.drop ib,leK L x y)->MI L a b (out++(a.drop ia).take k) (ia+k) ib
 |0,_,_=>by rw[List.take_zero,Jp];exact h
 |k+1,hk,hx=>by
  have ih:=MI.chunkA h k (by lia) λi hi=>hx i (by lia);have e:a[ia+k]?=some a[ia+k]:=by simp
  have:=ih.pushA e (hx k (by lia) _ e);rw[mO e,<-QG];exact this
theorem MI.perm(h:MI L a b out ia ib):(out++a.drop ia++b.drop ib).Perm (a++b):=by
 have e1:(a.take ia++b.take ib++a.drop ia++b.drop ib).Perm (a.take ia++a.drop ia++(b.take ib++b.drop ib)):=by
  rw[QG,QG,QG];refine(List.Perm.refl _).append ?_;rw[<-QG,<-QG];exact List.perm_append_comm.append (List.Perm.refl _)
 rw[Q1,Q1] at e1;exact((h.pm.append (List.Perm.refl _)).append (List.Perm.refl _)).trans e1
theorem MI.finB(h:MI L a b out ia ib)(e:ib=b.length):f9 L a b (out++a.drop ia++b.drop ib):=by
 refine⟨?_,h.perm⟩;rw[e,JA,Jp];exact h.pa
theorem MI.finA(h:MI L a b out ia ib)(e:ia=a.length):f9 L a b (out++a.drop ia++b.drop ib):=by
 refine⟨?_,h.perm⟩;rw[e,JA,Jp];exact h.pb
theorem MI.lastA(h:MI L a b out ia ib){x:Qp}(e:ia+1=a.length)(ha:a[ia]?=some x)(hx:∀y∈b,leK L y x):f9 L a b (out++b.drop ib++a.drop ia):=by
 have d:a.drop ia=[x]:=by rw[kL ha,e,JA]
 have pa:=h.pa;rw[d] at pa;obtain⟨q1,q2,q3⟩:=QW.mp pa;refine⟨?_,?_⟩
 ·rw[d]
  refine QW.mpr ⟨h.pb,by simp,λu hu v hv=>?_⟩;rw[Qt.mp hv];rcases QM.mp hu with hu | hu
  ·exact q3 u hu x (by simp)
  ·exact hx u (Zu hu)
 ·refine J0.trans ?_ h.perm
  rw[QG,QG];exact(List.Perm.refl _).append List.perm_append_comm
theorem MI.lastB(h:MI L a b out ia ib){x:Qp}(e:ib+1=b.length)(hb:b[ib]?=some x)(hx:∀y∈a,leK L y x):f9 L a b (out++a.drop ia++b.drop ib):=by
 have d:b.drop ib=[x]:=by rw[kL hb,e,JA]
 have pb:=h.pb;rw[d] at pb;obtain⟨q1,q2,q3⟩:=QW.mp pb;refine⟨?_,h.perm⟩;rw[d];refine QW.mpr ⟨h.pa,by simp,λu hu v hv=>?_⟩;rw[Qt.mp hv];rcases QM.mp hu with hu | hu
 ·exact q3 u hu x (by simp)
 ·exact hx u (Zu hu)
end
theorem MI.start{L:Qp->Qp->Bool}{a b:List Qp}(sa:a.Pairwise (leK L))(sb:b.Pairwise (leK L)):MI L a b [] 0 0:=⟨QN _,QN _,by simp,by simpa using sa,by simpa using sb⟩
theorem iI{L:Qp->Qp->Bool}(as:∀x y,L x y=true->L y x=false){l:List Qp}(h:l.Pairwise (leK L)){i j:Nat}{x y:Qp}(hx:l[i]?=some x)(hy:l[j]?=some y)(ij:i<=j):leK L x y:=by
 obtain⟨h1,rfl⟩:=Qk.mp hx;obtain⟨h2,rfl⟩:=Qk.mp hy
 by_cases e:i=j
 ·subst e
  cases hv:L l[i] l[i] with
  |false=>exact hv
  |true=>have:=as _ _ hv;rw[hv] at this;cases this
 ·exact Zl.mp h i j h1 h2 (by lia)
theorem sH{L:Qp->Qp->Bool}{a b r:List Qp}(h:f9 (λx y=>L y x) a.reverse b.reverse r):f9 L a b r.reverse:=by
 refine⟨List.pairwise_reverse.mpr h.1,?_⟩;refine(List.reverse_perm r).trans (h.2.trans ?_);exact(List.reverse_perm a).append (List.reverse_perm b)
theorem ya{l:List Qp}{q:Nat}(h1:1<=q)(h2:q<=l.length):l.reverse[l.length-q]?=l[q-1]?:=by
 rw[Kt (by lia)];congr 1
 lia
theorem gT{l:List Qp}{q:Nat}(h:q<=l.length):l.reverse.drop (l.length-q)=(l.take q).reverse:=by
 rw[List.drop_reverse];congr 2
 lia
theorem tx{l:List Qp}{p q:Nat}(h1:p<=q)(h2:q<=l.length):(l.reverse.drop (l.length-q)).take (q-p)=((l.drop p).take (q-p)).reverse:=by
 rw[gT h2,List.take_reverse,QP,List.drop_take];congr 3<;>lia
def mn:Nat->StateT QY Sem Unit:=sortPriv% PySem.Builtin.setMinGallop
def wK:Array Qp->Array Qp->StateT QY Sem (Array Qp):=sortPriv% PySem.Builtin.mergeLo
section
variable{M:Model}{A:QU}{E:Qb->Qc->Prop}{s:Qc}{κ:ZH}{S:Qp->Prop}{L:Qp->Qp->Bool}
structure SmG(st st':QY):Prop where
 k:Js st'=Js st
 a:Qq st'=Qq st
 p:Jb st'=Jb st
 f:JB st'=JB st
theorem SmG.rf(st:QY):SmG st st:=⟨rfl,rfl,rfl,rfl⟩
theorem ja{g:Nat}{st:QY}{Q:Unit->QY->Prop}(h:∀st',SmG st st'->Q () st'):wpS M A E s (mn g) Q st:=by
 show wpS M A E s (modify λs=>ZK (Js s) (Qq s) (Jb s) g (JB s)) Q st;exact Kz (h _ ⟨rfl,rfl,rfl,rfl⟩)
theorem SmG.tr{x y z:QY}(h:SmG x y)(g:SmG y z):SmG x z:=⟨g.k.trans h.k,g.a.trans h.a,g.p.trans h.p,g.f.trans h.f⟩
theorem fU{msg:String}{st:QY}{Q:Unit->QY->Prop}(h:Q () st):wpS M A E s (liftM (rule msg):StateT QY Sem Unit) Q st:=wpS_lift (wpAny_rule ⟨rfl,h⟩)
theorem oN(x:Array Qp)(i:Nat):(x.extract i).toList=x.toList.drop i:=by
 simp only[Array.toList_extract];exact JZ (by simp:_<=_)
theorem yg(x:Array Qp)(i k:Nat):(x.extract i (i+k)).toList=(x.toList.drop i).take k:=by simp
theorem atL{x:Array Qp}{i:Nat}(h:i<x.size):x.toList[i]?=some x[i]:=by simp[h]
structure MG(L:Qp->Qp->Bool)(a b out:Array Qp)(ia ib:Nat):Prop where
 mi:MI L a.toList b.toList out.toList ia ib
 la:ia+1<a.size
 lb:ib<b.size
theorem sL{M:Model}{A:QU}{E:Qb->Qc->Prop}{s:Qc}{σ α β:Type}{c:Prop}[Decidable c]{f:β->StateT σ Sem α}{x y:β}{Q:α->σ->Prop}{st:σ}(h:∀z,wpS M A E s (f z) Q st):wpS M A E s (if c then f x else f y) Q st:=by split<;>exact h _
theorem ku{M:Model}{A:QU}{E:Qb->Qc->Prop}{s:Qc}{σ α β γ:Type}{c:Prop}[Decidable c]{f:β->γ->StateT σ Sem α}{t:StateT σ Sem α}{x:β}{y:γ}{Q:α->σ->Prop}{st:σ}{P:β->γ->Prop}(h:∀x y,P x y->wpS M A E s (f x y) Q st)(h1:c->(∀x y,P x y->wpS M A E s (f x y) Q st)->wpS M A E s t Q st)(h2:¬c->P x y):wpS M A E s (if c then t else f x y) Q st:=by
 split
 ·exact h1 ‹_› h
 ·exact h _ _ (h2 ‹_›)
theorem rZ(C:mj M A E s κ S L)(as:∀x y,L x y=true->L y x=false)(tr:∀x y z,L y x=false->L z y=false->L z x=false){a b:Array Qp}(hSa:∀x∈a.toList,S x)(hSb:∀x∈b.toList,S x)
  (sa:a.toList.Pairwise (leK L)) (sb:b.toList.Pairwise (leK L)) (na:1<=a.size) (nb:1<=b.size) (first:L b[0] a[0]=true) (last:∀y∈b.toList,L y a[a.size-1]=true) {st:QY} {Q:Array Qp->QY->Prop} (hst:Js st=κ)
  (h:∀r st',SmG st st'->f9 L a.toList b.toList r.toList->Q r st'):wpS M A E s (wK a b) Q st:=by
 have sz:a.toList.length=a.size:=by simp
 have szb:b.toList.length=b.size:=by simp
 have leA:∀{x:Qp} {ia:Nat} (hi:ia<a.size),leK L x a[ia]->∀y∈a.toList.drop ia,leK L x y:=λ{x ia} hi e y hy=>by
  obtain⟨j,hj⟩:=Q6 hy;rw[JW] at hj;exact tr _ _ _ e (iI as sa (atL hi) hj (by lia))
 have leB:∀{x:Qp} {ib:Nat} (hi:ib<b.size),leK L x b[ib]->∀y∈b.toList.drop ib,leK L x y:=λ{x ib} hi e y hy=>by
  obtain⟨j,hj⟩:=Q6 hy;rw[JW] at hj;exact tr _ _ _ e (iI as sb (atL hi) hj (by lia))
 have lastF:∀{out:Array Qp} {ia ib:Nat},MI L a.toList b.toList out.toList ia ib->ia+1=a.size->f9 L a.toList b.toList (out++b.extract ib++a.extract ia).toList:=λ{out ia ib} m e=>by
  rw[Jo,Jo,oN,oN];have hi:ia<a.size:=by lia
  have ei:ia=a.size-1:=by lia
  refine m.lastA (by omega) (atL hi) λy hy=>?_;have:=last y hy;subst ei;exact as _ _ this
 have doneF:∀{out:Array Qp} {ia ib:Nat},MI L a.toList b.toList out.toList ia ib->(ib=b.size\/ia=a.size)->f9 L a.toList b.toList (out++a.extract ia++b.extract ib).toList:=λ{out ia ib} m e=>by
  rw[Jo,Jo,oN,oN];rcases e with e | e
  ·exact m.finB (by omega)
  ·exact m.finA (by omega)
 have pushB:∀{out:Array Qp} {ia ib:Nat},MI L a.toList b.toList out.toList ia ib->(h1:ib<b.size)->(h2:ia<a.size)->leK L b[ib] a[ia]->MI L a.toList b.toList (out.push b[ib]).toList ia (ib+1):=λ{out ia ib} m h1 h2 e=>by
  rw[Zx];exact m.pushB (atL h1) (leA h2 e)
 have pushA:∀{out:Array Qp} {ia ib:Nat},MI L a.toList b.toList out.toList ia ib->(h1:ia<a.size)->(h2:ib<b.size)->leK L a[ia] b[ib]->MI L a.toList b.toList (out.push a[ia]).toList (ia+1) ib:=λ{out ia ib} m h1 h2 e=>by
  rw[Zx];exact m.pushA (atL h1) (leB h2 e)
 refine Qs (fU (Qs (bf nb ?_)));have m0:MI L a.toList b.toList (#[b[0]]:Array Qp).toList 0 1:=(MI.start sa sb).pushB (atL nb) (leA na (as _ _ first))
 by_cases c1:(1==b.size)=true
 ·first | refine bN c1 ?_ | rw[if_pos c1]
  have e:=beq_iff_eq.mp c1;exact QC (h _ st (.rf st) (doneF m0 (.inl e)))
 first | refine bz c1 ?_ | rw[if_neg c1]
 by_cases c2:(0+1==a.size)=true
 ·first | refine bN c2 ?_ | rw[if_pos c2]
  have e:=beq_iff_eq.mp c2;exact QC (h _ st (.rf st) (lastF m0 e))
 first | refine bz c2 ?_ | rw[if_neg c2]
 have c1':¬1=b.size:=λe=>c1 (beq_iff_eq.mpr e);have c2':¬0+1=a.size:=λe=>c2 (beq_iff_eq.mpr e);refine Qs (wpS_get ?_)
 refine Qs (Zc (Jx (I:=λx c st'=>SmG st st'/\∃out ia ib g,c=(none,out,ia,ib,g)/\MG L a b out ia ib/\x+1<=ia+ib)
  (Q:=λc st'=>SmG st st'/\∃r,c.1=some r/\f9 L a.toList b.toList r.toList) ?_ ?_ ⟨.rf st,_,_,_,_,rfl,⟨m0,by lia,by lia⟩,by lia⟩) ?_)
 ·rintro x c st1 _ hx ⟨g1,out,ia,ib,g,rfl,G,pr⟩
  dsimp -zeta -zetaHave only
  refine Qs (Zc (Jx (I:=λy c st'=>SmG st st'/\∃out' ia' ib' p q,c=(none,out',ia',ib',p,q)/\MG L a b out' ia' ib'/\ia+ib+y<=ia'+ib')
   (Q:=λc st'=>SmG st st'/\((∃out' ia' ib' p q,c=(none,out',ia',ib',p,q)/\MG L a b out' ia' ib'/\ia+ib+1<=ia'+ib')\/∃r,c.1=some r/\f9 L a.toList b.toList r.toList)) ?_ ?_ ⟨g1,_,_,_,_,_,rfl,G,by lia⟩) ?_)
  ·rintro y c st2 _ hy ⟨g2,out',ia',ib',p,q,rfl,G',pr'⟩
   dsimp only;have la:=G'.la;have lb:=G'.lb;have la':ia'<a.size:=by lia
   refine Qs (bf lb (Qs (bf la' (Qs (C _ _ st2 _ (hSb _ (by simp)) (hSa _ (by simp)) (g2.k.trans hst) ?_)))));dsimp only;cases hw:L b[ib'] a[ia'] with
   |true=>
    first | refine bN rfl ?_ | rw[if_pos rfl]
    refine Qs (bf lb ?_);have m:=pushB G'.mi lb la' (as _ _ hw)
    by_cases d1:(ib'+1==b.size)=true
    ·first | refine bN d1 ?_ | rw[if_pos d1]
     exact QC ⟨g2,.inr ⟨_,rfl,doneF m (.inl (beq_iff_eq.mp d1))⟩⟩
    ·first | refine bz d1 ?_ | rw[if_neg d1]
     have d1':¬ib'+1=b.size:=λe=>d1 (beq_iff_eq.mpr e);split
     ·exact QC ⟨g2,.inl ⟨_,_,_,_,_,rfl,⟨m,la,by lia⟩,by lia⟩⟩
     ·exact QC ⟨g2,_,_,_,_,_,rfl,⟨m,la,by lia⟩,by lia⟩
   |false=>
    first | refine bz Ql ?_ | rw[if_neg Ql]
    refine Qs (bf la' ?_);have m:=pushA G'.mi la' lb hw
    by_cases d1:(ia'+1+1==a.size)=true
    ·first | refine bN d1 ?_ | rw[if_pos d1]
     exact QC ⟨g2,.inr ⟨_,rfl,lastF m (beq_iff_eq.mp d1)⟩⟩
    ·first | refine bz d1 ?_ | rw[if_neg d1]
     have d1':¬ia'+1+1=a.size:=λe=>d1 (beq_iff_eq.mpr e);split
     ·exact QC ⟨g2,.inl ⟨_,_,_,_,_,rfl,⟨m,by lia,lb⟩,by lia⟩⟩
     ·exact QC ⟨g2,_,_,_,_,_,rfl,⟨m,by lia,lb⟩,by lia⟩
  ·rintro c st2 ⟨g2,out',ia',ib',p,q,rfl,G',pr'⟩
   exact⟨g2,.inl ⟨_,_,_,_,_,rfl,G',by lia⟩⟩
  ·rintro c st2 ⟨g2,⟨out',ia',ib',p,q,rfl,G',pr'⟩ | ⟨r,e,fr⟩⟩
   ·dsimp -zeta -zetaHave only
    refine Qs (fU ?_)
    refine Qs (Zc (Jx (I:=λy c st'=>SmG st st'/\∃out ia2 ib2 g p q,c=(none,out,ia2,ib2,g,p,q)/\MG L a b out ia2 ib2/\ia+ib+1<=ia2+ib2)
     (Q:=λc st'=>SmG st st'/\((∃out ia2 ib2 g p q,c=(none,out,ia2,ib2,g,p,q)/\MG L a b out ia2 ib2/\ia+ib+1<=ia2+ib2)\/∃r,c.1=some r/\f9 L a.toList b.toList r.toList)) ?_ ?_ ⟨g2,_,_,_,_,_,_,rfl,G',pr'⟩) ?_)
    ·rintro y c st3 _ hy ⟨g3,out,ia2,ib2,g,p,q,rfl,G2,pr2⟩
     dsimp -zeta -zetaHave only
     extract_lets s1 o1 s2 i1 s3 b1 s4 mg s5 ac bc ib1 jp mg1
     refine sL (f:=λz=>jp () z) λg'=>?_;dsimp -zeta -zetaHave only[jp,ib1,o1,i1,b1,s1,s2,s3,s4,s5,ac,bc];have la:=G2.la;have lb:=G2.lb;have la2:ia2<a.size:=by lia
     refine Qs (ja λst4 g4=>Qs (bf lb (Qs (eK C (f:=λi=>!L b[ib2] (a.getD (ia2+i) b[ib2])) hSa (hSb _ (by simp)) (by lia) (by lia) ((g3.tr g4).k.trans hst) (λi hi _=>by simp[byd,Array.getD,hi]) (λi j ij hj e=>?_) λk hk h1 h2=>?_))))
     ·have hj':ia2+j<a.size:=by lia
      have hi':ia2+i<a.size:=by lia
      simp only[Array.getD,hi',hj',dite_true,J1] at e ⊢;exact tr _ _ _ (iI as sa (atL hi') (atL hj') (by lia)) e
     dsimp -zeta -zetaHave only
     have ch:∀i,i<k->∀x,a.toList[ia2+i]?=some x->∀y∈b.toList.drop ib2,leK L x y:=λi hi x hx=>by
      have hi':ia2+i<a.size:=by lia
      have e:=h1 i hi;simp only[Array.getD,hi',dite_true,J1] at e;rw[atL hi'] at hx;cases hx;exact leB lb e
     have m1:=G2.mi.chunkA k (by lia) ch;rw[<-yg,<-Jo] at m1
     have kl:ia2+k<a.size:=by
      rcases Nat.lt_or_ge (ia2+k) a.size with hlt | hge
      ·exact hlt
      ·have e:=h1 (a.size-1-ia2) (by lia)
       have e5:ia2+(a.size-1-ia2)=a.size-1:=by lia
       have hi':a.size-1<a.size:=by omega
       simp only[e5,Array.getD,hi',dite_true,J1] at e;have e2:=last b[ib2] (by simp);exact absurd (e2.symm.trans e) (by decide)
     have lkb:leK L b[ib2] (a[ia2+k]'kl):=by
      have e:=h2 k (Qf _) (by lia);simp only[Array.getD,kl,dite_true,Bool.not_eq_false'] at e;exact as _ _ e
     extract_lets ac2 jp2 ou ii
     refine ku (f:=λx y=>jp2 () x y) (P:=λx y=>MI L a.toList b.toList x.toList y ib2/\(ia2<=y/\y+1<a.size)/\∃h:y<a.size,leK L b[ib2] a[y]) (λo2 i2 hp=>?_) (λhk0 T=>?_) λhk0=>?_
     ·obtain⟨mm,⟨il,lz⟩,la1,lk⟩:=hp
      dsimp -zeta -zetaHave only[jp2,ac2];refine Qs (bf lb ?_);have m2:=pushB mm lb la1 lk
      by_cases d2:(ib2+1==b.size)=true
      ·refine bN d2 ?_
       exact QC ⟨g3.tr g4,.inr ⟨_,rfl,doneF m2 (.inl (beq_iff_eq.mp d2))⟩⟩
      refine bz d2 ?_;have d2':¬ib2+1=b.size:=λe=>d2 (beq_iff_eq.mpr e);refine Qs (bf la1 (Qs (eK C (f:=λi=>L (b.getD (ib2+1+i) a[i2]) a[i2]) hSb (hSa _ (by simp)) (by lia) (by lia) ((g3.tr g4).k.trans hst) (λi hi _=>by simp[byd,Array.getD,hi]) (λi j ij hj e=>?_) λk2 hk2 h3 h4=>?_)))
      ·have hj':ib2+1+j<b.size:=by lia
       have hi':ib2+1+i<b.size:=by lia
       simp only[Array.getD,hi',hj',dite_true] at e ⊢;cases hv:L (b[ib2+1+i]'hi') a[i2] with
       |true=>rfl
       |false=>have z:=tr _ _ _ hv (iI as sb (atL hi') (atL hj') (by lia));exact absurd (e.symm.trans z) (by decide)
      dsimp -zeta -zetaHave only
      have ch:∀i,i<k2->∀x,b.toList[ib2+1+i]?=some x->∀y∈a.toList.drop i2,leK L x y:=λi hi x hx=>by
       have hi':ib2+1+i<b.size:=by lia
       have e:=h3 i hi;simp only[Array.getD,hi',dite_true] at e;rw[atL hi'] at hx;cases hx;exact leA la1 (as _ _ e)
      extract_lets bc2 ia3 jp3 ou3 ib3
      refine ku (f:=λx y=>jp3 () x y) (P:=λx y=>MI L a.toList b.toList x.toList i2 y/\ib2+1<=y/\∃h:y<b.size,leK L a[i2] b[y]) (λo4 i4 hp=>?_) (λhk20 T=>?_) λhk20=>?_
      ·obtain⟨m3,jl,lb3,lka⟩:=hp
       dsimp -zeta -zetaHave only[jp3,bc2,ia3];refine Qs (bf la1 ?_);have m4:=pushA m3 la1 lb3 lka
       by_cases d3:(i2+1+1==a.size)=true
       ·refine bN d3 ?_
        exact QC ⟨g3.tr g4,.inr ⟨_,rfl,lastF m4 (beq_iff_eq.mp d3)⟩⟩
       refine bz d3 ?_;have d3':¬i2+1+1=a.size:=λe=>d3 (beq_iff_eq.mpr e);split
       ·exact QC ⟨g3.tr g4,.inl ⟨_,_,_,_,_,_,rfl,⟨m4,by lia,lb3⟩,by lia⟩⟩
       ·exact QC ⟨g3.tr g4,_,_,_,_,_,_,rfl,⟨m4,by lia,lb3⟩,by lia⟩
      ·have m3:=m2.chunkB k2 (by lia) ch
       rw[<-yg,<-Jo] at m3
       by_cases d4:(ib2+1+k2==b.size)=true
       ·refine bN d4 ?_
        exact QC ⟨g3.tr g4,.inr ⟨_,rfl,doneF m3 (.inl (beq_iff_eq.mp d4))⟩⟩
       refine bz d4 ?_;have d4':¬ib2+1+k2=b.size:=λe=>d4 (beq_iff_eq.mpr e);have lb3:ib2+1+k2<b.size:=by lia
       refine T _ _ ⟨m3,by show ib2+1<=ib2+1+k2;lia,lb3,?_⟩;have e:=h4 k2 (Qf _) (by lia);simp only[Array.getD,lb3,dite_true] at e;exact e
      ·have e0:k2=0:=by lia
       subst e0;have lb3:ib2+1<b.size:=by lia
       refine⟨m2,Qf _,lb3,?_⟩;have e:=h4 0 (Qf _) (by lia);simp only[Array.getD,lb3,dite_true,ZR] at e;exact e
     ·by_cases d1:(ia2+k+1==a.size)=true
      ·refine bN d1 ?_
       exact QC ⟨g3.tr g4,.inr ⟨_,rfl,lastF m1 (beq_iff_eq.mp d1)⟩⟩
      refine bz d1 ?_
      by_cases d5:(ia2+k==a.size)=true
      ·refine bN d5 ?_
       exact QC ⟨g3.tr g4,.inr ⟨_,rfl,doneF m1 (.inr (beq_iff_eq.mp d5))⟩⟩
      have d1':¬ia2+k+1=a.size:=λe=>d1 (beq_iff_eq.mpr e);exact bz d5 (T _ _ ⟨m1,⟨by show ia2<=ia2+k;lia,by show ia2+k+1<a.size;lia⟩,kl,lkb⟩)
     ·have e0:k=0:=by lia
      subst e0;exact⟨G2.mi,⟨Qf _,la⟩,la2,by simpa only[ZR] using lkb⟩
    ·rintro c st3 ⟨g3,out',ia',ib',g',p,q,rfl,G',pr'⟩
     exact⟨g3,.inl ⟨_,_,_,_,_,_,rfl,G',pr'⟩⟩
    ·rintro c st3 ⟨g3,⟨out',ia',ib',g',p,q,rfl,G',pr'⟩ | ⟨r,e,fr⟩⟩
     ·dsimp only
      refine Qs (ja λst4 g4=>QC ⟨g3.tr g4,_,_,_,_,rfl,G',by lia⟩)
     ·obtain⟨c1,c2⟩:=c
      cases e;exact QC ⟨g3,r,rfl,fr⟩
   ·obtain⟨c1,c2⟩:=c
    cases e;exact QC ⟨g2,r,rfl,fr⟩
 ·rintro c st1 ⟨g1,out,ia,ib,g,rfl,G,pr⟩
  have:=G.la;have:=G.lb
  lia
 ·rintro c st1 ⟨g1,r,e,fr⟩
  obtain⟨c1,c2⟩:=c;cases e;exact QC (h r st1 g1 fr)
end
theorem ixs{n m i t:Nat}(hi:i<m-t)(hm:m<=n):1<=m-i/\m-i<=n/\n-(m-i)=n-m+i/\m-i-1<n/\t<=m-i-1/\m-i-1<m:=by
 have hl:i<m:=QS hi (Nat.sub_le ..);have h1:0<m-i:=Nat.sub_pos_of_lt hl;have h2:m-i-1<m:=Nat.sub_one_lt_of_le h1 (Nat.sub_le ..);exact⟨h1,Q4 (Nat.sub_le ..) hm,(Nat.sub_sub_right n (Jr hl)).trans (Nat.sub_add_comm hm),QS h2 hm,Nat.le_sub_one_of_lt (Nat.lt_sub_of_add_lt (Nat.add_comm i t▸Nat.add_lt_of_lt_sub hi)),h2⟩
def yE:Array Qp->Array Qp->StateT QY Sem (Array Qp):=sortPriv% PySem.Builtin.mergeHi
abbrev op(L:Qp->Qp->Bool):Qp->Qp->Bool:=λx y=>L y x
theorem nY(x:Array Qp)(i:Nat):(x.extract 0 i).toList=x.toList.take i:=by simp
theorem xT(x:Array Qp)(p q:Nat):(x.extract p q).reverse.toList=((x.toList.drop p).take (q-p)).reverse:=by simp
abbrev MR(L:Qp->Qp->Bool)(a b out:Array Qp)(na nb:Nat):Prop:=MI (op L) a.toList.reverse b.toList.reverse out.toList (a.size-na) (b.size-nb)
structure MH(L:Qp->Qp->Bool)(a b out:Array Qp)(na nb:Nat):Prop where
 mi:MR L a b out na nb
 la:1<=na
 la':na<=a.size
 lb:2<=nb
 lb':nb<=b.size
section
variable{M:Model}{A:QU}{E:Qb->Qc->Prop}{s:Qc}{κ:ZH}{S:Qp->Prop}{L:Qp->Qp->Bool}
theorem rX(C:mj M A E s κ S L)(as:∀x y,L x y=true->L y x=false)(tr:∀x y z,L y x=false->L z y=false->L z x=false){a b:Array Qp}(hSa:∀x∈a.toList,S x)(hSb:∀x∈b.toList,S x)
  (sa:a.toList.Pairwise (leK L)) (sb:b.toList.Pairwise (leK L)) (na:1<=a.size) (nb:1<=b.size) (first:∀y∈a.toList,L b[0] y=true) (last:L b[b.size-1] a[a.size-1]=true) {st:QY} {Q:Array Qp->QY->Prop} (hst:Js st=κ)
  (h:∀r st',SmG st st'->f9 L a.toList b.toList r.toList->Q r st'):wpS M A E s (yE a b) Q st:=by
 have sz:a.toList.length=a.size:=by simp
 have szb:b.toList.length=b.size:=by simp
 have szr:a.toList.reverse.length=a.size:=by simp
 have szbr:b.toList.reverse.length=b.size:=by simp
 have atA:∀{n:Nat} (h1:1<=n) (h2:n<=a.size),a.toList.reverse[a.size-n]?=some (a[n-1]'(by lia)):=λ{n} h1 h2=>by
  have:=ya (l:=a.toList) h1 (by lia);rw[sz] at this;rw[this];exact atL (by lia)
 have atB:∀{n:Nat} (h1:1<=n) (h2:n<=b.size),b.toList.reverse[b.size-n]?=some (b[n-1]'(by lia)):=λ{n} h1 h2=>by
  have:=ya (l:=b.toList) h1 (by lia);rw[szb] at this;rw[this];exact atL (by lia)
 have leA:∀{x:Qp} {n:Nat} (h1:1<=n) (h2:n<=a.size),leK L (a[n-1]'(by lia)) x->∀y∈a.toList.reverse.drop (a.size-n),leK (op L) x y:=λ{x n} h1 h2 e y hy=>by
  have:=gT (l:=a.toList) (q:=n) (by lia);rw[sz] at this;rw[this,List.mem_reverse] at hy;obtain⟨j,hj⟩:=Q6 hy;obtain⟨hj1,hj2⟩:=Qk.mp hj;rw[QP] at hj1;have hj3:a.toList[j]?=some y:=by rw[JV,if_pos (by lia)] at hj;exact hj
  exact tr _ _ _ (iI as sa hj3 (atL (show n-1<a.size by lia)) (by lia)) e
 have leB:∀{x:Qp} {n:Nat} (h1:1<=n) (h2:n<=b.size),leK L (b[n-1]'(by lia)) x->∀y∈b.toList.reverse.drop (b.size-n),leK (op L) x y:=λ{x n} h1 h2 e y hy=>by
  have:=gT (l:=b.toList) (q:=n) (by lia);rw[szb] at this;rw[this,List.mem_reverse] at hy;obtain⟨j,hj⟩:=Q6 hy;obtain⟨hj1,hj2⟩:=Qk.mp hj;rw[QP] at hj1;have hj3:b.toList[j]?=some y:=by rw[JV,if_pos (by lia)] at hj;exact hj
  exact tr _ _ _ (iI as sb hj3 (atL (show n-1<b.size by lia)) (by lia)) e
 have rA:∀{n:Nat},n<=a.size->a.toList.reverse.drop (a.size-n)=(a.toList.take n).reverse:=λ{n} hn=>by have:=gT (l:=a.toList) (q:=n) (by lia);rw[sz] at this;exact this
 have rB:∀{n:Nat},n<=b.size->b.toList.reverse.drop (b.size-n)=(b.toList.take n).reverse:=λ{n} hn=>by have:=gT (l:=b.toList) (q:=n) (by lia);rw[szb] at this;exact this
 have firstF:∀{out:Array Qp} {x y:Nat},MR L a b out x y->x<=a.size->y=1->f9 L a.toList b.toList (b.extract 0 y++a.extract 0 x++out.reverse).toList:=λ{out x y} m hx e=>by
  subst e;have f:=m.lastB (by rw[szbr];lia) (atB (Qf _) nb) λz hz=>as _ _ (first z (List.mem_reverse.mp hz));rw[rA hx,rB nb] at f;have f2:=sH f;rw[KN,KN,KA,KA,<-QG] at f2;rw[Jo,Jo,nY,nY,Array.toList_reverse];exact f2
 have doneF:∀{out:Array Qp} {x y:Nat},MR L a b out x y->x<=a.size->y<=b.size->(x=0\/y=0)->f9 L a.toList b.toList (a.extract 0 x++b.extract 0 y++out.reverse).toList:=λ{out x y} m hx hy e=>by
  have f:f9 (op L) a.toList.reverse b.toList.reverse (out.toList++a.toList.reverse.drop (a.size-x)++b.toList.reverse.drop (b.size-y)):=by
   rcases e with e | e
   ·exact m.finA (by rw[szr];lia)
   ·exact m.finB (by rw[szbr];lia)
  rw[rA hx,rB hy] at f;have f2:=sH f;rw[KN,KN,KA,KA,<-QG] at f2;rw[Jo,Jo,nY,nY,Array.toList_reverse];rcases e with e | e
  ·subst e
   simpa using f2
  ·subst e
   simpa using f2
 have pushB:∀{out:Array Qp} {x y:Nat},MR L a b out x y->(h1:1<=x)->(h2:x<=a.size)->(h3:1<=y)->(h4:y<=b.size)->leK L (a[x-1]'(by lia)) (b[y-1]'(by lia))->MR L a b (out.push (b[y-1]'(by lia))) x (y-1):=λ{out x y} m h1 h2 h3 h4 e=>by
  show MI _ _ _ (out.push _).toList _ _;rw[Zx,show b.size-(y-1)=b.size-y+1 by lia];exact m.pushB (atB h3 h4) (leA h1 h2 e)
 have pushA:∀{out:Array Qp} {x y:Nat},MR L a b out x y->(h1:1<=x)->(h2:x<=a.size)->(h3:1<=y)->(h4:y<=b.size)->leK L (b[y-1]'(by lia)) (a[x-1]'(by lia))->MR L a b (out.push (a[x-1]'(by lia))) (x-1) y:=λ{out x y} m h1 h2 h3 h4 e=>by
  show MI _ _ _ (out.push _).toList _ _;rw[Zx,show a.size-(x-1)=a.size-x+1 by lia];exact m.pushA (atA h1 h2) (leB h3 h4 e)
 have nl:a.size-1<a.size:=by lia
 refine Qs (fU (Qs (bf nl ?_)))
 have ms:MR L a b #[] a.size b.size:=by
  show MI _ _ _ _ (a.size-a.size) (b.size-b.size);rw[Zv,Zv];exact MI.start (List.pairwise_reverse.mpr sa) (List.pairwise_reverse.mpr sb)
 have m0:=pushA ms na (Qf _) nb (Qf _) (as _ _ last)
 by_cases c1:(a.size-1==0)=true
 ·first | refine bN c1 ?_ | rw[if_pos c1]
  exact QC (h _ st (.rf st) (doneF m0 (by lia) (Qf _) (.inl (beq_iff_eq.mp c1))))
 first | refine bz c1 ?_ | rw[if_neg c1]
 by_cases c2:(b.size==1)=true
 ·first | refine bN c2 ?_ | rw[if_pos c2]
  exact QC (h _ st (.rf st) (firstF m0 (by lia) (beq_iff_eq.mp c2)))
 first | refine bz c2 ?_ | rw[if_neg c2]
 have c1':¬a.size-1=0:=λe=>c1 (beq_iff_eq.mpr e);have c2':¬b.size=1:=λe=>c2 (beq_iff_eq.mpr e);refine Qs (wpS_get ?_)
 refine Qs (Zc (Jx (I:=λx c st'=>SmG st st'/\∃u v out g,c=(none,u,v,out,g)/\MH L a b out u v/\x+1<=(a.size-u)+(b.size-v))
  (Q:=λc st'=>SmG st st'/\∃r,c.1=some r/\f9 L a.toList b.toList r.toList) ?_ ?_ ⟨.rf st,_,_,_,_,rfl,⟨m0,by lia,by lia,by lia,Qf _⟩,by lia⟩) ?_)
 ·rintro x c st1 _ hx ⟨g1,u,v,out,g,rfl,G,pr⟩
  dsimp -zeta -zetaHave only
  refine Qs (Zc (Jx (I:=λy c st'=>SmG st st'/\∃u' v' out' p q,c=(none,u',v',out',p,q)/\MH L a b out' u' v'/\(a.size-u)+(b.size-v)+y<=(a.size-u')+(b.size-v'))
   (Q:=λc st'=>SmG st st'/\((∃u' v' out' p q,c=(none,u',v',out',p,q)/\MH L a b out' u' v'/\(a.size-u)+(b.size-v)+1<=(a.size-u')+(b.size-v'))\/∃r,c.1=some r/\f9 L a.toList b.toList r.toList)) ?_ ?_ ⟨g1,_,_,_,_,_,rfl,G,by lia⟩) ?_)
  ·rintro y c st2 _ hy ⟨g2,u',v',out',p,q,rfl,G',pr'⟩
   dsimp only;obtain⟨m,la,la',lb,lb'⟩:=G';have hb:v'-1<b.size:=by lia
   have ha:u'-1<a.size:=by lia
   refine Qs (bf hb (Qs (bf ha (Qs (C _ _ st2 _ (hSb _ (by simp)) (hSa _ (by simp)) (g2.k.trans hst) ?_)))));dsimp only;cases hw:L b[v'-1] a[u'-1] with
   |true=>
    first | refine bN rfl ?_ | rw[if_pos rfl]
    refine Qs (bf ha ?_);have m1:=pushA m la la' (by lia) lb' (as _ _ hw)
    by_cases d1:(u'-1==0)=true
    ·first | refine bN d1 ?_ | rw[if_pos d1]
     exact QC ⟨g2,.inr ⟨_,rfl,doneF m1 (by lia) lb' (.inl (beq_iff_eq.mp d1))⟩⟩
    ·first | refine bz d1 ?_ | rw[if_neg d1]
     have d1':¬u'-1=0:=λe=>d1 (beq_iff_eq.mpr e);split
     ·exact QC ⟨g2,.inl ⟨_,_,_,_,_,rfl,⟨m1,by lia,by lia,lb,lb'⟩,by lia⟩⟩
     ·exact QC ⟨g2,_,_,_,_,_,rfl,⟨m1,by lia,by lia,lb,lb'⟩,by lia⟩
   |false=>
    first | refine bz Ql ?_ | rw[if_neg Ql]
    refine Qs (bf hb ?_);have m1:=pushB m la la' (by lia) lb' hw
    by_cases d1:(v'-1==1)=true
    ·first | refine bN d1 ?_ | rw[if_pos d1]
     exact QC ⟨g2,.inr ⟨_,rfl,firstF m1 la' (beq_iff_eq.mp d1)⟩⟩
    ·first | refine bz d1 ?_ | rw[if_neg d1]
     have d1':¬v'-1=1:=λe=>d1 (beq_iff_eq.mpr e);split
     ·exact QC ⟨g2,.inl ⟨_,_,_,_,_,rfl,⟨m1,la,la',by lia,by lia⟩,by lia⟩⟩
     ·exact QC ⟨g2,_,_,_,_,_,rfl,⟨m1,la,la',by lia,by lia⟩,by lia⟩
  ·rintro c st2 ⟨g2,u',v',out',p,q,rfl,G',pr'⟩
   exact⟨g2,.inl ⟨_,_,_,_,_,rfl,G',by lia⟩⟩
  ·rintro c st2 ⟨g2,⟨u',v',out',p,q,rfl,G',pr'⟩ | ⟨r,e,fr⟩⟩
   ·dsimp -zeta -zetaHave only
    refine Qs (fU ?_)
    refine Qs (Zc (Jx (I:=λy c st'=>SmG st st'/\∃u2 v2 out g p q,c=(none,u2,v2,out,g,p,q)/\MH L a b out u2 v2/\(a.size-u)+(b.size-v)+1<=(a.size-u2)+(b.size-v2))
     (Q:=λc st'=>SmG st st'/\((∃u2 v2 out g p q,c=(none,u2,v2,out,g,p,q)/\MH L a b out u2 v2/\(a.size-u)+(b.size-v)+1<=(a.size-u2)+(b.size-v2))\/∃r,c.1=some r/\f9 L a.toList b.toList r.toList)) ?_ ?_ ⟨g2,_,_,_,_,_,_,rfl,G',pr'⟩) ?_)
    ·rintro y c st3 _ hy ⟨g3,u2,v2,out,g,p,q,rfl,G2,pr2⟩
     dsimp -zeta -zetaHave only;obtain⟨m,la,la',lb,lb'⟩:=G2;have hb:v2-1<b.size:=by lia
     extract_lets s1 i1 s2 b1 s3 o1 s4 mg s5 ac bc x1 jp mg1
     refine sL (f:=λz=>jp () z) λg'=>?_;dsimp -zeta -zetaHave only[jp,x1,i1,b1,o1,s1,s2,s3,s4,s5,ac,bc];refine Qs (ja λst4 g4=>Qs (bf hb (Qs (eK C (f:=λi=>!L b[v2-1] (a.getD (0+i) b[v2-1])) hSa (hSb _ (by simp)) (by lia) (by lia) ((g3.tr g4).k.trans hst) (λi hi _=>by simp only[byd,Array.getD,hi,dite_true];rfl) (λi j ij hj e=>?_) λt ht h1 h2=>?_))))
     ·have hj':0+j<a.size:=by lia
      have hi':0+i<a.size:=by lia
      simp only[Array.getD,hi',hj',dite_true,J1] at e ⊢;exact tr _ _ _ (iI as sa (atL hi') (atL hj') (by lia)) e
     dsimp -zeta -zetaHave only
     have ch:∀i,i<u2-t->∀x,a.toList.reverse[a.size-u2+i]?=some x->∀y∈b.toList.reverse.drop (b.size-v2),leK (op L) x y:=λi hi x hx=>by
      obtain⟨q1,q2,q3,q4,q5,q6⟩:=ixs (n:=a.size) hi (by omega);have hx2:=atA (n:=u2-i) (by first | assumption | omega) (by first | assumption | omega);rw[q3,hx] at hx2;cases hx2;have hj':=q4;have e:=h2 (u2-i-1) (by first | assumption | omega) (by first | assumption | omega);simp only[Array.getD,hj',dite_true,Jg,Bool.not_eq_false'] at e;exact leB (by lia) lb' (as _ _ e)
     have low:∀i (hi:i<a.size),i<t->leK L a[i] b[v2-1]:=λi hi it=>by
      have hj':i<a.size:=by lia
      have e:=h1 i it;simp only[Array.getD,hj',dite_true,Jg,J1] at e;exact e
     extract_lets kk ac2 jp2 ou ii
     refine ku (f:=λx y=>jp2 () x y) (P:=λx y=>MR L a b y x v2/\(1<=x/\x<=u2)/\∃h:x-1<a.size,leK L a[x-1] b[v2-1]) (λi2 o2 hp=>?_) (λhk0 T=>?_) λhk0=>?_
     ·obtain⟨mm,⟨hU1,hx2⟩,haU,lkb⟩:=hp
      have hU2:i2<=a.size:=by lia
      dsimp -zeta -zetaHave only[jp2,ac2,kk];refine Qs (bf hb ?_);have m2:=pushB mm hU1 hU2 (by lia) lb' lkb
      by_cases d2:(v2-1==1)=true
      ·refine bN d2 ?_
       exact QC ⟨g3.tr g4,.inr ⟨_,rfl,firstF m2 hU2 (beq_iff_eq.mp d2)⟩⟩
      refine bz d2 ?_;have d2':¬v2-1=1:=λe=>d2 (beq_iff_eq.mpr e);refine Qs (bf haU (Qs (eK C (f:=λi=>L (b.getD (0+i) a[i2-1]) a[i2-1]) hSb (hSa _ (by simp)) (by lia) (by lia) ((g3.tr g4).k.trans hst) (λi hi _=>by simp only[byd,Array.getD,hi,dite_true,if_true];rfl) (λi j ij hj e=>?_) λt2 ht2 h3 h4=>?_)))
      ·have hj':0+j<b.size:=by lia
       have hi':0+i<b.size:=by lia
       simp only[Array.getD,hi',hj',dite_true] at e ⊢;cases hv:L (b[0+i]'hi') a[i2-1] with
       |true=>rfl
       |false=>have z:=tr _ _ _ hv (iI as sb (atL hi') (atL hj') (by lia));exact absurd (e.symm.trans z) (by decide)
      dsimp -zeta -zetaHave only
      have ch:∀i,i<v2-1-t2->∀x,b.toList.reverse[b.size-(v2-1)+i]?=some x->∀y∈a.toList.reverse.drop (a.size-i2),leK (op L) x y:=λi hi x hx=>by
       obtain⟨q1,q2,q3,q4,q5,q6⟩:=ixs (n:=b.size) hi (by omega);have hx2:=atB (n:=v2-1-i) (by first | assumption | omega) (by first | assumption | omega);rw[q3,hx] at hx2;cases hx2;have hj':=q4;have e:=h4 (v2-1-i-1) (by first | assumption | omega) (by first | assumption | omega);simp only[Array.getD,hj',dite_true,Jg] at e;exact leA hU1 hU2 e
      have lkA:∀i (hi:i<b.size),i<t2->leK L b[i] a[i2-1]:=λi hi it=>by
       have hj':i<b.size:=hi;have e:=h3 i it;simp only[Array.getD,hj',dite_true,Jg] at e;exact as _ _ e
      extract_lets k3 bc2 na3 jp3 ou3 nb3
      refine ku (f:=λx y=>jp3 () x y) (P:=λx y=>MR L a b y i2 x/\(2<=x/\x<=v2-1)/\∃h:x-1<b.size,leK L b[x-1] a[i2-1]) (λi4 o4 hp=>?_) (λhk20 T=>?_) λhk20=>?_
      ·obtain⟨m3,⟨hV0,hV4⟩,hV3,lka⟩:=hp
       have hV2:i4<=b.size:=by lia
       dsimp -zeta -zetaHave only[jp3,bc2,na3,k3];refine Qs (bf haU ?_);have m4:=pushA m3 hU1 hU2 (by lia) hV2 lka
       by_cases d3:(i2-1==0)=true
       ·refine bN d3 ?_
        exact QC ⟨g3.tr g4,.inr ⟨_,rfl,doneF m4 (by lia) hV2 (.inl (beq_iff_eq.mp d3))⟩⟩
       refine bz d3 ?_;have d3':¬i2-1=0:=λe=>d3 (beq_iff_eq.mpr e);have pr3:a.size-u+(b.size-v)+1<=a.size-(i2-1)+(b.size-i4):=by lia
       split
       ·exact QC ⟨g3.tr g4,.inl ⟨_,_,_,_,_,_,rfl,⟨m4,by lia,by lia,hV0,hV2⟩,pr3⟩⟩
       ·exact QC ⟨g3.tr g4,_,_,_,_,_,_,rfl,⟨m4,by lia,by lia,hV0,hV2⟩,pr3⟩
      ·have hk21:v2-1-t2>0:=hk20
       have m3:=m2.chunkB (v2-1-t2) (by rw[szbr];lia) ch;have cut:=tx (l:=b.toList) (p:=t2) (q:=v2-1) ht2 (by lia);rw[szb] at cut;rw[cut,<-xT,<-Jo,show b.size-(v2-1)+(v2-1-t2)=b.size-t2 by lia] at m3
       by_cases d4:(t2==1)=true
       ·refine bN d4 ?_
        exact QC ⟨g3.tr g4,.inr ⟨_,rfl,firstF m3 hU2 (beq_iff_eq.mp d4)⟩⟩
       refine bz d4 ?_
       by_cases d5:(t2==0)=true
       ·refine bN d5 ?_
        exact QC ⟨g3.tr g4,.inr ⟨_,rfl,doneF m3 hU2 (by lia) (.inr (beq_iff_eq.mp d5))⟩⟩
       have d4':¬t2=1:=λe=>d4 (beq_iff_eq.mpr e);have d5':¬t2=0:=λe=>d5 (beq_iff_eq.mpr e);have hV3:t2-1<b.size:=by lia
       exact bz d5 (T t2 _ ⟨m3,⟨by lia,by lia⟩,hV3,lkA _ hV3 (by lia)⟩)
      ·have e0:t2=v2-1:=by have:¬v2-1-t2>0:=hk20;lia
       have hV3:v2-1-1<b.size:=by lia
       exact⟨m2,⟨by lia,Qf _⟩,hV3,lkA _ hV3 (by lia)⟩
     ·have hk1:u2-t>0:=hk0
      have m1:=m.chunkA (u2-t) (by rw[szr];lia) ch;have cut:=tx (l:=a.toList) (p:=t) (q:=u2) ht (by lia);rw[sz] at cut;rw[cut,<-xT,<-Jo,show a.size-u2+(u2-t)=a.size-t by lia] at m1
      by_cases d1:(t==0)=true
      ·refine bN d1 ?_
       exact QC ⟨g3.tr g4,.inr ⟨_,rfl,doneF m1 (by lia) lb' (.inl (beq_iff_eq.mp d1))⟩⟩
      have d1':¬t=0:=λe=>d1 (beq_iff_eq.mpr e);have hU3:t-1<a.size:=by lia
      exact bz d1 (T t _ ⟨m1,⟨by lia,by lia⟩,hU3,low _ hU3 (by lia)⟩)
     ·have e0:t=u2:=by have:¬u2-t>0:=hk0;lia
      have hU3:u2-1<a.size:=by lia
      exact⟨m,⟨la,Qf _⟩,hU3,low _ hU3 (by lia)⟩
    ·rintro c st3 ⟨g3,u',v',out',g',p,q,rfl,G',pr'⟩
     exact⟨g3,.inl ⟨_,_,_,_,_,_,rfl,G',pr'⟩⟩
    ·rintro c st3 ⟨g3,⟨u',v',out',g',p,q,rfl,G',pr'⟩ | ⟨r,e,fr⟩⟩
     ·dsimp only
      refine Qs (ja λst4 g4=>QC ⟨g3.tr g4,_,_,_,_,rfl,G',by lia⟩)
     ·obtain⟨c1,c2⟩:=c
      cases e;exact QC ⟨g3,r,rfl,fr⟩
   ·obtain⟨c1,c2⟩:=c
    cases e;exact QC ⟨g2,r,rfl,fr⟩
 ·rintro c st1 ⟨g1,u,v,out,g,rfl,G,pr⟩
  have:=G.la;have:=G.la';have:=G.lb;have:=G.lb'
  lia
 ·rintro c st1 ⟨g1,r,e,fr⟩
  obtain⟨c1,c2⟩:=c;cases e;exact QC (h r st1 g1 fr)
end
def qt:Nat->StateT QY Sem Bool:=sortPriv% PySem.Builtin.mergeAt
theorem fP{l:List Qp}{i:Nat}(h:i<l.length)(d:Qp):l.getD i d=l[i]:=by simp[List.getD,h]
theorem g_(p r:List Qp)(k:Nat):(p++r).drop (p.length+k)=r.drop k:=by rw[<-List.drop_drop,List.drop_left]
theorem x_(p r:List Qp)(k:Nat):(p++r).take (p.length+k)=p++r.take k:=by rw[List.take_append,JZ (by lia),ZA]
theorem mU:∀(l:List Qp) (n s0:Nat) (xs:Array Qp),s0+n+l.length<=xs.size->((l.zipIdx n).foldl (λa (p,j)=>a.setIfInBounds (s0+j) p) xs).toList=xs.toList.take (s0+n)++l++xs.toList.drop (s0+n+l.length)
 |[],n,s0,xs,h=>by simp
 |x::l,n,s0,xs,h=>by
  simp only[QA] at h;rw[List.zipIdx_cons,List.foldl_cons];have ih:=mU l (n+1) s0 (xs.setIfInBounds (s0+n) x) (by rw[Array.size_setIfInBounds];lia);rw[ih,Array.toList_setIfInBounds];have lt:s0+n<xs.toList.length:=by simp;lia
  have e1:(xs.toList.set (s0+n) x).take (s0+(n+1))=xs.toList.take (s0+n)++[x]:=by
   rw[show s0+(n+1)=s0+n+1 by lia,List.take_add_one,List.take_set_of_le (Qf _),List.getElem?_set_self lt];rfl
  have e2:(xs.toList.set (s0+n) x).drop (s0+(n+1)+l.length)=xs.toList.drop (s0+n+(x::l).length):=by
   rw[List.drop_set_of_lt (by lia)];congr 1;simp only[QA];lia
  rw[e1,e2];simp
section
variable{M:Model}{A:QU}{E:Qb->Qc->Prop}{s:Qc}{κ:ZH}{S:Qp->Prop}{L:Qp->Qp->Bool}
theorem zR{st st':QY}{Q:PUnit->QY->Prop}(h:Q ⟨⟩ st'):wpS M A E s (set st':StateT QY Sem PUnit) Q st:=Kz (f:=λ_=>st') h
theorem Ee(tr:∀x y z,L y x=false->L z y=false->L z x=false){Al Bl r:List Qp}{k m:Nat}{key key2:Qp}(sA:Al.Pairwise (leK L))(sB:Bl.Pairwise (leK L))(kB:∀y∈Bl,leK L key y)(kA:∀x∈Al,leK L x key2)(c1:∀x∈Al.take k,leK L x key)(c2:∀y∈Bl.drop m,leK L key2 y)(pr:r.Pairwise (leK L))(pm:r.Perm (Al.drop k++Bl.take m)) :
  (Al.take k++r++Bl.drop m).Pairwise (leK L)/\(Al.take k++r++Bl.drop m).Perm (Al++Bl):=by
 have a1:=QW.mp (show(Al.take k++Al.drop k).Pairwise (leK L) by rw[Q1];exact sA);have b1:=QW.mp (show(Bl.take m++Bl.drop m).Pairwise (leK L) by rw[Q1];exact sB);refine⟨QW.mpr ⟨QW.mpr ⟨a1.1,pr,λx hx y hy=>?_⟩,b1.2.1,λx hx y hy=>?_⟩,?_⟩
 ·rcases QM.mp (pm.mem_iff.mp hy) with h | h
  ·exact a1.2.2 x hx y h
  ·exact tr _ _ _ (c1 x hx) (kB y (Kw h))
 ·rcases QM.mp hx with h | h
  ·exact tr _ _ _ (c1 x h) (kB y (Zu hy))
  ·rcases QM.mp (pm.mem_iff.mp h) with h | h
   ·exact tr _ _ _ (kA x (Zu h)) (c2 y hy)
   ·exact b1.2.2 x h y hy
 ·have e:Al++Bl=Al.take k++(Al.drop k++Bl.take m)++Bl.drop m:=by
   rw[<-QG,Q1,QG,Q1]
  rw[e];exact((List.Perm.refl _).append pm).append (List.Perm.refl _)
theorem sd(C:mj M A E s κ S L)(as:∀x y,L x y=true->L y x=false)(tr:∀x y z,L y x=false->L z y=false->L z x=false){i pw pw':Nat}{pre Al Bl post:List Qp}{st:QY}{Q:Bool->QY->Prop}(hst:Js st=κ)(hf:JB st=none)
  (hp1:(Jb st)[i]?=some (pre.length,Al.length,pw)) (hp2:(Jb st)[i+1]?=some (pre.length+Al.length,Bl.length,pw')) (hl:(Qq st).toList=pre++Al++Bl++post) (hS:∀x∈(Qq st).toList,S x) (nA:1<=Al.length) (nB:1<=Bl.length) (sA:Al.Pairwise (leK L)) (sB:Bl.Pairwise (leK L))
  (h:∀st' Cl,Js st'=κ->JB st'=none->Jb st'=((Jb st).setIfInBounds i (pre.length,Al.length+Bl.length,pw)).eraseIdxIfInBounds (i+1)->(Qq st').toList=pre++Cl++post->Cl.Pairwise (leK L)->Cl.Perm (Al++Bl)->Q true st'):wpS M A E s (qt i) Q st:=by
 have szz:(Qq st).size=pre.length+Al.length+Bl.length+post.length:=by rw[<-Qu,hl];simp;lia
 have atA:∀j (hj:j<Al.length) (h2:pre.length+j<(Qq st).size),(Qq st)[pre.length+j]=Al[j]:=λj hj h2=>by
  have:(Qq st).toList[pre.length+j]?=some Al[j]:=by
   rw[hl,QG,QG,QH (by lia),ZA,QT hj];simp
  rw[atL h2] at this;exact Option.some.inj this
 have atB:∀j (hj:j<Bl.length) (h2:pre.length+Al.length+j<(Qq st).size),(Qq st)[pre.length+Al.length+j]=Bl[j]:=λj hj h2=>by
  have:(Qq st).toList[pre.length+Al.length+j]?=some Bl[j]:=by
   rw[hl,QG (pre++Al),QH (by simp),Qr,ZA,QT hj];simp
  rw[atL h2] at this;exact Option.some.inj this
 have pA:∀i j (hi:i<Al.length) (hj:j<Al.length),i<=j->leK L Al[i] Al[j]:=λi j hi hj ij=>iI as sA (by simp) (by simp) ij;have pB:∀i j (hi:i<Bl.length) (hj:j<Bl.length),i<=j->leK L Bl[i] Bl[j]:=λi j hi hj ij=>iI as sB (by simp) (by simp) ij
 have kB:∀y∈Bl,leK L Bl[0] y:=λy hy=>by
  obtain⟨j,hj,rfl⟩:=Zw.mp hy;exact pB 0 j nB hj (QN _)
 have kA:∀x∈Al,leK L x (Al[Al.length-1]'(by omega)):=λx hx=>by
  obtain⟨j,hj,rfl⟩:=Zw.mp hx;exact pA j _ hj (by lia) (by lia)
 refine Qs (wpS_get ?_);rw[show(sortPriv% PySem.Builtin.SortState.a) st=Qq st from rfl,hp1,hp2];dsimp only;have hb:pre.length+Al.length<(Qq st).size:=by lia
 have eb:=atB 0 nB (by lia);simp only[ZR] at eb;refine Qs (zR (Qs (bf hb ?_)));rw[eb];show wpS M A E s _ _ (ZK (Js st) (Qq st) (((Jb st).setIfInBounds i (pre.length,Al.length+Bl.length,pw)).eraseIdxIfInBounds (i+1)) (gallopOf st) (JB st));generalize hst2:ZK _ _ _ _ _=st2;have k2:Js st2=κ:=by rw[<-hst2];exact hst
 have a2:Qq st2=Qq st:=by rw[<-hst2]
 have p2:Jb st2=((Jb st).setIfInBounds i (pre.length,Al.length+Bl.length,pw)).eraseIdxIfInBounds (i+1):=by rw[<-hst2]
 have f2:JB st2=none:=by rw[<-hst2];exact hf
 have sb0:S Bl[0]:=hS _ (by rw[hl];simp);refine Qs (eK C (f:=λj=>!L Bl[0] (Al.getD j Bl[0])) hS sb0 (by lia) (by lia) k2 (λj hj hj2=>?_) (λx y xy hy e=>?_) λk hk h1 h2=>?_)
 ·simp only[byd,atA j hj2 hj]
  simp[hj2]
 ·have hx':x<Al.length:=by lia
  simp only[fP hy,fP hx',J1] at e ⊢;exact tr _ _ _ (pA x y hx' hy xy) e
 dsimp only
 have c1:∀x∈Al.take k,leK L x Bl[0]:=λx hx=>by
  obtain⟨j,hj,rfl⟩:=Zw.mp hx;rw[QP] at hj;have e:=h1 j (by lia);rw[List.getElem_take];have hj':j<Al.length:=by lia
  simp only[fP hj',J1] at e;exact e
 by_cases d1:(Al.length-k==0)=true
 ·rw[if_pos d1]
  have ek:k=Al.length:=by have:=beq_iff_eq.mp d1;lia
  subst ek;obtain⟨g1,g2⟩:=Ee (k:=Al.length) (m:=0) (r:=[]) (key2:=Al[Al.length-1]'(by lia)) tr sA sB kB kA c1 (λy hy=>tr _ _ _ (c1 _ (by rw[List.take_length];exact ZG _)) (kB y (by simpa using hy))) List.Pairwise.nil (by simp);simp only[List.take_length,Jp,List.drop_zero] at g1 g2;exact QC (h st2 (Al++Bl) k2 f2 p2 (by rw[a2,hl];simp) g1 g2)
 ·rw[if_neg d1]
  have d1':¬Al.length-k=0:=λe=>d1 (beq_iff_eq.mpr e);have hla:pre.length+k+(Al.length-k)-1<(Qq st).size:=by lia
  have ela:(Qq st)[pre.length+k+(Al.length-k)-1]=Al[Al.length-1]'(by lia):=by
   have:=atA (Al.length-1) (by lia) (by lia);rw[<-this];congr 1;lia
  have sl:S (Al[Al.length-1]'(by lia)):=hS _ (by rw[hl];simp);refine Qs (bf hla ?_);rw[ela];generalize hkey2:Al[Al.length-1]'(by lia)=key2 at sl kA;refine Qs (eK C (f:=λj=>L (Bl.getD j key2) key2) hS sl (by lia) (by lia) k2 (λj hj hj2=>?_) (λx y xy hy e=>?_) λm hm h3 h4=>?_)
  ·simp only[byd,atB j hj2 hj]
   simp[hj2]
  ·have hx':x<Bl.length:=by lia
   simp only[fP hy,fP hx'] at e ⊢;cases hv:L Bl[x] key2 with
   |true=>rfl
   |false=>have z:=tr _ _ _ hv (pB x y hx' hy xy);exact absurd (e.symm.trans z) (by decide)
  dsimp only
  have c2:∀y∈Bl.drop m,leK L key2 y:=λy hy=>by
   obtain⟨j,hj,rfl⟩:=Zw.mp hy;rw[Ji] at hj;have e:=h4 (m+j) (by lia) (by lia);rw[List.getElem_drop];have hj':m+j<Bl.length:=by lia
   simp only[fP hj'] at e;exact e
  by_cases d2:(m==0)=true
  ·rw[if_pos d2]
   have em:=beq_iff_eq.mp d2;subst em;obtain⟨g1,g2⟩:=Ee (k:=k) (m:=0) (r:=Al.drop k) tr sA sB kB kA c1 c2 ((QW.mp (show(Al.take k++Al.drop k).Pairwise (leK L) by rw[Q1];exact sA)).2.1) (by simp);simp only[Q1,List.drop_zero] at g1 g2;exact QC (h st2 (Al++Bl) k2 f2 p2 (by rw[a2,hl];simp) g1 g2)
  ·rw[if_neg d2]
   have d2':¬m=0:=λe=>d2 (beq_iff_eq.mpr e);have hl':(Qq st).toList=pre++(Al++(Bl++post)):=by rw[hl];simp
   have ex:((Qq st).extract (pre.length+k) (pre.length+Al.length)).toList=Al.drop k:=by
    rw[Array.toList_extract,hl',List.extract_eq_take_drop,g_,List.drop_append_of_le_length (by lia)];exact List.take_left' (by rw[Ji];lia)
   have ey:((Qq st).extract (pre.length+Al.length) (pre.length+Al.length+m)).toList=Bl.take m:=by
    rw[Array.toList_extract,hl',List.extract_eq_take_drop,g_,show pre.length+Al.length+m-(pre.length+Al.length)=m by lia];rw[show Al.length=Al.length+0 from rfl,g_,List.drop_zero];exact List.take_append_of_le_length hm
   generalize hX:(Qq st).extract (pre.length+k) (pre.length+Al.length)=X at ex;generalize hY:(Qq st).extract (pre.length+Al.length) (pre.length+Al.length+m)=Y at ey;have xl:X.size=Al.length-k:=by rw[<-Qu,ex,Ji]
   have yl:Y.size=m:=by rw[<-Qu,ey,QP];lia
   have x0:X[0]'(by lia)=Al[k]'(by lia):=by
    have:X.toList[0]?=some (Al[k]'(by lia)):=by rw[ex];simp[show k<Al.length by lia]
    rw[atL (by lia)] at this;exact Option.some.inj this
   have xL:X[X.size-1]'(by lia)=key2:=by
    have:X.toList[X.size-1]?=some key2:=by
     rw[ex,JW,show k+(X.size-1)=Al.length-1 by lia,<-hkey2];simp[show Al.length-1<Al.length by lia]
    rw[atL (by lia)] at this;exact Option.some.inj this
   have y0:Y[0]'(by lia)=Bl[0]:=by
    have:Y.toList[0]?=some Bl[0]:=by rw[ey,JV,if_pos (by lia)];simp
    rw[atL (by lia)] at this;exact Option.some.inj this
   have sX:X.toList.Pairwise (leK L):=by rw[ex];exact(QW.mp (show(Al.take k++Al.drop k).Pairwise (leK L) by rw[Q1];exact sA)).2.1
   have sY:Y.toList.Pairwise (leK L):=by rw[ey];exact(QW.mp (show(Bl.take m++Bl.drop m).Pairwise (leK L) by rw[Q1];exact sB)).1
   have SX:∀x∈X.toList,S x:=λx hx=>hS x (by rw[ex] at hx;rw[hl];simp[Zu hx]);have SY:∀x∈Y.toList,S x:=λx hx=>hS x (by rw[ey] at hx;rw[hl];simp[Kw hx])
   have fk:L Bl[0] (Al[k]'(by lia))=true:=by
    have e:=h2 k (Qf _) (by lia);simpa only[fP (show k<Al.length by lia),Bool.not_eq_false'] using e
   have lastY:∀z∈Y.toList,L z key2=true:=λz hz=>by
    rw[ey] at hz;obtain⟨j,hj,rfl⟩:=Zw.mp hz;rw[QP] at hj;rw[List.getElem_take];have hj':j<Bl.length:=by lia
    have e:=h3 j (by lia);simpa only[fP hj'] using e
   have firstX:∀z∈X.toList,L Bl[0] z=true:=λz hz=>by
    rw[ex] at hz;obtain⟨j,hj,rfl⟩:=Zw.mp hz;rw[Ji] at hj;rw[List.getElem_drop];cases hv:L Bl[0] (Al[k+j]'(by lia)) with
    |true=>rfl
    |false=>have z:=tr _ _ _ (pA k (k+j) (by lia) (by lia) (by lia)) hv;exact absurd (fk.symm.trans z) (by decide)
   have fin:∀(r:Array Qp) (st3:QY),SmG st2 st3->f9 L X.toList Y.toList r.toList->wpS M A E s (do
     modify λs=>ZK (Js s) (List.foldl (λa x=>a.setIfInBounds (pre.length+k+x.snd) x.fst) (Qq s) r.toList.zipIdx) (Jb s) (gallopOf s) (JB s)
     let u<-get
     pure (JB u).isNone) Q st3:=λr st3 g3 fr=>by
    refine Qs (Kz (Qs (wpS_get ?_)));rw[ex,ey] at fr;obtain⟨g1,g2⟩:=Ee (k:=k) (m:=m) tr sA sB kB kA c1 c2 fr.1 fr.2;have rl:r.toList.length=Al.length-k+m:=by rw[fr.2.length_eq,Qr,Ji,QP];lia
    have e3:JB st3=none:=g3.f.trans f2;have big:pre.length+k+0+r.toList.length<=(Qq st3).size:=by rw[g3.a,a2,rl];lia
    have wa:=mU r.toList 0 (pre.length+k) (Qq st3) big;rw[g3.a,a2,hl'] at wa;have:(JB (ZK (Js st3) (List.foldl (λa x=>a.setIfInBounds (pre.length+k+x.snd) x.fst) (Qq st3) r.toList.zipIdx) (Jb st3) (gallopOf st3) (JB st3))).isNone=true:=by show(JB st3).isNone=true;rw[e3];rfl
    rw[this];refine QC (h _ (Al.take k++r.toList++Bl.drop m) (g3.k.trans k2) e3 (g3.p.trans p2) ?_ g1 g2);show(List.foldl (λa x=>a.setIfInBounds (pre.length+k+x.snd) x.fst) (Qq st3) r.toList.zipIdx).toList=_;rw[g3.a,a2];refine wa.trans ?_;rw[ZR,x_,List.take_append_of_le_length (by lia),rl,show pre.length+k+(Al.length-k+m)=pre.length+(Al.length+m) by lia,g_,g_,List.drop_append_of_le_length hm];simp
   by_cases d3:Al.length-k<=m
   ·rw[if_pos d3]
    refine Qs (rZ C as tr SX SY sX sY (by lia) (by lia) (by rw[x0,y0];exact fk) (λz hz=>by rw[xL];exact lastY z hz) k2 λr st3 g3 fr=>?_);exact fin r st3 g3 fr
   ·rw[if_neg d3]
    refine Qs (rX C as tr SX SY sX sY (by lia) (by lia) (λz hz=>by rw[y0];exact firstX z hz) (by rw[xL];exact lastY _ (by simp)) k2 λr st3 g3 fr=>?_);exact fin r st3 g3 fr
end
def uP:Nat->Nat->StateT QY Sem (Option Nat):=sortPriv% PySem.Builtin.countRun
theorem zT{M:Model}{A:QU}{E:Qb->Qc->Prop}{s:Qc}{i j:Nat}{Q:Unit->QY->Prop}{st:QY}(h:Q () (setArr st (Z8 (Qq st) i j ((j-i)/2)))):wpS M A E s (reverseSlice' i j) Q st:=by
 rw[reverseSlice'_eq];exact Kz h
def dK:Qp:=(JH,JH)
def gt(xs:Array Qp)(i:Nat):Qp:=xs.getD i dK
theorem uI{xs:Array Qp}{i:Nat}(h:i<xs.size):gt xs i=xs[i]:=by simp[gt,Array.getD,h]
theorem yL(xs:Array Qp)(i:Nat):gt xs i=(xs[i]?).getD dK:=by
 by_cases h:i<xs.size
 ·simp[gt,Array.getD,h]
 ·simp[gt,Array.getD,h]
def UpA(L:Qp->Qp->Bool)(xs:Array Qp)(lo n:Nat):Prop:=∀i j,i<=j->j<n->leK L (gt xs (lo+i)) (gt xs (lo+j))
def DwA(L:Qp->Qp->Bool)(xs:Array Qp)(lo n:Nat):Prop:=∀i j,i<=j->j<n->leK L (gt xs (lo+j)) (gt xs (lo+i))
structure FrR(st0:QY)(lo:Nat)(st:QY):Prop where
 k:Js st=Js st0
 p:Jb st=Jb st0
 f:JB st=JB st0
 pm:(Qq st).toList.Perm (Qq st0).toList
 tk:(Qq st).toList.take lo=(Qq st0).toList.take lo
theorem FrR.rf(st:QY)(lo:Nat):FrR st lo st:=⟨rfl,rfl,rfl,List.Perm.refl _,rfl⟩
theorem FrR.sz{st0 st:QY}{lo:Nat}(h:FrR st0 lo st):(Qq st).size=(Qq st0).size:=by rw[<-Qu,<-Qu];exact h.pm.length_eq
theorem FrR.S{st0 st:QY}{lo:Nat}(h:FrR st0 lo st){P:Qp->Prop}(hS:∀x∈(Qq st0).toList,P x):∀x∈(Qq st).toList,P x:=λx hx=>hS x (h.pm.mem_iff.mp hx)
theorem fS{xs:Array Qp}{i j:Nat}(hj:j<=xs.size)(k:Nat):gt (Z8 xs i j ((j-i)/2)) k=if i<=k/\k<j then gt xs (i+j-1-k) else gt xs k:=by
 rw[yL,getElem?_mirror_all hj];split<;>rw[yL]
theorem C4{xs:Array Qp}{src d:Nat}(hs:src<xs.size)(hd:d<=src)(k:Nat):gt (bubble xs src d) k=if k=src-d then gt xs src else if src-d<k/\k<=src then gt xs (k-1) else gt xs k:=by
 rw[yL,getElem?_bubble hs d hd];split
 ·rw[yL]
 ·split<;>rw[yL]
theorem FrR.mir{st0 st:QY}{lo p q:Nat}(h:FrR st0 lo st)(hp:lo<=p)(hq:q<=(Qq st).size):FrR st0 lo (setArr st (Z8 (Qq st) p q ((q-p)/2))):=by
 refine⟨h.k,h.p,h.f,(ZY.mp (mirror_perm _ _ _ _)).trans h.pm,?_⟩;show(Z8 (Qq st) p q ((q-p)/2)).toList.take lo=_;rw[<-h.tk];apply Jv;intro k;rw[JV,JV];split
 ·rename_i hk
  rw[Qw,Qw,getElem?_mirror_all hq,if_neg (by lia)]
 ·rfl
theorem FrR.bub{st0 st:QY}{lo src d:Nat}(h:FrR st0 lo st)(hs:src<(Qq st).size)(hd:lo+d<=src):FrR st0 lo (setArr st (bubble (Qq st) src d)):=by
 refine⟨h.k,h.p,h.f,(ZY.mp (bubble_perm _ _ _)).trans h.pm,?_⟩;show(bubble (Qq st) src d).toList.take lo=_;rw[<-h.tk];apply Jv;intro k;rw[JV,JV];split
 ·rename_i hk
  rw[Qw,Qw,getElem?_bubble hs d (by lia),if_neg (by lia),if_neg (by lia)]
 ·rfl
section
variable{M:Model}{A:QU}{E:Qb->Qc->Prop}{s:Qc}{κ:ZH}{S:Qp->Prop}{L:Qp->Qp->Bool}
theorem eM(C:mj M A E s κ S L){i j:Nat}{st:QY}{Q:Option Bool->QY->Prop}(hS:∀x∈(Qq st).toList,S x)(hst:Js st=κ)(hi:i<(Qq st).size)(hj:j<(Qq st).size)(h:Q (some (L (gt (Qq st) i) (gt (Qq st) j))) st):wpS M A E s (ltAt' i j) Q st:=by
 rw[ltAt'_eq];refine Qs (wpS_get ?_);refine Qs (bf hi (Qs (bf hj ?_)));rw[uI hi,uI hj] at h;exact C _ _ st _ (hS _ (by simp)) (hS _ (by simp)) hst h
theorem UpA.one(as:∀x y,L x y=true->L y x=false)(xs:Array Qp)(lo:Nat):UpA L xs lo 1:=λi j h1 h2=>by
 have:i=j:=by lia
 subst this;cases hv:L (gt xs (lo+i)) (gt xs (lo+i)) with
 |false=>exact hv
 |true=>have:=as _ _ hv;rw[hv] at this;cases this
theorem UpA.more(as:∀x y,L x y=true->L y x=false)(tr:∀x y z,L y x=false->L z y=false->L z x=false){xs:Array Qp}{lo n:Nat}(h:UpA L xs lo n)(hn:1<=n)(e:L (gt xs (lo+n)) (gt xs (lo+n-1))=false):UpA L xs lo (n+1):=λi j h1 h2=>by
 by_cases hj:j=n
 ·subst hj
  by_cases hi:i=j
  ·subst hi
   exact UpA.one as xs (lo+i) 0 0 (Qf _) (by lia)
  ·have e2:=h i (j-1) (by lia) (by lia)
   rw[show lo+(j-1)=lo+j-1 by lia] at e2;exact tr _ _ _ e2 e
 ·exact h i j h1 (by lia)
theorem DwA.more(as:∀x y,L x y=true->L y x=false)(tr:∀x y z,L y x=false->L z y=false->L z x=false){xs:Array Qp}{lo n:Nat}(h:DwA L xs lo n)(hn:1<=n)(e:leK L (gt xs (lo+n)) (gt xs (lo+n-1))):DwA L xs lo (n+1):=λi j h1 h2=>by
 by_cases hj:j=n
 ·subst hj
  by_cases hi:i=j
  ·subst hi
   exact UpA.one as xs (lo+i) 0 0 (Qf _) (by lia)
  ·have e2:=h i (j-1) (by lia) (by lia)
   rw[show lo+(j-1)=lo+j-1 by lia] at e2;exact tr _ _ _ e e2
 ·exact h i j h1 (by lia)
def EqA(L:Qp->Qp->Bool)(xs:Array Qp)(lo n q:Nat):Prop:=∀i j,n-(q+1)<=i->i<n->n-(q+1)<=j->j<n->leK L (gt xs (lo+i)) (gt xs (lo+j))
theorem nZ{lo p n:Nat}(hp:p<=n){j:Nat}(h1:p<=j)(h2:j<n):lo+p+(lo+n)-1-(lo+j)=lo+(p+n-1-j)/\p<=p+n-1-j/\p+n-1-j<n:=by lia
theorem DwA.turn{xs:Array Qp}{lo n q:Nat}(hq:q<n)(hs:lo+n<=xs.size)(h:DwA L xs lo n)(e:EqA L xs lo n q):DwA L (Z8 xs (lo+n-(q+1)) (lo+n) ((lo+n-(lo+n-(q+1)))/2)) lo n:=by
 unfold EqA at e;rw[show lo+n-(q+1)=lo+(n-(q+1)) from Nat.add_sub_assoc hq lo];have hp:n-(q+1)<=n:=Nat.sub_le _ _;generalize n-(q+1)=p at e hp ⊢;intro i j h1 h2;rw[fS hs,fS hs];have jn:lo+j<lo+n:=KO h2 lo;have i2:i<n:=ZO h1 h2
 by_cases cj:p<=j
 ·obtain⟨j1,j2,j3⟩:=nZ (lo:=lo) hp cj h2
  rw[if_pos (⟨KP cj lo,jn⟩:lo+p<=lo+j/\lo+j<lo+n),j1]
  by_cases ci:p<=i
  ·obtain⟨i1,i3,i4⟩:=nZ (lo:=lo) hp ci i2
   rw[if_pos (⟨KP ci lo,KO i2 lo⟩:lo+p<=lo+i/\lo+i<lo+n),i1];exact e _ _ j2 j3 i3 i4
  ·rw[if_neg λz=>ci (Nat.le_of_add_le_add_left z.1)]
   exact h i _ (Q4 (Jr (Nat.lt_of_not_le ci)) j2) j3
 ·rw[if_neg λz=>cj (Nat.le_of_add_le_add_left z.1),if_neg λz=>cj (Q4 (Nat.le_of_add_le_add_left z.1) h1)]
  exact h i j h1 h2
theorem DwA.flip{xs:Array Qp}{lo n:Nat}(hs:lo+n<=xs.size)(h:DwA L xs lo n):UpA L (Z8 xs lo (lo+n) ((lo+n-lo)/2)) lo n:=λi j h1 h2=>by
 have i2:i<n:=ZO h1 h2;obtain⟨i1,_,i4⟩:=nZ (lo:=lo) (QN n) (QN i) i2;obtain⟨j1,_,_⟩:=nZ (lo:=lo) (QN n) (QN j) h2;rw[ZR] at i1 j1;rw[fS hs,fS hs,if_pos ⟨Kx _ _,KO i2 lo⟩,if_pos ⟨Kx _ _,KO h2 lo⟩,i1,j1];exact h _ _ (Nat.sub_le_sub_left h1 _) i4
theorem wy(C:mj M A E s κ S L)(as:∀x y,L x y=true->L y x=false)(tr:∀x y z,L y x=false->L z y=false->L z x=false){lo nrem:Nat}{st:QY}{Q:Option Nat->QY->Prop}(hst:Js st=κ)(hS:∀x∈(Qq st).toList,S x)(h1:1<=nrem)(hb:lo+nrem<=(Qq st).size)
  (h:∀n st',FrR st lo st'->1<=n->n<=nrem->UpA L (Qq st') lo n->Q (some n) st'):wpS M A E s (uP lo nrem) Q st:=by
 have rfl':∀x,leK L x x:=λx=>by
  cases hv:L x x with
  |false=>exact hv
  |true=>have:=as _ _ hv;rw[hv] at this;cases this
 have fr0:=FrR.rf st lo;have szS:=fr0.sz;refine Qs (Zc (Jx (I:=λx c st'=>st=st'/\c=(none,x)/\UpA L (Qq st) lo x) (Q:=λc st'=>st=st'/\∃n,c=(none,n)/\1<=n/\n<=nrem/\UpA L (Qq st) lo n/\(n=nrem\/L (gt (Qq st) (lo+n)) (gt (Qq st) (lo+n-1))=true)) ?_ ?_ ⟨rfl,rfl,(UpA.one as _ _)⟩) ?_)
 ·rintro x c st' hx1 hx2 ⟨rfl,rfl,up⟩
  dsimp only;refine Qs (eM C (fr0.S hS) (fr0.k.trans hst) (by lia) (by lia) ?_);dsimp only;cases hv:L (gt (Qq st) (lo+x)) (gt (Qq st) (lo+x-1)) with
  |true=>exact QC ⟨rfl,x,rfl,hx1,by lia,up,.inr hv⟩
  |false=>exact QC ⟨rfl,rfl,up.more as tr (by lia) hv⟩
 ·rintro c st' ⟨rfl,rfl,up⟩
  have em:max (1) nrem=nrem:=by lia
  rw[em] at up ⊢;exact⟨rfl,nrem,rfl,by lia,Qf _,up,.inl rfl⟩
 rintro c st' ⟨rfl,n,rfl,n1,n2,up,e⟩;dsimp -zeta -zetaHave only
 by_cases d1:(n==nrem)=true
 ·first | refine bN d1 ?_ | rw[if_pos d1]
  exact QC (h n st fr0 n1 n2 up)
 first | refine bz d1 ?_ | rw[if_neg d1]
 have d1':¬n=nrem:=λe=>d1 (beq_iff_eq.mpr e);have hd:L (gt (Qq st) (lo+n)) (gt (Qq st) (lo+n-1))=true:=e.resolve_left d1'
 extract_lets n1v neq0 jp
 have K:∀st1,FrR st lo st1->DwA L (Qq st1) lo (n+1)->wpS M A E s (jp ()) Q st1:=by
  intro st1 fr1 dw1;dsimp -zeta -zetaHave only[jp,n1v,neq0];refine Qs (fU ?_);refine Qs (Zc (Jx (I:=λx c st'=>FrR st lo st'/\∃q,c=(none,x,q)/\q<x/\DwA L (Qq st') lo x/\EqA L (Qq st') lo x q) (Q:=λc st'=>FrR st lo st'/\∃m q,c=(none,m,q)/\1<=m/\m<=nrem/\q<m/\DwA L (Qq st') lo m/\EqA L (Qq st') lo m q) ?_ ?_ ⟨fr1,0,rfl,by lia,dw1,λi j i1 i2 j1 j2=>by rw[show i=j by lia];exact rfl' _⟩) ?_)
  ·rintro x c st' hx1 hx2 ⟨fr,q,rfl,hq,dw,eq⟩
   have szx:=fr.sz;dsimp only;refine Qs (eM C (fr.S hS) (fr.k.trans hst) (by lia) (by lia) ?_);dsimp only;cases hv:L (gt (Qq st') (lo+x)) (gt (Qq st') (lo+x-1)) with
   |true=>
    first | refine bN rfl ?_ | rw[if_pos rfl]
    by_cases q0:q>0
    ·first | refine bN q0 ?_ | rw[if_pos q0]
     refine Qs (zT (QC ⟨fr.mir (by lia) (by lia),0,rfl,by lia,(dw.turn hq (by lia) eq).more as tr (by lia) ?_,λi j i1 i2 j1 j2=>by rw[show i=j by lia];exact rfl' _⟩));show leK L (gt (Z8 _ _ _ _) _) (gt (Z8 _ _ _ _) _);rw[fS (by lia),fS (by lia),if_neg (by lia),if_pos (by lia)];have e2:=eq (x-1) (x-(q+1)) (by lia) (by lia) (by lia) (by lia);rw[show lo+(x-1)=lo+x-1 by lia,show lo+(x-(q+1))=lo+x-(q+1)+(lo+x)-1-(lo+x-1) by lia] at e2;exact tr _ _ _ (as _ _ hv) e2
    ·first | refine bz q0 ?_ | rw[if_neg q0]
     exact QC ⟨fr,0,rfl,by lia,dw.more as tr (by lia) (as _ _ hv),λi j i1 i2 j1 j2=>by rw[show i=j by lia];exact rfl' _⟩
   |false=>
    first | refine bz Ql ?_ | rw[if_neg Ql]
    refine Qs (eM C (fr.S hS) (fr.k.trans hst) (by lia) (by lia) ?_);dsimp only;cases hv2:L (gt (Qq st') (lo+x-1)) (gt (Qq st') (lo+x)) with
    |true=>exact QC ⟨fr,x,q,rfl,by lia,by lia,hq,dw,eq⟩
    |false=>
     refine QC ⟨fr,q+1,rfl,by lia,dw.more as tr (by lia) hv2,λi j i1 i2 j1 j2=>?_⟩
     have up1:∀i,x-(q+1)<=i->i<x->leK L (gt (Qq st') (lo+i)) (gt (Qq st') (lo+x)):=λi i1 i2=>by
      have e2:=eq i (x-1) i1 i2 (by lia) (by lia);rw[show lo+(x-1)=lo+x-1 by lia] at e2;exact tr _ _ _ e2 hv
     have dn1:∀i,x-(q+1)<=i->i<x->leK L (gt (Qq st') (lo+x)) (gt (Qq st') (lo+i)):=λi i1 i2=>by
      have e2:=eq (x-1) i (by lia) (by lia) i1 i2;rw[show lo+(x-1)=lo+x-1 by lia] at e2;exact tr _ _ _ hv2 e2
     by_cases ci:i=x
     ·by_cases cj:j=x
      ·rw[ci,cj];exact rfl' _
      ·rw[ci];exact dn1 j (by lia) (by lia)
     ·by_cases cj:j=x
      ·rw[cj];exact up1 i (by lia) (by lia)
      ·exact eq i j (by lia) (by lia) (by lia) (by lia)
  ·rintro c st' ⟨fr,q,rfl,hq,dw,eq⟩
   have em:max (n+1) nrem=nrem:=by lia
   rw[em] at dw eq hq ⊢;exact⟨fr,nrem,q,rfl,by lia,Qf _,hq,dw,eq⟩
  ·rintro c st' ⟨fr,m,q,rfl,m1,m2,hq,dw,eq⟩
   have szx:=fr.sz;dsimp -zeta -zetaHave only
   extract_lets r1 s1 m0 q0' jp2
   have K2:∀st',FrR st lo st'->DwA L (Qq st') lo m->wpS M A E s (jp2 ()) Q st':=by
    intro st' fr dw;dsimp -zeta -zetaHave only[jp2,r1,s1,m0,q0'];refine Qs (zT ?_);have szq:=fr.sz;have frF:=fr.mir (p:=lo) (q:=lo+m) (Qf _) (by lia);have upF:UpA L (Qq (setArr st' (Z8 (Qq st') lo (lo+m) ((lo+m-lo)/2)))) lo m:=dw.flip (by lia);generalize setArr st' (Z8 (Qq st') lo (lo+m) ((lo+m-lo)/2))=stF at frF upF ⊢;have szS:=frF.sz;refine Qs (Zc (Jx (I:=λx c st'=>stF=st'/\c=(none,x)/\UpA L (Qq stF) lo x) (Q:=λc st'=>stF=st'/\∃n,c=(none,n)/\m<=n/\n<=nrem/\UpA L (Qq stF) lo n/\(n=nrem\/L (gt (Qq stF) (lo+n)) (gt (Qq stF) (lo+n-1))=true)) ?_ ?_ ⟨rfl,rfl,upF⟩) ?_)
    ·rintro x c st' hx1 hx2 ⟨rfl,rfl,up⟩
     dsimp only;refine Qs (eM C (frF.S hS) (frF.k.trans hst) (by lia) (by lia) ?_);dsimp only;cases hv:L (gt (Qq stF) (lo+x)) (gt (Qq stF) (lo+x-1)) with
     |true=>exact QC ⟨rfl,x,rfl,hx1,by lia,up,.inr hv⟩
     |false=>exact QC ⟨rfl,rfl,up.more as tr (by lia) hv⟩
    ·rintro c st' ⟨rfl,rfl,up⟩
     have em:max (m) nrem=nrem:=by lia
     rw[em] at up ⊢;exact⟨rfl,nrem,rfl,by lia,Qf _,up,.inl rfl⟩
    ·rintro c st'' ⟨rfl,n,rfl,n1,n2,up,_⟩
     exact QC (h n stF frF (by lia) n2 up)
   clear_value jp2
   by_cases q0:q>0
   ·first | refine bN q0 ?_ | rw[if_pos q0]
    exact Qs (zT (K2 _ (fr.mir (by lia) (by lia)) (dw.turn hq (by lia) eq)))
   ·first | refine bz q0 ?_ | rw[if_neg q0]
    exact K2 _ fr dw
 clear_value jp
 by_cases d2:n>1
 ·first | refine bN d2 ?_ | rw[if_pos d2]
  refine Qs (eM C hS hst (by lia) (by lia) ?_);dsimp -zeta -zetaHave only;cases hv:L (gt (Qq st) lo) (gt (Qq st) (lo+n-1)) with
  |true=>exact QC (h n st fr0 n1 n2 up)
  |false=>
   first | refine bz Ql ?_ | rw[if_neg Ql]
   refine Qs (zT ?_)
   have al:∀i j,i<n->j<n->leK L (gt (Qq st) (lo+i)) (gt (Qq st) (lo+j)):=λi j hi hj=>by
    have e1:=up i (n-1) (by lia) (by lia);have e2:=up 0 j (by lia) hj;rw[show lo+(n-1)=lo+n-1 by lia] at e1;exact tr _ _ _ (tr _ _ _ e1 hv) e2
   have fr1:=fr0.mir (p:=lo) (q:=lo+n) (Qf _) (by lia)
   have dw1:DwA L (Qq (setArr st (Z8 (Qq st) lo (lo+n) ((lo+n-lo)/2)))) lo (n+1):=by
    have base:DwA L (Qq (setArr st (Z8 (Qq st) lo (lo+n) ((lo+n-lo)/2)))) lo n:=λi j i1 i2=>by
     show leK L (gt (Z8 _ _ _ _) _) (gt (Z8 _ _ _ _) _);rw[fS (by lia),fS (by lia),if_pos (by lia),if_pos (by lia)];have e1:=al (n-1-j) (n-1-i) (by lia) (by lia);rw[show lo+(n-1-j)=lo+(lo+n)-1-(lo+j) by lia,show lo+(n-1-i)=lo+(lo+n)-1-(lo+i) by lia] at e1;exact e1
    refine base.more as tr n1 ?_;show leK L (gt (Z8 _ _ _ _) _) (gt (Z8 _ _ _ _) _);rw[fS (by lia),fS (by lia),if_neg (by lia),if_pos (by lia)];have e1:=al (n-1) 0 (by lia) (by lia);rw[show lo+(n-1)=lo+n-1 by lia,show lo+0=lo+(lo+n)-1-(lo+n-1) by lia] at e1;exact tr _ _ _ (as _ _ hd) e1
   exact K _ fr1 dw1
 ·first | refine bz d2 ?_ | rw[if_neg d2]
  have en:n=1:=by lia
  have dw1:DwA L (Qq st) lo (n+1):=by
   refine DwA.more as tr (λi j i1 i2=>?_) n1 (as _ _ hd);rw[show i=j by lia];exact rfl' _
  exact K _ fr0 dw1
end
section
variable{M:Model}{A:QU}{E:Qb->Qc->Prop}{s:Qc}{κ:ZH}{S:Qp->Prop}{L:Qp->Qp->Bool}
theorem Bd{xs:Array Qp}{lo k l:Nat}(hl:l<=k)(hs:lo+k<xs.size)(i:Nat):gt (bubble xs (lo+k) (lo+k-(lo+l))) (lo+i)=if i=l then gt xs (lo+k) else if l<i/\i<=k then gt xs (lo+(i-1)) else gt xs (lo+i):=by
 rw[C4 hs (Nat.sub_le _ _),Nat.sub_sub_self (KP hl lo)];simp only[Nat.add_left_cancel_iff,Nat.add_lt_add_iff_left,Nat.add_le_add_iff_left]
 by_cases c2:l<i/\i<=k
 ·rw[if_pos c2,if_pos c2,Nat.add_sub_assoc (ZO (QN _) c2.1)]
 ·rw[if_neg c2,if_neg c2]
theorem AZ(C:mj M A E s κ S L)(as:∀x y,L x y=true->L y x=false)(tr:∀x y z,L y x=false->L z y=false->L z x=false){lo n ok:Nat}{st:QY}{Q:Bool->QY->Prop}(hst:Js st=κ)(hS:∀x∈(Qq st).toList,S x)(hok:ok<=n)(hb:lo+n<=(Qq st).size)(up0:UpA L (Qq st) lo ok)
  (h:∀st',FrR st lo st'->UpA L (Qq st') lo n->Q true st'):wpS M A E s (binarySort' lo n ok) Q st:=by
 rw[binarySort'_eq];refine Qs (Zc (Jx (I:=λk c st'=>c=(none,())/\FrR st lo st'/\UpA L (Qq st') lo (min k n)) (Q:=λc st'=>c=(none,())/\FrR st lo st'/\UpA L (Qq st') lo n) ?_ ?_ ?_) ?_)
 ·rintro k c st1 hk1 hk2 ⟨rfl,fr,up⟩
  rw[show min k n=k by lia] at up;have sz:=fr.sz;dsimp only
  refine Qs (Zc (Jx (I:=λx c st'=>st1=st'/\∃l r,c=(none,l,r)/\l<=r/\r<=k/\r-l<=k-x/\(∀i,i<l->leK L (gt (Qq st1) (lo+i)) (gt (Qq st1) (lo+k)))/\(∀i,r<=i->i<k->leK L (gt (Qq st1) (lo+k)) (gt (Qq st1) (lo+i))))
   (Q:=λc st'=>st1=st'/\∃l r,c=(none,l,r)/\l<=k/\(∀i,i<l->leK L (gt (Qq st1) (lo+i)) (gt (Qq st1) (lo+k)))/\(∀i,l<=i->i<k->leK L (gt (Qq st1) (lo+k)) (gt (Qq st1) (lo+i)))) ?_ ?_ ⟨rfl,0,k,rfl,by lia,by lia,by lia,λi hi=>by lia,λi h1 h2=>by lia⟩) ?_)
  ·rintro x c st' _ hx ⟨rfl,l,r,rfl,g1,g2,g3,g4,g5⟩
   dsimp only
   by_cases ge:l>=r
   ·first | refine bN ge ?_ | rw[if_pos ge]
    have e:l=r:=by lia
    subst e;exact QC ⟨rfl,l,l,rfl,g2,g4,g5⟩
   ·first | refine bz ge ?_ | rw[if_neg ge]
    have m1:l<=(l+r)/2:=(Nat.le_div_iff_mul_le Nat.two_pos).2 (by rw[Nat.mul_two];exact KP g1 l);have m2:(l+r)/2<r:=Nat.div_lt_of_lt_mul (by rw[Nat.two_mul];exact Nat.add_lt_add_right (Nat.lt_of_not_le ge) r);generalize (l+r)/2=m at m1 m2 ⊢;refine Qs (eM C (fr.S hS) (fr.k.trans hst) (by lia) (by lia) ?_);dsimp only;cases hv:L (gt (Qq st1) (lo+k)) (gt (Qq st1) (lo+m)) with
    |true=>exact QC ⟨rfl,l,m,rfl,m1,Q4 (Jr m2) g2,Ck m1 m2 g3,g4,λi h1 h2=>tr _ _ _ (as _ _ hv) (up (m) i h1 h2)⟩
    |false=>exact QC ⟨rfl,m+1,r,rfl,m2,g2,Cb m1 g3,λi h1=>tr _ _ _ (up i (m) (by lia) (by lia)) hv,g5⟩
  ·rintro c st' ⟨rfl,l,r,rfl,g1,g2,g3,g4,g5⟩
   have e:l=r:=by lia
   subst e;exact⟨rfl,l,l,rfl,g2,g4,g5⟩
  ·rintro c st' ⟨rfl,l,r,rfl,g2,g4,g5⟩
   dsimp only;rw[moveDown'_eq];refine Qs (Kz (QC ⟨rfl,fr.bub (by lia) (by lia),?_⟩));rw[show min (k+1) n=k+1 by lia];have at_:=λi=>Bd (xs:=Qq st1) (lo:=lo) (k:=k) (l:=l) g2 (by lia) i;intro i j h1 h2;show leK L (gt (bubble _ _ _) _) (gt (bubble _ _ _) _);rw[at_ i,at_ j]
   have rf:∀x,leK L x x:=λx=>by
    cases hv:L x x with
    |false=>exact hv
    |true=>have:=as _ _ hv;rw[hv] at this;cases this
   by_cases ci:i=l
   ·first | refine bN ci ?_ | rw[if_pos ci]
    by_cases cj:j=l
    ·rw[if_pos cj];exact rf _
    ·rw[if_neg cj,if_pos (by lia)];exact g5 (j-1) (by lia) (by lia)
   ·first | refine bz ci ?_ | rw[if_neg ci]
    by_cases cj:j=l
    ·rw[if_pos cj,if_neg (by lia)];exact g4 i (by lia)
    ·first | refine bz cj ?_ | rw[if_neg cj]
     by_cases di:l<i/\i<=k
     ·rw[if_pos di,if_pos (by lia)];exact up (i-1) (j-1) (by lia) (by lia)
     ·first | refine bz di ?_ | rw[if_neg di]
      by_cases dj:l<j/\j<=k
      ·rw[if_pos dj];exact up i (j-1) (by lia) (by lia)
      ·rw[if_neg dj];exact up i j h1 (by lia)
 ·rintro c st1 ⟨hc,fr,up⟩
  rw[show min (max (max ok 1) n) n=n by lia] at up;exact⟨hc,fr,up⟩
 ·refine⟨rfl,FrR.rf st lo,λi j h1 h2=>?_⟩
  by_cases e:ok=0
  ·have:i=j:=by lia
   subst this;exact UpA.one as _ (lo+i) 0 0 (Qf _) (by lia)
  ·exact up0 i j h1 (by lia)
 ·rintro c st1 ⟨rfl,fr,up⟩
  exact QC (h st1 fr up)
end
def vO:StateT QY Sem Unit:=sortPriv% PySem.Builtin.sortRuns
abbrev key2(p:Nat×Nat×Nat):Nat×Nat:=(p.1,p.2.1)
def bT:Nat->List (List Qp)->List (Nat×Nat)
 |_,[]=>[]
 |n,r::rs=>(n,r.length)::bT (n+r.length) rs
theorem eR:∀(R rs:List (List Qp)) (n:Nat),bT n (R++rs)=bT n R++bT (n+R.flatten.length) rs
 |[],rs,n=>by simp[bT]
 |r::R,rs,n=>by
  show(n,r.length)::bT (n+r.length) (R++rs)=(n,r.length)::(bT (n+r.length) R++bT (n+(r::R).flatten.length) rs);rw[eR R rs,List.flatten_cons,Qr,Nat.add_assoc]
theorem c_:∀(R:List (List Qp)) (n:Nat),(bT n R).length=R.length
 |[],_=>rfl
 |r::R,n=>by show(bT (n+r.length) R).length+1=R.length+1;rw[c_ R]
theorem mW{α β:Type}(g:α->β):∀(l:List α) (i:Nat),(l.eraseIdx i).map g=(l.map g).eraseIdx i
 |[],_=>rfl
 |_::_,0=>rfl
 |x::l,i+1=>by show g x::(l.eraseIdx i).map g=g x::(l.map g).eraseIdx i;rw[mW g l i]
structure Rn(L:Qp->Qp->Bool)(κ:ZH)(st0 st:QY)(runs:List (List Qp))(rest:List Qp):Prop where
 k:Js st=κ
 f:JB st=none
 al:(Qq st).toList=runs.flatten++rest
 pm:(Qq st).toList.Perm (Qq st0).toList
 ru:∀r∈runs,r.Pairwise (leK L)/\1<=r.length
 pe:(Jb st).toList.map key2=bT 0 runs
section
variable{M:Model}{A:QU}{E:Qb->Qc->Prop}{s:Qc}{κ:ZH}{S:Qp->Prop}{L:Qp->Qp->Bool}
theorem Rn.size{st0 st:QY}{runs:List (List Qp)}{rest:List Qp}(h:Rn L κ st0 st runs rest):(Jb st).size=runs.length:=by
 have:=congrArg List.length h.pe;rw[c_] at this;simpa using this
theorem lp(C:mj M A E s κ S L)(as:∀x y,L x y=true->L y x=false)(tr:∀x y z,L y x=false->L z y=false->L z x=false){st0 st:QY}{runs:List (List Qp)}{rest:List Qp}(hS:∀x∈(Qq st0).toList,S x)(h:Rn L κ st0 st runs rest){i:Nat}(hi:i+2<=runs.length){Q:Bool->QY->Prop}
  (q:∀st' runs',Rn L κ st0 st' runs' rest->runs'.length+1=runs.length->runs'.flatten.length=runs.flatten.length->Q true st'):wpS M A E s (qt i) Q st:=by
 obtain⟨R1,a,b,R2,rfl,li⟩:∃R1 a b R2,runs=R1++a::b::R2/\R1.length=i:=by
  refine⟨runs.take i,runs[i],runs[i+1],runs.drop (i+2),?_,by rw[QP];lia⟩;rw[<-Q9,<-Q9,Q1]
 subst li;have pe:=h.pe;rw[eR] at pe
 have e1:((Jb st).toList.map key2)[R1.length]?=some (R1.flatten.length,a.length):=by
  rw[pe,QH (by rw[c_];lia),c_,Zv];show some (0+R1.flatten.length,a.length)=_;rw[Jg]
 have e2:((Jb st).toList.map key2)[R1.length+1]?=some (R1.flatten.length+a.length,b.length):=by
  rw[pe,QH (by rw[c_];lia),c_,ZA];show some (0+R1.flatten.length+a.length,b.length)=_;rw[Jg]
 rw[Qx,Qw] at e1 e2;obtain⟨⟨u1,u2,u3⟩,f1,f2⟩:=Option.map_eq_some_iff.mp e1;obtain⟨⟨w1,w2,w3⟩,g1,g2⟩:=Option.map_eq_some_iff.mp e2;simp only[key2,Prod.mk.injEq] at f2 g2;obtain⟨rfl,rfl⟩:=f2;obtain⟨rfl,rfl⟩:=g2;have ra:=h.ru a (by simp);have rb:=h.ru b (by simp);refine sd (pre:=R1.flatten) (Al:=a) (Bl:=b) (post:=R2.flatten++rest) C as tr h.k h.f f1 g1 (by rw[h.al];simp) (λx hx=>hS x (h.pm.mem_iff.mp hx)) ra.2 rb.2 ra.1 rb.1 λst' Cl k' f' p' a' sc pc=>?_;have cl:Cl.length=a.length+b.length:=by rw[pc.length_eq,Qr]
 refine q st' (R1++Cl::R2) ⟨k',f',by rw[a'];simp,?_,λr hr=>?_,?_⟩ (by simp;lia) (by simp[cl];lia)
 ·refine J0.trans ?_ h.pm
  rw[a',h.al];simp only[KQ,List.flatten_cons,QG];refine(List.Perm.refl _).append ?_;have e9:=pc.append (List.Perm.refl (R2.flatten++rest));rw[QG a] at e9;exact e9
 ·rcases QM.mp hr with hr | hr
  ·exact h.ru r (by simp[hr])
  ·rcases Qn.mp hr with rfl | hr
   ·exact⟨sc,by lia⟩
   ·exact h.ru r (by simp[hr])
 ·rw[p']
  have lt:R1.length+1<(Jb st).size:=(JY.mp g1).1;rw[Array.toList_eraseIdxIfInBounds,Array.toList_setIfInBounds,mW,List.map_set,pe,eR];show((bT 0 R1++(0+R1.flatten.length,a.length)::(0+R1.flatten.length+a.length,b.length)::bT (0+R1.flatten.length+a.length+b.length) R2).set R1.length (R1.flatten.length,a.length+b.length)).eraseIdx (R1.length+1)=bT 0 R1++(0+R1.flatten.length,Cl.length)::bT (0+R1.flatten.length+Cl.length) R2;have sl:=c_ R1 0;rw[List.set_append_right _ _ (by lia),sl,Zv,List.set_cons_zero,List.eraseIdx_append_of_length_le (by lia),sl,ZA];show bT 0 R1++(R1.flatten.length,a.length+b.length)::bT (0+R1.flatten.length+a.length+b.length) R2=_;rw[cl,Jg,Nat.add_assoc]
theorem Bg{l:List (Nat×Nat×Nat)}{i v:Nat}:(l.modify i λx=>(x.1,x.2.1,v)).map key2=l.map key2:=by
 apply Jv;intro j;rw[Qx,Qx,Zt];cases l[j]? with
 |none=>rfl
 |some x=>by_cases e:i=j<;>simp[e,key2]
theorem FP{xs:Array Qp}{lo n:Nat}(h:UpA L xs lo n)(hb:lo+n<=xs.size):((xs.toList.drop lo).take n).Pairwise (leK L):=by
 rw[Zl];intro i j hi hj ij;rw[QP,Ji] at hi hj;have e:=h i j (by lia) (by lia);rw[uI (by lia),uI (by lia)] at e;simp only[List.getElem_take,List.getElem_drop,Array.getElem_toList];exact e
theorem Rn.more{st0 st st':QY}{runs:List (List Qp)}{rest:List Qp}{n:Nat}(h:Rn L κ st0 st runs rest)(hn:n<=rest.length)(n1:1<=n)(sp:(rest.take n).Pairwise (leK L))(pe:(Jb st').toList.map key2=bT 0 (runs++[rest.take n]))(k:Js st'=Js st)(f:JB st'=JB st)(a:Qq st'=Qq st):Rn L κ st0 st' (runs++[rest.take n]) (rest.drop n):=by
 refine⟨k.trans h.k,f.trans h.f,?_,by rw[a];exact h.pm,λr hr=>?_,pe⟩
 ·rw[a,h.al,KQ,Kl,QG,Q1]
 ·rcases QM.mp hr with hr | hr
  ·exact h.ru r hr
  ·rw[Qt.mp hr]
   exact⟨sp,by rw[QP];lia⟩
theorem Rn.fr{st0 st st':QY}{runs:List (List Qp)}{rest:List Qp}(h:Rn L κ st0 st runs rest)(g:FrR st runs.flatten.length st'):Rn L κ st0 st' runs ((Qq st').toList.drop runs.flatten.length):=by
 refine⟨g.k.trans h.k,g.f.trans h.f,?_,g.pm.trans h.pm,h.ru,by rw[g.p];exact h.pe⟩;have e:=g.tk;rw[h.al,List.take_left] at e
 conv=>lhs;rw[<-Q1 runs.flatten.length (Qq st').toList,e]
theorem xh(c:Prop)[Decidable c](p n:Nat)(h:p+2<=n):(if c then p-1 else p)+2<=n:=by split<;>lia
theorem z_{σ α β:Type}{c:Prop}[Decidable c]{f:β->StateT σ Sem α}{t:StateT σ Sem α}{x:β}{Q:α->σ->Prop}{st:σ}(P:β->σ->Prop)(h:∀x st,P x st->wpS M A E s (f x) Q st)(h1:c->(∀x st,P x st->wpS M A E s (f x) Q st)->wpS M A E s t Q st)(h2:¬c->P x st):wpS M A E s (if c then t else f x) Q st:=by
 split
 ·exact h1 ‹_› h
 ·exact h _ _ (h2 ‹_›)
theorem qS(C:mj M A E s κ S L)(as:∀x y,L x y=true->L y x=false)(tr:∀x y z,L y x=false->L z y=false->L z x=false){st:QY}{Q:Unit->QY->Prop}(hst:Js st=κ)(hf:JB st=none)(hp:Jb st=#[])(hS:∀x∈(Qq st).toList,S x)
  (h:∀st',JB st'=none->(Qq st').toList.Pairwise (leK L)->(Qq st').toList.Perm (Qq st).toList->Q () st'):wpS M A E s vO Q st:=by
 refine Qs (wpS_get ?_);rw[show(sortPriv% PySem.Builtin.SortState.a) st=Qq st from rfl]
 extract_lets size minrun lo0
 have minE:minrun=minRun' (Qq st).size (Qq st).size 0:=rfl
 clear_value minrun
 dsimp -zeta -zetaHave only[size,lo0]
 clear lo0
 have R0:Rn L κ st st [] (Qq st).toList:=⟨hst,hf,rfl,List.Perm.refl _,(λr hr=>by cases hr),by rw[hp];rfl⟩;refine Qs (Zc (Jx (I:=λx c st'=>∃lo runs rest,c=(none,lo)/\Rn L κ st st' runs rest/\lo=runs.flatten.length/\x<=lo) (Q:=λc st'=>∃lo runs rest,c=(none,lo)/\Rn L κ st st' runs rest/\lo=runs.flatten.length/\(Qq st).size<=lo) ?_ ?_ ⟨0,[],_,rfl,R0,rfl,Qf _⟩) ?_)
 ·rintro x c st1 _ hx ⟨lo,runs,rest,rfl,R,el,xl⟩
  dsimp -zeta -zetaHave only
  by_cases ge:lo>=(Qq st).size
  ·first | refine bN ge ?_ | rw[if_pos ge]
   exact QC ⟨lo,runs,rest,rfl,R,el,ge⟩
  first | refine bz ge ?_ | rw[if_neg ge]
  have s1:(Qq st1).size=(Qq st).size:=by rw[<-Qu,<-Qu];exact R.pm.length_eq
  refine Qs (wy C as tr R.k (λx hx=>hS x (R.pm.mem_iff.mp hx)) (by lia) (by lia) λn st2 fr n1 n2 up=>?_);dsimp -zeta -zetaHave only;have s2:=fr.sz;have fr':=fr;rw[el] at fr';have RT:=R.fr fr'
  extract_lets n0 jp force n3
  refine z_ (f:=λz=>jp () z) (λz st3=>(1<=z/\z<=(Qq st).size-lo/\(Qq st3).size=(Qq st).size)/\UpA L (Qq st3) lo z/\Rn L κ st st3 runs ((Qq st3).toList.drop runs.flatten.length)) (λNN st3 hh=>?_) (λnm K=>?_) λnm=>⟨⟨n1,n2,s2.trans s1⟩,up,RT⟩
  ·obtain⟨⟨nn1,nn3,s3⟩,up3,RT⟩:=hh
   dsimp -zeta -zetaHave only[jp];have nn2:lo+NN<=(Qq st3).size:=by lia
   have hpw:=FP up3 nn2;rw[el] at hpw;have rl:((Qq st3).toList.drop runs.flatten.length).length=(Qq st).size-lo:=by rw[Ji,Qu,el];lia
   generalize hREST:(Qq st3).toList.drop runs.flatten.length=REST at RT hpw rl;refine Qs (wpS_get ?_);rcases hbk:(Jb st3).back? with _ | ⟨s1,n1,p1⟩
   ·dsimp only
    refine Qs (Kz (QC ⟨lo+NN,runs++[REST.take NN],REST.drop NN,rfl,RT.more (by lia) nn1 hpw (by show((Jb st3).push _).toList.map key2=_;rw[Zx,Jf,RT.pe,eR];show bT 0 runs++[(lo,NN)]=bT 0 runs++[(0+runs.flatten.length,(REST.take NN).length)];rw[QP,rl,show min NN ((Qq st).size-lo)=NN by lia,<-el,Jg]) rfl rfl rfl,?_,by lia⟩));rw[KQ,Qr,Kl,QP];lia
   ·dsimp only
    refine Qs (Zc (Jx (I:=λ_ c st'=>c=(none,())/\∃runs',Rn L κ st st' runs' REST/\runs'.flatten.length=lo) (Q:=λc st'=>c=(none,())/\∃runs',Rn L κ st st' runs' REST/\runs'.flatten.length=lo) ?_ (λc st' z=>z) ⟨rfl,runs,RT,el.symm⟩) ?_)
    ·rintro y c st4 _ hy ⟨rfl,runs',R4,l4⟩
     have sz4:=R4.size;have sz5:((sortPriv% PySem.Builtin.SortState.pending) st4).size=(Jb st4).size:=rfl;refine Qs (wpS_get ?_)
     by_cases hs:(Jb st4).size>1
     ·first | refine bN hs ?_ | rw[if_pos hs]
      rcases hq:(Jb st4)[(Jb st4).size-2]? with _ | ⟨q1,q2,older⟩
      ·exact QC ⟨rfl,runs',R4,l4⟩
      ·dsimp only
       split
       ·exact QC ⟨rfl,runs',R4,l4⟩
       ·refine Qs (lp C as tr hS R4 (by lia) λst5 runs5 R5 len5 fl5=>?_)
        first | refine bz (by decide) ?_ | rw[if_neg (by decide)]
        exact QC ⟨rfl,runs5,R5,by lia⟩
     ·first | refine bz hs ?_ | rw[if_neg hs]
      exact QC ⟨rfl,runs',R4,l4⟩
    ·rintro c st4 ⟨rfl,runs',R4,l4⟩
     dsimp only;refine Qs (Kz (Qs (Kz (QC ⟨lo+NN,runs'++[REST.take NN],REST.drop NN,rfl,R4.more (by lia) nn1 hpw ?_ rfl rfl rfl,?_,by lia⟩))))
     ·show(((Jb st4).modify _ _).push _).toList.map key2=_
      rw[Zx,Jf,Array.toList_modify,Bg,R4.pe,eR];show bT 0 runs'++[(lo,NN)]=bT 0 runs'++[(0+runs'.flatten.length,(REST.take NN).length)];rw[QP,rl,show min NN ((Qq st).size-lo)=NN by lia,l4,Jg]
     ·rw[KQ,Qr,Kl,QP];lia
  ·refine Qs (fU (Qs (AZ C as tr (fr.k.trans R.k) (λx hx=>hS x (RT.pm.mem_iff.mp hx)) (by lia) (by lia) up λst3 fr3 up3=>?_)))
   first | refine bz (by decide) ?_ | rw[if_neg (by decide)]
   have s3:=fr3.sz;have fr3':=fr3;rw[el] at fr3';exact K _ _ ⟨⟨by lia,by lia,by lia⟩,up3,RT.fr fr3'⟩
 ·rintro c st1 ⟨lo,runs,rest,rfl,R,el,xl⟩
  exact⟨lo,runs,rest,rfl,R,el,by lia⟩
 ·rintro c st1 ⟨lo,runs,rest,rfl,R,el,xl⟩
  dsimp only;have s1:(Qq st1).size=(Qq st).size:=by rw[<-Qu,<-Qu];exact R.pm.length_eq
  have e0:rest=[]:=by
   have:=congrArg List.length R.al;rw[Qr,Qu] at this;exact List.eq_nil_of_length_eq_zero (by lia)
  subst e0
  have many:∀rs:List (List Qp),(∀r∈rs,1<=r.length)->rs.length<=rs.flatten.length:=λrs=>by
   induction rs with
   |nil=>intro _;exact Qf _
   |cons r rs ih=>
    intro hr;have h1:=hr r (by simp);have h2:=ih λr' h'=>hr r' (by simp[h']);rw[List.flatten_cons,Qr,QA];lia
  have m1:=many runs λr hr=>(R.ru r hr).2
  have fl:runs.flatten.length=(Qq st).size:=by
   have:=congrArg List.length R.al;rw[Qr,Qu,ZV] at this
   lia
  refine Qs (Zc (Jx (I:=λx c st'=>c=(none,())/\∃runs',Rn L κ st st' runs' []/\runs'.length<=max 1 ((Qq st).size-x)) (Q:=λc st'=>c=(none,())/\∃runs',Rn L κ st st' runs' []/\runs'.length<=1) ?_ ?_ ⟨rfl,runs,R,by lia⟩) ?_)
  ·rintro x c st4 _ hx ⟨rfl,runs',R4,l4⟩
   have sz4:=R4.size;have sz5:((sortPriv% PySem.Builtin.SortState.pending) st4).size=(Jb st4).size:=rfl;refine Qs (wpS_get ?_)
   by_cases hs:(Jb st4).size<=1
   ·first | refine bN hs ?_ | rw[if_pos hs]
    exact QC ⟨rfl,runs',R4,by lia⟩
   ·first | refine bz hs ?_ | rw[if_neg hs]
    refine Qs (lp C as tr hS R4 (xh _ _ _ (by lia)) λst5 runs5 R5 len5 fl5=>?_)
    first | refine bz (by decide) ?_ | rw[if_neg (by decide)]
    exact QC ⟨rfl,runs5,R5,by lia⟩
  ·rintro c st4 ⟨rfl,runs',R4,l4⟩
   exact⟨rfl,runs',R4,by lia⟩
  ·rintro c st4 ⟨rfl,runs',R4,l4⟩
   refine QC (h st4 R4.f ?_ R4.pm);rw[R4.al,Jp]
   match runs',l4,R4 with
   |[],_,_=>exact List.Pairwise.nil
   |[r],_,R4=>rw[Kl];exact(R4.ru r (by simp)).1
   |_::_::_,l4,_=>simp at l4
end
section
variable{vs:List Qb}{lt:Nat->Nat->Bool}
def sK(vs:List Qb)(x:Qp):Prop:=∃i,i<vs.length/\x=(vs.getD i .none,vs.getD i .none)
open Classical in
noncomputable def ixK (vs:List Qb) (v:Qb):Nat:=if h:∃i,i<vs.length/\vs.getD i .none=v then Classical.choose h else 0
noncomputable def lK (vs:List Qb) (lt:Nat->Nat->Bool) (x y:Qp):Bool:=lt (ixK vs x.1) (ixK vs y.1)
theorem xk{i:Nat}(hi:i<vs.length):ixK vs (vs.getD i .none)<vs.length/\vs.getD (ixK vs (vs.getD i .none)) .none=vs.getD i .none:=by
 have h:∃j,j<vs.length/\vs.getD j .none=vs.getD i .none:=⟨i,hi,rfl⟩;unfold ixK;rw[dif_pos h];exact Classical.choose_spec h
theorem Cj(hcon:∀i j k,i<vs.length->j<vs.length->vs.getD i .none=vs.getD j .none->lt i k=lt j k/\lt k i=lt k j){i j:Nat}(hi:i<vs.length)(hj:j<vs.length):lK vs lt (vs.getD i .none,vs.getD i .none) (vs.getD j .none,vs.getD j .none)=lt i j:=by
 obtain⟨a1,a2⟩:=xk hi;obtain⟨b1,b2⟩:=xk hj;show lt _ _=_;rw[(hcon _ _ _ a1 hi a2).1,(hcon _ _ _ b1 hj b2).2]
theorem yb{prog:QJ}{w:QL}{A:QU}{s:Qc}{κ:ZH}(hcon:∀i j k,i<vs.length->j<vs.length->vs.getD i .none=vs.getD j .none->lt i k=lt j k/\lt k i=lt k j)
  (hc:∀i j (R:Bool->Qc->Prop),i<vs.length->j<vs.length->R (lt i j) s->Qm (Qo prog w) A (keyLt' κ (vs.getD i .none) (vs.getD j .none)) R (λ_ _=>False) s):mj (Qo prog w) A (λ_ _=>False) s κ (sK vs) (lK vs lt):=by
 rintro x y st Q ⟨i,hi,rfl⟩ ⟨j,hj,rfl⟩ hk q;rw[Cj hcon hi hj] at q;rw[lt'_eq];refine Qs (wpS_get ?_);rw[hk];refine Qs (wpS_lift (wpAny_attempt (QV (hc i j (λb t=>b=lt i j/\t=s) hi hj ⟨rfl,rfl⟩) (λb t hb=>?_) λ_ _ x=>x.elim)));obtain⟨rfl,rfl⟩:=hb;exact⟨rfl,QC q⟩
theorem x8(vs:List Qb):(vs.toArray.zip vs.toArray).toList=(QE vs.length).map λi=>(vs.getD i .none,vs.getD i .none):=by
 refine List.ext_getElem (by simp) λi h1 h2=>?_;have hi:i<vs.length:=by simpa using h2
 simp[hi]
theorem uw{vs:List Qb}(h:vs.length<2):(vs.toArray.zip vs.toArray).map (·.2)=Jk ((Jk (QE vs.length)).toList.map λi=>vs.getD i .none):=by
 rcases vs with _ | ⟨v,_ | ⟨w,r⟩⟩
 ·simp
 ·simp[QE,List.range.loop]
 ·rw[QA,QA] at h;lia
theorem Cr(vs:List Qb):∀x∈(vs.toArray.zip vs.toArray).toList,sK vs x:=λx hx=>by
 rw[x8] at hx;obtain⟨i,hi,rfl⟩:=Q2.mp hx;exact⟨i,Q7.mp hi,rfl⟩
theorem vR{α β:Type}(f:α->β):∀{l l':List β},l.Perm l'->∀q:List α,l'=q.map f->∃p:List α,p.Perm q/\l=p.map f:=by
 intro l l' h
 induction h with
 |nil=>intro q e;exact⟨q,.refl _,e⟩
 |cons x h ih=>
  intro q e
  match q,e with
  |y::q,e=>
   rw[Qv] at e;injection e with e1 e2
   obtain⟨p,h1,h2⟩:=ih q e2;exact⟨y::p,h1.cons y,by rw[Qv,<-h2,e1]⟩
 |swap x y l=>
  intro q e
  match q,e with
  |u::v::q,e=>
   rw[Qv,Qv] at e;injection e with e1 e2
   injection e2 with e2 e3
   exact⟨v::u::q,.swap _ _ _,by rw[Qv,Qv,<-e1,<-e2,<-e3]⟩
 |trans h1 h2 ih1 ih2=>
  intro q e;obtain⟨p2,a1,a2⟩:=ih2 q e;obtain⟨p1,b1,b2⟩:=ih1 p2 a2;exact⟨p1,b1.trans a1,b2⟩
theorem tq(O:Ord vs.length lt)(hcon:∀i j k,i<vs.length->j<vs.length->vs.getD i .none=vs.getD j .none->lt i k=lt j k/\lt k i=lt k j){st:QY}(sp:(Qq st).toList.Pairwise (leK (lK vs lt)))(pm:(Qq st).toList.Perm (vs.toArray.zip vs.toArray).toList) :
  ∃p:Array Nat,Pm vs.length p/\Up lt p vs.length/\(Qq st).map (·.2)=Jk (p.toList.map λi=>vs.getD i .none):=by
 obtain⟨p,h1,h2⟩:=vR _ pm (QE vs.length) (x8 vs);have sz:p.length=vs.length:=by rw[h1.length_eq,Jy]
 refine⟨p.toArray,⟨by simpa using sz,by simpa using h1⟩,λi j ij hj=>?_,?_⟩
 ·by_cases e:i=j
  ·subst e;exact O.rf _
  ·have hi':i<p.length:=by lia
   have hj':j<p.length:=by lia
   rw[h2,Kn] at sp;have:=Zl.mp sp i j hi' hj' (by lia);have li:p[i]<vs.length:=Q7.mp (h1.mem_iff.mp (ZG _));have lj:p[j]<vs.length:=Q7.mp (h1.mem_iff.mp (ZG _));have e2:=Cj hcon lj li;have e3:lt p[j] p[i]=false:=e2.symm.trans this;simpa[Array.getD,hi',hj'] using e3
 ·apply Array.toList_inj.mp
  rw[Array.toList_map,h2,JK];rfl
end
section
variable{prog:QJ}{w:QL}{A:QU}{E:Qb->Qc->Prop}{s:Qc}{κ:ZH}
theorem vq{l:Addr}{vs:List Qb}{Q:Qb->Qc->Prop}{lt:Nat->Nat->Bool}(hl:s.heap.IsList l vs.toArray)(hz:vs.length<1000000)(O:Ord vs.length lt)(hcon:∀i j k,i<vs.length->j<vs.length->vs.getD i .none=vs.getD j .none->lt i k=lt j k/\lt k i=lt k j)
  (hk:2<=vs.length->∀(t:Qc) (R:ZH->Qc->Prop),Kp s.heap t.heap->R κ t->Qm (Qo prog w) A.in1.in1 (keyKind' vs.toArray) R (λ_ _=>False) t)
  (hc:∀i j (t:Qc) (R:Bool->Qc->Prop),Kp s.heap t.heap->i<vs.length->j<vs.length->R (lt i j) t->Qm (Qo prog w) A.in1.in1 (keyLt' κ (vs.getD i .none) (vs.getD j .none)) R (λ_ _=>False) t)
  (h:∀p:Array Nat,Pm vs.length p->Up lt p vs.length->Q (.ref (s.heap.objs.size+1)) { s with heap:=sortedAll s.heap vs (Jk (p.toList.map λi=>vs.getD i .none)) }):Qm (Qo prog w) A (call (.builtin "sorted") [.ref l]) Q E s:=by
 have zl:vs.length<=QO:=Jr (Jw hz (by decide));obtain⟨c,m1,m2⟩:=Ew s.heap vs;refine Calls.call_function_entry (kind_sorted) (plain_sorted) (entry_sorted) (args_sorted1 _) ?_;unfold ZU.«sorted»;refine Qa (m:=(checkCount "sorted" 1 1 _)) (Qd (Qa (collect_list hl (Qa (wpAny_newList (items:=vs) ?_ zl)) zl)));show Qm _ _ _ _ _ { s with heap:=stA s.heap vs };rw[qr];refine Qa (Q0 (J9 (slot_list_sort) ⟨_,og s.heap vs,rfl⟩ (entry_list_sort) ?tree (args_list_sort _)))
 case tree=>
  rw[list_sort_plain];refine Qa (listItems_at (og s.heap vs) rfl (Qa (KI (og s.heap vs) rfl (Qa (seqEpoch_at m1 rfl (Qa (wpAny_newTuple (items:=vs) (Qa (wpAny_newList (items:=[]) (Q0 ?_) (QN _))) zl)))) (by simpa using zl) (QN _))));show Qm (Qo prog w) A.in1.in1 _ _ _ { s with heap:=stB s.heap vs };dsimp only
  have out:∀p:Array Nat,Pm vs.length p->Up lt p vs.length->∀st:QY,(Qq st).map (·.2)=Jk (p.toList.map λi=>vs.getD i .none)->((Qq st).map (·.2)).size<=QO+1:=λp hp _ st e=>by
   rw[e];simp only[QR,Qi,Qu,hp.sz]
   lia
  by_cases two:vs.toArray.size<2
  ·rw[if_pos two,if_pos two]
   have two':vs.length<2:=by simpa using two
   refine Qa (Qd ?_);rw[StateT.run_pure]
   have e0:(Qq (ZK general' (vs.toArray.zip vs.toArray) #[] 7 none)).map (·.2)=Jk ((Jk (QE vs.length)).toList.map λi=>vs.getD i .none):=by
    show(vs.toArray.zip vs.toArray).map (·.2)=_;exact uw two'
   have up0:Up lt (Jk (QE vs.length)) vs.length:=λi j a b=>by
    have:i=j:=by lia
    subst this;exact O.rf _
   refine Qa (Qd ?_);dsimp only;refine Qa (seqEpoch_at m2 rfl (Qa (KI m2 rfl ?_ (QN _) (out _ (.start _) up0 _ e0))));simp only[QK,bne_self_eq_false,if_false];refine Qd ⟨_,rfl,Qd ⟨_,rfl,?_⟩⟩;have:=h _ (.start _) up0;rw[<-e0] at this;exact this
  ·rw[if_neg two,if_neg two]
   have two':2<=vs.length:=by simpa using two
   refine Qa (QV (hk two' { s with heap:=stB s.heap vs } (λk t=>k=κ/\t={ s with heap:=stB s.heap vs }) (yK _ _) ⟨rfl,rfl⟩) (λk t hkt=>?_) λ_ _ x=>x.elim);obtain⟨rfl,rfl⟩:=hkt;generalize ht:({ s with heap:=stB s.heap vs }:Qc)=t0 at *;have kp0:Kp s.heap t0.heap:=by rw[<-ht];exact yK _ _
   have run:=qS (M:=Qo prog w) (A:=A.in1.in1) (E:=λ_ _=>False) (s:=t0) (κ:=k) (S:=sK vs) (L:=lK vs lt) (st:=ZK k (vs.toArray.zip vs.toArray) #[] 7 none) (Q:=λ_ st=>JB st=none/\∃p:Array Nat,Pm vs.length p/\Up lt p vs.length/\(Qq st).map (·.2)=Jk (p.toList.map λi=>vs.getD i .none))
    (yb hcon λi j R hi hj hR=>hc i j t0 R kp0 hi hj hR) (λx y e=>O.as _ _ e) (λx y z e f=>O.tr _ _ _ e f) rfl rfl rfl (Cr vs) λst' f' sp pm=>⟨f',tq O hcon sp pm⟩
   have run':Qm (Qo prog w) A.in1.in1 ((sortRuns').run (ZK k (vs.toArray.zip vs.toArray) #[] 7 none)) (λr t=>t=t0/\JB r.2=none/\∃p:Array Nat,Pm vs.length p/\Up lt p vs.length/\(Qq r.2).map (·.2)=Jk (p.toList.map λi=>vs.getD i .none)) (λ_ _=>False) t0:=run;refine Qa (QV run' ?_ λ_ _ x=>x.elim);rintro⟨⟨⟩,st⟩ t ⟨e1,hf,p,hp,hup,hout⟩;subst e1;dsimp only at hf hout ⊢;subst ht;refine Qa (seqEpoch_at m2 rfl (Qa (KI m2 rfl ?_ (QN _) (out p hp hup st hout))));rw[hf];simp only[QK,bne_self_eq_false,if_false];refine Qd ⟨_,rfl,Qd ⟨_,rfl,?_⟩⟩;have:=h p hp hup;rw[<-hout] at this;exact this
end
theorem jf{vs:List Qb}{ns ms:List Int}(h:JP vs ns):JP vs ms->ns=ms:=by
 induction h generalizing ms with
 |nil=>intro g;cases g;rfl
 |cons n t h ih=>intro g;cases g with | cons _ _ g=>rw[ih g]
def tK(fa:Ev->Option D):Ev->Option (List D):=λε=>match fa ε with
 |some (.lst ds)=>(jC ds).bind λts=>if ts.length<1000000 then some ((eB ts).map dW) else none
 |_=>none
section
variable{X:Cx}{a:Expr}{pos:Pos}{fa:Ev->Option D}
theorem uL{k:Nat}(hr:Room k X.A)(hc:X.calm=true):eY X (.builtin "sorted") (λxs H Q=>∃G l vs ts,xs=[.ref l]/\aI G H/\SqL X.K H l vs/\DenL X.K G vs (ts.map dW)/\(∀t∈ts,t≠[])/\ts.length<1000000/\
  ∀p us,H p=none->DenL X.K G us ((eB ts).map dW)->Q (.ref p) (upd H p (.lst us))):=by
 intro pins s σ H xs us Q I rv h;obtain⟨G,l,vs,ts,rfl,gh,hq,hd,hne,hn,q⟩:=h;obtain⟨u,rfl,ru⟩:=rv.one;cases ru;obtain⟨its,rr,pl,hz⟩:=I.list hq;have nl:its.length=ts.length:=by rw[<-rr.length,hd.length,Qi]
 have at_:∀i,i<ts.length->∃(a:Addr) (arr:Array Qb),its.getD i .none=.ref a/\IsTup s.heap a arr/\JP arr.toList (ts.getD i []):=λi hi=>by
  have hi1:i<its.length:=by lia
  have hi2:i<vs.length:=by rw[rr.length];exact hi1
  have hx:=bY V.non hi2;obtain⟨d,e1,e2⟩:=hd.getV hx;rw[Qx,bY [] hi] at e1;cases e1;obtain⟨a,ys,ea,w1,w2⟩:=e2.tupV;obtain⟨u,eu,ru⟩:=rr.get hx;rw[bY JH hi1] at eu;have eu:=Option.some.inj eu;rw[ea] at ru;obtain⟨arr,r2,p2,_⟩:=I.tuple (aR gh w1);refine⟨a,arr.toArray,eu.trans (show u=QI a from ru),p2,?_⟩;have:=dD w2 (ir _);rw[this] at r2;simpa using eO r2
 have sz:ts.length=its.length:=nl.symm;refine vq (κ:=tuples' (Value.type "int" != Value.type "tuple")) (lt:=λi j=>lxL (ts.getD i []) (ts.getD j [])) pl.isList (by lia) ⟨λx y e=>p8 _ _ e,λx y z e f=>uy _ _ _ e f⟩ (λi j k hi hj e=>?_) (λh2 t R kp hR=>?_) (λi j t R kp hi hj hR=>?_) λp hp hup=>?_
 ·obtain⟨a1,r1,x1,⟨o1,p1,c1,n1,d1⟩,i1⟩:=at_ i (by lia)
  obtain⟨a2,r2,x2,⟨o2,p2,c2,n2,d2⟩,i2⟩:=at_ j (by lia);have ea:a1=a2:=by rw[x1,x2] at e;injection e
  subst ea;rw[p1] at p2;cases p2;rw[d1] at d2;cases d2;have:ts.getD i []=ts.getD j []:=jf i1 i2;rw[this];exact⟨rfl,rfl⟩
 ·-- of which kind the keys are
  have tu:∀(m:Nat) (vs':List Qb) (fs:List Int),(∀i,i<vs'.length->∃(a:Addr) (arr:Array Qb),vs'.getD i .none=.ref a/\IsTup s.heap a arr/\JP arr.toList (ts.getD (m+i) []))->m+vs'.length<=ts.length->
    ∃fs:List Qb,KatTups t.heap vs' fs/\fs.length=vs'.length/\∀v∈fs,∃n tk,v=.int n tk:=by
   intro m vs'
   induction vs' generalizing m with
   |nil=>exact λ_ _ _=>⟨[],.nil,rfl,λv hv=>by cases hv⟩
   |cons v vs' ih=>
    intro fs hat hm
    obtain⟨fs',f1,f2,f3⟩:=ih (m+1) fs (λi hi=>by
     have:=hat (i+1) (by simp;lia);rw[show m+(i+1)=m+1+i by lia] at this
     simpa using this) (by simp at hm;lia)
    obtain⟨a,arr,e1,⟨o,e2,e3,n,e4⟩,e5⟩:=hat 0 (by simp);have e1:v=.ref a:=by simpa using e1
    subst e1
    have hmem:ts.getD (m+0) []∈ts:=by
     have hlt:m+0<ts.length:=by simp at hm;lia
     have:=bY ([]:List Int) hlt;exact QZ this
    generalize hg:ts.getD (m+0) []=tt at e5 hmem;cases hh:arr.toList with
    |nil=>
     rw[hh] at e5;cases e5;exact absurd rfl (hne _ hmem)
    |cons f r=>
     rw[hh] at e5;cases e5 with
     |cons nn tk rest=>
      refine⟨.int nn tk::fs',.cons (kp _ _ e2) e3 e4 ?_ f1,by simp[f2],λv hv=>?_⟩
      ·rw[<-Qw,hh];rfl
      ·rcases Qn.mp hv with rfl | hv
       ·exact⟨_,_,rfl⟩
       ·exact f3 v hv
  obtain⟨fs,f1,f2,f3⟩:=tu 0 its [] (λi hi=>by rw[Jg];exact at_ i (by lia)) (by lia);refine kat_kind (T:=.type "int") f1 (by lia) (λv hv=>?_) (by rfl) hR;obtain⟨n,tk,rfl⟩:=f3 v hv;exact Looks.of_pure rfl
 ·obtain⟨a1,r1,x1,⟨o1,p1,c1,n1,d1⟩,i1⟩:=at_ i (by lia)
  obtain⟨a2,r2,x2,⟨o2,p2,c2,n2,d2⟩,i2⟩:=at_ j (by lia);rw[x1,x2];refine kat_lt (kp _ _ p1) d1 (kp _ _ p2) d2 (kW 0 i1 i2 ?_);have l1:r1.size=(ts.getD i []).length:=by rw[<-i1.length];simp
  have l2:r2.size=(ts.getD j []).length:=by rw[<-i2.length];simp
  rw[l1,l2,nX];exact hR
 ·rw[<-sz] at hp hup
  have us:=yP hp hup;obtain⟨ep,he⟩:=sortedAll_at s.heap its (Jk (p.toList.map λi=>its.getD i .none));have nn:H (s.heap.objs.size+1)=none:=I.hok.fresh (Nat.le_succ _);have below:∀i∈p.toList,i<ts.length:=λi hi=>Q7.mp (hp.pm.mem_iff.mp hi)
  have vals:∀l:List Nat,(∀i∈l,i<ts.length)->a9 (l.map λi=>vs.getD i V.non) (l.map λi=>its.getD i JH):=by
   intro l
   induction l with
   |nil=>exact λ_=>.nil
   |cons i r ih=>
    intro hl;have hi:=hl i (Qj ..);have hx:=bY V.non (l:=vs) (i:=i) (by rw[rr.length];lia);obtain⟨u,eu,ru⟩:=rr.get hx;rw[bY JH (by lia)] at eu;rw[<-Option.some.inj eu] at ru;exact .cons ru (ih λj hj=>hl j (Qg _ hj))
  have dens:∀l:List Nat,(∀i∈l,i<ts.length)->DenL X.K G (l.map λi=>vs.getD i V.non) ((l.map λi=>ts.getD i []).map dW):=by
   intro l
   induction l with
   |nil=>exact λ_=>.nil
   |cons i r ih=>
    intro hl;have hi:=hl i (Qj ..);have hx:=bY V.non (l:=vs) (i:=i) (by rw[rr.length];lia);obtain⟨d,e1,e2⟩:=hd.getV hx;rw[Qx,bY [] hi] at e1;cases e1;exact .cons e2 (ih λj hj=>hl j (Qg _ hj))
  have dn:=dens p.toList below;rw[us] at dn;refine⟨.ref (s.heap.objs.size+1),upd H (s.heap.objs.size+1) (.lst (p.toList.map λi=>vs.getD i V.non)),I.laid (a:=s.heap.objs.size+1) (o:=.lst (p.toList.map λi=>vs.getD i V.non)) (t':=s.toks) (λb o e=>sortedAll_old e) (Nat.le_succ _) ⟨?_,p.toList.map λi=>its.getD i .none,ep,vals _ below,?_⟩,rfl,q _ _ nn dn⟩
  ·rw[Qi,Qu,hp.sz,Kj];lia
  ·rw[he]
theorem BD{k:Nat}{p:Pos}(hr:Room k X.A)(hc:X.calm=true)(ha:DB X a fa)(hm:X.mg "sorted" = none)(hg:Gl X "sorted":=by rfl)(hst:Qy [a] X.env=(false,eval a X.env)::Qy [] X.env:=by rfl)(hpl:(JG pos (Qy [] X.env)).any (·.1)=false:=by rfl):DF X (.Call (.Name "sorted" p) [a] [] pos) (tK fa):=by
 obtain⟨ta,a1,a2⟩:=ha;refine⟨_,fX (uL hr hc) hg hm boot_sorted (bR a1 cR hst) (by decide) (by decide) hst hpl,λHe G H σ ε d Q gh E ef q=>?_⟩;unfold tK at ef;split at ef
 ·rename_i ds e1
  obtain⟨ts,en,ef⟩:=ai ef;split at ef
  ·rename_i hl
   cases ef;refine a2 He G H σ ε _ _ gh E e1 λv G1 H1 g1 d1=>?_;obtain⟨m1,m2⟩:=lG en;subst m1;obtain⟨l,xs,rfl,h1,h2⟩:=d1.lst g1.gh;refine⟨G1,l,xs,ts,rfl,g1.gh,h1,h2,m2,hl,λp' us hp hd=>?_⟩;exact q p' _ G1 _ (g1.trans (.lay _ g1.gh hp)) (g1.hh.free hp) (g1.gh.free hp) aG hd
  ·cases ef
 ·cases ef
end
open RW2
def g0(h:Heap)(vs:List Qb):Heap:=h.push (seqObj "list" vs.toArray 0)
def gB(h:Heap)(vs:List Qb):Heap:=(((g0 h vs).update h.objs.size (Ke λ_=>#[])).push (seqObj "tuple" vs.toArray 0)).push (seqObj "list" #[] 0)
theorem sI(h:Heap)(vs:List Qb):(g0 h vs).get? h.objs.size=some (seqObj "list" vs.toArray 0):=QF _ rfl
theorem BY(h:Heap)(vs:List Qb):∃c,((g0 h vs).update h.objs.size (Ke λ_=>#[])).get? h.objs.size=some (seqObj "list" #[] c)/\(gB h vs).get? h.objs.size=some (seqObj "list" #[] c):=by
 have e:=get?_update_seq (sI h vs) λ_=>#[];exact⟨_,e,Qh _ (Qh _ e)⟩
theorem B4{h:Heap}{vs:List Qb}{b:Addr}{o:Obj}(e:h.get? b=some o):(gB h vs).get? b=some o:=by
 unfold gB g0;refine Qh _ (Qh _ ?_);rw[KL _ _ _ _ (QQ (Qz e))];exact Qh _ e
theorem Cd{h h1:Heap}{vs:List Qb}(k:Kp h h1):Kp h (gB h1 vs):=λb o e=>B4 (k b o e)
def gZ(h:Heap)(vs:List Qb)(out:Array Qb):Heap:=(gB h vs).update h.objs.size (Ke λ_=>out)
theorem FD(h:Heap)(vs:List Qb)(out:Array Qb):∃c,(gZ h vs out).get? h.objs.size=some (seqObj "list" out c):=by
 obtain⟨c,_,m2⟩:=BY h vs;exact⟨_,get?_update_seq m2 λ_=>out⟩
theorem Fv{h:Heap}{vs:List Qb}{out:Array Qb}{b:Addr}{o:Obj}(e:h.get? b=some o):(gZ h vs out).get? b=some o:=by
 unfold gZ;rw[KL _ _ _ _ (QQ (Qz e))];exact B4 e
section
variable{prog:QJ}{w:QL}{A:QU}{E:Qb->Qc->Prop}{s:Qc}{κ:ZH}
theorem xP{T:String}{d:Addr}{n:Nat}{P:Nat->Qb->Prop}{OK:Heap->Prop}{vs:List Qb}{R:List Qb->Qc->Prop}(src:PySem.W.KdlSrc prog w T d d n P OK)(x:OK s.heap)(hh:A.handled=none)(hn:n<=QO)(ev:∀acc:Array Qb,ItemsOf P acc n->acc.toList=vs)
  (h:∀(h':Heap) (tk:Nat),Kp s.heap h'->s.heap.objs.size<h'.objs.size->R vs { s with heap:=h',toks:=tk }):Qm (Qo prog w) A (collect (.ref d)) R E s:=by
 have dl:=(src.there _ x).1;unfold collect;refine Qa (wpAny_runValue (Zf entry_proto_collect' ?_));rw[JI PySem.F.plain_proto_collect];show Qm _ A.in1 (newList []>>=λl=>again (.builtin "list.__iadd__" ⟨[l,.ref d],[]⟩)) _ _ s;refine Qa (Jd (Qd ⟨Zz PySem.F.plain_list_iadd _,Zf entry_list_iadd' ?_⟩));rw[JI PySem.F.plain_list_iadd];have at0:(s.heap.push { cls:=.type "list",data:=.seq ([]:List Qb).toArray }).get? s.heap.objs.size=some { cls:=.type "list",data:=.seq #[] }:=QF _ rfl;show Qm _ A.in1 (Builtin.List.listExtendWith (.ref s.heap.objs.size) (.ref d) (.ref s.heap.objs.size)) _ _ _
 have k9:=kdl_extend (A:=A) (s:={ s with heap:=s.heap.push { cls:=.type "list",data:=.seq ([]:List Qb).toArray } })
  (R:=λ(q:Result) (s':Qc)=>∃(h':Heap) (tk:Nat) (acc:Array Qb) (c:Nat),q=.ok (.ret (.ref s.heap.objs.size))/\s'={ s with heap:=h',toks:=tk }/\Kp s.heap h'/\h'.get? s.heap.objs.size=some { cls:=.type "list",dict:=none,data:=.seq acc c,slots:=#[] }/\ItemsOf P acc n)
  src hh (src.keep _ _ x λb _ o e=>Qh _ e) s.heap.objs.size (Nat.ne_of_gt dl) (Nat.ne_of_gt dl) (.ref s.heap.objs.size) 0 at0
  (λh' tk acc c hk hS items=>⟨h',tk,acc,c,rfl,rfl,λb o e=>hk b o (QQ (Qz e)) (Qh _ e),hS,items⟩) hn
 have fin:∀(h':Heap) (tk:Nat) (acc:Array Qb) (c:Nat),Kp s.heap h'->h'.get? s.heap.objs.size=some { cls:=.type "list",dict:=none,data:=.seq acc c,slots:=#[] }->ItemsOf P acc n->R acc.toList { s with heap:=h',toks:=tk }:=λh' tk acc c kp hS items=>by
  rw[ev acc items];exact h h' tk kp (Qz hS)
 refine QV k9 (λf s' z=>?_) λe s' z=>?_
 ·cases f with
  |done f=>
   obtain⟨h',tk,acc,c,e,rfl,kp,hS,items⟩:=z;cases e;show Qm _ A (load s.heap.objs.size>>=λ_=>_) _ _ _;exact Qa (wpAny_load hS (Qd (fin h' tk acc c kp hS items)))
  |again c₁=>
   refine⟨z.1,codeAny_mono z.2 λq s₂ y=>?_⟩;obtain⟨h',tk,acc,c,rfl,rfl,kp,hS,items⟩:=y;show Qm _ A (load s.heap.objs.size>>=λ_=>_) _ _ _;exact Qa (wpAny_load hS (Qd (fin h' tk acc c kp hS items)))
 ·obtain⟨_,_,_,_,e',_⟩:=z
  cases e'
theorem vy{T:String}{d:Addr}{n:Nat}{P:Nat->Qb->Prop}{OK:Heap->Prop}{vs:List Qb}{Q:Qb->Qc->Prop}{lt:Nat->Nat->Bool}(src:PySem.W.KdlSrc prog w T d d n P OK)(x:OK s.heap)(hh:A.handled=none)(nv:n=vs.length)(ev:∀acc:Array Qb,ItemsOf P acc n->acc.toList=vs)(hz:vs.length<1000000)(O:Ord vs.length lt)
  (hcon:∀i j k,i<vs.length->j<vs.length->vs.getD i .none=vs.getD j .none->lt i k=lt j k/\lt k i=lt k j)
  (hk:2<=vs.length->∀(t:Qc) (R:ZH->Qc->Prop),Kp s.heap t.heap->R κ t->Qm (Qo prog w) A.in1.in1 (keyKind' vs.toArray) R (λ_ _=>False) t)
  (hc:∀i j (t:Qc) (R:Bool->Qc->Prop),Kp s.heap t.heap->i<vs.length->j<vs.length->R (lt i j) t->Qm (Qo prog w) A.in1.in1 (keyLt' κ (vs.getD i .none) (vs.getD j .none)) R (λ_ _=>False) t)
  (h:∀(p:Array Nat) (h1:Heap) (tk1:Nat),Kp s.heap h1->s.heap.objs.size<h1.objs.size->Pm vs.length p->Up lt p vs.length->Q (.ref h1.objs.size) { s with heap:=gZ h1 vs (Jk (p.toList.map λi=>vs.getD i .none)),toks:=tk1 }):Qm (Qo prog w) A (call (.builtin "sorted") [.ref d]) Q E s:=by
 have zl:vs.length<=QO:=Jr (Jw hz (by decide));refine Calls.call_function_entry (kind_sorted) (plain_sorted) (entry_sorted) (args_sorted1 _) ?_;unfold ZU.«sorted»;refine Qa (m:=(checkCount "sorted" 1 1 _)) (Qd (Qa (xP (A:=A.in1) src x hh (by rw[nv];exact zl) ev λh1 tk1 kp1 sl1=>?_)));refine Qa (wpAny_newList (items:=vs) ?_ zl);obtain⟨c,m1,m2⟩:=BY h1 vs;show Qm _ _ _ _ _ { s with heap:=g0 h1 vs,toks:=tk1 };refine Qa (Q0 (J9 (slot_list_sort) ⟨_,sI h1 vs,rfl⟩ (entry_list_sort) ?tree (args_list_sort _)))
 case tree=>
  rw[list_sort_plain];refine Qa (listItems_at (sI h1 vs) rfl (Qa (KI (sI h1 vs) rfl (Qa (seqEpoch_at m1 rfl (Qa (wpAny_newTuple (items:=vs) (Qa (wpAny_newList (items:=[]) (Q0 ?_) (QN _))) zl)))) (by simpa using zl) (QN _))));show Qm (Qo prog w) A.in1.in1 _ _ _ { s with heap:=gB h1 vs,toks:=tk1 };dsimp only
  have out:∀p:Array Nat,Pm vs.length p->Up lt p vs.length->∀st:QY,(Qq st).map (·.2)=Jk (p.toList.map λi=>vs.getD i .none)->((Qq st).map (·.2)).size<=QO+1:=λp hp _ st e=>by
   rw[e];simp only[QR,Qi,Qu,hp.sz]
   lia
  by_cases two:vs.toArray.size<2
  ·rw[if_pos two,if_pos two]
   have two':vs.length<2:=by simpa using two
   refine Qa (Qd ?_);rw[StateT.run_pure]
   have e0:(Qq (ZK general' (vs.toArray.zip vs.toArray) #[] 7 none)).map (·.2)=Jk ((Jk (QE vs.length)).toList.map λi=>vs.getD i .none):=by
    show(vs.toArray.zip vs.toArray).map (·.2)=_;exact uw two'
   have up0:Up lt (Jk (QE vs.length)) vs.length:=λi j a b=>by
    have:i=j:=by lia
    subst this;exact O.rf _
   refine Qa (Qd ?_);dsimp only;refine Qa (seqEpoch_at m2 rfl (Qa (KI m2 rfl ?_ (QN _) (out _ (.start _) up0 _ e0))));simp only[QK,bne_self_eq_false,if_false];refine Qd ⟨_,rfl,Qd ⟨_,rfl,?_⟩⟩;have:=h _ h1 tk1 kp1 sl1 (.start _) up0;rw[<-e0] at this;exact this
  ·rw[if_neg two,if_neg two]
   have two':2<=vs.length:=by simpa using two
   refine Qa (QV (hk two' { s with heap:=gB h1 vs,toks:=tk1 } (λk t=>k=κ/\t={ s with heap:=gB h1 vs,toks:=tk1 }) (Cd kp1) ⟨rfl,rfl⟩) (λk t hkt=>?_) λ_ _ x=>x.elim);obtain⟨rfl,rfl⟩:=hkt;generalize ht:({ s with heap:=gB h1 vs,toks:=tk1 }:Qc)=t0 at *;have kp0:Kp s.heap t0.heap:=by rw[<-ht];exact Cd kp1
   have run:=qS (M:=Qo prog w) (A:=A.in1.in1) (E:=λ_ _=>False) (s:=t0) (κ:=k) (S:=sK vs) (L:=lK vs lt) (st:=ZK k (vs.toArray.zip vs.toArray) #[] 7 none) (Q:=λ_ st=>JB st=none/\∃p:Array Nat,Pm vs.length p/\Up lt p vs.length/\(Qq st).map (·.2)=Jk (p.toList.map λi=>vs.getD i .none))
    (yb hcon λi j R hi hj hR=>hc i j t0 R kp0 hi hj hR) (λx y e=>O.as _ _ e) (λx y z e f=>O.tr _ _ _ e f) rfl rfl rfl (Cr vs) λst' f' sp pm=>⟨f',tq O hcon sp pm⟩
   have run':Qm (Qo prog w) A.in1.in1 ((sortRuns').run (ZK k (vs.toArray.zip vs.toArray) #[] 7 none)) (λr t=>t=t0/\JB r.2=none/\∃p:Array Nat,Pm vs.length p/\Up lt p vs.length/\(Qq r.2).map (·.2)=Jk (p.toList.map λi=>vs.getD i .none)) (λ_ _=>False) t0:=run;refine Qa (QV run' ?_ λ_ _ x=>x.elim);rintro⟨⟨⟩,st⟩ t ⟨e1,hf,p,hp,hup,hout⟩;subst e1;dsimp only at hf hout ⊢;subst ht;refine Qa (seqEpoch_at m2 rfl (Qa (KI m2 rfl ?_ (QN _) (out p hp hup st hout))));rw[hf];simp only[QK,bne_self_eq_false,if_false];refine Qd ⟨_,rfl,Qd ⟨_,rfl,?_⟩⟩;have:=h p h1 tk1 kp1 sl1 hp hup;rw[<-hout] at this;exact this
end
section
variable{X:Cx}{a:Expr}{pos:Pos}{fa:Ev->Option D}
theorem B5:∀{us:bB} {raw:List Zi},JU EntOk us raw->raw.map (·.key)=us.map λu=>QI u.2.1
 |_,_,.nil=>rfl
 |_,_,.cons h t=>by rw[Qv,Qv,B5 t,h.key]
def CB(X:Cx)(G:Hp)(d:Addr)(ts:List (List Int))(h:Heap):Prop:=∃(us:List (List Int×Addr)) (T:String) (P:Nat->Qb->Prop) (OK:Heap->Prop),KdlSrc X.prog X.w T d d us.length P OK/\OK h/\(∀acc:Array Qb,ItemsOf P acc us.length->acc.toList=us.map λu=>QI u.2)/\
 (∀u∈us,SqT X.K G u.2 (u.1.map V.int))/\J0 (us.map (·.1)) ts
theorem mT{k:Nat}(hr:Room k X.A)(hc:X.calm=true):eY X (.builtin "sorted") (λxs H Q=>∃G d P0 tl,xs=[.ref d]/\aI G H/\H d=some (.ext P0)/\(∀h,P0 h->CB X G d tl h)/\(∀t∈tl,t≠[])/\tl.length<1000000/\
  ∀p us,H p=none->DenL X.K G us ((eB tl).map dW)->Q (.ref p) (upd H p (.lst us))):=by
 intro pins s σ H xs us Q I rv h;obtain⟨G,d,P0,tl,rfl,gh,hD,hsrc,hne,hn,q⟩:=h;obtain⟨u,rfl,ru⟩:=rv.one;cases ru;obtain⟨es0,T,P,OK,src,ok,ev,sq,pm⟩:=hsrc _ (show bL X.prog X.w H s.heap d (.ext P0) from I.hok d _ hD).1;have hn:(es0.map (·.1)).length<1000000:=by rw[pm.length_eq];exact hn
 have hne:∀t∈es0.map (·.1),t≠[]:=λt ht=>hne t (pm.mem_iff.mp ht)
 have q:∀p us,H p=none->DenL X.K G us ((eB (es0.map (·.1))).map dW)->Q (.ref p) (upd H p (.lst us)):=by
  rw[lQ (kI _) (kI tl) ((bO _).trans (pm.trans (bO tl).symm))];exact q
 have hd:DenL X.K G (es0.map λu=>V.ref u.2) ((es0.map (·.1)).map dW):=by
  clear ev src pm hn hne q
  induction es0 with
  |nil=>exact .nil
  |cons u r ih=>exact .cons (.tup (sq u Qj) (pO _)) (ih λv hv=>sq v (Qg _ hv))
 have rr:a9 (es0.map λu=>V.ref u.2) (es0.map λu=>QI u.2):=by
  clear ev src pm hn hne q hd sq
  induction es0 with
  |nil=>exact .nil
  |cons u r ih=>exact .cons rfl ih
 have nu:es0.length=(es0.map λu=>QI u.2).length:=(Qi _).symm;generalize hts:es0.map (·.1)=ts at hne hn hd q;generalize hvs:(es0.map λu=>V.ref u.2)=vs at hd rr;generalize hits:(es0.map λu=>QI u.2)=its at rr ev nu;have nl:its.length=ts.length:=by rw[<-rr.length,hd.length,Qi]
 have at_:∀i,i<ts.length->∃(a:Addr) (arr:Array Qb),its.getD i .none=.ref a/\IsTup s.heap a arr/\JP arr.toList (ts.getD i []):=λi hi=>by
  have hi1:i<its.length:=by lia
  have hi2:i<vs.length:=by rw[rr.length];exact hi1
  have hx:=bY V.non hi2;obtain⟨d,e1,e2⟩:=hd.getV hx;rw[Qx,bY [] hi] at e1;cases e1;obtain⟨a,ys,ea,w1,w2⟩:=e2.tupV;obtain⟨u,eu,ru⟩:=rr.get hx;rw[bY JH hi1] at eu;have eu:=Option.some.inj eu;rw[ea] at ru;obtain⟨arr,r2,p2,_⟩:=I.tuple (aR gh w1);refine⟨a,arr.toArray,eu.trans (show u=QI a from ru),p2,?_⟩;have:=dD w2 (ir _);rw[this] at r2;simpa using eO r2
 have sz:ts.length=its.length:=nl.symm;refine vy (κ:=tuples' (Value.type "int" != Value.type "tuple")) (lt:=λi j=>lxL (ts.getD i []) (ts.getD j [])) src ok (I.ok.hd hc) nu ev (by lia) ⟨λx y e=>p8 _ _ e,λx y z e f=>uy _ _ _ e f⟩ (λi j k hi hj e=>?_) (λh2 t R kp hR=>?_) (λi j t R kp hi hj hR=>?_) λp h1 tk1 kp1 sl1 hp hup=>?_
 ·obtain⟨a1,r1,x1,⟨o1,p1,c1,n1,d1⟩,i1⟩:=at_ i (by lia)
  obtain⟨a2,r2,x2,⟨o2,p2,c2,n2,d2⟩,i2⟩:=at_ j (by lia);have ea:a1=a2:=by rw[x1,x2] at e;injection e
  subst ea;rw[p1] at p2;cases p2;rw[d1] at d2;cases d2;have:ts.getD i []=ts.getD j []:=jf i1 i2;rw[this];exact⟨rfl,rfl⟩
 ·-- of which kind the keys are
  have tu:∀(m:Nat) (vs':List Qb) (fs:List Int),(∀i,i<vs'.length->∃(a:Addr) (arr:Array Qb),vs'.getD i .none=.ref a/\IsTup s.heap a arr/\JP arr.toList (ts.getD (m+i) []))->m+vs'.length<=ts.length->
    ∃fs:List Qb,KatTups t.heap vs' fs/\fs.length=vs'.length/\∀v∈fs,∃n tk,v=.int n tk:=by
   intro m vs'
   induction vs' generalizing m with
   |nil=>exact λ_ _ _=>⟨[],.nil,rfl,λv hv=>by cases hv⟩
   |cons v vs' ih=>
    intro fs hat hm
    obtain⟨fs',f1,f2,f3⟩:=ih (m+1) fs (λi hi=>by
     have:=hat (i+1) (by simp;lia);rw[show m+(i+1)=m+1+i by lia] at this
     simpa using this) (by simp at hm;lia)
    obtain⟨a,arr,e1,⟨o,e2,e3,n,e4⟩,e5⟩:=hat 0 (by simp);have e1:v=.ref a:=by simpa using e1
    subst e1
    have hmem:ts.getD (m+0) []∈ts:=by
     have hlt:m+0<ts.length:=by simp at hm;lia
     have:=bY ([]:List Int) hlt;exact QZ this
    generalize hg:ts.getD (m+0) []=tt at e5 hmem;cases hh:arr.toList with
    |nil=>
     rw[hh] at e5;cases e5;exact absurd rfl (hne _ hmem)
    |cons f r=>
     rw[hh] at e5;cases e5 with
     |cons nn tk rest=>
      refine⟨.int nn tk::fs',.cons (kp _ _ e2) e3 e4 ?_ f1,by simp[f2],λv hv=>?_⟩
      ·rw[<-Qw,hh];rfl
      ·rcases Qn.mp hv with rfl | hv
       ·exact⟨_,_,rfl⟩
       ·exact f3 v hv
  obtain⟨fs,f1,f2,f3⟩:=tu 0 its [] (λi hi=>by rw[Jg];exact at_ i (by lia)) (by lia);refine kat_kind (T:=.type "int") f1 (by lia) (λv hv=>?_) (by rfl) hR;obtain⟨n,tk,rfl⟩:=f3 v hv;exact Looks.of_pure rfl
 ·obtain⟨a1,r1,x1,⟨o1,p1,c1,n1,d1⟩,i1⟩:=at_ i (by lia)
  obtain⟨a2,r2,x2,⟨o2,p2,c2,n2,d2⟩,i2⟩:=at_ j (by lia);rw[x1,x2];refine kat_lt (kp _ _ p1) d1 (kp _ _ p2) d2 (kW 0 i1 i2 ?_);have l1:r1.size=(ts.getD i []).length:=by rw[<-i1.length];simp
  have l2:r2.size=(ts.getD j []).length:=by rw[<-i2.length];simp
  rw[l1,l2,nX];exact hR
 ·rw[<-sz] at hp hup
  have us:=yP hp hup;obtain⟨ep,he⟩:=FD h1 its (Jk (p.toList.map λi=>its.getD i .none));have le1:s.heap.objs.size<=h1.objs.size:=Jr sl1;have nn:H h1.objs.size=none:=I.hok.fresh le1;have below:∀i∈p.toList,i<ts.length:=λi hi=>Q7.mp (hp.pm.mem_iff.mp hi)
  have vals:∀l:List Nat,(∀i∈l,i<ts.length)->a9 (l.map λi=>vs.getD i V.non) (l.map λi=>its.getD i JH):=by
   intro l
   induction l with
   |nil=>exact λ_=>.nil
   |cons i r ih=>
    intro hl;have hi:=hl i (Qj ..);have hx:=bY V.non (l:=vs) (i:=i) (by rw[rr.length];lia);obtain⟨u,eu,ru⟩:=rr.get hx;rw[bY JH (by lia)] at eu;rw[<-Option.some.inj eu] at ru;exact .cons ru (ih λj hj=>hl j (Qg _ hj))
  have dens:∀l:List Nat,(∀i∈l,i<ts.length)->DenL X.K G (l.map λi=>vs.getD i V.non) ((l.map λi=>ts.getD i []).map dW):=by
   intro l
   induction l with
   |nil=>exact λ_=>.nil
   |cons i r ih=>
    intro hl;have hi:=hl i (Qj ..);have hx:=bY V.non (l:=vs) (i:=i) (by rw[rr.length];lia);obtain⟨d,e1,e2⟩:=hd.getV hx;rw[Qx,bY [] hi] at e1;cases e1;exact .cons e2 (ih λj hj=>hl j (Qg _ hj))
  have dn:=dens p.toList below;rw[us] at dn;refine⟨.ref h1.objs.size,upd H h1.objs.size (.lst (p.toList.map λi=>vs.getD i V.non)),I.laid (a:=h1.objs.size) (o:=.lst (p.toList.map λi=>vs.getD i V.non)) (t':=tk1) (λb o e=>Fv (kp1 b o e)) le1 ⟨?_,p.toList.map λi=>its.getD i .none,ep,vals _ below,?_⟩,rfl,q _ _ nn dn⟩
  ·rw[Qi,Qu,hp.sz,Kj];lia
  ·rw[he]
theorem BJ{G:Hp}{d:Addr}{us:bB}{ep:Nat}{es:List (List Int×D)}(m:DenM X.K G us es)(h:Heap)(x:DAt d us ep h):CB X G d (es.map (·.1)) h:=by
 obtain⟨nm,_,o,raw,g1,g2,g3,pr⟩:=x;have ev:=B5 pr;have ln:raw.size=(us.map λu=>(u.1,u.2.1)).length:=by have:=congrArg List.length ev;simpa using this
 refine⟨us.map λu=>(u.1,u.2.1),"dict",_,_,ln▸qI d nm raw ep,⟨o,g1,g2,g3⟩,λacc items=>?_,λu hu=>?_,?_⟩
 ·rw[JK]
  refine Eq.trans ?_ ev;refine Jv λi=>?_;rw[Qx,Qw,Qw]
  by_cases hi:i<raw.size
  ·have hi2:i<acc.size:=by rw[items.1,<-ln];exact hi
   obtain⟨e,e1,e2⟩:=items.2 i acc[i] (by simp[hi2]);rw[e1];simp[hi2,e2]
  ·rw[Jz (by rw[items.1,<-ln];exact Jj hi),Jz (Jj hi)]
   rfl
 ·obtain⟨v,hv,rfl⟩:=Q2.mp hu
  exact m.mem v hv
 ·rw[JK,<-m.keys]
  exact List.Perm.refl _
def qd(fa:Ev->Option D):Ev->Option (List D):=λε=>match fa ε with
 |some (.dic es)=>if(es.all λe=>!e.1.isEmpty)=true/\es.length<1000000 then some ((eB (es.map (·.1))).map dW) else none
 |_=>none
theorem Bv{k:Nat}{p:Pos}(hr:Room k X.A)(hc:X.calm=true)(ha:DE X a fa)(hm:X.mg "sorted" = none)(hg:Gl X "sorted":=by rfl)(hst:Qy [a] X.env=(false,eval a X.env)::Qy [] X.env:=by rfl)(hpl:(JG pos (Qy [] X.env)).any (·.1)=false:=by rfl):DF X (.Call (.Name "sorted" p) [a] [] pos) (qd fa):=by
 obtain⟨ta,a1,a2⟩:=ha;refine⟨_,fX (mT hr hc) hg hm boot_sorted (bR a1 cR hst) (by decide) (by decide) hst hpl,λHe G H σ ε d Q gh E ef q=>?_⟩;unfold qd at ef;split at ef
 ·rename_i es e1
  split at ef
  ·rename_i cnd
   cases ef;refine a2 He G H σ ε _ _ gh E e1 λv G1 H1 g1 d1=>?_;cases d1 with
   |@dic dd us ep _ hG nd m=>
    refine⟨G1,dd,_,es.map (·.1),rfl,g1.gh,g1.gh _ _ hG,BJ m,λt ht=>?_,by rw[Qi];exact cnd.2,λp us' hp hd=>q p us' G1 _ (g1.trans (.lay _ g1.gh hp)) (g1.hh.free hp) (g1.gh.free hp) aG hd⟩;obtain⟨e,he,rfl⟩:=Q2.mp ht;have:=Jc.mp cnd.1 e he;intro z;rw[z] at this;cases this
  ·cases ef
 ·cases ef
end
end Dn
namespace Tb
open PySem PySem.Spec PyProof.Rows L2 Dn Fl
def rwD(r:List Str):D:=.tup (r.map D.str)
def fmD(c:Fm):Es:=c.map λe=>(stK e.1,rwD e.2)
section
variable(k:Sk)(kk:SkW k)(h:Int)
abbrev evO(fl:Sl)(F:Fm)(s r o a:Sl):Ev:=[.dat (skD k),.dat (.int h),fl,.odi (fmD F),s,r,o,a]
end
def toS(t:List Int):Stt:=⟨t.getD 0 0,t.getD 1 0,t.getD 2 0,t.getD 3 0,t.getD 4 0⟩
theorem kJ(s:Stt):toS (stK s)=s:=rfl
section
variable(k:Sk)(kk:SkW k)(h:Int)(q:Stt)(a b:Int)
def pl(s:Stt):Bool:=decide (s.x=a)&&decide (s.y=b)
end
end Tb
namespace Ly
open PySem PySem.Spec PyProof.Rows L2 Dn Fl Tb
abbrev pS:List Str:=["_law_sky_here","_law_hour","_law_some","_law_found","_law_one","_law_order"]
abbrev fw:List Str:=["_law_sky_here","_law_hour","_law_some"]
def dq:Ev->Option Fl:=(sIf (ay br (aK gv (ag (av 0) (ag (av 1) (ag (av 4) (ag (av 5) aF))))) (eC (.str ""))) (Cn 3 (aK dC (ag (av 0) (ag (av 1) (ag (av 4) (ag (av 5) aF))))) (eC (.bl true))) bC)
def ff:Ev->Option Fl:=(cJ (sW (bM (ag (eC (.str "up")) (ag (eC (.str "level")) (ag (eC (.str "down")) aF))))) (ak 5) (dq))
def ik:Ev->Option Fl:=(aC (EA 3 fD0) (aC (cJ (cV (av 2)) (ak 4) (ff)) (sFz 3 (bh (eF (tK (eF (k_ (av 3)))))))))
def fI:List D->Option D:=fnD pS fw ik
def tD(ks:List (List Int)):Es:=ks.map λk=>(k,D.bl true)
def ins(ks:List (List Int))(k:List Int):List (List Int):=if k∈ks then ks else ks++[k]
theorem zu:∀(ks:List (List Int)) (k:List Int),qk (tD ks) k (.bl true)=tD (ins ks k)
 |[],k=>rfl
 |a::r,k=>by
  show(if a=k then(a,D.bl true)::tD r else(a,D.bl true)::qk (tD r) k (.bl true))=_;rw[zu r k];unfold ins
  by_cases c:a=k
  ·subst c
   rw[if_pos rfl,if_pos (Qj ..)];rfl
  ·rw[if_neg c]
   by_cases d:k∈r
   ·rw[if_pos d,if_pos (Qg _ d)];rfl
   ·rw[if_neg d,if_neg (λz=>by rcases Qn.mp z with z | z;exact c z.symm;exact d z)];rfl
theorem zL(ks:List (List Int))(k t:List Int):t∈ins ks k↔t∈ks\/t=k:=by
 unfold ins
 by_cases c:k∈ks
 ·rw[if_pos c];exact⟨.inl,λz=>z.elim id λe=>e▸c⟩
 ·rw[if_neg c,QM,Qt]
theorem AN(ks:List (List Int))(k:List Int):(ins ks k).length<=ks.length+1:=by
 unfold ins;split<;>simp
theorem xo(ks:List (List Int)):(tD ks).length=ks.length:=by unfold tD;rw[Qi]
section
variable(k:Sk)(kk:SkW k)(h:Int)
def stp(s:Stt)(ks:List (List Int))(o:Str):List (List Int):=if wh k h s o = "" then ins ks (stK (bo k h s o)) else ks
def nxO(s:Stt)(ks:List (List Int))(os:List Str):List (List Int):=os.foldl (stp k h s) ks
theorem oQ(s:Stt):∀(os:List Str) (ks:List (List Int)),(nxO k h s ks os).length<=ks.length+os.length
 |[],ks=>Qf _
 |o::os,ks=>by
  have:=oQ s os (stp k h s ks o);have e:(stp k h s ks o).length<=ks.length+1:=by unfold stp;split;exact AN _ _;exact Nat.le_succ _
  show(nxO k h s (stp k h s ks o) os).length<=_;rw[QA];lia
theorem sO(s:Stt)(t:List Int):∀(os:List Str) (ks:List (List Int)),t∈nxO k h s ks os↔t∈ks\/∃o∈os,wh k h s o = ""/\t=stK (bo k h s o)
 |[],ks=>by simp[nxO]
 |o::os,ks=>by
  show t∈nxO k h s (stp k h s ks o) os↔_;rw[sO s t os];unfold stp
  by_cases c:wh k h s o = ""
  ·rw[if_pos c,zL]
   constructor
   ·rintro((a | a) | ⟨x,hx,b⟩)
    ·exact .inl a
    ·exact .inr ⟨o,Qj ..,c,a⟩
    ·exact .inr ⟨x,Qg _ hx,b⟩
   ·rintro(a | ⟨x,hx,b1,b2⟩)
    ·exact .inl (.inl a)
    ·rcases Qn.mp hx with rfl | hx
     ·exact .inl (.inr b2)
     ·exact .inr ⟨x,hx,b1,b2⟩
  ·rw[if_neg c]
   constructor
   ·rintro(a | ⟨x,hx,b⟩)
    ·exact .inl a
    ·exact .inr ⟨x,Qg _ hx,b⟩
   ·rintro(a | ⟨x,hx,b1,b2⟩)
    ·exact .inl a
    ·rcases Qn.mp hx with rfl | hx
     ·exact absurd b1 c
     ·exact .inr ⟨x,hx,b1,b2⟩
def nxA(ss:List Stt):List (List Int):=ss.foldl (λa s=>nxO k h s a Ods) []
theorem xF(ss:List Stt)(s:Stt):nxA k h (ss++[s])=nxO k h s (nxA k h ss) Ods:=by unfold nxA;rw[List.foldl_append];rfl
theorem oM(ss:List Stt):(nxA k h ss).length<=3*ss.length:=by
 have:∀(ss:List Stt) (a:List (List Int)),(ss.foldl (λa s=>nxO k h s a Ods) a).length<=a.length+3*ss.length:=by
  intro ss
  induction ss with
  |nil=>intro a;simp
  |cons s ss ih=>
   intro a;have h1:=ih (nxO k h s a Ods);have h2:(nxO k h s a Ods).length<=a.length+3:=oQ k h s Ods a;show(ss.foldl (λa s=>nxO k h s a Ods) (nxO k h s a Ods)).length<=_;rw[QA];lia
 have:=this ss [];unfold nxA;simpa using this
theorem kx(t:List Int)(ss:List Stt):t∈nxA k h ss↔∃s∈ss,∃o∈can k h s,t=stK (bo k h s o):=by
 have:∀(ss:List Stt) (a:List (List Int)),t∈ss.foldl (λa s=>nxO k h s a Ods) a↔t∈a\/∃s∈ss,∃o∈can k h s,t=stK (bo k h s o):=by
  intro ss
  induction ss with
  |nil=>intro a;simp
  |cons s ss ih=>
   intro a;show t∈ss.foldl (λa s=>nxO k h s a Ods) (nxO k h s a Ods)↔_;rw[ih,sO];constructor
   ·rintro((z | ⟨o,ho,w,e⟩) | ⟨x,hx,z⟩)
    ·exact .inl z
    ·exact .inr ⟨s,Qj ..,o,Ze.mpr ⟨ho,decide_eq_true w⟩,e⟩
    ·exact .inr ⟨x,Qg _ hx,z⟩
   ·rintro(z | ⟨x,hx,o,ho,e⟩)
    ·exact .inl (.inl z)
    ·rcases Qn.mp hx with rfl | hx
     ·exact .inl (.inr ⟨o,(Ze.mp ho).1,of_decide_eq_true (Ze.mp ho).2,e⟩)
     ·exact .inr ⟨x,hx,o,ho,e⟩
 have:=this ss [];unfold nxA;simpa using this
def LN(ss:List Stt):List Stt:=(eB (nxA k h ss)).map toS
theorem Ek(ss:List Stt)(s:Stt):s∈LN k h ss↔∃a∈ss,∃o∈can k h a,s=bo k h a o:=by
 unfold LN;rw[Q2];constructor
 ·rintro⟨t,ht,rfl⟩
  obtain⟨a,ha,o,ho,e⟩:=(kx k h t ss).mp ((bO _).mem_iff.mp ht);exact⟨a,ha,o,ho,by rw[e,kJ]⟩
 ·rintro⟨a,ha,o,ho,rfl⟩
  exact⟨stK (bo k h a o),(bO _).mem_iff.mpr ((kx k h _ ss).mpr ⟨a,ha,o,ho,rfl⟩),kJ _⟩
theorem CO(ss:List Stt):(LN k h ss).length<=3*ss.length:=by
 unfold LN;rw[Qi,(bO _).length_eq];exact oM k h ss
theorem CF(ss:List Stt):(eB (nxA k h ss)).map dW=(LN k h ss).map stD:=by
 unfold LN;rw[JK];refine List.map_congr_left λt ht=>?_;obtain⟨a,_,o,_,rfl⟩:=(kx k h t ss).mp ((bO _).mem_iff.mp ht);rfl
abbrev evX(S:Sl)(ks:List (List Int))(a b:Sl):Ev:=[.dat (skD k),.dat (.int h),S,.odi (tD ks),a,b]
include kk in
theorem Bn(S:Sl)(ks:List (List Int))(hk:ks.length<900000)(s:Stt)(hs:StOk s)(o:Str)(ho:o∈Ods):dq (evX k h S ks (.dat (stD s)) (.dat (.str o)))=some (.nx (evX k h S (stp k h s ks o) (.dat (stD s)) (.dat (.str o)))):=by
 have io:isO o:=by simpa[isO,Ods] using ho
 have t:ay br (aK gv (ag (av 0) (ag (av 1) (ag (av 4) (ag (av 5) aF))))) (eC (.str "")) (evX k h S ks (.dat (stD s)) (.dat (.str o)))=some (decide (wh k h s o = "")):=
  cA (x:=.str (wh k h s o)) (y:=.str "") (aW (ds:=[skD k,.int h,stD s,.str o]) rfl (Ak k kk h s hs o io)) rfl rfl
 unfold dq stp
 by_cases c:wh k h s o = ""
 ·rw[if_pos c]
  refine(eW (t.trans (by rw[decide_eq_true c]))).trans ?_
  have hw:wo o s = "":=by
   unfold wh at c
   by_cases d:wo o s = ""
   ·exact d
   ·rw[if_neg d] at c;exact c
  have e1:aK dC (ag (av 0) (ag (av 1) (ag (av 4) (ag (av 5) aF)))) (evX k h S ks (.dat (stD s)) (.dat (.str o)))=some (stD (bo k h s o)):=by
   rw[<-yF k h s o io hs hw];exact aW (ds:=[skD k,.int h,stD s,.str o]) rfl (tY k (by have:=kk.wl;lia) h s o io)
  show(some (D.bl true)).bind (λd=>(aK dC _ _).bind _)=_;rw[e1];show(if(tD ks).length<1000000 then some (Fl.nx [.dat (skD k),.dat (.int h),S,.odi (qk (tD ks) (stK (bo k h s o)) (.bl true)),.dat (stD s),.dat (.str o)]) else none)=_;rw[if_pos (by rw[xo];lia),zu]
 ·rw[if_neg c]
  exact(dB (t.trans (by rw[decide_eq_false c]))).trans rfl
include kk in
theorem Er(S:Sl)(ks:List (List Int))(hk:ks.length<800000)(s:Stt)(hs:StOk s)(b:Sl):∃b',ff (evX k h S ks (.dat (stD s)) b)=some (.nx (evX k h S (nxO k h s ks Ods) (.dat (stD s)) b')):=by
 obtain⟨ε',e,b',rfl⟩:=iW (g:=ak 5) (gb:=dq) D.str (λdone ε=>∃b,ε=evX k h S (nxO k h s ks done) (.dat (stD s)) b) Ods (λdone x rest hd ε ⟨b,he⟩=>by
  subst he;have dl:done.length<=3:=by have:=congrArg List.length hd;simp[Ods] at this;lia
  have l1:=oQ k h s done ks;refine⟨_,_,rfl,.inl (Bn k kk h S (nxO k h s ks done) (by lia) s hs x (by rw[<-hd];simp)),.dat (.str x),?_⟩
  rw[show nxO k h s ks (done++[x])=stp k h s (nxO k h s ks done) x by unfold nxO;rw[List.foldl_append];rfl]) (evX k h S ks (.dat (stD s)) b) ⟨b,rfl⟩
 exact⟨b',(bE (ds:=Ods.map D.str) rfl).trans e⟩
include kk in
theorem Br(ss:List Stt)(hl:ss.length<=200000)(hs:∀s∈ss,StOk s):fI [skD k,.int h,.lst (ss.map stD)]=some (.lst ((LN k h ss).map stD)):=by
 have main:ik [.dat (skD k),.dat (.int h),.dat (.lst (ss.map stD)),.un,.un,.un]=some (.rt (.lst ((LN k h ss).map stD))):=by
  unfold ik;refine(au (ε':=evX k h (.dat (.lst (ss.map stD))) [] .un .un) rfl).trans ?_
  obtain⟨ε',e,a,b,rfl⟩:=iW (g:=ak 4) (gb:=ff) stD (λdone ε=>∃a b,ε=evX k h (.dat (.lst (ss.map stD))) (nxA k h done) a b) ss (λdone x rest hd ε ⟨a,b,he⟩=>by
   subst he;have dl:done.length<=200000:=by have:=congrArg List.length hd;simp at this;lia
   have l1:=oM k h done;obtain⟨b',e1⟩:=Er k kk h (.dat (.lst (ss.map stD))) (nxA k h done) (by lia) x (hs x (by rw[<-hd];simp)) b
   exact⟨_,_,rfl,.inl e1,_,_,by rw[xF]⟩) (evX k h (.dat (.lst (ss.map stD))) [] .un .un) ⟨_,_,rfl⟩
  refine(au (zI rfl e)).trans ?_;have l1:=oM k h ss;refine cZ (ε:=[.dat (skD k),.dat (.int h),.dat (.lst (ss.map stD)),.dat (.dic (tD (nxA k h ss))),a,b]) (cM ?_)
  have ek:eF (k_ (av 3)) [.dat (skD k),.dat (.int h),.dat (.lst (ss.map stD)),.dat (.dic (tD (nxA k h ss))),a,b]=some (.lst ((nxA k h ss).map dW)):=by
   refine cM ?_;show(if(tD (nxA k h ss)).length<1000000 then some ((tD (nxA k h ss)).map λe=>zq e.1) else none)=_;rw[if_pos (by rw[xo];lia)];unfold tD;rw[JK];rfl
  unfold tK;rw[ek];show(jC ((nxA k h ss).map dW)).bind _=_;rw[mI λt ht=>by obtain⟨a,_,o,_,e⟩:=(kx k h t ss).mp ht;rw[e];exact List.cons_ne_nil _ _];show(if(nxA k h ss).length<1000000 then some ((eB (nxA k h ss)).map dW) else none)=_;rw[if_pos (by lia),CF]
 exact bp rfl main
end
end Ly
namespace LL
open PySem PySem.Spec PyProof.Rows L2 HT
section
open PySem.SeqAt
open PySem.AutoSeq1 (wpAny_loadPart')
open PySem.MeetsSeq PySem.MeetsSeq2 PySem.MeetsSeq3
end
end LL
namespace Dn
open PySem PySem.Spec PyProof.Rows L2
end Dn
namespace LL
open PySem PySem.Spec PyProof.Rows L2 HT
section
open PySem.SeqAt
open PySem.AutoSeq1 (wpAny_loadPart')
open PySem.MeetsSeq PySem.MeetsSeq2 PySem.MeetsSeq3
end
end LL
namespace Dn
open PySem PySem.Spec PyProof.Rows L2
section
variable{X:Cx}{a b c:Expr}{fa fb fc:Ev->Option D}{pos:Pos}
def GJ(x y z:Str):D->Option D:=λd=>match d with
 |.str s=>if x=s\/y=s\/z=s then some (.int ((if x=s then 0 else if y=s then 1 else 2:Nat):Int)) else none
 |_=>none
end
end Dn
namespace Tb
open PySem PySem.Spec PyProof.Rows L2 Dn Fl
def rkO(o:Str):Int:=((if("up" : Str)=o then 0 else if("level" : Str)=o then 1 else 2:Nat):Int)
def rk(r:List Str):List Int:=r.map rkO
theorem xh{o:Str}(h:o∈Ods):GJ "up" "level" "down" (.str o)=some (.int (rkO o)):=by
 simp only[Ods,Qn,List.mem_nil_iff,or_false] at h;show(if _ then _ else none)=_;rw[if_pos (by rcases h with h | h | h;exact .inl h.symm;exact .inr (.inl h.symm);exact .inr (.inr h.symm))];rfl
def R(k:Sk)(h:Int):Nat->Stt->Stt->Prop
 |0,a,b=>b=a
 |n+1,a,b=>∃m,R k h n a m/\∃o,o∈can k (h+(n:Int)) m/\b=bo k (h+(n:Int)) m o
section
variable(k:Sk)
def ld(s:Stt)(u v:Int):Stt:=⟨s.x,s.y,s.z,s.s+u,s.p+v⟩
end
theorem p9{α:Type}{g:D->Ev->Option Ev}{gb:Ev->Option Fl}(enc:α->D)(I:Ev->Prop)(P:α->Bool)(d:D):∀(xs:List α),(∀x∈xs,∀ε,I ε->∃ε1,g (enc x) ε=some ε1/\((P x=true/\gb ε1=some (.rt d))\/(P x=false/\∃ε2,gb ε1=some (.nx ε2)/\I ε2)))->
  ∀ε,I ε->(xs.any P=true/\cO g gb (xs.map enc) ε=some (.rt d))\/(xs.any P=false/\∃ε',cO g gb (xs.map enc) ε=some (.nx ε')/\I ε')
 |[],_,ε,i=>.inr ⟨rfl,ε,rfl,i⟩
 |x::xs,st,ε,i=>by
  obtain⟨ε1,e1,z⟩:=st x (Qj ..) ε i;rcases z with⟨p,e2⟩ | ⟨p,ε2,e2,i2⟩
  ·refine .inl ⟨by rw[Zy,p];rfl,?_⟩
   show(g (enc x) ε).bind _=_;rw[e1];show(gb ε1).bind _=_;rw[e2];rfl
  ·have e:cO g gb ((x::xs).map enc) ε=cO g gb (xs.map enc) ε2:=by
    show(g (enc x) ε).bind _=_;rw[e1];show(gb ε1).bind _=_;rw[e2];rfl
   rw[e,Zy,p];exact p9 enc I P d xs (λy hy=>st y (Qg _ hy)) ε2 i2
theorem iq:∀l:List Bool,gH (l.map D.bl)=some l
 |[]=>rfl
 |b::l=>by
  show(gH (l.map D.bl)).bind _=_;rw[iq l];rfl
end Tb
namespace St
open PySem PySem.SetTable
def lcN:Nat->Nat->Nat
 |0,x=>x
 |t+1,x=>lcN t (5*x+1)
theorem oX:∀(s t x:Nat),lcN (s+t) x=lcN t (lcN s x)
 |0,t,x=>by rw[Jg];rfl
 |s+1,t,x=>by rw[show s+1+t=(s+t)+1 by omega];exact oX s t (5*x+1)
theorem mQ:∀(t x c:Nat),lcN t (x+c)=lcN t x+5 ^ t*c
 |0,x,c=>by rw[Nat.pow_zero,Nat.one_mul];rfl
 |t+1,x,c=>by
  show lcN t (5*(x+c)+1)=lcN t (5*x+1)+5 ^ (t+1)*c;rw[show 5*(x+c)+1=(5*x+1)+5*c by omega,mQ t,Ku,Nat.mul_assoc]
theorem GU(n:Nat):∃u,1+5 ^ n=2*(2*u+1):=by
 induction n with
 |zero=>exact⟨0,rfl⟩
 |succ n ih=>
  obtain⟨u,e⟩:=ih;refine⟨5*u+1,?_⟩;rw[Ku];omega
theorem BM(k x:Nat):∃u,lcN (2 ^ k) x=x+2 ^ k*(2*u+1):=by
 induction k with
 |zero=>exact⟨2*x,by show 5*x+1=_;omega⟩
 |succ k ih=>
  obtain⟨u,e⟩:=ih;obtain⟨v,f⟩:=GU (2 ^ k);refine⟨2*(u*v)+u+v,?_⟩;rw[show 2 ^ (k+1)=2 ^ k+2 ^ k by rw[Ku];omega,oX,e,mQ,e];generalize 2 ^ k=a at *;generalize 5 ^ a=b at *
  grind
theorem Bx(k x:Nat):∀y,y<2 ^ k->∃t,t<2 ^ k/\lcN t x%2 ^ k=y:=by
 induction k with
 |zero=>intro y h;exact⟨0,by decide,by rw[Nat.pow_zero] at h ⊢;omega⟩
 |succ k ih=>
  intro y h;have p2:2 ^ (k+1)=2*2 ^ k:=by rw[Ku];omega
  have ap:0<2 ^ k:=Nat.pow_pos (by decide);obtain⟨t,t1,t2⟩:=ih (y%2 ^ k) (Nat.mod_lt _ ap);obtain⟨u,e⟩:=BM k (lcN t x);rw[p2] at h ⊢;have e2:lcN (t+2 ^ k) x=lcN t x+2 ^ k*(2*u+1):=by rw[oX,e]
  generalize hz:lcN t x=z at *;generalize ha:2 ^ k=a at *
  have y1:y=y%a\/y=y%a+a:=by
   rcases Nat.lt_or_ge y a with q | q
   ·left;exact(ZI q).symm
   ·right
    have v:y%a=y-a:=by rw[Nat.mod_eq_sub_mod q];exact ZI (by omega)
    omega
  have z1:z%(2*a)=z%a\/z%(2*a)=z%a+a:=by
   have q:=Nat.mod_lt z (show 0<2*a by omega);have r:z%(2*a)%a=z%a:=Nat.mod_mul_left_mod z 2 a;rcases Nat.lt_or_ge (z%(2*a)) a with w | w
   ·left;rw[<-r,ZI w]
   ·right
    have v:z%(2*a)%a=z%(2*a)-a:=by rw[Nat.mod_eq_sub_mod w];exact ZI (by omega)
    omega
  by_cases q:z%(2*a)=y
  ·exact⟨t,by omega,by rw[hz];exact q⟩
  ·refine⟨t+a,by omega,?_⟩
   rw[e2,show z+a*(2*u+1)=(z+a)+2*a*u by grind,Nat.add_mul_mod_self_left];have w:z+a=z%(2*a)+a+2*a*(z/(2*a)):=by have:=Nat.div_add_mod z (2*a);omega
   rw[w,Nat.add_mul_mod_self_left];have zl:=Nat.mod_lt z ap;rcases y1 with y1 | y1<;>rcases z1 with z1 | z1
   ·exact absurd (by omega) q
   ·rw[z1,show z%a+a+a=z%a+2*a by omega,Nat.add_mod_right,ZI (by omega)];omega
   ·rw[z1,ZI (by omega)];omega
   ·exact absurd (by omega) q
section
variable(M:Nat)(h:Int)
def rn:Nat->Nat×Nat
 |0=>(bits h%M,bits h)
 |m+1=>(((rn m).1*5+1+(rn m).2/32)%M,(rn m).2/32)
theorem GH(m:Nat):(rn M h m).2=bits h/32 ^ m:=by
 induction m with
 |zero=>show bits h=_;rw[Nat.pow_zero,Nat.div_one]
 |succ m ih=>show(rn M h m).2/32=_;rw[ih,Nat.div_div_eq_div_mul,<-Ku]
theorem BB:bits h<2 ^ 64:=by unfold bits;omega
theorem GG(m:Nat)(hm:13<=m):(rn M h m).2=0:=by
 rw[GH];refine Nat.div_eq_of_lt (QS (BB h) (Q4 (show 2 ^ 64<=32 ^ 13 by decide) (Nat.pow_le_pow_right (by decide) hm)))
theorem B3(hM:0<M)(m:Nat):(rn M h m).1<M:=by cases m<;>exact Nat.mod_lt _ hM
theorem EB(t:Nat):(rn M h (13+t)).1%M=lcN t (rn M h 13).1%M:=by
 induction t with
 |zero=>rfl
 |succ t ih=>
  have e:(rn M h (13+(t+1))).1=((rn M h (13+t)).1*5+1+(rn M h (13+t)).2/32)%M:=rfl;rw[e,GG M h (13+t) (by omega),Nat.zero_div,ZR,Nat.mod_mod]
  have:∀(t x:Nat),lcN (t+1) x=5*lcN t x+1:=λt=>by
   induction t with
   |zero=>intro x;rfl
   |succ t ih=>intro x;exact ih (5*x+1)
  rw[this,show(rn M h (13+t)).1*5+1=5*(rn M h (13+t)).1+1 by omega,Nat.add_mod,Nat.mul_mod,ih,<-Nat.mul_mod,<-Nat.add_mod]
theorem yt(k s:Nat)(hs:s<2 ^ k):∃m,m<13+2 ^ k/\(rn (2 ^ k) h m).1=s:=by
 obtain⟨t,t1,t2⟩:=Bx k (rn (2 ^ k) h 13).1 s hs;refine⟨13+t,by omega,?_⟩;rw[<-ZI (B3 (2 ^ k) h (Nat.pow_pos (by decide)) (13+t)),EB,t2]
end
section
variable(mask:Nat)(h:Int)
def ln(m:Nat):Nat:=runEnd mask (rn (mask+1) h m).1-(rn (mask+1) h m).1
theorem ER(m:Nat):ln mask h m<=9:=by unfold ln runEnd;split<;>omega
theorem Ci(m d:Nat)(hd:d<=ln mask h m):(rn (mask+1) h m).1+d<=mask:=by
 have:=B3 (mask+1) h (Nat.succ_pos _) m;unfold ln runEnd at hd;split at hd<;>omega
def at_:Nat->Nat×Nat
 |0=>(0,0)
 |n+1=>if(at_ n).2<ln mask h (at_ n).1 then((at_ n).1,(at_ n).2+1) else((at_ n).1+1,0)
theorem B7(n:Nat):(at_ mask h n).2<=ln mask h (at_ mask h n).1:=by
 cases n with
 |zero=>exact QN _
 |succ n=>
  show(if _ then _ else _:Nat×Nat).2<=ln mask h (if _ then _ else _:Nat×Nat).1;split
  ·assumption
  ·exact QN _
def ps(n:Nat):Nat:=(rn (mask+1) h (at_ mask h n).1).1+(at_ mask h n).2
theorem Cf(n:Nat):ps mask h n<=mask:=Ci mask h _ _ (B7 mask h n)
theorem uh(n m:Nat)(e:at_ mask h n=(m,0)):∀d,d<=ln mask h m->at_ mask h (n+d)=(m,d)
 |0,_=>e
 |d+1,hd=>by
  have ih:=uh n m e d (by omega);show(if(at_ mask h (n+d)).2<ln mask h (at_ mask h (n+d)).1 then((at_ mask h (n+d)).1,(at_ mask h (n+d)).2+1) else((at_ mask h (n+d)).1+1,0))=_;rw[ih,if_pos (show d<ln mask h m by omega)]
theorem zo:∀m,∃n,n<=10*m/\at_ mask h n=(m,0)
 |0=>⟨0,Qf _,rfl⟩
 |m+1=>by
  obtain⟨n,h1,h2⟩:=zo m;have:=ER mask h m;refine⟨n+ln mask h m+1,by omega,?_⟩;show(if(at_ mask h (n+ln mask h m)).2<ln mask h (at_ mask h (n+ln mask h m)).1 then((at_ mask h (n+ln mask h m)).1,(at_ mask h (n+ln mask h m)).2+1) else((at_ mask h (n+ln mask h m)).1+1,0))=_;rw[uh mask h n m h2 _ (Qf _),if_neg (Ja _)]
theorem DL(k s:Nat)(hk:mask+1=2 ^ k)(hs:s<=mask):∃n,n<10*turns mask/\ps mask h n=s:=by
 obtain⟨m,m1,m2⟩:=yt h k s (by omega);obtain⟨n,n1,n2⟩:=zo mask h m;refine⟨n,by unfold turns;omega,?_⟩;unfold ps;rw[n2,hk,m2];rfl
def prb(m d:Nat):Probe:=⟨(rn (mask+1) h m).1+d,ln mask h m-d,(rn (mask+1) h m).1,(rn (mask+1) h m).2,none⟩
def itP(n:Nat):Probe:=prb mask h (at_ mask h n).1 (at_ mask h n).2
end
theorem wR(t:Jt)(h:Int)(n:Nat):t.advance (itP t.mask h n)=itP t.mask h (n+1):=by
 have le:=B7 t.mask h n;unfold itP;show _=prb t.mask h (if _ then _ else _:Nat×Nat).1 (if _ then _ else _:Nat×Nat).2
 by_cases z:(at_ t.mask h n).2<ln t.mask h (at_ t.mask h n).1
 ·rw[if_pos z]
  unfold advance prb;rw[if_pos (show ln t.mask h (at_ t.mask h n).1-(at_ t.mask h n).2>0 by omega)];show Probe.mk _ _ _ _ _=Probe.mk _ _ _ _ _;congr 1
 ·rw[if_neg z]
  unfold advance prb;rw[if_neg (show ¬ ln t.mask h (at_ t.mask h n).1-(at_ t.mask h n).2>0 by omega)];rfl
def Up(xs:List Nat):Prop:=xs.Pairwise (· < ·)
theorem Up.lt{xs:List Nat}(u:Up xs){i j:Nat}{a b:Nat}(hi:xs[i]?=some a)(hj:xs[j]?=some b)(h:i<j):a<b:=by
 obtain⟨h1,rfl⟩:=Qk.mp hi;obtain⟨h2,rfl⟩:=Qk.mp hj;exact(Zl.mp u) i j h1 h2 h
theorem yh(xs:Array Nat)(j:Nat)(u:Up xs.toList):∀(fuel lo hi:Nat),hi-lo<=fuel->lo<=hi->hi<=xs.size->(∀i a,i<lo->xs[i]?=some a->a<j)->(∀i a,hi<=i->xs[i]?=some a->j<=a)->
  lo<=below.go xs j fuel lo hi/\below.go xs j fuel lo hi<=hi/\(∀i a,i<below.go xs j fuel lo hi->xs[i]?=some a->a<j)/\∀i a,below.go xs j fuel lo hi<=i->xs[i]?=some a->j<=a:=by
 have up:∀{i k:Nat} {a b:Nat},xs[i]?=some a->xs[k]?=some b->i<k->a<b:=λhi hj h=>u.lt (by rw[Qw];exact hi) (by rw[Qw];exact hj) h;intro fuel
 induction fuel with
 |zero=>
  intro lo hi h1 h2 h3 h4 h5;have:lo=hi:=by omega
  subst this;exact⟨Qf _,Qf _,h4,h5⟩
 |succ fuel ih=>
  intro lo hi h1 h2 h3 h4 h5;unfold below.go
  by_cases z:lo<hi
  ·rw[if_pos z]
   have ml:(lo+hi)/2<xs.size:=by omega
   have em:xs[(lo+hi)/2]?=some xs[(lo+hi)/2]:=by simp[ml]
   have eg:xs.getD ((lo+hi)/2) j=xs[(lo+hi)/2]:=by rw[JF,em];rfl
   dsimp only;rw[eg]
   by_cases q:xs[(lo+hi)/2]<j
   ·rw[if_pos q]
    obtain⟨a1,a2,a3,a4⟩:=ih ((lo+hi)/2+1) hi (by omega) (by omega) h3 (λi a hi ha=>by
     rcases ZS (Nat.lt_succ_iff.mp hi) with w | w
     ·exact Jw (up ha em w) q
     ·subst w;rw[em] at ha;cases ha;exact q) h5
    exact⟨by omega,a2,a3,a4⟩
   ·rw[if_neg q]
    obtain⟨a1,a2,a3,a4⟩:=ih lo ((lo+hi)/2) (by omega) (by omega) (by omega) h4 (λi a hi ha=>by
     rcases ZS hi with w | w
     ·exact Jr (ZO (Jj q) (up em ha w))
     ·subst w;rw[em] at ha;cases ha;exact Jj q)
    exact⟨a1,by omega,a3,a4⟩
  ·rw[if_neg z]
   have:lo=hi:=by omega
   subst this;exact⟨Qf _,Qf _,h4,h5⟩
theorem ji(xs:Array Nat)(j:Nat)(u:Up xs.toList):below xs j<=xs.size/\(∀i a,i<below xs j->xs[i]?=some a->a<j)/\∀i a,below xs j<=i->xs[i]?=some a->j<=a:=by
 obtain⟨_,a2,a3,a4⟩:=yh xs j u xs.size 0 xs.size (by omega) (QN _) (Qf _) (λi a h=>absurd h (Zg _)) (λi a h e=>by
  rw[Jz h] at e;cases e)
 exact⟨a2,a3,a4⟩
theorem gR(xs:Array Nat)(u:Up xs.toList){i j:Nat}(e:xs[i]?=some j):below xs j=i:=by
 obtain⟨_,a3,a4⟩:=ji xs j u;refine Nat.le_antisymm (Jj λz=>?_) (Jj λz=>?_)
 ·exact Ja _ (a3 i j z e)
 ·have zl:below xs j<xs.size:=Jw z (JY.mp e).1
  have em:xs[below xs j]?=some xs[below xs j]:=by simp[zl]
  have:=a4 _ _ (Qf _) em;have:=u.lt (i:=below xs j) (j:=i) (by rw[Qw];exact em) (by rw[Qw];exact e) z;omega
theorem xA(j:Nat):has #[] j=false:=rfl
theorem jt{t:Jt}(u:Up t.place.toList){i j:Nat}(e:t.place[i]?=some j):t.slot j=.live i:=by
 unfold slot;dsimp only;rw[gR t.place u e,e,if_pos (by simp)]
theorem rV{t:Jt}(hd:t.dummies=#[]){j:Nat}(n:j∉t.place.toList):t.slot j=.empty:=by
 unfold slot;dsimp only;rw[if_neg,hd,xA]
 ·rfl
 ·intro z
  have:t.place[below t.place j]?=some j:=by simpa using z
  exact n (QZ (by rw[Qw];exact this))
structure Free(t:Jt)(h:Int)(N:Nat):Prop where
 free:ps t.mask h N∉t.place.toList
 taken:∀n,n<N->ps t.mask h n∈t.place.toList
 near:N<10*turns t.mask
theorem yA{t:Jt}(hd:t.dummies=#[])(u:Up t.place.toList)(hashAt:Nat->Int)(h:Int){N:Nat}(F:Free t h N):∀(fuel n:Nat),n<=N->N-n<fuel->∃n',n<=n'/\n'<=N/\(∀m i,n<=m->m<n'->t.place[i]?=some (ps t.mask h m)->hashAt i≠h)/\
  ((n'=N/\probe.go t hashAt h fuel (itP t.mask h n)=some (.empty (ps t.mask h N) none))\/(n'<N/\∃i,t.place[i]?=some (ps t.mask h n')/\hashAt i=h/\probe.go t hashAt h fuel (itP t.mask h n)=some (.candidate (ps t.mask h n') i (itP t.mask h (n'+1))))):=by
 intro fuel
 induction fuel with
 |zero=>intro n _ z;exact absurd z (Zg _)
 |succ fuel ih=>
  intro n hn hf;have ej:(itP t.mask h n).j=ps t.mask h n:=rfl;have ed:(itP t.mask h n).dummy=none:=rfl
  by_cases z:n=N
  ·subst z
   refine⟨n,Qf _,Qf _,λm i h1 h2=>absurd h2 (by omega),.inl ⟨rfl,?_⟩⟩;unfold probe.go;rw[ej,rV hd F.free,ed]
  ·obtain⟨i,e⟩:=Q6 (F.taken n (by omega))
   rw[Qw] at e
   by_cases q:hashAt i=h
   ·refine⟨n,Qf _,hn,λm i h1 h2=>absurd h2 (by omega),.inr ⟨by omega,i,e,q,?_⟩⟩
    unfold probe.go;rw[ej,jt u e];dsimp only;rw[if_pos (by simpa using q),wR]
   ·obtain⟨n',a1,a2,a3,a4⟩:=ih (n+1) (by omega) (by omega)
    have eg:probe.go t hashAt h (fuel+1) (itP t.mask h n)=probe.go t hashAt h fuel (itP t.mask h (n+1)):=by
     conv=>lhs;unfold probe.go
     rw[ej,jt u e];dsimp only;rw[if_neg (by simpa using q),wR]
    rw[eg];refine⟨n',by omega,a2,λm k h1 h2 h3=>?_,a4⟩
    by_cases w:m=n
    ·subst w
     have:k=i:=by rw[<-gR t.place u h3,<-gR t.place u e]
     subst this;exact q
    ·exact a3 m k (by omega) h2 h3
def Way(mask:Nat)(h:Int)(S:List Nat)(s:Nat):Prop:=∃n,ps mask h n=s/\∀m,m<n->ps mask h m∈S
theorem Way.sub{mask:Nat}{h:Int}{S S':List Nat}{s:Nat}(w:Way mask h S s)(q:∀x∈S,x∈S'):Way mask h S' s:=let⟨n,e,a⟩:=w;⟨n,e,λm hm=>q _ (a m hm)⟩
structure T0(t:Jt)(hs:List Int):Prop where
 dum:t.dummies=#[]
 up:Up t.place.toList
 len:t.place.size=hs.length
 le:∀j∈t.place.toList,j<=t.mask
 pow:∃k,3<=k/\k<=13/\t.mask+1=2 ^ k
 way:∀(i j:Nat) (h:Int),t.place[i]?=some j->hs[i]?=some h->Way t.mask h t.place.toList j
structure TOk(t:Jt)(hs:List Int):Prop extends T0 t hs where
 room:hs.length*5<t.mask*3
theorem xI:∀(M:Nat) (l:List Nat),l.Nodup->(∀x∈l,x<M)->l.length<=M
 |0,l,_,h=>by
  cases l with
  |nil=>exact Qf _
  |cons a l=>exact absurd (h a Qj) (Zg _)
 |M+1,l,nd,h=>by
  have h1:=xI M (l.filter λx=>decide (x≠M)) (List.Pairwise.filter _ nd) λx hx=>by
   obtain⟨p,q⟩:=Ze.mp hx;have:=h x p;have:=of_decide_eq_true q;omega
  have h2:l.length<=(l.filter λx=>decide (x≠M)).length+1:=by
   clear h1 h
   induction l with
   |nil=>exact QN _
   |cons a l ih=>
    have nd2:=Ju.mp nd
    by_cases z:a=M
    ·subst z
     rw[List.filter_cons_of_neg (by simp),List.filter_eq_self.mpr λx hx=>by simp;exact λz=>nd2.1 (z▸hx)];exact Qf _
    ·rw[List.filter_cons_of_pos (by simpa using z),QA,QA]
     have:=ih nd2.2;omega
  omega
theorem AF{t:Jt}{hs:List Int}(T:TOk t hs)(h:Int):∃N,Free t h N:=by
 obtain⟨k,_,_,hk⟩:=T.pow;have room:=T.room;have ln:=T.len
 have ex:∃s,s<=t.mask/\s∉t.place.toList:=by
  refine Zm λno=>?_;have al:∀s,s<=t.mask->s∈t.place.toList:=λs hs=>Zm λz=>no ⟨s,hs,z⟩
  have:(QE (t.mask+1)).length<=t.place.toList.length:=by
   have sp:∀(l m:List Nat),l.Nodup->(∀x∈l,x∈m)->l.length<=m.length:=λl=>by
    induction l with
    |nil=>intro m _ _;exact QN _
    |cons a l ih=>
     intro m nd sub;have nd2:=Ju.mp nd;have am:=sub a Qj;have:=ih (m.erase a) nd2.2 λx hx=>(List.mem_erase_of_ne (by intro z;subst z;exact nd2.1 hx)).mpr (sub x (Qg _ hx));rw[List.length_erase_of_mem am] at this;have:=List.length_pos_of_mem am;rw[QA];omega
   exact sp _ _ List.nodup_range λx hx=>al x (Nat.lt_succ_iff.mp (Q7.mp hx))
  rw[Jy,Qu] at this;omega
 obtain⟨s,s1,s2⟩:=ex;obtain⟨n,n1,n2⟩:=DL t.mask h k s hk s1
 have:∀b,(∃n,n<b/\ps t.mask h n∉t.place.toList)->∃N,N<b/\ps t.mask h N∉t.place.toList/\∀n,n<N->ps t.mask h n∈t.place.toList:=λb=>by
  induction b with
  |zero=>rintro⟨n,z,_⟩;exact absurd z (Zg _)
  |succ b ih=>
   rintro⟨n,z,q⟩
   by_cases w:∃n,n<b/\ps t.mask h n∉t.place.toList
   ·obtain⟨N,a,b',c⟩:=ih w
    exact⟨N,by omega,b',c⟩
   ·have nb:n=b:=Zm λv=>w ⟨n,by omega,q⟩
    subst nb;exact⟨n,by omega,q,λm hm=>Zm λv=>w ⟨m,hm,v⟩⟩
 obtain⟨N,a1,a2,a3⟩:=this _ ⟨n,n1,by rw[n2];exact s2⟩;exact⟨N,a2,a3,a1⟩
theorem Free.on{t:Jt}{h:Int}{N:Nat}(F:Free t h N){s:Nat}(w:Way t.mask h t.place.toList s)(hs:s∈t.place.toList):∃n,n<N/\ps t.mask h n=s:=by
 obtain⟨n,e,a⟩:=w;refine⟨n,Nat.lt_of_not_le λz=>?_,e⟩;rcases ZS z with z | z
 ·exact F.free (a N z)
 ·subst z;exact F.free (by rw[e];exact hs)
theorem cW{α:Type}(xs:Array α)(p:Nat)(x:α):(insertAt xs p x).toList=xs.toList.take p++x::xs.toList.drop p:=by
 unfold insertAt;simp;exact JZ (by rw[Ji,Qu];exact Qf _)
theorem vN{xs:Array Nat}{j:Nat}(u:Up xs.toList)(n:j∉xs.toList):Up (insertAt xs (below xs j) j).toList:=by
 obtain⟨b1,b2,b3⟩:=ji xs j u;rw[cW];refine QW.mpr ⟨List.Pairwise.take u,Za.mpr ⟨λa ha=>?_,List.Pairwise.drop u⟩,λa ha b hb=>?_⟩
 ·obtain⟨i,e⟩:=Q6 ha
  rw[JW,Qw] at e;have:=b3 _ a (Kx _ _) e;have:j≠a:=λz=>n (by rw[z];exact QZ (by rw[Qw];exact e));omega
 ·obtain⟨i,e⟩:=Q6 ha
  have il:i<below xs j:=by
   have:=(Qk.mp e).1;rw[QP] at this;omega
  rw[Zr il,Qw] at e;have aj:=b2 i a il e;rcases Qn.1 hb with rfl | hb
  ·exact aj
  ·obtain⟨k,f⟩:=Q6 hb
   rw[JW,Qw] at f;have:=b3 _ b (Kx _ _) f;omega
theorem lN{α:Type}{xs:List α}{p:Nat}(hp:p<=xs.length)(x:α)(i:Nat):(xs.take p++x::xs.drop p)[i]?=if i<p then xs[i]? else if i=p then some x else xs[i-1]?:=by
 by_cases h1:i<p
 ·rw[if_pos h1,QT (by rw[QP];omega),Zr h1]
 ·rw[if_neg h1,QH (by rw[QP];omega),QP,KS hp]
  by_cases h2:i=p
  ·rw[if_pos h2,h2,Zv];rfl
  ·rw[if_neg h2]
   obtain⟨d,rfl⟩:∃d,i=p+(d+1):=⟨i-p-1,by omega⟩;rw[show p+(d+1)-p=d+1 by omega,List.getElem?_cons_succ,JW];rfl
theorem DV{t:Jt}{hs:List Int}(T:T0 t hs){h:Int}{N:Nat}(F:Free t h N):(t.put (ps t.mask h N)).2<=hs.length/\T0 (t.put (ps t.mask h N)).1 (hs.take (t.put (ps t.mask h N)).2++h::hs.drop (t.put (ps t.mask h N)).2)/\(t.put (ps t.mask h N)).1.mask=t.mask/\
  (t.put (ps t.mask h N)).1.led=t.led/\(t.put (ps t.mask h N)).1.plain=t.plain:=by
 generalize hj:ps t.mask h N=j;have nj:j∉t.place.toList:=by rw[<-hj];exact F.free
 obtain⟨b1,_,_⟩:=ji t.place j T.up;have pl:(t.put j).1.place=insertAt t.place (below t.place j) j:=rfl;have e2:(t.put j).2=below t.place j:=rfl;have em:(t.put j).1.mask=t.mask:=rfl
 have ed:(t.put j).1.dummies=#[]:=by
  show(if has t.dummies j=true then _ else t.dummies)=_;rw[T.dum,xA];rfl
 rw[e2];have pl2:below t.place j<=hs.length:=by rw[<-T.len];exact b1
 have mem:∀x,x∈(t.put j).1.place.toList↔x=j\/x∈t.place.toList:=λx=>by
  rw[pl,cW,QM,Qn];constructor
  ·rintro(z | z | z)
   ·exact .inr (Kw z)
   ·exact .inl z
   ·exact .inr (Zu z)
  ·rintro(z | z)
   ·exact .inr (.inl z)
   ·rw[<-Q1 (below t.place j) t.place.toList] at z
    rcases QM.mp z with z | z
    ·exact .inl z
    ·exact .inr (.inr z)
 refine⟨pl2,⟨ed,by rw[pl];exact vN T.up nj,?_,λx hx=>?_,by rw[em];exact T.pow,λi x g hx hg=>?_⟩,em,rfl,rfl⟩
 ·rw[<-Qu,pl,cW,Qr,QA,Qr,QA,QP,Ji,QP,Ji,Qu,T.len]
 ·rw[em]
  rcases(mem x).mp hx with z | z
  ·rw[z,<-hj];exact Cf _ _ _
  ·exact T.le x z
 ·rw[em]
  rw[<-Qw,pl,cW,lN (by rw[Qu];exact b1)] at hx;rw[lN pl2] at hg;have sub:∀y∈t.place.toList,y∈(t.put j).1.place.toList:=λy hy=>(mem y).mpr (.inr hy)
  by_cases h1:i<below t.place j
  ·rw[if_pos h1] at hx hg
   exact(T.way i x g (by rw[<-Qw];exact hx) hg).sub sub
  ·rw[if_neg h1] at hx hg
   by_cases h2:i=below t.place j
   ·rw[if_pos h2] at hx hg
    cases hx;cases hg;exact⟨N,hj,λm hm=>sub _ (F.taken m hm)⟩
   ·rw[if_neg h2] at hx hg
    exact(T.way (i-1) x g (by rw[<-Qw];exact hx) hg).sub sub
structure Own(mask:Nat)(hs:List Int)(owner:Array (Option Nat))(k:Nat):Prop where
 size:owner.size=mask+1
 lt:∀(j i:Nat),owner[j]?=some (some i)->i<k
 all:∀(i:Nat),i<k->∃(j:Nat),owner[j]?=some (some i)
 one:∀(j j' i:Nat),owner[j]?=some (some i)->owner[j']?=some (some i)->j=j'
 way:∀(j i:Nat) (h:Int),owner[j]?=some (some i)->hs[i]?=some h->∃n,ps mask h n=j/\∀m,m<n->∃i',owner[ps mask h m]?=some (some i')
theorem lY(p:Nat->Bool):∀(L:Nat),(∃k,(QE L).find? p=some k/\k<L/\p k=true/\∀d,d<k->p d=false)\/((QE L).find? p=none/\∀d,d<L->p d=false)
 |0=>.inr ⟨rfl,λd h=>absurd h (Zg _)⟩
 |L+1=>by
  rw[List.range_succ,List.find?_append];rcases lY p L with⟨k,e,h1,h2,h3⟩ | ⟨e,h⟩
  ·exact .inl ⟨k,by rw[e];rfl,by omega,h2,h3⟩
  ·rw[e]
   cases q:p L with
   |true=>exact .inl ⟨L,by simp[q],by omega,q,h⟩
   |false=>exact .inr ⟨by simp[q],λd hd=>by
     rcases ZS (Nat.lt_succ_iff.mp hd) with w | w
     ·exact h d w
     ·rw[w];exact q⟩
theorem Ae(mask:Nat)(h:Int)(owner:Array (Option Nat))(sz:owner.size=mask+1):∀(fuel m n:Nat),at_ mask h n=(m,0)->(∀x,x<n->∃i,owner[ps mask h x]?=some (some i))->(∃m',m<=m'/\m'<m+fuel/\owner[(rn (mask+1) h m').1]?=some none)->
  ∃N,layClean.free mask owner fuel (rn (mask+1) h m).1 (rn (mask+1) h m).2=some (ps mask h N)/\owner[ps mask h N]?=some none/\∀x,x<N->∃i,owner[ps mask h x]?=some (some i):=by
 intro fuel
 induction fuel with
 |zero=>rintro m n _ _ ⟨m',h1,h2,_⟩;omega
 |succ fuel ih=>
  intro m n hn before ⟨m',m1,m2,m3⟩;have inl:∀d,d<=ln mask h m->ps mask h (n+d)=(rn (mask+1) h m).1+d:=λd hd=>by unfold ps;rw[uh mask h n m hn d hd]
  have lnE:runEnd mask (rn (mask+1) h m).1+1-(rn (mask+1) h m).1=ln mask h m+1:=by
   unfold ln;have:(rn (mask+1) h m).1<=runEnd mask (rn (mask+1) h m).1:=by unfold runEnd;split<;>omega
   omega
  have val:∀d,d<=ln mask h m->∃o,owner[(rn (mask+1) h m).1+d]?=some o/\owner.getD ((rn (mask+1) h m).1+d) (some 0)=o:=λd hd=>by
   have:=Ci mask h m d hd;have l:(rn (mask+1) h m).1+d<owner.size:=by omega
   exact⟨owner[(rn (mask+1) h m).1+d],by simp[l],by rw[JF];simp[l]⟩
  unfold layClean.free;rw[lnE];rcases lY (λk=>(owner.getD ((rn (mask+1) h m).1+k) (some 0)).isNone) (ln mask h m+1) with⟨k,e,k1,k2,k3⟩ | ⟨e,al⟩
  ·rw[e]
   refine⟨n+k,by rw[inl k (by omega)],?_,λx hx=>?_⟩
   ·obtain⟨o,o1,o2⟩:=val k (by omega)
    rw[inl k (by omega),o1];rw[o2] at k2;cases o with
    |none=>rfl
    |some i=>cases k2
   ·by_cases w:x<n
    ·exact before x w
    ·obtain⟨d,rfl⟩:∃d,x=n+d:=⟨x-n,by omega⟩
     obtain⟨o,o1,o2⟩:=val d (by omega);have:=k3 d (by omega);rw[o2] at this;rw[inl d (by omega),o1];cases o with
     |none=>cases this
     |some i=>exact⟨i,rfl⟩
  ·rw[e]
   refine ih (m+1) (n+ln mask h m+1) ?_ (λx hx=>?_) ⟨m',?_,by omega,m3⟩
   ·show(if(at_ mask h (n+ln mask h m)).2<ln mask h (at_ mask h (n+ln mask h m)).1 then((at_ mask h (n+ln mask h m)).1,(at_ mask h (n+ln mask h m)).2+1) else((at_ mask h (n+ln mask h m)).1+1,0))=_
    rw[uh mask h n m hn _ (Qf _),if_neg (Ja _)]
   ·by_cases w:x<n
    ·exact before x w
    ·obtain⟨d,rfl⟩:∃d,x=n+d:=⟨x-n,by omega⟩
     obtain⟨o,o1,o2⟩:=val d (by omega);have:=al d (by omega);rw[o2] at this;rw[inl d (by omega),o1];cases o with
     |none=>cases this
     |some i=>exact⟨i,rfl⟩
   ·rcases ZS m1 with w | w
    ·exact w
    ·subst w
     obtain⟨o,o1,o2⟩:=val 0 (QN _);have:=al 0 (Nat.succ_pos _);rw[o2] at this;rw[ZR] at o1;rw[o1] at m3;cases m3;cases this
theorem y4{mask:Nat}{hs:List Int}{owner:Array (Option Nat)}{k:Nat}(O:Own mask hs owner k)(hk:k<=mask):∃s,s<=mask/\owner[s]?=some none:=by
 refine Zm λno=>?_;have sz:=O.size
 have al:∀s,s<mask+1->∃i,owner[s]?=some (some i):=λs hs=>by
  have l:s<owner.size:=by omega
  have e:owner[s]?=some owner[s]:=by simp[l]
  cases q:owner[s] with
  |none=>rw[q] at e;exact absurd ⟨s,by omega,e⟩ no
  |some i=>rw[q] at e;exact⟨i,e⟩
 let f:Nat->Nat:=λs=>((owner[s]?).getD none).getD 0
 have fe:∀s,s<mask+1->owner[s]?=some (some (f s)):=λs hs=>by
  obtain⟨i,e⟩:=al s hs;show owner[s]?=some (some (((owner[s]?).getD none).getD 0));rw[e];rfl
 have nd:((QE (mask+1)).map f).Nodup:=by
  refine Kn.mpr (List.Pairwise.imp_of_mem (λ{a b} ha hb (h:a≠b) z=>?_) (List.nodup_range (n:=mask+1)));have ea:=fe a (Q7.mp ha);have eb:=fe b (Q7.mp hb);rw[z] at ea;exact h (O.one a b _ ea eb)
 have:=xI k _ nd λx hx=>by
  obtain⟨s,hs,rfl⟩:=Q2.mp hx;exact O.lt s _ (fe s (Q7.mp hs))
 rw[Qi,Jy] at this;omega
theorem oV{α:Type}(xs:Array α)(j i:Nat)(x:α)(h:j<xs.size):(xs.setIfInBounds j x)[i]?=if j=i then some x else xs[i]?:=by
 rw[Array.getElem?_setIfInBounds (xs:=_)]
 by_cases z:j=i
 ·rw[if_pos z,if_pos z,if_pos h]
 ·rw[if_neg z,if_neg z]
theorem yY{mask e:Nat}(hm:mask+1=2 ^ e){hs:List Int}{owner:Array (Option Nat)}{k:Nat}(O:Own mask hs owner k)(hk:k<=mask){h:Int}(hh:hs[k]?=some h):∃j,layClean.free mask owner (turns mask) (bits h%(mask+1)) (bits h)=some j/\Own mask hs (owner.setIfInBounds j (some k)) (k+1):=by
 obtain⟨s,s1,s2⟩:=y4 O hk;obtain⟨m,m1,m2⟩:=yt h e s (by omega);rw[<-hm] at m1 m2;obtain⟨N,n1,n2,n3⟩:=Ae mask h owner O.size (turns mask) 0 0 rfl (λx z=>absurd z (Zg _)) ⟨m,QN _,by unfold turns;omega,by rw[m2];exact s2⟩;refine⟨ps mask h N,n1,?_⟩;have jl:ps mask h N<owner.size:=by have:=Cf mask h N;have:=O.size;omega
 have nw:∀i,owner[ps mask h N]?≠some (some i):=λi z=>by rw[n2] at z;cases z
 have old:∀(x i:Nat),owner[x]?=some (some i)->(owner.setIfInBounds (ps mask h N) (some k))[x]?=some (some i):=λx i z=>by
  rw[oV _ _ _ _ jl,if_neg λq=>nw i (by rw[q];exact z)];exact z
 have cs:∀(x i:Nat),(owner.setIfInBounds (ps mask h N) (some k))[x]?=some (some i)->(x=ps mask h N/\i=k)\/owner[x]?=some (some i):=λx i z=>by
  rw[oV _ _ _ _ jl] at z;split at z
  ·rename_i q
   cases z;exact .inl ⟨q.symm,rfl⟩
  ·exact .inr z
 refine⟨by rw[Array.size_setIfInBounds];exact O.size,λj i z=>?_,λi hi=>?_,λj j' i z z'=>?_,λj i g z hg=>?_⟩
 ·rcases cs j i z with⟨_,q⟩ | q
  ·omega
  ·have:=O.lt j i q;omega
 ·rcases ZS (Nat.lt_succ_iff.mp hi) with w | w
  ·obtain⟨j,e⟩:=O.all i w
   exact⟨j,old j i e⟩
  ·exact⟨ps mask h N,by rw[oV _ _ _ _ jl,if_pos rfl,w]⟩
 ·rcases cs j i z with⟨q1,q2⟩ | q<;>rcases cs j' i z' with⟨r1,r2⟩ | r
  ·rw[q1,r1]
  ·have:=O.lt j' i r;omega
  ·have:=O.lt j i q;omega
  ·exact O.one j j' i q r
 ·rcases cs j i z with⟨q1,q2⟩ | q
  ·subst q1 q2
   rw[hh] at hg;cases hg;exact⟨N,rfl,λm hm=>let⟨i',e⟩:=n3 m hm;⟨i',old _ _ e⟩⟩
  ·obtain⟨n,e,a⟩:=O.way j i g q hg
   exact⟨n,e,λm hm=>let⟨i',e⟩:=a m hm;⟨i',old _ _ e⟩⟩
theorem C7{mask e:Nat}(hm:mask+1=2 ^ e)(hs:Array Int)(hl:hs.size<=mask):∃owner,layClean mask hs=some owner/\Own mask hs.toList owner hs.size:=by
 let st:Option (Array (Option Nat)×Nat)->Int->Option (Array (Option Nat)×Nat):=λacc h=>do
  let(owner,k)<-acc;let j<-layClean.free mask owner (turns mask) (bits h%(mask+1)) (bits h)
  pure (owner.setIfInBounds j (some k),k+1)
 have go:∀(l:List Int) (done:List Int) (owner:Array (Option Nat)),done++l=hs.toList->Own mask hs.toList owner done.length->∃o',l.foldl st (some (owner,done.length))=some (o',hs.size)/\Own mask hs.toList o' hs.size:=by
  intro l
  induction l with
  |nil=>
   intro done owner hd O;rw[Jp] at hd;have:done.length=hs.size:=by rw[hd,Qu]
   rw[this] at O ⊢;exact⟨owner,rfl,O⟩
  |cons h l ih=>
   intro done owner hd O;have dl:done.length<hs.size:=by rw[<-Qu,<-hd,Qr,QA];omega
   obtain⟨j,j1,j2⟩:=yY hm O (by omega) (h:=h) (by rw[<-hd,QH (Qf _),Zv];rfl);obtain⟨o',e,O'⟩:=ih (done++[h]) (owner.setIfInBounds j (some done.length)) (by rw[QG];exact hd) (by rw[Qr];exact j2);refine⟨o',?_,O'⟩;rw[Qr,List.length_singleton] at e
   rw[List.foldl_cons,show st (some (owner,done.length)) h=some (owner.setIfInBounds j (some done.length),done.length+1) by
    show(do let j<-layClean.free mask owner (turns mask) (bits h%(mask+1)) (bits h);pure (owner.setIfInBounds j (some done.length),done.length+1))=_
    rw[j1];rfl]
   exact e
 have none_get:∀j:Nat,(Ki (mask+1) (none:Option Nat))[j]?≠some (some j)/\∀i,(Ki (mask+1) (none:Option Nat))[j]?≠some (some i):=λj=>by
  have:∀i,(Ki (mask+1) (none:Option Nat))[j]?≠some (some i):=λi z=>by
   rw[Array.getElem?_replicate] at z;split at z<;>cases z
  exact⟨this j,this⟩
 obtain⟨o',e,O'⟩:=go hs.toList [] (Ki (mask+1) none) rfl ⟨by simp,λj i z=>absurd z ((none_get j).2 i),λi z=>absurd z (Zg _),λj j' i z=>absurd z ((none_get j).2 i),λj i h z=>absurd z ((none_get j).2 i)⟩;refine⟨o',?_,O'⟩;unfold layClean;rw[<-Array.foldl_toList];show(hs.toList.foldl st (some (Ki (mask+1) none,0))).map (·.1)=_;rw[show hs.toList.foldl st (some (Ki (mask+1) none,0))=some (o',hs.size) from e];rfl
theorem Am{mask e:Nat}(hm:mask+1=2 ^ e)(e3:3<=e)(e13:e<=13)(fg mv:Nat)(led plain:Bool)(hs:Array Int)(hl:hs.size<=mask) :
  ∃t order,laid mask fg mv led plain hs=some (t,order)/\t.mask=mask/\t.led=led/\t.plain=plain/\J0 order.toList (QE hs.size)/\T0 t (order.toList.filterMap (hs.toList[·]?)):=by
 obtain⟨owner,eo,O⟩:=C7 hm hs hl;have sz:=O.size;let live:=(QE (mask+1)).filterMap λx=>(owner.getD x none).map λy=>(x,y)
 have gd:∀j i,owner.getD j none=some i↔owner[j]?=some (some i):=λj i=>by
  rw[JF];cases q:owner[j]? with
  |none=>simp
  |some o=>simp
 have lm:∀(j i:Nat),(j,i)∈live↔owner[j]?=some (some i):=λj i=>by
  rw[List.mem_filterMap];constructor
  ·rintro⟨x,hx,z⟩
   cases q:owner.getD x none with
   |none=>rw[q] at z;cases z
   |some y=>rw[q] at z;cases z;exact(gd _ _).mp q
  ·intro z
   refine⟨j,Q7.mpr ?_,?_⟩
   ·have:=(JY.mp z).1;omega
   ·rw[(gd j i).mpr z];rfl
 have lu:live.Pairwise (λa b=>a.1<b.1):=by
  refine List.Pairwise.filterMap _ (λa b h x hx y hy=>?_) (List.pairwise_lt_range (n:=mask+1));cases q:owner.getD a none with
  |none=>rw[q] at hx;cases hx
  |some i=>
   rw[q] at hx;cases hx;cases q2:owner.getD b none with
   |none=>rw[q2] at hy;cases hy
   |some i2=>rw[q2] at hy;cases hy;exact h
 have oi:∀x∈live.map (·.2),x<hs.size:=λx hx=>by
  obtain⟨⟨j,i⟩,hp,rfl⟩:=Q2.mp hx;exact O.lt j i ((lm j i).mp hp)
 have on:(live.map (·.2)).Nodup:=by
  refine Kn.mpr (lu.imp_of_mem λ{a b} ha hb h z=>?_);have e1:=(lm a.1 a.2).mp ha;have e2:=(lm b.1 b.2).mp hb;rw[z] at e1;have:=O.one _ _ _ e1 e2;omega
 refine⟨⟨mask,(live.map (·.1)).toArray,#[],fg,led,mv,plain⟩,(live.map (·.2)).toArray,?_,rfl,rfl,rfl,?_,?_⟩
 ·unfold laid
  rw[eo];rfl
 ·show J0 (live.map (·.2)) (QE hs.size)
  refine(List.perm_ext_iff_of_nodup on List.nodup_range).mpr λx=>⟨λhx=>Q7.mpr (oi x hx),λhx=>?_⟩;obtain⟨j,z⟩:=O.all x (Q7.mp hx);exact Q2.mpr ⟨(j,x),(lm j x).mpr z,rfl⟩
 ·have fm:∀l:List (Nat×Nat),(∀p∈l,p.2<hs.size)->(l.map (·.2)).filterMap (hs.toList[·]?)=l.map λp=>hs.getD p.2 0:=λl=>by
   induction l with
   |nil=>intro _;rfl
   |cons p l ih=>
    intro h;have pl:=h p Qj;have pe:hs.toList[p.2]?=some (hs.getD p.2 0):=by rw[Qw,JF];simp[pl]
    rw[Qv,List.filterMap_cons_some pe,ih λq hq=>h q (Qg _ hq)];rfl
  show T0 _ ((live.map (·.2)).filterMap (hs.toList[·]?));rw[fm live λp hp=>oi p.2 (Q2.mpr ⟨p,hp,rfl⟩)];refine⟨rfl,?_,?_,λj hj=>?_,⟨e,e3,e13,hm⟩,λi j h hj hh=>?_⟩
  ·show Up (live.map (·.1))
   exact Kn.mpr lu
  ·show(live.map (·.1)).toArray.size=_
   rw[QR,Qi,Qi]
  ·have hj':j∈live.map (·.1):=hj
   obtain⟨⟨j,i⟩,hp,rfl⟩:=Q2.mp hj';have:=(JY.mp ((lm j i).mp hp)).1;show j<=mask;omega
  ·have hj':(live.map (·.1))[i]?=some j:=by
    have:(live.map (·.1)).toArray[i]?=some j:=hj;rwa [List.getElem?_toArray] at this
   rw[Qx] at hj' hh;cases q:live[i]? with
   |none=>rw[q] at hj';cases hj'
   |some p=>
    rw[q] at hj' hh;cases hj';cases hh;have pm:=QZ q;have po:=(lm p.1 p.2).mp pm;have pl:=oi p.2 (Q2.mpr ⟨p,pm,rfl⟩);obtain⟨n,n1,n2⟩:=O.way p.1 p.2 (hs.getD p.2 0) po (by rw[Qw,JF];simp[pl])
    exact⟨n,n1,λm hm=>by
     obtain⟨i',z⟩:=n2 m hm;show ps mask (hs.getD p.2 0) m∈live.map (·.1)
     exact Q2.mpr ⟨(_,i'),(lm _ _).mpr z,rfl⟩⟩
theorem rJ(n:Nat)(h:n<=4096):∃k,3<=k/\k<=13/\sizeAbove n=2 ^ k/\n<2 ^ k:=by
 have go:∀(i fuel:Nat),i+fuel=13->3<=i->∃k,3<=k/\k<=13/\sizeAbove.go n (fuel+51) (2 ^ i)=2 ^ k/\n<2 ^ k:=by
  intro i fuel
  induction fuel generalizing i with
  |zero=>
   intro e _;have:i=13:=by omega
   subst this;refine⟨13,by decide,by decide,?_,by omega⟩;show sizeAbove.go n (0+50+1) (2 ^ 13)=_;unfold sizeAbove.go;rw[if_neg (by omega)]
  |succ fuel ih=>
   intro e h2;show ∃k,3<=k/\k<=13/\sizeAbove.go n (fuel+51+1) (2 ^ i)=2 ^ k/\n<2 ^ k;unfold sizeAbove.go
   by_cases z:2 ^ i<=n
   ·rw[if_pos z,<-Ku]
    exact ih (i+1) (by omega) (by omega)
   ·rw[if_neg z]
    exact⟨i,h2,by omega,rfl,by omega⟩
 have:=go 3 10 rfl (by decide);obtain⟨k,a,b,c,d⟩:=this;refine⟨k,a,b,?_,d⟩;unfold sizeAbove;have:sizeAbove.go n 61 8=2 ^ k:=c
 have up:∀(f s r:Nat),sizeAbove.go n f s=r->n<r->r<2 ^ 60->sizeAbove.go n (f+3) s=r:=λf=>by
  induction f with
  |zero=>
   intro s r h1 h2 _;have h1':s=r:=h1;subst h1';show sizeAbove.go n (2+1) s=s;unfold sizeAbove.go;rw[if_neg (by omega)]
  |succ f ih=>
   intro s r h1 h2 h3;show sizeAbove.go n (f+3+1) s=r;unfold sizeAbove.go at h1 ⊢
   by_cases z:s<=n
   ·rw[if_pos z] at h1 ⊢
    exact ih _ r h1 h2 h3
   ·rw[if_neg z] at h1 ⊢
    exact h1
 exact up 61 8 _ this d (Nat.pow_lt_pow_right (by decide) (by omega))
theorem vW(t:Jt)(hs:Array Int)(h0:0<hs.size)(hl:hs.size<=1024):sizeAbove (grown hs.size)<=8192/\∃t' order,t.relaid hs (grown hs.size)=some (t',order)/\t'.led=t.led/\t'.plain=t.plain/\J0 order.toList (QE hs.size)/\TOk t' (order.toList.filterMap (hs.toList[·]?)):=by
 have eg:grown hs.size=hs.size*4:=by unfold grown;rw[if_neg (by omega)]
 obtain⟨k,k1,k2,k3,k4⟩:=rJ (grown hs.size) (by rw[eg];omega);have kp:2 ^ k<=2 ^ 13:=Nat.pow_le_pow_right (by decide) k2;rw[eg] at k4;obtain⟨t',order,e,m,l,p,pm,T⟩:=Am (mask:=2 ^ k-1) (e:=k) (by omega) k1 k2 t.finger (t.movedTo (2 ^ k-1)) t.led t.plain hs (by omega);refine⟨by rw[k3];exact kp,t',order,?_,l,p,pm,T,?_⟩
 ·unfold relaid
  rw[k3];exact e
 ·have lf:(order.toList.filterMap (hs.toList[·]?)).length<=hs.size:=by
   have:=List.length_filterMap_le (hs.toList[·]?) order.toList;rw[pm.length_eq,Jy] at this;exact this
  rw[m];omega
open PyProof.Rows Dn
abbrev Ks:=List (List Int×Addr)
def eH(ks:Ks):List Int:=ks.map λp=>bF p.1
def eV(ks:Ks):List (Int×Qb):=ks.map λp=>(bF p.1,QI p.2)
def SAt(a:Addr)(ks:Ks)(led:Bool)(h:Heap):Prop:=∃o es ep t,h.get? a=some o/\o.ExactSet/\o.data=.set es ep t/\es.toList=eV ks/\TOk t (eH ks)/\t.plain=true/\t.led=led
theorem SAt.at{a:Addr}{ks:Ks}{led:Bool}{h h':Heap}(x:SAt a ks led h)(k:∀o,h.get? a=some o->h'.get? a=some o):SAt a ks led h':=let⟨o,es,ep,t,e,r⟩:=x;⟨o,es,ep,t,k o e,r⟩
section
variable{prog:QJ}{w:QL}{A:QU}{E:Qb->Qc->Prop}{s:Qc}
abbrev TK(prog:QJ)(w:QL)(h:Heap)(k:List Int)(b:Addr):Prop:=IsTupleKey (intKind prog w) h k b
theorem T0.fits{t:Jt}{hs:List Int}(T:T0 t hs)(hl:hs.length<=t.mask){n:Nat}(e:n=hs.length):t.fits n=true:=by
 have l:=T.len;have d:=T.dum;unfold SetTable.fits SetTable.fill;rw[d];simp only[Array.size_empty,ZR,Z4,beq_iff_eq,decide_eq_true_eq];omega
theorem TOk.fits{t:Jt}{hs:List Int}(T:TOk t hs){n:Nat}(e:n=hs.length):t.fits n=true:=T.toT0.fits (by have:=T.room;omega) e
theorem y8{t:Jt}{hs:List Int}(T:T0 t hs):t.gaveWay=false:=by
 obtain⟨k,k1,_,k2⟩:=T.pow;unfold SetTable.gaveWay;obtain⟨j,rfl⟩:∃j,k=j+1:=⟨k-1,by omega⟩;rw[Ku] at k2;have:t.mask%2=1:=by omega
 rw[this];rfl
theorem tw{k:List Int}{b:Addr}{Q:Bool->Qc->Prop}(hk:TK prog w s.heap k b)(h:Q false s):Qm (Qo prog w) A (ofAClassStatement 8 (.ref b)) Q E s:=by
 have ty:=hk.typeIs;obtain⟨o,vs,n,g1,_,g2,g3⟩:=hk;unfold ofAClassStatement;refine Qa (wpAny_typeOf ty ?_);dsimp only;rw[if_pos (by decide)];refine Qa (Qd ?_);simp only[QK,ZZ,if_false];refine Qa (ZF g1 g2 ?_);dsimp only;refine Qa ?_;show Qm _ _ (forIn vs _ _) _ _ s;rw[<-Array.forIn_toList];refine wpAny_forIn_list _ (λtl r s'=>r.1=none/\s'=s/\∀v∈tl,carriedByValue v=true) _ ?_ ?_ _ _ ⟨rfl,rfl,g3.byValue⟩
 ·rintro v tl r s' ⟨z0,rfl,al⟩
  have cv:=al v Qj;have e:ofAClassStatement 7 v=pure false:=by cases v<;>first | rfl | cases cv
  rw[e];refine Qa (Qd ?_);simp only[if_false,QK];exact Qd ⟨rfl,rfl,λu hm=>al u (Qg _ hm)⟩
 ·rintro⟨r1,r2⟩ s' ⟨z0,rfl,_⟩
  simp only at z0;subst z0;exact Qd h
theorem Dm{k:List Int}{b:Addr}{Q:Bool->Qc->Prop}(hk:TK prog w s.heap k b)(h:Q true s):Qm (Qo prog w) A (hashByValue 8 (.ref b)) Q E s:=by
 have ty:=hk.typeIs;obtain⟨o,vs,n,g1,_,g2,g3⟩:=hk;unfold hashByValue;refine Qa (Kg ty F.slot_tuple_hash.lookup ?_);dsimp only;refine Qa (ZF g1 g2 ?_);refine Qa ?_;show Qm _ _ (forIn vs _ _) _ _ s;rw[<-Array.forIn_toList]
 have allI:∀v∈vs.toList,∃i t,v=Value.int i t:=λv hv=>by
  obtain⟨j,e⟩:=Q6 hv
  have:∀{ks:List Int} {vs:List Qb},ItemsAre (intKind prog w) ks vs->∀v∈vs,∃i t,v=Value.int i t:=λ{ks vs} h=>by
   induction h with
   |nil=>intro v hv;cases hv
   |cons h _ ih=>
    intro v hv;rcases Qn.1 hv with rfl | hv
    ·cases v<;>first | exact⟨_,_,rfl⟩ | cases h
    ·exact ih v hv
  exact this g3 v hv
 refine wpAny_forIn_list _ (λtl r s'=>r.1=none/\s'=s/\∀v∈tl,∃i t,v=Value.int i t) _ ?_ ?_ _ _ ⟨rfl,rfl,allI⟩
 ·rintro v tl r s' ⟨z0,rfl,al⟩
  obtain⟨i,t,rfl⟩:=al v Qj;rw[show hashByValue 7 (.int i t)=pure true from rfl];refine Qa (Qd ?_);simp only[QK,ZZ,if_false];exact Qd ⟨rfl,rfl,λu hm=>al u (Qg _ hm)⟩
 ·rintro⟨r1,r2⟩ s' ⟨z0,rfl,_⟩
  simp only at z0;subst z0;exact Qd h
theorem Be{k:List Int}{b:Addr}{Q:Bool->Qc->Prop}(hk:TK prog w s.heap k b)(l:List Qb)(hl:∀v∈l,∃k' b',v=QI b'/\TK prog w s.heap k' b')(h:Q false s):Qm (Qo prog w) A (searchCouldBeSeen (.ref b) l) Q E s:=by
 unfold searchCouldBeSeen;refine Qa ?_;refine wpAny_forIn_list _ (λtl r s'=>r.1=none/\s'=s/\∀v∈tl,∃k' b',v=QI b'/\TK prog w s.heap k' b') _ ?_ ?_ _ _ ⟨rfl,rfl,hl⟩
 ·rintro v tl r s' ⟨z0,rfl,al⟩
  obtain⟨k',b',rfl,hk'⟩:=al v Qj;have tl':∀v∈tl,∃k' b',v=QI b'/\TK prog w s'.heap k' b':=λu hu=>al u (Qg _ hu);dsimp only;split
  ·exact Qd ⟨rfl,rfl,tl'⟩
  ·refine Qa (wpAny_eqIsQuiet_tuple hk ?_)
   simp only[QK,ZZ,if_false];refine Qa (wpAny_eqIsQuiet_tuple hk' ?_);simp only[QK,ZZ,if_false];refine Qa (tw hk ?_);simp only[if_false,QK];refine Qa (tw hk' ?_);simp only[if_false,QK];exact Qd ⟨rfl,rfl,tl'⟩
 ·rintro⟨r1,r2⟩ s' ⟨z0,rfl,_⟩
  simp only at z0;subst z0;exact Qd h
end
section
variable{prog:QJ}{w:QL}{A:QU}{E:Qb->Qc->Prop}{s:Qc}
theorem rp{es:Array (Int×Qb)}{ks:Ks}(he:es.toList=eV ks){i:Nat}{p:List Int×Addr}(hp:ks[i]?=some p):es[i]?=some (bF p.1,QI p.2):=by
 rw[<-Qw,he];unfold eV;rw[Qx,hp];rfl
theorem wx{a:Addr}{ks:Ks}{k:List Int}{b:Addr}{o:Obj}{es:Array (Int×Qb)}{ep:Nat}{t:Jt}(hu:A.units<JR)(ho:s.heap.get? a=some o)(hd:o.data=.set es ep t)(he:es.toList=eV ks)(T:TOk t (eH ks))(hx:TK prog w s.heap k b)(hks:∀p∈ks,TK prog w s.heap p.1 p.2)
  {N:Nat} (F:Free t (bF k) N) {Q:SetFound->Qc->Prop} (q1:k∈ks.map (·.1)->Q (.there none) s) (q2:k∉ks.map (·.1)->Q (.free (ps t.mask (bF k) N) false) s) :
  ∀(fuel n:Nat) (stand:Option Probe),stand.getD (t.probeStart (bF k))=itP t.mask (bF k) n->n<=N->N-n<fuel->(∀(m i:Nat) (p:List Int×Addr),m<n->t.place[i]?=some (ps t.mask (bF k) m)->ks[i]?=some p->p.1≠k)->Qm (Qo prog w) A (setSearchFrom a (.ref b) (bF k) true fuel stand) Q E s:=by
 have sz:es.size=(eH ks).length:=by rw[<-Qu,he];unfold eV eH;rw[Qi,Qi]
 have kl:(eH ks).length=ks.length:=Qi _;have fits:=T.fits sz;have near:=F.near;intro fuel
 induction fuel with
 |zero=>intro n st _ _ z;exact absurd z (Zg _)
 |succ fuel ih=>
  intro n st hst hn hf hb;unfold setSearchFrom;refine Qa (Zd ho hd fits ?_);dsimp only;rw[y8 T.toT0];simp only[if_false,QK];rw[hst];obtain⟨n',a1,a2,a3,a4⟩:=yA T.dum T.up (λi=>(es[i]?.map (·.1)).getD 0) (bF k) F (10*turns t.mask) n hn (by omega);generalize hp:t.probe _ (bF k) (itP t.mask (bF k) n)=r;rcases a4 with⟨rfl,e⟩ | ⟨lt,i,ei,eh,e⟩
  ·have er:r=some (.empty (ps t.mask (bF k) n') none):=hp.symm.trans e
   subst er;dsimp only;refine Qd (q2 λkm=>?_);obtain⟨p,pm,pk⟩:=Q2.mp km;obtain⟨i,pi⟩:=Q6 pm;have il:i<t.place.size:=by rw[T.len,kl];exact(Qk.mp pi).1
   have ej:t.place[i]?=some t.place[i]:=by simp[il]
   have eh:(eH ks)[i]?=some (bF k):=by unfold eH;rw[Qx,pi,<-pk];rfl
   obtain⟨m,m1,m2⟩:=F.on (T.way i _ _ ej eh) (QZ (by rw[Qw];exact ej));rw[<-m2] at ej
   by_cases z:m<n
   ·exact hb m i p z ej pi pk
   ·refine a3 m i (by omega) m1 ej ?_
    show(es[i]?.map (·.1)).getD 0=_;rw[rp he pi,<-pk];rfl
  ·have er:r=some (.candidate (ps t.mask (bF k) n') i (itP t.mask (bF k) (n'+1))):=hp.symm.trans e
   subst er;dsimp only;have il:i<ks.length:=by rw[<-kl,<-T.len];exact(JY.mp ei).1
   have pi:ks[i]?=some ks[i]:=List.getElem?_eq_getElem il;generalize hp2:ks[i]=p at pi;have ee:=rp he pi;have hkp:=hks p (QZ pi);split
   case' isTrue=>
    refine Qa (Be hx _ (λv hv=>?hv) ?_)
    case hv=>
     obtain⟨⟨g,u⟩,h1,rfl⟩:=Q2.mp hv;rw[Array.toList_filter,he] at h1;obtain⟨q,qm,qe⟩:=Q2.mp (Ze.mp h1).1;cases qe;exact⟨q.1,q.2,rfl,hks q qm⟩
    simp only[if_false,QK]
   all_goals
    rw[ee];dsimp only;refine Qa (Q0 (wpAny_eqBool_tuple hu hkp hx ?_));refine Qa (Zd ho hd fits ?_);dsimp only
    by_cases z:p.1=k
    ·rw[decide_eq_true z]
     exact Qd (q1 (Q2.mpr ⟨p,QZ pi,z⟩))
    ·rw[decide_eq_false z]
     simp only[Bool.and_false,QK,if_false];rw[show t.sameMemory t.moves t.mask=some true from if_pos (by simp)];dsimp only;rw[if_pos rfl,jt T.up ei];dsimp only;rw[ee];dsimp only;refine Qa (wpAny_isSame_ref_self (Qa (Qd ?_)));refine ih (n'+1) _ rfl (by omega) (by omega) λm i' p' hm e1 e2=>?_
     by_cases z1:m<n
     ·exact hb m i' p' z1 e1 e2
     ·by_cases z2:m=n'
      ·subst z2
       have ii:i'=i:=by rw[<-gR t.place T.up e1,<-gR t.place T.up ei]
       subst ii;rw[pi] at e2;cases e2;exact z
      ·intro pk
       refine a3 m i' (by omega) (by omega) e1 ?_;show(es[i']?.map (·.1)).getD 0=_;rw[rp he e2,<-pk];rfl
theorem pF{h:Heap}{a:Addr}{o:Obj}{es es':Array (Int×Qb)}{ep:Nat}{t t':Jt}(ho:h.get? a=some o)(hd:o.data=.set es ep t)(hx:o.ExactSet):∃o',(h.update a (Obj.putSet es' t')).get? a=some o'/\o'.ExactSet/\o'.data=.set es' (ep+1) t':=by
 refine⟨{ o with data:=.set es' (ep+1) t' },?_,hx,rfl⟩;have q9:=JE (Obj.putSet es' t') ho (by rw[putSet_of es' t' hd];rfl);rw[q9,putSet_of es' t' hd]
theorem Ej{ks:Ks}{p:Nat}(k:List Int)(b:Addr):(eV ks).take p++(bF k,QI b)::(eV ks).drop p=eV (ks.take p++(k,b)::ks.drop p):=by
 unfold eV;rw[Jf,Qv,KH,List.map_drop]
theorem CP{ks:Ks}{p:Nat}(k:List Int)(b:Addr):(eH ks).take p++bF k::(eH ks).drop p=eH (ks.take p++(k,b)::ks.drop p):=by
 unfold eH;rw[Jf,Qv,KH,List.map_drop]
theorem xp{α:Type}(l:List α)(p:Nat)(x:α):J0 (l.take p++x::l.drop p) (x::l):=by
 have:=List.perm_middle (a:=x) (l₁:=l.take p) (l₂:=l.drop p);rwa [Q1] at this
theorem xJ{α:Type}(l:List α):(QE l.length).filterMap (λi=>l[i]?)=l:=by
 induction l with
 |nil=>rfl
 |cons x l ih=>
  rw[QA,Kk,List.filterMap_cons_some (show(x::l)[0]?=some x from rfl),List.filterMap_map];exact congrArg (x :: ·) ih
theorem zx{α β:Type}(f:α->β)(l:List α)(o:List Nat):o.filterMap (λi=>(l.map f)[i]?)=(o.filterMap λi=>l[i]?).map f:=by
 rw[List.map_filterMap];congr 1
 funext i
 rw[Qx]
theorem En{a:Addr}{ks:Ks}{led:Bool}{k:List Int}{b:Addr}(hu:A.units<JR)(S:SAt a ks led s.heap)(hx:TK prog w s.heap k b)(hks:∀p∈ks,TK prog w s.heap p.1 p.2)(hl:ks.length<1000){Q:Bool->Qc->Prop}
  (q1:k∈ks.map (·.1)->Q false s) (q2:k∉ks.map (·.1)->∀h' ks',Zn a s.heap h'->SAt a ks' led h'->J0 ks' ((k,b)::ks)->Q true { s with heap:=h' }):Qm (Qo prog w) A (setAddHashed a (.ref b) (bF k)) Q E s:=by
 obtain⟨o,es,ep,t,ho,hex,hd,he,T,hp,hled⟩:=S;have kl:(eH ks).length=ks.length:=Qi _;have sz:es.size=(eH ks).length:=by rw[<-Qu,he];unfold eV eH;rw[Qi,Qi]
 have fits:=T.fits sz;obtain⟨N,F⟩:=AF T (bF k);have near:=F.near;obtain⟨e,e3,e13,hm⟩:=T.pow;have m13:t.mask+1<=2 ^ 13:=by rw[hm];exact Nat.pow_le_pow_right (by decide) e13
 unfold setAddHashed;unfold setAddHashedIn;refine Q0 (Qa (Zd ho hd fits ?_));dsimp only;rw[show byScan (.ref b) es=false from rfl];simp only[if_false,QK];unfold setSearch;refine Qa (wx hu ho hd he T hx hks F (λkm=>?_) (λkm=>?_) 100000 0 none rfl (QN _) (by unfold turns at near;omega) λm i p z=>absurd z (Zg _))
 ·exact Qd (q1 km)
 ·dsimp only
  refine Qa (Zd ho hd fits ?_);obtain⟨p1,T1,m1,l1,pl1⟩:=DV T.toT0 F;rw[CP k b] at T1;generalize hput:t.put (ps t.mask (bF k) N)=tp at *;obtain⟨t1,p⟩:=tp;dsimp only at *;rw[pl1,hp];simp only[if_true];refine Qa (Dm hx ?_);simp only[if_true];have es1:(insertAt es p (bF k,QI b)).toList=eV (ks.take p++(k,b)::ks.drop p):=by rw[cW,he,Ej]
  have pm:=xp ks p (k,b);generalize hk1:ks.take p++(k,b)::ks.drop p=ks1 at *;have len1:ks1.length=ks.length+1:=by rw[pm.length_eq];rfl
  have kl1:(eH ks1).length=ks1.length:=Qi _;have sz1:(insertAt es p (bF k,QI b)).size=(eH ks1).length:=by rw[<-Qu,es1];unfold eV eH;rw[Qi,Qi]
  obtain⟨o1,ho1,hex1,hd1⟩:=pF (es':=insertAt es p (bF k,QI b)) (t':=t1) ho hd hex;refine Qa (wpAny_storeSet_of ho hd ?_ (by rw[sz1,kl1,len1,Kj];omega));have sb1:=JC s.heap a (Obj.putSet (insertAt es p (bF k,QI b)) t1)
  have fl:t1.fill=ks1.length:=by
   unfold SetTable.fill;rw[T1.dum,T1.len,kl1];rfl
  have room:=T.room
  by_cases full:t1.tooFull=true
  ·rw[full]
   simp only[Bool.not_false,Bool.and_self,if_true];unfold setRelay;have f1:t1.fits (insertAt es p (bF k,QI b)).size=true:=T1.fits (by rw[m1];omega) sz1;refine Qa (Qa (Zd ho1 hd1 f1 ?_));dsimp only;have hsz:((insertAt es p (bF k,QI b)).map (·.1)).size=es.size+1:=by rw[Array.size_map,sz1,sz,kl1,kl,len1]
   obtain⟨sa,t2,order,er,l2,pl2,pm2,T2⟩:=vW t1 ((insertAt es p (bF k,QI b)).map (·.1)) (by omega) (by omega);rw[hsz] at sa er pm2;rw[if_neg (show ¬ _ by rw[Kj];omega)]
   have ek:order.toList.filterMap (((insertAt es p (bF k,QI b)).map (·.1)).toList[·]?)=eH (order.toList.filterMap λi=>ks1[i]?):=by
    rw[Array.toList_map,es1];unfold eV eH;rw[JK];exact zx _ _ _
   rw[ek] at T2
   have ev:(order.filterMap λi=>(insertAt es p (bF k,QI b))[i]?).toList=eV (order.toList.filterMap λi=>ks1[i]?):=by
    rw[Array.toList_filterMap];unfold eV;rw[<-zx];congr 1
    funext i
    rw[<-Qw,es1];rfl
   have pk:J0 (order.toList.filterMap λi=>ks1[i]?) ks1:=by
    have:=pm2.filterMap λi=>ks1[i]?;rwa [show es.size+1=ks1.length by rw[len1,sz,kl],xJ] at this
   generalize hk2:(order.toList.filterMap λi=>ks1[i]?)=ks2 at *;have len2:ks2.length=ks1.length:=pk.length_eq;have kl2:(eH ks2).length=ks2.length:=Qi _;have sz2:(order.filterMap λi=>(insertAt es p (bF k,QI b))[i]?).size=(eH ks2).length:=by rw[<-Qu,ev];unfold eV eH;rw[Qi,Qi]
   show Qm _ _ (do
    let(es,t)<-(do
     let some (t,order):=t1.relaid ((insertAt es p (bF k,QI b)).map (·.1)) (grown (es.size+1)) | unsupported "internal:set-table-without-room"
     let es':=order.filterMap ((insertAt es p (bF k,QI b))[·]?)
     if es'.size != (insertAt es p (bF k,QI b)).size then unsupported "internal:set-table-lost-an-element"
     pure (es',t):Sem (Array (Int×Qb)×Jt))
    storeSet a es t) _ _ _
   rw[er];dsimp only;rw[show((order.filterMap λi=>(insertAt es p (bF k,QI b))[i]?).size != (insertAt es p (bF k,QI b)).size)=false by rw[sz2,sz1,kl2,kl1,len2];simp];simp only[if_false,QK];refine Qa (Qd ?_);dsimp only;refine wpAny_storeSet_of ho1 hd1 ?_ (by rw[sz2,kl2,len2,len1,Kj];omega);obtain⟨o2,ho2,hex2,hd2⟩:=pF (es':=order.filterMap λi=>(insertAt es p (bF k,QI b))[i]?) (t':=t2) ho1 hd1 hex1;exact Qd (q2 km _ ks2 (sb1.trans (JC _ a _)) ⟨o2,_,_,t2,ho2,hex2,hd2,ev,T2,by rw[pl2,pl1];exact hp,by rw[l2,l1];exact hled⟩ (pk.trans pm))
  ·rw[show t1.tooFull=false from by simpa using full]
   simp only[Bool.and_false,QK,if_false];refine Qd (q2 km _ ks1 sb1 ⟨o1,_,_,t1,ho1,hex1,hd1,es1,⟨T1,?_⟩,by rw[pl1];exact hp,by rw[l1];exact hled⟩ pm);unfold SetTable.tooFull at full;rw[fl] at full;rw[kl1];have:=of_decide_eq_false (show decide (ks1.length*5>=t1.mask*3)=false from by simpa using full);omega
end
theorem kN:Slot "set_iterator" "__next__" "set_iterator.__next__":=Slot.of (owner:="set_iterator") (n:="__next__") (by rw[typeLookup_type,builtinLookup_eq_fast];kernel_rfl) (by decide +kernel) (by decide +kernel) (by decide +kernel) (.inl (by decide +kernel)) (by rw[isSubtype_type];kernel_rfl)
theorem wJ:entryFor table "set_iterator.__next__" = some ZU.«set_iterator.__next__»:=entryFor_of_tree (by kernel_rfl)
theorem uB:Slot "set_iterator" "__iter__" "set_iterator.__iter__":=Slot.of (owner:="set_iterator") (n:="__iter__") (by rw[typeLookup_type,builtinLookup_eq_fast];kernel_rfl) (by decide +kernel) (by decide +kernel) (by decide +kernel) (.inl (by decide +kernel)) (by rw[isSubtype_type];kernel_rfl)
theorem wM:entryFor table "set.__iter__" = some ZU.«frozenset.__iter__»:=entryFor_alias (id':="frozenset.__iter__") (by kernel_rfl) rfl (by decide +kernel) (by kernel_rfl)
theorem xD:Manifest.owners.lookup (String.ofList ['r','o','t','a','r','e','t','i','_','t','e','s'].reverse)=some Manifest.sig_set_iterator:=by kernel_rfl
theorem zS(a:Qb):argsOk "set_iterator.__next__" ⟨[a],[]⟩:=by
 unfold argsOk;rw[signature?_of (id:="set_iterator.__next__") (n:=['_','_','t','x','e','n','_','_']) (o:=['r','o','t','a','r','e','t','i','_','t','e','s']) (by kernel_rfl) xD];kernel_rfl
theorem xB(a:Qb):argsOk "set_iterator.__iter__" ⟨[a],[]⟩:=by
 unfold argsOk;rw[signature?_of (id:="set_iterator.__iter__") (n:=['_','_','r','e','t','i','_','_']) (o:=['r','o','t','a','r','e','t','i','_','t','e','s']) (by kernel_rfl) xD];kernel_rfl
theorem vg:entryFor table "set_iterator.__iter__" = some ZU.«dict_keyiterator.__iter__»:=entryFor_alias (id':="dict_keyiterator.__iter__") (by kernel_rfl) (by first | rfl | decide +kernel | (unfold String.splitOn;simp +decide [String.splitOnAux])) (by decide +kernel) (by kernel_rfl)
theorem tU{α:Type}(next:Nat->Nat):∀(fuel k:Nat) (left:List α) (out:Array α),left.length<=fuel->J0 (pickOrder.go next fuel k left out).toList (out.toList++left)
 |0,k,left,out,h=>by
  have:left=[]:=List.eq_nil_of_length_eq_zero (by omega);subst this;rw[Jp];exact List.Perm.refl _
 |fuel+1,k,left,out,h=>by
  unfold pickOrder.go;cases q:left[next k%left.length]? with
  |none=>
   dsimp only
   have:left=[]:=by
    cases left with
    |nil=>rfl
    |cons a l=>
     have:=List.getElem?_eq_none_iff.mp q;have:=Nat.mod_lt (next k) (show 0<(a::l).length by simp);omega
   subst this;rw[Jp]
  |some x=>
   dsimp only;have il:next k%left.length<left.length:=(Qk.mp q).1;refine(tU next fuel (k+1) _ _ (by rw[List.length_eraseIdx_of_lt il];omega)).trans ?_;rw[Zx,QG];refine(List.Perm.append_left _ ?_);rw[List.eraseIdx_eq_take_drop_succ]
   have hd:left.drop (next k%left.length)=x::left.drop (next k%left.length+1):=by
    rw[Q9 il];congr 1;exact Option.some.inj ((List.getElem?_eq_getElem il).symm.trans q)
   have:=(List.perm_middle (a:=x) (l₁:=left.take (next k%left.length)) (l₂:=left.drop (next k%left.length+1))).symm;rw[<-hd,Q1] at this;exact this
theorem wz{α:Type}(next:Nat->Nat)(xs:Array α):J0 (pickOrder next xs).toList xs.toList:=by
 unfold pickOrder;exact tU next xs.size 0 xs.toList #[] (by rw[Qu];exact Qf _)
def byT(w:QL):Bool:=w.params.followText "set-order"
def kj(w:QL)(d:Addr)(ep:Nat)(es:Array (Int×Qb)):Array (Int×Qb):=if byT w=true then pickOrder (w.params.setOrder d ep) es else es
theorem mR(w:QL)(d:Addr)(ep:Nat)(es:Array (Int×Qb)):J0 (kj w d ep es).toList es.toList:=by
 unfold kj;split
 ·exact wz _ _
 ·exact List.Perm.refl _
def f0(w:QL)(t:Jt)(i:Nat):Int:=if byT w=true then 0 else if i=0 then 0 else((t.place.getD (i-1) 0:Nat):Int)+1
def qv(h:Heap)(it d:Addr)(f i:Int)(n ep:Nat):Prop:=∃o,h.get? it=some o/\o.cls=.type "set_iterator"/\o.data=.fields #[.int f 0,.int i 0,.ref d,.int (n:Int) 0,.int (ep:Int) 0]
theorem qv.at{h h':Heap}{it d:Addr}{f i:Int}{n ep:Nat}(x:qv h it d f i n ep)(k:∀o,h.get? it=some o->h'.get? it=some o):qv h' it d f i n ep:=let⟨o,e,r⟩:=x;⟨o,k o e,r⟩
structure Lay(w:QL)(h:Heap)(d:Addr)(es:Array (Int×Qb))(ep:Nat)(t:Jt):Prop where
 at_:∃o,h.get? d=some o/\o.ExactSet/\o.data=.set es ep t
 ok:TOk t (es.toList.map (·.1))
 plain:t.plain=true
 led:t.led = !byT w
theorem Lay.keep{w:QL}{h h':Heap}{d:Addr}{es:Array (Int×Qb)}{ep:Nat}{t:Jt}(x:Lay w h d es ep t)(k:∀o,h.get? d=some o->h'.get? d=some o):Lay w h' d es ep t:=⟨let⟨o,e,r⟩:=x.at_;⟨o,k o e,r⟩,x.ok,x.plain,x.led⟩
section
variable{prog:QJ}{w:QL}{A:QU}{E:Qb->Qc->Prop}{s:Qc}
theorem Lay.fits{h:Heap}{d:Addr}{es:Array (Int×Qb)}{ep:Nat}{t:Jt}(x:Lay w h d es ep t):t.fits es.size=true:=x.ok.fits (by rw[Qi,Qu])
theorem rM(xs:Array Nat)(u:Up xs.toList)(i:Nat)(hi:i<=xs.size):below xs (if i=0 then 0 else xs.getD (i-1) 0+1)=i:=by
 generalize hj:(if i=0 then 0 else xs.getD (i-1) 0+1)=j;obtain⟨b1,b2,b3⟩:=ji xs j u;have up:∀{i k:Nat} {a b:Nat},xs[i]?=some a->xs[k]?=some b->i<k->a<b:=λhi hj h=>u.lt (by rw[Qw];exact hi) (by rw[Qw];exact hj) h;have gt:∀k,k<xs.size->xs[k]?=some (xs.getD k 0):=λk hk=>by rw[JF];simp[hk]
 refine Nat.le_antisymm (Jj λz=>?_) (Jj λz=>?_)
 ·have:=b2 i _ z (gt i (by omega))
  by_cases q:i=0
  ·rw[if_pos q] at hj;omega
  ·rw[if_neg q] at hj
   have:=up (gt (i-1) (by omega)) (gt i (by omega)) (by omega);omega
 ·rw[if_neg (by omega)] at hj
  have:=b3 (i-1) _ (by omega) (gt (i-1) (by omega));omega
theorem sy{d:Addr}{es:Array (Int×Qb)}{ep:Nat}{t:Jt}(x:Lay w s.heap d es ep t)(i:Nat)(hi:i<=es.size){Q:Option (Qb×Nat)->Qc->Prop}
  (q:Q (((kj w d ep es)[i]?).map λe=>(e.2,(f0 w t (i+1)).toNat)) s):Qm (Qo prog w) A (setNext d (f0 w t i).toNat i ep) Q E s:=by
 obtain⟨o,ho,hex,hd⟩:=x.at_;have fits:=x.fits;unfold setNext setsByText;refine Qa (Zd ho hd fits ?_);dsimp only;refine(Qa (Qa (Z9 (Qd ?_))));show Qm _ _ (if byT w=true then _ else _) _ _ _
 by_cases b:byT w=true
 ·rw[if_pos b]
  simp only[QK,bne_self_eq_false,if_false];unfold setWalk setsByText;refine Qa (Qa (Zd ho hd fits ?_));dsimp only;refine(Qa (Qa (Z9 (Qd ?_))));show Qm _ _ (if byT w=true then _ else _) _ _ _;rw[if_pos b];refine Qa (Z9 (Qd (Qd ?_)));unfold kj f0 at q;rw[if_pos b,if_pos b] at q;unfold f0;rw[if_pos b];exact q
 ·rw[if_neg b]
  have pl:=x.plain;have ld:t.led=true:=by rw[x.led];simpa using b
  show Qm _ _ (if(!t.plain&&decide (es.size>1))=true then _ else _) _ _ _;rw[pl];simp only[ZZ,Bool.false_and,QK,if_false];refine Qa (?_:Qm _ _ (if(!t.led && !es.isEmpty)=true then unsupported "set:maker-not-led" else pure ()) _ _ _);rw[ld];simp only[ZZ,Bool.false_and,QK,if_false];refine Qd ?_;have psz:t.place.size=es.size:=by rw[x.ok.len,Qi,Qu]
  have bn:=rM t.place x.ok.up i (by omega)
  have fe:(f0 w t i).toNat=if i=0 then 0 else t.place.getD (i-1) 0+1:=by
   unfold f0;rw[if_neg b];split<;>rfl
  rw[fe,bn];unfold kj at q;rw[if_neg b] at q;refine Qd ?_
  by_cases z:i<es.size
  ·have e1:es[i]?=some es[i]:=by simp[z]
   have e2:t.place[i]?=some t.place[i]:=by simp[show i<t.place.size by omega]
   rw[e1] at q;rw[e1,e2]
   have:(f0 w t (i+1)).toNat=t.place[i]'(by omega)+1:=by
    unfold f0;rw[if_neg b,if_neg (Nat.succ_ne_zero _),Nat.add_sub_cancel,JF,e2];rfl
   rw[this] at q;exact q
  ·have e1:es[i]?=none:=Jz (by omega)
   rw[e1] at q ⊢;exact q
theorem E7(w:QL)(t:Jt)(i:Nat):0<=f0 w t i:=by
 unfold f0;split
 ·exact Int.le_refl _
 ·split<;>omega
theorem qv.ty{it d:Addr}{f i:Int}{n ep:Nat}(x:qv s.heap it d f i n ep):s.TypeIs (.ref it) "set_iterator":=let⟨o,e,c,_⟩:=x;⟨o,e,c⟩
theorem pW{it d:Addr}{i:Nat}{es:Array (Int×Qb)}{ep:Nat}{t:Jt}{Q:Option Qb->Qc->Prop}(hh:A.handled=none)(ne:d≠it)(hit:qv s.heap it d (f0 w t i) (i:Int) es.size ep)(x:Lay w s.heap d es ep t)(hi:i<=es.size)
  (some_:∀e,(kj w d ep es)[i]?=some e->∀h',qv h' it d (f0 w t (i+1)) ((i+1:Nat):Int) es.size ep->Zn it s.heap h'->Q (some e.2) { s with heap:=h' })
  (none_:(kj w d ep es)[i]?=none->∀h',Heap.ExtBut it s.heap h'->Q none { s with heap:=h' }):Qm (Qo prog w) A (pyNext (.ref it)) Q E s:=by
 have ty:=hit.ty;obtain⟨o,w1,w2,w3⟩:=id hit;obtain⟨od,v1,v2,v3⟩:=x.at_;have fits:=x.fits;unfold pyNext;refine Qa (wpAny_attempt (Ka (name:=Zs "__next__") ty kN (J9 kN ty wJ ?_ (zS _))));unfold ZU.«set_iterator.__next__»;refine Qa (Qd ?_);refine Qa (wpAny_fieldsOf w1 w3 ?_);dsimp only;refine Qa (wpAny_setEntries_of v1 v3 fits ?_);simp only[bne_self_eq_false,QK,if_false,Z0];refine Qa (sy x i hi ?_);cases q:(kj w d ep es)[i]? with
 |some e=>
  dsimp only[Option.map];have nn:=E7 w t (i+1);refine Qa (wpAny_setField w1 w3 (by simp) ?_);have g1:=JE (Obj.mapFields (·.setIfInBounds 0 (rawInt ((f0 w t (i+1)).toNat:Int)))) w1 (Obj.isFreed_of_fields (ZQ w3 _));have d1:=ZQ w3 (·.setIfInBounds 0 (rawInt ((f0 w t (i+1)).toNat:Int)));refine Qa (wpAny_setField g1 d1 (by simp) ?_);have g2:=JE (Obj.mapFields (·.setIfInBounds 1 (rawInt ((i:Int)+1)))) g1 (Obj.isFreed_of_fields (ZQ d1 _));refine Qd ⟨_,rfl,Qd (some_ e q _ ⟨_,g2,(Obj.cls_mapFields ..).trans ((Obj.cls_mapFields ..).trans w2),?_⟩ ((JC ..).trans (JC ..)))⟩;rw[ZQ d1];simp[rawInt,Int.toNat_of_nonneg nn]
 |none=>
  dsimp only[Option.map];refine Qa (wpAny_setField w1 w3 (by simp) ?_)
  change Qm _ _ (newExc (.type "StopIteration") []>>=_) _ _ _
  simp only[newExc,newTuple];refine Qa (Qa (Jd ?_ (by size_fits)));refine Qa (m:=firstArgMember _ _) (wpAny_of_eq (a:=JH) (by first | rfl | (simp only[firstArgMember];rfl)) (Jd ?_ (by size_fits)));simp only[raiseNew];refine Qa (wpAny_handled ?_);rw[show A.in1.handled=none from hh];refine(Qa (Qd (wpAny_throw ?_)));refine Qa (wpAny_isInstance (b:=true) (T:="StopIteration") ⟨_,QF _ rfl,rfl⟩ isSubtype_stop ?_);exact Qd (none_ q _ (((JC ..).extBut.push _).push _))
theorem iE(w:QL)(d:Addr)(ep:Nat)(es:Array (Int×Qb)):(kj w d ep es).size=es.size:=by
 have:=(mR w d ep es).length_eq;rwa [Qu,Qu] at this
theorem zi(hh:A.handled=none)(it d:Addr)(ne:d≠it)(es:Array (Int×Qb))(ep:Nat)(t:Jt) :
  Walks prog w A it [it,d] [it] es.size (λi v=>∃e,(kj w d ep es)[i]?=some e/\v=e.2) (λi h=>qv h it d (f0 w t i) (i:Int) es.size ep/\Lay w h d es ep t) where
 sub:=λb z=>by rw[Qt.mp z];exact Qj ..
 frame:=λ_ _ _ st k=>⟨st.1.at λo e=>k it (by simp) o e,st.2.keep λo e=>k d (by simp) o e⟩
 item:=λi s Q E hi st hQ=>pW hh ne st.1 st.2 (Jr hi) (λe q h' on same=>hQ _ h' s.toks ⟨e,q,rfl⟩ ⟨on,st.2.keep λo e=>same.extBut d o ne e⟩ λb o hb e=>same.extBut b o (λz=>hb (by simp[z])) e) λq=>by
  have:=Array.getElem?_eq_none_iff.mp q;rw[iE] at this;omega
 done:=λs Q E st hQ=>pW hh ne st.1 st.2 (Qf _) (λe q=>by
  have:=(JY.mp q).1;rw[iE] at this
  omega) λ_ h' ext=>hQ h' s.toks λb o hb e=>ext b o (λz=>hb (by simp[z])) e
 self:=λ_ _ _ _ stt q=>by
  refine wpAny_pyIter_slot stt.1.ty uB (J9 uB stt.1.ty vg ?_ (xB _));show Qm _ _ (ret (.ref it)) _ _ _;exact Qd ⟨_,rfl,"set_iterator",_,stt.1.ty,kN.lookup,q⟩
theorem yQ{d:Addr}{es:Array (Int×Qb)}{ep:Nat}{t:Jt}{Q:Qb->Qc->Prop}(x:Lay w s.heap d es ep t)
  (q:Q (.ref s.heap.objs.size) { s with heap:=s.heap.push { cls:=.type "set_iterator",data:=.fields #[.int 0 0,.int 0 0,.ref d,.int (es.size:Int) 0,.int (ep:Int) 0] } }):Qm (Qo prog w) A (pyIter (.ref d)) Q E s:=by
 obtain⟨o,w1,w2,w3⟩:=x.at_;have ty:s.TypeIs (.ref d) "set":=⟨o,w1,w2.1⟩;have fits:=x.fits;refine wpAny_pyIter_slot ty PySem.F.slot_set_iter (J9 PySem.F.slot_set_iter ty wM ?_ (PySem.F.args_set_iter_1 _));unfold ZU.«frozenset.__iter__» Builtin.Frozenset.slot0 slotArgs;simp only[ZZ,List.isEmpty_nil,QK,↓reduceIte,bind_assoc,ZV,bne_self_eq_false];unfold Builtin.Frozenset.sizeOf Builtin.Frozenset.addrOf;refine(Qa (Qd (Qa (Qd ?_))));refine Qa (Qa (wpAny_setEntries_of w1 w3 fits (Qd ?_)));unfold setDrawn setsByText;refine Qa (Qa (Zd w1 w3 fits ?_));dsimp only;refine Qa (Qa (Z9 (Qd (Qd ?_))));show Qm _ _ (if(!(byT w)&&(!t.plain&&decide (es.size>1)))=true then _ else _) _ _ _;rw[x.plain];simp only[ZZ,Bool.false_and,Bool.and_false,QK,if_false];refine Qa (Qd (Qa (wpAny_setEpoch_of w1 w3 fits (Qa (Jd (Qd ⟨_,rfl,"set_iterator",_,⟨_,QF _ rfl,rfl⟩,kN.lookup,?_⟩))))));simpa[rawInt] using q
theorem xg{r:Addr}{Q:Bool->Qc->Prop}(hT:s.TypeIs (.ref r) "set")(h:Q false s):Qm (Qo prog w) A (Builtin.List.listLengthHint (.ref r)) Q E s:=by
 unfold Builtin.List.listLengthHint;refine Qa (Kg hT PySem.F.slot_set_len.lookup ?_);generalize hid:("set.__len__" : String)=id0
 wp_delta;rw[show splitId id0=some ("set","__len__") from by subst hid;decide +kernel];subst hid
 refine Qa (wpAny_isInstance (T:="set") (b:=true) hT (by rw[isSubtype_type];kernel_rfl) (wpAny_ite_split (λhab=>absurd hab (by decide)) λ_=>wpAny_ite_split (λ_=>?_) λhab=>absurd (by decide +kernel) hab));exact Qa (wpAny_typeOf hT (Qd h))
theorem AG(d:Addr)(es:Array (Int×Qb))(ep:Nat)(t:Jt):PySem.W.KdlSrc prog w "set" d d es.size (λi v=>∃e,(kj w d ep es)[i]?=some e/\v=e.2) (λh=>Lay w h d es ep t) where
 type:=λ_ x=>let⟨o,e,c,_⟩:=x.at_;⟨o,e,c.1⟩
 there:=λ_ x=>let⟨o,e,_⟩:=x.at_;⟨Qz e,Qz e⟩
 keep:=λ_ _ x k=>x.keep λo e=>k d (.inl rfl) o e
 notList:=by decide
 notTuple:=by decide
 hint:=λ_ _ _ _ x q=>xg (let⟨o,e,c,_⟩:=x.at_;⟨o,e,c.1⟩) q
 iter:=λ_ _ hh x=>⟨_,_,(λ_ _ q=>yQ x q),zi hh _ d (let⟨o,e,_⟩:=x.at_;QQ (Qz e)) es ep t,⟨⟨_,QF _ rfl,rfl,by unfold f0;simp⟩,x.keep λo e=>Qh _ e⟩⟩
end
end St
namespace Dn
open PySem PySem.Spec PyProof.Rows L2
theorem xa(elt t0 i0 t1 i1:Expr)(sc:Scope)(pos:Pos)(it acc:Qb)(env:Env):compTurn (.SetComp elt [⟨t0,i0,[],0⟩,⟨t1,i1,[],0⟩] sc pos) 0 it acc env=(do
   standAt i0.pos
   match<-pyNext it with
   |none=>pure (.done .next)
   |some v=>
    Zp t0 it v
    ZC t0 env v
    let x<-eval i1 env
    standAt i1.pos
    let x<-Je i1 env x;let _<-runOwn (.compStart (.SetComp elt [⟨t0,i0,[],0⟩,⟨t1,i1,[],0⟩] sc pos) 1 (<-holding [x] (pyIter x)) acc env) env
    again (.compLoop (.SetComp elt [⟨t0,i0,[],0⟩,⟨t1,i1,[],0⟩] sc pos) 0 it acc env)):=by rfl
theorem wV(elt t0 i0 t1 i1:Expr)(sc:Scope)(pos:Pos)(it acc:Qb)(env:Env):compTurn (.SetComp elt [⟨t0,i0,[],0⟩,⟨t1,i1,[],0⟩] sc pos) 1 it acc env=(do
   standAt i1.pos
   match<-pyNext it with
   |none=>pure (.done .next)
   |some v=>
    Zp t1 it v
    ZC t1 env v
    (do let v<-eval elt env;standAt elt.pos;let _<-call (.builtin "set.add") [acc,v])
    again (.compLoop (.SetComp elt [⟨t0,i0,[],0⟩,⟨t1,i1,[],0⟩] sc pos) 1 it acc env)):=by rfl
section
variable{prog:QJ}{w:QL}{A:QU}{R:Result->Qc->Prop}{t0:Qc}{elt tg0 i0 tg1 i1:Expr}{sc:Scope}{pos:Pos}{it acc:Qb}{ce:Env}
theorem oY(J:Nat->Qc->Prop)
  (step:∀k t,J k t->Qm (Qo prog w) A (pyNext it) (λo t1=>match o with | none=>R (.ok .next) t1 | some v=>Qm (Qo prog w) A (Zp tg1 it v) (λ_ t2=>Qm (Qo prog w) A (ZC tg1 ce v) (λ_ t3=>
   Qm (Qo prog w) A (eval elt ce) (λx t5=>Qm (Qo prog w) A (call (.builtin "set.add") [acc,x]) (λ_ t6=>∃j,j<k/\J j t6) (λ_ _=>False) t5) (λ_ _=>False) t3) (λ_ _=>False) t2) (λ_ _=>False) t1) (λ_ _=>False) t)
  (k0:Nat) (h0:J k0 t0):JO (Qo prog w) A (.compLoop (.SetComp elt [⟨tg0,i0,[],0⟩,⟨tg1,i1,[],0⟩] sc pos) 1 it acc ce) R t0:=by
 refine codeAny_loop rfl J (λk t hJ=>?_) k0 h0;show Qm _ A ((compTurn (.SetComp elt [⟨tg0,i0,[],0⟩,⟨tg1,i1,[],0⟩] sc pos) 1 it acc ce).onRaise (λx=>do noteFrame x ce;theTreesLotGoes x)) _ _ t;refine wpAny_noted ?_;rw[wV];refine Qa (JX (Qa (QV (step k t hJ) (λo t1 q1=>?_) λ_ _ z=>z.elim)));cases o with
 |none=>exact Qd q1
 |some v=>
  exact Qa (QV q1 (λ_ t2 q2=>Qa (QV q2 (λ_ t3 q3=>Qa (Qa (QV q3 (λx t5 q5=>Qa (JX (Qa (QV q5 (λ_ t6 q6=>Qd (Qd ⟨rfl,q6⟩)) λ_ _ z=>z.elim)))) λ_ _ z=>z.elim))) λ_ _ z=>z.elim)) λ_ _ z=>z.elim)
theorem oD(hs1:∀x,Je i1 ce x=pure x)(J:Nat->Qc->Prop)
  (step:∀k t,J k t->Qm (Qo prog w) A (pyNext it) (λo t1=>match o with | none=>R (.ok .next) t1 | some v=>Qm (Qo prog w) A (Zp tg0 it v) (λ_ t2=>Qm (Qo prog w) A (ZC tg0 ce v) (λ_ t3=>
   Qm (Qo prog w) A (eval i1 ce) (λx t5=>Qm (Qo prog w) A (pyIter x) (λit1 t6=>JO (Qo prog w) A (.compStart (.SetComp elt [⟨tg0,i0,[],0⟩,⟨tg1,i1,[],0⟩] sc pos) 1 it1 acc ce) (λr t7=>r=.ok .next/\∃j,j<k/\J j t7) t6) (λ_ _=>False) t5) (λ_ _=>False) t3) (λ_ _=>False) t2) (λ_ _=>False) t1) (λ_ _=>False) t)
  (k0:Nat) (h0:J k0 t0):JO (Qo prog w) A (.compLoop (.SetComp elt [⟨tg0,i0,[],0⟩,⟨tg1,i1,[],0⟩] sc pos) 0 it acc ce) R t0:=by
 refine codeAny_loop rfl J (λk t hJ=>?_) k0 h0;show Qm _ A ((compTurn (.SetComp elt [⟨tg0,i0,[],0⟩,⟨tg1,i1,[],0⟩] sc pos) 0 it acc ce).onRaise (λx=>do noteFrame x ce;theTreesLotGoes x)) _ _ t;refine wpAny_noted ?_;rw[xa];refine Qa (JX (Qa (QV (step k t hJ) (λo t1 q1=>?_) λ_ _ z=>z.elim)));cases o with
 |none=>exact Qd q1
 |some v=>
  refine Qa (QV q1 (λ_ t2 q2=>Qa (QV q2 (λ_ t3 q3=>Qa (QV q3 (λx t5 q5=>Qa (JX (Qa ?_))) λ_ _ z=>z.elim)) λ_ _ z=>z.elim)) λ_ _ z=>z.elim);rw[hs1];refine Qd (Qa (Q0 (QV q5 (λit1 t6 q6=>Qa (wpAny_runOwn (codeAny_mono q6 λr t7 q7=>?_))) λ_ _ z=>z.elim)));obtain⟨rfl,q7⟩:=q7;exact Qd ⟨rfl,q7⟩
theorem f_(d:Nat)(hd:d=0\/d=1){it:Qb}
  (h0:JO (Qo prog w) A (.compLoop (.SetComp elt [⟨tg0,i0,[],0⟩,⟨tg1,i1,[],0⟩] sc pos) d it acc ce) R t0)
  (h:Qm (Qo prog w) A (pyIter it) (λit' s'=>JO (Qo prog w) A (.compLoop (.SetComp elt [⟨tg0,i0,[],0⟩,⟨tg1,i1,[],0⟩] sc pos) d it' acc ce) R s') (λ_ _=>False) t0) :
  JO (Qo prog w) A (.compStart (.SetComp elt [⟨tg0,i0,[],0⟩,⟨tg1,i1,[],0⟩] sc pos) d it acc ce) R t0:=by
 refine codeAny_of_tree ?_;show Qm _ A ((compStart (.SetComp elt [⟨tg0,i0,[],0⟩,⟨tg1,i1,[],0⟩] sc pos) d it acc ce).onRaise (λx=>do noteFrame x ce;standAt theWindowsPlace)) _ _ t0;refine wpAny_notedAt ?_;rcases hd with rfl | rfl
 all_goals
  unfold compStart;show Qm _ A (ask>>=_) _ _ t0;refine Qa (Z9 (wpAny_ite ?_));split
  ·first | exact Qa (Qd (Qd (And.intro rfl h0))) | exact Qd (And.intro rfl h0)
  ·refine Qa (wpAny_rule ?_);change Qm _ _ (standAt _>>=_) _ _ t0
   exact Qa (JX (Qa (QV h (λit' s' h'=>Qd (And.intro rfl h')) λ_ _ x=>x.elim)))
end
open St
abbrev vS(w:QL):Bool:=!byT w
section
variable{X:Cx}{pins:List (Addr×Obj)}{σ:L2.St}{G H:Hp}{s:Qc}
theorem ug{P:QJ}{w:QL}{H:Hp}{h:Heap}{a:Addr}{ks:Ks}{led:Bool}(x:SAt a ks led h):bL P w H h a (.ext (SAt a ks led)):=⟨x,let⟨o,_,_,_,e,_⟩:=x;⟨o,e⟩,λ_ _ z k=>z.at k⟩
theorem Bz{a b:Addr}{ks:Ks}{led:Bool}{k:List Int}{Q:Qb->Qc->Prop}{E:Qb->Qc->Prop}(hu:X.A.units+1<JR)(I:Inv X pins σ H s)(gh:aI G H)(ha:H a=some (.ext (SAt a ks led)))(hb:SqT X.K G b (k.map V.int))(hk:∀p∈ks,SqT X.K G p.2 (p.1.map V.int))(hz:ks.length<1000)
  (q1:k∈ks.map (·.1)->∀s',Inv X pins σ H s'->Q .none s') (q2:k∉ks.map (·.1)->∀ks' s',J0 ks' ((k,b)::ks)->Inv X pins σ (upd H a (.ext (SAt a ks' led))) s'->Q .none s'):Qm (Qo X.prog X.w) X.A (call (.builtin "set.add") [.ref a,.ref b]) Q E s:=by
 have x:SAt a ks led s.heap:=(show bL X.prog X.w H s.heap a (.ext (SAt a ks led)) from I.hok a _ ha).1;have hT:s.TypeIs (.ref a) "set":=let⟨o,_,_,_,e,c,_⟩:=x;⟨o,e,c.1⟩;have tb:TK X.prog X.w s.heap k b:=ig I gh hb;have tk:∀p∈ks,TK X.prog X.w s.heap p.1 p.2:=λp hp=>ig I gh (hk p hp);refine J9 PySem.F.slot_set_add hT PySem.F.entry_set_add ?_ (PySem.F.args_set_add_2 _ _);unfold ZU.«set.add»;unfold Builtin.Frozenset.oneOther;simp only[bind_assoc,List.isEmpty_nil];unfold setAdd Builtin.Frozenset.addrOf;refine Qa (Qd ?_)
 try dsimp only
 refine Qa (Qd ?_)
 try dsimp only
 refine Qa (Q0 (Qa (wpAny_pyHash_tuple (show X.A.in1.units<JR from hu) tb ?_)));refine En (s:={ s with toks:=s.toks+(k.length+1) }) (A:=X.A.in1) hu x tb tk hz (λkm=>?_) (λkm h' ks' sb S' pm=>?_)
 ·show Qm _ _ (ret JH) _ _ _
  exact Qd ⟨_,rfl,q1 km _ (I.kept (t':=s.toks+(k.length+1)) λb o e=>e)⟩
 ·show Qm _ _ (ret JH) _ _ _
  exact Qd ⟨_,rfl,q2 km ks' _ pm (I.write (t':=s.toks+(k.length+1)) (by rw[ha];trivial) (.inl rfl) (λb u hb e=>sb.extBut b u hb e) (let⟨o,_,_,_,e,_⟩:=S';⟨o,e⟩) (ug S'))⟩
end
def j8(ks:List (List Int))(k:List Int):List (List Int):=if k∈ks then ks else ks++[k]
def sc1(g:D->Ev->Option Ev)(fe:Ev->Option D):List D->Ev->List (List Int)->Option (Ev×List (List Int))
 |[],ε,ks=>some (ε,ks)
 |d::ds,ε,ks=>(g d ε).bind λε1=>(fe ε1).bind λv=>(vT v).bind λk=>if ks.length<1000 then sc1 g fe ds ε1 (j8 ks k) else none
def sc0(g0:D->Ev->Option Ev)(f1:Ev->Option (List D))(g1:D->Ev->Option Ev)(fe:Ev->Option D):List D->Ev->List (List Int)->Option (List (List Int))
 |[],_,ks=>some ks
 |d::ds,ε,ks=>(g0 d ε).bind λε1=>(f1 ε1).bind λds1=>if ds1.length<1000000 then(sc1 g1 fe ds1 ε1 ks).bind λp=>sc0 g0 f1 g1 fe ds p.1 p.2 else none
structure SetA(X:Cx)(G H:Hp)(a:Addr)(kk:List (List Int))(ks:Ks):Prop where
 at_:H a=some (.ext (SAt a ks (vS X.w)))
 gn:G a=none
 sq:∀p∈ks,SqT X.K G p.2 (p.1.map V.int)
 pm:J0 (ks.map (·.1)) kk
theorem SetA.grow{X:Cx}{G H G' H':Hp}{a:Addr}{kk:List (List Int)}{ks:Ks}(S:SetA X G H a kk ks)(g:Grow G H G' H'):SetA X G' H' a kk ks:=⟨g.hh _ _ S.at_,g.fo _ _ S.at_ S.gn,λp hp=>aR g.gg (S.sq p hp),S.pm⟩
section
variable{X:Cx}{elt tg0 i0 tg1 i1:Expr}{sc:Scope}{pos:Pos}{f1:Ev->Option (List D)}{g1:D->Ev->Option Ev}{fe:Ev->Option D}
theorem uN{pins:List (Addr×Obj)}{σ:L2.St}{He G0 H0 G H:Hp}{s:Qc}{ε ε':Ev}{ds1:List D}{kk kk':List (List Int)}{Dd:Addr}{ks:Ks}{R:Result->Qc->Prop}(hu:X.A.units+1<JR)(hc:X.calm=true)(hxe:∀v s,¬ X.xe v s)(hi:DI X tg1 i1 f1)(hg:DG X tg1 g1)(ng:NoG g1)(nx:pN g1)(he:DE X elt fe)
  (I:Inv X pins σ H s) (gr:Grow G0 H0 G H) (nD:H0 Dd=none) (E:EnvD X.K He G H σ ε) (no:NoO ε) (nox:NoX ε) (ei:f1 ε=some ds1) (hz:ds1.length<1000000) (er:sc1 g1 fe ds1 ε kk=some (ε',kk')) (SA:SetA X G H Dd kk ks)
  (after:∀σ' G' H' s' ks',Inv X pins σ' H' s'->Grow G0 H0 G' H'->aI G G'->EnvD X.K He G' H' σ' ε'->NoO ε'->NoX ε'->SetA X G' H' Dd kk' ks'->R (.ok .next) s') :
  Qm (Qo X.prog X.w) X.A (eval i1 X.env) (λx t5=>Qm (Qo X.prog X.w) X.A (pyIter x) (λit1 t6=>JO (Qo X.prog X.w) X.A (.compStart (.SetComp elt [⟨tg0,i0,[],0⟩,⟨tg1,i1,[],0⟩] sc pos) 1 it1 (.ref Dd) X.env) R t6) (λ_ _=>False) t5) (λ_ _=>False) s:=by
 obtain⟨wi,a1,a2⟩:=hi;obtain⟨tgt,b1,b2⟩:=hg;obtain⟨te,e1,e2⟩:=he;refine QV (a1 pins s σ H (λJ H'=>∃G1,Grow G H G1 H'/\ItD X.K J ds1 G1) I (a2 He G H σ ε ds1 _ gr.gh E ei λJ G' H' gr itd=>⟨G',gr,itd⟩)) (λv s1 h1=>QV h1 (λitv s2 h2=>?_) λ_ _ z=>(hxe _ _ z).elim) λ_ _ z=>(hxe _ _ z).elim;obtain⟨it,fp,tn',J,H2,rfl,I2,T,st2,f2,G1,gr1,itd⟩:=h2;let JJ:Nat->Qc->Prop:=λn s'=>∃(i:Nat) (σ':L2.St) (G' H':Hp) (ε1:Ev) (ks':Ks) (k1:List (List Int)),n=ds1.length+1-i/\i<=ds1.length/\Inv X pins σ' H' s'/\tn' i s'.heap/\(∀b∈fp,H' b=none)/\Grow G0 H0 G' H'/\aI G1 G'/\EnvD X.K He G' H' σ' ε1/\NoO ε1/\NoX ε1/\SetA X G' H' Dd k1 ks'/\sc1 g1 fe (ds1.drop i) ε1 k1=some (ε',kk')
 have loop:JO (Qo X.prog X.w) X.A (.compLoop (.SetComp elt [⟨tg0,i0,[],0⟩,⟨tg1,i1,[],0⟩] sc pos) 1 (.ref it) (.ref Dd) X.env) R s2:=by
  refine oY JJ ?_ (ds1.length+1) ⟨0,σ,G1,H2,ε,ks,kk,rfl,QN _,I2,st2,λb hb=>(f2 b hb).1,gr.trans gr1,aI.refl _,E.grow gr1,no,nox,SA.grow gr1,by simpa using er⟩;rintro n s5 ⟨i,σ',G',H',ε1,ks',k1,rfl,hi,I5,st5,fr5,gr5,sG,E5,no5,nx5,SA5,el⟩;have stat:∀{H':Hp},(∀b∈fp,H' b=none)->∀b∈fp,jj X pins H' b:=λ{H'} hn b hb=>⟨hn b hb,(f2 b hb).2⟩;obtain⟨go,stop,yld⟩:=itd i H' (sG.trans gr5.gh)
  by_cases hlt:i<ds1.length
  ·refine thn (T.item X rfl rfl rfl hc i pins s5 σ' H' (λ_ _=>False) I5 (stat fr5) st5 (go hlt)) λr s6 ⟨u,hr,h6⟩=>?_
   subst hr;refine thn h6 λ_ s7 ⟨x,H7,I7,r7,y7,st7,fr7⟩=>?_;have I7':=I7.pinned (stat fr7) (T.obj _ _ st7);have ed:ds1[i]?=some ds1[i]:=by simp[hlt]
   obtain⟨G7,gr7,dx⟩:=yld x H7 y7 _ ed G' sG gr5.gh;rw[Q9 hlt] at el;obtain⟨ε8,e8,el⟩:=ai el;obtain⟨vd,e9,el⟩:=ai el;obtain⟨k,e10,el⟩:=ai el;split at el
   case isFalse=>cases el
   case isTrue hk=>
    refine QV (b1 _ s7 σ' H7 x u (λσ8 H8=>H8=H7/\EnvD X.K He G7 H7 σ8 ε8) I7' r7 (b2 He G7 H7 σ' ε1 ε8 x ds1[i] _ gr7.gh (E5.grow gr7) dx e8 λσ8 E8=>⟨rfl,E8⟩)) (λ_ s8 ⟨σ8,H8,I8,e11,E8⟩=>?_) λ_ _ z=>(hxe _ _ z).elim;subst e11;refine QV (e1 _ s8 σ8 H8 (λy H10=>∃G10,Grow G7 H8 G10 H10/\Den X.K G10 y vd) I8 (e2 He G7 H8 σ8 ε8 vd _ gr7.gh E8 e9 λy G10 H10 gr10 dy=>⟨G10,gr10,dy⟩)) (λuv s10 ⟨y,H10,I10,r10,G10,gr10,dy⟩=>?_) λ_ _ z=>(hxe _ _ z).elim;obtain⟨bb,rfl,hb⟩:=hI gr10.gh (.inl dy) e10;cases r10;have SA10:=(SA5.grow gr7).grow gr10;have gr10':=gr5.trans (gr7.trans gr10);have E10:=E8.grow gr10;have kl:ks'.length<1000:=by have:=SA10.pm.length_eq;rw[Qi] at this;omega
    have again:∀{s11:Qc} {H11:Hp} {ks2:Ks},Inv X (pins++jF fp s7.heap) σ8 H11 s11->(∀b o,b≠Dd->H10 b=some o->H11 b=some o)->SetA X G10 H11 Dd (j8 k1 k) ks2->∃m,m<ds1.length+1-i/\JJ m s11:=λ{s11 H11 ks2} I11 kp SA11=>by
     refine⟨ds1.length+1-(i+1),by omega,i+1,σ8,G10,H11,ε8,ks2,j8 k1 k,rfl,hlt,I11.unpinned,T.keep _ _ _ st7 λb hb o e=>(I11.pin (b,o) (QD _ (QD _ (cL hb e)))).1,λb hb=>?_,⟨λb o e=>kp b o (aE e nD) (gr10'.hh b o e),gr10'.gg,λb o e=>kp b o (aE e SA10.gn) (gr10'.gh b o e),gr10'.fo⟩,sG.trans (gr7.gg.trans gr10.gg),⟨E10.len,E10.dat,λ{j es} e=>(ng _ _ _ e8 no5 _ _ e).elim,E10.apart,λ{j es} e=>(nx _ _ _ e8 nx5 _ _ e).elim,E10.apartD⟩,ng _ _ _ e8 no5,nx _ _ _ e8 nx5,SA11,el⟩;obtain⟨o,e,d⟩:=T.obj _ _ st7 b hb;exact(I11.pin (b,o) (QD _ (QD _ (cL hb e)))).2.1
    refine Bz hu I10 gr10.gh SA10.at_ hb SA10.sq kl (λkm s11 I11=>?_) λkm ks2 s11 pm I11=>?_
    ·have kin:k∈k1:=SA10.pm.mem_iff.mp km
     refine again (ks2:=ks') I11 (λb o _ e=>e) ?_;rw[show j8 k1 k=k1 from if_pos kin];exact SA10
    ·have kout:k∉k1:=λz=>km (SA10.pm.mem_iff.mpr z)
     refine again (ks2:=ks2) I11 (λb o nb e=>by rw[aM nb];exact e) ⟨aG,SA10.gn,λp hp=>?_,?_⟩
     ·rcases Qn.mp (pm.mem_iff.mp hp) with z | z
      ·rw[z];exact hb
      ·exact SA10.sq p z
     ·rw[show j8 k1 k=k1++[k] from if_neg kout]
      exact(pm.map _).trans ((SA10.pm.cons k).trans (List.perm_append_singleton k k1).symm)
  ·have e5:i=ds1.length:=by omega
   subst e5;rw[JA] at el;cases el;refine thn (T.done X rfl rfl rfl hc ds1.length pins s5 σ' H' (λ_ _=>False) I5 (stat fr5) st5 (stop (Qf _))) λr s6 ⟨hr,I6⟩=>?_;subst hr;exact after σ' G' H' s6 ks' I6 gr5 (gr1.gg.trans sG) E5 no5 nx5 SA5
 exact f_ 1 (.inr rfl) loop (T.self X.A 0 _ _ _ st2 loop)
variable{cl:List (Str×Addr)}{tn fr:List Str}{ix:List Nat}{fi:Ev->Option (List D)}{g0:D->Ev->Option Ev}
def xm(X:Cx)(pins:List (Addr×Obj))(σ:L2.St)(G H:Hp)(kk:List (List Int))(RR:Qb->Addr->Result->Qc->Prop):Prop:=
 ∀(a:Addr) (ks:Ks) (G' H':Hp) (C:Addr) (oC:Obj) (m:Str->Option Qb) (s':Qc),Inv X (pins++[(C,oC)]) σ H' s'->s'.heap.Ns C m->X.s₀.heap.objs.size<=C->(∀p∈X.pn++pins,p.1≠C)->Grow G H G' H'->H a=none->SetA X G' H' a kk ks->RR (.ref a) C (.ok .next) s'
theorem vo{pins:List (Addr×Obj)}{σ:L2.St}{H He G G1 H3:Hp}{s3:Qc}{ε:Ev}{ds:List D}{kk:List (List Int)}{RR:Qb->Addr->Result->Qc->Prop}{it Dd:Addr}{fp:List Addr}{tn':Nat->Heap->Prop}{J:It}{h₁:Heap}{m:Str->Option Qb}{tk:Nat}
  (hu:X.A.units+1<JR) (hc:X.calm=true) (S:CompSc X sc cl tn fr ix) (ng0:NoG g0) (nx0:pN g0) (ng1:NoG g1) (nx1:pN g1) (hs1:∀C x,Je i1 (compEnvC sc cl C X.env) x=pure x)
  (hg0:∀C s₃ H₃ fp pins,DG (cxC X sc cl (tn++fr) C s₃ H₃ fp pins) tg0 g0) (hi1:∀C s₃ H₃ fp pins,DI (cxC X sc cl (tn++fr) C s₃ H₃ fp pins) tg1 i1 f1) (hg1:∀C s₃ H₃ fp pins,DG (cxC X sc cl (tn++fr) C s₃ H₃ fp pins) tg1 g1) (he:∀C s₃ H₃ fp pins,DE (cxC X sc cl (tn++fr) C s₃ H₃ fp pins) elt fe)
  (I3:Inv X pins σ H3 s3) (E:EnvD X.K He G H σ ε) (hz:ds.length<1000000) (er:sc0 g0 f1 g1 fe ds (prE tn.length ix ε) []=some kk) (after:xm X pins σ G H kk RR)
  (T:Turn X.prog X.w X.K tg0 J fp it tn') (itd:ItD X.K J ds G1) (f3:∀b∈fp,jj X pins H3 b) (lt3:∀b∈fp,b<s3.heap.objs.size) (st3:tn' 0 s3.heap) (gr3:Grow G H G1 H3)
  (eD:H3 Dd=some (.ext (SAt Dd [] (vS X.w)))) (nD:H Dd=none) (gD:G1 Dd=none) (hn:h₁.Ns s3.heap.objs.size m) (hk:∀b o,s3.heap.get? b=some o->h₁.get? b=some o) :
  JO (Qo X.prog X.w) X.A (.compStart (.SetComp elt [⟨tg0,i0,[],0⟩,⟨tg1,i1,[],0⟩] sc pos) 0 (.ref it) (.ref Dd) (compEnvC sc cl s3.heap.objs.size X.env)) (RR (.ref Dd) s3.heap.objs.size) { s3 with heap:=h₁,toks:=tk }:=by
 have I4:=qF (tk:=tk) S hc I3 f3 lt3 hn hk;have st4:tn' 0 h₁:=T.keep _ _ _ st3 λb hb o e=>hk b o e;obtain⟨tgt,b1,b2⟩:=hg0 s3.heap.objs.size s3 H3 fp pins
 have stat:∀{H':Hp},(∀b∈fp,H' b=none)->∀b∈fp,jj (cxC X sc cl (tn++fr) s3.heap.objs.size s3 H3 fp pins) [] H' b:=λ{H'} hn b hb=>by
  obtain⟨_,q1,q2,q3,q4,q5⟩:=f3 b hb;refine⟨hn b hb,QQ (lt3 b hb),λz=>?_,.inl hb,λx c e=>q4 x c (S.sub x c e),λp hp=>q5 p ?_⟩
  ·rcases Qn.mp (I3.stkSub b z) with w | w
   ·exact q1 w
   ·exact q2 w
  ·rcases QM.mp hp with w | w
   ·exact w
   ·cases w
 let JJ:Nat->Qc->Prop:=λn s'=>∃(i:Nat) (σ':L2.St) (G' H':Hp) (ε1:Ev) (ks':Ks) (k1:List (List Int)),n=ds.length+1-i/\i<=ds.length/\Inv (cxC X sc cl (tn++fr) s3.heap.objs.size s3 H3 fp pins) [] σ' H' s'/\tn' i s'.heap/\(∀b∈fp,H' b=none)/\
   Grow G H G' H'/\aI G1 G'/\EnvD X.K He G' H' σ' ε1/\NoO ε1/\NoX ε1/\SetA (cxC X sc cl (tn++fr) s3.heap.objs.size s3 H3 fp pins) G' H' Dd k1 ks'/\sc0 g0 f1 g1 fe (ds.drop i) ε1 k1=some kk
 have loop:∀s':Qc,s'={ s3 with heap:=h₁,toks:=tk }->JO (Qo X.prog X.w) X.A (.compLoop (.SetComp elt [⟨tg0,i0,[],0⟩,⟨tg1,i1,[],0⟩] sc pos) 0 (.ref it) (.ref Dd) (compEnvC sc cl s3.heap.objs.size X.env)) (RR (.ref Dd) s3.heap.objs.size) s':=by
  rintro s' rfl;refine oD (hs1 _) JJ ?_ (ds.length+1) ⟨0,_,G1,H3,_,[],[],rfl,QN _,I4,st4,λb hb=>(f3 b hb).1,gr3,aI.refl _,qK tn.length ix (E.grow gr3),xq _ _ _,AC _ _ _,⟨eD,gD,(λp hp=>by cases hp),.refl _⟩,by simpa using er⟩;rintro n s5 ⟨i,σ',G',H',ε1,ks',k1,rfl,hi,I5,st5,fr5,gr5,sG,E5,no5,nx5,SA5,el⟩;obtain⟨go,stop,yld⟩:=itd i H' (sG.trans gr5.gh)
  by_cases hlt:i<ds.length
  ·refine thn (T.item (cxC X sc cl (tn++fr) s3.heap.objs.size s3 H3 fp pins) rfl rfl rfl rfl i [] s5 σ' H' (λ_ _=>False) I5 (stat fr5) st5 (go hlt)) λr s6 ⟨u,hr,h6⟩=>?_
   subst hr;refine thn h6 λ_ s7 ⟨x,H7,I7,r7,y7,st7,fr7⟩=>?_;have I7':=I7.pinned (stat fr7) (T.obj _ _ st7);have ed:ds[i]?=some ds[i]:=by simp[hlt]
   obtain⟨G7,gr7,dx⟩:=yld x H7 y7 _ ed G' sG gr5.gh;rw[Q9 hlt] at el;obtain⟨ε8,e8,el⟩:=ai el;obtain⟨ds1,e9,el⟩:=ai el;split at el
   case isFalse=>cases el
   case isTrue hl1=>
    obtain⟨⟨ε9,k9⟩,e10,el⟩:=ai el;refine thn (b1 _ s7 σ' H7 x u (λσ8 H8=>H8=H7/\EnvD X.K He G7 H7 σ8 ε8) I7' r7 (b2 He G7 H7 σ' ε1 ε8 x ds[i] _ gr7.gh (E5.grow gr7) dx e8 λσ8 E8=>⟨rfl,E8⟩)) λ_ s8 ⟨σ8,H8,I8,e11,E8⟩=>?_;subst e11;refine uN (X:=cxC X sc cl (tn++fr) s3.heap.objs.size s3 H3 fp pins) hu rfl (λ_ _ z=>z) (hi1 s3.heap.objs.size s3 H3 fp pins) (hg1 s3.heap.objs.size s3 H3 fp pins) ng1 nx1 (he s3.heap.objs.size s3 H3 fp pins) I8 (gr5.trans gr7) nD E8 (ng0 _ _ _ e8 no5) (nx0 _ _ _ e8 nx5) e9 hl1 e10 (SA5.grow gr7) λσ9 G9 H9 s9 ks9 I9 gr9 sG9 E9 no9 nx9 SA9=>⟨rfl,?_⟩;refine⟨ds.length+1-(i+1),by omega,i+1,σ9,G9,H9,ε9,ks9,k9,rfl,hlt,I9.unpinned,T.keep _ _ _ st7 λb hb o e=>(I9.pin (b,o) (QD _ (QD _ (cL hb e)))).1,λb hb=>?_,gr9,sG.trans (gr7.gg.trans sG9),E9,no9,nx9,SA9,el⟩;obtain⟨o,e,d⟩:=T.obj _ _ st7 b hb;exact(I9.pin (b,o) (QD _ (QD _ (cL hb e)))).2.1
  ·have e5:i=ds.length:=by omega
   subst e5;rw[JA] at el;cases el;refine thn (T.done (cxC X sc cl (tn++fr) s3.heap.objs.size s3 H3 fp pins) rfl rfl rfl rfl ds.length [] s5 σ' H' (λ_ _=>False) I5 (stat fr5) st5 (stop (Qf _))) λr s6 ⟨hr,I6⟩=>?_;subst hr;obtain⟨m6,⟨oC,es',ep',ho,hdt,hrest⟩,_⟩:=id I6.loc;have IX:Inv X pins σ H' s6:=I3.call' I6.os I6.base I6.hok I6.bare λb hb=>⟨(f3 b hb).2.2.2.1,(f3 b hb).2.1,(f3 b hb).2.2.2.2.1,(f3 b hb).2.2.2.2.2⟩;have pC:∀p∈X.pn++pins,p.1≠s3.heap.objs.size:=λp hp=>QQ (Qz (I3.pin p hp).1)
   have IX':Inv X (pins++[(s3.heap.objs.size,oC)]) σ H' s6:=IX.pins_of λp hp=>by
    rcases QM.mp hp with older | newer
    ·exact IX.pin p (QD _ older)
    ·rw[Qt.mp newer]
     exact⟨ho,I6.free,Ne.symm (QQ I3.lt),I3.nofs (Qf _),λv q=>by rw[hdt] at q;cases q⟩
   exact after Dd ks' G' H' s3.heap.objs.size oC m6 s6 IX' ⟨oC,es',ep',ho,hdt,hrest⟩ I3.sz pC gr5 nD ⟨SA5.at_,SA5.gn,SA5.sq,SA5.pm⟩
 exact f_ 0 (.inl rfl) (loop _ rfl) (T.self X.A 0 _ _ _ st4 (loop _ rfl))
end
open PySem.W RW2
theorem rj{α β:Type}{f:α->β}{l m:List β}(h:J0 l m):∀ks:List α,m=ks.map f->∃us,J0 us ks/\l=us.map f:=by
 induction h with
 |nil=>exact λks e=>⟨ks,.refl _,e⟩
 |cons x _ ih=>
  intro ks e;cases ks with
  |nil=>cases e
  |cons k ks=>
   rw[Qv] at e;injection e with e1 e2
   obtain⟨us,p,q⟩:=ih ks e2;exact⟨k::us,p.cons k,by rw[Qv,e1,q]⟩
 |swap x y l=>
  intro ks e;cases ks with
  |nil=>cases e
  |cons k ks=>
   cases ks with
   |nil=>injection e with _ e;cases e
   |cons k2 ks=>
    rw[Qv,Qv] at e;injection e with e1 e2
    injection e2 with e2 e3
    exact⟨k2::k::ks,List.Perm.swap _ _ _,by rw[Qv,Qv,e1,e2,e3]⟩
 |trans _ _ ih1 ih2=>
  intro ks e;obtain⟨us,p,q⟩:=ih2 ks e;obtain⟨us',p',q'⟩:=ih1 us q;exact⟨us',p'.trans p,q'⟩
section
variable{X:Cx}
theorem Bf{G:Hp}{d:Addr}{ks:Ks}{kk:List (List Int)}(sq:∀p∈ks,SqT X.K G p.2 (p.1.map V.int))(pm:J0 (ks.map (·.1)) kk)(h:Heap)(x:SAt d ks (vS X.w) h):CB X G d kk h:=by
 obtain⟨o,es,ep,t,e1,e2,e3,e4,ok,pl,ld⟩:=x;obtain⟨us,p,q⟩:=rj (mR X.w d ep es) ks e4;have sz:es.size=us.length:=by rw[<-iE X.w d ep es,<-Qu,q,Qi]
 have lyok:TOk t (es.toList.map (·.1)):=by
  rw[e4];show TOk t ((ks.map λp=>(bF p.1,QI p.2)).map (·.1));rw[JK];exact ok
 refine⟨us,"set",_,_,sz▸AG d es ep t,⟨⟨o,e1,e2,e3⟩,lyok,pl,ld⟩,λacc items=>?_,λu hu=>sq u (p.mem_iff.mp hu),(p.map _).trans pm⟩
 ·refine Jv λi=>?_
  have hq:∀i:Nat,((kj X.w d ep es)[i]?).map (·.2)=(us[i]?).map λu=>QI u.2:=λi=>by
   rw[<-Qw,q,Qx,Option.map_map];rfl
  rw[Qx,Qw,<-hq i]
  by_cases hi:i<us.length
  ·have hi2:i<acc.size:=by rw[items.1];exact hi
   obtain⟨e,a1,a2⟩:=items.2 i acc[i] (by simp[hi2]);rw[a1];simp[hi2,a2]
  ·rw[Jz (by rw[items.1];exact Jj hi),Jz (by rw[iE,sz];exact Jj hi)]
   rfl
theorem vB{A:QU}{s:Qc}{E:Qb->Qc->Prop}{Q:Qb->Qc->Prop}{prog:QJ}{w:QL}(h:Q (.ref s.heap.objs.size) { s with heap:=s.heap.push { cls:=.type "set",dict:=none,data:=.set #[] 0 (.fresh 0 0 (!byT w)) } }):Qm (Qo prog w) A (newSet (.type "set")) Q E s:=by
 unfold newSet setsByText;refine(Qa (Qa (Z9 (Qd ?_))));dsimp only;simp only[newObj];exact Qa (wpAny_alloc (Qd h))
theorem AJ(led:Bool):TOk (.fresh 0 0 led) [] where
 dum:=rfl
 up:=by first | exact List.Pairwise.nil | trivial | (unfold Up;simp) | constructor
 len:=rfl
 le:=λj hj=>by cases hj
 pow:=⟨3,by decide,by decide,rfl⟩
 way:=λi j h e=>by simp[SetTable.fresh] at e
 room:=by show 0*5<7*3;decide
variable{elt tg0 i0 tg1 i1:Expr}{sc:Scope}{pos:Pos}{f1:Ev->Option (List D)}{g1:D->Ev->Option Ev}{fe:Ev->Option D}{cl:List (Str×Addr)}{tn fr:List Str}{ix:List Nat}{fi:Ev->Option (List D)}{g0:D->Ev->Option Ev}
theorem wZ{pins:List (Addr×Obj)}{σ:L2.St}{H He G:Hp}{s:Qc}{ε:Ev}{ds:List D}{kk:List (List Int)}{RR:Qb->Addr->Result->Qc->Prop}(hu:X.A.units+1<JR)(hc:X.calm=true)(hi:DI X tg0 i0 fi)(S:CompSc X sc cl tn fr ix)(ng0:NoG g0)(nx0:pN g0)(ng1:NoG g1)(nx1:pN g1)(hs1:∀C x,Je i1 (compEnvC sc cl C X.env) x=pure x)
  (hg0:∀C s₃ H₃ fp pins,DG (cxC X sc cl (tn++fr) C s₃ H₃ fp pins) tg0 g0) (hi1:∀C s₃ H₃ fp pins,DI (cxC X sc cl (tn++fr) C s₃ H₃ fp pins) tg1 i1 f1) (hg1:∀C s₃ H₃ fp pins,DG (cxC X sc cl (tn++fr) C s₃ H₃ fp pins) tg1 g1) (he:∀C s₃ H₃ fp pins,DE (cxC X sc cl (tn++fr) C s₃ H₃ fp pins) elt fe)
  (I:Inv X pins σ H s) (gh:aI G H) (E:EnvD X.K He G H σ ε) (ei:fi ε=some ds) (hz:ds.length<1000000) (er:sc0 g0 f1 g1 fe ds (prE tn.length ix ε) []=some kk) (after:xm X pins σ G H kk RR) :
  Qm (Qo X.prog X.w) X.A (eval i0 X.env) (λx s₁=>Qm (Qo X.prog X.w) X.A (pyIter x) (λit s₂=>Qm (Qo X.prog X.w) X.A (newSet (.type "set")) (λacc s₃=>
   Qm (Qo X.prog X.w) X.A (newFunctionEnv sc X.env.globals cl [] X.env.qual none .none (some X.env)) (λcenv s₄=>
    JO (Qo X.prog X.w) X.A (.compStart (.SetComp elt [⟨tg0,i0,[],0⟩,⟨tg1,i1,[],0⟩] sc pos) 0 it acc { cenv with scope:=relabel sc X.env }) (RR acc cenv.locals) s₄) X.xe s₃) X.xe s₂) X.xe s₁) X.xe s:=by
 obtain⟨wi,a1,a2⟩:=hi;refine thn (a1 pins s σ H (λJ H'=>∃G1,Grow G H G1 H'/\ItD X.K J ds G1) I (a2 He G H σ ε ds _ gh E ei λJ G' H' gr itd=>⟨G',gr,itd⟩)) λv s1 h1=>thn h1 λitv s2 h2=>?_;obtain⟨it,fp,tn',J,H2,rfl,I2,T,st2,f2,G1,gr,itd⟩:=h2;refine vB (wpAny_newFunctionEnv S.nocell (by intro y hy;simp at hy) (λh₁ hns₁ hsb₁=>?_) S.kind);dsimp only at hns₁ hsb₁ ⊢;have fr2:H2 s2.heap.objs.size=none:=I2.hok.fresh (Qf _);have at2:SAt s2.heap.objs.size [] (vS X.w) (s2.heap.push { cls:=.type "set",dict:=none,data:=.set #[] 0 (.fresh 0 0 (!byT X.w)) }):=⟨_,#[],0,_,QF _ rfl,⟨rfl,rfl,rfl⟩,rfl,rfl,AJ _,rfl,rfl⟩
 have I3:Inv X pins σ (upd H2 s2.heap.objs.size (.ext (SAt s2.heap.objs.size [] (vS X.w)))) { s2 with heap:=s2.heap.push { cls:=.type "set",dict:=none,data:=.set #[] 0 (.fresh 0 0 (!byT X.w)) } }:=
  I2.laid (t':=s2.toks) (λb ob q=>Qh _ q) (Qf _) (ug at2)
 have fpD:∀b∈fp,b≠s2.heap.objs.size:=λb hb z=>by
  obtain⟨o,e,_⟩:=T.obj 0 _ st2 b hb;exact absurd (Qz e) (by rw[z];exact Ja _)
 have f3:∀b∈fp,jj X pins (upd H2 s2.heap.objs.size (.ext (SAt s2.heap.objs.size [] (vS X.w)))) b:=λb hb=>⟨by rw[aM (fpD b hb)];exact(f2 b hb).1,(f2 b hb).2⟩
 have lt3:∀b∈fp,b<(s2.heap.push { cls:=.type "set",dict:=none,data:=.set #[] 0 (.fresh 0 0 (!byT X.w)) }).objs.size:=λb hb=>by
  obtain⟨o,e,_⟩:=T.obj 0 _ st2 b hb;rw[Kr];exact Nat.lt_succ_of_lt (Qz e)
 have st3:tn' 0 (s2.heap.push { cls:=.type "set",dict:=none,data:=.set #[] 0 (.fresh 0 0 (!byT X.w)) }):=T.keep _ _ _ st2 λb hb o e=>Qh _ e;exact vo (s3:={ s2 with heap:=s2.heap.push { cls:=.type "set",dict:=none,data:=.set #[] 0 (.fresh 0 0 (!byT X.w)) } }) hu hc S ng0 nx0 ng1 nx1 hs1 hg0 hi1 hg1 he I3 E hz er after T itd f3 lt3 st3 (gr.trans (.lay _ gr.gh fr2)) aG (gr.hh.free fr2) (gr.gh.free fr2) hns₁ λb o e=>hsb₁.extBut b o (QQ (Qz e)) (Qh _ e)
def xV(fi:Ev->Option (List D))(n:Nat)(ix:List Nat)(g0:D->Ev->Option Ev)(f1:Ev->Option (List D))(g1:D->Ev->Option Ev)(fe:Ev->Option D):Ev->Option (List D):=λε=>(fi ε).bind λds=>if ds.length<1000000 then(sc0 g0 f1 g1 fe ds (prE n ix ε) []).bind λkk=>if(kk.all λk=>!k.isEmpty)=true/\kk.length<1000000 then some ((eB kk).map dW) else none else none
theorem zJ{k:Nat}{p pos':Pos}(hr:Room k X.A)(hc:X.calm=true)(hi:DI X tg0 i0 fi)(S:CompSc X sc cl tn fr ix)(ng0:NoG g0)(nx0:pN g0)(ng1:NoG g1)(nx1:pN g1)
  (hg0:∀C s₃ H₃ fp pins,DG (cxC X sc cl (tn++fr) C s₃ H₃ fp pins) tg0 g0) (hi1:∀C s₃ H₃ fp pins,DI (cxC X sc cl (tn++fr) C s₃ H₃ fp pins) tg1 i1 f1) (hg1:∀C s₃ H₃ fp pins,DG (cxC X sc cl (tn++fr) C s₃ H₃ fp pins) tg1 g1) (he:∀C s₃ H₃ fp pins,DE (cxC X sc cl (tn++fr) C s₃ H₃ fp pins) elt fe)
  (hm:X.mg "sorted" = none) (hs:∀x,Je i0 X.env x=pure x:=by intro _;rfl) (hs1:∀C x,Je i1 (compEnvC sc cl C X.env) x=pure x:=by intro _ _;rfl) (hg:Gl X "sorted":=by rfl) (hst:Qy [(.SetComp elt [⟨tg0,i0,[],0⟩,⟨tg1,i1,[],0⟩] sc pos)] X.env=(false,eval (.SetComp elt [⟨tg0,i0,[],0⟩,⟨tg1,i1,[],0⟩] sc pos) X.env)::Qy [] X.env:=by rfl) (hpl:(JG pos' (Qy [] X.env)).any (·.1)=false:=by rfl) :
  DF X (.Call (.Name "sorted" p) [(.SetComp elt [⟨tg0,i0,[],0⟩,⟨tg1,i1,[],0⟩] sc pos)] [] pos') (xV fi tn.length ix g0 f1 g1 fe):=by
 have key:∀pins s σ H Q,Inv X pins σ H s->(∃He G ε ds kk,aI G H/\EnvD X.K He G H σ ε/\fi ε=some ds/\ds.length<1000000/\sc0 g0 f1 g1 fe ds (prE tn.length ix ε) []=some kk/\∀a ks G' H',Grow G H G' H'->H a=none->SetA X G' H' a kk ks->Q (.ref a) H')->Qm (Qo X.prog X.w) X.A (eval (.SetComp elt [⟨tg0,i0,[],0⟩,⟨tg1,i1,[],0⟩] sc pos) X.env) (EP X pins σ Q) X.xe s:=by
  rintro pins s σ H Q I ⟨He,G,ε,ds,kk,gh,E,ei,hz,er,q⟩;rw[arm_eval_SetComp];refine wpAny_comprehension_free (use:=none) rfl hs S.clos S.kind S.names (wZ (RR:=λacc C=>compPost (Qo X.prog X.w) X.A X.xe none (EP X pins σ Q) acc C) (by have:=hr.un;lia) hc hi S ng0 nx0 ng1 nx1 hs1 hg0 hi1 hg1 he I gh E ei hz er ?_);intro a ks G' H' C oC m s' IX hNs hC pC gr hn SA;exact⟨m,hNs,λh' hs'=>⟨.ref a,H',oo IX hC pC hs',rfl,q a ks G' H' gr hn SA⟩⟩
 refine⟨_,fX (mT hr hc) hg hm boot_sorted (bR key cR hst) (by decide) (by decide) hst hpl,λHe G H σ ε d Q gh E ef q=>?_⟩;obtain⟨ds,ei,ef⟩:=ai ef;split at ef
 case isFalse=>cases ef
 case isTrue hz=>
  obtain⟨kk,er,ef⟩:=ai ef;split at ef
  case isFalse=>cases ef
  case isTrue cnd=>
   cases ef;refine⟨He,G,ε,ds,kk,gh,E,ei,hz,er,λa ks G1 H1 g1 hn SA=>?_⟩;refine⟨G1,a,_,kk,rfl,g1.gh,SA.at_,Bf SA.sq SA.pm,λt ht=>?_,cnd.2,λp us' hp hd=>q p us' G1 _ (g1.trans (.lay _ g1.gh hp)) (g1.hh.free hp) (g1.gh.free hp) aG hd⟩;have:=Jc.mp cnd.1 t ht;intro z;rw[z] at this;cases this
end
def Aa(ms:Ms):Bool:=decide (ms.length<1000000)&&ms.all λe=>decide (e.2.length<1000000)
def sd1(g:D->Ev->Option Ev)(ft:Ev->Option Bool)(fk fv:Ev->Option D):List D->Ev->Ms->Option (Ev×Ms)
 |[],ε,ms=>some (ε,ms)
 |d::ds,ε,ms=>(g d ε).bind λε1=>(ft ε1).bind λb=>if b=true then(fk ε1).bind λkd=>(fv ε1).bind λvd=>(vT kd).bind λn=>if Aa ms=true then sd1 g ft fk fv ds ε1 (jG ms n vd) else none else sd1 g ft fk fv ds ε1 ms
def sd0(g0:D->Ev->Option Ev)(f1:Ev->Option (List D))(g1:D->Ev->Option Ev)(ft:Ev->Option Bool)(fk fv:Ev->Option D):List D->Ev->Ms->Option (Ev×Ms)
 |[],ε,ms=>some (ε,ms)
 |d::ds,ε,ms=>(g0 d ε).bind λε1=>(f1 ε1).bind λds1=>if ds1.length<1000000 then(sd1 g1 ft fk fv ds1 ε1 ms).bind λp=>sd0 g0 f1 g1 ft fk fv ds p.1 p.2 else none
def C9(i:Nat)(fi:Ev->Option (List D))(g0:D->Ev->Option Ev)(f1:Ev->Option (List D))(g1:D->Ev->Option Ev)(ft:Ev->Option Bool)(fk fv:Ev->Option D)(gr:Ev->Option Fl):Ev->Option Fl:=λε=>if dJ ε=true/\i<ε.length then(fi (ε.set i .un)).bind λds=>if ds.length<1000000 then(sd0 g0 f1 g1 ft fk fv ds (ε.set i .un) []).bind λr=>gr (r.1.set i (.odi (msD r.2))) else none else none
section
variable{X:Cx}
theorem OM.len{K:Qe}{He G H:Hp}{us:bB}{ms:Ms}(h:OM K He G H us ms):us.length=ms.length:=by simpa using congrArg List.length h.keys
theorem Bh(i:Nat){kk:Nat}{x:Str}{tg0 tg iter0 iter te ke ve:Expr}{rest:List Stmt}{px px2 p1 p2 p3 p4 p5 pos1 pos2 pos3 pos4 pos5 pos6:Pos}{fi f1:Ev->Option (List D)}{g0 g:D->Ev->Option Ev}{ft:Ev->Option Bool}{fk fv:Ev->Option D}{gr:Ev->Option Fl}
  (hN:X.N.Nodup) (hroom:Room kk X.A) (hp:PassesOwn (Qo X.prog X.w) X.A X.env X.xe) (hcalm:X.calm=true) (hi0:DI X tg0 iter0 fi) (hg0:DGK i X tg0 g0) (hi:DI X tg iter f1) (hg:DGK i X tg g) (ht:DT X te ft) (hk:DE X ke fk) (hv:DE X ve fv) (hrest:DSs X rest gr)
  (hxi:X.N[i]?=some x:=by rfl) (hx:Loc X.env.scope x:=by first | exact Or.inl rfl | exact Zj rfl) (hs:ZM (.Dict [] [] p4) (some (.Name x px)) pos1.line X.env=pure false:=by rfl)
  (hf:X.fn x=true\/X.env.scope.names.lookup x=some .local:=by first | exact .inl rfl | exact .inr rfl)
  (hvx:Vis X.env.scope x:=by first | exact Or.inl rfl | exact Zj (Or.inl rfl) | exact Zj (Zj rfl)) (hdx:(x==("__debug__" : Str))=false:=by decide) (hcx:(x==("__classdict__" : Str))=false:=by decide)
  (hfold0:∀y,Je iter0 X.env y=pure y:=by intro _;rfl) (hfold:∀y,Je iter X.env y=pure y:=by intro _;rfl)
  (b1:attributeBase (.Name x px2) "setdefault" X.env (eval (.Name x px2) X.env)=eval (.Name x px2) X.env:=by rfl)
  (f1':((JG pos4 (Qy [ke,.List [] p3] X.env)).all (λx=>!x.1)&&(backToKw pos4 (ZJ [] X.env)).all (λx=>x.1.isSome)
   && decide (([ke,.List [] p3]:List Expr).length+([]:List Keyword).length+(if([]:List Keyword).isEmpty then 0 else 1)<30))=true:=by rfl)
  (l1:(p1.endLine==pos4.line)=true:=by rfl) (s1:Qy [ke,.List [] p3] X.env=(false,eval ke X.env)::Qy [.List [] p3] X.env:=by rfl) (s2:Qy [.List [] p3] X.env=(false,eval (.List [] p3) X.env)::Qy [] X.env:=by rfl) (n1:(JG pos4 (Qy [.List [] p3] X.env)).any (·.1)=false:=by rfl)
  (b2:attributeBase (.Call (.Attribute (.Name x px2) "setdefault" p1) [ke,.List [] p3] [] pos4) "append" X.env (eval (.Call (.Attribute (.Name x px2) "setdefault" p1) [ke,.List [] p3] [] pos4) X.env)=eval (.Call (.Attribute (.Name x px2) "setdefault" p1) [ke,.List [] p3] [] pos4) X.env:=by rfl)
  (f2:((JG pos2 (Qy [ve] X.env)).all (λx=>!x.1)&&(backToKw pos2 (ZJ [] X.env)).all (λx=>x.1.isSome)
   && decide (([ve]:List Expr).length+([]:List Keyword).length+(if([]:List Keyword).isEmpty then 0 else 1)<30))=true:=by rfl)
  (l2:(p2.endLine==pos2.line)=true:=by rfl) (s3:Qy [ve] X.env=(false,eval ve X.env)::Qy [] X.env:=by rfl) (n2:(JG pos2 (Qy [] X.env)).any (·.1)=false:=by rfl)
  (hsw:ZM (.Call (.Attribute (.Call (.Attribute (.Name x px2) "setdefault" p1) [ke,.List [] p3] [] pos4) "append" p2) [ve] [] pos2) none p5.line X.env=pure false:=by rfl) :
  DSs X (.Assign [.Name x px] (.Dict [] [] p4) pos1 :: .For tg0 iter0 [.For tg iter [.If te [.Expr (.Call (.Attribute (.Call (.Attribute (.Name x px2) "setdefault" p1) [ke,.List [] p3] [] pos4) "append" p2) [ve] [] pos2) p5] [] pos6] [] pos3] [] pos5::rest) (C9 i fi g0 f1 g ft fk fv gr):=by
 obtain⟨wi0,i10,i20⟩:=hi0;obtain⟨tg0',g10,g20⟩:=hg0;obtain⟨wi,i1,i2⟩:=hi;obtain⟨tg',g1,g2⟩:=hg;obtain⟨tt,t1,t2⟩:=ht;obtain⟨tk,k1,k2⟩:=hk;obtain⟨tv,v1,v2⟩:=hv;obtain⟨tr,r1,r2⟩:=hrest;have body:=tE (pos:=p5) (BR PySem.F.plainAttrs_list PySem.F.slot_list_append PySem.F.type_list_append jA (FH PySem.F.slot_dict_setdefault PySem.F.type_dict_setdefault (AL (by have:=hroom.un;lia)) (lP (i:=i) (pos:=px2) hxi hvx hdx hcx) (bR k1 (bR (yW (pos:=p3) cR) cR s2) s1) b1 f1' l1 s1 n1) (bR v1 cR s3) b2 f2 l2 s3 n2) hsw;refine⟨_,gY (lT hN hxi hx Cm hs hf) (gY (rQ (pos:=pos5) hp hcalm i10 g10 (kz (rQ (pos:=pos3) hp hcalm i1 g1 (kz (wH (pos:=pos6) t1 (kz body) nR)) hfold)) hfold0) r1),λHe Ge G H σ ε r W S ef P=>?_⟩;unfold C9 at ef;split at ef
 case isFalse=>cases ef
 case isTrue hyp=>
 obtain⟨no,il⟩:=hyp;obtain⟨ds,e1,ef⟩:=ai ef;split at ef
 case isFalse=>cases ef
 case isTrue hz=>
 obtain⟨⟨εe,ms⟩,e2,ef⟩:=ai ef;intro p hp0;have g0':Grow G H G (upd H p (.ext (DAt p [] 0))):=.lay _ S.g.gh hp0;have S0:Sta X.K He Ge G (upd H p (.ext (DAt p [] 0))) (σ.set i (some (.ref p))) (ε.set i .un):=⟨S.g.trans g0',(S.e.drop i (.ref p)).grow g0'⟩;have no0:=uY no i;have hpn:He p=none:=S.g.hh.free hp0;have ei:(σ.set i (some (.ref p)))[i]?=some (some (V.ref p)):=by rw[QB,if_pos rfl,if_pos (by rw[S.e.len];exact il)]
 refine i20 He G _ _ (ε.set i .un) ds _ S0.g.gh S0.e e1 λJ G1 H1 gr1 it=>?_;have S1:=S0.grow gr1;have hp1:H1 p=some (.ext (DAt p [] 0)):=gr1.hh _ _ aG;have gp1:G1 p=none:=gr1.fo _ _ aG (S.g.gh.free hp0);let Jn:Nat->L2.St->Hp->Prop:=λj σ H=>∃G ε us ep ms',Sta X.K He G1 G H σ ε/\dJ ε=true/\σ[i]?=some (some (.ref p))/\H p=some (.ext (DAt p us ep))/\G p=none/\OM X.K He G H us ms'/\(us.map (·.1)).Nodup/\sd0 g0 f1 g ft fk fv (ds.drop j) ε ms'=some (εe,ms);refine⟨λj m σ H=>m=ds.length-j/\j<=ds.length/\Jn j σ H,⟨ds.length,by simp,QN _,G1,_,[],0,[],⟨S1.g.self,S1.e⟩,no0,ei,hp1,gp1,.nil,List.nodup_nil,by simpa using e2⟩,?_⟩;rintro j m σ2 H2 ⟨rfl,hj,G2,ε2,us,ep,ms',S2,no2,hs2,hp2,gp2,om,nd,e3⟩;obtain⟨go,stop,yld⟩:=it j H2 (S2.g.gg.trans S2.g.gh)
 by_cases hlt:j<ds.length
 ·refine .inr ⟨go hlt,λσ' H'=>Jn (j+1) σ' H',λσ' H' q=>⟨ds.length-(j+1),by lia,rfl,hlt,q⟩,λy H3 yy=>?_⟩
  have ed:ds[j]?=some ds[j]:=by simp[hlt]
  obtain⟨G3,gr3,dx⟩:=yld y H3 yy _ ed G2 S2.g.gg S2.g.gh;have S3:=S2.grow gr3;rw[Q9 hlt] at e3;obtain⟨ε3,e4,e3⟩:=ai e3;obtain⟨ds1,e5,e3⟩:=ai e3;split at e3
  case isFalse=>cases e3
  case isTrue hz1=>
  obtain⟨⟨εm,msm⟩,e6,e3⟩:=ai e3;refine g20 He G3 H3 σ2 ε2 ε3 y ds[j] _ S3.g.gh S3.e dx e4 no2 λσ4 E4 no4 k4=>?_;have hs4:σ4[i]?=some (some (.ref p)):=k4.trans hs2;have hp3:=gr3.hh _ _ hp2;have gp3:=gr3.fo _ _ hp2 gp2;refine i2 He G3 H3 σ4 ε3 ds1 _ S3.g.gh E4 e5 λJ5 G5 H5 gr5 it5=>?_;have S5:Sta X.K He G1 G5 H5 σ4 ε3:=⟨S3.g.trans gr5,E4.grow gr5⟩;let J2:Nat->L2.St->Hp->Prop:=λj2 σ H=>∃G ε us ep ms',Sta X.K He G1 G H σ ε/\aI G5 G/\dJ ε=true/\σ[i]?=some (some (.ref p))/\H p=some (.ext (DAt p us ep))/\G p=none/\OM X.K He G H us ms'/\(us.map (·.1)).Nodup/\sd1 g ft fk fv (ds1.drop j2) ε ms'=some (εm,msm);refine⟨λj2 m σ H=>m=ds1.length-j2/\j2<=ds1.length/\J2 j2 σ H,⟨ds1.length,by simp,QN _,G5,ε3,us,ep,ms',S5,aI.refl _,no4,hs4,gr5.hh _ _ hp3,gr5.fo _ _ hp3 gp3,(om.grow gr3).grow gr5,nd,by simpa using e6⟩,?_⟩;rintro j2 m2 σ6 H6 ⟨rfl,hj2,G6,ε6,us6,ep6,ms6,S6,sm6,no6,hs6,hp6,gp6,om6,nd6,e7⟩;obtain⟨go5,stop5,yld5⟩:=it5 j2 H6 (sm6.trans S6.g.gh)
  by_cases hlt2:j2<ds1.length
  ·refine .inr ⟨go5 hlt2,λσ' H'=>J2 (j2+1) σ' H',λσ' H' q=>⟨ds1.length-(j2+1),by lia,rfl,hlt2,q⟩,λy7 H7 yy7=>?_⟩
   have ed2:ds1[j2]?=some ds1[j2]:=by simp[hlt2]
   obtain⟨G7,gr7,dx7⟩:=yld5 y7 H7 yy7 _ ed2 G6 sm6 S6.g.gh;have S7:=S6.grow gr7;rw[Q9 hlt2] at e7;obtain⟨ε8,e8,e7⟩:=ai e7;obtain⟨bt,e9,e7⟩:=ai e7;refine g2 He G7 H7 σ6 ε6 ε8 y7 ds1[j2] _ S7.g.gh S7.e dx7 e8 no6 λσ8 E8 no8 k8=>?_;have hs8:σ8[i]?=some (some (.ref p)):=k8.trans hs6;refine t2 He G7 H7 σ8 ε8 bt _ S7.g.gh E8 e9 λG9 H9 gr9=>?_;have S9:Sta X.K He G1 G9 H9 σ8 ε8:=⟨S7.g.trans gr9,E8.grow gr9⟩;have hp9:=gr9.hh _ _ (gr7.hh _ _ hp6);have gp9:=gr9.fo _ _ (gr7.hh _ _ hp6) (gr7.fo _ _ hp6 gp6);have om9:=(om6.grow gr7).grow gr9;have sm9:aI G5 G9:=sm6.trans (gr7.gg.trans gr9.gg);cases bt with
   |false=>
    rw[if_neg Ql] at e7;exact⟨G9,ε8,us6,ep6,ms6,S9,sm9,no8,hs8,hp9,gp9,om9,nd6,e7⟩
   |true=>
    rw[if_pos rfl] at e7;obtain⟨kd,e10,e7⟩:=ai e7;obtain⟨vd,e11,e7⟩:=ai e7;obtain⟨n,e12,e7⟩:=ai e7;split at e7
    case isFalse=>cases e7
    case isTrue few=>
    have few1:ms6.length<1000000:=of_decide_eq_true (KC.mp few).1;have few2:∀e∈ms6,e.2.length<1000000:=λe he=>of_decide_eq_true (Jc.mp (KC.mp few).2 e he);refine⟨_,hs8,⟨p,us6,ep6,rfl,hp9⟩,?_⟩;refine k2 He G9 H9 σ8 ε8 kd _ S9.g.gh S9.e e10 λyk Ga Ha gra dk=>?_;refine⟨QN _,λc hc=>?_⟩;obtain⟨bb,rfl,hb⟩:=hI gra.gh (.inl dk) e12;have grb:Grow Ga Ha Ga (upd Ha c (.lst [])):=.lay _ gra.gh hc;have hpa:=gra.hh _ _ hp9;have gpa:=gra.fo _ _ hp9 gp9;have pc:p≠c:=λz=>by subst z;rw[hpa] at hc;cases hc
    have hpb:=grb.hh _ _ hpa;have oma:=om9.grow gra;have omb:=oma.grow grb;have Sa:Sta X.K He G1 Ga Ha σ8 ε8:=S9.grow gra;have Sb:=Sa.grow grb;have sma:aI G5 Ga:=sm9.trans gra.gg
    have fin:∀(us7:bB) (ep7:Nat) (ms7:Ms) (Hz:Hp) (b7:Addr) (v7:V),Sta X.K He G1 Ga Hz σ8 ε8->Hz p=some (.ext (DAt p us7 ep7))->OM X.K He Ga Hz us7 ms7->(us7.map (·.1)).Nodup->(∀e∈ms7,e.2.length<1000000)->(n,b7,v7)∈us7->jG ms7 n vd=jG ms6 n vd->
      tyV X.K "list" v7 Hz/\tv σ8 Hz λx H8=>uu v7 [x] H8 λ_ Hy=>J2 (j2+1) σ8 Hy:=λus7 ep7 ms7 Hz b7 v7 Sz hpz omz ndz mlz mem7 eq7=>by
     obtain⟨c7,xs7,w1,w2,w3,w4⟩:=omz.there _ mem7;have w1':v7=.ref c7:=w1;subst w1';refine⟨.inl ⟨rfl,xs7,SqL.of w2⟩,?_⟩;refine v2 He Ga Hz σ8 ε8 vd _ Sz.g.gh Sz.e e11 λx Gy Hy gry dv=>?_;have omy:=omz.grow gry;obtain⟨c,xs,es,z1,z2,z3,z4,z5,z6,z7⟩:=OM.at dv omy ndz mem7;cases z1
     have hl:xs.length<QO:=by
      rw[z3];exact Jw (mlz _ z4) (by decide)
     have hpy:=gry.hh _ _ hpz;have gpy:=gry.fo _ _ hpz gpa;have Sy:=Sz.grow gry;have pcy:p≠c7:=λq=>by subst q;rw[hpy] at z2;cases z2
     refine⟨c7,xs,x,rfl,rfl,z2,hl,Gy,ε8,us7,ep7,jG ms6 n vd,⟨⟨λb o e=>?_,Sy.g.gg,λb o e=>?_,Sy.g.fo⟩,Sy.e.over no8 (aI.refl _)⟩,sma.trans gry.gg,no8,hs8,by rw[aM pcy];exact hpy,gpy,by rw[<-eq7];exact z7,ndz,e7⟩
     ·rw[aM (aE e z6)];exact Sy.g.hh b o e
     ·rw[aM (aE e z5)];exact Sy.g.gh b o e
    refine⟨p,us6,ep6,bb,n,.ref c,Ga,rfl,rfl,hpb,grb.gh,hb,nd6,omb.sq,by rw[om6.len];exact few1,λb' v hm=>fin us6 ep6 ms6 _ b' v Sb hpb omb nd6 few2 hm rfl,λhn ep'=>?_⟩
    have cn:∀u∈us6,u.2.2≠.ref c:=λu hu z=>by
     obtain⟨c',xs',w1,w2,_⟩:=oma.there u hu;rw[w1] at z;cases z;rw[hc] at w2;cases w2
    have keep:∀{b:Addr} {o:HO},b≠p->upd Ha c (.lst []) b=some o->upd (upd Ha c (.lst [])) p (.ext (DAt p (us6++[(n,bb,.ref c)]) ep')) b=some o:=λ{b o} nb e=>by rw[aM nb];exact e
    refine fin _ ep' (ms6++[(n,[])]) _ bb (.ref c) ⟨⟨λb o e=>keep (aE e hpn) (Sb.g.hh b o e),Sb.g.gg,λb o e=>keep (aE e gpa) (Sb.g.gh b o e),Sb.g.fo⟩,Sb.e.over no8 (aI.refl _)⟩ aG ?_ ?_ (λe he=>?_) (QD _ (Qt.mpr rfl)) (qq (by rw[<-om6.keys];exact hn))
    ·refine OM.off (OM.snoc hb aG (gra.gh.free hc) (Sa.g.hh.free hc) omb cn) λu hu z=>?_
     rcases QM.mp hu with q | q
     ·obtain⟨c',xs',w1,w2,_⟩:=omb.there u q
      rw[w1] at z;cases z;rw[hpb] at w2;cases w2
     ·rw[Qt.mp q] at z
      cases z;exact pc rfl
    ·rw[Jf (l₁:=us6),List.nodup_append]
     exact⟨nd6,by simp,λx hx y hy=>by rw[Qt.mp hy];exact λ(e:x=n)=>hn (e▸hx)⟩
    ·rcases QM.mp he with q | q
     ·exact few2 e q
     ·rw[Qt.mp q];exact Nat.zero_lt_succ _
  ·have e5:j2=ds1.length:=by lia
   subst e5;rw[JA] at e7;cases e7;exact .inl ⟨stop5 (Qf _),G6,_,us6,ep6,_,S6,no6,hs6,hp6,gp6,om6,nd6,e3⟩
 ·have e5:j=ds.length:=by lia
  subst e5;rw[JA] at e3;cases e3;refine .inl ⟨stop (Qf _),?_⟩;obtain⟨G',q1,q2,q3,q4⟩:=om.seal (S1.g.base S2.g);exact r2 He Ge G' H2 σ2 _ r W ⟨q1,(S2.e.over no2 q2).odiOf no2 hs2 (q4 p _ hp2 (λ_ z=>by cases z) gp2) hpn hp2 nd q3⟩ ef P
end
structure Wq where
 (P:QJ)
 (w:QL)
 (K:Qe)
 (mg:Str->Option Qb)
def FB(Z:Wq)(x:Str)(st:Stmt)(ps:List Str)(f:Addr)(fd:J8):Prop:=FA Z.K Z.mg x st ps f fd/\∀us:List Qb,us.length=ps.length->bindArgs fd ⟨us,[]⟩=pure (ps.zip us)
def FX(Z:Wq)(x:Str)(st:Stmt)(ps:List Str):Prop:=∃f fd,FB Z x st ps f fd
def OkD(Z:Wq)(x:Str)(st:Stmt)(ps:List Str)(n:Nat)(F:List D->Option D):Prop:=∃f fd,FB Z x st ps f fd/\∀base,FnOk Z.P Z.w Z.K Z.mg base CX0 n f fd ps (spF Z.K F)
section
variable{Z:Wq}{x:Str}{st:Stmt}{ps N:List Str}{k:Nat}{g:Ev->Option Fl}
theorem bdF(R:FX Z x st ps)(hb:∀(d:N.Nodup) (f:Addr) (base:Heap) (cdv:Qb) (A:QU) (outer:List Env) (s:Qc) (H:Hp) (E:XK),Room k (A.deeper (envOfC x (bj st) s.heap.objs.size f cdv))->DSs (oU CX0 Z.P Z.w Z.K Z.mg base N x (bj st) f cdv A outer s H E).nox (cN st) g)
  (S:FnScope N ps (bj st):=by exact⟨rfl,rfl,rfl,by decide +kernel,rfl,by decide +kernel,by decide +kernel⟩):OkD Z x st ps (k+1) (fnD N ps g):=
 let⟨f,fd,A⟩:=R;⟨f,fd,A,λbase=>AW A.1.fu S (hb S.nd f base)⟩
theorem EF{P:QJ}{w:QL}{K:Qe}{mg:Str->Option Qb}{h:Heap}{f:Addr}{oc:Qb}{od an:Option Addr}{osl:Array (Option Qb)}{kV doc pm cdv ct:Qb}(X:K.In h)(G:h.Ns Q5 mg)
  (a:JQ K Q5 x=some (some (.ref f)))
  (l:K.lookup f=some ⟨oc,od,.func (Zh x x (eA st) (cN st) (bj st) .none kV doc pm an cdv ct),osl⟩)
  (c:PySem.W.codeIn K cdv x=true) (k:Ko K (.ref f)=true)
  (hb:∀(kV doc pm:Qb) (an:Option Addr) (cdv ct:Qb) (us:List Qb),us.length=ps.length->bindArgs (Zh x x (eA st) (cN st) (bj st) .none kV doc pm an cdv ct) ⟨us,[]⟩=pure (ps.zip us)):FX ⟨P,w,K,mg⟩ x st ps:=
 ⟨f,_,FE X G a l c k hb,hb kV doc pm an cdv ct⟩
theorem D6{P:QJ}{w:QL}{K:Qe}{mg:Str->Option Qb}{n:Nat}{F:List D->Option D}{y:Str}{fa:Addr}(H:OkD ⟨P,w,K,mg⟩ x st [y] n F)(hfa:mg x=some (.ref fa)) :
  ∃fd:J8,(∀(s:Qc) (v:Qb),BindsTo s fd ⟨[v],[]⟩ [(y,v)])/\∀base:Heap,K.In base->base.Ns Q5 mg->FnOk P w K mg base CX0 n fa fd [y] (spF K F):=by
 obtain⟨f,fd,⟨A,b⟩,G⟩:=H;have e:=A.mgf.symm.trans hfa;cases e;exact⟨fd,λs v=>.of_eq (b [v] rfl),λbase _ _=>G base⟩
end
theorem cH{α:Type}{p:List α->Prop}{n:Nat}(h:∀(a:α) (r:List α),r.length=n->p (a::r)):∀us:List α,us.length=n+1->p us
 |[],e=>by cases e
 |a::r,e=>h a r (Nat.succ.inj e)
theorem o7{α:Type}{p:List α->Prop}(h:p []):∀us:List α,us.length=0->p us
 |[],_=>h
 |_::_,e=>by cases e
theorem len1{α:Type}{p:List α->Prop}(h:∀a0,p [a0]):∀us:List α,us.length=1->p us:=cH λa0=>(o7 (h a0))
theorem len2{α:Type}{p:List α->Prop}(h:∀a0 a1,p [a0,a1]):∀us:List α,us.length=2->p us:=cH λa0=>cH λa1=>(o7 (h a0 a1))
theorem Gv{α:Type}{p:List α->Prop}(h:∀a0 a1 a2,p [a0,a1,a2]):∀us:List α,us.length=3->p us:=cH λa0=>cH λa1=>cH λa2=>(o7 (h a0 a1 a2))
theorem Gs{α:Type}{p:List α->Prop}(h:∀a0 a1 a2 a3,p [a0,a1,a2,a3]):∀us:List α,us.length=4->p us:=cH λa0=>cH λa1=>cH λa2=>cH λa3=>(o7 (h a0 a1 a2 a3))
theorem len5{α:Type}{p:List α->Prop}(h:∀a0 a1 a2 a3 a4,p [a0,a1,a2,a3,a4]):∀us:List α,us.length=5->p us:=cH λa0=>cH λa1=>cH λa2=>cH λa3=>cH λa4=>(o7 (h a0 a1 a2 a3 a4))
theorem GA{α:Type}{p:List α->Prop}(h:∀a0 a1 a2 a3 a4 a5,p [a0,a1,a2,a3,a4,a5]):∀us:List α,us.length=6->p us:=cH λa0=>cH λa1=>cH λa2=>cH λa3=>cH λa4=>cH λa5=>(o7 (h a0 a1 a2 a3 a4 a5))
theorem GS{α:Type}{p:List α->Prop}(h:∀a0 a1 a2 a3 a4 a5 a6,p [a0,a1,a2,a3,a4,a5,a6]):∀us:List α,us.length=7->p us:=cH λa0=>cH λa1=>cH λa2=>cH λa3=>cH λa4=>cH λa5=>cH λa6=>(o7 (h a0 a1 a2 a3 a4 a5 a6))
theorem Gq{α:Type}{p:List α->Prop}(h:∀a0 a1 a2 a3 a4 a5 a6 a7,p [a0,a1,a2,a3,a4,a5,a6,a7]):∀us:List α,us.length=8->p us:=cH λa0=>cH λa1=>cH λa2=>cH λa3=>cH λa4=>cH λa5=>cH λa6=>cH λa7=>(o7 (h a0 a1 a2 a3 a4 a5 a6 a7))
section
variable{X:Cx}{pos p:Pos}{x:Str}{st:Stmt}{ps:List Str}{k j:Nat}{e:Expr}{es:List Expr}{g:Ev->Option (List D)}{Fn:List D->Option D}{FO:List D->Option (List D)}
theorem cF(H:OkD ⟨X.prog,X.w,X.K,X.mg⟩ x st ps j Fn)(hr:Room k X.A)(ha:DA X (e::es) g)(hj:j<=k:=by decide)(hg:Gl X x:=by rfl)(hdb:(x==("__debug__" : Str))=false:=by decide)(he:Qy (e::es) X.env=(false,eval e X.env)::Qy es X.env:=by rfl)(hpl:(JG pos (Qy es X.env)).any (·.1)=false:=by rfl) :
  DE X (.Call (.Name x p) (e::es) [] pos) (aK Fn g):=let⟨_,_,A,F⟩:=H;xC A.1 (F _) hr hj ha hg hdb he hpl
end
inductive LsIn:List D->D->Prop where
 |here (xs:List D):LsIn xs (.lst xs)
 |lst {es xs:List D} {d:D} (m:d∈xs) (h:LsIn es d):LsIn es (.lst xs)
 |tup {es xs:List D} {d:D} (m:d∈xs) (h:LsIn es d):LsIn es (.tup xs)
 |dic {es:List D} {ms:List (List Int×D)} {k:List Int} {d:D} (m:(k,d)∈ms) (h:LsIn es d):LsIn es (.dic ms)
def uni(A B:Hp):Hp:=λb=>match A b with | some o=>some o | none=>B b
section
variable{A B G:Hp}
theorem F0:aI A (uni A B):=λb o e=>by unfold uni;rw[e]
theorem Fs(a:aI A G)(b:aI B G):aI B (uni A B):=λc o e=>by
 unfold uni;cases q:A c with
 |none=>exact e
 |some u=>
  have:=a c u q;rw[b c o e] at this;exact this.symm
theorem Ds(a:aI A G)(b:aI B G):aI (uni A B) G:=λc o e=>by
 unfold uni at e;cases q:A c with
 |none=>rw[q] at e;exact b c o e
 |some u=>rw[q] at e;cases e;exact a c _ q
theorem C3{c:Addr}{o:HO}(e:uni A B c=some o):A c=some o\/B c=some o:=by
 unfold uni at e;cases q:A c with
 |none=>rw[q] at e;exact .inr e
 |some u=>rw[q] at e;exact .inl e
end
section
variable{K:Qe}{G Gm:Hp}{P P':List D->Prop}
def Cl(K:Qe)(G Gm:Hp)(P:List D->Prop):Prop:=aI Gm G/\∀a xs,Gm a=some (.lst xs)->∃es,DenL K Gm xs es/\P es
theorem Cl.to(c:Cl K G Gm P)(h:∀es,P es->P' es):Cl K G Gm P':=⟨c.1,λa xs e=>let⟨es,d,p⟩:=c.2 a xs e;⟨es,d,h es p⟩⟩
theorem jH:Cl K G (λ_=>none) P:=⟨(λ_ _ e=>nomatch e),(λ_ _ e=>nomatch e)⟩
theorem kT(c:Cl K G Gm P){a:Addr}{o:HO}(e:G a=some o)(hl:∀xs,o=.lst xs->∃es,DenL K Gm xs es/\P es):Cl K G (upd Gm a o) P/\aI Gm (upd Gm a o):=by
 have s:aI Gm (upd Gm a o):=λb u q=>by
  by_cases z:b=a
  ·subst z
   have:=c.1 _ _ q;rw[e] at this;cases this;exact aG
  ·rw[aM z];exact q
 refine⟨⟨λb u q=>?_,λb xs q=>?_⟩,s⟩
 ·by_cases z:b=a
  ·subst z;rw[aG] at q;cases q;exact e
  ·rw[aM z] at q;exact c.1 b u q
 ·by_cases z:b=a
  ·subst z
   rw[aG] at q;cases q;obtain⟨es,d,p⟩:=hl xs rfl;exact⟨es,d.mono s,p⟩
  ·rw[aM z] at q
   obtain⟨es,d,p⟩:=c.2 b xs q;exact⟨es,d.mono s,p⟩
theorem yv{Gn:Hp}(c:Cl K G Gm P)(d:Cl K G Gn P):Cl K G (uni Gm Gn) P/\aI Gm (uni Gm Gn)/\aI Gn (uni Gm Gn):=by
 have s1:aI Gm (uni Gm Gn):=F0;have s2:aI Gn (uni Gm Gn):=Fs c.1 d.1;refine⟨⟨Ds c.1 d.1,λa xs e=>?_⟩,s1,s2⟩;rcases C3 e with e | e
 ·obtain⟨es,q,p⟩:=c.2 a xs e;exact⟨es,q.mono s1,p⟩
 ·obtain⟨es,q,p⟩:=d.2 a xs e;exact⟨es,q.mono s2,p⟩
theorem yO(c:Cl K G Gm P){a:Addr}{xs:List V}(h:SqT K G a xs):∃Gn,Cl K G Gn P/\aI Gm Gn/\SqT K Gn a xs:=by
 rcases h with(h | ⟨o,h⟩) | h
 ·obtain⟨c1,c2⟩:=kT c h (λ_ z=>nomatch z)
  exact⟨_,c1,c2,SqT.of aG⟩
 ·obtain⟨c1,c2⟩:=kT c h (λ_ z=>nomatch z)
  exact⟨_,c1,c2,.inl (.inr ⟨o,aG⟩)⟩
 ·exact⟨Gm,c,aI.refl _,.inr h⟩
theorem DenL.cl{vs:List V}{ds:List D}(h:DenL K G vs ds):∃Gm,Cl K G Gm (λl=>∃d∈ds,LsIn l d)/\DenL K Gm vs ds:=by
 refine DenL.rec (motive_1:=λv d _=>∃Gm,Cl K G Gm (λl=>LsIn l d)/\Den K Gm v d) (motive_2:=λus es _=>∃Gm,Cl K G Gm (λl=>∃p∈es,LsIn l p.2)/\DenM K Gm us es)
  (motive_3:=λvs ds _=>∃Gm,Cl K G Gm (λl=>∃d∈ds,LsIn l d)/\DenL K Gm vs ds) ?_ ?_ ?_ ?_ ?_ ?_ ?_ ?_ ?_ ?_ ?_ h
 ·exact⟨_,jH,.non⟩
 ·exact λb=>⟨_,jH,.bl b⟩
 ·exact λb=>⟨_,jH,.int b⟩
 ·exact λb=>⟨_,jH,.str b⟩
 ·rintro a xs ds h _ ⟨Gm,c,d⟩
  obtain⟨Gn,c1,s,h1⟩:=yO c h;exact⟨Gn,c1.to λes ⟨d,m,q⟩=>.tup m q,.tup h1 (d.mono s)⟩
 ·rintro a xs ds h _ ⟨Gm,c,d⟩
  have c0:Cl K G Gm (λl=>LsIn l (.lst ds)):=c.to λes ⟨d,m,q⟩=>.lst m q
  have one:G a=some (.lst xs)->∃Gm,Cl K G Gm (λl=>LsIn l (.lst ds))/\Den K Gm (.ref a) (.lst ds):=λh=>by
   obtain⟨c1,s⟩:=kT c0 h (λys z=>by cases z;exact⟨ds,d,.here ds⟩);exact⟨_,c1,.lst (.inl aG) (d.mono s)⟩
  rcases h with h | ⟨ns,rfl,(h | ⟨o,h⟩) | h⟩
  ·exact one h
  ·exact one h
  ·obtain⟨c1,s⟩:=kT c0 h (λ_ z=>nomatch z)
   exact⟨_,c1,.lst (.inr ⟨ns,rfl,.inl (.inr ⟨o,aG⟩)⟩) (d.mono s)⟩
  ·exact⟨Gm,c0,.lst (.inr ⟨ns,rfl,.inr h⟩) d⟩
 ·rintro a us ep es h nd _ ⟨Gm,c,d⟩
  obtain⟨c1,s⟩:=kT (c.to (P':=λl=>LsIn l (.dic es)) λl ⟨p,m,q⟩=>.dic (k:=p.1) m q) h (λ_ z=>nomatch z);exact⟨_,c1,.dic aG nd (d.mono s)⟩
 ·exact⟨_,jH,.nil⟩
 ·rintro k b v d us es hk _ _ ⟨G1,c1,d1⟩ ⟨G2,c2,d2⟩
  obtain⟨c3,s1,s2⟩:=yv (c1.to (P':=λl=>∃p∈(k,d)::es,LsIn l p.2) λl q=>⟨_,Qj ..,q⟩) (c2.to λl ⟨p,m,q⟩=>⟨p,Qg _ m,q⟩);obtain⟨G4,c4,s4,hk4⟩:=yO c3 hk;exact⟨G4,c4,.cons hk4 (d1.mono (s1.trans s4)) (d2.mono (s2.trans s4))⟩
 ·exact⟨_,jH,.nil⟩
 ·rintro v d vs ds _ _ ⟨G1,c1,d1⟩ ⟨G2,c2,d2⟩
  obtain⟨c3,s1,s2⟩:=yv (c1.to (P':=λl=>∃p∈d::ds,LsIn l p) λl q=>⟨_,Qj ..,q⟩) (c2.to λl ⟨p,m,q⟩=>⟨p,Qg _ m,q⟩);exact⟨_,c3,.cons (d1.mono s1) (d2.mono s2)⟩
end
section
variable{prog:QJ}{w:QL}{A:QU}{E:Qb->Qc->Prop}{s:Qc}
theorem DAt.ty{d:Addr}{us:bB}{ep:Nat}{s:Qc}(x:DAt d us ep s.heap):s.TypeIs (.ref d) "dict":=let⟨_,_,o,_,e,c,_⟩:=x;⟨o,e,c.1⟩
theorem zV{d:Addr}:MeetsIn prog w (ZU.«dict.__len__» ⟨[.ref d],[]⟩) (λ_ R s=>∃(us:bB) (ep:Nat),DAt d us ep s.heap/\R (.ok (.ret (.int us.length s.toks))) { s with toks:=s.toks+1 }):=
 .of_wp λA R s ⟨us,ep,⟨ns,_,o,raw,g1,g2,g3,pr⟩,q⟩=>by
  have n:raw.size=us.length:=by rw[Paired.length pr,Qu]
  show Qm _ _ (dictSize d>>=λn=>_) _ _ s;unfold dictSize;refine Qa (Qa (wpAny_dictEntries g1 g3 (Qd (show Qm _ _ (Builtin.Dict.pendingCount d>>=λn=>_) _ _ s from Qa (wpAny_pendingCount_other ns (wpAny_ret_mkInt ?_))))));rw[n,ZR];exact q
theorem xn{d:Addr}{us:bB}{ep:Nat}{Q:Bool->Qc->Prop}(x:DAt d us ep s.heap)(h:Q (!us.isEmpty) { s with toks:=s.toks+2 }):Qm (Qo prog w) A (truthy (.ref d)) Q E s:=by
 have ln:=x.2.1;have z:((us.length:Int) != 0) = !us.isEmpty:=by cases us<;>simp<;>omega
 have step:Qm (Qo prog w) A (runValue (.builtin "len" ⟨[.ref d],[]⟩)) (λr s'=>∃tk,r=.int us.length tk/\Q (!us.isEmpty) s') E s:=by
  refine(wpAny_runValue (Zf entry_len ?_));rw[JI plain_len];unfold ZU.«len»;refine Qa (m:=oneArg "len" _) (Qd (Qa (m:=callSpecial? (.ref d) (Zs "__len__")) (Ka (name:=Zs "__len__") x.ty F.slot_dict_len (call_meetsIn F.slot_dict_len x.ty F.entry_dict_len (F.args_dict_len_1 _) zV ⟨us,ep,x,?_⟩))));show Qm _ _ (_>>=λn=>_) _ _ { s with toks:=s.toks+1 };refine Qa (Q0 (Qd (Qa (Z3 ?_))));show Qm _ _ (if(us.length:Int)<0 then _ else _) _ _ _;rw[if_neg (by omega)];show Qm _ _ (if(us.length:Int)>=2 ^ 63 then _ else _) _ _ _;rw[if_neg (by omega)];exact(Qa (wpAny_mkInt (Qd ⟨_,rfl,h⟩)))
 have last:∀{f:Qb->Sem Bool},(∀(n:Int) tk,f (.int n tk)=pure (n != 0))->Qm (Qo prog w) A (runValue (.builtin "len" ⟨[.ref d],[]⟩)>>=f) Q E s:=λhf=>Qa (QV step (λr s' ⟨tk,e,q⟩=>by subst e;rw[hf];exact Qd (by rw[z];exact q)) λ_ _ e=>e);unfold truthy;have nob:typeLookup (.type "dict") "__bool__" = pure none:=by rw[typeLookup_type,builtinLookup_eq_fast];kernel_rfl
 first
  |refine Qa (wpAny_callSpecial?_none (name:=Zs "__bool__") x.ty nob (Qa (Kg (name:=Zs "__len__") x.ty F.slot_dict_len.lookup ?_)))
  |refine Qa (Qd (Qa (wpAny_callSpecial?_none (name:=Zs "__bool__") x.ty nob (Qa (Qd (Qa (Kg (name:=Zs "__len__") x.ty F.slot_dict_len.lookup ?_)))))))
 first
  |exact last λ_ _=>rfl
  |exact Qa (Qd (last λ_ _=>rfl))
end
section
variable{X:Cx}{a b:Expr}{fa fb:Ev->Option D}{pos:Pos}
def Gc:D->Option Bool
 |.dic es=>some (!es.isEmpty)
 |_=>none
def xb(fa:Ev->Option D):Ev->Option Bool:=λε=>(fa ε).bind Gc
theorem BH(ha:DE X a fa)(he:∀whole,isTrue a X.env whole=(do let v<-whole;standAt a.pos;holding [v] (truthy v)):=by intro _;rfl):DT X a (xb fa):=by
 obtain⟨ta,a1,a2⟩:=ha;refine⟨λσ H Q=>ta σ H λx H'=>∃p us ep,x=.ref p/\H' p=some (.ext (DAt p us ep))/\Q (!us.isEmpty) H',λpins s σ H Q I h=>?_,λHe G H σ ε k Q gh E ef q=>?_⟩
 ·refine isTrue_plain (thn (a1 pins s σ H _ I h) λv s1 ⟨x,H1,I1,r1,p,us,ep,e1,e2,q1⟩=>?_) (he _)
  subst e1;cases r1;exact xn (show bL X.prog X.w H1 s1.heap p (.ext (DAt p us ep)) from I1.hok p _ e2).1 ⟨H1,I1.tok _,q1⟩
 ·obtain⟨x,e1,ef⟩:=ai ef
  refine a2 He G H σ ε x _ gh E e1 λv G1 H1 g1 d1=>?_;unfold Gc at ef;split at ef
  case h_2=>cases ef
  case h_1 es=>
  cases ef;cases d1 with
  |@dic dd us ep _ hG nd m=>
   refine⟨dd,us,ep,rfl,g1.gh _ _ hG,?_⟩;have:us.isEmpty=es.isEmpty:=by have:=m.keys;cases us<;>cases es<;>first | rfl | (simp at this)
   rw[this];exact q _ _ g1
def A_(fa fb:Ev->Option D):Ev->Option (List D):=λε=>match fa ε,fb ε with | some (.int i),some (.int j)=>if -1000000<i/\i<1000000/\-1000000<j/\j<1000000 then some ((QE (j-i).toNat).map λ(k:Nat)=>D.int (i+(k:Int))) else none | _,_=>none
theorem CK{tg:Expr}{p:Pos}(ha:DE X a fa)(hb:DE X b fb)(hm:X.mg "range" = none)(hg:Gl X "range":=by rfl)(hs:Qy [a,b] X.env=[(false,eval a X.env),(false,eval b X.env)]:=by rfl)(hs2:Qy [b] X.env=[(false,eval b X.env)]:=by rfl):DI X tg (.Call (.Name "range" p) [a,b] [] pos) (A_ fa fb):=by
 obtain⟨ta,a1,a2⟩:=ha;obtain⟨tb,b1,b2⟩:=hb;refine⟨_,vY hg hm (bR a1 (bR b1 cR hs2) (by rw[hs,hs2])) hs hs2,λHe G H σ ε ds R gh E ef q=>?_⟩;unfold A_ at ef;split at ef
 case h_2=>cases ef
 case h_1 i j e1 e2=>
  split at ef
  case isFalse=>cases ef
  case isTrue hj=>
   cases ef;refine a2 He G H σ ε _ _ gh E e1 λv G1 H1 g1 d1=>?_;refine b2 He G1 H1 σ ε _ _ g1.gh (E.grow g1) e2 λv2 G2 H2 g2 d2=>?_;refine⟨i,j,by rw[d1.intV,d2.intV],by omega,q _ G2 H2 (g1.trans g2) λk H3 s3=>⟨λhi=>?_,λhi=>?_,?_⟩⟩
   ·show k<(j-i).toNat
    simpa using hi
   ·show(j-i).toNat<=k
    simpa using hi
   ·rintro x H4 ⟨rfl,rfl⟩ d ed G3 s5 s6
    refine⟨G3,.refl s6,?_⟩;rw[Qx] at ed;obtain⟨m,em,rfl⟩:=a_ ed;obtain⟨hm,em⟩:=Qk.mp em;rw[Kf] at em;subst em;exact .int _
def yI(i k:Nat)(fe:Ev->Option D)(fm:Ev->Option Bool)(gr:Ev->Option Fl):Ev->Option Fl:=λε=>(fe (fz1 k ε)).bind λd=>if fm ((fz1 k ε).set i (.dat d))=some true then gr (ε.set i .un) else none
theorem Ay(i k:Nat){x:Str}{e:Expr}{ms rest sts:List Stmt}{px pos1:Pos}{fe:Ev->Option D}{fm:Ev->Option Bool}{gr:Ev->Option Fl}
  (hN:X.N.Nodup) (he:DE X e fe) (hm:MD X ms fm) (hrest:DSs X rest gr) (hL:sts=.Assign [.Name x px] e pos1::(ms++rest))
  (hi:X.N[i]?=some x:=by rfl) (hx:Loc X.env.scope x:=by first | exact Or.inl rfl | exact Zj rfl) (hs:ZM e (some (.Name x px)) pos1.line X.env=pure false:=by rfl)
  (hf:X.fn x=true\/X.env.scope.names.lookup x=some .local:=by first | exact .inl rfl | exact .inr rfl):DSs X sts (yI i k fe fm gr):=by
 subst hL;obtain⟨te,e1,e2⟩:=he;obtain⟨tr,r1,r2⟩:=hrest;obtain⟨t,a1,a2⟩:=hm _ _ r1;refine⟨_,gY (lT hN hi hx e1 hs hf) a1,λHe Ge G H σ ε q W S ef P=>?_⟩;obtain⟨d,e3,ef⟩:=ai ef;split at ef
 case isFalse=>cases ef
 case isTrue fm1=>
  obtain⟨G1,S1⟩:=S.freeze k;refine e2 He G1 H σ _ d _ S1.g.gh S1.e e3 λv G2 H2 g2 dv=>?_;refine a2 He G2 H2 _ _ W g2.gh ((S1.e.grow g2).put dv) fm1 λG3 H3 g3=>?_;have hh:aI H H3:=g2.hh.trans g3.hh;have g4:Grow G H G H3:=⟨hh,aI.refl _,S.g.gh.trans hh,λb o e z=>z⟩;exact r2 He Ge G H3 _ _ q W ⟨S.g.trans g4,(S.e.drop i v).grow g4⟩ ef P
end
end Dn
namespace Ps
open PySem PySem.Spec PyProof.Rows L2 Dn Fl Tb Ly
abbrev DC:List Str:=["sightings","hour","state","x","y","height","sacks","puffs","sighting"]
abbrev oz:List Str:=["sightings","hour","state"]
def fW:Ev->Option Fl:=(sIf (bJ (ay br (e2 ixD (aa 8) (eC (.int 0))) (aa 1)) (ay kn (aK fZ (ag (fq (aa 8) (aT (eC (.int 1))) (aT (eC (.int 7)))) (ag (av 3) (ag (av 4) (ag (av 5) aF))))) (e2 ixD (aa 8) (eC (.int 7))))) (bh (eC (.bl false))) bC)
def yu:Ev->Option Fl:=(aC (gS (av 2) (df 5 (aA (ak 3) (aA (ak 4) (aA (ak 5) (aA (ak 6) (aA (ak 7) bI))))))) (aC (cJ (cV (av 0)) (ak 8) (fW)) (bh (eC (.bl true)))))
def jv:List D->Option D:=fnD DC oz yu
abbrev n9:List Str:=["sky","hour","found","sightings","later","state","order","after"]
abbrev d6:List Str:=["sky","hour","found","sightings"]
def oA:Ev->Option Fl:=(C9 4 (cV (av 2)) (ak 5) (cV (aK kC (ag (av 0) (ag (av 1) (ag (av 5) aF))))) (g9 2 (aA (ak 6) (aA (ak 7) bI))) (ec (aK jv (ag (av 3) (ag (e2 aN (aa 1) (eC (.int 1))) (ag (av 7) aF))))) (av 7) (av 5) (sFz 4 (bh (av 4))))
def gm:List D->Option D:=fnD n9 d6 oA
structure Sg where
 (h a b c d e f:Int)
 (w:Bool)
def sgD(q:Sg):D:=.tup [.int q.h,.int q.a,.int q.b,.int q.c,.int q.d,.int q.e,.int q.f,.bl q.w]
def bx(q:Sg):Sh:=⟨q.a,q.b,q.c,q.d,q.e,q.f,0,0⟩
def vC(t:Int)(s:Stt)(q:Sg):Bool:=decide (q.h=t)&&(!decide (in6 (bx q) s.x s.y s.z=q.w))
def gU(ss:List Sg)(t:Int)(s:Stt):Bool:=!ss.any (vC t s)
theorem uo(ss:List Sg)(t:Int)(q:Stt):jv [.lst (ss.map sgD),.int t,stD q]=some (.bl (gU ss t q)):=by
 refine bp rfl ?_;unfold yu;refine(au rfl).trans ?_;unfold gU
 rcases p9 (g:=ak 8) (gb:=fW) sgD (λε=>∃s8,ε=[.dat (.lst (ss.map sgD)),.dat (.int t),.dat (stD q),.dat (.int q.x),.dat (.int q.y),.dat (.int q.z),.dat (.int q.s),.dat (.int q.p),s8]) (vC t q) (.bl false) ss (λg _ ε ⟨s8,he⟩=>by
  subst he
  have c:bJ (ay br (e2 ixD (aa 8) (eC (.int 0))) (aa 1)) (ay kn (aK fZ (ag (fq (aa 8) (aT (eC (.int 1))) (aT (eC (.int 7)))) (ag (av 3) (ag (av 4) (ag (av 5) aF))))) (e2 ixD (aa 8) (eC (.int 7)))) [.dat (.lst (ss.map sgD)),.dat (.int t),.dat (stD q),.dat (.int q.x),.dat (.int q.y),.dat (.int q.z),.dat (.int q.s),.dat (.int q.p),.dat (sgD g)]=some (vC t q g):=by
   refine cE (a:=decide (g.h=t)) rfl ?_;unfold ay;rw[bP (x:=.bl (in6 (bx g) q.x q.y q.z)) (y:=.bl g.w) (nL (bx g) q.x q.y q.z) rfl];rfl
  refine⟨_,rfl,?_⟩;show(vC t q g=true/\fW [.dat (.lst (ss.map sgD)),.dat (.int t),.dat (stD q),.dat (.int q.x),.dat (.int q.y),.dat (.int q.z),.dat (.int q.s),.dat (.int q.p),.dat (sgD g)]=_)\/(_/\∃ε2,fW [.dat (.lst (ss.map sgD)),.dat (.int t),.dat (stD q),.dat (.int q.x),.dat (.int q.y),.dat (.int q.z),.dat (.int q.s),.dat (.int q.p),.dat (sgD g)]=_/\_);unfold fW;cases ho:vC t q g with
  |true=>rw[ho] at c;exact .inl ⟨rfl,eW c⟩
  |false=>rw[ho] at c;exact .inr ⟨rfl,_,dB c,_,rfl⟩) [.dat (.lst (ss.map sgD)),.dat (.int t),.dat (stD q),.dat (.int q.x),.dat (.int q.y),.dat (.int q.z),.dat (.int q.s),.dat (.int q.p),.un] ⟨_,rfl⟩ with⟨p,e⟩ | ⟨p,ε',e,s8,rfl⟩
 ·rw[p]
  exact bQ ((bE (ds:=ss.map sgD) rfl).trans e)
 ·rw[p]
  exact(au ((bE (ds:=ss.map sgD) rfl).trans e)).trans rfl
abbrev Mm:=List (Stt×List Stt)
def d_:Mm->Stt->Stt->Mm
 |[],t,s=>[(t,[s])]
 |e::r,t,s=>if stK e.1=stK t then(e.1,e.2++[s])::r else e::d_ r t s
def enM(mm:Mm):Ms:=mm.map λe=>(stK e.1,e.2.map stD)
theorem uf:∀(mm:Mm) (t s:Stt),jG (enM mm) (stK t) (stD s)=enM (d_ mm t s)
 |[],t,s=>rfl
 |e::r,t,s=>by
  show(if stK e.1=stK t then(stK e.1,e.2.map stD++[stD s])::enM r else(stK e.1,e.2.map stD)::jG (enM r) (stK t) (stD s))=enM (if stK e.1=stK t then(e.1,e.2++[s])::r else e::d_ r t s)
  by_cases c:stK e.1=stK t
  ·rw[if_pos c,if_pos c]
   show _=(stK e.1,(e.2++[s]).map stD)::enM r;rw[Jf];rfl
  ·rw[if_neg c,if_neg c,uf r t s];rfl
def Rl(mm:Mm)(t s:Stt):Prop:=∃e∈mm,e.1=t/\s∈e.2
def Ky(mm:Mm)(t:Stt):Prop:=∃e∈mm,e.1=t
theorem nQ(t s t':Stt):∀mm:Mm,Ky (d_ mm t s) t'↔Ky mm t'\/t'=t
 |[]=>by simp[Ky,d_,eq_comm]
 |e::r=>by
  have ih:=nQ t s t' r;unfold d_
  by_cases c:stK e.1=stK t
  ·rw[if_pos c]
   have c':=jm c;constructor
   ·rintro⟨x,hx,z⟩
    rcases Qn.1 hx with rfl | hx
    ·exact .inr (by rw[<-z,c'])
    ·exact .inl ⟨x,Qg _ hx,z⟩
   ·rintro(⟨x,hx,z⟩ | z)
    ·rcases Qn.1 hx with rfl | hx
     ·exact⟨_,Qj ..,z⟩
     ·exact⟨x,Qg _ hx,z⟩
    ·exact⟨_,Qj ..,by rw[z,c']⟩
  ·rw[if_neg c]
   constructor
   ·rintro⟨x,hx,z⟩
    rcases Qn.1 hx with rfl | hx
    ·exact .inl ⟨_,Qj ..,z⟩
    ·rcases ih.mp ⟨x,hx,z⟩ with⟨y,hy,q⟩ | q
     ·exact .inl ⟨y,Qg _ hy,q⟩
     ·exact .inr q
   ·rintro(⟨x,hx,z⟩ | z)
    ·rcases Qn.1 hx with rfl | hx
     ·exact⟨_,Qj ..,z⟩
     ·obtain⟨y,hy,q⟩:=ih.mpr (.inl ⟨x,hx,z⟩)
      exact⟨y,Qg _ hy,q⟩
    ·obtain⟨y,hy,q⟩:=ih.mpr (.inr z)
     exact⟨y,Qg _ hy,q⟩
theorem kO(t s t' s':Stt):∀mm:Mm,Rl (d_ mm t s) t' s'↔Rl mm t' s'\/(t'=t/\s'=s)
 |[]=>by
  constructor
  ·rintro⟨x,hx,z,q⟩
   rw[show d_ [] t s=[(t,[s])] from rfl] at hx;rw[Qt.mp hx] at z q;exact .inr ⟨z.symm,Qt.mp q⟩
  ·rintro(⟨x,hx,_⟩ | ⟨rfl,rfl⟩)
   ·cases hx
   ·exact⟨_,Qt.mpr rfl,rfl,Qt.mpr rfl⟩
 |e::r=>by
  have ih:=kO t s t' s' r;unfold d_
  by_cases c:stK e.1=stK t
  ·rw[if_pos c]
   have c':=jm c;constructor
   ·rintro⟨x,hx,z,q⟩
    rcases Qn.1 hx with rfl | hx
    ·rcases QM.1 q with q | q
     ·exact .inl ⟨e,Qj ..,z,q⟩
     ·exact .inr ⟨by rw[<-z,c'],Qt.mp q⟩
    ·exact .inl ⟨x,Qg _ hx,z,q⟩
   ·rintro(⟨x,hx,z,q⟩ | ⟨z,q⟩)
    ·rcases Qn.1 hx with rfl | hx
     ·exact⟨_,Qj ..,z,List.mem_append_left _ q⟩
     ·exact⟨x,Qg _ hx,z,q⟩
    ·exact⟨_,Qj ..,by rw[z,c'],QD _ (Qt.mpr q)⟩
  ·rw[if_neg c]
   constructor
   ·rintro⟨x,hx,z,q⟩
    rcases Qn.1 hx with rfl | hx
    ·exact .inl ⟨_,Qj ..,z,q⟩
    ·rcases ih.mp ⟨x,hx,z,q⟩ with⟨y,hy,q⟩ | q
     ·exact .inl ⟨y,Qg _ hy,q⟩
     ·exact .inr q
   ·rintro(⟨x,hx,z,q⟩ | z)
    ·rcases Qn.1 hx with rfl | hx
     ·exact⟨_,Qj ..,z,q⟩
     ·obtain⟨y,hy,q⟩:=ih.mpr (.inl ⟨x,hx,z,q⟩)
      exact⟨y,Qg _ hy,q⟩
    ·obtain⟨y,hy,q⟩:=ih.mpr (.inr z)
     exact⟨y,Qg _ hy,q⟩
abbrev kM(mm:Mm):List (List Int):=mm.map λe=>stK e.1
theorem pU{mm:Mm}{t:Stt}:stK t∈kM mm↔Ky mm t:=by
 unfold kM Ky;rw[Q2];exact⟨λ⟨e,he,z⟩=>⟨e,he,jm z⟩,λ⟨e,he,z⟩=>⟨e,he,by rw[z]⟩⟩
theorem tf{t s:Stt}:∀{mm:Mm},(kM mm).Nodup->(kM (d_ mm t s)).Nodup
 |[],_=>by show([stK t]:List (List Int)).Nodup;simp
 |e::r,h=>by
  unfold d_;rw[show kM (e::r)=stK e.1::kM r from rfl,Ju] at h
  by_cases c:stK e.1=stK t
  ·rw[if_pos c,show kM ((e.1,e.2++[s])::r)=stK e.1::kM r from rfl,Ju];exact h
  ·rw[if_neg c,show kM (e::d_ r t s)=stK e.1::kM (d_ r t s) from rfl,Ju]
   refine⟨λz=>?_,tf h.2⟩;rcases(nQ t s e.1 r).mp (pU.mp z) with q | q
   ·exact h.1 (pU.mpr q)
   ·exact c (by rw[q])
def wt(w:Stt->Nat):Mm->Nat
 |[]=>0
 |e::r=>w e.1+wt w r
theorem ue(w:Stt->Nat)(t s:Stt):∀mm:Mm,wt w (d_ mm t s)<=wt w mm+w t
 |[]=>by show w t+0<=0+w t;omega
 |e::r=>by
  have:=ue w t s r;unfold d_
  by_cases c:stK e.1=stK t
  ·rw[if_pos c];show w e.1+wt w r<=w e.1+wt w r+w t;omega
  ·rw[if_neg c];show w e.1+wt w (d_ r t s)<=w e.1+wt w r+w t;omega
def tot:Mm->Nat
 |[]=>0
 |e::r=>e.2.length+1+tot r
theorem lU(t s:Stt):∀mm:Mm,tot (d_ mm t s)<=tot mm+2
 |[]=>Qf _
 |e::r=>by
  have:=lU t s r;unfold d_
  by_cases c:stK e.1=stK t
  ·rw[if_pos c]
   show(e.2++[s]).length+1+tot r<=e.2.length+1+tot r+2;rw[Qr];simp;omega
  ·rw[if_neg c]
   show e.2.length+1+tot (d_ r t s)<=e.2.length+1+tot r+2;omega
theorem sT:∀mm:Mm,mm.length<=tot mm
 |[]=>Qf _
 |e::r=>by have:=sT r;show r.length+1<=e.2.length+1+tot r;omega
theorem ur:∀(mm:Mm),∀e∈mm,e.2.length<=tot mm
 |[],_,h=>by cases h
 |x::r,e,h=>by
  show _<=x.2.length+1+tot r;rcases Qn.1 h with rfl | h
  ·omega
  ·have:=ur r e h;omega
theorem Ei{mm:Mm}(h:tot mm<1000000):Aa (enM mm)=true:=by
 unfold Aa enM;rw[KC];refine⟨decide_eq_true (by rw[Qi];have:=sT mm;omega),Jc.mpr λe he=>?_⟩;obtain⟨x,hx,rfl⟩:=Q2.mp he;refine decide_eq_true ?_;show(x.2.map stD).length<_;rw[Qi];have:=ur mm x hx;omega
section
variable(k:Sk)(kk:SkW k)(ss:List Sg)(h:Int)
def foS(s:Stt)(mm:Mm)(o:Str):Mm:=if gU ss (h+1) (bo k h s o)=true then d_ mm (bo k h s o) s else mm
def foR(s:Stt)(mm:Mm)(os:List Str):Mm:=os.foldl (foS k ss h s) mm
def FO(fs:List Stt)(mm:Mm):Mm:=fs.foldl (λa s=>foR k ss h s a (can k h s)) mm
abbrev evO(F a b c:Sl):Ev:=[.dat (skD k),.dat (.int h),F,.dat (.lst (ss.map sgD)),.un,a,b,c]
abbrev tgO:D->Ev->Option Ev:=g9 2 (aA (ak 6) (aA (ak 7) bI))
abbrev ftO:Ev->Option Bool:=ec (aK jv (ag (av 3) (ag (e2 aN (aa 1) (eC (.int 1))) (ag (av 7) aF))))
abbrev itO:Ev->Option (List D):=cV (aK kC (ag (av 0) (ag (av 1) (ag (av 5) aF))))
theorem rz(F:Sl)(s:Stt):∀(os:List Str) (mm:Mm) (b c:Sl),tot mm+2*os.length<1000000->∃b' c',sd1 tgO ftO (av 7) (av 5) (os.map (mvD k h s)) (evO k ss h F (.dat (stD s)) b c) (enM mm)=some (evO k ss h F (.dat (stD s)) b' c',enM (foR k ss h s mm os))/\tot (foR k ss h s mm os)<=tot mm+2*os.length
 |[],mm,b,c,_=>⟨b,c,rfl,Qf _⟩
 |o::os,mm,b,c,hl=>by
  rw[QA] at hl
  have t:ftO (evO k ss h F (.dat (stD s)) (.dat (.str o)) (.dat (stD (bo k h s o))))=some (gU ss (h+1) (bo k h s o)):=
   tW (aW (ds:=[.lst (ss.map sgD),.int (h+1),stD (bo k h s o)]) rfl (uo ss (h+1) (bo k h s o)))
  by_cases f:gU ss (h+1) (bo k h s o)=true
  ·have st:=lU (bo k h s o) s mm
   obtain⟨b',c',e,l⟩:=rz F s os (d_ mm (bo k h s o) s) (.dat (.str o)) (.dat (stD (bo k h s o))) (by omega)
   have ef:foR k ss h s mm (o::os)=foR k ss h s (d_ mm (bo k h s o) s) os:=by
    show foR k ss h s (foS k ss h s mm o) os=_;unfold foS;rw[if_pos f]
   rw[ef];refine⟨b',c',?_,by rw[QA];omega⟩;rw[f] at t;show(ftO (evO k ss h F (.dat (stD s)) (.dat (.str o)) (.dat (stD (bo k h s o))))).bind _=_;rw[t];show(if Aa (enM mm)=true then sd1 tgO ftO (av 7) (av 5) (os.map (mvD k h s)) (evO k ss h F (.dat (stD s)) (.dat (.str o)) (.dat (stD (bo k h s o)))) (jG (enM mm) (stK (bo k h s o)) (stD s)) else none)=_;rw[if_pos (Ei (by omega)),uf];exact e
  ·have f':gU ss (h+1) (bo k h s o)=false:=by simpa using f
   obtain⟨b',c',e,l⟩:=rz F s os mm (.dat (.str o)) (.dat (stD (bo k h s o))) (by omega)
   have ef:foR k ss h s mm (o::os)=foR k ss h s mm os:=by
    show foR k ss h s (foS k ss h s mm o) os=_;unfold foS;rw[if_neg f]
   rw[ef];refine⟨b',c',?_,by rw[QA];omega⟩;rw[f'] at t;show(ftO (evO k ss h F (.dat (stD s)) (.dat (.str o)) (.dat (stD (bo k h s o))))).bind _=_;rw[t];exact e
include kk in
theorem zb(F:Sl):∀(fs:List Stt) (mm:Mm) (a b c:Sl),tot mm+6*fs.length<1000000->∃a' b' c',sd0 (ak 5) itO tgO ftO (av 7) (av 5) (fs.map stD) (evO k ss h F a b c) (enM mm)=some (evO k ss h F a' b' c',enM (FO k ss h fs mm))/\tot (FO k ss h fs mm)<=tot mm+6*fs.length
 |[],mm,a,b,c,_=>⟨a,b,c,rfl,Qf _⟩
 |s::fs,mm,a,b,c,hl=>by
  rw[QA] at hl;have cl:=sU k h s;obtain⟨b1,c1,e1,l1⟩:=rz k ss h F s (can k h s) mm b c (by omega);obtain⟨a2,b2,c2,e2',l2⟩:=zb F fs (foR k ss h s mm (can k h s)) (.dat (stD s)) b1 c1 (by omega);refine⟨a2,b2,c2,?_,by show tot (FO k ss h fs (foR k ss h s mm (can k h s)))<=_;rw[QA];omega⟩;have it:itO (evO k ss h F (.dat (stD s)) b c)=some ((can k h s).map (mvD k h s)):=nU (aW (ds:=[skD k,.int h,stD s]) rfl (yD k kk.hl h s));show(itO (evO k ss h F (.dat (stD s)) b c)).bind _=_;rw[it];show(if((can k h s).map (mvD k h s)).length<1000000 then _ else none)=_;rw[if_pos (by rw[Qi];omega)];show(sd1 tgO ftO (av 7) (av 5) ((can k h s).map (mvD k h s)) (evO k ss h F (.dat (stD s)) b c) (enM mm)).bind _=_;rw[e1];exact e2'
include kk in
theorem Fj(fs:List Stt)(hl:fs.length<100000):gm [skD k,.int h,.lst (fs.map stD),.lst (ss.map sgD)]=some (.dic (msD (enM (FO k ss h fs [])))):=by
 refine bp rfl ?_;obtain⟨a,b,c,e,l⟩:=zb k kk ss h (.dat (.lst (fs.map stD))) fs [] .un .un .un (by show 0+_<_;omega);show(if((fs.map stD).length<1000000) then(sd0 (ak 5) itO tgO ftO (av 7) (av 5) (fs.map stD) (evO k ss h (.dat (.lst (fs.map stD))) .un .un .un) (enM [])).bind _ else none)=_;rw[if_pos (by rw[Qi];omega),e];rfl
theorem EK(t s:Stt):∀(fs:List Stt) (mm:Mm),Rl (FO k ss h fs mm) t s↔Rl mm t s\/(s∈fs/\∃o∈can k h s,t=bo k h s o/\gU ss (h+1) t=true):=by
 have row:∀(x:Stt) (os:List Str) (mm:Mm),Rl (foR k ss h x mm os) t s↔Rl mm t s\/(s=x/\∃o∈os,t=bo k h x o/\gU ss (h+1) t=true):=by
  intro x os
  induction os with
  |nil=>intro mm;exact⟨.inl,λz=>z.elim id λ⟨_,o,ho,_⟩=>by cases ho⟩
  |cons o os ih=>
   intro mm;show Rl (foR k ss h x (foS k ss h x mm o) os) t s↔_;rw[ih];unfold foS
   by_cases f:gU ss (h+1) (bo k h x o)=true
   ·rw[if_pos f,kO]
    constructor
    ·rintro((z | ⟨z,y⟩) | ⟨y,o',ho,q⟩)
     ·exact .inl z
     ·exact .inr ⟨y,o,Qj ..,z,by rw[z];exact f⟩
     ·exact .inr ⟨y,o',Qg _ ho,q⟩
    ·rintro(z | ⟨y,o',ho,q⟩)
     ·exact .inl (.inl z)
     ·rcases Qn.1 ho with rfl | ho
      ·exact .inl (.inr ⟨q.1,y⟩)
      ·exact .inr ⟨y,o',ho,q⟩
   ·rw[if_neg f]
    constructor
    ·rintro(z | ⟨y,o',ho,q⟩)
     ·exact .inl z
     ·exact .inr ⟨y,o',Qg _ ho,q⟩
    ·rintro(z | ⟨y,o',ho,q⟩)
     ·exact .inl z
     ·rcases Qn.1 ho with rfl | ho
      ·exact absurd (by rw[<-q.1];exact q.2) f
      ·exact .inr ⟨y,o',ho,q⟩
 intro fs
 induction fs with
 |nil=>intro mm;exact⟨.inl,λz=>z.elim id λ⟨q,_⟩=>by cases q⟩
 |cons x fs ih=>
  intro mm;show Rl (FO k ss h fs (foR k ss h x mm (can k h x))) t s↔_;rw[ih,row];constructor
  ·rintro((z | ⟨rfl,q⟩) | ⟨q,r⟩)
   ·exact .inl z
   ·exact .inr ⟨Qj ..,q⟩
   ·exact .inr ⟨Qg _ q,r⟩
  ·rintro(z | ⟨q,r⟩)
   ·exact .inl (.inl z)
   ·rcases Qn.1 q with rfl | q
    ·exact .inl (.inr ⟨rfl,r⟩)
    ·exact .inr ⟨q,r⟩
def Ac(mm:Mm):Prop:=∀t,Ky mm t->∃s,Rl mm t s
theorem vw{mm:Mm}{t s:Stt}(f:Ac mm):Ac (d_ mm t s):=λt' ht=>by
 rcases(nQ t s t' mm).mp ht with z | z
 ·obtain⟨s',r⟩:=f t' z
  exact⟨s',(kO t s t' s' mm).mpr (.inl r)⟩
 ·exact⟨s,(kO t s t' s mm).mpr (.inr ⟨z,rfl⟩)⟩
theorem xv(P:Mm->Prop)(add:∀mm t s,P mm->P (d_ mm t s)):∀(fs:List Stt) (mm:Mm),P mm->P (FO k ss h fs mm):=by
 have row:∀(x:Stt) (os:List Str) (mm:Mm),P mm->P (foR k ss h x mm os):=by
  intro x os
  induction os with
  |nil=>exact λ_ p=>p
  |cons o os ih=>
   intro mm p;refine ih _ ?_;unfold foS;split
   ·exact add _ _ _ p
   ·exact p
 intro fs
 induction fs with
 |nil=>exact λ_ p=>p
 |cons x fs ih=>exact λmm p=>ih _ (row x _ mm p)
theorem F8(w w':Stt->Nat)(hw:∀s,StOk s->((can k h s).map λo=>w (bo k h s o)).sum<=w' s):∀(fs:List Stt) (mm:Mm),(∀s∈fs,StOk s)->wt w (FO k ss h fs mm)<=wt w mm+(fs.map w').sum:=by
 have row:∀(x:Stt) (os:List Str) (mm:Mm),wt w (foR k ss h x mm os)<=wt w mm+(os.map λo=>w (bo k h x o)).sum:=by
  intro x os
  induction os with
  |nil=>intro mm;exact Qf _
  |cons o os ih=>
   intro mm;have h1:=ih (foS k ss h x mm o)
   have h2:wt w (foS k ss h x mm o)<=wt w mm+w (bo k h x o):=by
    unfold foS;split
    ·exact ue w _ _ _
    ·omega
   show wt w (foR k ss h x (foS k ss h x mm o) os)<=_;rw[Qv,List.sum_cons];omega
 intro fs
 induction fs with
 |nil=>intro mm _;exact Qf _
 |cons x fs ih=>
  intro mm hs;have h1:=ih (foR k ss h x mm (can k h x)) λs z=>hs s (Qg _ z);have h2:=row x (can k h x) mm;have h3:=hw x (hs x (Qj ..));show wt w (FO k ss h fs (foR k ss h x mm (can k h x)))<=_;rw[Qv,List.sum_cons];omega
end
abbrev ksM(mm:Mm):List Stt:=mm.map (·.1)
theorem BW{mm:Mm}{t:Stt}:t∈ksM mm↔Ky mm t:=Q2
theorem FW{mm:Mm}{t s:Stt}(h:Rl mm t s):Ky mm t:=let⟨e,he,z,_⟩:=h;⟨e,he,z⟩
def cnt:Nat->Nat->Nat->Nat
 |0,_,_=>1
 |n+1,s,p=>cnt n s p+(if s=0 then 0 else cnt n (s-1) p)+(if p=0 then 0 else cnt n s (p-1))
def cw(n:Nat)(q:Stt):Nat:=cnt n q.s.toNat q.p.toNat
theorem uH:∀n s p,1<=cnt n s p
 |0,_,_=>Qf _
 |n+1,s,p=>by have:=uH n s p;unfold cnt;omega
theorem BC(k:Sk)(h:Int)(n:Nat)(s:Stt)(hs:StOk s):((can k h s).map λo=>cw n (bo k h s o)).sum<=cw (n+1) s:=by
 have can_of:∀{o:Str},decide (wh k h s o = "")=true->wo o s = "":=λ{o} c=>by
  have c:=of_decide_eq_true c;unfold wh at c
  by_cases d:wo o s = ""
  ·exact d
  ·rw[if_neg d] at c;exact c
 have hu:decide (wh k h s "up" = "")=true->cw n (bo k h s "up")<=if s.s.toNat=0 then 0 else cnt n (s.s.toNat-1) s.p.toNat:=λc=>by
  have d:=can_of c;rw[Ce] at d;have s0:¬ s.s<1:=λz=>by rw[if_pos z] at d;exact absurd d (by decide)
  rw[if_neg (by omega)];show cnt n (s1 "up" s).toNat (p1 "up" s).toNat<=_;rw[yo,y2,show(s.s-1).toNat=s.s.toNat-1 by omega];exact Qf _
 have hd:decide (wh k h s "down" = "")=true->cw n (bo k h s "down")<=if s.p.toNat=0 then 0 else cnt n s.s.toNat (s.p.toNat-1):=λc=>by
  have d:=can_of c;rw[nT] at d;have s0:¬ s.p<1:=λz=>by rw[if_pos z] at d;exact absurd d (by decide)
  rw[if_neg (by omega)];show cnt n (s1 "down" s).toNat (p1 "down" s).toNat<=_;rw[oj,oy,show(s.p-1).toNat=s.p.toNat-1 by omega];exact Qf _
 have hl:cw n (bo k h s "level")=cnt n s.s.toNat s.p.toNat:=by
  show cnt n (s1 "level" s).toNat (p1 "level" s).toNat=_;rw[l9,l_]
 show _<=cnt (n+1) s.s.toNat s.p.toNat;rw[show cnt (n+1) s.s.toNat s.p.toNat=cnt n s.s.toNat s.p.toNat+(if s.s.toNat=0 then 0 else cnt n (s.s.toNat-1) s.p.toNat)+(if s.p.toNat=0 then 0 else cnt n s.s.toNat (s.p.toNat-1)) from rfl];generalize (if s.s.toNat=0 then 0 else cnt n (s.s.toNat-1) s.p.toNat)=A at hu ⊢;generalize (if s.p.toNat=0 then 0 else cnt n s.s.toNat (s.p.toNat-1))=B at hd ⊢;rw[<-hl];unfold can;show((List.filter (λo=>decide (wh k h s o = "")) ["up","level","down"]).map λo=>cw n (bo k h s o)).sum<=_;generalize hcu:decide (wh k h s "up" = "")=cu at hu;generalize hcl:decide (wh k h s "level" = "")=cl;generalize hcd:decide (wh k h s "down" = "")=cd at hd;rw[Z7,Z7,Z7,List.filter_nil,hcu,hcl,hcd];cases cu<;>cases cl<;>cases cd<;>simp only[if_true,if_false,QK,Qv,Kq,List.sum_cons,List.sum_nil]<;>(try have hu:=hu rfl)<;>(try have hd:=hd rfl)<;>omega
section
variable(k:Sk)(ss:List Sg)(h:Int)(q:Stt)
def FS:Nat->Mm
 |0=>[(q,[])]
 |n+1=>FO k ss (h+(n:Int)) (ksM (FS n)) []
theorem B1:∀n,(kM (FS k ss h q n)).Nodup
 |0=>by show([stK q]:List (List Int)).Nodup;simp
 |n+1=>xv k ss _ (λmm=>(kM mm).Nodup) (λ_ _ _=>tf) _ _ List.nodup_nil
theorem tP(n:Nat):Ac (FS k ss h q (n+1)):=xv k ss _ Ac (λ_ _ _=>vw) _ _ λt ⟨e,he,_⟩=>by cases he
theorem nN(n:Nat)(t s:Stt):Rl (FS k ss h q (n+1)) t s↔Ky (FS k ss h q n) s/\∃o∈can k (h+(n:Int)) s,t=bo k (h+(n:Int)) s o/\gU ss (h+(n:Int)+1) t=true:=by
 show Rl (FO k ss (h+(n:Int)) (ksM (FS k ss h q n)) []) t s↔_;rw[EK,BW];exact⟨λz=>z.elim (λ⟨e,he,_⟩=>by cases he) id,.inr⟩
theorem B8(hq:StOk q):∀(n:Nat) (t:Stt),Ky (FS k ss h q n) t->StOk t
 |0,t,⟨e,he,z⟩=>by rw[Qt.mp he] at z;rw[<-z];exact hq
 |n+1,t,ht=>by
  obtain⟨s,r⟩:=tP k ss h q n t ht;obtain⟨a,o,ho,rfl,_⟩:=(nN k ss h q n t s).mp r;obtain⟨io,hw⟩:=um ho;exact yX k _ s o io (B8 hq n s a) hw
theorem D_(f0:gU ss h q=true):∀(n:Nat) (t:Stt),Ky (FS k ss h q n) t->gU ss (h+(n:Int)) t=true
 |0,t,⟨e,he,z⟩=>by rw[Qt.mp he] at z;rw[<-z,Int.natCast_zero,Int.add_zero];exact f0
 |n+1,t,ht=>by
  obtain⟨s,r⟩:=tP k ss h q n t ht;obtain⟨_,_,_,_,f⟩:=(nN k ss h q n t s).mp r;rw[show h+((n+1:Nat):Int)=h+(n:Int)+1 by omega];exact f
theorem Ct(w:Stt->Nat):∀mm:Mm,((ksM mm).map w).sum=wt w mm
 |[]=>rfl
 |e::r=>by show w e.1+((ksM r).map w).sum=w e.1+wt w r;rw[Ct w r]
theorem yH(w:Stt->Nat)(hw:∀t,1<=w t):∀mm:Mm,mm.length<=wt w mm
 |[]=>Qf _
 |e::r=>by have:=yH w hw r;have:=hw e.1;show r.length+1<=w e.1+wt w r;omega
theorem Cc(hq:StOk q)(m:Nat):∀n,n<=m->wt (cw (m-n)) (FS k ss h q n)<=cw m q
 |0,_=>by show cw m q+0<=cw m q;omega
 |n+1,hn=>by
  have h1:=Cc hq m n (by omega)
  have h2:=F8 k ss (h+(n:Int)) (cw (m-(n+1))) (cw (m-n)) (λs hs=>by
   have:=BC k (h+(n:Int)) (m-(n+1)) s hs;rw[show m-(n+1)+1=m-n by omega] at this
   exact this) (ksM (FS k ss h q n)) [] λs hs=>B8 k ss h q hq n s (BW.mp hs)
  rw[Ct] at h2;show wt (cw (m-(n+1))) (FO k ss (h+(n:Int)) (ksM (FS k ss h q n)) [])<=_;have:wt (cw (m-(n+1))) ([]:Mm)=0:=rfl;omega
theorem rC(hq:StOk q)(m n:Nat)(hn:n<=m):(FS k ss h q n).length<=cw m q:=Q4 (yH _ (λt=>uH _ _ _) _) (Cc k ss h q hq m n hn)
theorem DH(h:Int)(fs:List Stt):tot (FO k ss h fs [])<=6*fs.length:=by
 have row:∀(x:Stt) (os:List Str) (mm:Mm),tot (foR k ss h x mm os)<=tot mm+2*os.length:=by
  intro x os
  induction os with
  |nil=>intro mm;exact Qf _
  |cons o os ih=>
   intro mm;have h1:=ih (foS k ss h x mm o)
   have h2:tot (foS k ss h x mm o)<=tot mm+2:=by
    unfold foS;split
    ·exact lU _ _ _
    ·omega
   show tot (foR k ss h x (foS k ss h x mm o) os)<=_;rw[QA];omega
 have all:∀(fs:List Stt) (mm:Mm),tot (FO k ss h fs mm)<=tot mm+6*fs.length:=by
  intro fs
  induction fs with
  |nil=>intro mm;exact Qf _
  |cons x fs ih=>
   intro mm;have h1:=ih (foR k ss h x mm (can k h x));have h2:=row x (can k h x) mm;have h3:=sU k h x;show tot (FO k ss h fs (foR k ss h x mm (can k h x)))<=_;rw[QA];omega
 have:=all fs [];have:tot ([]:Mm)=0:=rfl;omega
def On(m:Nat):Nat->Stt->Prop
 |0,s=>Ky (FS k ss h q m) s
 |j+1,s=>∃t,On m j t/\Rl (FS k ss h q (m-j)) t s
theorem B9(m:Nat):∀(j:Nat) (s:Stt),j<=m->On k ss h q m j s->Ky (FS k ss h q (m-j)) s
 |0,s,_,z=>z
 |j+1,s,hj,⟨t,ht,r⟩=>by
  rw[show m-j=(m-(j+1))+1 by omega] at r;exact((nN k ss h q _ t s).mp r).1
end
theorem qC{ks:List (List Int)}{a x:List Int}:x∈j8 ks a↔x∈ks\/x=a:=by
 unfold j8
 by_cases c:a∈ks
 ·rw[if_pos c];exact⟨.inl,λz=>z.elim id λe=>e▸c⟩
 ·rw[if_neg c,QM,Qt]
theorem zO{ks:List (List Int)}{a:List Int}(h:ks.Nodup):(j8 ks a).Nodup:=by
 unfold j8
 by_cases c:a∈ks
 ·rw[if_pos c];exact h
 ·rw[if_neg c,List.nodup_append]
  exact⟨h,by simp,λx hx y hy=>by rw[Qt.mp hy];exact λ(e:x=a)=>c (e▸hx)⟩
theorem rE:∀(l U:List (List Int)),l.Nodup->(∀x∈l,x∈U)->l.length<=U.length
 |[],_,_,_=>QN _
 |a::l,U,nd,h=>by
  rw[Ju] at nd;have h1:=rE l (U.erase a) nd.2 λx hx=>(List.mem_erase_of_ne (λ(e:x=a)=>nd.1 (e▸hx))).mpr (h x (Qg _ hx));have h2:=List.length_erase_of_mem (h a (Qj ..));have h3:=List.length_pos_of_mem (h a (Qj ..));rw[QA];omega
theorem BQ{t:Stt}:∀{mm:Mm},(kM mm).Nodup->Ky mm t->∃l:List Stt,lkD (msD (enM mm)) (stK t)=some (.lst (l.map stD))/\(∀s,s∈l↔Rl mm t s)/\l.length<=tot mm
 |[],_,⟨e,he,_⟩=>by cases he
 |e::r,nd,ky=>by
  rw[show kM (e::r)=stK e.1::kM r from rfl,Ju] at nd;show ∃l:List Stt,(if stK e.1=stK t then some (D.lst (e.2.map stD)) else lkD (msD (enM r)) (stK t))=some (.lst (l.map stD))/\(∀s,s∈l↔Rl (e::r) t s)/\l.length<=e.2.length+1+tot r
  by_cases c:stK e.1=stK t
  ·rw[if_pos c]
   refine⟨e.2,rfl,λs=>⟨λz=>⟨e,Qj ..,jm c,z⟩,?_⟩,by omega⟩;rintro⟨x,hx,z,y⟩;rcases Qn.1 hx with rfl | hx
   ·exact y
   ·exact absurd (pU.mpr ⟨x,hx,by rw[z];exact(jm c).symm⟩) nd.1
  ·rw[if_neg c]
   obtain⟨x,hx,z⟩:=ky;rcases Qn.1 hx with rfl | hx
   ·exact absurd (by rw[z]) c
   ·obtain⟨l,l1,l2,l3⟩:=BQ nd.2 ⟨x,hx,z⟩
    refine⟨l,l1,λs=>(l2 s).trans ⟨λ⟨y,hy,w⟩=>⟨y,Qg _ hy,w⟩,?_⟩,by omega⟩;rintro⟨y,hy,w1,w2⟩;rcases Qn.1 hy with rfl | hy
    ·exact absurd (by rw[w1]) c
    ·exact⟨y,hy,w1,w2⟩
section
variable(mm:Mm)(nd:(kM mm).Nodup)(hz:tot mm<1000000)(U:List (List Int))(hU:U.length<=999)(sub:∀t s,Rl mm t s->stK s∈U)
abbrev itB:Ev->Option (List D):=cV (e2 wb (aa 2) (aa 0))
include hU in
theorem wG(a:Sl)(M:Sl):∀(l:List Stt) (b:Sl) (kk:List (List Int)),(∀s∈l,stK s∈U)->kk.Nodup->(∀x∈kk,x∈U)->∃b' kk',sc1 (ak 1) (av 1) (l.map stD) [a,b,M] kk=some ([a,b',M],kk')/\kk'.Nodup/\(∀x∈kk',x∈U)/\∀x,x∈kk'↔x∈kk\/∃s∈l,x=stK s
 |[],b,kk,_,n,i=>⟨b,kk,rfl,n,i,λx=>⟨.inl,λz=>z.elim id λ⟨_,q,_⟩=>by cases q⟩⟩
 |s::l,b,kk,hl,n,i=>by
  have i2:∀x∈j8 kk (stK s),x∈U:=λx hx=>(qC.mp hx).elim (i x) λe=>by rw[e];exact hl s (Qj ..)
  obtain⟨b',kk',e,n',i',m'⟩:=wG a M l (.dat (stD s)) (j8 kk (stK s)) (λx hx=>hl x (Qg _ hx)) (zO n) i2;have kl:=rE kk U n i;refine⟨b',kk',?_,n',i',λx=>?_⟩
  ·show(if kk.length<1000 then sc1 (ak 1) (av 1) (l.map stD) [a,.dat (stD s),M] (j8 kk (stK s)) else none)=_
   rw[if_pos (by omega)];exact e
  ·rw[m' x,qC]
   constructor
   ·rintro((z | z) | ⟨y,hy,z⟩)
    ·exact .inl z
    ·exact .inr ⟨s,Qj ..,z⟩
    ·exact .inr ⟨y,Qg _ hy,z⟩
   ·rintro(z | ⟨y,hy,z⟩)
    ·exact .inl (.inl z)
    ·rcases Qn.1 hy with rfl | hy
     ·exact .inl (.inr z)
     ·exact .inr ⟨y,hy,z⟩
include nd hz hU sub in
theorem xj:∀(B:List Stt) (a b:Sl) (kk:List (List Int)),(∀t∈B,Ky mm t)->kk.Nodup->(∀x∈kk,x∈U)->∃kk',sc0 (ak 0) itB (ak 1) (av 1) (B.map stD) [a,b,.dat (.dic (msD (enM mm)))] kk=some kk'/\kk'.Nodup/\(∀x∈kk',x∈U)/\∀x,x∈kk'↔x∈kk\/∃t∈B,∃s,Rl mm t s/\x=stK s
 |[],a,b,kk,_,n,i=>⟨kk,rfl,n,i,λx=>⟨.inl,λz=>z.elim id λ⟨_,q,_⟩=>by cases q⟩⟩
 |t::B,a,b,kk,hB,n,i=>by
  obtain⟨l,l1,l2,l3⟩:=BQ nd (hB t (Qj ..));obtain⟨b1,k1,e1,n1,i1,m1⟩:=wG U hU (.dat (stD t)) (.dat (.dic (msD (enM mm)))) l b kk (λs hs=>sub t s ((l2 s).mp hs)) n i;obtain⟨k2,e2',n2,i2,m2⟩:=xj B (.dat (stD t)) b1 k1 (λx hx=>hB x (Qg _ hx)) n1 i1;refine⟨k2,?_,n2,i2,λx=>?_⟩
  ·have it:itB [.dat (stD t),b,.dat (.dic (msD (enM mm)))]=some (l.map stD):=nU (aU (x:=.dic (msD (enM mm))) (y:=stD t) rfl rfl l1)
   show(itB [.dat (stD t),b,.dat (.dic (msD (enM mm)))]).bind _=_;rw[it];show(if(l.map stD).length<1000000 then(sc1 (ak 1) (av 1) (l.map stD) [.dat (stD t),b,.dat (.dic (msD (enM mm)))] kk).bind _ else none)=_;rw[if_pos (by rw[Qi];omega),e1];exact e2'
  ·rw[m2 x,m1 x]
   constructor
   ·rintro((z | ⟨s,hs,z⟩) | ⟨y,hy,z⟩)
    ·exact .inl z
    ·exact .inr ⟨t,Qj ..,s,(l2 s).mp hs,z⟩
    ·exact .inr ⟨y,Qg _ hy,z⟩
   ·rintro(z | ⟨y,hy,s,r,z⟩)
    ·exact .inl (.inl z)
    ·rcases Qn.1 hy with rfl | hy
     ·exact .inl (.inr ⟨s,(l2 s).mpr r,z⟩)
     ·exact .inr ⟨y,hy,s,r,z⟩
end
structure Srtd(B:List Stt)(P:Stt->Prop):Prop where
 mem:∀s,s∈B↔P s
 kk:∃kk:List (List Int),kk.Nodup/\B=(eB kk).map toS
theorem sN{kk:List (List Int)}{P:Stt->Prop}(n:kk.Nodup)(h:∀x,x∈kk↔∃s,P s/\x=stK s):Srtd ((eB kk).map toS) P/\(eB kk).map dW=((eB kk).map toS).map stD:=by
 refine⟨⟨λs=>?_,kk,n,rfl⟩,?_⟩
 ·rw[Q2]
  constructor
  ·rintro⟨x,hx,rfl⟩
   obtain⟨s,p,rfl⟩:=(h x).mp ((bO _).mem_iff.mp hx);rw[kJ];exact p
  ·exact λp=>⟨stK s,(bO _).mem_iff.mpr ((h _).mpr ⟨s,p,rfl⟩),kJ s⟩
 ·rw[JK]
  refine List.map_congr_left λx hx=>?_;obtain⟨s,p,rfl⟩:=(h x).mp ((bO _).mem_iff.mp hx);rfl
end Ps
namespace Lw
open PySem PySem.Spec PyProof.Rows L2 Dn
open Fl
open Ly
open Ps
def top(i:Nat):Stmt:=PySem.Challenge.pw_ballastbook_k33_whole_the_true_flight_is.main.body.getD i (.Pass ⟨0,0,0,0⟩)
abbrev jO(Z:Wq):Prop:=OkD Z "_law_copy" (top 38) fN 1 dN
abbrev kY(Z:Wq):Prop:=OkD Z "inside" (top 2) jo 1 fZ
abbrev rT(Z:Wq):Prop:=OkD Z "fits" (top 20) oz 2 jv
abbrev nr(Z:Wq):Prop:=OkD Z "wind_at" (top 12) iB 1 f7
abbrev qG(Z:Wq):Prop:=OkD Z "led_to" (top 16) iY 2 lM
abbrev fE(Z:Wq):Prop:=OkD Z "why_not_ordered" (top 15) cB 1 dm
abbrev jR(Z:Wq):Prop:=OkD Z "ground_at" (top 7) fO 1 fD
abbrev mS(Z:Wq):Prop:=OkD Z "shut_at" (top 9) iA 2 iy
abbrev gJ(Z:Wq):Prop:=OkD Z "why_not_stand" (top 10) cX 3 dY
abbrev tX(Z:Wq):Prop:=OkD Z "tried" (top 17) kq 4 jq
abbrev uz(Z:Wq):Prop:=OkD Z "moves" (top 18) kG 5 kC
abbrev jh(Z:Wq):Prop:=OkD Z "fitting_on" (top 21) d6 6 gm
abbrev vM:List Str:=["sky","hour","state","until","sightings","found","at","later"]
abbrev iD:List Str:=["sky","hour","state","until","sightings"]
def eI:Ev->Option Fl:=(aC (a8 7 (aK gm (ag (av 0) (ag (av 6) (ag (eF (k_ (e2 ixD (aa 5) (ma (eC (.int 1)))))) (ag (av 4) aF)))))) (aC (sIf (dZ (xb (av 7))) (λ_=>none) bC) (dg 5 (av 7))))
def mZ:Ev->Option Fl:=(aC (sIf (dZ (ec (aK jv (ag (av 4) (ag (av 1) (ag (av 2) aF)))))) (λ_=>none) bC) (aC (fj 5 (cI (ag (Fk (fD1 (av 2) (eF (cI aF)))) aF))) (aC (cJ (A_ (av 1) (av 3)) (ak 6) (eI)) (sFz 5 (bh (av 5))))))
def F_fitting:List D->Option D:=fnD vM iD mZ
abbrev nE(Z:Wq):Prop:=OkD Z "fitting" (top 22) iD 7 F_fitting
abbrev rH:List Str:=["sky","hour","state","until","sightings","found","stood","told","later"]
abbrev gy:List Str:=["sky","hour","state","until","sightings"]
def dF:Ev->Option Fl:=(aC (a8 6 (eF (xV (cV (av 6)) 2 [8] (ak 0) (cV (e2 wb (aa 2) (aa 0))) (ak 1) (av 1)))) (dg 7 (av 6)))
def lI:Ev->Option Fl:=(aC (a8 5 (aK F_fitting (ag (av 0) (ag (av 1) (ag (av 2) (ag (av 3) (ag (av 4) aF))))))) (aC (a8 6 (eF (qd (e2 ixD (aa 5) (ma (eC (.int 1))))))) (aC (fj 7 (cI (ag (av 6) aF))) (aC (cJ (ua (eF (eSl (aa 5) (aT (eC (.int 1))) b9))) (ak 8) (dF)) (bh (eF (BU (aa 7) (aT (ma (eC (.int 1)))))))))))
def eZ:List D->Option D:=fnD rH gy lI
abbrev ly(Z:Wq):Prop:=OkD Z "possible" (top 23) gy 8 eZ
abbrev lh:List Str:=["_law_script","_law_many","_law_row","_law_seed","_law_cell","_law_rest","_law_k"]
abbrev dA:List Str:=["_law_script","_law_many"]
def i6:Ev->Option Fl:=(sIf (ay gtI (aa 5) (eC (.int 0))) (aC (dg 2 (e2 aH (aa 5) (eC (.int 1000)))) (a8 5 (e2 cC (aa 5) (eC (.int 1000))))) bC)
def jd:Ev->Option Fl:=(aC (a8 3 (e2 aH (e2 aN (e2 aN (e2 bH (aa 3) (eC (.int 69621))) (e2 aH (aa 4) (eC (.int 999983)))) (eC (.int 7))) (eC (.int 2147483629)))) (aC (a8 5 (e2 bA (aa 4) (e2 p0 (eC (.int 10)) (eC (.int 18))))) (aC (sIf (ay ltI (aa 5) (eC (.int 0))) (dg 2 (e2 aH (aa 4) (eC (.int 1000)))) bC) (cJ (cy (eC (.int 60))) (ak 6) (i6)))))
def jc:Ev->Option Fl:=(sIf (ay ltI (bS bU (aa 2)) (aa 1)) (aC (a8 3 (e2 aH (e2 aN (e2 aN (e2 aN (e2 p0 (aa 3) (eC (.int 3))) (e2 bH (eC (.int 40692)) (aa 3))) (e2 bH (eC (.int 7)) (aa 6))) (eC (.int 5))) (eC (.int 2147483629)))) (dg 2 (e2 aH (e2 cC (aa 3) (eC (.int 1009))) (eC (.int 1000))))) bC)
def ip:Ev->Option Fl:=(aC (fj 2 (cI aF)) (aC (a8 3 (eC (.int 29))) (aC (cJ (cV (eF (eSl (aa 0) b9 (aT (eC (.int 63)))))) (ak 4) (jd)) (aC (cJ (cy (av 1)) (ak 6) (jc)) (bh (eF (eSl (aa 2) b9 (aT (aa 1)))))))))
def eU:List D->Option D:=fnD lh dA ip
abbrev gP(Z:Wq):Prop:=OkD Z "_law_numbers" (top 25) dA 1 eU
abbrev qh:List Str:=["_law_d"]
abbrev fL:List Str:=["_law_d"]
def qL:Ev->Option Fl:=(aC (sIf (ay br (e2 aH (e2 ixD (aa 0) (eC (.int 0))) (eC (.int 5))) (eC (.int 1))) (bh (bM (ag (e2 bA (e2 ixD (aa 0) (eC (.int 1))) (eC (.int 500))) (ag (e2 bA (e2 ixD (aa 0) (eC (.int 2))) (eC (.int 500))) aF)))) bC) (aC (sIf (ay br (e2 aH (e2 ixD (aa 0) (eC (.int 0))) (eC (.int 5))) (eC (.int 2))) (bh (bM (ag (e2 bH (e2 bA (e2 aH (e2 ixD (aa 0) (eC (.int 1))) (eC (.int 3))) (eC (.int 1))) (eC (.int 985))) (ag (e2 bH (e2 bA (e2 aH (e2 ixD (aa 0) (eC (.int 2))) (eC (.int 3))) (eC (.int 1))) (eC (.int 985))) aF)))) bC) (bh (bM (ag (eC (.int 0)) (ag (eC (.int 0)) aF))))))
def ic:List D->Option D:=fnD qh fL qL
abbrev jZ(Z:Wq):Prop:=OkD Z "_law_base" (top 26) fL 1 ic
abbrev r_:List Str:=["_law_d","_law_base_here","_law_x","_law_y","_law_low"]
abbrev gz:List Str:=["_law_d","_law_base_here"]
def so:Ev->Option Fl:=(aC (a8 2 (e2 bA (e2 aN (e2 ixD (aa 1) (eC (.int 0))) (e2 aH (e2 ixD (aa 0) (eC (.int 0))) (eC (.int 9)))) (eC (.int 4)))) (aC (a8 3 (e2 bA (e2 aN (e2 ixD (aa 1) (eC (.int 1))) (e2 aH (e2 ixD (aa 0) (eC (.int 1))) (eC (.int 9)))) (eC (.int 4)))) (aC (a8 4 (e2 aH (e2 ixD (aa 0) (eC (.int 4))) (eC (.int 6)))) (bh (bM (ag (av 2) (ag (av 3) (ag (e2 aN (aa 2) (e2 aH (e2 ixD (aa 0) (eC (.int 2))) (eC (.int 4)))) (ag (e2 aN (aa 3) (e2 aH (e2 ixD (aa 0) (eC (.int 3))) (eC (.int 4)))) (ag (av 4) (ag (e2 aN (aa 4) (e2 aH (e2 ixD (aa 0) (eC (.int 5))) (e2 bA (eC (.int 6)) (aa 4)))) aF)))))))))))
def gu:List D->Option D:=fnD r_ gz so
abbrev iQ(Z:Wq):Prop:=OkD Z "_law_box" (top 27) gz 1 gu
abbrev rR:List Str:=["_law_d","_law_base_here","_law_hour","_law_hills","_law_j","_law_cool","_law_one","_law_winds","_law_w","_law_first","_law_shuts","_law_s"]
abbrev gC:List Str:=["_law_d","_law_base_here","_law_hour"]
def me:Ev->Option Fl:=(dg 3 (bM (ag (e2 bA (e2 aN (e2 ixD (aa 1) (eC (.int 0))) (e2 aH (e2 ixD (aa 0) (e2 aN (e2 bH (eC (.int 3)) (aa 4)) (eC (.int 1)))) (eC (.int 9)))) (eC (.int 4))) (ag (e2 bA (e2 aN (e2 ixD (aa 1) (eC (.int 1))) (e2 aH (e2 ixD (aa 0) (e2 aN (e2 bH (eC (.int 3)) (aa 4)) (eC (.int 2)))) (eC (.int 9)))) (eC (.int 4))) (ag (e2 aN (eC (.int 1)) (e2 aH (e2 ixD (aa 0) (e2 aN (e2 bH (eC (.int 3)) (aa 4)) (eC (.int 3)))) (eC (.int 5)))) aF)))))
def mw:Ev->Option Fl:=(aC (a8 6 (e2 ixD (eF (cI (ag (e2 aH (e2 ixD (aa 0) (e2 aN (eC (.int 16)) (aa 4))) (eC (.int 24))) (ag (e2 aH (e2 aN (aa 2) (e2 aH (e2 ixD (aa 0) (e2 aN (eC (.int 16)) (aa 4))) (eC (.int 4)))) (eC (.int 24))) aF)))) (e2 aH (e2 cC (e2 ixD (aa 0) (eC (.int 0))) (eC (.int 30))) (eC (.int 2))))) (sIf (ay (inD true) (aa 6) (aa 5)) (dg 5 (av 6)) bC))
def mr:Ev->Option Fl:=(aC (a8 8 (eF (eSl (aa 0) (aT (e2 aN (eC (.int 22)) (e2 bH (eC (.int 4)) (aa 4)))) (aT (e2 aN (eC (.int 26)) (e2 bH (eC (.int 4)) (aa 4))))))) (aC (a8 9 (e2 ixD (eF (cI (ag (e2 aH (e2 ixD (aa 8) (eC (.int 0))) (eC (.int 24))) (ag (e2 aH (e2 aN (aa 2) (e2 aH (e2 cC (e2 ixD (aa 8) (eC (.int 0))) (eC (.int 7))) (eC (.int 6)))) (eC (.int 24))) aF)))) (e2 aH (e2 cC (e2 ixD (aa 8) (eC (.int 1))) (eC (.int 6))) (eC (.int 2))))) (dg 7 (bM (ag (av 9) (ag (e2 aH (e2 ixD (aa 8) (eC (.int 1))) (eC (.int 6))) (ag (e2 bA (e2 aH (e2 ixD (aa 8) (eC (.int 2))) (eC (.int 5))) (eC (.int 2))) (ag (e2 bA (e2 aH (e2 ixD (aa 8) (eC (.int 3))) (eC (.int 5))) (eC (.int 2))) aF))))))))
def mC:Ev->Option Fl:=(aC (a8 11 (eF (eSl (aa 0) (aT (e2 aN (eC (.int 91)) (e2 bH (eC (.int 8)) (aa 4)))) (aT (e2 aN (eC (.int 99)) (e2 bH (eC (.int 8)) (aa 4))))))) (aC (a8 9 (e2 ixD (eF (cI (ag (e2 aH (e2 ixD (aa 11) (eC (.int 6))) (eC (.int 25))) (ag (av 2) aF)))) (e2 aH (e2 ixD (aa 11) (eC (.int 7))) (eC (.int 2))))) (dg 10 (e2 CatI.oS (aK gu (ag (av 11) (ag (av 1) aF))) (bM (ag (av 9) (ag (e2 aN (aa 9) (e2 aH (e2 cC (e2 ixD (aa 11) (eC (.int 7))) (eC (.int 2))) (e2 bA (eC (.int 25)) (aa 9)))) aF)))))))
def qY:Ev->Option Fl:=(aC (fj 3 (cI aF)) (aC (cJ (cy (e2 aH (e2 ixD (aa 0) (eC (.int 0))) (eC (.int 6)))) (ak 4) (me)) (aC (fj 5 (cI aF)) (aC (cJ (cy (e2 aH (e2 cC (e2 ixD (aa 0) (eC (.int 0))) (eC (.int 6))) (eC (.int 5)))) (ak 4) (mw)) (aC (fj 7 (cI aF)) (aC (sIf (ay gtI (e2 aH (e2 ixD (aa 0) (eC (.int 21))) (eC (.int 4))) (eC (.int 0))) (fj 7 (eLC (cy (eC (.int 6))) 1 [0] (ak 0) lr (bM (ag (eC (.int 0)) (ag (av 0) (ag (e2 bA (e2 aH (e2 ixD (aa 1) (e2 aN (eC (.int 78)) (e2 bH (eC (.int 2)) (aa 0)))) (eC (.int 5))) (eC (.int 2))) (ag (e2 bA (e2 aH (e2 ixD (aa 1) (e2 aN (eC (.int 79)) (e2 bH (eC (.int 2)) (aa 0)))) (eC (.int 5))) (eC (.int 2))) aF))))))) bC) (aC (cJ (cy (e2 aH (e2 cC (e2 ixD (aa 0) (eC (.int 21))) (eC (.int 4))) (eC (.int 14)))) (ak 4) (mr)) (aC (fj 10 (cI aF)) (aC (cJ (cy (e2 aH (e2 ixD (aa 0) (eC (.int 90))) (eC (.int 4)))) (ak 4) (mC)) (sFz 10 (sFz 7 (sFz 5 (sFz 3 (bh (bM (ag (av 3) (ag (av 5) (ag (av 7) (ag (av 10) aF)))))))))))))))))))
def iO:List D->Option D:=fnD rR gC qY
abbrev k5(Z:Wq):Prop:=OkD Z "_law_sky" (top 28) gC 2 iO
abbrev oO:List Str:=["_law_d","_law_base_here","_law_most","_law_x","_law_y"]
abbrev d9:List Str:=["_law_d","_law_base_here","_law_most"]
def iZ:Ev->Option Fl:=(aC (a8 3 (e2 bA (e2 aN (e2 ixD (aa 1) (eC (.int 0))) (e2 aH (e2 ixD (aa 0) (eC (.int 0))) (eC (.int 7)))) (eC (.int 3)))) (aC (a8 4 (e2 bA (e2 aN (e2 ixD (aa 1) (eC (.int 1))) (e2 aH (e2 ixD (aa 0) (eC (.int 1))) (eC (.int 7)))) (eC (.int 3)))) (bh (bM (ag (av 3) (ag (av 4) (ag (e2 aH (e2 ixD (aa 0) (eC (.int 2))) (eC (.int 6))) (ag (e2 aH (e2 ixD (aa 0) (eC (.int 3))) (e2 aN (aa 2) (eC (.int 1)))) (ag (e2 aH (e2 ixD (aa 0) (eC (.int 4))) (e2 aN (aa 2) (eC (.int 1)))) aF)))))))))
def gF:List D->Option D:=fnD oO d9 iZ
abbrev js(Z:Wq):Prop:=OkD Z "_law_state" (top 29) d9 1 gF
abbrev jQ(Z:Wq):Prop:=OkD Z "_law_wind" (top 30) fG 1 fM
abbrev iR(Z:Wq):Prop:=OkD Z "_law_led" (top 35) gE 2 dC
abbrev iM(Z:Wq):Prop:=OkD Z "_law_ground" (top 31) dG 1 dI
abbrev jD(Z:Wq):Prop:=OkD Z "_law_in" (top 32) iC 1 eN
abbrev jS(Z:Wq):Prop:=OkD Z "_law_shut" (top 33) fF 2 fJ
abbrev i_(Z:Wq):Prop:=OkD Z "_law_stand" (top 34) eE 3 gA
abbrev l6(Z:Wq):Prop:=OkD Z "_law_why" (top 36) gx 4 gv
abbrev jP(Z:Wq):Prop:=OkD Z "_law_next" (top 37) fw 5 fI
abbrev qB:List Str:=["_law_sky_here","_law_hour","_law_state_here","_law_d","_law_path","_law_at","_law_some"]
abbrev fH:List Str:=["_law_sky_here","_law_hour","_law_state_here","_law_d"]
def cK:Ev->Option Fl:=(aC (a8 6 (aK fI (ag (av 0) (ag (e2 aN (aa 1) (aa 5)) (ag (eF (cI (ag (e2 ixD (aa 4) (ma (eC (.int 1)))) aF))) aF))))) (aC (sIf (ay gtI (bS bU (aa 6)) (eC (.int 0))) (dg 4 (e2 ixD (aa 6) (e2 aH (e2 ixD (aa 3) (e2 aN (eC (.int 1)) (aa 5))) (bS bU (aa 6))))) bC) (sIf (ay br (bS bU (aa 6)) (eC (.int 0))) (sFz 4 (bh (av 4))) bC)))
def jV:Ev->Option Fl:=(aC (fj 4 (cI (ag (av 2) aF))) (aC (cJ (cy (aK pX (ag (e2 aH (e2 ixD (aa 3) (eC (.int 0))) (eC (.int 9))) (ag (e2 bA (eC (.int 24)) (aa 1)) aF)))) (ak 5) (cK)) (sFz 4 (bh (av 4)))))
def h8:List D->Option D:=fnD qB fH jV
abbrev jY(Z:Wq):Prop:=OkD Z "_law_true" (top 40) fH 6 h8
abbrev mE:List Str:=["_law_d","_law_hour","_law_many","_law_layers","_law_base_here","_law_found","_law_k","_law_s","_law_at","_law_box_here","_law_one","_law_wide"]
abbrev dH:List Str:=["_law_d","_law_hour","_law_many","_law_layers","_law_base_here"]
def cP:Ev->Option Fl:=(aC (a8 7 (eF (eSl (aa 0) (aT (e2 aN (eC (.int 1)) (e2 bH (eC (.int 10)) (aa 6)))) (aT (e2 aN (eC (.int 11)) (e2 bH (eC (.int 10)) (aa 6))))))) (aC (a8 8 (e2 aH (e2 ixD (aa 7) (eC (.int 0))) (e2 aN (aa 2) (eC (.int 1))))) (aC (a8 9 (aK gu (ag (eF (eSl (aa 7) (aT (eC (.int 1))) (aT (eC (.int 7))))) (ag (av 4) aF)))) (aC (sIf (bJ (ay gtI (bS bU (e2 ixD (aa 3) (aa 8))) (eC (.int 0))) (ay gtI (e2 aH (e2 ixD (aa 7) (eC (.int 7))) (eC (.int 4))) (eC (.int 0)))) (aC (a8 10 (e2 ixD (e2 ixD (aa 3) (aa 8)) (e2 aH (e2 ixD (aa 7) (eC (.int 8))) (bS bU (e2 ixD (aa 3) (aa 8)))))) (aC (a8 11 (e2 aH (e2 cC (e2 ixD (aa 7) (eC (.int 7))) (eC (.int 4))) (eC (.int 3)))) (a8 9 (bM (ag (e2 bA (e2 ixD (aa 10) (eC (.int 0))) (aa 11)) (ag (e2 bA (e2 ixD (aa 10) (eC (.int 1))) (e2 aH (e2 ixD (aa 7) (eC (.int 1))) (eC (.int 3)))) (ag (e2 aN (e2 ixD (aa 10) (eC (.int 0))) (e2 aH (e2 ixD (aa 7) (eC (.int 2))) (eC (.int 3)))) (ag (e2 aN (e2 ixD (aa 10) (eC (.int 1))) (aa 11)) (ag (e2 aH (e2 ixD (aa 7) (eC (.int 3))) (e2 aN (e2 ixD (aa 10) (eC (.int 2))) (eC (.int 1)))) (ag (eC (.int 5)) aF)))))))))) bC) (dg 5 (e2 CatI.oS (e2 CatI.oS (bM (ag (e2 aN (aa 1) (aa 8)) aF)) (aa 9)) (bM (ag (e2 gtI (e2 aH (e2 ixD (aa 7) (eC (.int 9))) (eC (.int 3))) (eC (.int 0))) aF))))))))
def iG:Ev->Option Fl:=(aC (fj 5 (cI aF)) (aC (cJ (cy (e2 aH (e2 ixD (aa 0) (eC (.int 0))) (eC (.int 6)))) (ak 6) (cP)) (sFz 5 (bh (av 5)))))
def fQ:List D->Option D:=fnD mE dH iG
abbrev iJ(Z:Wq):Prop:=OkD Z "_law_sights" (top 39) dH 2 fQ
abbrev F_:List Str:=["_law_script","_law_numbers_here","_law_base_here","_law_hour","_law_sky_here","_law_most","_law_path","_law_layers","_law_drawn","_law_sightings","_law_one","_law_state_here","_law_found","_law_at","_law_x","_law_y","_law_z"]
abbrev tG:List Str:=["_law_script"]
def hV:Ev->Option Fl:=(aC (gS (fq (e2 ixD (aa 6) (aa 13)) b9 (aT (eC (.int 3)))) (df 3 (aA (ak 14) (aA (ak 15) (aA (ak 16) bI))))) (dg 9 (bM (ag (e2 aN (aa 3) (aa 13)) (ag (av 14) (ag (av 15) (ag (av 14) (ag (av 15) (ag (av 16) (ag (av 16) (ag (eC (.bl true)) aF)))))))))))
def gW:Ev->Option Fl:=(sIf (jE (ay (n_ true) (e2 ixD (aa 6) (aa 13)) (e2 ixD (aa 12) (aa 13))) (ec (aK xX (ag (eF (eLC (cV (e2 ixD (aa 12) (aa 13))) 1 [6,13] (ak 0) lr (e2 kn (fq (aa 0) b9 (aT (eC (.int 3)))) (fq (e2 ixD (aa 1) (aa 2)) b9 (aT (eC (.int 3))))))) aF)))) (bh (eC (.bl false))) bC)
def jr:Ev->Option Fl:=(aC (a8 11 (e2 ixD (aa 6) (e2 bA (e2 ixD (aa 10) (eC (.int 0))) (aa 3)))) (dg 9 (e2 CatI.oS (fq (aa 10) b9 (aT (eC (.int 7)))) (bM (ag (aK eN (ag (fq (aa 10) (aT (eC (.int 1))) (aT (eC (.int 7)))) (ag (e2 ixD (aa 11) (eC (.int 0))) (ag (e2 ixD (aa 11) (eC (.int 1))) (ag (e2 ixD (aa 11) (eC (.int 2))) aF))))) aF)))))
def yJ:Ev->Option Fl:=(aC (a8 1 (aK eU (ag (av 0) (ag (eC (.int 230)) aF)))) (aC (a8 2 (aK ic (ag (eF (eSl (aa 1) b9 (aT (eC (.int 3))))) aF))) (aC (a8 3 (e2 aH (e2 ixD (aa 1) (eC (.int 3))) (eC (.int 25)))) (aC (a8 4 (aK iO (ag (eF (eSl (aa 1) (aT (eC (.int 10))) (aT (eC (.int 130))))) (ag (av 2) (ag (av 3) aF))))) (aC (a8 5 (e2 ixD (eF (cI (ag (eC (.int 6)) (ag (eC (.int 2)) (ag (eC (.int 1)) aF))))) (e2 aH (e2 ixD (aa 1) (eC (.int 4))) (eC (.int 3))))) (aC (a8 6 (aK h8 (ag (av 4) (ag (av 3) (ag (aK gF (ag (eF (eSl (aa 1) (aT (eC (.int 130))) (aT (eC (.int 136))))) (ag (av 2) (ag (av 5) aF)))) (ag (eF (eSl (aa 1) (aT (eC (.int 136))) (aT (eC (.int 146))))) aF)))))) (aC (sIf (ay br (aa 5) (eC (.int 6))) (a8 6 (eF (eSl (aa 6) b9 (aT (eC (.int 6)))))) bC) (aC (a8 7 (eF (eLC (cV (av 6)) 1 [] (ak 0) lr (eF (cI (ag (av 0) aF)))))) (aC (a8 8 (aK fQ (ag (eF (eSl (aa 1) (aT (eC (.int 146))) (aT (eC (.int 208))))) (ag (av 3) (ag (e2 bA (bS bU (aa 6)) (eC (.int 1))) (ag (av 7) (ag (av 2) aF))))))) (aC (fj 9 (cI aF)) (aC (cJ (cV (av 8)) (ak 10) (jr)) (yI 12 9 (aK eZ (ag (aK dN (ag (av 4) aF)) (ag (av 3) (ag (e2 ixD (aa 6) (eC (.int 0))) (ag (e2 bA (e2 aN (aa 3) (bS bU (aa 6))) (eC (.int 1))) (ag (av 9) aF)))))) (mIf (jE (dZ (ec (xw (wA "list") (aa 12)))) (ay kn (bS bU (aa 12)) (bS bU (aa 6)))) (mIf (dZ (ec (aK qx (ag (eF (eLC (cy (bS bU (aa 6))) 1 [6,12] (ak 0) lr (e2 (n_ false) (e2 ixD (aa 1) (aa 0)) (e2 ixD (aa 2) (aa 0))))) aF)))) CQ)) (aC (cJ (cy (bS bU (aa 6))) (ak 13) (hV)) (aC (sFz 9 (a8 12 (aK eZ (ag (aK dN (ag (av 4) aF)) (ag (av 3) (ag (e2 ixD (aa 6) (eC (.int 0))) (ag (e2 bA (e2 aN (aa 3) (bS bU (aa 6))) (eC (.int 1))) (ag (av 9) aF)))))))) (aC (cJ (cy (bS bU (aa 6))) (ak 13) (gW)) (bh (eC (.bl true))))))))))))))))))
def uE:List D->Option D:=fnD F_ tG yJ
abbrev xu(Z:Wq):Prop:=OkD Z "law" (top 41) tG 9 uE
structure Md(Z:Wq):Prop where
 u_ORDERS:∃a,Z.mg "ORDERS" = some (.ref a)/\Dt Z.K a [.str "up",.str "level",.str "down"]
 b_all:Z.mg "all" = none
 b_any:Z.mg "any" = none
 b_isinstance:Z.mg "isinstance" = none
 b_len:Z.mg "len" = none
 b_list:Z.mg "list" = none
 b_max:Z.mg "max" = none
 b_min:Z.mg "min" = none
 b_range:Z.mg "range" = none
 b_reversed:Z.mg "reversed" = none
 b_sorted:Z.mg "sorted" = none
 g_TOP_HEIGHT:∃t,Z.mg "TOP_HEIGHT" = some (.int 5 t)
theorem qN{Z:Wq}(R:FX Z "_law_copy" (top 38) fN)(M:Md Z):jO Z:=bdF R λd _ _ _ _ _ _ _ _ hr=>(aw (aS (bK (ah (DF.de (kF (DE.db (az (ae 0) (DE.db af))) M.b_list)) (ah (DF.de (kF (DE.db (az (ae 0) (DE.db af))) M.b_list)) (ah (DF.de (kF (DE.db (az (ae 0) (DE.db af))) M.b_list)) (ah (DF.de (kF (DE.db (az (ae 0) (DE.db af))) M.b_list)) aB)))))))
theorem yf{Z:Wq}(R:FX Z "inside" (top 2) jo)(M:Md Z):kY Z:=bdF R λd _ _ _ _ _ _ _ _ hr=>(aq (dS (ar 0) (dU rfl (aD (ax 4 d) (aD (ax 5 d) (aD (ax 6 d) (aD (ax 7 d) (aD (ax 8 d) (aD (ax 9 d) cG)))))))) (aw (aS (iP (xU dQ dQ (ae 4) (ae 1) (ae 6)) (iP (xU dQ dQ (ae 5) (ae 2) (ae 7)) (xY (xU dQ dQ (ae 8) (ae 3) (ae 9))))))))
theorem Ez{Z:Wq}(R:FX Z "fits" (top 20) oz)(M:Md Z)(h_inside:kY Z):rT Z:=bdF R λd _ _ _ _ _ _ _ _ hr=>(aq (dS (ar 2) (dU rfl (aD (ax 3 d) (aD (ax 4 d) (aD (ax 5 d) (aD (ax 6 d) (aD (ax 7 d) cG))))))) (aq (b6 Q3 rfl (ck (ar 0)) (ax 8 d) (aw (bG (DW.dt (cT (aP (bw hr) (DE.db (az (ae 8) (DE.db af))) (ae 1) (aL _)) (bZ (aP (oI hr) (DE.db (cF h_inside hr (ah (gc (ae 8) (aZ (DE.db af)) (aZ (DE.db af))) (ah (ar 3) (ah (ar 4) (ah (ar 5) aB)))))) (DE.db (az (ae 8) (DE.db af))) (aL _))))) (aw (aS i5)) aV))) (aw (aS i5))))
theorem wm{Z:Wq}(R:FX Z "wind_at" (top 12) iB)(M:Md Z):nr Z:=bdF R λd _ _ _ _ _ _ _ _ hr=>(aq (aY 3 d rg) (aq (b6 Q3 rfl (ck (ar 0)) (ax 4 d) (aq (bG (DW.dt (uG (aP (oI hr) (DE.db (az (ae 4) (DE.db af))) (ae 2) (aL _)) (oW (aP jN (DE.db (az (ae 4) (DE.db af))) (ae 1) (aL _))))) (aw qW) aV) (aw (bG (DW.dt (uG (aP BZ (ae 3) (DE.db rg) (aL _)) (oW (aP F6 (DE.db (az (ae 4) (DE.db af))) (DE.db (az (ae 3) (DE.db af))) (aL _))))) (aw (aY 3 d (ar 4))) aV)))) (aq (bG (aP BZ (ae 3) (DE.db rg) (aL _)) (aw (aS (bK (ah af (ah af aB))))) aV) (aw (aS (bK (ah (az (ae 3) (DE.db af)) (ah (az (ae 3) (DE.db af)) aB))))))))
theorem zm{Z:Wq}(R:FX Z "led_to" (top 16) iY)(M:Md Z)(h_wind_at:nr Z):qG Z:=bdF R λd _ _ _ _ _ _ _ _ hr=>(aq (dS (ar 0) (dU rfl (aD (ax 4 d) (aD (ax 5 d) (aD (ax 6 d) (aD (ax 7 d) cG)))))) (aq (dS (ar 2) (dU rfl (aD (ax 8 d) (aD (ax 9 d) (aD (ax 10 d) (aD (ax 11 d) (aD (ax 12 d) cG))))))) (aq (bG (aP (bw hr) (ae 3) (DE.db bg) (aL _)) (aw (yN 10 11 d (ah (ao aQ (ae 10) (DE.db af)) (ah (ao bq (ae 11) (DE.db af)) aB)))) (aw (bG (aP (bw hr) (ae 3) (DE.db bg) (aL _)) (aw (yN 10 12 d (ah (ao bq (ae 10) (DE.db af)) (ah (ao bq (ae 12) (DE.db af)) aB)))) aV))) (aq (bG (aP yV (ae 1) (ae 5) (by with_unfolding_all rfl)) (aw (aY 10 d (dO (oE rfl) M.b_max (by rfl) (ah (ao bq (ae 10) (DE.db af)) (ah af aB))))) aV) (aq (dS (cF h_wind_at hr (ah (ar 6) (ah (ar 1) (ah (ar 10) aB)))) (dU rfl (aD (ax 13 d) (aD (ax 14 d) cG)))) (aw (aS (bK (ah (ao aQ (ae 8) (ae 13)) (ah (ao aQ (ae 9) (ae 14)) (ah (ar 10) (ah (ar 11) (ah (ar 12) aB)))))))))))))
theorem i9{Z:Wq}(R:FX Z "why_not_ordered" (top 15) cB)(M:Md Z):fE Z:=let⟨_,gi_TOP_HEIGHT⟩:=M.g_TOP_HEIGHT;bdF R λd _ _ _ _ _ _ _ _ hr=>(aq (dS (ar 0) (dU rfl (aD (ax 2 d) (aD (ax 3 d) (aD (ax 4 d) (aD (ax 5 d) (aD (ax 6 d) cG))))))) (aq (bG (DW.dt (cT (aP (bw hr) (ae 1) (DE.db bg) (aL _)) (bZ (aP nP (ae 5) (DE.db af) (aL _))))) (aw (aS bg)) aV) (aq (bG (DW.dt (cT (aP (bw hr) (ae 1) (DE.db bg) (aL _)) (bZ (aP nP (ae 6) (DE.db af) (aL _))))) (aw (aS bg)) aV) (aq (bG (DW.dt (cT (aP (bw hr) (ae 1) (DE.db bg) (aL _)) (bZ (aP (bw hr) (ae 4) (DE.db (Bo rfl gi_TOP_HEIGHT)) (aL _))))) (aw (aS bg)) aV) (aq (bG (DW.dt (cT (aP (bw hr) (ae 1) (DE.db bg) (aL _)) (bZ (aP (bw hr) (ae 4) (DE.db af) (aL _))))) (aw (aS bg)) aV) (aw (aS bg)))))))
theorem pf{Z:Wq}(R:FX Z "ground_at" (top 7) fO)(M:Md Z):jR Z:=bdF R λd _ _ _ _ _ _ _ _ hr=>(aq (rK 3 (tn:=["hill_x","hill_y","top"]) (fr:=["x","y"]) (ix:=[1,2]) rfl d (ck (ar 0)) (d7 (by rfl) (by exact⟨⟨rfl,rfl⟩,⟨rfl,rfl⟩,trivial⟩) (by exact⟨rfl,rfl,trivial⟩) (by rfl) (by rfl) (by rfl) (by rfl) (by rfl)) (wY (fV (cD _) (fV (cD _) (fV (cD _) uc)))) (λ_ _ _ _ _=>(xx rfl (aD (ax 0 (show(((["hill_x","hill_y","top"]:List Str)++(["x","y"]:List Str)):List Str).Nodup by decide +kernel)) (aD (ax 1 (show(((["hill_x","hill_y","top"]:List Str)++(["x","y"]:List Str)):List Str).Nodup by decide +kernel)) (aD (ax 2 (show(((["hill_x","hill_y","top"]:List Str)++(["x","y"]:List Str)):List Str).Nodup by decide +kernel)) cG))))) (λ_ _ _ _ _=>(kH (DW.dt (cT (aP (bw hr) (ae 0) (ae 3) (aL _)) (bZ (aP (bw hr) (ae 1) (ae 4) (aL _))))))) (λ_ _ _ _ _=>(ar 2))) (aw (aS (yj (ar 3) af rfl M.b_max))))
theorem vX{Z:Wq}(R:FX Z "shut_at" (top 9) iA)(M:Md Z)(h_inside:kY Z):mS Z:=bdF R λd _ _ _ _ _ _ _ _ hr=>(aq (b6 Q3 rfl (ck (ar 0)) (ax 5 d) (aw (bG (DW.dt (cT (Fo dQ dQ (DE.db (az (ae 5) (DE.db af))) (ae 1) (DE.db (az (ae 5) (DE.db af)))) (bZ (dP (DE.db (cF h_inside hr (ah (gc (ae 5) cY (aZ (DE.db af))) (ah (ar 2) (ah (ar 3) (ah (ar 4) aB)))))))))) (aw (aS i5)) aV))) (aw (aS i5)))
theorem kf{Z:Wq}(R:FX Z "why_not_stand" (top 10) cX)(M:Md Z)(h_ground_at:jR Z)(h_shut_at:mS Z):gJ Z:=bdF R λd _ _ _ _ _ _ _ _ hr=>(aq (dS (ar 0) (dU rfl (aD (ax 3 d) (aD (ax 4 d) (aD (ax 5 d) (aD (ax 6 d) cG)))))) (aq (dS (ar 2) (dU rfl (aD (ax 7 d) (aD (ax 8 d) (aD (ax 9 d) (aD (ax 10 d) (aD (ax 11 d) cG))))))) (aq (bG (aP nP (ae 9) (DE.db (cF h_ground_at hr (ah (ar 3) (ah (ar 7) (ah (ar 8) aB))))) (aL _)) (aw (aS bg)) aV) (aq (bG (dP (DE.db (cF h_shut_at hr (ah (ar 6) (ah (ar 1) (ah (ar 7) (ah (ar 8) (ah (ar 9) aB)))))))) (aw (aS bg)) aV) (aw (aS bg))))))
theorem AY{Z:Wq}(R:FX Z "tried" (top 17) kq)(M:Md Z)(h_led_to:qG Z)(h_why_not_ordered:fE Z)(h_why_not_stand:gJ Z):tX Z:=bdF R λd _ _ _ _ _ _ _ _ hr=>(aq (aY 4 d (cF h_led_to hr (ah (ar 0) (ah (ar 1) (ah (ar 2) (ah (ar 3) aB)))))) (aq (aY 5 d (cF h_why_not_ordered hr (ah (ar 2) (ah (ar 3) aB)))) (aq (bG (aP (bw hr) (ae 5) (DE.db bg) (aL _)) (aw (aY 5 d (cF h_why_not_stand hr (ah (ar 0) (ah (ao aQ (ae 1) (DE.db af)) (ah (ar 4) aB)))))) aV) (aw (aS (bK (ah (ar 5) (ah (ar 4) aB))))))))
theorem AB{Z:Wq}(R:FX Z "moves" (top 18) kG)(M:Md Z)(h_tried:tX Z):uz Z:=let⟨ga_ORDERS,GM_ORDERS,GT_ORDERS⟩:=M.u_ORDERS;bdF R λd _ _ _ _ _ _ _ _ hr=>(aq (eX 3 d (cx aB)) (aq (b6 Q3 rfl (ym (AU ["up","level","down"] rfl GM_ORDERS GT_ORDERS)) (ax 4 d) (aq (dS (cF h_tried hr (ah (ar 0) (ah (ar 1) (ah (ar 2) (ah (ar 4) aB))))) (dU rfl (aD (ax 5 d) (aD (ax 6 d) cG)))) (aw (bG (aP (bw hr) (ae 5) (DE.db bg) (aL _)) (aw (du 3 (bK (ah (ar 4) (ah (ar 6) aB))))) aV)))) (aw (gL 3 (aS (ar 3))))))
theorem oP{Z:Wq}(R:FX Z "fitting_on" (top 21) d6)(M:Md Z)(h_moves:uz Z)(h_fits:rT Z):jh Z:=bdF R λd _ _ _ _ _ _ _ _ hr=>(Bh 4 d hr Q3 rfl (ck (ar 2)) (lO 5 d) (ck (cF h_moves hr (ah (ar 0) (ah (ar 1) (ah (ar 5) aB))))) (Aj rfl (mJ (lO 6 d) (mJ (lO 7 d) zf))) (dP (DE.db (cF h_fits hr (ah (ar 3) (ah (ao aQ (ae 1) (DE.db af)) (ah (ar 7) aB)))))) (ar 7) (ar 5) (aw (gL 4 (aS (ar 4)))))
theorem uQ{Z:Wq}(R:FX Z "fitting" (top 22) iD)(M:Md Z)(h_fits:rT Z)(h_fitting_on:jh Z):nE Z:=bdF R λd _ _ _ _ _ _ _ _ hr=>(aq (bG (o6 (dP (DE.db (cF h_fits hr (ah (ar 4) (ah (ar 1) (ah (ar 2) aB))))))) (aw qf) aV) (aq (eX 5 d (cx (ah (DFD.de (EL hr (ar 2) (DF.de (cx aB)))) aB))) (aq (b6 Q3 rfl (CK (ar 1) (ar 3) M.b_range) (ax 6 d) (aq (aY 7 d (cF h_fitting_on hr (ah (ar 0) (ah (ar 6) (ah (DF.de (pR rfl (az (ae 5) (DE.db (jx (DE.db af)))) M.b_list)) (ah (ar 4) aB)))))) (aq (bG (o6 (BH (ar 7))) (aw qf) aV) (aw (du 5 (ar 7)))))) (aw (gL 5 (aS (ar 5)))))))
theorem si{Z:Wq}(R:FX Z "possible" (top 23) gy)(M:Md Z)(h_fitting:nE Z):ly Z:=bdF R λd _ _ _ _ _ _ _ _ hr=>(aq (aY 5 d (cF h_fitting hr (ah (ar 0) (ah (ar 1) (ah (ar 2) (ah (ar 3) (ah (ar 4) aB))))))) (aq (aY 6 d (DF.de (Bv hr rfl (az (ae 5) (DE.db (jx (DE.db af)))) M.b_sorted))) (aq (eX 7 d (cx (ah (ar 6) aB))) (aq (b6 Q3 rfl (zB (DF.de (f6 (ae 5) (aZ (DE.db af)) cY)) M.b_reversed) (ax 8 d) (aq (aY 6 d (DF.de (zJ (tn:=["after","before"]) (fr:=["later"]) (ix:=[8]) hr rfl (ck (ar 6)) (d7 (by rfl) (by exact⟨⟨rfl,rfl⟩,trivial⟩) (by exact⟨rfl,trivial⟩) (by rfl) (by rfl) (by rfl) (by rfl) (by rfl)) (cD _) (o9 _) (cD _) (o9 _) (λ_ _ _ _ _=>(ax 0 (show(((["after","before"]:List Str)++(["later"]:List Str)):List Str).Nodup by decide +kernel))) (λ_ _ _ _ _=>(ck (Ec hr (ae 2) (ae 0)))) (λ_ _ _ _ _=>(ax 1 (show(((["after","before"]:List Str)++(["later"]:List Str)):List Str).Nodup by decide +kernel))) (λ_ _ _ _ _=>(ar 1)) M.b_sorted))) (aw (du 7 (ar 6))))) (aw (aS (DF.de (Bm (ae 7) (aZ (DE.db (jx (DE.db af))))))))))))
theorem lg{Z:Wq}(R:FX Z "_law_numbers" (top 25) dA)(M:Md Z):gP Z:=bdF R λd _ _ _ _ _ _ _ _ hr=>(aq (eX 2 d (cx aB)) (aq (aY 3 d af) (aq (b6 Q3 rfl (ck (DF.de (f6 (ae 0) cY (aZ (DE.db af))))) (ax 4 d) (aq (aY 3 d (ao aO (DE.db (ao aQ (DE.db (ao aQ (DE.db (ao cS (ae 3) (DE.db af))) (DE.db (ao aO (ae 4) (DE.db af))))) (DE.db af))) (DE.db af))) (aq (aY 5 d (ao bq (ae 4) (DE.db (ao y6 (DE.db af) (DE.db af))))) (aq (bG (aP nP (ae 5) (DE.db af) (aL _)) (aw (du 2 (ao aO (ae 4) (DE.db af)))) aV) (aw (b6 Q3 rfl (b8 af M.b_range) (ax 6 d) (aw (bG (aP jN (ae 5) (DE.db af) (aL _)) (aq (du 2 (ao aO (ae 5) (DE.db af))) (aw (aY 5 d (ao d8 (ae 5) (DE.db af))))) aV)))))))) (aq (b6 Q3 rfl (b8 (ar 1) M.b_range) (ax 6 d) (aw (bG (aP nP (DE.db (cQ (ae 2) M.b_len)) (ae 1) (aL _)) (aq (aY 3 d (ao aO (DE.db (ao aQ (DE.db (ao aQ (DE.db (ao aQ (DE.db (ao y6 (ae 3) (DE.db af))) (DE.db (ao cS (DE.db af) (ae 3))))) (DE.db (ao cS (DE.db af) (ae 6))))) (DE.db af))) (DE.db af))) (aw (du 2 (ao aO (DE.db (ao d8 (ae 3) (DE.db af))) (DE.db af))))) aV))) (aw (aS (DF.de (f6 (ae 2) cY (aZ (ae 1))))))))))
theorem qR{Z:Wq}(R:FX Z "_law_base" (top 26) fL)(M:Md Z):jZ Z:=bdF R λd _ _ _ _ _ _ _ _ hr=>(aq (bG (aP (bw hr) (DE.db (ao aO (DE.db (az (ae 0) (DE.db af))) (DE.db af))) (DE.db af) (aL _)) (aw (aS (bK (ah (ao bq (DE.db (az (ae 0) (DE.db af))) (DE.db af)) (ah (ao bq (DE.db (az (ae 0) (DE.db af))) (DE.db af)) aB))))) aV) (aq (bG (aP (bw hr) (DE.db (ao aO (DE.db (az (ae 0) (DE.db af))) (DE.db af))) (DE.db af) (aL _)) (aw (aS (bK (ah (ao cS (DE.db (ao bq (DE.db (ao aO (DE.db (az (ae 0) (DE.db af))) (DE.db af))) (DE.db af))) (DE.db af)) (ah (ao cS (DE.db (ao bq (DE.db (ao aO (DE.db (az (ae 0) (DE.db af))) (DE.db af))) (DE.db af))) (DE.db af)) aB))))) aV) (aw (aS (bK (ah af (ah af aB)))))))
theorem su{Z:Wq}(R:FX Z "_law_box" (top 27) gz)(M:Md Z):iQ Z:=bdF R λd _ _ _ _ _ _ _ _ hr=>(aq (aY 2 d (ao bq (DE.db (ao aQ (DE.db (az (ae 1) (DE.db af))) (DE.db (ao aO (DE.db (az (ae 0) (DE.db af))) (DE.db af))))) (DE.db af))) (aq (aY 3 d (ao bq (DE.db (ao aQ (DE.db (az (ae 1) (DE.db af))) (DE.db (ao aO (DE.db (az (ae 0) (DE.db af))) (DE.db af))))) (DE.db af))) (aq (aY 4 d (ao aO (DE.db (az (ae 0) (DE.db af))) (DE.db af))) (aw (aS (bK (ah (ar 2) (ah (ar 3) (ah (ao aQ (ae 2) (DE.db (ao aO (DE.db (az (ae 0) (DE.db af))) (DE.db af)))) (ah (ao aQ (ae 3) (DE.db (ao aO (DE.db (az (ae 0) (DE.db af))) (DE.db af)))) (ah (ar 4) (ah (ao aQ (ae 4) (DE.db (ao aO (DE.db (az (ae 0) (DE.db af))) (DE.db (ao bq (DE.db af) (ae 4)))))) aB))))))))))))
theorem r6{Z:Wq}(R:FX Z "_law_sky" (top 28) gC)(M:Md Z)(h__law_box:iQ Z):k5 Z:=bdF R λd _ _ _ _ _ _ _ _ hr=>(aq (eX 3 d (cx aB)) (aq (b6 Q3 rfl (b8 (ao aO (DE.db (az (ae 0) (DE.db af))) (DE.db af)) M.b_range) (ax 4 d) (aw (du 3 (bK (ah (ao bq (DE.db (ao aQ (DE.db (az (ae 1) (DE.db af))) (DE.db (ao aO (DE.db (az (ae 0) (DE.db (ao aQ (DE.db (ao cS (DE.db af) (ae 4))) (DE.db af))))) (DE.db af))))) (DE.db af)) (ah (ao bq (DE.db (ao aQ (DE.db (az (ae 1) (DE.db af))) (DE.db (ao aO (DE.db (az (ae 0) (DE.db (ao aQ (DE.db (ao cS (DE.db af) (ae 4))) (DE.db af))))) (DE.db af))))) (DE.db af)) (ah (ao aQ (DE.db af) (DE.db (ao aO (DE.db (az (ae 0) (DE.db (ao aQ (DE.db (ao cS (DE.db af) (ae 4))) (DE.db af))))) (DE.db af)))) aB))))))) (aq (eX 5 d (cx aB)) (aq (b6 Q3 rfl (b8 (ao aO (DE.db (ao d8 (DE.db (az (ae 0) (DE.db af))) (DE.db af))) (DE.db af)) M.b_range) (ax 4 d) (aq (aY 6 d (az (DE.db (DF.de (cx (ah (ao aO (DE.db (az (ae 0) (DE.db (ao aQ (DE.db af) (ae 4))))) (DE.db af)) (ah (ao aO (DE.db (ao aQ (ae 2) (DE.db (ao aO (DE.db (az (ae 0) (DE.db (ao aQ (DE.db af) (ae 4))))) (DE.db af))))) (DE.db af)) aB))))) (DE.db (ao aO (DE.db (ao d8 (DE.db (az (ae 0) (DE.db af))) (DE.db af))) (DE.db af))))) (aw (bG (aP yZ (ae 6) (ae 5) (by with_unfolding_all rfl)) (aw (du 5 (ar 6))) aV)))) (aq (eX 7 d (cx aB)) (aq (bG (aP jN (DE.db (ao aO (DE.db (az (ae 0) (DE.db af))) (DE.db af))) (DE.db af) (aL _)) (aw (CL 7 (tn:=["_law_level"]) (fr:=["_law_d"]) (ix:=[0]) rfl d (b8 af M.b_range) (d7 (by rfl) (by exact⟨⟨rfl,rfl⟩,trivial⟩) (by exact⟨rfl,trivial⟩) (by rfl) (by rfl) (by rfl) (by rfl) (by rfl)) (cD _) (λ_ _ _ _ _=>(ax 0 (show(((["_law_level"]:List Str)++(["_law_d"]:List Str)):List Str).Nodup by decide +kernel))) (λ_ _ _ _ _=>kD) (λ_ _ _ _ _=>(bK (ah af (ah (ar 0) (ah (ao bq (DE.db (ao aO (DE.db (az (ae 1) (DE.db (ao aQ (DE.db af) (DE.db (ao cS (DE.db af) (ae 0))))))) (DE.db af))) (DE.db af)) (ah (ao bq (DE.db (ao aO (DE.db (az (ae 1) (DE.db (ao aQ (DE.db af) (DE.db (ao cS (DE.db af) (ae 0))))))) (DE.db af))) (DE.db af)) aB)))))))) aV) (aq (b6 Q3 rfl (b8 (ao aO (DE.db (ao d8 (DE.db (az (ae 0) (DE.db af))) (DE.db af))) (DE.db af)) M.b_range) (ax 4 d) (aq (aY 8 d (DF.de (f6 (ae 0) (aZ (DE.db (ao aQ (DE.db af) (DE.db (ao cS (DE.db af) (ae 4)))))) (aZ (DE.db (ao aQ (DE.db af) (DE.db (ao cS (DE.db af) (ae 4))))))))) (aq (aY 9 d (az (DE.db (DF.de (cx (ah (ao aO (DE.db (az (ae 8) (DE.db af))) (DE.db af)) (ah (ao aO (DE.db (ao aQ (ae 2) (DE.db (ao aO (DE.db (ao d8 (DE.db (az (ae 8) (DE.db af))) (DE.db af))) (DE.db af))))) (DE.db af)) aB))))) (DE.db (ao aO (DE.db (ao d8 (DE.db (az (ae 8) (DE.db af))) (DE.db af))) (DE.db af))))) (aw (du 7 (bK (ah (ar 9) (ah (ao aO (DE.db (az (ae 8) (DE.db af))) (DE.db af)) (ah (ao bq (DE.db (ao aO (DE.db (az (ae 8) (DE.db af))) (DE.db af))) (DE.db af)) (ah (ao bq (DE.db (ao aO (DE.db (az (ae 8) (DE.db af))) (DE.db af))) (DE.db af)) aB)))))))))) (aq (eX 10 d (cx aB)) (aq (b6 Q3 rfl (b8 (ao aO (DE.db (az (ae 0) (DE.db af))) (DE.db af)) M.b_range) (ax 4 d) (aq (aY 11 d (DF.de (f6 (ae 0) (aZ (DE.db (ao aQ (DE.db af) (DE.db (ao cS (DE.db af) (ae 4)))))) (aZ (DE.db (ao aQ (DE.db af) (DE.db (ao cS (DE.db af) (ae 4))))))))) (aq (aY 9 d (az (DE.db (DF.de (cx (ah (ao aO (DE.db (az (ae 11) (DE.db af))) (DE.db af)) (ah (ar 2) aB))))) (DE.db (ao aO (DE.db (az (ae 11) (DE.db af))) (DE.db af))))) (aw (du 10 (ao oa (DE.db (cF h__law_box hr (ah (ar 11) (ah (ar 1) aB)))) (DE.db (bK (ah (ar 9) (ah (ao aQ (ae 9) (DE.db (ao aO (DE.db (ao d8 (DE.db (az (ae 11) (DE.db af))) (DE.db af))) (DE.db (ao bq (DE.db af) (ae 9)))))) aB)))))))))) (aw (gL 10 (gL 7 (gL 5 (gL 3 (aS (bK (ah (ar 3) (ah (ar 5) (ah (ar 7) (ah (ar 10) aB))))))))))))))))))))
theorem oJ{Z:Wq}(R:FX Z "_law_state" (top 29) d9)(M:Md Z):js Z:=bdF R λd _ _ _ _ _ _ _ _ hr=>(aq (aY 3 d (ao bq (DE.db (ao aQ (DE.db (az (ae 1) (DE.db af))) (DE.db (ao aO (DE.db (az (ae 0) (DE.db af))) (DE.db af))))) (DE.db af))) (aq (aY 4 d (ao bq (DE.db (ao aQ (DE.db (az (ae 1) (DE.db af))) (DE.db (ao aO (DE.db (az (ae 0) (DE.db af))) (DE.db af))))) (DE.db af))) (aw (aS (bK (ah (ar 3) (ah (ar 4) (ah (ao aO (DE.db (az (ae 0) (DE.db af))) (DE.db af)) (ah (ao aO (DE.db (az (ae 0) (DE.db af))) (DE.db (ao aQ (ae 2) (DE.db af)))) (ah (ao aO (DE.db (az (ae 0) (DE.db af))) (DE.db (ao aQ (ae 2) (DE.db af)))) aB))))))))))
theorem qJ{Z:Wq}(R:FX Z "_law_wind" (top 30) fG)(M:Md Z):jQ Z:=bdF R λd _ _ _ _ _ _ _ _ hr=>(aq (rK 3 (tn:=["_law_k"]) (fr:=["_law_winds","_law_height","_law_hour"]) (ix:=[0,2,1]) rfl d (b8 (cQ (ae 0) M.b_len) M.b_range) (d7 (by rfl) (by exact⟨⟨rfl,rfl⟩,⟨rfl,rfl⟩,⟨rfl,rfl⟩,trivial⟩) (by exact⟨rfl,rfl,rfl,trivial⟩) (by rfl) (by rfl) (by rfl) (by rfl) (by rfl)) (cD _) (λ_ _ _ _ _=>(ax 0 (show(((["_law_k"]:List Str)++(["_law_winds","_law_height","_law_hour"]:List Str)):List Str).Nodup by decide +kernel))) (λ_ _ _ _ _=>(kH (DW.dt (cT (aP (bw hr) (DE.db (az (DE.db (az (ae 1) (ae 0))) (DE.db af))) (ae 2) (aL _)) (bZ (aP dQ (DE.db (az (DE.db (az (ae 1) (ae 0))) (DE.db af))) (ae 3) (aL _))))))) (λ_ _ _ _ _=>(bK (ah (az (DE.db (az (ae 1) (ae 0))) (DE.db af)) (ah (ar 0) aB))))) (aq (bG (aP (bw hr) (DE.db (cQ (ae 3) M.b_len)) (DE.db af) (aL _)) (aw (aS (bK (ah af (ah af aB))))) aV) (aw (aS (gc (DE.db (az (ae 0) (DE.db (az (DE.db (dO (AX hr rfl) M.b_max (by rfl) (ah (ar 3) aB))) (DE.db af))))) (aZ (DE.db af)) cY)))))
theorem q8{Z:Wq}(R:FX Z "_law_led" (top 35) gE)(M:Md Z)(h__law_wind:jQ Z):iR Z:=bdF R λd _ _ _ _ _ _ _ _ hr=>(aq (dS (ar 2) (dU rfl (aD (ax 4 d) (aD (ax 5 d) (aD (ax 6 d) (aD (ax 7 d) (aD (ax 8 d) cG))))))) (aq (aY 9 d (Eu hr bg (show DE _ _ (eC (.int 1)) from af) bg (show DE _ _ (eC (.int 0)) from af) bg (show DE _ _ (eC (.int (-1))) from(jx (DE.db af))) (ar 3) (λ_ _=>rfl))) (aq (aY 6 d (ao aQ (ae 6) (ae 9))) (aq (bG (DW.dt (cT (aP yV (ae 1) (DE.db (az (ae 0) (DE.db af))) (by with_unfolding_all rfl)) (bZ (aP jN (ae 6) (DE.db af) (aL _))))) (aw (aY 6 d (ao bq (ae 6) (DE.db af)))) aV) (aq (dS (cF h__law_wind hr (ah (az (ae 0) (DE.db af)) (ah (ar 1) (ah (ar 6) aB)))) (dU rfl (aD (ax 10 d) (aD (ax 11 d) cG)))) (aw (aS (bK (ah (ao aQ (ae 4) (ae 10)) (ah (ao aQ (ae 5) (ae 11)) (ah (ar 6) (ah (ao bq (ae 7) (DE.db (dO (oE rfl) M.b_max (by rfl) (ah af (ah (ar 9) aB))))) (ah (ao bq (ae 8) (DE.db (dO (oE rfl) M.b_max (by rfl) (ah af (ah (jx (ae 9)) aB))))) aB)))))))))))))
theorem md{Z:Wq}(R:FX Z "_law_ground" (top 31) dG)(M:Md Z):iM Z:=bdF R λd _ _ _ _ _ _ _ _ hr=>(aw (aS (dO (Bq rfl) M.b_max (by rfl) (ah (DF.de (Eg (DE.db (DF.de (cx (ah af aB)))) (DE.db (DF.de (tj (tn:=["_law_a","_law_b","_law_top"]) (fr:=["_law_x","_law_y"]) (ix:=[1,2]) rfl (ck (ar 0)) (d7 (by rfl) (by exact⟨⟨rfl,rfl⟩,⟨rfl,rfl⟩,trivial⟩) (by exact⟨rfl,rfl,trivial⟩) (by rfl) (by rfl) (by rfl) (by rfl) (by rfl)) (wY (fV (cD _) (fV (cD _) (fV (cD _) uc)))) (λ_ _ _ _ _=>(xx rfl (aD (ax 0 (show(((["_law_a","_law_b","_law_top"]:List Str)++(["_law_x","_law_y"]:List Str)):List Str).Nodup by decide +kernel)) (aD (ax 1 (show(((["_law_a","_law_b","_law_top"]:List Str)++(["_law_x","_law_y"]:List Str)):List Str).Nodup by decide +kernel)) (aD (ax 2 (show(((["_law_a","_law_b","_law_top"]:List Str)++(["_law_x","_law_y"]:List Str)):List Str).Nodup by decide +kernel)) cG))))) (λ_ _ _ _ _=>(kH (DW.dt (cT (aP (bw hr) (ae 0) (ae 3) (aL _)) (bZ (aP (bw hr) (ae 1) (ae 4) (aL _))))))) (λ_ _ _ _ _=>(ar 2))))))) aB))))
theorem uO{Z:Wq}(R:FX Z "_law_in" (top 32) iC)(M:Md Z):jD Z:=bdF R λd _ _ _ _ _ _ _ _ hr=>(aw (aS (iP (fT dQ (DE.db (az (ae 0) (DE.db af))) (ae 1) (aL _)) (iP (fT dQ (ae 1) (DE.db (az (ae 0) (DE.db af))) (aL _)) (iP (fT dQ (DE.db (az (ae 0) (DE.db af))) (ae 2) (aL _)) (iP (fT dQ (ae 2) (DE.db (az (ae 0) (DE.db af))) (aL _)) (iP (fT dQ (DE.db (az (ae 0) (DE.db af))) (ae 3) (aL _)) (xY (fT dQ (ae 3) (DE.db (az (ae 0) (DE.db af))) (aL _))))))))))
theorem o8{Z:Wq}(R:FX Z "_law_shut" (top 33) fF)(M:Md Z)(h__law_in:jD Z):jS Z:=bdF R λd _ _ _ _ _ _ _ _ hr=>(aw (aS (fT yV (DE.db i5) (DE.db (DF.de (tj (tn:=["_law_one"]) (fr:=["_law_x","_law_y","_law_z","_law_hour"]) (ix:=[2,3,4,1]) rfl (ck (ar 0)) (d7 (by rfl) (by exact⟨⟨rfl,rfl⟩,⟨rfl,rfl⟩,⟨rfl,rfl⟩,⟨rfl,rfl⟩,trivial⟩) (by exact⟨rfl,rfl,rfl,rfl,trivial⟩) (by rfl) (by rfl) (by rfl) (by rfl) (by rfl)) (cD _) (λ_ _ _ _ _=>(ax 0 (show(((["_law_one"]:List Str)++(["_law_x","_law_y","_law_z","_law_hour"]:List Str)):List Str).Nodup by decide +kernel))) (λ_ _ _ _ _=>(kH (DW.dt (cT (aP dQ (DE.db (az (ae 0) (DE.db af))) (ae 4) (aL _)) (bZ (aP dQ (ae 4) (DE.db (az (ae 0) (DE.db af))) (aL _))))))) (λ_ _ _ _ _=>(cF h__law_in hr (ah (gc (ae 0) cY (aZ (DE.db af))) (ah (ar 1) (ah (ar 2) (ah (ar 3) aB))))))))) (by with_unfolding_all rfl))))
theorem nW{Z:Wq}(R:FX Z "_law_stand" (top 34) eE)(M:Md Z)(h__law_ground:iM Z)(h__law_shut:jS Z):i_ Z:=bdF R λd _ _ _ _ _ _ _ _ hr=>(aq (bG (aP nP (DE.db (az (ae 2) (DE.db af))) (DE.db (cF h__law_ground hr (ah (az (ae 0) (DE.db af)) (ah (az (ae 2) (DE.db af)) (ah (az (ae 2) (DE.db af)) aB))))) (aL _)) (aw (aS bg)) aV) (aq (bG (dP (DE.db (cF h__law_shut hr (ah (az (ae 0) (DE.db af)) (ah (ar 1) (ah (az (ae 2) (DE.db af)) (ah (az (ae 2) (DE.db af)) (ah (az (ae 2) (DE.db af)) aB)))))))) (aw (aS bg)) aV) (aw (aS bg))))
theorem rm{Z:Wq}(R:FX Z "_law_why" (top 36) gx)(M:Md Z)(h__law_led:iR Z)(h__law_stand:i_ Z):l6 Z:=bdF R λd _ _ _ _ _ _ _ _ hr=>(aq (bG (DW.dt (cT (aP (bw hr) (ae 3) (DE.db bg) (aL _)) (bZ (aP (bw hr) (DE.db (az (ae 2) (DE.db af))) (DE.db af) (aL _))))) (aw (aS bg)) aV) (aq (bG (DW.dt (cT (aP (bw hr) (ae 3) (DE.db bg) (aL _)) (bZ (aP (bw hr) (DE.db (az (ae 2) (DE.db af))) (DE.db af) (aL _))))) (aw (aS bg)) aV) (aq (bG (DW.dt (cT (aP (bw hr) (ae 3) (DE.db bg) (aL _)) (bZ (aP (bw hr) (DE.db (az (ae 2) (DE.db af))) (DE.db af) (aL _))))) (aw (aS bg)) aV) (aq (bG (DW.dt (cT (aP (bw hr) (ae 3) (DE.db bg) (aL _)) (bZ (aP (bw hr) (DE.db (az (ae 2) (DE.db af))) (DE.db af) (aL _))))) (aw (aS bg)) aV) (aw (aS (cF h__law_stand hr (ah (ar 0) (ah (ao aQ (ae 1) (DE.db af)) (ah (cF h__law_led hr (ah (ar 0) (ah (ar 1) (ah (ar 2) (ah (ar 3) aB))))) aB))))))))))
theorem pL{Z:Wq}(R:FX Z "_law_next" (top 37) fw)(M:Md Z)(h__law_why:l6 Z)(h__law_led:iR Z):jP Z:=bdF R λd _ _ _ _ _ _ _ _ hr=>(aq (CY 3 d EW) (aq (b6 Q3 rfl (ck (ar 2)) (ax 4 d) (aw (b6 Q3 rfl (ym (bK (ah bg (ah bg (ah bg aB))))) (ax 5 d) (aw (bG (aP (bw hr) (DE.db (cF h__law_why hr (ah (ar 0) (ah (ar 1) (ah (ar 4) (ah (ar 5) aB)))))) (DE.db bg) (aL _)) (aw (zM 3 hr i5 (cF h__law_led hr (ah (ar 0) (ah (ar 1) (ah (ar 4) (ah (ar 5) aB))))))) aV))))) (aw (gL 3 (aS (DF.de (BD hr rfl (DE.db (DF.de (pR rfl (ar 3) M.b_list))) M.b_sorted)))))))
theorem pK{Z:Wq}(R:FX Z "_law_true" (top 40) fH)(M:Md Z)(h__law_next:jP Z):jY Z:=bdF R λd _ _ _ _ _ _ _ _ hr=>(aq (eX 4 d (cx (ah (ar 2) aB))) (aq (b6 Q3 rfl (b8 (dO (Av rfl) M.b_min (by rfl) (ah (ao aO (DE.db (az (ae 3) (DE.db af))) (DE.db af)) (ah (ao bq (DE.db af) (ae 1)) aB))) M.b_range) (ax 5 d) (aq (aY 6 d (cF h__law_next hr (ah (ar 0) (ah (ao aQ (ae 1) (ae 5)) (ah (DF.de (cx (ah (az (ae 4) (DE.db (jx (DE.db af)))) aB))) aB))))) (aq (bG (aP jN (DE.db (cQ (ae 6) M.b_len)) (DE.db af) (aL _)) (aw (du 4 (az (ae 6) (DE.db (ao aO (DE.db (az (ae 3) (DE.db (ao aQ (DE.db af) (ae 5))))) (DE.db (cQ (ae 6) M.b_len))))))) aV) (aw (bG (aP (bw hr) (DE.db (cQ (ae 6) M.b_len)) (DE.db af) (aL _)) (aw (gL 4 (aS (ar 4)))) aV))))) (aw (gL 4 (aS (ar 4))))))
theorem mf{Z:Wq}(R:FX Z "_law_sights" (top 39) dH)(M:Md Z)(h__law_box:iQ Z):iJ Z:=bdF R λd _ _ _ _ _ _ _ _ hr=>(aq (eX 5 d (cx aB)) (aq (b6 Q3 rfl (b8 (ao aO (DE.db (az (ae 0) (DE.db af))) (DE.db af)) M.b_range) (ax 6 d) (aq (aY 7 d (DF.de (f6 (ae 0) (aZ (DE.db (ao aQ (DE.db af) (DE.db (ao cS (DE.db af) (ae 6)))))) (aZ (DE.db (ao aQ (DE.db af) (DE.db (ao cS (DE.db af) (ae 6))))))))) (aq (aY 8 d (ao aO (DE.db (az (ae 7) (DE.db af))) (DE.db (ao aQ (ae 2) (DE.db af))))) (aq (aY 9 d (cF h__law_box hr (ah (DF.de (f6 (ae 7) (aZ (DE.db af)) (aZ (DE.db af)))) (ah (ar 4) aB)))) (aq (bG (DW.dt (cT (aP jN (DE.db (cQ (DE.db (az (ae 3) (ae 8))) M.b_len)) (DE.db af) (aL _)) (bZ (aP jN (DE.db (ao aO (DE.db (az (ae 7) (DE.db af))) (DE.db af))) (DE.db af) (aL _))))) (aq (aY 10 d (az (DE.db (az (ae 3) (ae 8))) (DE.db (ao aO (DE.db (az (ae 7) (DE.db af))) (DE.db (cQ (DE.db (az (ae 3) (ae 8))) M.b_len)))))) (aq (aY 11 d (ao aO (DE.db (ao d8 (DE.db (az (ae 7) (DE.db af))) (DE.db af))) (DE.db af))) (aw (aY 9 d (bK (ah (ao bq (DE.db (az (ae 10) (DE.db af))) (ae 11)) (ah (ao bq (DE.db (az (ae 10) (DE.db af))) (DE.db (ao aO (DE.db (az (ae 7) (DE.db af))) (DE.db af)))) (ah (ao aQ (DE.db (az (ae 10) (DE.db af))) (DE.db (ao aO (DE.db (az (ae 7) (DE.db af))) (DE.db af)))) (ah (ao aQ (DE.db (az (ae 10) (DE.db af))) (ae 11)) (ah (ao aO (DE.db (az (ae 7) (DE.db af))) (DE.db (ao aQ (DE.db (az (ae 10) (DE.db af))) (DE.db af)))) (ah af aB))))))))))) aV) (aw (du 5 (ao oa (DE.db (ao oa (DE.db (bK (ah (ao aQ (ae 1) (ae 8)) aB))) (ae 9))) (DE.db (bK (ah (fT jN (DE.db (ao aO (DE.db (az (ae 7) (DE.db af))) (DE.db af))) (DE.db af) (aL _)) aB))))))))))) (aw (gL 5 (aS (ar 5))))))
theorem EZ{Z:Wq}(R:FX Z "law" (top 41) tG)(M:Md Z)(h__law_copy:jO Z)(h_possible:ly Z)(h__law_numbers:gP Z)(h__law_base:jZ Z)(h__law_sky:k5 Z)(h__law_state:js Z)(h__law_true:jY Z)(h__law_sights:iJ Z)(h__law_in:jD Z):xu Z:=bdF R λd _ _ _ _ _ _ _ _ hr=>(aq (aY 1 d (cF h__law_numbers hr (ah (ar 0) (ah af aB)))) (aq (aY 2 d (cF h__law_base hr (ah (DF.de (f6 (ae 1) cY (aZ (DE.db af)))) aB))) (aq (aY 3 d (ao aO (DE.db (az (ae 1) (DE.db af))) (DE.db af))) (aq (aY 4 d (cF h__law_sky hr (ah (DF.de (f6 (ae 1) (aZ (DE.db af)) (aZ (DE.db af)))) (ah (ar 2) (ah (ar 3) aB))))) (aq (aY 5 d (az (DE.db (DF.de (cx (ah af (ah af (ah af aB)))))) (DE.db (ao aO (DE.db (az (ae 1) (DE.db af))) (DE.db af))))) (aq (aY 6 d (cF h__law_true hr (ah (ar 4) (ah (ar 3) (ah (cF h__law_state hr (ah (DF.de (f6 (ae 1) (aZ (DE.db af)) (aZ (DE.db af)))) (ah (ar 2) (ah (ar 5) aB)))) (ah (DF.de (f6 (ae 1) (aZ (DE.db af)) (aZ (DE.db af)))) aB)))))) (aq (bG (aP (bw hr) (ae 5) (DE.db af) (aL _)) (aw (aY 6 d (DF.de (f6 (ae 6) cY (aZ (DE.db af)))))) aV) (aq (rK 7 (tn:=["_law_one"]) (fr:=[]) (ix:=[]) rfl d (ck (ar 6)) (d7 (by rfl) (by exact trivial) (by exact trivial) (by rfl) (by rfl) (by rfl) (by rfl) (by rfl)) (cD _) (λ_ _ _ _ _=>(ax 0 (show(((["_law_one"]:List Str)++([]:List Str)):List Str).Nodup by decide +kernel))) (λ_ _ _ _ _=>kD) (λ_ _ _ _ _=>(DF.de (cx (ah (ar 0) aB))))) (aq (aY 8 d (cF h__law_sights hr (ah (DF.de (f6 (ae 1) (aZ (DE.db af)) (aZ (DE.db af)))) (ah (ar 3) (ah (ao bq (DE.db (cQ (ae 6) M.b_len)) (DE.db af)) (ah (ar 7) (ah (ar 2) aB))))))) (aq (eX 9 d (cx aB)) (aq (b6 Q3 rfl (ck (ar 8)) (ax 10 d) (aq (aY 11 d (az (ae 6) (DE.db (ao bq (DE.db (az (ae 10) (DE.db af))) (ae 3))))) (aw (du 9 (ao oa (DE.db (gc (ae 10) cY (aZ (DE.db af)))) (DE.db (bK (ah (cF h__law_in hr (ah (gc (ae 10) (aZ (DE.db af)) (aZ (DE.db af))) (ah (az (ae 11) (DE.db af)) (ah (az (ae 11) (DE.db af)) (ah (az (ae 11) (DE.db af)) aB))))) aB)))))))) (Ay 12 9 d (cF h_possible hr (ah (cF h__law_copy hr (ah (ar 4) aB)) (ah (ar 3) (ah (az (ae 6) (DE.db af)) (ah (ao bq (DE.db (ao aQ (ae 3) (DE.db (cQ (ae 6) M.b_len)))) (DE.db af)) (ah (ar 9) aB)))))) (Cp (DW.dt (uG (o6 (dP (DE.db (C_ (T:="list") (by simp) (ae 12) M.b_isinstance M.b_list (by rfl))))) (oW (aP (oI hr) (DE.db (cQ (ae 12) M.b_len)) (DE.db (cQ (ae 6) M.b_len)) (aL _))))) (Cp (o6 (dP (DE.db (dO (DN rfl) M.b_all (by rfl) (ah (DF.de (tj (tn:=["_law_at"]) (fr:=["_law_path","_law_found"]) (ix:=[6,12]) rfl (b8 (cQ (ae 6) M.b_len) M.b_range) (d7 (by rfl) (by exact⟨⟨rfl,rfl⟩,⟨rfl,rfl⟩,trivial⟩) (by exact⟨rfl,rfl,trivial⟩) (by rfl) (by rfl) (by rfl) (by rfl) (by rfl)) (cD _) (λ_ _ _ _ _=>(ax 0 (show(((["_law_at"]:List Str)++(["_law_path","_law_found"]:List Str)):List Str).Nodup by decide +kernel))) (λ_ _ _ _ _=>kD) (λ_ _ _ _ _=>(fT (D0 hr) (DE.db (az (ae 1) (ae 0))) (DE.db (az (ae 2) (ae 0))) (by with_unfolding_all rfl))))) aB))))) D1)) (aq (b6 Q3 rfl (b8 (cQ (ae 6) M.b_len) M.b_range) (ax 13 d) (aq (dS (gc (DE.db (az (ae 6) (ae 13))) cY (aZ (DE.db af))) (dU rfl (aD (ax 14 d) (aD (ax 15 d) (aD (ax 16 d) cG))))) (aw (du 9 (bK (ah (ao aQ (ae 3) (ae 13)) (ah (ar 14) (ah (ar 15) (ah (ar 14) (ah (ar 15) (ah (ar 16) (ah (ar 16) (ah i5 aB))))))))))))) (aq (gL 9 (aY 12 d (cF h_possible hr (ah (cF h__law_copy hr (ah (ar 4) aB)) (ah (ar 3) (ah (az (ae 6) (DE.db af)) (ah (ao bq (DE.db (ao aQ (ae 3) (DE.db (cQ (ae 6) M.b_len)))) (DE.db af)) (ah (ar 9) aB)))))))) (aq (b6 Q3 rfl (b8 (cQ (ae 6) M.b_len) M.b_range) (ax 13 d) (aw (bG (DW.dt (uG (aP (u5 hr) (DE.db (az (ae 6) (ae 13))) (DE.db (az (ae 12) (ae 13))) (by with_unfolding_all rfl)) (oW (dP (DE.db (dO (CH rfl) M.b_any (by rfl) (ah (DF.de (tj (tn:=["_law_one"]) (fr:=["_law_path","_law_at"]) (ix:=[6,13]) rfl (ck (az (ae 12) (ae 13))) (d7 (by rfl) (by exact⟨⟨rfl,rfl⟩,⟨rfl,rfl⟩,trivial⟩) (by exact⟨rfl,rfl,trivial⟩) (by rfl) (by rfl) (by rfl) (by rfl) (by rfl)) (cD _) (λ_ _ _ _ _=>(ax 0 (show(((["_law_one"]:List Str)++(["_law_path","_law_at"]:List Str)):List Str).Nodup by decide +kernel))) (λ_ _ _ _ _=>kD) (λ_ _ _ _ _=>(fT (oI hr) (DE.db (gc (ae 0) cY (aZ (DE.db af)))) (DE.db (gc (DE.db (az (ae 1) (ae 2))) cY (aZ (DE.db af)))) (aL _))))) aB))))))) (aw (aS i5)) aV))) (aw (aS i5))))) rfl))))))))))))
theorem Em{Z:Wq}(M:Md Z)(A0:FX Z "_law_copy" (top 38) fN)(A1:FX Z "inside" (top 2) jo)(A2:FX Z "fits" (top 20) oz)(A3:FX Z "wind_at" (top 12) iB)(A4:FX Z "led_to" (top 16) iY)(A5:FX Z "why_not_ordered" (top 15) cB)(A6:FX Z "ground_at" (top 7) fO)(A7:FX Z "shut_at" (top 9) iA)(A8:FX Z "why_not_stand" (top 10) cX)(A9:FX Z "tried" (top 17) kq)(A10:FX Z "moves" (top 18) kG)(A11:FX Z "fitting_on" (top 21) d6)(A12:FX Z "fitting" (top 22) iD)(A13:FX Z "possible" (top 23) gy)(A14:FX Z "_law_numbers" (top 25) dA)(A15:FX Z "_law_base" (top 26) fL)(A16:FX Z "_law_box" (top 27) gz)(A17:FX Z "_law_sky" (top 28) gC)(A18:FX Z "_law_state" (top 29) d9)(A19:FX Z "_law_wind" (top 30) fG)(A20:FX Z "_law_led" (top 35) gE)(A21:FX Z "_law_ground" (top 31) dG)(A22:FX Z "_law_in" (top 32) iC)(A23:FX Z "_law_shut" (top 33) fF)(A24:FX Z "_law_stand" (top 34) eE)(A25:FX Z "_law_why" (top 36) gx)(A26:FX Z "_law_next" (top 37) fw)(A27:FX Z "_law_true" (top 40) fH)(A28:FX Z "_law_sights" (top 39) dH)(A29:FX Z "law" (top 41) tG):xu Z:=
 have H0:=qN A0 M;have H1:=yf A1 M;have H2:=Ez A2 M H1;have H3:=wm A3 M;have H4:=zm A4 M H3;have H5:=i9 A5 M;have H6:=pf A6 M;have H7:=vX A7 M H1;have H8:=kf A8 M H6 H7;have H9:=AY A9 M H4 H5 H8;have H10:=AB A10 M H9;have H11:=oP A11 M H10 H2;have H12:=uQ A12 M H2 H11;have H13:=si A13 M H12;have H14:=lg A14 M;have H15:=qR A15 M;have H16:=su A16 M;have H17:=r6 A17 M H16;have H18:=oJ A18 M;have H19:=qJ A19 M;have H20:=q8 A20 M H19;have H21:=md A21 M;have H22:=uO A22 M;have H23:=o8 A23 M H22;have H24:=nW A24 M H21 H23;have H25:=rm A25 M H20 H24;have H26:=pL A26 M H25 H20;have H27:=pK A27 M H26;have H28:=mf A28 M H16;have H29:=EZ A29 M H0 H13 H14 H15 H17 H18 H27 H28 H22
 H29
theorem FM{P:QJ}{w:QL}{K:Qe}{h:Heap}{mg:Str->Option Qb}{t_TOP_HEIGHT:Tok}{ga_ORDERS:Addr}{go_ORDERS:Option Addr}{gn_ORDERS:Nat}{gs_ORDERS:Array (Option Qb)}{gu_ORDERS gv_ORDERS gw_ORDERS:Tok}(X:K.In h)(G:h.Ns Q5 mg)
  (z_all:JQ K Q5 "all" = some none)
  (z_any:JQ K Q5 "any" = some none)
  (z_isinstance:JQ K Q5 "isinstance" = some none)
  (z_len:JQ K Q5 "len" = some none)
  (z_list:JQ K Q5 "list" = some none)
  (z_max:JQ K Q5 "max" = some none)
  (z_min:JQ K Q5 "min" = some none)
  (z_range:JQ K Q5 "range" = some none)
  (z_reversed:JQ K Q5 "reversed" = some none)
  (z_sorted:JQ K Q5 "sorted" = some none)
  (y_TOP_HEIGHT:JQ K Q5 "TOP_HEIGHT" = some (some (.int 5 t_TOP_HEIGHT)))
  (y_ORDERS:JQ K Q5 "ORDERS" = some (some (.ref ga_ORDERS))) (x_ORDERS:K.lookup ga_ORDERS=some ⟨.type "tuple",go_ORDERS,.seq #[.str "up" gu_ORDERS,.str "level" gv_ORDERS,.str "down" gw_ORDERS] gn_ORDERS,gs_ORDERS⟩):Md ⟨P,w,K,mg⟩:=⟨⟨_,PySem.W.mg_of X G y_ORDERS,E6 x_ORDERS⟩,JL X G z_all,JL X G z_any,JL X G z_isinstance,JL X G z_len,JL X G z_list,JL X G z_max,JL X G z_min,JL X G z_range,JL X G z_reversed,JL X G z_sorted,⟨_,PySem.W.mg_of X G y_TOP_HEIGHT⟩⟩
theorem walk{l:PySem.W.OpenLaw}{q:QJ}{loose:List Str}{XP:(Str->Option Qb)->Heap->Prop}{YP:QL->Heap->Prop}{d:DefRec}{K:Params->Qe}(hn:l.most=some 63)(hdf:d.params.defaults=[])(hnm:d.name = "law")
  (hY:∀(w:QL) (h:Heap),YP w h->(K w.params).In h) (worth:∀ns:List Int,ns.length<=63->uE [.lst (ns.map D.int)]=some (.bl true))
  (F:∀(w:QL) (mg:Str->Option Qb) (h:Heap),(K w.params).In h->h.Ns Q5 mg->xu ⟨l.prog,w,K w.params,mg⟩) :
  PySem.W.WalkO q loose XP YP l.row.toRowW d [] (λf vs=>PySem.call f vs):=
 L2.zC (n:=63) (k:=9) (x:="_law_script") (CX:=λ_=>CX0) (sp:=λw=>spF (K w.params) uE) hn (by decide) hdf ⟨rfl,by decide,by decide⟩ hY (λw mg fa h a b c=>D6 (F w mg h a b) (by rw[<-hnm];exact c))
  (λw H a ns hl _ hS=>⟨H,[.lst (ns.map D.int)],.bl true,aI.refl _,.one (.lst (.inr ⟨ns,rfl,hS⟩) (ow _ _ ns)),worth ns hl,λv G' H' g hd=>hd.blV⟩) λ_ _ _ _ _ z=>z
open Tb
section
variable(k:Sk)(kk:SkW k)(ss:List Sg)(h:Int)(q:Stt)
abbrev dM(mm:Mm):D:=.dic (msD (enM mm))
def fsD(n:Nat):List D:=(QE (n+1)).map λi=>dM (FS k ss h q i)
theorem zA(n:Nat):fsD k ss h q (n+1)=fsD k ss h q n++[dM (FS k ss h q (n+1))]:=by unfold fsD;rw[List.range_succ,Jf];rfl
theorem uA(n:Nat):ixD (.lst (fsD k ss h q n)) (.int (-1))=some (dM (FS k ss h q n)):=by
 unfold fsD;rw[List.range_succ,Jf];exact tZ _ _
theorem As(mm:Mm):(msD (enM mm)).map (λe=>zq e.1)=(ksM mm).map stD:=by
 unfold msD enM ksM;rw[JK,JK,JK];rfl
theorem zv(mm:Mm):(msD (enM mm)).length=mm.length:=by unfold msD enM;rw[Qi,Qi]
abbrev eG(m:Nat)(L:List D)(a b:Sl):Ev:=[.dat (skD k),.dat (.int h),.dat (stD q),.dat (.int (h+(m:Int))),.dat (.lst (ss.map sgD)),.own L,a,b]
include kk in
theorem xQ(hq:StOk q)(m:Nat)(few:cw m q<=999)(i:Nat)(hi:i<m)(ne:∃t,Ky (FS k ss h q (i+1)) t)(hl:i<=8)(b:Sl) :
  eI (eG k ss h q m (fsD k ss h q i) (.dat (.int (h+(i:Int)))) b)=some (.nx (eG k ss h q m (fsD k ss h q (i+1)) (.dat (.int (h+(i:Int)))) (.dat (dM (FS k ss h q (i+1)))))):=by
 have ln:=rC k ss h q hq m i (by omega);unfold eI
 have ek:k_ (e2 ixD (aa 5) (ma (eC (.int 1)))) (eG k ss h q m (fsD k ss h q i) (.dat (.int (h+(i:Int)))) b)=some ((ksM (FS k ss h q i)).map stD):=by
  unfold k_;rw[aU (x:=.lst (fsD k ss h q i)) (y:=.int (-1)) rfl rfl (uA k ss h q i)];show(if(msD (enM (FS k ss h q i))).length<1000000 then some ((msD (enM (FS k ss h q i))).map λe=>zq e.1) else none)=_;rw[if_pos (by rw[zv];omega),As]
 refine(au (aX (d:=dM (FS k ss h q (i+1))) (aW (ds:=[skD k,.int (h+(i:Int)),.lst ((ksM (FS k ss h q i)).map stD),.lst (ss.map sgD)]) (aJ rfl (aJ rfl (aJ (cM ek) rfl))) (Fj k kk ss (h+(i:Int)) (ksM (FS k ss h q i)) (by unfold ksM;rw[Qi];omega))))).trans ?_
 have c:dZ (xb (av 7)) (eG k ss h q m (fsD k ss h q i) (.dat (.int (h+(i:Int)))) (.dat (dM (FS k ss h q (i+1)))))=some false:=by
  refine(Ba (a:=true) ?_);show some (!(msD (enM (FS k ss h q (i+1)))).isEmpty)=_;obtain⟨t,e,he,_⟩:=ne;cases hz:FS k ss h q (i+1) with
  |nil=>rw[hz] at he;cases he
  |cons a r=>rfl
 refine(au (dB c)).trans ?_;refine(dE rfl rfl (by unfold fsD;rw[Qi,Jy];omega)).trans ?_;rw[zA];rfl
include kk in
theorem rq(hq:StOk q)(m:Nat)(hm:m<=8)(hb:-1000<h/\h<1000)(f0:gU ss h q=true)(few:cw m q<=999)(ne:∀i,i<m->∃t,Ky (FS k ss h q (i+1)) t) :
  F_fitting [skD k,.int h,stD q,.int (h+(m:Int)),.lst (ss.map sgD)]=some (.lst (fsD k ss h q m)):=by
 refine bp rfl ?_;unfold mZ;have c:dZ (ec (aK jv (ag (av 4) (ag (av 1) (ag (av 2) aF))))) [.dat (skD k),.dat (.int h),.dat (stD q),.dat (.int (h+(m:Int))),.dat (.lst (ss.map sgD)),.un,.un,.un]=some (!true):=nz ((uo ss h q).trans (by rw[f0]));refine(au (dB c)).trans ?_;refine(au (ε':=eG k ss h q m (fsD k ss h q 0) .un .un) rfl).trans ?_
 have it:A_ (av 1) (av 3) (eG k ss h q m (fsD k ss h q 0) .un .un)=some ((QE m).map λ(j:Nat)=>D.int (h+(j:Int))):=by
  show(if -1000000<h/\h<1000000/\-1000000<h+(m:Int)/\h+(m:Int)<1000000 then some ((QE (h+(m:Int)-h).toNat).map λ(j:Nat)=>D.int (h+(j:Int))) else none)=_;rw[if_pos (by omega),show(h+(m:Int)-h).toNat=m by omega]
 obtain⟨ε',e,a,b,rfl⟩:=cU (g:=ak 6) (gb:=eI) (λi ε=>∃a b,ε=eG k ss h q m (fsD k ss h q i) a b) ((QE m).map λ(j:Nat)=>D.int (h+(j:Int))) 0 (λi d hd ε ⟨a,b,he⟩=>by
  subst he;rw[Qx] at hd;obtain⟨j,ej,rfl⟩:=a_ hd;obtain⟨hi,ej⟩:=Qk.mp ej;rw[Kf] at ej;subst ej;rw[Jy] at hi;rw[Jg]
  exact⟨_,_,rfl,.inl (xQ k kk ss h q hq m few i hi (ne i hi) (by omega) b),_,_,rfl⟩) (eG k ss h q m (fsD k ss h q 0) .un .un) ⟨_,_,rfl⟩
 rw[Qi,Jy,Jg] at e;refine(au ((bE it).trans e)).trans ?_;rfl
abbrev eL(b:List Stt):D:=.lst (b.map stD)
theorem AA(m:Nat):((fsD k ss h q m).drop 1).reverse=(QE m).map λj=>dM (FS k ss h q (m-j)):=by
 have ln:(fsD k ss h q m).length=m+1:=by unfold fsD;rw[Qi,Jy]
 refine Jv λi=>?_;rw[Qx]
 by_cases hi:i<m
 ·rw[ZD hi,Kt (by rw[Ji,ln];omega),Ji,ln,JW]
  unfold fsD;rw[Qx,ZD (by omega)];show some (dM (FS k ss h q (1+(m+1-1-1-i))))=some (dM (FS k ss h q (m-i)));rw[show 1+(m+1-1-1-i)=m-i by omega]
 ·rw[ZW (by rw[ZE,Ji,ln];omega),ZW (by rw[Jy];omega)];rfl
abbrev eP(m:Nat)(b:List Stt)(L:List (List Stt))(s8:Sl):Ev:=[.dat (skD k),.dat (.int h),.dat (stD q),.dat (.int (h+(m:Int))),.dat (.lst (ss.map sgD)),.dat (.lst (fsD k ss h q m)),.dat (eL b),.own (L.map eL),s8]
theorem CW{kk:List (List Int)}{P:Stt->Prop}(hx:∀x,x∈kk->∃s,P s/\x=stK s):(kk.all λk=>!k.isEmpty)=true:=Jc.mpr λx hx'=>by obtain⟨s,_,rfl⟩:=hx x hx';rfl
theorem vA(hq:StOk q)(m:Nat)(few:cw m q<=999)(j:Nat)(hj:j<m)(hm:m<=8)(b:List Stt)(hb:Srtd b (On k ss h q m j))(bl:b.length<=999)(L:List (List Stt))(hL:L.length<=9) :
  ∃b',Srtd b' (On k ss h q m (j+1))/\b'.length<=999/\dF (eP k ss h q m b L (.dat (dM (FS k ss h q (m-j)))))=some (.nx (eP k ss h q m b' (L++[b']) (.dat (dM (FS k ss h q (m-j)))))):=by
 obtain⟨n,en⟩:∃n,m-j=n+1:=⟨m-j-1,by omega⟩;have l1:=rC k ss h q hq m n (by omega)
 have tt:tot (FS k ss h q (m-j))<1000000:=by
  rw[en];have:=DH k ss (h+(n:Int)) (ksM (FS k ss h q n));rw[show(ksM (FS k ss h q n)).length=(FS k ss h q n).length from Qi _] at this;show tot (FO k ss (h+(n:Int)) (ksM (FS k ss h q n)) [])<_;omega
 have kl:(kM (FS k ss h q n)).length<=999:=by unfold kM;rw[Qi];omega
 obtain⟨kk',e,nd',i',m'⟩:=xj (FS k ss h q (m-j)) (B1 k ss h q _) tt (kM (FS k ss h q n)) kl (λt s r=>by rw[en] at r;exact pU.mpr ((nN k ss h q n t s).mp r).1) b .un .un [] (λt ht=>B9 k ss h q m j t (by omega) ((hb.mem t).mp ht)) List.nodup_nil (λx hx=>by cases hx)
 have hx:∀x,x∈kk'↔∃s,On k ss h q m (j+1) s/\x=stK s:=λx=>by
  rw[m' x];constructor
  ·rintro(z | ⟨t,ht,s,r,z⟩)
   ·cases z
   ·exact⟨s,⟨t,(hb.mem t).mp ht,r⟩,z⟩
  ·rintro⟨s,⟨t,ht,r⟩,z⟩
   exact .inr ⟨t,(hb.mem t).mpr ht,s,r,z⟩
 obtain⟨S,es⟩:=sN nd' hx;have kl':=rE kk' _ nd' i';refine⟨_,S,by rw[Qi,(bO _).length_eq];omega,?_⟩
 have ev:xV (cV (av 6)) 2 [8] (ak 0) (cV (e2 wb (aa 2) (aa 0))) (ak 1) (av 1) (eP k ss h q m b L (.dat (dM (FS k ss h q (m-j)))))=some ((eB kk').map dW):=by
  show(if(b.map stD).length<1000000 then(sc0 (ak 0) (cV (e2 wb (aa 2) (aa 0))) (ak 1) (av 1) (b.map stD) [.un,.un,.dat (dM (FS k ss h q (m-j)))] []).bind _ else none)=_;rw[if_pos (by rw[Qi];omega),e];show(if(kk'.all λk=>!k.isEmpty)=true/\kk'.length<1000000 then some ((eB kk').map dW) else none)=_;rw[if_pos ⟨CW λx z=>(hx x).mp z,by omega⟩]
 unfold dF;refine(au (aX (d:=.lst ((eB kk').map dW)) (cM ev))).trans ?_;rw[es];refine(dE rfl rfl (by rw[Qi];omega)).trans ?_;unfold eP;rw[Jf];rfl
include kk in
theorem pM(hq:StOk q)(m:Nat)(hm:m<=8)(hb:-1000<h/\h<1000)(f0:gU ss h q=true)(few:cw m q<=999)(ne:∀i,i<m->∃t,Ky (FS k ss h q (i+1)) t) :
  ∃R:List (List Stt),eZ [skD k,.int h,stD q,.int (h+(m:Int)),.lst (ss.map sgD)]=some (.lst (R.map eL))/\R.length=m+1/\∀i x,R[i]?=some x->Srtd x (On k ss h q m (m-i))/\x.length<=999:=by
 have lm:=rC k ss h q hq m m (Qf _)
 have hx0:∀x,x∈kM (FS k ss h q m)↔∃s,On k ss h q m 0 s/\x=stK s:=λx=>by
  constructor
  ·intro z
   obtain⟨e,he,rfl⟩:=Q2.mp z;exact⟨e.1,⟨e,he,rfl⟩,rfl⟩
  ·rintro⟨s,o,rfl⟩
   exact pU.mpr o
 obtain⟨S0,es0⟩:=sN (B1 k ss h q m) hx0;have kl:(kM (FS k ss h q m)).length<=999:=by unfold kM;rw[Qi];omega
 have b0l:((eB (kM (FS k ss h q m))).map toS).length<=999:=by rw[Qi,(bO _).length_eq];exact kl
 generalize hb0:(eB (kM (FS k ss h q m))).map toS=b0 at S0 es0 b0l
 have c6:eF (qd (e2 ixD (aa 5) (ma (eC (.int 1))))) [.dat (skD k),.dat (.int h),.dat (stD q),.dat (.int (h+(m:Int))),.dat (.lst (ss.map sgD)),.dat (.lst (fsD k ss h q m)),.un,.un,.un]=some (eL b0):=by
  refine cM ?_;unfold qd;rw[aU (x:=.lst (fsD k ss h q m)) (y:=.int (-1)) rfl rfl (uA k ss h q m)];show(if((msD (enM (FS k ss h q m))).all λe=>!e.1.isEmpty)=true/\(msD (enM (FS k ss h q m))).length<1000000 then some ((eB ((msD (enM (FS k ss h q m))).map (·.1))).map dW) else none)=_;have km:(msD (enM (FS k ss h q m))).map (·.1)=kM (FS k ss h q m):=by unfold msD enM kM;rw[JK,JK];rfl
  have al:((msD (enM (FS k ss h q m))).all λe=>!e.1.isEmpty)=true:=Jc.mpr λe he=>by
   have:e.1∈kM (FS k ss h q m):=by rw[<-km];exact Q2.mpr ⟨e,he,rfl⟩
   obtain⟨s,_,z⟩:=(hx0 _).mp this;rw[z];rfl
  rw[if_pos ⟨al,by rw[zv];omega⟩,km,es0]
 have start:∀(i:Nat) (x:List Stt),([]++[b0])[i]?=some x->Srtd x (On k ss h q m i)/\x.length<=999:=λi x hx=>by
  cases i with
  |zero=>cases hx;exact⟨S0,b0l⟩
  |succ i=>cases hx
 obtain⟨ε',e,L,b,s8,h1,h2,h3,rfl⟩:=cU (g:=ak 8) (gb:=dF) (λj ε=>∃(L:List (List Stt)) (b:List Stt) (s8:Sl),L.length=j/\b.length<=999/\(∀i x,(L++[b])[i]?=some x->Srtd x (On k ss h q m i)/\x.length<=999)/\ε=eP k ss h q m b (L++[b]) s8) ((QE m).map λj=>dM (FS k ss h q (m-j))) 0 (λj d hd ε ⟨L,b,s8,h1,h2,h3,he⟩=>by
  subst he;rw[Qx] at hd;obtain⟨j',ej,rfl⟩:=a_ hd;obtain⟨hj,ej⟩:=Qk.mp ej;rw[Kf] at ej;subst ej;rw[Jy] at hj;rw[Jg] at h1 ⊢;have hbj:(L++[b])[j]?=some b:=by rw[<-h1,QH (Qf _),Zv];rfl
  obtain⟨b',S',l',e'⟩:=vA k ss h q hq m few j hj hm b (h3 j b hbj).1 h2 (L++[b]) (by rw[Qr,h1];show j+1<=9;omega);refine⟨_,_,rfl,.inl e',L++[b],b',_,by rw[Qr,h1];rfl,l',λi x hx=>?_,rfl⟩
  by_cases hi:i<(L++[b]).length
  ·rw[QT hi] at hx
   exact h3 i x hx
  ·rw[QH (by omega)] at hx
   have ei:i=j+1:=by
    have:=(Qk.mp hx).1;rw[Qr,h1] at this hi;simp at this hi;omega
   subst ei;rw[show j+1-(L++[b]).length=0 by rw[Qr,h1];show j+1-(j+1)=0;omega] at hx;cases hx
   exact⟨S',l'⟩) (eP k ss h q m b0 [b0] .un) ⟨[],b0,.un,rfl,b0l,start,rfl⟩
 rw[Qi,Jy,Jg] at h1;refine⟨(L++[b]).reverse,bp rfl ?_,by rw[ZE,Qr,h1];rfl,λi x hx=>?_⟩
 ·unfold lI
  refine(au (aX (d:=.lst (fsD k ss h q m)) (aW (ds:=[skD k,.int h,stD q,.int (h+(m:Int)),.lst (ss.map sgD)]) rfl (rq k kk ss h q hq m hm hb f0 few ne)))).trans ?_;refine(au (aX c6)).trans ?_;refine(au (ε':=eP k ss h q m b0 [b0] .un) rfl).trans ?_
  have it:ua (eF (eSl (aa 5) (aT (eC (.int 1))) b9)) (eP k ss h q m b0 [b0] .un)=some ((QE m).map λj=>dM (FS k ss h q (m-j))):=by
   show some (gO (fsD k ss h q m) (some ((1:Nat):Int)) none).reverse=_;rw[vD,AA]
  refine(au ((bE it).trans e)).trans ?_;rw[List.map_reverse];rfl
 ·have hi:=(Qk.mp hx).1
  rw[ZE,Qr,h1] at hi;rw[Kt (by rw[Qr,h1];exact hi),Qr,h1] at hx;rw[show m+[b].length-1-i=m-i from rfl] at hx;exact h3 (m-i) x hx
end
theorem DJ:Lw.ip=CS:=rfl
theorem CI(ns:List Int)(hn:ns.length<=63)(m:Nat)(hm:m<=5000):∃f:Nat->Int,Lw.eU [.lst (iL ns),.int (m:Int)]=some (.lst (iL (bD f m)))/\∀j,0<=f j/\f j<1000:=by
 obtain⟨row,e,h1,h2⟩:=zE ns hn m hm;obtain⟨f,rfl,hf⟩:=Dy h1 h2;exact⟨f,bp rfl (by rw[DJ];exact e),hf⟩
theorem zy(a0 a1 a2:Int):∃b0 b1,Lw.ic [.lst (iL [a0,a1,a2])]=some (.tup [.int b0,.int b1]):=by
 obtain⟨b0,b1,e⟩:=yw a0 a1 a2;exact⟨b0,b1,bp rfl e⟩
theorem yz:zh Lw.gu:=λl hl b0 b1=>by
 obtain⟨a0,a1,a2,a3,a4,a5,e,h⟩:=BG l hl b0 b1;exact⟨a0,a1,a2,a3,a4,a5,bp rfl e,h⟩
theorem Ea(f:Nat->Int)(b0 b1 hour:Int)(hh:0<=hour/\hour<=24):∃k:Sk,Lw.iO [.lst (iL (bD f 120)),.tup [.int b0,.int b1],.int hour]=some (skD k)/\SkOk k:=by
 obtain⟨hs,cs,ws,ss,e,⟨h1,h2⟩,h3,⟨h4,h5⟩,h6,h7⟩:=Af f b0 b1 hour yz hh;exact⟨⟨hs,cs,ws,ss⟩,bp rfl e,h1,h2,h3,h4,h5,h6,h7⟩
theorem xZ(g:Nat->Int)(b0 b1 n:Int)(hn:0<=n):Lw.gF [.lst (iL (bD g 6)),.tup [.int b0,.int b1],.int n]=some (stD ⟨b0+g 0%7-3,b1+g 1%7-3,g 2%6,g 3%(n+1),g 4%(n+1)⟩):=by
 refine bp rfl ?_;unfold iZ;refine(au rfl).trans ((au rfl).trans ?_);exact cZ (iu (aJ rfl (aJ rfl (aJ rfl (aJ (aU (x:=.int (g 3)) (y:=.int (n+1)) rfl rfl (mh (by omega))) (aJ (aU (x:=.int (g 4)) (y:=.int (n+1)) rfl rfl (mh (by omega))) rfl))))) (show 5<=1000 by decide))
theorem y_{α:Type}(xs:List α)(enc:α->D)(j:Int)(h0:0<=j)(h1:j<(xs.length:Int)):∃x∈xs,ixD (.lst (xs.map enc)) (.int j)=some (enc x):=by
 obtain⟨d,hd,e⟩:=yM (xs.map enc) j h0 (by rw[Qi];exact h1);obtain⟨x,hx,rfl⟩:=Q2.mp hd;exact⟨x,hx,e⟩
theorem gk{α:Type}{xs:List α}{enc:α->D}{i:Nat}{x:α}(h:xs[i]?=some x):ixD (.lst (xs.map enc)) (.int (i:Int))=some (enc x):=kP (by rw[Qx,h];rfl)
theorem tQ{g:D->Ev->Option Ev}{gb:Ev->Option Fl}(P:Nat->Ev->Prop)(R:D->Prop):∀(ds:List D) (n:Nat),(∀i d,ds[i]?=some d->∀ε,P (n+i) ε->∃ε1,g d ε=some ε1/\((∃ε2,gb ε1=some (.nx ε2)/\P (n+i+1) ε2)\/∃r,gb ε1=some (.rt r)/\R r))->
  ∀ε,P n ε->(∃ε',cO g gb ds ε=some (.nx ε')/\P (n+ds.length) ε')\/∃r,cO g gb ds ε=some (.rt r)/\R r
 |[],n,_,ε,p=>.inl ⟨ε,rfl,p⟩
 |d::ds,n,st,ε,p=>by
  obtain⟨ε1,e1,z⟩:=st 0 d rfl ε p;rcases z with⟨ε2,e2,p2⟩ | ⟨r,e2,hr⟩
  ·have e:cO g gb (d::ds) ε=cO g gb ds ε2:=by
    show(g d ε).bind _=_;rw[e1];show(gb ε1).bind _=_;rw[e2];rfl
   rw[e,QA,show n+(ds.length+1)=(n+1)+ds.length by omega]
   exact tQ P R ds (n+1) (λi d' hi ε p=>by
    have:=st (i+1) d' (by simpa using hi) ε (by rw[show n+(i+1)=n+1+i by omega];exact p);rw[show n+(i+1)=n+1+i by omega] at this
    exact this) ε2 p2
  ·refine .inr ⟨r,?_,hr⟩
   show(g d ε).bind _=_;rw[e1];show(gb ε1).bind _=_;rw[e2];rfl
theorem allI(n:Nat):∀r t:List Int,∃b,iF (cq (n+1)) (r.map D.int) (t.map D.int)=some b/\(b&&(r.map D.int).length==(t.map D.int).length)=decide (r=t)
 |[],[]=>⟨true,rfl,rfl⟩
 |[],y::t=>⟨true,rfl,rfl⟩
 |x::r,[]=>⟨true,rfl,rfl⟩
 |x::r,y::t=>by
  obtain⟨b,e,h⟩:=allI n r t;refine⟨decide (x=y)&&b,?_,?_⟩
  ·show(cq (n+1) (.int x) (.int y)).bind (λa=>(iF (cq (n+1)) (r.map D.int) (t.map D.int)).bind λb=>some (a&&b))=_
   rw[e];rfl
  ·rw[Bool.and_assoc]
   have:(b&&(List.map D.int (x::r)).length==(List.map D.int (y::t)).length)=decide (r=t):=by
    rw[<-h];congr 1;rw[Qv,Qv,QA,QA];rw[Zq];simp
   rw[this,Zq];simp
theorem GQ(r t:List Int):cq 9 (dW r) (dW t)=some (decide (r=t)):=by
 obtain⟨b,e,h⟩:=allI 7 r t;show(iF (cq 8) (r.map D.int) (t.map D.int)).map _=_;rw[e,<-h];rfl
theorem wQ(p:Stt):∀b:List Stt,inL (stD p) (b.map stD)=some (b.map λs=>decide (stK s=stK p))
 |[]=>rfl
 |s::b=>by
  show(cq 9 (dW (stK s)) (dW (stK p))).bind (λc=>(inL (stD p) (b.map stD)).bind λd=>some (c::d))=_;rw[GQ,wQ p b];rfl
theorem BS{p:Stt}{b:List Stt}(h:p∈b)(neg:Bool):n_ neg (stD p) (.lst (b.map stD))=some (.bl (if neg=true then false else true)):=by
 show(inL (stD p) (b.map stD)).bind _=_;rw[wQ]
 have:(b.map λs=>decide (stK s=stK p)).any id=true:=by
  rw[List.any_map,List.any_eq_true];exact⟨p,h,decide_eq_true rfl⟩
 show some (D.bl (if neg=true then !(b.map λs=>decide (stK s=stK p)).any id else(b.map λs=>decide (stK s=stK p)).any id))=_;rw[this];rfl
section
variable(k:Sk)(kk:SkW k)(h:Int)(q:Stt)
def Pt(P:List Stt):Prop:=P[0]?=some q/\∀(i:Nat) a b,P[i]?=some a->P[i+1]?=some b->∃o∈can k (h+(i:Int)) a,b=bo k (h+(i:Int)) a o
variable{k h q}
theorem Pt.pos{P:List Stt}(p:Pt k h q P):0<P.length:=(Qk.mp p.1).1
theorem Pt.ok{P:List Stt}(p:Pt k h q P)(hq:StOk q):∀(i:Nat) a,P[i]?=some a->StOk a
 |0,a,e=>by rw[p.1] at e;cases e;exact hq
 |i+1,b,e=>by
  have hi:=(Qk.mp e).1;have ea:P[i]?=some P[i]:=by simp[show i<P.length by omega]
  obtain⟨o,ho,rfl⟩:=p.2 i _ b ea e;obtain⟨io,hw⟩:=um ho;exact yX k _ _ o io (p.ok hq i _ ea) hw
theorem Pt.snoc{L:List Stt}{a:Stt}{i:Nat}{o:Str}(p:Pt k h q (L++[a]))(hi:L.length=i)(ho:o∈can k (h+(i:Int)) a):Pt k h q (L++[a]++[bo k (h+(i:Int)) a o]):=by
 have ln:(L++[a]).length=i+1:=by rw[Qr,hi];rfl
 refine⟨by rw[QT (by omega)];exact p.1,λj x y e1 e2=>?_⟩
 by_cases hj:j+1<(L++[a]).length
 ·rw[QT (by omega)] at e1
  rw[QT hj] at e2;exact p.2 j x y e1 e2
 ·have l2:=(Qk.mp e2).1
  rw[Qr,ln] at l2;have ej:j=i:=by simp at l2;omega
  subst ej;rw[QH (by omega),ln,Zv] at e2;rw[QT (by omega),QH (by omega),hi,Zv] at e1;cases e1;cases e2;exact⟨o,ho,rfl⟩
theorem Pt.take{P:List Stt}(p:Pt k h q P)(n:Nat):Pt k h q (P.take (n+1)):=by
 refine⟨by rw[Zr (by omega)];exact p.1,λj x y e1 e2=>?_⟩;have l2:=(Qk.mp e2).1;rw[QP] at l2;rw[Zr (by omega)] at e1 e2;exact p.2 j x y e1 e2
variable{ss:List Sg}
def D4(ss:List Sg)(h:Int)(P:List Stt):Prop:=∀(i:Nat) a,P[i]?=some a->gU ss (h+(i:Int)) a=true
theorem Pt.ky{P:List Stt}(p:Pt k h q P)(f:D4 ss h P):∀(i:Nat) a,P[i]?=some a->Ky (FS k ss h q i) a
 |0,a,e=>by rw[p.1] at e;cases e;exact⟨_,Qt.mpr rfl,rfl⟩
 |i+1,b,e=>by
  have hi:=(Qk.mp e).1;have ea:P[i]?=some P[i]:=by simp[show i<P.length by omega]
  obtain⟨o,ho,z⟩:=p.2 i _ b ea e;have fb:=f (i+1) b e;rw[show h+((i+1:Nat):Int)=h+(i:Int)+1 by omega] at fb;exact FW ((nN k ss h q i b P[i]).mpr ⟨p.ky f i _ ea,o,ho,z,fb⟩)
theorem Pt.on{P:List Stt}(p:Pt k h q P)(f:D4 ss h P)(m:Nat)(hm:P.length=m+1):∀(j:Nat) a,j<=m->P[m-j]?=some a->On k ss h q m j a
 |0,a,_,e=>p.ky f m a e
 |j+1,a,hj,e=>by
  obtain⟨b,eb⟩:∃b,P[m-j]?=some b:=⟨P[m-j]'(by omega),by simp[show m-j<P.length by omega]⟩;refine⟨b,p.on f m hm j _ (by omega) eb,?_⟩;obtain⟨n,en⟩:∃n,m-(j+1)=n:=⟨_,rfl⟩;have e1:m-j=n+1:=by omega
  rw[en] at e;have eb':P[n+1]?=some b:=by rw[<-e1];exact eb
  obtain⟨o,ho,z⟩:=p.2 n a _ e eb';have fb:=f (n+1) _ eb';rw[show h+((n+1:Nat):Int)=h+(n:Int)+1 by omega] at fb;rw[e1];exact(nN k ss h q n _ a).mpr ⟨p.ky f n a e,o,ho,z,fb⟩
variable(k h q)
include kk in
theorem Ao(hq:StOk q)(g:Nat->Int)(hh:0<=h/\h<=24):∃P:List Stt,Lw.h8 [skD k,.int h,stD q,.lst (iL (bD g 10))]=some (.lst (P.map stD))/\Pt k h q P/\P.length<=9:=by
 let N:Int:=if 24-h<g 0%9 then 24-h else g 0%9
 have hN:0<=N/\N<=8:=by show 0<=(if 24-h<g 0%9 then 24-h else g 0%9)/\(if 24-h<g 0%9 then 24-h else g 0%9)<=8;split<;>omega
 let E:List Stt->Sl->Sl->Ev:=λL a b=>[.dat (skD k),.dat (.int h),.dat (stD q),.dat (.lst (iL (bD g 10))),.own (L.map stD),a,b];have it:cy (aK pX (ag (e2 aH (e2 ixD (aa 3) (eC (.int 0))) (eC (.int 9))) (ag (e2 bA (eC (.int 24)) (aa 1)) aF))) (E [q] .un .un)=some (da N.toNat):=fB (j:=N) (aW (ds:=[.int (g 0%9),.int (24-h)]) (aJ (aU (x:=.int (g 0)) (y:=.int 9) rfl rfl (mh (by decide))) rfl) rfl) hN.1 (by omega)
 have loop:=tQ (g:=ak 5) (gb:=cK) (λi ε=>∃L a s5 s6,L.length=i/\Pt k h q (L++[a])/\ε=E (L++[a]) s5 s6) (λd=>∃P:List Stt,d=.lst (P.map stD)/\Pt k h q P/\P.length<=9) (da N.toNat) 0 (λi d hd ε ⟨L,a,s5,s6,hl,p,he⟩=>by
  obtain⟨rfl,hi⟩:=dR hd;subst he;rw[Jg] at hl ⊢;refine⟨E (L++[a]) (.dat (.int (i:Int))) s6,rfl,?_⟩;have sa:StOk a:=p.ok hq i a (by rw[QH (by omega),hl,Zv];rfl);have nx:=Br k kk (h+(i:Int)) [a] (by simp) (λs hs=>by rw[Qt.mp hs];exact sa);have la:e2 ixD (aa 4) (ma (eC (.int 1))) (E (L++[a]) (.dat (.int (i:Int))) s6)=some (stD a):=aU (x:=.lst ((L++[a]).map stD)) (y:=.int (-1)) rfl rfl (by rw[Jf];exact y9 _ _)
  have st1:a8 6 (aK fI (ag (av 0) (ag (e2 aN (aa 1) (aa 5)) (ag (eF (cI (ag (e2 ixD (aa 4) (ma (eC (.int 1)))) aF))) aF)))) (E (L++[a]) (.dat (.int (i:Int))) s6)=some (.nx (E (L++[a]) (.dat (.int (i:Int))) (.dat (.lst ((LN k (h+(i:Int)) [a]).map stD))))):=
   aX (aW (ds:=[skD k,.int (h+(i:Int)),.lst ([a].map stD)]) (aJ rfl (aJ rfl (aJ (cM (by unfold cI;rw[aJ la (AR)];rfl)) rfl))) nx)
  have ln3:=CO k (h+(i:Int)) [a];rw[show([a]:List Stt).length=1 from rfl] at ln3;generalize hLN:LN k (h+(i:Int)) [a]=X at st1 ln3;have len:∀L' ,bS bU (aa 6) (E L' (.dat (.int (i:Int))) (.dat (.lst (X.map stD))))=some (.int (X.length:Int)):=λL'=>gf (x:=.lst (X.map stD)) rfl (by show some (D.int ((X.map stD).length:Int))=_;rw[Qi]);have c1:∀L',ay gtI (bS bU (aa 6)) (eC (.int 0)) (E L' (.dat (.int (i:Int))) (.dat (.lst (X.map stD))))=some (decide ((X.length:Int)>0)):=λL'=>cA (x:=.int (X.length:Int)) (y:=.int 0) (len L') rfl rfl;have c2:∀L',ay br (bS bU (aa 6)) (eC (.int 0)) (E L' (.dat (.int (i:Int))) (.dat (.lst (X.map stD))))=some (decide ((X.length:Int)=0)):=λL'=>cA (x:=.int (X.length:Int)) (y:=.int 0) (len L') rfl rfl
  by_cases hx:X.length=0
  ·refine .inr ⟨.lst ((L++[a]).map stD),?_,L++[a],rfl,p,by rw[Qr,hl];show i+1<=9;omega⟩
   unfold cK;refine(au st1).trans ?_;refine(au (dB ((c1 _).trans (by rw[decide_eq_false (by omega)])))).trans ?_;exact(eW ((c2 _).trans (by rw[decide_eq_true (by omega)]))).trans rfl
  ·obtain⟨x,hxm,ex⟩:=y_ X stD (g (1+i)%(X.length:Int)) (ZX _ (by omega)) (ZP _ (by omega))
   rw[<-hLN] at hxm;obtain⟨a',ha',o,ho,rfl⟩:=(Ek k _ [a] x).mp hxm;rw[Qt.mp ha'] at ho ex;refine .inl ⟨_,?_,L++[a],bo k (h+(i:Int)) a o,.dat (.int (i:Int)),.dat (.lst (X.map stD)),by rw[Qr,hl];rfl,p.snoc hl ho,rfl⟩;unfold cK;refine(au st1).trans ?_
   have ap:dg 4 (e2 ixD (aa 6) (e2 aH (e2 ixD (aa 3) (e2 aN (eC (.int 1)) (aa 5))) (bS bU (aa 6)))) (E (L++[a]) (.dat (.int (i:Int))) (.dat (.lst (X.map stD))))=some (.nx (E (L++[a]++[bo k (h+(i:Int)) a o]) (.dat (.int (i:Int))) (.dat (.lst (X.map stD))))):=by
    refine(dE (d:=stD (bo k (h+(i:Int)) a o)) (ds:=(L++[a]).map stD) (aU (x:=.lst (X.map stD)) (y:=.int (g (1+i)%(X.length:Int))) rfl (aU (x:=.int (g (1+i))) (y:=.int (X.length:Int)) (aU (x:=.lst (iL (bD g 10))) (y:=.int ((1+i:Nat):Int)) rfl (by show some (D.int (1+(i:Int)))=_;rw[Int.natCast_add];rfl) (i8 g 10 (1+i) (by omega))) (len _) (mh (by omega))) ex) rfl (by rw[Qi,Qr,hl];show i+1<_;omega)).trans ?_;show some (Fl.nx [.dat (skD k),.dat (.int h),.dat (stD q),.dat (.lst (iL (bD g 10))),.own ((L++[a]).map stD++[stD (bo k (h+(i:Int)) a o)]),.dat (.int (i:Int)),.dat (.lst (X.map stD))])=some (Fl.nx [.dat (skD k),.dat (.int h),.dat (stD q),.dat (.lst (iL (bD g 10))),.own ((L++[a]++[bo k (h+(i:Int)) a o]).map stD),.dat (.int (i:Int)),.dat (.lst (X.map stD))]);rw[Jf (l₁:=L++[a])];rfl
   refine(au ((eW ((c1 _).trans (by rw[decide_eq_true (by omega)]))).trans ap)).trans ?_
   exact(dB ((c2 _).trans (by rw[decide_eq_false (by omega)]))).trans rfl) (E [q] .un .un) ⟨[],q,.un,.un,rfl,⟨rfl,λi a b e1 e2=>by cases e2⟩,rfl⟩
 have start:jV [.dat (skD k),.dat (.int h),.dat (stD q),.dat (.lst (iL (bD g 10))),.un,.un,.un]=(aC (cJ (cy (aK pX (ag (e2 aH (e2 ixD (aa 3) (eC (.int 0))) (eC (.int 9))) (ag (e2 bA (eC (.int 24)) (aa 1)) aF)))) (ak 5) (cK)) (sFz 4 (bh (av 4)))) (E [q] .un .un):=au rfl;rcases loop with⟨ε',e,L,a,s5,s6,hl,p,rfl⟩ | ⟨r,e,P,rfl,p,hl⟩
 ·rw[rngD_len,Jg] at hl
  refine⟨L++[a],bp rfl (start.trans ?_),p,by rw[Qr,hl];show _+1<=9;omega⟩;exact(au ((bE it).trans e)).trans rfl
 ·exact⟨P,bp rfl (start.trans (bQ ((bE it).trans e))),p,hl⟩
end
section
variable(f:Nat->Int)(hour b0 b1:Int)(m:Nat)(P:List Stt)
abbrev u0:D:=.lst (P.map λp=>.lst [stD p])
abbrev eT(ss:List Sg)(s6 s7 s8 s9 s10 s11:Sl):Ev:=[.dat (.lst (iL (bD f 62))),.dat (.int hour),.dat (.int (m:Int)),.dat (u0 P),.dat (.tup [.int b0,.int b1]),.own (ss.map sgD),s6,s7,s8,s9,s10,s11]
abbrev cIf:Ev->Option Fl:=(sIf (bJ (ay gtI (bS bU (e2 ixD (aa 3) (aa 8))) (eC (.int 0))) (ay gtI (e2 aH (e2 ixD (aa 7) (eC (.int 7))) (eC (.int 4))) (eC (.int 0)))) (aC (a8 10 (e2 ixD (e2 ixD (aa 3) (aa 8)) (e2 aH (e2 ixD (aa 7) (eC (.int 8))) (bS bU (e2 ixD (aa 3) (aa 8)))))) (aC (a8 11 (e2 aH (e2 cC (e2 ixD (aa 7) (eC (.int 7))) (eC (.int 4))) (eC (.int 3)))) (a8 9 (bM (ag (e2 bA (e2 ixD (aa 10) (eC (.int 0))) (aa 11)) (ag (e2 bA (e2 ixD (aa 10) (eC (.int 1))) (e2 aH (e2 ixD (aa 7) (eC (.int 1))) (eC (.int 3)))) (ag (e2 aN (e2 ixD (aa 10) (eC (.int 0))) (e2 aH (e2 ixD (aa 7) (eC (.int 2))) (eC (.int 3)))) (ag (e2 aN (e2 ixD (aa 10) (eC (.int 1))) (aa 11)) (ag (e2 aH (e2 ixD (aa 7) (eC (.int 3))) (e2 aN (e2 ixD (aa 10) (eC (.int 2))) (eC (.int 1)))) (ag (eC (.int 5)) aF)))))))))) bC)
theorem rO(hm:P.length=m+1)(zz:∀p∈P,0<=p.z)(i:Nat)(hi:i<6)(ss:List Sg)(hs:ss.length<1000)(s7 s8 s9 s10 s11:Sl):∃(g:Sg) (t7 t8 t9 t10 t11:Sl),(∃j:Nat,j<=m/\g.h=hour+(j:Int))/\
  cP (eT f hour b0 b1 m P ss (.dat (.int (i:Int))) s7 s8 s9 s10 s11)=some (.nx (eT f hour b0 b1 m P (ss++[g]) (.dat (.int (i:Int))) t7 t8 t9 t10 t11)):=by
 unfold cP;let g:Nat->Int:=λj=>f (1+10*i+j)
 have c7:eF (eSl (aa 0) (aT (e2 aN (eC (.int 1)) (e2 bH (eC (.int 10)) (aa 6)))) (aT (e2 aN (eC (.int 11)) (e2 bH (eC (.int 10)) (aa 6))))) (eT f hour b0 b1 m P ss (.dat (.int (i:Int))) s7 s8 s9 s10 s11)=some (.lst (iL (bD g 10))):=by
  have mm:e2 bH (eC (.int 10)) (aa 6) (eT f hour b0 b1 m P ss (.dat (.int (i:Int))) s7 s8 s9 s10 s11)=some (.int (10*(i:Int))):=(bP (x:=.int 10) (y:=.int (i:Int)) rfl rfl).trans (sS (by decide));refine cM ?_;have hc:=lC f 62 (1+10*i) 10 (by omega);unfold eSl aT;rw[bP (op:=aN) (x:=.int 1) (y:=.int (10*(i:Int))) rfl mm,bP (op:=aN) (x:=.int 11) (y:=.int (10*(i:Int))) rfl mm];show some (Dn.gO (iL (bD f 62)) (some (1+10*(i:Int))) (some (11+10*(i:Int))))=_;rw[show(1+10*(i:Int))=((1+10*i:Nat):Int) by omega,show(11+10*(i:Int))=((1+10*i+10:Nat):Int) by omega,hc]
 have a0:0<=g 0%((m:Int)+1):=ZX _ (by omega);have a1:g 0%((m:Int)+1)<(m:Int)+1:=ZP _ (by omega);obtain⟨j,ej⟩:∃j:Nat,g 0%((m:Int)+1)=(j:Int):=⟨(g 0%((m:Int)+1)).toNat,by omega⟩;have hj:j<=m:=by omega
 obtain⟨p,ep⟩:∃p,P[j]?=some p:=⟨P[j]'(by omega),by simp[show j<P.length by omega]⟩;have zp:=zz p (QZ ep)
 have c8:∀s8,e2 aH (e2 ixD (aa 7) (eC (.int 0))) (e2 aN (aa 2) (eC (.int 1))) (eT f hour b0 b1 m P ss (.dat (.int (i:Int))) (.dat (.lst (iL (bD g 10)))) s8 s9 s10 s11)=some (.int (j:Int)):=λs8=>by
  rw[<-ej];exact aU (x:=.int (g 0)) (y:=.int ((m:Int)+1)) (aU (x:=.lst (iL (bD g 10))) (y:=.int ((0:Nat):Int)) rfl rfl (i8 g 10 0 (by decide))) rfl (mh (by omega))
 obtain⟨x0,x1,x2,x3,x4,x5,eb,_⟩:=yz [g 1,g 2,g 3,g 4,g 5,g 6] (by simp) b0 b1
 have fin:∀(c0 c1 c2 c3 c4 c5:Int) (s10 s11:Sl),dg 5 (e2 CatI.oS (e2 CatI.oS (bM (ag (e2 aN (aa 1) (aa 8)) aF)) (aa 9)) (bM (ag (e2 gtI (e2 aH (e2 ixD (aa 7) (eC (.int 9))) (eC (.int 3))) (eC (.int 0))) aF))) (eT f hour b0 b1 m P ss (.dat (.int (i:Int))) (.dat (.lst (iL (bD g 10)))) (.dat (.int (j:Int))) (.dat (t6 c0 c1 c2 c3 c4 c5)) s10 s11)=some (.nx (eT f hour b0 b1 m P (ss++[⟨hour+(j:Int),c0,c1,c2,c3,c4,c5,decide (g 9%3>0)⟩]) (.dat (.int (i:Int))) (.dat (.lst (iL (bD g 10)))) (.dat (.int (j:Int))) (.dat (t6 c0 c1 c2 c3 c4 c5)) s10 s11)):=λc0 c1 c2 c3 c4 c5 s10 s11=>by
  refine(dE (d:=sgD ⟨hour+(j:Int),c0,c1,c2,c3,c4,c5,decide (g 9%3>0)⟩) rfl rfl (by simp;omega)).trans ?_;unfold eT;rw[Jf];rfl
 obtain⟨c0,c1,c2,c3,c4,c5,u10,u11,hif⟩:∃c0 c1 c2 c3 c4 c5 u10 u11,cIf (eT f hour b0 b1 m P ss (.dat (.int (i:Int))) (.dat (.lst (iL (bD g 10)))) (.dat (.int (j:Int))) (.dat (t6 x0 x1 x2 x3 x4 x5)) s10 s11)=some (.nx (eT f hour b0 b1 m P ss (.dat (.int (i:Int))) (.dat (.lst (iL (bD g 10)))) (.dat (.int (j:Int))) (.dat (t6 c0 c1 c2 c3 c4 c5)) u10 u11)):=by
  have hl:e2 ixD (aa 3) (aa 8) (eT f hour b0 b1 m P ss (.dat (.int (i:Int))) (.dat (.lst (iL (bD g 10)))) (.dat (.int (j:Int))) (.dat (t6 x0 x1 x2 x3 x4 x5)) s10 s11)=some (.lst [stD p]):=aU (x:=u0 P) (y:=.int (j:Int)) rfl rfl (gk (enc:=λp=>.lst [stD p]) ep)
  have cnd:bJ (ay gtI (bS bU (e2 ixD (aa 3) (aa 8))) (eC (.int 0))) (ay gtI (e2 aH (e2 ixD (aa 7) (eC (.int 7))) (eC (.int 4))) (eC (.int 0))) (eT f hour b0 b1 m P ss (.dat (.int (i:Int))) (.dat (.lst (iL (bD g 10)))) (.dat (.int (j:Int))) (.dat (t6 x0 x1 x2 x3 x4 x5)) s10 s11)=some (true&&decide (g 7%4>0)):=
   cE (cA (x:=.int 1) (y:=.int 0) (gf hl rfl) rfl rfl) rfl
  unfold cIf
  by_cases h7:g 7%4>0
  ·rw[eW (cnd.trans (by rw[decide_eq_true h7];rfl))]
   refine⟨p.x-g 7/4%3,p.y-g 1%3,p.x+g 2%3,p.y+g 7/4%3,g 3%(p.z+1),5,.dat (stD p),.dat (.int (g 7/4%3)),?_⟩
   have c10:e2 ixD (e2 ixD (aa 3) (aa 8)) (e2 aH (e2 ixD (aa 7) (eC (.int 8))) (bS bU (e2 ixD (aa 3) (aa 8)))) (eT f hour b0 b1 m P ss (.dat (.int (i:Int))) (.dat (.lst (iL (bD g 10)))) (.dat (.int (j:Int))) (.dat (t6 x0 x1 x2 x3 x4 x5)) s10 s11)=some (stD p):=
    aU (x:=.lst [stD p]) (y:=.int (g 8%1)) hl (aU (x:=.int (g 8)) (y:=.int 1) rfl (gf hl rfl) (mh (by decide))) (by rw[show g 8%1=0 by omega];rfl)
   refine(au (aX c10)).trans ((au rfl).trans ?_);refine aX (d:=t6 (p.x-g 7/4%3) (p.y-g 1%3) (p.x+g 2%3) (p.y+g 7/4%3) (g 3%(p.z+1)) 5) ?_;have cm:e2 aH (e2 ixD (aa 7) (eC (.int 3))) (e2 aN (e2 ixD (aa 10) (eC (.int 2))) (eC (.int 1))) (eT f hour b0 b1 m P ss (.dat (.int (i:Int))) (.dat (.lst (iL (bD g 10)))) (.dat (.int (j:Int))) (.dat (t6 x0 x1 x2 x3 x4 x5)) (.dat (stD p)) (.dat (.int (g 7/4%3))))=some (.int (g 3%(p.z+1))):=(bP (x:=.int (g 3)) (y:=.int (p.z+1)) rfl rfl).trans (mh (by omega));show bM _ (eT f hour b0 b1 m P ss (.dat (.int (i:Int))) (.dat (.lst (iL (bD g 10)))) (.dat (.int (j:Int))) (.dat (t6 x0 x1 x2 x3 x4 x5)) (.dat (stD p)) (.dat (.int (g 7/4%3))))=_;unfold bM ag;rw[cm];rfl
  ·rw[dB (cnd.trans (by rw[decide_eq_false h7];rfl))]
   exact⟨x0,x1,x2,x3,x4,x5,s10,s11,rfl⟩
 refine⟨⟨hour+(j:Int),c0,c1,c2,c3,c4,c5,decide (g 9%3>0)⟩,.dat (.lst (iL (bD g 10))),.dat (.int (j:Int)),.dat (t6 c0 c1 c2 c3 c4 c5),u10,u11,⟨j,hj,rfl⟩,?_⟩;refine(au (aX c7)).trans ?_;refine(au (aX (c8 s8))).trans ?_;refine(au (aX (d:=t6 x0 x1 x2 x3 x4 x5) eb)).trans ?_;exact(au hif).trans (fin c0 c1 c2 c3 c4 c5 u10 u11)
theorem u9(hm:P.length=m+1)(zz:∀p∈P,0<=p.z):∃ss:List Sg,Lw.fQ [.lst (iL (bD f 62)),.int hour,.int (m:Int),u0 P,.tup [.int b0,.int b1]]=some (.lst (ss.map sgD))/\ss.length<10/\∀g∈ss,∃j:Nat,j<=m/\g.h=hour+(j:Int):=by
 obtain⟨ε',e,ss,s6,s7,s8,s9,s10,s11,hs,ha,rfl⟩:=cU (g:=ak 6) (gb:=cP) (λi ε=>∃(ss:List Sg) (s6 s7 s8 s9 s10 s11:Sl),ss.length=i/\(∀g∈ss,∃j:Nat,j<=m/\g.h=hour+(j:Int))/\ε=eT f hour b0 b1 m P ss s6 s7 s8 s9 s10 s11) (da (f 0%6).toNat) 0 (λi d hd ε ⟨ss,s6,s7,s8,s9,s10,s11,hs,ha,he⟩=>by
  obtain⟨rfl,hi⟩:=dR hd;subst he;obtain⟨g,t7,t8,t9,t10,t11,hg,e2⟩:=rO f hour b0 b1 m P hm zz i (by omega) ss (by omega) s7 s8 s9 s10 s11;refine⟨_,_,rfl,.inl e2,ss++[g],_,_,_,_,_,_,by rw[Qr,hs];rfl,λx hx=>?_,rfl⟩;rcases QM.mp hx with z | z
  ·exact ha x z
  ·rw[Qt.mp z];exact hg) (eT f hour b0 b1 m P [] .un .un .un .un .un .un) ⟨[],_,_,_,_,_,_,rfl,(λg hg=>by cases hg),rfl⟩
 refine⟨ss,bp rfl ?_,by rw[rngD_len] at hs;omega,ha⟩;unfold iG;refine(au (ε':=eT f hour b0 b1 m P [] .un .un .un .un .un .un) rfl).trans ?_;refine(au ((bE (fB (j:=f 0%6) rfl (by omega) (by omega))).trans e)).trans ?_;rfl
end
section
variable(k:Sk)(h:Int)(q:Stt)(P:List Stt)
def Tr(g:Sg):Prop:=∃(j:Nat) (p:Stt),P[j]?=some p/\g.h=h+(j:Int)/\g.w=in6 (bx g) p.x p.y p.z
theorem kE{ss:List Sg}(t:∀g∈ss,Tr h P g):D4 ss h P:=λi a e=>by
 unfold gU;rw[J1,List.any_eq_false];intro g hg z;unfold vC at z;obtain⟨z1,z2⟩:=KC.mp z;obtain⟨j,p,ep,eh,ew⟩:=t g hg;have:j=i:=by have:=of_decide_eq_true z1;omega
 subst this;rw[ep] at e;cases e;rw[decide_eq_true ew.symm] at z2;cases z2
abbrev evL(A:Sl)(f:Nat->Int)(b0 b1 n:Int)(dr:D)(s9 s10 s11 s12 s13 s14 s15 s16:Sl):Ev:=[A,.dat (.lst (iL (bD f 230))),.dat (.tup [.int b0,.int b1]),.dat (.int h),.dat (skD k),.dat (.int n),.dat (.lst (P.map stD)),.dat (u0 P),.dat dr,s9,s10,s11,s12,s13,s14,s15,s16]
variable(A:Sl)(f:Nat->Int)(b0 b1 n:Int)(dr:D)
theorem vz(m:Nat)(hm:P.length=m+1)(ss:List Sg)(hs:ss.length<1000)(g:Sg)(hg:∃j:Nat,j<=m/\g.h=h+(j:Int))(s11 s12 s13 s14 s15 s16:Sl) :
  ∃(g':Sg) (t11:Sl),Tr h P g'/\jr (evL k h P A f b0 b1 n dr (.own (ss.map sgD)) (.dat (sgD g)) s11 s12 s13 s14 s15 s16)=some (.nx (evL k h P A f b0 b1 n dr (.own ((ss++[g']).map sgD)) (.dat (sgD g)) t11 s12 s13 s14 s15 s16)):=by
 obtain⟨j,hj,ej⟩:=hg;obtain⟨p,ep⟩:∃p,P[j]?=some p:=⟨P[j]'(by omega),by simp[show j<P.length by omega]⟩;refine⟨⟨g.h,g.a,g.b,g.c,g.d,g.e,g.f,in6 (bx g) p.x p.y p.z⟩,.dat (stD p),⟨j,p,ep,ej,rfl⟩,?_⟩;unfold jr;refine(au (aX (d:=stD p) (aU (x:=.lst (P.map stD)) (y:=.int (j:Int)) rfl (by show some (D.int (g.h-h))=_;rw[show g.h-h=(j:Int) by omega]) (gk ep)))).trans ?_;have ei:aK eN (ag (fq (aa 10) (aT (eC (.int 1))) (aT (eC (.int 7)))) (ag (e2 ixD (aa 11) (eC (.int 0))) (ag (e2 ixD (aa 11) (eC (.int 1))) (ag (e2 ixD (aa 11) (eC (.int 2))) aF)))) (evL k h P A f b0 b1 n dr (.own (ss.map sgD)) (.dat (sgD g)) (.dat (stD p)) s12 s13 s14 s15 s16)=some (.bl (in6 (bx g) p.x p.y p.z)):=aW (ds:=[t6 g.a g.b g.c g.d g.e g.f,.int p.x,.int p.y,.int p.z]) rfl (qO (bx g) p.x p.y p.z);refine(dE (d:=sgD ⟨g.h,g.a,g.b,g.c,g.d,g.e,g.f,in6 (bx g) p.x p.y p.z⟩) (ds:=ss.map sgD) (aU (x:=.tup [.int g.h,.int g.a,.int g.b,.int g.c,.int g.d,.int g.e,.int g.f]) (y:=.tup [.bl (in6 (bx g) p.x p.y p.z)]) rfl (iu (aJ ei rfl) (show 1<=1000 by decide)) rfl) rfl (by rw[Qi];omega)).trans ?_;unfold evL;rw[Jf];rfl
theorem vJ(i:Nat)(p:Stt)(ep:P[i]?=some p)(ss:List Sg)(hs:ss.length<1000)(s10 s11 s12 s14 s15 s16:Sl) :
  hV (evL k h P A f b0 b1 n dr (.own (ss.map sgD)) s10 s11 s12 (.dat (.int (i:Int))) s14 s15 s16)=some (.nx (evL k h P A f b0 b1 n dr (.own ((ss++[(⟨h+(i:Int),p.x,p.y,p.x,p.y,p.z,p.z,true⟩:Sg)]).map sgD)) s10 s11 s12 (.dat (.int (i:Int))) (.dat (.int p.x)) (.dat (.int p.y)) (.dat (.int p.z)))):=by
 unfold hV
 have e1:fq (e2 ixD (aa 6) (aa 13)) b9 (aT (eC (.int 3))) (evL k h P A f b0 b1 n dr (.own (ss.map sgD)) s10 s11 s12 (.dat (.int (i:Int))) s14 s15 s16)=some (.tup [.int p.x,.int p.y,.int p.z]):=by
  unfold fq;rw[aU (x:=.lst (P.map stD)) (y:=.int (i:Int)) rfl rfl (gk ep)];rfl
 have e2':gS (fq (e2 ixD (aa 6) (aa 13)) b9 (aT (eC (.int 3)))) (df 3 (aA (ak 14) (aA (ak 15) (aA (ak 16) bI)))) (evL k h P A f b0 b1 n dr (.own (ss.map sgD)) s10 s11 s12 (.dat (.int (i:Int))) s14 s15 s16)=some (.nx (evL k h P A f b0 b1 n dr (.own (ss.map sgD)) s10 s11 s12 (.dat (.int (i:Int))) (.dat (.int p.x)) (.dat (.int p.y)) (.dat (.int p.z)))):=by
  unfold gS;rw[e1];rfl
 refine(au e2').trans ?_;refine(dE (d:=sgD ⟨h+(i:Int),p.x,p.y,p.x,p.y,p.z,p.z,true⟩) (ds:=ss.map sgD) rfl rfl (by rw[Qi];omega)).trans ?_;unfold evL;rw[Jf];rfl
theorem wO(p:Stt)(t:Int)(s:Stt):in6 (bx ⟨t,p.x,p.y,p.x,p.y,p.z,p.z,true⟩) s.x s.y s.z=true↔s.x=p.x/\s.y=p.y/\s.z=p.z:=by
 show((decide (p.x<=s.x)&&decide (s.x<=p.x))&&((decide (p.y<=s.y)&&decide (s.y<=p.y))&&(decide (p.z<=s.z)&&decide (s.z<=p.z))))=true↔_;simp only[decide_eq_true_eq,Z4];omega
theorem vQ(i:Nat)(p:Stt)(ep:P[i]?=some p)(R:List (List Stt))(b:List Stt)(eb:R[i]?=some b)(bl:b.length<1000000)(hp:p∈b)(hs:∀s∈b,s.x=p.x/\s.y=p.y/\s.z=p.z)(s9 s10 s11 s14 s15 s16:Sl) :
  gW (evL k h P A f b0 b1 n dr s9 s10 s11 (.dat (.lst (R.map eL))) (.dat (.int (i:Int))) s14 s15 s16)=some (.nx (evL k h P A f b0 b1 n dr s9 s10 s11 (.dat (.lst (R.map eL))) (.dat (.int (i:Int))) s14 s15 s16)):=by
 unfold gW;refine(dB ?_).trans rfl;have x1:e2 ixD (aa 6) (aa 13) (evL k h P A f b0 b1 n dr s9 s10 s11 (.dat (.lst (R.map eL))) (.dat (.int (i:Int))) s14 s15 s16)=some (stD p):=aU (x:=.lst (P.map stD)) (y:=.int (i:Int)) rfl rfl (gk ep);have x2:e2 ixD (aa 12) (aa 13) (evL k h P A f b0 b1 n dr s9 s10 s11 (.dat (.lst (R.map eL))) (.dat (.int (i:Int))) s14 s15 s16)=some (eL b):=aU (x:=.lst (R.map eL)) (y:=.int (i:Int)) rfl rfl (gk eb);refine oZ (a:=false) (b:=false) (cA x1 x2 (BS hp true)) ?_;refine tW (aW (ds:=[.lst (b.map λ_=>D.bl false)]) (aJ (cM (rY (ds:=b.map stD) (nU x2) (by rw[Qi];exact bl) ?_)) rfl) ?_)
 ·refine nS (λε=>∃s0,ε=[s0,.dat (.lst (P.map stD)),.dat (.int (i:Int))]) stD (λ_=>D.bl false) b (λs hs' ε ⟨s0,he⟩=>?_) _ ⟨.un,rfl⟩
  subst he;refine⟨[.dat (stD s),.dat (.lst (P.map stD)),.dat (.int (i:Int))],rfl,⟨_,rfl⟩,?_⟩
  have y1:fq (e2 ixD (aa 1) (aa 2)) b9 (aT (eC (.int 3))) [.dat (stD s),.dat (.lst (P.map stD)),.dat (.int (i:Int))]=some (.tup [.int p.x,.int p.y,.int p.z]):=by
   unfold fq;rw[aU (x:=.lst (P.map stD)) (y:=.int (i:Int)) rfl rfl (gk ep)];rfl
  obtain⟨h1,h2,h3⟩:=hs s hs';refine aU (x:=.tup [.int p.x,.int p.y,.int p.z]) (y:=.tup [.int p.x,.int p.y,.int p.z]) ?_ y1 (mN ?_)
  ·rw[<-h1,<-h2,<-h3];rfl
  ·intro d hd
   simp only[Qn,List.not_mem_nil,or_false] at hd;rcases hd with rfl | rfl | rfl<;>exact trivial
 ·show(gH (b.map λ_=>D.bl false)).bind _=_
  rw[show(b.map λ_=>D.bl false)=(b.map λ_=>false).map D.bl by rw[JK];rfl,Dn.iq];show some (D.bl ((b.map λ_=>false).any id))=_;congr 2;rw[List.any_map,List.any_eq_false];intro x _ z;cases z
end
theorem Gx:∀m:Fin 6,∀s:Fin 7,∀p:Fin 7,cnt m.val s.val p.val<=999:=by decide +kernel
theorem few2:∀m:Fin 9,∀s:Fin 3,∀p:Fin 3,cnt m.val s.val p.val<=999:=by decide +kernel
theorem Bu{i j:Nat}{fe:Ev->Option D}{fm:Ev->Option Bool}{gr:Ev->Option Fl}{ε ε1 ε2 ε3:Ev}{d:D}(hz:fz1 j ε=ε1)(h1:fe ε1=some d)(hs:ε1.set i (.dat d)=ε2)(h2:fm ε2=some true)(h3:ε.set i .un=ε3):yI i j fe fm gr ε=gr ε3:=by
 unfold yI;rw[hz,h1];show(if fm (ε1.set i (.dat d))=some true then gr (ε.set i .un) else none)=_;rw[hs,if_pos h2,h3]
theorem FG(a b c d e f g h i j k l m n o p q x:Sl):[a,b,c,d,e,f,g,h,i,j,k,l,m,n,o,p,q].set 12 x=[a,b,c,d,e,f,g,h,i,j,k,l,x,n,o,p,q]:=rfl
theorem fz9(a b c d e f g h i:Sl)(L:List D)(j k l m n o p:Sl):fz1 9 [a,b,c,d,e,f,g,h,i,.own L,j,k,l,m,n,o,p]=[a,b,c,d,e,f,g,h,i,.dat (.lst L),j,k,l,m,n,o,p]:=rfl
theorem xi{ft f:Ev->Option Bool}{ε:Ev}(h1:ft ε=some false)(h2:f ε=some true):mIf ft f ε=some true:=by unfold mIf;rw[h1];exact h2
section
variable(k:Sk)(kk:SkW k)(h:Int)(q:Stt)(P:List Stt)(A:Sl)(f:Nat->Int)(b0 b1 n:Int)(dr:D)(m:Nat)(hm:P.length=m+1)(m8:m<=8)(hq:StOk q)(pt:Pt k h q P)(few:cw m q<=999)(hb:-1000<h/\h<1000)
abbrev AE:Ev->Option D:=(aK eZ (ag (aK dN (ag (av 4) aF)) (ag (av 3) (ag (e2 ixD (aa 6) (eC (.int 0))) (ag (e2 bA (e2 aN (aa 3) (bS bU (aa 6))) (eC (.int 1))) (ag (av 9) aF))))))
include kk hm m8 hq pt few hb in
theorem FQ(S:List Sg)(t:∀g∈S,Tr h P g):∃R:List (List Stt),(∀s10 s11 s12 s13 s14 s15 s16,AE (evL k h P A f b0 b1 n dr (.dat (.lst (S.map sgD))) s10 s11 s12 s13 s14 s15 s16)=some (.lst (R.map eL)))/\R.length=m+1/\∀i x,R[i]?=some x->Srtd x (On k S h q m (m-i))/\x.length<=999:=by
 have ft:=kE h P t;have f0:=ft 0 q pt.1;rw[Int.natCast_zero,Int.add_zero] at f0;obtain⟨R,e,l,r⟩:=pM k kk S h q hq m m8 hb f0 few λi hi=>⟨P[i+1]'(by omega),pt.ky ft (i+1) _ (by simp[show i+1<P.length by omega])⟩;refine⟨R,λs10 s11 s12 s13 s14 s15 s16=>?_,l,r⟩;refine aW (ds:=[skD k,.int h,stD q,.int (h+(m:Int)),.lst (S.map sgD)]) (aJ (aW (ds:=[skD k]) rfl (Ai k kk)) (aJ rfl (aJ (aU (x:=.lst (P.map stD)) (y:=.int ((0:Nat):Int)) rfl rfl (gk pt.1)) (aJ ?_ rfl)))) e;refine aU (x:=.int (h+((m+1:Nat):Int))) (y:=.int 1) (aU (x:=.int h) (y:=.int ((m+1:Nat):Int)) rfl (gf (x:=.lst (P.map stD)) rfl (by show some (D.int ((P.map stD).length:Int))=_;rw[Qi,hm])) rfl) rfl ?_;show some (D.int (h+((m+1:Nat):Int)-1))=_;rw[show h+((m+1:Nat):Int)-1=h+(m:Int) by omega]
def pj(P:List Stt)(q:Stt)(j:Nat):Stt:=P.getD j q
def sgj(P:List Stt)(q:Stt)(h:Int)(j:Nat):Sg:=⟨h+(j:Int),(pj P q j).x,(pj P q j).y,(pj P q j).x,(pj P q j).y,(pj P q j).z,(pj P q j).z,true⟩
theorem qz{i:Nat}(hi:i<P.length):P[i]?=some (pj P q i):=by unfold pj;simp[Jl,hi]
theorem Do{i:Nat}(hi:i<P.length):Tr h P (sgj P q h i):=⟨i,pj P q i,qz q P hi,rfl,((wO (pj P q i) _ (pj P q i)).mpr ⟨rfl,rfl,rfl⟩).symm⟩
include hm in
theorem EU(s9 s10 s11 s12 s13 s14 s15 s16:Sl):bS bU (aa 6) (evL k h P A f b0 b1 n dr s9 s10 s11 s12 s13 s14 s15 s16)=some (.int ((m+1:Nat):Int)):=gf (x:=.lst (P.map stD)) rfl (by show some (D.int ((P.map stD).length:Int))=_;rw[Qi,hm])
include hm in
theorem C8(m8:m<=8)(s9 s10 s11 s12 s13 s14 s15 s16:Sl):cy (bS bU (aa 6)) (evL k h P A f b0 b1 n dr s9 s10 s11 s12 s13 s14 s15 s16)=some (da (m+1)):=(fB (EU k h P A f b0 b1 n dr m hm s9 s10 s11 s12 s13 s14 s15 s16) (by omega) (by omega)).trans (by rw[Z0])
include kk hm m8 hq pt few hb in
theorem zU(S:List Sg)(hs:S.length<100)(t:∀g∈S,Tr h P g)(s10 s11:Sl) :
  (yI 12 9 AE (mIf (jE (dZ (ec (xw (wA "list") (aa 12)))) (ay kn (bS bU (aa 12)) (bS bU (aa 6)))) (mIf (dZ (ec (aK qx (ag (eF (eLC (cy (bS bU (aa 6))) 1 [6,12] (ak 0) lr (e2 (n_ false) (e2 ixD (aa 1) (aa 0)) (e2 ixD (aa 2) (aa 0))))) aF)))) CQ)) (aC (cJ (cy (bS bU (aa 6))) (ak 13) (hV)) (aC (sFz 9 (a8 12 AE)) (aC (cJ (cy (bS bU (aa 6))) (ak 13) (gW)) (bh (eC (.bl true)))))))
   (evL k h P A f b0 b1 n dr (.own (S.map sgD)) s10 s11 .un .un .un .un .un)=some (.rt (.bl true)):=by
 obtain⟨R,e,rl,r⟩:=FQ k kk h q P A f b0 b1 n dr m hm m8 hq pt few hb S t;have ft:=kE h P t
 have inR:∀(S:List Sg),(∀g∈S,Tr h P g)->∀(R:List (List Stt)),R.length=m+1->(∀i x,R[i]?=some x->Srtd x (On k S h q m (m-i))/\x.length<=999)->∀i,i<m+1->∃b,R[i]?=some b/\pj P q i∈b/\Srtd b (On k S h q m (m-i))/\b.length<=999:=λS t R rl r i hi=>by
  have eb:R[i]?=some (R[i]'(by omega)):=by simp[show i<R.length by omega]
  obtain⟨x1,x2⟩:=r i _ eb;refine⟨_,eb,(x1.mem _).mpr ?_,x1,x2⟩;refine pt.on (kE h P t) m hm (m-i) _ (by omega) ?_;rw[show m-(m-i)=i by omega];exact qz q P (by omega)
 have c1:jE (dZ (ec (xw (wA "list") (aa 12)))) (ay kn (bS bU (aa 12)) (bS bU (aa 6))) (evL k h P A f b0 b1 n dr (.dat (.lst (S.map sgD))) s10 s11 (.dat (.lst (R.map eL))) .un .un .un .un)=some (false || false):=
  oZ rfl (cA (x:=.int ((m+1:Nat):Int)) (y:=.int ((m+1:Nat):Int)) (gf (x:=.lst (R.map eL)) rfl (by show some (D.int ((R.map eL).length:Int))=_;rw[Qi,rl])) (EU k h P A f b0 b1 n dr m hm _ _ _ _ _ _ _ _) (mN trivial))
 have c2:dZ (ec (aK qx (ag (eF (eLC (cy (bS bU (aa 6))) 1 [6,12] (ak 0) lr (e2 (n_ false) (e2 ixD (aa 1) (aa 0)) (e2 ixD (aa 2) (aa 0))))) aF))) (evL k h P A f b0 b1 n dr (.dat (.lst (S.map sgD))) s10 s11 (.dat (.lst (R.map eL))) .un .un .un .un)=some (!true):=by
  refine nz (aW (ds:=[.lst ((QE (m+1)).map λ_=>D.bl true)]) (aJ (cM (rY (ds:=da (m+1)) (C8 k h P A f b0 b1 n dr m hm m8 _ _ _ _ _ _ _ _) (by rw[rngD_len];omega) ?_)) rfl) ?_)
  ·rw[Eh]
   refine nS (λε=>∃s0,ε=[s0,.dat (.lst (P.map stD)),.dat (.lst (R.map eL))]) (λi:Nat=>D.int (i:Int)) (λ_=>D.bl true) (QE (m+1)) (λi hi ε ⟨s0,he⟩=>?_) _ ⟨.un,rfl⟩;subst he;have hi:=Q7.mp hi;obtain⟨b,eb,pb,_⟩:=inR S t R rl r i hi;refine⟨[.dat (.int (i:Int)),.dat (.lst (P.map stD)),.dat (.lst (R.map eL))],rfl,⟨_,rfl⟩,?_⟩;exact aU (x:=stD (pj P q i)) (y:=eL b) (aU (x:=.lst (P.map stD)) (y:=.int (i:Int)) rfl rfl (gk (qz q P (by omega)))) (aU (x:=.lst (R.map eL)) (y:=.int (i:Int)) rfl rfl (gk eb)) (BS pb false)
  ·show(gH ((QE (m+1)).map λ_=>D.bl true)).bind _=_
   rw[show((QE (m+1)).map λ_=>D.bl true)=((QE (m+1)).map λ_=>true).map D.bl by rw[JK];rfl,Dn.iq];show some (D.bl (((QE (m+1)).map λ_=>true).all id))=_;congr 2;rw[List.all_map,Jc];exact λ_ _=>rfl
 refine(Bu (ε1:=evL k h P A f b0 b1 n dr (.dat (.lst (S.map sgD))) s10 s11 .un .un .un .un .un) (d:=.lst (R.map eL)) (fz9 ..) (e _ _ _ _ _ _ _) (FG ..) (xi (c1.trans rfl) (xi (c2.trans rfl) rfl)) (FG ..)).trans ?_
 obtain⟨ε',e1,s13,s14,s15,s16,rfl⟩:=cU (g:=ak 13) (gb:=hV) (λi ε=>∃s13 s14 s15 s16,ε=evL k h P A f b0 b1 n dr (.own ((S++(QE i).map (sgj P q h)).map sgD)) s10 s11 .un s13 s14 s15 s16) (da (m+1)) 0 (λi d hd ε ⟨s13,s14,s15,s16,he⟩=>by
  obtain⟨rfl,hi⟩:=dR hd;subst he;rw[Jg];refine⟨_,_,rfl,.inl (vJ k h P A f b0 b1 n dr i (pj P q i) (qz q P (by omega)) (S++(QE i).map (sgj P q h)) (by rw[Qr,Qi,Jy];omega) s10 s11 .un s14 s15 s16),.dat (.int (i:Int)),.dat (.int (pj P q i).x),.dat (.int (pj P q i).y),.dat (.int (pj P q i).z),?_⟩;rw[show S++(QE (i+1)).map (sgj P q h)=S++(QE i).map (sgj P q h)++[sgj P q h i] by rw[List.range_succ,Jf,<-QG];rfl]
  rfl) (evL k h P A f b0 b1 n dr (.own (S.map sgD)) s10 s11 .un .un .un .un .un) ⟨.un,.un,.un,.un,by rw[List.range_zero,Kq,Jp]⟩
 rw[rngD_len,Jg] at e1;refine(au ((bE (C8 k h P A f b0 b1 n dr m hm m8 _ _ _ _ _ _ _ _)).trans e1)).trans ?_;generalize hS2:S++(QE (m+1)).map (sgj P q h)=S2
 have t2:∀g∈S2,Tr h P g:=λg hg=>by
  rw[<-hS2] at hg;rcases QM.mp hg with z | z
  ·exact t g z
  ·obtain⟨i,hi,rfl⟩:=Q2.mp z
   exact Do h q P (by have:=Q7.mp hi;omega)
 obtain⟨R2,e2',rl2,r2⟩:=FQ k kk h q P A f b0 b1 n dr m hm m8 hq pt few hb S2 t2;refine(au (ε':=evL k h P A f b0 b1 n dr (.dat (.lst (S2.map sgD))) s10 s11 (.dat (.lst (R2.map eL))) s13 s14 s15 s16) ?_).trans ?_
 ·show a8 12 AE (evL k h P A f b0 b1 n dr (.dat (.lst (S2.map sgD))) s10 s11 .un s13 s14 s15 s16)=_
  exact aX (e2' _ _ _ _ _ _ _)
 obtain⟨ε',e3,s13',rfl⟩:=vP (g:=ak 13) (gb:=gW) (λε=>∃s13,ε=evL k h P A f b0 b1 n dr (.dat (.lst (S2.map sgD))) s10 s11 (.dat (.lst (R2.map eL))) s13 s14 s15 s16) (ds:=da (m+1)) (λd hd ε ⟨s13,he⟩=>by
  obtain⟨i,rfl,hi⟩:=x6 hd;subst he;obtain⟨b,eb,pb,sb,bl⟩:=inR S2 t2 R2 rl2 r2 i hi;refine⟨_,_,rfl,.inl (vQ k h P A f b0 b1 n dr i (pj P q i) (qz q P (by omega)) R2 b eb (by omega) pb (λs hs'=>?_) _ s10 s11 s14 s15 s16),.dat (.int (i:Int)),rfl⟩;have ky:=B9 k S2 h q m (m-i) s (by omega) ((sb.mem s).mp hs');rw[show m-(m-i)=i by omega] at ky;have f0:=kE h P t2 0 q pt.1;rw[Int.natCast_zero,Int.add_zero] at f0;have fs:=D_ k S2 h q f0 i s ky;unfold gU at fs;rw[J1,List.any_eq_false] at fs;have gi:sgj P q h i∈S2:=by rw[<-hS2];exact QD _ (Q2.mpr ⟨i,Q7.mpr hi,rfl⟩)
  have no:=fs _ gi;refine(wO (pj P q i) (h+(i:Int)) s).mp ?_;cases hz:in6 (bx ⟨h+(i:Int),(pj P q i).x,(pj P q i).y,(pj P q i).x,(pj P q i).y,(pj P q i).z,(pj P q i).z,true⟩) s.x s.y s.z with
  |true=>rfl
  |false=>
   refine absurd ?_ no;show(decide (h+(i:Int)=h+(i:Int)) && !decide (in6 (bx (sgj P q h i)) s.x s.y s.z=true))=true;rw[decide_eq_true rfl,show in6 (bx (sgj P q h i)) s.x s.y s.z=false from hz]
   rfl) (ε:=evL k h P A f b0 b1 n dr (.dat (.lst (S2.map sgD))) s10 s11 (.dat (.lst (R2.map eL))) s13 s14 s15 s16) ⟨_,rfl⟩
 exact(au ((bE (C8 k h P A f b0 b1 n dr m hm m8 _ _ _ _ _ _ _ _)).trans e3)).trans rfl
end
theorem worth(ns:List Int)(hn:ns.length<=63):uE [.lst (ns.map D.int)]=some (.bl true):=by
 obtain⟨f,e1,hf⟩:=CI ns hn 230 (by decide);obtain⟨b0,b1,eb⟩:=zy (f 0) (f 1) (f 2);obtain⟨k,es,kk⟩:=Ea (λj=>f (10+j)) b0 b1 (f 3%25) (by omega);generalize hh:f 3%25=h at es;have h25:0<=h/\h<=24:=by omega
 obtain⟨n,hn6,en⟩:=y_ ([6,2,1]:List Int) D.int (f 4%3) (by omega) (by show f 4%3<3;omega);have n0:n=6\/n=2\/n=1:=by simpa using hn6
 let q:Stt:=⟨b0+f 130%7-3,b1+f 131%7-3,f 132%6,f 133%(n+1),f 134%(n+1)⟩;have hq:StOk q:=⟨ZX _ (by decide),ZX _ (by omega),ZX _ (by omega)⟩;have qs:q.s<=n/\q.p<=n:=⟨by have:=ZP (f 133) (show 0<n+1 by omega);show f 133%(n+1)<=n;omega,by have:=ZP (f 134) (show 0<n+1 by omega);show f 134%(n+1)<=n;omega⟩;obtain⟨P0,et,pt0,l0⟩:=Ao k kk.w h q hq (λj=>f (136+j)) h25;refine bp rfl ?_;show yJ [.dat (.lst (iL ns)),.un,.un,.un,.un,.un,.un,.un,.un,.un,.un,.un,.un,.un,.un,.un,.un]=_;unfold yJ
 have cut:∀(a c:Nat) (ε:Ev),ε[1]?=some (.dat (.lst (iL (bD f 230))))->a+c<=230->eF (eSl (aa 1) (aT (eC (.int (a:Int)))) (aT (eC (.int ((a+c:Nat):Int))))) ε=some (.lst (iL (bD (λj=>f (a+j)) c))):=λa c ε he hl=>by
  refine cM ?_;have eb:aa 1 ε=some (.lst (iL (bD f 230))):=by unfold aa;rw[he]
  unfold eSl;rw[eb];show some (gO (iL (bD f 230)) (some (a:Int)) (some ((a+c:Nat):Int)))=_;rw[lC f 230 a c hl]
 refine(au (aX (d:=.lst (iL (bD f 230))) e1)).trans ?_;refine(au (aX (d:=.tup [.int b0,.int b1]) eb)).trans ?_;refine(au (aX (d:=.int h) (by rw[<-hh];rfl))).trans ?_;refine(au (aX (d:=skD k) (aW (ds:=[.lst (iL (bD (λj=>f (10+j)) 120)),.tup [.int b0,.int b1],.int h]) (aJ (cut 10 120 _ rfl (by decide)) rfl) es))).trans ?_;refine(au (aX (d:=.int n) (aU (x:=.lst (([6,2,1]:List Int).map D.int)) (y:=.int (f 4%3)) rfl (aU (x:=.int (f 4)) (y:=.int 3) (aU (x:=.lst (iL (bD f 230))) (y:=.int ((4:Nat):Int)) rfl rfl (i8 f 230 4 (by decide))) rfl (mh (by decide))) en))).trans ?_;refine(au (aX (d:=.lst (P0.map stD)) (aW (ds:=[skD k,.int h,stD q,.lst (iL (bD (λj=>f (136+j)) 10))]) (aJ rfl (aJ rfl (aJ (aW (ds:=[.lst (iL (bD (λj=>f (130+j)) 6)),.tup [.int b0,.int b1],.int n]) (aJ (cut 130 6 _ rfl (by decide)) rfl) (xZ (λj=>f (130+j)) b0 b1 n (by omega))) (aJ (cut 136 10 _ rfl (by decide)) rfl)))) et))).trans ?_;have cn:ay br (aa 5) (eC (.int 6)) [.dat (.lst (iL ns)),.dat (.lst (iL (bD f 230))),.dat (.tup [.int b0,.int b1]),.dat (.int h),.dat (skD k),.dat (.int n),.dat (.lst (P0.map stD)),.un,.un,.un,.un,.un,.un,.un,.un,.un,.un]=some (decide (n=6)):=cA (x:=.int n) (y:=.int 6) rfl rfl rfl
 obtain⟨P,m,hm,m8,pt,few,e6⟩:∃(P:List Stt) (m:Nat),P.length=m+1/\m<=8/\Pt k h q P/\cw m q<=999/\sIf (ay br (aa 5) (eC (.int 6))) (a8 6 (eF (eSl (aa 6) b9 (aT (eC (.int 6)))))) bC [.dat (.lst (iL ns)),.dat (.lst (iL (bD f 230))),.dat (.tup [.int b0,.int b1]),.dat (.int h),.dat (skD k),.dat (.int n),.dat (.lst (P0.map stD)),.un,.un,.un,.un,.un,.un,.un,.un,.un,.un] =
   some (.nx [.dat (.lst (iL ns)),.dat (.lst (iL (bD f 230))),.dat (.tup [.int b0,.int b1]),.dat (.int h),.dat (skD k),.dat (.int n),.dat (.lst (P.map stD)),.un,.un,.un,.un,.un,.un,.un,.un,.un,.un]):=by
  have pos:=pt0.pos
  by_cases h6:n=6
  ·have lt:(P0.take 6).length=min 6 P0.length:=QP ..
   refine⟨P0.take 6,(P0.take 6).length-1,by omega,by omega,pt0.take 5,?_,(eW (cn.trans (by rw[decide_eq_true h6]))).trans ?_⟩
   ·exact Gx ⟨(P0.take 6).length-1,by omega⟩ ⟨q.s.toNat,by have:=qs.1;omega⟩ ⟨q.p.toNat,by have:=qs.2;omega⟩
   ·refine(aX (d:=.lst ((P0.take 6).map stD)) (cM ?_)).trans rfl
    show some (gO (P0.map stD) none (some ((6:Nat):Int)))=_;rw[oB,KH]
  ·refine⟨P0,P0.length-1,by omega,by omega,pt0,?_,(dB (cn.trans (by rw[decide_eq_false h6]))).trans rfl⟩
   exact few2 ⟨P0.length-1,by omega⟩ ⟨q.s.toNat,by have:=qs.1;omega⟩ ⟨q.p.toNat,by have:=qs.2;omega⟩
 refine(au e6).trans ?_;refine(au (aX (d:=u0 P) (cM (rY (ds:=P.map stD) rfl (by rw[Qi,hm];omega) (nS (λε=>∃s0,ε=[s0]) stD (λp=>D.lst [stD p]) P (λp _ ε ⟨s0,he⟩=>by subst he;exact⟨[.dat (stD p)],rfl,⟨_,rfl⟩,rfl⟩) _ ⟨.un,rfl⟩))))).trans ?_
 obtain⟨ss,ed,sl,sh⟩:=u9 (λj=>f (146+j)) h b0 b1 m P hm λp hp=>by
  obtain⟨i,ei⟩:=Q6 hp;exact(pt.ok hq i p ei).z
 refine(au (aX (d:=.lst (ss.map sgD)) (aW (ds:=[.lst (iL (bD (λj=>f (146+j)) 62)),.int h,.int (m:Int),u0 P,.tup [.int b0,.int b1]]) (aJ (cut 146 62 _ rfl (by decide)) (aJ rfl (aJ ?_ rfl))) ed))).trans ?_
 ·refine aU (x:=.int ((m+1:Nat):Int)) (y:=.int 1) (gf (x:=.lst (P.map stD)) rfl (by show some (D.int ((P.map stD).length:Int))=_;rw[Qi,hm])) rfl ?_
  show some (D.int (((m+1:Nat):Int)-1))=_;rw[show((m+1:Nat):Int)-1=(m:Int) by omega]
 refine(au (ε':=evL k h P (.dat (.lst (iL ns))) f b0 b1 n (.lst (ss.map sgD)) (.own []) .un .un .un .un .un .un .un) rfl).trans ?_
 obtain⟨ε',e9,S,s10,s11,lS,tS,rfl⟩:=iW (g:=ak 10) (gb:=jr) sgD (λdone ε=>∃(S:List Sg) (s10 s11:Sl),S.length=done.length/\(∀g∈S,Tr h P g)/\ε=evL k h P (.dat (.lst (iL ns))) f b0 b1 n (.lst (ss.map sgD)) (.own (S.map sgD)) s10 s11 .un .un .un .un .un) ss (λdone g rest hd ε ⟨S,s10,s11,lS,tS,he⟩=>by
  subst he;have dl:done.length<=ss.length:=by have:=congrArg List.length hd;rw[Qr] at this;omega
  obtain⟨g',t11,tg,eg⟩:=vz k h P (.dat (.lst (iL ns))) f b0 b1 n (.lst (ss.map sgD)) m hm S (by omega) g (sh g (by rw[<-hd];simp)) s11 .un .un .un .un .un;refine⟨_,_,rfl,.inl eg,S++[g'],_,_,by rw[Qr,Qr,lS];rfl,λx hx=>?_,rfl⟩;rcases QM.mp hx with z | z
  ·exact tS x z
  ·rw[Qt.mp z];exact tg) (evL k h P (.dat (.lst (iL ns))) f b0 b1 n (.lst (ss.map sgD)) (.own []) .un .un .un .un .un .un .un) ⟨[],.un,.un,rfl,(λg hg=>by cases hg),rfl⟩
 refine(au ((bE (ds:=ss.map sgD) rfl).trans e9)).trans ?_;exact zU k kk.w h q P (.dat (.lst (iL ns))) f b0 b1 n (.lst (ss.map sgD)) m hm m8 hq pt few (by omega) S (by omega) tS s10 s11
end Lw
open PySem PySem.W PyProof.Rows
namespace PySem.W.Fast
theorem tw2432771099111605177:True:=trivial
theorem tw13159867136987438015:True:=trivial
theorem tw4976488189679194444:True:=trivial
theorem tw17166487648703723044:True:=trivial
theorem tw17014057289884312906:True:=trivial
theorem tw11934707080913523275:True:=trivial
theorem tw13208955277212797628:True:=trivial
theorem tw2940576692610934319:True:=trivial
theorem tw8731698954011865329:True:=trivial
theorem tw5739651644908945063:True:=trivial
theorem tw778593252483496050:True:=trivial
theorem tw11966295044082528891:True:=trivial
theorem tw593038429089867042:True:=trivial
theorem tw17169980720999567332:True:=trivial
theorem tw10166319451255671837:True:=trivial
theorem tw651623035807002127:True:=trivial
theorem tw9142859639726982226:True:=trivial
theorem tw18249850555168391855:True:=trivial
theorem tw15216676281215288074:True:=trivial
theorem tw818201458178403613:True:=trivial
theorem tw9859788149498813776:True:=trivial
theorem tw864635105842946736:True:=trivial
theorem tw7961242898739361543:True:=trivial
theorem tw10048396462518279691:True:=trivial
theorem tw5192838499375293450:True:=trivial
theorem tw2926119123383450514:True:=trivial
theorem tw12457910425192660073:True:=trivial
theorem tw5390745210929629222:True:=trivial
theorem tw12819956117188222855:True:=trivial
theorem tw1885332456702276852:True:=trivial
theorem tw4128259785837741798:True:=trivial
theorem tw6823961388308936764:True:=trivial
theorem tw15521046127870302584:True:=trivial
theorem tw1458863156980354004:True:=trivial
theorem tw6152956468574949136:True:=trivial
theorem tw11586026814089388046:True:=trivial
theorem tw3801540063004777068:True:=trivial
theorem tw15895484533074592721:True:=trivial
theorem tw8822103518225569390:True:=trivial
theorem tw2900471783132382037:True:=trivial
theorem tw17467618043250619227:True:=trivial
theorem tw18321443189321250560:True:=trivial
theorem tw16232116608603269929:True:=trivial
theorem tw5128154748532221751:True:=trivial
theorem tw10851792149931056455:True:=trivial
theorem tw4748581273257055454:True:=trivial
theorem tw4911159047083606952:True:=trivial
theorem tw7138309633601527889:True:=trivial
theorem tw11708705594227248099:True:=trivial
theorem tw1984048644559090271:True:=trivial
theorem tw1503995148206446388:True:=trivial
theorem tw8601861665235372629:True:=trivial
theorem tw17393433499971503322:True:=trivial
theorem tw3668555587383948293:True:=trivial
theorem tw10121721964594822117:True:=trivial
theorem tw5344689886615558846:True:=trivial
theorem tw193835764465670456:True:=trivial
theorem tw16446600519822627273:True:=trivial
theorem tw10358899754043416336:True:=trivial
theorem tw582955836485548976:True:=trivial
theorem tw8161563149700016298:True:=trivial
theorem tw16920858963026822189:True:=trivial
theorem tw2331441032553054504:True:=trivial
theorem tw7356837013468513867:True:=trivial
theorem tw1002141146864847085:True:=trivial
theorem tw10314019593464281729:True:=trivial
theorem tw13533266780558437601:True:=trivial
theorem tw5066472722147074311:True:=trivial
theorem tw6876101255189593118:True:=trivial
theorem tw14755363161729427101:True:=trivial
theorem tw6288394459147859786:True:=trivial
theorem tw11210251121345253669:True:=trivial
theorem tw5916414511166206929:True:=trivial
theorem tw17260968387177185893:True:=trivial
theorem tw11430781855197434139:True:=trivial
theorem tw9108798593180822235:True:=trivial
theorem tw8983763810347795080:True:=trivial
theorem tw11263627379143601723:True:=trivial
theorem tw2698372960814892350:True:=trivial
theorem tw3204314903260673955:True:=trivial
theorem tw13265716484482611070:True:=trivial
theorem tw7754232687669299743:True:=trivial
theorem tw11788904782154207798:True:=trivial
theorem tw4228004611134381066:True:=trivial
theorem tw10372138325031957356:True:=trivial
theorem tw16519742076574758115:True:=trivial
theorem tw4162846648156895635:True:=trivial
theorem tw8518000366125400231:True:=trivial
theorem tw14251800572585181154:True:=trivial
theorem tw5910035479283007380:True:=trivial
theorem tw14189894817448689035:True:=trivial
theorem tw9535866112591540522:True:=trivial
theorem tw4973963605831936008:True:=trivial
theorem tw8453996668512215810:True:=trivial
theorem tw5048075343275114980:True:=trivial
theorem tw2259664787622841127:True:=trivial
theorem tw1655971189412894707:True:=trivial
theorem tw11769355356606083154:True:=trivial
theorem tw12395384235795295908:True:=trivial
theorem tw1033534621980509026:True:=trivial
theorem tw2734142345367583870:True:=trivial
theorem tw9796660523725237674:True:=trivial
theorem tw9207418359649205231:True:=trivial
theorem tw12193004682290364286:True:=trivial
theorem tw12848787159353577916:True:=trivial
theorem tw8284968841358244617:True:=trivial
theorem tw14110854538202291467:True:=trivial
theorem tw12904093780288512608:True:=trivial
theorem tw15046105502441364192:True:=trivial
theorem tw4290366413083287486:True:=trivial
theorem tw3806852354193650458:True:=trivial
end PySem.W.Fast
def PySem.W.Fast.tw6672394439102194447 : PySem.Program := PySem.Challenge.pw_ballastbook_k33_whole_the_true_flight_is
theorem PySem.W.Fast.te6672394439102194447 : PySem.Challenge.pw_ballastbook_k33_whole_the_true_flight_is = PySem.W.Fast.tw6672394439102194447 := rfl
set_option maxRecDepth 100000 in
set_option maxHeartbeats 0 in
theorem PySem.Challenge.cw_ballastbook_k33_whole_the_true_flight_is_holds : PySem.Challenge.rw_ballastbook_k33_whole_the_true_flight_is.Holds := by
 w_on;o_law;k_head;(case hw=>w_witness2)
 k_fill
 refine Lw.walk (l:=PySem.Challenge.rw_ballastbook_k33_whole_the_true_flight_is) rfl rfl rfl (λw h Y=>PySem.W.kIn_of Y) Lw.worth ?F
 case F=>
  intro w mg h KX G;refine' Lw.Em ?qM ?qA0 ?qA1 ?qA2 ?qA3 ?qA4 ?qA5 ?qA6 ?qA7 ?qA8 ?qA9 ?qA10 ?qA11 ?qA12 ?qA13 ?qA14 ?qA15 ?qA16 ?qA17 ?qA18 ?qA19 ?qA20 ?qA21 ?qA22 ?qA23 ?qA24 ?qA25 ?qA26 ?qA27 ?qA28 ?qA29
  case qM=>
   refine' Lw.FM KX G ?qz_all ?qz_any ?qz_isinstance ?qz_len ?qz_list ?qz_max ?qz_min ?qz_range ?qz_reversed ?qz_sorted ?qy_TOP_HEIGHT ?qy_ORDERS ?qx_ORDERS
   (case qz_all=>k_is)
   (case qz_any=>k_is)
   (case qz_isinstance=>k_is)
   (case qz_len=>k_is)
   (case qz_list=>k_is)
   (case qz_max=>k_is)
   (case qz_min=>k_is)
   (case qz_range=>k_is)
   (case qz_reversed=>k_is)
   (case qz_sorted=>k_is)
   (case qy_TOP_HEIGHT=>k_is)
   (case qy_ORDERS=>k_is)
   (case qx_ORDERS=>k_is)
  all_goals
   apply Dn.EF KX G
   k_is
   k_is
   k_is
   k_is
   intro _ _ _ _ _ _
   first | exact Dn.len1 λ_=>rfl | exact Dn.len2 λ_ _=>rfl | exact Dn.Gv λ_ _ _=>rfl | exact Dn.Gs λ_ _ _ _=>rfl | exact Dn.len5 λ_ _ _ _ _=>rfl | exact Dn.GA λ_ _ _ _ _ _=>rfl | exact Dn.GS λ_ _ _ _ _ _ _=>rfl | exact Dn.Gq λ_ _ _ _ _ _ _ _=>rfl
#print axioms PySem.Challenge.cw_ballastbook_k33_whole_the_true_flight_is_holds
