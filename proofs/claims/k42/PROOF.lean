import PyProof.Rows.All
import Wide.All
import OpenK.AllK
import Wide.FinOn
import Lean
import PyProof.EqAt
import PyProof.EqKinds
import PyProof.TupleCall
import PyProof.NeKinds
import PySem.Challenge.RW_ballastbook_k42_books_opened
set_option Elab.async false
set_option linter.all false
set_option maxRecDepth 100000
set_option maxHeartbeats 4100000
open PySem renaming Value → za, wpAny_bind → zc, Shared → zd, wpAny → zf, model → zg, wpAny_pure → zi, starEach → zj, sizeLine → zt, Program → zv, mainGlobals → zz, World → zA, Around → zD, compareOp → zN, wpAny_field → zR, wpAny_execs_cons → zU, FuncData → zX, assignEach → zZ, binaryOp → v7, wpAny_loadPart_at → v8, wpAny_holding → v9, wpAny_newObj_type → wd, mem_of_lookup → we, backTo → wo, IsPair → wu, wpAny_mono → wz, wpAny_callSpecial?_slot → wC, wpAny_truthy_bool → wN, wpAny_isSubtype_exc → wR, wpAny_seqItems → wV, Spec → wW, bootBuiltins → wY, wpAny_Call_Name_kw → xa, wpAny_setField_rec → xf, wpAny_call_entry → xt, wpAny_execs_nil → xB, foldedSetIterable → xE, Within → xH, swapsWith → xJ, behindInMarks → xO, sliceBounds → xQ, wpAny_passesOwn → xS, wpAny_loadPart' → xV
open PySem.W renaming Frag → zb, findIn → zo, kia_one → zF, kitOne → zG, nsIn → zL, mg_none_of → zT, keepIn → zY, emptyDict → z0, mroIn → vV, fnOf → vZ, instObj → wg, hasDictIn → wO, clsIn → wQ, codeIn → xp, notCls → xq, mg_of → xy, specialIn → xF, plainGet → xK, looks_findIn → xM, takesIn → xT
open PySem.Heap renaming get?_push_of_some → ze, lt_size → zh, get?_push_size → zr, get?_update_other → zJ, size_push → wa, get?_update_self → wI, SameBut → wZ
open PySem.Value renaming ref → zk, none → zP, bool → xA
open Bool renaming false_ne_true → zm, and_eq_false_iff → wK, eq_iff_iff → xC
open Nat renaming le_refl → zp, lt_of_lt_of_le → zx, ne_of_lt → zC, zero_le → zE, le_trans → zO, lt_of_le_of_lt → wc, lt_irrefl → wx
open List renaming mem_cons → zq, size_toArray → zu, mem_append_right → zw, getElem?_set → zy, getElem?_eq_some_iff → zB, getElem?_map → zH, length_cons → zK, not_mem_nil → zM, mem_cons_of_mem → zQ, contains_cons → zS, getElem?_append_right → vW, range → vX, length_append → vY, length_set → wb, length_map → wj, getElem?_append_left → wk, lookup → wy, getElem?_replicate → wB, getD_eq_getElem?_getD → wF, mem_cons_self → wG, length_replicate → wH, mem_append → wL, mem_append_left → wM, replicate → wU, append_nil → xg, mem_of_getElem? → xj, getElem?_modify → xl, map_cons → xw, ext_getElem? → xG, all_eq_true → xN, all_cons → xP, filterMap_cons → xR, nodup_cons → xU, mem_singleton → xW
open PySem.Builtin.SmallTypes renaming nextOf → zI, ownedTupleIsFree → wA
open Or renaming inl → zV, inr → xb
open False renaming elim → zW
open PySem.PassesOwn renaming never → wm
open PySem.F renaming slot_list_append → wq, type_list_append → wt, plainAttrs_list → wD, slot_tuple_iterator_next → xi, args_tuple_add_2 → xr, entry_tuple_add → xv, slot_tuple_add → xD
open PySem.Obj renaming data_mapFields → wJ, mapFields → xx, isFreed_of_fields → xI
open True renaming intro → wX
open PyProof.Rows renaming callWith_type1 → w8
open PySem.W.Looks renaming here → w9
open Array renaming getElem?_eq_some_iff → xh
open PySem.Builtin.Slice renaming slicePlaces → xk
open PySem.Builtin.Tuple renaming tupleExact → xu
namespace L2
open PySem PySem.Spec PyProof.Rows
abbrev Key:=Sum Int Str
def rp:Key->za->Bool
 |.inl k,v=>Value.isInt k v
 |.inr x,v=>Value.isStrOf x v
def vz(w:zA):Key->Int
 |.inl k=>hashInt k
 |.inr x=>hashStr w x
theorem bf:∀{k:Key} {v:za},rp k v=true->(∃i t,k=Sum.inl i/\v=Value.int i t)\/(∃x t,k=Sum.inr x/\v=Value.str x t)
 |.inl i,v,h=>by
  obtain⟨t,e⟩:=Value.isInt_shape (k:=i) (v:=v) h;exact .inl ⟨i,t,rfl,e⟩
 |.inr x,v,h=>by
  obtain⟨t,e⟩:=Value.isStrOf_shape (x:=x) (v:=v) h;exact .inr ⟨x,t,rfl,e⟩
theorem tT(a b:Int):decide ((Sum.inl a:Key)=Sum.inl b)=(a==b):=by
 by_cases e:a=b
 ·subst e;simp
 ·have h:¬ (Sum.inl a:Key)=Sum.inl b:=λq=>e (Sum.inl.inj q)
  rw[decide_eq_false h];exact(beq_eq_false_iff_ne.mpr e).symm
theorem su(a b:Str):decide ((Sum.inr a:Key)=Sum.inr b)=decide (a=b):=by
 by_cases e:a=b
 ·subst e;simp
 ·have h:¬ (Sum.inr a:Key)=Sum.inr b:=λq=>e (Sum.inr.inj q)
  rw[decide_eq_false h,decide_eq_false e]
theorem sM(a:Int)(b:Str):decide ((Sum.inl a:Key)=Sum.inr b)=false:=decide_eq_false (λq=>nomatch q)
theorem tD(a:Str)(b:Int):decide ((Sum.inr a:Key)=Sum.inl b)=false:=decide_eq_false (λq=>nomatch q)
def jy(prog:zv)(w:zA):PySem.KeyKind prog w Key where
 is:=rp
 hash:=vz w
 inj:=λv a b ha hb=>by
  rcases bf ha with⟨i,t,rfl,rfl⟩ | ⟨x,t,rfl,rfl⟩
  ·rcases bf hb with⟨j,u,rfl,e⟩ | ⟨y,u,rfl,e⟩
   ·injection e with e1 _;rw[e1]
   ·exact nomatch e
  ·rcases bf hb with⟨j,u,rfl,e⟩ | ⟨y,u,rfl,e⟩
   ·exact nomatch e
   ·injection e with e1 _;rw[e1]
 byValue:=λk v h=>by
  rcases bf h with⟨i,t,rfl,rfl⟩ | ⟨x,t,rfl,rfl⟩<;>rfl
 pyHash:=λhv h=>by
  rcases bf hv with⟨i,t,rfl,rfl⟩ | ⟨x,t,rfl,rfl⟩
  ·exact wpAny_pyHash_int h
  ·exact wpAny_pyHash_str h
 eqBool:=λhu hv h=>by
  rcases bf hu with⟨i,t,rfl,rfl⟩ | ⟨x,t,rfl,rfl⟩
  ·rcases bf hv with⟨j,u,rfl,rfl⟩ | ⟨y,u,rfl,rfl⟩
   ·rw[tT] at h;exact wpAny_eqBool_int h
   ·rw[sM] at h;exact SeqAt.EqAt.int_str i t y u _ _ _ _ h
  ·rcases bf hv with⟨j,u,rfl,rfl⟩ | ⟨y,u,rfl,rfl⟩
   ·rw[tD] at h;exact SeqAt.EqAt.str_int x t j u _ _ _ _ h
   ·rw[su] at h;exact wpAny_eqBool_str h
 «strs»:=λk x t v h=>by
  rcases bf h with⟨i,u,rfl,e⟩ | ⟨y,u,rfl,e⟩
  ·exact nomatch e
  ·injection e with e1 _
   subst e1;cases v<;>rfl
inductive V where
 |non | bl (b:Bool) | int (i:Int) | str (x:Str) | byt (b:Array UInt8) | flt (b:UInt64) | ref (a:Addr) | ty (n:String)
 deriving DecidableEq
def aN:V->za->Prop
 |.non,u=>u=zP
 |.bl b,u=>u=xA b
 |.int i,u=>∃t,u=Value.int i t
 |.str x,u=>∃t,u=Value.str x t
 |.byt b,u=>∃t,u=Value.bytes b t
 |.flt b,u=>∃t,u=Value.float b t
 |.ref a,u=>u=zk a
 |.ty n,u=>u=Value.type n
abbrev aL:List V->List za->Prop:=Paired aN
theorem aL.length{xs:List V}{us:List za}(r:aL xs us):xs.length=us.length:=Paired.length r
theorem aL.get:∀{xs:List V} {us:List za} {i:Nat} {x:V},aL xs us->xs[i]?=some x->∃u,us[i]?=some u/\aN x u
 |_,_,_,_,.nil,e=>by simp at e
 |_,_,0,_,.cons r _,e=>by simp at e;subst e;exact⟨_,rfl,r⟩
 |_,_,i+1,x,.cons _ t,e=>by
  obtain⟨u,h1,h2⟩:=aL.get (i:=i) (x:=x) t (by simpa using e);exact⟨u,by simpa using h1,h2⟩
theorem aL.set{x:V}{u:za}(r:aN x u):∀{xs:List V} {us:List za} (i:Nat),aL xs us->aL (xs.set i x) (us.set i u)
 |_,_,_,.nil=>.nil
 |_,_,0,.cons _ t=>.cons r t
 |_,_,i+1,.cons q t=>.cons q (aL.set r i t)
theorem aL.append:∀{xs ys:List V} {us ws:List za},aL xs us->aL ys ws->aL (xs++ys) (us++ws)
 |_,_,_,_,.nil,s=>s
 |_,_,_,_,.cons r t,s=>.cons r (aL.append t s)
theorem aL.take:∀{xs:List V} {us:List za} (n:Nat),aL xs us->aL (xs.take n) (us.take n)
 |_,_,0,_=>.nil
 |_,_,_+1,.nil=>.nil
 |_,_,n+1,.cons r t=>.cons r (aL.take n t)
theorem aL.drop:∀{xs:List V} {us:List za} (n:Nat),aL xs us->aL (xs.drop n) (us.drop n)
 |_,_,0,r=>r
 |_,_,_+1,.nil=>.nil
 |_,_,n+1,.cons _ t=>aL.drop n t
def f_:Option V->Option za->Prop
 |some v,some u=>aN v u
 |none,none=>True
 |_,_=>False
def KV{κ:Type}:List (κ×V)->List (κ×za)->Prop:=Paired λ(p:κ×V) (q:κ×za)=>p.1=q.1/\aN p.2 q.2
def kV:Key->V
 |.inl i=>.int i
 |.inr x=>.str x
inductive HO where
 |lst (xs:List V)
 |tup (xs:List V)
 |dK (kvs:List (Key×V)) | dT (kvs:List (List Key×V))
 |set (S:Int->Bool) (n:Nat)
 |ins (C dx:Addr) (fs:List (Str×V))
 |own (x:Addr)
 |xd (fs:List (Str×V))
 |met (f x:Addr)
 |rng (lo hi:Int)
 |frz (o:Obj) (u:HO)
 |tbl (ps:Array za)
 |ext (φ:Heap->Prop)
abbrev Hp:=Addr->Option HO
def upd(H:Hp)(a:Addr)(o:HO):Hp:=λb=>if b=a then some o else H b
theorem aj{H:Hp}{a:Addr}{o:HO}:upd H a o a=some o:=by unfold upd;rw[if_pos rfl]
theorem ak{H:Hp}{a b:Addr}{o:HO}(h:b≠a):upd H a o b=H b:=by unfold upd;rw[if_neg h]
theorem ar{H:Hp}{a b:Addr}{o:HO}(h:H a=some o)(h':H b=none):a≠b:=by
 intro e;subst e;rw[h] at h';cases h'
section
variable(P:zv)(w:zA)
def bu(H:Hp)(h:Heap)(a:Addr):HO->Prop
 |.lst xs=>xs.length<=zt/\∃(its:List za) (n:Nat),aL xs its/\h.get? a=some { cls:=.type "list",data:=.seq its.toArray n }
 |.tup xs=>xs.length<=zt/\∃its:List za,aL xs its/\IsTup h a its.toArray
 |.dK kvs=>kvs.length<=zt/\(a==sysModules)=false/\∃vs,KV kvs vs/\h.DictOf (jy P w) a vs
 |.dT kvs=>kvs.length<=zt/\(a==sysModules)=false/\∃xs:List (List Key×Addr×za),
   Paired (λ(p:List Key×V) (q:List Key×Addr×za)=>p.1=q.1/\H q.2.1=some (.tup (p.1.map kV))/\aN p.2 q.2.2) kvs xs/\
   ∃o es ep,h.get? a=some o/\o.ExactDict/\o.data=.dict es ep/\es.toList=xs.map (entryOfKey (tupleKind (jy P w)))/\(xs.map (·.1)).Nodup
 |.set S n=>h.SetOf (intKind P w) a S n
 |.ins C dx fs=>H dx=some (.own a)/\fs.length<=1000/\dx≠a/\h.get? a=some (wg C dx)/\
   ∃mA,h.Ns1 dx mA/\(∀f,f_ (fs.lookup f) (mA f))/\xH mA (fs.map (·.1))
 |.own _=>∃o,h.get? a=some o
 |.xd fs=>∃mA,h.Ns1 a mA/\∀f,f_ (fs.lookup f) (mA f)
 |.rng lo hi=>∃t u v,h.get? a=some { cls:=.type "range",data:=.fields #[.int lo t,.int hi u,.int 1 v] }
 |.frz o u=>h.get? a=some o/\bu H h a u
 |.tbl ps=>h.get? a=some { cls:=.none,data:=.fields ps }
 |.met f x=>h.get? a=some (PySem.W.methodObj (.ref f) (.ref x))
 |.ext φ=>φ h/\(∃o,h.get? a=some o)/\∀h1 h2:Heap,φ h1->(∀o,h1.get? a=some o->h2.get? a=some o)->φ h2
def HOk(H:Hp)(h:Heap):Prop:=∀a o,H a=some o->bu P w H h a o
end
section
variable{P:zv}{w:zA}{H H':Hp}{h h':Heap}{a:Addr}{o:HO}
theorem bu.lt(x:bu P w H h a o):a<h.objs.size:=by
 cases o with
 |lst xs=>obtain⟨_,_,_,_,e⟩:=x;exact zh e
 |tup xs=>obtain⟨_,_,_,p⟩:=x;exact p.lt
 |dK kvs=>obtain⟨_,_,_,_,o,_,_,e,_⟩:=x;exact zh e
 |dT kvs=>obtain⟨_,_,_,_,o,_,_,e,_⟩:=x;exact zh e
 |set S n=>obtain⟨o,_,_,_,e,_⟩:=x;exact zh e
 |ins C dx fs=>obtain⟨_,_,_,e,_⟩:=x;exact zh e
 |own y=>obtain⟨_,e⟩:=x;exact zh e
 |xd fs=>obtain⟨_,⟨_,_,_,e,_⟩,_⟩:=x;exact zh e
 |rng lo hi=>obtain⟨_,_,_,e⟩:=x;exact zh e
 |frz ob u=>obtain⟨e,_⟩:=x;exact zh e
 |tbl ps=>exact zh (show h.get? a=some _ from x)
 |met f y=>exact zh (show h.get? a=some _ from x)
 |ext φ=>obtain⟨_,⟨_,e⟩,_⟩:=x;exact zh e
theorem Paired.mapP{α β:Type}{F G:α->β->Prop}:∀{l₁:List α} {l₂:List β},Paired F l₁ l₂->(∀a b,F a b->G a b)->Paired G l₁ l₂
 |_,_,.nil,_=>.nil
 |_,_,.cons r t,f=>.cons (f _ _ r) (Paired.mapP t f)
theorem bu.stay(x:bu P w H h a o)(k:∀b u,(b=a\/H b=some (.own a))->h.get? b=some u->h'.get? b=some u)
  (ho:∀b,H b=some (.own a)->H' b=some (.own a)) (ht:∀b xs,H b=some (.tup xs)->H' b=some (.tup xs)):bu P w H' h' a o:=by
 induction o with
 |lst xs=>obtain⟨z,its,n,r,e⟩:=x;exact⟨z,its,n,r,k _ _ (.inl rfl) e⟩
 |tup xs=>obtain⟨z,its,r,ob,e,c⟩:=x;exact⟨z,its,r,ob,k _ _ (.inl rfl) e,c⟩
 |dK kvs=>obtain⟨z,y,vs,r,ob,es,ep,e,c⟩:=x;exact⟨z,y,vs,r,ob,es,ep,k _ _ (.inl rfl) e,c⟩
 |dT kvs=>
  obtain⟨z,y,xs,r,ob,es,ep,e,c⟩:=x;exact⟨z,y,xs,Paired.mapP r λp q z=>⟨z.1,ht _ _ z.2.1,z.2.2⟩,ob,es,ep,k _ _ (.inl rfl) e,c⟩
 |set S n=>obtain⟨ob,es,ep,t,e,c⟩:=x;exact⟨ob,es,ep,t,k _ _ (.inl rfl) e,c⟩
 |ins C dx fs=>
  obtain⟨d,z,ne,e,mA,⟨od,es,ep,e2,c⟩,r⟩:=x;exact⟨ho _ d,z,ne,k _ _ (.inl rfl) e,mA,⟨od,es,ep,k _ _ (.inr d) e2,c⟩,r⟩
 |own y=>obtain⟨ob,e⟩:=x;exact⟨ob,k _ _ (.inl rfl) e⟩
 |xd fs=>obtain⟨mA,⟨od,es,ep,e,c⟩,r⟩:=x;exact⟨mA,⟨od,es,ep,k _ _ (.inl rfl) e,c⟩,r⟩
 |rng lo hi=>obtain⟨t,u,v,e⟩:=x;exact⟨t,u,v,k _ _ (.inl rfl) e⟩
 |frz ob u ih=>obtain⟨e,q⟩:=x;exact⟨k _ _ (.inl rfl) e,ih q⟩
 |tbl ps=>
  have e:h.get? a=some { cls:=.none,data:=.fields ps }:=x;show h'.get? a=some { cls:=.none,data:=.fields ps };exact k a _ (.inl rfl) e
 |met f y=>
  have e:h.get? a=some (PySem.W.methodObj (.ref f) (.ref y)):=x;show h'.get? a=some (PySem.W.methodObj (.ref f) (.ref y));exact k a _ (.inl rfl) e
 |ext φ=>obtain⟨p,⟨o,e⟩,st⟩:=x;exact⟨st _ _ p λo q=>k _ _ (.inl rfl) q,⟨o,k _ _ (.inl rfl) e⟩,st⟩
theorem HOk.lt(x:HOk P w H h)(e:H a=some o):a<h.objs.size:=(x a o e).lt
theorem HOk.fresh(x:HOk P w H h)(e:h.objs.size<=a):H a=none:=by
 cases q:H a with
 |none=>rfl
 |some u=>exact absurd (zx (x.lt q) e) (wx _)
theorem HOk.kept(x:HOk P w H h)(k:∀b u,h.get? b=some u->h'.get? b=some u):HOk P w H h':=λa o e=>
 (x a o e).stay (λb u _ q=>k b u q) (λ_ q=>q) λ_ _ q=>q
theorem HOk.laid(x:HOk P w H h)(k:∀b u,h.get? b=some u->h'.get? b=some u)(hp:h.objs.size<=a)(new:bu P w (upd H a o) h' a o):HOk P w (upd H a o) h':=λb u e=>by
 have hn:=x.fresh hp
 by_cases hb:b=a
 ·subst hb;rw[aj] at e;cases e;exact new
 ·rw[ak hb] at e
  exact(x b u e).stay (λc v _ q=>k c v q) (λc q=>by rw[ak (ar q hn)];exact q) λc xs q=>by rw[ak (ar q hn)];exact q
end
def Rd(H:Hp)(a:Addr)(u:HO):Prop:=H a=some u\/∃o,H a=some (.frz o u)
theorem Rd.ok{P:zv}{w:zA}{H:Hp}{h:Heap}{a:Addr}{u:HO}(r:Rd H a u)(x:HOk P w H h):bu P w H h a u:=by
 rcases r with r | ⟨o,r⟩
 ·exact x a u r
 ·obtain⟨_,q⟩:=x a _ r
  exact q
def Mut:Option HO->Prop
 |some (.lst _)=>True
 |some (.dK _)=>True
 |some (.dT _)=>True
 |some (.set _ _)=>True
 |some (.ins _ _ _)=>True
 |some (.ext _)=>True
 |_=>False
section
variable{P:zv}{w:zA}{H:Hp}{h h':Heap}{x e:Addr}{o':HO}
theorem HOk.write(ok:HOk P w H h)(mu:Mut (H x))(he:e=x\/H e=some (.own x))(k:∀b u,b≠e->h.get? b=some u->h'.get? b=some u)(heo:∃u,h'.get? e=some u)
  (new:bu P w (upd H x o') h' x o'):HOk P w (upd H x o') h':=λb u q=>by
 have nown:∀c y,H c=some (.own y)->c≠x:=λc y r z=>by subst z;rw[r] at mu;exact mu
 have ntup:∀c xs,H c=some (.tup xs)->c≠x:=λc xs r z=>by subst z;rw[r] at mu;exact mu
 by_cases hb:b=x
 ·subst hb;rw[aj] at q;cases q;exact new
 ·rw[ak hb] at q
  by_cases hbe:b=e
  ·have q':H b=some (.own x):=by
    rcases he with z | z
    ·exact absurd (hbe.trans z) hb
    ·rw[hbe];exact z
   rw[q] at q';cases q';obtain⟨v,hv⟩:=heo;exact⟨v,by rw[hbe];exact hv⟩
  ·refine(ok b u q).stay (λc v hc r=>k c v ?_ r) (λc r=>by rw[ak (nown c b r)];exact r) λc xs r=>by rw[ak (ntup c xs r)];exact r
   rcases hc with rfl | hc
   ·exact hbe
   ·rintro rfl
    rcases he with z | z
    ·exact nown c b hc z
    ·rw[hc] at z;cases z;exact hb rfl
end
structure Un(fs ex:List Addr)(H H':Hp)(h h':Heap):Prop where
 keep:∀b o,h.get? b=some o->H b=none->b∉fs->b∉ex->h'.get? b=some o
 slot:∀b o,h.get? b=some o->H b=none->b∈fs->b∉ex->∃sl,h'.get? b=some { o with slots:=sl }
 free:∀b o,h.get? b=some o->H b=none->b∉ex->H' b=none
 there:∀b o,h.get? b=some o->b∉ex->∃o',h'.get? b=some o'
 tups:∀b xs,H b=some (.tup xs)->H' b=some (.tup xs)
 frzs:∀b o u,H b=some (.frz o u)->H' b=some (.frz o u)
 tbls:∀b ps,H b=some (.tbl ps)->∃more,H' b=some (.tbl (ps++more))
section
variable{fs fs' ex ex':List Addr}{H H1 H2:Hp}{h h1 h2 h':Heap}{a x e:Addr}{o:HO}
theorem Un.any(u:Un fs ex H H1 h h1){b:Addr}{ob:Obj}(q:h.get? b=some ob)(n:H b=none)(hx:b∉ex):∃sl,h1.get? b=some { ob with slots:=sl }:=by
 by_cases hb:b∈fs
 ·exact u.slot b ob q n hb hx
 ·exact⟨ob.slots,u.keep b ob q n hb hx⟩
theorem Un.kept(k:∀b u,h.get? b=some u->h'.get? b=some u):Un fs ex H H h h':=
 ⟨λb ob q _ _ _=>k b ob q,λb ob q _ _ _=>⟨ob.slots,k b ob q⟩,λ_ _ _ n _=>n,λb ob q _=>⟨ob,k b ob q⟩,λ_ _ q=>q,λ_ _ _ q=>q,λ_ ps q=>⟨#[],by rw[q];simp⟩⟩
theorem Un.refl:Un fs ex H H h h:=Un.kept λ_ _ q=>q
theorem Un.laid(k:∀b u,h.get? b=some u->h'.get? b=some u)(hp:h.objs.size<=a)(hn:H a=none):Un fs ex H (upd H a o) h h' where
 keep:=λb u q _ _ _=>k b u q
 slot:=λb u q _ _ _=>⟨u.slots,k b u q⟩
 free:=λb u q n _=>by rw[ak (zC (zx (zh q) hp))];exact n
 there:=λb u q _=>⟨u,k b u q⟩
 tups:=λb xs q=>by rw[ak (ar q hn)];exact q
 frzs:=λb u xs q=>by rw[ak (ar q hn)];exact q
 tbls:=λb ps q=>⟨#[],by rw[ak (ar q hn),q];simp⟩
theorem Un.write(mu:Mut (H x))(he:e=x\/H e=some (.own x))(k:∀b u,b≠e->h.get? b=some u->h'.get? b=some u)(heo:∃u,h'.get? e=some u):Un fs ex H (upd H x o) h h':=by
 have hx:∀b,H b=none->b≠x:=λb n z=>by subst z;rw[n] at mu;exact mu
 have hb:∀b,H b=none->b≠e:=λb n z=>by
  subst z;rcases he with r | r
  ·exact hx b n r
  ·rw[n] at r;cases r
 have hm:∀b u,H b=some u->¬ Mut (some u)->b≠x:=λb u q nm z=>by subst z;rw[q] at mu;exact nm mu
 refine⟨λb u q n _ _=>k b u (hb b n) q,λb u q n _ _=>⟨u.slots,k b u (hb b n) q⟩,λb u q n _=>by rw[ak (hx b n)];exact n,λb u q _=>?_,
  λb xs q=>by rw[ak (hm b _ q λz=>z)];exact q,λb u xs q=>by rw[ak (hm b _ q λz=>z)];exact q,λb ps q=>⟨#[],by rw[ak (hm b _ q λz=>z),q];simp⟩⟩
 by_cases hbe:b=e
 ·subst hbe;exact heo
 ·exact⟨u,k b u hbe q⟩
end
def trk(h:Heap)(H:Hp):List Addr:=(vX h.objs.size).filter λa=>(H a).isSome
def jt(h:Heap)(H:Hp):Heap:=PySem.W.hideAll h (trk h H)
theorem nV(h:Heap)(H:Hp):(jt h H).objs.size=h.objs.size:=PySem.W.hideAll_size _ _
theorem pM{h:Heap}{H:Hp}{b:Addr}{o:Obj}(e:h.get? b=some o)(n:H b=none):(jt h H).get? b=some o:=
 PySem.W.hideAll_get _ e λhm=>by
  have q:(H b).isSome=true:=(List.mem_filter.mp hm).2;rw[n] at q;simp at q
theorem qD{h:Heap}{H:Hp}{b:Addr}{o:Obj}(e:(jt h H).get? b=some o):h.get? b=some o/\H b=none:=by
 have e':h.get? b=some o:=PySem.W.of_hideAll (trk h H) e;refine⟨e',?_⟩;cases q:H b with
 |none=>rfl
 |some x=>
  have hm:b∈trk h H:=List.mem_filter.mpr ⟨List.mem_range.mpr (zh e'),by simp[q]⟩;have z:(jt h H).get? b=none:=PySem.W.hideAll_none (trk h H) hm;rw[z] at e;cases e
structure Mod(K:zb)(mg:Str->Option za)(base:Heap):Prop where
 kin:K.In base
 glob:base.Ns zz mg
 blt:∃mb,base.Ns builtinsNs mb/\∀x:Str,x≠"__name__"->mb x=wY x
 nolimit:base.NoLimit
structure Cx where
 prog:zv
 w:zA
 K:zb
 mg:Str->Option za
 base:Heap
 A:zD
 N:List Str
 s₀:zd
 H₀:Hp
 env:Env
 outer:List Env
 stack:List Env
 ex:List Addr
 fn:Str->Bool
 calm:Bool
 pn:List (Addr×Obj)
 xe:za->zd->Prop
def frs(l:List Env):List Addr:=l.filterMap (·.frame)
abbrev Cx.fs(X:Cx):List Addr:=frs X.outer
def Vis(sc:Scope)(x:Str):Prop:=sc.names.lookup x=some .local\/sc.names.lookup x=some .cell\/sc.names.lookup x=some .free
def Loc(sc:Scope)(x:Str):Prop:=sc.names.lookup x=some .local\/sc.names.lookup x=some .cell
def vL(env:Env)(h:Heap)(m:Str->Option za)(x:Str)(u:za):Prop:=
 (env.kindOf x=some .local/\m x=some u)\/((env.kindOf x=some .cell\/env.kindOf x=some .free)/\∃c,env.cells.lookup x=some c/\h.IsCell c (some u))
structure Cx.Ok(X:Cx):Prop where
 mod:Mod X.K X.mg X.base
 kind:X.env.scope.kind=.function
 glob:X.env.globals=zz
 blt:X.env.builtins=builtinsNs
 above:X.s₀.heap.objs.size<=X.env.locals
 inj:∀x y c,X.env.cells.lookup x=some c->X.env.cells.lookup y=some c->x=y
 has:∀x,(X.env.kindOf x=some .cell\/X.env.kindOf x=some .free)->∃c,X.env.cells.lookup x=some c
 cab:∀x c,X.fn x=true->X.env.cells.lookup x=some c->X.s₀.heap.objs.size<=c
 hd:X.calm=true->X.A.handled=none
 frames:X.A.frames=some X.stack
 stk:X.stack=X.outer\/(X.stack=X.env::X.outer/\X.env.frame=some X.env.locals)
 exf:∀b∈X.ex,b≠X.env.locals/\∀x c,X.env.cells.lookup x=some c->c≠b
 bs:∀b o,X.base.get? b=some o->X.s₀.heap.get? b=some o/\X.H₀ b=none
 bsz:X.base.objs.size<=X.s₀.heap.objs.size
 noex:∀b o,X.base.get? b=some o->b∉X.ex
 exfs:∀b∈X.ex,b∉X.fs
 funs:X.s₀.heap.FunFrames X.base X.outer
 frf:∀b∈X.fs,X.H₀ b=none
structure Inv(X:Cx)(pins:List (Addr×Obj))(σ:List (Option V))(H:Hp)(s:zd):Prop where
 ok:X.Ok
 os:s.os=X.s₀.os
 bare:AllBare s.gens
 base:Un X.fs X.ex X.H₀ H X.s₀.heap s.heap
 loc:∃m,s.heap.Ns X.env.locals m/\∀(i:Nat) (x:Str) (v:V),X.N[i]?=some x->σ[i]?=some (some v)->Vis X.env.scope x->∃u,aN v u/\vL X.env s.heap m x u
 cell:∀x c,X.env.cells.lookup x=some c->∃v,s.heap.IsCell c v
 free:H X.env.locals=none
 freeC:∀x c,X.env.cells.lookup x=some c->H c=none
 pin:∀p∈X.pn++pins,s.heap.get? p.1=some p.2/\H p.1=none/\p.1≠X.env.locals/\p.1∉X.fs/\∀v,p.2.data≠.cell v
 hok:HOk X.prog X.w H s.heap
 len:σ.length=X.N.length
section
variable{X:Cx}{pins:List (Addr×Obj)}{σ:List (Option V)}{H H':Hp}{s:zd}{h':Heap}
theorem Cx.Ok.nofr(ok:X.Ok){b:Addr}{o:Obj}(e:X.base.get? b=some o):b∉X.fs:=λhb=>by
 have:=(ok.funs.mem hb).1;rw[e] at this;cases this
theorem Inv.bs(I:Inv X pins σ H s):∀b o,X.base.get? b=some o->s.heap.get? b=some o/\H b=none:=λb o e=>
 ⟨I.base.keep b o (I.ok.bs b o e).1 (I.ok.bs b o e).2 (I.ok.nofr e) (I.ok.noex b o e),I.base.free b o (I.ok.bs b o e).1 (I.ok.bs b o e).2 (I.ok.noex b o e)⟩
theorem Inv.bk(I:Inv X pins σ H s):∀b o,X.base.get? b=some o->s.heap.get? b=some o:=λb o e=>(I.bs b o e).1
theorem Inv.mod(I:Inv X pins σ H s):Mod X.K X.mg X.base:=I.ok.mod
theorem Inv.kIn(I:Inv X pins σ H s):X.K.In s.heap:=I.ok.mod.kin.keeps I.bk
theorem Inv.lt(I:Inv X pins σ H s):X.env.locals<s.heap.objs.size:=let⟨_,hn,_⟩:=I.loc;hn.lt
theorem Inv.sz(I:Inv X pins σ H s):X.s₀.heap.objs.size<=s.heap.objs.size:=zO I.ok.above (Nat.le_of_lt I.lt)
theorem Inv.nofs(I:Inv X pins σ H s){a:Addr}(h:s.heap.objs.size<=a):a∉X.fs:=λhb=>by
 obtain⟨_,o,ho,_⟩:=I.ok.funs.mem hb;exact absurd (zx (zh ho) (zO I.sz h)) (wx _)
theorem Inv.cne(I:Inv X pins σ H s):∀x c,X.env.cells.lookup x=some c->c≠X.env.locals:=λx c e z=>by
 obtain⟨v,o,ho,hd⟩:=I.cell x c e;obtain⟨m,⟨o',es,ep,ho',hd',_⟩,_⟩:=I.loc;rw[z,ho'] at ho;cases ho;rw[hd'] at hd;cases hd
theorem Inv.funs(I:Inv X pins σ H s):s.heap.FunFrames X.base X.outer:=by
 have all:∀(l:List Env),(∀b∈frs l,b∈X.fs)->X.s₀.heap.FunFrames X.base l->s.heap.FunFrames X.base l:=by
  intro l
  induction l with
  |nil=>intro _ _;trivial
  |cons env r ih=>
   intro hs hl;obtain⟨hk,⟨L,o,hf,hn,ho,hd⟩,hr⟩:=hl;have hL:L∈X.fs:=hs L (by unfold frs;rw[xR,hf];exact wG);obtain⟨sl,e⟩:=I.base.slot L o ho (I.ok.frf L hL) hL λz=>I.ok.exfs L z hL;exact⟨hk,⟨L,_,hf,hn,e,hd⟩,ih (λb hb=>hs b (by unfold frs;rw[xR,hf];exact zQ _ hb)) hr⟩
 exact all X.outer (λ_ hb=>hb) I.ok.funs
theorem Inv.stack(I:Inv X pins σ H s):s.heap.FunFrames X.base X.stack:=by
 rcases I.ok.stk with e | ⟨e,hf⟩
 ·rw[e];exact I.funs
 ·rw[e]
  obtain⟨m,hn,_⟩:=I.loc;refine .cons (by rw[I.ok.kind];decide) hf hn ?_ I.funs;exact Heap.get?_none_of_le (zO I.ok.bsz I.ok.above)
theorem Inv.stkSub(I:Inv X pins σ H s):∀b∈frs X.stack,b∈X.env.locals::X.fs:=λb hb=>by
 rcases I.ok.stk with e | ⟨e,hf⟩
 ·rw[e] at hb;exact zQ _ hb
 ·rw[e] at hb
  unfold frs at hb;rw[xR,hf] at hb;exact hb
theorem Inv.stkFree(I:Inv X pins σ H s):∀b∈frs X.stack,H b=none:=λb hb=>by
 rcases zq.mp (I.stkSub b hb) with e | hb
 ·rw[e];exact I.free
 ·obtain⟨_,o,ho,_⟩:=I.ok.funs.mem hb
  exact I.base.free b o ho (I.ok.frf b hb) λz=>I.ok.exfs b z hb
theorem Inv.step{g':Array GenState}{t':Nat}{d':Drawn}{ch:List Addr}(I:Inv X pins σ H s)
  (hch:∀b∈ch,(b∈X.ex\/X.s₀.heap.objs.size<=b)/\b≠X.env.locals/\(∀x c,X.env.cells.lookup x=some c->c≠b)/\∀p∈X.pn++pins,p.1≠b)
  (keep:∀b o,b≠X.env.locals->b∉X.fs->b∉ch->s.heap.get? b=some o->H b=none->h'.get? b=some o)
  (slot:∀b o,b≠X.env.locals->b∈X.fs->b∉ch->s.heap.get? b=some o->H b=none->∃sl,h'.get? b=some { o with slots:=sl }) (free:∀b o,b∉ch->s.heap.get? b=some o->H b=none->H' b=none)
  (there:∀b o,b∉ch->s.heap.get? b=some o->∃o',h'.get? b=some o')
  (tups:∀b xs,H b=some (.tup xs)->H' b=some (.tup xs)) (frzs:∀b o u,H b=some (.frz o u)->H' b=some (.frz o u)) (tbls:∀b ps,H b=some (.tbl ps)->∃more,H' b=some (.tbl (ps++more)))
  (ns:∀m,s.heap.Ns X.env.locals m->h'.Ns X.env.locals m) (hok:HOk X.prog X.w H' h') (hg:AllBare g') :
  Inv X pins σ H' { s with heap:=h',gens:=g',drawn:=d',toks:=t' }:=by
 have neL:∀b o,X.s₀.heap.get? b=some o->b≠X.env.locals:=λb o e=>zC (zx (zh e) I.ok.above)
 have neC:∀b o,X.s₀.heap.get? b=some o->b∉X.ex->b∉ch:=λb o e hx hb=>by
  rcases(hch b hb).1 with z | z
  ·exact hx z
  ·exact absurd (zx (zh e) z) (wx _)
 have cellK:∀x c,X.env.cells.lookup x=some c->∀v,s.heap.IsCell c v->h'.IsCell c v:=λx c e v ⟨o,ho,hd⟩=>by
  have nch:c∉ch:=λz=>(hch c z).2.2.1 x c e rfl
  by_cases hc:c∈X.fs
  ·obtain⟨sl,q⟩:=slot c o (I.cne x c e) hc nch ho (I.freeC x c e)
   exact⟨_,q,hd⟩
  ·exact⟨o,keep c o (I.cne x c e) hc nch ho (I.freeC x c e),hd⟩
 refine⟨I.ok,I.os,hg,⟨λb o e n hb hx=>?_,λb o e n hb hx=>?_,λb o e n hx=>?_,λb o e hx=>?_,λb xs e=>tups b xs (I.base.tups b xs e),λb o xs e=>frzs b o xs (I.base.frzs b o xs e),λb ps e=>?_⟩,?_,λx c e=>?_,?_,λx c e=>?_,λp hp=>?_,hok,I.len⟩
 ·exact keep b o (neL b o e) hb (neC b o e hx) (I.base.keep b o e n hb hx) (I.base.free b o e n hx)
 ·obtain⟨sl,e1⟩:=I.base.slot b o e n hb hx
  obtain⟨sl',e2⟩:=slot b _ (neL b o e) hb (neC b o e hx) e1 (I.base.free b o e n hx);exact⟨sl',e2⟩
 ·obtain⟨o',e1⟩:=I.base.there b o e hx
  exact free b o' (neC b o e hx) e1 (I.base.free b o e n hx)
 ·obtain⟨o',e1⟩:=I.base.there b o e hx
  exact there b o' (neC b o e hx) e1
 ·obtain⟨m1,e1⟩:=I.base.tbls b ps e
  obtain⟨m2,e2⟩:=tbls b _ e1;exact⟨m1++m2,by rw[e2,Array.append_assoc]⟩
 ·obtain⟨m,hn,hl⟩:=I.loc
  refine⟨m,ns m hn,λi x v e1 e2 e3=>?_⟩;obtain⟨u,r,l⟩:=hl i x v e1 e2 e3;refine⟨u,r,?_⟩;rcases l with l | ⟨k,c,e,z⟩
  ·exact .inl l
  ·exact .inr ⟨k,c,e,cellK x c e _ z⟩
 ·obtain⟨v,z⟩:=I.cell x c e
  exact⟨v,cellK x c e v z⟩
 ·obtain⟨m,⟨o,_,_,ho,_⟩,_⟩:=I.loc
  exact free _ o (λz=>(hch _ z).2.1 rfl) ho I.free
 ·obtain⟨v,o,ho,hd⟩:=I.cell x c e
  exact free c o (λz=>(hch c z).2.2.1 x c e rfl) ho (I.freeC x c e)
 ·obtain⟨e,n,ne,nf,d⟩:=I.pin p hp
  have nch:p.1∉ch:=λz=>(hch p.1 z).2.2.2 p hp rfl;exact⟨keep p.1 p.2 ne nf nch e n,free p.1 p.2 nch e n,ne,nf,d⟩
theorem Inv.un{t':Nat}(I:Inv X pins σ H s)(u:Un X.fs [] H H' s.heap h')(hok:HOk X.prog X.w H' h'):Inv X pins σ H' { s with heap:=h',toks:=t' }:=by
 obtain⟨m,⟨o,es,ep,ho,r⟩,_⟩:=id I.loc;obtain⟨sl,hL⟩:=u.any ho I.free (by simp)
 exact I.step (g':=s.gens) (d':=s.drawn) (ch:=[]) (λ_ z=>nomatch z) (λb o _ hb _ e n=>u.keep b o e n hb (by simp)) (λb o _ hb _ e n=>u.slot b o e n hb (by simp)) (λb o _ e n=>u.free b o e n (by simp)) (λb o _ e=>u.there b o e (by simp)) u.tups u.frzs u.tbls (λm' hm=>by
  obtain⟨o',es',ep',ho',r'⟩:=hm;rw[ho] at ho';cases ho'
  exact⟨_,es',ep',hL,r'⟩) hok I.bare
theorem Inv.call{g':Array GenState}{t':Nat}{d':Drawn}{ch:List Addr}(I:Inv X pins σ H s)(u:Un (frs X.stack) ch H H' s.heap h')(hok:HOk X.prog X.w H' h')(hg:AllBare g')
  (hch:∀b∈ch,(b∈X.ex\/X.s₀.heap.objs.size<=b)/\b≠X.env.locals/\(∀x c,X.env.cells.lookup x=some c->c≠b)/\∀p∈X.pn++pins,p.1≠b) :
  Inv X pins σ H' { s with heap:=h',gens:=g',drawn:=d',toks:=t' }:=by
 obtain⟨m,⟨o,es,ep,ho,r⟩,_⟩:=id I.loc;obtain⟨sl,hL⟩:=u.any ho I.free λz=>(hch _ z).2.1 rfl
 exact I.step (ch:=ch) hch (λb o hL hb hc e n=>u.keep b o e n (λz=>(zq.mp (I.stkSub b z)).elim hL hb) hc) (λb o _ _ hc e n=>u.any e n hc) (λb o hc e n=>u.free b o e n hc) (λb o hc e=>u.there b o e hc) u.tups u.frzs u.tbls (λm' hm=>by
  obtain⟨o',es',ep',ho',r'⟩:=hm;rw[ho] at ho';cases ho'
  exact⟨_,es',ep',hL,r'⟩) hok hg
theorem Inv.turned{t':Nat}{it:Addr}(I:Inv X pins σ H s)(k:∀b o,b≠it->s.heap.get? b=some o->h'.get? b=some o)(hn:H it=none)(hL:it≠X.env.locals)
  (h1:it∈X.ex\/X.s₀.heap.objs.size<=it) (h2:∀x c,X.env.cells.lookup x=some c->c≠it) (h3:∀p∈X.pn++pins,p.1≠it):Inv X pins σ H { s with heap:=h',toks:=t' }:=by
 have nit:∀b u,H b=some u->b≠it:=λb u e z=>by rw[z,hn] at e;cases e
 refine I.step (g':=s.gens) (d':=s.drawn) (ch:=[it]) (λb hb=>?_) (λb o _ _ hc e _=>k b o (λz=>hc (by simp[z])) e) (λb o _ _ hc e _=>⟨o.slots,k b o (λz=>hc (by simp[z])) e⟩) (λ_ _ _ _ n=>n)
  (λb o hc e=>⟨o,k b o (λz=>hc (by simp[z])) e⟩) (λ_ _ e=>e) (λ_ _ _ e=>e) (λb ps e=>⟨#[],by rw[e];simp⟩) (λm hm=>?_) (λb u e=>?_) I.bare
 ·have e:b=it:=by simpa using hb
  subst e;exact⟨h1,hL,h2,h3⟩
 ·obtain⟨o,es,ep,ho,r⟩:=hm
  exact⟨o,es,ep,k _ o (Ne.symm hL) ho,r⟩
 ·refine(I.hok b u e).stay (λc v hc q=>k c v ?_ q) (λ_ q=>q) λ_ _ q=>q
  rcases hc with z | z
  ·rw[z];exact nit b u e
  ·exact nit c _ z
theorem Inv.tok(I:Inv X pins σ H s)(t:Nat):Inv X pins σ H { s with toks:=t }:=I.un (h':=s.heap) (t':=t) Un.refl I.hok
theorem Inv.kept{t':Nat}(I:Inv X pins σ H s)(k:∀b u,s.heap.get? b=some u->h'.get? b=some u):Inv X pins σ H { s with heap:=h',toks:=t' }:=I.un (Un.kept k) (I.hok.kept k)
theorem Inv.laid{a:Addr}{o:HO}{t':Nat}(I:Inv X pins σ H s)(k:∀b u,s.heap.get? b=some u->h'.get? b=some u)(hp:s.heap.objs.size<=a)(new:bu X.prog X.w (upd H a o) h' a o) :
  Inv X pins σ (upd H a o) { s with heap:=h',toks:=t' }:=I.un (Un.laid k hp (I.hok.fresh hp)) (I.hok.laid k hp new)
theorem Inv.write{x e:Addr}{o:HO}{t':Nat}(I:Inv X pins σ H s)(mu:Mut (H x))(he:e=x\/H e=some (.own x))(k:∀b u,b≠e->s.heap.get? b=some u->h'.get? b=some u)(heo:∃u,h'.get? e=some u)
  (new:bu X.prog X.w (upd H x o) h' x o):Inv X pins σ (upd H x o) { s with heap:=h',toks:=t' }:=I.un (Un.write mu he k heo) (I.hok.write mu he k heo new)
theorem Inv.pins_of{pins':List (Addr×Obj)}(I:Inv X pins σ H s)(h:∀p∈pins',s.heap.get? p.1=some p.2/\H p.1=none/\p.1≠X.env.locals/\p.1∉X.fs/\∀v,p.2.data≠.cell v):Inv X pins' σ H s:=
 ⟨I.ok,I.os,I.bare,I.base,I.loc,I.cell,I.free,I.freeC,λp hp=>(wL.mp hp).elim (λz=>I.pin p (wM _ z)) (h p),I.hok,I.len⟩
theorem iz{N:List Str}(hN:N.Nodup){i j:Nat}{x:Str}(a:N[i]?=some x)(b:N[j]?=some x):i=j:=by
 obtain⟨h1,e1⟩:=zB.mp a;obtain⟨h2,e2⟩:=zB.mp b;exact(List.getElem_inj hN).mp (e1.trans e2.symm)
theorem nR{M:Model}{A:zD}{E:za->zd->Prop}{i:Nat}{x:Str}{v:V}{u:za}{Q:Unit->zd->Prop}(I:Inv X pins σ H s)(hN:X.N.Nodup)(hi:X.N[i]?=some x)(hx:Loc X.env.scope x)(r:aN v u)
  (h:∀s',Inv X pins (σ.set i (some v)) H s'->(∃a,wZ a s.heap s'.heap/\(a=X.env.locals\/X.env.cells.lookup x=some a))->Q () s') (hf:X.fn x=true\/X.env.scope.names.lookup x=some .local:=by first | exact .inl rfl | exact .inr rfl | assumption):zf M A (storeName X.env x u) Q E s:=by
 obtain⟨m,hn,hl⟩:=id I.loc;have hcls:(X.env.scope.kind == .class || (X.env.scope.kind == .module&&X.env.locals != X.env.globals))=false:=by rw[I.ok.kind];rfl
 have hiσ:i<σ.length:=by rw[I.len];exact(zB.mp hi).1
 have cne:=I.cne
 have tracked:∀{a:Addr} {h':Heap},(∃o,s.heap.get? a=some o/\H a=none)->wZ a s.heap h'->HOk X.prog X.w H h':=λ{a h'} ha hs b ob e=>by
  obtain⟨_,_,hfree⟩:=ha;refine(I.hok b ob e).stay (λc w' hc q=>(hs.2 c ?_).trans q) (λ_ q=>q) λ_ _ q=>q;rintro rfl;rcases hc with rfl | hc
  ·rw[hfree] at e;cases e
  ·rw[hfree] at hc;cases hc
 rcases hx with hk | hk
 ·refine wpAny_storeName_local hk hn (λh' hn' hs=>?_) hcls
  obtain⟨oL,_,_,hoL,_⟩:=id hn;refine h _ ⟨I.ok,I.os,I.bare,⟨λb o e n hb hx=>?_,λb o e n hb hx=>?_,I.base.free,λb o e hx=>?_,I.base.tups,I.base.frzs,I.base.tbls⟩,⟨_,hn',λj y v' e1 e2 e3=>?_⟩,λy c e=>?_,I.free,I.freeC,λp hp=>?_,tracked ⟨oL,hoL,I.free⟩ hs,by simpa using I.len⟩ ⟨_,hs,.inl rfl⟩
  ·exact(hs.2 b (zC (zx (zh e) I.ok.above))).trans (I.base.keep b o e n hb hx)
  ·obtain⟨sl,e1⟩:=I.base.slot b o e n hb hx
   exact⟨sl,(hs.2 b (zC (zx (zh e) I.ok.above))).trans e1⟩
  ·obtain⟨o',e1⟩:=I.base.there b o e hx
   exact⟨o',(hs.2 b (zC (zx (zh e) I.ok.above))).trans e1⟩
  ·by_cases hj:j=i
   ·subst hj
    rw[hi] at e1;cases e1;rw[List.getElem?_set_self hiσ] at e2;cases e2;exact⟨u,r,.inl ⟨hk,by simp⟩⟩
   ·rw[List.getElem?_set_ne (Ne.symm hj)] at e2
    obtain⟨u',r',q⟩:=hl j y v' e1 e2 e3;refine⟨u',r',?_⟩;rcases q with⟨k,e⟩ | ⟨k,c,e,z⟩
    ·refine .inl ⟨k,?_⟩
     have:y≠x:=λe=>hj (iz hN e1 (e▸hi));simp[this,e]
    ·exact .inr ⟨k,c,e,z.sameBut hs (cne y c e)⟩
  ·obtain⟨w',z⟩:=I.cell y c e
   exact⟨w',z.sameBut hs (cne y c e)⟩
  ·obtain⟨e,n,ne,nf,d⟩:=I.pin p hp
   exact⟨(hs.2 p.1 ne).trans e,n,ne,nf,d⟩
 ·have hfn:X.fn x=true:=by
   rcases hf with z | z
   ·exact z
   ·rw[z] at hk;cases hk
  obtain⟨c,hc⟩:=I.ok.has x (.inl hk);obtain⟨w',z⟩:=I.cell x c hc;refine wpAny_storeName_cell I.ok.kind hk hc z (λh' hc' hs=>?_);obtain⟨oc,hoc,hocd⟩:=id z;refine h { s with heap:=h' } ⟨I.ok,I.os,I.bare,⟨λb o e n hb hx=>?_,λb o e n hb hx=>?_,I.base.free,λb o e hx=>?_,I.base.tups,I.base.frzs,I.base.tbls⟩,⟨m,hn.sameBut hs (Ne.symm (cne x c hc)),λj y v' e1 e2 e3=>?_⟩,λy c' e=>?_,I.free,I.freeC,λp hp=>?_,tracked ⟨oc,hoc,I.freeC x c hc⟩ hs,by simpa using I.len⟩ ⟨c,hs,.inr hc⟩
  ·exact(hs.2 b (zC (zx (zh e) (I.ok.cab x c hfn hc)))).trans (I.base.keep b o e n hb hx)
  ·obtain⟨sl,e1⟩:=I.base.slot b o e n hb hx
   exact⟨sl,(hs.2 b (zC (zx (zh e) (I.ok.cab x c hfn hc)))).trans e1⟩
  ·obtain⟨o',e1⟩:=I.base.there b o e hx
   exact⟨o',(hs.2 b (zC (zx (zh e) (I.ok.cab x c hfn hc)))).trans e1⟩
  ·by_cases hj:j=i
   ·subst hj
    rw[hi] at e1;cases e1;rw[List.getElem?_set_self hiσ] at e2;cases e2;exact⟨u,r,.inr ⟨.inl hk,c,hc,hc'⟩⟩
   ·rw[List.getElem?_set_ne (Ne.symm hj)] at e2
    obtain⟨u',r',q⟩:=hl j y v' e1 e2 e3;refine⟨u',r',?_⟩;rcases q with q | ⟨k,c',e,z'⟩
    ·exact .inl q
    ·refine .inr ⟨k,c',e,z'.sameBut hs ?_⟩
     rintro rfl;exact hj (iz hN e1 (I.ok.inj _ _ _ e hc▸hi))
  ·by_cases hcc:c'=c
   ·subst hcc;exact⟨_,hc'⟩
   ·obtain⟨w2,z2⟩:=I.cell y c' e
    exact⟨w2,z2.sameBut hs hcc⟩
  ·obtain⟨e,n,ne,nf,d⟩:=I.pin p hp
   refine⟨(hs.2 p.1 ?_).trans e,n,ne,nf,d⟩;intro q;rw[q,hoc] at e;have q':oc=p.2:=Option.some.inj e;exact d w' (by rw[<-q'];exact hocd)
theorem fU{M:Model}{A:zD}{E:za->zd->Prop}{i:Nat}{x:Str}{v:V}{u:za}{Q:Unit->zd->Prop}(I:Inv X pins σ H s)(hN:X.N.Nodup)(hi:X.N[i]?=some x)(hx:Loc X.env.scope x)(r:aN v u)
  (h:∀s',Inv X pins (σ.set i (some v)) H s'->Q () s') (hf:X.fn x=true\/X.env.scope.names.lookup x=some .local:=by first | exact .inl rfl | exact .inr rfl | assumption):zf M A (storeName X.env x u) Q E s:=
 nR I hN hi hx r (λs' I' _=>h s' I') hf
theorem Inv.call'{s':zd}{ch:List Addr}(I:Inv X pins σ H s)(ho:s'.os=s.os)(u:Un (frs X.stack) ch H H' s.heap s'.heap)(hok:HOk X.prog X.w H' s'.heap)(hg:AllBare s'.gens)
  (hch:∀b∈ch,(b∈X.ex\/X.s₀.heap.objs.size<=b)/\b≠X.env.locals/\(∀x c,X.env.cells.lookup x=some c->c≠b)/\∀p∈X.pn++pins,p.1≠b):Inv X pins σ H' s':=by
 obtain⟨h',g',d',t',o'⟩:=s';have e:o'=s.os:=ho;subst e;exact I.call (g':=g') (t':=t') (d':=d') u hok hg hch
end
abbrev XK:=za->Option Addr->Hp->Prop
abbrev St:=List (Option V)
abbrev VK:=V->Hp->Prop
abbrev TE:=St->Hp->VK->Prop
abbrev TT:=St->Hp->(Bool->Hp->Prop)->Prop
abbrev TA:=St->Hp->(List V->Hp->Prop)->Prop
structure Ends where
 nx:St->Hp->Prop
 rt:VK
 bk:St->Hp->Prop:=λ_ _=>False
 ct:St->Hp->Prop:=λ_ _=>False
abbrev TS:=Ends->St->Hp->Prop
def EP(X:Cx)(pins:List (Addr×Obj))(σ:St)(Q:VK)(u:za)(s':zd):Prop:=∃v H',Inv X pins σ H' s'/\aN v u/\Q v H'
def TP(X:Cx)(pins:List (Addr×Obj))(σ:St)(Q:Bool->Hp->Prop)(b:Bool)(s':zd):Prop:=∃H',Inv X pins σ H' s'/\Q b H'
def AP(X:Cx)(pins:List (Addr×Obj))(σ:St)(Q:List V->Hp->Prop)(us:List za)(s':zd):Prop:=∃vs H',Inv X pins σ H' s'/\aL vs us/\Q vs H'
def SP(X:Cx)(pins:List (Addr×Obj))(D:Ends)(f:Flow)(s':zd):Prop:=
 match f with
 |.next=>∃σ' H',Inv X pins σ' H' s'/\D.nx σ' H'
 |.brk=>∃σ' H',Inv X pins σ' H' s'/\D.bk σ' H'
 |.cont=>∃σ' H',Inv X pins σ' H' s'/\D.ct σ' H'
 |.ret u=>∃v σ' H',Inv X pins σ' H' s'/\aN v u/\D.rt v H'
def PE(X:Cx)(e:Expr)(t:TE):Prop:=
 ∀(pins:List (Addr×Obj)) (s:zd) (σ:St) (H:Hp) (Q:VK),Inv X pins σ H s->t σ H Q->zf (zg X.prog X.w) X.A (eval e X.env) (EP X pins σ Q) X.xe s
def PT(X:Cx)(e:Expr)(t:TT):Prop:=
 ∀(pins:List (Addr×Obj)) (s:zd) (σ:St) (H:Hp) (Q:Bool->Hp->Prop),Inv X pins σ H s->t σ H Q->zf (zg X.prog X.w) X.A (isTrue e X.env (eval e X.env)) (TP X pins σ Q) X.xe s
def PW(X:Cx)(e:Expr)(t:TT):Prop:=
 ∀(whole:Sem za) (pins:List (Addr×Obj)) (s:zd) (σ:St) (H:Hp) (Q:Bool->Hp->Prop),Inv X pins σ H s->t σ H Q->zf (zg X.prog X.w) X.A (isTrue e X.env whole) (TP X pins σ Q) X.xe s
theorem PW.pt{X:Cx}{e:Expr}{t:TT}(h:PW X e t):PT X e t:=h _
def PA(X:Cx)(es:List Expr)(t:TA):Prop:=
 ∀(pos:Pos) (pins:List (Addr×Obj)) (s:zd) (σ:St) (H:Hp) (Q:List V->Hp->Prop),Inv X pins σ H s->t σ H Q->zf (zg X.prog X.w) X.A (spliced (wo pos (zj es X.env))) (AP X pins σ Q) X.xe s
def PS(X:Cx)(st:Stmt)(t:TS):Prop:=
 ∀(pins:List (Addr×Obj)) (s:zd) (σ:St) (H:Hp) (D:Ends),Inv X pins σ H s->t D σ H->zf (zg X.prog X.w) X.A (exec st X.env) (SP X pins D) X.xe s
def PSs(X:Cx)(st:List Stmt)(t:TS):Prop:=
 ∀(pins:List (Addr×Obj)) (s:zd) (σ:St) (H:Hp) (D:Ends),Inv X pins σ H s->t D σ H->zf (zg X.prog X.w) X.A (execs st X.env) (SP X pins D) X.xe s
theorem thn{α:Type}{t:Sem α}{Q Q':α->zd->Prop}{M:Model}{A:zD}{E:za->zd->Prop}{s:zd}(h:zf M A t Q E s)(hQ:∀a s,Q a s->Q' a s):zf M A t Q' E s:=wz h hQ λ_ _ x=>x
section
variable{X:Cx}
theorem bin{a b:Expr}{ta tb:TE}(ha:PE X a ta)(hb:PE X b tb){pins:List (Addr×Obj)}{s:zd}{σ:St}{H:Hp}{R:V->V->Hp->Prop}(I:Inv X pins σ H s)(h:ta σ H λx H1=>tb σ H1 λy H2=>R x y H2)
  {α:Type} {Q:α->zd->Prop} {f:za->za->Sem α}
  (hf:∀v u s2 x y H2,Inv X pins σ H2 s2->aN x v->aN y u->R x y H2->zf (zg X.prog X.w) X.A (f v u) Q X.xe s2) :
  zf (zg X.prog X.w) X.A (eval a X.env) (λv s₁=>zf (zg X.prog X.w) X.A (eval b X.env) (λu s₂=>zf (zg X.prog X.w) X.A (f v u) Q X.xe s₂) X.xe s₁) X.xe s:=by
 refine thn (ha pins s σ H _ I h) λv s1 ⟨x,H1,I1,r1,q1⟩=>?_;refine thn (hb pins s1 σ H1 _ I1 q1) λu s2 ⟨y,H2,I2,r2,q2⟩=>?_;exact hf v u s2 x y H2 I2 r1 r2 q2
def tm(i:Nat):TE:=λσ H Q=>∃v,σ[i]?=some (some v)/\Q v H
def tC(v:V):TE:=λ_ H Q=>Q v H
theorem fB{i:Nat}{x:Str}{pos:Pos}(hN:X.N[i]?=some x)(hv:Vis X.env.scope x)(hd:(x==("__debug__" : Str))=false:=by decide)(hcd:(x==("__classdict__" : Str))=false:=by decide):PE X (.Name x pos) (tm i):=by
 intro pins s σ H Q I h;obtain⟨v,e,h⟩:=h;obtain⟨m,hn,hl⟩:=I.loc;obtain⟨u,r,l⟩:=hl i x v hN e hv;have fin:EP X pins σ Q u s:=⟨v,H,I,r,h⟩;rcases l with⟨hk,hm⟩ | ⟨hk,c,hc,hcell⟩
 ·exact wpAny_Name (wpAny_loadName_local I.ok.kind hk hn hm fin) hd
 ·rcases hk with hk | hk
  ·exact wpAny_Name (wpAny_loadName_cell I.ok.kind hk hc hcell fin) hd
  ·exact wpAny_Name (wpAny_loadName_free I.ok.kind hk hc hcell fin hcd) hd
theorem cK{i j pos}:PE X (.Constant (.int i) j pos) (tC (.int i)):=λ_ _ _ H _ I h=>wpAny_Constant_int ⟨.int i,H,I.tok _,⟨_,rfl⟩,h⟩
theorem rq{b j pos}:PE X (.Constant (.bool b) j pos) (tC (.bl b)):=λ_ _ _ H _ I h=>Constant_bool ⟨.bl b,H,I,rfl,h⟩
theorem ou{j pos}:PE X (.Constant .none j pos) (tC .non):=λ_ _ _ H _ I h=>Constant_none ⟨.non,H,I,rfl,h⟩
theorem iV{x j pos}:PE X (.Constant (.str x) j pos) (tC (.str x)):=λ_ _ _ H _ I h=>Calls.Constant_str ⟨.str x,H,I.tok _,⟨_,rfl⟩,h⟩
def Gl(X:Cx)(x:Str):Prop:=X.env.kindOf x=some .globalImplicit
theorem eZ{E:za->zd->Prop}{pins:List (Addr×Obj)}{s:zd}{σ:St}{H:Hp}{x:Str}{u:za}{pos:Pos}{Q:za->zd->Prop}(I:Inv X pins σ H s)(hg:Gl X x)(hm:X.mg x=some u)(h:Q u s)
  (hd:(x==("__debug__" : Str))=false:=by decide):zf (zg X.prog X.w) X.A (eval (.Name x pos) X.env) Q E s:=
 Calls.Name_function_global I.ok.kind hg (Calls.loadGlobal_global (by rw[I.ok.glob];exact I.mod.glob.keeps I.bk) hm h) hd
theorem gC{E:za->zd->Prop}{pins:List (Addr×Obj)}{s:zd}{σ:St}{H:Hp}{x:Str}{u:za}{pos:Pos}{Q:za->zd->Prop}(I:Inv X pins σ H s)(hg:Gl X x)(hm:X.mg x=none)(hv:wY x=some u)(h:Q u s)
  (hn:x≠"__name__":=by decide) (hd:(x==("__debug__" : Str))=false:=by decide):zf (zg X.prog X.w) X.A (eval (.Name x pos) X.env) Q E s:=by
 obtain⟨mb,h1,h2⟩:=I.mod.blt;exact Calls.Name_function_global I.ok.kind hg (Calls.loadGlobal_builtin (by rw[I.ok.glob];exact I.mod.glob.keeps I.bk) hm (by rw[I.ok.blt];exact h1.keeps I.bk) ((h2 x hn).trans hv) h) hd
theorem mw{x:Str}{v:V}{u:za}{pos:Pos}(hg:Gl X x)(hm:X.mg x=some u)(r:aN v u)(hd:(x==("__debug__" : Str))=false:=by decide):PE X (.Name x pos) (tC v):=
 λ_ _ _ H _ I h=>eZ I hg hm ⟨v,H,I,r,h⟩ hd
theorem lT{x:Str}{v:V}{u:za}{pos:Pos}(hg:Gl X x)(hm:X.mg x=none)(hv:wY x=some u)(r:aN v u)(hn:x≠"__name__":=by decide)(hd:(x==("__debug__" : Str))=false:=by decide):PE X (.Name x pos) (tC v):=
 λ_ _ _ H _ I h=>gC I hg hm hv ⟨v,H,I,r,h⟩ hn hd
variable{a b:Expr}{ta tb:TE}{pos:Pos}
variable{tA tB':TT}{rest:List Expr}
def vD(t u:TT):TT:=λσ H Q=>t σ H λc H1=>if c=true then u σ H1 Q else Q false H1
def tOr(t u:TT):TT:=λσ H Q=>t σ H λc H1=>if c=true then Q true H1 else u σ H1 Q
def vB(t:TT):TT:=λσ H Q=>t σ H λc H1=>Q (!c) H1
theorem ql(ha:PT X a tA):PW X (.BoolOp .And [a] pos) tA:=by
 intro wh pins s σ H Q I h;refine isTrue_and (thn (ha pins s σ H Q I h) λc s1 e=>?_);cases c with
 |true=>exact isTrue_and_nil e
 |false=>exact e
theorem sC(ha:PT X a tA):PW X (.BoolOp .Or [a] pos) tA:=by
 intro wh pins s σ H Q I h;refine isTrue_or (thn (ha pins s σ H Q I h) λc s1 e=>?_);cases c with
 |false=>exact isTrue_or_nil e
 |true=>exact e
theorem sS(ha:PT X a tA)(hb:PW X (.BoolOp .And (b::rest) pos) tB'):PW X (.BoolOp .And (a::b::rest) pos) (vD tA tB'):=by
 intro wh pins s σ H Q I h;refine isTrue_and (thn (ha pins s σ H _ I h) λc s1 ⟨H1,I1,q1⟩=>?_);cases c with
 |true=>exact hb wh pins s1 σ H1 Q I1 q1
 |false=>exact⟨H1,I1,q1⟩
theorem uz(ha:PT X a tA)(hb:PW X (.BoolOp .Or (b::rest) pos) tB'):PW X (.BoolOp .Or (a::b::rest) pos) (tOr tA tB'):=by
 intro wh pins s σ H Q I h;refine isTrue_or (thn (ha pins s σ H _ I h) λc s1 ⟨H1,I1,q1⟩=>?_);cases c with
 |true=>exact⟨H1,I1,q1⟩
 |false=>exact hb wh pins s1 σ H1 Q I1 q1
theorem o8(ha:PT X a tA):PT X (.UnaryOp .Not a pos) (vB tA):=by
 intro pins s σ H Q I h;exact isTrue_not (ha pins s σ H (λc H1=>Q (!c) H1) I h)
def ux(ta tb:TE):TE:=λσ H Q=>ta σ H λx H1=>∃c,x=.bl c/\if c=true then tb σ H1 Q else Q (.bl false) H1
def vG(ta tb:TE):TE:=λσ H Q=>ta σ H λx H1=>∃c,x=.bl c/\if c=true then Q (.bl true) H1 else tb σ H1 Q
theorem sJ{op}{t:TE}(h:PE X a t):PE X (.BoolOp op [a] pos) t:=λpins s σ H Q I hw=>BoolOp_one (h pins s σ H Q I hw)
theorem sP(ha:PE X a ta)(hb:PE X (.BoolOp .And (b::rest) pos) tb):PE X (.BoolOp .And (a::b::rest) pos) (ux ta tb):=by
 intro pins s σ H Q I h;refine BoolOp_and (thn (ha pins s σ H _ I h) λv s1 ⟨x,H1,I1,r1,q1⟩=>?_);obtain⟨c,rfl,q1⟩:=q1;cases r1;refine wN ?_;cases c with
 |true=>exact hb pins s1 σ H1 Q I1 q1
 |false=>exact⟨.bl false,H1,I1,rfl,q1⟩
theorem uP(ha:PE X a ta)(hb:PE X (.BoolOp .Or (b::rest) pos) tb):PE X (.BoolOp .Or (a::b::rest) pos) (vG ta tb):=by
 intro pins s σ H Q I h;refine BoolOp_or (thn (ha pins s σ H _ I h) λv s1 ⟨x,H1,I1,r1,q1⟩=>?_);obtain⟨c,rfl,q1⟩:=q1;cases r1;refine wN ?_;cases c with
 |false=>exact hb pins s1 σ H1 Q I1 q1
 |true=>exact⟨.bl true,H1,I1,rfl,q1⟩
end
def SqL(K:zb)(H:Hp)(a:Addr)(xs:List V):Prop:=
 Rd H a (.lst xs)\/
  ∃(o:Obj) (its:Array za) (n:Nat),K.lookup a=some o/\o.cls=.type "list"/\o.dict=none/\o.data=.seq its n/\its.size<=zt/\aL xs its.toList
def SqT(K:zb)(H:Hp)(a:Addr)(xs:List V):Prop:=
 Rd H a (.tup xs)\/
  ∃(o:Obj) (its:Array za) (n:Nat),K.lookup a=some o/\o.cls=.type "tuple"/\o.data=.seq its n/\its.size<=zt/\aL xs its.toList
def vp:za->Option V
 |.none=>some .non
 |.bool b=>some (.bl b)
 |.int i _=>some (.int i)
 |.str x _=>some (.str x)
 |.bytes b _=>some (.byt b)
 |.float b _=>some (.flt b)
 |.ref a=>some (.ref a)
 |.type n=>some (.ty n)
 |_=>none
theorem aN.abs{x:V}{u:za}(r:aN x u):vp u=some x:=by
 cases x with
 |non=>cases r;rfl
 |bl _=>cases r;rfl
 |int _=>obtain⟨t,rfl⟩:=r;rfl
 |str _=>obtain⟨t,rfl⟩:=r;rfl
 |byt _=>obtain⟨t,rfl⟩:=r;rfl
 |flt _=>obtain⟨t,rfl⟩:=r;rfl
 |ref _=>cases r;rfl
 |ty _=>cases r;rfl
theorem aN.inj{x y:V}{u:za}(r:aN x u)(q:aN y u):x=y:=Option.some.inj (r.abs.symm.trans q.abs)
theorem aL.inj:∀{xs ys:List V} {us:List za},aL xs us->aL ys us->xs=ys:=λ{xs ys us} h=>by
 induction h generalizing ys with
 |nil=>intro g;cases g;rfl
 |cons r t ih=>intro g;cases g with | cons r' t'=>rw[r.inj r',ih t']
section
variable{X:Cx}{pins:List (Addr×Obj)}{σ:St}{H:Hp}{s:zd}{a:Addr}{xs ys:List V}
theorem SqL.of{K:zb}(h:H a=some (.lst xs)):SqL K H a xs:=.inl (.inl h)
theorem SqT.of{K:zb}(h:H a=some (.tup xs)):SqT K H a xs:=.inl (.inl h)
theorem Inv.list(I:Inv X pins σ H s)(h:SqL X.K H a xs):∃its:List za,aL xs its/\PlainL s.heap a its.toArray/\xs.length<=zt:=by
 rcases h with h | ⟨o,its,n,hk,hc,hd,hs,hz,r⟩
 ·obtain⟨z,its,n,r,e⟩:=h.ok I.hok
  exact⟨its,r,⟨_,n,e,rfl,rfl,rfl⟩,z⟩
 ·refine⟨its.toList,r,⟨o,n,I.kIn a o hk,hc,hd,by simpa using hs⟩,?_⟩
  have e:=r.length;simp only[Array.length_toList] at e
  lia
theorem Inv.tuple(I:Inv X pins σ H s)(h:SqT X.K H a xs):∃its:List za,aL xs its/\IsTup s.heap a its.toArray/\xs.length<=zt:=by
 rcases h with h | ⟨o,its,n,hk,hc,hs,hz,r⟩
 ·obtain⟨z,its,r,p⟩:=h.ok I.hok
  exact⟨its,r,p,z⟩
 ·refine⟨its.toList,r,⟨o,I.kIn a o hk,hc,n,by simpa using hs⟩,?_⟩
  have e:=r.length;simp only[Array.length_toList] at e
  lia
theorem Inv.list_inj(I:Inv X pins σ H s)(h:SqL X.K H a xs)(h':SqL X.K H a ys):xs=ys:=by
 obtain⟨its,r,⟨o,n,e,_,_,d⟩,_⟩:=I.list h;obtain⟨its',r',⟨o',n',e',_,_,d'⟩,_⟩:=I.list h';rw[e] at e';cases e';rw[d] at d';injection d' with d1 _
 have:its=its':=by simpa using congrArg Array.toList d1
 subst this;exact r.inj r'
theorem Inv.tuple_inj(I:Inv X pins σ H s)(h:SqT X.K H a xs)(h':SqT X.K H a ys):xs=ys:=by
 obtain⟨its,r,⟨o,e,_,n,d⟩,_⟩:=I.tuple h;obtain⟨its',r',⟨o',e',_,n',d'⟩,_⟩:=I.tuple h';rw[e] at e';cases e';rw[d] at d';injection d' with d1 _
 have:its=its':=by simpa using congrArg Array.toList d1
 subst this;exact r.inj r'
end
abbrev Cx.wish(X:Cx)(E:za->zd->Prop):Cx:={ X with xe:=E }
abbrev Cx.nox(X:Cx):Cx:=X.wish λ_ _=>False
theorem Cx.Ok.wish{X:Cx}(ok:X.Ok)(E:za->zd->Prop):(X.wish E).Ok:=
 ⟨ok.mod,ok.kind,ok.glob,ok.blt,ok.above,ok.inj,ok.has,ok.cab,ok.hd,ok.frames,ok.stk,ok.exf,ok.bs,ok.bsz,ok.noex,ok.exfs,ok.funs,ok.frf⟩
theorem Cx.Ok.unwish{X:Cx}{E:za->zd->Prop}(ok:(X.wish E).Ok):X.Ok:=
 ⟨ok.mod,ok.kind,ok.glob,ok.blt,ok.above,ok.inj,ok.has,ok.cab,ok.hd,ok.frames,ok.stk,ok.exf,ok.bs,ok.bsz,ok.noex,ok.exfs,ok.funs,ok.frf⟩
section
variable{X:Cx}{pins:List (Addr×Obj)}{σ:St}{H:Hp}{s:zd}{E:za->zd->Prop}
theorem Inv.wish(I:Inv X pins σ H s)(E:za->zd->Prop):Inv (X.wish E) pins σ H s:=⟨I.ok.wish E,I.os,I.bare,I.base,I.loc,I.cell,I.free,I.freeC,I.pin,I.hok,I.len⟩
theorem Inv.unwish(I:Inv (X.wish E) pins σ H s):Inv X pins σ H s:=⟨I.ok.unwish,I.os,I.bare,I.base,I.loc,I.cell,I.free,I.freeC,I.pin,I.hok,I.len⟩
theorem SP.unwish{D:Ends}{f:Flow}{s':zd}(h:SP (X.wish E) pins D f s'):SP X pins D f s':=by
 cases f with
 |next=>obtain⟨σ',H',I,q⟩:=h;exact⟨σ',H',I.unwish,q⟩
 |brk=>obtain⟨σ',H',I,q⟩:=h;exact⟨σ',H',I.unwish,q⟩
 |cont=>obtain⟨σ',H',I,q⟩:=h;exact⟨σ',H',I.unwish,q⟩
 |ret u=>obtain⟨v,σ',H',I,r,q⟩:=h;exact⟨v,σ',H',I.unwish,r,q⟩
theorem PSs.nox{st:List Stmt}{t:TS}(h:PSs X.nox st t):PSs X st t:=λpins s σ H D I hw=>
 wz (h pins s σ H D (I.wish _) hw) (λ_ _ q=>q.unwish) λ_ _ z=>zW z
end
section
variable{X:Cx}{st:Stmt}{rest:List Stmt}{t u:TS}{e:Expr}{te:TE}{pos:Pos}
def uq:TS:=λD σ H=>D.nx σ H
def vt(t u:TS):TS:=λD σ H=>t { D with nx:=u D } σ H
theorem eW:PSs X [] uq:=λ_ _ σ H _ I h=>xB ⟨σ,H,I,h⟩
theorem aT(h1:PS X st t)(h2:PSs X rest u):PSs X (st::rest) (vt t u):=by
 intro pins s σ H D I h;refine zU (thn (h1 pins s σ H { D with nx:=u D } I h) λf s1 q=>?_);cases f with
 |next=>
  obtain⟨σ',H',I',q⟩:=q;exact h2 pins s1 σ' H' D I' q
 |ret v=>exact q
 |brk=>exact q
 |cont=>exact q
theorem bZ(h1:PS X st t):PSs X [st] t:=by
 intro pins s σ H D I h;refine zU (thn (h1 pins s σ H D I h) λf s1 q=>?_);cases f with
 |next=>exact xB q
 |ret v=>exact q
 |brk=>exact q
 |cont=>exact q
theorem Inv.quiet{pins:List (Addr×Obj)}{σ:St}{H:Hp}{s:zd}(I:Inv X pins σ H s):interactive X.env=false:=by simp[interactive,I.ok.kind]
def ua(te:TE):TS:=λD σ H=>te σ H λ_ H1=>D.nx σ H1
theorem dZ(he:PE X e te)(hs:xJ e none pos.line X.env=pure false:=by rfl):PS X (.Expr e pos) (ua te):=by
 intro pins s σ H D I h;exact wpAny_Expr_any (thn (he pins s σ H _ I h) λv s1 ⟨x,H1,I1,r1,q1⟩=>⟨σ,H1,I1,q1⟩) I.quiet hs
def vS(te:TE):TS:=λD σ H=>te σ H D.rt
theorem fw(he:PE X e te):PS X (.Return (some e) pos) (vS te):=by
 intro pins s σ H D I h;exact wpAny_Return_some (thn (he pins s σ H _ I h) λv s1 ⟨x,H1,I1,r1,q1⟩=>⟨x,σ,H1,I1,r1,q1⟩)
def vQ(c:TT)(t u:TS):TS:=λD σ H=>c σ H λb H1=>if b=true then t D σ H1 else u D σ H1
theorem ja{c:Expr}{a b:List Stmt}{tc:TT}(hc:PT X c tc)(ha:PSs X a t)(hb:PSs X b u):PS X (.If c a b pos) (vQ tc t u):=by
 intro pins s σ H D I h;refine wpAny_If (thn (hc pins s σ H _ I h) λd s1 ⟨H1,I1,q1⟩=>?_);cases d with
 |true=>exact ha pins s1 σ H1 D I1 q1
 |false=>exact hb pins s1 σ H1 D I1 q1
end
abbrev TG:=V->St->Hp->(St->Hp->Prop)->Prop
abbrev TGs:=List V->St->Hp->(St->Hp->Prop)->Prop
def PG(X:Cx)(target:Expr)(t:TG):Prop:=
 ∀(pins:List (Addr×Obj)) (s:zd) (σ:St) (H:Hp) (v:V) (u:za) (Q:St->Hp->Prop),Inv X pins σ H s->aN v u->t v σ H Q->
  zf (zg X.prog X.w) X.A (assign target X.env u) (λ_ s'=>∃σ' H',Inv X pins σ' H' s'/\Q σ' H') X.xe s
def PGs(X:Cx)(ts:List Expr)(t:TGs):Prop:=
 ∀(pins:List (Addr×Obj)) (s:zd) (σ:St) (H:Hp) (vs:List V) (us:List za) (Q:St->Hp->Prop),Inv X pins σ H s->aL vs us->t vs σ H Q->
  zf (zg X.prog X.w) X.A (assignInOrder ((zZ ts X.env).map (·.2)) us) (λ_ s'=>∃σ' H',Inv X pins σ' H' s'/\Q σ' H') X.xe s
abbrev sL:=V->V->V->Hp->(Hp->Prop)->Prop
def uX(X:Cx)(t:sL):Prop:=
 ∀(pins:List (Addr×Obj)) (s:zd) (σ:St) (H:Hp) (o i v:V) (ov iv u:za) (Q:Hp->Prop),Inv X pins σ H s->aN o ov->aN i iv->aN v u->t o i v H Q->
  zf (zg X.prog X.w) X.A (setItem ov iv u) (λ_ s'=>∃H',Inv X pins σ H' s'/\Q H') X.xe s
section
variable{X:Cx}{pos:Pos}
def rN(i:Nat):TG:=λv σ H Q=>Q (σ.set i (some v)) H
theorem jY{i:Nat}{x:Str}(hN:X.N.Nodup)(hi:X.N[i]?=some x)(hx:Loc X.env.scope x)(hf:X.fn x=true\/X.env.scope.names.lookup x=some .local:=by first | exact .inl rfl | exact .inr rfl | assumption):PG X (.Name x pos) (rN i):=by
 intro pins s σ H v u Q I r h;exact wpAny_assign_Name (fU I hN hi hx r (λs' I'=>⟨_,H,I',h⟩) hf)
def vM:TGs:=λvs σ H Q=>vs=[]/\Q σ H
def ve(t:TG)(u:TGs):TGs:=λvs σ H Q=>∃v r,vs=v::r/\t v σ H λσ' H'=>u r σ' H' Q
theorem qF:PGs X [] vM:=by
 intro pins s σ H vs us Q I r h;obtain⟨e,h⟩:=h;subst e;cases r;exact assignInOrder_nil ⟨σ,H,I,h⟩
theorem oW{e:Expr}{es:List Expr}{t:TG}{u:TGs}(h1:PG X e t)(h2:PGs X es u)
  (hs:(zZ (e::es) X.env).map (·.2)=assign e X.env::(zZ es X.env).map (·.2):=by rfl):PGs X (e::es) (ve t u):=by
 intro pins s σ H vs us Q I r h;obtain⟨v,vr,e1,h⟩:=h;subst e1;cases r with
 |cons r rr=>
  rw[hs];refine assignInOrder_cons (thn (h1 pins s σ H _ _ _ I r h) λ_ s1 ⟨σ1,H1,I1,q1⟩=>?_);exact h2 pins s1 σ1 H1 _ _ Q I1 rr q1
def vi(K:zb)(n:Nat)(t:TGs):TG:=λv σ H Q=>∃a xs,v=.ref a/\SqT K H a xs/\xs.length=n/\t xs σ H Q
theorem pO{es:List Expr}{k:Nat}{t:TGs}{n:Nat}(hc:X.calm=true)(h:PGs X es t)
  (hn:(zZ es X.env).length=n:=by rfl) (hst:(zZ es X.env).findIdx? (·.1)=none:=by rfl):PG X (.Tuple es k pos) (vi X.K n t):=by
 intro pins s σ H v u Q I r hw;obtain⟨a,xs,e1,hq,hl,hw⟩:=hw;subst e1;cases r;obtain⟨its,rv,ht,hz⟩:=I.tuple hq;refine assign_Tuple_tuple (I.ok.hd hc) ht (by simp[hn,<-hl,rv.length]) hst λh' hx=>?_;have I1:Inv X pins σ H { s with heap:=h' }:=I.kept (t':=s.toks) λb o e=>hx b o (zC (zh e)) e;exact h pins _ σ H xs _ Q I1 (by simpa using rv) hw
def vv(to ti:TE)(t:sL):TG:=λv σ H Q=>to σ H λo H1=>ti σ H1 λi H2=>t o i v H2 λH3=>Q σ H3
theorem so{o i:Expr}{to ti:TE}{t:sL}(ho:PE X o to)(hi:PE X i ti)(hs:uX X t)
  (ha:∀v,assign (.Subscript o i pos) X.env v=(do
   let ov<-holding [v] (eval o X.env);let iv<-holding [v,ov] (eval i X.env)
   standAt pos
   holding [v,ov,iv] (setItem ov iv v)
   release [v,ov,iv] []):=by intro _;rfl):PG X (.Subscript o i pos) (vv to ti t):=by
 intro pins s σ H v u Q I r h;rw[ha];refine zc (v9 (thn (ho pins s σ H _ I h) λov s1 ⟨x,H1,I1,r1,q1⟩=>?_));refine zc (v9 (thn (hi pins s1 σ H1 _ I1 q1) λiv s2 ⟨y,H2,I2,r2,q2⟩=>?_));refine zc (wpAny_standAt (zc (v9 (thn (hs pins s2 σ H2 x y v ov iv u _ I2 r1 r2 r q2) λ_ s3 ⟨H3,I3,q3⟩=>?_))));exact wpAny_release ⟨σ,H3,I3,q3⟩
def uc(te:TE)(g:TG):TS:=λD σ H=>te σ H λx H1=>g x σ H1 D.nx
theorem oH{tg e:Expr}{te:TE}{g:TG}(he:PE X e te)(hg:PG X tg g)(hs:swapsWithSole [tg] e pos.line X.env=pure false:=by rfl)(hw:swappedStores [tg] e X.env=pure none:=by rfl)
  (h1:(zZ [tg] X.env).map (·.2)=[assign tg X.env]:=by rfl):PS X (.Assign [tg] e pos) (uc te g):=by
 intro pins s σ H D I h;refine wpAny_Assign_stores (thn (he pins s σ H _ I h) λv s1 ⟨x,H1,I1,r1,q1⟩=>?_) hs hw;rw[h1];exact thn (hg pins s1 σ H1 x v _ I1 r1 q1) λ_ s2 q=>q
theorem dU{i:Nat}{x:Str}{e:Expr}{te:TE}{pos':Pos}(hN:X.N.Nodup)(hi:X.N[i]?=some x)(hx:Loc X.env.scope x)(he:PE X e te)(hs:xJ e (some (.Name x pos')) pos.line X.env=pure false:=by rfl)(hf:X.fn x=true\/X.env.scope.names.lookup x=some .local:=by first | exact .inl rfl | exact .inr rfl | assumption) :
  PS X (.Assign [.Name x pos'] e pos) (uc te (rN i)):=by
 intro pins s σ H D I h;refine wpAny_Assign_Name (thn (he pins s σ H _ I h) λv s1 ⟨y,H1,I1,r1,q1⟩=>?_) hs;exact fU I1 hN hi hx r1 (λs2 I2=>⟨_,H1,I2,q1⟩) hf
end
structure It where
 go:Nat->Hp->Prop
 yld:Nat->Hp->V->Hp->Prop
 stop:Nat->Hp->Prop
def gq(X:Cx)(pins:List (Addr×Obj))(H:Hp)(b:Addr):Prop:=
 H b=none/\b≠X.env.locals/\b∉X.fs/\(b∈X.ex\/X.s₀.heap.objs.size<=b)/\(∀x c,X.env.cells.lookup x=some c->c≠b)/\∀p∈X.pn++pins,p.1≠b
theorem Inv.fpOk{X:Cx}{pins:List (Addr×Obj)}{σ:St}{H H':Hp}{s:zd}{b:Addr}(I:Inv X pins σ H s)(hb:s.heap.objs.size<=b)(hn:H' b=none):gq X pins H' b:=by
 refine⟨hn,Nat.ne_of_gt (zx I.lt hb),I.nofs hb,.inr (zO I.sz hb),λx c e z=>?_,λp hp z=>?_⟩
 ·obtain⟨v,q⟩:=I.cell x c e
  exact absurd (zx q.lt (by rw[z];exact hb)) (wx _)
 ·exact absurd (zx (zh (I.pin p hp).1) (by rw[z];exact hb)) (wx _)
structure Turn(P:zv)(w:zA)(K:zb)(tg:Expr)(J:It)(fp:List Addr)(it:Addr)(tn:Nat->Heap->Prop):Prop where
 mem:it∈fp
 obj:∀i h,tn i h->∀b∈fp,∃o,h.get? b=some o/\∀v,o.data≠.cell v
 keep:∀i h h',tn i h->(∀b∈fp,∀o,h.get? b=some o->h'.get? b=some o)->tn i h'
 item:∀(X:Cx),X.prog=P->X.w=w->X.K=K->X.calm=true->∀(i:Nat) (pins:List (Addr×Obj)) (s:zd) (σ:St) (H:Hp) (E:za->zd->Prop),Inv X pins σ H s->(∀b∈fp,gq X pins H b)->tn i s.heap->J.go i H->
  zf (zg P w) X.A (pyNext (.ref it)) (λr s1=>∃u,r=some u/\
   zf (zg P w) X.A (letOwnedTupleGo tg (.ref it) u) (λ_ s2=>∃x H',Inv X pins σ H' s2/\aN x u/\J.yld i H x H'/\tn (i+1) s2.heap/\∀b∈fp,H' b=none) E s1) E s
 done:∀(X:Cx),X.prog=P->X.w=w->X.K=K->X.calm=true->∀(i:Nat) (pins:List (Addr×Obj)) (s:zd) (σ:St) (H:Hp) (E:za->zd->Prop),Inv X pins σ H s->(∀b∈fp,gq X pins H b)->tn i s.heap->J.stop i H->
  zf (zg P w) X.A (pyNext (.ref it)) (λr s1=>r=none/\Inv X pins σ H s1) E s
 self:∀(A:zD) (i:Nat) (s:zd) (Q:za->zd->Prop) (E:za->zd->Prop),tn i s.heap->Q (.ref it) s->zf (zg P w) A (pyIter (.ref it)) Q E s
abbrev TI:=St->Hp->(It->Hp->Prop)->Prop
def PIE(X:Cx)(pins:List (Addr×Obj))(σ:St)(tg:Expr)(R:It->Hp->Prop)(itv:za)(s2:zd):Prop:=
 ∃(it:Addr) (fp:List Addr) (tn:Nat->Heap->Prop) (J:It) (H':Hp),itv=.ref it/\Inv X pins σ H' s2/\Turn X.prog X.w X.K tg J fp it tn/\tn 0 s2.heap/\(∀b∈fp,gq X pins H' b)/\R J H'
def PI(X:Cx)(tg iter:Expr)(wi:TI):Prop:=
 ∀(pins:List (Addr×Obj)) (s:zd) (σ:St) (H:Hp) (R:It->Hp->Prop),Inv X pins σ H s->wi σ H R->
  zf (zg X.prog X.w) X.A (eval iter X.env) (λv s1=>zf (zg X.prog X.w) X.A (pyIter v) (PIE X pins σ tg R) X.xe s1) X.xe s
theorem oh{M:Model}{A:zD}{E:za->zd->Prop}{s:zd}{tg:Expr}{it:Addr}{u:za}{o:Obj}{n:String}{vs:Array za}{Q:Unit->zd->Prop}(ho:s.heap.get? it=some o)(hc:o.cls=.type n)(hd:o.data=.fields vs)
  (hn:["enumerate","zip","dict_itemiterator","dict_reverseitemiterator","odict_iterator","itertools.zip_longest","itertools.pairwise"].contains n=false) (hQ:Q () s):zf M A (letOwnedTupleGo tg (.ref it) u) Q E s:=by
 unfold letOwnedTupleGo
 cases tg<;>first
  |exact zi hQ
  |(cases u<;>first
    |exact zi hQ
    |(refine zc (wpAny_load ho ?_)
      rw[hc,hd];show zf M A (if(["enumerate","zip","dict_itemiterator","dict_reverseitemiterator","odict_iterator","itertools.zip_longest","itertools.pairwise"].contains n&&vs[0]?==some (rawInt _))=true then _ else _) Q E s;rw[if_neg (by intro h;rw[hn,Bool.false_and] at h;cases h)]
      exact zi hQ))
def Itl(K:zb)(a:Addr):It:=
 ⟨λi H=>∃xs x,SqL K H a xs/\xs[i]?=some x,λi H x H'=>H'=H/\∀xs,SqL K H a xs->xs[i]?=some x,λi H=>∃xs,SqL K H a xs/\xs.length<=i⟩
def Itt(K:zb)(a:Addr):It:=
 ⟨λi H=>∃xs x,SqT K H a xs/\xs[i]?=some x,λi H x H'=>H'=H/\∀xs,SqT K H a xs->xs[i]?=some x,λi H=>∃xs,SqT K H a xs/\xs.length<=i⟩
def Itr(lo:Int)(n:Nat):It:=⟨λi _=>i<n,λi H x H'=>H'=H/\x=.int (lo+i),λi _=>n<=i⟩
theorem nB{P:zv}{w:zA}{K:zb}{tg:Expr}(a it:Addr):Turn P w K tg (Itl K a) [it] it (λi h=>h.IsListIter it a i) where
 mem:=by simp
 obj:=λi h st b hb=>by
  have e:b=it:=by simpa using hb
  subst e;obtain⟨o,e,c,d⟩:=st;exact⟨o,e,λv z=>by rw[d] at z;cases z⟩
 keep:=λi h h' st k=>st.at λo e=>k it (by simp) o e
 item:=by
  intro X hP hw hK hc i pins s σ H E I hf st hg;subst hP hw hK;obtain⟨xs,x,hq,hx⟩:=hg;obtain⟨its,rv,p,hz⟩:=I.list hq;obtain⟨u,hu,ru⟩:=rv.get hx;obtain⟨f0,f1,f2,f3,f4,f5⟩:=hf it (by simp);refine wpAny_pyNext_list_item st p.isList (x:=u) (by simpa using hu) λh' st' sb=>?_;have I1:Inv X pins σ H { s with heap:=h' }:=I.turned (t':=s.toks) (λb o hb e=>(sb.2 b hb).trans e) f0 f1 f3 f4 f5;obtain⟨o,e,c,d⟩:=id st';exact⟨u,rfl,oh (s:={ s with heap:=h' }) e c d (by decide) ⟨x,H,I1,ru,⟨rfl,λys hy=>by rw[I.list_inj hy hq];exact hx⟩,st',λb hb=>(hf b hb).1⟩⟩
 done:=by
  intro X hP hw hK hc i pins s σ H E I hf st hg;subst hP hw hK;obtain⟨xs,hq,hx⟩:=hg;obtain⟨its,rv,p,hz⟩:=I.list hq;obtain⟨f0,f1,f2,f3,f4,f5⟩:=hf it (by simp);have hl:=rv.length;exact wpAny_pyNext_list_end (I.ok.hd hc) st p.isList (by simp;lia) λh' eb=>⟨rfl,I.turned (t':=s.toks) (λb o hb e=>eb b o hb e) f0 f1 f3 f4 f5⟩
 self:=λ_ _ _ _ _ st h=>wpAny_pyIter_listiter st h
theorem kQ{P:zv}{w:zA}{K:zb}{tg:Expr}(a it:Addr):Turn P w K tg (Itt K a) [it] it (λi h=>h.IsTupleIter it a i) where
 mem:=by simp
 obj:=λi h st b hb=>by
  have e:b=it:=by simpa using hb
  subst e;obtain⟨o,e,c,d⟩:=st;exact⟨o,e,λv z=>by rw[d] at z;cases z⟩
 keep:=λi h h' st k=>st.at λo e=>k it (by simp) o e
 item:=by
  intro X hP hw hK hc i pins s σ H E I hf st hg;subst hP hw hK;obtain⟨xs,x,hq,hx⟩:=hg;obtain⟨its,rv,p,hz⟩:=I.tuple hq;obtain⟨u,hu,ru⟩:=rv.get hx;obtain⟨f0,f1,f2,f3,f4,f5⟩:=hf it (by simp);refine wpAny_pyNext_tuple_item st (show s.heap.IsTuple a its.toArray from p) (x:=u) (by simpa using hu) λh' st' sb=>?_;have I1:Inv X pins σ H { s with heap:=h' }:=I.turned (t':=s.toks) (λb o hb e=>(sb.2 b hb).trans e) f0 f1 f3 f4 f5;obtain⟨o,e,c,d⟩:=id st';exact⟨u,rfl,oh (s:={ s with heap:=h' }) e c d (by decide) ⟨x,H,I1,ru,⟨rfl,λys hy=>by rw[I.tuple_inj hy hq];exact hx⟩,st',λb hb=>(hf b hb).1⟩⟩
 done:=by
  intro X hP hw hK hc i pins s σ H E I hf st hg;subst hP hw hK;obtain⟨xs,hq,hx⟩:=hg;obtain⟨its,rv,p,hz⟩:=I.tuple hq;obtain⟨f0,f1,f2,f3,f4,f5⟩:=hf it (by simp);have hl:=rv.length;exact wpAny_pyNext_tuple_end (I.ok.hd hc) st (show s.heap.IsTuple a its.toArray from p) (by simp;lia) λh' eb=>⟨rfl,I.turned (t':=s.toks) (λb o hb e=>eb b o hb e) f0 f1 f3 f4 f5⟩
 self:=λ_ _ _ _ _ st h=>wpAny_pyIter_tupleiter st h
theorem lB{P:zv}{w:zA}{K:zb}{tg:Expr}(it:Addr)(lo:Int)(n:Nat):Turn P w K tg (Itr lo n) [it] it (λi h=>IsRangeIter h it (lo+(i:Nat)*1) ((n:Int)-(i:Nat)) 1) where
 mem:=by simp
 obj:=λi h st b hb=>by
  have e:b=it:=by simpa using hb
  subst e
  exact⟨_,st,λv z=>by
   have z':Data.fields _=Data.cell v:=z
   cases z'⟩
 keep:=λi h h' st k=>k it (by simp) _ st
 item:=by
  intro X hP hw hK hc i pins s σ H E I hf st hg;subst hP hw hK;obtain⟨f0,f1,f2,f3,f4,f5⟩:=hf it (by simp);have W:=Walks.range (prog:=X.prog) (w:=X.w) (I.ok.hd hc) it lo 1 n;refine W.item i s _ _ hg st λv h' tk hv st' kk=>?_;obtain⟨t,rfl⟩:=hv;have I1:Inv X pins σ H { s with heap:=h',toks:=tk }:=I.turned (λb o hb e=>kk b o (by simpa using hb) e) f0 f1 f3 f4 f5;refine⟨_,rfl,oh (s:={ s with heap:=h',toks:=tk }) (n:="range_iterator") st' rfl rfl (by decide) ⟨.int (lo+i),H,I1,⟨t,?_⟩,⟨rfl,rfl⟩,st',λb hb=>(hf b hb).1⟩⟩;rw[Int.mul_one]
 done:=by
  intro X hP hw hK hc i pins s σ H E I hf st hg;subst hP hw hK;obtain⟨f0,f1,f2,f3,f4,f5⟩:=hf it (by simp);exact wpAny_pyNext_range_end (I.ok.hd hc) st (by have:n<=i:=hg;lia) λh' eb=>⟨rfl,I.turned (t':=s.toks) (λb o hb e=>eb b o hb e) f0 f1 f3 f4 f5⟩
 self:=λ_ _ _ _ _ st h=>wpAny_pyIter_rangeiter st h
section
variable{X:Cx}{tg:Expr}
def t9(K:zb)(tl:TE):TI:=λσ H R=>tl σ H λx H1=>∃a,x=.ref a/\(∃xs,SqL K H1 a xs)/\R (Itl K a) H1
def vE(K:zb)(tl:TE):TI:=λσ H R=>tl σ H λx H1=>∃a,x=.ref a/\(∃xs,SqT K H1 a xs)/\R (Itt K a) H1
theorem l9{l:Expr}{tl:TE}(hl:PE X l tl):PI X tg l (t9 X.K tl):=by
 intro pins s σ H R I h;refine thn (hl pins s σ H _ I h) λv s1 ⟨x,H1,I1,r1,q1⟩=>?_;obtain⟨a,e,⟨xs,hq⟩,q⟩:=q1;subst e;cases r1;obtain⟨its,rv,p,hz⟩:=I1.list hq;refine wpAny_pyIter_list p.isList ?_;refine⟨s1.heap.objs.size,[s1.heap.objs.size],_,_,H1,rfl,I1.kept (t':=s1.toks) λb o e=>ze _ e,nB a _,⟨_,zr _ rfl,rfl,rfl⟩,λb hb=>?_,q⟩;have e:b=s1.heap.objs.size:=by simpa using hb
 subst e;exact I1.fpOk (zp _) (I1.hok.fresh (zp _))
theorem sf{l:Expr}{tl:TE}(hl:PE X l tl):PI X tg l (vE X.K tl):=by
 intro pins s σ H R I h;refine thn (hl pins s σ H _ I h) λv s1 ⟨x,H1,I1,r1,q1⟩=>?_;obtain⟨a,e,⟨xs,hq⟩,q⟩:=q1;subst e;cases r1;obtain⟨its,rv,p,hz⟩:=I1.tuple hq;refine wpAny_pyIter_tuple (show s1.heap.IsTuple a its.toArray from p) ?_;refine⟨s1.heap.objs.size,[s1.heap.objs.size],_,_,H1,rfl,I1.kept (t':=s1.toks) λb o e=>ze _ e,kQ a _,⟨_,zr _ rfl,rfl,rfl⟩,λb hb=>?_,q⟩;have e:b=s1.heap.objs.size:=by simpa using hb
 subst e;exact I1.fpOk (zp _) (I1.hok.fresh (zp _))
theorem o9{pins:List (Addr×Obj)}{σ:St}{H:Hp}{s:zd}{R:It->Hp->Prop}{E:za->zd->Prop}{lo hi:Int}{t u v:Tok}{tk:Nat}(I:Inv X pins σ H s)(h1:-(2 ^ 62)<=lo)(h2:lo<2 ^ 62)(h3:-(2 ^ 62)<=hi)(h4:hi<2 ^ 62)
  (q:R (Itr lo (hi-lo).toNat) H):zf (zg X.prog X.w) X.A (pyIter (.ref s.heap.objs.size)) (PIE X pins σ tg R) E { s with heap:=s.heap.push { cls:=.type "range",data:=.fields #[.int lo t,.int hi u,.int 1 v] },toks:=tk }:=by
 refine wpAny_pyIter_range (IsRange.new ..) (small_one h1 h2 h3 h4) ?_;have I1:Inv X pins σ H { s with heap:=s.heap.push { cls:=.type "range",data:=.fields #[.int lo t,.int hi u,.int 1 v] },toks:=tk }:=I.kept λb o e=>ze _ e
 refine⟨(s.heap.push { cls:=.type "range",data:=.fields #[.int lo t,.int hi u,.int 1 v] }).objs.size,[(s.heap.push { cls:=.type "range",data:=.fields #[.int lo t,.int hi u,.int 1 v] }).objs.size],_,_,H,rfl,
  I1.kept (t':=tk) λb o e=>ze _ e,lB _ lo (hi-lo).toNat,?_,λb hb=>?_,q⟩
 ·have e1:lo+((0:Nat):Int)*1=lo:=by simp
  have e2:(((hi-lo).toNat:Nat):Int)-((0:Nat):Int)=Builtin.Range.rangeSize lo hi 1:=by rw[rangeSize_one];split<;>lia
  show IsRangeIter _ _ (lo+((0:Nat):Int)*1) ((((hi-lo).toNat:Nat):Int)-((0:Nat):Int)) 1;rw[e1,e2];exact zr _ rfl
 ·have e:b=(s.heap.push { cls:=.type "range",data:=.fields #[.int lo t,.int hi u,.int 1 v] }).objs.size:=by simpa using hb
  subst e;exact I1.fpOk (zp _) (I1.hok.fresh (zp _))
def uk(ta:TA):TI:=λσ H R=>ta σ H λvs H1=>∃j:Int,vs=[.int j]/\-(2 ^ 62)<=j/\j<2 ^ 62/\R (Itr 0 j.toNat) H1
theorem jf{a:Expr}{ta:TA}{p pos:Pos}(hg:Gl X "range")(hm:X.mg "range" = none)(ha:PA X [a] ta)(hs:zj [a] X.env=[(false,eval a X.env)]:=by rfl):PI X tg (.Call (.Name "range" p) [a] [] pos) (uk ta):=by
 intro pins s σ H R I h;refine Call_ (gC I hg hm boot_range (w8 (thn (ha pos pins s σ H _ I h) λus s1 ⟨vs,H1,I1,r1,q1⟩=>?_) hs rfl));obtain⟨j,e,q1,q2,q⟩:=q1;subst e;cases r1 with
 |cons r rr=>
  cases rr;obtain⟨t,rfl⟩:=r;exact call_range_1 (o9 I1 (by lia) (by lia) q1 q2 (by simpa using q))
def vR(wi:TI)(g:TG)(tb:TS):TS:=λD σ H=>wi σ H λJ H1=>∃W:Nat->Nat->St->Hp->Prop,(∃m,W 0 m σ H1)/\∀i m σ H,W i m σ H->
 (J.stop i H/\D.nx σ H)\/(J.go i H/\∃N:St->Hp->Prop,(∀σ' H',N σ' H'->∃m',m'<m/\W (i+1) m' σ' H')/\∀x H',J.yld i H x H'->g x σ H' λσ2 H2=>tb { D with nx:=N,ct:=N,bk:=D.nx } σ2 H2)
def iU(fp:List Addr)(h:Heap):List (Addr×Obj):=fp.filterMap λb=>(h.get? b).map λo=>(b,o)
theorem dS{fp:List Addr}{h:Heap}{b:Addr}{o:Obj}(hb:b∈fp)(e:h.get? b=some o):(b,o)∈iU fp h:=List.mem_filterMap.mpr ⟨b,hb,by rw[e];rfl⟩
theorem mY{fp:List Addr}{h:Heap}{p:Addr×Obj}(hp:p∈iU fp h):p.1∈fp/\h.get? p.1=some p.2:=by
 obtain⟨b,hb,e⟩:=List.mem_filterMap.mp hp;cases q:h.get? b with
 |none=>rw[q] at e;cases e
 |some o=>
  rw[q] at e;have e':(b,o)=p:=Option.some.inj e;subst e';exact⟨hb,q⟩
theorem Inv.pinned{pins:List (Addr×Obj)}{σ:St}{H:Hp}{s:zd}{fp:List Addr}(I:Inv X pins σ H s)(hf:∀b∈fp,gq X pins H b)(ho:∀b∈fp,∃o,s.heap.get? b=some o/\∀v,o.data≠.cell v):Inv X (pins++iU fp s.heap) σ H s:=
 I.pins_of λp hp=>(wL.mp hp).elim (λz=>I.pin p (zw _ z)) λz=>by
  obtain⟨hb,e⟩:=mY z;obtain⟨f0,f1,f2,_⟩:=hf p.1 hb;obtain⟨o,e',d⟩:=ho p.1 hb;rw[e] at e';cases e';exact⟨e,f0,f1,f2,d⟩
theorem Inv.unpinned{pins pl:List (Addr×Obj)}{σ:St}{H:Hp}{s:zd}(I:Inv X (pins++pl) σ H s):Inv X pins σ H s:=I.pins_of λp hp=>I.pin p (zw _ (wM _ hp))
theorem kL{iter:Expr}{body:List Stmt}{wi:TI}{g:TG}{tb:TS}{pos:Pos}(hp:PassesOwn (zg X.prog X.w) X.A X.env X.xe)(hc:X.calm=true)(hi:PI X tg iter wi)(hg:PG X tg g)(hb:PSs X body tb)
  (hs:∀x,xE iter X.env x=pure x:=by intro _;rfl):PS X (.For tg iter body [] pos) (vR wi g tb):=by
 intro pins s σ H D I h;refine wpAny_For (thn (hi pins s σ H _ I h) λv s1 h1=>thn h1 λitv s2 h2=>?_) hs;obtain⟨it,fp,tn,J,H2,e,I2,T,st2,f2,W,⟨m0,w0⟩,turn⟩:=h2;subst e;have stat:∀{H':Hp},(∀b∈fp,H' b=none)->∀b∈fp,gq X pins H' b:=λhn b hb=>⟨hn b hb,(f2 b hb).2⟩;refine codeAny_forLoop_any (λn s'=>∃i σ' H',Inv X pins σ' H' s'/\tn i s'.heap/\(∀b∈fp,H' b=none)/\W i n σ' H') ?_ m0 ⟨0,σ,H2,I2,st2,λb hb=>(f2 b hb).1,w0⟩;rintro n s3 ⟨i,σ3,H3,I3,st3,fr3,w3⟩;rcases turn i n σ3 H3 w3 with⟨stop,qn⟩ | ⟨go,N,hN,step⟩
 ·refine xS hp (thn (T.done X rfl rfl rfl hc i pins s3 σ3 H3 X.xe I3 (stat fr3) st3 stop) λr s4 ⟨hr,I4⟩=>?_)
  subst hr;exact xB ⟨σ3,H3,I4,qn⟩
 ·refine xS hp (thn (T.item X rfl rfl rfl hc i pins s3 σ3 H3 X.xe I3 (stat fr3) st3 go) λr s4 ⟨u,hr,h4⟩=>?_)
  subst hr;refine xS hp (thn h4 λ_ s5 ⟨x,H5,I5,r5,y5,st5,fr5⟩=>?_);have I5':=I5.pinned (stat fr5) (T.obj _ _ st5);refine xS hp (thn (hg _ s5 σ3 H5 x u _ I5' r5 (step x H5 y5)) λ_ s6 ⟨σ6,H6,I6,q6⟩=>?_);refine xS hp (thn (hb _ s6 σ6 H6 _ I6 q6) λf s7 q7=>?_)
  have again:∀{σ7:St} {H7:Hp},Inv X (pins++iU fp s5.heap) σ7 H7 s7->N σ7 H7->∃m,m<n/\∃i σ' H',Inv X pins σ' H' s7/\tn i s7.heap/\(∀b∈fp,H' b=none)/\W i m σ' H':=λ{σ7 H7} I7 n7=>by
   obtain⟨m',hm,w7⟩:=hN σ7 H7 n7;refine⟨m',hm,i+1,σ7,H7,I7.unpinned,T.keep _ _ _ st5 λb hb o e=>(I7.pin (b,o) (zw _ (zw _ (dS hb e)))).1,λb hb=>?_,w7⟩;obtain⟨o,e,d⟩:=T.obj _ _ st5 b hb;exact(I7.pin (b,o) (zw _ (zw _ (dS hb e)))).2.1
  cases f with
  |next=>obtain⟨σ7,H7,I7,n7⟩:=q7;exact again I7 n7
  |cont=>obtain⟨σ7,H7,I7,n7⟩:=q7;exact again I7 n7
  |brk=>obtain⟨σ7,H7,I7,q7⟩:=q7;exact⟨σ7,H7,I7.unpinned,q7⟩
  |ret v=>obtain⟨x7,σ7,H7,I7,r7,q7⟩:=q7;exact⟨x7,σ7,H7,I7.unpinned,r7,q7⟩
end
theorem qM{K:zb}{a:Addr}{xs:List V}{g:TG}{tb:TS}{D:Ends}{σ:St}{H:Hp}(Pv:Nat->St->Hp->Prop)(h0:Pv 0 σ H)(hl:∀i σ H,i<=xs.length->Pv i σ H->SqT K H a xs)
  (hs:∀i x σ H,xs[i]?=some x->Pv i σ H->g x σ H λσ2 H2=>tb { D with nx:=Pv (i+1),ct:=Pv (i+1),bk:=D.nx } σ2 H2) (hd:∀σ H,Pv xs.length σ H->D.nx σ H) :
  ∃W:Nat->Nat->St->Hp->Prop,(∃m,W 0 m σ H)/\∀i m σ H,W i m σ H->
   ((Itt K a).stop i H/\D.nx σ H)\/((Itt K a).go i H/\∃N:St->Hp->Prop,(∀σ' H',N σ' H'->∃m',m'<m/\W (i+1) m' σ' H')/\∀x H',(Itt K a).yld i H x H'->g x σ H' λσ2 H2=>tb { D with nx:=N,ct:=N,bk:=D.nx } σ2 H2):=by
 refine⟨λi m σ H=>m=xs.length-i/\i<=xs.length/\Pv i σ H,⟨xs.length,by simp,zE _,h0⟩,?_⟩;rintro i m σ H ⟨rfl,hi,p⟩;have q:=hl i σ H hi p
 by_cases hlt:i<xs.length
 ·refine .inr ⟨⟨xs,xs[i],q,by simp[hlt]⟩,Pv (i+1),λσ' H' p'=>⟨xs.length-(i+1),by lia,rfl,hlt,p'⟩,λx H' y=>?_⟩
  obtain⟨e,y⟩:=y;subst e;exact hs i x σ _ (y xs q) p
 ·have e:i=xs.length:=by lia
  subst e;exact .inl ⟨⟨xs,q,zp _⟩,hd σ H p⟩
theorem nu{lo:Int}{n:Nat}{g:TG}{tb:TS}{D:Ends}{σ:St}{H:Hp}(Pv:Nat->St->Hp->Prop)(h0:Pv 0 σ H)
  (hs:∀i σ H,i<n->Pv i σ H->g (.int (lo+i)) σ H λσ2 H2=>tb { D with nx:=Pv (i+1),ct:=Pv (i+1),bk:=D.nx } σ2 H2) (hd:∀σ H,Pv n σ H->D.nx σ H) :
  ∃W:Nat->Nat->St->Hp->Prop,(∃m,W 0 m σ H)/\∀i m σ H,W i m σ H->
   ((Itr lo n).stop i H/\D.nx σ H)\/((Itr lo n).go i H/\∃N:St->Hp->Prop,(∀σ' H',N σ' H'->∃m',m'<m/\W (i+1) m' σ' H')/\∀x H',(Itr lo n).yld i H x H'->g x σ H' λσ2 H2=>tb { D with nx:=N,ct:=N,bk:=D.nx } σ2 H2):=by
 refine⟨λi m σ H=>m=n-i/\i<=n/\Pv i σ H,⟨n,by simp,zE _,h0⟩,?_⟩;rintro i m σ H ⟨rfl,hi,p⟩
 by_cases hlt:i<n
 ·refine .inr ⟨hlt,Pv (i+1),λσ' H' p'=>⟨n-(i+1),by lia,rfl,hlt,p'⟩,λx H' y=>?_⟩
  obtain⟨e,y⟩:=y;subst e y;exact hs i σ _ hlt p
 ·have e:i=n:=by lia
  subst e;exact .inl ⟨zp _,hd σ H p⟩
abbrev R2:=V->V->Hp->VK->Prop
def OpR(X:Cx)(f:za->za->Sem za)(r:R2):Prop:=
 ∀(pins:List (Addr×Obj)) (s:zd) (σ:St) (H:Hp) (x y:V) (v u:za) (Q:VK),Inv X pins σ H s->aN x v->aN y u->r x y H Q->
  zf (zg X.prog X.w) X.A (f v u) (EP X pins σ Q) X.xe s
def UnR(X:Cx)(f:za->Sem za)(r:V->Hp->VK->Prop):Prop:=
 ∀(pins:List (Addr×Obj)) (s:zd) (σ:St) (H:Hp) (x:V) (v:za) (Q:VK),Inv X pins σ H s->aN x v->r x H Q->
  zf (zg X.prog X.w) X.A (f v) (EP X pins σ Q) X.xe s
def fq(X:Cx)(f:za)(r:List V->Hp->VK->Prop):Prop:=
 ∀(pins:List (Addr×Obj)) (s:zd) (σ:St) (H:Hp) (xs:List V) (us:List za) (Q:VK),Inv X pins σ H s->aL xs us->r xs H Q->
  zf (zg X.prog X.w) X.A (call f us) (EP X pins σ Q) X.xe s
def vJ(X:Cx)(r:V->Hp->(Bool->Hp->Prop)->Prop):Prop:=
 ∀(pins:List (Addr×Obj)) (s:zd) (σ:St) (H:Hp) (x:V) (v:za) (Q:Bool->Hp->Prop),Inv X pins σ H s->aN x v->r x H Q->
  zf (zg X.prog X.w) X.A (truthy v) (TP X pins σ Q) X.xe s
def tOp(r:R2)(ta tb:TE):TE:=λσ H Q=>ta σ H λx H1=>tb σ H1 λy H2=>r x y H2 Q
def tUn(r:V->Hp->VK->Prop)(ta:TE):TE:=λσ H Q=>ta σ H λx H1=>r x H1 Q
def rI(C:Int->Int->Prop)(g:Int->Int->V):R2:=λx y H Q=>∃i j,x=.int i/\y=.int j/\C i j/\Q (g i j) H
def rI0(g:Int->Int->V):R2:=λx y H Q=>∃i j,x=.int i/\y=.int j/\Q (g i j) H
def rU(g:Int->V):V->Hp->VK->Prop:=λx H Q=>∃i,x=.int i/\Q (g i) H
section
variable{X:Cx}{a b c:Expr}{ta tb tc:TE}{pos:Pos}
theorem tJ(ha:PE X a ta)(hb:PE X b tb){pins:List (Addr×Obj)}{s:zd}{σ:St}{H:Hp}{R:V->V->Hp->Prop}(I:Inv X pins σ H s)
  (h:ta σ H λx H1=>tb σ H1 λy H2=>R x y H2) {Q:za->zd->Prop} {f:za->za->Sem za}
  (hf:∀v u s2 x y H2,Inv X pins σ H2 s2->aN x v->aN y u->R x y H2->zf (zg X.prog X.w) X.A (f v u) Q X.xe s2) :
  zf (zg X.prog X.w) X.A (eval a X.env) (λv s₁=>zf (zg X.prog X.w) X.A (eval b X.env) (λu s₂=>zf (zg X.prog X.w) X.A (f v u) Q X.xe s₂) X.xe s₁) X.xe s:=by
 refine thn (ha pins s σ H _ I h) λv s1 ⟨x,H1,I1,r1,q1⟩=>?_;refine thn (hb pins s1 σ H1 _ I1 q1) λu s2 ⟨y,H2,I2,r2,q2⟩=>?_;exact hf v u s2 x y H2 I2 r1 r2 q2
theorem rE{op:Operator}{r:R2}(ho:OpR X (v7 op) r)(ha:PE X a ta)(hb:PE X b tb):PE X (.BinOp a op b pos) (tOp r ta tb):=by
 intro pins s σ H Q I h;exact wpAny_BinOp (tJ ha hb I h λv u s2 x y H2 I2 rx ry q=>ho pins s2 σ H2 x y v u Q I2 rx ry q)
theorem vg{op:UnaryOp}{r:V->Hp->VK->Prop}(ho:UnR X (unaryOp op) r)(ha:PE X a ta):PE X (.UnaryOp op a pos) (tUn r ta):=by
 intro pins s σ H Q I h;exact UnaryOp_ (thn (ha pins s σ H _ I h) λv s1 ⟨x,H1,I1,r1,q1⟩=>ho pins s1 σ H1 x v Q I1 r1 q1)
theorem opI{f:za->za->Sem za}{C:Int->Int->Prop}{g:Int->Int->Int}
  (rule:∀(i j:Int) (t u:Tok) (s:zd) (Q:za->zd->Prop) (E:za->zd->Prop),C i j->Q (.int (g i j) s.toks) { s with toks:=s.toks+1 }->zf (zg X.prog X.w) X.A (f (.int i t) (.int j u)) Q E s) :
  OpR X f (rI C λi j=>.int (g i j)):=by
 intro pins s σ H x y v u Q I rx ry h;obtain⟨i,j,rfl,rfl,hc,q⟩:=h;obtain⟨t,rfl⟩:=rx;obtain⟨t',rfl⟩:=ry;exact rule i j t t' s _ _ hc ⟨.int (g i j),H,I.tok _,⟨_,rfl⟩,q⟩
theorem uN{f:za->za->Sem za}{g:Int->Int->Int}
  (rule:∀(i j:Int) (t u:Tok) (s:zd) (Q:za->zd->Prop) (E:za->zd->Prop),Q (.int (g i j) s.toks) { s with toks:=s.toks+1 }->zf (zg X.prog X.w) X.A (f (.int i t) (.int j u)) Q E s) :
  OpR X f (rI0 λi j=>.int (g i j)):=by
 intro pins s σ H x y v u Q I rx ry h;obtain⟨i,j,rfl,rfl,q⟩:=h;obtain⟨t,rfl⟩:=rx;obtain⟨t',rfl⟩:=ry;exact rule i j t t' s _ _ ⟨.int (g i j),H,I.tok _,⟨_,rfl⟩,q⟩
theorem tL{f:za->za->Sem za}{g:Int->Int->Bool}
  (rule:∀(i j:Int) (t u:Tok) (s:zd) (Q:za->zd->Prop) (E:za->zd->Prop),Q (.bool (g i j)) s->zf (zg X.prog X.w) X.A (f (.int i t) (.int j u)) Q E s) :
  OpR X f (rI0 λi j=>.bl (g i j)):=by
 intro pins s σ H x y v u Q I rx ry h;obtain⟨i,j,rfl,rfl,q⟩:=h;obtain⟨t,rfl⟩:=rx;obtain⟨t',rfl⟩:=ry;exact rule i j t t' s _ _ ⟨.bl (g i j),H,I,rfl,q⟩
def nk(i j:Int):Prop:=0<j/\j<1073741824
def nF(i j:Int):Prop:=0<=j/\j<=1000000/\i.natAbs<2 ^ 64
def i0(i j:Int):Prop:=(-(2 ^ 64)<i/\i<2 ^ 64)\/(-(2 ^ 64)<j/\j<2 ^ 64)
theorem i0.ok{i j:Int}(h:i0 i j):IntMulOk i j:=by
 rcases h with⟨h1,h2⟩ | ⟨h1,h2⟩
 ·exact .of_left (intBits_le_64 h1 h2)
 ·exact .of_right (intBits_le_64 h1 h2)
theorem sZ:OpR X (v7 .Add) (rI0 λi j=>.int (i+j)):=uN λ_ _ _ _ _ _ _ q=>add_int q
theorem sr:OpR X (v7 .Sub) (rI0 λi j=>.int (i-j)):=uN λ_ _ _ _ _ _ _ q=>sub_int q
theorem rX:OpR X (v7 .Mult) (rI i0 λi j=>.int (i*j)):=opI λ_ _ _ _ _ _ _ hc q=>mul_int q hc.ok
theorem qj:OpR X (v7 .FloorDiv) (rI nk λi j=>.int (i/j)):=opI λi j _ _ _ _ _ hc q=>by
 have h1:(0:Int)<j:=hc.1;have h2:j<1073741824:=hc.2;exact floordiv_int (by lia) (by rw[Int.fdiv_eq_ediv_of_nonneg i (by lia)];exact q) (.inl (PyProof.noPylong_small (by lia)))
theorem tQ:OpR X (v7 .Mod) (rI (λ_ j=>0<j) λi j=>.int (i%j)):=opI λi j _ _ _ _ _ hc q=>by
 have h1:(0:Int)<j:=hc;exact mod_int' (by lia) (by rw[Int.fmod_eq_emod_of_nonneg i (by lia)];exact q)
theorem tw:OpR X (v7 .Pow) (rI nF λi j=>.int (i ^ j.toNat)):=opI λ_ _ _ _ _ _ _ hc q=>pow_int_small hc.1 hc.2.1 hc.2.2 q
theorem unI{f:za->Sem za}{g:Int->Int}
  (rule:∀(i:Int) (t:Tok) (s:zd) (Q:za->zd->Prop) (E:za->zd->Prop),Q (.int (g i) s.toks) { s with toks:=s.toks+1 }->zf (zg X.prog X.w) X.A (f (.int i t)) Q E s) :
  UnR X f (rU λi=>.int (g i)):=by
 intro pins s σ H x v Q I rx h;obtain⟨i,rfl,q⟩:=h;obtain⟨t,rfl⟩:=rx;exact rule i t s _ _ ⟨.int (g i),H,I.tok _,⟨_,rfl⟩,q⟩
theorem tP:UnR X (unaryOp .USub) (rU λi=>.int (-i)):=unI λ_ _ _ _ _ q=>neg_int q
end
def se:V->V->Bool
 |.non,.non=>true | .non,.int _=>true | .int _,.non=>true | .non,.bl _=>true | .bl _,.non=>true | .non,.str _=>true | .str _,.non=>true
 |.int _,.int _=>true | .bl _,.bl _=>true | .str _,.str _=>true | .byt _,.byt _=>true
 |.int _,.str _=>true | .str _,.int _=>true | .bl _,.str _=>true | .str _,.bl _=>true
 |_,_=>false
def rEq:R2:=λx y H Q=>se x y=true/\Q (.bl (decide (x=y))) H
def rNe:R2:=λx y H Q=>se x y=true/\Q (.bl (!decide (x=y))) H
theorem mR{i j:Int}:decide (V.int i=V.int j)=(i==j):=by
 rw[xC];simp
theorem pU{i j:Bool}:decide (V.bl i=V.bl j)=(i==j):=by
 rw[xC];simp
theorem mC{i j:Str}:decide (V.str i=V.str j)=(i==j):=by
 rw[xC];simp
theorem mF{i j:Array UInt8}:decide (V.byt i=V.byt j)=(i.toList==j.toList):=by
 rw[xC];cases i;cases j;simp
section
variable{X:Cx}{a b c:Expr}{ta tb tc:TE}{pos:Pos}
theorem aO{pins:List (Addr×Obj)}{σ:St}{H:Hp}{s:zd}{Q:VK}{k k':Bool}(I:Inv X pins σ H s)(q:Q (.bl k) H)(e:k=k'):EP X pins σ Q (.bool k') s:=by
 subst e;exact⟨.bl k,H,I,rfl,q⟩
theorem uU:OpR X (zN .Eq) rEq:=by
 intro pins s σ H x y v u Q I rx ry h;obtain⟨hs,q⟩:=h;cases x with
 |non=>
  cases rx;cases y with
  |non=>cases ry;exact PySem.EqNone.eq_none_none (aO I q (by simp))
  |bl j=>cases ry;exact PySem.EqNone.eq_none_bool (aO I q (by simp))
  |int j=>obtain⟨t',rfl⟩:=ry;exact PySem.EqNone.eq_none_int (aO I q (by simp))
  |str j=>obtain⟨t',rfl⟩:=ry;exact PySem.EqNone.eq_none_str (aO I q (by simp))
  |_=>exact absurd (show false=true from hs) zm
 |bl i=>
  cases rx;cases y with
  |non=>cases ry;exact PySem.EqNone.eq_bool_none (aO I q (by simp))
  |bl j=>cases ry;exact eq_bool (aO I q pU)
  |str j=>obtain⟨t',rfl⟩:=ry;exact PySem.EqMixed.eq_bool_str (aO I q (by simp))
  |_=>exact absurd (show false=true from hs) zm
 |int i=>
  obtain⟨t,rfl⟩:=rx;cases y with
  |non=>cases ry;exact PySem.EqNone.eq_int_none (aO I q (by simp))
  |int j=>obtain⟨t',rfl⟩:=ry;exact eq_int (aO I q mR)
  |str j=>obtain⟨t',rfl⟩:=ry;exact PySem.EqMixed.eq_int_str (aO I q (by simp))
  |_=>exact absurd (show false=true from hs) zm
 |str i=>
  obtain⟨t,rfl⟩:=rx;cases y with
  |non=>cases ry;exact PySem.EqNone.eq_str_none (aO I q (by simp))
  |bl j=>cases ry;exact PySem.EqMixed.eq_str_bool (aO I q (by simp))
  |int j=>obtain⟨t',rfl⟩:=ry;exact PySem.EqMixed.eq_str_int (aO I q (by simp))
  |str j=>obtain⟨t',rfl⟩:=ry;exact eq_str (aO I q mC)
  |_=>exact absurd (show false=true from hs) zm
 |byt i=>
  obtain⟨t,rfl⟩:=rx;cases y with
  |byt j=>obtain⟨t',rfl⟩:=ry;exact PySem.W.eq_bytes (aO I q mF)
  |_=>exact absurd (show false=true from hs) zm
 |_=>cases y<;>exact absurd (show false=true from hs) zm
theorem uH:OpR X (zN .NotEq) rNe:=by
 intro pins s σ H x y v u Q I rx ry h;obtain⟨hs,q⟩:=h;cases x with
 |non=>
  cases rx;cases y with
  |non=>cases ry;exact PySem.EqNone.ne_none_none (aO I q (by simp))
  |bl j=>cases ry;exact PySem.EqNone.ne_none_bool (aO I q (by simp))
  |int j=>obtain⟨t',rfl⟩:=ry;exact PySem.EqNone.ne_none_int (aO I q (by simp))
  |str j=>obtain⟨t',rfl⟩:=ry;exact PySem.EqNone.ne_none_str (aO I q (by simp))
  |_=>exact absurd (show false=true from hs) zm
 |bl i=>
  cases rx;cases y with
  |non=>cases ry;exact PySem.EqNone.ne_bool_none (aO I q (by simp))
  |bl j=>cases ry;exact ne_bool (aO I q (congrArg not pU))
  |str j=>obtain⟨t',rfl⟩:=ry;exact PySem.EqMixed.ne_bool_str (aO I q (by simp))
  |_=>exact absurd (show false=true from hs) zm
 |int i=>
  obtain⟨t,rfl⟩:=rx;cases y with
  |non=>cases ry;exact PySem.EqNone.ne_int_none (aO I q (by simp))
  |int j=>obtain⟨t',rfl⟩:=ry;exact ne_int (aO I q (congrArg not mR))
  |str j=>obtain⟨t',rfl⟩:=ry;exact PySem.EqMixed.ne_int_str (aO I q (by simp))
  |_=>exact absurd (show false=true from hs) zm
 |str i=>
  obtain⟨t,rfl⟩:=rx;cases y with
  |non=>cases ry;exact PySem.EqNone.ne_str_none (aO I q (by simp))
  |bl j=>cases ry;exact PySem.EqMixed.ne_str_bool (aO I q (by simp))
  |int j=>obtain⟨t',rfl⟩:=ry;exact PySem.EqMixed.ne_str_int (aO I q (by simp))
  |str j=>obtain⟨t',rfl⟩:=ry;exact ne_str (aO I q (congrArg not mC))
  |_=>exact absurd (show false=true from hs) zm
 |byt i=>
  obtain⟨t,rfl⟩:=rx;cases y with
  |byt j=>obtain⟨t',rfl⟩:=ry;exact PySem.W.ne_bytes (aO I q (congrArg not mF))
  |_=>exact absurd (show false=true from hs) zm
 |_=>cases y<;>exact absurd (show false=true from hs) zm
theorem um:OpR X (zN .Lt) (rI0 λi j=>.bl (decide (i<j))):=tL λ_ _ _ _ _ _ _ q=>lt_int q
theorem u0:OpR X (zN .LtE) (rI0 λi j=>.bl (decide (i<=j))):=tL λ_ _ _ _ _ _ _ q=>le_int q
theorem rK:OpR X (zN .Gt) (rI0 λi j=>.bl (decide (j<i))):=tL λ_ _ _ _ _ _ _ q=>gt_int q
theorem rT:OpR X (zN .Is) (λx y H Q=>y=.non/\Q (.bl (decide (x=.non))) H):=by
 intro pins s σ H x y v u Q I rx ry h;obtain⟨rfl,q⟩:=h;cases ry;refine is_none_gen (aO I q ?_)
 cases x<;>first
  |(cases rx;rfl)
  |(obtain⟨t,rfl⟩:=rx;rfl)
theorem aF(b:Expr){op:CmpOp}(h:op≠.In:=by decide)(h2:op≠.NotIn:=by decide):xO op b=false:=by
 have e1:(op==CmpOp.In)=false:=by cases op<;>first | rfl | exact absurd rfl h
 have e2:(op==CmpOp.NotIn)=false:=by cases op<;>first | rfl | exact absurd rfl h2
 cases b<;>simp[xO,e1,e2]
theorem p0{op:CmpOp}{r:R2}(ho:OpR X (zN op) r)(ha:PE X a ta)(hb:PE X b tb)(hm:xO op b=false):PE X (.Compare a [op] [b] pos) (tOp r ta tb):=by
 intro pins s σ H Q I h;exact wpAny_Compare1 (tJ ha hb I h λv u s2 x y H2 I2 rx ry q=>ho pins s2 σ H2 x y v u Q I2 rx ry q) hm
def rz(t:TE):TT:=λσ H Q=>t σ H λx H'=>∃k,x=.bl k/\Q k H'
theorem mz{op:CmpOp}{r:R2}(ho:OpR X (zN op) r)(ha:PE X a ta)(hb:PE X b tb)(hm:xO op b=false):PT X (.Compare a [op] [b] pos) (rz (tOp r ta tb)):=by
 intro pins s σ H Q I h
 refine wpAny_isTrue_Compare1 (thn (ha pins s σ H _ I h) λv s1 ⟨x,H1,I1,r1,q1⟩=>thn (hb pins s1 σ H1 _ I1 q1) λu s2 ⟨y,H2,I2,r2,q2⟩=>
  thn (ho pins s2 σ H2 x y v u _ I2 r1 r2 q2) λc s3 ⟨z,H3,I3,r3,k,e,q3⟩=>?_) hm
 subst e;cases r3;exact wN ⟨H3,I3,q3⟩
def tE(r r':R2)(ta tb tc:TE):TE:=λσ H Q=>ta σ H λx H1=>tb σ H1 λy H2=>r x y H2 λz H3=>∃k,z=.bl k/\
 (if k=true then tc σ H3 λw' H4=>r' y w' H4 Q else Q (.bl false) H3)
theorem oJ{op op':CmpOp}{r r':R2}(ho:OpR X (zN op) r)(ho':OpR X (zN op') r')(ha:PE X a ta)(hb:PE X b tb)(hc:PE X c tc)
  (hm:lastMarks [op,op'] [b,c]=false:=by with_unfolding_all rfl):PT X (.Compare a [op,op'] [b,c] pos) (rz (tE r r' ta tb tc)):=by
 intro pins s σ H Q I h
 refine isTrue_chain (thn (ha pins s σ H _ I h) λv s1 ⟨x,H1,I1,r1,q1⟩=>test_link (thn (hb pins s1 σ H1 _ I1 q1) λu s2 ⟨y,H2,I2,r2,q2⟩=>
  thn (ho pins s2 σ H2 x y v u _ I2 r1 r2 q2) λd s3 ⟨z,H3,I3,r3,k,e,q3⟩=>?_)) hm
 subst e;cases r3;refine wN ?_;cases k with
 |false=>
  obtain⟨k',e',q'⟩:=q3;cases e';exact ite_ff ⟨H3,I3,q'⟩
 |true=>
  refine ite_tt (test_last (thn (hc pins s3 σ H3 _ I3 q3) λw' s4 ⟨z',H4,I4,r4,q4⟩=>thn (ho' pins s4 σ H4 y z' u w' _ I4 r2 r4 q4) λd' s5 ⟨z2,H5,I5,r5,k2,e2,q5⟩=>?_));subst e2;cases r5;exact wN ⟨H5,I5,q5⟩
def vb(K:zb)(x:V)(H:Hp)(k:Bool):Prop:=
 match x with
 |.non=>k=false
 |.bl b=>k=b
 |.int i=>k=(i != 0)
 |.str y=>y.length<=zt/\k=((y.length:Int) != 0)
 |.byt y=>y.size<=zt/\k=((y.size:Int) != 0)
 |.ref p=>(∃xs,SqL K H p xs/\k = !xs.isEmpty)\/(∃xs,SqT K H p xs/\k = !xs.isEmpty)\/∃kvs,H p=some (.dK kvs)/\k = !kvs.isEmpty
 |_=>False
theorem lH{κ:Type}{kvs:List (κ×V)}{vs:List (κ×za)}(r:KV kvs vs):(!vs.isEmpty) = !kvs.isEmpty:=by
 cases r<;>rfl
theorem iT{xs:List V}{its:List za}(r:aL xs its):(!its.toArray.isEmpty) = !xs.isEmpty:=by
 cases r<;>simp
theorem iD:(zt:Nat)<2 ^ 63:=by rw[sizeLine_eq];decide
theorem rY:vJ X (λx H Q=>∃k,vb X.K x H k/\Q k H):=by
 intro pins s σ H x v Q I rx h;obtain⟨k,e,q⟩:=h;have hl:=iD;have hs:zt=16777216:=sizeLine_eq;cases x with
 |non=>
  cases rx;have e':k=false:=e;subst e';exact truthy_none ⟨H,I,q⟩
 |bl b=>
  cases rx;have e':k=b:=e;subst e';exact wN ⟨H,I,q⟩
 |int i=>
  obtain⟨t,rfl⟩:=rx;have e':k=(i != 0):=e;subst e';exact PySem.P.truthy_int ⟨H,I,q⟩
 |str y=>
  obtain⟨t,rfl⟩:=rx;obtain⟨hy,e'⟩:y.length<=zt/\k=((y.length:Int) != 0):=e;subst e';exact PySem.P.truthy_str (by lia) ⟨H,I.tok _,q⟩
 |byt y=>
  obtain⟨t,rfl⟩:=rx;obtain⟨hy,e'⟩:y.size<=zt/\k=((y.size:Int) != 0):=e;subst e';exact PySem.W.truthy_bytes (by lia) ⟨H,I.tok _,q⟩
 |ref p=>
  cases rx;have e':(∃xs,SqL X.K H p xs/\k = !xs.isEmpty)\/(∃xs,SqT X.K H p xs/\k = !xs.isEmpty)\/∃kvs,H p=some (.dK kvs)/\k = !kvs.isEmpty:=e;rcases e' with⟨xs,hx,e'⟩ | ⟨xs,hx,e'⟩ | ⟨kvs,hx,e'⟩
  ·subst e'
   obtain⟨its,r,pl,hz⟩:=I.list hx;have hlen:=r.length;exact wpAny_truthy_list pl.isList (by simp only[zu];lia) ⟨H,I.tok _,by rw[iT r];exact q⟩
  ·subst e'
   obtain⟨its,r,pl,hz⟩:=I.tuple hx;have hlen:=r.length;exact truthy_tuple pl (by simp only[zu];lia) ⟨H,I.tok _,by rw[iT r];exact q⟩
  ·subst e'
   obtain⟨hz,hS,vs,r,m⟩:kvs.length<=zt/\(p==sysModules)=false/\∃vs,KV kvs vs/\s.heap.DictOf (jy X.prog X.w) p vs:=I.hok p _ hx;have hlen:kvs.length=vs.length:=Paired.length r;exact wpAny_truthy_dict hS m (by lia) ⟨H,I.tok _,by rw[lH r];exact q⟩
 |_=>exact(show False from e).elim
theorem iP(ha:PE X a ta)(he:∀whole,isTrue a X.env whole=(do let v<-whole;standAt a.pos;holding [v] (truthy v))) :
  PT X a (λσ H Q=>ta σ H λx H'=>∃k,vb X.K x H' k/\Q k H'):=by
 intro pins s σ H Q I h;exact isTrue_plain (thn (ha pins s σ H _ I h) λv s1 ⟨x,H1,I1,r1,q1⟩=>rY pins s1 σ H1 x v Q I1 r1 q1) (he _)
theorem rJ{x:V}{us:List za}(r:aL [x] us):∃u,us=[u]/\aN x u:=by
 cases r with
 |cons r1 r2=>cases r2;exact⟨_,rfl,r1⟩
theorem rG{x y:V}{us:List za}(r:aL [x,y] us):∃u w',us=[u,w']/\aN x u/\aN y w':=by
 cases r with
 |cons r1 r2=>
  cases r2 with
  |cons r3 r4=>cases r4;exact⟨_,_,rfl,r1,r3⟩
theorem nj(hc:X.calm=true):fq X (.builtin "max") (λxs H Q=>∃i j,xs=[.int i,.int j]/\Q (.int (if j>i then j else i)) H):=by
 intro pins s σ H xs us Q I r h;obtain⟨i,j,rfl,q⟩:=h;obtain⟨u,w',rfl,⟨t,rfl⟩,⟨t',rfl⟩⟩:=rG r;refine max_two_ints (I.ok.hd hc) λh' tk k=>⟨_,H,I.kept k,?_,q⟩
 by_cases hj:j>i
 ·rw[if_pos hj,if_pos hj];exact⟨_,rfl⟩
 ·rw[if_neg hj,if_neg hj];exact⟨_,rfl⟩
theorem mZ(hc:X.calm=true):fq X (.builtin "min") (λxs H Q=>∃i j,xs=[.int i,.int j]/\Q (.int (if j<i then j else i)) H):=by
 intro pins s σ H xs us Q I r h;obtain⟨i,j,rfl,q⟩:=h;obtain⟨u,w',rfl,⟨t,rfl⟩,⟨t',rfl⟩⟩:=rG r;refine min_two_ints (I.ok.hd hc) λh' tk k=>⟨_,H,I.kept k,?_,q⟩
 by_cases hj:j<i
 ·rw[if_pos hj,if_pos hj];exact⟨_,rfl⟩
 ·rw[if_neg hj,if_neg hj];exact⟨_,rfl⟩
end
structure ObjM(h:Heap)(x dx C:Addr)(mA:Str->Option za):Prop where
 obj:h.get? x=some (wg C dx)
 ns:h.Ns1 dx mA
 ne:dx≠x
theorem i_{h:Heap}{dx:Addr}{mA:Str->Option za}(n:h.Ns1 dx mA):∃od,h.get? dx=some od/\∀name,PySem.W.lookIn name od=some (mA name):=by
 obtain⟨o,es,ep,ho,hd,hk,_,hm⟩:=n;refine⟨o,ho,λname=>?_⟩;have e:=hm name;unfold nsFind findBy at e;rw[<-Array.find?_toList] at e;unfold PySem.W.lookIn;rw[hd];dsimp only;split
 ·rename_i y q
  rw[q] at e;exact congrArg some e
 ·rename_i q
  rw[q] at e
  have a:es.toList.any (·.refKey)=false:=by
   rw[List.any_eq_false];intro y hy;obtain⟨z,t,hkey⟩:=hk y (Array.mem_toList_iff.mp hy);simp[DictEntry.refKey,hkey]
  have a':¬ es.toList.any (·.refKey)=true:=by rw[a];exact zm
  rw[if_neg a'];exact congrArg some e
theorem ObjM.look{h:Heap}{x dx C:Addr}{mA:Str->Option za}(I:ObjM h x dx C mA):∃od,PySem.W.InstAt h x (wg C dx) C (some od)/\∀name,PySem.W.lookIn name od=some (mA name):=
 let⟨od,ho,hl⟩:=i_ I.ns
 ⟨od,⟨I.obj,rfl,rfl,ho⟩,hl⟩
section
variable{prog:zv}{w:zA}{A:zD}{E:za->zd->Prop}{s:zd}{K:zb}{x dx C f:Addr}{mA:Str->Option za}{name:Str}{v:za}
theorem qT{expr:Bool}{Q:za->zd->Prop}(X:K.In s.heap)(I:ObjM s.heap x dx C mA)(hg:xK K C name=true)(hh:wO K C=true)
  (ha:zo K (.ref C) name=some none) (hv:mA name=some v) (hv':PySem.W.handedIn v=true) (h:Q v { s with toks:=s.toks+1 }) :
  zf (zg prog w) A (getAttr (.ref x) name expr) Q E s:=by
 obtain⟨od,J,hl⟩:=I.look;exact PySem.W.get_value X J (PySem.W.plainGet_of hg).1 (PySem.W.findObj_own hh ha rfl (by rw[hl,hv])) hv' h
theorem oy{pl:Sem Bool}{Q:za×List za->zd->Prop}(X:K.In s.heap)(I:ObjM s.heap x dx C mA)(hg:xK K C name=true)
  (hf:zo K (.ref C) name=some (some (.ref f))) (ht:PySem.W.isFn K (.ref f)=true) (hv:mA name=none) (h:Q (.ref f,[.ref x]) s) :
  zf (zg prog w) A (getMethod (.ref x) name pl) Q E s:=by
 obtain⟨od,J,hl⟩:=I.look;exact PySem.W.method_fn X J (PySem.W.plainGet_of hg).1 (PySem.W.plainGet_of hg).2 hf (beq_iff_eq.mp ht) (by show(PySem.W.lookIn name od).map (·.isSome)=some false;rw[hl,hv];rfl) h
theorem qv{ns:List Str}{Q:Unit->zd->Prop}(X:K.In s.heap)(I:ObjM s.heap x dx C mA)
  (hs:zo K (.ref C) "__setattr__" = some (some (.builtin "object.__setattr__"))) (hp:PySem.W.plainOver K C=true) (ht:PySem.W.takerIn K C name=some none) (hh:wO K C=true)
  (hw:xH mA ns) (hsz:ns.length<=zt)
  (h:∀h',ObjM h' x dx C (λy=>if y=name then some v else mA y)->wZ dx s.heap h'->Q () { s with heap:=h',toks:=s.toks+2 }) :
  zf (zg prog w) A (setAttr (.ref x) name v) Q E s:=by
 obtain⟨od,J,hl⟩:=I.look;refine PySem.W.set_plain X J hs (PySem.W.osa_open (s:={ s with toks:=s.toks+1 }) (r:=none) X J hp ht λb=>?_);obtain⟨cd,hc,hd'⟩:=PySem.W.any_some hh;have hx:s.heap.get? x=some ⟨.ref C,some dx,.plain,#[]⟩:=I.obj;refine zc (zi (zc (zc (wpAny_loadPart hx (zc (w9 (s:={ s with toks:=s.toks+1 }) (PySem.W.looks_clsIn X hc) ?_))))));rw[hd'];refine zi (a:=some dx) (zc (zi (zc ?_)));refine wpAny_nsSet1 (s:={ s with toks:=s.toks+1 }) I.ns λh' hn2 hs2=>?_;obtain⟨oD,esD,epD,hoD,hdD,hcD⟩:=hn2.count (PySem.Within.cons name v hw);refine zc (wpAny_lookBehind hoD (by rw[hdD];exact pastItsLine_dict (zO hcD (by rw[zK];lia))) ?_);exact zi (h _ ⟨(hs2.2 _ (Ne.symm I.ne)).trans I.obj,hn2,I.ne⟩ hs2)
theorem oS{R:Result->zd->Prop}{vs:List za}{kw:List (Str×za)}(X:K.In s.heap)(hm:PySem.W.makesIn K C=true)
  (hi:zo K (.ref C) "__init__" = some (some (.ref f))) (hf:PySem.W.typeIn K (.ref f)=some (.type "function"))
  (h:codeAny (zg prog w) (A.under (.builtin "type.__call__" ⟨.ref C::vs,kw⟩)) (.call (.ref f) ⟨.ref (s.heap.objs.size+1)::vs,kw⟩) (PySem.W.InitBack (s.heap.objs.size+1) R)
   { s with heap:=(s.heap.push z0).push (wg C s.heap.objs.size) }) :
  codeAny (zg prog w) A (.call (.ref C) ⟨vs,kw⟩) R s:=by
 obtain⟨hh,g,d,t,os⟩:=s;exact PySem.W.make_core (PySem.W.makes_of X hm) (xM X hi) (λself=>PySem.W.bind_fn X self hf) (.inl rfl) h
end
def da(f:Str)(v:V):List (Str×V)->List (Str×V)
 |[]=>[(f,v)]
 |(g,x)::r=>if g=f then(g,v)::r else(g,x)::da f v r
theorem dq(f g:Str)(v:V):∀fs:List (Str×V),(da f v fs).lookup g=if g=f then some v else fs.lookup g
 |[]=>by
  show wy g [(f,v)]=_
  by_cases h:g=f
  ·have hb:(g==f)=true:=beq_iff_eq.mpr h
   simp only[wy,hb,if_pos h]
  ·have hb:(g==f)=false:=beq_eq_false_iff_ne.mpr h
   simp only[wy,hb,if_neg h]
 |(k,x)::r=>by
  have ih:=dq f g v r;rw[show da f v ((k,x)::r)=(if k=f then(k,v)::r else(k,x)::da f v r) from rfl]
  by_cases hk:k=f
  ·rw[if_pos hk]
   by_cases h:g=k
   ·have hb:(g==k)=true:=beq_iff_eq.mpr h
    simp only[wy,hb,if_pos (h.trans hk)]
   ·have hb:(g==k)=false:=beq_eq_false_iff_ne.mpr h
    simp only[wy,hb,if_neg (λe:g=f=>h (e.trans hk.symm))]
  ·rw[if_neg hk]
   by_cases h:g=k
   ·have hb:(g==k)=true:=beq_iff_eq.mpr h
    simp only[wy,hb,if_neg (λe:g=f=>hk (h.symm.trans e))]
   ·have hb:(g==k)=false:=beq_eq_false_iff_ne.mpr h
    simp only[wy,hb];exact ih
theorem gQ(f:Str)(v:V):∀fs:List (Str×V),f∈(da f v fs).map (·.1)/\∀g,g∈fs.map (·.1)->g∈(da f v fs).map (·.1)
 |[]=>⟨by simp[da],λg h=>by simp at h⟩
 |(k,x)::r=>by
  obtain⟨i1,i2⟩:=gQ f v r;rw[show da f v ((k,x)::r)=(if k=f then(k,v)::r else(k,x)::da f v r) from rfl]
  by_cases hk:k=f
  ·rw[if_pos hk]
   subst hk;exact⟨by simp,λg h=>by simpa using h⟩
  ·rw[if_neg hk]
   refine⟨?_,λg h=>?_⟩
   ·rw[xw]
    exact zQ _ i1
   ·rw[xw] at h ⊢
    rcases zq.mp h with e | e
    ·exact zq.mpr (.inl e)
    ·exact zQ _ (i2 g e)
theorem eM(f:Str)(v:V):∀fs:List (Str×V),(da f v fs).length<=fs.length+1
 |[]=>by simp[da]
 |(k,x)::r=>by
  have ih:=eM f v r;rw[show da f v ((k,x)::r)=(if k=f then(k,v)::r else(k,x)::da f v r) from rfl]
  by_cases hk:k=f
  ·rw[if_pos hk,zK,zK];lia
  ·rw[if_neg hk,zK,zK];lia
theorem f_.some_of{v:V}{o:Option za}(r:f_ (some v) o):∃u,o=some u/\aN v u:=by
 cases o with
 |none=>exact(show False from r).elim
 |some u=>exact⟨u,rfl,r⟩
theorem f_.none_of{o:Option za}(r:f_ none o):o=none:=by
 cases o with
 |none=>rfl
 |some u=>exact(show False from r).elim
theorem nL{v:V}{u:za}(r:aN v u):PySem.W.handedIn u=true:=by
 cases v with
 |non=>cases(show u=zP from r);rfl
 |bl b=>cases(show u=xA b from r);rfl
 |int i=>obtain⟨t,e⟩:=(show ∃t,u=Value.int i t from r);cases e;rfl
 |str x=>obtain⟨t,e⟩:=(show ∃t,u=Value.str x t from r);cases e;rfl
 |byt b=>obtain⟨t,e⟩:=(show ∃t,u=Value.bytes b t from r);cases e;rfl
 |flt b=>obtain⟨t,e⟩:=(show ∃t,u=Value.float b t from r);cases e;rfl
 |ref a=>cases(show u=zk a from r);rfl
 |ty n=>cases(show u=Value.type n from r);rfl
section
variable{P:zv}{w:zA}{H H':Hp}{h h':Heap}{a C dx:Addr}{fs fs':List (Str×V)}
theorem ie(hok:HOk P w H h)(e:H a=some (.ins C dx fs)):∃mA,ObjM h a dx C mA/\(∀f,f_ (fs.lookup f) (mA f))/\xH mA (fs.map (·.1))/\fs.length<=1000/\H dx=some (.own a):=by
 obtain⟨d,z,ne,ob,mA,n,r,q⟩:=(show bu P w H h a (.ins C dx fs) from hok a _ e);exact⟨mA,⟨ob,n,ne⟩,r,q,z,d⟩
end
structure Cls(K:zb)(C:Addr):Prop where
 pg:xK K C Str.empty=true
 hd:wO K C=true
 po:PySem.W.plainOver K C=true
 sa:zo K (.ref C) "__setattr__" = some (some (.builtin "object.__setattr__"))
theorem Cls.get{K:zb}{C:Addr}(c:Cls K C)(f:Str):xK K C f=true:=c.pg
def b_(K:zb)(C:Addr)(f:Str):Prop:=zo K (.ref C) f=some none
theorem b_.taker{K:zb}{C:Addr}{f:Str}(n:b_ K C f):PySem.W.takerIn K C f=some none:=by
 unfold PySem.W.takerIn;rw[show zo K (.ref C) f=some none from n];rfl
structure Meth(K:zb)(C:Addr)(m:Str)(f:Addr):Prop where
 at_:zo K (.ref C) m=some (some (.ref f))
 fn:PySem.W.isFn K (.ref f)=true
 kp:zY K (.ref f)=true
section
variable{X:Cx}{pins:List (Addr×Obj)}{σ:St}{H:Hp}{s:zd}{a C dx:Addr}{fs:List (Str×V)}{f:Str}{v:V}{A:zD}{E:za->zd->Prop}
theorem kR{b:Bool}{Q:za->zd->Prop}(I:Inv X pins σ H s)(e:H a=some (.ins C dx fs))(c:Cls X.K C)(n:b_ X.K C f)(l:fs.lookup f=some v)
  (h:∀u s',Inv X pins σ H s'->aN v u->Q u s'):zf (zg X.prog X.w) A (getAttr (.ref a) f b) Q E s:=by
 obtain⟨mA,O,r,_,_,_⟩:=ie I.hok e;obtain⟨u,hu,ru⟩:=f_.some_of (v:=v) (o:=mA f) (by rw[<-l];exact r f);exact qT I.kIn O (c.get f) c.hd n hu (nL ru) (h u _ (I.tok _) ru)
theorem iB{m:Str}{g:Addr}{pl:Sem Bool}{Q:za×List za->zd->Prop}(I:Inv X pins σ H s)(e:H a=some (.ins C dx fs))(c:Cls X.K C)(k:Meth X.K C m g)(l:fs.lookup m=none)
  (h:Q (.ref g,[.ref a]) s):zf (zg X.prog X.w) A (getMethod (.ref a) m pl) Q E s:=by
 obtain⟨mA,O,r,_,_,_⟩:=ie I.hok e;have hn:mA m=none:=f_.none_of (by rw[<-l];exact r m);exact oy I.kIn O (c.get m) k.at_ k.fn hn h
theorem kX{y:V}{u:za}{Q:Unit->zd->Prop}(I:Inv X pins σ H s)(e:H a=some (.ins C dx fs))(c:Cls X.K C)(n:b_ X.K C f)(hl:fs.length<1000)(ry:aN y u)
  (h:∀s',Inv X pins σ (upd H a (.ins C dx (da f y fs))) s'->Q () s'):zf (zg X.prog X.w) A (setAttr (.ref a) f u) Q E s:=by
 obtain⟨mA,O,r,wi,_,ho⟩:=ie I.hok e;have hz:(fs.map (·.1)).length<=zt:=by rw[wj,sizeLine_eq];lia
 refine qv I.kIn O c.sa c.po n.taker c.hd wi hz λh' O' sb=>h _ ?_;have hd:∃o,h'.get? dx=some o:=let⟨o,_,_,e',_⟩:=O'.ns;⟨o,e'⟩;refine I.write (x:=a) (e:=dx) (by rw[e];exact wX) (.inr ho) (λb q hb z=>(sb.2 b hb).trans z) hd ?_;refine⟨by rw[ak O.ne];exact ho,?_,O.ne,O'.obj,_,O'.ns,λg=>?_,λg hg=>?_⟩
 ·have:=eM f y fs;lia
 ·show f_ ((da f y fs).lookup g) (if g=f then some u else mA g)
  rw[dq]
  by_cases q:g=f
  ·rw[if_pos q,if_pos q];exact ry
  ·rw[if_neg q,if_neg q];exact r g
 ·by_cases q:g=f
  ·rw[q];exact(gQ f y fs).1
  ·refine(gQ f y fs).2 g (wi g λz=>hg ?_)
   show(if g=f then some u else mA g)=none;rw[if_neg q];exact z
theorem Inv.made(I:Inv X pins σ H s):Inv X pins σ (upd (upd H s.heap.objs.size (.own (s.heap.objs.size+1))) (s.heap.objs.size+1) (.ins C s.heap.objs.size []))
  { s with heap:=(s.heap.push z0).push (wg C s.heap.objs.size) }:=by
 have e1:(s.heap.push z0).get? s.heap.objs.size=some z0:=zr s.heap rfl
 have e2:((s.heap.push z0).push (wg C s.heap.objs.size)).get? (s.heap.objs.size+1)=some (wg C s.heap.objs.size):=by
  have:=zr (s.heap.push z0) (o:=wg C s.heap.objs.size) rfl;rwa [wa] at this
 have e3:(s.heap.push z0).Ns s.heap.objs.size (λ_=>none):=⟨z0,#[],_,e1,rfl,(λe he=>absurd he (by simp)),λ_=>rfl⟩;have I1:=I.laid (a:=s.heap.objs.size) (o:=.own (s.heap.objs.size+1)) (h':=s.heap.push z0) (t':=s.toks) (λb u q=>ze _ q) (zp _) ⟨_,e1⟩;refine I1.laid (a:=s.heap.objs.size+1) (o:=.ins C s.heap.objs.size []) (t':=s.toks) (λb u q=>ze _ q) (Nat.le_of_eq (wa _ _)) ?_;have ne:s.heap.objs.size≠s.heap.objs.size+1:=zC (Nat.lt_succ_self _);refine⟨by rw[ak ne,aj],zE _,ne,e2,λ_=>none,(Heap.Ns1.of_empty e3).at λo q=>ze _ q,λ_=>wX,λy hy=>absurd rfl hy⟩
theorem qa{prog:zv}{w:zA}{env:Env}{e:Expr}{f:Str}{pos:Pos}{s:zd}{Q:za->zd->Prop}(hb:attributeBase e f env (eval e env)=eval e env)
  (h:zf (zg prog w) A (eval e env) (λo s₁=>zf (zg prog w) A (getAttr o f true) Q E s₁) E s):zf (zg prog w) A (eval (.Attribute e f pos) env) Q E s:=
 Attribute_any_ h (by rw[arm_eval_Attribute,hb])
end
def vH(K:zb)(ta:TE)(f:Str):TE:=λσ H Q=>ta σ H λx H1=>∃a C dx fs v,x=.ref a/\H1 a=some (.ins C dx fs)/\Cls K C/\b_ K C f/\fs.lookup f=some v/\Q v H1
def vn(K:zb)(ta tv:TE)(f:Str):TS:=λD σ H=>tv σ H λy H1=>ta σ H1 λx H2=>∃a C dx fs,x=.ref a/\H2 a=some (.ins C dx fs)/\Cls K C/\b_ K C f/\fs.length<1000/\
 D.nx σ (upd H2 a (.ins C dx (da f y fs)))
section
variable{X:Cx}{o e value:Expr}{f:Str}{pos pos' tpos:Pos}{ta tv:TE}
theorem fE(he:PE X e ta)(hb:attributeBase e f X.env (eval e X.env)=eval e X.env):PE X (.Attribute e f pos) (vH X.K ta f):=by
 intro pins s σ H Q I h;refine qa hb (thn (he pins s σ H _ I h) λu s1 ⟨x,H1,I1,rx,a,C,dx,fs,v,ex,ea,c,n,l,q⟩=>?_);subst ex;obtain rfl:u=zk a:=rx;exact kR I1 ea c n l λu' s2 I2 ru=>⟨v,H1,I2,ru,q⟩
theorem eI(ha:PE X o ta)(hv:PE X value tv)(hs:xJ value (some (.Attribute o f pos')) pos.line X.env=pure false):PS X (.Assign [.Attribute o f pos'] value pos) (vn X.K ta tv f):=by
 intro pins s σ H D I h;refine plainObj_wpAny_Assign_Attribute (thn (hv pins s σ H _ I h) λu s1 ⟨y,H1,I1,ry,q⟩=>thn (ha pins s1 σ H1 _ I1 q) λov s2 ⟨x,H2,I2,rx,a,C,dx,fs,ex,ea,c,n,l,q2⟩=>?_) hs;subst ex;obtain rfl:ov=zk a:=rx;exact kX I2 ea c n l ry λs3 I3=>⟨σ,_,I3,q2⟩
theorem rM{pl:Sem Bool}{m:Str}{apos:Pos}{args:List Expr}{pins:List (Addr×Obj)}{s:zd}{σ:St}{H:Hp}{Q:za->zd->Prop}{te:TE}(he:PE X e te)(I:Inv X pins σ H s)
  (h:te σ H λx H1=>∃a C dx fs g,x=.ref a/\H1 a=some (.ins C dx fs)/\Cls X.K C/\Meth X.K C m g/\fs.lookup m=none/\
   ∀s1,Inv X pins σ H1 s1->zf (zg X.prog X.w) X.A (callWith pos (.ref g) [.ref a] (wo pos (zj args X.env)) (backToKw pos (keywordEach [] X.env))) Q X.xe s1)
  (ht:eval (.Call (.Attribute e m apos) args [] pos) X.env=(do
   let ov<-eval e X.env
   standAt apos.atName
   let(f,first)<-holding [ov] (getMethod ov m pl)
   callWith pos f first (wo pos (zj args X.env)) (backToKw pos (keywordEach [] X.env)))) :
  zf (zg X.prog X.w) X.A (eval (.Call (.Attribute e m apos) args [] pos) X.env) Q X.xe s:=by
 refine PySem.W.methodCall_KW (pl:=pl) (thn (he pins s σ H _ I h) λu s1 ⟨x,H1,I1,rx,a,C,dx,fs,g,ex,ea,c,k,l,q⟩=>?_) ht;subst ex;obtain rfl:u=zk a:=rx;exact iB I1 ea c k l (q s1 I1)
end
section
variable{X:Cx}{pins:List (Addr×Obj)}{σ:St}{H:Hp}{s:zd}{A:zD}{E:za->zd->Prop}{Q:za->zd->Prop}{c:za}{b:Bool}
inductive TyOf(K:zb)(H:Hp):V->za->Prop where
 |non:TyOf K H .non (.type "NoneType")
 |bl (x:Bool):TyOf K H (.bl x) (.type "bool")
 |int (i:Int):TyOf K H (.int i) (.type "int")
 |str (x:Str):TyOf K H (.str x) (.type "str")
 |flt (x:UInt64):TyOf K H (.flt x) (.type "float")
 |lst {a:Addr} {xs:List V} (e:H a=some (.lst xs)):TyOf K H (.ref a) (.type "list")
 |frz {a:Addr} {o:Obj} {xs:List V} (e:H a=some (.frz o (.lst xs))):TyOf K H (.ref a) (.type "list")
 |tup {a:Addr} {xs:List V} (e:H a=some (.tup xs)):TyOf K H (.ref a) (.type "tuple")
 |dK {a:Addr} {kvs:List (Key×V)} (e:H a=some (.dK kvs)):TyOf K H (.ref a) (.type "dict")
 |dT {a:Addr} {kvs:List (List Key×V)} (e:H a=some (.dT kvs)):TyOf K H (.ref a) (.type "dict")
 |ins {a C dx:Addr} {fs:List (Str×V)} (e:H a=some (.ins C dx fs)) (cl:Cls K C) (ha:zo K (.ref C) "__class__" = some (some (.builtin "object.__class__")))
   (hn:xF K (.builtin "object.__class__") "__get__" = some (some (.builtin "getset_descriptor.__get__"))) (htk:xT K (.builtin "object.__class__")=some true)
   (hm:vV K C (.type "object")=some true):TyOf K H (.ref a) (.ref C)
theorem nQ{x:V}{u t:za}(I:Inv X pins σ H s)(rx:aN x u)(ty:TyOf X.K H x t)(e:zG X.K t c=some b)(h:∀tk,Q (.bool b) { s with toks:=tk }) :
  zf (zg X.prog X.w) A (call (.builtin "isinstance") [u,c]) Q E s:=by
 cases ty with
 |non=>cases(show u=zP from rx);exact zF PySem.W.kitx_none I.kIn wX e (λz=>nomatch z) h
 |bl y=>cases(show u=xA y from rx);exact zF PySem.W.kitx_bool I.kIn wX e (λz=>nomatch z) h
 |int i=>obtain⟨t,q⟩:=(show ∃t,u=Value.int i t from rx);cases q;exact zF PySem.W.kitx_int I.kIn wX e (λz=>nomatch z) h
 |str y=>obtain⟨t,q⟩:=(show ∃t,u=Value.str y t from rx);cases q;exact zF PySem.W.kitx_str I.kIn wX e (λz=>nomatch z) h
 |flt y=>obtain⟨t,q⟩:=(show ∃t,u=Value.float y t from rx);cases q;exact zF PySem.W.kitx_float I.kIn wX e (λz=>nomatch z) h
 |@lst a xs ea=>
  cases(show u=zk a from rx);obtain⟨_,_,n,_,h1⟩:=(show bu X.prog X.w H s.heap a (.lst xs) from I.hok a _ ea);exact zF PySem.W.kitx_list I.kIn ⟨_,h1,rfl⟩ e (λz=>nomatch z) h
 |@frz a ob xs ea=>
  cases(show u=zk a from rx);obtain⟨_,_,_,n,_,h1⟩:=(show bu X.prog X.w H s.heap a (.frz ob (.lst xs)) from I.hok a _ ea);exact zF PySem.W.kitx_list I.kIn ⟨_,h1,rfl⟩ e (λz=>nomatch z) h
 |@tup a xs ea=>
  cases(show u=zk a from rx);obtain⟨_,_,_,p⟩:=(show bu X.prog X.w H s.heap a (.tup xs) from I.hok a _ ea);obtain⟨o,h1,h2,_⟩:=p;exact zF PySem.W.kitx_tuple I.kIn ⟨o,h1,h2⟩ e (λz=>nomatch z) h
 |@dK a kvs ea=>
  cases(show u=zk a from rx);obtain⟨_,_,vs,_,p⟩:=(show bu X.prog X.w H s.heap a (.dK kvs) from I.hok a _ ea);obtain⟨o,es,ep,h1,h2,_⟩:=p;exact zF PySem.W.kitx_dict I.kIn ⟨o,h1,h2.1⟩ e (λz=>nomatch z) h
 |@dT a kvs ea=>
  cases(show u=zk a from rx);obtain⟨_,_,xs,_,o,es,ep,h1,h2,_⟩:=(show bu X.prog X.w H s.heap a (.dT kvs) from I.hok a _ ea);exact zF PySem.W.kitx_dict I.kIn ⟨o,h1,h2.1⟩ e (λz=>nomatch z) h
 |@ins a C dx fs ea cl ha hn htk hm=>
  cases(show u=zk a from rx);obtain⟨mA,O,_⟩:=ie I.hok ea;obtain⟨od,J,_⟩:=O.look;exact zF (PySem.W.kitx_own (cl.get _) cl.hd ha hn htk hm) I.kIn J e (λz=>nomatch z) h
end
structure Room(k:Nat)(A:zD):Prop where
 hd:A.handled=none
 dp:A.depth+3*k+5<recursionLimit
 un:A.units+16*k+200<cLine
theorem Room.mono{j k:Nat}{A:zD}(r:Room k A)(h:j<=k):Room j A:=⟨r.hd,by have:=r.dp;lia,by have:=r.un;lia⟩
theorem Room.deeper{k:Nat}{A:zD}(r:Room (k+1) A)(env:Env):Room k (A.deeper env):=
 ⟨r.hd,by have:=r.dp;show A.depth+1+3*k+5<_;lia,by have:=r.un;show A.units+3+16*k+200<_;lia⟩
theorem kW{A:zD}{C:Addr}{us:List za}{kw:List (Str×za)}:(A.under (.builtin "type.__call__" ⟨.ref C::us,kw⟩)).depth=A.depth+1:=by
 first | rfl | simp[Around.under,Code.weight,Code.isCreation,Code.isGuard,Code.isCaller,Code.frames,Code.isFrame,guardIds]
theorem kK{A:zD}{C:Addr}{us:List za}{kw:List (Str×za)}:(A.under (.builtin "type.__call__" ⟨.ref C::us,kw⟩)).units=A.units+1:=by
 first | rfl | simp[Around.under,Code.cUnits,Code.frames,Code.isFrame]
theorem Room.make{k:Nat}{A:zD}(r:Room (k+1) A)(C:Addr)(us:List za)(kw:List (Str×za)):Room k (A.under (.builtin "type.__call__" ⟨.ref C::us,kw⟩)):=
 ⟨r.hd,by have:=r.dp;rw[kW];lia,by have:=r.un;rw[kK];lia⟩
theorem Room.depth{k:Nat}{A:zD}(r:Room k A):A.depth<recursionLimit:=by have:=r.dp;lia
theorem Room.units{k:Nat}{A:zD}(r:Room k A):A.units+64<cLine:=by have:=r.un;lia
def sY:TA:=λ_ H Q=>Q [] H
def oF(ta:TE)(tr:TA):TA:=λσ H Q=>ta σ H λx H1=>tr σ H1 λxs H2=>Q (x::xs) H2
section
variable{X:Cx}{e:Expr}{es:List Expr}{te:TE}{t:TA}{pos:Pos}
theorem aB:PA X [] sY:=λ_ _ _ _ H Q I h=>Calls.spliced_nil ⟨[],H,I,.nil,h⟩
theorem ao(ha:PE X e te)(hr:PA X es t)(hs:zj (e::es) X.env=(false,eval e X.env)::zj es X.env:=by rfl):PA X (e::es) (oF te t):=by
 intro pos pins s σ H Q I h;rw[hs];show zf _ _ (spliced ((false,eval e X.env)::wo pos (zj es X.env))) _ _ s;refine Calls.spliced_cons (thn (ha pins s σ H _ I h) λu s1 ⟨x,H1,I1,r1,q1⟩=>?_);exact thn (hr pos pins s1 σ H1 _ I1 q1) λus s2 ⟨xs,H2,I2,r2,q2⟩=>⟨x::xs,H2,I2,.cons r1 r2,q2⟩
def vx(t:TA):TE:=λσ H Q=>t σ H λxs H1=>xs.length<=zt/\∀p,H1 p=none->Q (.ref p) (upd H1 p (.tup xs))
def vw(t:TA):TE:=λσ H Q=>t σ H λxs H1=>xs.length<=zt/\∀p,H1 p=none->Q (.ref p) (upd H1 p (.lst xs))
theorem fH{x1}(h:PA X es t):PE X (.Tuple es x1 pos) (vx t):=by
 intro pins s σ H Q I hq;refine wpAny_Tuple_spliced (thn (h pos pins s σ H _ I hq) λus s1 ⟨xs,H1,I1,r,z,q⟩=>⟨by rw[<-r.length];exact z,?_⟩);have hf:H1 s1.heap.objs.size=none:=I1.hok.fresh (zp _);refine⟨.ref s1.heap.objs.size,upd H1 s1.heap.objs.size (.tup xs),I1.laid (t':=s1.toks) (λb u e=>ze _ e) (zp _) ?_,rfl,q _ hf⟩;exact⟨z,us,r,⟨_,zr _ rfl,rfl,_,rfl⟩⟩
theorem cZ(h:PA X es t):PE X (.List es pos) (vw t):=by
 intro pins s σ H Q I hq;refine wpAny_List_spliced (thn (h pos pins s σ H _ I hq) λus s1 ⟨xs,H1,I1,r,z,q⟩=>⟨by rw[<-r.length];exact z,?_⟩);have hf:H1 s1.heap.objs.size=none:=I1.hok.fresh (zp _);refine⟨.ref s1.heap.objs.size,upd H1 s1.heap.objs.size (.lst xs),I1.laid (t':=s1.toks) (λb u e=>ze _ e) (zp _) ?_,rfl,q _ hf⟩;exact⟨z,us,0,r,zr _ rfl⟩
end
abbrev Sp:=List V->Hp->VK->XK->Prop
abbrev CXT:=List Env->Hp->zd->XK->za->zd->Prop
structure Env0(P:zv)(w:zA)(K:zb)(mg:Str->Option za)(base:Heap)(A:zD)(outer:List Env)(s:zd)(H:Hp):Prop where
 frames:A.frames=some outer
 mod:Mod K mg base
 bs:∀b o,base.get? b=some o->s.heap.get? b=some o/\H b=none
 bsz:base.objs.size<=s.heap.objs.size
 funs:s.heap.FunFrames base outer
 frf:∀b∈frs outer,H b=none
 hok:HOk P w H s.heap
 bare:AllBare s.gens
def CE(outer:List Env)(P:zv)(w:zA)(H:Hp)(s:zd)(Q:VK)(u:za)(s':zd):Prop:=
 ∃v H',s'.os=s.os/\AllBare s'.gens/\Un (frs outer) [] H H' s.heap s'.heap/\HOk P w H' s'.heap/\aN v u/\Q v H'
def CR(CX:CXT)(outer:List Env)(P:zv)(w:zA)(H:Hp)(s:zd)(Q:VK)(E:XK)(r:Result)(s':zd):Prop:=
 match r with
 |.ok (.ret u)=>CE outer P w H s Q u s'
 |.ok _=>False
 |.error e=>CX outer H s E e s'
structure FnOk(P:zv)(w:zA)(K:zb)(mg:Str->Option za)(base:Heap)(CX:CXT)(k:Nat)(f:Addr)(fd:zX)(ps:List Str)(sp:Sp):Prop where
 len:∀vs H Q E,sp vs H Q E->vs.length=ps.length
 run:∀(A:zD) (outer:List Env) (s:zd) (H:Hp) (args:Args) (us:List za) (vs:List V) (Q:VK) (E:XK),Room k A->Env0 P w K mg base A outer s H->BindsTo s fd args (ps.zip us)->aL vs us->sp vs H Q E->
  codeAny (zg P w) A (.call (.ref f) args) (CR CX outer P w H s Q E) s
theorem FnOk.mono{P:zv}{w:zA}{K:zb}{mg:Str->Option za}{base:Heap}{CX:CXT}{j k:Nat}{f:Addr}{fd:zX}{ps:List Str}{sp:Sp}(F:FnOk P w K mg base CX j f fd ps sp)(h:j<=k) :
  FnOk P w K mg base CX k f fd ps sp:=⟨F.len,λA outer s H args us vs Q E hr=>F.run A outer s H args us vs Q E (hr.mono h)⟩
theorem Env0.make{P:zv}{w:zA}{K:zb}{mg:Str->Option za}{base:Heap}{A:zD}{outer:List Env}{s:zd}{H:Hp}(e:Env0 P w K mg base A outer s H)(C:Addr)(us:List za)(kw:List (Str×za)) :
  Env0 P w K mg base (A.under (.builtin "type.__call__" ⟨.ref C::us,kw⟩)) outer s H:=⟨by first | exact e.frames | (simpa[Around.under,Code.envs,Code.isFrame,pushEnvs] using e.frames),e.mod,e.bs,e.bsz,e.funs,e.frf,e.hok,e.bare⟩
section
variable{X:Cx}{pins:List (Addr×Obj)}{σ:St}{H:Hp}{s s':zd}
theorem Inv.env0(I:Inv X pins σ H s):Env0 X.prog X.w X.K X.mg X.base X.A X.stack s H:=
 ⟨I.ok.frames,I.ok.mod,I.bs,zO I.ok.bsz I.sz,I.stack,I.stkFree,I.hok,I.bare⟩
theorem Inv.after{Q:VK}{u:za}(I:Inv X pins σ H s)(h:CE X.stack X.prog X.w H s Q u s'):EP X pins σ Q u s':=by
 obtain⟨v,H',os,bare,un,hok,r,q⟩:=h;obtain⟨hh,g,d,t,os'⟩:=s';obtain rfl:os'=s.os:=os;exact⟨v,H',I.call (h':=hh) (g':=g) (d':=d) (t':=t) (ch:=[]) un hok bare (λb z=>absurd z (by simp)),r,q⟩
end
def uW(sp:Sp)(dvs:List V)(E:XK)(t:TA):TE:=λσ H Q=>t σ H λvs H1=>sp (vs++dvs) H1 Q E
def uA(C:Addr)(m:Str)(sp:Sp)(dvs:List V)(E:XK)(ta:TE)(t:TA):TE:=λσ H Q=>ta σ H λx H1=>∃a dx fs,x=.ref a/\H1 a=some (.ins C dx fs)/\fs.lookup m=none/\
 t σ H1 λvs H2=>sp (x::(vs++dvs)) H2 Q E
def ej(K:zb)(fd:zX)(ps:List Str)(ds:List za):Prop:=
 ∀(s:zd) (us:List za),K.In s.heap->(us++ds).length=ps.length->BindsTo s fd ⟨us,[]⟩ (ps.zip (us++ds))
theorem ej.all{K:zb}{fd:zX}{ps:List Str}(h:∀us:List za,us.length=ps.length->bindArgs fd ⟨us,[]⟩=pure (ps.zip us)):ej K fd ps []:=λs us _ hl=>by
 rw[xg] at hl ⊢;exact .of_eq (h us hl)
def iG(CX:CXT)(X:Cx)(E:XK):Prop:=∀(pins:List (Addr×Obj)) (σ:St) (H:Hp) (s:zd) (e:za) (s':zd),Inv X pins σ H s->CX X.stack H s E e s'->X.xe e s'
section
variable{X:Cx}{CX:CXT}{k:Nat}{f C:Addr}{fd:zX}{ps:List Str}{sp:Sp}{dvs:List V}{ds:List za}{E:XK}{x m:Str}{p pos apos:Pos}{e o:Expr}{es:List Expr}{ta:TE}{t:TA}
theorem nZ{pins:List (Addr×Obj)}{σ:St}{H:Hp}{s:zd}{Q:VK}{us:List za}{vs:List V}(F:FnOk X.prog X.w X.K X.mg X.base CX k f fd ps sp)(hr:Room k X.A)(hb:ej X.K fd ps ds)(hd:aL dvs ds)(hx:iG CX X E)
  (I:Inv X pins σ H s) (r:aL vs us) (h:sp (vs++dvs) H Q E):zf (zg X.prog X.w) X.A (call (.ref f) us) (EP X pins σ Q) X.xe s:=by
 have r2:aL (vs++dvs) (us++ds):=r.append hd;have hl:(us++ds).length=ps.length:=by rw[<-r2.length];exact F.len _ _ _ _ h
 refine wpAny_call (codeAny_mono (F.run X.A X.stack s H ⟨us,[]⟩ (us++ds) (vs++dvs) Q E hr I.env0 (hb s us I.kIn hl) r2 h) λr s' hq=>?_);cases r with
 |error e=>exact hx pins σ H s e s' I hq
 |ok fl=>
  cases fl with
  |ret u=>exact I.after hq
  |next=>exact zW hq
  |brk=>exact zW hq
  |cont=>exact zW hq
theorem il(F:FnOk X.prog X.w X.K X.mg X.base CX k f fd ps sp)(hr:Room k X.A)(hg:Gl X x)(hm:X.mg x=some (.ref f))(hk:zY X.K (.ref f)=true)(hb:ej X.K fd ps ds)(hd:aL dvs ds)(hx:iG CX X E)
  (ha:PA X (e::es) t) (hdb:(x==("__debug__" : Str))=false:=by decide) (he:zj (e::es) X.env=(false,eval e X.env)::zj es X.env:=by rfl) (hpl:(wo pos (zj es X.env)).any (·.1)=false:=by rfl) :
  PE X (.Call (.Name x p) (e::es) [] pos) (uW sp dvs E t):=by
 intro pins s σ H Q I h;refine xa (eZ I hg hm ?_ hdb);refine PySem.W.callWith_K (h₀:=X.base) I.ok.mod.kin hk (thn (ha pos pins s σ H _ I h) λus s1 ⟨vs,H1,I1,r,q⟩=>⟨I1.kIn,?_⟩) he hpl;exact nZ F hr hb hd hx I1 r q
theorem dD{pl:Sem Bool}(he:PE X o ta)(c:Cls X.K C)(hm:Meth X.K C m f)(F:FnOk X.prog X.w X.K X.mg X.base CX k f fd ps sp)(hr:Room k X.A)(hb:ej X.K fd ps ds)(hd:aL dvs ds)(hx:iG CX X E)
  (ht:eval (.Call (.Attribute o m apos) [] [] pos) X.env=(do
   let ov<-eval o X.env
   standAt apos.atName
   let(f,first)<-holding [ov] (getMethod ov m pl)
   callWith pos f first (wo pos (zj [] X.env)) (backToKw pos (keywordEach [] X.env))):=by rfl) :
  PE X (.Call (.Attribute o m apos) [] [] pos) (uA C m sp dvs E ta sY):=by
 intro pins s σ H Q I h;refine PySem.W.methodCall_KW (pl:=pl) (thn (he pins s σ H _ I h) λu s1 ⟨x,H1,I1,rx,a,dx,fs,ex,ea,l,q⟩=>?_) ht;subst ex;obtain rfl:u=zk a:=rx;refine iB I1 ea c hm l ?_;exact PySem.W.callWith_K0 (first:=[.ref a]) I1.kIn hm.kp (nZ (us:=[.ref a]) (vs:=[.ref a]) F hr hb hd hx I1 (.cons rfl .nil) q)
structure Mk(K:zb)(C f:Addr):Prop where
 makes:PySem.W.makesIn K C=true
 init:zo K (.ref C) "__init__" = some (some (.ref f))
 fn:PySem.W.isFn K (.ref f)=true
 kp:zY K (.ref C)=true
end
structure FnScope(N P:List Str)(sc:Scope):Prop where
 kind:sc.kind=.function
 co:sc.isCoroutine=false
 gen:sc.isGenerator=false
 nd:N.Nodup
 pre:N.take P.length=P
 par:∀x∈P,sc.names.lookup x=some .local\/sc.names.lookup x=some .cell
 nofree:∀y∈sc.names,y.2≠.free
theorem i7{kindOf:Str->Option NameKind}{x:Str}:∀{binds:List (Str×za)} {m:Str->Option za},(∀v,(x,v)∉binds)->bindL kindOf binds m x=m x
 |[],_,_=>rfl
 |(n,v)::r,m,h=>by
  unfold bindL;rw[i7 λw hw=>h w (zQ _ hw)];split
  ·have:x≠n:=by rintro rfl;exact h v wG
   simp[this]
  ·rfl
theorem i8{kindOf:Str->Option NameKind}{x:Str}:∀{binds:List (Str×za)} {m:Str->Option za},(∀v,(x,v)∉binds)->bindC kindOf binds m x=m x
 |[],_,_=>rfl
 |(n,v)::r,m,h=>by
  unfold bindC;rw[i8 λw hw=>h w (zQ _ hw)];split
  ·rfl
  ·have:x≠n:=by rintro rfl;exact h v wG
   simp[this]
theorem jj{kindOf:Str->Option NameKind}{x:Str}{v:za}:∀{P:List Str} {vs:List za} {i:Nat} {m:Str->Option za},P.Nodup->P[i]?=some x->vs[i]?=some v->kindOf x=some .local->
  bindL kindOf (P.zip vs) m x=some v
 |[],_,_,_,_,h,_,_=>by simp at h
 |_::_,[],_,_,_,_,h,_=>by simp at h
 |p::P,w::vs,0,m,nd,h1,h2,hk=>by
  simp at h1 h2;subst h1;subst h2;show bindL kindOf ((p,w)::P.zip vs) m p=_;unfold bindL;rw[i7 λv hv=>(xU.mp nd).1 (List.of_mem_zip hv).1,if_pos hk];simp
 |p::P,w::vs,i+1,m,nd,h1,h2,hk=>by
  show bindL kindOf ((p,w)::P.zip vs) m x=_;unfold bindL;exact jj (i:=i) (xU.mp nd).2 (by simpa using h1) (by simpa using h2) hk
theorem jk{kindOf:Str->Option NameKind}{x:Str}{v:za}:∀{P:List Str} {vs:List za} {i:Nat} {m:Str->Option za},P.Nodup->P[i]?=some x->vs[i]?=some v->kindOf x≠some .local->
  bindC kindOf (P.zip vs) m x=some v
 |[],_,_,_,_,h,_,_=>by simp at h
 |_::_,[],_,_,_,_,h,_=>by simp at h
 |p::P,w::vs,0,m,nd,h1,h2,hk=>by
  simp at h1 h2;subst h1;subst h2;show bindC kindOf ((p,w)::P.zip vs) m p=_;unfold bindC;rw[i8 λv hv=>(xU.mp nd).1 (List.of_mem_zip hv).1,if_neg hk];simp
 |p::P,w::vs,i+1,m,nd,h1,h2,hk=>by
  show bindC kindOf ((p,w)::P.zip vs) m x=_;unfold bindC;exact jk (i:=i) (xU.mp nd).2 (by simpa using h1) (by simpa using h2) hk
def eG(N:List Str)(vs:List V):St:=vs.map some++wU (N.length-vs.length) none
def fv(CX:CXT)(P:zv)(w:zA)(K:zb)(mg:Str->Option za)(base:Heap)(N:List Str)(qual:Str)(scope:Scope)(f:Addr)(cd:za)(A:zD)(outer:List Env)(s:zd)(H:Hp)(E:XK):Cx where
 prog:=P
 w:=w
 K:=K
 mg:=mg
 base:=base
 A:=A.deeper (envOfC qual scope s.heap.objs.size f cd)
 N:=N
 s₀:=s
 H₀:=H
 env:=envOfC qual scope s.heap.objs.size f cd
 outer:=outer
 stack:=envOfC qual scope s.heap.objs.size f cd::outer
 ex:=[]
 calm:=true
 fn:=λ_=>true
 pn:=[]
 xe:=λe s'=>zf (zg P w) (A.deeper (envOfC qual scope s.heap.objs.size f cd)) (leaving (envOfC qual scope s.heap.objs.size f cd) e) (λ_ s''=>CX outer H s E e s'') (λe' s''=>CX outer H s E e' s'') s'
theorem kb{sc:Scope}{n:Nat}{x:Str}(h:sc.names.lookup x=some .cell):∃c,(cellsFrom n sc.names []).lookup x=some c:=by
 have q:=PySem.W.cellsFrom_some sc.names n [] (.inl h);exact Option.isSome_iff_exists.mp q
theorem nA{CX:CXT}{P:zv}{w:zA}{K:zb}{mg:Str->Option za}{base:Heap}{N ps:List Str}{qual:Str}{scope:Scope}{f:Addr}{cd:za}{A:zD}{outer:List Env}{s s1:zd}{H:Hp}{E:XK}{us:List za}{vs:List V}
  (S:FnScope N ps scope) (hd:A.handled=none) (e0:Env0 P w K mg base A outer s H) (hl:vs.length=ps.length) (r:aL vs us)
  (x:InCallC s s.heap.objs.size (bindL (envOfC qual scope s.heap.objs.size f cd).kindOf (ps.zip us) λ_=>none) (cellsFrom (s.heap.objs.size+1) scope.names []) (bindC (envOfC qual scope s.heap.objs.size f cd).kindOf (ps.zip us) λ_=>none) s1) :
  Inv (fv CX P w K mg base N qual scope f cd A outer s H E) [] (eG N vs) H s1:=by
 have hpl:ps.length<=N.length:=by have:=congrArg List.length S.pre;rw[List.length_take] at this;lia
 obtain⟨h1,tk,rfl,hk⟩:=x.done;have noA:∀b:Addr,b∉(fv CX P w K mg base N qual scope f cd A outer s H E).ex:=λb z=>absurd (show b∈([]:List Addr) from z) (by simp)
 refine⟨⟨e0.mod,S.kind,rfl,rfl,zp _,λy z c h1 h2=>?_,λy hy=>?_,λy c _ h=>?_,λ_=>hd,Around.frames_deeper e0.frames,.inr ⟨rfl,rfl⟩,λb z=>absurd z (noA b),e0.bs,e0.bsz,λb _ _=>noA b,λb z=>absurd z (noA b),e0.funs,e0.frf⟩,
  rfl,e0.bare,Un.kept hk,⟨_,x.toInCall.ns,λi y v h1 h2 h3=>?_⟩,λy c h=>⟨_,x.cell y c h⟩,e0.hok.fresh (zp _),λy c h=>?_,λp hp=>absurd (show p∈([]:List (Addr×Obj)) from hp) (by simp),e0.hok.kept hk,?_⟩
 ·exact name_of_addr x.apart (we h1) (we h2)
 ·have hy:scope.names.lookup y=some .cell\/scope.names.lookup y=some .free:=hy
  rcases hy with hy | hy
  ·exact kb hy
  ·exact absurd rfl (S.nofree _ (we hy))
 ·exact Nat.le_of_lt (x.above y c (we h))
 ·have hi:i<vs.length:=by
   unfold eG at h2
   by_cases hi:i<vs.length
   ·exact hi
   ·rw[vW (by simpa using hi)] at h2
    rw[wB] at h2;split at h2<;>cases h2
  have ha:vs[i]?=some v:=by
   unfold eG at h2;rw[wk (by simpa using hi),zH] at h2;cases e:vs[i]? with
   |none=>rw[e] at h2;cases h2
   |some a=>rw[e] at h2;cases h2;rfl
  obtain⟨u,hu,rv⟩:=r.get ha
  have hp:ps[i]?=some y:=by
   rw[<-S.pre,List.getElem?_take_of_lt (by lia)];exact h1
  have ndP:ps.Nodup:=by rw[<-S.pre];exact S.nd.sublist (List.take_sublist _ _)
  refine⟨u,rv,?_⟩;rcases S.par y (xj hp) with k | k
  ·exact .inl ⟨k,jj ndP hp hu k⟩
  ·obtain⟨c,e⟩:=kb (n:=s.heap.objs.size+1) k
   refine .inr ⟨.inl k,c,e,?_⟩;have q:=x.cell y c e;rw[jk ndP hp hu (by show scope.names.lookup y≠_;rw[k];decide)] at q;exact q
 ·exact e0.hok.fresh (Nat.le_of_lt (x.above y c (we h)))
 ·unfold eG
  show _=N.length;rw[vY,wj,wH]
  lia
theorem lY{CX:CXT}{P:zv}{w:zA}{K:zb}{mg:Str->Option za}{base:Heap}{k:Nat}{f:Addr}{name qual:Str}{params:Arguments}{body:List Stmt}{scope:Scope}{dV kV doc pm cdv ct oc:za}{an od:Option Addr}
  {osl:Array (Option za)} {N ps:List Str} {sp:Sp} (lk:K.lookup f=some ⟨oc,od,.func (vZ name qual params body scope dV kV doc pm an cdv ct),osl⟩) (hcd:xp K cdv qual=true) (S:FnScope N ps scope)
  (len:∀vs H Q E,sp vs H Q E->vs.length=ps.length)
  (hbody:∀(A:zD) (outer:List Env) (s:zd) (H:Hp) (vs:List V) (Q:VK) (E:XK),Room k (A.deeper (envOfC qual scope s.heap.objs.size f cdv))->sp vs H Q E->
   ∃t,PSs (fv CX P w K mg base N qual scope f cdv A outer s H E) body t/\t { nx:=λ_ H'=>Q .non H',rt:=Q } (eG N vs) H) :
  FnOk P w K mg base CX (k+1) f (vZ name qual params body scope dV kV doc pm an cdv ct) ps sp:=by
 refine⟨len,λA outer s H args us vs Q E hr e0 hb r hsp=>?_⟩;have hl:=len _ _ _ _ hsp;have KX:K.In s.heap:=e0.mod.kin.keeps λb o e=>(e0.bs b o e).1;have lim:s.heap.NoLimit:=e0.mod.nolimit.keeps λb o e=>(e0.bs b o e).1
 have hkind:∀y∈ps.zip us,scope.names.lookup y.1=some .local\/(scope.names.lookup y.1=some .cell/\((cellsFrom (s.heap.objs.size+1) scope.names []).lookup y.1).isSome=true):=λ⟨n,v⟩ hy=>by
  rcases S.par n (List.of_mem_zip hy).1 with q | q
  ·exact .inl q
  ·exact .inr ⟨q,PySem.W.cellsFrom_some _ _ _ (.inl q)⟩
 refine codeAny_call_function hr.depth (KX _ _ lk) rfl S.co S.gen rfl (PySem.W.codeRec_of KX hcd) (hb _ _ _ _ ?_);refine wpAny_newFunctionEnv_cells S.kind hkind λenv he s1 x=>?_;subst he;refine⟨lim.keeps x.toInCall.keep,codeAny_func ?_⟩;obtain⟨t,ht,hq⟩:=hbody A outer s H vs Q E (hr.deeper _) hsp;have I:Inv (fv CX P w K mg base N qual scope f cdv A outer s H E) [] (eG N vs) H s1:=nA S hr.hd e0 hl r x;refine wz (ht [] s1 (eG N vs) H _ I hq) (λfl s' hs=>?_) λe s' hs=>hs
 have fin:∀{σ':St} {H':Hp} {v:V} {u:za},Inv (fv CX P w K mg base N qual scope f cdv A outer s H E) [] σ' H' s'->aN v u->Q v H'->CE outer P w H s Q u s':=
  λ{σ' H' v u} J rv q=>⟨v,H',J.os,J.bare,J.base,J.hok,rv,q⟩
 cases fl with
 |ret u=>
  obtain⟨v,σ',H',J,rv,q⟩:=hs;exact fin J rv q
 |next=>
  obtain⟨σ',H',J,q⟩:=hs;exact fin (v:=V.non) (u:=zP) J rfl q
 |brk=>
  obtain⟨_,_,_,q⟩:=hs;exact zW q
 |cont=>
  obtain⟨_,_,_,q⟩:=hs;exact zW q
section
variable{X:Cx}{x:Str}{p pos:Pos}{e:Expr}{es:List Expr}{t:TA}{id T:String}{r:List V->Hp->VK->Prop}
def tCB(r:List V->Hp->VK->Prop)(t:TA):TE:=λσ H Q=>t σ H λvs H1=>r vs H1 Q
theorem dH(hc:fq X (.builtin id) r)(hg:Gl X x)(hm:X.mg x=none)(hv:wY x=some (.builtin id))(ha:PA X (e::es) t)(hn:x≠"__name__":=by decide)(hdb:(x==("__debug__" : Str))=false:=by decide)
  (he:zj (e::es) X.env=(false,eval e X.env)::zj es X.env:=by rfl) (hpl:(wo pos (zj es X.env)).any (·.1)=false:=by rfl):PE X (.Call (.Name x p) (e::es) [] pos) (tCB r t):=by
 intro pins s σ H Q I h;refine xa (gC I hg hm hv ?_ hn hdb);exact PyProof.Rows.callWith_builtin1 (thn (ha pos pins s σ H _ I h) λus s1 ⟨vs,H1,I1,r1,q1⟩=>hc pins s1 σ H1 vs us Q I1 r1 q1) he hpl
theorem bU(hc:fq X (.type T) r)(hg:Gl X x)(hm:X.mg x=none)(hv:wY x=some (.type T))(ha:PA X (e::es) t)(hn:x≠"__name__":=by decide)(hdb:(x==("__debug__" : Str))=false:=by decide)
  (he:zj (e::es) X.env=(false,eval e X.env)::zj es X.env:=by rfl) (hpl:(wo pos (zj es X.env)).any (·.1)=false:=by rfl):PE X (.Call (.Name x p) (e::es) [] pos) (tCB r t):=by
 intro pins s σ H Q I h;refine xa (gC I hg hm hv ?_ hn hdb);exact w8 (thn (ha pos pins s σ H _ I h) λus s1 ⟨vs,H1,I1,r1,q1⟩=>hc pins s1 σ H1 vs us Q I1 r1 q1) he hpl
end
end L2
namespace HT
open PySem PyProof.Rows
section
open PySem.SeqAt
open PySem.AutoSeq1 (wpAny_loadPart')
open PySem.MeetsSeq PySem.MeetsSeq2 PySem.MeetsSeq3
end
section
variable{prog:zv}{w:zA}{A:zD}{E:za->zd->Prop}{s:zd}
theorem qG{t b:Addr}{vs ws:List za}{Q:za->zd->Prop}(ht:IsTup s.heap t vs.toArray)(hb:IsTup s.heap b ws.toArray)(hv:vs≠[])
  (h1:ws=[]->Q (.ref t) s) (h2:ws≠[]->Q (.ref s.heap.objs.size) { s with heap:=s.heap.push { cls:=.type "tuple",data:=.seq (vs++ws).toArray } })
  (hsz:vs.length+ws.length<=zt):zf (zg prog w) A (v7 .Add (.ref t) (.ref b)) Q E s:=by
 obtain⟨⟨cls,dd,data,sl⟩,ho,hc,n,hd⟩:=id ht;obtain⟨⟨cls2,dd2,data2,sl2⟩,ho2,hc2,n2,hd2⟩:=id hb;simp only at hc hd hc2 hd2;subst hc hd hc2 hd2;have e:vs.toArray++ws.toArray=(vs++ws).toArray:=by simp
 by_cases hw:ws=[]
 ·exact concat_meets ⟨_,ho,rfl⟩ ⟨_,ho2,rfl⟩ noFill_tuple_add seq_tuple_add xD xv (xr _ _)
   (tuple_addW1 t b vs.toArray ws.toArray n n2 dd dd2 sl sl2 (by simpa using hv) (by simp[hw])) ⟨ho,ho2,h1 hw⟩
 ·refine concat_meets ⟨_,ho,rfl⟩ ⟨_,ho2,rfl⟩ noFill_tuple_add seq_tuple_add xD xv (xr _ _)
   (tuple_addW2 t b vs.toArray ws.toArray n n2 dd dd2 sl sl2 (by simpa using hv) (by simpa using hw) (by rw[zu,zu];exact hsz)) ⟨ho,ho2,?_⟩
  rw[e];exact h2 hw
def sIx(n d:Nat):Option Int->Nat
 |none=>d
 |some v=>if v<0 then(v+(n:Int)).toNat else min v.toNat n
theorem pk(n d:Nat):sIx n d none=d:=rfl
theorem jF(n d k:Nat):sIx n d (some (k:Int))=min k n:=by
 show(if(k:Int)<0 then((k:Int)+(n:Int)).toNat else min (k:Int).toNat n)=min k n;rw[if_neg (by lia),Int.toNat_natCast]
theorem sO(n d:Nat)(hd:d<=n)(o:Option Int):sIx n d o<=n:=by
 cases o with
 |none=>exact hd
 |some v=>
  show(if v<0 then(v+(n:Int)).toNat else min v.toNat n)<=n
  by_cases hv:v<0
  ·rw[if_pos hv];lia
  ·rw[if_neg hv];exact Nat.min_le_right _ _
theorem mJ(v:Int)(n d:Nat):(if v<0 then max (v+(n:Int)) 0 else min v (n:Int))=((sIx n d (some v):Nat):Int):=by
 show(if v<0 then max (v+(n:Int)) 0 else min v (n:Int))=(((if v<0 then(v+(n:Int)).toNat else min v.toNat n):Nat):Int)
 by_cases hv:v<0
 ·simp only[if_pos hv];lia
 ·simp only[if_neg hv];lia
theorem lF(lo hi:Option Int)(n:Nat):Builtin.Slice.sliceAdjust lo hi 1 (n:Int)=(((sIx n 0 lo:Nat):Int),((sIx n n hi:Nat):Int)):=by
 have h1:¬ ((1:Int)<0):=by lia
 unfold Builtin.Slice.sliceAdjust;simp only[h1,if_false];refine Prod.ext ?_ ?_
 ·cases lo with
  |none=>rfl
  |some v=>exact mJ v n 0
 ·cases hi with
  |none=>rfl
  |some v=>exact mJ v n n
theorem kJ(i j:Nat):xk (i:Int) (j:Int) 1=j-i:=by
 unfold xk;have h1:(1:Int)>0:=by lia
 simp only[h1,if_true,Int.ediv_one];split<;>lia
theorem ir{v:za}{o:Option Int}{Q:Option Int->zd->Prop}(p:IsPart v o)(h:Q o s):zf (zg prog w) A (Builtin.Slice.slicePartIndex v) Q E s:=by
 cases p with
 |none=>exact slicePart_none h
 |int i t=>exact slicePart_int h
theorem gz{sl:Addr}{vl vu:za}{lo hi:Option Int}{n:Nat}{Q:Int×Int×Nat->zd->Prop}(hs:s.heap.IsSliceOf sl vl vu .none)(pl:IsPart vl lo)(pu:IsPart vu hi)
  (h:Q (((sIx n 0 lo:Nat):Int),1,sIx n n hi-sIx n 0 lo) s):zf (zg prog w) A (Builtin.Slice.sliceApplied (.ref sl) (pure (n:Int))) Q E s:=by
 obtain⟨os,hos,hcs,hds⟩:=id hs;unfold Builtin.Slice.sliceApplied Builtin.Slice.sliceFields;refine zc (zc (zR hos hds (x:=vl) rfl (zc (zR hos hds (x:=vu) rfl (zc (zR hos hds (x:=.none) rfl (zi ?_)))))));refine zc (slicePart_none ?_);show zf _ _ (if((1:Int)==0)=true then _ else _) _ _ s;rw[if_neg (by decide)];refine zc (ir pl (zc (ir pu (zc (zi ?_)))));show zf _ _ (match Builtin.Slice.sliceAdjust lo hi 1 (n:Int) with | (lo,hi)=>pure (lo,(1:Int),xk lo hi 1)) _ _ s;rw[lF lo hi n];show zf _ _ (pure (((sIx n 0 lo:Nat):Int),(1:Int),xk ((sIx n 0 lo:Nat):Int) ((sIx n n hi:Nat):Int) 1)) _ _ s;rw[kJ];exact zi h
theorem pP(xs:Array za)(i k:Nat):((vX k).filterMap λ(m:Nat)=>xs[((i:Int)+(m:Int)*1).toNat]?).toArray=((xs.toList.drop i).take k).toArray:=by
 have e:(λ(m:Nat)=>xs[((i:Int)+(m:Int)*1).toNat]?)=λm=>xs[i+m]?:=by
  funext m
  have:((i:Int)+(m:Int)*1).toNat=i+m:=by lia
  rw[this]
 rw[e];have:=pick_run xs i k;rw[List.filterMap_map] at this;have e2:((λx=>xs[x]?)∘λx=>i+x)=λm=>xs[i+m]?:=rfl;rw[e2] at this;rw[this]
theorem gc{t sl:Addr}{items:Array za}{vl vu:za}{lo hi:Option Int}{Q:za->zd->Prop}(ht:IsTup s.heap t items)(hs:s.heap.IsSliceOf sl vl vu .none)(pl:IsPart vl lo)(pu:IsPart vu hi)
  (hw:¬ (sIx items.size 0 lo=0/\sIx items.size items.size hi=items.size))
  (h:Q (.ref s.heap.objs.size) { s with heap:=s.heap.push { cls:=.type "tuple",data:=.seq ((items.toList.drop (sIx items.size 0 lo)).take (sIx items.size items.size hi-sIx items.size 0 lo)).toArray } })
  (hsz:items.size<=zt):zf (zg prog w) A (getItem (.ref t) (.ref sl)) Q E s:=by
 have htake:sizeOk (.seq ((items.toList.drop (sIx items.size 0 lo)).take (sIx items.size items.size hi-sIx items.size 0 lo)).toArray):=by
  show((items.toList.drop (sIx items.size 0 lo)).take (sIx items.size items.size hi-sIx items.size 0 lo)).toArray.size<=zt;rw[zu,List.length_take,List.length_drop,Array.length_toList]
  lia
 have hj:sIx items.size items.size hi<=items.size:=sO _ _ (zp _) hi;obtain⟨os,hos,hcs,hds⟩:=id hs;have hTs:s.TypeIs (.ref sl) "slice":=⟨os,hos,hcs⟩;unfold getItem
 try with_reducible refine v9 ?_
 first | refine zc (zi ?_) | skip
 refine zc (wpAny_sequenceKey ht.typeIs (by decide) ?_)
 refine zc (wC (name:=Str.ofString "__getitem__") ht.typeIs PyProof.Rows.slot_tuple_getitem
  (xt PyProof.Rows.slot_tuple_getitem ht.typeIs entry_tuple_getitem ?_ (args_tuple_getitem _ _)))
 show zf _ _ (Builtin.Tuple.tupleItemsOf (.ref t)>>=_) _ _ s;refine zc (tupleItemsOf_ ht ?_);refine zc (wpAny_typeOf hTs ?_);rw[if_pos (by decide)];refine zc (gz hs pl pu ?_)
 have hno:¬ ((((sIx items.size 0 lo:Nat):Int)==0&&(1:Int)==1&&(sIx items.size items.size hi-sIx items.size 0 lo)==items.size)=true):=by
  intro q;rw[Bool.and_eq_true,Bool.and_eq_true] at q;have q1:((sIx items.size 0 lo:Nat):Int)=0:=eq_of_beq q.1.1;have q2:sIx items.size items.size hi-sIx items.size 0 lo=items.size:=eq_of_beq q.2;exact hw ⟨by lia,by lia⟩
 show zf _ _ (if(((sIx items.size 0 lo:Nat):Int)==0&&(1:Int)==1&&(sIx items.size items.size hi-sIx items.size 0 lo)==items.size)=true then _ else _) _ _ s;rw[if_neg hno,pP]
 first
  |exact zc (m:=xu _) (wd (zi ⟨_,rfl,zi h⟩) htake)
  |exact zc (m:=xu _) (wd (zc (zi (zi ⟨_,rfl,zi h⟩))) htake)
  |exact zc (zc (m:=xu _) (wd (zi (zi ⟨_,rfl,zi h⟩)) htake))
  |exact zc (zc (m:=xu _) (wd (zi ⟨_,rfl,zi h⟩) htake))
end
end HT
namespace L2
open PySem PySem.Spec PyProof.Rows
abbrev TO:=St->Hp->(Option Int->Hp->Prop)->Prop
def PO(X:Cx)(e:Option Expr)(t:TO):Prop:=
 ∀(pins:List (Addr×Obj)) (s:zd) (σ:St) (H:Hp) (Q:Option Int->Hp->Prop),Inv X pins σ H s->t σ H Q->
  zf (zg X.prog X.w) X.A (evalPart e X.env) (λu s'=>∃o H',Inv X pins σ H' s'/\IsPart u o/\Q o H') X.xe s
def qt:TO:=λ_ H Q=>Q none H
def uu(t:TE):TO:=λσ H Q=>t σ H λx H1=>∃i,x=.int i/\Q (some i) H1
section
variable{X:Cx}{e:Expr}{te:TE}{lo hi:Option Expr}{tl th:TO}{pos p2:Pos}
theorem qo:PO X none qt:=by
 intro pins s σ H Q I h;rw[evalPart_none];exact zi ⟨none,H,I,.none,h⟩
theorem qX(h:PE X e te):PO X (some e) (uu te):=by
 intro pins s σ H Q I hw;rw[evalPart_some];refine thn (h pins s σ H _ I hw) λu s1 ⟨x,H1,I1,r1,q1⟩=>?_;obtain⟨i,rfl,q⟩:=q1;obtain⟨t,rfl⟩:=r1;exact⟨some i,H1,I1,.int i t,q⟩
def SlR(X:Cx)(r:V->Option Int->Option Int->Hp->VK->Prop):Prop:=
 ∀(pins:List (Addr×Obj)) (s:zd) (σ:St) (H:Hp) (x:V) (v vl vu:za) (lo hi:Option Int) (sl:Addr) (Q:VK),Inv X pins σ H s->aN x v->s.heap.IsSliceOf sl vl vu .none->IsPart vl lo->IsPart vu hi->r x lo hi H Q->
  ∃T id,typeLookup (.type T) "__getitem__" = pure (some (.builtin id))/\s.TypeIs v T/\zf (zg X.prog X.w) X.A (getItem v (.ref sl)) (EP X pins σ Q) X.xe s
def tSl(r:V->Option Int->Option Int->Hp->VK->Prop)(te:TE)(tl th:TO):TE:=λσ H Q=>te σ H λx H1=>tl σ H1 λl H2=>th σ H2 λu H3=>r x l u H3 Q
theorem j_{r:V->Option Int->Option Int->Hp->VK->Prop}(hr:SlR X r)(he:PE X e te)(hl:PO X lo tl)(hu:PO X hi th):PE X (.Subscript e (.Slice lo hi none p2) pos) (tSl r te tl th):=by
 intro pins s σ H Q I h;refine Subscript_ (thn (he pins s σ H _ I h) λv s1 ⟨x,H1,I1,r1,q1⟩=>?_);refine wpAny_Slice (thn (hl pins s1 σ H1 _ I1 q1) λvl s2 ⟨l,H2,I2,pl,q2⟩=>thn (hu pins s2 σ H2 _ I2 q2) λvu s3 ⟨u,H3,I3,pu,q3⟩=>?_);rw[evalPart_none];refine zi ?_;have I4:Inv X pins σ H3 { s3 with heap:=s3.heap.push { cls:=.type "slice",data:=.fields #[vl,vu,.none] } }:=I3.kept (t':=s3.toks) λb ob q=>ze _ q;obtain⟨T,id,hT,ht,hg⟩:=hr pins { s3 with heap:=s3.heap.push { cls:=.type "slice",data:=.fields #[vl,vu,.none] } } σ H3 x v vl vu l u s3.heap.objs.size Q I4 r1 (Heap.IsSliceOf.new ..) pl pu q3;show zf (zg X.prog X.w) X.A (subscriptTail e (.Slice lo hi none p2) v (.ref s3.heap.objs.size)) (EP X pins σ Q) X.xe { s3 with heap:=s3.heap.push { cls:=.type "slice",data:=.fields #[vl,vu,.none] } };exact tail_any (ops:=[.ref s3.heap.objs.size,v]) ht hT hg (by with_unfolding_all rfl)
def jo(xs:List V)(lo hi:Option Int):List V:=(xs.drop (HT.sIx xs.length 0 lo)).take (HT.sIx xs.length xs.length hi-HT.sIx xs.length 0 lo)
theorem hG(xs:List V)(lo hi:Option Int):(jo xs lo hi).length<=xs.length:=by
 unfold jo;rw[List.length_take,List.length_drop]
 lia
def vj(K:zb):V->Option Int->Option Int->Hp->VK->Prop:=λx lo hi H Q=>∃a xs,x=.ref a/\SqT K H a xs/\
 ¬ (HT.sIx xs.length 0 lo=0/\HT.sIx xs.length xs.length hi=xs.length)/\∀p,H p=none->Q (.ref p) (upd H p (.tup (jo xs lo hi)))
theorem tN:SlR X (vj X.K):=by
 intro pins s σ H x v vl vu lo hi sl Q I rx hs pl pu h;obtain⟨a,xs,rfl,hx,hw,q⟩:=h;cases rx;obtain⟨its,r,ht,hz⟩:=I.tuple hx;have hlen:its.toArray.size=xs.length:=by rw[zu];exact r.length.symm
 refine⟨"tuple",_,PyProof.Rows.slot_tuple_getitem.lookup,ht.typeIs,?_⟩;refine HT.gc ht hs pl pu (by rw[hlen];exact hw) ?_ (by rw[hlen];exact hz);rw[hlen];refine⟨.ref s.heap.objs.size,_,I.laid (t':=s.toks) (o:=.tup (jo xs lo hi)) (λb ob q=>ze _ q) (zp _) ?_,rfl,q _ (I.hok.fresh (zp _))⟩;exact⟨zO (hG xs lo hi) hz,_,(r.drop (HT.sIx xs.length 0 lo)).take (HT.sIx xs.length xs.length hi-HT.sIx xs.length 0 lo),IsTup.new _ _⟩
def uL(K:zb):R2:=λx y H Q=>∃a b xs ys,x=.ref a/\y=.ref b/\SqT K H a xs/\SqT K H b ys/\xs≠[]/\xs.length+ys.length<=zt/\
 (ys=[]->Q (.ref a) H)/\(ys≠[]->∀p,H p=none->Q (.ref p) (upd H p (.tup (xs++ys))))
theorem aL.nil_iff{xs:List V}{us:List za}(r:aL xs us):us=[]↔xs=[]:=by
 cases r with
 |nil=>simp
 |cons _ _=>simp
theorem qz:OpR X (v7 .Add) (uL X.K):=by
 intro pins s σ H x y v u Q I rx ry h;obtain⟨a,b,xs,ys,rfl,rfl,ha,hb,hx,hz,q1,q2⟩:=h;cases rx;cases ry;obtain⟨its,r1,p1,_⟩:=I.tuple ha;obtain⟨its2,r2,p2,_⟩:=I.tuple hb;refine HT.qG p1 p2 (λz=>hx (r1.nil_iff.mp z)) (λz=>⟨.ref a,H,I,rfl,q1 (r2.nil_iff.mp z)⟩) (λz=>?_) (by rw[<-r1.length,<-r2.length];exact hz);refine⟨.ref s.heap.objs.size,_,I.laid (t':=s.toks) (o:=.tup (xs++ys)) (λb ob q=>ze _ q) (zp _) ?_,rfl,q2 (λw=>z (r2.nil_iff.mpr w)) _ (I.hok.fresh (zp _))⟩;exact⟨by rw[vY];exact hz,_,r1.append r2,IsTup.new _ _⟩
end
def ixN(n:Nat)(i:Int):Option Nat:=if 0<=i then(if i<n then some i.toNat else none) else if -(n:Int)<=i then some (i+n).toNat else none
def atI{α:Type}(xs:List α)(i:Int):Option α:=(ixN xs.length i).bind λj=>xs[j]?
theorem lU{n:Nat}{i:Int}{j:Nat}(h:ixN n i=some j):seqIndex? i n=some j/\j<n/\-(n:Int)<=i/\i<n:=by
 unfold ixN at h
 by_cases h0:0<=i
 ·rw[if_pos h0] at h
  by_cases h1:i<n
  ·rw[if_pos h1] at h
   have e:i.toNat=j:=Option.some.inj h;exact⟨by rw[seqIndex_of h0 h1,e],by lia,by lia,h1⟩
  ·rw[if_neg h1] at h;cases h
 ·rw[if_neg h0] at h
  by_cases h1:-(n:Int)<=i
  ·rw[if_pos h1] at h
   have e:(i+n).toNat=j:=Option.some.inj h;exact⟨by rw[seqIndex_neg (by lia) h1,e],by lia,h1,by lia⟩
  ·rw[if_neg h1] at h;cases h
theorem mn{α:Type}{xs:List α}{i:Int}{v:α}(h:atI xs i=some v):∃j,seqIndex? i xs.length=some j/\xs[j]?=some v/\j<xs.length/\-(xs.length:Int)<=i/\i<xs.length:=by
 unfold atI at h;cases e:ixN xs.length i with
 |none=>rw[e] at h;cases h
 |some j=>
  rw[e] at h;obtain⟨h1,h2,h3,h4⟩:=lU e;exact⟨j,h1,h,h2,h3,h4⟩
theorem lQ{α:Type}{xs:List α}{j:Nat}{v:α}(h:xs[j]?=some v):atI xs (j:Int)=some v:=by
 have hj:j<xs.length:=(zB.mp h).1
 have e:ixN xs.length (j:Int)=some j:=by
  unfold ixN;rw[if_pos (by lia),if_pos (by lia)];simp
 unfold atI;rw[e];exact h
def jR(b:Expr):Prop:=∀o i,subscripted b false o i=operate [o,i] (getItem o i)
def IxR(X:Cx)(r:R2):Prop:=
 ∀(value slice:Expr) (pins:List (Addr×Obj)) (s:zd) (σ:St) (H:Hp) (x y:V) (v u:za) (Q:VK),Inv X pins σ H s->aN x v->aN y u->r x y H Q->
  subscripted slice false v u=operate [v,u] (getItem v u)->zf (zg X.prog X.w) X.A (subscriptTail value slice v u) (EP X pins σ Q) X.xe s
def MtR(X:Cx)(id:String)(r:V->List V->Hp->VK->Prop):Prop:=
 ∀(pins:List (Addr×Obj)) (s:zd) (σ:St) (H:Hp) (x:V) (xs:List V) (v:za) (us:List za) (Q:VK),Inv X pins σ H s->aN x v->aL xs us->r x xs H Q->
  zf (zg X.prog X.w) X.A (call (.builtin id) (v::us)) (EP X pins σ Q) X.xe s
section
variable{X:Cx}{a b:Expr}{ta tb:TE}{pos:Pos}
theorem IxR.or{r r':R2}(h:IxR X r)(h':IxR X r'):IxR X (λx y H Q=>r x y H Q\/r' x y H Q):=by
 intro value slice pins s σ H x y v u Q I rx ry q hs;rcases q with q | q
 ·exact h value slice pins s σ H x y v u Q I rx ry q hs
 ·exact h' value slice pins s σ H x y v u Q I rx ry q hs
theorem uZ{r:R2}(hr:IxR X r)(ha:PE X a ta)(hb:PE X b tb)(hs:jR b):PE X (.Subscript a b pos) (tOp r ta tb):=by
 intro pins s σ H Q I h;exact Subscript_ (tJ ha hb I h λv u s2 x y H2 I2 rx ry q=>hr a b pins s2 σ H2 x y v u Q I2 rx ry q (hs _ _))
def vK(K:zb):R2:=λx y H Q=>∃p xs i v,x=.ref p/\y=.int i/\SqL K H p xs/\atI xs i=some v/\Q v H
def vo(K:zb):R2:=λx y H Q=>∃p xs i v,x=.ref p/\y=.int i/\SqT K H p xs/\atI xs i=some v/\Q v H
theorem qU:IxR X (vK X.K):=by
 intro value slice pins s σ H x y v u Q I rx ry h hs;obtain⟨p,xs,i,z,rfl,rfl,hq,he,q⟩:=h;cases rx;obtain⟨t,rfl⟩:=ry;obtain⟨its,r,pl,hz⟩:=I.list hq;obtain⟨j,h1,h2,h3,h4,h5⟩:=mn he;obtain⟨w,ew,rw'⟩:=r.get h2;have hl:=r.length;have hn:=iD;have fin:EP X pins σ Q w s:=⟨z,H,I,rw',q⟩
 by_cases h0:0<=i
 ·have hj:i.toNat=j:=by
   rw[seqIndex_of h0 h5] at h1;exact Option.some.inj h1
  exact item_listR pl.isList h0 (by lia) (by rw[hj];simpa using ew) fin hs
 ·have hj:(i+(its.toArray.size:Int)).toNat=j:=by
   rw[seqIndex_neg (by lia) h4] at h1;rw[zu,<-hl];exact Option.some.inj h1
  exact subscriptTail_builtinR (x:=w) pl.isList.typeIs slot_list_getitem.lookup
   (wpAny_getItem_list_neg (Q:=λr s'=>r=w/\EP X pins σ Q r s') pl.isList (by lia) (by rw[zu]<;>lia) (by lia) (by rw[hj];simpa using ew) ⟨rfl,fin⟩) hs
theorem sH:IxR X (vo X.K):=by
 intro value slice pins s σ H x y v u Q I rx ry h hs;obtain⟨p,xs,i,z,rfl,rfl,hq,he,q⟩:=h;cases rx;obtain⟨t,rfl⟩:=ry;obtain⟨its,r,pl,hz⟩:=I.tuple hq;obtain⟨j,h1,h2,h3,h4,h5⟩:=mn he;obtain⟨w,ew,rw'⟩:=r.get h2;have hl:=r.length;have hn:=iD;have fin:EP X pins σ Q w s:=⟨z,H,I,rw',q⟩
 exact subscriptTail_builtinR (x:=w) pl.typeIs slot_tuple_getitem.lookup
  (getItem_tuple (j:=j) (Q:=λr s'=>r=w/\EP X pins σ Q r s') pl (by lia) (by lia) (by rw[zu,<-hl];exact h1) (by simpa using ew) ⟨rfl,fin⟩) hs
theorem lA(its:List za)(n j:Nat)(u:za):Obj.mapSeq (·.setIfInBounds j u) { cls:=.type "list",data:=.seq its.toArray n }={ cls:=.type "list",data:=.seq (its.set j u).toArray n }:=by
 simp[Obj.mapSeq]
theorem Inv.lst{pins:List (Addr×Obj)}{σ:St}{H:Hp}{s:zd}{p:Addr}{xs:List V}(I:Inv X pins σ H s)(h:H p=some (.lst xs)) :
  ∃(its:List za) (n:Nat),aL xs its/\s.heap.get? p=some { cls:=.type "list",data:=.seq its.toArray n }/\xs.length<=zt:=by
 obtain⟨z,its,n,r,e⟩:=I.hok p _ h;exact⟨its,n,r,e,z⟩
theorem Inv.lstUpd{pins:List (Addr×Obj)}{σ:St}{H:Hp}{s:zd}{p:Addr}{xs ys:List V}{its its':List za}{n n':Nat}{f:Obj->Obj}(I:Inv X pins σ H s)(h:H p=some (.lst xs))
  (ho:s.heap.get? p=some { cls:=.type "list",data:=.seq its.toArray n }) (hf:f { cls:=.type "list",data:=.seq its.toArray n }={ cls:=.type "list",data:=.seq its'.toArray n' }) (r:aL ys its') (hz:ys.length<=zt) (t:Nat) :
  Inv X pins σ (upd H p (.lst ys)) { s with heap:=s.heap.update p f,toks:=t }:=by
 have e:(s.heap.update p f).get? p=some { cls:=.type "list",data:=.seq its'.toArray n' }:=by
  rw[wI f ho (by rw[hf]<;>rfl),hf]
 refine I.write (x:=p) (e:=p) (by rw[h];trivial) (.inl rfl) (λb u hb q=>(zJ _ _ (Ne.symm hb)).trans q) ⟨_,e⟩ ?_;exact⟨hz,its',n',r,e⟩
def ur:V->V->V->Hp->(Hp->Prop)->Prop:=λo i v H Q=>∃p xs k j,o=.ref p/\i=.int k/\H p=some (.lst xs)/\ixN xs.length k=some j/\Q (upd H p (.lst (xs.set j v)))
theorem pF:uX X ur:=by
 intro pins s σ H o i v ov iv u Q I ro ri rv h;obtain⟨p,xs,k,j,rfl,rfl,hp,hj,q⟩:=h;cases ro;obtain⟨t,rfl⟩:=ri;obtain⟨its,n,r,ho,hz⟩:=I.lst hp;obtain⟨h1,h2,h3,h4⟩:=lU hj;have hl:=r.length;have hn:=iD
 have I':Inv X pins σ (upd H p (.lst (xs.set j v))) { s with heap:=s.heap.update p (Obj.mapSeq (·.setIfInBounds j u)) }:=
  I.lstUpd hp ho (lA its n j u) (r.set rv j) (by rw[wb];exact hz) s.toks
 by_cases h0:0<=k
 ·have hk:k.toNat=j:=by
   rw[seqIndex_of h0 h4] at h1;exact Option.some.inj h1
  exact PySem.W.ki_setAt ho h0 (by lia) (by rw[zu,<-hl];exact h4) (by rw[hk];exact⟨_,I',q⟩)
 ·have hk:(k+(its.toArray.size:Int)).toNat=j:=by
   rw[seqIndex_neg (by lia) h3] at h1;rw[zu,<-hl];exact Option.some.inj h1
  exact PySem.W.ki_setBack ho (by lia) (by rw[zu,<-hl];exact h3) (by lia) (by rw[hk];exact⟨_,I',q⟩)
theorem jG(lo hi:Option Int)(n:Nat):(xQ lo hi none n).1=((HT.sIx n 0 lo:Nat):Int)/\(xQ lo hi none n).2.1=((HT.sIx n n hi:Nat):Int)/\(xQ lo hi none n).2.2=1:=by
 refine⟨?_,?_,rfl⟩
 ·cases lo with
  |none=>simp[xQ,HT.sIx]
  |some i=>
   simp only[xQ,HT.sIx,Option.getD_none,show(1:Int)>0 by decide,if_true]
   by_cases h:i<0
   ·simp only[h,if_true]<;>lia
   ·simp only[h,if_false]<;>lia
 ·cases hi with
  |none=>simp[xQ,HT.sIx]
  |some i=>
   simp only[xQ,HT.sIx,Option.getD_none,show(1:Int)>0 by decide,if_true]
   by_cases h:i<0
   ·simp only[h,if_true]<;>lia
   ·simp only[h,if_false]<;>lia
theorem iZ(its:List za)(lo hi:Option Int):slicePick its.toArray lo hi none=((its.drop (HT.sIx its.length 0 lo)).take (HT.sIx its.length its.length hi-HT.sIx its.length 0 lo)).toArray:=by
 obtain⟨h1,h2,h3⟩:=jG lo hi its.toArray.size;unfold slicePick;rw[h1,h2,h3];simp only[sliceRange_one,pick_run,zu]<;>rfl
def vk(K:zb):V->Option Int->Option Int->Hp->VK->Prop:=λx lo hi H Q=>∃a xs,x=.ref a/\SqL K H a xs/\∀p,H p=none->Q (.ref p) (upd H p (.lst (jo xs lo hi)))
theorem qk:SlR X (vk X.K):=by
 intro pins s σ H x v vl vu lo hi sl Q I rx hs pl pu h;obtain⟨a,xs,rfl,hx,q⟩:=h;cases rx;obtain⟨its,r,ht,hz⟩:=I.list hx;have hlen:=r.length;refine⟨"list",_,slot_list_getitem.lookup,ht.isList.typeIs,?_⟩;refine wpAny_getItem_list_slice ht.isList hs pl pu .none (by simp) ?_ (by rw[zu]<;>lia);rw[iZ,<-hlen];refine⟨.ref s.heap.objs.size,_,I.laid (t':=s.toks) (o:=.lst (jo xs lo hi)) (λb ob q=>ze _ q) (zp _) ?_,rfl,q _ (I.hok.fresh (zp _))⟩;exact⟨zO (hG xs lo hi) hz,_,0,(r.drop (HT.sIx xs.length 0 lo)).take (HT.sIx xs.length xs.length hi-HT.sIx xs.length 0 lo),zr _ rfl⟩
def ee:V->Bool
 |.non=>true
 |.bl _=>true
 |.int _=>true
 |.str _=>true
 |_=>false
def eqV:V->V->Bool
 |.non,.non=>true
 |.bl a,.bl b=>a==b
 |.bl a,.int b=>(if a then 1 else 0)==b
 |.int a,.bl b=>a==(if b then 1 else 0)
 |.int a,.int b=>a==b
 |.str a,.str b=>a==b
 |_,_=>false
theorem lj{A:zD}{s:zd}{y x:V}{u v:za}(ry:aN y u)(rx:aN x v)(fy:ee y=true)(fx:ee x=true):SeqAt.EqAt A s u v (eqV y x):=by
 cases y with
 |non=>
  cases ry;cases x with
  |non=>cases rx;exact SeqAt.EqAt.same _
  |bl b=>cases rx;exact SeqAt.EqAt.none_bool b
  |int b=>obtain⟨t,rfl⟩:=rx;exact SeqAt.EqAt.none_int b t
  |str b=>obtain⟨t,rfl⟩:=rx;exact SeqAt.EqAt.none_str b t
  |_=>exact absurd (show false=true from fx) zm
 |bl a=>
  cases ry;cases x with
  |non=>cases rx;exact SeqAt.EqAt.bool_none a
  |bl b=>cases rx;exact SeqAt.EqAt.bool_bool a b
  |int b=>obtain⟨t,rfl⟩:=rx;exact SeqAt.EqAt.bool_int a b t
  |str b=>obtain⟨t,rfl⟩:=rx;exact SeqAt.EqAt.bool_str a b t
  |_=>exact absurd (show false=true from fx) zm
 |int a=>
  obtain⟨t',rfl⟩:=ry;cases x with
  |non=>cases rx;exact SeqAt.EqAt.int_none a t'
  |bl b=>cases rx;exact SeqAt.EqAt.int_bool a t' b
  |int b=>obtain⟨t,rfl⟩:=rx;exact SeqAt.EqAt.int_int a t' b t
  |str b=>obtain⟨t,rfl⟩:=rx;exact SeqAt.EqAt.int_str a t' b t
  |_=>exact absurd (show false=true from fx) zm
 |str a=>
  obtain⟨t',rfl⟩:=ry;cases x with
  |non=>cases rx;exact SeqAt.EqAt.str_none a t'
  |bl b=>cases rx;exact SeqAt.EqAt.str_bool a t' b
  |int b=>obtain⟨t,rfl⟩:=rx;exact SeqAt.EqAt.str_int a t' b t
  |str b=>obtain⟨t,rfl⟩:=rx;exact SeqAt.EqAt.str_str a t' b t
  |_=>exact absurd (show false=true from fx) zm
 |_=>exact absurd (show false=true from fy) zm
def eqU(x:V)(u:za):Bool:=match u with
 |.none=>eqV .non x
 |.bool b=>eqV (.bl b) x
 |.int i _=>eqV (.int i) x
 |.str z _=>eqV (.str z) x
 |_=>false
theorem n_{x y:V}{u:za}(r:aN y u)(f:ee y=true):eqU x u=eqV y x:=by
 cases y with
 |non=>cases r;rfl
 |bl b=>cases r;rfl
 |int i=>obtain⟨t,rfl⟩:=r;rfl
 |str z=>obtain⟨t,rfl⟩:=r;rfl
 |_=>exact absurd (show false=true from f) zm
theorem jr{x:V}:∀{xs:List V} {us:List za},aL xs us->xs.all ee=true->us.any (eqU x)=xs.any λy=>eqV y x
 |_,_,.nil,_=>rfl
 |y::xs,u::us,.cons r t,f=>by
  rw[xP,Bool.and_eq_true] at f;rw[List.any_cons,List.any_cons,n_ r f.1,jr t f.2]
theorem iO{A:zD}{s:zd}{x:V}{v:za}(rx:aN x v)(fx:ee x=true):∀{xs:List V} {us:List za},aL xs us->xs.all ee=true->∀u∈us,SeqAt.EqAt A s u v (eqU x u)
 |_,_,.nil,_=>λu hu=>by cases hu
 |y::xs,u::us,.cons r t,f=>λu' hu=>by
  rw[xP,Bool.and_eq_true] at f;rcases zq.mp hu with rfl | hu
  ·rw[n_ r f.1];exact lj r rx f.1 fx
  ·exact iO rx fx t f.2 u' hu
def inV(x:V)(xs:List V):Bool:=xs.any λy=>eqV y x
def rIn(K:zb)(neg:Bool):R2:=λx y H Q=>∃p xs,y=.ref p/\(SqL K H p xs\/SqT K H p xs)/\ee x=true/\xs.all ee=true/\Q (.bl (if neg then !inV x xs else inV x xs)) H
theorem nK:OpR X (zN .In) (rIn X.K false):=by
 intro pins s σ H x y v u Q I rx ry h;obtain⟨p,xs,rfl,hq,fx,fs,q⟩:=h;cases ry;rcases hq with hq | hq
 ·obtain⟨its,r,pl,hz⟩:=I.list hq
  refine SeqAt.in_listAt (eqU x) pl.isList (λw hw=>iO rx fx r fs w (by simpa using hw)) ⟨.bl _,H,I,rfl,?_⟩;rw[show its.toArray.any (eqU x)=its.any (eqU x) by simp,jr r fs];exact q
 ·obtain⟨its,r,pl,hz⟩:=I.tuple hq
  refine SeqAt.in_tupleAt (eqU x) pl (λw hw=>iO rx fx r fs w (by simpa using hw)) ⟨.bl _,H,I,rfl,?_⟩;rw[show its.toArray.any (eqU x)=its.any (eqU x) by simp,jr r fs];exact q
theorem fP:fq X (.builtin "len") (λxs H Q=>∃p ys,xs=[.ref p]/\(SqL X.K H p ys\/SqT X.K H p ys)/\Q (.int ys.length) H):=by
 intro pins s σ H xs us Q I r h;obtain⟨p,ys,rfl,hq,q⟩:=h;obtain⟨u,rfl,rx⟩:=rJ r;cases rx;have hn:=iD;rcases hq with hq | hq
 ·obtain⟨its,r',pl,hz⟩:=I.list hq
  have hlen:=r'.length;exact Calls.call_len_list pl.isList (by simp only[zu]<;>lia) ⟨.int ys.length,H,I.tok _,⟨s.toks+1,by rw[zu,hlen]⟩,q⟩
 ·obtain⟨its,r',pl,hz⟩:=I.tuple hq
  have hlen:=r'.length;exact len_tuple pl (by simp only[zu]<;>lia) ⟨.int ys.length,H,I.tok _,⟨s.toks+1,by rw[zu,hlen]⟩,q⟩
theorem bc:fq X (.type "list") (λxs H Q=>∃p ys,xs=[.ref p]/\(SqL X.K H p ys\/SqT X.K H p ys)/\∀l,H l=none->Q (.ref l) (upd H l (.lst ys))):=by
 intro pins s σ H xs us Q I r h;obtain⟨p,ys,rfl,hq,q⟩:=h;obtain⟨u,rfl,rx⟩:=rJ r;cases rx
 have fin:∀(its:List za),aL ys its->ys.length<=zt->∀(h':Heap) (c':Nat),(∀b o',s.heap.get? b=some o'->h'.get? b=some o')->
   h'.get? s.heap.objs.size=some { cls:=.type "list",dict:=none,data:=.seq its.toArray c',slots:=#[] }->EP X pins σ Q (.ref s.heap.objs.size) { s with heap:=h' }:=λits r' hz h' c' kp e=>
  ⟨.ref s.heap.objs.size,_,I.laid (t':=s.toks) kp (zp _) (show bu X.prog X.w _ h' _ (.lst ys) from⟨hz,its,c',r',e⟩),rfl,q _ (I.hok.fresh (zp _))⟩
 rcases hq with hq | hq
 ·obtain⟨its,r',pl,hz⟩:=I.list hq
  have hlen:=r'.length;obtain⟨o,ho,hc,n,hd⟩:=pl.isList;exact call_list_seq p (.inl rfl) ho hc hd (λh' c' kp e=>fin its r' hz h' c' kp e) (by simp only[zu]<;>lia)
 ·obtain⟨its,r',pl,hz⟩:=I.tuple hq
  have hlen:=r'.length;obtain⟨o,ho,hc,n,hd⟩:=pl;exact call_list_seq p (.inr rfl) ho hc hd (λh' c' kp e=>fin its r' hz h' c' kp e) (by simp only[zu]<;>lia)
def tyV(K:zb)(T:String)(x:V)(H:Hp):Prop:=match x with
 |.str _=>T = "str"
 |.int _=>T = "int"
 |.ref p=>(T = "list"/\∃xs,SqL K H p xs)\/(T = "tuple"/\∃o,K.lookup p=some o/\o.cls=.type "tuple"/\o.dict=none)\/
   (T = "dict"/\((∃kvs,H p=some (.dK kvs))\/∃kvs,H p=some (.dT kvs)))\/(T = "set"/\∃S n,H p=some (.set S n))
 |_=>False
theorem sd{pins:List (Addr×Obj)}{σ:St}{H:Hp}{s:zd}{T:String}{x:V}{v:za}(I:Inv X pins σ H s)(r:aN x v)(ty:tyV X.K T x H) :
  s.TypeIs v T/\∀a,v=.ref a->∃ob,s.heap.get? a=some ob/\ob.dict=none:=by
 cases x with
 |str z=>
  obtain⟨t,rfl⟩:=r;cases(show T = "str" from ty);exact⟨typeIs_str s z t,λ_ e=>nomatch e⟩
 |int i=>
  obtain⟨t,rfl⟩:=r;cases(show T = "int" from ty);exact⟨typeIs_int s i t,λ_ e=>nomatch e⟩
 |ref p=>
  cases r;rcases ty with⟨rfl,xs,hq⟩ | ⟨rfl,o,hk,hc,hd⟩ | ⟨rfl,hk⟩ | ⟨rfl,S,n,hk⟩
  ·obtain⟨its,_,pl,_⟩:=I.list hq
   refine⟨pl.isList.typeIs,λa e=>?_⟩;cases e;obtain⟨o,n,e,c,hd,_⟩:=pl;exact⟨o,e,hd⟩
  ·refine⟨⟨o,I.kIn p o hk,hc⟩,λa e=>?_⟩
   cases e;exact⟨o,I.kIn _ o hk,hd⟩
  ·have z:∃o,s.heap.get? p=some o/\o.ExactDict:=by
    rcases hk with⟨kvs,hk⟩ | ⟨kvs,hk⟩
    ·obtain⟨_,_,_,_,o,_,_,e,ex,_⟩:=I.hok p _ hk
     exact⟨o,e,ex⟩
    ·obtain⟨_,_,_,_,o,_,_,e,ex,_⟩:=I.hok p _ hk
     exact⟨o,e,ex⟩
   obtain⟨o,e,ex⟩:=z;refine⟨⟨o,e,ex.1⟩,λa e2=>?_⟩;cases e2;exact⟨o,e,ex.2.1⟩
  ·obtain⟨o,_,_,_,e,ex,_⟩:=I.hok p _ hk
   refine⟨⟨o,e,ex.1⟩,λa e2=>?_⟩;cases e2;exact⟨o,e,ex.2.1⟩
 |_=>exact zW ty
def tBM(K:zb)(T:String)(r:V->List V->Hp->VK->Prop)(to:TE)(t:TA):TE:=λσ H Q=>to σ H λx H1=>tyV K T x H1/\t σ H1 λxs H2=>r x xs H2 Q
variable{o e:Expr}{es:List Expr}{to:TE}{t:TA}{name:Str}{apos cpos:Pos}{T id:String}{r:V->List V->Hp->VK->Prop}
theorem iA(pa:PlainAttrs T)(slot:Slot T name id)(hty:typeOf (.builtin id)=pure (.type "method_descriptor"))(hm:MtR X id r)(ho:PE X o to)(ha:PA X (e::es) t)
  (hbase:attributeBase o name X.env (eval o X.env)=eval o X.env:=by rfl)
  (hfew:((wo cpos (zj (e::es) X.env)).all (λx=>!x.1)&&(backToKw cpos (keywordEach [] X.env)).all (λx=>x.1.isSome)
   && decide ((e::es).length+([]:List Keyword).length+(if([]:List Keyword).isEmpty then 0 else 1)<30))=true:=by rfl)
  (hline:(apos.endLine==cpos.line)=true:=by rfl) (hs:zj (e::es) X.env=(false,eval e X.env)::zj es X.env:=by rfl) (hplain:(wo cpos (zj es X.env)).any (·.1)=false:=by rfl) :
  PE X (.Call (.Attribute o name apos) (e::es) [] cpos) (tBM X.K T r to t):=by
 intro pins s σ H Q I h;refine wpAny_Call_method_late hbase hfew hline rfl (thn (ho pins s σ H _ I h) λv s1 ⟨x,H1,I1,r1,ty,q1⟩=>?_);obtain⟨h1,h2⟩:=sd I1 r1 ty;refine⟨T,id,pa,slot,hty,h1,h2,?_⟩;have hA:=ha cpos pins s1 σ H1 _ I1 q1;rw[hs] at hA ⊢;refine Calls.callWith_builtin (by show(false || (wo cpos (zj es X.env)).any (·.1))=false;rw[hplain]<;>rfl) (Calls.evalArgs_plain ?_);exact thn hA λus s2 ⟨vs,H2,I2,r2,q2⟩=>hm pins s2 σ H2 x vs v us Q I2 r1 r2 q2
end
def MtM(X:Cx)(id:String)(r:V->List V->Hp->VK->Prop):Prop:=
 ∀(pins:List (Addr×Obj)) (s:zd) (σ:St) (H:Hp) (x:V) (xs:List V) (v:za) (us:List za) (Q:VK),Inv X pins σ H s->aN x v->aL xs us->r x xs H Q->
  zf (zg X.prog X.w) X.A (call (.builtin id) (v::us)) (EP X pins σ Q) X.xe s
theorem aL.one:∀{x:V} {us:List za},aL [x] us->∃u,us=[u]/\aN x u:=λh=>by
 cases h with | cons r t=>cases t;exact⟨_,rfl,r⟩
theorem aL.two:∀{x y:V} {us:List za},aL [x,y] us->∃u v,us=[u,v]/\aN x u/\aN y v:=λh=>by
 cases h with | cons r t=>cases t with | cons q t=>cases t;exact⟨_,_,rfl,r,q⟩
section
variable{X:Cx}{pins:List (Addr×Obj)}{σ:St}{H:Hp}{s:zd}{l b:Addr}{xs ys zs:List V}
theorem Inv.lset{its its':List za}{n:Nat}{f:Array za->Array za}{t':Nat}(I:Inv X pins σ H s)(hH:H l=some (.lst xs))
  (e:s.heap.get? l=some { cls:=.type "list",data:=.seq its.toArray n }) (hf:f its.toArray=its'.toArray) (hv:aL ys its') (hz:ys.length<=zt) :
  Inv X pins σ (upd H l (.lst ys)) { s with heap:=s.heap.update l (Obj.mapSeq f),toks:=t' }:=by
 have q:=PySem.IsL.update e f;rw[hf] at q;refine I.write (x:=l) (e:=l) (by rw[hH];exact trivial) (.inl rfl) (λb' u hb hu=>(zJ s.heap (Obj.mapSeq f) (Ne.symm hb)).trans hu) ⟨_,q⟩ ?_;exact⟨hz,its',_,hv,q⟩
theorem Inv.lnew{its:List za}{t':Nat}(I:Inv X pins σ H s)(hv:aL ys its)(hz:ys.length<=zt) :
  Inv X pins σ (upd H s.heap.objs.size (.lst ys)) { s with heap:=s.heap.push { cls:=.type "list",data:=.seq its.toArray },toks:=t' }:=
 I.laid (λ_ _ q=>ze _ q) (zp _) ⟨hz,its,0,hv,zr _ rfl⟩
theorem Inv.fresh(I:Inv X pins σ H s):H s.heap.objs.size=none:=I.hok.fresh (zp _)
theorem Inv.lstM(I:Inv X pins σ H s)(hH:H l=some (.lst xs)):xs.length<=zt/\∃(its:List za) (n:Nat),aL xs its/\xs.length=its.length/\s.heap.get? l=some { cls:=.type "list",data:=.seq its.toArray n }:=by
 obtain⟨z,its,n,r,e⟩:=I.hok l _ hH;exact⟨z,its,n,r,r.length,e⟩
end
section
variable{X:Cx}
def qw:V->List V->Hp->VK->Prop:=λx vs H Q=>∃l xs y,x=.ref l/\vs=[y]/\H l=some (.lst xs)/\xs.length<zt/\Q .non (upd H l (.lst (xs++[y])))
theorem cw:MtM X "list.append" qw:=by
 intro pins s σ H x vs v us Q I rx rv h;obtain⟨l,xs,y,rfl,rfl,hH,hz,q⟩:=h;cases rx;obtain⟨u,rfl,ru⟩:=rv.one;obtain⟨z,its,n,r,hl,e⟩:=I.lstM hH;refine call_meets F.slot_list_append ⟨_,e,rfl⟩ F.entry_list_append (F.args_list_append_2 _ _) (PySem.list_append l its.toArray n u (by rw[zu];lia)) ⟨e,?_⟩;refine⟨.non,_,I.lset (its':=its++[u]) hH e (by simp) (r.append (.cons ru .nil)) ?_,rfl,q⟩;rw[vY,List.length_singleton]
 lia
def vI:R2:=λx y H Q=>∃l b xs zs,x=.ref l/\y=.ref b/\H l=some (.lst xs)/\H b=some (.lst zs)/\xs.length+zs.length<=zt/\∀p,H p=none->Q (.ref p) (upd H p (.lst (xs++zs)))
theorem rQ:OpR X (v7 .Add) vI:=by
 intro pins s σ H x y v u Q I rx ry h;obtain⟨l,b,xs,zs,rfl,rfl,hH,hB,hz,q⟩:=h;cases rx;cases ry;obtain⟨z,its,n,r,hl,e⟩:=I.lstM hH;obtain⟨z2,its2,n2,r2,hl2,e2⟩:=I.lstM hB;refine PySem.P.add_list e e2 ?_ (by rw[zu,zu];lia);have ea:its.toArray++its2.toArray=(its++its2).toArray:=by simp
 rw[ea];exact⟨.ref _,_,I.lnew (t':=s.toks) (r.append r2) (by rw[vY];lia),rfl,q _ I.fresh⟩
end
end L2
namespace Att
open PySem PySem.W PySem.Calls PyProof.Rows
theorem hZ{P:Params}{h:Heap}:∀(ns:List Int) (vs:List za),WellAll P h vs (ns.map WData.int)->IntsAre vs ns:=by
 intro ns
 induction ns with
 |nil=>
  intro vs w;rw[List.map_nil] at w;cases w;exact .nil
 |cons n ns ih=>
  intro vs w;rw[xw] at w;cases w with
  |cons a b=>
   cases a;exact .cons _ _ (ih _ b)
theorem nG{l:OpenLaw}{n:Nat}(hn:l.most=some n){P:Params}{h:Heap}{args:List WData}{vals:List za}
  (hpre:l.row.toRowW.claim.pre args=true) (hwl:WellAll P h vals args) :
  ∃a vs ns,vals=[zk a]/\args=[WData.list (ns.map WData.int)]/\h.get? a=some { cls:=.type "list",data:=.seq vs.toArray }/\IntsAre vs ns/\ns.length<=n:=by
 have hsh:WShape.hasAll [] args [.list .int]=true:=(pre_splitW hpre).1;have hc:l.pre.holds [] { args:=args }=true:=(pre_splitW hpre).2;obtain⟨d,r,rfl,h1,h2⟩:=hasAllW_cons hsh;obtain rfl:=hasAllW_nil h2;obtain⟨xs,rfl,h3⟩:=hasW_list h1;obtain⟨ns,rfl⟩:=items_int h3
 have hlen:ns.length<=n:=by
  unfold OpenLaw.pre at hc
  have h4:(WTm.not (.lt (.lit (.int (n:Int))) (.len (.arg 0)))).holds [] { args:=[.list (ns.map .int)] }=true:=by
   have h4:=(holds_andW hc).1;rw[hn] at h4;exact h4
  have h5:=condW_of h4 (w_not (w_lt w_lit (w_len_list (w_arg rfl))));rw[wj] at h5;refine Nat.le_of_not_lt λq=>?_;have q':(n:Int)<((ns.length:Nat):Int):=by lia
  first
   |(rw[decide_eq_true q'] at h5;exact absurd h5 (by decide))
   |(simp at h5;lia)
 cases hwl with
 |cons w1 w2=>
  cases w2;cases w1 with
  |list ho hall=>exact⟨_,_,ns,rfl,rfl,ho,hZ ns _ hall,hlen⟩
theorem nW(l:OpenLaw)(args:List WData):l.row.toRowW.claim.post args (.bool true) args=true:=
 postW_of (r:=l.row.toRowW) (X:=(true==true))
  (show WShape.has [] (.bool true) .bool=true by first | rfl | decide | simp[WShape.has,WShape.arms,WShape.armsAll])
  (show(WTm.eq .res (.lit (.bool true))).value [] { args:=args,res:=some (.bool true),after:=args }=some (.bool (true==true)) from w_eq_bool (w_res rfl) w_lit) rfl
theorem kq{l:OpenLaw}{n:Nat}{q:zv}{loose:List Str}{XP:(Str->Option za)->Heap->Prop}{YP:zA->Heap->Prop}{d:DefRec}
  (hn:l.most=some n) (hdf:d.params.defaults=[])
  (call:∀(w:zA) (s₀ s₁:zd) (mg mb:Str->Option za) (fa:Addr) (o:Obj) (pm cd doc:za) (a:Addr) (vs:List za) (ns:List Int),
   Ground q loose [] XP w s₀ mg mb s₁.heap->YP w s₁.heap->
   s₁.heap.get? fa=some o->o.data=.func (docDef d.name d.params d.body d.scope pm cd doc)->s₁.heap.CodeRec cd d.name->mg d.name=some (.ref fa)->
   s₁.heap.get? a=some { cls:=.type "list",data:=.seq vs.toArray }->IntsAre vs ns->ns.length<=n->s₁.gens=#[]->
   codeAny (zg l.prog w) callerA (.call (.ref fa) ⟨[.ref a],[]⟩) (λr s'=>r=.ok (.ret (.bool true))/\OldK s₁.heap s'.heap/\s'.os=s₁.os/\AllBare s'.gens) s₁) :
  WalkO q loose XP YP l.row.toRowW d [] (λf vs=>PySem.call f vs):=by
 intro w s₀ s₁ mg mb G Y fa o pm cd doc dV kV ho hd hcd hD hmg hg args vals as hpre hlay hrd hwl hlo;obtain rfl:dV=.none:=Dflts.none hD hdf;obtain rfl:kV=.none:=Dflts.noKw hD;obtain⟨a,vs,ns,rfl,rfl,hobj,hints,hlen⟩:=nG hn hpre hwl;refine enter_call (codeAny_mono (call w s₀ s₁ mg mb fa o pm cd doc a vs ns G Y ho (fd_plain hd) hcd hmg hobj hints hlen hg) λr s' hq=>?_);obtain⟨rfl,h2,h3,h4⟩:=hq;exact⟨.inl ⟨.bool true,.bool true,[],rfl,λ_=>rfl,.bool true,nW l _,λ_=>⟨List.Pairwise.nil,λ_ hm=>(nomatch hm)⟩⟩,h2,h3,h4⟩
end Att
namespace L2
open PySem PySem.Spec PyProof.Rows
theorem i6:∀{vs:List za} {ns:List Int},IntsAre vs ns->aL (ns.map V.int) vs
 |_,_,.nil=>.nil
 |_,_,.cons n t h=>.cons ⟨t,rfl⟩ (i6 h)
def rS(H:Hp):Prop:=∀b,H b=none\/∃o xs,H b=some (.frz o (.lst xs))
theorem pL{P:zv}{w:zA}{K:zb}{mg mb:Str->Option za}{CX:CXT}{k:Nat}{fa a:Addr}{fd:zX}{x:Str}{sp:Sp}{s₁:zd}{vs:List za}{ns:List Int}
  (KX:K.In s₁.heap) (hns:s₁.heap.Ns zz mg) (hb:s₁.heap.Ns builtinsNs mb) (hbb:∀x:Str,x≠"__name__"->mb x=wY x) (hlim:s₁.heap.NoLimit) (hg:s₁.gens=#[])
  (ha:s₁.heap.get? a=some { cls:=.type "list",data:=.seq vs.toArray }) (hi:IntsAre vs ns) (hl:ns.length<=zt) (hr:Room k callerA)
  (F:∀base:Heap,K.In base->base.Ns zz mg->FnOk P w K mg base CX k fa fd [x] sp) (hbind:∀(s:zd) (u:za),BindsTo s fd ⟨[u],[]⟩ [(x,u)])
  (hsp:∀H:Hp,rS H->SqL K H a (ns.map V.int)->sp [.ref a] H (λv _=>v=.bl true) λ_ _ _=>False)
  (hCX:∀H e s',CX [] H s₁ (λ_ _ _=>False) e s'->False) :
  codeAny (zg P w) callerA (.call (.ref fa) ⟨[.ref a],[]⟩) (λr s'=>r=.ok (.ret (.bool true))/\OldK s₁.heap s'.heap/\s'.os=s₁.os/\AllBare s'.gens) s₁:=by
 have rv:=i6 hi;have lenV:=hi.length
 have core:∀H:Hp,rS H->SqL K H a (ns.map V.int)->HOk P w H s₁.heap->(∀b,H b≠none->b=a)->(H a≠none->K.lookup a=none)->
   codeAny (zg P w) callerA (.call (.ref fa) ⟨[.ref a],[]⟩) (λr s'=>r=.ok (.ret (.bool true))/\OldK s₁.heap s'.heap/\s'.os=s₁.os/\AllBare s'.gens) s₁:=by
  intro H hO hS hok hA hK;have base_of:∀{b:Addr} {o:Obj},s₁.heap.get? b=some o->H b=none->(jt s₁.heap H).get? b=some o:=λe n=>pM e n
  have noA:∀{b:Addr} {o:Obj} {es:Array DictEntry} {ep:Nat},s₁.heap.get? b=some o->o.data=.dict es ep->H b=none:=λ{b o es ep} e d=>by
   cases q:H b with
   |none=>rfl
   |some u=>
    have e':b=a:=hA b (by rw[q];simp);subst e';rw[ha] at e;cases e;have d':Data.seq vs.toArray _=Data.dict es ep:=d;cases d'
  have nsK:∀{b:Addr} {m:Str->Option za},s₁.heap.Ns b m->(jt s₁.heap H).Ns b m:=λ{b m} ⟨o,es,ep,e,d,r⟩=>⟨o,es,ep,base_of e (noA e d),d,r⟩
  have hKb:K.In (jt s₁.heap H):=λb o e=>base_of (KX b o e) (by
   cases q:H b with
   |none=>rfl
   |some u=>
    have e':b=a:=hA b (by rw[q];simp);subst e'
    rw[hK (by rw[q];simp)] at e;cases e)
  have hM:Mod K mg (jt s₁.heap H):=⟨hKb,nsK hns,⟨mb,nsK hb,hbb⟩,let⟨mc,h1,h2⟩:=hlim;⟨mc,nsK h1,h2⟩⟩;have e0:Env0 P w K mg (jt s₁.heap H) callerA [] s₁ H:=⟨rfl,hM,λb o e=>qD e,Nat.le_of_eq (nV _ _),trivial,λb hb=>absurd (show b∈([]:List Addr) from hb) (by simp),hok,.of_eq hg⟩;refine codeAny_mono ((F _ hKb (nsK hns)).run callerA [] s₁ H ⟨[.ref a],[]⟩ [.ref a] [.ref a] _ _ hr e0 (hbind s₁ (.ref a)) (.cons rfl .nil) (hsp H hO hS)) λr s' h=>?_;cases r with
  |error e=>exact(hCX H e s' h).elim
  |ok fl=>
   cases fl with
   |next=>exact zW h
   |brk=>exact zW h
   |cont=>exact zW h
   |ret u=>
    obtain⟨v,H',os,bare,un,hok',r',q⟩:=h;have q':v=.bl true:=q;subst q';obtain rfl:u=xA true:=r';refine⟨rfl,OldK.of_keep λb o e=>?_,os,bare⟩;cases q:H b with
    |none=>exact un.keep b o e q (by intro z;exact absurd (show b∈([]:List Addr) from z) (by simp)) (by simp)
    |some u=>
     rcases hO b with z | ⟨ob,xs,z⟩
     ·rw[q] at z;cases z
     ·have z2:=un.frzs b ob _ z
      obtain⟨e1,_⟩:=hok b _ z;obtain⟨e2,_⟩:=hok' b _ z2;rw[e] at e1;cases e1;exact e2
 cases hk:K.lookup a with
 |some o=>
  have e:=KX a o hk;rw[ha] at e;cases e;refine core (λ_=>none) (λ_=>.inl rfl) (.inr ⟨_,vs.toArray,_,hk,rfl,rfl,rfl,by rw[zu,lenV];exact hl,by simpa using rv⟩) (λb u z=>by have z':(none:Option HO)=some u:=z;cases z') (λb z=>absurd rfl z) λz=>absurd rfl z
 |none=>
  refine core (λb=>if b=a then some (.frz { cls:=.type "list",data:=.seq vs.toArray } (.lst (ns.map V.int))) else none) (λb=>?_) (.inl (.inr ⟨{ cls:=.type "list",data:=.seq vs.toArray },if_pos rfl⟩)) (λb u z=>?_) (λb z=>?_) λ_=>hk
  ·by_cases hb:b=a
   ·exact .inr ⟨_,_,if_pos hb⟩
   ·exact .inl (if_neg hb)
  ·by_cases hb:b=a
   ·have z':=(if_pos hb).symm.trans z
    cases z';subst hb;exact⟨ha,by rw[wj];exact hl,vs,_,rv,ha⟩
   ·have z':=(if_neg hb).symm.trans z
    cases z'
  ·by_cases hb:b=a
   ·exact hb
   ·exact absurd (if_neg hb) z
theorem qP{l:PySem.W.OpenLaw}{n k:Nat}{q:zv}{loose:List Str}{XP:(Str->Option za)->Heap->Prop}{YP:zA->Heap->Prop}{d:DefRec}{K:Params->zb}{CX:zA->CXT}{sp:zA->Sp}{x:Str}
  (hn:l.most=some n) (hn2:n<=zt) (hdf:d.params.defaults=[]) (hr:Room k callerA)
  (hY:∀(w:zA) (h:Heap),YP w h->(K w.params).In h)
  (F:∀(w:zA) (mg:Str->Option za) (fa:Addr) (h:Heap),(K w.params).In h->h.Ns zz mg->mg d.name=some (.ref fa)->
   ∃fd:zX,(∀(s:zd) (u:za),BindsTo s fd ⟨[u],[]⟩ [(x,u)])/\
    ∀base:Heap,(K w.params).In base->base.Ns zz mg->FnOk l.prog w (K w.params) mg base (CX w) k fa fd [x] (sp w))
  (hsp:∀(w:zA) (H:Hp) (a:Addr) (ns:List Int),ns.length<=n->rS H->SqL (K w.params) H a (ns.map V.int)->sp w [.ref a] H (λv _=>v=.bl true) λ_ _ _=>False)
  (hCX:∀(w:zA) (H:Hp) (s:zd) (e:za) (s':zd),CX w [] H s (λ_ _ _=>False) e s'->False) :
  PySem.W.WalkO q loose XP YP l.row.toRowW d [] (λf vs=>PySem.call f vs):=by
 refine Att.kq hn hdf λw s₀ s₁ mg mb fa o pm cd doc a vs ns G Y ho hd hcd hmg hobj hints hlen hg=>?_;have KX:=hY w _ Y;obtain⟨fd,hb,hF⟩:=F w mg fa _ KX G.T.g hmg;exact pL KX G.T.g G.T.b G.T.builtins G.T.nolimit hg hobj hints (zO hlen hn2) hr hF hb (λH hO hS=>hsp w H a ns hlen hO hS) λH e s'=>hCX w H s₁ e s'
def bz(s:Stmt):Arguments:=match s with
 |.FunctionDef _ a _ _ _ _ _ _ _ _=>a
 |_=>{ posonlyargs:=[],args:=[],vararg:=none,kwonlyargs:=[],kw_defaults:=[],kwarg:=none,defaults:=[] }
def aY(s:Stmt):List Stmt:=match s with
 |.FunctionDef _ _ b _ _ _ _ _ _ _=>b
 |_=>[]
def ax(s:Stmt):Scope:=match s with
 |.FunctionDef _ _ _ _ _ _ sc _ _ _=>sc
 |_=>{ kind:=.function,names:=[],isGenerator:=false,isCoroutine:=false }
abbrev CX0:CXT:=λ_ _ _ _ _ _=>False
abbrev E0:XK:=λ_ _ _=>False
theorem fX{X:Cx}:iG CX0 X E0:=λ_ _ _ _ _ _ _ h=>h.elim
structure Fun(K:zb)(x qual:Str)(st:Stmt)(f:Addr)(fd:zX):Prop where
 ex:∃(oc:za) (od:Option Addr) (kV doc pm:za) (an:Option Addr) (cdv ct:za) (osl:Array (Option za)),
  fd=vZ x qual (bz st) (aY st) (ax st) .none kV doc pm an cdv ct/\K.lookup f=some ⟨oc,od,.func fd,osl⟩/\xp K cdv qual=true
 kp:zY K (.ref f)=true
section
variable{P:zv}{w:zA}{K:zb}{mg:Str->Option za}{base:Heap}
theorem Fun.ok{x qual:Str}{st:Stmt}{f:Addr}{fd:zX}{N ps:List Str}{k:Nat}{sp:Sp}(F:Fun K x qual st f fd)(S:FnScope N ps (ax st))(len:∀vs H Q E,sp vs H Q E->vs.length=ps.length)
  (hbody:∀(cdv:za) (A:zD) (outer:List Env) (s:zd) (H:Hp) (vs:List V) (Q:VK) (E:XK),Room k (A.deeper (envOfC qual (ax st) s.heap.objs.size f cdv))->sp vs H Q E->
   ∃t,PSs (fv CX0 P w K mg base N qual (ax st) f cdv A outer s H E).nox (aY st) t/\t { nx:=λ_ H'=>Q .non H',rt:=Q } (eG N vs) H):FnOk P w K mg base CX0 (k+1) f fd ps sp:=by
 obtain⟨oc,od,kV,doc,pm,an,cdv,ct,osl,rfl,lk,hcd⟩:=F.ex;refine lY lk hcd S len λA outer s H vs Q E hr hsp=>?_;obtain⟨t,h,q⟩:=hbody cdv A outer s H vs Q E hr hsp;exact⟨t,h.nox,q⟩
theorem Fun.binds{x qual:Str}{st:Stmt}{f:Addr}{fd:zX}{ps:List Str}(F:Fun K x qual st f fd)
  (h:∀(kV doc pm:za) (an:Option Addr) (cdv ct:za) (us:List za),us.length=ps.length->bindArgs (vZ x qual (bz st) (aY st) (ax st) .none kV doc pm an cdv ct) ⟨us,[]⟩=pure (ps.zip us)):ej K fd ps []:=by
 obtain⟨oc,od,kV,doc,pm,an,cdv,ct,osl,rfl,lk,hcd⟩:=F.ex;exact .all (h kV doc pm an cdv ct)
theorem jz{x qual:Str}{st:Stmt}{f:Addr}{oc:za}{od an:Option Addr}{osl:Array (Option za)}{kV doc pm cdv ct:za}(l:K.lookup f=some ⟨oc,od,.func (vZ x qual (bz st) (aY st) (ax st) .none kV doc pm an cdv ct),osl⟩)
  (c:xp K cdv qual=true) (k:zY K (.ref f)=true):Fun K x qual st f (vZ x qual (bz st) (aY st) (ax st) .none kV doc pm an cdv ct):=⟨⟨oc,od,kV,doc,pm,an,cdv,ct,osl,rfl,l,c⟩,k⟩
end
theorem gw{n:Nat}(h:n<=1000):n<zt:=wc h (by decide)
section
variable{X:Cx}
theorem pv(i:Nat){x:Str}{pos:Pos}(hN:X.N[i]?=some x:=by rfl)(hv:Vis X.env.scope x:=by first | exact zV rfl | exact xb (zV rfl) | exact xb (xb rfl))(hd:(x==("__debug__" : Str))=false:=by decide)
  (hcd:(x==("__classdict__" : Str))=false:=by decide):PE X (.Name x pos) (tm i):=fB hN hv hd hcd
end
theorem qe{A B:Prop}(h:B):if false=true then A else B:=by
 rw[if_neg zm];exact h
theorem vA{c A B:Prop}[Decidable c](h1:c->A)(h2:¬ c->B):if c then A else B:=by
 by_cases h:c
 ·rw[if_pos h]
  exact h1 h
 ·rw[if_neg h]
  exact h2 h
def au(H H':Hp):Prop:=∀b o,H b=some o->H' b=some o
theorem au.refl(H:Hp):au H H:=λ_ _ h=>h
theorem au.trans{H H1 H2:Hp}(a:au H H1)(b:au H1 H2):au H H2:=λc o h=>b c o (a c o h)
theorem au.free{H H':Hp}(e:au H H'){l:Addr}(h:H' l=Option.none):H l=Option.none:=by
 cases q:H l with
 |none=>rfl
 |some o=>
  rw[e l o q] at h;cases h
theorem au.seq{K:zb}{H H':Hp}{a:Addr}{xs:List V}(e:au H H')(h:SqL K H a xs):SqL K H' a xs:=by
 rcases h with(h | ⟨o,h⟩) | h
 ·exact .inl (.inl (e _ _ h))
 ·exact .inl (.inr ⟨o,e _ _ h⟩)
 ·exact .inr h
end L2
namespace Ex
open PySem PySem.Spec PyProof.Rows L2
structure Moves(fs:List Addr)(n:Nat)(H:Hp)(h h':Heap):Prop where
 keep:∀b o,h.get? b=some o->b∉fs->(b<n\/H b≠none)->h'.get? b=some o
 slot:∀b o,h.get? b=some o->b∈fs->∃sl,h'.get? b=some { o with slots:=sl }
 there:∀b o,h.get? b=some o->∃o',h'.get? b=some o'
theorem Moves.trans{fs:List Addr}{n:Nat}{H:Hp}{h1 h2 h3:Heap}(x:Moves fs n H h1 h2)(y:Moves fs n H h2 h3):Moves fs n H h1 h3 where
 keep:=λb o e z q=>y.keep b o (x.keep b o e z q) z q
 slot:=λb o e z=>let⟨_,e1⟩:=x.slot b o e z;let⟨sl,e2⟩:=y.slot b _ e1 z;⟨sl,e2⟩
 there:=λb o e=>let⟨o1,e1⟩:=x.there b o e;y.there b o1 e1
theorem Moves.un{fs:List Addr}{n:Nat}{H H':Hp}{h0 h h':Heap}(u:Un fs [] H H' h0 h)(m:Moves fs n H' h h')(hn:h0.objs.size<=n):Un fs [] H H' h0 h' where
 keep:=λb o e q z y=>m.keep b o (u.keep b o e q z y) z (.inl (zx (zh e) hn))
 slot:=λb o e q z y=>let⟨_,e1⟩:=u.slot b o e q z y;let⟨sl,e2⟩:=m.slot b _ e1 z;⟨sl,e2⟩
 free:=u.free
 there:=λb o e y=>let⟨o1,e1⟩:=u.there b o e y;m.there b o1 e1
 tups:=u.tups
 frzs:=u.frzs
 tbls:=u.tbls
theorem Moves.hok{P:zv}{w:zA}{fs:List Addr}{n:Nat}{H:Hp}{h h':Heap}(m:Moves fs n H h h')(hf:∀b∈fs,H b=none)(k:HOk P w H h):HOk P w H h':=λb o e=>by
 refine(k b o e).stay (λc v hc q=>?_) (λ_ q=>q) λ_ _ q=>q
 have tr:H c≠none:=by
  rcases hc with z | z
  ·rw[z,e];exact λx=>by cases x
  ·rw[z];exact λx=>by cases x
 exact m.keep c v q (λz=>tr (hf c z)) (.inr tr)
structure XT(n:Nat)(H:Hp)(h:Heap)(a:Addr)(cls:za)(dx:Addr)(fl:za):Prop where
 ge:n<=a
 un:H a=none
 ob:∃oe vs T oT ts,h.get? a=some oe/\oe.cls=cls/\oe.dict=some dx/\oe.data=.fields vs/\vs[1]?=some (.ref T)/\n<=T/\T≠a/\H T=none/\h.get? T=some oT/\oT.data=.fields ts/\ts[3]?=some fl
structure XN(n:Nat)(H:Hp)(h:Heap)(a:Addr)(cls:za)(dx:Addr):Prop where
 ge:n<=a
 un:H a=none
 ob:∃oe vs,h.get? a=some oe/\oe.cls=cls/\oe.dict=some dx/\oe.data=.fields vs/\vs[1]?=some .none
def XAt(n:Nat)(H:Hp)(h:Heap)(a:Addr)(cls:za)(dx:Addr):Prop:=XN n H h a cls dx\/XT n H h a cls dx .none
theorem XT.le{n n':Nat}{H:Hp}{h:Heap}{a dx:Addr}{cls fl:za}(x:XT n H h a cls dx fl)(l:n'<=n):XT n' H h a cls dx fl:=by
 obtain⟨g,u,oe,vs,T,oT,ts,e1,e2,e3,e4,e5,e6,e7⟩:=x;exact⟨zO l g,u,oe,vs,T,oT,ts,e1,e2,e3,e4,e5,zO l e6,e7⟩
theorem XAt.le{n n':Nat}{H:Hp}{h:Heap}{a dx:Addr}{cls:za}(x:XAt n H h a cls dx)(l:n'<=n):XAt n' H h a cls dx:=
 x.elim (λx=>.inl ⟨zO l x.ge,x.un,x.ob⟩) λx=>.inr (x.le l)
section
variable{M:Model}{A:zD}{E:za->zd->Prop}{s:zd}{base:Heap}{env:Env}{outer:List Env}{L a dx:Addr}{cls:za}{n:Nat}{H:Hp}
theorem kH{fs:List Addr}{h h':Heap}(x:Heap.SlotsOnly fs h h'):Moves fs n H h h':=
 ⟨λb o e z _=>(x.2.1 b z).trans e,λb o e _=>x.2.2 b o e,λb o e=>let⟨_,q⟩:=x.2.2 b o e;⟨_,q⟩⟩
theorem gv{fs:List Addr}{h:Heap}{b:Addr}{f:Obj->Obj}(hb:n<=b)(hu:H b=none)(hfs:b∉fs)(hat:∃o,(h.update b f).get? b=some o):Moves fs n H h (h.update b f) where
 keep:=λc o e _ q=>by
  have ne:b≠c:=λz=>by
   subst z;rcases q with q | q
   ·exact absurd q (Nat.not_lt.mpr hb)
   ·exact q hu
  rw[zJ _ _ ne];exact e
 slot:=λc o e z=>⟨o.slots,by rw[zJ _ _ (λq:b=c=>hfs (q▸z))];exact e⟩
 there:=λc o e=>by
  by_cases q:b=c
  ·subst q;exact hat
  ·exact⟨o,by rw[zJ _ _ q];exact e⟩
theorem kT{fs:List Addr}{h:Heap}(o:Obj):Moves fs n H h (h.push o):=
 ⟨λ_ _ e _ _=>ze _ e,λb u e _=>⟨u.slots,ze _ e⟩,λb u e=>⟨u,ze _ e⟩⟩
theorem iQ{l:List Env}(hl:s.heap.FunFrames base l){b:Addr}{o:Obj}{vs:Array za}(e:s.heap.get? b=some o)(d:o.data=.fields vs):b∉frs l:=λhm=>by
 obtain⟨_,u,hu,hn⟩:=hl.mem hm;rw[e] at hu;cases hu;exact hn vs d
theorem jJ{fs:List Addr}{h h':Heap}(m:Moves fs n H h h'):∀(l:List Env),(∀b∈frs l,b∈fs)->h.FunFrames base l->h'.FunFrames base l:=by
 intro l
 induction l with
 |nil=>exact λ_ _=>trivial
 |cons v r ih=>
  intro hs hl;obtain⟨hk,⟨L,o,hf,hn,ho,hd⟩,hr⟩:=hl
  have sub:∀b,b=L\/b∈frs r->b∈frs (v::r):=λb z=>by
   show b∈List.filterMap _ _;rw[xR,hf];exact zq.mpr z
  obtain⟨sl,e⟩:=m.slot L o ho (hs L (sub L (.inl rfl)));exact⟨hk,⟨L,_,hf,hn,e,hd⟩,ih (λb z=>hs b (sub b (.inr z))) hr⟩
theorem ky{o:Obj}{f:Array za->Array za}:(xx f o).dict=o.dict:=by
 obtain⟨c,d,dt,sl⟩:=o;cases dt<;>rfl
theorem gH{l:List Env}{fl:za}{Q:Unit->zd->Prop}(hl:s.heap.FunFrames base l)(x:XT n H s.heap a cls dx fl)
  (hq:∀h',Moves (frs l) n H s.heap h'->XT n H h' a cls dx .none->Q () { s with heap:=h' }):zf M A (setFlight (.ref a) none) Q E s:=by
 obtain⟨g,u,oe,vs,T,oT,ts,ea,ec,ed,edat,e1,gT,ne,uT,eT,edT,e3⟩:=x;have i3:3<ts.size:=(xh.mp e3).1;unfold setFlight;refine zc (zR ea edat e1 ?_);rw[if_pos (by simp:(zk T != zP)=true)];have self:=wI (xx (·.setIfInBounds 3 zP)) eT (xI (wJ edT _));refine wpAny_setField eT edT i3 (hq _ (gv gT uT (iQ hl eT edT) ⟨_,self⟩) ⟨g,u,oe,vs,T,_,_,?_,ec,ed,edat,e1,gT,ne,uT,self,wJ edT _,?_⟩)
 ·rw[zJ _ _ ne];exact ea
 ·simp[i3]
theorem kd{head:za}{had:Bool}{oe:Obj}{vs:Array za}{Q:Unit->zd->Prop}(hfr:A.frames=some (env::outer))(hl:s.heap.FunFrames base (env::outer))(hf:env.frame=some L)
  (hH:∀b,s.heap.objs.size<=b->H b=none) (g:n<=a) (u:H a=none) (ea:s.heap.get? a=some oe) (edat:oe.data=.fields vs) (i1:1<vs.size)
  (hq:∀h',Moves (frs (env::outer)) n H s.heap h'->XT n H h' a oe.cls (oe.dict.getD 0) (rawInt L)->(∃o,h'.get? a=some o/\o.dict=oe.dict)->Q () { s with heap:=h' }) (hdx:∃d,oe.dict=some d) :
  zf M A (do let fo<-frameOf env;let pl<-entryPlaceOf L had;let b<-EntryCells.newEntry head fo .none (rawInt L) .none pl;setField (.ref a) 1 b) Q E s:=by
 refine zc (wpAny_frameOf_fun hfr hl hf λh1 hs=>zc (wpAny_entryPlaceOf λpl hpl=>?_));unfold EntryCells.newEntry;unfold newFields;refine zc (wd (?_) (hpl.sizeOk5 _ _ _ _ _));have naf:a∉frs (env::outer):=iQ hl ea edat;have a1:h1.get? a=some oe:=(hs.2.1 a naf).trans ea;generalize hts:([head,zk L,zP,rawInt L,zP]++(if pl.isEmpty then wU 6 zP else pl)).toArray=ts;have t3:ts[3]?=some (rawInt L):=by rw[<-hts];simp
 have a2:(h1.push { cls:=.type "traceback",dict:=none,data:=.fields ts }).get? a=some oe:=ze _ a1;have neT:a≠h1.objs.size:=zC (zh a1);have selfA:=wI (xx (·.setIfInBounds 1 (zk h1.objs.size))) a2 (xI (wJ edat _));have sz:h1.objs.size=s.heap.objs.size:=hs.1;refine wpAny_setField a2 edat i1 (hq _ ((kH hs).trans ((kT _).trans (gv g u naf ⟨_,selfA⟩))) ?_ ⟨_,selfA,?_⟩)
 ·refine⟨g,u,_,_,h1.objs.size,_,ts,selfA,?_,?_,wJ edat _,by simp[i1],?_,Ne.symm neT,hH _ (Nat.le_of_eq sz.symm),(zJ _ _ neT).trans (zr _ rfl),rfl,t3⟩
  ·exact Obj.cls_mapFields _ _
  ·obtain⟨d,hd⟩:=hdx
   rw[ky,hd];rfl
  ·exact zO g (Nat.le_of_lt (zh a1))
 ·exact ky
theorem lM{Q:Unit->zd->Prop}(hfr:A.frames=some (env::outer))(hl:s.heap.FunFrames base (env::outer))(hf:env.frame=some L)(hH:∀b,s.heap.objs.size<=b->H b=none)(x:XAt n H s.heap a cls dx)
  (hq:∀h',Moves (frs (env::outer)) n H s.heap h'->XT n H h' a cls dx (rawInt L)->Q () { s with heap:=h' }):zf M A (noteFrame (.ref a) env) Q E s:=by
 unfold noteFrame;simp only[hf];rcases x with⟨g,u,oe,vs,ea,ec,ed,edat,e1⟩ | ⟨g,u,oe,vs,T,oT,ts,ea,ec,ed,edat,e1,gT,ne,uT,eT,edT,e3⟩
 ·refine zc (zR ea edat e1 ?_)
  rw[if_neg (by decide)];refine kd (n:=n) (H:=H) hfr hl hf hH g u ea edat (xh.mp e1).1 (λh' m x _=>hq h' m ?_) ⟨_,ed⟩;rw[ec,ed] at x;exact x
 ·have i3:3<ts.size:=(xh.mp e3).1
  refine zc (zR ea edat e1 ?_);rw[if_pos (by simp:(zk T != zP)=true)];refine zc (zR eT edT e3 ?_);rw[if_neg (by simp[rawInt]:¬ (zP==rawInt L)=true)];have self:=wI (xx (·.setIfInBounds 3 zP)) eT (xI (wJ edT _));have mv:Moves (frs (env::outer)) n H s.heap (s.heap.update T (xx (·.setIfInBounds 3 zP))):=gv gT uT (iQ hl eT edT) ⟨_,self⟩;refine zc (wpAny_setField eT edT i3 ?_);have ea':=(zJ s.heap (xx (·.setIfInBounds 3 zP)) ne).trans ea;refine kd (n:=n) (H:=H) (base:=base) (s:={ s with heap:=s.heap.update T (xx (·.setIfInBounds 3 zP)) }) hfr ?_ hf (λb hb=>hH b ?_) g u ea' edat (xh.mp e1).1 (λh' m x _=>hq h' (mv.trans m) ?_) ⟨_,ed⟩
  ·refine hl.of_keeps λb o e nf=>⟨o,?_,rfl⟩
   rw[zJ _ _ (λz:T=b=>nf ts (by subst z;rw[eT] at e;cases e;exact edT))];exact e
  ·have:=hb
   rw[Heap.size_after_update] at this;exact this
  ·rw[ec,ed] at x
   exact x
theorem pR{Q:Unit->zd->Prop}(hfr:A.frames=some (env::outer))(hl:s.heap.FunFrames base (env::outer))(hf:env.frame=some L)(hH:∀b,s.heap.objs.size<=b->H b=none)(x:XAt n H s.heap a cls dx)
  (hq:∀h',Moves (frs (env::outer)) n H s.heap h'->XAt n H h' a cls dx->Q () { s with heap:=h' }):zf M A (leaving env (.ref a)) Q E s:=by
 unfold leaving;refine zc (lM hfr hl hf hH x λh' m y=>?_);refine gH (base:=base) (l:=env::outer) ?_ y λh2 m2 y2=>hq h2 (m.trans m2) (.inr y2);exact jJ m _ (λ_ z=>z) hl
end
end Ex
namespace Dn
open PySem PySem.Spec PyProof.Rows L2
inductive D where
 |non | bl (b:Bool) | int (i:Int) | str (x:Str) | tup (xs:List D) | lst (xs:List D) | dic (es:List (List Int×D))
 deriving Inhabited
def uY(ns:List Int):Int:=reduceHash (Builtin.Tuple.tupleHashOf (ns.map hashInt))
abbrev jA:=List (List Int×Addr×V)
structure EntOk(p:List Int×Addr×V)(e:DictEntry):Prop where
 hash:e.hash=uY p.1
 key:e.key=.ref p.2.1
 val:aN p.2.2 e.val
def DAt(a:Addr)(us:jA)(ep:Nat):Heap->Prop:=λh=>(a==sysModules)=false/\us.length<=1000000/\∃o raw,h.get? a=some o/\o.ExactDict/\o.data=.dict raw ep/\Paired EntOk us raw.toList
def RdI(K:zb)(G:Hp)(a:Addr)(xs:List V):Prop:=G a=some (.lst xs)\/∃ns:List Int,xs=ns.map V.int/\SqL K G a xs
theorem RdI.sq{K:zb}{G:Hp}{a:Addr}{xs:List V}(h:RdI K G a xs):SqL K G a xs:=h.elim (λh=>SqL.of h) λ⟨_,_,h⟩=>h
theorem RdI.mono{K:zb}{G G':Hp}{a:Addr}{xs:List V}(e:au G G')(h:RdI K G a xs):RdI K G' a xs:=h.elim (λh=>.inl (e _ _ h)) λ⟨n,z,h⟩=>.inr ⟨n,z,e.seq h⟩
mutual
inductive Den(K:zb)(G:Hp):V->D->Prop where
 |non:Den K G .non .non
 |bl (b:Bool):Den K G (.bl b) (.bl b)
 |int (i:Int):Den K G (.int i) (.int i)
 |str (x:Str):Den K G (.str x) (.str x)
 |tup {a:Addr} {xs:List V} {ds:List D} (h:SqT K G a xs) (hs:DenL K G xs ds):Den K G (.ref a) (.tup ds)
 |lst {a:Addr} {xs:List V} {ds:List D} (h:RdI K G a xs) (hs:DenL K G xs ds):Den K G (.ref a) (.lst ds)
 |dic {a:Addr} {us:jA} {ep:Nat} {es:List (List Int×D)} (h:G a=some (.ext (DAt a us ep))) (nd:(us.map (·.1)).Nodup) (hs:DenM K G us es):Den K G (.ref a) (.dic es)
inductive DenM(K:zb)(G:Hp):jA->List (List Int×D)->Prop where
 |nil:DenM K G [] []
 |cons {k:List Int} {b:Addr} {v:V} {d:D} {us:jA} {es:List (List Int×D)} (hk:SqT K G b (k.map V.int)) (hv:Den K G v d) (hs:DenM K G us es):DenM K G ((k,b,v)::us) ((k,d)::es)
inductive DenL(K:zb)(G:Hp):List V->List D->Prop where
 |nil:DenL K G [] []
 |cons {x:V} {d:D} {xs:List V} {ds:List D} (h:Den K G x d) (hs:DenL K G xs ds):DenL K G (x::xs) (d::ds)
end
theorem aE{K:zb}{H H':Hp}{a:Addr}{xs:List V}(e:au H H')(h:SqT K H a xs):SqT K H' a xs:=by
 rcases h with(h | ⟨o,h⟩) | h
 ·exact .inl (.inl (e _ _ h))
 ·exact .inl (.inr ⟨o,e _ _ h⟩)
 ·exact .inr h
theorem Den.mono{K:zb}{G G':Hp}(e:au G G'){v:V}{d:D}(h:Den K G v d):Den K G' v d:=
 Den.rec (motive_1:=λv d _=>Den K G' v d) (motive_2:=λu e _=>DenM K G' u e) (motive_3:=λv d _=>DenL K G' v d) .non .bl .int .str (λh _ y=>.tup (aE e h) y) (λh _ y=>.lst (h.mono e) y) (λh n _ y=>.dic (e _ _ h) n y) .nil (λk _ _ y z=>.cons (aE e k) y z) .nil (λ_ _ y z=>.cons y z) h
theorem DenM.mono{K:zb}{G G':Hp}(e:au G G'){us:jA}{es:List (List Int×D)}(h:DenM K G us es):DenM K G' us es:=
 DenM.rec (motive_1:=λv d _=>Den K G' v d) (motive_2:=λu e _=>DenM K G' u e) (motive_3:=λv d _=>DenL K G' v d) .non .bl .int .str (λh _ y=>.tup (aE e h) y) (λh _ y=>.lst (h.mono e) y) (λh n _ y=>.dic (e _ _ h) n y) .nil (λk _ _ y z=>.cons (aE e k) y z) .nil (λ_ _ y z=>.cons y z) h
theorem DenL.mono{K:zb}{G G':Hp}(e:au G G'){v:List V}{d:List D}(h:DenL K G v d):DenL K G' v d:=
 DenL.rec (motive_1:=λv d _=>Den K G' v d) (motive_2:=λu e _=>DenM K G' u e) (motive_3:=λv d _=>DenL K G' v d) .non .bl .int .str (λh _ y=>.tup (aE e h) y) (λh _ y=>.lst (h.mono e) y) (λh n _ y=>.dic (e _ _ h) n y) .nil (λk _ _ y z=>.cons (aE e k) y z) .nil (λ_ _ y z=>.cons y z) h
section
variable{K:zb}{G:Hp}
theorem DenL.ind{P:List V->List D->Prop}(n:P [] [])(c:∀{x:V} {d:D} {xs:List V} {ds:List D},Den K G x d->DenL K G xs ds->P xs ds->P (x::xs) (d::ds)){xs:List V}{ds:List D}(h:DenL K G xs ds):P xs ds:=
 DenL.rec (motive_1:=λ_ _ _=>True) (motive_2:=λ_ _ _=>True) (motive_3:=λxs ds _=>P xs ds) trivial (λ_=>trivial) (λ_=>trivial) (λ_=>trivial) (λ_ _ _=>trivial) (λ_ _ _=>trivial) (λ_ _ _ _=>trivial) trivial (λ_ _ _ _ _=>trivial) n (λh hs _ y=>c h hs y) h
theorem DenL.length{xs:List V}{ds:List D}(h:DenL K G xs ds):xs.length=ds.length:=
 DenL.ind (P:=λxs ds=>xs.length=ds.length) rfl (λ_ _ y=>congrArg (· + 1) y) h
theorem DenL.get{xs:List V}{ds:List D}{i:Nat}{d:D}(h:DenL K G xs ds):ds[i]?=some d->∃x,xs[i]?=some x/\Den K G x d:=by
 revert i
 refine DenL.ind (P:=λxs ds=>∀{i:Nat},ds[i]?=some d->∃x,xs[i]?=some x/\Den K G x d) (λ{i} e=>nomatch e) (λ{x d' xs ds} h _ y {i} e=>?_) h;cases i with
 |zero=>cases e;exact⟨_,rfl,h⟩
 |succ i=>exact y (i:=i) e
theorem DenL.getV{xs:List V}{ds:List D}{i:Nat}{x:V}(h:DenL K G xs ds):xs[i]?=some x->∃d,ds[i]?=some d/\Den K G x d:=by
 revert i
 refine DenL.ind (P:=λxs ds=>∀{i:Nat},xs[i]?=some x->∃d,ds[i]?=some d/\Den K G x d) (λ{i} e=>nomatch e) (λ{x' d' xs ds} h _ y {i} e=>?_) h;cases i with
 |zero=>cases e;exact⟨_,rfl,h⟩
 |succ i=>exact y (i:=i) e
theorem DenL.append{xs ys:List V}{ds es:List D}(h:DenL K G xs ds)(s:DenL K G ys es):DenL K G (xs++ys) (ds++es):=
 DenL.ind (P:=λxs ds=>DenL K G (xs++ys) (ds++es)) s (λh _ y=>.cons h y) h
theorem DenL.take{xs:List V}{ds:List D}(n:Nat)(h:DenL K G xs ds):DenL K G (xs.take n) (ds.take n):=by
 refine DenL.ind (P:=λxs ds=>∀n,DenL K G (xs.take n) (ds.take n)) (λn=>?_) (λh _ y n=>?_) h n
 ·cases n<;>exact .nil
 ·cases n with
  |zero=>exact .nil
  |succ n=>exact .cons h (y n)
theorem DenL.drop{xs:List V}{ds:List D}(n:Nat)(h:DenL K G xs ds):DenL K G (xs.drop n) (ds.drop n):=by
 refine DenL.ind (P:=λxs ds=>∀n,DenL K G (xs.drop n) (ds.drop n)) (λn=>?_) (λh hs y n=>?_) h n
 ·cases n<;>exact .nil
 ·cases n with
  |zero=>exact .cons h hs
  |succ n=>exact y n
theorem DenL.set{x:V}{d:D}(r:Den K G x d){xs:List V}{ds:List D}(i:Nat)(h:DenL K G xs ds):DenL K G (xs.set i x) (ds.set i d):=by
 refine DenL.ind (P:=λxs ds=>∀i,DenL K G (xs.set i x) (ds.set i d)) (λn=>.nil) (λq t y i=>?_) h i;cases i with
 |zero=>exact .cons r t
 |succ i=>exact .cons q (y i)
theorem DenL.one{x:V}{d:D}(h:Den K G x d):DenL K G [x] [d]:=.cons h .nil
end
structure Grow(G H G' H':Hp):Prop where
 hh:au H H'
 gg:au G G'
 gh:au G' H'
 fo:∀a o,H a=some o->G a=none->G' a=none
theorem Grow.refl{G H:Hp}(h:au G H):Grow G H G H:=⟨au.refl _,au.refl _,h,λ_ _ _ e=>e⟩
theorem Grow.trans{G H G1 H1 G2 H2:Hp}(a:Grow G H G1 H1)(b:Grow G1 H1 G2 H2):Grow G H G2 H2:=
 ⟨a.hh.trans b.hh,a.gg.trans b.gg,b.gh,λc o h e=>b.fo c o (a.hh c o h) (a.fo c o h e)⟩
theorem Grow.new{G H:Hp}{p:Addr}(o:HO)(gh:au G H)(hn:H p=none):Grow G H (upd G p o) (upd H p o) where
 hh:=λb u e=>by rw[ak (ar e hn)];exact e
 gg:=λb u e=>by rw[ak (ar (gh b u e) hn)];exact e
 gh:=λb u e=>by
  unfold upd at e ⊢
  by_cases z:b=p
  ·rw[if_pos z] at e ⊢;exact e
  ·rw[if_neg z] at e ⊢;exact gh b u e
 fo:=λa u e g=>by rw[ak (ar e hn)];exact g
theorem Grow.lay{G H:Hp}{p:Addr}(o:HO)(gh:au G H)(hn:H p=none):Grow G H G (upd H p o) where
 hh:=λb u e=>by rw[ak (ar e hn)];exact e
 gg:=au.refl _
 gh:=λb u e=>by rw[ak (ar (gh b u e) hn)];exact gh b u e
 fo:=λa u e g=>g
inductive Sl where
 |un | dat (d:D) | own (ds:List D) | odi (es:List (List Int×D))
abbrev Ev:=List Sl
structure EnvD(K:zb)(He G H:Hp)(σ:L2.St)(ε:Ev):Prop where
 len:σ.length=ε.length
 dat:∀{i:Nat} {d:D},ε[i]?=some (.dat d)->∃v,σ[i]?=some (some v)/\Den K G v d
 own:∀{i:Nat} {ds:List D},ε[i]?=some (.own ds)->∃a xs,σ[i]?=some (some (.ref a))/\H a=some (.lst xs)/\G a=none/\He a=none/\DenL K G xs ds
 apart:∀{i j:Nat} {ds es:List D} {a:Addr},ε[i]?=some (.own ds)->ε[j]?=some (.own es)->σ[i]?=some (some (.ref a))->σ[j]?=some (some (.ref a))->i=j
 odi:∀{i:Nat} {es:List (List Int×D)},ε[i]?=some (.odi es)->∃a us ep,σ[i]?=some (some (.ref a))/\H a=some (.ext (DAt a us ep))/\G a=none/\He a=none/\(us.map (·.1)).Nodup/\DenM K G us es
 apartD:∀{i j:Nat} {ds es:List (List Int×D)} {a:Addr},ε[i]?=some (.odi ds)->ε[j]?=some (.odi es)->σ[i]?=some (some (.ref a))->σ[j]?=some (some (.ref a))->i=j
theorem EnvD.grow{K:zb}{He G H G' H':Hp}{σ:L2.St}{ε:Ev}(E:EnvD K He G H σ ε)(g:Grow G H G' H'):EnvD K He G' H' σ ε where
 len:=E.len
 dat:=λe=>let⟨v,h1,h2⟩:=E.dat e;⟨v,h1,h2.mono g.gg⟩
 own:=λe=>let⟨a,xs,h1,h2,h3,h4,h5⟩:=E.own e;⟨a,xs,h1,g.hh _ _ h2,g.fo _ _ h2 h3,h4,h5.mono g.gg⟩
 apart:=E.apart
 odi:=λe=>let⟨a,us,ep,h1,h2,h3,h4,h5,h6⟩:=E.odi e;⟨a,us,ep,h1,g.hh _ _ h2,g.fo _ _ h2 h3,h4,h5,h6.mono g.gg⟩
 apartD:=E.apartD
structure Sta(K:zb)(He Ge G H:Hp)(σ:L2.St)(ε:Ev):Prop where
 g:Grow Ge He G H
 e:EnvD K He G H σ ε
theorem Sta.grow{K:zb}{He Ge G H G' H':Hp}{σ:L2.St}{ε:Ev}(S:Sta K He Ge G H σ ε)(g:Grow G H G' H'):Sta K He Ge G' H' σ ε:=⟨S.g.trans g,S.e.grow g⟩
def DE(X:Cx)(e:Expr)(f:Ev->Option D):Prop:=∃t,PE X e t/\∀(He G H:Hp) (σ:L2.St) (ε:Ev) (d:D) (Q:VK),au G H->EnvD X.K He G H σ ε->f ε=some d->
 (∀v G' H',Grow G H G' H'->Den X.K G' v d->Q v H')->t σ H Q
def DF(X:Cx)(e:Expr)(f:Ev->Option (List D)):Prop:=∃t,PE X e t/\∀(He G H:Hp) (σ:L2.St) (ε:Ev) (ds:List D) (Q:VK),au G H->EnvD X.K He G H σ ε->f ε=some ds->
 (∀a xs G' H',Grow G H G' H'->H a=none->G' a=none->H' a=some (.lst xs)->DenL X.K G' xs ds->Q (.ref a) H')->t σ H Q
def DT(X:Cx)(e:Expr)(f:Ev->Option Bool):Prop:=∃t,PT X e t/\∀(He G H:Hp) (σ:L2.St) (ε:Ev) (b:Bool) (Q:Bool->Hp->Prop),au G H->EnvD X.K He G H σ ε->f ε=some b->
 (∀G' H',Grow G H G' H'->Q b H')->t σ H Q
def DW(X:Cx)(e:Expr)(f:Ev->Option Bool):Prop:=∃t,PW X e t/\∀(He G H:Hp) (σ:L2.St) (ε:Ev) (b:Bool) (Q:Bool->Hp->Prop),au G H->EnvD X.K He G H σ ε->f ε=some b->
 (∀G' H',Grow G H G' H'->Q b H')->t σ H Q
def DA(X:Cx)(es:List Expr)(f:Ev->Option (List D)):Prop:=∃t,PA X es t/\∀(He G H:Hp) (σ:L2.St) (ε:Ev) (ds:List D) (Q:List V->Hp->Prop),au G H->EnvD X.K He G H σ ε->f ε=some ds->
 (∀vs G' H',Grow G H G' H'->DenL X.K G' vs ds->Q vs H')->t σ H Q
theorem DW.dt{X:Cx}{e:Expr}{f:Ev->Option Bool}(h:DW X e f):DT X e f:=let⟨t,h1,h2⟩:=h;⟨t,h1.pt,h2⟩
theorem Grow.seal{G H G' H':Hp}{a:Addr}{xs:List V}(g:Grow G H G' H')(hn:H a=none)(gn:G' a=none)(ha:H' a=some (.lst xs)):Grow G H (upd G' a (.lst xs)) H':=
 ⟨g.hh,λb o e=>by rw[ak (ar (g.gg b o e) gn)];exact g.gg b o e,λb o e=>by
   unfold upd at e
   by_cases z:b=a
   ·rw[if_pos z] at e;cases e;rw[z];exact ha
   ·rw[if_neg z] at e;exact g.gh b o e,λb o e z=>by rw[ak (ar e hn)];exact g.fo b o e z⟩
theorem kM{K:zb}{G':Hp}{a:Addr}{xs:List V}{ds:List D}(gn:G' a=none)(hd:DenL K G' xs ds):Den K (upd G' a (.lst xs)) (.ref a) (.lst ds):=
 .lst (.inl aj) (hd.mono λb o e=>by rw[ak (ar e gn)];exact e)
def eF(f:Ev->Option (List D)):Ev->Option D:=λε=>(f ε).map D.lst
theorem DF.de{X:Cx}{e:Expr}{f:Ev->Option (List D)}(h:DF X e f):DE X e (eF f):=by
 obtain⟨t,h1,h2⟩:=h;refine⟨t,h1,λHe G H σ ε d Q gh E ef q=>?_⟩;unfold eF at ef;cases e1:f ε with
 |none=>rw[e1] at ef;cases ef
 |some ds=>
  rw[e1] at ef;cases ef;refine h2 He G H σ ε ds Q gh E e1 λa xs G' H' g hn gn ha hd=>?_;exact q _ _ _ (g.seal hn gn ha) (kM gn hd)
inductive Fl where
 |nx (ε:Ev) | rt (d:D) | bk (ε:Ev) | ct (ε:Ev) | ro (ds:List D) | xc (c:Str) (fs:List (Str×D))
def XD(K:zb)(G:Hp)(dx:Addr)(fs:List (Str×D)):Prop:=∃vs,G dx=some (.xd vs)/\∀n d,(n,d)∈fs->∃v,vs.lookup n=some v/\Den K G v d
def sN(X:Cx)(He Ge:Hp)(r:Fl)(W:Ends):Prop:=match r with
 |.nx ε=>∀σ G H,Sta X.K He Ge G H σ ε->W.nx σ H
 |.bk ε=>∀σ G H,Sta X.K He Ge G H σ ε->W.bk σ H
 |.ct ε=>∀σ G H,Sta X.K He Ge G H σ ε->W.ct σ H
 |.rt d=>∀v G H,Grow Ge He G H->Den X.K G v d->W.rt v H
 |.ro ds=>∀a xs G H,Grow Ge He G H->He a=none->G a=none->H a=some (.lst xs)->DenL X.K G xs ds->W.rt (.ref a) H
 |.xc c fs=>∀(pins:List (Addr×Obj)) (σ:L2.St) (G H:Hp) (s:zd) (a dx:Addr) (cls:za),L2.Inv X pins σ H s->Grow Ge He G H->Ex.XAt X.s₀.heap.objs.size H s.heap a cls dx->X.mg c=some cls->XD X.K G dx fs->X.xe (.ref a) s
def DS(X:Cx)(st:Stmt)(g:Ev->Option Fl):Prop:=∃t,PS X st t/\∀(He Ge G H:Hp) (σ:L2.St) (ε:Ev) (r:Fl) (W:Ends),Sta X.K He Ge G H σ ε->g ε=some r->sN X He Ge r W->t W σ H
def DSs(X:Cx)(st:List Stmt)(g:Ev->Option Fl):Prop:=∃t,PSs X st t/\∀(He Ge G H:Hp) (σ:L2.St) (ε:Ev) (r:Fl) (W:Ends),Sta X.K He Ge G H σ ε->g ε=some r->sN X He Ge r W->t W σ H
def bG(K:zb)(G H:Hp)(v:V)(d:D):Prop:=Den K G v d\/∃a xs ds,v=.ref a/\d=.lst ds/\H a=some (.lst xs)/\DenL K G xs ds
theorem bG.grow{K:zb}{G H G' H':Hp}{v:V}{d:D}(h:bG K G H v d)(g:Grow G H G' H'):bG K G' H' v d:=by
 rcases h with h | ⟨a,xs,ds,h1,h2,h3,h4⟩
 ·exact .inl (h.mono g.gg)
 ·exact .inr ⟨a,xs,ds,h1,h2,g.hh _ _ h3,h4.mono g.gg⟩
theorem bG.int{K:zb}{G H:Hp}{v:V}{i:Int}(h:bG K G H v (.int i)):v=.int i:=by
 rcases h with h | ⟨_,_,_,_,h,_⟩
 ·cases h;rfl
 ·cases h
theorem bG.bl{K:zb}{G H:Hp}{v:V}{i:Bool}(h:bG K G H v (.bl i)):v=.bl i:=by
 rcases h with h | ⟨_,_,_,_,h,_⟩
 ·cases h;rfl
 ·cases h
theorem bG.str{K:zb}{G H:Hp}{v:V}{i:Str}(h:bG K G H v (.str i)):v=.str i:=by
 rcases h with h | ⟨_,_,_,_,h,_⟩
 ·cases h;rfl
 ·cases h
theorem bG.non{K:zb}{G H:Hp}{v:V}(h:bG K G H v .non):v=.non:=by
 rcases h with h | ⟨_,_,_,_,h,_⟩
 ·cases h;rfl
 ·cases h
theorem bG.tup{K:zb}{G H:Hp}{v:V}{ds:List D}(gh:au G H)(h:bG K G H v (.tup ds)):∃a xs,v=.ref a/\SqT K G a xs/\SqT K H a xs/\DenL K G xs ds:=by
 rcases h with h | ⟨_,_,_,_,h,_⟩
 ·cases h with | tup h hs=>exact⟨_,_,rfl,h,aE gh h,hs⟩
 ·cases h
theorem bG.lst{K:zb}{G H:Hp}{v:V}{ds:List D}(gh:au G H)(h:bG K G H v (.lst ds)):∃a xs,v=.ref a/\SqL K H a xs/\DenL K G xs ds:=by
 rcases h with h | ⟨a,xs,ds',h1,h,h3,h4⟩
 ·cases h with | lst h hs=>exact⟨_,_,rfl,gh.seq h.sq,hs⟩
 ·cases h;exact⟨a,xs,h1,.of h3,h4⟩
def DB(X:Cx)(e:Expr)(f:Ev->Option D):Prop:=∃t,PE X e t/\∀(He G H:Hp) (σ:L2.St) (ε:Ev) (d:D) (Q:VK),au G H->EnvD X.K He G H σ ε->f ε=some d->
 (∀v G' H',Grow G H G' H'->bG X.K G' H' v d->Q v H')->t σ H Q
theorem DE.db{X:Cx}{e:Expr}{f:Ev->Option D}(h:DE X e f):DB X e f:=
 let⟨t,h1,h2⟩:=h;⟨t,h1,λHe G H σ ε d Q gh E ef q=>h2 He G H σ ε d Q gh E ef λv G' H' g hd=>q v G' H' g (.inl hd)⟩
section
variable{X:Cx}{a b c:Expr}{fa fb fc:Ev->Option D}{pos:Pos}
def aM(i:Nat):Ev->Option D:=λε=>match ε[i]? with | some (.dat d)=>some d | _=>none
def aa(i:Nat):Ev->Option D:=λε=>match ε[i]? with | some (.dat d)=>some d | some (.own ds)=>some (.lst ds) | _=>none
def eC(d:D):Ev->Option D:=λ_=>some d
theorem aD(i:Nat){x:Str}{pos:Pos}(hN:X.N[i]?=some x:=by rfl)(hv:Vis X.env.scope x:=by first | exact zV rfl | exact xb (zV rfl) | exact xb (xb rfl))(hd:(x==("__debug__" : Str))=false:=by decide)
  (hcd:(x==("__classdict__" : Str))=false:=by decide):DE X (.Name x pos) (aM i):=by
 refine⟨_,fB hN hv hd hcd,λHe G H σ ε d Q gh E ef q=>?_⟩;unfold aM at ef;split at ef
 ·rename_i d' e
  cases ef;obtain⟨v,h1,h2⟩:=E.dat e;exact⟨v,h1,q v G H (.refl gh) h2⟩
 ·cases ef
theorem af(i:Nat){x:Str}{pos:Pos}(hN:X.N[i]?=some x:=by rfl)(hv:Vis X.env.scope x:=by first | exact zV rfl | exact xb (zV rfl) | exact xb (xb rfl))(hd:(x==("__debug__" : Str))=false:=by decide)
  (hcd:(x==("__classdict__" : Str))=false:=by decide):DB X (.Name x pos) (aa i):=by
 refine⟨_,fB hN hv hd hcd,λHe G H σ ε d Q gh E ef q=>?_⟩;unfold aa at ef;split at ef
 ·rename_i d' e
  cases ef;obtain⟨v,h1,h2⟩:=E.dat e;exact⟨v,h1,q v G H (.refl gh) (.inl h2)⟩
 ·rename_i ds e
  cases ef;obtain⟨l,xs,h1,h2,h3,h4,h5⟩:=E.own e;exact⟨_,h1,q _ G H (.refl gh) (.inr ⟨l,xs,ds,rfl,rfl,h2,h5⟩)⟩
 ·cases ef
theorem eQ{e:Expr}{v:V}{d:D}(h:PE X e (tC v))(hd:∀G,Den X.K G v d):DE X e (eC d):=
 ⟨_,h,λHe G H σ ε d' Q gh E ef q=>by cases ef;exact q v G H (.refl gh) (hd G)⟩
theorem ae{i j pos}:DE X (.Constant (.int i) j pos) (eC (.int i)):=eQ cK λ_=>.int i
theorem oE{i j pos}:DE X (.Constant (.bool i) j pos) (eC (.bl i)):=eQ rq λ_=>.bl i
theorem jD{j pos}:DE X (.Constant .none j pos) (eC .non):=eQ ou λ_=>.non
theorem bB{x j pos}:DE X (.Constant (.str x) j pos) (eC (.str x)):=eQ iV λ_=>.str x
theorem dm{x:Str}{i:Int}{t:Tok}{pos:Pos}(hg:Gl X x)(hm:X.mg x=some (.int i t))(hd:(x==("__debug__" : Str))=false:=by decide):DE X (.Name x pos) (eC (.int i)):=
 eQ (mw (v:=.int i) hg hm ⟨t,rfl⟩ hd) λ_=>.int i
def e2(op:D->D->Option D)(fa fb:Ev->Option D):Ev->Option D:=λε=>(fa ε).bind λx=>(fb ε).bind λy=>op x y
def OpD(X:Cx)(f:za->za->Sem za)(op:D->D->Option D):Prop:=∃r,OpR X f r/\∀(G H:Hp) (x y:V) (dx dy d:D) (Q:VK),au G H->bG X.K G H x dx->bG X.K G H y dy->op dx dy=some d->
 (∀v G' H',Grow G H G' H'->Den X.K G' v d->Q v H')->r x y H Q
theorem ai{α β:Type}{o:Option α}{f:α->Option β}{y:β}(h:o.bind f=some y):∃x,o=some x/\f x=some y:=by
 cases o with
 |none=>cases h
 |some x=>exact⟨x,rfl,h⟩
theorem two{ta tb:TE}{He G H:Hp}{σ:L2.St}{ε:Ev}{op:D->D->Option D}{r:R2}{d:D}{Q:VK}
  (ha:∀(He G H:Hp) (σ:L2.St) (ε:Ev) (d:D) (Q:VK),au G H->EnvD X.K He G H σ ε->fa ε=some d->(∀v G' H',Grow G H G' H'->bG X.K G' H' v d->Q v H')->ta σ H Q)
  (hb:∀(He G H:Hp) (σ:L2.St) (ε:Ev) (d:D) (Q:VK),au G H->EnvD X.K He G H σ ε->fb ε=some d->(∀v G' H',Grow G H G' H'->bG X.K G' H' v d->Q v H')->tb σ H Q)
  (ho:∀(G H:Hp) (x y:V) (dx dy d:D) (Q:VK),au G H->bG X.K G H x dx->bG X.K G H y dy->op dx dy=some d->(∀v G' H',Grow G H G' H'->Den X.K G' v d->Q v H')->r x y H Q)
  (gh:au G H) (E:EnvD X.K He G H σ ε) (ef:e2 op fa fb ε=some d) (q:∀v G' H',Grow G H G' H'->Den X.K G' v d->Q v H'):tOp r ta tb σ H Q:=by
 obtain⟨x,e1,ef⟩:=ai ef;obtain⟨y,e2,ef⟩:=ai ef;refine ha He G H σ ε x _ gh E e1 λv G1 H1 g1 d1=>?_;refine hb He G1 H1 σ ε y _ g1.gh (E.grow g1) e2 λu G2 H2 g2 d2=>?_;exact ho G2 H2 v u x y d Q g2.gh (d1.grow g2) d2 ef λw G3 H3 g3 d3=>q w G3 H3 (g1.trans (g2.trans g3)) d3
theorem aw{op:Operator}{f:D->D->Option D}(ho:OpD X (v7 op) f)(ha:DB X a fa)(hb:DB X b fb):DE X (.BinOp a op b pos) (e2 f fa fb):=by
 obtain⟨r,h1,h2⟩:=ho;obtain⟨ta,a1,a2⟩:=ha;obtain⟨tb,b1,b2⟩:=hb;exact⟨_,rE h1 a1 b1,λHe G H σ ε d Q gh E ef q=>two a2 b2 h2 gh E ef q⟩
theorem eK{op:CmpOp}{f:D->D->Option D}(ho:OpD X (zN op) f)(ha:DB X a fa)(hb:DB X b fb)(hm:xO op b=false):DE X (.Compare a [op] [b] pos) (e2 f fa fb):=by
 obtain⟨r,h1,h2⟩:=ho;obtain⟨ta,a1,a2⟩:=ha;obtain⟨tb,b1,b2⟩:=hb;exact⟨_,p0 h1 a1 b1 hm,λHe G H σ ε d Q gh E ef q=>two a2 b2 h2 gh E ef q⟩
def asB:Option D->Option Bool
 |some (.bl b)=>some b
 |_=>none
theorem kG{o:Option D}{b:Bool}(h:asB o=some b):o=some (.bl b):=by
 unfold asB at h;split at h
 ·cases h;rfl
 ·cases h
theorem Den.blV{K:zb}{G:Hp}{v:V}{b:Bool}(h:Den K G v (.bl b)):v=.bl b:=by cases h;rfl
def aA(op:D->D->Option D)(fa fb:Ev->Option D):Ev->Option Bool:=λε=>asB (e2 op fa fb ε)
theorem aR{op:CmpOp}{f:D->D->Option D}(ho:OpD X (zN op) f)(ha:DB X a fa)(hb:DB X b fb)(hm:xO op b=false):DT X (.Compare a [op] [b] pos) (aA f fa fb):=by
 obtain⟨r,h1,h2⟩:=ho;obtain⟨ta,a1,a2⟩:=ha;obtain⟨tb,b1,b2⟩:=hb;refine⟨_,mz h1 a1 b1 hm,λHe G H σ ε k Q gh E ef q=>?_⟩;refine two a2 b2 h2 gh E (kG ef) λv G' H' g hd=>?_;exact⟨k,hd.blV,q G' H' g⟩
theorem sv{r:R2}{f:D->D->Option D}(hr:IxR X r)(ho:∀(G H:Hp) (x y:V) (dx dy d:D) (Q:VK),au G H->bG X.K G H x dx->bG X.K G H y dy->f dx dy=some d->(∀v G' H',Grow G H G' H'->Den X.K G' v d->Q v H')->r x y H Q)
  (ha:DB X a fa) (hb:DB X b fb) (hs:jR b):DE X (.Subscript a b pos) (e2 f fa fb):=by
 obtain⟨ta,a1,a2⟩:=ha;obtain⟨tb,b1,b2⟩:=hb;exact⟨_,uZ hr a1 b1 hs,λHe G H σ ε d Q gh E ef q=>two a2 b2 ho gh E ef q⟩
def cN(g:Int->Int->Option D):D->D->Option D:=λx y=>match x,y with | .int i,.int j=>g i j | _,_=>none
theorem jh{g:Int->Int->Option D}{x y d:D}(h:cN g x y=some d):∃i j,x=.int i/\y=.int j/\g i j=some d:=by
 unfold cN at h;split at h
 ·exact⟨_,_,rfl,rfl,h⟩
 ·cases h
theorem lX{f:za->za->Sem za}{C:Int->Int->Prop}{g:Int->Int->V}{k:Int->Int->Option D}(ho:OpR X f (rI C g))(hk:∀i j d,k i j=some d->C i j/\∀G,Den X.K G (g i j) d):OpD X f (cN k):=
 ⟨_,ho,λG H x y dx dy d Q gh hx hy e q=>by
  obtain⟨i,j,rfl,rfl,e⟩:=jh e;obtain⟨c,hd⟩:=hk i j d e
  exact⟨i,j,hx.int,hy.int,c,q _ G H (.refl gh) (hd G)⟩⟩
theorem iN{f:za->za->Sem za}{g:Int->Int->V}{k:Int->Int->Option D}(ho:OpR X f (rI0 g))(hk:∀i j d,k i j=some d->∀G,Den X.K G (g i j) d):OpD X f (cN k):=
 ⟨_,ho,λG H x y dx dy d Q gh hx hy e q=>by
  obtain⟨i,j,rfl,rfl,e⟩:=jh e
  exact⟨i,j,hx.int,hy.int,q _ G H (.refl gh) (hk i j d e G)⟩⟩
def bW:D->D->Option D:=cN λi j=>some (.int (i+j))
def jP:D->D->Option D:=cN λi j=>some (.int (i-j))
instance (i j:Int):Decidable (i0 i j):=by unfold i0;infer_instance
instance (i j:Int):Decidable (nk i j):=by unfold nk;infer_instance
instance (i j:Int):Decidable (nF i j):=by unfold nF;infer_instance
def cx:D->D->Option D:=cN λi j=>if i0 i j then some (.int (i*j)) else none
def fV:D->D->Option D:=cN λi j=>if nk i j then some (.int (i/j)) else none
def aP:D->D->Option D:=cN λi j=>if 0<j then some (.int (i%j)) else none
def kg:D->D->Option D:=cN λi j=>if nF i j then some (.int (i ^ j.toNat)) else none
theorem cq:OpD X (v7 .Add) bW:=iN sZ λi j d e G=>by cases e;exact .int _
theorem jE:OpD X (v7 .Sub) jP:=iN sr λi j d e G=>by cases e;exact .int _
theorem dB:OpD X (v7 .Mult) cx:=lX rX λi j d e=>by
 split at e
 ·rename_i h;cases e;exact⟨h,λG=>.int _⟩
 ·cases e
theorem jx:OpD X (v7 .FloorDiv) fV:=lX qj λi j d e=>by
 split at e
 ·rename_i h;cases e;exact⟨h,λG=>.int _⟩
 ·cases e
theorem aV:OpD X (v7 .Mod) aP:=lX tQ λi j d e=>by
 split at e
 ·rename_i h;cases e;exact⟨h,λG=>.int _⟩
 ·cases e
theorem pG:OpD X (v7 .Pow) kg:=lX tw λi j d e=>by
 split at e
 ·rename_i h;cases e;exact⟨h,λG=>.int _⟩
 ·cases e
def ltI:D->D->Option D:=cN λi j=>some (.bl (decide (i<j)))
def leI:D->D->Option D:=cN λi j=>some (.bl (decide (i<=j)))
def gtI:D->D->Option D:=cN λi j=>some (.bl (decide (j<i)))
theorem kE:OpD X (zN .Lt) ltI:=iN um λi j d e G=>by cases e;exact .bl _
theorem gV:OpD X (zN .LtE) leI:=iN u0 λi j d e G=>by cases e;exact .bl _
theorem eN:OpD X (zN .Gt) gtI:=iN rK λi j d e G=>by cases e;exact .bl _
def eqS:D->D->Option Bool
 |.non,.non=>some true | .non,.int _=>some false | .int _,.non=>some false | .non,.bl _=>some false | .bl _,.non=>some false | .non,.str _=>some false | .str _,.non=>some false
 |.int i,.int j=>some (decide (i=j)) | .bl i,.bl j=>some (decide (i=j)) | .str i,.str j=>some (decide (i=j))
 |.int _,.str _=>some false | .str _,.int _=>some false | .bl _,.str _=>some false | .str _,.bl _=>some false
 |_,_=>none
theorem j4{K:zb}{G H:Hp}{x y:V}{dx dy:D}{k:Bool}(hx:bG K G H x dx)(hy:bG K G H y dy)(e:eqS dx dy=some k):se x y=true/\decide (x=y)=k:=by
 unfold eqS at e;split at e<;>first | (cases e;done) | skip
 all_goals first
  |(cases hx.non) | (cases hx.int) | (cases hx.bl) | (cases hx.str)
 all_goals first
  |(cases hy.non) | (cases hy.int) | (cases hy.bl) | (cases hy.str)
 all_goals (refine⟨rfl,?_⟩;cases e;simp)
def km:D->Bool
 |.non=>true
 |_=>false
theorem bG.isNon{K:zb}{G H:Hp}{v:V}{d:D}(h:bG K G H v d):decide (v=.non)=km d:=by
 rcases h with h | ⟨a,xs,ds,rfl,rfl,_⟩
 ·cases h<;>simp[Dn.km]
 ·simp[Dn.km]
def isD(neg:Bool):D->D->Option D:=λx y=>match y with | .non=>some (.bl (if neg then !km x else km x)) | _=>none
theorem mU:OpD X (zN .Is) (isD false):=⟨_,rT,λG H x y dx dy d Q gh hx hy e q=>by
 unfold isD at e;split at e
 ·cases e;exact⟨hy.non,q _ G H (.refl gh) (by rw[hx.isNon];exact .bl _)⟩
 ·cases e⟩
def u6:D->Option D
 |.int i=>some (.int (-i))
 |_=>none
def eR(fa:Ev->Option D):Ev->Option D:=λε=>(fa ε).bind u6
theorem fC(ha:DB X a fa):DE X (.UnaryOp .USub a pos) (eR fa):=by
 obtain⟨ta,a1,a2⟩:=ha;refine⟨_,vg tP a1,λHe G H σ ε d Q gh E ef q=>?_⟩;obtain⟨x,e1,ef⟩:=ai ef;refine a2 He G H σ ε x _ gh E e1 λv G1 H1 g1 d1=>?_;unfold u6 at ef;split at ef
 ·cases ef;exact⟨_,d1.int,q _ G1 H1 g1 (.int _)⟩
 ·cases ef
def ixD:D->D->Option D:=λx y=>match x,y with | .lst xs,.int i=>atI xs i | .tup xs,.int i=>atI xs i | _,_=>none
theorem lJ{K:zb}{G:Hp}{xs:List V}{ds:List D}{i:Int}{d:D}(h:DenL K G xs ds)(e:atI ds i=some d):∃v,atI xs i=some v/\Den K G v d:=by
 unfold atI at e ⊢;rw[h.length];cases e1:ixN ds.length i with
 |none=>rw[e1] at e;cases e
 |some j=>
  rw[e1] at e;exact h.get e
theorem aU(ha:DB X a fa)(hb:DB X b fb)(hs:jR b:=by intro _ _;rfl):DE X (.Subscript a b pos) (e2 ixD fa fb):=
 sv (qU.or sH) (λG H x y dx dy d Q gh hx hy e q=>by
  unfold ixD at e;split at e
  ·obtain⟨p,xs,rfl,h1,h2⟩:=hx.lst gh
   obtain⟨v,h3,h4⟩:=lJ h2 e;exact .inl ⟨p,xs,_,v,rfl,hy.int,h1,h3,q _ G H (.refl gh) h4⟩
  ·obtain⟨p,xs,rfl,h0,h1,h2⟩:=hx.tup gh
   obtain⟨v,h3,h4⟩:=lJ h2 e;exact .inr ⟨p,xs,_,v,rfl,hy.int,h1,h3,q _ G H (.refl gh) h4⟩
  ·cases e) ha hb hs
def aW:Ev->Option (List D):=λ_=>some []
def ah(f:Ev->Option D)(g:Ev->Option (List D)):Ev->Option (List D):=λε=>(f ε).bind λd=>(g ε).bind λds=>some (d::ds)
theorem aK:DA X [] aW:=⟨_,aB,λHe G H σ ε ds Q gh E ef q=>by cases ef;exact q [] G H (.refl gh) .nil⟩
theorem ag{e:Expr}{es:List Expr}{f:Ev->Option D}{g:Ev->Option (List D)}(h:DE X e f)(hs:DA X es g)(hst:zj (e::es) X.env=(false,eval e X.env)::zj es X.env:=by rfl):DA X (e::es) (ah f g):=by
 obtain⟨t,a1,a2⟩:=h;obtain⟨u,b1,b2⟩:=hs;refine⟨_,ao a1 b1 hst,λHe G H σ ε ds Q gh E ef q=>?_⟩;obtain⟨x,e1,ef⟩:=ai ef;obtain⟨xs,e2,ef⟩:=ai ef;cases ef;refine a2 He G H σ ε x _ gh E e1 λv G1 H1 g1 d1=>?_;refine b2 He G1 H1 σ ε xs _ g1.gh (E.grow g1) e2 λvs G2 H2 g2 d2=>?_;exact q _ G2 H2 (g1.trans g2) (.cons (d1.mono g2.gg) d2)
def j6(g:Ev->Option (List D)):Ev->Option D:=λε=>(g ε).bind λds=>if ds.length<=1000 then some (.tup ds) else none
theorem lZ{n:Nat}(h:n<=1000):n<=zt:=Nat.le_of_lt (gw h)
theorem jq{es:List Expr}{g:Ev->Option (List D)}{x1}(h:DA X es g):DE X (.Tuple es x1 pos) (j6 g):=by
 obtain⟨t,a1,a2⟩:=h;refine⟨_,fH a1,λHe G H σ ε d Q gh E ef q=>?_⟩;obtain⟨ds,e1,ef⟩:=ai ef;split at ef
 ·rename_i hl
  cases ef;refine a2 He G H σ ε ds _ gh E e1 λvs G1 H1 g1 d1=>⟨by rw[d1.length];exact lZ hl,λp hp=>?_⟩;have g2:=Grow.new (.tup vs) g1.gh hp;exact q _ _ _ (g1.trans g2) (.tup (SqT.of aj) (d1.mono g2.gg))
 ·cases ef
def cT(g:Ev->Option (List D)):Ev->Option (List D):=λε=>(g ε).bind λds=>if ds.length<=1000 then some ds else none
theorem Grow.gnone{G H G' H':Hp}{p:Addr}(g:Grow G H G' H')(h:H' p=none):G' p=none:=g.gh.free h
theorem cg{es:List Expr}{g:Ev->Option (List D)}(h:DA X es g):DF X (.List es pos) (cT g):=by
 obtain⟨t,a1,a2⟩:=h;refine⟨_,cZ a1,λHe G H σ ε ds Q gh E ef q=>?_⟩;obtain⟨ds',e1,ef⟩:=ai ef;split at ef
 ·rename_i hl
  cases ef;refine a2 He G H σ ε _ _ gh E e1 λvs G1 H1 g1 d1=>⟨by rw[d1.length];exact lZ hl,λp hp=>?_⟩;exact q p vs G1 _ (g1.trans (.lay _ g1.gh hp)) (g1.hh.free hp) (g1.gnone hp) aj d1
 ·cases ef
def DO(X:Cx)(e:Option Expr)(f:Ev->Option (Option Int)):Prop:=∃t,PO X e t/\∀(He G H:Hp) (σ:L2.St) (ε:Ev) (d:Option Int) (Q:Option Int->Hp->Prop),au G H->EnvD X.K He G H σ ε->f ε=some d->
 (∀G' H',Grow G H G' H'->Q d H')->t σ H Q
def cf:Ev->Option (Option Int):=λ_=>some none
def a_(f:Ev->Option D):Ev->Option (Option Int):=λε=>match f ε with | some (.int i)=>some (some i) | _=>none
theorem e_:DO X none cf:=⟨_,qo,λHe G H σ ε d Q gh E ef q=>by cases ef;exact q G H (.refl gh)⟩
theorem cy{e:Expr}{f:Ev->Option D}(h:DB X e f):DO X (some e) (a_ f):=by
 obtain⟨t,a1,a2⟩:=h;refine⟨_,qX a1,λHe G H σ ε d Q gh E ef q=>?_⟩;unfold a_ at ef;split at ef
 ·rename_i i e1
  cases ef;exact a2 He G H σ ε _ _ gh E e1 λv G1 H1 g1 d1=>⟨i,d1.int,q G1 H1 g1⟩
 ·cases ef
def eE(xs:List D)(lo hi:Option Int):List D:=(xs.drop (HT.sIx xs.length 0 lo)).take (HT.sIx xs.length xs.length hi-HT.sIx xs.length 0 lo)
theorem lP{K:zb}{G:Hp}{xs:List V}{ds:List D}(lo hi:Option Int)(h:DenL K G xs ds):DenL K G (jo xs lo hi) (eE ds lo hi):=by
 unfold jo eE;rw[h.length];exact(h.drop _).take _
def eSl(fa:Ev->Option D)(fl fh:Ev->Option (Option Int)):Ev->Option (List D):=λε=>(fa ε).bind λx=>(fl ε).bind λlo=>(fh ε).bind λhi=>match x with | .lst xs=>some (eE xs lo hi) | _=>none
theorem je{lo hi:Option Expr}{fl fh:Ev->Option (Option Int)}{p2:Pos}(ha:DB X a fa)(hl:DO X lo fl)(hh:DO X hi fh):DF X (.Subscript a (.Slice lo hi none p2) pos) (eSl fa fl fh):=by
 obtain⟨ta,a1,a2⟩:=ha;obtain⟨tl,b1,b2⟩:=hl;obtain⟨th,c1,c2⟩:=hh;refine⟨_,j_ qk a1 b1 c1,λHe G H σ ε ds Q gh E ef q=>?_⟩;obtain⟨x,e1,ef⟩:=ai ef;obtain⟨l,e2,ef⟩:=ai ef;obtain⟨u,e3,ef⟩:=ai ef;refine a2 He G H σ ε x _ gh E e1 λv G1 H1 g1 d1=>?_;refine b2 He G1 H1 σ ε l _ g1.gh (E.grow g1) e2 λG2 H2 g2=>?_;refine c2 He G2 H2 σ ε u _ g2.gh ((E.grow g1).grow g2) e3 λG3 H3 g3=>?_;split at ef
 ·cases ef
  obtain⟨p,xs,rfl,h1,h2⟩:=((d1.grow g2).grow g3).lst g3.gh;refine⟨p,xs,rfl,h1,λp' hp=>?_⟩;have g:=g1.trans (g2.trans g3);exact q p' _ G3 _ (g.trans (.lay _ g3.gh hp)) (g.hh.free hp) (g3.gnone hp) aj (lP l u h2)
 ·cases ef
def jW(fa:Ev->Option D)(fl fh:Ev->Option (Option Int)):Ev->Option D:=λε=>(fa ε).bind λx=>(fl ε).bind λlo=>(fh ε).bind λhi=>match x with
 |.tup xs=>if HT.sIx xs.length 0 lo=0/\HT.sIx xs.length xs.length hi=xs.length then none else some (.tup (eE xs lo hi))
 |_=>none
theorem n9{lo hi:Option Expr}{fl fh:Ev->Option (Option Int)}{p2:Pos}(ha:DB X a fa)(hl:DO X lo fl)(hh:DO X hi fh):DE X (.Subscript a (.Slice lo hi none p2) pos) (jW fa fl fh):=by
 obtain⟨ta,a1,a2⟩:=ha;obtain⟨tl,b1,b2⟩:=hl;obtain⟨th,c1,c2⟩:=hh;refine⟨_,j_ tN a1 b1 c1,λHe G H σ ε ds Q gh E ef q=>?_⟩;obtain⟨x,e1,ef⟩:=ai ef;obtain⟨l,e2,ef⟩:=ai ef;obtain⟨u,e3,ef⟩:=ai ef;refine a2 He G H σ ε x _ gh E e1 λv G1 H1 g1 d1=>?_;refine b2 He G1 H1 σ ε l _ g1.gh (E.grow g1) e2 λG2 H2 g2=>?_;refine c2 He G2 H2 σ ε u _ g2.gh ((E.grow g1).grow g2) e3 λG3 H3 g3=>?_;split at ef
 ·split at ef
  ·cases ef
  ·rename_i hw
   cases ef;obtain⟨p,xs,rfl,h0,h1,h2⟩:=((d1.grow g2).grow g3).tup g3.gh;refine⟨p,xs,rfl,h1,by rw[h2.length];exact hw,λp' hp=>?_⟩;have g4:=Grow.new (.tup (jo xs l u)) g3.gh hp;exact q _ _ _ ((g1.trans (g2.trans g3)).trans g4) (.tup (SqT.of aj) ((lP l u h2).mono g4.gg))
 ·cases ef
def fm(f g:Ev->Option Bool):Ev->Option Bool:=λε=>(f ε).bind λk=>if k=true then g ε else some false
def dE(f g:Ev->Option Bool):Ev->Option Bool:=λε=>(f ε).bind λk=>if k=true then some true else g ε
def dG(f:Ev->Option Bool):Ev->Option Bool:=λε=>(f ε).map λk=>!k
section
variable{f g:Ev->Option Bool}{rest:List Expr}
theorem jX(h:DT X a f):DW X (.BoolOp .And [a] pos) f:=let⟨t,h1,h2⟩:=h;⟨t,ql h1,h2⟩
theorem dv(h:DT X a f):DW X (.BoolOp .Or [a] pos) f:=let⟨t,h1,h2⟩:=h;⟨t,sC h1,h2⟩
theorem lq(h:DT X a f)(hr:DW X (.BoolOp .And (b::rest) pos) g):DW X (.BoolOp .And (a::b::rest) pos) (fm f g):=by
 obtain⟨t,a1,a2⟩:=h;obtain⟨u,b1,b2⟩:=hr;refine⟨_,sS a1 b1,λHe G H σ ε k Q gh E ef q=>?_⟩;obtain⟨c,e1,ef⟩:=ai ef;refine a2 He G H σ ε c _ gh E e1 λG1 H1 g1=>?_;cases c with
 |true=>
  rw[if_pos rfl] at ef ⊢;exact b2 He G1 H1 σ ε k _ g1.gh (E.grow g1) ef λG2 H2 g2=>q _ _ (g1.trans g2)
 |false=>
  rw[if_neg zm] at ef ⊢;cases ef;exact q _ _ g1
theorem fg(h:DT X a f)(hr:DW X (.BoolOp .Or (b::rest) pos) g):DW X (.BoolOp .Or (a::b::rest) pos) (dE f g):=by
 obtain⟨t,a1,a2⟩:=h;obtain⟨u,b1,b2⟩:=hr;refine⟨_,uz a1 b1,λHe G H σ ε k Q gh E ef q=>?_⟩;obtain⟨c,e1,ef⟩:=ai ef;refine a2 He G H σ ε c _ gh E e1 λG1 H1 g1=>?_;cases c with
 |true=>
  rw[if_pos rfl] at ef ⊢;cases ef;exact q _ _ g1
 |false=>
  rw[if_neg zm] at ef ⊢;exact b2 He G1 H1 σ ε k _ g1.gh (E.grow g1) ef λG2 H2 g2=>q _ _ (g1.trans g2)
theorem jM(h:DT X a f):DT X (.UnaryOp .Not a pos) (dG f):=by
 obtain⟨t,a1,a2⟩:=h;refine⟨_,o8 a1,λHe G H σ ε k Q gh E ef q=>?_⟩;unfold dG at ef;cases e1:f ε with
 |none=>rw[e1] at ef;cases ef
 |some c=>
  rw[e1] at ef;cases ef;exact a2 He G H σ ε c _ gh E e1 q
end
def lG(fa fb:Ev->Option D):Ev->Option D:=λε=>(fa ε).bind λx=>match x with | .bl k=>if k=true then fb ε else some (.bl false) | _=>none
def eOr(fa fb:Ev->Option D):Ev->Option D:=λε=>(fa ε).bind λx=>match x with | .bl k=>if k=true then some (.bl true) else fb ε | _=>none
theorem jS{op}(h:DE X a fa):DE X (.BoolOp op [a] pos) fa:=let⟨t,h1,h2⟩:=h;⟨t,sJ h1,h2⟩
theorem kS{rest:List Expr}(h:DE X a fa)(hr:DE X (.BoolOp .And (b::rest) pos) fb):DE X (.BoolOp .And (a::b::rest) pos) (lG fa fb):=by
 obtain⟨t,a1,a2⟩:=h;obtain⟨u,b1,b2⟩:=hr;refine⟨_,sP a1 b1,λHe G H σ ε d Q gh E ef q=>?_⟩;obtain⟨x,e1,ef⟩:=ai ef;refine a2 He G H σ ε x _ gh E e1 λv G1 H1 g1 d1=>?_;split at ef
 ·rename_i k
  refine⟨k,d1.blV,?_⟩;cases k with
  |true=>
   rw[if_pos rfl] at ef ⊢;exact b2 He G1 H1 σ ε d _ g1.gh (E.grow g1) ef λv G2 H2 g2=>q _ _ _ (g1.trans g2)
  |false=>
   rw[if_neg zm] at ef ⊢;cases ef;exact q _ _ _ g1 (.bl _)
 ·cases ef
theorem uF{rest:List Expr}(h:DE X a fa)(hr:DE X (.BoolOp .Or (b::rest) pos) fb):DE X (.BoolOp .Or (a::b::rest) pos) (eOr fa fb):=by
 obtain⟨t,a1,a2⟩:=h;obtain⟨u,b1,b2⟩:=hr;refine⟨_,uP a1 b1,λHe G H σ ε d Q gh E ef q=>?_⟩;obtain⟨x,e1,ef⟩:=ai ef;refine a2 He G H σ ε x _ gh E e1 λv G1 H1 g1 d1=>?_;split at ef
 ·rename_i k
  refine⟨k,d1.blV,?_⟩;cases k with
  |true=>
   rw[if_pos rfl] at ef ⊢;cases ef;exact q _ _ _ g1 (.bl _)
  |false=>
   rw[if_neg zm] at ef ⊢;exact b2 He G1 H1 σ ε d _ g1.gh (E.grow g1) ef λv G2 H2 g2=>q _ _ _ (g1.trans g2)
 ·cases ef
def ug:D->Option Bool
 |.non=>some false
 |.bl b=>some b
 |.int i=>some (i != 0)
 |.str _=>none
 |.tup xs=>some (!xs.isEmpty)
 |.lst xs=>some (!xs.isEmpty)
 |.dic _=>none
theorem DenL.emp{K:zb}{G:Hp}{xs:List V}{ds:List D}(h:DenL K G xs ds):xs.isEmpty=ds.isEmpty:=by cases h<;>rfl
def h_(fa:Ev->Option D):Ev->Option Bool:=λε=>(fa ε).bind ug
theorem dC(ha:DB X a fa)(he:∀whole,isTrue a X.env whole=(do let v<-whole;standAt a.pos;holding [v] (truthy v)):=by intro _;rfl):DT X a (h_ fa):=by
 obtain⟨ta,a1,a2⟩:=ha;refine⟨_,iP a1 he,λHe G H σ ε k Q gh E ef q=>?_⟩;obtain⟨x,e1,ef⟩:=ai ef;refine a2 He G H σ ε x _ gh E e1 λv G1 H1 g1 d1=>⟨k,?_,q _ _ g1⟩;unfold ug at ef;split at ef
 ·cases d1.non;cases ef;rfl
 ·cases d1.bl;cases ef;rfl
 ·cases d1.int;cases ef;rfl
 ·cases ef
 ·cases ef
  obtain⟨p,xs,rfl,h0,h1,h2⟩:=d1.tup g1.gh;exact .inr (.inl ⟨xs,h1,by rw[h2.emp]⟩)
 ·cases ef
  obtain⟨p,xs,rfl,h1,h2⟩:=d1.lst g1.gh;exact .inl ⟨xs,h1,by rw[h2.emp]⟩
 ·cases ef
end
def spF(K:zb)(F:List D->Option D):Sp:=λvs H Q _=>∃G ds d,au G H/\DenL K G vs ds/\F ds=some d/\∀v G' H',Grow G H G' H'->Den K G' v d->Q v H'
def aZ(N:List Str)(ds:List D):Ev:=ds.map Sl.dat++wU (N.length-ds.length) Sl.un
section
variable{X:Cx}{a b c:Expr}{fa fb fc:Ev->Option D}{pos:Pos}
def ba(F:List D->Option D)(g:Ev->Option (List D)):Ev->Option D:=λε=>(g ε).bind F
def bt(op:D->Option D)(fa:Ev->Option D):Ev->Option D:=λε=>(fa ε).bind op
def dg(op:D->D)(fa:Ev->Option D):Ev->Option D:=λε=>(fa ε).map op
theorem qh{k:Nat}{f:Addr}{fd:zX}{ps:List Str}{Fn:List D->Option D}{x:Str}{e:Expr}{es:List Expr}{g:Ev->Option (List D)}{p:Pos}
  (F:FnOk X.prog X.w X.K X.mg X.base CX0 k f fd ps (spF X.K Fn)) (hr:Room k X.A) (hm:X.mg x=some (.ref f)) (hk:zY X.K (.ref f)=true) (hb:ej X.K fd ps [])
  (ha:DA X (e::es) g) (hg:Gl X x:=by rfl) (hdb:(x==("__debug__" : Str))=false:=by decide) (he:zj (e::es) X.env=(false,eval e X.env)::zj es X.env:=by rfl) (hpl:(wo pos (zj es X.env)).any (·.1)=false:=by rfl) :
  DE X (.Call (.Name x p) (e::es) [] pos) (ba Fn g):=by
 obtain⟨t,a1,a2⟩:=ha;refine⟨_,il (E:=E0) F hr hg hm hk hb .nil fX a1 hdb he hpl,λHe G H σ ε d Q gh E ef q=>?_⟩;obtain⟨ds,e1,ef⟩:=ai ef;refine a2 He G H σ ε ds _ gh E e1 λvs G1 H1 g1 d1=>?_;show spF X.K Fn (vs++[]) H1 Q E0;rw[xg];exact⟨G1,ds,d,g1.gh,d1,ef,λv G2 H2 g2 d2=>q v G2 H2 (g1.trans g2) d2⟩
def bq:D->Option D
 |.lst xs=>some (.int xs.length)
 |.tup xs=>some (.int xs.length)
 |_=>none
theorem b9{p:Pos}(ha:DB X a fa)(hm:X.mg "len" = none)(hg:Gl X "len":=by rfl)(hst:zj [a] X.env=(false,eval a X.env)::zj [] X.env:=by rfl)(hpl:(wo pos (zj [] X.env)).any (·.1)=false:=by rfl):DE X (.Call (.Name "len" p) [a] [] pos) (bt bq fa):=by
 obtain⟨ta,a1,a2⟩:=ha;refine⟨_,dH fP hg hm PySem.boot_len (ao a1 aB hst) (by decide) (by decide) hst hpl,λHe G H σ ε d Q gh E ef q=>?_⟩;obtain⟨x,e1,ef⟩:=ai ef;refine a2 He G H σ ε x _ gh E e1 λv G1 H1 g1 d1=>?_;unfold bq at ef;split at ef
 ·cases ef
  obtain⟨p,xs,rfl,h1,h2⟩:=d1.lst g1.gh;exact⟨p,xs,rfl,.inl h1,q _ _ _ g1 (by rw[h2.length];exact .int _)⟩
 ·cases ef
  obtain⟨p,xs,rfl,h0,h1,h2⟩:=d1.tup g1.gh;exact⟨p,xs,rfl,.inr h1,q _ _ _ g1 (by rw[h2.length];exact .int _)⟩
 ·cases ef
def mL(X:Cx)(f:za)(op:List D->Option D):Prop:=∃r,fq X f r/\∀(G H:Hp) (vs:List V) (ds:List D) (d:D) (Q:VK),au G H->DenL X.K G vs ds->op ds=some d->
 (∀v G' H',Grow G H G' H'->Den X.K G' v d->Q v H')->r vs H Q
theorem iH{id:String}{op:List D->Option D}{x:Str}{e:Expr}{es:List Expr}{g:Ev->Option (List D)}{p:Pos}(hc:mL X (.builtin id) op)(hm:X.mg x=none)(hv:wY x=some (.builtin id))(ha:DA X (e::es) g)(hg:Gl X x:=by rfl)
  (hn:x≠"__name__":=by decide) (hdb:(x==("__debug__" : Str))=false:=by decide) (he:zj (e::es) X.env=(false,eval e X.env)::zj es X.env:=by rfl) (hpl:(wo pos (zj es X.env)).any (·.1)=false:=by rfl) :
  DE X (.Call (.Name x p) (e::es) [] pos) (ba op g):=by
 obtain⟨r,c1,c2⟩:=hc;obtain⟨t,a1,a2⟩:=ha;refine⟨_,dH c1 hg hm hv a1 hn hdb he hpl,λHe G H σ ε d Q gh E ef q=>?_⟩;obtain⟨ds,e1,ef⟩:=ai ef;refine a2 He G H σ ε ds _ gh E e1 λvs G1 H1 g1 d1=>?_;exact c2 G1 H1 vs ds d Q g1.gh d1 ef λv G2 H2 g2 d2=>q v G2 H2 (g1.trans g2) d2
def lR:List D->Option D
 |[.int i,.int j]=>some (.int (if j>i then j else i))
 |_=>none
def mT:List D->Option D
 |[.int i,.int j]=>some (.int (if j<i then j else i))
 |_=>none
theorem Den.intV{K:zb}{G:Hp}{v:V}{i:Int}(h:Den K G v (.int i)):v=.int i:=by cases h;rfl
theorem q_(hc:X.calm=true):mL X (.builtin "max") lR:=⟨_,nj hc,λG H vs ds d Q gh hd e q=>by
 unfold lR at e;split at e
 ·cases e
  cases hd with | cons h1 h2=>cases h2 with | cons h2 h3=>cases h3;exact⟨_,_,by rw[h1.intV,h2.intV],q _ _ _ (.refl gh) (.int _)⟩
 ·cases e⟩
theorem qd(hc:X.calm=true):mL X (.builtin "min") mT:=⟨_,mZ hc,λG H vs ds d Q gh hd e q=>by
 unfold mT at e;split at e
 ·cases e
  cases hd with | cons h1 h2=>cases h2 with | cons h2 h3=>cases h3;exact⟨_,_,by rw[h1.intV,h2.intV],q _ _ _ (.refl gh) (.int _)⟩
 ·cases e⟩
theorem Den.lstV{K:zb}{G:Hp}{v:V}{ds:List D}(h:Den K G v (.lst ds)):∃a xs,v=.ref a/\SqL K G a xs/\DenL K G xs ds:=by cases h with | lst h hs=>exact⟨_,_,rfl,h.sq,hs⟩
theorem Den.tupV{K:zb}{G:Hp}{v:V}{ds:List D}(h:Den K G v (.tup ds)):∃a xs,v=.ref a/\SqT K G a xs/\DenL K G xs ds:=by cases h with | tup h hs=>exact⟨_,_,rfl,h,hs⟩
def l7(fa:Ev->Option D):Ev->Option (List D):=λε=>match fa ε with | some (.lst xs)=>some xs | some (.tup xs)=>some xs | _=>none
theorem lN{p:Pos}(ha:DB X a fa)(hm:X.mg "list" = none)(hg:Gl X "list":=by rfl)(hst:zj [a] X.env=(false,eval a X.env)::zj [] X.env:=by rfl)(hpl:(wo pos (zj [] X.env)).any (·.1)=false:=by rfl):DF X (.Call (.Name "list" p) [a] [] pos) (l7 fa):=by
 obtain⟨ta,a1,a2⟩:=ha;refine⟨_,bU bc hg hm (by rfl) (ao a1 aB hst) (by decide) (by decide) hst hpl,λHe G H σ ε d Q gh E ef q=>?_⟩;unfold l7 at ef;split at ef
 ·rename_i e1
  cases ef;refine a2 He G H σ ε _ _ gh E e1 λv G1 H1 g1 d1=>?_;obtain⟨p,xs,rfl,h1,h2⟩:=d1.lst g1.gh;exact⟨p,xs,rfl,.inl h1,λl hl=>q l xs G1 _ (g1.trans (.lay _ g1.gh hl)) (g1.hh.free hl) (g1.gnone hl) aj h2⟩
 ·rename_i e1
  cases ef;refine a2 He G H σ ε _ _ gh E e1 λv G1 H1 g1 d1=>?_;obtain⟨p,xs,rfl,h0,h1,h2⟩:=d1.tup g1.gh;exact⟨p,xs,rfl,.inr h1,λl hl=>q l xs G1 _ (g1.trans (.lay _ g1.gh hl)) (g1.hh.free hl) (g1.gnone hl) aj h2⟩
 ·cases ef
def tyD:D->String
 |.non=>"NoneType" | .bl _=>"bool" | .int _=>"int" | .str _=>"str" | .tup _=>"tuple" | .lst _=>"list" | .dic _=>"dict"
def cY(T:String)(d:D):D:=.bl (tyD d==T || (tyD d == "bool" && T == "int"))
theorem qK{K:zb}{t T:String}(hT:T = "list"\/T = "tuple"\/T = "bool"\/T = "int"\/T = "str")(ht:t = "NoneType"\/t = "bool"\/t = "int"\/t = "str"\/t = "tuple"\/t = "list"\/t = "dict") :
  zG K (.type t) (.type T)=some (t==T || (t == "bool" && T == "int")):=by
 rcases hT with rfl | rfl | rfl | rfl | rfl<;>rcases ht with rfl | rfl | rfl | rfl | rfl | rfl | rfl<;>rfl
theorem qb(d:D):tyD d = "NoneType"\/tyD d = "bool"\/tyD d = "int"\/tyD d = "str"\/tyD d = "tuple"\/tyD d = "list"\/tyD d = "dict":=by cases d<;>simp[tyD]
theorem pD{T:String}(hT:T = "list"\/T = "tuple"\/T = "bool"\/T = "int"\/T = "str"):fq X (.builtin "isinstance") (λxs H Q=>∃G v d,xs=[v,.ty T]/\au G H/\bG X.K G H v d/\∃k,cY T d=.bl k/\Q (.bl k) H):=by
 intro pins s σ H xs us Q I rv h;obtain⟨G,v,d,rfl,gh,hd,k,ek,q⟩:=h;obtain⟨u,u2,rfl,r1,r2⟩:=rv.two;have e2:u2=Value.type T:=r2;subst e2
 have kt:zG X.K (.type (tyD d)) (.type T)=some k:=by
  rw[qK hT (qb d)];unfold cY at ek;injection ek with ek
  rw[ek]
 have fin:∀tk,EP X pins σ Q (.bool k) { s with toks:=tk }:=λtk=>⟨.bl k,H,I.tok tk,rfl,q⟩;cases d with
 |non=>cases hd.non;cases(show u=zP from r1);exact zF PySem.W.kitx_none I.kIn wX kt (λz=>nomatch z) fin
 |bl y=>cases hd.bl;cases(show u=xA y from r1);exact zF PySem.W.kitx_bool I.kIn wX kt (λz=>nomatch z) fin
 |int i=>cases hd.int;obtain⟨t,z⟩:=(show ∃t,u=Value.int i t from r1);cases z;exact zF PySem.W.kitx_int I.kIn wX kt (λz=>nomatch z) fin
 |str i=>cases hd.str;obtain⟨t,z⟩:=(show ∃t,u=Value.str i t from r1);cases z;exact zF PySem.W.kitx_str I.kIn wX kt (λz=>nomatch z) fin
 |tup ds=>
  obtain⟨p,ys,rfl,h0,h1,h2⟩:=hd.tup gh;cases(show u=zk p from r1);obtain⟨its,_,⟨o,h3,h4,_⟩,_⟩:=I.tuple h1;exact zF PySem.W.kitx_tuple I.kIn ⟨o,h3,h4⟩ kt (λz=>nomatch z) fin
 |lst ds=>
  obtain⟨p,ys,rfl,h1,h2⟩:=hd.lst gh;cases(show u=zk p from r1);obtain⟨its,_,⟨o,n,h3,h4,_⟩,_⟩:=I.list h1;exact zF PySem.W.kitx_list I.kIn ⟨o,h3,h4⟩ kt (λz=>nomatch z) fin
 |dic es=>
  rcases hd with hd | ⟨_,_,_,_,z,_⟩
  ·cases hd with
   |@dic p us ep _ h nd hs=>
    cases(show u=zk p from r1);obtain⟨⟨_,_,o,raw,h3,h4,_⟩,_,_⟩:=(show bu X.prog X.w H s.heap p (.ext (DAt p us ep)) from I.hok p _ (gh _ _ h));exact zF PySem.W.kitx_dict I.kIn ⟨o,h3,h4.1⟩ kt (λz=>nomatch z) fin
  ·cases z
theorem cV{T:String}{p p2:Pos}{x:Str}(hT:T = "list"\/T = "tuple"\/T = "bool"\/T = "int"\/T = "str")(ha:DB X a fa)(hm:X.mg "isinstance" = none)(hm2:X.mg x=none)(hv:wY x=some (.type T))(hv0:wY "isinstance" = some (.builtin "isinstance"):=by rfl)(hg:Gl X "isinstance":=by rfl)(hg2:Gl X x:=by rfl)(hn2:x≠"__name__":=by decide)(hd2:(x==("__debug__" : Str))=false:=by decide)
  (hst:zj [a,.Name x p2] X.env=(false,eval a X.env)::zj [.Name x p2] X.env:=by rfl) (hst2:zj [.Name x p2] X.env=(false,eval (.Name x p2) X.env)::zj [] X.env:=by rfl) (hpl:(wo pos (zj [.Name x p2] X.env)).any (·.1)=false:=by rfl) :
  DE X (.Call (.Name "isinstance" p) [a,.Name x p2] [] pos) (dg (cY T) fa):=by
 obtain⟨ta,a1,a2⟩:=ha;refine⟨_,dH (pD hT) hg hm hv0 (ao a1 (ao (lT (v:=.ty T) hg2 hm2 hv rfl hn2 hd2) aB hst2) hst) (by decide) (by decide) hst hpl,λHe G H σ ε d Q gh E ef q=>?_⟩;unfold dg at ef;cases e1:fa ε with
 |none=>rw[e1] at ef;cases ef
 |some y=>
  rw[e1] at ef;cases ef;refine a2 He G H σ ε y _ gh E e1 λv G1 H1 g1 d1=>?_;exact⟨G1,v,y,rfl,g1.gh,d1,_,rfl,q _ _ _ g1 (.bl _)⟩
end
theorem EnvD.put{K:zb}{He G H:Hp}{σ:L2.St}{ε:Ev}{i:Nat}{v:V}{d:D}(E:EnvD K He G H σ ε)(h:Den K G v d):EnvD K He G H (σ.set i (some v)) (ε.set i (.dat d)) where
 len:=by rw[wb,wb];exact E.len
 dat:=λ{j d'} e=>by
  rw[zy] at e ⊢
  by_cases z:i=j
  ·rw[if_pos z] at e ⊢
   subst z;rw[E.len];split at e
   ·rename_i hl;cases e;exact⟨v,by rw[if_pos hl],h⟩
   ·cases e
  ·rw[if_neg z] at e ⊢
   exact E.dat e
 own:=λ{j ds} e=>by
  rw[zy] at e ⊢
  by_cases z:i=j
  ·rw[if_pos z] at e;split at e<;>cases e
  ·rw[if_neg z] at e ⊢
   exact E.own e
 apart:=λ{j k ds es a} e1 e2 h1 h2=>by
  rw[zy] at e1 e2 h1 h2
  by_cases z:i=j
  ·rw[if_pos z] at e1;split at e1<;>cases e1
  ·by_cases z2:i=k
   ·rw[if_pos z2] at e2;split at e2<;>cases e2
   ·rw[if_neg z] at e1 h1
    rw[if_neg z2] at e2 h2;exact E.apart e1 e2 h1 h2
 odi:=λ{j ds} e=>by
  rw[zy] at e ⊢
  by_cases z:i=j
  ·rw[if_pos z] at e;split at e<;>cases e
  ·rw[if_neg z] at e ⊢
   exact E.odi e
 apartD:=λ{j k ds es a} e1 e2 h1 h2=>by
  rw[zy] at e1 e2 h1 h2
  by_cases z:i=j
  ·rw[if_pos z] at e1;split at e1<;>cases e1
  ·by_cases z2:i=k
   ·rw[if_pos z2] at e2;split at e2<;>cases e2
   ·rw[if_neg z] at e1 h1
    rw[if_neg z2] at e2 h2;exact E.apartD e1 e2 h1 h2
theorem EnvD.putO{K:zb}{He G H G' H':Hp}{σ:L2.St}{ε:Ev}{i:Nat}{a:Addr}{xs:List V}{ds:List D}(E:EnvD K He G H σ ε)(g:Grow G H G' H')(heH:au He H)(hn:H a=none)(gn:G' a=none)(ha:H' a=some (.lst xs))(hd:DenL K G' xs ds) :
  EnvD K He G' H' (σ.set i (some (.ref a))) (ε.set i (.own ds)) where
 len:=by rw[wb,wb];exact E.len
 dat:=λ{j d'} e=>by
  rw[zy] at e ⊢
  by_cases z:i=j
  ·rw[if_pos z] at e;split at e<;>cases e
  ·rw[if_neg z] at e ⊢
   exact(E.grow g).dat e
 own:=λ{j ds'} e=>by
  rw[zy] at e ⊢
  by_cases z:i=j
  ·rw[if_pos z] at e ⊢
   subst z;rw[E.len];split at e
   ·rename_i hl;cases e;exact⟨a,xs,by rw[if_pos hl],ha,gn,heH.free hn,hd⟩
   ·cases e
  ·rw[if_neg z] at e ⊢
   exact(E.grow g).own e
 apart:=λ{j k ds' es b} e1 e2 h1 h2=>by
  rw[zy] at e1 e2 h1 h2
  have key:∀{m:Nat} {es:List D},ε[m]?=some (.own es)->σ[m]?=some (some (.ref a))->False:=λ{m es} q1 q2=>by
   obtain⟨b',ys,w1,w2,_⟩:=E.own q1;rw[q2] at w1;cases w1;rw[hn] at w2;cases w2
  by_cases z:i=j
  ·by_cases z2:i=k
   ·rw[<-z,<-z2]
   ·rw[if_pos z] at h1
    rw[if_neg z2] at e2 h2;split at h1
    ·cases h1;exact(key e2 h2).elim
    ·cases h1
  ·by_cases z2:i=k
   ·rw[if_neg z] at e1 h1
    rw[if_pos z2] at h2;split at h2
    ·cases h2;exact(key e1 h1).elim
    ·cases h2
   ·rw[if_neg z] at e1 h1
    rw[if_neg z2] at e2 h2;exact E.apart e1 e2 h1 h2
 odi:=λ{j ds'} e=>by
  rw[zy] at e ⊢
  by_cases z:i=j
  ·rw[if_pos z] at e;split at e<;>cases e
  ·rw[if_neg z] at e ⊢
   exact(E.grow g).odi e
 apartD:=λ{j k ds es a} e1 e2 h1 h2=>by
  rw[zy] at e1 e2 h1 h2
  by_cases z:i=j
  ·rw[if_pos z] at e1;split at e1<;>cases e1
  ·by_cases z2:i=k
   ·rw[if_pos z2] at e2;split at e2<;>cases e2
   ·rw[if_neg z] at e1 h1
    rw[if_neg z2] at e2 h2;exact E.apartD e1 e2 h1 h2
theorem Sta.write{K:zb}{He Ge G H:Hp}{σ:L2.St}{ε:Ev}{i:Nat}{a:Addr}{xs ys:List V}{ds es:List D}(S:Sta K He Ge G H σ ε)(ei:ε[i]?=some (.own ds))(hs:σ[i]?=some (some (.ref a)))(ha:H a=some (.lst xs))(hd:DenL K G ys es) :
  Sta K He Ge G (upd H a (.lst ys)) σ (ε.set i (.own es)):=by
 obtain⟨a',xs',h1,h2,h3,h4,h5⟩:=S.e.own ei;rw[hs] at h1;cases h1;have keep:∀{b:Addr} {o:HO},b≠a->H b=some o->upd H a (.lst ys) b=some o:=λ{b o} n e=>by rw[ak n];exact e
 refine⟨⟨λb o e=>keep (ar e h4) (S.g.hh b o e),S.g.gg,λb o e=>keep (ar e h3) (S.g.gh b o e),S.g.fo⟩,?_⟩;have hil:i<ε.length:=(zB.mp ei).1;refine⟨by rw[wb];exact S.e.len,λ{j d} e=>?_,λ{j fs} e=>?_,λ{j k fs gs b} e1 e2 w1 w2=>?_,λ{j fs} e=>?_,λ{j k fs gs b} e1 e2 w1 w2=>?_⟩
 ·rw[zy] at e
  by_cases z:i=j
  ·rw[if_pos z] at e;split at e<;>cases e
  ·rw[if_neg z] at e;exact S.e.dat e
 ·rw[zy] at e
  by_cases z:i=j
  ·rw[if_pos z,if_pos (z▸hil)] at e
   cases e;subst z;exact⟨a,ys,hs,aj,h3,h4,hd⟩
  ·rw[if_neg z] at e
   obtain⟨b,zs,w1,w2,w3,w4,w5⟩:=S.e.own e;refine⟨b,zs,w1,keep (λq=>z ?_) w2,w3,w4,w5⟩;subst q;exact S.e.apart ei e hs w1
 ·have own_of:∀{m:Nat} {fs:List D},(ε.set i (.own es))[m]?=some (.own fs)->∃gs,ε[m]?=some (.own gs):=λ{m fs} e=>by
   rw[zy] at e
   by_cases z:i=m
   ·subst z;exact⟨_,ei⟩
   ·rw[if_neg z] at e;exact⟨_,e⟩
  obtain⟨_,q1⟩:=own_of e1;obtain⟨_,q2⟩:=own_of e2;exact S.e.apart q1 q2 w1 w2
 ·rw[zy] at e
  by_cases z:i=j
  ·rw[if_pos z] at e;split at e<;>cases e
  ·rw[if_neg z] at e
   obtain⟨b,us,ep,w1,w2,w3⟩:=S.e.odi e;exact⟨b,us,ep,w1,keep (λq=>by subst q;rw[ha] at w2;cases w2) w2,w3⟩
 ·have odi_of:∀{m:Nat} {fs:List (List Int×D)},(ε.set i (.own es))[m]?=some (.odi fs)->ε[m]?=some (.odi fs):=λ{m fs} e=>by
   rw[zy] at e
   by_cases z:i=m
   ·rw[if_pos z] at e;split at e<;>cases e
   ·rw[if_neg z] at e;exact e
  exact S.e.apartD (odi_of e1) (odi_of e2) w1 w2
def fzS:Sl->Sl
 |.own ds=>.dat (.lst ds)
 |.odi es=>.dat (.dic es)
 |x=>x
def fz1(i:Nat)(ε:Ev):Ev:=ε.modify i fzS
theorem Sta.freeze{K:zb}{He Ge G H:Hp}{σ:L2.St}{ε:Ev}(S:Sta K He Ge G H σ ε)(i:Nat):∃G',Sta K He Ge G' H σ (fz1 i ε):=by
 unfold fz1;cases ei:ε[i]? with
 |none=>
  have:ε.modify i fzS=ε:=by
   apply xG;intro j;rw[xl]
   by_cases z:i=j
   ·subst z;rw[ei];rfl
   ·simp[z]
  rw[this];exact⟨G,S⟩
 |some sl=>
  cases sl with
  |un=>
   have:ε.modify i fzS=ε:=by
    apply xG;intro j;rw[xl]
    by_cases z:i=j
    ·subst z;rw[ei];simp[fzS]
    ·simp[z]
   rw[this];exact⟨G,S⟩
  |dat d=>
   have:ε.modify i fzS=ε:=by
    apply xG;intro j;rw[xl]
    by_cases z:i=j
    ·subst z;rw[ei];simp[fzS]
    ·simp[z]
   rw[this];exact⟨G,S⟩
  |own ds=>
   obtain⟨a,xs,h1,h2,h3,h4,h5⟩:=S.e.own ei;have s2:au G (upd G a (.lst xs)):=λb o e=>by rw[ak (ar e h3)];exact e
   have gt:∀j,(ε.modify i fzS)[j]?=if i=j then some (.dat (.lst ds)) else ε[j]?:=λj=>by
    rw[xl]
    by_cases z:i=j
    ·subst z;rw[ei];simp[fzS]
    ·simp[z]
   refine⟨upd G a (.lst xs),⟨S.g.hh,S.g.gg.trans s2,λb o e=>?_,λb o e z=>?_⟩,⟨by rw[List.length_modify];exact S.e.len,λ{j d} e=>?_,λ{j fs} e=>?_,λ{j k fs gs b} e1 e2 w1 w2=>?_,λ{j fs} e=>?_,λ{j k fs gs b} e1 e2 w1 w2=>?_⟩⟩
   ·unfold upd at e
    by_cases z:b=a
    ·rw[if_pos z] at e;cases e;rw[z];exact h2
    ·rw[if_neg z] at e;exact S.g.gh b o e
   ·rw[ak (ar e h4)];exact S.g.fo b o e z
   ·rw[gt] at e
    split at e
    ·rename_i z;subst z;cases e;exact⟨_,h1,.lst (.inl aj) (h5.mono s2)⟩
    ·obtain⟨v,w1,w2⟩:=S.e.dat e;exact⟨v,w1,w2.mono s2⟩
   ·rw[gt] at e
    split at e
    ·cases e
    ·rename_i z
     obtain⟨b,zs,w1,w2,w3,w4,w5⟩:=S.e.own e;refine⟨b,zs,w1,w2,?_,w4,w5.mono s2⟩;rw[ak (λq=>z (by subst q;exact S.e.apart ei e h1 w1))];exact w3
   ·rw[gt] at e1 e2
    split at e1
    ·cases e1
    ·split at e2
     ·cases e2
     ·exact S.e.apart e1 e2 w1 w2
   ·rw[gt] at e
    split at e
    ·cases e
    ·obtain⟨b,us,ep,w1,w2,w3,w4,w5,w6⟩:=S.e.odi e
     refine⟨b,us,ep,w1,w2,?_,w4,w5,w6.mono s2⟩;rw[ak (λq=>by subst q;rw[h2] at w2;cases w2)];exact w3
   ·rw[gt] at e1 e2
    split at e1
    ·cases e1
    ·split at e2
     ·cases e2
     ·exact S.e.apartD e1 e2 w1 w2
  |odi es=>
   obtain⟨a,us,ep,h1,h2,h3,h4,h5,h6⟩:=S.e.odi ei;have s2:au G (upd G a (.ext (DAt a us ep))):=λb o e=>by rw[ak (ar e h3)];exact e
   have gt:∀j,(ε.modify i fzS)[j]?=if i=j then some (.dat (.dic es)) else ε[j]?:=λj=>by
    rw[xl]
    by_cases z:i=j
    ·subst z;rw[ei];simp[fzS]
    ·simp[z]
   refine⟨upd G a (.ext (DAt a us ep)),⟨S.g.hh,S.g.gg.trans s2,λb o e=>?_,λb o e z=>?_⟩,⟨by rw[List.length_modify];exact S.e.len,λ{j d} e=>?_,λ{j fs} e=>?_,λ{j k fs gs b} e1 e2 w1 w2=>?_,λ{j fs} e=>?_,λ{j k fs gs b} e1 e2 w1 w2=>?_⟩⟩
   ·unfold upd at e
    by_cases z:b=a
    ·rw[if_pos z] at e;cases e;rw[z];exact h2
    ·rw[if_neg z] at e;exact S.g.gh b o e
   ·rw[ak (ar e h4)];exact S.g.fo b o e z
   ·rw[gt] at e
    split at e
    ·rename_i z;subst z;cases e;exact⟨_,h1,.dic aj h5 (h6.mono s2)⟩
    ·obtain⟨v,w1,w2⟩:=S.e.dat e;exact⟨v,w1,w2.mono s2⟩
   ·rw[gt] at e
    split at e
    ·cases e
    ·obtain⟨b,zs,w1,w2,w3,w4,w5⟩:=S.e.own e
     refine⟨b,zs,w1,w2,?_,w4,w5.mono s2⟩;rw[ak (λq=>by subst q;rw[h2] at w2;cases w2)];exact w3
   ·rw[gt] at e1 e2
    split at e1
    ·cases e1
    ·split at e2
     ·cases e2
     ·exact S.e.apart e1 e2 w1 w2
   ·rw[gt] at e
    split at e
    ·cases e
    ·rename_i z
     obtain⟨b,us',ep',w1,w2,w3,w4,w5,w6⟩:=S.e.odi e;refine⟨b,us',ep',w1,w2,?_,w4,w5,w6.mono s2⟩;rw[ak (λq=>z (by subst q;exact S.e.apartD ei e h1 w1))];exact w3
   ·rw[gt] at e1 e2
    split at e1
    ·cases e1
    ·split at e2
     ·cases e2
     ·exact S.e.apartD e1 e2 w1 w2
theorem Grow.base{Ge He G1 H1 G H:Hp}(a:Grow Ge He G1 H1)(b:Grow G1 He G H):Grow Ge He G H:=⟨b.hh,a.gg.trans b.gg,b.gh,λc o h e=>b.fo c o h (a.fo c o h e)⟩
theorem Grow.self{Ge He G1 H1:Hp}(a:Grow Ge He G1 H1):Grow G1 He G1 H1:=⟨a.hh,au.refl _,a.gh,λ_ _ _ e=>e⟩
section
variable{X:Cx}{a b c:Expr}{fa fb fc:Ev->Option D}{pos:Pos}{st:Stmt}{rest:List Stmt}{g g':Ev->Option Fl}
def bx:Ev->Option Fl:=λε=>some (.nx ε)
def aJ(g g':Ev->Option Fl):Ev->Option Fl:=λε=>(g ε).bind λr=>match r with | .nx ε'=>g' ε' | r=>some r
theorem aS:DSs X [] bx:=⟨_,eW,λHe Ge G H σ ε r W S e P=>by cases e;exact P σ G H S⟩
theorem az(h:DS X st g):DSs X [st] g:=let⟨t,h1,h2⟩:=h;⟨_,bZ h1,h2⟩
theorem aq(h:DS X st g)(hs:DSs X rest g'):DSs X (st::rest) (aJ g g'):=by
 obtain⟨t,a1,a2⟩:=h;obtain⟨u,b1,b2⟩:=hs;refine⟨_,aT a1 b1,λHe Ge G H σ ε r W S e P=>?_⟩;obtain⟨r1,e1,e⟩:=ai e;refine a2 He Ge G H σ ε r1 _ S e1 ?_;cases r1 with
 |nx ε'=>exact λσ' G' H' S'=>b2 He Ge G' H' σ' ε' r W S' e P
 |rt d=>cases e;exact P
 |ro ds=>cases e;exact P
 |xc c fs=>cases e;exact P
 |bk ε'=>cases e;exact P
 |ct ε'=>cases e;exact P
def sFz(i:Nat)(g:Ev->Option Fl):Ev->Option Fl:=λε=>g (fz1 i ε)
theorem rb(i:Nat)(h:DS X st g):DS X st (sFz i g):=let⟨t,h1,h2⟩:=h;⟨t,h1,λHe Ge G H σ ε r W S e P=>let⟨G',S'⟩:=S.freeze i;h2 He Ge G' H σ _ r W S' e P⟩
def cv(f:Ev->Option D):Ev->Option Fl:=λε=>(f ε).map Fl.rt
theorem aX{α β:Type}{o:Option α}{f:α->β}{y:β}(h:o.map f=some y):∃x,o=some x/\f x=y:=by
 cases o with
 |none=>cases h
 |some x=>exact⟨x,rfl,Option.some.inj h⟩
theorem br(h:DE X a fa):DS X (.Return (some a) pos) (cv fa):=by
 obtain⟨t,a1,a2⟩:=h;refine⟨_,fw a1,λHe Ge G H σ ε r W S e P=>?_⟩;obtain⟨d,e1,rfl⟩:=aX e;exact a2 He G H σ ε d _ S.g.gh S.e e1 λv G' H' g hd=>P v G' H' (S.g.trans g) hd
def vT(i:Nat):Ev->Option Fl:=λε=>match ε[i]? with | some (.own ds)=>some (.ro ds) | _=>none
def sIf(f:Ev->Option Bool)(g g':Ev->Option Fl):Ev->Option Fl:=λε=>(f ε).bind λk=>if k=true then g ε else g' ε
theorem bA{f:Ev->Option Bool}{s1 s2:List Stmt}(hc:DT X c f)(h1:DSs X s1 g)(h2:DSs X s2 g'):DS X (.If c s1 s2 pos) (sIf f g g'):=by
 obtain⟨t,c1,c2⟩:=hc;obtain⟨ta,a1,a2⟩:=h1;obtain⟨tb,b1,b2⟩:=h2;refine⟨_,ja c1 a1 b1,λHe Ge G H σ ε r W S e P=>?_⟩;obtain⟨k,e1,e⟩:=ai e;refine c2 He G H σ ε k _ S.g.gh S.e e1 λG1 H1 g1=>?_;cases k with
 |true=>
  rw[if_pos rfl] at e ⊢;exact a2 He Ge G1 H1 σ ε r W (S.grow g1) e P
 |false=>
  rw[if_neg zm] at e ⊢;exact b2 He Ge G1 H1 σ ε r W (S.grow g1) e P
def bJ(i:Nat)(f:Ev->Option D):Ev->Option Fl:=λε=>(f ε).map λd=>Fl.nx (ε.set i (.dat d))
theorem bT(i:Nat){x:Str}{pos':Pos}(hN:X.N.Nodup)(ha:DE X a fa)(hi:X.N[i]?=some x:=by rfl)(hx:Loc X.env.scope x:=by first | exact zV rfl | exact xb rfl)(hs:xJ a (some (.Name x pos')) pos.line X.env=pure false:=by rfl)
  (hf:X.fn x=true\/X.env.scope.names.lookup x=some .local:=by first | exact .inl rfl | exact .inr rfl):DS X (.Assign [.Name x pos'] a pos) (bJ i fa):=by
 obtain⟨t,a1,a2⟩:=ha;refine⟨_,dU hN hi hx a1 hs hf,λHe Ge G H σ ε r W S e P=>?_⟩;obtain⟨d,e1,rfl⟩:=aX e;exact a2 He G H σ ε d _ S.g.gh S.e e1 λv G' H' g hd=>P _ G' H' ⟨S.g.trans g,(S.e.grow g).put hd⟩
def kj(i:Nat)(f:Ev->Option (List D)):Ev->Option Fl:=λε=>(f ε).map λd=>Fl.nx (ε.set i (.own d))
theorem iI(i:Nat){x:Str}{pos':Pos}{f:Ev->Option (List D)}(hN:X.N.Nodup)(ha:DF X a f)(hi:X.N[i]?=some x:=by rfl)(hx:Loc X.env.scope x:=by first | exact zV rfl | exact xb rfl)(hs:xJ a (some (.Name x pos')) pos.line X.env=pure false:=by rfl)
  (hf:X.fn x=true\/X.env.scope.names.lookup x=some .local:=by first | exact .inl rfl | exact .inr rfl):DS X (.Assign [.Name x pos'] a pos) (kj i f):=by
 obtain⟨t,a1,a2⟩:=ha;refine⟨_,dU hN hi hx a1 hs hf,λHe Ge G H σ ε r W S e P=>?_⟩;obtain⟨d,e1,rfl⟩:=aX e;exact a2 He G H σ ε d _ S.g.gh S.e e1 λl xs G' H' g hn gn hl hd=>P _ G' H' ⟨S.g.trans g,S.e.putO g S.g.hh hn gn hl hd⟩
def fG(i:Nat)(f:Ev->Option D):Ev->Option Fl:=λε=>(f ε).bind λd=>match ε[i]? with
 |some (.own ds)=>if ds.length<1000000 then some (.nx (ε.set i (.own (ds++[d])))) else none
 |_=>none
theorem iS(i:Nat){x:Str}{p1 p2:Pos}(ha:DE X a fa)(hN:X.N[i]?=some x:=by rfl)(hv:Vis X.env.scope x:=by first | exact zV rfl | exact xb (zV rfl))(hd:(x==("__debug__" : Str))=false:=by decide)
  (hcd:(x==("__classdict__" : Str))=false:=by decide)
  (hbase:attributeBase (.Name x p1) "append" X.env (eval (.Name x p1) X.env)=eval (.Name x p1) X.env:=by rfl)
  (hfew:((wo pos (zj [a] X.env)).all (λx=>!x.1)&&(backToKw pos (keywordEach [] X.env)).all (λx=>x.1.isSome)
   && decide (([a]:List Expr).length+([]:List Keyword).length+(if([]:List Keyword).isEmpty then 0 else 1)<30))=true:=by rfl)
  (hline:(p2.endLine==pos.line)=true:=by rfl) (hs:zj [a] X.env=(false,eval a X.env)::zj [] X.env:=by rfl) (hplain:(wo pos (zj [] X.env)).any (·.1)=false:=by rfl)
  (hsw:xJ (.Call (.Attribute (.Name x p1) "append" p2) [a] [] pos) none pos.line X.env=pure false:=by rfl) :
  DS X (.Expr (.Call (.Attribute (.Name x p1) "append" p2) [a] [] pos) pos) (fG i fa):=by
 obtain⟨t,a1,a2⟩:=ha;refine⟨_,dZ (iA wD wq wt cw (fB hN hv hd hcd) (ao a1 aB hs) hbase hfew hline hs hplain) hsw,λHe Ge G H σ ε r W S e P=>?_⟩;obtain⟨d,e1,e⟩:=ai e;split at e
 ·rename_i ds ei
  split at e
  ·rename_i hl
   cases e;obtain⟨l,xs,h1,h2,h3,h4,h5⟩:=S.e.own ei;refine⟨_,h1,.inl ⟨rfl,xs,SqL.of h2⟩,?_⟩;refine a2 He G H σ ε d _ S.g.gh S.e e1 λv G' H' g hd=>?_;have S':=S.grow g;obtain⟨l',xs',w1,w2,w3,w4,w5⟩:=S'.e.own ei;rw[h1] at w1;cases w1
   have hz:xs'.length<zt:=by
    rw[w5.length];exact Nat.lt_trans hl (by decide)
   exact⟨l,xs',v,rfl,rfl,w2,hz,P σ G' _ (S'.write ei h1 w2 (w5.append (.one hd)))⟩
  ·cases e
 ·cases e
def iK(i:Nat)(fk f:Ev->Option D):Ev->Option Fl:=λε=>(f ε).bind λd=>(fk ε).bind λk=>match ε[i]?,k with
 |some (.own ds),.int j=>(ixN ds.length j).map λm=>.nx (ε.set i (.own (ds.set m d)))
 |_,_=>none
theorem lO(i:Nat){x:Str}{p1 p2:Pos}{k:Expr}{fk:Ev->Option D}(ha:DE X a fa)(hk:DB X k fk)(hN:X.N[i]?=some x:=by rfl)(hv:Vis X.env.scope x:=by first | exact zV rfl | exact xb (zV rfl))(hd:(x==("__debug__" : Str))=false:=by decide)
  (hcd:(x==("__classdict__" : Str))=false:=by decide)
  (hasg:∀v,assign (.Subscript (.Name x p1) k p2) X.env v=(do
   let ov<-holding [v] (eval (.Name x p1) X.env);let iv<-holding [v,ov] (eval k X.env)
   standAt p2
   holding [v,ov,iv] (setItem ov iv v)
   release [v,ov,iv] []):=by intro _;rfl)
  (hs:swapsWithSole [.Subscript (.Name x p1) k p2] a pos.line X.env=pure false:=by rfl) (hw:swappedStores [.Subscript (.Name x p1) k p2] a X.env=pure none:=by rfl)
  (h1:(zZ [.Subscript (.Name x p1) k p2] X.env).map (·.2)=[assign (.Subscript (.Name x p1) k p2) X.env]:=by rfl) :
  DS X (.Assign [.Subscript (.Name x p1) k p2] a pos) (iK i fk fa):=by
 obtain⟨t,a1,a2⟩:=ha;obtain⟨u,b1,b2⟩:=hk;refine⟨_,oH a1 (so (fB hN hv hd hcd) b1 pF hasg) hs hw h1,λHe Ge G H σ ε r W S e P=>?_⟩;obtain⟨d,e1,e⟩:=ai e;obtain⟨dk,e2,e⟩:=ai e;split at e
 ·rename_i ds j ei
  obtain⟨m,em,rfl⟩:=aX e;refine a2 He G H σ ε d _ S.g.gh S.e e1 λv G1 H1 g1 hd1=>?_;have S1:=S.grow g1;obtain⟨l,xs,w1,w2,w3,w4,w5⟩:=S1.e.own ei;refine⟨_,w1,?_⟩;refine b2 He G1 H1 σ ε _ _ S1.g.gh S1.e e2 λv2 G2 H2 g2 hd2=>?_;have S2:=S1.grow g2;obtain⟨l',xs',z1,z2,z3,z4,z5⟩:=S2.e.own ei;rw[w1] at z1;cases z1;exact⟨l,xs',j,m,rfl,hd2.int,z2,by rw[z5.length];exact em,P σ G2 _ (S2.write ei w1 z2 (.set (hd1.mono g2.gg) m z5))⟩
 ·cases e
def DG(X:Cx)(tg:Expr)(g:D->Ev->Option Ev):Prop:=∃t,PG X tg t/\∀(He G H:Hp) (σ:L2.St) (ε ε':Ev) (v:V) (d:D) (Q:L2.St->Hp->Prop),au G H->EnvD X.K He G H σ ε->Den X.K G v d->g d ε=some ε'->
 (∀σ',EnvD X.K He G H σ' ε'->Q σ' H)->t v σ H Q
def DGs(X:Cx)(ts:List Expr)(g:List D->Ev->Option Ev):Prop:=∃t,PGs X ts t/\∀(He G H:Hp) (σ:L2.St) (ε ε':Ev) (vs:List V) (ds:List D) (Q:L2.St->Hp->Prop),au G H->EnvD X.K He G H σ ε->DenL X.K G vs ds->g ds ε=some ε'->
 (∀σ',EnvD X.K He G H σ' ε'->Q σ' H)->t vs σ H Q
def av(i:Nat):D->Ev->Option Ev:=λd ε=>some (ε.set i (.dat d))
theorem aQ(i:Nat){x:Str}(hN:X.N.Nodup)(hi:X.N[i]?=some x:=by rfl)(hx:Loc X.env.scope x:=by first | exact zV rfl | exact xb rfl)(hf:X.fn x=true\/X.env.scope.names.lookup x=some .local:=by first | exact .inl rfl | exact .inr rfl):DG X (.Name x pos) (av i):=
 ⟨_,jY hN hi hx hf,λHe G H σ ε ε' v d Q gh E hd e q=>by cases e;exact q _ (E.put hd)⟩
def bF:List D->Ev->Option Ev:=λds ε=>match ds with | []=>some ε | _=>none
def aC(g:D->Ev->Option Ev)(g':List D->Ev->Option Ev):List D->Ev->Option Ev:=λds ε=>match ds with | d::r=>(g d ε).bind (g' r) | []=>none
theorem eY:DGs X [] bF:=⟨_,qF,λHe G H σ ε ε' vs ds Q gh E hd e q=>by
 cases hd with
 |nil=>cases e;exact⟨rfl,q _ E⟩
 |cons _ _=>cases e⟩
theorem bg{e:Expr}{es:List Expr}{g1:D->Ev->Option Ev}{g2:List D->Ev->Option Ev}(h1:DG X e g1)(h2:DGs X es g2)(hs:(zZ (e::es) X.env).map (·.2)=assign e X.env::(zZ es X.env).map (·.2):=by rfl):DGs X (e::es) (aC g1 g2):=by
 obtain⟨t,a1,a2⟩:=h1;obtain⟨u,b1,b2⟩:=h2;refine⟨_,oW a1 b1 hs,λHe G H σ ε ε' vs ds Q gh E hd e q=>?_⟩;cases hd with
 |nil=>cases e
 |cons h3 h4=>
  obtain⟨ε1,e1,e⟩:=ai e;exact⟨_,_,rfl,a2 He G H σ ε ε1 _ _ _ gh E h3 e1 λσ1 E1=>b2 He G H σ1 ε1 ε' _ _ _ gh E1 h4 e q⟩
def dh(n:Nat)(g:List D->Ev->Option Ev):D->Ev->Option Ev:=λd ε=>match d with | .tup ds=>if ds.length=n then g ds ε else none | _=>none
theorem js{es:List Expr}{k:Nat}{g:List D->Ev->Option Ev}{n:Nat}(hc:X.calm=true)(h:DGs X es g)(hn:(zZ es X.env).length=n:=by rfl)(hst:(zZ es X.env).findIdx? (·.1)=none:=by rfl):DG X (.Tuple es k pos) (dh n g):=by
 obtain⟨t,a1,a2⟩:=h;refine⟨_,pO hc a1 hn hst,λHe G H σ ε ε' v d Q gh E hd e q=>?_⟩;unfold dh at e;split at e
 ·split at e
  ·rename_i hl
   obtain⟨p,xs,rfl,h1,h2⟩:=hd.tupV;exact⟨p,xs,rfl,aE gh h1,by rw[h2.length];exact hl,a2 He G H σ ε ε' _ _ _ gh E h2 e q⟩
  ·cases e
 ·cases e
def pb(f:Ev->Option D)(g:D->Ev->Option Ev):Ev->Option Fl:=λε=>(f ε).bind λd=>(g d ε).map Fl.nx
theorem pN{tg:Expr}{g:D->Ev->Option Ev}(he:DE X a fa)(hg:DG X tg g)(hs:swapsWithSole [tg] a pos.line X.env=pure false:=by rfl)(hw:swappedStores [tg] a X.env=pure none:=by rfl)
  (h1:(zZ [tg] X.env).map (·.2)=[assign tg X.env]:=by rfl):DS X (.Assign [tg] a pos) (pb fa g):=by
 obtain⟨t,a1,a2⟩:=he;obtain⟨u,b1,b2⟩:=hg;refine⟨_,oH a1 b1 hs hw h1,λHe Ge G H σ ε r W S e P=>?_⟩;obtain⟨d,e1,e⟩:=ai e;obtain⟨ε',e2,rfl⟩:=aX e;exact a2 He G H σ ε d _ S.g.gh S.e e1 λv G' H' g hd=>b2 He G' H' σ ε ε' v d _ g.gh (S.e.grow g) hd e2 λσ' E'=>P σ' G' H' ⟨S.g.trans g,E'⟩
def ItD(K:zb)(J:It)(ds:List D)(G:Hp):Prop:=∀(i:Nat) (H2:Hp),au G H2->(i<ds.length->J.go i H2)/\(ds.length<=i->J.stop i H2)/\
 ∀x H3,J.yld i H2 x H3->∀d,ds[i]?=some d->∀G2,au G G2->au G2 H2->∃G3,Grow G2 H2 G3 H3/\Den K G3 x d
def DI(X:Cx)(tg iter:Expr)(f:Ev->Option (List D)):Prop:=∃wi,PI X tg iter wi/\∀(He G H:Hp) (σ:L2.St) (ε:Ev) (ds:List D) (R:It->Hp->Prop),au G H->EnvD X.K He G H σ ε->f ε=some ds->
 (∀J G' H',Grow G H G' H'->ItD X.K J ds G'->R J H')->wi σ H R
def hW(f:Ev->Option D):Ev->Option (List D):=λε=>match f ε with | some (.lst ds)=>some ds | _=>none
theorem jT{tg:Expr}(h:DE X a fa):DI X tg a (hW fa):=by
 obtain⟨t,a1,a2⟩:=h;refine⟨_,l9 a1,λHe G H σ ε ds R gh E ef q=>?_⟩;unfold hW at ef;split at ef
 ·rename_i e1
  cases ef;refine a2 He G H σ ε _ _ gh E e1 λv G1 H1 g1 d1=>?_;obtain⟨p,xs,rfl,h1,h2⟩:=d1.lstV;refine⟨p,rfl,⟨xs,g1.gh.seq h1⟩,q _ G1 H1 g1 λi H2 s2=>⟨λhi=>?_,λhi=>⟨xs,s2.seq h1,by rw[h2.length];exact hi⟩,?_⟩⟩
  ·have hi':i<xs.length:=by rw[h2.length];exact hi
   exact⟨xs,xs[i],s2.seq h1,by simp[hi']⟩
  ·rintro x H3 ⟨rfl,y⟩ d ed G2 s3 s4
   obtain⟨x',e3,e4⟩:=h2.get ed;have:=y xs (s2.seq h1);rw[e3] at this;cases this;exact⟨G2,.refl s4,e4.mono s3⟩
 ·cases ef
def ck(n:Nat):List D:=(vX n).map λi=>.int (i:Nat)
def dN(f:Ev->Option D):Ev->Option (List D):=λε=>match f ε with | some (.int j)=>if j<1000000/\-1000000<j then some (ck j.toNat) else none | _=>none
theorem dM{tg:Expr}{p:Pos}(h:DE X a fa)(hm:X.mg "range" = none)(hg:Gl X "range":=by rfl)(hs:zj [a] X.env=[(false,eval a X.env)]:=by rfl):DI X tg (.Call (.Name "range" p) [a] [] pos) (dN fa):=by
 obtain⟨t,a1,a2⟩:=h;refine⟨_,jf hg hm (ao a1 aB hs) hs,λHe G H σ ε ds R gh E ef q=>?_⟩;unfold dN at ef;split at ef
 ·rename_i j e1
  split at ef
  ·rename_i hj
   cases ef;refine a2 He G H σ ε _ _ gh E e1 λv G1 H1 g1 d1=>?_;refine⟨j,by rw[d1.intV],by lia,by lia,q _ G1 H1 g1 λi H2 s2=>⟨λhi=>?_,λhi=>?_,?_⟩⟩
   ·show i<j.toNat
    simpa[ck] using hi
   ·show j.toNat<=i
    simpa[ck] using hi
   ·rintro x H3 ⟨rfl,rfl⟩ d ed G2 s3 s4
    refine⟨G2,.refl s4,?_⟩;unfold ck at ed;rw[zH] at ed;obtain⟨m,em,rfl⟩:=aX ed;obtain⟨hm,em⟩:=zB.mp em;rw[List.getElem_range] at em;subst em;rw[Int.zero_add];exact .int _
  ·cases ef
 ·cases ef
def bL(g:D->Ev->Option Ev)(gb:Ev->Option Fl):List D->Ev->Option Fl
 |[],ε=>some (.nx ε)
 |d::ds,ε=>(g d ε).bind λε1=>(gb ε1).bind λr=>match r with
  |.nx ε2=>bL g gb ds ε2
  |.ct ε2=>bL g gb ds ε2
  |.bk ε2=>some (.nx ε2)
  |.rt v=>some (.rt v)
  |.ro v=>some (.ro v)
  |.xc c v=>some (.xc c v)
def ez(f:Ev->Option (List D))(g:D->Ev->Option Ev)(gb:Ev->Option Fl):Ev->Option Fl:=λε=>(f ε).bind λds=>bL g gb ds ε
theorem dz{tg iter:Expr}{body:List Stmt}{f:Ev->Option (List D)}{g:D->Ev->Option Ev}{gb:Ev->Option Fl}(hp:PassesOwn (zg X.prog X.w) X.A X.env X.xe)(hc:X.calm=true)(hi:DI X tg iter f)(hg:DG X tg g)(hb:DSs X body gb)
  (hs:∀x,xE iter X.env x=pure x:=by intro _;rfl):DS X (.For tg iter body [] pos) (ez f g gb):=by
 obtain⟨wi,i1,i2⟩:=hi;obtain⟨tg',g1,g2⟩:=hg;obtain⟨tb,b1,b2⟩:=hb;refine⟨_,kL hp hc i1 g1 b1 hs,λHe Ge G H σ ε r W S e P=>?_⟩;obtain⟨ds,e1,e⟩:=ai e;refine i2 He G H σ ε ds _ S.g.gh S.e e1 λJ G1 H1 gr it=>?_;have S1:=S.grow gr;refine⟨λi m σ H=>m=ds.length-i/\i<=ds.length/\∃G ε,Sta X.K He G1 G H σ ε/\bL g gb (ds.drop i) ε=some r,⟨ds.length,by simp,zE _,G1,ε,⟨S1.g.self,S1.e⟩,by simpa using e⟩,?_⟩;rintro i m σ2 H2 ⟨rfl,hi,G2,ε2,S2,e2⟩;obtain⟨go,stop,yld⟩:=it i H2 (S2.g.gg.trans S2.g.gh)
 by_cases hlt:i<ds.length
 ·refine .inr ⟨go hlt,λσ' H'=>i+1<=ds.length/\∃G ε,Sta X.K He G1 G H' σ' ε/\bL g gb (ds.drop (i+1)) ε=some r,λσ' H' ⟨q1,q2⟩=>⟨ds.length-(i+1),by lia,rfl,q1,q2⟩,λx H3 y=>?_⟩
  have ed:ds[i]?=some ds[i]:=by simp[hlt]
  obtain⟨G3,gr3,dx⟩:=yld x H3 y _ ed G2 S2.g.gg S2.g.gh;have S3:=S2.grow gr3;rw[List.drop_eq_getElem_cons hlt] at e2;obtain⟨ε3,e3,e2⟩:=ai e2;obtain⟨r4,e4,e2⟩:=ai e2;refine g2 He G3 H3 σ2 ε2 ε3 x ds[i] _ S3.g.gh S3.e dx e3 λσ4 E4=>?_;refine b2 He G1 G3 H3 σ4 ε3 r4 _ ⟨S3.g,E4⟩ e4 ?_;cases r4 with
  |nx ε5=>exact λσ5 G5 H5 S5=>⟨hlt,G5,ε5,S5,e2⟩
  |ct ε5=>exact λσ5 G5 H5 S5=>⟨hlt,G5,ε5,S5,e2⟩
  |bk ε5=>cases e2;exact λσ5 G5 H5 S5=>P σ5 G5 H5 ⟨S1.g.base S5.g,S5.e⟩
  |rt d=>cases e2;exact λv G5 H5 g5 d5=>P v G5 H5 (S1.g.base g5) d5
  |ro ds=>cases e2;exact λa xs G5 H5 g5 n1 n2 h5 d5=>P a xs G5 H5 (S1.g.base g5) n1 n2 h5 d5
  |xc c fs=>cases e2;exact λpins σ5 G5 H5 s5 a dx cls I5 g5 x5 m5 d5=>P pins σ5 G5 H5 s5 a dx cls I5 (S1.g.base g5) x5 m5 d5
 ·have e5:i=ds.length:=by lia
  subst e5;rw[List.drop_length] at e2;cases e2;exact .inl ⟨stop (zp _),P σ2 G2 H2 ⟨S1.g.base S2.g,S2.e⟩⟩
end
theorem fL{K:zb}{H:Hp}{vs:List V}{ds:List D}{N:List Str}{i:Nat}{s:Sl}(e:(aZ N ds)[i]?=some s):(∃d,s=.dat d/\ds[i]?=some d)\/s=.un:=by
 unfold aZ at e
 by_cases h:i<ds.length
 ·rw[wk (by simpa using h),zH] at e
  obtain⟨d,e1,rfl⟩:=aX e;exact .inl ⟨d,rfl,e1⟩
 ·rw[vW (by simpa using h),wB] at e
  split at e
  ·cases e;exact .inr rfl
  ·cases e
theorem cu{K:zb}{G H:Hp}{vs:List V}{ds:List D}{N:List Str}(gh:au G H)(h:DenL K G vs ds):Sta K H G G H (L2.eG N vs) (aZ N ds):=by
 refine⟨.refl gh,?_,λ{i d} e=>?_,λ{i d} e=>?_,λ{i j ds' es a} e _ _ _=>?_,λ{i d} e=>?_,λ{i j ds' es a} e _ _ _=>?_⟩
 ·unfold L2.eG aZ
  simp[h.length]
 ·rcases fL (K:=K) (H:=H) (vs:=vs) e with⟨d',e1,e2⟩ | e1
  ·cases e1
   obtain⟨v,h1,h2⟩:=h.get e2;refine⟨v,?_,h2⟩;unfold L2.eG;have hl:i<vs.length:=(zB.mp h1).1;rw[wk (by simpa using hl),zH,h1];rfl
  ·cases e1
 ·rcases fL (K:=K) (H:=H) (vs:=vs) e with⟨d',e1,e2⟩ | e1<;>cases e1
 ·rcases fL (K:=K) (H:=H) (vs:=vs) e with⟨d',e1,e2⟩ | e1<;>cases e1
 ·rcases fL (K:=K) (H:=H) (vs:=vs) e with⟨d',e1,e2⟩ | e1<;>cases e1
 ·rcases fL (K:=K) (H:=H) (vs:=vs) e with⟨d',e1,e2⟩ | e1<;>cases e1
section
variable{P:zv}{w:zA}{K:zb}{mg:Str->Option za}{base:Heap}
theorem sg{x qual:Str}{st:Stmt}{f:Addr}{fd:zX}{N ps:List Str}{k:Nat}{F:List D->Option D}(g:Ev->Option Fl)(Fu:Fun K x qual st f fd)(S:FnScope N ps (ax st))(hlen:∀ds d,F ds=some d->ds.length=ps.length)
  (hg:∀ds d,F ds=some d->g (aZ N ds)=some (.rt d)\/(∃ε,g (aZ N ds)=some (.nx ε)/\d=.non)\/∃rs,g (aZ N ds)=some (.ro rs)/\d=.lst rs)
  (hb:∀(cdv:za) (A:zD) (outer:List Env) (s:zd) (H:Hp) (E:XK),Room k (A.deeper (envOfC qual (ax st) s.heap.objs.size f cdv))->DSs (fv CX0 P w K mg base N qual (ax st) f cdv A outer s H E).nox (aY st) g):FnOk P w K mg base CX0 (k+1) f fd ps (spF K F):=by
 refine Fu.ok S (λvs H Q E h=>?_) (λcdv A outer s H vs Q E hr h=>?_)
 ·obtain⟨G,ds,d,gh,hd,e,q⟩:=h
  rw[hd.length];exact hlen ds d e
 ·obtain⟨G,ds,d,gh,hd,e,q⟩:=h
  obtain⟨t,h1,h2⟩:=hb cdv A outer s H E hr;refine⟨t,h1,?_⟩;rcases hg ds d e with e1 | ⟨ε,e1,rfl⟩ | ⟨rs,e1,rfl⟩
  ·exact h2 H G G H _ _ _ _ (cu gh hd) e1 λv G' H' g hd=>q v G' H' g hd
  ·exact h2 H G G H _ _ _ _ (cu gh hd) e1 λσ G' H' S'=>q _ G' H' S'.g .non
  ·exact h2 H G G H _ _ _ _ (cu gh hd) e1 λa xs G' H' g n1 n2 h3 d3=>q _ _ H' (g.seal n1 n2 h3) (kM n2 d3)
end
def fnD(N ps:List Str)(g:Ev->Option Fl):List D->Option D:=λds=>if ds.length=ps.length then(match g (aZ N ds) with | some (.rt d)=>some d | some (.nx _)=>some .non | some (.ro rs)=>some (.lst rs) | _=>none) else none
section
variable{P:zv}{w:zA}{K:zb}{mg:Str->Option za}{base:Heap}
theorem mG{x qual:Str}{st:Stmt}{f:Addr}{fd:zX}{N ps:List Str}{k:Nat}{g:Ev->Option Fl}(Fu:Fun K x qual st f fd)(S:FnScope N ps (ax st))
  (hb:∀(cdv:za) (A:zD) (outer:List Env) (s:zd) (H:Hp) (E:XK),Room k (A.deeper (envOfC qual (ax st) s.heap.objs.size f cdv))->DSs (fv CX0 P w K mg base N qual (ax st) f cdv A outer s H E).nox (aY st) g):FnOk P w K mg base CX0 (k+1) f fd ps (spF K (fnD N ps g)):=by
 refine sg g Fu S (λds d e=>?_) (λds d e=>?_) hb
 ·unfold fnD at e
  split at e
  ·assumption
  ·cases e
 ·unfold fnD at e
  split at e
  ·split at e
   ·rename_i d' e1;cases e;exact .inl e1
   ·rename_i ε e1;cases e;exact .inr (.inl ⟨ε,e1,rfl⟩)
   ·rename_i rs e1;cases e;exact .inr (.inr ⟨rs,e1,rfl⟩)
   ·cases e
  ·cases e
theorem qB{f:Addr}{fd:zX}{ps:List Str}{k:Nat}:FnOk P w K mg base CX0 k f fd ps (spF K λ_=>none):=
 ⟨λvs H Q E ⟨_,_,_,_,_,e,_⟩=>(by cases e),λA outer s H args us vs Q E _ _ _ _ ⟨_,_,_,_,_,e,_⟩=>(by cases e)⟩
structure FA(K:zb)(mg:Str->Option za)(x:Str)(st:Stmt)(ps:List Str)(f:Addr)(fd:zX):Prop where
 fu:Fun K x x st f fd
 bi:ej K fd ps []
 mgf:mg x=some (.ref f)
theorem u_{h:Heap}{x:Str}{st:Stmt}{ps:List Str}{f:Addr}{oc:za}{od an:Option Addr}{osl:Array (Option za)}{kV doc pm cdv ct:za}(X:K.In h)(G:h.Ns zz mg)
  (a:zL K zz x=some (some (.ref f)))
  (l:K.lookup f=some ⟨oc,od,.func (vZ x x (bz st) (aY st) (ax st) .none kV doc pm an cdv ct),osl⟩)
  (c:xp K cdv x=true) (k:zY K (.ref f)=true)
  (hb:∀(kV doc pm:za) (an:Option Addr) (cdv ct:za) (us:List za),us.length=ps.length->bindArgs (vZ x x (bz st) (aY st) (ax st) .none kV doc pm an cdv ct) ⟨us,[]⟩=pure (ps.zip us)) :
  FA K mg x st ps f (vZ x x (bz st) (aY st) (ax st) .none kV doc pm an cdv ct):=
 ⟨jz l c k,(jz l c k).binds hb,xy X G a⟩
end
section
variable{X:Cx}{a b c:Expr}{fa fb fc:Ev->Option D}{pos:Pos}
theorem kf{k j:Nat}{f:Addr}{fd:zX}{st:Stmt}{ps:List Str}{Fn:List D->Option D}{x:Str}{e:Expr}{es:List Expr}{g:Ev->Option (List D)}{p:Pos}
  (A:FA X.K X.mg x st ps f fd) (F:FnOk X.prog X.w X.K X.mg X.base CX0 j f fd ps (spF X.K Fn)) (hr:Room k X.A) (hj:j<=k)
  (ha:DA X (e::es) g) (hg:Gl X x:=by rfl) (hdb:(x==("__debug__" : Str))=false:=by decide) (he:zj (e::es) X.env=(false,eval e X.env)::zj es X.env:=by rfl) (hpl:(wo pos (zj es X.env)).any (·.1)=false:=by rfl) :
  DE X (.Call (.Name x p) (e::es) [] pos) (ba Fn g):=qh F (hr.mono hj) A.mgf A.fu.kp A.bi ha hg hdb he hpl
def eCh(f f':D->D->Option D)(fa fb fc:Ev->Option D):Ev->Option D:=λε=>(fa ε).bind λx=>(fb ε).bind λy=>(f x y).bind λz=>match z with | .bl k=>if k=true then(fc ε).bind λw=>f' y w else some (.bl false) | _=>none
end
theorem ma(K:zb)(G:Hp):∀ns:List Int,DenL K G (ns.map V.int) (ns.map D.int)
 |[]=>.nil
 |n::r=>.cons (.int n) (ma K G r)
def cxC(X:Cx)(sc:Scope)(cl:List (Str×Addr))(N':List Str)(C:Addr)(s₃:zd)(H₃:Hp)(fp:List Addr)(pins:List (Addr×Obj)):Cx where
 prog:=X.prog
 w:=X.w
 K:=X.K
 mg:=X.mg
 base:=X.base
 A:=X.A
 N:=N'
 s₀:=s₃
 H₀:=H₃
 env:=compEnvC sc cl C X.env
 outer:=X.stack
 stack:=X.stack
 ex:=fp
 fn:=λ_=>false
 calm:=true
 pn:=X.pn++pins
 xe:=λ_ _=>False
structure CompSc(X:Cx)(sc:Scope)(cl:List (Str×Addr))(tn fr:List Str)(ix:List Nat):Prop where
 kind:sc.kind=.function
 nocell:∀y∈sc.names,y.2≠.cell
 names:∀y∈sc.names,y.2=.local->sc.names.lookup y.1=some .local
 clos:closureFor sc X.env=pure cl
 len:ix.length=fr.length
 at_:∀(k:Nat) (x:Str),fr[k]?=some x->∃j,ix[k]?=some j/\X.N[j]?=some x/\X.env.scope.names.lookup x=some .cell
 sub:∀x c,cl.lookup x=some c->X.env.cells.lookup x=some c
 has:∀x,((relabel sc X.env).names.lookup x=some .cell\/(relabel sc X.env).names.lookup x=some .free)->∃c,cl.lookup x=some c
 frc:∀x∈fr,(relabel sc X.env).names.lookup x=some .cell
def prS(n:Nat)(ix:List Nat)(σ:L2.St):L2.St:=wU n none++ix.map λi=>σ.getD i none
def vP:Sl->Sl
 |.dat d=>.dat d
 |_=>.un
def prE(n:Nat)(ix:List Nat)(ε:Ev):Ev:=wU n Sl.un++ix.map λi=>vP (ε.getD i .un)
theorem ot{X:Cx}{sc:Scope}{cl:List (Str×Addr)}{tn fr:List Str}{ix:List Nat}{pins:List (Addr×Obj)}{σ:L2.St}{H₃:Hp}{s₃:zd}{fp:List Addr}{h₁:Heap}{tk:Nat}{m:Str->Option za}
  (S:CompSc X sc cl tn fr ix) (hc:X.calm=true) (I:Inv X pins σ H₃ s₃) (hf:∀b∈fp,gq X pins H₃ b) (hlt:∀b∈fp,b<s₃.heap.objs.size) (hn:h₁.Ns s₃.heap.objs.size m) (hk:∀b o,s₃.heap.get? b=some o->h₁.get? b=some o) :
  Inv (cxC X sc cl (tn++fr) s₃.heap.objs.size s₃ H₃ fp pins) [] (prS tn.length ix σ) H₃ { s₃ with heap:=h₁,toks:=tk }:=by
 have ncell:∀{x:Str} {c:Addr},X.env.cells.lookup x=some c->c<s₃.heap.objs.size:=λ{x c} e=>let⟨v,q⟩:=I.cell x c e;q.lt
 have hfs:∀b,b∈frs X.stack->b<s₃.heap.objs.size:=λb hb=>by
  rcases zq.mp (I.stkSub b hb) with z | z
  ·rw[z];exact I.lt
  ·exact Nat.lt_of_not_le λq=>I.nofs q z
 refine⟨⟨I.ok.mod,?_,I.ok.glob,I.ok.blt,zp _,?_,?_,?_,?_,I.ok.frames,.inl rfl,?_,?_,?_,?_,?_,?_,?_⟩,rfl,I.bare,Un.kept hk,⟨m,hn,?_⟩,?_,?_,?_,?_,I.hok.kept hk,?_⟩
 ·exact S.kind
 ·intro x y c h1 h2;exact I.ok.inj x y c (S.sub x c h1) (S.sub y c h2)
 ·intro x hx;exact S.has x hx
 ·intro x c h;cases h
 ·intro _;exact I.ok.hd hc
 ·intro b hb
  exact⟨zC (hlt b hb),λx c e=>(hf b hb).2.2.2.2.1 x c (S.sub x c e)⟩
 ·exact I.bs
 ·exact zO I.ok.bsz I.sz
 ·intro b o e hb
  rcases(hf b hb).2.2.2.1 with z | z
  ·exact I.ok.noex b o e z
  ·exact absurd (zx (zh e) (zO I.ok.bsz z)) (wx _)
 ·intro b hb z
  rcases zq.mp (I.stkSub b z) with q | q
  ·exact(hf b hb).2.1 q
  ·exact(hf b hb).2.2.1 q
 ·exact I.stack
 ·exact I.stkFree
 ·intro i x v h1 h2 hv
  have hi:tn.length<=i:=by
   refine Nat.le_of_not_lt λq=>?_;unfold prS at h2;rw[wk (by simpa using q),wB] at h2;split at h2<;>cases h2
  have h1':fr[i-tn.length]?=some x:=by
   have:(tn++fr)[i]?=some x:=h1;rwa [vW hi] at this
  obtain⟨j,e1,e2,e3⟩:=S.at_ _ x h1'
  have h2':σ[j]?=some (some v):=by
   unfold prS at h2;rw[vW (by simpa using hi),wH,zH,e1] at h2;have h3:σ.getD j none=some v:=Option.some.inj h2;rw[wF] at h3;cases q:σ[j]? with
   |none=>rw[q] at h3;cases h3
   |some o=>rw[q] at h3;exact congrArg some h3
  obtain⟨mm,hm,hl⟩:=I.loc;obtain⟨u,r,l⟩:=hl j x v e2 h2' (.inr (.inl e3));refine⟨u,r,.inr ⟨.inl (S.frc x (xj h1')),?_⟩⟩;rcases l with⟨k1,_⟩ | ⟨_,c,k2,k3⟩
  ·have:X.env.kindOf x=some .cell:=e3
   rw[this] at k1;cases k1
  ·obtain⟨c',k4⟩:=S.has x (.inl (S.frc x (xj h1')))
   have:=S.sub x c' k4;rw[k2] at this;cases this;exact⟨c,k4,k3.keeps hk⟩
 ·intro x c e
  obtain⟨v,q⟩:=I.cell x c (S.sub x c e);exact⟨v,q.keeps hk⟩
 ·exact I.hok.fresh (zp _)
 ·intro x c e;exact I.freeC x c (S.sub x c e)
 ·intro p hp
  have hp':p∈X.pn++pins:=(wL.mp hp).elim (λin1=>in1) λin2=>by cases in2
  obtain⟨q1,q2,q3,q4,q5⟩:=I.pin p hp';refine⟨hk _ _ q1,q2,zC (zh q1),λz=>?_,q5⟩;rcases zq.mp (I.stkSub _ z) with w | w
  ·exact q3 w
  ·exact q4 w
 ·unfold prS
  show _=(tn++fr).length;rw[vY,vY,wH,wj,S.len]
theorem oV{K:zb}{He G H:Hp}{σ:L2.St}{ε:Ev}(n:Nat)(ix:List Nat)(E:EnvD K He G H σ ε):EnvD K He G H (prS n ix σ) (prE n ix ε):=by
 have look:∀{i:Nat} {s:Sl},(prE n ix ε)[i]?=some s->s=.un\/∃j d,n<=i/\ix[i-n]?=some j/\ε[j]?=some (.dat d)/\s=.dat d:=λ{i s} e=>by
  unfold prE at e
  by_cases h:i<n
  ·rw[wk (by simpa using h),wB,if_pos h] at e
   cases e;exact .inl rfl
  ·rw[vW (by simpa using h),wH,zH] at e
   obtain⟨j,e1,rfl⟩:=aX e;rw[show ε.getD j .un=(ε[j]?).getD .un from wF];cases q:ε[j]? with
   |none=>exact .inl rfl
   |some sl=>
    cases sl with
    |un=>exact .inl rfl
    |own ds=>exact .inl rfl
    |odi ds=>exact .inl rfl
    |dat d=>exact .inr ⟨j,d,by lia,e1,q,rfl⟩
 refine⟨by simp[prS,prE],λ{i d} e=>?_,λ{i ds} e=>?_,λ{i j ds es a} e _ _ _=>?_,λ{i ds} e=>?_,λ{i j ds es a} e _ _ _=>?_⟩
 ·rcases look e with z | ⟨j,d',h1,h2,h3,h4⟩
  ·cases z
  ·cases h4
   obtain⟨v,w1,w2⟩:=E.dat h3;refine⟨v,?_,w2⟩;unfold prS;rw[vW (by simpa using h1),wH,zH,h2];show some (σ.getD j none)=_;rw[wF,w1];rfl
 ·rcases look e with z | ⟨j,d',h1,h2,h3,h4⟩
  ·cases z
  ·cases h4
 ·rcases look e with z | ⟨j,d',h1,h2,h3,h4⟩
  ·cases z
  ·cases h4
 ·rcases look e with z | ⟨j,d',h1,h2,h3,h4⟩
  ·cases z
  ·cases h4
 ·rcases look e with z | ⟨j,d',h1,h2,h3,h4⟩
  ·cases z
  ·cases h4
def NoO(ε:Ev):Prop:=∀(j:Nat) es,ε[j]?≠some (.own es)
def NoG(g:D->Ev->Option Ev):Prop:=∀d ε ε',g d ε=some ε'->NoO ε->NoO ε'
def qV(g:List D->Ev->Option Ev):Prop:=∀d ε ε',g d ε=some ε'->NoO ε->NoO ε'
theorem fJ(i:Nat):NoG (av i):=λd ε ε' e h j es q=>by
 cases e;rw[zy] at q;split at q
 ·split at q<;>cases q
 ·exact h j es q
theorem mj:qV bF:=λd ε ε' e h=>by
 unfold bF at e;split at e
 ·cases e;exact h
 ·cases e
theorem gk{g1:D->Ev->Option Ev}{g2:List D->Ev->Option Ev}(h1:NoG g1)(h2:qV g2):qV (aC g1 g2):=λd ε ε' e h=>by
 unfold aC at e;split at e
 ·obtain⟨ε1,e1,e⟩:=ai e
  exact h2 _ _ _ e (h1 _ _ _ e1 h)
 ·cases e
theorem oN{n:Nat}{g:List D->Ev->Option Ev}(h:qV g):NoG (dh n g):=λd ε ε' e hn=>by
 unfold dh at e;split at e
 ·split at e
  ·exact h _ _ _ e hn
  ·cases e
 ·cases e
theorem si(n:Nat)(ix:List Nat)(ε:Ev):NoO (prE n ix ε):=λi es e=>by
 unfold prE at e
 by_cases h:i<n
 ·rw[wk (by simpa using h),wB,if_pos h] at e
  cases e
 ·rw[vW (by simpa using h),wH,zH] at e
  obtain⟨j,e1,e2⟩:=aX e
  revert e2
  cases ε.getD j .un<;>intro z<;>cases z
def DIf(X:Cx)(ifs:List Expr)(f:Ev->Option Bool):Prop:=∃t:TT,(∀(pins:List (Addr×Obj)) (s:zd) (σ:L2.St) (H:Hp) (Q:Bool->Hp->Prop),Inv X pins σ H s->t σ H Q->
  zf (zg X.prog X.w) X.A (forIn ifs true λc r=>if r=true then do let ok<-isTrue c X.env (eval c X.env);pure (ForInStep.yield ok) else pure (ForInStep.yield r)) (TP X pins σ Q) X.xe s)/\
 ∀(He G H:Hp) (σ:L2.St) (ε:Ev) (b:Bool) (Q:Bool->Hp->Prop),au G H->EnvD X.K He G H σ ε->f ε=some b->(∀G' H',Grow G H G' H'->Q b H')->t σ H Q
def kZ:Ev->Option Bool:=λ_=>some true
theorem mP{X:Cx}:DIf X [] kZ:=⟨λσ H Q=>Q true H,λpins s σ H Q I h=>wpAny_tests_nil ⟨H,I,h⟩,λHe G H σ ε b Q gh E e q=>by cases e;exact q G H (.refl gh)⟩
theorem qx{X:Cx}{c:Expr}{f:Ev->Option Bool}(h:DT X c f):DIf X [c] f:=by
 obtain⟨t,h1,h2⟩:=h;exact⟨t,λpins s σ H Q I hq=>wpAny_tests_one (h1 pins s σ H Q I hq),h2⟩
def lcD(g:D->Ev->Option Ev)(ft:Ev->Option Bool)(fe:Ev->Option D):List D->Ev->Option (List D)
 |[],_=>some []
 |d::ds,ε=>(g d ε).bind λε1=>(ft ε1).bind λk=>if k=true then(fe ε1).bind λv=>(lcD g ft fe ds ε1).bind λr=>some (v::r) else lcD g ft fe ds ε1
theorem eB{prog:zv}{w:zA}{A:zD}{R:Result->zd->Prop}{t0:zd}{elt tg iter:Expr}{ifs:List Expr}{sc:Scope}{pos:Pos}{it acc:za}{ce:Env}(J:Nat->zd->Prop)
  (step:∀k t,J k t->zf (zg prog w) A (pyNext it) (λo t1=>match o with | none=>R (.ok .next) t1 | some v=>zf (zg prog w) A (letOwnedTupleGo tg it v) (λ_ t2=>zf (zg prog w) A (assign tg ce v) (λ_ t3=>
   zf (zg prog w) A (forIn ifs true λc r=>if r=true then do let ok<-isTrue c ce (eval c ce);pure (ForInStep.yield ok) else pure (ForInStep.yield r)) (λyes t4=>if yes=true then zf (zg prog w) A (eval elt ce) (λx t5=>
    zf (zg prog w) A (call (.builtin "list.append") [acc,x]) (λ_ t6=>∃j,j<k/\J j t6) (λ_ _=>False) t5) (λ_ _=>False) t4 else ∃j,j<k/\J j t4) (λ_ _=>False) t3) (λ_ _=>False) t2) (λ_ _=>False) t1) (λ_ _=>False) t)
  (k0:Nat) (h0:J k0 t0):codeAny (zg prog w) A (.compLoop (.ListComp elt [⟨tg,iter,ifs,0⟩] sc pos) 0 it acc ce) R t0:=by
 refine codeAny_loop rfl J (λk t hJ=>?_) k0 h0;show zf _ A ((compTurn (.ListComp elt [⟨tg,iter,ifs,0⟩] sc pos) 0 it acc ce).onRaise (λx=>do noteFrame x ce;theTreesLotGoes x)) _ _ t;refine wpAny_noted ?_;rw[compTurn_list];refine zc (wpAny_standAt (zc (wz (step k t hJ) (λo t1 q1=>?_) λ_ _ z=>z.elim)));cases o with
 |none=>exact zi q1
 |some v=>
  refine zc (wz q1 (λ_ t2 q2=>zc (wz q2 (λ_ t3 q3=>zc (wz q3 (λyes t4 q4=>?_) λ_ _ z=>z.elim)) λ_ _ z=>z.elim)) λ_ _ z=>z.elim);cases yes with
  |true=>exact zc (zc (wz q4 (λx t5 q5=>zc (wz q5 (λ_ t6 q6=>zi (zi ⟨rfl,q6⟩)) λ_ _ z=>z.elim)) λ_ _ z=>z.elim))
  |false=>exact zi ⟨rfl,q4⟩
section
variable{X:Cx}{elt tg iter:Expr}{ifs:List Expr}{sc:Scope}{cl:List (Str×Addr)}{tn fr:List Str}{ix:List Nat}{pos:Pos}{fi:Ev->Option (List D)}{g:D->Ev->Option Ev}{ft:Ev->Option Bool}{fe:Ev->Option D}
def DEp(Nv:Hp->Hp->V->Prop)(X:Cx)(e:Expr)(f:Ev->Option D):Prop:=∃t,PE X e t/\∀(He G H:Hp) (σ:L2.St) (ε:Ev) (d:D) (Q:VK),au G H->EnvD X.K He G H σ ε->f ε=some d->
 (∀v G' H',Grow G H G' H'->Den X.K G' v d->Nv H G' v->Q v H')->t σ H Q
theorem DE.p{X:Cx}{e:Expr}{f:Ev->Option D}(h:DE X e f):DEp (λ_ _ _=>True) X e f:=
 let⟨t,h1,h2⟩:=h;⟨t,h1,λHe G H σ ε d Q gh E ef q=>h2 He G H σ ε d Q gh E ef λv G' H' g hd=>q v G' H' g hd trivial⟩
def oG(Nl:Hp->Hp->List V->Prop)(X:Cx)(pins:List (Addr×Obj))(σ:L2.St)(G H:Hp)(ds:List D)(RR:za->Addr->Result->zd->Prop):Prop:=
 ∀(a:Addr) (xs:List V) (G' H':Hp) (C:Addr) (oC:Obj) (m:Str->Option za) (s':zd),Inv X (pins++[(C,oC)]) σ H' s'->s'.heap.Ns C m->X.s₀.heap.objs.size<=C->(∀p∈X.pn++pins,p.1≠C)->
  Grow G H G' H'->H a=none->G' a=none->H' a=some (.lst xs)->DenL X.K G' xs ds->Nl H G' xs->RR (.ref a) C (.ok .next) s'
variable{Nv:Hp->Hp->V->Prop}{Nl:Hp->Hp->List V->Prop}(n0:∀H G,Nl H G [])(nm:∀H G G' xs,au G G'->Nl H G xs->Nl H G' xs)(ns:∀H H1 G G' xs v,au H H1->au G H1->au G G'->Nl H G xs->Nv H1 G' v->Nl H G' (xs++[v]))
include n0 nm ns
theorem kI{pins:List (Addr×Obj)}{σ:L2.St}{H He G G1 H3:Hp}{s3:zd}{ε:Ev}{ds rs:List D}{RR:za->Addr->Result->zd->Prop}{it Dd:Addr}{fp:List Addr}{tn':Nat->Heap->Prop}{J:It}{h₁:Heap}{m:Str->Option za}{tk:Nat}
  (hc:X.calm=true) (S:CompSc X sc cl tn fr ix) (ng:NoG g)
  (hg:∀C s₃ H₃ fp pins,DG (cxC X sc cl (tn++fr) C s₃ H₃ fp pins) tg g) (ht:∀C s₃ H₃ fp pins,DIf (cxC X sc cl (tn++fr) C s₃ H₃ fp pins) ifs ft) (he:∀C s₃ H₃ fp pins,DEp Nv (cxC X sc cl (tn++fr) C s₃ H₃ fp pins) elt fe)
  (I3:Inv X pins σ H3 s3) (E:EnvD X.K He G H σ ε) (hz:ds.length<1000000) (er:lcD g ft fe ds (prE tn.length ix ε)=some rs) (after:oG Nl X pins σ G H rs RR)
  (T:Turn X.prog X.w X.K tg J fp it tn') (itd:ItD X.K J ds G1) (f3:∀b∈fp,gq X pins H3 b) (lt3:∀b∈fp,b<s3.heap.objs.size) (st3:tn' 0 s3.heap) (gr3:Grow G H G1 H3)
  (eD:H3 Dd=some (.lst [])) (nD:H Dd=none) (gD:G1 Dd=none) (hn:h₁.Ns s3.heap.objs.size m) (hk:∀b o,s3.heap.get? b=some o->h₁.get? b=some o) :
  codeAny (zg X.prog X.w) X.A (.compStart (.ListComp elt [⟨tg,iter,ifs,0⟩] sc pos) 0 (.ref it) (.ref Dd) (compEnvC sc cl s3.heap.objs.size X.env)) (RR (.ref Dd) s3.heap.objs.size) { s3 with heap:=h₁,toks:=tk }:=by
 have I4:=ot (tk:=tk) S hc I3 f3 lt3 hn hk;have st4:tn' 0 h₁:=T.keep _ _ _ st3 λb hb o e=>hk b o e;obtain⟨tgt,g1,g2⟩:=hg s3.heap.objs.size s3 H3 fp pins;obtain⟨tt,t1,t2⟩:=ht s3.heap.objs.size s3 H3 fp pins;obtain⟨te,e1,e2⟩:=he s3.heap.objs.size s3 H3 fp pins
 have stat:∀{H':Hp},(∀b∈fp,H' b=none)->∀b∈fp,gq (cxC X sc cl (tn++fr) s3.heap.objs.size s3 H3 fp pins) [] H' b:=λ{H'} hn b hb=>by
  obtain⟨_,q1,q2,q3,q4,q5⟩:=f3 b hb;refine⟨hn b hb,zC (lt3 b hb),λz=>?_,.inl hb,λx c e=>q4 x c (S.sub x c e),λp hp=>q5 p ?_⟩
  ·rcases zq.mp (I3.stkSub b z) with w | w
   ·exact q1 w
   ·exact q2 w
  ·rcases wL.mp hp with w | w
   ·exact w
   ·cases w
 have loop:∀s':zd,s'={ s3 with heap:=h₁,toks:=tk }->codeAny (zg X.prog X.w) X.A (.compLoop (.ListComp elt [⟨tg,iter,ifs,0⟩] sc pos) 0 (.ref it) (.ref Dd) (compEnvC sc cl s3.heap.objs.size X.env)) (RR (.ref Dd) s3.heap.objs.size) s':=by
  rintro s' rfl
  refine eB (λn s'=>∃(i:Nat) (σ':L2.St) (G' H':Hp) (ε':Ev) (xs:List V) (dn rest:List D),n=ds.length+1-i/\i<=ds.length/\Inv (cxC X sc cl (tn++fr) s3.heap.objs.size s3 H3 fp pins) [] σ' H' s'/\tn' i s'.heap/\(∀b∈fp,H' b=none)/\
   Grow G H G' H'/\au G1 G'/\EnvD X.K He G' H' σ' ε'/\NoO ε'/\H' Dd=some (.lst xs)/\G' Dd=none/\DenL X.K G' xs dn/\Nl H G' xs/\xs.length<=i/\lcD g ft fe (ds.drop i) ε'=some rest/\rs=dn++rest) ?_ (ds.length+1)
   ⟨0,_,G1,H3,_,[],[],rs,rfl,zE _,I4,st4,λb hb=>(f3 b hb).1,gr3,au.refl _,oV tn.length ix (E.grow gr3),si _ _ _,eD,gD,.nil,n0 _ _,zp _,by simpa using er,rfl⟩
  rintro n s5 ⟨i,σ',G',H',ε',xs,dn,rest,rfl,hi,I5,st5,fr5,gr5,sG,E5,no5,hD,hGD,hden,hNv,hxl,el,ers⟩;obtain⟨go,stop,yld⟩:=itd i H' (sG.trans gr5.gh)
  by_cases hlt:i<ds.length
  ·refine thn (T.item (cxC X sc cl (tn++fr) s3.heap.objs.size s3 H3 fp pins) rfl rfl rfl rfl i [] s5 σ' H' (λ_ _=>False) I5 (stat fr5) st5 (go hlt)) λr s6 ⟨u,hr,h6⟩=>?_
   subst hr;refine thn h6 λ_ s7 ⟨x,H7,I7,r7,y7,st7,fr7⟩=>?_;have I7':=I7.pinned (stat fr7) (T.obj _ _ st7);have ed:ds[i]?=some ds[i]:=by simp[hlt]
   obtain⟨G7,gr7,dx⟩:=yld x H7 y7 _ ed G' sG gr5.gh;rw[List.drop_eq_getElem_cons hlt] at el;obtain⟨ε8,e8,el⟩:=ai el;obtain⟨k,e9,el⟩:=ai el;refine thn (g1 _ s7 σ' H7 x u (λσ8 H8=>H8=H7/\EnvD X.K He G7 H7 σ8 ε8) I7' r7 (g2 He G7 H7 σ' ε' ε8 x ds[i] _ gr7.gh (E5.grow gr7) dx e8 λσ8 E8=>⟨rfl,E8⟩)) λ_ s8 ⟨σ8,H8,I8,e10,E8⟩=>?_;subst e10;refine thn (t1 _ s8 σ8 H8 (λb H9=>b=k/\∃G9,Grow G7 H8 G9 H9) I8 (t2 He G7 H8 σ8 ε8 k _ gr7.gh E8 e9 λG9 H9 gr9=>⟨rfl,G9,gr9⟩)) λok s9 ⟨H9,I9,ek,G9,gr9⟩=>?_;subst ek
   have again:∀{s10:zd} {G10 H10:Hp} {ys:List V} {dn' rest':List D},Inv (cxC X sc cl (tn++fr) s3.heap.objs.size s3 H3 fp pins) ([]++iU fp s7.heap) σ8 H10 s10->Grow G H G10 H10->au G1 G10->EnvD X.K He G10 H10 σ8 ε8->H10 Dd=some (.lst ys)->G10 Dd=none->DenL X.K G10 ys dn'->Nl H G10 ys->ys.length<=i+1->
     lcD g ft fe (ds.drop (i+1)) ε8=some rest'->rs=dn'++rest'->∃m,m<ds.length+1-i/\∃(i:Nat) (σ':L2.St) (G' H':Hp) (ε':Ev) (xs:List V) (dn rest:List D),m=ds.length+1-i/\i<=ds.length/\Inv (cxC X sc cl (tn++fr) s3.heap.objs.size s3 H3 fp pins) [] σ' H' s10/\tn' i s10.heap/\(∀b∈fp,H' b=none)/\
   Grow G H G' H'/\au G1 G'/\EnvD X.K He G' H' σ' ε'/\NoO ε'/\H' Dd=some (.lst xs)/\G' Dd=none/\DenL X.K G' xs dn/\Nl H G' xs/\xs.length<=i/\lcD g ft fe (ds.drop i) ε'=some rest/\rs=dn++rest:=λ{s10 G10 H10 ys dn' rest'} I10 gr10 sG10 E10 hD10 hG10 den10 nv10 len10 el10 ers10=>by
    refine⟨ds.length+1-(i+1),by lia,i+1,σ8,G10,H10,ε8,ys,dn',rest',rfl,hlt,I10.unpinned,T.keep _ _ _ st7 λb hb o e=>(I10.pin (b,o) (zw _ (zw _ (dS hb e)))).1,λb hb=>?_,gr10,sG10,E10,ng _ _ _ e8 no5,hD10,hG10,den10,nv10,len10,el10,ers10⟩;obtain⟨o,e,d⟩:=T.obj _ _ st7 b hb;exact(I10.pin (b,o) (zw _ (zw _ (dS hb e)))).2.1
   have gr9':=gr5.trans (gr7.trans gr9);have sG9:au G1 G9:=sG.trans (gr7.gg.trans gr9.gg);have hD9:H9 Dd=some (.lst xs):=gr9.hh _ _ (gr7.hh _ _ hD);have hG9:G9 Dd=none:=gr9.fo _ _ (gr7.hh _ _ hD) (gr7.fo _ _ hD hGD);cases ok with
   |false=>
    rw[if_neg zm] at el;rw[if_neg zm];exact again I9 gr9' sG9 (E8.grow gr9) hD9 hG9 (hden.mono (gr7.gg.trans gr9.gg)) (nm _ _ _ _ (gr7.gg.trans gr9.gg) hNv) (by lia) el ers
   |true=>
    rw[if_pos rfl] at el;rw[if_pos rfl];obtain⟨vd,e11,el⟩:=ai el;obtain⟨rest',e12,el⟩:=ai el;cases el;refine thn (e1 _ s9 σ8 H9 (λy H10=>∃G10,Grow G9 H9 G10 H10/\Den X.K G10 y vd/\Nv H9 G10 y) I9 (e2 He G9 H9 σ8 ε8 vd _ gr9.gh (E8.grow gr9) e11 λy G10 H10 gr10 dy ny=>⟨G10,gr10,dy,ny⟩)) λuv s10 ⟨y,H10,I10,r10,G10,gr10,dy,ny⟩=>?_;have hD10:=gr10.hh _ _ hD9;have hG10:=gr10.fo _ _ hD9 hG9;have hl:xs.length<zt:=wc hxl (Nat.lt_trans (Nat.lt_trans hlt hz) (by decide));refine thn (cw _ s10 σ8 H10 (.ref Dd) [y] (.ref Dd) [uv] (λ_ H11=>H11=upd H10 Dd (.lst (xs++[y]))) I10 rfl (.cons r10 .nil) ⟨Dd,xs,y,rfl,rfl,hD10,hl,rfl⟩) λ_ s11 ⟨_,H11,I11,_,e13⟩=>?_;subst e13;have gr10':=gr9'.trans gr10;have keep:∀{b:Addr} {o:HO},b≠Dd->H10 b=some o->upd H10 Dd (.lst (xs++[y])) b=some o:=λ{b o} nb e=>by rw[ak nb];exact e
    refine again I11 ⟨λb o e=>keep (ar e nD) (gr10'.hh b o e),gr10'.gg,λb o e=>keep (ar e hG10) (gr10'.gh b o e),gr10'.fo⟩ (sG9.trans gr10.gg) ?_ aj hG10 (((hden.mono (gr7.gg.trans gr9.gg)).mono gr10.gg).append (.one dy)) (ns _ _ _ _ _ _ gr9'.hh gr9.gh gr10.gg (nm _ _ _ _ (gr7.gg.trans gr9.gg) hNv) ny) (by rw[vY];simp;lia) e12 (by rw[ers];simp);have E10:=(E8.grow gr9).grow gr10
    exact⟨E10.len,E10.dat,λ{j es} e=>by
     obtain⟨b,zs,w1,w2,w3,w4,w5⟩:=E10.own e;exact(ng _ _ _ e8 no5 _ _ e).elim,E10.apart,λ{j es} e=>by
     obtain⟨b,zs,ep,w1,w2,w3,w4,w5,w6⟩:=E10.odi e
     exact⟨b,zs,ep,w1,keep (λq=>by subst q;rw[hD10] at w2;cases w2) w2,w3,w4,w5,w6⟩,E10.apartD⟩
  ·have e5:i=ds.length:=by lia
   subst e5;rw[List.drop_length] at el;cases el;refine thn (T.done (cxC X sc cl (tn++fr) s3.heap.objs.size s3 H3 fp pins) rfl rfl rfl rfl ds.length [] s5 σ' H' (λ_ _=>False) I5 (stat fr5) st5 (stop (zp _))) λr s6 ⟨hr,I6⟩=>?_;subst hr;obtain⟨m6,⟨oC,es,ep,ho,hdt,hrest⟩,_⟩:=id I6.loc;have IX:Inv X pins σ H' s6:=I3.call' I6.os I6.base I6.hok I6.bare λb hb=>⟨(f3 b hb).2.2.2.1,(f3 b hb).2.1,(f3 b hb).2.2.2.2.1,(f3 b hb).2.2.2.2.2⟩;have pC:∀p∈X.pn++pins,p.1≠s3.heap.objs.size:=λp hp=>zC (zh (I3.pin p hp).1)
   have IX':Inv X (pins++[(s3.heap.objs.size,oC)]) σ H' s6:=IX.pins_of λp hp=>by
    rcases wL.mp hp with older | newer
    ·exact IX.pin p (zw _ older)
    ·rw[xW.mp newer]
     exact⟨ho,I6.free,Ne.symm (zC I3.lt),I3.nofs (zp _),λv q=>by rw[hdt] at q;cases q⟩
   exact after Dd xs G' H' s3.heap.objs.size oC m6 s6 IX' ⟨oC,es,ep,ho,hdt,hrest⟩ I3.sz pC gr5 nD hGD hD (by rw[ers,xg];exact hden) hNv
 exact codeAny_compStart_list (loop _ rfl) (T.self X.A 0 _ _ _ st4 (loop _ rfl))
theorem qL{pins:List (Addr×Obj)}{σ:L2.St}{H He G:Hp}{s:zd}{ε:Ev}{ds rs:List D}{RR:za->Addr->Result->zd->Prop}(hc:X.calm=true)(hi:DI X tg iter fi)(S:CompSc X sc cl tn fr ix)(ng:NoG g)
  (hg:∀C s₃ H₃ fp pins,DG (cxC X sc cl (tn++fr) C s₃ H₃ fp pins) tg g) (ht:∀C s₃ H₃ fp pins,DIf (cxC X sc cl (tn++fr) C s₃ H₃ fp pins) ifs ft) (he:∀C s₃ H₃ fp pins,DEp Nv (cxC X sc cl (tn++fr) C s₃ H₃ fp pins) elt fe)
  (I:Inv X pins σ H s) (gh:au G H) (E:EnvD X.K He G H σ ε) (ei:fi ε=some ds) (hz:ds.length<1000000) (er:lcD g ft fe ds (prE tn.length ix ε)=some rs) (after:oG Nl X pins σ G H rs RR) :
  zf (zg X.prog X.w) X.A (eval iter X.env) (λx s₁=>zf (zg X.prog X.w) X.A (pyIter x) (λit s₂=>zf (zg X.prog X.w) X.A (newList []) (λacc s₃=>
   zf (zg X.prog X.w) X.A (newFunctionEnv sc X.env.globals cl [] X.env.qual none .none (some X.env)) (λcenv s₄=>
    codeAny (zg X.prog X.w) X.A (.compStart (.ListComp elt [⟨tg,iter,ifs,0⟩] sc pos) 0 it acc { cenv with scope:=relabel sc X.env }) (RR acc cenv.locals) s₄) X.xe s₃) X.xe s₂) X.xe s₁) X.xe s:=by
 obtain⟨wi,i1,i2⟩:=hi;refine thn (i1 pins s σ H (λJ H'=>∃G1,Grow G H G1 H'/\ItD X.K J ds G1) I (i2 He G H σ ε ds _ gh E ei λJ G' H' gr itd=>⟨G',gr,itd⟩)) λv s1 h1=>thn h1 λitv s2 h2=>?_;obtain⟨it,fp,tn',J,H2,rfl,I2,T,st2,f2,G1,gr,itd⟩:=h2;refine wd (wpAny_newFunctionEnv S.nocell (by intro y hy;simp at hy) (λh₁ hns₁ hsb₁=>?_) S.kind);dsimp only at hns₁ hsb₁ ⊢;have fr2:H2 s2.heap.objs.size=none:=I2.hok.fresh (zp _)
 have I3:Inv X pins σ (upd H2 s2.heap.objs.size (.lst [])) { s2 with heap:=s2.heap.push { cls:=.type "list",dict:=none,data:=.seq ([]:List za).toArray } }:=
  I2.laid (t':=s2.toks) (o:=.lst []) (λb ob q=>ze _ q) (zp _) ⟨zE _,[],0,.nil,zr _ rfl⟩
 have fpD:∀b∈fp,b≠s2.heap.objs.size:=λb hb z=>by
  obtain⟨o,e,_⟩:=T.obj 0 _ st2 b hb;exact absurd (zh e) (by rw[z];exact wx _)
 have f3:∀b∈fp,gq X pins (upd H2 s2.heap.objs.size (.lst [])) b:=λb hb=>⟨by rw[ak (fpD b hb)];exact(f2 b hb).1,(f2 b hb).2⟩
 have lt3:∀b∈fp,b<(s2.heap.push { cls:=.type "list",dict:=none,data:=.seq ([]:List za).toArray }).objs.size:=λb hb=>by
  obtain⟨o,e,_⟩:=T.obj 0 _ st2 b hb;rw[wa];exact Nat.lt_succ_of_lt (zh e)
 have st3:tn' 0 (s2.heap.push { cls:=.type "list",dict:=none,data:=.seq ([]:List za).toArray }):=T.keep _ _ _ st2 λb hb o e=>ze _ e;have gr3:Grow G H G1 (upd H2 s2.heap.objs.size (.lst [])):=gr.trans (.lay _ gr.gh fr2);have nD:H s2.heap.objs.size=none:=gr.hh.free fr2;have gD:G1 s2.heap.objs.size=none:=gr.gh.free fr2;exact kI n0 nm ns (s3:={ s2 with heap:=s2.heap.push { cls:=.type "list",dict:=none,data:=.seq ([]:List za).toArray } }) hc S ng hg ht he I3 E hz er after T itd f3 lt3 st3 gr3 aj nD gD hns₁ λb o e=>hsb₁.extBut b o (zC (zh e)) (ze _ e)
omit n0 nm ns
theorem mx{pins:List (Addr×Obj)}{σ:L2.St}{H':Hp}{s':zd}{C:Addr}{oC:Obj}{h':Heap}(IX:Inv X (pins++[(C,oC)]) σ H' s')(hC:X.s₀.heap.objs.size<=C)(pC:∀p∈X.pn++pins,p.1≠C)(hs:wZ C s'.heap h') :
  Inv X pins σ H' { s' with heap:=h' }:=by
 obtain⟨q1,q2,q3,q4,q5⟩:=IX.pin (C,oC) (zw _ (zw _ (xW.mpr rfl)));refine IX.unpinned.turned (t':=s'.toks) (it:=C) (λb o hb e=>hs.extBut b o hb e) q2 q3 (.inr hC) (λx c e z=>?_) pC;obtain⟨v,w⟩:=IX.cell x c e;rw[z] at w;obtain⟨o,w1,w2⟩:=id w;rw[q1] at w1;cases w1;exact q5 _ w2
def eLC(fi:Ev->Option (List D))(n:Nat)(ix:List Nat)(g:D->Ev->Option Ev)(ft:Ev->Option Bool)(fe:Ev->Option D):Ev->Option (List D):=λε=>(fi ε).bind λds=>if ds.length<1000000 then lcD g ft fe ds (prE n ix ε) else none
include n0 nm ns in
theorem tF(hc:X.calm=true)(hi:DI X tg iter fi)(S:CompSc X sc cl tn fr ix)(ng:NoG g)
  (hg:∀C s₃ H₃ fp pins,DG (cxC X sc cl (tn++fr) C s₃ H₃ fp pins) tg g) (ht:∀C s₃ H₃ fp pins,DIf (cxC X sc cl (tn++fr) C s₃ H₃ fp pins) ifs ft) (he:∀C s₃ H₃ fp pins,DEp Nv (cxC X sc cl (tn++fr) C s₃ H₃ fp pins) elt fe)
  (hs:∀x,xE iter X.env x=pure x:=by intro _;rfl):∃t,PE X (.ListComp elt [⟨tg,iter,ifs,0⟩] sc pos) t/\∀(He G H:Hp) (σ:L2.St) (ε:Ev) (ds:List D) (Q:VK),au G H->EnvD X.K He G H σ ε->eLC fi tn.length ix g ft fe ε=some ds->
   (∀a xs G' H',Grow G H G' H'->H a=none->G' a=none->H' a=some (.lst xs)->DenL X.K G' xs ds->Nl H G' xs->Q (.ref a) H')->t σ H Q:=by
 refine⟨λσ H Q=>∃He G ε rs,au G H/\EnvD X.K He G H σ ε/\eLC fi tn.length ix g ft fe ε=some rs/\∀a xs G' H',Grow G H G' H'->H a=none->G' a=none->H' a=some (.lst xs)->DenL X.K G' xs rs->Nl H G' xs->Q (.ref a) H',λpins s σ H Q I hq=>?_,
  λHe G H σ ε ds Q gh E ef q=>⟨He,G,ε,ds,gh,E,ef,q⟩⟩
 obtain⟨He,G,ε,rs,gh,E,ef,q⟩:=hq;obtain⟨ds,ei,ef⟩:=ai ef;split at ef
 ·rename_i hz
  rw[eval_ListComp];refine wpAny_comprehension_free (use:=none) rfl hs S.clos S.kind S.names (qL n0 nm ns (RR:=λacc C=>compPost (zg X.prog X.w) X.A X.xe none (EP X pins σ Q) acc C) hc hi S ng hg ht he I gh E ei hz ef ?_);intro a xs G' H' C oC m s' IX hNs hC pC gr hn gn ha hd nv;exact⟨m,hNs,λh' hs'=>⟨.ref a,H',mx IX hC pC hs',rfl,q a xs G' H' gr hn gn ha hd nv⟩⟩
 ·cases ef
theorem rC(hc:X.calm=true)(hi:DI X tg iter fi)(S:CompSc X sc cl tn fr ix)(ng:NoG g)
  (hg:∀C s₃ H₃ fp pins,DG (cxC X sc cl (tn++fr) C s₃ H₃ fp pins) tg g) (ht:∀C s₃ H₃ fp pins,DIf (cxC X sc cl (tn++fr) C s₃ H₃ fp pins) ifs ft) (he:∀C s₃ H₃ fp pins,DE (cxC X sc cl (tn++fr) C s₃ H₃ fp pins) elt fe)
  (hs:∀x,xE iter X.env x=pure x:=by intro _;rfl):DF X (.ListComp elt [⟨tg,iter,ifs,0⟩] sc pos) (eLC fi tn.length ix g ft fe):=
 let⟨t,h1,h2⟩:=tF (Nv:=λ_ _ _=>True) (Nl:=λ_ _ _=>True) (λ_ _=>trivial) (λ_ _ _ _ _ _=>trivial) (λ_ _ _ _ _ _ _ _ _ _ _=>trivial) hc hi S ng hg ht (λC s H f p=>(he C s H f p).p) hs
 ⟨t,h1,λHe G H σ ε ds Q gh E ef q=>h2 He G H σ ε ds Q gh E ef λa xs G' H' g n1 n2 h3 d3 _=>q a xs G' H' g n1 n2 h3 d3⟩
end
section
variable{X:Cx}{a b c:Expr}{fa fb fc:Ev->Option D}{pos:Pos}
theorem DenL.nil_iff{K:zb}{G:Hp}{xs:List V}{ds:List D}(h:DenL K G xs ds):xs=[]↔ds=[]:=by cases h<;>simp
end
namespace CatI
def tG:D->D->Option D:=λx y=>match x,y with | .tup (x0::xs),.tup (y0::ys)=>if xs.length+ys.length<=1000 then some (.tup (x0::xs++y0::ys)) else none | _,_=>none
end CatI
section
variable{X:Cx}{a b c:Expr}{fa fb fc:Ev->Option D}{pos:Pos}
theorem tV:OpD X (v7 .Add) CatI.tG:=⟨_,qz,λG H x y dx dy d Q gh hx hy e q=>by
 unfold CatI.tG at e;split at e
 ·split at e
  ·rename_i hz
   cases e;obtain⟨p,xs,rfl,h0,h1,h2⟩:=hx.tup gh;obtain⟨p',ys,rfl,h3,h4,h5⟩:=hy.tup gh;have n1:xs≠[]:=λz=>by have:=h2.nil_iff.mp z;cases this
   have n2:ys≠[]:=λz=>by have:=h5.nil_iff.mp z;cases this
   refine⟨p,p',xs,ys,rfl,rfl,h1,h4,n1,?_,λz=>absurd z n2,λ_ l hl=>?_⟩
   ·rw[h2.length,h5.length]
    simp only[zK];exact zO (Nat.add_le_add (zp _) (zp _)) (le_line2 hz)
   ·have g:=Grow.new (.tup (xs++ys)) gh hl
    exact q _ _ _ g (.tup (SqT.of aj) ((h2.append h5).mono g.gg))
  ·cases e
 ·cases e⟩
where
 le_line2 {m n:Nat} (h:m+n<=1000):m+1+(n+1)<=zt:=zO (by lia:m+1+(n+1)<=2000) (by decide)
def vU(i j:Nat)(g:Ev->Option (List D)):Ev->Option Fl:=λε=>match g ε with | some [x,y]=>some (.nx ((ε.set i (.dat x)).set j (.dat y))) | _=>none
end
section
variable{prog:zv}{w:zA}{Ar:zD}{Ex:za->zd->Prop}
theorem mW{I L:Addr}{xs:Array za}(apart:L≠I):∀(k i:Nat) (t:zd) (Q:List za->zd->Prop) (_:t.heap.IsListIter I L i) (_:t.heap.IsList L xs) (_:i+k<=xs.size)
  (_:∀g,g.IsListIter I L (i+k)->wZ I t.heap g->Q ((xs.toList.drop i).take k) { t with heap:=g }),zf (zg prog w) Ar (draw (.ref I) k) Q Ex t:=by
 intro k
 induction k with
 |zero=>intro i t Q itr ls room want;exact zi (want t.heap itr (Heap.SameBut.refl ..))
 |succ k ih=>
  intro i t Q itr ls room want;have there:i<xs.size:=zx (Nat.lt_add_of_pos_right (Nat.succ_pos k)) room;refine zc (m:=pyNext (.ref I)) (wpAny_pyNext_list_item itr ls (x:=xs[i]) (by simp[there]) λg1 itr1 same1=>?_);refine zc (v9 (ih (i+1) _ _ itr1 (ls.extBut same1.extBut apart) (by lia) λg2 itr2 same2=>zi ?_))
  have e:(xs.toList.drop i).take (k+1)=xs[i]::(xs.toList.drop (i+1)).take k:=by
   rw[List.drop_eq_getElem_cons (by simpa using there),List.take_succ_cons];simp
  have c:i+(k+1)=i+1+k:=by lia
  have fin:=want g2 (c▸itr2) (same1.trans same2);rw[e] at fin;exact fin
theorem gP{t:zd}{L:Addr}{xs:Array za}{Q:List za->zd->Prop}(hh:Ar.handled=none)(ls:t.heap.IsList L xs)
  (want:∀g,Heap.ExtBut t.heap.objs.size t.heap g->Q xs.toList { t with heap:=g }):zf (zg prog w) Ar (unpackItems (.ref L) xs.size none) Q Ex t:=by
 have apart:L≠t.heap.objs.size:=let⟨_,there,_⟩:=ls;zC (zh there);unfold unpackItems notIterableAtAll;refine zc (zc (wpAny_specialOf ls.typeIs slot_list_iter.lookup (zi ?_)));rw[if_neg zm];refine zc (v9 (wpAny_pyIter_list ls ?_));refine zc (v9 (mW apart xs.size 0 _ _ ⟨_,zr _ rfl,rfl,rfl⟩ (ls.push _) (Nat.le_of_eq (Nat.zero_add _)) λg1 itr1 same1=>?_));rw[List.drop_zero,List.take_of_length_le (Nat.le_of_eq (by simp)),if_neg (by simp)];refine zc (v9 (wpAny_pyNext_list_end hh itr1 ((ls.push _).extBut same1.extBut apart) (by simp) λg2 ext2=>?_));exact(if_neg (show ¬ (none:Option za).isSome=true by simp)).symm▸zi (want g2 λb o away e=>ext2 b o away (same1.extBut b o away (ze _ e)))
theorem fQ{t:zd}{ev:Env}{es:List Expr}{x1}{pos:Pos}{L:Addr}{xs:Array za}{Q:Unit->zd->Prop}(hh:Ar.handled=none)(ls:t.heap.IsList L xs)
  (many:(zZ es ev).length=xs.size) (nostar:(zZ es ev).findIdx? (·.1)=none)
  (rest:∀g,Heap.ExtBut t.heap.objs.size t.heap g->zf (zg prog w) Ar (assignInOrder ((zZ es ev).map (·.2)) xs.toList) Q Ex { t with heap:=g }):zf (zg prog w) Ar (assign (.Tuple es x1 pos) ev (.ref L)) Q Ex t:=by
 rw[assign_Tuple];refine zc (wpAny_standAt ?_);unfold unpack;rw[many,nostar];exact zc (v9 (gP hh ls rest))
end
section
variable{X:Cx}{pos:Pos}
theorem p9{es:List Expr}{k:Nat}{t:TGs}{n:Nat}(hc:X.calm=true)(h:PGs X es t)
  (hn:(zZ es X.env).length=n:=by rfl) (hst:(zZ es X.env).findIdx? (·.1)=none:=by rfl):PG X (.Tuple es k pos) (λv σ H Q=>∃a xs,v=.ref a/\SqL X.K H a xs/\xs.length=n/\t xs σ H Q):=by
 intro pins s σ H v u Q I r hw;obtain⟨a,xs,e1,hq,hl,hw⟩:=hw;subst e1;cases r;obtain⟨its,rv,ht,hz⟩:=I.list hq;refine fQ (I.ok.hd hc) ht.isList (by simp[hn,<-hl,rv.length]) hst λh' hx=>?_;have I1:Inv X pins σ H { s with heap:=h' }:=I.kept (t':=s.toks) λb o e=>hx b o (zC (zh e)) e;exact h pins _ σ H xs _ Q I1 (by simpa using rv) hw
def j7(n:Nat)(g:List D->Ev->Option Ev):D->Ev->Option Ev:=λd ε=>match d with | .tup ds=>if ds.length=n then g ds ε else none | .lst ds=>if ds.length=n then g ds ε else none | _=>none
theorem uI{tg:Expr}{t t':TG}(h:PG X tg t)(h':PG X tg t'):PG X tg (λv σ H Q=>t v σ H Q\/t' v σ H Q):=by
 intro pins s σ H v u Q I r hw;rcases hw with hw | hw
 ·exact h pins s σ H v u Q I r hw
 ·exact h' pins s σ H v u Q I r hw
theorem oj{es:List Expr}{k:Nat}{g:List D->Ev->Option Ev}{n:Nat}(hc:X.calm=true)(h:DGs X es g)(hn:(zZ es X.env).length=n:=by rfl)(hst:(zZ es X.env).findIdx? (·.1)=none:=by rfl):DG X (.Tuple es k pos) (j7 n g):=by
 obtain⟨t,a1,a2⟩:=h;refine⟨_,uI (pO hc a1 hn hst) (p9 hc a1 hn hst),λHe G H σ ε ε' v d Q gh E hd e q=>?_⟩;unfold j7 at e;split at e
 ·split at e
  ·rename_i hl
   obtain⟨p,xs,rfl,h1,h2⟩:=hd.tupV;exact .inl ⟨p,xs,rfl,aE gh h1,by rw[h2.length];exact hl,a2 He G H σ ε ε' _ _ _ gh E h2 e q⟩
  ·cases e
 ·split at e
  ·rename_i hl
   obtain⟨p,xs,rfl,h1,h2⟩:=hd.lstV;exact .inr ⟨p,xs,rfl,gh.seq h1,by rw[h2.length];exact hl,a2 He G H σ ε ε' _ _ _ gh E h2 e q⟩
  ·cases e
 ·cases e
end
def AtL(X:Cx):List Str->List Nat->Prop
 |[],[]=>True
 |x::fr,j::ix=>(X.N[j]?=some x/\X.env.scope.names.lookup x=some .cell)/\AtL X fr ix
 |_,_=>False
theorem AtL.len{X:Cx}:∀{fr:List Str} {ix:List Nat},AtL X fr ix->ix.length=fr.length
 |[],[],_=>rfl
 |_::_,_::_,h=>congrArg (· + 1) (AtL.len h.2)
 |[],_::_,h=>h.elim
 |_::_,[],h=>h.elim
theorem AtL.get{X:Cx}:∀{fr:List Str} {ix:List Nat} (k:Nat) (x:Str),AtL X fr ix->fr[k]?=some x->∃j,ix[k]?=some j/\X.N[j]?=some x/\X.env.scope.names.lookup x=some .cell
 |[],_,k,x,_,e=>by simp at e
 |_::_,[],_,_,h,_=>h.elim
 |y::fr,j::ix,0,x,h,e=>by simp at e;subst e;exact⟨j,rfl,h.1.1,h.1.2⟩
 |y::fr,j::ix,k+1,x,h,e=>by
  obtain⟨j',h1,h2⟩:=AtL.get k x h.2 (by simpa using e);exact⟨j',by simpa using h1,h2⟩
def pq(X:Cx):List (Str×Addr)->Prop
 |[]=>True
 |p::cl=>X.env.cells.lookup p.1=some p.2/\pq X cl
theorem pq.mem{X:Cx}:∀{cl:List (Str×Addr)},pq X cl->∀p∈cl,X.env.cells.lookup p.1=some p.2
 |[],_,_,h=>by cases h
 |q::cl,h,p,hp=>by
  rcases zq.mp hp with z | z
  ·rw[z];exact h.1
  ·exact pq.mem h.2 p z
theorem eg{cl:List (Str×Addr)}{x:Str}(h:(cl.map (·.1)).contains x=true):∃c,cl.lookup x=some c:=by
 induction cl with
 |nil=>simp at h
 |cons p cl ih=>
  rw[xw,zS] at h;obtain⟨y,c0⟩:=p;cases e:(x==y) with
  |true=>exact⟨c0,by unfold wy;rw[e]⟩
  |false=>
   have h':(x==y || (cl.map (·.1)).contains x)=true:=h;rw[e,Bool.false_or] at h';obtain⟨c,hc⟩:=ih h';exact⟨c,by unfold wy;rw[e];exact hc⟩
theorem jK{X:Cx}{sc:Scope}{cl:List (Str×Addr)}{tn fr:List Str}{ix:List Nat}(clos:closureFor sc X.env=pure cl)(hat:AtL X fr ix)(sub:pq X cl)
  (kind:sc.kind=.function) (nc:(sc.names.all λy=>!(y.2 == .cell))=true)
  (nm:(sc.names.all λy=>!(y.2 == .local) || (sc.names.lookup y.1==some .local))=true)
  (hs:((relabel sc X.env).names.all λy=>!(y.2 == .cell || y.2 == .free) || (cl.map (·.1)).contains y.1)=true)
  (fc:(fr.all λx=>(relabel sc X.env).names.lookup x==some .cell)=true):CompSc X sc cl tn fr ix where
 kind:=kind
 nocell:=λy hy e=>by
  have:=xN.mp nc y hy;rw[e] at this;exact absurd this (by decide)
 names:=λy hy e=>by
  have:=xN.mp nm y hy;rw[e] at this;exact eq_of_beq this
 clos:=clos
 len:=hat.len
 at_:=λk x e=>hat.get k x e
 sub:=λx c e=>sub.mem _ (we e)
 has:=λx h=>by
  rcases h with h | h
  ·have:=xN.mp hs _ (we h)
   exact eg this
  ·have:=xN.mp hs _ (we h)
   exact eg this
 frc:=λx hx=>eq_of_beq (xN.mp fc x hx)
theorem tu{fi:Ev->Option (List D)}{n:Nat}{ix:List Nat}{g:D->Ev->Option Ev}{ft:Ev->Option Bool}{fe:Ev->Option D}{ε:Ev}{ds:List D}(h:fi ε=some ds)(hl:ds.length<1000000):eLC fi n ix g ft fe ε=lcD g ft fe ds (prE n ix ε):=by
 unfold eLC;rw[h];show(if ds.length<1000000 then _ else none)=_;rw[if_pos hl]
def gN(f:D->D->Option Bool):List D->List D->Option Bool
 |x::xs,y::ys=>(f x y).bind λa=>(gN f xs ys).bind λb=>some (a&&b)
 |_,_=>some true
def bV:Nat->D->D->Option Bool
 |0,x,y=>eqS x y
 |n+1,x,y=>match x,y with
  |.tup xs,.tup ys=>(gN (bV n) xs ys).map λb=>b&&xs.length==ys.length
  |.lst xs,.lst ys=>if xs.length=ys.length then gN (bV n) xs ys else some false
  |x,y=>eqS x y
def df(f:D->D->Option Bool)(xs ys:List D)(j:Nat):Bool:=match xs[j]?,ys[j]? with
 |some x,some y=>(f x y).getD false
 |_,_=>false
theorem bS{f:D->D->Option Bool}:∀{xs ys:List D} {b:Bool},gN f xs ys=some b->b=(vX (min xs.length ys.length)).all (df f xs ys)/\∀j x y,xs[j]?=some x->ys[j]?=some y->f x y=some (df f xs ys j)
 |[],ys,b,e=>by cases e;exact⟨by simp,λj x y h _=>by simp at h⟩
 |x::xs,[],b,e=>by cases e;exact⟨by simp,λj x y _ h=>by simp at h⟩
 |x::xs,y::ys,b,e=>by
  obtain⟨a,e1,e⟩:=ai e;obtain⟨c,e2,e⟩:=ai e;cases e;obtain⟨h1,h2⟩:=bS e2;have sh:∀j,df f (x::xs) (y::ys) (j+1)=df f xs ys j:=λj=>by unfold df;simp
  have s0:df f (x::xs) (y::ys) 0=a:=by unfold df;simp[e1]
  refine⟨?_,λj u v hu hv=>?_⟩
  ·have hm:min (x::xs).length (y::ys).length=min xs.length ys.length+1:=by simp only[zK];lia
   rw[hm,List.range_succ_eq_map,xP,s0,List.all_map,h1];congr 1
  ·cases j with
   |zero=>simp at hu hv;subst hu hv;rw[s0,e1]
   |succ j=>rw[sh];exact h2 j u v (by simpa using hu) (by simpa using hv)
theorem eH{d:D}{b:Bool}(h:eqS d d=some b):b=true:=by
 cases d<;>simp[eqS] at h<;>first | exact h | exact h.symm
theorem gy{f:D->D->Option Bool}(hf:∀d b,f d d=some b->b=true):∀{ds:List D} {b:Bool},gN f ds ds=some b->b=true
 |[],b,e=>by cases e;rfl
 |d::ds,b,e=>by
  obtain⟨a,e1,e⟩:=ai e;obtain⟨c,e2,e⟩:=ai e;cases e;rw[hf d a e1,gy hf e2];rfl
theorem eX:∀(n:Nat) (d:D) (b:Bool),bV n d d=some b->b=true
 |0,d,b,e=>eH e
 |n+1,.tup xs,b,e=>by
  obtain⟨c,e1,rfl⟩:=aX e;rw[gy (eX n) e1];simp
 |n+1,.lst xs,b,e=>by
  have e':(if xs.length=xs.length then gN (bV n) xs xs else some false)=some b:=e;rw[if_pos rfl] at e';exact gy (eX n) e'
 |n+1,.non,b,e=>eH (d:=.non) e
 |n+1,.bl k,b,e=>eH (d:=.bl k) e
 |n+1,.int k,b,e=>eH (d:=.int k) e
 |n+1,.str k,b,e=>eH (d:=.str k) e
section
variable{X:Cx}{pins:List (Addr×Obj)}{σ:L2.St}{G H:Hp}{s:zd}
theorem ki(I:Inv X pins σ H s){a:Addr}{xs ys:List V}(h1:SqT X.K H a xs)(h2:SqL X.K H a ys):False:=by
 obtain⟨its,_,⟨o,e1,c1,_⟩,_⟩:=I.tuple h1;obtain⟨its2,_,⟨o2,n,e2,c2,_⟩,_⟩:=I.list h2;rw[e1] at e2;cases e2;rw[c1] at c2;exact absurd (Value.type.inj c2) (by decide)
theorem nX{x y:V}{u:za}(hx:L2.aN x u)(hy:L2.aN y u):x=y:=by
 cases x<;>cases y<;>simp only[L2.aN] at hx hy<;>first | rfl | (subst hx;cases hy;done) | (subst hx;cases hy;rfl) | (obtain⟨t,rfl⟩:=hx;obtain⟨t',e⟩:=hy;cases e;first | rfl | done) | (obtain⟨t,rfl⟩:=hx;cases hy) | (subst hx;obtain⟨t',e⟩:=hy;cases e)
theorem ij(I:Inv X pins σ H s)(gh:au G H){a:Addr}{us:jA}{ep:Nat}(h:G a=some (.ext (DAt a us ep))):DAt a us ep s.heap:=(show bu X.prog X.w H s.heap a (.ext (DAt a us ep)) from I.hok a _ (gh _ _ h)).1
theorem i5(I:Inv X pins σ H s)(gh:au G H){a:Addr}{xs:List V}{us:jA}{ep:Nat}(h1:SqT X.K H a xs)(h:G a=some (.ext (DAt a us ep))):False:=by
 obtain⟨its,_,⟨o,e1,c1,_⟩,_⟩:=I.tuple h1;obtain⟨_,_,o2,raw,e2,⟨c2,_⟩,_⟩:=ij I gh h;rw[e1] at e2;cases e2;rw[c1] at c2;exact absurd (Value.type.inj c2) (by decide)
theorem i9(I:Inv X pins σ H s)(gh:au G H){a:Addr}{xs:List V}{us:jA}{ep:Nat}(h1:SqL X.K H a xs)(h:G a=some (.ext (DAt a us ep))):False:=by
 obtain⟨its,_,⟨o,n,e1,c1,_⟩,_⟩:=I.list h1;obtain⟨_,_,o2,raw,e2,⟨c2,_⟩,_⟩:=ij I gh h;rw[e1] at e2;cases e2;rw[c1] at c2;exact absurd (Value.type.inj c2) (by decide)
theorem hV:∀{k k':List Int},k.map V.int=k'.map V.int->k=k'
 |[],[],_=>rfl
 |[],_::_,e=>by cases e
 |_::_,[],e=>by cases e
 |a::k,b::k',e=>by
  rw[xw,xw] at e;injection e with e1 e2
  cases e1;rw[hV e2]
theorem nH(I:Inv X pins σ H s)(gh:au G H):∀{raw:List DictEntry} {us vs:jA} {es fs:List (List Int×D)},DenM X.K G us es->DenM X.K G vs fs->Paired EntOk us raw->Paired EntOk vs raw->us=vs:=by
 intro raw
 induction raw with
 |nil=>intro us vs es fs _ _ p p';cases p;cases p';rfl
 |cons r rs ih=>
  intro us vs es fs m m' p p';cases p with
  |cons q qs=>
   cases p' with
   |cons q' qs'=>
    cases m with
    |cons hk hv hs=>
     cases m' with
     |cons hk' hv' hs'=>
      have e0:=q.key.symm.trans q'.key;injection e0 with e0
      simp only at e0;subst e0;have ek:=hV (I.tuple_inj (aE gh hk) (aE gh hk'));subst ek;have ev:=nX q.val q'.val;simp only at ev;subst ev;rw[ih hs hs' qs qs']
theorem DenL.uniq(I:Inv X pins σ H s)(gh:au G H){vs:List V}{ds es:List D}(h:DenL X.K G vs ds):DenL X.K G vs es->ds=es:=by
 refine DenL.rec (motive_1:=λv d _=>∀e,Den X.K G v e->d=e) (motive_2:=λu d _=>∀e,DenM X.K G u e->d=e) (motive_3:=λv d _=>∀e,DenL X.K G v e->d=e) ?_ ?_ ?_ ?_ ?_ ?_ ?_ ?_ ?_ ?_ ?_ h es
 ·intro e w;cases w;rfl
 ·intro b e w;cases w;rfl
 ·intro b e w;cases w;rfl
 ·intro b e w;cases w;rfl
 ·intro a xs ds h _ y e w
  cases w with
  |tup h' hs'=>
   have:=I.tuple_inj (aE gh h) (aE gh h');subst this;rw[y _ hs']
  |lst h' _=>exact(ki I (aE gh h) (gh.seq h'.sq)).elim
  |dic h' _ _=>exact(i5 I gh (aE gh h) h').elim
 ·intro a xs ds h _ y e w
  cases w with
  |lst h' hs'=>
   have:=I.list_inj (gh.seq h.sq) (gh.seq h'.sq);subst this;rw[y _ hs']
  |tup h' _=>exact(ki I (aE gh h') (gh.seq h.sq)).elim
  |dic h' _ _=>exact(i9 I gh (gh.seq h.sq) h').elim
 ·intro a us ep es h nd hs y e w
  cases w with
  |tup h' _=>exact(i5 I gh (aE gh h') h).elim
  |lst h' _=>exact(i9 I gh (gh.seq h'.sq) h).elim
  |dic h' nd' hs'=>
   obtain⟨_,_,o,raw,e,_,e1,p⟩:=ij I gh h;obtain⟨_,_,o',raw',e',_,e1',p'⟩:=ij I gh h';rw[e] at e';cases e';rw[e1] at e1';cases e1';have z:=nH I gh hs hs' p p';subst z;rw[y _ hs']
 ·intro e w;cases w;rfl
 ·intro k b v d us es _ _ _ y z e w
  cases w with
  |cons _ h' hs'=>rw[y _ h',z _ hs']
 ·intro e w;cases w;rfl
 ·intro v d vs ds _ _ y z e w
  cases w with
  |cons h' hs'=>rw[y _ h',z _ hs']
theorem ke{K:zb}{G:Hp}{x y:V}{dx dy:D}{b:Bool}(hx:Den K G x dx)(hy:Den K G y dy)(e:eqS dx dy=some b):ee x=true/\ee y=true/\eqV x y=b:=by
 cases hx<;>cases hy<;>simp[eqS] at e<;>subst e<;>refine⟨rfl,rfl,?_⟩<;>first | rfl | (simp[eqV];done) | (rw[xC];simp[eqV])
theorem cU{x y:V}{xs ys:List V}{ds es:List D}{its its2:List za}{n:Nat}{A:zD}(hs:DenL X.K G xs ds)(hs':DenL X.K G ys es)(r:aL xs its)(r2:aL ys its2)
  (step:∀{dx dy:D} {x y:V} {v u:za} {b:Bool},Den X.K G x dx->Den X.K G y dy->aN x v->aN y u->bV n dx dy=some b->SeqAt.EqAt A s v u b)
  (pr:∀j x y,ds[j]?=some x->es[j]?=some y->bV n x y=some (df (bV n) ds es j)) :
  ∀j (h1:j<its.toArray.size) (h2:j<its2.toArray.size),SeqAt.EqAt A s its.toArray[j] its2.toArray[j] (df (bV n) ds es j):=by
 intro j h1 h2;have l1:=r.length;have l2:=r2.length;have h1':j<its.length:=by simpa using h1
 have h2':j<its2.length:=by simpa using h2
 have hx:xs[j]?=some xs[j]:=by simp[show j<xs.length by lia]
 have hy:ys[j]?=some ys[j]:=by simp[show j<ys.length by lia]
 obtain⟨dx,e1,d1⟩:=hs.getV hx;obtain⟨dy,e2,d2⟩:=hs'.getV hy;obtain⟨v,e3,r3⟩:=r.get hx;obtain⟨u,e4,r4⟩:=r2.get hy
 have ev:its.toArray[j]=v:=by
  have:=(zB.mp e3).2;simpa using this
 have eu:its2.toArray[j]=u:=by
  have:=(zB.mp e4).2;simpa using this
 rw[ev,eu];exact step d1 d2 r3 r4 (pr j dx dy e1 e2)
theorem kr(I:Inv X pins σ H s)(gh:au G H):∀(n:Nat) (A:zD),A.units+n<cLine->∀{dx dy:D} {x y:V} {v u:za} {b:Bool},Den X.K G x dx->Den X.K G y dy->aN x v->aN y u->bV n dx dy=some b->SeqAt.EqAt A s v u b:=by
 intro n
 induction n with
 |zero=>
  intro A hu dx dy x y v u b hx hy rx ry e;obtain⟨f1,f2,e1⟩:=ke hx hy e;rw[<-e1];exact lj rx ry f1 f2
 |succ n ih=>
  intro A hu dx dy x y v u b hx hy rx ry e;have hu1:A.in1.units+n<cLine:=by show A.units+1+n<cLine;lia
  have step:=λ{dx dy:D} {x y:V} {v u:za} {b:Bool}=>ih A.in1 hu1 (dx:=dx) (dy:=dy) (x:=x) (y:=y) (v:=v) (u:=u) (b:=b)
  have flat:∀{b},eqS dx dy=some b->SeqAt.EqAt A s v u b:=λ{b} e=>by
   obtain⟨f1,f2,e1⟩:=ke hx hy e;rw[<-e1];exact lj rx ry f1 f2
  cases hx with
  |@tup a xs ds h hs=>
   cases hy with
   |@tup a' ys es h' hs'=>
    cases(show v=zk a from rx);cases(show u=zk a' from ry)
    by_cases z:a=a'
    ·subst z
     have:=I.tuple_inj (aE gh h) (aE gh h');subst this;have:=DenL.uniq I gh hs hs';subst this;rw[eX _ _ _ e];exact SeqAt.EqAt.same _
    ·obtain⟨c,e1,rfl⟩:=aX e
     obtain⟨q1,q2⟩:=bS e1;obtain⟨its,r,p1,_⟩:=I.tuple (aE gh h);obtain⟨its2,r2,p2,_⟩:=I.tuple (aE gh h');have l1:its.toArray.size=ds.length:=by simp[<-r.length,hs.length]
     have l2:its2.toArray.size=es.length:=by simp[<-r2.length,hs'.length]
     refine SeqAt.EqAt.of_refs z ?_;have:=SeqAt.RcAt.tuples (e:=df (bV n) ds es) p1 p2 (by lia) (cU (x:=.non) (y:=.non) hs hs' r r2 step q2);rw[l1,l2,<-q1] at this;exact this
   |lst h' hs'=>exact flat e
   |dic _ _ _=>exact flat e
   |non=>exact flat e
   |bl _=>exact flat e
   |int _=>exact flat e
   |str _=>exact flat e
  |@lst a xs ds h hs=>
   cases hy with
   |@lst a' ys es h' hs'=>
    cases(show v=zk a from rx);cases(show u=zk a' from ry)
    by_cases z:a=a'
    ·subst z
     have:=I.list_inj (gh.seq h.sq) (gh.seq h'.sq);subst this;have:=DenL.uniq I gh hs hs';subst this;rw[eX _ _ _ e];exact SeqAt.EqAt.same _
    ·have e':(if ds.length=es.length then gN (bV n) ds es else some false)=some b:=e
     obtain⟨its,r,p1,_⟩:=I.list (gh.seq h.sq);obtain⟨its2,r2,p2,_⟩:=I.list (gh.seq h'.sq);have l1:its.toArray.size=ds.length:=by simp[<-r.length,hs.length]
     have l2:its2.toArray.size=es.length:=by simp[<-r2.length,hs'.length]
     refine SeqAt.EqAt.of_refs z ?_
     by_cases hl:ds.length=es.length
     ·rw[if_pos hl] at e'
      obtain⟨q1,q2⟩:=bS e';have:=SeqAt.RcAt.lists (e:=df (bV n) ds es) p1.isList p2.isList (by rw[l1,l2,hl]) (by lia) (cU (x:=.non) (y:=.non) hs hs' r r2 step q2);rw[l1] at this;rw[<-hl,Nat.min_self] at q1;rw[q1];exact this
     ·rw[if_neg hl] at e'
      cases e';exact SeqAt.RcAt.lists_lengths p1.isList p2.isList (by rw[l1,l2];simpa using hl) (by lia)
   |tup h' hs'=>exact flat e
   |dic _ _ _=>exact flat e
   |non=>exact flat e
   |bl _=>exact flat e
   |int _=>exact flat e
   |str _=>exact flat e
  |dic _ _ _=>cases hy<;>exact flat e
  |non=>cases hy<;>exact flat e
  |bl _=>cases hy<;>exact flat e
  |int _=>cases hy<;>exact flat e
  |str _=>cases hy<;>exact flat e
end
section
variable{X:Cx}
def uw(K:zb)(neg:Bool):R2:=λx y H Q=>∃G dx dy b,au G H/\bG K G H x dx/\bG K G H y dy/\bV 9 dx dy=some b/\Q (.bl (if neg then !b else b)) H
theorem sE(hu:X.A.units+64<cLine):OpR X (zN .Eq) (uw X.K false):=by
 intro pins s σ H x y v u Q I rx ry h;obtain⟨G,dx,dy,b,gh,hx,hy,e,q⟩:=h;have step:=λ{dx dy:D} {x y:V} {v u:za} {b:Bool}=>kr I gh 8 X.A.in1 (by show X.A.units+1+8<cLine;lia) (dx:=dx) (dy:=dy) (x:=x) (y:=y) (v:=v) (u:=u) (b:=b);have fin:∀{k:Bool},k=b->EP X pins σ Q (.bool k) s:=λ{k} z=>⟨.bl k,H,I,rfl,by rw[z];exact q⟩
 have scl:eqS dx dy=some b->zf (zg X.prog X.w) X.A (zN .Eq v u) (EP X pins σ Q) X.xe s:=λe=>by
  obtain⟨h1,h2⟩:=j4 hx hy e;exact uU pins s σ H x y v u Q I rx ry ⟨h1,by rw[h2];exact q⟩
 cases dx with
 |tup ds=>
  cases dy with
  |tup es=>
   obtain⟨a,xs,rfl,_,h1,h2⟩:=hx.tup gh;obtain⟨a',ys,rfl,_,h3,h4⟩:=hy.tup gh;cases rx;cases ry;obtain⟨c,e1,e2⟩:=aX e;obtain⟨q1,q2⟩:=bS e1;obtain⟨its,r,p1,_⟩:=I.tuple h1;obtain⟨its2,r2,p2,_⟩:=I.tuple h3;have l1:its.toArray.size=ds.length:=by simp[<-r.length,h2.length]
   have l2:its2.toArray.size=es.length:=by simp[<-r2.length,h4.length]
   refine SeqAt.RcAt.tuples (e:=df (bV 8) ds es) p1 p2 (by lia) (cU (x:=.non) (y:=.non) h2 h4 r r2 step q2) X.prog X.w X.xe _ (fin ?_);rw[l1,l2,<-q1];exact e2
  |_=>exact scl e
 |lst ds=>
  cases dy with
  |lst es=>
   obtain⟨a,xs,rfl,h1,h2⟩:=hx.lst gh;obtain⟨a',ys,rfl,h3,h4⟩:=hy.lst gh;cases rx;cases ry;have e':(if ds.length=es.length then gN (bV 8) ds es else some false)=some b:=e;obtain⟨its,r,p1,_⟩:=I.list h1;obtain⟨its2,r2,p2,_⟩:=I.list h3;have l1:its.toArray.size=ds.length:=by simp[<-r.length,h2.length]
   have l2:its2.toArray.size=es.length:=by simp[<-r2.length,h4.length]
   by_cases hl:ds.length=es.length
   ·rw[if_pos hl] at e'
    obtain⟨q1,q2⟩:=bS e';refine SeqAt.RcAt.lists (e:=df (bV 8) ds es) p1.isList p2.isList (by rw[l1,l2,hl]) (by lia) (cU (x:=.non) (y:=.non) h2 h4 r r2 step q2) X.prog X.w X.xe _ (fin ?_);rw[l1];rw[<-hl,Nat.min_self] at q1;exact q1.symm
   ·rw[if_neg hl] at e'
    cases e';exact SeqAt.RcAt.lists_lengths p1.isList p2.isList (by rw[l1,l2];simpa using hl) (by lia) X.prog X.w X.xe _ (fin rfl)
  |_=>exact scl e
 |_=>cases dy<;>exact scl e
theorem rW(hu:X.A.units+64<cLine):OpR X (zN .NotEq) (uw X.K true):=by
 intro pins s σ H x y v u Q I rx ry h;obtain⟨G,dx,dy,b,gh,hx,hy,e,q⟩:=h;have step:=λ{dx dy:D} {x y:V} {v u:za} {b:Bool}=>kr I gh 8 X.A.in1 (by show X.A.units+1+8<cLine;lia) (dx:=dx) (dy:=dy) (x:=x) (y:=y) (v:=v) (u:=u) (b:=b);have fin:∀{k:Bool},k = !b->EP X pins σ Q (.bool k) s:=λ{k} z=>⟨.bl k,H,I,rfl,by rw[z];exact q⟩
 have scl:eqS dx dy=some b->zf (zg X.prog X.w) X.A (zN .NotEq v u) (EP X pins σ Q) X.xe s:=λe=>by
  obtain⟨h1,h2⟩:=j4 hx hy e;exact uH pins s σ H x y v u Q I rx ry ⟨h1,by rw[h2];exact q⟩
 cases dx with
 |tup ds=>
  cases dy with
  |tup es=>
   obtain⟨a,xs,rfl,_,h1,h2⟩:=hx.tup gh;obtain⟨a',ys,rfl,_,h3,h4⟩:=hy.tup gh;cases rx;cases ry;obtain⟨c,e1,e2⟩:=aX e;obtain⟨q1,q2⟩:=bS e1;obtain⟨its,r,p1,_⟩:=I.tuple h1;obtain⟨its2,r2,p2,_⟩:=I.tuple h3;have l1:its.toArray.size=ds.length:=by simp[<-r.length,h2.length]
   have l2:its2.toArray.size=es.length:=by simp[<-r2.length,h4.length]
   refine SeqAt.RcNeAt.tuples (e:=df (bV 8) ds es) p1 p2 (by lia) (cU (x:=.non) (y:=.non) h2 h4 r r2 step q2) X.prog X.w X.xe _ (fin ?_);rw[l1,l2,<-q1];exact congrArg not e2
  |_=>exact scl e
 |lst ds=>
  cases dy with
  |lst es=>
   obtain⟨a,xs,rfl,h1,h2⟩:=hx.lst gh;obtain⟨a',ys,rfl,h3,h4⟩:=hy.lst gh;cases rx;cases ry;have e':(if ds.length=es.length then gN (bV 8) ds es else some false)=some b:=e;obtain⟨its,r,p1,_⟩:=I.list h1;obtain⟨its2,r2,p2,_⟩:=I.list h3;have l1:its.toArray.size=ds.length:=by simp[<-r.length,h2.length]
   have l2:its2.toArray.size=es.length:=by simp[<-r2.length,h4.length]
   by_cases hl:ds.length=es.length
   ·rw[if_pos hl] at e'
    obtain⟨q1,q2⟩:=bS e';refine SeqAt.RcNeAt.lists (e:=df (bV 8) ds es) p1.isList p2.isList (by rw[l1,l2,hl]) (by lia) (cU (x:=.non) (y:=.non) h2 h4 r r2 step q2) X.prog X.w X.xe _ (fin ?_);rw[l1];rw[<-hl,Nat.min_self] at q1;rw[q1]
   ·rw[if_neg hl] at e'
    cases e';exact SeqAt.RcNeAt.lists_lengths p1.isList p2.isList (by rw[l1,l2];simpa using hl) (by lia) X.prog X.w X.xe _ (fin rfl)
  |_=>exact scl e
 |_=>cases dy<;>exact scl e
def gu:D->D->Option D:=λx y=>(bV 9 x y).map D.bl
def d6:D->D->Option D:=λx y=>(bV 9 x y).map λb=>D.bl (!b)
theorem iw{k:Nat}(hr:Room k X.A):OpD X (zN .Eq) gu:=⟨_,sE hr.units,λG H x y dx dy d Q gh hx hy e q=>by
 obtain⟨b,e1,rfl⟩:=aX e
 exact⟨G,dx,dy,b,gh,hx,hy,e1,q _ G H (.refl gh) (.bl _)⟩⟩
theorem du{k:Nat}(hr:Room k X.A):OpD X (zN .NotEq) d6:=⟨_,rW hr.units,λG H x y dx dy d Q gh hx hy e q=>by
 obtain⟨b,e1,rfl⟩:=aX e
 exact⟨G,dx,dy,b,gh,hx,hy,e1,q _ G H (.refl gh) (.bl _)⟩⟩
end
def hU:List D->Option (List Bool)
 |[]=>some []
 |.bl b::ds=>(hU ds).bind λr=>some (b::r)
 |_=>none
theorem mV{K:zb}{G:Hp}{xs:List V}{ds:List D}{ns:List Bool}(h:DenL K G xs ds):hU ds=some ns->xs=ns.map V.bl:=by
 refine DenL.ind (P:=λxs ds=>∀ns,hU ds=some ns->xs=ns.map V.bl) (λns e=>by cases e;rfl) (λ{x d xs ds} h _ y ns e=>?_) h ns;cases d with
 |bl i=>
  obtain⟨r,e1,e2⟩:=ai (show(hU ds).bind _=some ns from e);cases e2;rw[h.blV,y _ e1];rfl
 |_=>cases e
theorem kv:∀{bs:List Bool} {us:List za},aL (bs.map V.bl) us->us=bs.map xA
 |[],_,.nil=>rfl
 |b::bs,_,.cons r rs=>by rw[kv rs,show _=xA b from r];rfl
theorem jc:∀bs:List Bool,(vX bs.length).all (λi=>(bs[i]?).getD true)=bs.all id
 |[]=>rfl
 |b::bs=>by
  rw[zK,List.range_succ_eq_map,xP,List.all_map,xP,<-jc bs];rfl
section
variable{X:Cx}{a b c:Expr}{fa fb fc:Ev->Option D}{pos:Pos}
def jZ:List D->Option D
 |[.lst ds]=>(hU ds).bind λbs=>some (.bl (bs.all id))
 |_=>none
theorem sm(hc:X.calm=true):mL X (.builtin "all") jZ:=by
 refine⟨λxs H Q=>∃(l:Addr) (bs:List Bool),xs=[.ref l]/\SqL X.K H l (bs.map V.bl)/\Q (.bl (bs.all id)) H,λpins s σ H xs us Q I rv h=>?_,λG H vs ds d Q gh hd e q=>?_⟩
 ·obtain⟨l,bs,rfl,hq,q⟩:=h
  obtain⟨u,rfl,ru⟩:=rv.one;cases ru;obtain⟨its,rr,pl,hz⟩:=I.list hq;have ei:=kv rr;subst ei;have hl:=pl.isList;have lt:l<s.heap.objs.size:=let⟨_,there,_⟩:=hl;zh there;apply call_all_walk;apply wpAny_pyIter_list hl;refine⟨s.heap.objs.size,_,_,_,_,_,λi=>(bs[i]?).getD true,rfl,Walks.list (A:=X.A.in1) (I.ok.hd hc) _ l (zC lt) _,⟨⟨_,zr _ rfl,rfl,rfl⟩,hl.push _⟩,λi v t Q' E' hv hQ=>?_,λg tk kept=>?_⟩
  ·have hv':(bs.map xA)[i]?=some v:=by simpa using hv
   rw[zH] at hv';obtain⟨k,ek,rfl⟩:=aX hv';have hQ2:Q' k t:=by simpa[ek] using hQ
   exact wN hQ2
  ·refine⟨.bl (bs.all id),H,I.kept (t':=tk) λb o e=>kept b o (λz=>?_) (ze _ e),?_,q⟩
   ·rw[xW.mp z] at e
    exact absurd (zh e) (wx _)
   ·have hn:(bs.map xA).toArray.size=bs.length:=by simp
    rw[hn,jc];rfl
 ·unfold jZ at e
  split at e
  ·obtain⟨bs,eb,e⟩:=ai e
   cases e
   cases hd with | cons h1 h2=>
    cases h2;obtain⟨l,xs,rfl,h3,h4⟩:=h1.lstV;have:=mV h4 eb;subst this;exact⟨l,bs,rfl,gh.seq h3,q _ G H (.refl gh) (.bl _)⟩
  ·cases e
end
theorem nN{a b:Nat}(h:a≠b):@Ne Addr a b:=h
def SIt(t:Bool)(h:Heap)(it l:Addr)(i:Nat):Prop:=match t with | true=>h.IsTupleIter it l i | false=>h.IsListIter it l i
def SSq(t:Bool)(h:Heap)(l:Addr)(xs:Array za):Prop:=match t with | true=>h.IsTuple l xs | false=>h.IsList l xs
def SqB(t:Bool)(K:zb)(H:Hp)(l:Addr)(xs:List V):Prop:=match t with | true=>SqT K H l xs | false=>SqL K H l xs
theorem SIt.to{t:Bool}{h h':Heap}{it l:Addr}{i:Nat}(q:SIt t h it l i)(k:∀o,h.get? it=some o->h'.get? it=some o):SIt t h' it l i:=by
 cases t with
 |true=>exact let⟨o,e,r⟩:=q;⟨o,k o e,r⟩
 |false=>exact let⟨o,e,r⟩:=q;⟨o,k o e,r⟩
theorem SSq.to{t:Bool}{h h':Heap}{l:Addr}{xs:Array za}(q:SSq t h l xs)(k:∀o,h.get? l=some o->h'.get? l=some o):SSq t h' l xs:=by
 cases t with
 |true=>exact let⟨o,e,r⟩:=q;⟨o,k o e,r⟩
 |false=>exact let⟨o,e,r⟩:=q;⟨o,k o e,r⟩
theorem SIt.there{t:Bool}{h:Heap}{it l:Addr}{i:Nat}(q:SIt t h it l i):∃o,h.get? it=some o/\∀v,o.data≠.cell v:=by
 cases t with
 |true=>exact let⟨o,e,c,d⟩:=q;⟨o,e,λv z=>by rw[d] at z;cases z⟩
 |false=>exact let⟨o,e,c,d⟩:=q;⟨o,e,λv z=>by rw[d] at z;cases z⟩
theorem SSq.lt{t:Bool}{h:Heap}{l:Addr}{xs:Array za}(q:SSq t h l xs):l<h.objs.size:=by
 cases t with
 |true=>exact let⟨o,e,r⟩:=q;zh e
 |false=>exact let⟨o,e,r⟩:=q;zh e
theorem dJ{X:Cx}{pins:List (Addr×Obj)}{σ:L2.St}{H:Hp}{s:zd}{t:Bool}{a:Addr}{xs:List V}(I:Inv X pins σ H s)(h:SqB t X.K H a xs):∃its:List za,aL xs its/\SSq t s.heap a its.toArray:=by
 cases t with
 |true=>exact let⟨its,r,p,_⟩:=I.tuple h;⟨its,r,p⟩
 |false=>exact let⟨its,r,p,_⟩:=I.list h;⟨its,r,p.isList⟩
theorem fZ{X:Cx}{pins:List (Addr×Obj)}{σ:L2.St}{H:Hp}{s:zd}{t:Bool}{a:Addr}{xs ys:List V}(I:Inv X pins σ H s)(h:SqB t X.K H a xs)(h':SqB t X.K H a ys):xs=ys:=by
 cases t with
 |true=>exact I.tuple_inj h h'
 |false=>exact I.list_inj h h'
section
variable{prog:zv}{w:zA}{A:zD}{E:za->zd->Prop}{s:zd}
theorem tU{it l:Addr}{i:Nat}{items:Array za}{x:za}{Q:za->zd->Prop}(ht:s.heap.IsTupleIter it l i)(hl:s.heap.IsTuple l items)(hx:items[i]?=some x)
  (q:∀h',h'.IsTupleIter it l (i+1)->wZ it s.heap h'->Q x { s with heap:=h' }):zf (zg prog w) A (zI (.ref it)) Q E s:=by
 obtain⟨o,e1,e2,e3⟩:=id ht;obtain⟨u,e4,_,m,e5⟩:=hl;unfold zI;refine zc (wC (name:=Str.ofString "__next__") ht.typeIs xi (xt xi ht.typeIs F.entry_tuple_iterator_next ?_ (F.args_tuple_iterator_next_1 _)))
 change zf _ _ (field (.ref it) 0>>=_) _ _ s
 refine zc (zR e1 e3 (x:=.ref l) rfl ?_)
 change zf _ _ (if(zk l==zP)=true then _ else _) _ _ s
 rw[if_neg (show ¬((zk l==zP)=true) from λz=>Bool.noConfusion z)]
 change zf _ _ (field (.ref it) 1>>=_) _ _ s
 refine zc (zR e1 e3 (x:=.int i 0) rfl ?_)
 change zf _ _ (seqItems? (.ref l)>>=_) _ _ s
 refine zc (wV e4 e5 ?_);simp only[hx,Int.toNat_natCast];refine zc (wpAny_setField e1 e3 (by simp) (zi ⟨x,rfl,zi (q _ ⟨_,wI _ e1 (xI (wJ e3 _)),(Obj.cls_mapFields ..).trans e2,?_⟩ (Heap.SameBut.update ..))⟩));rw[wJ e3];simp[rawInt]
theorem lC{it l:Addr}{i:Nat}{items:Array za}{Q:za->zd->Prop}(hh:A.handled=none)(ht:s.heap.IsTupleIter it l i)(hl:s.heap.IsTuple l items)(hx:items[i]?=none)
  (q:∀h' e,Heap.ExtBut it s.heap h'->(∃o,h'.get? e=some o/\o.cls=.type "StopIteration")->E (.ref e) { s with heap:=h' }):zf (zg prog w) A (zI (.ref it)) Q E s:=by
 obtain⟨o,e1,e2,e3⟩:=id ht;obtain⟨u,e4,_,m,e5⟩:=hl;unfold zI;refine zc (wC (name:=Str.ofString "__next__") ht.typeIs xi (xt xi ht.typeIs F.entry_tuple_iterator_next ?_ (F.args_tuple_iterator_next_1 _)))
 change zf _ _ (field (.ref it) 0>>=_) _ _ s
 refine zc (zR e1 e3 (x:=.ref l) rfl ?_)
 change zf _ _ (if(zk l==zP)=true then _ else _) _ _ s
 rw[if_neg (show ¬((zk l==zP)=true) from λz=>Bool.noConfusion z)]
 change zf _ _ (field (.ref it) 1>>=_) _ _ s
 refine zc (zR e1 e3 (x:=.int i 0) rfl ?_)
 change zf _ _ (seqItems? (.ref l)>>=_) _ _ s
 refine zc (wV e4 e5 ?_);simp only[hx,Int.toNat_natCast];refine zc (wpAny_rule (zc (wpAny_setField e1 e3 (by simp) ?_)))
 change zf _ _ (newExc (.type "StopIteration") []>>=_) _ _ _
 refine zc ?_;simp only[newTuple,newExc];refine zc (wd (zc (m:=firstArgMember _ _) (wpAny_of_eq (a:=zP) (by first | rfl | (simp only[firstArgMember];rfl)) (wd ?_ (by size_fits)))) (by size_fits));simp only[raiseNew];refine zc (wpAny_handled ?_);rw[hh];exact zc (zi (wpAny_throw (q _ _ (((Heap.SameBut.update ..).extBut.push _).push _) ⟨_,zr _ rfl,rfl⟩)))
theorem r_{t:Bool}{it l:Addr}{i:Nat}{items:Array za}{x:za}{Q:za->zd->Prop}(ht:SIt t s.heap it l i)(hl:SSq t s.heap l items)(hx:items[i]?=some x)
  (q:∀h',SIt t h' it l (i+1)->wZ it s.heap h'->Q x { s with heap:=h' }):zf (zg prog w) A (zI (.ref it)) Q E s:=by
 cases t with
 |true=>exact tU ht hl hx q
 |false=>exact wpAny_nextOf_list_item ht hl hx q
theorem ko{t:Bool}{it l:Addr}{i:Nat}{items:Array za}{Q:za->zd->Prop}(hh:A.handled=none)(ht:SIt t s.heap it l i)(hl:SSq t s.heap l items)(hx:items[i]?=none)
  (q:∀h' e,Heap.ExtBut it s.heap h'->(∃o,h'.get? e=some o/\o.cls=.type "StopIteration")->E (.ref e) { s with heap:=h' }):zf (zg prog w) A (zI (.ref it)) Q E s:=by
 cases t with
 |true=>exact lC hh ht hl hx q
 |false=>exact wpAny_nextOf_list_end hh ht hl hx q
theorem pZ{t:Bool}{N l1 l2:Nat}{k:Nat}{xs ys:Array za}{x y a b:za}{Q:za->zd->Prop}(p1:l1<N)(p2:l2<N)(hz:IsZip s.heap (N+4) (N+2) (N+3) .none)
  (hI:wu s.heap (N+2) (.ref N) (.ref (N+1))) (hO:wu s.heap (N+3) a b) (h1:SIt t s.heap N l1 k) (h2:SIt t s.heap (N+1) l2 k) (g1:SSq t s.heap l1 xs) (g2:SSq t s.heap l2 ys) (hx:xs[k]?=some x) (hy:ys[k]?=some y)
  (q:∀h',IsZip h' (N+4) (N+2) (N+3) (rawInt s.heap.objs.size)->wu h' (N+3) x y->SIt t h' N l1 (k+1)->SIt t h' (N+1) l2 (k+1)->wu h' s.heap.objs.size x y->
   (∀c o,c≠N+4->c≠N+3->c≠N->c≠N+1->s.heap.get? c=some o->h'.get? c=some o)->Q (.ref s.heap.objs.size) { s with heap:=h' }) :
  zf (zg prog w) A (Builtin.«zip.__next__» ⟨[.ref (N+4)],[]⟩) (λfin s'=>∃v,fin=.done (.ret v)/\Q v s') E s:=by
 change zf _ _ (field (.ref (N+4)) 2>>=_) _ _ _
 refine zc (zR hz rfl (x:=.bool false) rfl ?_);change zf _ _ (field (.ref (N+4)) 3>>=_) _ _ _;refine zc (zR hz rfl (x:=.ref (N+2)) rfl (zc (wV hI rfl ?_)))
 change zf _ _ (wA (.ref (N+4))>>=_) _ _ _
 refine zc ?_;unfold wA;refine zc (zR hz rfl (x:=.none) rfl (zi ?_));simp only[if_true];refine zc (wpAny_rule (zc (zR hz rfl (x:=.ref (N+3)) rfl (zc (xf hz (by simp) λu1 z1 s1=>?_)))))
 replace z1:IsZip u1 (N+4) (N+2) (N+3) .ellipsis:=z1
 refine zc ?_;simp only[List.forIn_cons,List.forIn_nil,List.zipIdx_cons,List.zipIdx_nil];refine zc (zc (wpAny_onRaise ?_));change zf _ _ (zI (.ref N)>>=_) _ _ _;refine zc (r_ (h1.to λo e=>s1.extBut _ o (nN (by lia)) e) (g1.to λo e=>s1.extBut _ o (nN (by lia)) e) hx λu2 i2 s2=>zi ?_);have o2:wu u2 (N+3) a b:=s2.extBut _ _ (nN (by lia)) (s1.extBut _ _ (nN (by lia)) hO);refine zc (wV o2 rfl (zc (wpAny_updateSeq_pair o2 λu3 o3 s3=>?_)))
 replace o3:wu u3 (N+3) x b:=o3
 refine zc (wpAny_letGo (zi (zc (zc (wpAny_onRaise ?_)))))
 change zf _ _ (zI (.ref (N+1))>>=_) _ _ _
 refine zc (r_ (h2.to λo e=>s3.extBut _ o (nN (by lia)) (s2.extBut _ o (nN (by lia)) (s1.extBut _ o (nN (by lia)) e))) (g2.to λo e=>s3.extBut _ o (nN (by lia)) (s2.extBut _ o (nN (by lia)) (s1.extBut _ o (nN (by lia)) e))) hy λu4 i4 s4=>zi ?_);have o4:wu u4 (N+3) x b:=s4.extBut _ _ (nN (by lia)) o3;refine zc (wV o4 rfl (zc (wpAny_updateSeq_pair o4 λu5 o5 s5=>?_)))
 replace o5:wu u5 (N+3) x y:=o5
 refine zc (wpAny_letGo (zi (zi (zc (wV o5 rfl (zc (wpAny_newTuple ?_)))))));have sz:u5.objs.size=s.heap.objs.size:=by rw[s5.1,s4.1,s3.1,s2.1,s1.1]
 have z5:IsZip u5 (N+4) (N+2) (N+3) .ellipsis:=s5.extBut _ _ (nN (by lia)) (s4.extBut _ _ (nN (by lia)) (s3.extBut _ _ (nN (by lia)) (s2.extBut _ _ (nN (by lia)) z1)));have k5:∀c o,c≠N+4->c≠N+3->c≠N->c≠N+1->s.heap.get? c=some o->u5.get? c=some o:=λc o c1 c2 c3 c4 e=>s5.extBut _ _ c2 (s4.extBut _ _ c4 (s3.extBut _ _ c2 (s2.extBut _ _ c3 (s1.extBut _ _ c1 e))));have a5:SIt t u5 N l1 (k+1):=i2.to λo e=>s5.extBut _ o (nN (by lia)) (s4.extBut _ o (nN (by lia)) (s3.extBut _ o (nN (by lia)) e));have b5:SIt t u5 (N+1) l2 (k+1):=i4.to λo e=>s5.extBut _ o (nN (by lia)) e;have zl:N+4<u5.objs.size:=zh z5
 change zf _ _ (Builtin.SmallTypes.ownedTupleHandOut (.ref (N+4)) (.ref u5.objs.size)>>=_) _ _ _
 refine zc ?_;unfold Builtin.SmallTypes.ownedTupleHandOut;have z6:IsZip (u5.push { cls:=.type "tuple",data:=.seq #[x,y] }) (N+4) (N+2) (N+3) .ellipsis:=ze _ z5;refine zc (xf z6 (by simp) λu7 z7 s7=>?_)
 replace z7:IsZip u7 (N+4) (N+2) (N+3) (rawInt u5.objs.size):=z7
 refine xf z7 (by simp) λu8 z8 s8=>?_
 replace z8:IsZip u8 (N+4) (N+2) (N+3) (rawInt u5.objs.size):=z8
 have up:∀c o,c≠N+4->u5.get? c=some o->u8.get? c=some o:=λc o c1 e=>s8.extBut _ _ c1 (s7.extBut _ _ c1 (ze _ e));have t8:wu u8 u5.objs.size x y:=s8.extBut _ _ (nN (by lia)) (s7.extBut _ _ (nN (by lia)) (zr _ rfl));rw[sz] at z8 t8;refine zi ⟨_,rfl,?_⟩;change Q (.ref u5.objs.size) _;rw[sz];exact q u8 z8 (up _ _ (nN (by lia)) o5) (a5.to λo e=>up _ o (nN (by lia)) e) (b5.to λo e=>up _ o (nN (by lia)) e) t8 λc o c1 c2 c3 c4 e=>up c o c1 (k5 c o c1 c2 c3 c4 e)
theorem sQ{t:Bool}{N l1 l2:Nat}{k:Nat}{xs ys:Array za}{a b:za}{Q:Fin->zd->Prop}(hh:A.handled=none)(p1:l1<N)(p2:l2<N)(hz:IsZip s.heap (N+4) (N+2) (N+3) .none)
  (hI:wu s.heap (N+2) (.ref N) (.ref (N+1))) (hO:wu s.heap (N+3) a b) (h1:SIt t s.heap N l1 k) (h2:SIt t s.heap (N+1) l2 k) (g1:SSq t s.heap l1 xs) (g2:SSq t s.heap l2 ys) (he:xs[k]?=none\/ys[k]?=none)
  (q:∀h' e,(∀c o,c≠N+4->c≠N+3->c≠N->c≠N+1->s.heap.get? c=some o->h'.get? c=some o)->(∃o,h'.get? e=some o/\o.cls=.type "StopIteration")->E (.ref e) { s with heap:=h' }) :
  zf (zg prog w) A (Builtin.«zip.__next__» ⟨[.ref (N+4)],[]⟩) Q E s:=by
 change zf _ _ (field (.ref (N+4)) 2>>=_) _ _ _
 refine zc (zR hz rfl (x:=.bool false) rfl ?_);change zf _ _ (field (.ref (N+4)) 3>>=_) _ _ _;refine zc (zR hz rfl (x:=.ref (N+2)) rfl (zc (wV hI rfl ?_)))
 change zf _ _ (wA (.ref (N+4))>>=_) _ _ _
 refine zc ?_;unfold wA;refine zc (zR hz rfl (x:=.none) rfl (zi ?_));simp only[if_true];refine zc (wpAny_rule (zc (zR hz rfl (x:=.ref (N+3)) rfl (zc (xf hz (by simp) λu1 z1 s1=>?_)))))
 replace z1:IsZip u1 (N+4) (N+2) (N+3) .ellipsis:=z1
 refine zc ?_;simp only[List.forIn_cons,List.forIn_nil,List.zipIdx_cons,List.zipIdx_nil];refine zc (zc (wpAny_onRaise ?_));change zf _ _ (zI (.ref N)>>=_) _ _ _
 have fin:∀{h h':Heap} {e:Addr},IsZip h (N+4) (N+2) (N+3) .ellipsis->wZ (N+4) h h'->(∃o,h.get? e=some o/\o.cls=.type "StopIteration")->∃o,h'.get? e=some o/\o.cls=.type "StopIteration":=λ{h h' e} hz sb ⟨o,h1,h2⟩=>
  ⟨o,sb.extBut _ _ (λz=>by rw[z,hz] at h1;cases h1;simp at h2) h1,h2⟩
 cases ex:xs[k]? with
 |none=>
  refine zc (ko hh (h1.to λo e=>s1.extBut _ o (nN (by lia)) e) (g1.to λo e=>s1.extBut _ o (nN (by lia)) e) ex λu2 e s2 he=>?_);have z2:IsZip u2 (N+4) (N+2) (N+3) .ellipsis:=s2 _ _ (nN (by lia)) z1;exact xf z2 (by simp) λu3 _ s3=>q u3 e (λc o c1 _ c3 _ x=>s3.extBut _ _ c1 (s2 _ _ c3 (s1.extBut _ _ c1 x))) (fin z2 s3 he)
 |some x=>
  have ey:ys[k]?=none:=by
   rcases he with z | z
   ·rw[ex] at z;cases z
   ·exact z
  refine zc (r_ (h1.to λo e=>s1.extBut _ o (nN (by lia)) e) (g1.to λo e=>s1.extBut _ o (nN (by lia)) e) ex λu2 i2 s2=>zi ?_);have o2:wu u2 (N+3) a b:=s2.extBut _ _ (nN (by lia)) (s1.extBut _ _ (nN (by lia)) hO);refine zc (wV o2 rfl (zc (wpAny_updateSeq_pair o2 λu3 o3 s3=>?_)));refine zc (wpAny_letGo (zi (zc (zc (wpAny_onRaise ?_)))))
  change zf _ _ (zI (.ref (N+1))>>=_) _ _ _
  refine zc (ko hh (h2.to λo e=>s3.extBut _ o (nN (by lia)) (s2.extBut _ o (nN (by lia)) (s1.extBut _ o (nN (by lia)) e))) (g2.to λo e=>s3.extBut _ o (nN (by lia)) (s2.extBut _ o (nN (by lia)) (s1.extBut _ o (nN (by lia)) e))) ey λu4 e s4 he=>?_);have z4:IsZip u4 (N+4) (N+2) (N+3) .ellipsis:=s4 _ _ (nN (by lia)) (s3.extBut _ _ (nN (by lia)) (s2.extBut _ _ (nN (by lia)) z1));exact xf z4 (by simp) λu5 _ s5=>q u5 e (λc o c1 c2 c3 c4 x=>s5.extBut _ _ c1 (s4 _ _ c4 (s3.extBut _ _ c2 (s2.extBut _ _ c3 (s1.extBut _ _ c1 x))))) (fin z4 s5 he)
theorem rZ{t:Bool}{N l1 l2:Nat}{k:Nat}{xs ys:Array za}{x y a b:za}{Q:Option za->zd->Prop}(p1:l1<N)(p2:l2<N)(hz:IsZip s.heap (N+4) (N+2) (N+3) .none)
  (hI:wu s.heap (N+2) (.ref N) (.ref (N+1))) (hO:wu s.heap (N+3) a b) (h1:SIt t s.heap N l1 k) (h2:SIt t s.heap (N+1) l2 k) (g1:SSq t s.heap l1 xs) (g2:SSq t s.heap l2 ys) (hx:xs[k]?=some x) (hy:ys[k]?=some y)
  (q:∀h',IsZip h' (N+4) (N+2) (N+3) (rawInt s.heap.objs.size)->wu h' (N+3) x y->SIt t h' N l1 (k+1)->SIt t h' (N+1) l2 (k+1)->wu h' s.heap.objs.size x y->
   (∀c o,c≠N+4->c≠N+3->c≠N->c≠N+1->s.heap.get? c=some o->h'.get? c=some o)->Q (some (.ref s.heap.objs.size)) { s with heap:=h' }) :
  zf (zg prog w) A (pyNext (.ref (N+4))) Q E s:=by
 have ty:s.TypeIs (.ref (N+4)) "zip":=⟨_,hz,rfl⟩;unfold pyNext;exact zc (wpAny_attempt (wC (name:=Str.ofString "__next__") ty F.slot_zip_next (xt F.slot_zip_next ty F.entry_zip_next (pZ p1 p2 hz hI hO h1 h2 g1 g2 hx hy λh' a1 a2 a3 a4 a5 a6=>zi (q h' a1 a2 a3 a4 a5 a6)) (F.args_zip_next_1 _))))
theorem lp{t:Bool}{N l1 l2:Nat}{k:Nat}{xs ys:Array za}{a b:za}{Q:Option za->zd->Prop}(hh:A.handled=none)(p1:l1<N)(p2:l2<N)(hz:IsZip s.heap (N+4) (N+2) (N+3) .none)
  (hI:wu s.heap (N+2) (.ref N) (.ref (N+1))) (hO:wu s.heap (N+3) a b) (h1:SIt t s.heap N l1 k) (h2:SIt t s.heap (N+1) l2 k) (g1:SSq t s.heap l1 xs) (g2:SSq t s.heap l2 ys) (he:xs[k]?=none\/ys[k]?=none)
  (q:∀h',(∀c o,c≠N+4->c≠N+3->c≠N->c≠N+1->s.heap.get? c=some o->h'.get? c=some o)->Q none { s with heap:=h' }):zf (zg prog w) A (pyNext (.ref (N+4))) Q E s:=by
 have ty:s.TypeIs (.ref (N+4)) "zip":=⟨_,hz,rfl⟩;unfold pyNext;refine zc (wpAny_attempt (wC (name:=Str.ofString "__next__") ty F.slot_zip_next (xt F.slot_zip_next ty F.entry_zip_next (sQ hh p1 p2 hz hI hO h1 h2 g1 g2 he λh' e hk ⟨o,w1,w2⟩=>?_) (F.args_zip_next_1 _))));exact zc (wpAny_isInstance (T:="StopIteration") (b:=true) ⟨o,w1,w2⟩ isSubtype_stop (zi (q _ hk)))
end
def gW(t:Bool)(h:Heap)(l1 l2:Addr):Heap:=
 ((((h.push { cls:=.type (if t then "tuple_iterator" else "list_iterator"),data:=.fields #[.ref l1,.int 0 0] }).push { cls:=.type (if t then "tuple_iterator" else "list_iterator"),data:=.fields #[.ref l2,.int 0 0] }).push
  { cls:=.type "tuple",data:=.seq #[.ref h.objs.size,.ref (h.objs.size+1)] }).push { cls:=.type "tuple",data:=.seq #[.none,.none] }).push
  { cls:=.type "zip",data:=.fields #[.none,.bool false,.bool false,.ref (h.objs.size+2),.ref (h.objs.size+3)] }
theorem oI(l1 l2:Addr)(xs ys:Array za):Meets (Builtin.«zip.__new__» ⟨[.type "zip",.ref l1,.ref l2],[]⟩) (λ_ R s=>s.heap.IsTuple l1 xs/\s.heap.IsTuple l2 ys/\
   R (.ok (.ret (.ref (s.heap.objs.size+4)))) { s with heap:=gW true s.heap l1 l2 }):=
 .of_wp λprog w A R s h=>by
  obtain⟨hp,g,d,tk,os⟩:=s;obtain⟨q1,q2,h⟩:=h;have hsub:=sub_zip;have w1:Heap.IsTuple (Shared.heap ⟨hp,g,d,tk,os⟩) l1 xs:=q1;have w2:Heap.IsTuple (Shared.heap ⟨hp.push { cls:=.type "tuple_iterator",data:=.fields #[.ref l1,.int 0 0] },g,d,tk,os⟩) l2 ys:=Heap.IsTuple.push q2 _
  wp_walk using wpAny_pyIter_tuple w1,wpAny_pyIter_tuple w2
  simp only[wa] at *;exact⟨_,rfl,h⟩
theorem oo(t:Bool)(h:Heap)(l1 l2:Addr):IsZip (gW t h l1 l2) (h.objs.size+4) (h.objs.size+2) (h.objs.size+3) .none/\wu (gW t h l1 l2) (h.objs.size+2) (.ref h.objs.size) (.ref (h.objs.size+1))/\
  wu (gW t h l1 l2) (h.objs.size+3) .none .none/\SIt t (gW t h l1 l2) h.objs.size l1 0/\SIt t (gW t h l1 l2) (h.objs.size+1) l2 0/\∀c o,h.get? c=some o->(gW t h l1 l2).get? c=some o:=by
 have lay:∀(g:Heap) (o:Obj) (n:Nat),g.objs.size=n->o.isFreed=false->(g.push o).get? n=some o:=λg o n e f=>by rw[<-e];exact zr _ f
 unfold gW;refine⟨lay _ _ _ (by simp[wa]) rfl,?_,?_,?_,?_,λc o e=>?_⟩
 ·exact ze _ (ze _ (lay _ _ _ (by simp[wa]) rfl))
 ·exact ze _ (lay _ _ _ (by simp[wa]) rfl)
 ·cases t<;>exact⟨_,ze _ (ze _ (ze _ (ze _ (lay _ _ _ rfl rfl)))),rfl,rfl⟩
 ·cases t<;>exact⟨_,ze _ (ze _ (ze _ (lay _ _ _ (by simp[wa]) rfl))),rfl,rfl⟩
 ·exact ze _ (ze _ (ze _ (ze _ (ze _ e))))
theorem nP{prog:zv}{w:zA}{A:zD}{E:za->zd->Prop}{s:zd}{t:Bool}{l1 l2:Addr}{xs ys:Array za}{Q:za->zd->Prop}(g1:SSq t s.heap l1 xs)(g2:SSq t s.heap l2 ys)
  (q:∀h',IsZip h' (s.heap.objs.size+4) (s.heap.objs.size+2) (s.heap.objs.size+3) .none->wu h' (s.heap.objs.size+2) (.ref s.heap.objs.size) (.ref (s.heap.objs.size+1))->wu h' (s.heap.objs.size+3) .none .none->
   SIt t h' s.heap.objs.size l1 0->SIt t h' (s.heap.objs.size+1) l2 0->(∀c o,s.heap.get? c=some o->h'.get? c=some o)->Q (.ref (s.heap.objs.size+4)) { s with heap:=h' }):zf (zg prog w) A (call (.type "zip") [.ref l1,.ref l2]) Q E s:=by
 cases t with
 |false=>exact call_zip_2 g1 g2 λh' a1 a2 a3 a4 a5 _ a6=>q h' a1 a2 a3 a4 a5 a6
 |true=>
  obtain⟨a1,a2,a3,a4,a5,a6⟩:=oo true s.heap l1 l2;exact callType_new F.called_zip (by decide) (F.typeCall_zip_2 _ _) (F.newCall_zip_2 _ _) (λob=>F.args_object_init_3 ob _ _) F.entry_zip_new (oI l1 l2 xs ys) ⟨g1,g2,⟨_,a1,rfl⟩,q _ a1 a2 a3 a4 a5 a6⟩
theorem dj{X:Cx}{pins:List (Addr×Obj)}{σ:L2.St}{H:Hp}{s:zd}{h':Heap}{t':Nat}{fp:List Addr}(I:Inv X pins σ H s)(k:∀b o,b∉fp->s.heap.get? b=some o->h'.get? b=some o)(hf:∀b∈fp,gq X pins H b):Inv X pins σ H { s with heap:=h',toks:=t' }:=by
 refine I.step (g':=s.gens) (d':=s.drawn) (ch:=fp) (λb hb=>⟨(hf b hb).2.2.2.1,(hf b hb).2.1,(hf b hb).2.2.2.2.1,(hf b hb).2.2.2.2.2⟩) (λb o _ _ hc e _=>k b o hc e) (λb o _ _ hc e _=>⟨o.slots,k b o hc e⟩) (λ_ _ _ _ n=>n) (λb o hc e=>⟨o,k b o hc e⟩) (λ_ _ e=>e) (λ_ _ _ e=>e)
  (λb ps e=>⟨#[],by rw[e];simp⟩) (λm hm=>?_) (λb u e=>?_) I.bare
 ·obtain⟨o,es,ep,ho,r⟩:=hm
  exact⟨o,es,ep,k _ o (λz=>(hf _ z).2.1 rfl) ho,r⟩
 ·refine(I.hok b u e).stay (λc v hc q=>k c v (λz=>?_) q) (λ_ q=>q) λ_ _ q=>q
  have nc:=(hf c z).1;rcases hc with w | w
  ·rw[w,e] at nc;cases nc
  ·rw[w] at nc;cases nc
def Itz(t:Bool)(K:zb)(l1 l2:Addr):It:=
 ⟨λi H=>∃xs ys x y,SqB t K H l1 xs/\SqB t K H l2 ys/\xs[i]?=some x/\ys[i]?=some y,
  λi H v H'=>∃p x y,v=.ref p/\H p=none/\H'=upd H p (.tup [x,y])/\(∀xs,SqB t K H l1 xs->xs[i]?=some x)/\(∀ys,SqB t K H l2 ys->ys[i]?=some y),
  λi H=>∃xs ys,SqB t K H l1 xs/\SqB t K H l2 ys/\(xs.length<=i\/ys.length<=i)⟩
def zfp(N:Nat):List Addr:=[N+4,N+2,N+3,N,N+1]
theorem ow{P:zv}{w:zA}{K:zb}{es:List Expr}{k0:Nat}{tpos:Pos}(t:Bool)(N l1 l2:Nat)(p1:l1<N)(p2:l2<N) :
  Turn P w K (.Tuple es k0 tpos) (Itz t K l1 l2) (zfp N) (N+4) (λi h=>IsZip h (N+4) (N+2) (N+3) .none/\wu h (N+2) (.ref N) (.ref (N+1))/\(∃a b,wu h (N+3) a b)/\SIt t h N l1 i/\SIt t h (N+1) l2 i) where
 mem:=by simp[zfp]
 obj:=λi h ⟨h1,h2,⟨a,b,h3⟩,h4,h5⟩ c hc=>by
  simp only[zfp,zq,zM,or_false] at hc;rcases hc with rfl | rfl | rfl | rfl | rfl
  ·exact⟨_,h1,λv z=>by cases(show Data.fields _=Data.cell v from z)⟩
  ·exact⟨_,h2,λv z=>by cases(show Data.seq _ _=Data.cell v from z)⟩
  ·exact⟨_,h3,λv z=>by cases(show Data.seq _ _=Data.cell v from z)⟩
  ·exact h4.there
  ·exact h5.there
 keep:=λi h h' ⟨h1,h2,⟨a,b,h3⟩,h4,h5⟩ k=>⟨k _ (by simp[zfp]) _ h1,k _ (by simp[zfp]) _ h2,⟨a,b,k _ (by simp[zfp]) _ h3⟩,h4.to λo e=>k _ (by simp[zfp]) o e,h5.to λo e=>k _ (by simp[zfp]) o e⟩
 item:=by
  intro X hP hw hK hc i pins s σ H E I hf st hg;subst hP hw hK;obtain⟨h1,h2,⟨a,b,h3⟩,h4,h5⟩:=st;obtain⟨xs,ys,x,y,q1,q2,ex,ey⟩:=hg;obtain⟨is1,r1,g1⟩:=dJ I q1;obtain⟨is2,r2,g2⟩:=dJ I q2;obtain⟨u,eu,ru⟩:=r1.get ex;obtain⟨v,ev,rv⟩:=r2.get ey;refine rZ p1 p2 h1 h2 h3 h4 h5 g1 g2 (x:=u) (y:=v) (by simpa using eu) (by simpa using ev) λh' a1 a2 a3 a4 a5 a6=>⟨_,rfl,?_⟩;refine wpAny_letOwnedTupleGo_zip (s:={ s with heap:=h' }) a1 λh'' b1 b2=>?_;have zl:N+4<s.heap.objs.size:=zh h1;have nn:H s.heap.objs.size=none:=I.hok.fresh (zp _)
  have I1:Inv X pins σ (upd H s.heap.objs.size (.tup [x,y])) { s with heap:=s.heap.push { cls:=.type "tuple",data:=.seq #[u,v] } }:=
   I.laid (t':=s.toks) (λb o e=>ze _ e) (zp _) ⟨show 2<=zt by decide,[u,v],.cons ru (.cons rv .nil),⟨_,zr _ rfl,rfl,_,rfl⟩⟩
  have ne:∀b∈zfp N,b≠s.heap.objs.size:=λc hc=>by
   simp only[zfp,zq,zM,or_false] at hc;rcases hc with rfl | rfl | rfl | rfl | rfl<;>exact nN (by lia)
  have f1:∀b∈zfp N,gq X pins (upd H s.heap.objs.size (.tup [x,y])) b:=λc hc=>⟨by rw[ak (ne c hc)];exact(hf c hc).1,(hf c hc).2⟩
  have k2:∀c o,c∉zfp N->(s.heap.push { cls:=.type "tuple",data:=.seq #[u,v] }).get? c=some o->h''.get? c=some o:=λc o hc e=>by
   simp only[zfp,zq,zM,or_false,not_or] at hc;obtain⟨c1,c2,c3,c4,c5⟩:=hc;refine b2.extBut _ _ c1 ?_
   by_cases z:c=s.heap.objs.size
   ·subst z
    rw[zr _ rfl] at e;cases e;exact a5
   ·exact a6 c o c1 c3 c4 c5 ((Heap.get?_push_ne _ _ _ z).symm.trans e)
  have I2:=dj (h':=h'') (t':=s.toks) I1 k2 f1;refine⟨.ref s.heap.objs.size,_,I2,rfl,⟨_,x,y,rfl,nn,rfl,λzs hz=>?_,λzs hz=>?_⟩,⟨b1,b2.extBut _ _ (nN (by lia)) (a6 _ _ (nN (by lia)) (nN (by lia)) (nN (by lia)) (nN (by lia)) h2),⟨_,_,b2.extBut _ _ (nN (by lia)) a2⟩,a3.to λo e=>b2.extBut _ o (nN (by lia)) e,a4.to λo e=>b2.extBut _ o (nN (by lia)) e⟩,λc hc=>(f1 c hc).1⟩
  ·rw[fZ I hz q1];exact ex
  ·rw[fZ I hz q2];exact ey
 done:=by
  intro X hP hw hK hc i pins s σ H E I hf st hg;subst hP hw hK;obtain⟨h1,h2,⟨a,b,h3⟩,h4,h5⟩:=st;obtain⟨xs,ys,q1,q2,he⟩:=hg;obtain⟨is1,r1,g1⟩:=dJ I q1;obtain⟨is2,r2,g2⟩:=dJ I q2;have n1:=r1.length;have n2:=r2.length;refine lp (I.ok.hd hc) p1 p2 h1 h2 h3 h4 h5 g1 g2 (he.elim (λz=>.inl (by simp;lia)) λz=>.inr (by simp;lia)) λh' hk=>⟨rfl,dj (t':=s.toks) I (λc o hc e=>?_) hf⟩;simp only[zfp,zq,zM,or_false,not_or] at hc;exact hk c o hc.1 hc.2.2.1 hc.2.2.2.1 hc.2.2.2.2 e
 self:=λ_ _ _ _ _ st h=>wpAny_pyIter_zip st.1 h
section
variable{X:Cx}{a b:Expr}{pos:Pos}
def uE(K:zb)(ta:TA):TI:=λσ H R=>ta σ H λvs H1=>∃t l1 l2 xs ys,vs=[.ref l1,.ref l2]/\SqB t K H1 l1 xs/\SqB t K H1 l2 ys/\R (Itz t K l1 l2) H1
theorem tS{es:List Expr}{k0:Nat}{tpos p:Pos}{ta:TA}(hg:Gl X "zip")(hm:X.mg "zip" = none)(ha:PA X [a,b] ta)(hs:zj [a,b] X.env=[(false,eval a X.env),(false,eval b X.env)]:=by rfl)(hs2:zj [b] X.env=[(false,eval b X.env)]:=by rfl) :
  PI X (.Tuple es k0 tpos) (.Call (.Name "zip" p) [a,b] [] pos) (uE X.K ta):=by
 intro pins s σ H R I h;refine Call_ (gC I hg hm boot_zip (w8 (thn (ha pos pins s σ H _ I h) λus s1 ⟨vs,H1,I1,r1,q1⟩=>?_) (by rw[hs,hs2]) (by rw[hs2];rfl)));obtain⟨t,l1,l2,xs,ys,e,q1,q2,q⟩:=q1;subst e
 cases r1 with | cons r rr=>cases rr with | cons r' rr=>
  cases rr;cases r;cases r';obtain⟨is1,w1,g1⟩:=dJ I1 q1;obtain⟨is2,w2,g2⟩:=dJ I1 q2;refine nP g1 g2 λh' a1 a2 a3 a4 a5 a6=>wpAny_pyIter_zip a1 ?_;refine⟨s1.heap.objs.size+4,zfp s1.heap.objs.size,_,_,H1,rfl,I1.kept (t':=s1.toks) a6,ow t s1.heap.objs.size l1 l2 g1.lt g2.lt,⟨a1,a2,⟨_,_,a3⟩,a4,a5⟩,λc hc=>?_,q⟩
  have lc:s1.heap.objs.size<=c:=by
   simp only[zfp,zq,zM,or_false] at hc;rcases hc with rfl | rfl | rfl | rfl | rfl<;>(show @LE.le Nat _ _ _;lia)
  exact I1.fpOk lc (I1.hok.fresh lc)
def iJ(xs ys:List D):List D:=List.zipWith (λx y=>D.tup [x,y]) xs ys
def mX(f:Ev->Option (List D)):Ev->Option (List D):=λε=>match f ε with
 |some [.lst xs,.lst ys]=>some (iJ xs ys)
 |some [.tup xs,.tup ys]=>some (iJ xs ys)
 |_=>none
theorem rO{K:zb}{G:Hp}{t:Bool}{l1 l2:Addr}{xs ys:List V}{ds es:List D}(h1:SqB t K G l1 xs)(h2:SqB t K G l2 ys)(d1:DenL K G xs ds)(d2:DenL K G ys es):ItD K (Itz t K l1 l2) (iJ ds es) G:=by
 intro i H2 s2
 have up:∀{l:Addr} {zs:List V},SqB t K G l zs->SqB t K H2 l zs:=λ{l zs} h=>by
  cases t with
  |true=>exact aE s2 h
  |false=>exact s2.seq h
 have n1:=d1.length;have n2:=d2.length;have nz:(iJ ds es).length=min ds.length es.length:=by simp[iJ]
 refine⟨λhi=>?_,λhi=>⟨xs,ys,up h1,up h2,by rw[nz] at hi;lia⟩,?_⟩
 ·rw[nz] at hi
  exact⟨xs,ys,xs[i]'(by lia),ys[i]'(by lia),up h1,up h2,by simp,by simp⟩
 ·rintro v H3 ⟨p,x,y,rfl,hn,rfl,w1,w2⟩ d ed G2 s3 s4
  have e1:=w1 xs (up h1);have e2:=w2 ys (up h2);obtain⟨d1',f1,f2⟩:=d1.getV e1;obtain⟨d2',f3,f4⟩:=d2.getV e2;have:(iJ ds es)[i]?=some (.tup [d1',d2']):=by simp[iJ,List.getElem?_zipWith,f1,f3]
  rw[this] at ed;cases ed;have g:=Grow.new (.tup [x,y]) s4 hn;refine⟨_,g,.tup (xs:=[x,y]) (.inl (.inl aj)) (.cons ((f2.mono s3).mono g.gg) (.cons ((f4.mono s3).mono g.gg) .nil))⟩
theorem pS{es:List Expr}{k0:Nat}{tpos p:Pos}{f:Ev->Option (List D)}(h:DA X [a,b] f)(hm:X.mg "zip" = none)(hg:Gl X "zip":=by rfl)(hs:zj [a,b] X.env=[(false,eval a X.env),(false,eval b X.env)]:=by rfl)(hs2:zj [b] X.env=[(false,eval b X.env)]:=by rfl) :
  DI X (.Tuple es k0 tpos) (.Call (.Name "zip" p) [a,b] [] pos) (mX f):=by
 obtain⟨t,a1,a2⟩:=h;refine⟨_,tS hg hm a1 hs hs2,λHe G H σ ε ds R gh E ef q=>?_⟩;unfold mX at ef;split at ef
 ·rename_i e1
  cases ef;refine a2 He G H σ ε _ _ gh E e1 λvs G1 H1 g1 hd=>?_
  cases hd with | cons h1 hd=>cases hd with | cons h2 hd=>
   cases hd;obtain⟨l1,xs,rfl,w1,w2⟩:=h1.lstV;obtain⟨l2,ys,rfl,w3,w4⟩:=h2.lstV;exact⟨false,l1,l2,xs,ys,rfl,g1.gh.seq w1,g1.gh.seq w3,q _ G1 H1 g1 (rO (t:=false) w1 w3 w2 w4)⟩
 ·rename_i e1
  cases ef;refine a2 He G H σ ε _ _ gh E e1 λvs G1 H1 g1 hd=>?_
  cases hd with | cons h1 hd=>cases hd with | cons h2 hd=>
   cases hd;obtain⟨l1,xs,rfl,w1,w2⟩:=h1.tupV;obtain⟨l2,ys,rfl,w3,w4⟩:=h2.tupV;exact⟨true,l1,l2,xs,ys,rfl,aE g1.gh w1,aE g1.gh w3,q _ G1 H1 g1 (rO (t:=true) w1 w3 w2 w4)⟩
 ·cases ef
end
def flD:D->Option V
 |.non=>some .non
 |.bl b=>some (.bl b)
 |.int i=>some (.int i)
 |.str x=>some (.str x)
 |_=>none
def nh:List D->Option (List V)
 |[]=>some []
 |d::ds=>(flD d).bind λv=>(nh ds).bind λr=>some (v::r)
def vF:D->Option (List D)
 |.lst ds=>some ds
 |.tup ds=>some ds
 |_=>none
def inD(neg:Bool):D->D->Option D:=λx y=>(flD x).bind λv=>(vF y).bind λds=>(nh ds).bind λvs=>some (.bl (if neg then !inV v vs else inV v vs))
theorem lL{K:zb}{G:Hp}{v w:V}{d:D}(h:Den K G v d)(e:flD d=some w):v=w/\ee v=true:=by
 cases h<;>cases e<;>exact⟨rfl,rfl⟩
theorem iF{K:zb}{G:Hp}:∀{xs:List V} {ds:List D} {ws:List V},DenL K G xs ds->nh ds=some ws->xs=ws/\xs.all ee=true
 |_,_,_,.nil,e=>by cases e;exact⟨rfl,rfl⟩
 |_,_,_,.cons h hs,e=>by
  obtain⟨v,e1,e⟩:=ai e;obtain⟨r,e2,e⟩:=ai e;cases e;obtain⟨rfl,f1⟩:=lL h e1;obtain⟨rfl,f2⟩:=iF hs e2;exact⟨rfl,by rw[xP,f1,f2];rfl⟩
section
variable{X:Cx}{a b c:Expr}{fa fb fc:Ev->Option D}{pos:Pos}
theorem p8{neg:Bool}(G H:Hp)(x y:V)(dx dy d:D)(Q:VK)(gh:au G H)(hx:bG X.K G H x dx)(hy:bG X.K G H y dy)(e:inD neg dx dy=some d)(q:∀v G' H',Grow G H G' H'->Den X.K G' v d->Q v H'):rIn X.K neg x y H Q:=by
 obtain⟨v,e1,e⟩:=ai e;obtain⟨ds,e2,e⟩:=ai e;obtain⟨vs,e3,e⟩:=ai e;cases e
 have hx':Den X.K G x dx:=by
  rcases hx with h | ⟨_,_,_,_,rfl,_⟩
  ·exact h
  ·cases e1
 obtain⟨rfl,f1⟩:=lL hx' e1;cases dy with
 |lst es=>
  cases e2;obtain⟨p,xs,rfl,h1,h2⟩:=hy.lst gh;obtain⟨rfl,f2⟩:=iF h2 e3;exact⟨p,_,rfl,.inl h1,f1,f2,q _ G H (.refl gh) (.bl _)⟩
 |tup es=>
  cases e2;obtain⟨p,xs,rfl,_,h1,h2⟩:=hy.tup gh;obtain⟨rfl,f2⟩:=iF h2 e3;exact⟨p,_,rfl,.inr h1,f1,f2,q _ G H (.refl gh) (.bl _)⟩
 |_=>cases e2
theorem rl:OpD X (zN .In) (inD false):=⟨_,nK,p8⟩
end
section
variable{X:Cx}{a b c:Expr}{fa fb fc:Ev->Option D}{pos:Pos}
def gM(f f':D->D->Option D)(fa fb fc:Ev->Option D):Ev->Option Bool:=λε=>asB (eCh f f' fa fb fc ε)
theorem mB{op op':CmpOp}{f f':D->D->Option D}(ho:OpD X (zN op) f)(ho':OpD X (zN op') f')(ha:DB X a fa)(hb:DB X b fb)(hc:DB X c fc)(hm:lastMarks [op,op'] [b,c]=false:=by with_unfolding_all rfl) :
  DT X (.Compare a [op,op'] [b,c] pos) (gM f f' fa fb fc):=by
 obtain⟨r,o1,o2⟩:=ho;obtain⟨r',p1,p2⟩:=ho';obtain⟨ta,a1,a2⟩:=ha;obtain⟨tb,b1,b2⟩:=hb;obtain⟨tc,c1,c2⟩:=hc;refine⟨_,oJ o1 p1 a1 b1 c1 hm,λHe G H σ ε k Q gh E ef q=>?_⟩;obtain⟨x,e1,ef⟩:=ai (kG ef);obtain⟨y,e2,ef⟩:=ai ef;obtain⟨z,e3,ef⟩:=ai ef;refine a2 He G H σ ε x _ gh E e1 λv G1 H1 g1 d1=>?_;refine b2 He G1 H1 σ ε y _ g1.gh (E.grow g1) e2 λu G2 H2 g2 d2=>?_;split at ef
 ·rename_i j
  refine o2 G2 H2 v u x y (.bl j) _ g2.gh (d1.grow g2) d2 e3 λw G3 H3 g3 d3=>⟨j,d3.blV,?_⟩;cases j with
  |true=>
   rw[if_pos rfl] at ef ⊢;obtain⟨w',e4,ef⟩:=ai ef;refine c2 He G3 H3 σ ε w' _ g3.gh (((E.grow g1).grow g2).grow g3) e4 λv4 G4 H4 g4 d4=>?_;exact p2 G4 H4 u v4 y w' (.bl k) _ g4.gh ((d2.grow g3).grow g4) d4 ef λv5 G5 H5 g5 d5=>⟨k,d5.blV,q G5 H5 (g1.trans (g2.trans (g3.trans (g4.trans g5))))⟩
  |false=>
   rw[if_neg zm] at ef ⊢;cases ef;exact⟨false,rfl,q _ _ (g1.trans (g2.trans g3))⟩
 ·cases ef
end
structure Wq where
 (P:zv)
 (w:zA)
 (K:zb)
 (mg:Str->Option za)
def FB(Z:Wq)(x:Str)(st:Stmt)(ps:List Str)(f:Addr)(fd:zX):Prop:=FA Z.K Z.mg x st ps f fd/\∀us:List za,us.length=ps.length->bindArgs fd ⟨us,[]⟩=pure (ps.zip us)
def FX(Z:Wq)(x:Str)(st:Stmt)(ps:List Str):Prop:=∃f fd,FB Z x st ps f fd
def OkD(Z:Wq)(x:Str)(st:Stmt)(ps:List Str)(n:Nat)(F:List D->Option D):Prop:=∃f fd,FB Z x st ps f fd/\∀base,FnOk Z.P Z.w Z.K Z.mg base CX0 n f fd ps (spF Z.K F)
section
variable{Z:Wq}{x:Str}{st:Stmt}{ps N:List Str}{k:Nat}{g:Ev->Option Fl}
theorem bdF(R:FX Z x st ps)(hb:∀(d:N.Nodup) (f:Addr) (base:Heap) (cdv:za) (A:zD) (outer:List Env) (s:zd) (H:Hp) (E:XK),Room k (A.deeper (envOfC x (ax st) s.heap.objs.size f cdv))->DSs (fv CX0 Z.P Z.w Z.K Z.mg base N x (ax st) f cdv A outer s H E).nox (aY st) g)
  (S:FnScope N ps (ax st):=by exact⟨rfl,rfl,rfl,by decide +kernel,rfl,by decide +kernel,by decide +kernel⟩):OkD Z x st ps (k+1) (fnD N ps g):=
 let⟨f,fd,A⟩:=R;⟨f,fd,A,λbase=>mG A.1.fu S (hb S.nd f base)⟩
theorem ud{P:zv}{w:zA}{K:zb}{mg:Str->Option za}{h:Heap}{f:Addr}{oc:za}{od an:Option Addr}{osl:Array (Option za)}{kV doc pm cdv ct:za}(X:K.In h)(G:h.Ns zz mg)
  (a:zL K zz x=some (some (.ref f)))
  (l:K.lookup f=some ⟨oc,od,.func (vZ x x (bz st) (aY st) (ax st) .none kV doc pm an cdv ct),osl⟩)
  (c:xp K cdv x=true) (k:zY K (.ref f)=true)
  (hb:∀(kV doc pm:za) (an:Option Addr) (cdv ct:za) (us:List za),us.length=ps.length->bindArgs (vZ x x (bz st) (aY st) (ax st) .none kV doc pm an cdv ct) ⟨us,[]⟩=pure (ps.zip us)):FX ⟨P,w,K,mg⟩ x st ps:=
 ⟨f,_,u_ X G a l c k hb,hb kV doc pm an cdv ct⟩
theorem sD{P:zv}{w:zA}{K:zb}{mg:Str->Option za}{n:Nat}{F:List D->Option D}{y:Str}{fa:Addr}(H:OkD ⟨P,w,K,mg⟩ x st [y] n F)(hfa:mg x=some (.ref fa)) :
  ∃fd:zX,(∀(s:zd) (v:za),BindsTo s fd ⟨[v],[]⟩ [(y,v)])/\∀base:Heap,K.In base->base.Ns zz mg->FnOk P w K mg base CX0 n fa fd [y] (spF K F):=by
 obtain⟨f,fd,⟨A,b⟩,G⟩:=H;have e:=A.mgf.symm.trans hfa;cases e;exact⟨fd,λs v=>.of_eq (b [v] rfl),λbase _ _=>G base⟩
end
theorem nT{α:Type}{p:List α->Prop}{n:Nat}(h:∀(a:α) (r:List α),r.length=n->p (a::r)):∀us:List α,us.length=n+1->p us
 |[],e=>by cases e
 |a::r,e=>h a r (Nat.succ.inj e)
theorem tj{α:Type}{p:List α->Prop}(h:p []):∀us:List α,us.length=0->p us
 |[],_=>h
 |_::_,e=>by cases e
theorem pB{α:Type}{p:List α->Prop}(h:∀a0,p [a0]):∀us:List α,us.length=1->p us:=nT λa0=>(tj (h a0))
theorem vy{α:Type}{p:List α->Prop}(h:∀a0 a1,p [a0,a1]):∀us:List α,us.length=2->p us:=nT λa0=>nT λa1=>(tj (h a0 a1))
theorem uD{α:Type}{p:List α->Prop}(h:∀a0 a1 a2,p [a0,a1,a2]):∀us:List α,us.length=3->p us:=nT λa0=>nT λa1=>nT λa2=>(tj (h a0 a1 a2))
section
variable{X:Cx}{pos p:Pos}{x:Str}{st:Stmt}{ps:List Str}{k j:Nat}{e:Expr}{es:List Expr}{g:Ev->Option (List D)}{Fn:List D->Option D}{FO:List D->Option (List D)}
theorem cF(H:OkD ⟨X.prog,X.w,X.K,X.mg⟩ x st ps j Fn)(hr:Room k X.A)(ha:DA X (e::es) g)(hj:j<=k:=by decide)(hg:Gl X x:=by rfl)(hdb:(x==("__debug__" : Str))=false:=by decide)(he:zj (e::es) X.env=(false,eval e X.env)::zj es X.env:=by rfl)(hpl:(wo pos (zj es X.env)).any (·.1)=false:=by rfl) :
  DE X (.Call (.Name x p) (e::es) [] pos) (ba Fn g):=let⟨_,_,A,F⟩:=H;kf A.1 (F _) hr hj ha hg hdb he hpl
end
end Dn
namespace Ex
open PySem PySem.Spec PyProof.Rows L2
theorem Moves.un2{fs fs':List Addr}{n:Nat}{H H':Hp}{h0 h h':Heap}(u:Un fs [] H H' h0 h)(m:Moves fs' n H' h h')(hn:h0.objs.size<=n)(h1:∀b∈fs,b∈fs')(h2:∀b∈fs',b<h0.objs.size->b∈fs):Un fs [] H H' h0 h' where
 keep:=λb o e q z y=>m.keep b o (u.keep b o e q z y) (λk=>z (h2 b k (zh e))) (.inl (zx (zh e) hn))
 slot:=λb o e q z y=>let⟨_,e1⟩:=u.slot b o e q z y;let⟨sl,e2⟩:=m.slot b _ e1 (h1 b z);⟨sl,e2⟩
 free:=u.free
 there:=λb o e y=>let⟨o1,e1⟩:=u.there b o e y;m.there b o1 e1
 tups:=u.tups
 frzs:=u.frzs
 tbls:=u.tbls
def CX1(P:zv)(w:zA):CXT:=λouter H s E e s'=>∃a cls dx H',e=.ref a/\s'.os=s.os/\AllBare s'.gens/\Un (frs outer) [] H H' s.heap s'.heap/\HOk P w H' s'.heap/\XAt s.heap.objs.size H' s'.heap a cls dx/\E cls (some dx) H'
def uO(X:Cx)(E:XK):Prop:=∀(pins:List (Addr×Obj)) (σ:L2.St) (H:Hp) (s:zd) (a:Addr) (cls:za) (dx:Addr),Inv X pins σ H s->XAt X.s₀.heap.objs.size H s.heap a cls dx->E cls (some dx) H->X.xe (.ref a) s
theorem mQ{P:zv}{w:zA}{K:zb}{mg:Str->Option za}{base:Heap}{N:List Str}{qual:Str}{scope:Scope}{f:Addr}{cd:za}{A:zD}{outer:List Env}{s:zd}{H:Hp}{E:XK} :
  uO (fv (CX1 P w) P w K mg base N qual scope f cd A outer s H E) E:=by
 intro pins σ H' s' a cls dx I x q;refine pR (n:=s.heap.objs.size) (H:=H') I.ok.frames I.stack rfl (λb hb=>I.hok.fresh hb) x λh' m y=>?_;refine⟨a,cls,dx,H',rfl,I.os,I.bare,m.un2 I.base (zp _) (λb z=>?_) (λb z l=>?_),m.hok I.stkFree I.hok,y,q⟩
 ·exact zQ _ z
 ·rcases zq.mp (show b∈s.heap.objs.size::frs outer from z) with e | e
  ·exact absurd (e▸l) (wx _)
  ·exact e
theorem tH{X:Cx}{E:XK}(h:uO X E):iG (CX1 X.prog X.w) X E:=by
 rintro pins σ H s e s' I ⟨a,cls,dx,H',rfl,os,bare,un,hok,x,q⟩;exact h pins σ H' s' a cls dx (I.call' os un hok bare λb z=>absurd z (by simp)) (x.le I.sz) q
theorem g0{P:zv}{w:zA}{K:zb}{mg:Str->Option za}{base:Heap}{N:List Str}{qual:Str}{scope:Scope}{f:Addr}{cd:za}{A:zD}{outer:List Env}{s:zd}{H:Hp}{E:XK}{CX:CXT} :
  PassesOwn (zg P w) (fv CX P w K mg base N qual scope f cd A outer s H E).A (fv CX P w K mg base N qual scope f cd A outer s H E).env (fv CX P w K mg base N qual scope f cd A outer s H E).xe:=PassesOwn.leaving
structure XC(K:zb)(C:Addr)(cd:ClassData):Prop where
 cls:wQ K C=some cd
 sa:zo K (.ref C) "__setattr__" = some (some (.builtin "object.__setattr__"))
 obj:vV K C (.type "object")=some true
 refuse:∀self,refuseLoop self "__setattr__" cd.mro=pure ()
 dict:cd.hasDict=true
section
variable{prog:zv}{w:zA}{A:zD}{E:za->zd->Prop}{s:zd}{K:zb}{C x:Addr}{cd:ClassData}{mA:Str->Option za}{name:Str}{v:za}
theorem nU(I:s.heap.Inst x C mA):∃ox od,PySem.W.InstAt s.heap x ox C od:=by
 obtain⟨o,e,c,nc,d⟩:=I
 have no:xq o=true:=by
  unfold xq;split
  ·rename_i z;exact absurd z (nc _)
  ·rfl
 rcases d with⟨d,_⟩ | ⟨dx,d,_,⟨od,_,_,eo,_⟩⟩
 ·exact⟨o,none,e,c,no,by rw[d];trivial⟩
 ·exact⟨o,some od,e,c,no,by rw[d];exact eo⟩
theorem uG{M:Model}{A:zD}{E:za->zd->Prop}{s:zd}{α:Type}{d:Data}{r:α}{k:Sem α}{Q:α->zd->Prop}(nc:∀c,d≠.cls c)(h:zf M A k Q E s):zf M A (match d with | .cls _=>pure r | _=>k) Q E s:=by
 cases d<;>first | exact h | exact absurd rfl (nc _)
theorem oi{dx:Addr}{m:Str->Option za}{ns:List Str}{tk:Tok}{Q:Fin->zd->Prop}(hn:s.heap.Ns1 dx m)(hw:xH m ns)(hz:ns.length+1<=zt)
  (hq:∀h' t,h'.Ns1 dx (λy=>if y=name then some v else m y)->wZ dx s.heap h'->Q (.done (.ret .none)) { s with heap:=h',toks:=t }):zf (zg prog w) A (Builtin.ObjectAttr.storeInDict dx (.str name tk) name v) Q E s:=by
 unfold Builtin.ObjectAttr.storeInDict;refine zc (zi (zc (wpAny_nsSet1 hn λh' n2 sb=>?_)));obtain⟨o,es,ep,e1,e2,e3⟩:=n2.count (PySem.Within.cons name v hw);refine zc (wpAny_lookBehind e1 ?_ (zi (hq h' _ n2 sb)));rw[e2];exact pastItsLine_dict (zO e3 (Nat.le_succ_of_le hz))
theorem vN{ns:List Str}{Q:Unit->zd->Prop}(X:K.In s.heap)(c:XC K C cd)(hf:zo K (.ref C) name=some none)(I:s.heap.Inst x C mA)(hw:xH mA ns)(hz:ns.length+1<=zt)
  (hq:∀h' t,h'.Inst x C (λy=>if y=name then some v else mA y)->(∀b o,b≠x->(∀o0 dx,s.heap.get? x=some o0->o0.dict=some dx->b≠dx)->s.heap.get? b=some o->h'.get? b=some o)->
   (∀o0,s.heap.get? x=some o0->∃d,h'.get? x=some { o0 with dict:=some d }/\(o0.dict=none->s.heap.objs.size<=d)/\∀d0,o0.dict=some d0->d=d0)->Q () { s with heap:=h',toks:=t }) :
  zf (zg prog w) A (setAttr (.ref x) name v) Q E s:=by
 obtain⟨ox,od,J⟩:=nU I;refine PySem.W.set_plain X J c.sa ?_;have W0:=PySem.F.store_object;have inst:PySem.W.Looks (zg prog w) s.heap (isInstance (.ref x) (.type "object")) true:=J.type.andThen (PySem.W.looks_mroIn X c.obj);refine codeAny_call_builtin W0.slot.plain W0.entry (@PySem.W.check_slot (zg prog w) _ _ { s with toks:=s.toks+1 } "object.__setattr__" "object" "__setattr__" (.ref x) [.str name s.toks,v] [] _ W0.kind W0.split inst (W0.args (.ref x) (.str name s.toks) v) ?_);rw[PySem.W.osa_eq,refuse_eq];refine zc (zc (w9 (s:={ s with toks:=s.toks+1 }) J.type (zc (w9 (s:={ s with toks:=s.toks+1 }) ((PySem.W.looks_clsIn X c.cls).andThen .now) ?_))));rw[c.refuse];refine zi (zc (w9 (s:={ s with toks:=s.toks+1 }) J.type (zc (w9 (s:={ s with toks:=s.toks+1 }) (xM X hf) (zc (zi ?_))))));obtain⟨o,ho,hc,nc,hd⟩:=I;obtain⟨oc,odi,oda,osl⟩:=o;dsimp only at hc nc hd;subst hc;have cl:=PySem.W.looks_clsIn (M:=zg prog w) X c.cls;refine zc (zi (zc (zc (wpAny_loadPart (s:={ s with toks:=s.toks+1 }) ho (zc (w9 (s:={ s with toks:=s.toks+1 }) cl ?_))))));rw[c.dict];rcases hd with⟨hd,hm⟩ | ⟨dx,hd,ne,hn⟩
 ·subst hd
  rw[if_neg (by decide)];dsimp only;rw[if_neg (by simp[typeHasDict])];have xs:x≠s.heap.objs.size:=zC (zh ho);refine uG nc (zc (wpAny_alloc ?_));have ho1:(s.heap.push { cls:=.type "dict",data:=.dict #[] }).get? x=some { cls:=.ref C,data:=oda,slots:=osl }:=ze _ ho;refine zc (wpAny_update ho1 (zi (a:=some s.heap.objs.size) ?_))
  have selfx:=wI (λo=>{ cls:=o.cls,dict:=some s.heap.objs.size,data:=o.data,slots:=o.slots }) ho1 (by
   have z:=(Heap.get?_some_iff.mp ho).2
   cases oda<;>first | rfl | exact z)
  have n0:((s.heap.push { cls:=.type "dict",data:=.dict #[] }).update x λo=>{ cls:=o.cls,dict:=some s.heap.objs.size,data:=o.data,slots:=o.slots }).Ns s.heap.objs.size (λ_=>none):=
   ⟨_,#[],_,(zJ _ _ xs).trans (zr _ rfl),rfl,λe he=>absurd he (by simp),λ_=>rfl⟩
  refine oi (ns:=[]) (s:=⟨(s.heap.push { cls:=.type "dict",data:=.dict #[] }).update x λo=>{ cls:=o.cls,dict:=some s.heap.objs.size,data:=o.data,slots:=o.slots },s.gens,s.drawn,s.toks+1,s.os⟩) (Heap.Ns1.of_empty n0) PySem.Within.nil (by decide) λh' t n2 sb=>?_;have hx':=(sb.2 x xs).trans selfx;refine hq h' t ⟨_,hx',rfl,nc,.inr ⟨_,rfl,Ne.symm xs,?_⟩⟩ (λb o nb _ e=>?_) λo0 e0=>?_
  ·obtain⟨o',es,ep,e1,e2,e3,e4,e5⟩:=n2
   refine⟨o',es,ep,e1,e2,e3,e4,λy=>(e5 y).trans ?_⟩
   by_cases z:y=name
   ·simp[z]
   ·simp[z,hm]
  ·exact(sb.2 b (zC (zh e))).trans ((zJ _ _ (Ne.symm nb)).trans (ze _ e))
  ·obtain rfl:=Option.some.inj (ho.symm.trans e0)
   exact⟨_,hx',λ_=>zp _,λd0 z=>(by cases z)⟩
 ·subst hd
  refine zi (a:=(some dx)) (?_);refine oi (s:={ s with toks:=s.toks+1 }) hn hw hz λh' t n2 sb=>?_;refine hq h' t ⟨_,(sb.2 x (Ne.symm ne)).trans ho,rfl,nc,.inr ⟨dx,rfl,ne,n2⟩⟩ (λb o _ nb e=>(sb.2 b (nb _ dx ho rfl)).trans e) λo0 e0=>?_;obtain rfl:=Option.some.inj (ho.symm.trans e0);exact⟨dx,(sb.2 x (Ne.symm ne)).trans ho,λz=>(by cases z),λd0 z=>(Option.some.inj z)⟩
end
structure XG(K:zb)(C:Addr):Prop where
 ga:zo K (.ref C) "__getattribute__" = some (some (.builtin "BaseException.__getattribute__"))
 no:zo K (.ref C) "__getattr__" = some none
 exc:vV K C (.type "BaseException")=some true
 dict:wO K C=true
theorem vc:builtinKind "BaseException.__getattribute__" = some .slot:=by decide +kernel
theorem ub:splitId "BaseException.__getattribute__" = some ("BaseException","__getattribute__"):=by decide +kernel
theorem uM:(Value.builtin "BaseException.__getattribute__" == Value.builtin "object.__getattribute__")=false:=by decide +kernel
structure XO(K:zb)(C:Addr)(bm:List za):Prop where
 ob:∃nm q N bs hdct sn sub ab col dd k0 k1 k2 k3 k5,K.lookup C=some (excClassObj nm q C N bs bm hdct sn sub ab col dd k0 k1 k2 k3 k5 "ValueError.__new__")
 val:bm.contains (.type "ValueError")=true
 exc:bm.contains (.type "BaseException")=true
 noA:bm.contains (.type "AttributeError")=false
 noN:bm.contains (.type "NameError")=false
section
variable{prog:zv}{w:zA}{A:zD}{E:za->zd->Prop}{h:Heap}{g:Array GenState}{d:Drawn}{t:Nat}{os:OsState}{R:Result->zd->Prop}
variable{nm q:Str}{C N:Addr}{bs bm:List za}{hdct:Bool}{sn:List Str}{sub:List za}{ab:Bool}{col:Option Bool}{dd:Option Addr}{k0 k1 k2 k3 k5:Option za}{rest:List za}
abbrev o7(C:Addr)(t:Addr):Obj:={ cls:=.ref C,data:=.fields #[.ref t,.none,.none,.none,.bool false,.none] }
abbrev qN(vs:List za):Obj:={ cls:=.type "tuple",data:=.seq vs.toArray }
theorem ka{b:Bool}{T:String}(e:bm.contains (.type T)=b):(zk C::bm).contains (.type T)=b:=by rw[zS,e];rfl
theorem kY{M:Model}{Q:Unit->zd->Prop}(hC:h.get? C=some (excClassObj nm q C N bs bm hdct sn sub ab col dd k0 k1 k2 k3 k5 "ValueError.__new__"))(hv:bm.contains (.type "ValueError")=true)(hq:Q () ⟨h,g,d,t,os⟩) :
  zf M A (checkBuiltinCall "ValueError.__new__" ⟨.ref C::rest,[]⟩) Q E ⟨h,g,d,t,os⟩:=by
 have F:=PySem.F.excBase_ValueError;have c1:=ka (C:=C) hv;have c2:=F.noStar;simp only[F.newKind,checkBuiltinCall,F.newSplit,F.newRow]
 repeat first
  |refine v8 hC ?_
  |(refine wR hC ?_
    rw[c1])
  |refine wpAny_staticBase_exc hC ?_
  |refine wpAny_madeBy_exc hC ?_
  |simp only[bne_self_eq_false,Bool.false_eq_true,if_false]
  |wp_step
 exact hq
theorem vO(hC:h.get? C=some (excClassObj nm q C N bs bm hdct sn sub ab col dd k0 k1 k2 k3 k5 "ValueError.__new__"))(hv:bm.contains (.type "ValueError")=true)(ha:bm.contains (.type "AttributeError")=false)
  (hn:bm.contains (.type "NameError")=false) (hz:rest.length<=zt) (hq:R (.ok (.ret (.ref (h.objs.size+1)))) ⟨(h.push (qN rest)).push (o7 C h.objs.size),g,d,t,os⟩) :
  codeAny (zg prog w) A (.builtin "ValueError.__new__" ⟨.ref C::rest,[]⟩) R ⟨h,g,d,t,os⟩:=by
 have F:=PySem.F.excBase_ValueError;have c0:=F.ends;have c1:=ka (C:=C) hv;have c2:=ka (C:=C) ha;have c3:=ka (C:=C) hn;refine codeAny_builtinAt F.entry (?_)
 delta Builtin.«BaseException.__new__»
 refine PySem.wpAt_bind ?_;show PySem.wpAt _ _ _ (stack>>=_) _ _ _;refine PySem.wpAt_bind (PySem.wpAt_stack λp below=>PySem.wpAt_of_wpAny ?_)
 wp_walk
 refine PySem.wpAt_of_wpAny ?_;rw[F.owner]
 repeat first
  |with_reducible refine wpAny_madeHere_exc F.canon hC ?_
  |with_reducible refine v8 hC ?_
  |(with_reducible refine wR hC ?_
    first | rw[c1] | rw[c2] | rw[c3])
  |wp_step
 show R _ _;rw[wa];exact hq
theorem t_(h:Heap)(C:Addr)(rest:List za):Heap.MadeExcOf h ((h.push (qN rest)).push (o7 C h.objs.size)) (h.objs.size+1) (.ref C) rest where
 keeps:=λb o e=>ze _ (ze _ e)
 new:=Heap.get?_none_of_le (Nat.le_succ _)
 there:=⟨h.objs.size,Heap.get?_push_at (by rw[wa]) rfl,Heap.get?_none_of_le (zp _),ze _ (zr _ rfl)⟩
theorem uS{K:zb}{fI:Addr}{Q:za->zd->Prop}(X:K.In h)(c:XO K C bm)(hi:zo K (.ref C) "__init__" = some (some (.ref fI)))(hf:PySem.W.typeIn K (.ref fI)=some (.type "function"))(hz:rest.length<=zt)
  (hq:∀h' e,h.objs.size<=e->Heap.MadeExcOf h h' e (.ref C) rest->zf (zg prog w) (A.under (.builtin "type.__call__" ⟨.ref C::rest,[]⟩)) (call (.ref fI) (.ref e::rest)) (λr s'=>r=.none/\Q (.ref e) s') E ⟨h',g,d,t,os⟩):zf (zg prog w) A (call (.ref C) rest) Q E ⟨h,g,d,t,os⟩:=by
 obtain⟨⟨nm,q,N,bs,hdct,sn,sub,ab,col,dd,k0,k1,k2,k3,k5,lk⟩,hv,_,ha,hn⟩:=c;have hC:=X _ _ lk;have F:=PySem.F.excBase_ValueError;have l1:=tc_lookup;have l2:=tc_bind (.ref C);have ty:(⟨h,g,d,t,os⟩:zd).TypeIs (.ref C) "type":=⟨_,hC,rfl⟩;refine wpAny_call (codeAny_of_tree (?_));show zf _ _ (callAny (zk C) _) _ _ _
 repeat any_goals first
  |assumption
  |with_reducible refine v8 hC ?_
  |wp_step
 refine⟨rfl,codeAny_call_builtin_at (Code.quiet_builtin _ (by decide +kernel)) entry_typeCall (wpAny_check_type_call_sub hC ?_)⟩
 repeat first
  |with_reducible refine v8 hC ?_
  |with_reducible refine wpAny_madeBy_exc hC ?_
  |wp_step
 refine codeAny_call_builtin_code (Code.quiet_builtin _ F.quiet) (kY hC hv (vO hC hv ha hn hz ?_));have made:=t_ h C rest;have hC1:=made.keeps _ _ hC;have X1:K.In ((h.push (qN rest)).push (o7 C h.objs.size)):=X.keeps made.keeps;have at1:((h.push (qN rest)).push (o7 C h.objs.size)).get? (h.objs.size+1)=some (o7 C h.objs.size):=Heap.get?_push_at (by rw[wa]) rfl;have cc:(zk C::bm).contains (.ref C)=true:=by simp
 show zf _ _ _ _ _ _;unfold isInstance
 repeat first
  |with_reducible refine v8 at1 ?_
  |wp_step
 show zf _ _ (isSubtype (.ref C) (.ref C)) _ _ _;refine wR hC1 ?_;rw[cc]
 repeat first
  |with_reducible refine v8 at1 ?_
  |wp_step
 show zf _ _ (typeLookup (zk C) _) _ _ _;refine(xM X1 hi).at ?_;refine v9 (zc ((PySem.W.bind_fn X1 _ hf).at ?_));refine zc (wz (hq _ _ (Nat.le_succ _) made) (λr s' z=>?_) λ_ _ z=>z);obtain⟨rfl,z⟩:=z
 wp_walk
 exact z
end
section
variable{prog:zv}{w:zA}{A:zD}{E:za->zd->Prop}{s:zd}{env:Env}{K:zb}{C:Addr}{bm:List za}
theorem sU{M:Model}{x:Sem za}{Q:Flow->zd->Prop}(c:XO K C bm)(hh:A.handled=none)
  (h:zf M A x (λv s1=>∃e o vs,v=.ref e/\K.In s1.heap/\s1.heap.get? e=some o/\o.cls=.ref C/\o.data=.fields vs/\vs[1]?=some .none/\E (.ref e) s1) E s):zf M A (raiseStmt env (some x) none) Q E s:=by
 obtain⟨⟨nm,q,N,bs,hdct,sn,sub,ab,col,dd,k0,k1,k2,k3,k5,lk⟩,_,hx,_,_⟩:=c;have cb:=ka (C:=C) hx;unfold raiseStmt;refine zc (thn h λv s1 h1=>?_);obtain⟨e,o,vs,rfl,X,he,hc,hdt,h1,hE⟩:=h1;have hC:=X _ _ lk;obtain⟨hp,g,d,tk,os⟩:=s1;obtain⟨oc,od,oda,osl⟩:=o;dsimp only at hc hdt;subst hc hdt
 repeat first
  |with_reducible refine v8 he ?_
  |with_reducible refine v8 hC ?_
  |(with_reducible refine wR hC ?_
    rw[cb])
  |wp_step
 rw[h1];refine zi ?_;rw[if_neg (by decide)];exact zi (wpAny_raiseNew_none hh hE)
theorem la{e:Expr}{pos:Pos}{Q:Flow->zd->Prop}(c:XO K C bm)(hh:A.handled=none)
  (h:zf (zg prog w) A (eval e env) (λv s1=>∃a o vs,v=.ref a/\K.In s1.heap/\s1.heap.get? a=some o/\o.cls=.ref C/\o.data=.fields vs/\vs[1]?=some .none/\E (.ref a) s1) E s) :
  zf (zg prog w) A (exec (.Raise (some e) none pos) env) Q E s:=by
 rw[arm_exec_Raise];refine zc (wpAny_standAt (sU c hh ?_));exact zc (thn h λv s1 h1=>zc (wpAny_standAt (zi h1)))
end
def EH(e C t:Addr)(od:Option Addr):HO:=.ext λh=>h.get? e=some { cls:=.ref C,dict:=od,data:=.fields #[.ref t,.none,.none,.none,.bool false,.none] }
def DH(dx:Addr)(fs:List (Str×V)):HO:=.ext λh=>∃mA,h.Ns1 dx mA/\(∀f,f_ (fs.lookup f) (mA f))/\xH mA (fs.map (·.1))
theorem EH.ok{P:zv}{w:zA}{H:Hp}{h:Heap}{e C t:Addr}{od:Option Addr}(x:h.get? e=some { cls:=.ref C,dict:=od,data:=.fields #[.ref t,.none,.none,.none,.bool false,.none] }):bu P w H h e (EH e C t od):=⟨x,⟨_,x⟩,λ_ _ p k=>k _ p⟩
theorem DH.ok{P:zv}{w:zA}{H:Hp}{h:Heap}{dx:Addr}{fs:List (Str×V)}{mA:Str->Option za}(n:h.Ns1 dx mA)(r:∀f,f_ (fs.lookup f) (mA f))(z:xH mA (fs.map (·.1))):bu P w H h dx (DH dx fs):=by
 refine⟨⟨mA,n,r,z⟩,?_,λh1 h2 p k=>?_⟩
 ·obtain⟨o,_,_,e,_⟩:=n;exact⟨o,e⟩
 ·obtain⟨m,n1,r1,z1⟩:=p;exact⟨m,n1.at k,r1,z1⟩
def Pur(X:Cx)(v:Expr)(σ:L2.St)(y:V):Prop:=∀(pins:List (Addr×Obj)) (s:zd) (H:Hp) (Q:za->zd->Prop),Inv X pins σ H s->(∀u s',Inv X pins σ H s'->aN y u->Q u s')->zf (zg X.prog X.w) X.A (eval v X.env) Q X.xe s
theorem kA{X:Cx}{σ:L2.St}{y:V}{i:Nat}{x:Str}{pos:Pos}(hσ:σ[i]?=some (some y))(hN:X.N[i]?=some x:=by rfl)(hv:Vis X.env.scope x:=by first | exact zV rfl | exact xb (zV rfl) | exact xb (xb rfl))
  (hd:(x==("__debug__" : Str))=false:=by decide) (hcd:(x==("__classdict__" : Str))=false:=by decide):Pur X (.Name x pos) σ y:=by
 intro pins s H Q I hq;refine thn (fB hN hv hd hcd pins s σ H (λv H1=>v=y/\H1=H) I ?_) λu s1 ⟨v,H1,I1,r,ev,eh⟩=>?_
 ·exact⟨y,hσ,rfl,rfl⟩
 ·subst ev eh
  exact hq u s1 I1 r
section
variable{X:Cx}{pins:List (Addr×Obj)}{σ:L2.St}{H:Hp}{s:zd}{e C t dx:Addr}{cd:ClassData}{fs:List (Str×V)}{name:Str}{y:V}{i:Nat}
theorem oO{mA:Str->Option za}{u:za}(r:∀f,f_ (fs.lookup f) (mA f))(ry:aN y u)(f:Str):f_ (((name,y)::fs).lookup f) (if f=name then some u else mA f):=by
 by_cases z:f=name
 ·subst z
  rw[List.lookup_cons_self,if_pos rfl];exact ry
 ·have hb:(f==name)=false:=beq_eq_false_iff_ne.mpr z
  rw[if_neg z];simp only[wy,hb];exact r f
theorem ni{u:za}{Q:Unit->zd->Prop}(I:Inv X pins σ (upd H e (EH e C t none)) s)(c:XC X.K C cd)(hf:zo X.K (.ref C) name=some none)(hn:H e=none)(ry:aN y u)
  (hq:∀s' dx,H dx=none->dx≠e->Inv X pins σ (upd (upd H e (EH e C t (some dx))) dx (DH dx [(name,y)])) s'->Q () s'):zf (zg X.prog X.w) X.A (setAttr (.ref e) name u) Q X.xe s:=by
 have x0:s.heap.get? e=some { cls:=.ref C,dict:=none,data:=.fields #[.ref t,.none,.none,.none,.bool false,.none] }:=(I.hok e _ aj).1;refine vN (mA:=λ_=>none) (ns:=[]) I.kIn c hf ⟨_,x0,rfl,(λ_ z=>nomatch z),.inl ⟨rfl,λ_=>rfl⟩⟩ PySem.Within.nil (by decide) λh' tk J kp at1=>?_;obtain⟨d,x1,fr,_⟩:=at1 _ x0;have fr:=fr rfl;have nd:(upd H e (EH e C t none)) d=none:=I.hok.fresh fr;have de:d≠e:=λz=>by rw[z,aj] at nd;cases nd
 have Hd:H d=none:=by rw[ak de] at nd;exact nd
 have n1:h'.Ns1 d (λf=>if f=name then some u else none):=by
  obtain⟨o,eo,_,_,z | ⟨d2,ed,_,n⟩⟩:=J
  ·obtain rfl:=Option.some.inj (x1.symm.trans eo)
   cases z.1
  ·obtain rfl:=Option.some.inj (x1.symm.trans eo)
   cases ed;exact n
 have keep:∀b o,b≠e->s.heap.get? b=some o->h'.get? b=some o:=λb o ne q=>kp b o ne (λo0 dx e0 ed=>by obtain rfl:=Option.some.inj (x0.symm.trans e0);cases ed) q;refine hq { s with heap:=h',toks:=tk } d Hd de (I.un (h':=h') (t':=tk) ⟨λb o q z _ _=>?_,λb o q z _ _=>?_,λb o q z _=>?_,λb o q _=>?_,λb xs q=>?_,λb o v q=>?_,λb ps q=>?_⟩ λb o q=>?_)
 ·exact keep b o (λk=>by rw[k,aj] at z;cases z) q
 ·exact⟨o.slots,keep b o (λk=>by rw[k,aj] at z;cases z) q⟩
 ·have be:b≠e:=λk=>by rw[k,aj] at z;cases z
  have bd:b≠d:=λk=>absurd (zh q) (Nat.not_lt.mpr (k▸fr));rw[ak bd,ak be];rw[ak be] at z;exact z
 ·by_cases k:b=e
  ·subst k;exact⟨_,x1⟩
  ·exact⟨o,keep b o k q⟩
 ·have be:b≠e:=λk=>by rw[k,aj] at q;cases q
  rw[ak be] at q;rw[ak (ar q Hd),ak be];exact q
 ·have be:b≠e:=λk=>by rw[k,aj] at q;cases q
  rw[ak be] at q;rw[ak (ar q Hd),ak be];exact q
 ·have be:b≠e:=λk=>by rw[k,aj] at q;cases q
  rw[ak be] at q;exact⟨#[],by rw[ak (ar q Hd),ak be,q];simp⟩
 ·by_cases k:b=d
  ·subst k
   rw[aj] at q;cases q;refine DH.ok n1 (oO (mA:=λ_=>none) (λf=>trivial) ry) ?_;exact PySem.Within.cons name u PySem.Within.nil
  ·rw[ak k] at q
   by_cases k2:b=e
   ·subst k2
    rw[aj] at q;cases q;exact EH.ok x1
   ·rw[ak k2] at q
    have q0:upd H e (EH e C t none) b=some o:=by rw[ak k2];exact q
    refine(I.hok b o q0).stay (λc' v hc z=>keep c' v ?_ z) (λc' z=>?_) λc' xs z=>?_
    ·rcases hc with z | z
     ·rw[z];exact k2
     ·exact λk=>by rw[k,aj] at z;cases z
    ·have ce:c'≠e:=λk=>by rw[k,aj] at z;cases z
     rw[ak ce] at z;rw[ak (ar z Hd),ak ce];exact z
    ·have ce:c'≠e:=λk=>by rw[k,aj] at z;cases z
     rw[ak ce] at z;rw[ak (ar z Hd),ak ce];exact z
end
section
variable{X:Cx}{pins:List (Addr×Obj)}{σ:L2.St}{H:Hp}{s:zd}{e C t dx:Addr}{cd:ClassData}{fs:List (Str×V)}{name:Str}{y:V}{o value:Expr}{pos pos':Pos}
theorem oA{Q:Flow->zd->Prop}(I:Inv X pins σ (upd H e (EH e C t none)) s)(c:XC X.K C cd)(hf:zo X.K (.ref C) name=some none)(hn:H e=none)(hv:Pur X value σ y)(ho:Pur X o σ (.ref e))
  (hq:∀s' dx,H dx=none->dx≠e->Inv X pins σ (upd (upd H e (EH e C t (some dx))) dx (DH dx [(name,y)])) s'->Q .next s') (hs:xJ value (some (.Attribute o name pos')) pos.line X.env=pure false:=by rfl) :
  zf (zg X.prog X.w) X.A (exec (.Assign [.Attribute o name pos'] value pos) X.env) Q X.xe s:=by
 refine plainObj_wpAny_Assign_Attribute (hv pins s _ _ I λu s1 I1 ru=>ho pins s1 _ _ I1 λv s2 I2 rv=>?_) hs;obtain rfl:v=zk e:=rv;exact ni I2 c hf hn ru hq
def tW(X:Cx)(st:List Stmt):TS:=λD σ H=>∀pins s,Inv X pins σ H s->zf (zg X.prog X.w) X.A (execs st X.env) (SP X pins D) X.xe s
theorem gY{st:List Stmt}:PSs X st (tW X st):=λpins s _ _ _ I h=>h pins s I
def tW1(X:Cx)(st:Stmt):TS:=λD σ H=>∀pins s,Inv X pins σ H s->zf (zg X.prog X.w) X.A (exec st X.env) (SP X pins D) X.xe s
theorem tZ{st:Stmt}:PS X st (tW1 X st):=λpins s _ _ _ I h=>h pins s I
end
def spI(C:Addr)(f:List V->Option (List (Str×V))):Sp:=λvs H Q _=>∃e t H0 args fs,vs=.ref e::args/\H=upd H0 e (EH e C t none)/\H0 e=none/\f args=some fs/\∀dx,H0 dx=none->dx≠e->Q .non (upd (upd H0 e (EH e C t (some dx))) dx (DH dx fs))
theorem r9{X:Cx}{pins:List (Addr×Obj)}{σ:L2.St}{H:Hp}{s:zd}{e C t dx:Addr}{fs:List (Str×V)}(I:Inv X pins σ (upd (upd H e (EH e C t (some dx))) dx (DH dx fs)) s)(he:H e=none)(hd:H dx=none)(de:dx≠e):Inv X pins σ (upd H dx (.xd fs)) s:=by
 have big:∀b,b≠e->b≠dx->(upd (upd H e (EH e C t (some dx))) dx (DH dx fs)) b=H b:=λb h1 h2=>by rw[ak h2,ak h1]
 have far:∀{b:Addr} {o:HO},(upd (upd H e (EH e C t (some dx))) dx (DH dx fs)) b=some o->(∀φ,o≠.ext φ)->b≠e/\b≠dx:=λ{b o} q n=>⟨λk=>by
   rw[k,ak (Ne.symm de),aj] at q;exact n _ (Option.some.inj q).symm,λk=>by
   rw[k,aj] at q
   exact n _ (Option.some.inj q).symm⟩
 refine I.un (h':=s.heap) (t':=s.toks) ⟨λb o q _ _ _=>q,λb o q _ _ _=>⟨o.slots,q⟩,λb o q z _=>?_,λb o q _=>⟨o,q⟩,λb xs q=>?_,λb o v q=>?_,λb ps q=>?_⟩ λb o q=>?_
 ·have k2:b≠dx:=λk=>by rw[k,aj] at z;cases z
  rw[ak k2] at z ⊢
  by_cases k1:b=e
  ·rw[k1];exact he
  ·rw[ak k1] at z;exact z
 ·obtain⟨k1,k2⟩:=far q (λφ z=>by cases z)
  rw[big b k1 k2] at q;rw[ak k2];exact q
 ·obtain⟨k1,k2⟩:=far q (λφ z=>by cases z)
  rw[big b k1 k2] at q;rw[ak k2];exact q
 ·obtain⟨k1,k2⟩:=far q (λφ z=>by cases z)
  rw[big b k1 k2] at q;exact⟨#[],by rw[ak k2,q];simp⟩
 ·by_cases k2:b=dx
  ·subst k2
   rw[aj] at q;cases q;obtain⟨⟨mA,n0,r0,_⟩,_,_⟩:=I.hok b (DH b fs) aj;exact⟨mA,n0,r0⟩
  ·rw[ak k2] at q
   have k1:b≠e:=λk=>by rw[k,he] at q;cases q
   have q0:=(big b k1 k2).trans q;refine(I.hok b o q0).stay (λc v _ z=>z) (λc z=>?_) λc xs z=>?_
   ·obtain⟨j1,j2⟩:=far z (λφ z=>by cases z)
    rw[big c j1 j2] at z;rw[ak j2];exact z
   ·obtain⟨j1,j2⟩:=far z (λφ z=>by cases z)
    rw[big c j1 j2] at z;rw[ak j2];exact z
def Mk2(X:Cx)(a:Addr):Cx:={ X with A:=X.A.mark (some (.ref a)),calm:=false,xe:=λ_ _=>False }
section
variable{X:Cx}{pins:List (Addr×Obj)}{σ:L2.St}{H:Hp}{s:zd}{a:Addr}
theorem mh(I:Inv X pins σ H s):Inv (Mk2 X a) pins σ H s:=
 ⟨⟨I.ok.mod,I.ok.kind,I.ok.glob,I.ok.blt,I.ok.above,I.ok.inj,I.ok.has,I.ok.cab,(λz=>by cases z),I.ok.frames,I.ok.stk,I.ok.exf,I.ok.bs,I.ok.bsz,I.ok.noex,I.ok.exfs,I.ok.funs,I.ok.frf⟩,I.os,I.bare,I.base,I.loc,I.cell,I.free,I.freeC,I.pin,I.hok,I.len⟩
theorem oM(ok:X.Ok)(I:Inv (Mk2 X a) pins σ H s):Inv X pins σ H s:=⟨ok,I.os,I.bare,I.base,I.loc,I.cell,I.free,I.freeC,I.pin,I.hok,I.len⟩
theorem vm{M:Model}{A:zD}{E:za->zd->Prop}{n:Str}{i:Nat}{pos:Pos}{Q:Unit->zd->Prop}(I:Inv X pins σ H s)(hl:X.env.kindOf n=some .local)(hN:X.N.Nodup)(hi:X.N[i]?=some n)
  (hq:∀s',Inv X pins (σ.set i none) H s'->Q () s'):zf M A (do bindName X.env n .none;unbindBehindTheSuite X.env n pos) Q E s:=by
 obtain⟨m,hn,hm⟩:=id I.loc;refine wpAny_nameGoes_keeps hl hn (by rw[I.ok.kind];rfl) λh' v n2 sb=>hq _ ?_;have old:∀{b o},X.s₀.heap.get? b=some o->h'.get? b=s.heap.get? b:=λ{b o} e=>sb.2 b (zC (zx (zh e) I.ok.above));obtain⟨oL,_,_,hL,_⟩:=id hn;refine⟨I.ok,I.os,I.bare,⟨λb o e q z y=>(old e).trans (I.base.keep b o e q z y),λb o e q z y=>?_,I.base.free,λb o e y=>?_,I.base.tups,I.base.frzs,I.base.tbls⟩,⟨_,n2,λj y w e1 e2 e3=>?_⟩,λy c e=>?_,I.free,I.freeC,λp hp=>?_,λb o e=>?_,by rw[wb];exact I.len⟩
 ·obtain⟨sl,k⟩:=I.base.slot b o e q z y
  exact⟨sl,(old e).trans k⟩
 ·obtain⟨o',k⟩:=I.base.there b o e y
  exact⟨o',(old e).trans k⟩
 ·have ji:j≠i:=λz=>by
   subst z;have hz:j<σ.length:=by rw[I.len];exact(zB.mp e1).1
   rw[List.getElem?_set_self hz] at e2;cases e2
  rw[List.getElem?_set_ne (Ne.symm ji)] at e2;obtain⟨u,r,q⟩:=hm j y w e1 e2 e3;refine⟨u,r,?_⟩;have yn:y≠n:=λz=>ji (iz hN e1 (z▸hi));rcases q with⟨k,e⟩ | ⟨k,c,e,z⟩
  ·exact .inl ⟨k,by show(if y=n then v else m y)=some u;rw[if_neg yn];exact e⟩
  ·exact .inr ⟨k,c,e,z.sameBut sb (I.cne y c e)⟩
 ·obtain⟨w,z⟩:=I.cell y c e
  exact⟨w,z.sameBut sb (I.cne y c e)⟩
 ·obtain⟨e,q,ne,nf,d⟩:=I.pin p hp
  exact⟨(sb.2 p.1 ne).trans e,q,ne,nf,d⟩
 ·refine(I.hok b o e).stay (λc v hc q=>(sb.2 c ?_).trans q) (λ_ q=>q) λ_ _ q=>q
  rintro rfl;rcases hc with z | z
  ·rw[<-z,I.free] at e;cases e
  ·rw[I.free] at z;cases z
end
end Ex
namespace Dn
open PySem PySem.Spec PyProof.Rows L2
abbrev Out:=D ⊕ (Str×List (Str×D))
def spX(K:zb)(mg:Str->Option za)(F:List D->Option Out):Sp:=λvs H Q E=>∃G ds r,au G H/\DenL K G vs ds/\F ds=some r/\(∀d,r=.inl d->∀v G' H',Grow G H G' H'->Den K G' v d->Q v H')/\
 ∀c fs,r=.inr (c,fs)->∀cls dx G' H',Grow G H G' H'->mg c=some cls->XD K G' dx fs->E cls (some dx) H'
def fnX(N ps:List Str)(g:Ev->Option Fl):List D->Option Out:=λds=>if ds.length=ps.length then(match g (aZ N ds) with | some (.rt d)=>some (.inl d) | some (.nx _)=>some (.inl .non) | some (.ro rs)=>some (.inl (.lst rs)) | some (.xc c fs)=>some (.inr (c,fs)) | _=>none) else none
theorem nY{P:zv}{w:zA}{K:zb}{mg:Str->Option za}{base:Heap}{x qual:Str}{st:Stmt}{f:Addr}{fd:zX}{N ps:List Str}{k:Nat}{g:Ev->Option Fl}(Fu:Fun K x qual st f fd)(S:FnScope N ps (ax st))
  (hb:∀(cdv:za) (A:zD) (outer:List Env) (s:zd) (H:Hp) (E:XK),Room k (A.deeper (envOfC qual (ax st) s.heap.objs.size f cdv))->DSs (fv (Ex.CX1 P w) P w K mg base N qual (ax st) f cdv A outer s H E) (aY st) g) :
  FnOk P w K mg base (Ex.CX1 P w) (k+1) f fd ps (spX K mg (fnX N ps g)):=by
 obtain⟨oc,od,kV,doc,pm,an,cdv,ct,osl,rfl,lk,hcd⟩:=Fu.ex;refine lY lk hcd S (λvs H Q E h=>?_) λA outer s H vs Q E hr h=>?_
 ·obtain⟨G,ds,r,gh,hd,e,_⟩:=h
  rw[hd.length];unfold fnX at e;split at e
  ·assumption
  ·cases e
 ·obtain⟨G,ds,r,gh,hd,e,q1,q2⟩:=h
  obtain⟨t,h1,h2⟩:=hb cdv A outer s H E hr;refine⟨t,h1,?_⟩;unfold fnX at e;split at e
  ·split at e
   ·rename_i d e1
    cases e;exact h2 H G G H _ _ _ _ (cu gh hd) e1 λv G' H' g hd=>q1 _ rfl v G' H' g hd
   ·rename_i ε e1
    cases e;exact h2 H G G H _ _ _ _ (cu gh hd) e1 λσ G' H' S'=>q1 _ rfl _ G' H' S'.g .non
   ·rename_i rs e1
    cases e;exact h2 H G G H _ _ _ _ (cu gh hd) e1 λa xs G' H' g n1 n2 h3 d3=>q1 _ rfl _ _ H' (g.seal n1 n2 h3) (kM n2 d3)
   ·rename_i c fs e1
    cases e;exact h2 H G G H _ _ _ _ (cu gh hd) e1 λpins σ G' H' s' a dx cls I g' x m d=>Ex.mQ pins σ H' s' a cls dx I x (q2 c fs rfl cls dx G' H' g' m d)
   ·cases e
  ·cases e
def OkX(Z:Wq)(x:Str)(st:Stmt)(ps:List Str)(n:Nat)(F:List D->Option Out):Prop:=∃f fd,FB Z x st ps f fd/\∀base,FnOk Z.P Z.w Z.K Z.mg base (Ex.CX1 Z.P Z.w) n f fd ps (spX Z.K Z.mg F)
theorem bdX{Z:Wq}{x:Str}{st:Stmt}{ps N:List Str}{k:Nat}{g:Ev->Option Fl}(R:FX Z x st ps) (hb:∀(d:N.Nodup) (f:Addr) (base:Heap) (cdv:za) (A:zD) (outer:List Env) (s:zd) (H:Hp) (E:XK),Room k (A.deeper (envOfC x (ax st) s.heap.objs.size f cdv))->
   DSs (fv (Ex.CX1 Z.P Z.w) Z.P Z.w Z.K Z.mg base N x (ax st) f cdv A outer s H E) (aY st) g)
  (S:FnScope N ps (ax st):=by exact⟨rfl,rfl,rfl,by decide +kernel,rfl,by decide +kernel,by decide +kernel⟩):OkX Z x st ps (k+1) (fnX N ps g):=
 let⟨f,fd,A⟩:=R;⟨f,fd,A,λbase=>nY A.1.fu S (hb S.nd f base)⟩
def Mk3(X:Cx)(a:Addr)(oe:Obj):Cx:={ Ex.Mk2 X a with pn:=(a,oe)::X.pn }
section
variable{X:Cx}{pins:List (Addr×Obj)}{σ:L2.St}{H:Hp}{s:zd}{a dx C:Addr}{oe:Obj}
theorem qY(I:L2.Inv (Ex.Mk2 X a) ((a,oe)::pins) σ H s):L2.Inv (Mk3 X a oe) pins σ H s:=
 ⟨⟨I.ok.mod,I.ok.kind,I.ok.glob,I.ok.blt,I.ok.above,I.ok.inj,I.ok.has,I.ok.cab,I.ok.hd,I.ok.frames,I.ok.stk,I.ok.exf,I.ok.bs,I.ok.bsz,I.ok.noex,I.ok.exfs,I.ok.funs,I.ok.frf⟩,I.os,I.bare,I.base,I.loc,I.cell,I.free,I.freeC,
  λp hp=>I.pin p (by
   rcases wL.mp (hp) with h | h
   ·rcases zq.mp h with h | h
    ·exact zw _ (h▸wG)
    ·exact wM _ h
   ·exact zw _ (zQ _ h)),I.hok,I.len⟩
theorem pW(ok:(Ex.Mk2 X a).Ok)(I:L2.Inv (Mk3 X a oe) pins σ H s):L2.Inv (Ex.Mk2 X a) ((a,oe)::pins) σ H s:=
 ⟨ok,I.os,I.bare,I.base,I.loc,I.cell,I.free,I.freeC,
  λp hp=>I.pin p (by
   rcases wL.mp (hp) with h | h
   ·exact wM _ (zQ _ h)
   ·rcases zq.mp h with h | h
    ·exact wM _ (h▸wG)
    ·exact zw _ h),I.hok,I.len⟩
end
section
variable{X:Cx}{C:Addr}{i:Nat}{n f f2:Str}{p q p2 q2 pt:Pos}
theorem EnvD.dropU{K:zb}{He G H:Hp}{σ:L2.St}{ε:Ev}{i:Nat}(E:EnvD K He G H σ ε){o:Option V}:EnvD K He G H (σ.set i o) (ε.set i .un) where
 len:=by rw[wb,wb];exact E.len
 dat:=λ{j d'} e=>by
  rw[zy] at e ⊢
  by_cases z:i=j
  ·rw[if_pos z] at e;split at e<;>cases e
  ·rw[if_neg z] at e ⊢;exact E.dat e
 own:=λ{j d'} e=>by
  rw[zy] at e ⊢
  by_cases z:i=j
  ·rw[if_pos z] at e;split at e<;>cases e
  ·rw[if_neg z] at e ⊢;exact E.own e
 apart:=λ{j k ds es a} e1 e2 e3 e4=>by
  rw[zy] at e1 e2 e3 e4
  by_cases z:i=j
  ·rw[if_pos z] at e1;split at e1<;>cases e1
  ·by_cases z2:i=k
   ·rw[if_pos z2] at e2;split at e2<;>cases e2
   ·rw[if_neg z] at e1 e3
    rw[if_neg z2] at e2 e4;exact E.apart e1 e2 e3 e4
 odi:=λ{j d'} e=>by
  rw[zy] at e ⊢
  by_cases z:i=j
  ·rw[if_pos z] at e;split at e<;>cases e
  ·rw[if_neg z] at e ⊢;exact E.odi e
 apartD:=λ{j k ds es a} e1 e2 e3 e4=>by
  rw[zy] at e1 e2 e3 e4
  by_cases z:i=j
  ·rw[if_pos z] at e1;split at e1<;>cases e1
  ·by_cases z2:i=k
   ·rw[if_pos z2] at e2;split at e2<;>cases e2
   ·rw[if_neg z] at e1 e3
    rw[if_neg z2] at e2 e4;exact E.apartD e1 e2 e3 e4
end
def mth:Stmt->Stmt
 |.ClassDef _ _ _ b _ _ _ _ _ _ _=>b.getD 0 (.Pass ⟨0,0,0,0⟩)
 |s=>s
abbrev dP:List za:=[.type "ValueError",.type "Exception",.type "BaseException",.type "object"]
def sXe(F:List D->Option Out)(g:Ev->Option (List D)):Ev->Option Fl:=λε=>(g ε).bind λds=>(F ds).bind λr=>match r with
 |.inl _=>some (.nx ε)
 |.inr (c,fs)=>some (.xc c fs)
theorem pK{X:Cx}{ap cp pf:Pos}{fn:Str}{j k:Nat}{st:Stmt}{ps:List Str}{F:List D->Option Out}{e:Expr}{es:List Expr}{g:Ev->Option (List D)}
  (HF:OkX ⟨X.prog,X.w,X.K,X.mg⟩ fn st ps j F) (hr:Room k X.A) (ha:DA X (e::es) g) (hj:j<=k:=by decide)
  (hg:Gl X fn:=by rfl) (hdb:(fn==("__debug__" : Str))=false:=by decide)
  (he:zj (e::es) X.env=(false,eval e X.env)::zj es X.env:=by rfl) (hpl:(wo cp (zj es X.env)).any (·.1)=false:=by rfl)
  (hs:xJ (.Call (.Name fn pf) (e::es) [] cp) none ap.line X.env=pure false:=by rfl) :
  DS X (.Expr (.Call (.Name fn pf) (e::es) [] cp) ap) (sXe F g):=by
 obtain⟨f,fd,⟨FA,_⟩,hF⟩:=HF;obtain⟨t,a1,a2⟩:=ha;refine⟨_,Ex.tZ,λHe Ge G H σ ε r W S ef P pins s I=>?_⟩;obtain⟨ds,e1,ef1⟩:=ai ef;obtain⟨rr,e2,ef2⟩:=ai ef1
 clear ef ef1
 refine wpAny_Expr_any (xa (eZ I hg FA.mgf ?_ hdb)) I.quiet hs;refine PySem.W.callWith_K (h₀:=X.base) I.ok.mod.kin FA.fu.kp (thn (a1 cp pins s σ H (λvs H1=>∃G1,Grow G H G1 H1/\DenL X.K G1 vs ds) I (a2 He G H σ ε ds _ S.g.gh S.e e1 λvs G1 H1 g1 d1=>⟨G1,g1,d1⟩)) λus s1 ⟨vs,H1,I1,r1,G1,g1,d1⟩=>⟨I1.kIn,?_⟩) he hpl;have r2:aL vs ([]++us):=r1
 have SP:spX X.K X.mg F vs H1 (λv H2=>∃d G2,rr=.inl d/\Grow G1 H1 G2 H2) (λcls od H2=>∃c' fs dx G2,rr=.inr (c',fs)/\od=some dx/\Grow G1 H1 G2 H2/\X.mg c'=some cls/\XD X.K G2 dx fs):=
  ⟨G1,ds,rr,g1.gh,d1,e2,λd z v G2 H2 g2 dn=>⟨d,G2,z,g2⟩,λc' fs z cls dx G2 H2 g2 m2 xd=>⟨c',fs,dx,G2,z,rfl,g2,m2,xd⟩⟩
 have hlen:([]++us++[]).length=ps.length:=by
  rw[xg,<-r2.length];exact(hF X.base).len _ _ _ _ SP
 have bb:=FA.bi s1 ([]++us) I1.kIn hlen;rw[xg] at bb;refine wpAny_call (codeAny_mono ((hF X.base).run X.A X.stack s1 H1 ⟨[]++us,[]⟩ ([]++us) vs _ _ (hr.mono hj) I1.env0 bb r2 SP) λres s2 z=>?_);cases res with
 |ok fl=>
  cases fl with
  |ret u=>
   obtain⟨v,H2,I2,rv,d,G2,er,g2⟩:=I1.after z;subst er;cases ef2;exact⟨σ,H2,I2,P σ G2 H2 ⟨S.g.trans (g1.trans g2),S.e.grow (g1.trans g2)⟩⟩
  |next=>exact zW z
  |brk=>exact zW z
  |cont=>exact zW z
 |error ex=>
  obtain⟨a,cls,dx,H2,rfl,os,bare,un,hok,xat,c',fs,dx',G2,er,ed,g2,m2,xd⟩:=z;cases ed;subst er;cases ef2;exact P pins σ G2 H2 s2 a dx cls (I1.call' os un hok bare λb z=>absurd z (by simp)) (S.g.trans (g1.trans g2)) (xat.le I1.sz) m2 xd
def fV0:List V->Option (List (Str×V))
 |[.str x]=>some [("said",.str x)]
 |_=>none
structure OkE(Z:Wq)(c:Str)(C:Addr)(bm:List za):Prop where
 mg:Z.mg c=some (.ref C)
 kp:zY Z.K (.ref C)=true
 xo:Ex.XO Z.K C bm
 exc:vV Z.K C (.type "BaseException")=some true
 dict:wO Z.K C=true
 ob:vV Z.K C (.type "object")=some true
 run:∃(fI:Addr) (fd:zX) (x:Str) (tk:Tok),zo Z.K (.ref C) "__init__" = some (some (.ref fI))/\PySem.W.typeIn Z.K (.ref fI)=some (.type "function")/\
  (∀(s:zd) (e:za),Z.K.In s.heap->BindsTo s fd ⟨[e],[]⟩ [("self",e),("said",.str x tk)])/\∀base,FnOk Z.P Z.w Z.K Z.mg base CX0 1 fI fd ["self","said"] (Ex.spI C fV0)
theorem pd{X:Cx}{pins:List (Addr×Obj)}{σ:L2.St}{H:Hp}{s:zd}{C:Addr}{bm:List za}{c:Str}{Q:za->zd->Prop}(Hc:OkE ⟨X.prog,X.w,X.K,X.mg⟩ c C bm)(hr:Room 2 X.A)(I:Inv X pins σ H s)
  (hq:∀s' a dx fs,H dx=none->Inv X pins σ (upd H dx (.xd fs)) s'->Ex.XN s.heap.objs.size (upd H dx (.xd fs)) s'.heap a (.ref C) dx->Q (.ref a) s'):zf (zg X.prog X.w) X.A (call (.ref C) []) Q X.xe s:=by
 obtain⟨fI,fd,x,tx,hi,ht,hb,F⟩:=Hc.run;obtain⟨hh,g,dw,tk,os⟩:=s;refine Ex.uS I.kIn Hc.xo hi ht (zE _) λh' e fr m=>?_;obtain⟨t,e0,_,_⟩:=m.there;have He:H e=none:=I.hok.fresh fr;have I1:Inv X pins σ (upd H e (Ex.EH e C t none)) ⟨h',g,dw,tk,os⟩:=I.laid (a:=e) (o:=Ex.EH e C t none) (h':=h') (t':=tk) m.keeps fr (Ex.EH.ok e0);have r2:aL [V.ref e,V.str x] [zk e,Value.str x tx]:=.cons rfl (.cons ⟨tx,rfl⟩ .nil);have sp:Ex.spI C fV0 [V.ref e,V.str x] (upd H e (Ex.EH e C t none)) (λv H2=>v=.non/\∃dx,H dx=none/\dx≠e/\H2=upd (upd H e (Ex.EH e C t (some dx))) dx (Ex.DH dx [("said",.str x)])) E0:=⟨e,t,H,[.str x],_,rfl,rfl,He,rfl,λdx h1 h2=>⟨rfl,dx,h1,h2,rfl⟩⟩;refine wpAny_call (codeAny_mono ((F X.base).run _ X.stack _ _ ⟨[zk e],[]⟩ [zk e,Value.str x tx] _ _ E0 ((hr.mono (by decide)).make C [] []) (I1.env0.make C [] []) (hb ⟨h',g,dw,tk,os⟩ (zk e) I1.kIn) r2 sp) λr s' z=>?_);cases r with
 |error e=>exact zW z
 |ok fl=>
  cases fl with
  |ret u=>
   obtain⟨v,H',I3,rv,ev,dx,h1,h2,h3⟩:=I1.after z;subst ev h3;obtain rfl:u=zP:=rv;refine⟨rfl,hq s' e dx _ h1 (Ex.r9 I3 He h1 h2) ⟨fr,?_,_,_,(I3.hok e (Ex.EH e C t (some dx)) (by rw[ak (Ne.symm h2),aj])).1,rfl,rfl,rfl,rfl⟩⟩;rw[ak (Ne.symm h2)];exact He
  |next=>exact zW z
  |brk=>exact zW z
  |cont=>exact zW z
def eV(c:Str):Ev->Option Fl:=λ_=>some (.xc c [])
theorem dI{X:Cx}{pos:Pos}{c:Str}{k:Nat}{C:Addr}{bm:List za}{p cpos:Pos}(Hc:OkE ⟨X.prog,X.w,X.K,X.mg⟩ c C bm)(hr:Room k X.A)(hcalm:X.calm=true)(hj:2<=k:=by decide)(hg:Gl X c:=by rfl)
  (hdb:(c==("__debug__" : Str))=false:=by decide):DS X (.Raise (some (.Call (.Name c p) [] [] cpos)) none pos) (eV c):=by
 refine⟨_,Ex.tZ,λHe Ge G H σ ε r W S ef P pins s I=>?_⟩;cases ef;refine Ex.la Hc.xo (I.ok.hd hcalm) ?_;refine xa (eZ I hg Hc.mg ?_ hdb);refine PySem.W.callWith_K0 I.kIn Hc.kp ?_;refine pd Hc (hr.mono hj) I λs' a dx fs hdx I' xn=>?_;obtain⟨oe,vs',q1,q2,q3,q4,q5⟩:=id xn.ob;refine⟨a,oe,vs',rfl,I'.kIn,q1,q2,q4,q5,?_⟩;have g2:=Grow.new (.xd fs) S.g.gh hdx;exact P pins σ (upd G dx (.xd fs)) (upd H dx (.xd fs)) s' a dx (.ref C) I' (S.g.trans g2) (Ex.XAt.le (.inl xn) I.sz) Hc.mg ⟨fs,aj,λn d z=>by cases z⟩
theorem cO{P:zv}{w:zA}{K:zb}{mg:Str->Option za}{h:Heap}{c qual nm q:Str}{st:Stmt}{C N fI T:Addr}{bs bm:List za}{sn:List Str}{sub:List za}{ab:Bool}{col:Option Bool}{dd:Option Addr}{k0 k1 k2 k3 k5:Option za}{od an:Option Addr}
  {osl:Array (Option za)} {kV doc pm cdv ct:za} {p1 p2 p3 p4:Pos} {x:Str} {tk:Tok} {tc:za} {td:Option Addr} {ts:Array (Option za)} {tn:Nat} (X:K.In h) (G:h.Ns zz mg)
  (hb:aY st=[.Assign [.Attribute (.Name "self" p1) "said" p2] (.Name "said" p3) p4])
  (hbi:∀(s:zd) (kV doc pm:za) (an:Option Addr) (cdv ct e:za),s.heap.get? T=some ⟨tc,td,.seq #[.str x tk] tn,ts⟩->BindsTo s (vZ "__init__" qual (bz st) (aY st) (ax st) (.ref T) kV doc pm an cdv ct) ⟨[e],[]⟩ [("self",e),("said",.str x tk)])
  (S:FnScope ["self","said"] ["self","said"] (ax st)) (v0:(ax st).names.lookup ("self" : Str)=some .local) (v1:(ax st).names.lookup ("said" : Str)=some .local)
  (a:zL K zz c=some (some (.ref C))) (lk:K.lookup C=some (excClassObj nm q C N bs bm true sn sub ab col dd k0 k1 k2 k3 k5 "ValueError.__new__"))
  (hbm:bm.contains (.type "ValueError")=true/\bm.contains (.type "BaseException")=true/\bm.contains (.type "AttributeError")=false/\bm.contains (.type "NameError")=false/\bm.contains (.type "object")=true) (hrf:∀self,refuseLoop self "__setattr__" (.ref C::bm)=pure ())
  (ci:zo K (.ref C) "__init__" = some (some (.ref fI))) (l:K.lookup fI=some ⟨.type "function",od,.func (vZ "__init__" qual (bz st) (aY st) (ax st) (.ref T) kV doc pm an cdv ct),osl⟩) (lt:K.lookup T=some ⟨tc,td,.seq #[.str x tk] tn,ts⟩) (cc:xp K cdv qual=true)
  (kp:zY K (.ref C)=true) (sa:zo K (.ref C) "__setattr__" = some (some (.builtin "object.__setattr__")))
  (f3:zo K (.ref C) "said" = some none):OkE ⟨P,w,K,mg⟩ c C bm:=by
 have hc:wQ K C=some { name:=nm,bases:=bs,mro:=.ref C::bm,ns:=N,qualname:=q,hasDict:=true,slotNames:=sn,subclasses:=sub,abstract:=ab,collection:=col,hasDel:=false }:=by unfold wQ;rw[lk]
 have mro:∀T:String,bm.contains (.type T)=true->vV K C (.type T)=some true:=λT hT=>by
  unfold vV;rw[hc];show(if(List.isEmpty (zk C::bm))=true then none else some (List.contains (zk C::bm) (.type T)))=_;rw[if_neg (λz=>nomatch z),zS,hT,Bool.or_true]
 have ty:PySem.W.typeIn K (.ref fI)=some (.type "function"):=by show Option.map _ (wy fI K)=_;rw[l];rfl
 have ob:=mro "object" hbm.2.2.2.2;have XCk:Ex.XC K C _:=⟨hc,sa,ob,hrf,rfl⟩;refine⟨xy X G a,kp,⟨⟨nm,q,N,bs,true,sn,sub,ab,col,dd,k0,k1,k2,k3,k5,lk⟩,hbm.1,hbm.2.1,hbm.2.2.1,hbm.2.2.2.1⟩,mro _ hbm.2.1,by unfold wO;rw[hc];rfl,ob,fI,_,x,tk,ci,ty,λs e ks=>hbi s kV doc pm an cdv ct e (ks _ _ lt),λbase=>?_⟩;refine lY (k:=0) l cc S (λvs H Q E h=>?_) (λA outer s H vs Q E hr h=>?_)
 ·obtain⟨e,t,H0,args,fs,rfl,_,_,ef,_⟩:=h
  unfold fV0 at ef;split at ef
  ·rfl
  ·cases ef
 ·obtain⟨e,t,H0,args,fs,rfl,rfl,He,ef,q⟩:=h
  refine⟨_,Ex.gY,λpins s1 I=>?_⟩;rw[hb];unfold fV0 at ef;split at ef
  ·rename_i y
   cases ef;refine zU (Ex.oA I XCk f3 He (Ex.kA (i:=1) (y:=.str y) rfl rfl (.inl v1)) (Ex.kA (i:=0) (y:=.ref e) rfl rfl (.inl v0)) λs3 dx hd ne I3=>?_);exact xB ⟨_,_,I3,q dx hd ne⟩
  ·cases ef
def Ite(K:zb)(l:Addr):It:=
 ⟨λi H=>∃xs x,SqL K H l xs/\xs[i]?=some x,
  λi H v H'=>∃p x,v=.ref p/\H p=none/\H'=upd H p (.tup [.int (i:Int),x])/\∀xs,SqL K H l xs->xs[i]?=some x,
  λi H=>∃xs,SqL K H l xs/\xs.length<=i⟩
def efp(N:Nat):List Addr:=[N+1,N]
theorem m9{P:zv}{w:zA}{K:zb}{es:List Expr}{k0:Nat}{tpos:Pos}(N l:Nat)(p1:l<N) :
  Turn P w K (.Tuple es k0 tpos) (Ite K l) (efp N) (N+1) (λi h=>(∃old,IsEnum h (N+1) N (i:Int) old)/\h.IsListIter N l i) where
 mem:=by simp[efp]
 obj:=λi h ⟨⟨old,h1⟩,h2⟩ c hc=>by
  simp only[efp,zq,zM,or_false] at hc;rcases hc with rfl | rfl
  ·exact⟨_,h1,λv z=>by cases(show Data.fields _=Data.cell v from z)⟩
  ·obtain⟨o,e,c,d⟩:=h2
   exact⟨o,e,λv z=>by rw[d] at z;cases z⟩
 keep:=λi h h' ⟨⟨old,h1⟩,h2⟩ k=>⟨⟨old,k _ (by simp[efp]) _ h1⟩,h2.at λo e=>k _ (by simp[efp]) o e⟩
 item:=by
  intro X hP hw hK hc i pins s σ H E I hf st hg;subst hP hw hK;obtain⟨⟨old,h1⟩,h2⟩:=st;obtain⟨xs,x,q1,ex⟩:=hg;obtain⟨its,r1,pl,_⟩:=I.list q1;obtain⟨u,eu,ru⟩:=r1.get ex;have D:=Draws.list (prog:=X.prog) (w:=X.w) (A:=X.A.in1) (I.ok.hd hc) N l (nN (by lia)) its.toArray;have hi:i<its.toArray.size:=by have:=(zB.mp eu).1;simpa using this
  refine wpAny_pyNext_enum_itemD D h1 ⟨h2,pl.isList⟩ hi (nN (by lia)) (by intro z;simp only[zq,zM,or_false] at z;rcases z with z | z<;>exact absurd z (nN (by lia))) λx' h' tk hx ho st' hT hsz hk=>⟨_,rfl,?_⟩
  have:x'=u:=by
   have e1:its[i]?=some x':=by simpa using hx
   rw[eu] at e1;exact(Option.some.inj e1).symm
  subst this;refine wpAny_letOwnedTupleGo_enum (s:={ s with heap:=h',toks:=tk+1 }) ho λh'' he' hs'=>?_;have zl:N+1<s.heap.objs.size:=zh h1;have nn:H s.heap.objs.size=none:=I.hok.fresh (zp _)
  have I1:Inv X pins σ (upd H s.heap.objs.size (.tup [.int (i:Int),x])) { s with heap:=s.heap.push { cls:=.type "tuple",data:=.seq #[.int i tk,x'] },toks:=tk+1 }:=
   I.laid (t':=tk+1) (λb o e=>ze _ e) (zp _) ⟨show 2<=zt by decide,[.int i tk,x'],.cons ⟨tk,rfl⟩ (.cons ru .nil),⟨_,zr _ rfl,rfl,_,rfl⟩⟩
  have ne:∀b∈efp N,b≠s.heap.objs.size:=λc hc=>by
   simp only[efp,zq,zM,or_false] at hc;rcases hc with rfl | rfl<;>exact nN (by lia)
  have f1:∀b∈efp N,gq X pins (upd H s.heap.objs.size (.tup [.int (i:Int),x])) b:=λc hc=>⟨by rw[ak (ne c hc)];exact(hf c hc).1,(hf c hc).2⟩
  have k2:∀c o,c∉efp N->(s.heap.push { cls:=.type "tuple",data:=.seq #[.int i tk,x'] }).get? c=some o->h''.get? c=some o:=λc o hc e=>by
   simp only[efp,zq,zM,or_false,not_or] at hc;refine hs'.extBut _ _ hc.1 ?_
   by_cases z:c=s.heap.objs.size
   ·subst z
    rw[zr _ rfl] at e;cases e;exact hT
   ·exact hk c o hc.1 hc.2 ((Heap.get?_push_ne _ _ _ z).symm.trans e)
  have I2:=dj (h':=h'') (t':=tk+1) I1 k2 f1;refine⟨.ref s.heap.objs.size,_,I2,rfl,⟨_,x,rfl,nn,rfl,λzs hz=>?_⟩,⟨⟨_,by simpa using he'⟩,st'.1.at λo e=>hs'.extBut _ o (nN (by lia)) e⟩,λc hc=>(f1 c hc).1⟩;rw[I.list_inj hz q1];exact ex
 done:=by
  intro X hP hw hK hc i pins s σ H E I hf st hg;subst hP hw hK;obtain⟨⟨old,h1⟩,h2⟩:=st;obtain⟨xs,q1,he⟩:=hg;obtain⟨its,r1,pl,_⟩:=I.list q1;have n1:=r1.length;have nx:its.toArray[i]?=none:=by simp;lia
  have ty:s.TypeIs (.ref (N+1)) "enumerate":=⟨_,h1,rfl⟩;unfold pyNext;refine zc (wpAny_attempt (wC (name:=Str.ofString "__next__") ty F.slot_enumerate_next (xt F.slot_enumerate_next ty F.entry_enumerate_next ?_ (F.args_enumerate_next_1 _))))
  change zf _ _ (field (.ref (N+1)) 2>>=_) _ _ _
  refine zc (zR h1 rfl (x:=.ref N) rfl (zc (wpAny_nextOf_list_end (I.ok.hd hc) h2 pl.isList nx λh' e he' hx'=>?_)));obtain⟨o,ho,hc'⟩:=hx';refine zc (wpAny_isInstance (T:="StopIteration") (b:=true) ⟨o,ho,hc'⟩ isSubtype_stop (zi ⟨rfl,dj (t':=s.toks) I (λc o hc e=>?_) hf⟩));simp only[efp,zq,zM,or_false,not_or] at hc;exact he' c o hc.2 e
 self:=λ_ _ _ _ _ st h=>let⟨_,e⟩:=st.1;wpAny_pyIter_enum e h
section
variable{X:Cx}{a:Expr}{pos:Pos}{fa:Ev->Option D}
def sW(K:zb)(ta:TA):TI:=λσ H R=>ta σ H λvs H1=>∃l xs,vs=[.ref l]/\SqL K H1 l xs/\R (Ite K l) H1
theorem qc{es:List Expr}{k0:Nat}{tpos p:Pos}{ta:TA}(hg:Gl X "enumerate")(hm:X.mg "enumerate" = none)(ha:PA X [a] ta)(hs:zj [a] X.env=[(false,eval a X.env)]:=by rfl) :
  PI X (.Tuple es k0 tpos) (.Call (.Name "enumerate" p) [a] [] pos) (sW X.K ta):=by
 intro pins s σ H R I h;refine Call_ (gC I hg hm boot_enumerate (w8 (thn (ha pos pins s σ H _ I h) λus s1 ⟨vs,H1,I1,r1,q1⟩=>?_) hs rfl));obtain⟨l,xs,e,q1,q⟩:=q1;subst e
 cases r1 with | cons r rr=>
  cases rr;cases r;obtain⟨its,rv,pl,hz⟩:=I1.list q1;have lt:l<s1.heap.objs.size:=let⟨_,there,_⟩:=pl.isList;zh there;refine call_enumerate_list pl.isList λh' he hit hsz hk=>wpAny_pyIter_enum he ?_;refine⟨s1.heap.objs.size+1,efp s1.heap.objs.size,_,_,H1,rfl,I1.kept (t':=s1.toks) hk,m9 s1.heap.objs.size l lt,⟨⟨_,he⟩,hit⟩,λc hc=>?_,q⟩
  have lc:s1.heap.objs.size<=c:=by
   simp only[efp,zq,zM,or_false] at hc;rcases hc with rfl | rfl<;>(show @LE.le Nat _ _ _;lia)
  exact I1.fpOk lc (I1.hok.fresh lc)
def eS:Nat->List D->List D
 |_,[]=>[]
 |n,d::ds=>.tup [.int (n:Int),d]::eS (n+1) ds
theorem gR:∀(ds:List D) (n:Nat),(eS n ds).length=ds.length
 |[],_=>rfl
 |d::ds,n=>by show(eS (n+1) ds).length+1=ds.length+1;rw[gR ds]
theorem jb:∀(ds:List D) (n i:Nat) (d:D),ds[i]?=some d->(eS n ds)[i]?=some (.tup [.int ((n+i:Nat):Int),d])
 |[],_,i,_,e=>by simp at e
 |x::ds,n,0,d,e=>by simp at e;subst e;rfl
 |x::ds,n,i+1,d,e=>by
  have:=jb ds (n+1) i d (by simpa using e);rw[show n+1+i=n+(i+1) by lia] at this;exact this
def kC(f:Ev->Option D):Ev->Option (List D):=λε=>match f ε with | some (.lst ds)=>some (eS 0 ds) | _=>none
theorem qR{es:List Expr}{k0:Nat}{tpos p:Pos}(h:DE X a fa)(hm:X.mg "enumerate" = none)(hg:Gl X "enumerate":=by rfl)(hs:zj [a] X.env=[(false,eval a X.env)]:=by rfl) :
  DI X (.Tuple es k0 tpos) (.Call (.Name "enumerate" p) [a] [] pos) (kC fa):=by
 obtain⟨t,a1,a2⟩:=h;refine⟨_,qc hg hm (ao a1 aB hs) hs,λHe G H σ ε ds R gh E ef q=>?_⟩;unfold kC at ef;split at ef
 ·rename_i ds' e1
  cases ef;refine a2 He G H σ ε _ _ gh E e1 λv G1 H1 g1 d1=>?_;obtain⟨l,xs,rfl,w1,w2⟩:=d1.lstV;refine⟨l,xs,rfl,g1.gh.seq w1,q _ G1 H1 g1 λi H2 s2=>?_⟩;have n1:=w2.length;refine⟨λhi=>?_,λhi=>⟨xs,s2.seq w1,by rw[gR] at hi;lia⟩,?_⟩
  ·rw[gR] at hi
   exact⟨xs,xs[i]'(by lia),s2.seq w1,by simp⟩
  ·rintro v H3 ⟨p',x,rfl,hn,rfl,w3⟩ d ed G2 s3 s4
   obtain⟨d',f1,f2⟩:=w2.getV (w3 xs (s2.seq w1));rw[jb ds' 0 i d' f1,Nat.zero_add] at ed;cases ed;have g:=Grow.new (.tup [.int (i:Int),x]) s4 hn;exact⟨_,g,.tup (xs:=[.int (i:Int),x]) (.inl (.inl aj)) (.cons (.int _) (.cons ((f2.mono s3).mono g.gg) .nil))⟩
 ·cases ef
end
end Dn
namespace RW2
open PySem PyProof.Rows
end RW2
namespace Dn
open PySem PySem.Spec PyProof.Rows L2 RW2
section
variable{X:Cx}{a b c:Expr}{fa fb fc:Ev->Option D}{pos:Pos}
theorem qy(l b:Addr)(items items2:Array za)(n n2:Nat)(d1 d2:Option Addr)(s1 s2:Array (Option za))(hc0:items.isEmpty=true):Meets (Builtin.«tuple.__add__» ⟨[.ref l,.ref b],[]⟩) (λ_ R s=>s.heap.get? l=some ⟨.type "tuple",d1,.seq items n,s1⟩/\s.heap.get? b=some ⟨.type "tuple",d2,.seq items2 n2,s2⟩/\R (.ok (.ret (zk b))) s):=
 .of_wp λprog w A R s h=>by
  obtain⟨hp,gs,dr,tk,os⟩:=s;obtain⟨hl,hb,h⟩:=h;have q1:=AutoSeq1.sub_tuple_tuple;have q2:=AutoSeq1.sub_list_tuple
  (wp_walk using xV hl,xV hb);exact⟨_,rfl,h⟩
def rA(K:zb):R2:=λx y H Q=>∃a b ys,x=.ref a/\y=.ref b/\SqT K H a []/\SqT K H b ys/\Q (.ref b) H
theorem qJ:OpR X (v7 .Add) (rA X.K):=by
 intro pins s σ H x y v u Q I rx ry h;obtain⟨a,b,ys,rfl,rfl,ha,hb,q⟩:=h;cases rx;cases ry;obtain⟨its,r1,⟨⟨cls,dd,data,sl⟩,ho,hc,n,hd⟩,_⟩:=I.tuple ha;obtain⟨its2,r2,⟨⟨cls2,dd2,data2,sl2⟩,ho2,hc2,n2,hd2⟩,_⟩:=I.tuple hb;simp only at hc hd hc2 hd2;subst hc hd hc2 hd2;cases r1;exact concat_meets ⟨_,ho,rfl⟩ ⟨_,ho2,rfl⟩ noFill_tuple_add seq_tuple_add xD xv (xr _ _) (qy a b #[] its2.toArray n n2 dd dd2 sl sl2 rfl) ⟨ho,ho2,.ref b,H,I,rfl,q⟩
def tY:D->D->Option D:=λx y=>match x,y with | .tup [],.tup ys=>some (.tup ys) | x,y=>CatI.tG x y
theorem qW:OpD X (v7 .Add) tY:=by
 obtain⟨r,o1,o2⟩:=tV (X:=X);refine⟨λx y H Q=>r x y H Q\/rA X.K x y H Q,λpins s σ H x y v u Q I rx ry h=>?_,λG H x y dx dy d Q gh hx hy e q=>?_⟩
 ·rcases h with h | h
  ·exact o1 pins s σ H x y v u Q I rx ry h
  ·exact qJ pins s σ H x y v u Q I rx ry h
 ·unfold tY at e
  split at e
  ·rename_i ys
   cases e;obtain⟨p,xs,rfl,h0,h1,h2⟩:=hx.tup gh;obtain⟨p',zs,rfl,h3,h4,h5⟩:=hy.tup gh;cases h2;exact .inr ⟨p,p',zs,rfl,rfl,h1,h4,q _ G H (.refl gh) (.tup h3 h5)⟩
  ·exact .inl (o2 G H x y _ _ d Q gh hx hy e q)
end
section
variable{X:Cx}
theorem qp(l b:Addr)(items items2:Array za)(n n2:Nat)(d1 d2:Option Addr)(s1 s2:Array (Option za))(hc0:items.isEmpty=false)(hc1:items2.isEmpty=true):Meets (Builtin.«tuple.__add__» ⟨[.ref l,.ref b],[]⟩) (λ_ R s=>s.heap.get? l=some ⟨.type "tuple",d1,.seq items n,s1⟩/\s.heap.get? b=some ⟨.type "tuple",d2,.seq items2 n2,s2⟩/\R (.ok (.ret (zk l))) s):=
 .of_wp λprog w A R s h=>by
  obtain⟨hp,gs,dr,tk,os⟩:=s;obtain⟨hl,hb,h⟩:=h;have q1:=AutoSeq1.sub_tuple_tuple;have q2:=AutoSeq1.sub_list_tuple
  (wp_walk using xV hl,xV hb);exact⟨_,rfl,h⟩
def rD(K:zb):R2:=λx y H Q=>∃a b z zs,x=.ref a/\y=.ref b/\SqT K H a (z::zs)/\SqT K H b []/\Q (.ref a) H
theorem qE:OpR X (v7 .Add) (rD X.K):=by
 intro pins s σ H x y v u Q I rx ry h;obtain⟨a,b,z,zs,rfl,rfl,ha,hb,q⟩:=h;cases rx;cases ry;obtain⟨its,r1,⟨⟨cls,dd,data,sl⟩,ho,hc,n,hd⟩,_⟩:=I.tuple ha;obtain⟨its2,r2,⟨⟨cls2,dd2,data2,sl2⟩,ho2,hc2,n2,hd2⟩,_⟩:=I.tuple hb;simp only at hc hd hc2 hd2;subst hc hd hc2 hd2;cases r2
 have ne:its.toArray.isEmpty=false:=by
  cases r1;rfl
 exact concat_meets ⟨_,ho,rfl⟩ ⟨_,ho2,rfl⟩ noFill_tuple_add seq_tuple_add xD xv (xr _ _) (qp a b its.toArray #[] n n2 dd dd2 sl sl2 ne rfl) ⟨ho,ho2,.ref a,H,I,rfl,q⟩
def j9:D->D->Option D:=λx y=>match x,y with | .tup (z::zs),.tup []=>some (.tup (z::zs)) | x,y=>tY x y
theorem l8:OpD X (v7 .Add) j9:=by
 obtain⟨r,o1,o2⟩:=qW (X:=X);refine⟨λx y H Q=>r x y H Q\/rD X.K x y H Q,λpins s σ H x y v u Q I rx ry h=>?_,λG H x y dx dy d Q gh hx hy e q=>?_⟩
 ·rcases h with h | h
  ·exact o1 pins s σ H x y v u Q I rx ry h
  ·exact qE pins s σ H x y v u Q I rx ry h
 ·unfold j9 at e
  split at e
  ·rename_i z zs
   cases e;obtain⟨p,xs,rfl,h0,h1,h2⟩:=hx.tup gh;obtain⟨p',ws,rfl,h3,h4,h5⟩:=hy.tup gh;cases h5;cases h2 with | cons a1 a2=>exact .inr ⟨p,p',_,_,rfl,rfl,h1,h4,q _ G H (.refl gh) (.tup h0 (.cons a1 a2))⟩
  ·exact .inl (o2 G H x y dx dy d Q gh hx hy e q)
end
end Dn
namespace Ex
open PySem PySem.Spec PyProof.Rows L2
section
variable{prog:zv}{w:zA}{A:zD}{E:za->zd->Prop}{s:zd}{K:zb}{C x:Addr}{o od:Obj}
structure XK1(K:zb)(C:Addr):Prop extends XG K C where
 cl:zo K (.ref C) "__class__" = some (some (.builtin "object.__class__"))
 gs:xF K (.builtin "object.__class__") "__get__" = some (some (.builtin "getset_descriptor.__get__"))
 tk:xT K (.builtin "object.__class__")=some true
 ob:vV K C (.type "object")=some true
theorem sy{Q:Option za->zd->Prop}(X:K.In s.heap)(c:XK1 K C)(J:PySem.W.InstAt s.heap x o C (some od))(hq:Q (some (.ref C)) { s with toks:=s.toks+1 }):zf (zg prog w) A (getAttr? (.ref x) "__class__") Q E s:=by
 have hf:PySem.W.findObj K C (some od) "__class__" = some (.bind (.builtin "getset_descriptor.__get__") (.builtin "object.__class__")):=PySem.W.findObj_data (by obtain⟨cd,hc,_⟩:=PySem.W.any_some c.dict;rw[hc];rfl) c.cl c.gs c.tk;have found:=PySem.W.looks_find (M:=zg prog w) X J hf;have inst:PySem.W.Looks (zg prog w) s.heap (isInstance (.ref x) (.type "BaseException")) true:=J.type.andThen (PySem.W.looks_mroIn X c.exc);have FG:=PySem.F.attr_ValueError.ga;obtain⟨h,g,d,t,os⟩:=s;unfold getAttr?;refine zc (wpAny_mkText (?_));unfold getAttrBy?;apply zc;apply wpAny_attempt;unfold getAttrBy;refine v9 (zc (J.type.at (zc ((xM X c.ga).at ?_))));dsimp only;rw[uM,Bool.and_false,if_neg (by decide)];unfold getAttrByItsOwn;refine zc ((PySem.W.looks_hook (mc:=.ref C) (r:=none) X c.no).at (zc (wpAny_attempt (v9 ?_))));unfold callGetattribute;rw[if_neg (by decide)];unfold boundAndCalled;rw[FG.bind];refine zc (zi (wpAny_call (codeAny_call_builtin FG.plain PySem.F.entry_bexc_ga (@PySem.W.check_slot (zg prog w) _ _ ⟨h,g,d,t+1,os⟩ "BaseException.__getattribute__" "BaseException" "__getattribute__" (.ref x) [.str "__class__" t] [] _ vc ub inst (PySem.F.args_bexc_ga (.ref x) (.str "__class__" t)) ?_))));refine zc (zi (zc (zi (zc (J.type.at (zc (found.at ?_)))))));dsimp only;show zf _ _ (holding [_] (call _ [_,.ref x,.ref C])>>=λv=>ret v) _ _ _;refine zc (v9 (wpAny_call (PySem.W.class_get (s:=⟨h,g,d,t+1,os⟩) (ox:=o) (od:=some od) X J c.ob (zi ?_))));exact PySem.W.handed_on rfl (zi hq)
theorem pE(c:XK1 K C):PySem.W.KitX K (.ref x) (.ref C) (λh=>PySem.W.InstAt h x o C (some od)) where
 ty:=λ_ _ _ I=>I.type
 it:=λM1 h1 X1 _=>by
  obtain⟨cd,c1,_⟩:=PySem.W.any_some c.dict;unfold wQ at c1;split at c1
  ·rename_i l1
   intro A1 Q1 E1 s1 k1 q1;unfold isType loadHead;have a1:=k1 _ _ (X1 _ _ l1);apply zc;exact wpAny_loadPart a1 (zi q1)
  ·cases c1
 ne:=λh1 t1 d1 i1 n1 s1 X1 e1=>by
  obtain⟨cd,c1,_⟩:=PySem.W.any_some c.dict;cases z1:(zk C==zk t1) with
  |false=>rfl
  |true=>
   cases Value.ref.inj (beq_iff_eq.mp z1);unfold wQ at c1;split at c1
   ·rename_i l1
    cases((X1 _ _ l1).symm.trans e1)
   ·cases c1
 ca:=λX I k=>sy X c I k
end
section
variable{M:Model}{A:zD}{E:za->zd->Prop}{nm q nm' q':Str}{C N B N':Addr}{bs bm bs' bm':List za}{hdct hdct':Bool}{sn sn':List Str}{sub sub':List za}{ab ab':Bool}{col col':Option Bool}{dd dd':Option Addr}{k0 k1 k2 k3 k5 j0 j1 j2 j3 j5:Option za}{newId newId':String}
theorem p_{h:Heap}{g:Array GenState}{d:Drawn}{t:Nat}{os:OsState}{e:Addr}{oe:Obj}{Q:Bool->zd->Prop}(hC:h.get? C=some (excClassObj nm q C N bs bm hdct sn sub ab col dd k0 k1 k2 k3 k5 newId))
  (hB:h.get? B=some (excClassObj nm' q' B N' bs' bm' hdct' sn' sub' ab' col' dd' j0 j1 j2 j3 j5 newId')) (he:h.get? e=some oe) (hcls:oe.cls=.ref C) (b1:bm'.contains (.type "BaseException")=true) (b2:bm.contains (.ref B)=true)
  (hq:Q true ⟨h,g,d,t,os⟩):zf M A (excMatches (.ref e) (.ref B)) Q E ⟨h,g,d,t,os⟩:=by
 have c1:(zk B::bm').contains (.type "BaseException")=true:=by rw[zS,b1];simp
 have c2:(zk C::bm).contains (.ref B)=true:=by rw[zS,b2];simp
 have nt:=tc_notTuple;unfold excMatches
 repeat (first | (with_reducible refine v8 he ?_;rw[hcls]) | with_reducible refine v8 hB ?_ | (with_reducible refine wR hB ?_;rw[c1]) | (with_reducible refine wR hC ?_;rw[c2]) | wp_step)
 exact hq
end
section
variable{X:Cx}{pins:List (Addr×Obj)}{σ:L2.St}{H:Hp}{a:Addr}
theorem qO{s0 s1:zd}{H0:Hp}{C B dx:Addr}{bm bm':List za}{c n:Str}{i:Nat}{pc hpos:Pos}{b0:Stmt}{suite:List Stmt}{R:L2.St->Hp->Prop}{Q:Flow->zd->Prop}(I0:Inv X pins σ H0 s0)(hst:X.stack=X.env::X.outer)(hfr:X.env.frame=some X.env.locals)
  (hos:s1.os=s0.os) (hba:AllBare s1.gens) (un:Un (frs X.stack) [] H0 H s0.heap s1.heap) (hok:HOk X.prog X.w H s1.heap) (x:XAt s0.heap.objs.size H s1.heap a (.ref C) dx) (k:XO X.K C bm) (kB:XO X.K B bm') (sb:bm.contains (.ref B)=true) (hg:Gl X c) (hm:X.mg c=some (.ref B)) (hdb:(c==("__debug__" : Str))=false)
  (hl:X.env.kindOf n=some .local) (hN:X.N.Nodup) (hi:X.N[i]?=some n)
  (hsuite:∀oe s3,oe.cls=.ref C->oe.dict=some dx->xq oe=true->Inv (Mk2 X a) ((a,oe)::pins) (σ.set i (some (.ref a))) H s3->
   zf (zg X.prog X.w) (Mk2 X a).A (execs (b0::suite) X.env) (λf s4=>f=.next/\∃σ4 H4,Inv (Mk2 X a) ((a,oe)::pins) σ4 H4 s4/\R σ4 H4) (λ_ _=>False) s3)
  (hQ:∀σ4 H4 s5,R σ4 H4->Inv X pins (σ4.set i none) H4 s5->Q .next s5) :
  zf (zg X.prog X.w) X.A (noteFrame (.ref a) X.env) (λ_ s2=>zf (zg X.prog X.w) X.A (setFlight (.ref a) none) (λ_ s3=>zf (zg X.prog X.w) X.A (handleBy (.ref a) X.env [.ExceptHandler (some (.Name c pc)) (some n) (b0::suite) hpos]) Q X.xe s3) X.xe s2) X.xe s1:=by
 have I1:Inv X pins σ H s1:=I0.call' hos un hok hba λb z=>absurd z (by simp);have fr:X.A.frames=some (X.env::X.outer):=I1.ok.frames.trans (congrArg some hst);have ff:s1.heap.FunFrames X.base (X.env::X.outer):=hst▸I1.stack;have free:∀b∈frs (X.env::X.outer),H b=none:=hst▸I1.stkFree;have hH:∀b,s1.heap.objs.size<=b->H b=none:=λb z=>I1.hok.fresh z;refine lM (n:=s0.heap.objs.size) (H:=H) fr ff hfr hH x λh2 m2 x2=>?_;refine gH (s:={ s1 with heap:=h2 }) (base:=X.base) (l:=X.env::X.outer) (jJ m2 _ (λ_ z=>z) ff) x2 λh3 m3 x3=>?_;have m23:=m2.trans m3
 have to:∀{h':Heap},Moves (frs (X.env::X.outer)) s0.heap.objs.size H s1.heap h'->∀t,Inv X pins σ H ⟨h',s1.gens,s1.drawn,t,s1.os⟩:=λ{h'} m t=>
  I0.call' (s':=⟨h',s1.gens,s1.drawn,t,s1.os⟩) hos (Moves.un un (hst▸m) (zp _)) (m.hok free hok) hba λb z=>absurd z (by simp)
 have nb:(zk a)≠byPass:=λz=>by cases z
 refine wpAny_handleBy_cons (codeAny_handlers_test ?_) nb;obtain⟨nm,q,N,bs,hdct,sn,sub,ab,col,dd,k0,k1,k2,k3,k5,lk⟩:=k.ob;obtain⟨nm',q',N',bs',hdct',sn',sub',ab',col',dd',j0,j1,j2,j3,j5,lkB⟩:=kB.ob;have J3:=to m23 s1.toks;have hC:=J3.kIn _ _ lk;have hB:=J3.kIn _ _ lkB;refine eZ (X:=Mk2 X a) (mh J3) hg hm ?_ hdb;obtain⟨g3,u3,oe3,vs3,T3,oT3,ts3,ea3,ec3,ed3,r3⟩:=id x3;refine p_ hC hB ea3 ec3 kB.exc sb ?_;refine codeAny_handlers_suite_as (?_);refine gH (s:=⟨h3,s1.gens,s1.drawn,s1.toks,s1.os⟩) (base:=X.base) (l:=X.env::X.outer) (jJ m23 _ (λ_ z=>z) ff) x3 λh4 m4 x4=>?_;have J4:=to (m23.trans m4) s1.toks;obtain⟨g4,u4,oe,vs,T,oT,ts,ea,ec,ed,edat,r4⟩:=id x4;have nc:xq oe=true:=by unfold xq;rw[edat]
 have P4:Inv X ((a,oe)::pins) σ H ⟨h4,s1.gens,s1.drawn,s1.toks,s1.os⟩:=J4.pins_of λp hp=>by
  rcases zq.mp hp with e | e
  ·subst e
   refine⟨ea,u4,λz=>?_,I0.nofs g4,λv z=>?_⟩
   ·have z:a=X.env.locals:=z
    exact absurd (zx I0.lt g4) (by rw[z];exact wx _)
   ·rw[edat] at z;cases z
  ·exact J4.pin p (zw _ e)
 refine fU (X:=Mk2 X a) (mh P4) hN hi (.inl hl) (v:=.ref a) rfl (λs5 I5=>?_) (.inr hl);refine wz (hsuite oe s5 ec ed nc I5) (λf s6 z=>?_) λ_ _ z=>z.elim;obtain⟨rfl,σ4,H4,I6,rr⟩:=z;have I7:Inv X ((a,oe)::pins) σ4 H4 s6:=oM I0.ok I6;refine vm (I7.pins_of λp hp=>I7.pin p (zw _ (zQ _ hp))) hl hN hi λs8 I8=>hQ σ4 H4 s8 rr I8
end
end Ex
namespace Dn
open PySem PySem.Spec PyProof.Rows L2
section
variable{X:Cx}{a dx C:Addr}{oe:Obj}
def uo(K:zb)(C a dx:Addr):List V->Hp->VK->Prop:=λxs H Q=>∃vs D b,xs=[.ref a,.ref D]/\H dx=some (.xd vs)/\zG K (.ref C) (.ref D)=some b/\Q (.bl b) H
theorem o_(g:Ex.XK1 X.K C)(hc:oe.cls=.ref C)(hd:oe.dict=some dx)(nc:xq oe=true):fq (Mk3 X a oe) (.builtin "isinstance") (uo X.K C a dx):=by
 rintro pins s σ H xs us Q I rv ⟨vs,D,b,rfl,hx,hk,q⟩
 cases rv with | cons r1 rv=>cases rv with | cons r2 rv=>
  cases rv;cases r1;cases r2;obtain⟨mA,n0,r0⟩:=I.hok dx _ hx;obtain⟨od,e,hl⟩:=i_ n0;have pin:=(I.pin (a,oe) (wM _ wG)).1;have J:PySem.W.InstAt s.heap a oe C (some od):=⟨pin,hc,nc,by rw[hd];exact e⟩;exact zF (Ex.pE g) I.kIn J hk (λz=>nomatch z) λtk=>⟨.bl b,H,I.tok tk,rfl,q⟩
end
theorem pA{X:Cx}{a:Addr}{oe:Obj}{pins:List (Addr×Obj)}{σ:L2.St}{H:Hp}{s:zd}{st:List Stmt}{t:TS}{R:L2.St->Hp->Prop}(I:Inv (Ex.Mk2 X a) ((a,oe)::pins) σ H s)(h:PSs (Mk3 X a oe) st t)(q:t ⟨R,λ_ _=>False,λ_ _=>False,λ_ _=>False⟩ σ H) :
  zf (zg X.prog X.w) (Ex.Mk2 X a).A (execs st X.env) (λf s4=>f=.next/\∃σ4 H4,Inv (Ex.Mk2 X a) ((a,oe)::pins) σ4 H4 s4/\R σ4 H4) (λ_ _=>False) s:=by
 refine wz (h pins s σ H _ (qY I) q) (λf s4 z=>?_) λ_ _ z=>z.elim;cases f with
 |next=>obtain⟨σ4,H4,I4,r⟩:=z;exact⟨rfl,σ4,H4,pW I.ok I4,r⟩
 |brk=>obtain⟨_,_,_,r⟩:=z;exact r.elim
 |cont=>obtain⟨_,_,_,r⟩:=z;exact r.elim
 |ret u=>obtain⟨_,_,_,_,_,r⟩:=z;exact r.elim
theorem oK{X:Cx}{e:Expr}:DE X e (λ_=>none):=⟨λ_ _ _=>False,λ_ _ _ _ _ _ h=>h.elim,λ_ _ _ _ _ _ _ _ _ e=>by cases e⟩
theorem o6{K:zb}{He G H:Hp}(σ:L2.St):EnvD K He G H σ (wU σ.length Sl.un):=by
 have no:∀{i:Nat} {x:Sl},(wU σ.length Sl.un)[i]?=some x->x=.un:=λ{i x} e=>by
  rw[wB] at e;split at e
  ·cases e;rfl
  ·cases e
 exact⟨by simp,λe=>(nomatch no e),λe=>(nomatch no e),λe=>(nomatch no e),λe=>(nomatch no e),λe=>(nomatch no e)⟩
section
variable{X:Cx}{elt tg iter:Expr}{sc:Scope}{cl:List (Str×Addr)}{tn fr:List Str}{ix:List Nat}{pos:Pos}{wi:TI}{g:D->Ev->Option Ev}
def vC(K:zb)(wi:TI):TE:=λσ H Q=>wi σ H λJ H'=>au H H'/\ItD K J [] H'/\∀a H'',au H' H''->H' a=none->H'' a=some (.lst [])->Q (.ref a) H''
theorem sk(hc:X.calm=true)(hi:PI X tg iter wi)(S:CompSc X sc cl tn fr ix)(ng:NoG g)(hg:∀C s₃ H₃ fp pins,DG (cxC X sc cl (tn++fr) C s₃ H₃ fp pins) tg g)(hs:∀x,xE iter X.env x=pure x:=by intro _;rfl) :
  PE X (.ListComp elt [⟨tg,iter,[],0⟩] sc pos) (vC X.K wi):=by
 intro pins s σ H Q I h;rw[eval_ListComp];refine wpAny_comprehension_free (use:=none) rfl hs S.clos S.kind S.names (thn (hi pins s σ H _ I h) λv s1 h1=>thn h1 λitv s2 h2=>?_);obtain⟨it,fp,tn',J,H2,rfl,I2,T,st2,f2,hh,itd,q⟩:=h2;refine wd (wpAny_newFunctionEnv S.nocell (by intro y hy;simp at hy) (λh₁ hns₁ hsb₁=>?_) S.kind);dsimp only at hns₁ hsb₁ ⊢;have fr2:H2 s2.heap.objs.size=none:=I2.hok.fresh (zp _)
 have I3:Inv X pins σ (upd H2 s2.heap.objs.size (.lst [])) { s2 with heap:=s2.heap.push { cls:=.type "list",dict:=none,data:=.seq ([]:List za).toArray } }:=
  I2.laid (t':=s2.toks) (o:=.lst []) (λb ob q=>ze _ q) (zp _) ⟨zE _,[],0,.nil,zr _ rfl⟩
 have fpD:∀b∈fp,b≠s2.heap.objs.size:=λb hb z=>by
  obtain⟨o,e,_⟩:=T.obj 0 _ st2 b hb;exact absurd (zh e) (by rw[z];exact wx _)
 have f3:∀b∈fp,gq X pins (upd H2 s2.heap.objs.size (.lst [])) b:=λb hb=>⟨by rw[ak (fpD b hb)];exact(f2 b hb).1,(f2 b hb).2⟩
 have lt3:∀b∈fp,b<(s2.heap.push { cls:=.type "list",dict:=none,data:=.seq ([]:List za).toArray }).objs.size:=λb hb=>by
  obtain⟨o,e,_⟩:=T.obj 0 _ st2 b hb;rw[wa];exact Nat.lt_succ_of_lt (zh e)
 have st3:tn' 0 (s2.heap.push { cls:=.type "list",dict:=none,data:=.seq ([]:List za).toArray }):=T.keep _ _ _ st2 λb hb o e=>ze _ e
 refine kI (Nv:=λ_ _ _=>True) (Nl:=λ_ _ _=>True) (λ_ _=>trivial) (λ_ _ _ _ _ _=>trivial) (λ_ _ _ _ _ _ _ _ _ _ _=>trivial) (He:=H2) (G:=H2) (H:=H2) (G1:=H2) (ε:=wU σ.length .un) (ds:=[]) (rs:=[]) (fe:=λ_=>none) (ft:=kZ)
  (s3:={ s2 with heap:=s2.heap.push { cls:=.type "list",dict:=none,data:=.seq ([]:List za).toArray } }) hc S ng hg (λ_ _ _ _ _=>mP) (λ_ _ _ _ _=>oK.p) I3 (o6 σ) (by decide) rfl ?_ T itd f3 lt3 st3 (.lay _ (au.refl _) fr2) aj fr2 fr2 hns₁ λb o e=>hsb₁.extBut b o (zC (zh e)) (ze _ e)
 intro a xs G' H' C oC m s' IX hNs hC pC gr hn gn ha hd nv;cases hd;exact⟨m,hNs,λh' hs'=>⟨.ref a,H',mx IX hC pC hs',rfl,q a H' gr.hh hn ha⟩⟩
end
def tX(K:zb):V->List V->Hp->VK->Prop:=λx vs H Q=>∃sep y p,x=.str sep/\vs=[.ref p]/\SqL K H p [.str y]/\JoinOk sep [y]=true/\Q (.str (Txt.join sep [y])) H
theorem oU{X:Cx}:MtR X "str.join" (tX X.K):=by
 rintro pins s σ H x xs v us Q I rx rs ⟨sep,y,p,rfl,rfl,hp,hj,q⟩;obtain⟨t,rfl⟩:=(show ∃t,v=Value.str sep t from rx)
 cases rs with | cons r rs=>
  cases rs;cases r;obtain⟨its,r1,pl,_⟩:=I.list hp
  cases r1 with | cons r r1=>
   cases r1;obtain⟨ty,rfl⟩:=r;exact SC.join (l:=[(y,ty)]) pl.isList rfl hj λt' k=>⟨.str (Txt.join sep [y]),H,I.tok k,⟨t',rfl⟩,q⟩
def lE(sep:Str)(f:Ev->Option (List D)):Ev->Option D:=λε=>match f ε with
 |some [.lst [.str y]]=>if JoinOk sep [y]=true then some (.str (Txt.join sep [y])) else none
 |_=>none
theorem og{X:Cx}{sep:Str}{e:Expr}{k:Nat}{p apos cpos:Pos}{f:Ev->Option (List D)}(ha:DA X [e] f)(hb:attributeBase (.Constant (.str sep) k p) "join" X.env (eval (.Constant (.str sep) k p) X.env)=eval (.Constant (.str sep) k p) X.env:=by rfl)
  (hw:((((wo cpos (zj [e] X.env)).all λx=>!x.fst)&&(backToKw cpos (keywordEach [] X.env)).all λx=>x.fst.isSome)&&decide (([e]:List Expr).length+([]:List Keyword).length+(if([]:List Keyword).isEmpty=true then 0 else 1)<30))=true:=by rfl)
  (hl:(apos.endLine==cpos.line)=true:=by rfl) (hs:zj [e] X.env=(false,eval e X.env)::zj [] X.env:=by rfl) (hp:((wo cpos (zj [] X.env)).any λx=>x.fst)=false:=by rfl) :
  DE X (.Call (.Attribute (.Constant (.str sep) k p) "join" apos) [e] [] cpos) (lE sep f):=by
 obtain⟨t,a1,a2⟩:=ha;refine⟨_,iA PySem.F.plainAttrs_str PySem.F.slot_str_join PySem.F.type_str_join oU iV a1 hb hw hl hs hp,λHe G H σ ε d Q gh E ef q=>?_⟩;unfold lE at ef;split at ef
 ·rename_i y e1
  split at ef
  ·rename_i hj
   cases ef;refine⟨rfl,a2 He G H σ ε _ _ gh E e1 λvs G1 H1 g1 d1=>?_⟩
   cases d1 with | cons d1 d2=>
    cases d2;obtain⟨p,xs,rfl,h1,h2⟩:=d1.lstV
    cases h2 with | cons h2 h3=>
     cases h3;cases h2;exact⟨sep,y,p,rfl,rfl,g1.gh.seq h1,hj,q _ G1 H1 g1 (.str _)⟩
  ·cases ef
 ·cases ef
def gO:Ev->Option Fl:=(sIf (aA gtI (aa 5) (eC (.int 0))) (aJ (fG 2 (e2 aP (aa 5) (eC (.int 1000)))) (bJ 5 (e2 fV (aa 5) (eC (.int 1000))))) bx)
def gI:Ev->Option Fl:=(aJ (bJ 3 (e2 aP (e2 bW (e2 bW (e2 cx (aa 3) (eC (.int 69621))) (e2 aP (aa 4) (eC (.int 999983)))) (eC (.int 7))) (eC (.int 2147483629)))) (aJ (bJ 5 (e2 jP (aa 4) (e2 kg (eC (.int 10)) (eC (.int 18))))) (aJ (sIf (aA ltI (aa 5) (eC (.int 0))) (fG 2 (e2 aP (aa 4) (eC (.int 1000)))) bx) (ez (dN (eC (.int 60))) (av 6) gO))))
def eA:Ev->Option Fl:=(sIf (aA ltI (bt bq (aa 2)) (aa 1)) (aJ (bJ 3 (e2 aP (e2 bW (e2 bW (e2 bW (e2 kg (aa 3) (eC (.int 3))) (e2 cx (eC (.int 40692)) (aa 3))) (e2 cx (eC (.int 7)) (aa 6))) (eC (.int 5))) (eC (.int 2147483629)))) (fG 2 (e2 aP (e2 fV (aa 3) (eC (.int 1009))) (eC (.int 1000))))) bx)
def rP:Ev->Option Fl:=(aJ (kj 2 (cT aW)) (aJ (bJ 3 (eC (.int 29))) (aJ (ez (hW (eF (eSl (aa 0) cf (a_ (eC (.int 63)))))) (av 4) gI) (aJ (ez (dN (aM 1)) (av 6) eA) (cv (eF (eSl (aa 2) cf (a_ (aa 1)))))))))
theorem ay{g g':Ev->Option Fl}{ε ε':Ev}(h:g ε=some (.nx ε')):aJ g g' ε=g' ε':=by unfold aJ;rw[h];rfl
theorem dW{g g':Ev->Option Fl}{ε:Ev}{d:D}(h:g ε=some (.rt d)):aJ g g' ε=some (.rt d):=by unfold aJ;rw[h];rfl
theorem bh{f:Ev->Option (List D)}{g:D->Ev->Option Ev}{gb:Ev->Option Fl}{ε:Ev}{ds:List D}(h:f ε=some ds):ez f g gb ε=bL g gb ds ε:=by unfold ez;rw[h];rfl
theorem di{f:Ev->Option Bool}{g g':Ev->Option Fl}{ε:Ev}(h:f ε=some true):sIf f g g' ε=g ε:=by unfold sIf;rw[h];rfl
theorem c9{f:Ev->Option Bool}{g g':Ev->Option Fl}{ε:Ev}(h:f ε=some false):sIf f g g' ε=g' ε:=by unfold sIf;rw[h];rfl
theorem cM{i:Nat}{f:Ev->Option D}{ε:Ev}{d:D}(h:f ε=some d):bJ i f ε=some (.nx (ε.set i (.dat d))):=by unfold bJ;rw[h];rfl
theorem ju{f:Ev->Option D}{ε:Ev}{d:D}(h:f ε=some d):cv f ε=some (.rt d):=by unfold cv;rw[h];rfl
theorem jn{f:Ev->Option (List D)}{ε:Ev}{ds:List D}(h:f ε=some ds):eF f ε=some (.lst ds):=by unfold eF;rw[h];rfl
theorem pI{F:List D->Option D}{fa:Ev->Option D}{ε:Ev}{x:D}(h1:fa ε=some x):ba F (ah fa aW) ε=F [x]:=by unfold ba ah;rw[h1];rfl
theorem jw{F:List D->Option D}{fa fb:Ev->Option D}{ε:Ev}{x y:D}(h1:fa ε=some x)(h2:fb ε=some y):ba F (ah fa (ah fb aW)) ε=F [x,y]:=by unfold ba ah;rw[h1,h2];rfl
theorem nM{F:List D->Option D}{g:Ev->Option (List D)}{ε:Ev}{b:Bool}(h:ba F g ε=some (.bl b)):dG (h_ (ba F g)) ε=some (!b):=by unfold dG h_;rw[h];rfl
theorem ra{fa fb:Ev->Option D}{ε:Ev}{a b:Bool}(h1:fa ε=some (.bl a))(h2:fb ε=some (.bl b)):lG fa fb ε=some (.bl (a&&b)):=by
 unfold lG;rw[h1];cases a
 ·rfl
 ·show fb ε=_;rw[h2];rfl
theorem gK{N ps:List Str}{g:Ev->Option Fl}{ds:List D}{d:D}(hl:ds.length=ps.length)(h:g (aZ N ds)=some (.rt d)):fnD N ps g ds=some d:=by
 unfold fnD;rw[if_pos hl,h]
theorem oq(xs:List D)(a b:Nat)(hb:b<=xs.length):Dn.eE xs (some (a:Int)) (some (b:Int))=(xs.drop a).take (b-a):=by
 unfold Dn.eE;rw[HT.jF,HT.jF,Nat.min_eq_left hb];rcases Nat.le_total a xs.length with h | h
 ·rw[Nat.min_eq_left h]
 ·rw[Nat.min_eq_right h,List.drop_eq_nil_of_le h,List.drop_length];simp
abbrev iL(l:List Int):List D:=l.map D.int
def Low(l:List Int):Prop:=∀v∈l,0<=v/\v<1000
theorem Low.snoc{l:List Int}{v:Int}(h:Low l)(h0:0<=v)(h1:v<1000):Low (l++[v]):=by
 intro u hu;rcases wL.mp hu with z | z
 ·exact h u z
 ·rw[xW.mp z];exact⟨h0,h1⟩
theorem nI(A M S C k:Sl)(row:List Int)(rest:Int)(hl:Low row)(hz:row.length<900000) :
  ∃row' rest',gO [A,M,.own (iL row),S,C,.dat (.int rest),k]=some (.nx [A,M,.own (iL row'),S,C,.dat (.int rest'),k])/\Low row'/\row'.length<=row.length+1:=by
 by_cases h:0<rest
 ·refine⟨row++[rest%1000],rest/1000,?_,hl.snoc (by lia) (by lia),by simp⟩
  have:row.length<1000000:=by lia
  simp[gO,sIf,aA,asB,e2,gtI,cN,aa,eC,aJ,fG,bJ,aP,fV,nk,h,this,iL]
 ·refine⟨row,rest,?_,hl,by simp⟩
  simp[gO,sIf,aA,asB,e2,gtI,cN,aa,eC,bx,h]
theorem lS(A M S C:Sl):∀(l:List D) (k:Sl) (row:List Int) (rest:Int),Low row->row.length+l.length<900000->
  ∃row' rest' k',bL (av 6) gO l [A,M,.own (iL row),S,C,.dat (.int rest),k]=some (.nx [A,M,.own (iL row'),S,C,.dat (.int rest'),k'])/\Low row'/\row'.length<=row.length+l.length
 |[],k,row,rest,hl,hz=>⟨row,rest,k,rfl,hl,by simp⟩
 |d::l,k,row,rest,hl,hz=>by
  simp only[zK] at hz;obtain⟨row1,rest1,e1,l1,z1⟩:=nI A M S C (.dat d) row rest hl (by lia);obtain⟨row2,rest2,k2,e2,l2,z2⟩:=lS A M S C l (.dat d) row1 rest1 l1 (by lia);refine⟨row2,rest2,k2,?_,l2,by simp only[zK];lia⟩;unfold bL;have t:av 6 d [A,M,.own (iL row),S,C,.dat (.int rest),k]=some [A,M,.own (iL row),S,C,.dat (.int rest),.dat d]:=rfl;rw[t];show(gO _).bind _=_;rw[e1];exact e2
theorem nJ(A M r k:Sl)(row:List Int)(seed cell:Int)(hl:Low row)(hs:0<=seed/\seed<2147483629)(hz:row.length<800000) :
  ∃row' seed' r' k',gI [A,M,.own (iL row),.dat (.int seed),.dat (.int cell),r,k]=some (.nx [A,M,.own (iL row'),.dat (.int seed'),.dat (.int cell),r',k'])/\Low row'/\(0<=seed'/\seed'<2147483629)/\row'.length<=row.length+61:=by
 have key:∃row1,sIf (aA ltI (aa 5) (eC (.int 0))) (fG 2 (e2 aP (aa 4) (eC (.int 1000)))) bx [A,M,.own (iL row),.dat (.int ((seed*69621+cell%999983+7)%2147483629)),.dat (.int cell),.dat (.int (cell-1000000000000000000)),k] =
   some (.nx [A,M,.own (iL row1),.dat (.int ((seed*69621+cell%999983+7)%2147483629)),.dat (.int cell),.dat (.int (cell-1000000000000000000)),k])/\Low row1/\row1.length<=row.length+1:=by
  by_cases h:cell-1000000000000000000<0
  ·refine⟨row++[cell%1000],?_,hl.snoc (by lia) (by lia),by simp⟩
   have h2:row.length<1000000:=by lia
   simp[sIf,aA,asB,e2,ltI,cN,aa,eC,fG,aP,h,h2,iL]
  ·refine⟨row,?_,hl,by simp⟩
   simp[sIf,aA,asB,e2,ltI,cN,aa,eC,bx,h]
 obtain⟨row1,e1,l1,z1⟩:=key;obtain⟨row2,rest2,k2,e2',l2,z2⟩:=lS A M (.dat (.int ((seed*69621+cell%999983+7)%2147483629))) (.dat (.int cell)) (ck 60) k row1 (cell-1000000000000000000) l1 (by simp[ck];lia);refine⟨row2,(seed*69621+cell%999983+7)%2147483629,.dat (.int rest2),k2,?_,l2,by lia,by simp[ck] at z2;lia⟩
 have s1:bJ 3 (e2 aP (e2 bW (e2 bW (e2 cx (aa 3) (eC (.int 69621))) (e2 aP (aa 4) (eC (.int 999983)))) (eC (.int 7))) (eC (.int 2147483629))) [A,M,.own (iL row),.dat (.int seed),.dat (.int cell),r,k] =
   some (.nx [A,M,.own (iL row),.dat (.int ((seed*69621+cell%999983+7)%2147483629)),.dat (.int cell),r,k]):=by
  simp[bJ,e2,aP,bW,cx,cN,aa,eC,i0]
 have s2:bJ 5 (e2 jP (aa 4) (e2 kg (eC (.int 10)) (eC (.int 18)))) [A,M,.own (iL row),.dat (.int ((seed*69621+cell%999983+7)%2147483629)),.dat (.int cell),r,k] =
   some (.nx [A,M,.own (iL row),.dat (.int ((seed*69621+cell%999983+7)%2147483629)),.dat (.int cell),.dat (.int (cell-1000000000000000000)),k]):=by
  simp[bJ,e2,jP,kg,cN,aa,eC,nF]
 have r60:dN (eC (.int 60)) [A,M,.own (iL row1),.dat (.int ((seed*69621+cell%999983+7)%2147483629)),.dat (.int cell),.dat (.int (cell-1000000000000000000)),k]=some (ck 60):=rfl;unfold gI;rw[ay s1,ay s2,ay e1,bh r60];exact e2'
theorem kF(A M:Sl):∀(l:List Int) (c r k:Sl) (row:List Int) (seed:Int),Low row->(0<=seed/\seed<2147483629)->row.length+61*l.length<800000->
  ∃row' seed' c' r' k',bL (av 4) gI (iL l) [A,M,.own (iL row),.dat (.int seed),c,r,k]=some (.nx [A,M,.own (iL row'),.dat (.int seed'),c',r',k'])/\Low row'/\(0<=seed'/\seed'<2147483629)/\row'.length<=row.length+61*l.length
 |[],c,r,k,row,seed,hl,hs,hz=>⟨row,seed,c,r,k,rfl,hl,hs,by simp⟩
 |v::l,c,r,k,row,seed,hl,hs,hz=>by
  simp only[zK] at hz;obtain⟨row1,seed1,r1,k1,e1,l1,h1,z1⟩:=nJ A M r k row seed v hl hs (by lia);obtain⟨row2,seed2,c2,r2,k2,e2,l2,h2,z2⟩:=kF A M l (.dat (.int v)) r1 k1 row1 seed1 l1 h1 (by lia);refine⟨row2,seed2,c2,r2,k2,?_,l2,h2,by simp only[zK];lia⟩;show bL (av 4) gI (.int v::iL l) _=_;unfold bL;have t:av 4 (.int v) [A,M,.own (iL row),.dat (.int seed),c,r,k]=some [A,M,.own (iL row),.dat (.int seed),.dat (.int v),r,k]:=rfl;rw[t];show(gI _).bind _=_;rw[e1];exact e2
theorem m_(A c r:Sl)(m:Nat)(row:List Int)(seed:Int)(j:Nat)(hl:Low row)(hs:0<=seed/\seed<2147483629)(hz:row.length<900000) :
  ∃row' seed',eA [A,.dat (.int (m:Int)),.own (iL row),.dat (.int seed),c,r,.dat (.int (j:Int))]=some (.nx [A,.dat (.int (m:Int)),.own (iL row'),.dat (.int seed'),c,r,.dat (.int (j:Int))])/\Low row'/\(0<=seed'/\seed'<2147483629)/\row'.length<=row.length+1/\(row.length<m->row'.length=row.length+1)/\(m<=row.length->row'.length=row.length):=by
 by_cases h:row.length<m
 ·refine⟨row++[(seed ^ 3+40692*seed+7*(j:Int)+5)%2147483629/1009%1000],(seed ^ 3+40692*seed+7*(j:Int)+5)%2147483629,?_,hl.snoc (by lia) (by lia),by lia,by simp,by simp,by lia⟩
  have h2:(row.length:Int)<(m:Int):=by lia
  have h3:row.length<1000000:=by lia
  have h4:seed.natAbs<18446744073709551616:=by lia
  simp[eA,sIf,aA,asB,e2,ltI,cN,aa,eC,bt,bq,aJ,fG,bJ,aP,fV,kg,bW,cx,nk,nF,i0,h2,h3,h4,h,iL]
 ·refine⟨row,seed,?_,hl,hs,by lia,by lia,by lia⟩
  have h2:¬ (row.length:Int)<(m:Int):=by lia
  simp[eA,sIf,aA,asB,e2,ltI,cN,aa,eC,bt,bq,bx,h]
theorem jg(A c r:Sl)(m:Nat):∀(l:List Nat) (k:Sl) (row:List Int) (seed:Int),Low row->(0<=seed/\seed<2147483629)->row.length+l.length<900000->m<=row.length+l.length->
  ∃row' seed' k',bL (av 6) eA (l.map λ(i:Nat)=>D.int (i:Int)) [A,.dat (.int (m:Int)),.own (iL row),.dat (.int seed),c,r,k]=some (.nx [A,.dat (.int (m:Int)),.own (iL row'),.dat (.int seed'),c,r,k'])/\Low row'/\m<=row'.length/\row'.length<900000
 |[],k,row,seed,hl,hs,hz,hm=>⟨row,seed,k,rfl,hl,by simpa using hm,by simpa using hz⟩
 |j::l,k,row,seed,hl,hs,hz,hm=>by
  simp only[zK] at hz hm;obtain⟨row1,seed1,e1,l1,h1,z1,z2,z3⟩:=m_ A c r m row seed j hl hs (by lia);obtain⟨row2,seed2,k2,e2,l2,h2,h3⟩:=jg A c r m l (.dat (.int (j:Int))) row1 seed1 l1 h1 (by lia) (by lia);refine⟨row2,seed2,k2,?_,l2,h2,h3⟩;show bL (av 6) eA (.int (j:Int)::l.map λ(i:Nat)=>D.int (i:Int)) _=_;unfold bL;have t:av 6 (.int (j:Int)) [A,.dat (.int (m:Int)),.own (iL row),.dat (.int seed),c,r,k]=some [A,.dat (.int (m:Int)),.own (iL row),.dat (.int seed),c,r,.dat (.int (j:Int))]:=rfl;rw[t];show(eA _).bind _=_;rw[e1];exact e2
theorem ic(xs:List D)(n:Nat):eE xs none (some (n:Int))=xs.take n:=by
 unfold eE;rw[HT.pk,HT.jF,List.drop_zero,Nat.sub_zero];rcases Nat.le_total n xs.length with h | h
 ·rw[Nat.min_eq_left h]
 ·rw[Nat.min_eq_right h,List.take_length,List.take_of_length_le h]
theorem pX(ns:List Int)(hn:ns.length<=63)(m:Nat)(hm:m<=5000) :
  ∃row:List Int,rP [.dat (.lst (iL ns)),.dat (.int (m:Int)),.un,.un,.un,.un,.un]=some (.rt (.lst (iL row)))/\row.length=m/\Low row:=by
 have hk:(iL ns).take 63=iL ns:=List.take_of_length_le (by simpa[iL] using hn);obtain⟨row1,seed1,c1,r1,k1,e1,l1,h1,z1⟩:=kF (.dat (.lst (iL ns))) (.dat (.int (m:Int))) ns .un .un .un [] 29 (by intro v hv;cases hv) (by decide) (by simp;lia);obtain⟨row2,seed2,k2,e2',l2,h2,h3⟩:=jg (.dat (.lst (iL ns))) c1 r1 m (vX m) k1 row1 seed1 l1 h1 (by simp at z1 ⊢;lia) (by simp);refine⟨row2.take m,?_,by rw[List.length_take];lia,λv hv=>l2 v (List.mem_of_mem_take hv)⟩;have s1:kj 2 (cT aW) [.dat (.lst (iL ns)),.dat (.int (m:Int)),.un,.un,.un,.un,.un]=some (.nx [.dat (.lst (iL ns)),.dat (.int (m:Int)),.own (iL []),.un,.un,.un,.un]):=rfl;have s2:bJ 3 (eC (.int 29)) [.dat (.lst (iL ns)),.dat (.int (m:Int)),.own (iL []),.un,.un,.un,.un]=some (.nx [.dat (.lst (iL ns)),.dat (.int (m:Int)),.own (iL []),.dat (.int 29),.un,.un,.un]):=rfl
 have s3:hW (eF (eSl (aa 0) cf (a_ (eC (.int 63))))) [.dat (.lst (iL ns)),.dat (.int (m:Int)),.own (iL []),.dat (.int 29),.un,.un,.un]=some (iL ns):=by
  show hW _ _=_;have:eSl (aa 0) cf (a_ (eC (.int 63))) [.dat (.lst (iL ns)),.dat (.int (m:Int)),.own (iL []),.dat (.int 29),.un,.un,.un]=some (eE (iL ns) none (some ((63:Nat):Int))):=rfl;unfold hW eF;rw[this,ic,hk];rfl
 have s4:dN (aM 1) [.dat (.lst (iL ns)),.dat (.int (m:Int)),.own (iL row1),.dat (.int seed1),c1,r1,k1]=some (ck m):=by
  have:(m:Int)<1000000/\-1000000<(m:Int):=by lia
  unfold dN;show(if(m:Int)<1000000/\-1000000<(m:Int) then some (ck (m:Int).toNat) else none)=_;rw[if_pos this,Int.toNat_natCast]
 have s5:cv (eF (eSl (aa 2) cf (a_ (aa 1)))) [.dat (.lst (iL ns)),.dat (.int (m:Int)),.own (iL row2),.dat (.int seed2),c1,r1,k2]=some (.rt (.lst (iL (row2.take m)))):=by
  have:eSl (aa 2) cf (a_ (aa 1)) [.dat (.lst (iL ns)),.dat (.int (m:Int)),.own (iL row2),.dat (.int seed2),c1,r1,k2]=some (eE (iL row2) none (some (m:Int))):=rfl;unfold cv eF;rw[this,ic];simp[iL,List.map_take]
 have e2'':bL (av 6) eA (ck m) [.dat (.lst (iL ns)),.dat (.int (m:Int)),.own (iL row1),.dat (.int seed1),c1,r1,k1]=_:=e2';unfold rP;rw[ay s1,ay s2,ay (by rw[bh s3];exact e1),ay (by rw[bh s4];exact e2'')];exact s5
abbrev tg2:D->Ev->Option Ev:=dh 2 (aC (av 0) (aC (av 1) bF))
def gZ(rec:List D->Option D):Ev->Option Fl:=(aJ (sIf (dE (h_ (dg (cY "list") (aa 1))) (h_ (dg (cY "tuple") (aa 1)))) (aJ (sIf (dE (aA d6 (dg (cY "list") (aa 0)) (dg (cY "list") (aa 1))) (aA d6 (dg (cY "tuple") (aa 0)) (dg (cY "tuple") (aa 1)))) (cv (eC (.bl false))) bx) (cv (lG (e2 gu (bt bq (aa 0)) (bt bq (aa 1))) (ba jZ (ah (eF (eLC (mX (ah (aM 0) (ah (aM 1) aW))) 2 [] tg2 kZ (ba rec (ah (aM 0) (ah (aM 1) aW))))) aW))))) bx) (aJ (sIf (dE (aA (isD false) (aa 0) (eC .non)) (aA (isD false) (aa 1) (eC .non))) (cv (lG (e2 (isD false) (aa 0) (eC .non)) (e2 (isD false) (aa 1) (eC .non)))) bx) (aJ (sIf (dE (aA d6 (dg (cY "bool") (aa 0)) (dg (cY "bool") (aa 1))) (aA d6 (dg (cY "int") (aa 0)) (dg (cY "int") (aa 1)))) (cv (eC (.bl false))) bx) (cv (e2 gu (aa 0) (aa 1))))))
def FrS:Nat->List D->Option D
 |0=>λ_=>none
 |n+1=>fnD ["a","b"] ["a","b"] (gZ (FrS n))
def OkS:Nat->D->Prop
 |0,_=>False
 |n+1,.tup ds=>ds.length<1000000/\∀d∈ds,OkS n d
 |n+1,.lst ds=>ds.length<1000000/\∀d∈ds,OkS n d
 |_+1,.dic _=>False
 |_+1,_=>True
theorem mE{rec:List D->Option D}:∀(ds:List D) (s0 s1:Sl),(∀d∈ds,rec [d,d]=some (.bl true))->lcD tg2 kZ (ba rec (ah (aM 0) (ah (aM 1) aW))) (iJ ds ds) [s0,s1]=some (ds.map λ_=>D.bl true)
 |[],_,_,_=>rfl
 |d::ds,s0,s1,h=>by
  show((rec [d,d]).bind λv=>(lcD tg2 kZ (ba rec (ah (aM 0) (ah (aM 1) aW))) (iJ ds ds) [.dat d,.dat d]).bind λr=>some (v::r))=_;rw[h d (by simp),mE ds _ _ λe he=>h e (by simp[he])];rfl
theorem kn:∀ds:List D,hU (ds.map λ_=>D.bl true)=some (ds.map λ_=>true)
 |[]=>rfl
 |d::ds=>by show(hU (ds.map λ_=>D.bl true)).bind _=_;rw[kn ds];rfl
theorem sV(ds:List D):jZ [.lst (ds.map λ_=>D.bl true)]=some (.bl true):=by
 show(hU (ds.map λ_=>D.bl true)).bind _=_;rw[kn];show some (D.bl ((ds.map λ_=>true).all id))=_;simp
theorem kz{rec:List D->Option D}(d:D)(ds:List D)(hd:d=.tup ds\/d=.lst ds)(hz:ds.length<1000000)(h:∀e∈ds,rec [e,e]=some (.bl true)):gZ rec [.dat d,.dat d]=some (.rt (.bl true)):=by
 have c2:eF (eLC (mX (ah (aM 0) (ah (aM 1) aW))) 2 [] tg2 kZ (ba rec (ah (aM 0) (ah (aM 1) aW)))) [.dat d,.dat d]=some (.lst (ds.map λ_=>D.bl true)):=by
  refine jn ?_;rw[tu (ds:=iJ ds ds) (by rcases hd with rfl | rfl<;>rfl) (by simpa[iJ] using hz)];exact mE ds _ _ h
 have c1:e2 gu (bt bq (aa 0)) (bt bq (aa 1)) [.dat d,.dat d]=some (.bl true):=by
  have:e2 gu (bt bq (aa 0)) (bt bq (aa 1)) [.dat d,.dat d]=some (.bl (decide ((ds.length:Int)=(ds.length:Int)))):=by rcases hd with rfl | rfl<;>rfl
  rw[this];simp
 unfold gZ;refine dW ?_;rw[di (by rcases hd with rfl | rfl<;>rfl),ay (ε':=[.dat d,.dat d]) (by rcases hd with rfl | rfl<;>rfl)];exact ju (ra c1 ((pI c2).trans (sV ds)))
theorem jQ:∀(n:Nat) (d:D),OkS n d->FrS n [d,d]=some (.bl true)
 |0,_,h=>h.elim
 |n+1,d,h=>by
  show fnD ["a","b"] ["a","b"] (gZ (FrS n)) [d,d]=_;refine gK rfl ?_;show gZ (FrS n) [.dat d,.dat d]=_;cases d with
  |non=>rfl
  |bl b=>cases b<;>rfl
  |int i=>
   have:gZ (FrS n) [.dat (.int i),.dat (.int i)]=some (.rt (.bl (decide (i=i)))):=rfl;rw[this];simp
  |str x=>
   have:gZ (FrS n) [.dat (.str x),.dat (.str x)]=some (.rt (.bl (decide (x=x)))):=rfl;rw[this];simp
  |dic ds=>exact h.elim
  |tup ds=>exact kz _ ds (.inl rfl) h.1 λe he=>jQ n e (h.2 e he)
  |lst ds=>exact kz _ ds (.inr rfl) h.1 λe he=>jQ n e (h.2 e he)
theorem gJ{f:D->D->Option Bool}:∀(ds:List D),(∀d∈ds,f d d=some true)->gN f ds ds=some true
 |[],_=>rfl
 |d::ds,h=>by
  show((f d d).bind λa=>(gN f ds ds).bind λb=>some (a&&b))=_;rw[h d (by simp),gJ ds λe he=>h e (by simp[he])];rfl
def OkQ:Nat->D->Prop
 |n+1,.tup ds=>∀d∈ds,OkQ n d
 |n+1,.lst ds=>∀d∈ds,OkQ n d
 |0,.tup _=>False
 |0,.lst _=>False
 |_,.dic _=>False
 |_,_=>True
theorem iC:∀(n:Nat) (d:D),OkQ n d->bV n d d=some true
 |0,.non,_=>rfl
 |0,.bl b,_=>by simp[bV,eqS]
 |0,.int i,_=>by simp[bV,eqS]
 |0,.str x,_=>by simp[bV,eqS]
 |0,.tup _,h=>h.elim
 |0,.lst _,h=>h.elim
 |0,.dic _,h=>h.elim
 |n+1,.dic _,h=>h.elim
 |n+1,.non,_=>rfl
 |n+1,.bl b,_=>by simp[bV,eqS]
 |n+1,.int i,_=>by simp[bV,eqS]
 |n+1,.str x,_=>by simp[bV,eqS]
 |n+1,.tup ds,h=>by
  show(gN (bV n) ds ds).map _=_;rw[gJ ds λe he=>iC n e (h e he)];simp
 |n+1,.lst ds,h=>by
  show(if ds.length=ds.length then gN (bV n) ds ds else some false)=_;rw[if_pos rfl,gJ ds λe he=>iC n e (h e he)]
theorem jd{d:D}(h:OkQ 9 d):d6 d d=some (.bl false):=by unfold d6;rw[iC 9 d h];rfl
def bX(f:Nat->Int)(n:Nat):List Int:=(vX n).map f
theorem s_(row:List Int):row=bX (λj=>row.getD j 0) row.length:=by
 apply xG;intro i;unfold bX;rw[zH]
 by_cases h:i<row.length
 ·simp[h,List.getElem?_range]
 ·have h':row.length<=i:=by lia
  rw[List.getElem?_eq_none h',List.getElem?_eq_none (by simpa using h')];rfl
theorem sF{row:List Int}{n:Nat}(hl:row.length=n)(hL:Low row):∃f:Nat->Int,row=bX f n/\∀j,0<=f j/\f j<1000:=by
 refine⟨λj=>row.getD j 0,by rw[<-hl];exact s_ row,λj=>?_⟩
 by_cases h:j<row.length
 ·have:row.getD j 0=row[j]:=by simp[wF,h]
  show 0<=row.getD j 0/\row.getD j 0<1000;rw[this];exact hL _ (List.getElem_mem h)
 ·have:row.getD j 0=0:=by simp[wF,List.getElem?_eq_none (show row.length<=j by lia)]
  show 0<=row.getD j 0/\row.getD j 0<1000;rw[this];lia
theorem tO{i j:Int}(h:-(2 ^ 64)<j/\j<2 ^ 64):cx (.int i) (.int j)=some (.int (i*j)):=by
 have c:i0 i j:=xb h;simp[cx,cN,c]
theorem rn{i j:Int}(h:-(2 ^ 64)<i/\i<2 ^ 64):cx (.int i) (.int j)=some (.int (i*j)):=by
 have c:i0 i j:=zV h;simp[cx,cN,c]
theorem pH{i j:Int}(h:0<j):aP (.int i) (.int j)=some (.int (i%j)):=by
 simp[aP,cN,h]
theorem uf{op:D->D->Option D}{fa fb:Ev->Option D}{ε:Ev}{x y:D}(h1:fa ε=some x)(h2:fb ε=some y):e2 op fa fb ε=op x y:=by unfold e2;rw[h1,h2];rfl
theorem gi{g:D->Ev->Option Ev}{gb:Ev->Option Fl}(P:Nat->Ev->Prop):∀(ds:List D) (n:Nat),(∀i d,ds[i]?=some d->∀ε,P (n+i) ε->∃ε1 ε2,g d ε=some ε1/\(gb ε1=some (.nx ε2)\/gb ε1=some (.ct ε2))/\P (n+i+1) ε2)->
  ∀ε,P n ε->∃ε',bL g gb ds ε=some (.nx ε')/\P (n+ds.length) ε'
 |[],n,_,ε,h=>⟨ε,rfl,h⟩
 |d::ds,n,st,ε,h=>by
  obtain⟨ε1,ε2,e1,e2,h2⟩:=st 0 d rfl ε h
  obtain⟨ε3,e3,h3⟩:=gi P ds (n+1) (λi d' hd ε h'=>by
   have:=st (i+1) d' hd ε (by rw[show n+(i+1)=n+1+i by lia];exact h');rw[show n+(i+1)+1=n+1+i+1 by lia] at this
   exact this) ε2 h2
  refine⟨ε3,?_,by rw[zK,show n+(ds.length+1)=n+1+ds.length by lia];exact h3⟩;show(g d ε).bind _=_;rw[e1];show(gb ε1).bind _=_;rcases e2 with e2 | e2<;>(rw[e2];exact e3)
theorem nE{g:D->Ev->Option Ev}{gb:Ev->Option Fl}(P:Ev->Prop){ds:List D}(st:∀d∈ds,∀ε,P ε->∃ε1 ε2,g d ε=some ε1/\(gb ε1=some (.nx ε2)\/gb ε1=some (.ct ε2))/\P ε2){ε:Ev}(h:P ε):∃ε',bL g gb ds ε=some (.nx ε')/\P ε':=
 gi (λ_=>P) ds 0 (λi d hd ε h=>st d (xj hd) ε h) ε h
theorem iy{n i:Nat}{d:D}(h:(ck n)[i]?=some d):d=.int (i:Int)/\i<n:=by
 unfold ck at h;rw[zH] at h;obtain⟨m,em,rfl⟩:=aX h;obtain⟨hm,em⟩:=zB.mp em;rw[List.getElem_range] at em;subst em;exact⟨rfl,by simpa using hm⟩
@[simp] theorem rngD_len (n:Nat):(ck n).length=n:=by simp[ck]
theorem ik{f:Ev->Option D}{ε:Ev}{j:Int}(h:f ε=some (.int j))(h1:0<=j)(h2:j<1000000):dN f ε=some (ck j.toNat):=by
 unfold dN;rw[h];show(if j<1000000/\-1000000<j then some (ck j.toNat) else none)=_;rw[if_pos (by lia)]
theorem l_{i:Nat}{f:Ev->Option D}{ε:Ev}{d:D}{ds:List D}(h:f ε=some d)(hi:ε[i]?=some (.own ds))(hl:ds.length<1000000):fG i f ε=some (.nx (ε.set i (.own (ds++[d])))):=by
 unfold fG;rw[h];show(match ε[i]? with | some (.own ds)=>_ | _=>none)=_;rw[hi];show(if ds.length<1000000 then _ else none)=_;rw[if_pos hl]
theorem pz(f:Nat->Int)(m a n:Nat)(h:a+n<=m):Dn.eE (iL (bX f m)) (some (a:Int)) (some ((a+n:Nat):Int))=iL (bX (λj=>f (a+j)) n):=by
 rw[oq _ _ _ (by simp[iL,bX];lia)];unfold iL bX;rw[show a+n-a=n by lia,<-List.map_drop,<-List.map_take,<-List.map_drop,<-List.map_take];congr 1;apply xG;intro i;rw[zH,zH]
 by_cases hi:i<n
 ·rw[List.getElem?_take,if_pos hi,List.getElem?_drop]
  simp[List.getElem?_range,hi,show a+i<m by lia]
 ·rw[List.getElem?_take,if_neg hi]
  simp[List.getElem?_range,hi]
theorem a9{op:D->D->Option D}{fa fb:Ev->Option D}{ε:Ev}{x y z:D}(h1:fa ε=some x)(h2:fb ε=some y)(h3:op x y=some z):e2 op fa fb ε=some z:=(uf h1 h2).trans h3
theorem bp{f:Ev->Option D}{g:Ev->Option (List D)}{ε:Ev}{x:D}{xs:List D}(h1:f ε=some x)(h2:g ε=some xs):ah f g ε=some (x::xs):=by unfold ah;rw[h1,h2];rfl
theorem jV{ε:Ev}:aW ε=some []:=rfl
theorem mq{g:Ev->Option (List D)}{ε:Ev}{ds:List D}(h1:g ε=some ds)(h2:ds.length<=1000):j6 g ε=some (.tup ds):=by unfold j6;rw[h1];show(if ds.length<=1000 then some (D.tup ds) else none)=_;rw[if_pos h2]
theorem pJ{F:List D->Option D}{g:Ev->Option (List D)}{ε:Ev}{ds:List D}{d:D}(h1:g ε=some ds)(h2:F ds=some d):ba F g ε=some d:=by unfold ba;rw[h1];exact h2
theorem cQ{op:D->D->Option D}{fa fb:Ev->Option D}{ε:Ev}{x y:D}{b:Bool}(h1:fa ε=some x)(h2:fb ε=some y)(h3:op x y=some (.bl b)):aA op fa fb ε=some b:=by unfold aA;rw[a9 h1 h2 h3];rfl
theorem qQ{F:List D->Option D}{g:Ev->Option (List D)}{ε:Ev}{b:Bool}(h:ba F g ε=some (.bl b)):h_ (ba F g) ε=some b:=by unfold h_;rw[h];rfl
theorem oP{n:Nat}(l:List Int)(h:l.length<1000000):OkS (n+2) (.lst (iL l)):=⟨by simpa using h,λd hd=>by
 obtain⟨i,_,rfl⟩:=List.mem_map.mp hd
 exact trivial⟩
section
variable(f:Nat->Int)(b0 b1 hour:Int)
theorem lV:∀l:List Int,nh (iL l)=some (l.map V.int)
 |[]=>rfl
 |i::l=>by show(nh (iL l)).bind _=_;rw[lV l];rfl
end
end Dn
namespace Lw
open PySem PySem.Spec PyProof.Rows L2 Dn
def top(i:Nat):Stmt:=PySem.Challenge.pw_ballastbook_k42_books_opened.main.body.getD i (.Pass ⟨0,0,0,0⟩)
abbrev jL(Z:Wq):Prop:=∃C bm,OkE Z "BadHeight" C bm
abbrev lg(Z:Wq):Prop:=∃C bm,OkE Z "BadHour" C bm
abbrev kc(Z:Wq):Prop:=∃C bm,OkE Z "BadPlace" C bm
abbrev qg(Z:Wq):Prop:=∃C bm,OkE Z "Full" C bm
abbrev oX(Z:Wq):Prop:=∃C bm,OkE Z "Twice" C bm
abbrev iE:List Str:=["_law_script","_law_many","_law_row","_law_seed","_law_cell","_law_rest","_law_k"]
abbrev bY:List Str:=["_law_script","_law_many"]
def fY:Ev->Option Fl:=(sIf (aA gtI (aa 5) (eC (.int 0))) (aJ (fG 2 (e2 aP (aa 5) (eC (.int 1000)))) (bJ 5 (e2 fV (aa 5) (eC (.int 1000))))) bx)
def fT:Ev->Option Fl:=(aJ (bJ 3 (e2 aP (e2 bW (e2 bW (e2 cx (aa 3) (eC (.int 69621))) (e2 aP (aa 4) (eC (.int 999983)))) (eC (.int 7))) (eC (.int 2147483629)))) (aJ (bJ 5 (e2 jP (aa 4) (e2 kg (eC (.int 10)) (eC (.int 18))))) (aJ (sIf (aA ltI (aa 5) (eC (.int 0))) (fG 2 (e2 aP (aa 4) (eC (.int 1000)))) bx) (ez (dN (eC (.int 60))) (av 6) (fY)))))
def fR:Ev->Option Fl:=(sIf (aA ltI (bt bq (aa 2)) (aa 1)) (aJ (bJ 3 (e2 aP (e2 bW (e2 bW (e2 bW (e2 kg (aa 3) (eC (.int 3))) (e2 cx (eC (.int 40692)) (aa 3))) (e2 cx (eC (.int 7)) (aa 6))) (eC (.int 5))) (eC (.int 2147483629)))) (fG 2 (e2 aP (e2 fV (aa 3) (eC (.int 1009))) (eC (.int 1000))))) bx)
def eP:Ev->Option Fl:=(aJ (kj 2 (cT aW)) (aJ (bJ 3 (eC (.int 29))) (aJ (ez (hW (eF (eSl (aa 0) cf (a_ (eC (.int 63)))))) (av 4) (fT)) (aJ (ez (dN (aM 1)) (av 6) (fR)) (cv (eF (eSl (aa 2) cf (a_ (aa 1)))))))))
def c_:List D->Option D:=fnD iE bY eP
abbrev eJ(Z:Wq):Prop:=OkD Z "_law_numbers" (top 71) bY 1 c_
abbrev gX:List Str:=["_law_found","_law_due"]
abbrev bw:List Str:=["_law_found","_law_due"]
def gS(rec:List D->Option D):Ev->Option Fl:=(aJ (sIf (dE (h_ (dg (cY "list") (aa 1))) (h_ (dg (cY "tuple") (aa 1)))) (aJ (sIf (dE (aA d6 (dg (cY "list") (aa 0)) (dg (cY "list") (aa 1))) (aA d6 (dg (cY "tuple") (aa 0)) (dg (cY "tuple") (aa 1)))) (cv (eC (.bl false))) bx) (cv (lG (e2 gu (bt bq (aa 0)) (bt bq (aa 1))) (ba jZ (ah (eF (eLC (mX (ah (aM 0) (ah (aM 1) aW))) 2 [] (dh 2 (aC (av 0) (aC (av 1) bF))) kZ (ba rec (ah (aM 0) (ah (aM 1) aW))))) aW))))) bx) (aJ (sIf (dE (aA (isD false) (aa 0) (eC .non)) (aA (isD false) (aa 1) (eC .non))) (cv (lG (e2 (isD false) (aa 0) (eC .non)) (e2 (isD false) (aa 1) (eC .non)))) bx) (aJ (sIf (dE (aA d6 (dg (cY "bool") (aa 0)) (dg (cY "bool") (aa 1))) (aA d6 (dg (cY "int") (aa 0)) (dg (cY "int") (aa 1)))) (cv (eC (.bl false))) bx) (cv (e2 gu (aa 0) (aa 1))))))
def cj:Nat->List D->Option D
 |0=>λ_=>none
 |n+1=>fnD gX bw (gS (cj n))
def cC:List D->Option D:=cj 4
abbrev g_(Z:Wq):Prop:=OkD Z "_law_same" (top 72) bw 4 cC
abbrev fA:List Str:=["_law_x","_law_y"]
abbrev dO:List Str:=["_law_x","_law_y"]
def kN:Ev->Option Fl:=(cv (eOr (e2 ltI (ba mT (ah (aM 0) (ah (aM 1) aW))) (eR (eC (.int 999)))) (e2 gtI (ba lR (ah (aM 0) (ah (aM 1) aW))) (eC (.int 999)))))
def dR:List D->Option D:=fnD fA dO kN
abbrev iM(Z:Wq):Prop:=OkD Z "_law_off" (top 73) dO 1 dR
abbrev dQ:List Str:=["_law_hills","_law_cool","_law_x","_law_y","_law_top","_law_at"]
abbrev cS:List Str:=["_law_hills","_law_cool"]
def cD:Ev->Option Fl:=(aJ (sIf (h_ (ba dR (ah (aM 2) (ah (aM 3) aW)))) (cv (eC (.str "BadPlace"))) bx) (sIf (dE (aA ltI (aa 4) (eC (.int 1))) (aA gtI (aa 4) (eC (.int 5)))) (cv (eC (.str "BadHeight"))) bx))
def cE:Ev->Option Fl:=(aJ (sIf (dE (aA ltI (e2 ixD (aa 1) (aa 5)) (eC (.int 0))) (aA gtI (e2 ixD (aa 1) (aa 5)) (eC (.int 23)))) (cv (eC (.str "BadHour"))) bx) (sIf (aA (inD false) (e2 ixD (aa 1) (aa 5)) (eF (eSl (aa 1) cf (a_ (aa 5))))) (cv (eC (.str "Twice"))) bx))
def jI:Ev->Option Fl:=(aJ (sIf (dE (aA gtI (bt bq (aa 0)) (eC (.int 20))) (aA gtI (bt bq (aa 1)) (eC (.int 24)))) (cv (eC (.str "Full"))) bx) (aJ (ez (hW (aM 0)) (dh 3 (aC (av 2) (aC (av 3) (aC (av 4) bF)))) (cD)) (aJ (ez (dN (bt bq (aa 1))) (av 5) (cE)) (cv (eC (.str ""))))))
def d7:List D->Option D:=fnD dQ cS jI
abbrev gp(Z:Wq):Prop:=OkD Z "_law_fault" (top 74) cS 2 d7
abbrev jB:List Str:=["_law_numbers_here","_law_many","_law_hills","_law_k","_law_d","_law_some","_law_cool","_law_at","_law_part","_law_bad"]
abbrev cP:List Str:=["_law_numbers_here"]
def cI:Ev->Option Fl:=(aJ (bJ 4 (eF (eSl (aa 0) (a_ (e2 bW (eC (.int 10)) (e2 cx (eC (.int 3)) (aa 3)))) (a_ (e2 bW (eC (.int 13)) (e2 cx (eC (.int 3)) (aa 3))))))) (fG 2 (j6 (ah (e2 jP (e2 cx (e2 ixD (aa 4) (eC (.int 0))) (eC (.int 2))) (eC (.int 999))) (ah (e2 jP (e2 cx (e2 ixD (aa 4) (eC (.int 1))) (eC (.int 2))) (eC (.int 999))) (ah (e2 bW (eC (.int 1)) (e2 aP (e2 ixD (aa 4) (eC (.int 2))) (eC (.int 5)))) aW))))))
def cG:Ev->Option Fl:=(fG 6 (e2 aP (e2 bW (e2 ixD (aa 0) (eC (.int 4))) (e2 cx (aa 3) (e2 ixD (eF (cT (ah (eC (.int 1)) (ah (eC (.int 5)) (ah (eC (.int 7)) (ah (eC (.int 23)) aW)))))) (e2 aP (e2 ixD (aa 0) (eC (.int 5))) (eC (.int 4)))))) (eC (.int 24))))
def cJ:Ev->Option Fl:=(aJ (bJ 4 (eF (eSl (aa 0) (a_ (e2 bW (eC (.int 80)) (e2 cx (eC (.int 5)) (aa 3)))) (a_ (e2 bW (eC (.int 85)) (e2 cx (eC (.int 5)) (aa 3))))))) (aJ (sIf (fm (aA gu (e2 aP (e2 ixD (aa 4) (eC (.int 0))) (eC (.int 2))) (eC (.int 0))) (aA gtI (bt bq (aa 2)) (eC (.int 0)))) (aJ (bJ 7 (e2 aP (e2 ixD (aa 4) (eC (.int 1))) (bt bq (aa 2)))) (aJ (bJ 8 (e2 aP (e2 ixD (aa 4) (eC (.int 2))) (eC (.int 3)))) (aJ (bJ 9 (e2 ixD (eF (cT (ah (e2 ixD (eF (cT (ah (eC (.int 1000)) (ah (eR (eC (.int 1000))) (ah (eC (.int 999)) (ah (eR (eC (.int 999))) aW)))))) (e2 aP (e2 ixD (aa 4) (eC (.int 3))) (eC (.int 4)))) (ah (e2 ixD (eF (cT (ah (eC (.int 0)) (ah (eC (.int 6)) (ah (eC (.int 5)) (ah (eC (.int 1)) (ah (eR (eC (.int 1))) aW))))))) (e2 aP (e2 ixD (aa 4) (eC (.int 3))) (eC (.int 5)))) aW)))) (e2 fV (aa 8) (eC (.int 2))))) (iK 2 (aa 7) (e2 j9 (e2 j9 (jW (e2 ixD (aa 2) (aa 7)) cf (a_ (aa 8))) (j6 (ah (aM 9) aW))) (jW (e2 ixD (aa 2) (aa 7)) (a_ (e2 bW (aa 8) (eC (.int 1)))) cf)))))) bx) (sIf (fm (aA gu (e2 aP (e2 ixD (aa 4) (eC (.int 0))) (eC (.int 2))) (eC (.int 1))) (aA gtI (bt bq (aa 6)) (eC (.int 0)))) (iK 6 (e2 aP (e2 ixD (aa 4) (eC (.int 1))) (bt bq (aa 6))) (e2 ixD (eF (cT (ah (eR (eC (.int 1))) (ah (eC (.int 24)) (ah (eC (.int 23)) (ah (eC (.int 0)) (ah (e2 ixD (aa 6) (e2 aP (e2 ixD (aa 4) (eC (.int 4))) (bt bq (aa 6)))) aW))))))) (e2 aP (e2 ixD (aa 4) (eC (.int 3))) (eC (.int 5))))) bx)))
def jO:Ev->Option Fl:=(aJ (bJ 1 (e2 ixD (eF (cT (ah (e2 aP (e2 ixD (aa 0) (eC (.int 0))) (eC (.int 5))) (ah (e2 aP (e2 ixD (aa 0) (eC (.int 0))) (eC (.int 5))) (ah (e2 aP (e2 ixD (aa 0) (eC (.int 0))) (eC (.int 23))) (ah (e2 bW (eC (.int 19)) (e2 aP (e2 ixD (aa 0) (eC (.int 0))) (eC (.int 3)))) aW)))))) (e2 aP (e2 ixD (aa 0) (eC (.int 1))) (eC (.int 4))))) (aJ (kj 2 (cT aW)) (aJ (ez (dN (aM 1)) (av 3) (cI)) (aJ (bJ 5 (e2 ixD (eF (cT (ah (e2 aP (e2 ixD (aa 0) (eC (.int 2))) (eC (.int 4))) (ah (e2 aP (e2 ixD (aa 0) (eC (.int 2))) (eC (.int 27))) (ah (eC (.int 24)) (ah (eC (.int 25)) aW)))))) (e2 aP (e2 ixD (aa 0) (eC (.int 3))) (eC (.int 4))))) (aJ (kj 6 (cT aW)) (aJ (ez (dN (aM 5)) (av 3) (cG)) (aJ (ez (dN (e2 ixD (eF (cT (ah (eC (.int 0)) (ah (eC (.int 0)) (ah (eC (.int 1)) (ah (eC (.int 2)) (ah (eC (.int 1)) (ah (eC (.int 3)) aW)))))))) (e2 aP (e2 ixD (aa 0) (eC (.int 6))) (eC (.int 6))))) (av 3) (cJ)) (sFz 6 (sFz 2 (cv (j6 (ah (aM 2) (ah (aM 6) aW)))))))))))))
def dX:List D->Option D:=fnD jB cP jO
abbrev gj(Z:Wq):Prop:=OkD Z "_law_drawn" (top 76) cP 1 dX
abbrev cz:List Str:=["x","y"]
abbrev cA:List Str:=["x","y"]
def iY:Ev->Option Fl:=(sIf (dG (fm (gM leI leI (eR (eC (.int 999))) (aa 0) (eC (.int 999))) (gM leI leI (eR (eC (.int 999))) (aa 1) (eC (.int 999))))) (eV "BadPlace") bx)
def dA:List D->Option Out:=fnX cz cA iY
abbrev fj(Z:Wq):Prop:=OkX Z "check_place" (top 58) cA 3 dA
abbrev fW:List Str:=["hill","x","y","top"]
abbrev cR:List Str:=["hill"]
def jU:Ev->Option Fl:=(aJ (pb (aM 0) (j7 3 (aC (av 1) (aC (av 2) (aC (av 3) bF))))) (aJ (sXe dA (ah (aM 1) (ah (aM 2) aW))) (sIf (dG (gM leI leI (eC (.int 1)) (aa 3) (eC (.int 5)))) (eV "BadHeight") bx)))
def dY:List D->Option Out:=fnX fW cR jU
abbrev gf(Z:Wq):Prop:=OkX Z "check_hill" (top 65) cR 4 dY
abbrev cL:List Str:=["hour","first","last"]
abbrev bQ:List Str:=["hour","first","last"]
def ia:Ev->Option Fl:=(sIf (dG (gM leI leI (aa 1) (aa 0) (aa 2))) (eV "BadHour") bx)
def cH:List D->Option Out:=fnX cL bQ ia
abbrev d_(Z:Wq):Prop:=OkX Z "check_between" (top 62) bQ 3 cH
abbrev bP:List Str:=["hills","cool","hill","at","hour"]
abbrev bR:List Str:=["hills","cool"]
def bo:Ev->Option Fl:=(sXe dY (ah (aM 2) aW))
def bj:Ev->Option Fl:=(aJ (sXe cH (ah (aM 4) (ah (eC (.int 0)) (ah (e2 jP (eC (.int 24)) (eC (.int 1))) aW)))) (sIf (aA (inD false) (aa 4) (eF (eSl (aa 1) cf (a_ (aa 3))))) (eV "Twice") bx))
def d9:Ev->Option Fl:=(aJ (sIf (dE (aA gtI (bt bq (aa 0)) (eC (.int 20))) (aA gtI (bt bq (aa 1)) (eC (.int 24)))) (eV "Full") bx) (aJ (ez (hW (aM 0)) (av 2) (bo)) (ez (kC (aM 1)) (dh 2 (aC (av 3) (aC (av 4) bF))) (bj))))
def a8:List D->Option Out:=fnX bP bR d9
abbrev d8(Z:Wq):Prop:=OkX Z "check_opening" (top 66) bR 5 a8
structure Md(Z:Wq):Prop where
 b_all:Z.mg "all" = none
 b_bool:Z.mg "bool" = none
 b_enumerate:Z.mg "enumerate" = none
 b_int:Z.mg "int" = none
 b_isinstance:Z.mg "isinstance" = none
 b_len:Z.mg "len" = none
 b_list:Z.mg "list" = none
 b_max:Z.mg "max" = none
 b_min:Z.mg "min" = none
 b_range:Z.mg "range" = none
 b_tuple:Z.mg "tuple" = none
 b_zip:Z.mg "zip" = none
 g_BOOK_EDGE:∃t,Z.mg "BOOK_EDGE" = some (.int 999 t)
 g_MOST_COOL:∃t,Z.mg "MOST_COOL" = some (.int 24 t)
 g_MOST_HILLS:∃t,Z.mg "MOST_HILLS" = some (.int 20 t)
 g_TOP_HEIGHT:∃t,Z.mg "TOP_HEIGHT" = some (.int 5 t)
 g_WIND_HOURS:∃t,Z.mg "WIND_HOURS" = some (.int 24 t)
theorem iq{Z:Wq}(R:FX Z "_law_numbers" (top 71) bY)(M:Md Z):eJ Z:=bdF R λd _ _ _ _ _ _ _ _ hr=>(aq (iI 2 d (cg aK)) (aq (bT 3 d ae) (aq (dz wm rfl (jT (DF.de (je (af 0) e_ (cy (DE.db ae))))) (aQ 4 d) (aq (bT 3 d (aw aV (DE.db (aw cq (DE.db (aw cq (DE.db (aw dB (af 3) (DE.db ae))) (DE.db (aw aV (af 4) (DE.db ae))))) (DE.db ae))) (DE.db ae))) (aq (bT 5 d (aw jE (af 4) (DE.db (aw pG (DE.db ae) (DE.db ae))))) (aq (bA (aR kE (af 5) (DE.db ae) (aF _)) (az (iS 2 (aw aV (af 4) (DE.db ae)))) aS) (az (dz wm rfl (dM ae M.b_range) (aQ 6 d) (az (bA (aR eN (af 5) (DE.db ae) (aF _)) (aq (iS 2 (aw aV (af 5) (DE.db ae))) (az (bT 5 d (aw jx (af 5) (DE.db ae))))) aS)))))))) (aq (dz wm rfl (dM (aD 1) M.b_range) (aQ 6 d) (az (bA (aR kE (DE.db (b9 (af 2) M.b_len)) (af 1) (aF _)) (aq (bT 3 d (aw aV (DE.db (aw cq (DE.db (aw cq (DE.db (aw cq (DE.db (aw pG (af 3) (DE.db ae))) (DE.db (aw dB (DE.db ae) (af 3))))) (DE.db (aw dB (DE.db ae) (af 6))))) (DE.db ae))) (DE.db ae))) (az (iS 2 (aw aV (DE.db (aw jx (af 3) (DE.db ae))) (DE.db ae))))) aS))) (az (br (DF.de (je (af 2) e_ (cy (af 1))))))))))
theorem gU{Z:Wq}{f:Addr}{fd:zX}(R:FA Z.K Z.mg "_law_same" (top 72) bw f fd)(M:Md Z):∀(n:Nat) (base:Heap),FnOk Z.P Z.w Z.K Z.mg base CX0 (0+n) f fd bw (spF Z.K (cj n))
 |0,_=>qB
 |n+1,base=>by
  have GR:=gU R M n base;have sc:FnScope gX bw (ax (top 72)):=⟨rfl,rfl,rfl,by decide +kernel,rfl,by decide +kernel,by decide +kernel⟩;have d:=sc.nd;exact mG R.fu sc λcdv A outer s H E hr=>(aq (bA (DW.dt (fg (dC (DE.db (cV (T:="list") (by simp) (af 1) M.b_isinstance M.b_list (by rfl)))) (dv (dC (DE.db (cV (T:="tuple") (by simp) (af 1) M.b_isinstance M.b_tuple (by rfl))))))) (aq (bA (DW.dt (fg (aR (du hr) (DE.db (cV (T:="list") (by simp) (af 0) M.b_isinstance M.b_list (by rfl))) (DE.db (cV (T:="list") (by simp) (af 1) M.b_isinstance M.b_list (by rfl))) (aF _)) (dv (aR (du hr) (DE.db (cV (T:="tuple") (by simp) (af 0) M.b_isinstance M.b_tuple (by rfl))) (DE.db (cV (T:="tuple") (by simp) (af 1) M.b_isinstance M.b_tuple (by rfl))) (aF _))))) (az (br oE)) aS) (az (br (kS (eK (iw hr) (DE.db (b9 (af 0) M.b_len)) (DE.db (b9 (af 1) M.b_len)) (aF _)) (jS (iH (sm rfl) M.b_all (by rfl) (ag (DF.de (rC (tn:=["_law_one","_law_other"]) (fr:=[]) (ix:=[]) rfl (pS (ag (aD 0) (ag (aD 1) aK)) M.b_zip) (jK (by rfl) (by exact trivial) (by exact trivial) (by rfl) (by rfl) (by rfl) (by rfl) (by rfl)) (oN (gk (fJ _) (gk (fJ _) mj))) (λ_ _ _ _ _=>(js rfl (bg (aQ 0 (show(((["_law_one","_law_other"]:List Str)++([]:List Str)):List Str).Nodup by decide +kernel)) (bg (aQ 1 (show(((["_law_one","_law_other"]:List Str)++([]:List Str)):List Str).Nodup by decide +kernel)) eY)))) (λ_ _ _ _ _=>mP) (λ_ _ _ _ _=>(kf R GR hr (zp _) (ag (aD 0) (ag (aD 1) aK)))))) aK))))))) aS) (aq (bA (DW.dt (fg (aR mU (af 0) (DE.db jD) (aF _)) (dv (aR mU (af 1) (DE.db jD) (aF _))))) (az (br (kS (eK mU (af 0) (DE.db jD) (aF _)) (jS (eK mU (af 1) (DE.db jD) (aF _)))))) aS) (aq (bA (DW.dt (fg (aR (du hr) (DE.db (cV (T:="bool") (by simp) (af 0) M.b_isinstance M.b_bool (by rfl))) (DE.db (cV (T:="bool") (by simp) (af 1) M.b_isinstance M.b_bool (by rfl))) (aF _)) (dv (aR (du hr) (DE.db (cV (T:="int") (by simp) (af 0) M.b_isinstance M.b_int (by rfl))) (DE.db (cV (T:="int") (by simp) (af 1) M.b_isinstance M.b_int (by rfl))) (aF _))))) (az (br oE)) aS) (az (br (eK (iw hr) (af 0) (af 1) (aF _)))))))
theorem j8{Z:Wq}(R:FX Z "_law_same" (top 72) bw)(M:Md Z):g_ Z:=let⟨f,fd,A⟩:=R;⟨f,fd,A,λbase=>(gU A.1 M 4 base).mono (by decide)⟩
theorem lI{Z:Wq}(R:FX Z "_law_off" (top 73) dO)(M:Md Z):iM Z:=bdF R λd _ _ _ _ _ _ _ _ hr=>(az (br (uF (eK kE (DE.db (iH (qd rfl) M.b_min (by rfl) (ag (aD 0) (ag (aD 1) aK)))) (DE.db (fC (DE.db ae))) (aF _)) (jS (eK eN (DE.db (iH (q_ rfl) M.b_max (by rfl) (ag (aD 0) (ag (aD 1) aK)))) (DE.db ae) (aF _))))))
theorem jN{Z:Wq}(R:FX Z "_law_fault" (top 74) cS)(M:Md Z)(h__law_off:iM Z):gp Z:=bdF R λd _ _ _ _ _ _ _ _ hr=>(aq (bA (DW.dt (fg (aR eN (DE.db (b9 (af 0) M.b_len)) (DE.db ae) (aF _)) (dv (aR eN (DE.db (b9 (af 1) M.b_len)) (DE.db ae) (aF _))))) (az (br bB)) aS) (aq (dz wm rfl (jT (aD 0)) (js rfl (bg (aQ 2 d) (bg (aQ 3 d) (bg (aQ 4 d) eY)))) (aq (bA (dC (DE.db (cF h__law_off hr (ag (aD 2) (ag (aD 3) aK))))) (az (br bB)) aS) (az (bA (DW.dt (fg (aR kE (af 4) (DE.db ae) (aF _)) (dv (aR eN (af 4) (DE.db ae) (aF _))))) (az (br bB)) aS)))) (aq (dz wm rfl (dM (b9 (af 1) M.b_len) M.b_range) (aQ 5 d) (aq (bA (DW.dt (fg (aR kE (DE.db (aU (af 1) (af 5))) (DE.db ae) (aF _)) (dv (aR eN (DE.db (aU (af 1) (af 5))) (DE.db ae) (aF _))))) (az (br bB)) aS) (az (bA (aR rl (DE.db (aU (af 1) (af 5))) (DE.db (DF.de (je (af 1) e_ (cy (af 5))))) (by with_unfolding_all rfl)) (az (br bB)) aS)))) (az (br bB)))))
theorem jv{Z:Wq}(R:FX Z "_law_drawn" (top 76) cP)(M:Md Z):gj Z:=bdF R λd _ _ _ _ _ _ _ _ hr=>(aq (bT 1 d (aU (DE.db (DF.de (cg (ag (aw aV (DE.db (aU (af 0) (DE.db ae))) (DE.db ae)) (ag (aw aV (DE.db (aU (af 0) (DE.db ae))) (DE.db ae)) (ag (aw aV (DE.db (aU (af 0) (DE.db ae))) (DE.db ae)) (ag (aw cq (DE.db ae) (DE.db (aw aV (DE.db (aU (af 0) (DE.db ae))) (DE.db ae)))) aK))))))) (DE.db (aw aV (DE.db (aU (af 0) (DE.db ae))) (DE.db ae))))) (aq (iI 2 d (cg aK)) (aq (dz wm rfl (dM (aD 1) M.b_range) (aQ 3 d) (aq (bT 4 d (DF.de (je (af 0) (cy (DE.db (aw cq (DE.db ae) (DE.db (aw dB (DE.db ae) (af 3)))))) (cy (DE.db (aw cq (DE.db ae) (DE.db (aw dB (DE.db ae) (af 3))))))))) (az (iS 2 (jq (ag (aw jE (DE.db (aw dB (DE.db (aU (af 4) (DE.db ae))) (DE.db ae))) (DE.db ae)) (ag (aw jE (DE.db (aw dB (DE.db (aU (af 4) (DE.db ae))) (DE.db ae))) (DE.db ae)) (ag (aw cq (DE.db ae) (DE.db (aw aV (DE.db (aU (af 4) (DE.db ae))) (DE.db ae)))) aK)))))))) (aq (bT 5 d (aU (DE.db (DF.de (cg (ag (aw aV (DE.db (aU (af 0) (DE.db ae))) (DE.db ae)) (ag (aw aV (DE.db (aU (af 0) (DE.db ae))) (DE.db ae)) (ag ae (ag ae aK))))))) (DE.db (aw aV (DE.db (aU (af 0) (DE.db ae))) (DE.db ae))))) (aq (iI 6 d (cg aK)) (aq (dz wm rfl (dM (aD 5) M.b_range) (aQ 3 d) (az (iS 6 (aw aV (DE.db (aw cq (DE.db (aU (af 0) (DE.db ae))) (DE.db (aw dB (af 3) (DE.db (aU (DE.db (DF.de (cg (ag ae (ag ae (ag ae (ag ae aK))))))) (DE.db (aw aV (DE.db (aU (af 0) (DE.db ae))) (DE.db ae))))))))) (DE.db ae))))) (aq (dz wm rfl (dM (aU (DE.db (DF.de (cg (ag ae (ag ae (ag ae (ag ae (ag ae (ag ae aK))))))))) (DE.db (aw aV (DE.db (aU (af 0) (DE.db ae))) (DE.db ae)))) M.b_range) (aQ 3 d) (aq (bT 4 d (DF.de (je (af 0) (cy (DE.db (aw cq (DE.db ae) (DE.db (aw dB (DE.db ae) (af 3)))))) (cy (DE.db (aw cq (DE.db ae) (DE.db (aw dB (DE.db ae) (af 3))))))))) (aq (bA (DW.dt (lq (aR (iw hr) (DE.db (aw aV (DE.db (aU (af 4) (DE.db ae))) (DE.db ae))) (DE.db ae) (aF _)) (jX (aR eN (DE.db (b9 (af 2) M.b_len)) (DE.db ae) (aF _))))) (aq (bT 7 d (aw aV (DE.db (aU (af 4) (DE.db ae))) (DE.db (b9 (af 2) M.b_len)))) (aq (bT 8 d (aw aV (DE.db (aU (af 4) (DE.db ae))) (DE.db ae))) (aq (bT 9 d (aU (DE.db (DF.de (cg (ag (aU (DE.db (DF.de (cg (ag ae (ag (fC (DE.db ae)) (ag ae (ag (fC (DE.db ae)) aK))))))) (DE.db (aw aV (DE.db (aU (af 4) (DE.db ae))) (DE.db ae)))) (ag (aU (DE.db (DF.de (cg (ag ae (ag ae (ag ae (ag ae (ag (fC (DE.db ae)) aK)))))))) (DE.db (aw aV (DE.db (aU (af 4) (DE.db ae))) (DE.db ae)))) aK))))) (DE.db (aw jx (af 8) (DE.db ae))))) (az (lO 2 (aw l8 (DE.db (aw l8 (DE.db (n9 (DE.db (aU (af 2) (af 7))) e_ (cy (af 8)))) (DE.db (jq (ag (aD 9) aK))))) (DE.db (n9 (DE.db (aU (af 2) (af 7))) (cy (DE.db (aw cq (af 8) (DE.db ae)))) e_))) (af 7)))))) aS) (az (bA (DW.dt (lq (aR (iw hr) (DE.db (aw aV (DE.db (aU (af 4) (DE.db ae))) (DE.db ae))) (DE.db ae) (aF _)) (jX (aR eN (DE.db (b9 (af 6) M.b_len)) (DE.db ae) (aF _))))) (az (lO 6 (aU (DE.db (DF.de (cg (ag (fC (DE.db ae)) (ag ae (ag ae (ag ae (ag (aU (af 6) (DE.db (aw aV (DE.db (aU (af 4) (DE.db ae))) (DE.db (b9 (af 6) M.b_len))))) aK)))))))) (DE.db (aw aV (DE.db (aU (af 4) (DE.db ae))) (DE.db ae)))) (DE.db (aw aV (DE.db (aU (af 4) (DE.db ae))) (DE.db (b9 (af 6) M.b_len)))))) aS))))) (az (rb 6 (rb 2 (br (jq (ag (aD 2) (ag (aD 6) aK))))))))))))))
theorem iX{Z:Wq}(R:FX Z "check_place" (top 58) cA)(M:Md Z)(he_BadPlace:kc Z):fj Z:=let⟨_,gi_BOOK_EDGE⟩:=M.g_BOOK_EDGE;let⟨_,_,hE_BadPlace⟩:=he_BadPlace;bdX R λd _ _ _ _ _ _ _ _ hr=>(az (bA (jM (DW.dt (lq (mB gV gV (DE.db (fC (DE.db (dm rfl gi_BOOK_EDGE)))) (af 0) (DE.db (dm rfl gi_BOOK_EDGE))) (jX (mB gV gV (DE.db (fC (DE.db (dm rfl gi_BOOK_EDGE)))) (af 1) (DE.db (dm rfl gi_BOOK_EDGE))))))) (az (dI hE_BadPlace hr rfl)) aS))
theorem jC{Z:Wq}(R:FX Z "check_hill" (top 65) cR)(M:Md Z)(h_check_place:fj Z)(he_BadHeight:jL Z):gf Z:=let⟨_,gi_TOP_HEIGHT⟩:=M.g_TOP_HEIGHT;let⟨_,_,hE_BadHeight⟩:=he_BadHeight;bdX R λd _ _ _ _ _ _ _ _ hr=>(aq (pN (aD 0) (oj rfl (bg (aQ 1 d) (bg (aQ 2 d) (bg (aQ 3 d) eY))))) (aq (pK h_check_place hr (ag (aD 1) (ag (aD 2) aK))) (az (bA (jM (mB gV gV (DE.db ae) (af 3) (DE.db (dm rfl gi_TOP_HEIGHT)))) (az (dI hE_BadHeight hr rfl)) aS))))
theorem ib{Z:Wq}(R:FX Z "check_between" (top 62) bQ)(M:Md Z)(he_BadHour:lg Z):d_ Z:=let⟨_,_,hE_BadHour⟩:=he_BadHour;bdX R λd _ _ _ _ _ _ _ _ hr=>(az (bA (jM (mB gV gV (af 1) (af 0) (af 2))) (az (dI hE_BadHour hr rfl)) aS))
theorem hX{Z:Wq}(R:FX Z "check_opening" (top 66) bR)(M:Md Z)(h_check_hill:gf Z)(h_check_between:d_ Z)(he_Full:qg Z)(he_Twice:oX Z):d8 Z:=let⟨_,gi_MOST_COOL⟩:=M.g_MOST_COOL;let⟨_,gi_MOST_HILLS⟩:=M.g_MOST_HILLS;let⟨_,gi_WIND_HOURS⟩:=M.g_WIND_HOURS;let⟨_,_,hE_Full⟩:=he_Full;let⟨_,_,hE_Twice⟩:=he_Twice;bdX R λd _ _ _ _ _ _ _ _ hr=>(aq (bA (DW.dt (fg (aR eN (DE.db (b9 (af 0) M.b_len)) (DE.db (dm rfl gi_MOST_HILLS)) (aF _)) (dv (aR eN (DE.db (b9 (af 1) M.b_len)) (DE.db (dm rfl gi_MOST_COOL)) (aF _))))) (az (dI hE_Full hr rfl)) aS) (aq (dz Ex.g0 rfl (jT (aD 0)) (aQ 2 d) (az (pK h_check_hill hr (ag (aD 2) aK)))) (az (dz Ex.g0 rfl (qR (aD 1) M.b_enumerate) (js rfl (bg (aQ 3 d) (bg (aQ 4 d) eY))) (aq (pK h_check_between hr (ag (aD 4) (ag ae (ag (aw jE (DE.db (dm rfl gi_WIND_HOURS)) (DE.db ae)) aK)))) (az (bA (aR rl (af 4) (DE.db (DF.de (je (af 1) e_ (cy (af 3))))) (by with_unfolding_all rfl)) (az (dI hE_Twice hr rfl)) aS)))))))
theorem uC{P:zv}{w:zA}{K:zb}{h:Heap}{mg:Str->Option za}{t_BOOK_EDGE:Tok}{t_MOST_COOL:Tok}{t_MOST_HILLS:Tok}{t_TOP_HEIGHT:Tok}{t_WIND_HOURS:Tok}(X:K.In h)(G:h.Ns zz mg)
  (z_all:zL K zz "all" = some none)
  (z_bool:zL K zz "bool" = some none)
  (z_enumerate:zL K zz "enumerate" = some none)
  (z_int:zL K zz "int" = some none)
  (z_isinstance:zL K zz "isinstance" = some none)
  (z_len:zL K zz "len" = some none)
  (z_list:zL K zz "list" = some none)
  (z_max:zL K zz "max" = some none)
  (z_min:zL K zz "min" = some none)
  (z_range:zL K zz "range" = some none)
  (z_tuple:zL K zz "tuple" = some none)
  (z_zip:zL K zz "zip" = some none)
  (y_BOOK_EDGE:zL K zz "BOOK_EDGE" = some (some (.int 999 t_BOOK_EDGE)))
  (y_MOST_COOL:zL K zz "MOST_COOL" = some (some (.int 24 t_MOST_COOL)))
  (y_MOST_HILLS:zL K zz "MOST_HILLS" = some (some (.int 20 t_MOST_HILLS)))
  (y_TOP_HEIGHT:zL K zz "TOP_HEIGHT" = some (some (.int 5 t_TOP_HEIGHT)))
  (y_WIND_HOURS:zL K zz "WIND_HOURS" = some (some (.int 24 t_WIND_HOURS))):Md ⟨P,w,K,mg⟩:=⟨zT X G z_all,zT X G z_bool,zT X G z_enumerate,zT X G z_int,zT X G z_isinstance,zT X G z_len,zT X G z_list,zT X G z_max,zT X G z_min,zT X G z_range,zT X G z_tuple,zT X G z_zip,⟨_,xy X G y_BOOK_EDGE⟩,⟨_,xy X G y_MOST_COOL⟩,⟨_,xy X G y_MOST_HILLS⟩,⟨_,xy X G y_TOP_HEIGHT⟩,⟨_,xy X G y_WIND_HOURS⟩⟩
def cm(st:Stmt)(j:Nat):Stmt:=match st with
 |.ClassDef _ _ _ b _ _ _ _ _ _ _=>b.getD j (.Pass ⟨0,0,0,0⟩)
 |s=>s
abbrev sI:Stmt:=cm (top 69) 0
abbrev sx:Stmt:=cm (top 69) 19
abbrev sX:Stmt:=cm (top 69) 20
abbrev oY:Stmt:=cm (top 69) 21
abbrev lD:Stmt:=cm (top 69) 22
def lk(fs:List (Str×V))(n:Str):Option V:=fs.lookup n
def iW(C:Addr)(H:Hp)(b:Addr)(hs cs:List V):Prop:=∃dx fs a1 a2 a3 a4 a5 a6,H b=some (.ins C dx fs)/\(lk fs "hills" = some (.ref a1)/\H a1=some (.lst hs))/\(lk fs "cool" = some (.ref a2)/\H a2=some (.lst cs))/\lk fs "hour" = some (.int 0)/\
 (lk fs "winds" = some (.ref a3)/\H a3=some (.lst []))/\(lk fs "shuts" = some (.ref a4)/\H a4=some (.lst []))/\(lk fs "balloons" = some (.ref a5)/\H a5=some (.lst []))/\(lk fs "deeds" = some (.ref a6)/\H a6=some (.lst []))/\
 lk fs "now" = none/\lk fs "sky" = none/\lk fs "done" = none/\lk fs "names" = none
theorem iW.same{C b:Addr}{H H':Hp}{hs cs:List V}(h:iW C H b hs cs)(g:au H H'):iW C H' b hs cs:=by
 obtain⟨dx,fs,a1,a2,a3,a4,a5,a6,e0,⟨l1,e1⟩,⟨l2,e2⟩,l0,⟨l3,e3⟩,⟨l4,e4⟩,⟨l5,e5⟩,⟨l6,e6⟩,r⟩:=h;exact⟨dx,fs,a1,a2,a3,a4,a5,a6,g _ _ e0,⟨l1,g _ _ e1⟩,⟨l2,g _ _ e2⟩,l0,⟨l3,g _ _ e3⟩,⟨l4,g _ _ e4⟩,⟨l5,g _ _ e5⟩,⟨l6,g _ _ e6⟩,r⟩
def BkF(C:Addr)(H0 H:Hp)(b:Addr)(hs cs:List V):Prop:=∃dx fs a1 a2 a3 a4 a5 a6,H b=some (.ins C dx fs)/\(lk fs "hills" = some (.ref a1)/\H a1=some (.lst hs))/\(lk fs "cool" = some (.ref a2)/\H a2=some (.lst cs))/\lk fs "hour" = some (.int 0)/\
 (lk fs "winds" = some (.ref a3)/\H a3=some (.lst []))/\(lk fs "shuts" = some (.ref a4)/\H a4=some (.lst []))/\(lk fs "balloons" = some (.ref a5)/\H a5=some (.lst []))/\(lk fs "deeds" = some (.ref a6)/\H a6=some (.lst []))/\
 (lk fs "now" = none/\lk fs "sky" = none/\lk fs "done" = none/\lk fs "names" = none)/\H0 a1=none/\H0 a2=none/\H0 a3=none/\H0 a4=none/\H0 a5=none/\H0 a6=none
theorem BkF.at{C b:Addr}{H0 H:Hp}{hs cs:List V}(h:BkF C H0 H b hs cs):iW C H b hs cs:=by
 obtain⟨dx,fs,a1,a2,a3,a4,a5,a6,e0,q1,q2,q3,q4,q5,q6,q7,q8,_⟩:=h;exact⟨dx,fs,a1,a2,a3,a4,a5,a6,e0,q1,q2,q3,q4,q5,q6,q7,q8⟩
theorem BkF.step{C b:Addr}{H0 H H':Hp}{hs cs:List V}(h:BkF C H0 H b hs cs)(hb:H0 b=none)(g:∀q o,H0 q=none->H q=some o->H' q=some o):BkF C H0 H' b hs cs:=by
 obtain⟨dx,fs,a1,a2,a3,a4,a5,a6,e0,⟨l1,e1⟩,⟨l2,e2⟩,l0,⟨l3,e3⟩,⟨l4,e4⟩,⟨l5,e5⟩,⟨l6,e6⟩,r,f1,f2,f3,f4,f5,f6⟩:=h;exact⟨dx,fs,a1,a2,a3,a4,a5,a6,g _ _ hb e0,⟨l1,g _ _ f1 e1⟩,⟨l2,g _ _ f2 e2⟩,l0,⟨l3,g _ _ f3 e3⟩,⟨l4,g _ _ f4 e4⟩,⟨l5,g _ _ f5 e5⟩,⟨l6,g _ _ f6 e6⟩,r,f1,f2,f3,f4,f5,f6⟩
theorem BkF.less{C b:Addr}{H0 H1 H:Hp}{hs cs:List V}(h:BkF C H0 H b hs cs)(g:∀q,H0 q=none->H1 q=none):BkF C H1 H b hs cs:=by
 obtain⟨dx,fs,a1,a2,a3,a4,a5,a6,e0,q1,q2,q3,q4,q5,q6,q7,q8,f1,f2,f3,f4,f5,f6⟩:=h;exact⟨dx,fs,a1,a2,a3,a4,a5,a6,e0,q1,q2,q3,q4,q5,q6,q7,q8,g _ f1,g _ f2,g _ f3,g _ f4,g _ f5,g _ f6⟩
theorem aG{H:Hp}{p:Addr}(o:HO)(h:H p=none):au H (upd H p o):=λb u q=>by rw[ak (ar q h)];exact q
structure NoA(K:zb)(C:Addr):Prop where
 cl:Cls K C
 n1:b_ K C "hills"
 n2:b_ K C "cool"
 n3:b_ K C "hour"
 n4:b_ K C "winds"
 n5:b_ K C "shuts"
 n6:b_ K C "balloons"
 n7:b_ K C "deeds"
 n8:b_ K C "holds"
section
variable{P:zv}{w:zA}{K:zb}{mg:Str->Option za}{base:Heap}{f C:Addr}{fd:zX}
theorem scS(st:Stmt)(h:FnScope ["self"] ["self"] (ax st):=by exact⟨rfl,rfl,rfl,by decide +kernel,rfl,by decide +kernel,by decide +kernel⟩):FnScope ["self"] ["self"] (ax st):=h
def rj(C:Addr):Sp:=λvs H Q _=>∃b hs cs,vs=[.ref b]/\iW C H b hs cs/\Q (.int 0) H
theorem tp(F:Fun K "now" "Book.now" sx f fd)(n:NoA K C):FnOk P w K mg base CX0 1 f fd ["self"] (rj C):=by
 refine F.ok (scS sx) (λvs H Q E h=>?_) (λcdv A outer s H vs Q E hr h=>?_)
 ·obtain⟨b,hs,cs,rfl,_⟩:=h
  rfl
 obtain⟨b,hs,cs,rfl,⟨dx,fs,a1,a2,a3,a4,a5,a6,e0,_,_,l0,_⟩,q⟩:=h;refine⟨_,bZ (fw (fE (pv 0) rfl)),?_⟩;exact⟨_,rfl,b,C,dx,fs,_,rfl,e0,n.cl,n.n3,l0,q⟩
def pQ(C:Addr):Sp:=λvs H Q _=>∃b hs cs,vs=[.ref b]/\iW C H b hs cs/\∀p,H p=none->Q (.ref p) (upd H p (.lst []))
theorem qH(F:Fun K "done" "Book.done" oY f fd)(n:NoA K C)(ml:mg "list" = none):FnOk P w K mg base CX0 1 f fd ["self"] (pQ C):=by
 refine F.ok (scS oY) (λvs H Q E h=>?_) (λcdv A outer s H vs Q E hr h=>?_)
 ·obtain⟨b,hs,cs,rfl,_⟩:=h
  rfl
 obtain⟨b,hs,cs,rfl,⟨dx,fs,a1,a2,a3,a4,a5,a6,e0,_,_,l0,_,_,_,⟨l6,e6⟩,_⟩,q⟩:=h;refine⟨_,bZ (fw (bU bc (by rfl) ml (by rfl) (ao (fE (pv 0) rfl) aB))),?_⟩;exact⟨_,rfl,b,C,dx,fs,_,rfl,e0,n.cl,n.n7,l6,a6,_,rfl,.inl (SqL.of e6),λl hl=>q l hl⟩
def rk(C:Addr):Sp:=λvs H Q _=>∃b hs cs,vs=[.ref b]/\iW C H b hs cs/\∀l1 l2 l3 l4 p,H l1=none->upd H l1 (.lst hs) l2=none->upd (upd H l1 (.lst hs)) l2 (.lst cs) l3=none->upd (upd (upd H l1 (.lst hs)) l2 (.lst cs)) l3 (.lst []) l4=none->
 upd (upd (upd (upd H l1 (.lst hs)) l2 (.lst cs)) l3 (.lst [])) l4 (.lst []) p=none->Q (.ref p) (upd (upd (upd (upd (upd H l1 (.lst hs)) l2 (.lst cs)) l3 (.lst [])) l4 (.lst [])) p (.tup [.ref l1,.ref l2,.ref l3,.ref l4]))
theorem r8(F:Fun K "sky" "Book.sky" sX f fd)(n:NoA K C)(ml:mg "list" = none):FnOk P w K mg base CX0 1 f fd ["self"] (rk C):=by
 refine F.ok (scS sX) (λvs H Q E h=>?_) (λcdv A outer s H vs Q E hr h=>?_)
 ·obtain⟨b,hs,cs,rfl,_⟩:=h
  rfl
 obtain⟨b,hs,cs,rfl,⟨dx,fs,a1,a2,a3,a4,a5,a6,e0,⟨l1,e1⟩,⟨l2,e2⟩,l0,⟨l3,e3⟩,⟨l4,e4⟩,_⟩,q⟩:=h
 refine⟨_,bZ (fw (fH (ao (bU bc (by rfl) ml (by rfl) (ao (fE (pv 0) rfl) aB)) (ao (bU bc (by rfl) ml (by rfl) (ao (fE (pv 0) rfl) aB))
  (ao (bU bc (by rfl) ml (by rfl) (ao (fE (pv 0) rfl) aB)) (ao (bU bc (by rfl) ml (by rfl) (ao (fE (pv 0) rfl) aB)) aB)))))),?_⟩
 refine⟨_,rfl,b,C,dx,fs,_,rfl,e0,n.cl,n.n1,l1,a1,_,rfl,.inl (SqL.of e1),λp1 h1=>?_⟩;have g1:=aG (.lst hs) h1;refine⟨_,rfl,b,C,dx,fs,_,rfl,g1 _ _ e0,n.cl,n.n2,l2,a2,_,rfl,.inl (SqL.of (g1 _ _ e2)),λp2 h2=>?_⟩;have g2:=g1.trans (aG (.lst cs) h2);refine⟨_,rfl,b,C,dx,fs,_,rfl,g2 _ _ e0,n.cl,n.n4,l3,a3,_,rfl,.inl (SqL.of (g2 _ _ e3)),λp3 h3=>?_⟩;have g3:=g2.trans (aG (.lst []) h3);refine⟨_,rfl,b,C,dx,fs,_,rfl,g3 _ _ e0,n.cl,n.n5,l4,a4,_,rfl,.inl (SqL.of (g3 _ _ e4)),λp4 h4=>?_⟩;exact⟨(by show 4<=zt;decide),λp hp=>q p1 p2 p3 p4 p h1 h2 h3 h4 hp⟩
def mf(C:Addr):Sp:=λvs H Q _=>∃b hs cs,vs=[.ref b]/\iW C H b hs cs/\∀a H',au H H'->H a=none->H' a=some (.lst [])->Q (.ref a) H'
theorem ph(F:Fun K "names" "Book.names" lD f fd)(n:NoA K C):FnOk P w K mg base CX0 1 f fd ["self"] (mf C):=by
 refine F.ok (scS lD) (λvs H Q E h=>?_) (λcdv A outer s H vs Q E hr h=>?_)
 ·obtain⟨b,hs,cs,rfl,_⟩:=h
  rfl
 obtain⟨b,hs,cs,rfl,⟨dx,fs,a1,a2,a3,a4,a5,a6,e0,_,_,l0,_,_,⟨l5,e5⟩,_⟩,q⟩:=h;refine⟨_,bZ (fw (sk (tn:=["balloon"]) (fr:=[]) (ix:=[]) rfl (l9 (fE (pv 0) rfl)) (jK (by rfl) (by exact trivial) (by exact trivial) (by rfl) (by rfl) (by rfl) (by rfl) (by rfl)) (fJ _) (λ_ _ _ _ _=>aQ 0 (show(((["balloon"]:List Str)++([]:List Str)):List Str).Nodup by decide +kernel)))),?_⟩;refine⟨_,rfl,b,C,dx,fs,_,rfl,e0,n.cl,n.n6,l5,a5,rfl,⟨_,SqL.of e5⟩,au.refl _,?_,λa H'' g hn ha=>q a H'' g hn ha⟩;intro i H2 s2;exact⟨λz=>absurd z (Nat.not_lt_zero _),λ_=>⟨[],SqL.of (s2 _ _ e5),zE _⟩,λx H3 _ d z=>by cases z⟩
end
theorem tR{f:Str}{v:V}{fs:List (Str×V)}:lk (da f v fs) f=some v:=by unfold lk;rw[dq,if_pos rfl]
theorem sA{f g:Str}{v:V}{fs:List (Str×V)}(h:g≠f):lk (da f v fs) g=lk fs g:=by unfold lk;rw[dq,if_neg h]
theorem cn{f:Str}{v:V}{fs:List (Str×V)}{n:Nat}(h:fs.length<=n):(da f v fs).length<=n+1:=zO (eM f v fs) (Nat.succ_le_succ h)
theorem cX{H:Hp}{x p dx C:Addr}{fs:List (Str×V)}{f:Str}{ys:List V}(hx:H x=some (.ins C dx fs))(hp:H p=none):upd H p (.lst ys) x=some (.ins C dx fs)/\∃H',H'=upd (upd H p (.lst ys)) x (.ins C dx (da f (.ref p) fs))/\H' x=some (.ins C dx (da f (.ref p) fs))/\
  H' p=some (.lst ys)/\p≠x/\∀b o,b≠x->H b=some o->H' b=some o:=by
 have ne:p≠x:=Ne.symm (ar hx hp);refine⟨by rw[ak (Ne.symm ne)];exact hx,_,rfl,aj,by rw[ak ne];exact aj,ne,λb o hb e=>?_⟩;rw[ak hb,ak (ar e hp)];exact e
theorem qr{H:Hp}{x dx C:Addr}{fs:List (Str×V)}{f:Str}{v:V}(hx:H x=some (.ins C dx fs)):∃H',H'=upd H x (.ins C dx (da f v fs))/\H' x=some (.ins C dx (da f v fs))/\∀b o,b≠x->H b=some o->H' b=some o:=
 ⟨_,rfl,aj,λb o hb e=>by rw[ak hb];exact e⟩
def lh(Z:Wq)(C:Addr):Sp:=λvs H Q E=>∃x dx G l1 l2 hs cs ds es r,vs=[.ref x,.ref l1,.ref l2]/\H x=some (.ins C dx [])/\G x=none/\au G H/\G l1=some (.lst hs)/\G l2=some (.lst cs)/\DenL Z.K G hs ds/\DenL Z.K G cs es/\
 a8 [.lst ds,.lst es]=some r/\(∀d,r=.inl d->∀H',(∀b o,b≠x->H b=some o->H' b=some o)->BkF C H H' x hs cs->Q .non H')/\
 ∀c fs,r=.inr (c,fs)->∀cls dx' H',au H H'->Z.mg c=some cls->(∃vs,H' dx'=some (.xd vs))->E cls (some dx') H'
theorem qi{Z:Wq}{base:Heap}{f C:Addr}{fd:zX}(F:Fun Z.K "__init__" "Book.__init__" sI f fd)(n:NoA Z.K C)(ml:Z.mg "list" = none)(HC:d8 Z):FnOk Z.P Z.w Z.K Z.mg base (Ex.CX1 Z.P Z.w) 6 f fd ["self","hills","cool"] (lh Z C):=by
 obtain⟨fc,fdc,⟨FA,_⟩,hF⟩:=HC;obtain⟨oc,od,kV,doc,pm,an,cdv,ct,osl,rfl,lkk,hcd⟩:=F.ex;have S:FnScope ["self","hills","cool"] ["self","hills","cool"] (ax sI):=⟨rfl,rfl,rfl,by decide +kernel,rfl,by decide +kernel,by decide +kernel⟩;refine lY (k:=5) lkk hcd S (λvs H Q E h=>?_) λA outer s H vs Q E hr h=>?_
 ·obtain⟨x,dx,G,l1,l2,hs,cs,ds,es,r,rfl,_⟩:=h
  rfl
 obtain⟨x,dx,G,l1,l2,hs,cs,ds,es,r,rfl,hx,gx,gh,e1,e2,d1,d2,er,q1,q2⟩:=h
 refine⟨_,aT (dZ (il (hF base) hr rfl FA.mgf FA.fu.kp FA.bi .nil (Ex.tH Ex.mQ) (ao (pv 1) (ao (pv 2) aB))))
  (aT (eI (pv 0) (bU bc (by rfl) ml (by rfl) (ao (pv 1) aB)) rfl) (aT (eI (pv 0) (bU bc (by rfl) ml (by rfl) (ao (pv 2) aB)) rfl)
  (aT (eI (pv 0) cK rfl) (aT (eI (pv 0) (cZ aB) rfl) (aT (eI (pv 0) (cZ aB) rfl) (aT (eI (pv 0) (cZ aB) rfl) (aT (eI (pv 0) (cZ aB) rfl) (bZ (eI (pv 0) (cZ aB) rfl))))))))),?_⟩
 refine⟨_,rfl,_,rfl,G,[.lst ds,.lst es],r,gh,.cons (.lst (.inl e1) d1) (.cons (.lst (.inl e2) d2) .nil),er,λd rd v G' H1 g _=>?_,λc fs rc cls dx' G' H' g m xd=>?_⟩
 ·have hx1:=g.hh _ _ hx
  have h11:=g.hh _ _ (gh _ _ e1);have h12:=g.hh _ _ (gh _ _ e2);have n1:l1≠x:=λz=>by rw[z,gx] at e1;cases e1
  have n2:l2≠x:=λz=>by rw[z,gx] at e2;cases e2
  have new:∀{Hk:Hp} {p:Addr} {o':HO},(∀b o,b≠x->H b=some o->Hk b=some o)->Hk x=some o'->Hk p=none->H p=none:=λ{Hk p o'} k kx kp=>by
   cases z:H p with
   |none=>rfl
   |some o=>
    by_cases w:p=x
    ·rw[w,kx] at kp;cases kp
    ·have:=k p o w z
     rw[kp] at this;cases this
  refine⟨_,rfl,l1,hs,rfl,.inl (SqL.of h11),λp1 hp1=>?_⟩;obtain⟨y1,H2,eq2,x2,a1,w1,k2⟩:=cX (f:="hills") (ys:=hs) hx1 hp1;refine⟨_,rfl,x,C,dx,[],rfl,y1,n.cl,n.n1,by decide,?_⟩;rw[<-eq2];refine⟨_,rfl,l2,cs,rfl,.inl (SqL.of (k2 _ _ n2 h12)),λp2 hp2=>?_⟩;obtain⟨y2,H3,eq3,x3,a2,w2,k3⟩:=cX (f:="cool") (ys:=cs) x2 hp2;refine⟨_,rfl,x,C,dx,_,rfl,y2,n.cl,n.n2,(wc (m:=20) (cn (zE _)) (by decide)),?_⟩;rw[<-eq3];obtain⟨H4,eq4,x4,k4⟩:=qr (f:="hour") (v:=.int 0) x3;refine⟨_,rfl,x,C,dx,_,rfl,x3,n.cl,n.n3,(wc (m:=20) (cn (cn (zE _))) (by decide)),?_⟩;rw[<-eq4];refine⟨zE _,λp3 hp3=>?_⟩;obtain⟨y5,H5,eq5,x5,a3,w3,k5⟩:=cX (f:="winds") (ys:=[]) x4 hp3;refine⟨_,rfl,x,C,dx,_,rfl,y5,n.cl,n.n4,(wc (m:=20) (cn (cn (cn (zE _)))) (by decide)),?_⟩;rw[<-eq5];refine⟨zE _,λp4 hp4=>?_⟩;obtain⟨y6,H6,eq6,x6,a4,w4,k6⟩:=cX (f:="shuts") (ys:=[]) x5 hp4;refine⟨_,rfl,x,C,dx,_,rfl,y6,n.cl,n.n5,(wc (m:=20) (cn (cn (cn (cn (zE _))))) (by decide)),?_⟩;rw[<-eq6];refine⟨zE _,λp5 hp5=>?_⟩;obtain⟨y7,H7,eq7,x7,a5,w5,k7⟩:=cX (f:="balloons") (ys:=[]) x6 hp5;refine⟨_,rfl,x,C,dx,_,rfl,y7,n.cl,n.n6,(wc (m:=20) (cn (cn (cn (cn (cn (zE _)))))) (by decide)),?_⟩;rw[<-eq7];refine⟨zE _,λp6 hp6=>?_⟩;obtain⟨y8,H8,eq8,x8,a6,w6,k8⟩:=cX (f:="deeds") (ys:=[]) x7 hp6;refine⟨_,rfl,x,C,dx,_,rfl,y8,n.cl,n.n7,(wc (m:=20) (cn (cn (cn (cn (cn (cn (zE _))))))) (by decide)),?_⟩;rw[<-eq8];refine⟨zE _,λp7 hp7=>?_⟩;obtain⟨y9,H9,eq9,x9,a7,w7,k9⟩:=cX (f:="holds") (ys:=[]) x8 hp7;refine⟨_,rfl,x,C,dx,_,rfl,y9,n.cl,n.n8,(wc (m:=20) (cn (cn (cn (cn (cn (cn (cn (zE _)))))))) (by decide)),?_⟩;rw[<-eq9];refine q1 d rd H9 (λb o hb e=>k9 _ _ hb (k8 _ _ hb (k7 _ _ hb (k6 _ _ hb (k5 _ _ hb (k4 _ _ hb (k3 _ _ hb (k2 _ _ hb (g.hh _ _ e))))))))) ?_
  refine⟨dx,_,p1,p2,p3,p4,p5,p6,x9,⟨?_,k9 _ _ w1 (k8 _ _ w1 (k7 _ _ w1 (k6 _ _ w1 (k5 _ _ w1 (k4 _ _ w1 (k3 _ _ w1 a1))))))⟩,⟨?_,k9 _ _ w2 (k8 _ _ w2 (k7 _ _ w2 (k6 _ _ w2 (k5 _ _ w2 (k4 _ _ w2 a2)))))⟩,?_,
   ⟨?_,k9 _ _ w3 (k8 _ _ w3 (k7 _ _ w3 (k6 _ _ w3 a3)))⟩,⟨?_,k9 _ _ w4 (k8 _ _ w4 (k7 _ _ w4 a4))⟩,⟨?_,k9 _ _ w5 (k8 _ _ w5 a5)⟩,⟨?_,k9 _ _ w6 a6⟩,⟨?_,?_,?_,?_⟩,new (λb o hb e=>g.hh _ _ e) hx1 hp1,new (λb o hb e=>k2 _ _ hb (g.hh _ _ e)) x2 hp2,new (λb o hb e=>k4 _ _ hb (k3 _ _ hb (k2 _ _ hb (g.hh _ _ e)))) x4 hp3,
   new (λb o hb e=>k5 _ _ hb (k4 _ _ hb (k3 _ _ hb (k2 _ _ hb (g.hh _ _ e))))) x5 hp4,new (λb o hb e=>k6 _ _ hb (k5 _ _ hb (k4 _ _ hb (k3 _ _ hb (k2 _ _ hb (g.hh _ _ e)))))) x6 hp5,new (λb o hb e=>k7 _ _ hb (k6 _ _ hb (k5 _ _ hb (k4 _ _ hb (k3 _ _ hb (k2 _ _ hb (g.hh _ _ e))))))) x7 hp6⟩
  all_goals (repeat (first | exact tR | rw[sA (by decide)]))
  all_goals rfl
 ·obtain⟨vs,hv,_⟩:=xd
  exact q2 c fs rc cls dx' H' g.hh m ⟨vs,g.gh _ _ hv⟩
abbrev sOp:Stmt:=top 75
abbrev tK:List Str:=["_law_hills","_law_cool","_law_found","_law_flags","e","_law_names"]
def fz:Ev->Option Fl:=(aJ (sIf (aA gtI (bt bq (aa 3)) (eC (.int 0))) (aJ (bJ 5 (eF (cT (ah (eC (.str "Full")) (ah (eC (.str "BadPlace")) (ah (eC (.str "BadHeight")) (ah (eC (.str "BadHour")) (ah (eC (.str "Twice")) (ah (eC (.str "BadName")) (ah (eC (.str "BadBox")) (ah (eC (.str "Late")) aW))))))))))) (cv (lE "" (ah (eF (eLC (mX (ah (aM 5) (ah (aM 3) aW))) 2 [] (dh 2 (aC (av 0) (aC (av 1) bF))) (h_ (aa 1)) (aM 0))) aW)))) bx) (cv (aM 2)))
structure ExA(Z:Wq)(B:Addr)(c:Str)(C:Addr):Prop where
 ok:OkE Z c C (.ref B::dP)
 kk:Ex.XK1 Z.K C
theorem iR{K:zb}{C:Addr}:zG K (.ref C) (.ref C)=some true:=by
 unfold zG;rw[if_pos (beq_self_eq_true _)]
theorem aH{K:zb}{B C D:Addr}(h1:Ex.XO K C (.ref B::dP))(h2:Ex.XO K D (.ref B::dP))(ne:C≠D)(nb:D≠B):zG K (.ref C) (.ref D)=some false:=by
 obtain⟨nm,q,N,bs,hd,sn,sub,ab,col,dd,k0,k1,k2,k3,k5,l1⟩:=h1.ob;obtain⟨nm',q',N',bs',hd',sn',sub',ab',col',dd',j0,j1,j2,j3,j5,l2⟩:=h2.ob;unfold zG PySem.W.kitCls;rw[if_neg (λz=>ne (Value.ref.inj (beq_iff_eq.mp z)))];have c2:(wQ K D).isSome=true:=by unfold wQ;rw[l2];rfl
 have t2:PySem.W.typeIn K (.ref D)=some (.type "type"):=by show Option.map _ (wy D K)=_;rw[l2];rfl
 obtain⟨cd,c1,m1⟩:∃cd,wQ K C=some cd/\cd.mro=.ref C :: .ref B::dP:=by unfold wQ;rw[l1];exact⟨_,rfl,rfl⟩
 simp only[c2,t2,beq_self_eq_true,Bool.and_self,if_true];show vV K C (.ref D)=_;unfold vV;rw[c1];show(if cd.mro.isEmpty=true then none else some (cd.mro.contains (zk D)))=_;rw[m1];have e1:(zk D==zk C)=false:=beq_eq_false_iff_ne.mpr λz=>ne (Value.ref.inj z).symm;have e2:(zk D==zk B)=false:=beq_eq_false_iff_ne.mpr λz=>nb (Value.ref.inj z);rw[if_neg (λz=>nomatch z),zS,zS,e1,e2];rfl
def isx(c:Str)(p1 p2 p3 p4:Pos):Expr:=.Call (.Name "isinstance" p1) [.Name "e" p2,.Name c p3] [] p4
section
variable{X:Cx}{a dx C D:Addr}{oe:Obj}{c:Str}{p1 p2 p3 p4:Pos}
theorem eL(g:Ex.XK1 X.K C)(hc:oe.cls=.ref C)(hd:oe.dict=some dx)(nc:xq oe=true)(hN:X.N[4]?=some ("e" : Str))(hv:Vis X.env.scope "e")(hg:Gl X "isinstance")(hm:X.mg "isinstance" = none)(hgc:Gl X c)(mc:X.mg c=some (.ref D))(dc:(c==("__debug__" : Str))=false)
  (he:zj [.Name "e" p2,.Name c p3] X.env=(false,eval (.Name "e" p2) X.env)::zj [.Name c p3] X.env) (he2:zj [.Name c p3] X.env=(false,eval (.Name c p3) X.env)::zj [] X.env) (hpl:(wo p4 (zj [.Name c p3] X.env)).any (·.1)=false) :
  PE (Mk3 X a oe) (isx c p1 p2 p3 p4) (tCB (uo X.K C a dx) (oF (tm 4) (oF (tC (.ref D)) sY))):=
 dH (X:=Mk3 X a oe) (o_ g hc hd nc) hg hm PyProof.Rows.boot_isinstance (ao (fB hN hv) (ao (mw (v:=.ref D) hgc mc rfl dc) aB he2) he) (by decide) (by decide) he hpl
end
def om(Z:Wq)(C:Addr):Sp:=λvs H Q _=>∃G l1 l2 hs cs ds es r,vs=[.ref l1,.ref l2]/\au G H/\G l1=some (.lst hs)/\G l2=some (.lst cs)/\DenL Z.K G hs ds/\DenL Z.K G cs es/\a8 [.lst ds,.lst es]=some r/\
 (∀d,r=.inl d->∀b H',au H H'->H b=none->BkF C H H' b hs cs->Q (.ref b) H')/\∀c fs,r=.inr (c,fs)->(c = "Full"\/c = "BadPlace"\/c = "BadHeight"\/c = "BadHour"\/c = "Twice")/\∀H',au H H'->Q (.str c) H'
structure Cls8(Z:Wq)(B c1 c2 c3 c4 c5 c6 c7 c8:Addr):Prop where
 b:OkE Z "BookError" B dP
 e1:ExA Z B "Full" c1
 e2:ExA Z B "BadPlace" c2
 e3:ExA Z B "BadHeight" c3
 e4:ExA Z B "BadHour" c4
 e5:ExA Z B "Twice" c5
 e6:ExA Z B "BadName" c6
 e7:ExA Z B "BadBox" c7
 e8:ExA Z B "Late" c8
 nd:[B,c1,c2,c3,c4,c5,c6,c7,c8].Nodup
theorem lW{K:zb}{G:Hp}:∀bs:List Bool,DenL K G (bs.map V.bl) (bs.map D.bl)
 |[]=>.nil
 |b::r=>.cons (.bl b) (lW r)
theorem oz{K:zb}{He G H:Hp}{l1 l2 p:Addr}{bs:List Bool}(hp:G p=some (.lst (bs.map V.bl))):EnvD K He G H [some (.ref l1),some (.ref l2),some .non,some (.ref p),none,none] [.un,.un,.dat .non,.dat (.lst (bs.map D.bl)),.un,.un] where
 len:=rfl
 dat:=λ{i d} e=>by
  match i,e with
  |0,e=>cases e
  |1,e=>cases e
  |4,e=>cases e
  |5,e=>cases e
  |2,e=>cases e;exact⟨_,rfl,.non⟩
  |3,e=>cases e;exact⟨_,rfl,.lst (.inl hp) (lW bs)⟩
 own:=λ{i d} e=>by match i,e with | 0,e=>cases e | 1,e=>cases e | 2,e=>cases e | 3,e=>cases e | 4,e=>cases e | 5,e=>cases e
 apart:=λ{i j d d' a} e=>by match i,e with | 0,e=>cases e | 1,e=>cases e | 2,e=>cases e | 3,e=>cases e | 4,e=>cases e | 5,e=>cases e
 odi:=λ{i d} e=>by match i,e with | 0,e=>cases e | 1,e=>cases e | 2,e=>cases e | 3,e=>cases e | 4,e=>cases e | 5,e=>cases e
 apartD:=λ{i j d d' a} e=>by match i,e with | 0,e=>cases e | 1,e=>cases e | 2,e=>cases e | 3,e=>cases e | 4,e=>cases e | 5,e=>cases e
theorem w1:fz [.un,.un,.dat .non,.dat (.lst ([true,false,false,false,false,false,false,false].map D.bl)),.un,.un]=some (.rt (.str "Full")):=by rfl
theorem w2:fz [.un,.un,.dat .non,.dat (.lst ([false,true,false,false,false,false,false,false].map D.bl)),.un,.un]=some (.rt (.str "BadPlace")):=by rfl
theorem w3:fz [.un,.un,.dat .non,.dat (.lst ([false,false,true,false,false,false,false,false].map D.bl)),.un,.un]=some (.rt (.str "BadHeight")):=by rfl
theorem w4:fz [.un,.un,.dat .non,.dat (.lst ([false,false,false,true,false,false,false,false].map D.bl)),.un,.un]=some (.rt (.str "BadHour")):=by rfl
theorem w5:fz [.un,.un,.dat .non,.dat (.lst ([false,false,false,false,true,false,false,false].map D.bl)),.un,.un]=some (.rt (.str "Twice")):=by rfl
theorem lK{X:Cx}{pins:List (Addr×Obj)}{s:zd}{σ:L2.St}{H:Hp}{D:Ends}{st:List Stmt}{t:TS}(I:Inv X pins σ H s)(h:PSs X st t)(q:t D σ H):zf (zg X.prog X.w) X.A (execs st X.env) (SP X pins D) X.xe s:=h pins s σ H D I q
theorem mH{X:Cx}{pins:List (Addr×Obj)}{s:zd}{σ:L2.St}{He Ge G H:Hp}{D:Ends}{st:List Stmt}{g:Ev->Option Fl}{ε:Ev}{r:Fl}(I:Inv X pins σ H s)(h:DSs X st g)(S:Sta X.K He Ge G H σ ε)(e:g ε=some r)(P:sN X He Ge r D) :
  zf (zg X.prog X.w) X.A (execs st X.env) (SP X pins D) X.xe s:=let⟨_,t1,t2⟩:=h;t1 pins s σ H D I (t2 He Ge G H σ ε r D S e P)
theorem qu{Z:Wq}{base:Heap}{f C fI B c1 c2 c3 c4 c5 c6 c7 c8:Addr}{fd fdI:zX}(F:Fun Z.K "_law_open" "_law_open" sOp f fd)(M:Md Z)(mb:Z.mg "Book" = some (.ref C))(MK:Mk Z.K C fI)
  (hI:∀base,FnOk Z.P Z.w Z.K Z.mg base (Ex.CX1 Z.P Z.w) 6 fI fdI ["self","hills","cool"] (lh Z C)) (bI:ej Z.K fdI ["self","hills","cool"] []) (cs8:Cls8 Z B c1 c2 c3 c4 c5 c6 c7 c8) :
  FnOk Z.P Z.w Z.K Z.mg base CX0 8 f fd ["_law_hills","_law_cool"] (om Z C):=by
 have S:FnScope tK ["_law_hills","_law_cool"] (ax sOp):=⟨rfl,rfl,rfl,by decide +kernel,rfl,by decide +kernel,by decide +kernel⟩;refine F.ok (k:=7) S (λvs H Q E h=>?_) (λcdv A outer s H vs Q E hr h=>?_)
 ·obtain⟨G,l1,l2,hs,cs,ds,es,r,rfl,_⟩:=h
  rfl
 obtain⟨G,l1,l2,hs,cs,ds,es,r,rfl,gh,e1,e2,d1,d2,er,q1,q2⟩:=h;refine⟨_,aT (dU (i:=2) S.nd rfl (zV rfl) ou) (aT (dU (i:=3) S.nd rfl (zV rfl) (cZ aB)) Ex.gY),?_⟩;refine⟨zE _,λp3 hp3 pins s1 I=>?_⟩;have g3:au H (upd H p3 (.lst [])):=aG _ hp3;have h3:upd H p3 (.lst []) p3=some (.lst []):=aj;generalize upd H p3 (.lst [])=H1 at *;refine zU (wpAny_Try_except (zU (wpAny_Assign_Name (xa (eZ I rfl mb ?_ (by decide))) rfl)));refine PySem.W.callWith_K (h₀:=base) I.ok.mod.kin MK.kp (wz ((ao (pv 0) (ao (pv 1) aB)) _ pins s1 _ H1 (λvs H2=>vs=[.ref l1,.ref l2]/\H2=H1) I ⟨_,rfl,_,rfl,rfl,rfl⟩) (λus s2 ⟨vs,H2,I2,rv,ev,eh⟩=>⟨I2.kIn,?_⟩) λ_ _ z=>z.elim) rfl rfl;subst ev eh;obtain⟨hh,gg,dw,tk,os⟩:=s2;have I3:=Inv.made (C:=C) I2;have fx:H2 (hh.objs.size+1)=none:=I2.hok.fresh (Nat.le_succ _);have fdx:H2 hh.objs.size=none:=I2.hok.fresh (zp _);have nx:hh.objs.size≠hh.objs.size+1:=zC (Nat.lt_succ_self _);have gm:au H2 (upd (upd H2 hh.objs.size (.own (hh.objs.size+1))) (hh.objs.size+1) (.ins C hh.objs.size [])):=(aG _ fdx).trans (aG _ (by rw[ak (Ne.symm nx)];exact fx));have xm:upd (upd H2 hh.objs.size (.own (hh.objs.size+1))) (hh.objs.size+1) (.ins C hh.objs.size []) (hh.objs.size+1)=some (.ins C hh.objs.size []):=aj;have I3':Inv _ pins _ (upd (upd H2 hh.objs.size (.own (hh.objs.size+1))) (hh.objs.size+1) (.ins C hh.objs.size [])) ⟨(hh.push z0).push (wg C hh.objs.size),gg,dw,tk,os⟩:=I3
 clear I3
 generalize upd (upd H2 hh.objs.size (.own (hh.objs.size+1))) (hh.objs.size+1) (.ins C hh.objs.size [])=Hm at *
 have gx:G (hh.objs.size+1)=none:=by
  cases z:G (hh.objs.size+1) with
  |none=>rfl
  |some o=>have:=g3 _ _ (gh _ _ z);rw[fx] at this;cases this
 have SPI:lh Z C [.ref (hh.objs.size+1),.ref l1,.ref l2] Hm (λv H4=>v=.non/\(∃d,r=.inl d)/\(∀b o,b≠hh.objs.size+1->Hm b=some o->H4 b=some o)/\BkF C Hm H4 (hh.objs.size+1) hs cs)
   (λcls od H4=>∃c fs dx',r=.inr (c,fs)/\od=some dx'/\au Hm H4/\Z.mg c=some cls/\∃vs,H4 dx'=some (.xd vs)):=
  ⟨_,_,G,l1,l2,hs,cs,ds,es,r,rfl,xm,gx,λb o e=>gm _ _ (g3 _ _ (gh _ _ e)),e1,e2,d1,d2,er,λd rd H4 k bk=>⟨rfl,⟨d,rd⟩,k,bk⟩,λc fs rc cls dx' H4 g m xd=>⟨c,fs,dx',rc,rfl,g,m,xd⟩⟩
 have r2:aL [V.ref (hh.objs.size+1),V.ref l1,V.ref l2] (zk (hh.objs.size+1)::us):=.cons rfl rv;have hl:(zk (hh.objs.size+1)::us++[]).length=3:=by rw[xg,<-r2.length];rfl
 have bb:=bI ⟨(hh.push z0).push (wg C hh.objs.size),gg,dw,tk,os⟩ (zk (hh.objs.size+1)::us) I3'.kIn hl;rw[xg] at bb;refine wpAny_call (oS (f:=fI) I2.kIn MK.makes MK.init (beq_iff_eq.mp MK.fn) (codeAny_mono ((hI base).run _ _ _ Hm ⟨zk (hh.objs.size+1)::us,[]⟩ (zk (hh.objs.size+1)::us) _ _ _ (hr.make C us []) (I3'.env0.make C us []) bb r2 SPI) λres s3 z=>?_));cases res with
 |ok fl=>
  cases fl with
  |ret u=>
   obtain⟨v,H4,I4,rv4,ev,⟨d,rd⟩,k4,bk⟩:=I3'.after z;subst ev;refine⟨rv4,?_⟩;refine fU (v:=.ref (hh.objs.size+1)) I4 S.nd (i:=2) rfl (zV rfl) rfl (λs5 I5=>?_) (.inl rfl);refine xB (xB ?_);have same4:au H2 H4:=λb o e=>k4 b o (ar e fx) (gm _ _ e);refine lK I5 (aT (ja (mz rK (dH fP rfl M.b_len PySem.boot_len (ao (pv 3) aB)) cK (aF _)) Ex.gY eW) (bZ (fw (pv 2)))) ?_;refine⟨_,rfl,p3,[],rfl,.inl (SqL.of (same4 _ _ h3)),_,_,rfl,rfl,_,rfl,?_⟩;refine vA (λc=>absurd c (by decide)) λ_=>?_;exact⟨_,rfl,q1 d rd _ H4 (g3.trans same4) (g3.free fx) (bk.less λq z=>g3.free (gm.free z))⟩
  |next=>exact zW z
  |brk=>exact zW z
  |cont=>exact zW z
 |error ex=>
  obtain⟨a,cls,dxe,H4,rfl,os4,bare,un,hok,xat,c,fs,dx',rc,ed,same,mc,vs,hv⟩:=z;cases ed;obtain⟨nC,q3⟩:=q2 c fs rc;have nd:=cs8.nd;simp only[xU,zq,zM,not_or,or_false,not_false_eq_true,List.nodup_nil,and_true,<-ne_eq] at nd;obtain⟨⟨m1,m2,m3,m4,m5,m6,m7,m8⟩,⟨m12,m13,m14,m15,m16,m17,m18⟩,⟨m23,m24,m25,m26,m27,m28⟩,⟨m34,m35,m36,m37,m38⟩,⟨m45,m46,m47,m48⟩,⟨m56,m57,m58⟩,⟨m67,m68⟩,m78⟩:=nd
  obtain⟨Cc,b1,b2,b3,b4,b5,b6,b7,b8,A,t1,t2,t3,t4,t5,t6,t7,t8,wr⟩:∃(Cc:Addr) (b1 b2 b3 b4 b5 b6 b7 b8:Bool),ExA Z B c Cc/\zG Z.K (.ref Cc) (.ref c1)=some b1/\zG Z.K (.ref Cc) (.ref c2)=some b2/\zG Z.K (.ref Cc) (.ref c3)=some b3/\zG Z.K (.ref Cc) (.ref c4)=some b4/\zG Z.K (.ref Cc) (.ref c5)=some b5/\zG Z.K (.ref Cc) (.ref c6)=some b6/\zG Z.K (.ref Cc) (.ref c7)=some b7/\zG Z.K (.ref Cc) (.ref c8)=some b8/\
    fz [.un,.un,.dat .non,.dat (.lst ([b1,b2,b3,b4,b5,b6,b7,b8].map D.bl)),.un,.un]=some (.rt (.str c)):=by
   rcases nC with rfl | rfl | rfl | rfl | rfl
   ·exact⟨c1,true,false,false,false,false,false,false,false,cs8.e1,iR,aH cs8.e1.ok.xo cs8.e2.ok.xo (by first | assumption | exact Ne.symm (by assumption)) (by first | assumption | exact Ne.symm (by assumption)),aH cs8.e1.ok.xo cs8.e3.ok.xo (by first | assumption | exact Ne.symm (by assumption)) (by first | assumption | exact Ne.symm (by assumption)),aH cs8.e1.ok.xo cs8.e4.ok.xo (by first | assumption | exact Ne.symm (by assumption)) (by first | assumption | exact Ne.symm (by assumption)),aH cs8.e1.ok.xo cs8.e5.ok.xo (by first | assumption | exact Ne.symm (by assumption)) (by first | assumption | exact Ne.symm (by assumption)),aH cs8.e1.ok.xo cs8.e6.ok.xo (by first | assumption | exact Ne.symm (by assumption)) (by first | assumption | exact Ne.symm (by assumption)),aH cs8.e1.ok.xo cs8.e7.ok.xo (by first | assumption | exact Ne.symm (by assumption)) (by first | assumption | exact Ne.symm (by assumption)),aH cs8.e1.ok.xo cs8.e8.ok.xo (by first | assumption | exact Ne.symm (by assumption)) (by first | assumption | exact Ne.symm (by assumption)),w1⟩
   ·exact⟨c2,false,true,false,false,false,false,false,false,cs8.e2,aH cs8.e2.ok.xo cs8.e1.ok.xo (by first | assumption | exact Ne.symm (by assumption)) (by first | assumption | exact Ne.symm (by assumption)),iR,aH cs8.e2.ok.xo cs8.e3.ok.xo (by first | assumption | exact Ne.symm (by assumption)) (by first | assumption | exact Ne.symm (by assumption)),aH cs8.e2.ok.xo cs8.e4.ok.xo (by first | assumption | exact Ne.symm (by assumption)) (by first | assumption | exact Ne.symm (by assumption)),aH cs8.e2.ok.xo cs8.e5.ok.xo (by first | assumption | exact Ne.symm (by assumption)) (by first | assumption | exact Ne.symm (by assumption)),aH cs8.e2.ok.xo cs8.e6.ok.xo (by first | assumption | exact Ne.symm (by assumption)) (by first | assumption | exact Ne.symm (by assumption)),aH cs8.e2.ok.xo cs8.e7.ok.xo (by first | assumption | exact Ne.symm (by assumption)) (by first | assumption | exact Ne.symm (by assumption)),aH cs8.e2.ok.xo cs8.e8.ok.xo (by first | assumption | exact Ne.symm (by assumption)) (by first | assumption | exact Ne.symm (by assumption)),w2⟩
   ·exact⟨c3,false,false,true,false,false,false,false,false,cs8.e3,aH cs8.e3.ok.xo cs8.e1.ok.xo (by first | assumption | exact Ne.symm (by assumption)) (by first | assumption | exact Ne.symm (by assumption)),aH cs8.e3.ok.xo cs8.e2.ok.xo (by first | assumption | exact Ne.symm (by assumption)) (by first | assumption | exact Ne.symm (by assumption)),iR,aH cs8.e3.ok.xo cs8.e4.ok.xo (by first | assumption | exact Ne.symm (by assumption)) (by first | assumption | exact Ne.symm (by assumption)),aH cs8.e3.ok.xo cs8.e5.ok.xo (by first | assumption | exact Ne.symm (by assumption)) (by first | assumption | exact Ne.symm (by assumption)),aH cs8.e3.ok.xo cs8.e6.ok.xo (by first | assumption | exact Ne.symm (by assumption)) (by first | assumption | exact Ne.symm (by assumption)),aH cs8.e3.ok.xo cs8.e7.ok.xo (by first | assumption | exact Ne.symm (by assumption)) (by first | assumption | exact Ne.symm (by assumption)),aH cs8.e3.ok.xo cs8.e8.ok.xo (by first | assumption | exact Ne.symm (by assumption)) (by first | assumption | exact Ne.symm (by assumption)),w3⟩
   ·exact⟨c4,false,false,false,true,false,false,false,false,cs8.e4,aH cs8.e4.ok.xo cs8.e1.ok.xo (by first | assumption | exact Ne.symm (by assumption)) (by first | assumption | exact Ne.symm (by assumption)),aH cs8.e4.ok.xo cs8.e2.ok.xo (by first | assumption | exact Ne.symm (by assumption)) (by first | assumption | exact Ne.symm (by assumption)),aH cs8.e4.ok.xo cs8.e3.ok.xo (by first | assumption | exact Ne.symm (by assumption)) (by first | assumption | exact Ne.symm (by assumption)),iR,aH cs8.e4.ok.xo cs8.e5.ok.xo (by first | assumption | exact Ne.symm (by assumption)) (by first | assumption | exact Ne.symm (by assumption)),aH cs8.e4.ok.xo cs8.e6.ok.xo (by first | assumption | exact Ne.symm (by assumption)) (by first | assumption | exact Ne.symm (by assumption)),aH cs8.e4.ok.xo cs8.e7.ok.xo (by first | assumption | exact Ne.symm (by assumption)) (by first | assumption | exact Ne.symm (by assumption)),aH cs8.e4.ok.xo cs8.e8.ok.xo (by first | assumption | exact Ne.symm (by assumption)) (by first | assumption | exact Ne.symm (by assumption)),w4⟩
   ·exact⟨c5,false,false,false,false,true,false,false,false,cs8.e5,aH cs8.e5.ok.xo cs8.e1.ok.xo (by first | assumption | exact Ne.symm (by assumption)) (by first | assumption | exact Ne.symm (by assumption)),aH cs8.e5.ok.xo cs8.e2.ok.xo (by first | assumption | exact Ne.symm (by assumption)) (by first | assumption | exact Ne.symm (by assumption)),aH cs8.e5.ok.xo cs8.e3.ok.xo (by first | assumption | exact Ne.symm (by assumption)) (by first | assumption | exact Ne.symm (by assumption)),aH cs8.e5.ok.xo cs8.e4.ok.xo (by first | assumption | exact Ne.symm (by assumption)) (by first | assumption | exact Ne.symm (by assumption)),iR,aH cs8.e5.ok.xo cs8.e6.ok.xo (by first | assumption | exact Ne.symm (by assumption)) (by first | assumption | exact Ne.symm (by assumption)),aH cs8.e5.ok.xo cs8.e7.ok.xo (by first | assumption | exact Ne.symm (by assumption)) (by first | assumption | exact Ne.symm (by assumption)),aH cs8.e5.ok.xo cs8.e8.ok.xo (by first | assumption | exact Ne.symm (by assumption)) (by first | assumption | exact Ne.symm (by assumption)),w5⟩
  clear m1 m2 m3 m4 m5 m6 m7 m8 m12 m13 m14 m15 m16 m17 m18 m23 m24 m25 m26 m27 m28 m34 m35 m36 m37 m38 m45 m46 m47 m48 m56 m57 m58 m67 m68 m78
  have ecl:cls=.ref Cc:=Option.some.inj (mc.symm.trans A.ok.mg);subst ecl;refine Ex.qO (R:=λσ4 H5=>∃p,σ4=[some (.ref l1),some (.ref l2),some .non,some (.ref p),some (.ref a),none]/\au H4 H5/\H5 p=some (.lst ([b1,b2,b3,b4,b5,b6,b7,b8].map V.bl))) I3' rfl rfl os4 bare un hok xat A.ok.xo cs8.b.xo (by simp) rfl cs8.b.mg (by decide) rfl S.nd (i:=4) rfl (λoe s4 oc odd nc I4=>?_) λσ4 H5 s5 hR I5=>?_
  ·refine pA I4 (aT (dU (i:=3) S.nd rfl (zV rfl) (cZ (ao (eL A.kk oc odd nc rfl (zV rfl) rfl M.b_isinstance rfl cs8.e1.ok.mg (by decide) rfl rfl rfl) (ao (eL A.kk oc odd nc rfl (zV rfl) rfl M.b_isinstance rfl cs8.e2.ok.mg (by decide) rfl rfl rfl) (ao (eL A.kk oc odd nc rfl (zV rfl) rfl M.b_isinstance rfl cs8.e3.ok.mg (by decide) rfl rfl rfl) (ao (eL A.kk oc odd nc rfl (zV rfl) rfl M.b_isinstance rfl cs8.e4.ok.mg (by decide) rfl rfl rfl) aB)))))) (bZ (dU (i:=3) S.nd rfl (zV rfl) (rE rQ (pv 3) (cZ (ao (eL A.kk oc odd nc rfl (zV rfl) rfl M.b_isinstance rfl cs8.e5.ok.mg (by decide) rfl rfl rfl) (ao (eL A.kk oc odd nc rfl (zV rfl) rfl M.b_isinstance rfl cs8.e6.ok.mg (by decide) rfl rfl rfl) (ao (eL A.kk oc odd nc rfl (zV rfl) rfl M.b_isinstance rfl cs8.e7.ok.mg (by decide) rfl rfl rfl) (ao (eL A.kk oc odd nc rfl (zV rfl) rfl M.b_isinstance rfl cs8.e8.ok.mg (by decide) rfl rfl rfl) aB))))))))) ?_
   refine⟨_,rfl,vs,c1,b1,rfl,hv,t1,_,rfl,vs,c2,b2,rfl,hv,t2,_,rfl,vs,c3,b3,rfl,hv,t3,_,rfl,vs,c4,b4,rfl,hv,t4,(by show 4<=zt;decide),λp5 hp5=>?_⟩;have g5:=aG (.lst [.bl b1,.bl b2,.bl b3,.bl b4]) hp5;have hv5:=g5 _ _ hv;refine⟨_,rfl,_,rfl,vs,c5,b5,rfl,hv5,t5,_,rfl,vs,c6,b6,rfl,hv5,t6,_,rfl,vs,c7,b7,rfl,hv5,t7,_,rfl,vs,c8,b8,rfl,hv5,t8,(by show 4<=zt;decide),λp6 hp6=>?_⟩;have g6:=aG (.lst [.bl b5,.bl b6,.bl b7,.bl b8]) hp6;refine⟨p5,p6,_,_,rfl,rfl,g6 _ _ aj,aj,(by show 8<=zt;decide),λp7 hp7=>?_⟩;exact⟨p7,rfl,g5.trans (g6.trans (aG _ hp7)),aj⟩
  ·obtain⟨p,rfl,g5,hp5⟩:=hR
   refine mH (He:=H5) (Ge:=H5) (G:=H5) (ε:=[.un,.un,.dat .non,.dat (.lst ([b1,b2,b3,b4,b5,b6,b7,b8].map D.bl)),.un,.un]) (r:=.rt (.str c)) (g:=fz) I5
    (aq (bA (aR eN (DE.db (b9 (af 3) M.b_len)) (DE.db ae) (aF _)) (aq (bT 5 S.nd (DF.de (cg (ag bB (ag bB (ag bB (ag bB (ag bB (ag bB (ag bB (ag bB aK))))))))))) (az (br (og (ag (DF.de (rC (tn:=["_law_name","_law_flag"]) (fr:=[]) (ix:=[]) rfl (pS (ag (aD 5) (ag (aD 3) aK)) M.b_zip) (jK (by rfl) (by exact trivial) (by exact trivial) (by rfl) (by rfl) (by rfl) (by rfl) (by rfl)) (oN (gk (fJ _) (gk (fJ _) mj))) (λ_ _ _ _ _=>(js rfl (bg (aQ 0 (show(((["_law_name","_law_flag"]:List Str)++([]:List Str)):List Str).Nodup by decide +kernel)) (bg (aQ 1 (show(((["_law_name","_law_flag"]:List Str)++([]:List Str)):List Str).Nodup by decide +kernel)) eY)))) (λ_ _ _ _ _=>(qx (dC (af 1)))) (λ_ _ _ _ _=>(aD 0)))) aK))))) aS) (az (br (aD 2))))
    ⟨Grow.refl (au.refl _),oz hp5⟩ wr (λv G' H' g dn=>?_)
   cases dn;exact q3 H' (g3.trans (gm.trans (same.trans (g5.trans g.hh))))
section
variable{X:Cx}{pins:List (Addr×Obj)}{s:zd}{σ:L2.St}{He G H:Hp}{ε:Ev}{Q:Flow->zd->Prop}
theorem fF{st:Stmt}{t:TS}{R:L2.St->Hp->Prop}(I:Inv X pins σ H s)(h:PS X st t)(q:t ⟨R,λ_ _=>False,λ_ _=>False,λ_ _=>False⟩ σ H)(k:∀σ' H' s',Inv X pins σ' H' s'->R σ' H'->Q .next s'):zf (zg X.prog X.w) X.A (exec st X.env) Q X.xe s:=by
 refine wz (h pins s σ H _ I q) (λf s' z=>?_) λ_ _ z=>z;cases f with
 |next=>obtain⟨σ4,H4,I4,r⟩:=z;exact k σ4 H4 s' I4 r
 |brk=>obtain⟨_,_,_,r⟩:=z;exact r.elim
 |cont=>obtain⟨_,_,_,r⟩:=z;exact r.elim
 |ret u=>obtain⟨_,_,_,_,_,r⟩:=z;exact r.elim
theorem pw{c:Expr}{a:List Stmt}{pos:Pos}{f:Ev->Option Bool}(I:Inv X pins σ H s)(h:DT X c f)(gh:au G H)(E:EnvD X.K He G H σ ε)(e:f ε=some false)(k:∀H' s',au H H'->Inv X pins σ H' s'->Q .next s'):zf (zg X.prog X.w) X.A (exec (.If c a [] pos) X.env) Q X.xe s:=by
 obtain⟨t,p1,p2⟩:=h;exact fF I (ja p1 Ex.gY eW) (R:=λσ' H'=>σ'=σ/\au H H') (p2 He G H σ ε false _ gh E e λG' H' g=>qe ⟨rfl,g.hh⟩) λσ' H' s' I' ⟨e1,g⟩=>by subst e1;exact k H' s' g I'
theorem pY{i:Nat}{x:Str}{px ap:Pos}{e:Expr}{f:Ev->Option D}{d:D}(I:Inv X pins σ H s)(hN:X.N.Nodup)(hi:X.N[i]?=some x)(hx:Loc X.env.scope x)(h:DE X e f)(gh:au G H)(E:EnvD X.K He G H σ ε)(ef:f ε=some d)
  (k:∀v G' H' s',Grow G H G' H'->Den X.K G' v d->Inv X pins (σ.set i (some v)) H' s'->Q .next s') (hs:xJ e (some (.Name x px)) ap.line X.env=pure false) (hf:X.fn x=true\/X.env.scope.names.lookup x=some .local) :
  zf (zg X.prog X.w) X.A (exec (.Assign [.Name x px] e ap) X.env) Q X.xe s:=by
 obtain⟨t,p1,p2⟩:=h;exact fF I (dU hN hi hx p1 hs hf) (R:=λσ' H'=>∃v G',σ'=σ.set i (some v)/\Grow G H G' H'/\Den X.K G' v d) (p2 He G H σ ε d _ gh E ef λv G' H' g dn=>⟨v,G',rfl,g,dn⟩) λσ' H' s' I' ⟨v,G',e1,g,dn⟩=>by subst e1;exact k v G' H' s' g dn I'
end
abbrev uh:List Str:=["_law_script","_law_numbers_here","_law_hills","_law_cool","_law_handed","_law_hours","_law_found","_law_fault_here","_law_again","_law_told","_law_rows"]
abbrev kD:List Str:=["_law_script"]
def nC(c:Str):Prop:=c = "Full"\/c = "BadPlace"\/c = "BadHeight"\/c = "BadHour"\/c = "Twice"
def nr(hs cs:List D):D:=.tup [.lst hs,.lst cs,.lst [],.lst []]
def uK(hs cs:List D):Prop:=∃fa:Str,d7 [.lst hs,.lst cs]=some (.str fa)/\((fa = ""/\∃d,a8 [.lst hs,.lst cs]=some (.inl d))\/(nC fa/\∃fs,a8 [.lst hs,.lst cs]=some (.inr (fa,fs))))/\d6 (.lst hs) (.lst hs)=some (.bl false)/\d6 (.lst cs) (.lst cs)=some (.bl false)/\
 cC [nr hs cs,nr hs cs]=some (.bl true)/\hs.length<=1000/\cs.length<=1000
open Classical in
noncomputable def oR:Ev->Option Fl:=λε=>if ∃d0 d1 hs cs,ε=[.dat d0,.dat d1,.dat (.lst hs),.dat (.lst cs),.own hs,.own cs,.un,.un,.un,.un,.un]/\uK hs cs then some (.rt (.bl true)) else none
noncomputable def va:Ev->Option Fl:=aJ (bJ 1 (ba c_ (ah (aM 0) (ah (eC (.int 100)) aW)))) (aJ (pb (ba dX (ah (aM 1) aW)) (j7 2 (aC (av 2) (aC (av 3) bF)))) (aJ (kj 4 (l7 (aa 2))) (aJ (kj 5 (l7 (aa 3))) oR)))
noncomputable def kl:List D->Option D:=fnD uh kD va
def MOk(Z:Wq)(C:Addr)(m:Str)(sp:Sp):Prop:=∃f fd,Meth Z.K C m f/\ej Z.K fd ["self"] []/\∀base,FnOk Z.P Z.w Z.K Z.mg base CX0 1 f fd ["self"] sp
structure BkOk(Z:Wq)(C:Addr):Prop where
 na:NoA Z.K C
 now:MOk Z C "now" (rj C)
 sky:MOk Z C "sky" (rk C)
 done:MOk Z C "done" (pQ C)
 names:MOk Z C "names" (mf C)
 ha:zo Z.K (.ref C) "__class__" = some (some (.builtin "object.__class__"))
 hn:xF Z.K (.builtin "object.__class__") "__get__" = some (some (.builtin "getset_descriptor.__get__"))
 htk:xT Z.K (.builtin "object.__class__")=some true
 hm:vV Z.K C (.type "object")=some true
 ks:zG Z.K (.ref C) (.type "str")=some false
 op:∃f fd,Z.mg "_law_open" = some (.ref f)/\zY Z.K (.ref f)=true/\ej Z.K fd ["_law_hills","_law_cool"] []/\∀base,FnOk Z.P Z.w Z.K Z.mg base CX0 8 f fd ["_law_hills","_law_cool"] (om Z C)
 ms:Z.mg "str" = none
theorem eU{G H H':Hp}(gh:au G H)(g:au H H'):Grow G H G H':=⟨g,au.refl _,gh.trans g,λ_ _ _ e=>e⟩
theorem uV{α:Type}{l:List α}(h:l.length=11):∃a b c d e f g i j k m,l=[a,b,c,d,e,f,g,i,j,k,m]:=match l,h with | [a,b,c,d,e,f,g,i,j,k,m],_=>⟨a,b,c,d,e,f,g,i,j,k,m,rfl⟩
theorem nO{X:Cx}{st:List Stmt}:DSs X st (λ_=>none):=⟨λ_ _ _=>False,λ_ _ _ _ _ _ h=>h.elim,λ_ _ _ _ _ _ _ _ _ e=>by cases e⟩
def t5:Ev->Option Bool:=dE (aA d6 (aa 4) (aa 2)) (aA d6 (aa 5) (aa 3))
theorem rm{y0 y1 y6 y7 y8 y9 y10:Sl}{hs cs:List D}(w3:d6 (.lst hs) (.lst hs)=some (.bl false))(w4:d6 (.lst cs) (.lst cs)=some (.bl false)):t5 [y0,y1,.dat (.lst hs),.dat (.lst cs),.own hs,.own cs,y6,y7,y8,y9,y10]=some false:=by
 have a1:aA d6 (aa 4) (aa 2) [y0,y1,.dat (.lst hs),.dat (.lst cs),.own hs,.own cs,y6,y7,y8,y9,y10]=some false:=cQ (x:=.lst hs) (y:=.lst hs) rfl rfl w3;have a2:aA d6 (aa 5) (aa 3) [y0,y1,.dat (.lst hs),.dat (.lst cs),.own hs,.own cs,y6,y7,y8,y9,y10]=some false:=cQ (x:=.lst cs) (y:=.lst cs) rfl rfl w4;unfold t5 dE;simp[a1,a2]
theorem oa{X:Cx}{C:Addr}(bk:BkOk ⟨X.prog,X.w,X.K,X.mg⟩ C):fq X (.builtin "isinstance") (λxs H Q=>∃b dx fs,xs=[.ref b,.ty "str"]/\H b=some (.ins C dx fs)/\Q (.bl false) H):=by
 rintro pins s σ H xs us Q I rv ⟨b,dx,fs,rfl,hb,q⟩;obtain⟨u1,u2,rfl,r1,r2⟩:=rv.two;cases r2;exact nQ I r1 (.ins hb bk.na.cl bk.ha bk.hn bk.htk bk.hm) bk.ks λtk=>⟨.bl false,H,I.tok tk,rfl,q⟩
def tDt(K:zb)(f:Ev->Option Bool):TT:=λσ H Q=>∃He G ε b,au G H/\EnvD K He G H σ ε/\f ε=some b/\∀H',au H H'->Q b H'
theorem ue{X:Cx}{c:Expr}{f:Ev->Option Bool}(h:DT X c f):PT X c (tDt X.K f):=by
 obtain⟨t,p1,p2⟩:=h;rintro pins s σ H Q I ⟨He,G,ε,b,gh,E,e,q⟩;exact p1 pins s σ H Q I (p2 He G H σ ε b Q gh E e λG' H' g=>q H' g.hh)
theorem cB{H:Hp}{t a:Addr}{o o':HO}(ht:H t=none):∀q u,q≠a->H q=some u->upd (upd H t o) a o' q=some u:=λq u hq e=>by
 rw[ak hq,ak (ar e ht)];exact e
theorem tq{H:Hp}{l1 l2 l3 l4 p:Addr}{hs cs:List V}(h1:H l1=none)(h2:upd H l1 (.lst hs) l2=none)(h3:upd (upd H l1 (.lst hs)) l2 (.lst cs) l3=none)(h4:upd (upd (upd H l1 (.lst hs)) l2 (.lst cs)) l3 (.lst []) l4=none)
  (hp:upd (upd (upd (upd H l1 (.lst hs)) l2 (.lst cs)) l3 (.lst [])) l4 (.lst []) p=none):∃Hs,Hs=upd (upd (upd (upd (upd H l1 (.lst hs)) l2 (.lst cs)) l3 (.lst [])) l4 (.lst [])) p (.tup [.ref l1,.ref l2,.ref l3,.ref l4])/\au H Hs/\Hs p=some (.tup [.ref l1,.ref l2,.ref l3,.ref l4])/\
  Hs l1=some (.lst hs)/\Hs l2=some (.lst cs)/\Hs l3=some (.lst [])/\Hs l4=some (.lst [])/\∀l∈[l1,l2,l3,l4],H l=none:=by
 have g1:=aG (.lst hs) h1;have g2:=aG (.lst cs) h2;have g3:=aG (.lst []) h3;have g4:=aG (.lst []) h4;have g5:=aG (.tup [.ref l1,.ref l2,.ref l3,.ref l4]) hp;refine⟨_,rfl,g1.trans (g2.trans (g3.trans (g4.trans g5))),aj,g5 _ _ (g4 _ _ (g3 _ _ (g2 _ _ aj))),g5 _ _ (g4 _ _ (g3 _ _ aj)),g5 _ _ (g4 _ _ aj),g5 _ _ aj,λl hl=>?_⟩;rcases zq.mp hl with rfl | hl
 ·exact h1
 rcases zq.mp hl with rfl | hl
 ·exact g1.free h2
 rcases zq.mp hl with rfl | hl
 ·exact g1.free (g2.free h3)
 rcases zq.mp hl with rfl | hl
 ·exact g1.free (g2.free (g3.free h4))
 ·cases hl
theorem ui:cC [.tup [.int 0,.lst [],.lst []],.tup [.int 0,.lst [],.lst []]]=some (.bl true):=by rfl
theorem uj{Z:Wq}{C:Addr}(R:FX Z "law" (top 77) kD)(M:Md Z)(hn:eJ Z)(hd:gj Z)(hf:gp Z)(hsm:g_ Z)(bk:BkOk Z C):OkD Z "law" (top 77) kD 9 kl:=by
 refine bdF R λd f base cdv A outer s H E hr=>aq (bT 1 d (cF hn hr (ag (aD 0) (ag ae aK)))) (aq (pN (cF hd hr (ag (aD 1) aK)) (oj rfl (bg (aQ 2 d) (bg (aQ 3 d) eY)))) (aq (iI 4 d (lN (af 2) M.b_list)) (aq (iI 5 d (lN (af 3) M.b_list))
  ⟨_,Ex.gY,λHe Ge G H σ ε r W S e P pins s I=>?_⟩)))
 unfold oR at e;split at e
 case isFalse=>cases e
 rename_i hx;cases e;obtain⟨d0,d1,hs,cs,rfl,gd⟩:=hx;obtain⟨fa,w1,w2,w3,w4,w5,z1,z2⟩:=gd;have ln:σ.length=11:=S.e.len;obtain⟨v2,q2,n2⟩:=S.e.dat (i:=2) rfl;obtain⟨v3,q3,n3⟩:=S.e.dat (i:=3) rfl;obtain⟨a4,x4,q4,h4,g4,he4,n4⟩:=S.e.own (i:=4) rfl;obtain⟨a5,x5,q5,h5,g50,he5,n5⟩:=S.e.own (i:=5) rfl
 have ne45:a4≠a5:=λz=>by
  have:=S.e.apart (i:=4) (j:=5) rfl rfl q4 (z▸q5);cases this
 obtain⟨y0,y1,y2,y3,y4,y5,y6,y7,y8,y9,y10,rfl⟩:=uV ln;obtain rfl:y2=some v2:=Option.some.inj q2;obtain rfl:y3=some v3:=Option.some.inj q3;obtain rfl:y4=some (.ref a4):=Option.some.inj q4;obtain rfl:y5=some (.ref a5):=Option.some.inj q5;obtain⟨fO,fdO,mO,kO,bO,FO⟩:=bk.op
 obtain⟨r,er,hr1,hr2⟩:∃r,a8 [.lst hs,.lst cs]=some r/\((∃d,r=.inl d)->fa = "")/\∀c fs,r=.inr (c,fs)->nC c/\fa=c:=by
  rcases w2 with⟨rfl,d,e⟩ | ⟨h5,fs,e⟩
  ·exact⟨_,e,λ_=>rfl,λc fs z=>(nomatch z)⟩
  ·exact⟨_,e,λ⟨d,z⟩=>(nomatch z),λc fs z=>by cases z;exact⟨h5,rfl⟩⟩
 refine zU (fF I (dU (i:=6) d rfl (zV rfl) (il (FO base) hr rfl mO kO bO .nil fX (ao (pv 4) (ao (pv 5) aB))))
  (R:=λσ' H'=>au H H'/\((∃b,σ'=[y0,y1,some v2,some v3,some (.ref a4),some (.ref a5),some (.ref b),y7,y8,y9,y10]/\H b=none/\BkF C H H' b x4 x5/\∃d,r=.inl d)\/∃c,σ'=[y0,y1,some v2,some v3,some (.ref a4),some (.ref a5),some (.str c),y7,y8,y9,y10]/\∃fs,r=.inr (c,fs)))
  ⟨_,rfl,_,rfl,H,a4,a5,x4,x5,hs,cs,r,rfl,au.refl _,h4,h5,n4.mono S.g.gh,n5.mono S.g.gh,er,λd rd b H' g nb hb=>⟨g,.inl ⟨b,rfl,nb,hb,d,rd⟩⟩,λc fs rc=>⟨(hr2 c fs rc).1,λH' g=>⟨g,.inr ⟨c,rfl,fs,rc⟩⟩⟩⟩ λσ' H1 s1 I1 hR=>?_)
 obtain⟨g1,hR⟩:=hR;have E1:=S.e.grow (eU S.g.gh g1);rcases hR with⟨b,rfl,nb,hb,hd1⟩ | ⟨c,rfl,fs,rc⟩
 ·have hfa:=hr1 hd1
  subst hfa;have gh1:au G H1:=S.g.gh.trans g1;have E2:EnvD Z.K He G H1 [y0,y1,some v2,some v3,some (.ref a4),some (.ref a5),some (.ref b),y7,y8,y9,y10] [.dat d0,.dat d1,.dat (.lst hs),.dat (.lst cs),.own hs,.own cs,.un,.un,.un,.un,.un]:=E1.dropU (i:=6) (o:=some (.ref b));refine zU (pw I1 (DW.dt (fg (aR (du hr) (af 4) (af 2) (aF _)) (dv (aR (du hr) (af 5) (af 3) (aF _))))) gh1 E2 (rm w3 w4) λH2 s2 g2 I2=>?_);have gh2:=gh1.trans g2;have E3:=E2.grow (eU gh1 g2);refine zU (pY (i:=7) I2 d rfl (zV rfl) (cF hf hr (ag (aD 2) (ag (aD 3) aK))) gh2 E3 ((jw (x:=.lst hs) (y:=.lst cs) rfl rfl).trans w1) (λv G3 H3 s3 g3 dn I3=>?_) rfl (.inl rfl));cases dn;have hb3:=hb.step nb λq o _ e=>g3.hh _ _ (g2 _ _ e);obtain⟨bdx,bfs,_,_,_,_,_,_,be0,_⟩:=id hb3
  refine zU (fF I3 (ja (iP (dH (oa bk) rfl M.b_isinstance PyProof.Rows.boot_isinstance (ao (pv 6) (ao (lT (v:=.ty "str") rfl bk.ms (by rfl) rfl (by decide) (by decide)) aB))) (by intro _;rfl)) Ex.gY eW)
   (R:=λσ' H'=>σ'=[y0,y1,some v2,some v3,some (.ref a4),some (.ref a5),some (.ref b),some (.str ""),y8,y9,y10]/\H'=H3) ⟨_,rfl,b,bdx,bfs,rfl,be0,false,rfl,qe ⟨rfl,rfl⟩⟩ λσ' H' s4 I4 ⟨z1,z2⟩=>?_)
  subst z1 z2;have gh3:=gh2.trans g3.hh;have E4:EnvD Z.K He G H' [y0,y1,some v2,some v3,some (.ref a4),some (.ref a5),some (.ref b),some (.str ""),y8,y9,y10] [.dat d0,.dat d1,.dat (.lst hs),.dat (.lst cs),.own hs,.own cs,.un,.dat (.str ""),.un,.un,.un]:=(E3.grow (eU gh2 g3.hh)).put (i:=7) (.str "");refine zU (pw I4 (aR (du hr) (af 7) (DE.db bB) (aF _)) gh3 E4 (cQ (x:=.str "") (y:=.str "") rfl rfl rfl) λH5 s5 g5 I5=>?_);have gh5:=gh3.trans g5;have up5:au H H5:=g1.trans (g2.trans (g3.hh.trans g5));have hb5:=hb3.step nb λq o _ e=>g5 _ _ e;have n4':∀{q:Addr} {o:HO},G q=some o->q≠a4:=λ{q o} e z=>by rw[z,g4] at e;cases e
  have n5':∀{q:Addr} {o:HO},G q=some o->q≠a5:=λ{q o} e z=>by rw[z,g50] at e;cases e
  have m4':∀{q:Addr} {o:HO},He q=some o->q≠a4:=λ{q o} e z=>by rw[z,he4] at e;cases e
  have m5':∀{q:Addr} {o:HO},He q=some o->q≠a5:=λ{q o} e z=>by rw[z,he5] at e;cases e
  have ge5:au He H5:=S.g.hh.trans up5;have lx4:x4.length<=1000:=by rw[n4.length];exact z1
  have lx5:x5.length<=1000:=by rw[n5.length];exact z2
  have h45:=up5 _ _ h4;have h55:=up5 _ _ h5
  refine zU (fF I5 (dZ (iA wD wq wt cw (pv 4) (ao (fH (ao cK (ao cK (ao cK aB)))) aB)))
   (R:=λσ' H6=>σ'=[y0,y1,some v2,some v3,some (.ref a4),some (.ref a5),some (.ref b),some (.str ""),y8,y9,y10]/\(au G H6/\au He H6)/\BkF C H H6 b x4 x5/\H6 a5=some (.lst x5))
   ⟨_,rfl,.inl ⟨rfl,_,SqL.of h45⟩,(by show 3<=zt;decide),λt ht=>⟨a4,x4,_,rfl,rfl,aG _ ht _ _ h45,gw lx4,rfl,⟨λq o e=>cB ht _ _ (n4' e) (gh5 _ _ e),λq o e=>cB ht _ _ (m4' e) (ge5 _ _ e)⟩,hb5.step nb λq o hq e=>cB ht _ _ (λz=>by rw[z,h4] at hq;cases hq) e,cB ht _ _ (Ne.symm ne45) h55⟩⟩ λσ' H6 s6 I6 hR=>?_)
  obtain⟨rfl,⟨gh6,ge6⟩,hb6,h56⟩:=hR
  refine zU (fF I6 (dZ (iA wD wq wt cw (pv 5) (ao cK aB)))
   (R:=λσ' H7=>σ'=[y0,y1,some v2,some v3,some (.ref a4),some (.ref a5),some (.ref b),some (.str ""),y8,y9,y10]/\(au G H7/\au He H7)/\iW C H7 b x4 x5)
   ⟨_,rfl,.inl ⟨rfl,_,SqL.of h56⟩,a5,x5,_,rfl,rfl,h56,gw lx5,rfl,⟨λq o e=>by rw[ak (n5' e)];exact gh6 _ _ e,λq o e=>by rw[ak (m5' e)];exact ge6 _ _ e⟩,(hb6.step nb λq o hq e=>by rw[ak (λz=>by rw[z,h5] at hq;cases hq)];exact e).at⟩ λσ' H7 s7 I7 hR=>?_)
  obtain⟨rfl,gh7,hb7⟩:=hR;obtain⟨fK,fdK,mK,bK,FK⟩:=bk.sky;obtain⟨fN,fdN,mN,bN,FN⟩:=bk.now;obtain⟨fD,fdD,mD,bD,FD⟩:=bk.done;obtain⟨fM,fdM,mM,bM,FM⟩:=bk.names;obtain⟨fS,fdS,⟨FS,_⟩,hS⟩:=id hsm
  refine zU (fF I7 (R:=λ_ H'=>au G H'/\au He H') (kL wm rfl (jf rfl M.b_range (ao cK aB)) (jY (i:=8) d rfl (zV rfl))
   (aT (dU (i:=9) d rfl (zV rfl) (dD (pv 6) bk.na.cl mK (FK base) (hr.mono (by decide)) bK .nil fX))
   (aT (ja (ue (jM (dC (DE.db (cF hsm hr (ag (aD 9) (ag (jq (ag (aD 2) (ag (aD 3) (ag (DF.de (cg aK)) (ag (DF.de (cg aK)) aK))))) aK))))))) Ex.gY eW)
   (aT (kL wm rfl (sf (pv 9)) (jY (i:=10) d rfl (zV rfl)) (bZ (dZ (iA wD wq wt cw (pv 10) (ao (fH (ao cK (ao cK (ao cK aB)))) aB)))))
   (aT (ja (o8 (iP (il (hS base) (hr.mono (by decide)) rfl FS.mgf FS.fu.kp FS.bi .nil fX (ao (fH (ao (dD (pv 6) bk.na.cl mN (FN base) (hr.mono (by decide)) bN .nil fX) (ao (dD (pv 6) bk.na.cl mM (FM base) (hr.mono (by decide)) bM .nil fX) (ao (dD (pv 6) bk.na.cl mD (FD base) (hr.mono (by decide)) bD .nil fX) aB)))) (ao (fH (ao cK (ao (cZ aB) (ao (cZ aB) aB)))) aB))) (by intro _;rfl))) Ex.gY eW)
   (aT (dZ (iA wD wq wt cw (dD (pv 6) bk.na.cl mM (FM base) (hr.mono (by decide)) bM .nil fX) (ao iV aB)))
   (bZ (dZ (iA wD wq wt cw (dD (pv 6) bk.na.cl mD (FD base) (hr.mono (by decide)) bD .nil fX) (ao (fH (ao iV (ao iV aB))) aB))))))))))
   ⟨2,rfl,by decide,by decide,nu (n:=2) (λ_ σ' H'=>(∃z8 z9 z10,σ'=[y0,y1,some v2,some v3,some (.ref a4),some (.ref a5),some (.ref b),some (.str ""),z8,z9,z10])/\(au G H'/\au He H')/\iW C H' b x4 x5) ⟨⟨_,_,_,rfl⟩,gh7,hb7⟩ (λi σ' H8 hi hP=>?_) λ_ _ hP=>hP.2.1⟩ λσ' H' s8 I8 gE=>?_)
  ·obtain⟨⟨z8,z9,z10,rfl⟩,⟨ghA,geA⟩,hbA⟩:=hP
   obtain⟨bdx,bfs,b1,b2,b3,b4,b5,b6,be0,_,_,_,_,_,_,_,bn,bs,bd,bm⟩:=id hbA;refine⟨_,rfl,b,bdx,bfs,rfl,be0,bs,b,x4,x5,rfl,hbA,λl1 l2 l3 l4 p h1 h2 h3 h4' hp=>?_⟩;obtain⟨Hs,eHs,gs,ep,e1,e2,e3,e4,fl⟩:=tq h1 h2 h3 h4' hp;rw[<-eHs]
   clear eHs h1 h2 h3 h4' hp
   have gG:au G Hs:=ghA.trans gs;have dn4:=n4.mono gG;have dn5:=n5.mono gG;have dp:Den Z.K Hs (.ref p) (nr hs cs):=.tup (SqT.of ep) (.cons (.lst (.inl e1) dn4) (.cons (.lst (.inl e2) dn5) (.cons (.lst (.inl e3) .nil) (.cons (.lst (.inl e4) .nil) .nil))))
   have Eb:EnvD Z.K Hs Hs Hs [y0,y1,some v2,some v3,some (.ref a4),some (.ref a5),some (.ref b),some (.str ""),some (.int (0+i)),some (.ref p),z10] [.un,.un,.dat (.lst hs),.dat (.lst cs),.un,.un,.un,.un,.un,.dat (nr hs cs),.un]:=
    (((o6 [y0,y1,some v2,some v3,some (.ref a4),some (.ref a5),some (.ref b),some (.str ""),some (.int (0+i)),some (.ref p),z10]).put (i:=2) (n2.mono gG)).put (i:=3) (n3.mono gG)).put (i:=9) dp
   refine⟨Hs,Hs,_,false,au.refl _,Eb,nM (pJ (ds:=[nr hs cs,nr hs cs]) (bp rfl (bp (mq (ds:=[.lst hs,.lst cs,.lst [],.lst []]) rfl (by show 4<=1000;decide)) jV)) w5),λH9 g9=>qe ?_⟩
   refine⟨_,rfl,p,rfl,⟨_,SqT.of (g9 _ _ ep)⟩,qM (xs:=[.ref l1,.ref l2,.ref l3,.ref l4]) (λj σ3 H3=>(∃z,σ3=[y0,y1,some v2,some v3,some (.ref a4),some (.ref a5),some (.ref b),some (.str ""),some (.int (0+i)),some (.ref p),z])/\au H8 H3/\H3 p=some (.tup [.ref l1,.ref l2,.ref l3,.ref l4])/\∀l∈[l1,l2,l3,l4],∃zs,H3 l=some (.lst zs)/\zs.length<=1000+j)
    ⟨⟨_,rfl⟩,gs.trans g9,g9 _ _ ep,λl hl=>?_⟩ (λj σ3 H3 _ hP=>SqT.of hP.2.2.1) (λj x σ3 H3 ex hP=>?_) λσ3 H3 hP=>?_⟩
   ·rcases zq.mp hl with rfl | hl
    ·exact⟨_,g9 _ _ e1,by lia⟩
    rcases zq.mp hl with rfl | hl
    ·exact⟨_,g9 _ _ e2,by lia⟩
    rcases zq.mp hl with rfl | hl
    ·exact⟨_,g9 _ _ e3,zE _⟩
    rcases zq.mp hl with rfl | hl
    ·exact⟨_,g9 _ _ e4,zE _⟩
    ·cases hl
   ·obtain⟨⟨z,rfl⟩,k1,k2,k3⟩:=hP
    obtain⟨l,hl,rfl⟩:∃l,l∈[l1,l2,l3,l4]/\x=.ref l:=by
     have:=xj ex;have:x∈[l1,l2,l3,l4].map V.ref:=this;obtain⟨l,hl,e⟩:=List.mem_map.mp this;exact⟨l,hl,e.symm⟩
    have jl:j<4:=(zB.mp ex).1;obtain⟨zs,hz,lz⟩:=k3 l hl;refine⟨_,rfl,.inl ⟨rfl,_,SqL.of hz⟩,(by show 3<=zt;decide),λt ht=>⟨l,zs,_,rfl,rfl,aG _ ht _ _ hz,?_,⟨_,rfl⟩,λq o e=>cB ht _ _ (λw=>by rw[w,fl l hl] at e;cases e) (k1 _ _ e),cB ht _ _ (λw=>by rw[<-w,k2] at hz;cases hz) k2,λm hm=>?_⟩⟩
    ·rw[sizeLine_eq];lia
    ·by_cases w:m=l
     ·subst w
      exact⟨_,aj,by rw[vY,List.length_singleton];lia⟩
     ·obtain⟨us,hu,lu⟩:=k3 m hm
      exact⟨us,cB ht _ _ w hu,by lia⟩
   ·obtain⟨⟨z,rfl⟩,k1,_⟩:=hP
    have hbB:=hbA.same k1;have ghB:=ghA.trans k1;have geB:=geA.trans k1
    clear Eb dp dn4 dn5 gG
    have be:=k1 _ _ be0;refine⟨_,rfl,b,bdx,bfs,rfl,be,bn,b,x4,x5,rfl,hbB,_,rfl,b,bdx,bfs,rfl,be,bm,b,x4,x5,rfl,hbB,λq6 H6 g6 f6 h6=>?_⟩;refine⟨_,rfl,b,bdx,bfs,rfl,g6 _ _ be,bd,b,x4,x5,rfl,hbB.same g6,λq7 f7=>?_⟩;have g7:=aG (.lst []) f7;have h67:=g7 _ _ h6;have h77:upd H6 q7 (.lst []) q7=some (.lst []):=aj;generalize upd H6 q7 (.lst [])=HA at *;refine⟨(by show 3<=zt;decide),λq8 f8=>?_⟩;have g8:=aG (.tup [.int 0,.ref q6,.ref q7]) f8;have h88:upd HA q8 (.tup [.int 0,.ref q6,.ref q7]) q8=some (.tup [.int 0,.ref q6,.ref q7]):=aj;generalize upd HA q8 (.tup [.int 0,.ref q6,.ref q7])=HB at *;refine⟨zE _,λq9 f9=>?_⟩;have g9':=aG (.lst []) f9;have h99:upd HB q9 (.lst []) q9=some (.lst []):=aj;generalize upd HB q9 (.lst [])=HC at *;refine⟨zE _,λq10 f10=>?_⟩;have g10:=aG (.lst []) f10;have h10:upd HC q10 (.lst []) q10=some (.lst []):=aj;generalize upd HC q10 (.lst [])=HD at *;refine⟨(by show 3<=zt;decide),λq11 f11=>?_⟩;have g11:=aG (.tup [.int 0,.ref q9,.ref q10]) f11;have h11:upd HD q11 (.tup [.int 0,.ref q9,.ref q10]) q11=some (.tup [.int 0,.ref q9,.ref q10]):=aj;generalize upd HD q11 (.tup [.int 0,.ref q9,.ref q10])=HE at *;have gB:=g8.trans (g9'.trans (g10.trans g11));refine⟨HE,[.tup [.int 0,.lst [],.lst []],.tup [.int 0,.lst [],.lst []]],.bl true,au.refl _,.cons (.tup (SqT.of ((g9'.trans (g10.trans g11)) _ _ h88)) (.cons (.int 0) (.cons (.lst (.inl (gB _ _ h67)) .nil) (.cons (.lst (.inl (gB _ _ h77)) .nil) .nil)))) (.cons (.tup (SqT.of h11) (.cons (.int 0) (.cons (.lst (.inl (g11 _ _ (g10 _ _ h99))) .nil) (.cons (.lst (.inl (g11 _ _ h10)) .nil) .nil)))) .nil),ui,λv G' HF gF dF=>?_⟩;cases dF;refine⟨true,rfl,qe ?_⟩;have gAll:au H3 HF:=g6.trans (g7.trans (gB.trans gF.hh));have hbF:=hbB.same gAll;have beF:=gAll _ _ be;refine⟨_,rfl,b,bdx,bfs,rfl,beF,bm,b,x4,x5,rfl,hbF,λr6 HG g12 f12 h12=>⟨.inl ⟨rfl,_,SqL.of h12⟩,r6,[],_,rfl,rfl,h12,(by decide),?_⟩⟩;have g13:au HF (upd HG r6 (.lst ([]++[.str "a"]))):=λq o e=>by rw[ak (ar e f12)];exact g12 _ _ e
    generalize upd HG r6 (.lst ([]++[.str "a"]))=HH at *;refine⟨_,rfl,b,bdx,bfs,rfl,g13 _ _ beF,bd,b,x4,x5,rfl,hbF.same g13,λr7 f13=>?_⟩;refine⟨.inl ⟨rfl,_,SqL.of aj⟩,(by show 2<=zt;decide),λt ft=>⟨r7,[],_,rfl,rfl,aG _ ft _ _ aj,(by decide),⟨_,_,_,rfl⟩,?_⟩⟩;have g14:au HH (upd (upd (upd HH r7 (.lst [])) t (.tup [.str "land",.str "a"])) r7 (.lst ([]++[.ref t]))):=λq o e=>cB ft _ _ (ar e f13) (aG _ f13 _ _ e);have gF':=gAll.trans (g13.trans g14);exact⟨⟨ghB.trans gF',geB.trans gF'⟩,hbB.same gF'⟩
  ·refine lK I8 (bZ (fw rq)) ?_
   exact P (.bl true) Ge H' ⟨gE.2,au.refl _,S.g.gg.trans gE.1,λ_ _ _ e=>e⟩ (.bl true)
 ·obtain⟨c5,rfl⟩:=hr2 c fs rc
  have E2:EnvD Z.K He G H1 [y0,y1,some v2,some v3,some (.ref a4),some (.ref a5),some (.str fa),y7,y8,y9,y10] [.dat d0,.dat d1,.dat (.lst hs),.dat (.lst cs),.own hs,.own cs,.dat (.str fa),.un,.un,.un,.un]:=E1.put (i:=6) (.str fa)
  refine mH I1 (aq (bA (DW.dt (fg (aR (du hr) (af 4) (af 2) (aF _)) (dv (aR (du hr) (af 5) (af 3) (aF _))))) (az (br oE)) aS) (aq (bT 7 d (cF hf hr (ag (aD 2) (ag (aD 3) aK))))
   (aq (bA (dC (DE.db (cV (T:="str") (by simp) (af 6) M.b_isinstance bk.ms (by rfl)))) (az (br (kS (eK (du hr) (af 7) (DE.db bB) (aF _)) (jS (eK (iw hr) (af 6) (af 7) (aF _)))))) aS) nO)))
   ⟨S.g.trans (eU S.g.gh g1),E2⟩ ?_ P
  refine(ay ((c9 (rm w3 w4)).trans rfl)).trans ?_;refine(ay (cM ((jw (x:=.lst hs) (y:=.lst cs) rfl rfl).trans w1))).trans ?_;refine dW ((di rfl).trans (ju ?_));rcases c5 with rfl | rfl | rfl | rfl | rfl<;>rfl
theorem rf1{C:Addr}(self:za):refuseLoop self "__setattr__" (.ref C::dP)=pure ():=by rw[refuseLoop_ref];exact PySem.F.store_ValueError.passes self
theorem rf2{C B:Addr}(self:za):refuseLoop self "__setattr__" (.ref C :: .ref B::dP)=pure ():=by rw[refuseLoop_ref];exact rf1 self
theorem hb1:dP.contains (.type "ValueError")=true/\dP.contains (.type "BaseException")=true/\dP.contains (.type "AttributeError")=false/\dP.contains (.type "NameError")=false/\dP.contains (.type "object")=true:=by decide +kernel
theorem hb2{B:Addr}:(zk B::dP).contains (.type "ValueError")=true/\(zk B::dP).contains (.type "BaseException")=true/\(zk B::dP).contains (.type "AttributeError")=false/\(zk B::dP).contains (.type "NameError")=false/\(zk B::dP).contains (.type "object")=true:=by
 obtain⟨h1,h2,h3,h4,h5⟩:=hb1;exact⟨by rw[zS,h1];rfl,by rw[zS,h2];rfl,by rw[zS,h3];rfl,by rw[zS,h4];rfl,by rw[zS,h5];rfl⟩
theorem vh{K:zb}{C:Addr}(h:vV K C (.type "str")=some false):zG K (.ref C) (.type "str")=some false:=by
 have m:PySem.W.kitMeta "str" = true:=by decide +kernel
 unfold zG PySem.W.kitCls;have n:(zk C==Value.type "str")=false:=rfl;rw[n,if_neg zm];show(if PySem.W.kitMeta "str" = true then PySem.W.subIn K (.ref C) (.type "str") else none)=_;rw[m,if_pos rfl];exact h
def ExB(Z:Wq)(B:Addr)(c:Str)(C:Addr):Prop:=xF Z.K (.builtin "object.__class__") "__get__" = some (some (.builtin "getset_descriptor.__get__"))->xT Z.K (.builtin "object.__class__")=some true->ExA Z B c C
theorem eO{P:zv}{w:zA}{K:zb}{mg:Str->Option za}{B C:Addr}{c:Str}(ok:OkE ⟨P,w,K,mg⟩ c C (.ref B::dP))(ga:zo K (.ref C) "__getattribute__" = some (some (.builtin "BaseException.__getattribute__")))(gn:zo K (.ref C) "__getattr__" = some none)
  (cl:zo K (.ref C) "__class__" = some (some (.builtin "object.__class__"))):ExB ⟨P,w,K,mg⟩ B c C:=λgs tk=>⟨ok,⟨⟨ga,gn,ok.exc,ok.dict⟩,cl,gs,tk,ok.ob⟩⟩
def MT(K:zb)(C:Addr)(m qual:Str)(st:Stmt)(ps:List Str):Prop:=∃f fd,zo K (.ref C) m=some (some (.ref f))/\PySem.W.isFn K (.ref f)=true/\zY K (.ref f)=true/\Fun K m qual st f fd/\ej K fd ps []
theorem ku{K:zb}{C f:Addr}{m qual:Str}{st:Stmt}{ps:List Str}{od an:Option Addr}{osl:Array (Option za)}{kV doc pm cdv ct:za}(a:zo K (.ref C) m=some (some (.ref f)))(kp:zY K (.ref f)=true)
  (l:K.lookup f=some ⟨.type "function",od,.func (vZ m qual (bz st) (aY st) (ax st) .none kV doc pm an cdv ct),osl⟩) (cc:xp K cdv qual=true)
  (hb:∀(kV doc pm:za) (an:Option Addr) (cdv ct:za) (us:List za),us.length=ps.length->bindArgs (vZ m qual (bz st) (aY st) (ax st) .none kV doc pm an cdv ct) ⟨us,[]⟩=pure (ps.zip us)):MT K C m qual st ps:=
 ⟨f,_,a,beq_iff_eq.mpr (by show Option.map _ (wy f K)=_;rw[l];rfl),kp,jz l cc kp,(jz l cc kp).binds hb⟩
theorem uJ{K:zb}{C:Addr}(a:xK K C Str.empty=true)(b:wO K C=true)(c:PySem.W.plainOver K C=true)(d:zo K (.ref C) "__setattr__" = some (some (.builtin "object.__setattr__")))(n1:zo K (.ref C) "hills" = some none)(n2:zo K (.ref C) "cool" = some none)
  (n3:zo K (.ref C) "hour" = some none) (n4:zo K (.ref C) "winds" = some none) (n5:zo K (.ref C) "shuts" = some none) (n6:zo K (.ref C) "balloons" = some none) (n7:zo K (.ref C) "deeds" = some none) (n8:zo K (.ref C) "holds" = some none):NoA K C:=⟨⟨a,b,c,d⟩,n1,n2,n3,n4,n5,n6,n7,n8⟩
abbrev rg(Z:Wq):Prop:=OkD Z "law" (top 77) kD 9 kl
theorem tf{P:zv}{w:zA}{K:zb}{mg:Str->Option za}{C B c1 c2 c3 c4 c5 c6 c7 c8:Addr}(M:Md ⟨P,w,K,mg⟩)(ms:mg "str" = none)(mb:mg "Book" = some (.ref C))(mk:PySem.W.makesIn K C=true)(kp:zY K (.ref C)=true)(na:NoA K C)
  (ha:zo K (.ref C) "__class__" = some (some (.builtin "object.__class__"))) (hn:xF K (.builtin "object.__class__") "__get__" = some (some (.builtin "getset_descriptor.__get__"))) (htk:xT K (.builtin "object.__class__")=some true) (hm:vV K C (.type "object")=some true) (ks:vV K C (.type "str")=some false)
  (mI:MT K C "__init__" "Book.__init__" sI ["self","hills","cool"]) (mN:MT K C "now" "Book.now" sx ["self"]) (mS:MT K C "sky" "Book.sky" sX ["self"]) (mD:MT K C "done" "Book.done" oY ["self"]) (mM:MT K C "names" "Book.names" lD ["self"])
  (bE:OkE ⟨P,w,K,mg⟩ "BookError" B dP) (E1:ExB ⟨P,w,K,mg⟩ B "Full" c1) (E2:ExB ⟨P,w,K,mg⟩ B "BadPlace" c2) (E3:ExB ⟨P,w,K,mg⟩ B "BadHeight" c3) (E4:ExB ⟨P,w,K,mg⟩ B "BadHour" c4) (E5:ExB ⟨P,w,K,mg⟩ B "Twice" c5) (E6:ExB ⟨P,w,K,mg⟩ B "BadName" c6) (E7:ExB ⟨P,w,K,mg⟩ B "BadBox" c7) (E8:ExB ⟨P,w,K,mg⟩ B "Late" c8) (nd:[B,c1,c2,c3,c4,c5,c6,c7,c8].Nodup)
  (A0:FX ⟨P,w,K,mg⟩ "_law_numbers" (top 71) bY) (A1:FX ⟨P,w,K,mg⟩ "_law_same" (top 72) bw) (A2:FX ⟨P,w,K,mg⟩ "_law_off" (top 73) dO) (A3:FX ⟨P,w,K,mg⟩ "_law_fault" (top 74) cS) (A4:FX ⟨P,w,K,mg⟩ "_law_drawn" (top 76) cP) (A5:FX ⟨P,w,K,mg⟩ "check_place" (top 58) cA) (A6:FX ⟨P,w,K,mg⟩ "check_hill" (top 65) cR)
  (A7:FX ⟨P,w,K,mg⟩ "check_between" (top 62) bQ) (A8:FX ⟨P,w,K,mg⟩ "check_opening" (top 66) bR) (A9:FX ⟨P,w,K,mg⟩ "_law_open" (top 75) ["_law_hills","_law_cool"]) (A10:FX ⟨P,w,K,mg⟩ "law" (top 77) kD):rg ⟨P,w,K,mg⟩:=by
 have e1:=E1 hn htk;have e2:=E2 hn htk;have e3:=E3 hn htk;have e4:=E4 hn htk;have e5:=E5 hn htk;have e6:=E6 hn htk;have e7:=E7 hn htk;have e8:=E8 hn htk;have H5:=iX A5 M ⟨_,_,e2.ok⟩;have H6:=jC A6 M H5 ⟨_,_,e3.ok⟩;have H7:=ib A7 M ⟨_,_,e4.ok⟩;have H8:=hX A8 M H6 H7 ⟨_,_,e1.ok⟩ ⟨_,_,e5.ok⟩;have H3:=jN A3 M (lI A2 M);obtain⟨fI,fdI,aI,tI,_,FI,bI⟩:=mI
 have me:∀{m qual:Str} {st:Stmt} {sp:Sp},MT K C m qual st ["self"]->(∀{base:Heap} {f:Addr} {fd:zX},Fun K m qual st f fd->FnOk P w K mg base CX0 1 f fd ["self"] sp)->MOk ⟨P,w,K,mg⟩ C m sp:=λ{m qual st sp} h ok=>
  let⟨f,fd,a,t,k,F,b⟩:=h;⟨f,fd,⟨a,t,k⟩,b,λbase=>ok F⟩
 obtain⟨fO,fdO,FO,_⟩:=A9;have op:=λbase=>qu (base:=base) (C:=C) FO.fu M mb ⟨mk,aI,tI,kp⟩ (λbase=>qi FI na M.b_list H8) bI ⟨bE,e1,e2,e3,e4,e5,e6,e7,e8,nd⟩;exact uj A10 M (iq A0 M) (jv A4 M) H3 (j8 A1 M) ⟨na,me mN λF=>tp F na,me mS λF=>r8 F na M.b_list,me mD λF=>qH F na M.b_list,me mM λF=>ph F na,ha,hn,htk,hm,vh ks,⟨fO,fdO,FO.mgf,FO.fu.kp,FO.bi,op⟩,ms⟩
theorem walk{l:PySem.W.OpenLaw}{q:zv}{loose:List Str}{XP:(Str->Option za)->Heap->Prop}{YP:zA->Heap->Prop}{d:DefRec}{K:Params->zb}(hn:l.most=some 63)(hdf:d.params.defaults=[])(hnm:d.name = "law")
  (hY:∀(w:zA) (h:Heap),YP w h->(K w.params).In h) (worth:∀ns:List Int,ns.length<=63->kl [.lst (ns.map D.int)]=some (.bl true))
  (F:∀(w:zA) (mg:Str->Option za) (h:Heap),(K w.params).In h->h.Ns zz mg->rg ⟨l.prog,w,K w.params,mg⟩) :
  PySem.W.WalkO q loose XP YP l.row.toRowW d [] (λf vs=>PySem.call f vs):=
 L2.qP (n:=63) (k:=9) (x:="_law_script") (CX:=λ_=>CX0) (sp:=λw=>spF (K w.params) kl) hn (by decide) hdf ⟨rfl,by decide,by decide⟩ hY (λw mg fa h a b c=>sD (F w mg h a b) (by rw[<-hnm];exact c))
  (λw H a ns hl _ hS=>⟨H,[.lst (ns.map D.int)],.bl true,au.refl _,.one (.lst (.inr ⟨ns,rfl,hS⟩) (ma _ _ ns)),worth ns hl,λv G' H' g hd=>hd.blV⟩) λ_ _ _ _ _ z=>z
abbrev T3:=Int×Int×Int
def hD(t:T3):D:=.tup [.int t.1,.int t.2.1,.int t.2.2]
def first{α:Type}(B:α->Option Str):List α->Option Str
 |[]=>none
 |x::r=>(B x).or (first B r)
theorem cW{α:Type}{g:D->Ev->Option Ev}{gb:Ev->Option Fl}(enc:α->D)(I:Ev->Prop)(B:α->Option Str)(out:Str->Fl)(ho:∀c ds ε ε1 (d:D),g d ε=some ε1->gb ε1=some (out c)->bL g gb (d::ds) ε=some (out c)):∀(xs:List α),
  (∀x∈xs,∀ε,I ε->∃ε1,g (enc x) ε=some ε1/\((∃c,B x=some c/\gb ε1=some (out c))\/(B x=none/\∃ε2,gb ε1=some (.nx ε2)/\I ε2)))->∀ε,I ε->
  (∃c,first B xs=some c/\bL g gb (xs.map enc) ε=some (out c))\/(first B xs=none/\∃ε',bL g gb (xs.map enc) ε=some (.nx ε')/\I ε')
 |[],_,ε,i=>.inr ⟨rfl,ε,rfl,i⟩
 |x::xs,st,ε,i=>by
  obtain⟨ε1,e1,z⟩:=st x wG ε i;rcases z with⟨c,b,e2⟩ | ⟨b,ε2,e2,i2⟩
  ·exact .inl ⟨c,by unfold first;rw[b];rfl,ho c _ ε ε1 _ e1 e2⟩
  ·have h:bL g gb ((x::xs).map enc) ε=bL g gb (xs.map enc) ε2:=by
    show(g (enc x) ε).bind _=_;rw[e1];show(gb ε1).bind _=_;rw[e2];rfl
   have f:first B (x::xs)=first B xs:=by show(B x).or _=_;rw[b];rfl
   rw[h,f];exact cW enc I B out ho xs (λy hy=>st y (zQ _ hy)) ε2 i2
theorem rf{g:D->Ev->Option Ev}{gb:Ev->Option Fl}(c:Str)(ds:List D)(ε ε1:Ev)(d:D)(e1:g d ε=some ε1)(e2:gb ε1=some (.rt (.str c))):bL g gb (d::ds) ε=some (.rt (.str c)):=by
 show(g d ε).bind _=_;rw[e1];show(gb ε1).bind _=_;rw[e2];rfl
theorem rh{g:D->Ev->Option Ev}{gb:Ev->Option Fl}(c:Str)(ds:List D)(ε ε1:Ev)(d:D)(e1:g d ε=some ε1)(e2:gb ε1=some (.xc c [])):bL g gb (d::ds) ε=some (.xc c []):=by
 show(g d ε).bind _=_;rw[e1];show(gb ε1).bind _=_;rw[e2];rfl
def gL(x y:Int):Bool:=!(decide (-999<=x)&&decide (x<=999)&&(decide (-999<=y)&&decide (y<=999)))
def jH(z:Int):Bool:=!(decide (1<=z)&&decide (z<=5))
def bH(t:T3):Option Str:=if gL t.1 t.2.1=true then some "BadPlace" else if jH t.2.2=true then some "BadHeight" else none
def lr(c:Int):Bool:=!(decide (0<=c)&&decide (c<=23))
def inK(cs:List Int)(h:Int):Bool:=inV (.int h) (cs.map V.int)
def bC(cs:List Int)(i:Nat):Option Str:=if lr (cs.getD i 0)=true then some "BadHour" else if inK (cs.take i) (cs.getD i 0)=true then some "Twice" else none
theorem sj(x y:Int):dR [.int x,.int y]=some (.bl (gL x y)):=by
 refine gK rfl (ju ?_);have a1:e2 ltI (ba mT (ah (aM 0) (ah (aM 1) aW))) (eR (eC (.int 999))) (aZ fA [.int x,.int y])=some (.bl (decide ((if y<x then y else x) < -999))):=rfl;have a2:e2 gtI (ba lR (ah (aM 0) (ah (aM 1) aW))) (eC (.int 999)) (aZ fA [.int x,.int y])=some (.bl (decide (999<(if y>x then y else x)))):=rfl;unfold eOr;rw[a1,a2];show(if decide ((if y<x then y else x) < -999)=true then some (D.bl true) else some (.bl (decide (999<(if y>x then y else x)))))=_;unfold gL
 by_cases c:(if y<x then y else x) < -999
 ·rw[if_pos (decide_eq_true c)]
  congr 2
  symm
  rw[Bool.not_eq_true',wK,wK,wK];simp only[decide_eq_false_iff_not];split at c<;>lia
 ·rw[if_neg (by simpa using c)]
  congr 2;rw[xC,decide_eq_true_iff,Bool.not_eq_true',wK,wK,wK];simp only[decide_eq_false_iff_not];split at c<;>split<;>lia
theorem oZ(cs:List Int)(h:Int):inD false (.int h) (.lst (iL cs))=some (.bl (inK cs h)):=by show(nh (iL cs)).bind _=_;rw[lV];rfl
abbrev ef(a b s2 s3 s4 s5:Sl):Ev:=[a,b,s2,s3,s4,s5]
theorem nS(H C:D)(xs:List T3)(s2 s3 s4 s5:Sl):(∃c,first bH xs=some c/\bL (dh 3 (aC (av 2) (aC (av 3) (aC (av 4) bF)))) cD (xs.map hD) (ef (.dat H) (.dat C) s2 s3 s4 s5)=some (.rt (.str c)))\/
  (first bH xs=none/\∃ε',bL (dh 3 (aC (av 2) (aC (av 3) (aC (av 4) bF)))) cD (xs.map hD) (ef (.dat H) (.dat C) s2 s3 s4 s5)=some (.nx ε')/\∃t2 t3 t4 t5,ε'=ef (.dat H) (.dat C) t2 t3 t4 t5):=by
 refine cW hD (λε=>∃t2 t3 t4 t5,ε=ef (.dat H) (.dat C) t2 t3 t4 t5) bH (λc=>.rt (.str c)) rf xs (λt _ ε hI=>?_) _ ⟨s2,s3,s4,s5,rfl⟩;obtain⟨t2,t3,t4,t5,rfl⟩:=hI;obtain⟨x,y,z⟩:=t;refine⟨ef (.dat H) (.dat C) (.dat (.int x)) (.dat (.int y)) (.dat (.int z)) t5,rfl,?_⟩;have o:h_ (ba dR (ah (aM 2) (ah (aM 3) aW))) (ef (.dat H) (.dat C) (.dat (.int x)) (.dat (.int y)) (.dat (.int z)) t5)=some (gL x y):=qQ ((jw (x:=.int x) (y:=.int y) rfl rfl).trans (sj x y))
 have t:dE (aA ltI (aa 4) (eC (.int 1))) (aA gtI (aa 4) (eC (.int 5))) (ef (.dat H) (.dat C) (.dat (.int x)) (.dat (.int y)) (.dat (.int z)) t5)=some (jH z):=by
  show(if decide (z<1)=true then some true else some (decide (5<z)))=_;unfold jH
  by_cases c:z<1
  ·rw[if_pos (decide_eq_true c),decide_eq_false (by lia:¬1<=z)];rfl
  ·rw[if_neg (by simpa using c),decide_eq_true (by lia:1<=z)]
   by_cases c2:5<z
   ·rw[decide_eq_true c2,decide_eq_false (by lia:¬z<=5)];rfl
   ·rw[decide_eq_false c2,decide_eq_true (by lia:z<=5)];rfl
 unfold bH;show(∃c,(if gL x y=true then _ else _)=some c/\_)\/((if gL x y=true then _ else _)=none/\_);cases hp:gL x y with
 |true=>
  rw[hp] at o;exact .inl ⟨"BadPlace",rfl,dW ((di o).trans rfl)⟩
 |false=>
  rw[hp] at o;show(∃c,(if jH z=true then _ else _)=some c/\_)\/((if jH z=true then _ else _)=none/\_);cases ht:jH z with
  |true=>
   rw[ht] at t;exact .inl ⟨"BadHeight",rfl,(ay ((c9 o).trans rfl)).trans ((di t).trans rfl)⟩
  |false=>
   rw[ht] at t;exact .inr ⟨rfl,_,(ay ((c9 o).trans rfl)).trans ((c9 t).trans rfl),_,_,_,_,rfl⟩
theorem rH{cs:List Int}{i:Nat}(h:i<cs.length):ixD (.lst (iL cs)) (.int (i:Int))=some (.int (cs.getD i 0)):=by
 show atI (iL cs) (i:Int)=_;refine lQ ?_;unfold iL;rw[zH,List.getElem?_eq_getElem h];simp[h]
theorem oQ(H:D)(cs:List Int)(s2 s3 s4 s5:Sl):(∃c,first (bC cs) (vX cs.length)=some c/\bL (av 5) cE (ck cs.length) (ef (.dat H) (.dat (.lst (iL cs))) s2 s3 s4 s5)=some (.rt (.str c)))\/
  (first (bC cs) (vX cs.length)=none/\∃ε',bL (av 5) cE (ck cs.length) (ef (.dat H) (.dat (.lst (iL cs))) s2 s3 s4 s5)=some (.nx ε')/\∃t2 t3 t4 t5,ε'=ef (.dat H) (.dat (.lst (iL cs))) t2 t3 t4 t5):=by
 refine cW (λi:Nat=>D.int (i:Int)) (λε=>∃t2 t3 t4 t5,ε=ef (.dat H) (.dat (.lst (iL cs))) t2 t3 t4 t5) (bC cs) (λc=>.rt (.str c)) rf (vX cs.length) (λi hi ε hI=>?_) _ ⟨s2,s3,s4,s5,rfl⟩;obtain⟨t2,t3,t4,t5,rfl⟩:=hI;have hl:=List.mem_range.mp hi;refine⟨ef (.dat H) (.dat (.lst (iL cs))) t2 t3 t4 (.dat (.int (i:Int))),rfl,?_⟩;have it:e2 ixD (aa 1) (aa 5) (ef (.dat H) (.dat (.lst (iL cs))) t2 t3 t4 (.dat (.int (i:Int))))=some (.int (cs.getD i 0)):=a9 (x:=.lst (iL cs)) (y:=.int i) rfl rfl (rH hl);generalize hc:cs.getD i 0=c at it
 have o:dE (aA ltI (e2 ixD (aa 1) (aa 5)) (eC (.int 0))) (aA gtI (e2 ixD (aa 1) (aa 5)) (eC (.int 23))) (ef (.dat H) (.dat (.lst (iL cs))) t2 t3 t4 (.dat (.int (i:Int))))=some (lr c):=by
  have b1:aA ltI (e2 ixD (aa 1) (aa 5)) (eC (.int 0)) (ef (.dat H) (.dat (.lst (iL cs))) t2 t3 t4 (.dat (.int (i:Int))))=some (decide (c<0)):=cQ (y:=.int 0) it rfl rfl;have b2:aA gtI (e2 ixD (aa 1) (aa 5)) (eC (.int 23)) (ef (.dat H) (.dat (.lst (iL cs))) t2 t3 t4 (.dat (.int (i:Int))))=some (decide (23<c)):=cQ (y:=.int 23) it rfl rfl;unfold dE;rw[b1,b2];show(if decide (c<0)=true then some true else some (decide (23<c)))=_;unfold lr
  by_cases c1:c<0
  ·rw[if_pos (decide_eq_true c1),decide_eq_false (by lia:¬0<=c)];rfl
  ·rw[if_neg (by simpa using c1),decide_eq_true (by lia:0<=c)]
   by_cases c2:23<c
   ·rw[decide_eq_true c2,decide_eq_false (by lia:¬c<=23)];rfl
   ·rw[decide_eq_false c2,decide_eq_true (by lia:c<=23)];rfl
 have tk:eE (iL cs) none (some (i:Int))=iL (cs.take i):=by rw[ic];unfold iL;rw[List.map_take]
 have t:aA (inD false) (e2 ixD (aa 1) (aa 5)) (eF (eSl (aa 1) cf (a_ (aa 5)))) (ef (.dat H) (.dat (.lst (iL cs))) t2 t3 t4 (.dat (.int (i:Int))))=some (inK (cs.take i) c):=
  cQ (x:=.int c) (y:=.lst (iL (cs.take i))) it (jn (by show some (eE (iL cs) none (some (i:Int)))=_;rw[tk])) (oZ _ _)
 unfold bC;rw[hc];cases hp:lr c with
 |true=>
  rw[hp] at o;exact .inl ⟨"BadHour",rfl,dW ((di o).trans rfl)⟩
 |false=>
  rw[hp] at o;show(∃d,(if inK (cs.take i) c=true then _ else _)=some d/\_)\/((if inK (cs.take i) c=true then _ else _)=none/\_);cases ht:inK (cs.take i) c with
  |true=>
   rw[ht] at t;exact .inl ⟨"Twice",rfl,(ay ((c9 o).trans rfl)).trans ((di t).trans rfl)⟩
  |false=>
   rw[ht] at t;exact .inr ⟨rfl,_,(ay ((c9 o).trans rfl)).trans ((c9 t).trans rfl),_,_,_,_,rfl⟩
theorem pe(xs:List T3)(cs:List Int):d7 [.lst (xs.map hD),.lst (iL cs)]=some (.str (if decide (20<xs.length) || decide (24<cs.length) then "Full" else((first bH xs).or (first (bC cs) (vX cs.length))).getD "")):=by
 refine gK rfl ?_
 have o:dE (aA gtI (bt bq (aa 0)) (eC (.int 20))) (aA gtI (bt bq (aa 1)) (eC (.int 24))) (aZ dQ [.lst (xs.map hD),.lst (iL cs)])=some (decide (20<xs.length) || decide (24<cs.length)):=by
  show(if decide ((20:Int)<((xs.map hD).length:Int))=true then some true else some (decide ((24:Int)<((iL cs).length:Int))))=_;rw[wj,show(iL cs).length=cs.length by simp[iL]]
  by_cases c:20<xs.length
  ·rw[if_pos (by simp;lia),decide_eq_true c];rfl
  ·rw[if_neg (by simp;lia),decide_eq_false c,Bool.false_or]
   congr 1;rw[decide_eq_decide]
   lia
 cases hf:(decide (20<xs.length) || decide (24<cs.length)) with
 |true=>
  rw[hf] at o;exact dW ((di o).trans rfl)
 |false=>
  rw[hf] at o;refine(ay ((c9 o).trans rfl)).trans ?_;have f1:hW (aM 0) (aZ dQ [.lst (xs.map hD),.lst (iL cs)])=some (xs.map hD):=rfl;show aJ _ _ (ef (.dat (.lst (xs.map hD))) (.dat (.lst (iL cs))) .un .un .un .un)=_;rcases nS (.lst (xs.map hD)) (.lst (iL cs)) xs .un .un .un .un with⟨c,e1,e2⟩ | ⟨e1,ε',e2,t2,t3,t4,t5,rfl⟩
  ·rw[e1]
   exact dW ((bh f1).trans e2)
  ·rw[e1]
   refine(ay ((bh f1).trans e2)).trans ?_;have lc:(iL cs).length=cs.length:=by simp[iL]
   have f2:dN (bt bq (aa 1)) (ef (.dat (.lst (xs.map hD))) (.dat (.lst (iL cs))) t2 t3 t4 t5)=some (ck cs.length):=by
    have hb:cs.length<=24:=by
     have:=(Bool.or_eq_false_iff.mp hf).2;have:=of_decide_eq_false this
     lia
    have:=ik (f:=bt bq (aa 1)) (ε:=ef (.dat (.lst (xs.map hD))) (.dat (.lst (iL cs))) t2 t3 t4 t5) (j:=((iL cs).length:Int)) rfl (by lia) (by lia);rw[this,lc];rfl
   rcases oQ (.lst (xs.map hD)) cs t2 t3 t4 t5 with⟨c,e3,e4⟩ | ⟨e3,ε',e4,u2,u3,u4,u5,rfl⟩
   ·rw[e3]
    exact dW ((bh f2).trans e4)
   ·rw[e3]
    exact(ay ((bh f2).trans e4)).trans rfl
theorem qZ{N ps:List Str}{g:Ev->Option Fl}{ds:List D}{ε:Ev}(hl:ds.length=ps.length)(h:g (aZ N ds)=some (.nx ε)):fnX N ps g ds=some (.inl .non):=by unfold fnX;rw[if_pos hl,h]
theorem k_{N ps:List Str}{g:Ev->Option Fl}{ds:List D}{c:Str}{fs:List (Str×D)}(hl:ds.length=ps.length)(h:g (aZ N ds)=some (.xc c fs)):fnX N ps g ds=some (.inr (c,fs)):=by unfold fnX;rw[if_pos hl,h]
theorem oB(x y:Int):dA [.int x,.int y]=some (if gL x y=true then .inr ("BadPlace",[]) else .inl .non):=by
 have o:dG (fm (gM leI leI (eR (eC (.int 999))) (aa 0) (eC (.int 999))) (gM leI leI (eR (eC (.int 999))) (aa 1) (eC (.int 999)))) (aZ cz [.int x,.int y])=some (gL x y):=by
  have c1:gM leI leI (eR (eC (.int 999))) (aa 0) (eC (.int 999)) (aZ cz [.int x,.int y])=some (decide (-999<=x)&&decide (x<=999)):=by
   show asB (if decide (-999<=x)=true then some (D.bl (decide (x<=999))) else some (.bl false))=_;cases decide (-999<=x)<;>rfl
  have c2:gM leI leI (eR (eC (.int 999))) (aa 1) (eC (.int 999)) (aZ cz [.int x,.int y])=some (decide (-999<=y)&&decide (y<=999)):=by
   show asB (if decide (-999<=y)=true then some (D.bl (decide (y<=999))) else some (.bl false))=_;cases decide (-999<=y)<;>rfl
  unfold dG fm;rw[c1,c2];unfold gL;cases(decide (-999<=x)&&decide (x<=999))<;>rfl
 cases hp:gL x y with
 |true=>rw[hp] at o;exact k_ rfl ((di o).trans rfl)
 |false=>rw[hp] at o;exact qZ rfl ((c9 o).trans rfl)
theorem kP(c a b:Int):cH [.int c,.int a,.int b]=some (if !(decide (a<=c)&&decide (c<=b)) then .inr ("BadHour",[]) else .inl .non):=by
 have o:dG (gM leI leI (aa 1) (aa 0) (aa 2)) (aZ cL [.int c,.int a,.int b])=some (!(decide (a<=c)&&decide (c<=b))):=by
  have c1:gM leI leI (aa 1) (aa 0) (aa 2) (aZ cL [.int c,.int a,.int b])=some (decide (a<=c)&&decide (c<=b)):=by
   show asB (if decide (a<=c)=true then some (D.bl (decide (c<=b))) else some (.bl false))=_;cases decide (a<=c)<;>rfl
  unfold dG;rw[c1];rfl
 cases hp:(!(decide (a<=c)&&decide (c<=b))) with
 |true=>rw[hp] at o;exact k_ rfl ((di o).trans rfl)
 |false=>rw[hp] at o;exact qZ rfl ((c9 o).trans rfl)
theorem iu{F:List D->Option Out}{g:Ev->Option (List D)}{ε:Ev}{ds:List D}{d:D}(h1:g ε=some ds)(h2:F ds=some (.inl d)):sXe F g ε=some (.nx ε):=by unfold sXe;rw[h1];show(F ds).bind _=_;rw[h2];rfl
theorem kU{F:List D->Option Out}{g:Ev->Option (List D)}{ε:Ev}{ds:List D}{c:Str}(h1:g ε=some ds)(h2:F ds=some (.inr (c,[]))):sXe F g ε=some (.xc c []):=by unfold sXe;rw[h1];show(F ds).bind _=_;rw[h2];rfl
theorem ig{g g':Ev->Option Fl}{ε:Ev}{c:Str}{fs:List (Str×D)}(h:g ε=some (.xc c fs)):aJ g g' ε=some (.xc c fs):=by unfold aJ;rw[h];rfl
theorem qI(t:T3):dY [hD t]=some (match bH t with | some c=>.inr (c,[]) | none=>.inl .non):=by
 obtain⟨x,y,z⟩:=t;have s1:pb (aM 0) (j7 3 (aC (av 1) (aC (av 2) (aC (av 3) bF)))) (aZ fW [hD (x,y,z)])=some (.nx [.dat (hD (x,y,z)),.dat (.int x),.dat (.int y),.dat (.int z)]):=rfl;have a2:(ah (aM 1) (ah (aM 2) aW)) [.dat (hD (x,y,z)),.dat (.int x),.dat (.int y),.dat (.int z)]=some [.int x,.int y]:=rfl
 have o:dG (gM leI leI (eC (.int 1)) (aa 3) (eC (.int 5))) [.dat (hD (x,y,z)),.dat (.int x),.dat (.int y),.dat (.int z)]=some (jH z):=by
  have c1:gM leI leI (eC (.int 1)) (aa 3) (eC (.int 5)) [.dat (hD (x,y,z)),.dat (.int x),.dat (.int y),.dat (.int z)]=some (decide (1<=z)&&decide (z<=5)):=by
   show asB (if decide (1<=z)=true then some (D.bl (decide (z<=5))) else some (.bl false))=_;cases decide (1<=z)<;>rfl
  unfold dG;rw[c1];rfl
 unfold bH;have p:=oB x y;show _=some (match(if gL x y=true then some ("BadPlace" : Str) else if jH z=true then some "BadHeight" else none) with | some c=>_ | none=>_);cases hp:gL x y with
 |true=>
  rw[hp] at p;exact k_ rfl ((ay s1).trans (ig (kU a2 p)))
 |false=>
  rw[hp] at p;cases ht:jH z with
  |true=>rw[ht] at o;exact k_ rfl ((ay s1).trans ((ay (iu a2 p)).trans ((di o).trans rfl)))
  |false=>rw[ht] at o;exact qZ rfl ((ay s1).trans ((ay (iu a2 p)).trans ((c9 o).trans rfl)))
abbrev eo(a b s2 s3 s4:Sl):Ev:=[a,b,s2,s3,s4]
theorem lb(H C:D)(xs:List T3)(s2 s3 s4:Sl):(∃c,first bH xs=some c/\bL (av 2) bo (xs.map hD) (eo (.dat H) (.dat C) s2 s3 s4)=some (.xc c []))\/
  (first bH xs=none/\∃ε',bL (av 2) bo (xs.map hD) (eo (.dat H) (.dat C) s2 s3 s4)=some (.nx ε')/\∃t2 t3 t4,ε'=eo (.dat H) (.dat C) t2 t3 t4):=by
 refine cW hD (λε=>∃t2 t3 t4,ε=eo (.dat H) (.dat C) t2 t3 t4) bH (λc=>.xc c []) rh xs (λt _ ε hI=>?_) _ ⟨s2,s3,s4,rfl⟩;obtain⟨t2,t3,t4,rfl⟩:=hI;refine⟨eo (.dat H) (.dat C) (.dat (hD t)) t3 t4,rfl,?_⟩;have h:=qI t;cases hb:bH t with
 |some c=>rw[hb] at h;exact .inl ⟨c,rfl,kU rfl h⟩
 |none=>rw[hb] at h;exact .inr ⟨rfl,_,iu rfl h,_,_,_,rfl⟩
theorem qf(cs:List Int):eS 0 (iL cs)=(vX cs.length).map (λi:Nat=>D.tup [.int (i:Int),.int (cs.getD i 0)]):=by
 have key:∀(l:List Int) (n:Nat),eS n (iL l)=(vX l.length).map λi=>D.tup [.int ((n+i:Nat):Int),.int (l.getD i 0)]:=by
  intro l
  induction l with
  |nil=>intro n;rfl
  |cons c l ih=>
   intro n;show D.tup [.int (n:Int),.int c]::eS (n+1) (iL l)=_;rw[ih (n+1),zK,List.range_succ_eq_map,xw,List.map_map];congr 1;apply List.map_congr_left;intro i _;show _=D.tup [.int ((n+(i+1):Nat):Int),.int ((c::l).getD (i+1) 0)];rw[show n+(i+1)=n+1+i by lia];rfl
 rw[key cs 0];apply List.map_congr_left;intro i _;rw[Nat.zero_add]
theorem nq(H:D)(cs:List Int)(s2 s3 s4:Sl):(∃c,first (bC cs) (vX cs.length)=some c/\bL (dh 2 (aC (av 3) (aC (av 4) bF))) bj (eS 0 (iL cs)) (eo (.dat H) (.dat (.lst (iL cs))) s2 s3 s4)=some (.xc c []))\/
  (first (bC cs) (vX cs.length)=none/\∃ε',bL (dh 2 (aC (av 3) (aC (av 4) bF))) bj (eS 0 (iL cs)) (eo (.dat H) (.dat (.lst (iL cs))) s2 s3 s4)=some (.nx ε')/\∃t2 t3 t4,ε'=eo (.dat H) (.dat (.lst (iL cs))) t2 t3 t4):=by
 rw[qf];refine cW (λi:Nat=>D.tup [.int (i:Int),.int (cs.getD i 0)]) (λε=>∃t2 t3 t4,ε=eo (.dat H) (.dat (.lst (iL cs))) t2 t3 t4) (bC cs) (λc=>.xc c []) rh (vX cs.length) (λi hi ε hI=>?_) _ ⟨s2,s3,s4,rfl⟩;obtain⟨t2,t3,t4,rfl⟩:=hI;generalize hc:cs.getD i 0=c;refine⟨eo (.dat H) (.dat (.lst (iL cs))) t2 (.dat (.int (i:Int))) (.dat (.int c)),rfl,?_⟩;have b:=kP c 0 23;have tk:eE (iL cs) none (some (i:Int))=iL (cs.take i):=by rw[ic];unfold iL;rw[List.map_take]
 have t:aA (inD false) (aa 4) (eF (eSl (aa 1) cf (a_ (aa 3)))) (eo (.dat H) (.dat (.lst (iL cs))) t2 (.dat (.int (i:Int))) (.dat (.int c)))=some (inK (cs.take i) c):=
  cQ (x:=.int c) (y:=.lst (iL (cs.take i))) rfl (jn (by show some (eE (iL cs) none (some (i:Int)))=_;rw[tk])) (oZ _ _)
 have a:(ah (aM 4) (ah (eC (.int 0)) (ah (e2 jP (eC (.int 24)) (eC (.int 1))) aW))) (eo (.dat H) (.dat (.lst (iL cs))) t2 (.dat (.int (i:Int))) (.dat (.int c)))=some [.int c,.int 0,.int 23]:=rfl;unfold bC;rw[hc];cases hp:lr c with
 |true=>
  unfold lr at hp;rw[hp] at b;exact .inl ⟨"BadHour",rfl,ig (kU a b)⟩
 |false=>
  unfold lr at hp;rw[hp] at b;show(∃d,(if inK (cs.take i) c=true then _ else _)=some d/\_)\/((if inK (cs.take i) c=true then _ else _)=none/\_);cases ht:inK (cs.take i) c with
  |true=>
   rw[ht] at t;exact .inl ⟨"Twice",rfl,(ay (iu a b)).trans ((di t).trans rfl)⟩
  |false=>
   rw[ht] at t;exact .inr ⟨rfl,_,(ay (iu a b)).trans ((c9 t).trans rfl),_,_,_,rfl⟩
theorem qC(xs:List T3)(cs:List Int):a8 [.lst (xs.map hD),.lst (iL cs)]=some (match(if decide (20<xs.length) || decide (24<cs.length) then some ("Full" : Str) else(first bH xs).or (first (bC cs) (vX cs.length))) with | some c=>.inr (c,[]) | none=>.inl .non):=by
 have o:dE (aA gtI (bt bq (aa 0)) (eC (.int 20))) (aA gtI (bt bq (aa 1)) (eC (.int 24))) (aZ bP [.lst (xs.map hD),.lst (iL cs)])=some (decide (20<xs.length) || decide (24<cs.length)):=by
  show(if decide ((20:Int)<((xs.map hD).length:Int))=true then some true else some (decide ((24:Int)<((iL cs).length:Int))))=_;rw[wj,show(iL cs).length=cs.length by simp[iL]]
  by_cases c:20<xs.length
  ·rw[if_pos (by simp;lia),decide_eq_true c];rfl
  ·rw[if_neg (by simp;lia),decide_eq_false c,Bool.false_or]
   congr 1;rw[decide_eq_decide]
   lia
 cases hf:(decide (20<xs.length) || decide (24<cs.length)) with
 |true=>
  rw[hf] at o;exact k_ rfl (ig ((di o).trans rfl))
 |false=>
  rw[hf] at o;have f1:hW (aM 0) (aZ bP [.lst (xs.map hD),.lst (iL cs)])=some (xs.map hD):=rfl;have step:∀{r:Fl},aJ (ez (hW (aM 0)) (av 2) bo) (ez (kC (aM 1)) (dh 2 (aC (av 3) (aC (av 4) bF))) bj) (eo (.dat (.lst (xs.map hD))) (.dat (.lst (iL cs))) .un .un .un)=some r->d9 (aZ bP [.lst (xs.map hD),.lst (iL cs)])=some r:=λh=>(ay ((c9 o).trans rfl)).trans h;rcases lb (.lst (xs.map hD)) (.lst (iL cs)) xs .un .un .un with⟨c,e1,e2⟩ | ⟨e1,ε',e2,t2,t3,t4,rfl⟩
  ·rw[e1]
   exact k_ rfl (step (ig ((bh f1).trans e2)))
  ·rw[e1]
   have f2:kC (aM 1) (eo (.dat (.lst (xs.map hD))) (.dat (.lst (iL cs))) t2 t3 t4)=some (eS 0 (iL cs)):=rfl;rcases nq (.lst (xs.map hD)) cs t2 t3 t4 with⟨c,e3,e4⟩ | ⟨e3,ε',e4,u2,u3,u4,rfl⟩
   ·rw[e3]
    exact k_ rfl (step ((ay ((bh f1).trans e2)).trans ((bh f2).trans e4)))
   ·rw[e3]
    exact qZ rfl (step ((ay ((bh f1).trans e2)).trans ((bh f2).trans e4)))
section
variable(f:Nat->Int)
abbrev ed(s1 s2 s3 s4 s5 s6 s7 s8 s9:Sl):Ev:=[.dat (.lst (iL (bX f 100))),s1,s2,s3,s4,s5,s6,s7,s8,s9]
def rB:Ev->Option D:=e2 ixD (eF (cT (ah (e2 aP (e2 ixD (aa 0) (eC (.int 0))) (eC (.int 5))) (ah (e2 aP (e2 ixD (aa 0) (eC (.int 0))) (eC (.int 5))) (ah (e2 aP (e2 ixD (aa 0) (eC (.int 0))) (eC (.int 23))) (ah (e2 bW (eC (.int 19)) (e2 aP (e2 ixD (aa 0) (eC (.int 0))) (eC (.int 3)))) aW)))))) (e2 aP (e2 ixD (aa 0) (eC (.int 1))) (eC (.int 4)))
def rL:Ev->Option D:=e2 ixD (eF (cT (ah (e2 aP (e2 ixD (aa 0) (eC (.int 2))) (eC (.int 4))) (ah (e2 aP (e2 ixD (aa 0) (eC (.int 2))) (eC (.int 27))) (ah (eC (.int 24)) (ah (eC (.int 25)) aW)))))) (e2 aP (e2 ixD (aa 0) (eC (.int 3))) (eC (.int 4)))
def pV:Ev->Option D:=e2 ixD (eF (cT (ah (eC (.int 0)) (ah (eC (.int 0)) (ah (eC (.int 1)) (ah (eC (.int 2)) (ah (eC (.int 1)) (ah (eC (.int 3)) aW)))))))) (e2 aP (e2 ixD (aa 0) (eC (.int 6))) (eC (.int 6)))
theorem vq{i:Int}(h:0<=i%4):i%4=0\/i%4=1\/i%4=2\/i%4=3:=by lia
theorem mi(a b c d i:Int):∃v,ixD (.lst [.int a,.int b,.int c,.int d]) (.int (i%4))=some (.int v)/\(v=a\/v=b\/v=c\/v=d):=by
 rcases vq (i:=i) (by lia) with h | h | h | h<;>rw[h]
 ·exact⟨a,rfl,.inl rfl⟩
 ·exact⟨b,rfl,.inr (.inl rfl)⟩
 ·exact⟨c,rfl,.inr (.inr (.inl rfl))⟩
 ·exact⟨d,rfl,.inr (.inr (.inr rfl))⟩
theorem qq(s1 s2 s3 s4 s5 s6 s7 s8 s9:Sl):∃m:Nat,m<=22/\rB (ed f s1 s2 s3 s4 s5 s6 s7 s8 s9)=some (.int (m:Int)):=by
 obtain⟨v,e,h⟩:=mi (f 0%5) (f 0%5) (f 0%23) (19+f 0%3) (f 1);have hb:0<=v/\v<=22:=by lia
 refine⟨v.toNat,by lia,?_⟩;rw[Int.toNat_of_nonneg hb.1];exact e
theorem qA(s1 s2 s3 s4 s5 s6 s7 s8 s9:Sl):∃m:Nat,m<=26/\rL (ed f s1 s2 s3 s4 s5 s6 s7 s8 s9)=some (.int (m:Int)):=by
 obtain⟨v,e,h⟩:=mi (f 2%4) (f 2%27) 24 25 (f 3);have hb:0<=v/\v<=26:=by lia
 refine⟨v.toNat,by lia,?_⟩;rw[Int.toNat_of_nonneg hb.1];exact e
theorem qm(s1 s2 s3 s4 s5 s6 s7 s8 s9:Sl):∃m:Nat,m<=3/\pV (ed f s1 s2 s3 s4 s5 s6 s7 s8 s9)=some (.int (m:Int)):=by
 have six:f 6%6=0\/f 6%6=1\/f 6%6=2\/f 6%6=3\/f 6%6=4\/f 6%6=5:=by lia
 have key:∀i:Int,i=f 6%6->pV (ed f s1 s2 s3 s4 s5 s6 s7 s8 s9)=ixD (.lst [.int 0,.int 0,.int 1,.int 2,.int 1,.int 3]) (.int i):=λi h=>by rw[h];rfl
 rcases six with h | h | h | h | h | h
 ·exact⟨0,by decide,(key _ h.symm).trans rfl⟩
 ·exact⟨0,by decide,(key _ h.symm).trans rfl⟩
 ·exact⟨1,by decide,(key _ h.symm).trans rfl⟩
 ·exact⟨2,by decide,(key _ h.symm).trans rfl⟩
 ·exact⟨1,by decide,(key _ h.symm).trans rfl⟩
 ·exact⟨3,by decide,(key _ h.symm).trans rfl⟩
theorem pj(c n m k:Nat)(fa fb:Ev->Option D)(ε:Ev)(h0:aa 0 ε=some (.lst (iL (bX f 100))))(h1:fa ε=some (.int ((c+m*k:Nat):Int)))(h2:fb ε=some (.int ((c+m*k+n:Nat):Int)))(hb:c+m*k+n<=100) :
  eF (eSl (aa 0) (a_ fa) (a_ fb)) ε=some (.lst (iL (bX (λj=>f (c+m*k+j)) n))):=by
 refine jn ?_;unfold eSl a_;rw[h0,h1,h2];show some (eE (iL (bX f 100)) (some ((c+m*k:Nat):Int)) (some ((c+m*k+n:Nat):Int)))=_;rw[pz f 100 _ n hb]
theorem uB(k:Nat)(hk:k<22)(xs:List T3)(hx:xs.length<100)(s1 s4 s5 s6 s7 s8 s9:Sl):∃(t:T3) (u4:Sl),cI (ed f s1 (.own (xs.map hD)) (.dat (.int (k:Int))) s4 s5 s6 s7 s8 s9)=some (.nx (ed f s1 (.own ((xs++[t]).map hD)) (.dat (.int (k:Int))) u4 s5 s6 s7 s8 s9)):=by
 have m3:∀ε,aa 3 ε=some (.int (k:Int))->e2 cx (eC (.int 3)) (aa 3) ε=some (.int (3*(k:Int))):=λε h=>a9 rfl h (rn (by decide))
 have c:eF (eSl (aa 0) (a_ (e2 bW (eC (.int 10)) (e2 cx (eC (.int 3)) (aa 3)))) (a_ (e2 bW (eC (.int 13)) (e2 cx (eC (.int 3)) (aa 3))))) (ed f s1 (.own (xs.map hD)) (.dat (.int (k:Int))) s4 s5 s6 s7 s8 s9)=some (.lst (iL (bX (λj=>f (10+3*k+j)) 3))):=
  pj f 10 3 3 k _ _ _ rfl (a9 rfl (m3 _ rfl) (by show some (D.int (10+3*(k:Int)))=_;congr 2)) (a9 rfl (m3 _ rfl) (by show some (D.int (13+3*(k:Int)))=_;congr 2;lia)) (by lia)
 refine⟨(f (10+3*k+0)*2-999,f (10+3*k+1)*2-999,1+f (10+3*k+2)%5),.dat (.lst (iL (bX (λj=>f (10+3*k+j)) 3))),(ay (cM c)).trans ?_⟩;refine(l_ (ds:=xs.map hD) (d:=hD (f (10+3*k+0)*2-999,f (10+3*k+1)*2-999,1+f (10+3*k+2)%5)) ?_ rfl (by simp;lia)).trans ?_
 ·exact mq (bp (a9 (a9 (x:=.int (f (10+3*k+0))) (y:=.int 2) rfl rfl (tO (by decide))) rfl rfl) (bp (a9 (a9 (x:=.int (f (10+3*k+1))) (y:=.int 2) rfl rfl (tO (by decide))) rfl rfl) (bp (a9 rfl (a9 (x:=.int (f (10+3*k+2))) (y:=.int 5) rfl rfl (pH (by decide))) rfl) rfl))) (show 3<=1000 by decide)
 ·rw[List.map_append];rfl
theorem uR(k:Nat)(hk:k<30)(cs:List Int)(hc:cs.length<100)(s1 s2 s4 s5 s7 s8 s9:Sl):∃c:Int,cG (ed f s1 s2 (.dat (.int (k:Int))) s4 s5 (.own (iL cs)) s7 s8 s9)=some (.nx (ed f s1 s2 (.dat (.int (k:Int))) s4 s5 (.own (iL (cs++[c]))) s7 s8 s9)):=by
 obtain⟨v,e,h⟩:=mi 1 5 7 23 (f 5);have hv:1<=v/\v<=23:=by lia
 refine⟨(f 4+k*v)%24,?_⟩;refine(l_ (ds:=iL cs) (d:=.int ((f 4+k*v)%24)) ?_ rfl (by simp[iL];lia)).trans ?_
 ·exact a9 (a9 (x:=.int (f 4)) (y:=.int (k*v)) rfl (a9 (x:=.int (k:Int)) (y:=.int v) rfl (a9 (x:=.lst [.int 1,.int 5,.int 7,.int 23]) (y:=.int (f 5%4)) rfl rfl e) (tO (by lia))) rfl) rfl (pH (by decide))
 ·rw[show iL (cs++[(f 4+k*v)%24])=iL cs++[.int ((f 4+k*v)%24)] by simp[iL]];rfl
def rV:Ev->Option Fl:=iK 2 (aa 7) (e2 j9 (e2 j9 (jW (e2 ixD (aa 2) (aa 7)) cf (a_ (aa 8))) (j6 (ah (aM 9) aW))) (jW (e2 ixD (aa 2) (aa 7)) (a_ (e2 bW (aa 8) (eC (.int 1)))) cf))
theorem mr{i:Nat}{fk g:Ev->Option D}{ε:Ev}{ds:List D}{m:Nat}{d:D}(h1:g ε=some d)(h2:fk ε=some (.int (m:Int)))(h3:ε[i]?=some (.own ds))(hm:m<ds.length):iK i fk g ε=some (.nx (ε.set i (.own (ds.set m d)))):=by
 unfold iK;rw[h1,h2,h3];show(ixN ds.length (m:Int)).map _=_;have:ixN ds.length (m:Int)=some m:=by unfold ixN;simp;lia
 rw[this];rfl
theorem rR(xs:List T3)(a:Nat)(ha:a<xs.length)(p v:Int)(hp:p=0\/p=1\/p=2)(s1 s3 s4 s5 s6:Sl):∃t:T3,rV (ed f s1 (.own (xs.map hD)) s3 s4 s5 s6 (.dat (.int (a:Int))) (.dat (.int p)) (.dat (.int v)))=some (.nx (ed f s1 (.own ((xs.set a t).map hD)) s3 s4 s5 s6 (.dat (.int (a:Int))) (.dat (.int p)) (.dat (.int v)))):=by
 obtain⟨x,y,z,et⟩:∃x y z,xs[a]=(x,y,z):=⟨_,_,_,rfl⟩
 have it:∀ε,aa 2 ε=some (.lst (xs.map hD))->aa 7 ε=some (.int (a:Int))->e2 ixD (aa 2) (aa 7) ε=some (hD (x,y,z)):=λε h1 h2=>a9 h1 h2 (by
  show atI (xs.map hD) (a:Int)=_;refine lQ ?_;rw[zH,List.getElem?_eq_getElem ha,et]
  rfl)
 have fin:∀t,e2 j9 (e2 j9 (jW (e2 ixD (aa 2) (aa 7)) cf (a_ (aa 8))) (j6 (ah (aM 9) aW))) (jW (e2 ixD (aa 2) (aa 7)) (a_ (e2 bW (aa 8) (eC (.int 1)))) cf) (ed f s1 (.own (xs.map hD)) s3 s4 s5 s6 (.dat (.int (a:Int))) (.dat (.int p)) (.dat (.int v)))=some (hD t)->
   ∃t:T3,rV (ed f s1 (.own (xs.map hD)) s3 s4 s5 s6 (.dat (.int (a:Int))) (.dat (.int p)) (.dat (.int v)))=some (.nx (ed f s1 (.own ((xs.set a t).map hD)) s3 s4 s5 s6 (.dat (.int (a:Int))) (.dat (.int p)) (.dat (.int v)))):=λt e=>by
  refine⟨t,(mr (ds:=xs.map hD) (m:=a) e rfl rfl (by simpa using ha)).trans ?_⟩;rw[List.map_set];rfl
 have i1:=it (ed f s1 (.own (xs.map hD)) s3 s4 s5 s6 (.dat (.int (a:Int))) (.dat (.int p)) (.dat (.int v))) rfl rfl
 have sl:∀lo hi,(fl fh:Ev->Option (Option Int))->fl (ed f s1 (.own (xs.map hD)) s3 s4 s5 s6 (.dat (.int (a:Int))) (.dat (.int p)) (.dat (.int v)))=some lo->fh (ed f s1 (.own (xs.map hD)) s3 s4 s5 s6 (.dat (.int (a:Int))) (.dat (.int p)) (.dat (.int v)))=some hi->
   jW (e2 ixD (aa 2) (aa 7)) fl fh (ed f s1 (.own (xs.map hD)) s3 s4 s5 s6 (.dat (.int (a:Int))) (.dat (.int p)) (.dat (.int v)))=(if HT.sIx 3 0 lo=0/\HT.sIx 3 3 hi=3 then none else some (.tup (eE [.int x,.int y,.int z] lo hi))):=λlo hi fl fh h1 h2=>by
  unfold jW;rw[i1,h1,h2];rfl
 rcases hp with rfl | rfl | rfl
 ·exact fin (v,y,z) (a9 (x:=.tup [.int v]) (y:=.tup [.int y,.int z]) (a9 (x:=.tup []) (y:=.tup [.int v]) ((sl none (some 0) _ _ rfl rfl).trans rfl) rfl rfl) ((sl (some 1) none _ _ rfl rfl).trans rfl) rfl)
 ·exact fin (x,v,z) (a9 (x:=.tup [.int x,.int v]) (y:=.tup [.int z]) (a9 (x:=.tup [.int x]) (y:=.tup [.int v]) ((sl none (some 1) _ _ rfl rfl).trans rfl) rfl rfl) ((sl (some 2) none _ _ rfl rfl).trans rfl) rfl)
 ·exact fin (x,y,v) (a9 (x:=.tup [.int x,.int y,.int v]) (y:=.tup []) (a9 (x:=.tup [.int x,.int y]) (y:=.tup [.int v]) ((sl none (some 2) _ _ rfl rfl).trans rfl) rfl rfl) ((sl (some 3) none _ _ rfl rfl).trans rfl) rfl)
theorem rF(a b c d e i:Int):∃v,ixD (.lst [.int a,.int b,.int c,.int d,.int e]) (.int (i%5))=some (.int v):=by
 have h:i%5=0\/i%5=1\/i%5=2\/i%5=3\/i%5=4:=by lia
 rcases h with h | h | h | h | h<;>rw[h]
 ·exact⟨a,rfl⟩
 ·exact⟨b,rfl⟩
 ·exact⟨c,rfl⟩
 ·exact⟨d,rfl⟩
 ·exact⟨e,rfl⟩
def gA:Ev->Option Fl:=sIf (fm (aA gu (e2 aP (e2 ixD (aa 4) (eC (.int 0))) (eC (.int 2))) (eC (.int 0))) (aA gtI (bt bq (aa 2)) (eC (.int 0)))) (aJ (bJ 7 (e2 aP (e2 ixD (aa 4) (eC (.int 1))) (bt bq (aa 2)))) (aJ (bJ 8 (e2 aP (e2 ixD (aa 4) (eC (.int 2))) (eC (.int 3)))) (aJ (bJ 9 (e2 ixD (eF (cT (ah (e2 ixD (eF (cT (ah (eC (.int 1000)) (ah (eR (eC (.int 1000))) (ah (eC (.int 999)) (ah (eR (eC (.int 999))) aW)))))) (e2 aP (e2 ixD (aa 4) (eC (.int 3))) (eC (.int 4)))) (ah (e2 ixD (eF (cT (ah (eC (.int 0)) (ah (eC (.int 6)) (ah (eC (.int 5)) (ah (eC (.int 1)) (ah (eR (eC (.int 1))) aW))))))) (e2 aP (e2 ixD (aa 4) (eC (.int 3))) (eC (.int 5)))) aW)))) (e2 fV (aa 8) (eC (.int 2))))) rV))) bx
def gB:Ev->Option Fl:=sIf (fm (aA gu (e2 aP (e2 ixD (aa 4) (eC (.int 0))) (eC (.int 2))) (eC (.int 1))) (aA gtI (bt bq (aa 6)) (eC (.int 0)))) (iK 6 (e2 aP (e2 ixD (aa 4) (eC (.int 1))) (bt bq (aa 6))) (e2 ixD (eF (cT (ah (eR (eC (.int 1))) (ah (eC (.int 24)) (ah (eC (.int 23)) (ah (eC (.int 0)) (ah (e2 ixD (aa 6) (e2 aP (e2 ixD (aa 4) (eC (.int 4))) (bt bq (aa 6)))) aW))))))) (e2 aP (e2 ixD (aa 4) (eC (.int 3))) (eC (.int 5))))) bx
theorem jm{fa fb:Ev->Option Bool}{ε:Ev}{a b:Bool}(h1:fa ε=some a)(h2:fb ε=some b):fm fa fb ε=some (a&&b):=by unfold fm;rw[h1,h2];cases a<;>rfl
theorem kh(a b:Int):gu (.int a) (.int b)=some (.bl (decide (a=b))):=by rfl
theorem uy(g:Nat->Int)(xs:List T3)(s1 s3 s5 s6 s7 s8 s9:Sl):∃(ys:List T3) (u7 u8 u9:Sl),ys.length=xs.length/\gA (ed f s1 (.own (xs.map hD)) s3 (.dat (.lst (iL (bX g 5)))) s5 s6 s7 s8 s9)=some (.nx (ed f s1 (.own (ys.map hD)) s3 (.dat (.lst (iL (bX g 5)))) s5 s6 u7 u8 u9)):=by
 have c1:aA gu (e2 aP (e2 ixD (aa 4) (eC (.int 0))) (eC (.int 2))) (eC (.int 0)) (ed f s1 (.own (xs.map hD)) s3 (.dat (.lst (iL (bX g 5)))) s5 s6 s7 s8 s9)=some (decide (g 0%2=0)):=cQ (x:=.int (g 0%2)) (y:=.int 0) rfl rfl (kh _ _);have c2:aA gtI (bt bq (aa 2)) (eC (.int 0)) (ed f s1 (.own (xs.map hD)) s3 (.dat (.lst (iL (bX g 5)))) s5 s6 s7 s8 s9)=some (decide ((0:Int)<((xs.map hD).length:Int))):=rfl;have cc:=jm c1 c2;cases hc:(decide (g 0%2=0)&&decide ((0:Int)<((xs.map hD).length:Int))) with
 |false=>rw[hc] at cc;exact⟨xs,s7,s8,s9,rfl,(c9 cc).trans rfl⟩
 |true=>
  rw[hc] at cc;have hl:(0:Int)<((xs.map hD).length:Int):=of_decide_eq_true (Bool.and_eq_true_iff.mp hc).2;have ll:(xs.map hD).length=xs.length:=wj _;have hm:0<=g 1%((xs.map hD).length:Int)/\g 1%((xs.map hD).length:Int)<((xs.map hD).length:Int):=⟨Int.emod_nonneg _ (by lia),Int.emod_lt_of_pos _ hl⟩;obtain⟨a,ea⟩:∃a:Nat,g 1%((xs.map hD).length:Int)=(a:Int):=⟨(g 1%((xs.map hD).length:Int)).toNat,by lia⟩;have ha:a<xs.length:=by lia
  obtain⟨v1,e1,_⟩:=mi 1000 (-1000) 999 (-999) (g 3);obtain⟨v2,e2'⟩:=rF 0 6 5 1 (-1) (g 3);have hp:g 2%3=0\/g 2%3=1\/g 2%3=2:=by lia
  obtain⟨v,ev⟩:∃v,ixD (.lst [.int v1,.int v2]) (.int (g 2%3/2))=some (.int v):=by
   rcases hp with h | h | h<;>rw[h]
   ·exact⟨v1,rfl⟩
   ·exact⟨v1,rfl⟩
   ·exact⟨v2,rfl⟩
  obtain⟨t,et⟩:=rR f xs a ha (g 2%3) v hp s1 s3 (.dat (.lst (iL (bX g 5)))) s5 s6;refine⟨xs.set a t,.dat (.int (a:Int)),.dat (.int (g 2%3)),.dat (.int v),wb,(di cc).trans ?_⟩;refine(ay (cM (d:=.int (a:Int)) (a9 (x:=.int (g 1)) (y:=.int ((xs.map hD).length:Int)) rfl rfl ((pH hl).trans (by rw[ea]))))).trans ?_;refine(ay (cM (d:=.int (g 2%3)) rfl)).trans ?_;refine(ay (cM (d:=.int v) (a9 (x:=.lst [.int v1,.int v2]) (y:=.int (g 2%3/2)) (jn ?_) rfl ev))).trans ?_
  ·unfold cT
   rw[bp (a9 (x:=.lst [.int 1000,.int (-1000),.int 999,.int (-999)]) (y:=.int (g 3%4)) rfl rfl e1) (bp (a9 (x:=.lst [.int 0,.int 6,.int 5,.int 1,.int (-1)]) (y:=.int (g 3%5)) rfl rfl e2') jV)];rfl
  ·exact et
theorem vf(g:Nat->Int)(cs:List Int)(s1 s2 s3 s5 s7 s8 s9:Sl):∃ds:List Int,ds.length=cs.length/\gB (ed f s1 s2 s3 (.dat (.lst (iL (bX g 5)))) s5 (.own (iL cs)) s7 s8 s9)=some (.nx (ed f s1 s2 s3 (.dat (.lst (iL (bX g 5)))) s5 (.own (iL ds)) s7 s8 s9)):=by
 have c1:aA gu (e2 aP (e2 ixD (aa 4) (eC (.int 0))) (eC (.int 2))) (eC (.int 1)) (ed f s1 s2 s3 (.dat (.lst (iL (bX g 5)))) s5 (.own (iL cs)) s7 s8 s9)=some (decide (g 0%2=1)):=cQ (x:=.int (g 0%2)) (y:=.int 1) rfl rfl (kh _ _);have c2:aA gtI (bt bq (aa 6)) (eC (.int 0)) (ed f s1 s2 s3 (.dat (.lst (iL (bX g 5)))) s5 (.own (iL cs)) s7 s8 s9)=some (decide ((0:Int)<((iL cs).length:Int))):=rfl;have cc:=jm c1 c2;cases hc:(decide (g 0%2=1)&&decide ((0:Int)<((iL cs).length:Int))) with
 |false=>rw[hc] at cc;exact⟨cs,rfl,(c9 cc).trans rfl⟩
 |true=>
  rw[hc] at cc;have hl:(0:Int)<((iL cs).length:Int):=of_decide_eq_true (Bool.and_eq_true_iff.mp hc).2;have ll:(iL cs).length=cs.length:=by simp[iL]
  have md:∀j,∃a:Nat,g j%((iL cs).length:Int)=(a:Int)/\a<cs.length:=λj=>by
   have h1:=Int.emod_nonneg (g j) (b:=((iL cs).length:Int)) (by lia);have h2:=Int.emod_lt_of_pos (g j) hl;exact⟨(g j%((iL cs).length:Int)).toNat,by lia,by lia⟩
  obtain⟨a,ea,ha⟩:=md 1;obtain⟨b,eb,hb⟩:=md 4;obtain⟨v,ev⟩:=rF (-1) 24 23 0 (cs.getD b 0) (g 3);refine⟨cs.set a v,wb,(di cc).trans ((mr (ds:=iL cs) (m:=a) (d:=.int v) ?_ (a9 (x:=.int (g 1)) (y:=.int ((iL cs).length:Int)) rfl rfl ((pH hl).trans (by rw[ea]))) rfl (by lia)).trans ?_)⟩
  ·refine a9 (x:=.lst [.int (-1),.int 24,.int 23,.int 0,.int (cs.getD b 0)]) (y:=.int (g 3%5)) (jn ?_) rfl ev
   unfold cT;rw[bp rfl (bp rfl (bp rfl (bp rfl (bp (a9 (x:=.lst (iL cs)) (y:=.int (b:Int)) rfl (a9 (x:=.int (g 4)) (y:=.int ((iL cs).length:Int)) rfl rfl ((pH hl).trans (by rw[eb]))) (rH hb)) jV))))];rfl
  ·show some (Fl.nx (ed f s1 s2 s3 (.dat (.lst (iL (bX g 5)))) s5 (.own ((iL cs).set a (.int v))) s7 s8 s9))=_
   rw[show iL (cs.set a v)=(iL cs).set a (.int v) by unfold iL;rw[List.map_set]]
theorem uQ(k:Nat)(hk:k<3)(xs:List T3)(cs:List Int)(s1 s4 s5 s7 s8 s9:Sl):∃(ys:List T3) (ds:List Int) (u4 u7 u8 u9:Sl),ys.length=xs.length/\ds.length=cs.length/\
  cJ (ed f s1 (.own (xs.map hD)) (.dat (.int (k:Int))) s4 s5 (.own (iL cs)) s7 s8 s9)=some (.nx (ed f s1 (.own (ys.map hD)) (.dat (.int (k:Int))) u4 s5 (.own (iL ds)) u7 u8 u9)):=by
 have m5:∀ε,aa 3 ε=some (.int (k:Int))->e2 cx (eC (.int 5)) (aa 3) ε=some (.int (5*(k:Int))):=λε h=>a9 rfl h (rn (by decide))
 have c:eF (eSl (aa 0) (a_ (e2 bW (eC (.int 80)) (e2 cx (eC (.int 5)) (aa 3)))) (a_ (e2 bW (eC (.int 85)) (e2 cx (eC (.int 5)) (aa 3))))) (ed f s1 (.own (xs.map hD)) (.dat (.int (k:Int))) s4 s5 (.own (iL cs)) s7 s8 s9)=some (.lst (iL (bX (λj=>f (80+5*k+j)) 5))):=
  pj f 80 5 5 k _ _ _ rfl (a9 rfl (m5 _ rfl) (by show some (D.int (80+5*(k:Int)))=_;congr 2)) (a9 rfl (m5 _ rfl) (by show some (D.int (85+5*(k:Int)))=_;congr 2;lia)) (by lia)
 obtain⟨ys,u7,u8,u9,l1,e1⟩:=uy f (λj=>f (80+5*k+j)) xs s1 (.dat (.int (k:Int))) s5 (.own (iL cs)) s7 s8 s9;obtain⟨ds,l2,e2'⟩:=vf f (λj=>f (80+5*k+j)) cs s1 (.own (ys.map hD)) (.dat (.int (k:Int))) s5 u7 u8 u9;exact⟨ys,ds,_,u7,u8,u9,l1,l2,(ay (cM c)).trans ((ay e1).trans e2')⟩
theorem pT:∃(xs:List T3) (cs:List Int),xs.length<=22/\cs.length<=26/\dX [.lst (iL (bX f 100))]=some (.tup [.lst (xs.map hD),.lst (iL cs)]):=by
 obtain⟨m,hm,em⟩:=qq f .un .un .un .un .un .un .un .un .un;have r0:∀(j:Nat),j<=100->dN (aM 1) (ed f (.dat (.int (j:Int))) (.own []) .un .un .un .un .un .un .un)=some (ck j):=λj hj=>(ik (f:=aM 1) (j:=(j:Int)) rfl (by lia) (by lia)).trans rfl
 obtain⟨ε1,e1,xs,v3,v4,lx,rfl⟩:=gi (g:=av 3) (gb:=cI) (λn ε=>∃(xs:List T3) (v3 v4:Sl),xs.length=n/\ε=ed f (.dat (.int (m:Int))) (.own (xs.map hD)) v3 v4 .un .un .un .un .un) (ck m) 0 (λi d hd ε hP=>by
  obtain⟨xs,v3,v4,lx,rfl⟩:=hP;obtain⟨rfl,hi⟩:=iy hd;obtain⟨t,u4,e⟩:=uB f i (by lia) xs (by lia) (.dat (.int (m:Int))) v4 .un .un .un .un .un
  exact⟨_,_,rfl,.inl e,xs++[t],_,_,by rw[vY,lx];rfl,rfl⟩) (ed f (.dat (.int (m:Int))) (.own []) .un .un .un .un .un .un .un) ⟨[],_,_,rfl,rfl⟩
 have lx:xs.length=m:=by rw[lx];simp[ck]
 obtain⟨n,hn,en⟩:=qA f (.dat (.int (m:Int))) (.own (xs.map hD)) v3 v4 .un .un .un .un .un;have r1:dN (aM 5) (ed f (.dat (.int (m:Int))) (.own (xs.map hD)) v3 v4 (.dat (.int (n:Int))) (.own []) .un .un .un)=some (ck n):=(ik (f:=aM 5) (j:=(n:Int)) rfl (by lia) (by lia)).trans rfl
 obtain⟨ε2,e2',cs,w3,lc,rfl⟩:=gi (g:=av 3) (gb:=cG) (λj ε=>∃(cs:List Int) (w3:Sl),cs.length=j/\ε=ed f (.dat (.int (m:Int))) (.own (xs.map hD)) w3 v4 (.dat (.int (n:Int))) (.own (iL cs)) .un .un .un) (ck n) 0 (λi d hd ε hP=>by
  obtain⟨cs,w3,lc,rfl⟩:=hP;obtain⟨rfl,hi⟩:=iy hd;obtain⟨c,e⟩:=uR f i (by lia) cs (by lia) (.dat (.int (m:Int))) (.own (xs.map hD)) v4 (.dat (.int (n:Int))) .un .un .un
  exact⟨_,_,rfl,.inl e,cs++[c],_,by rw[vY,lc];rfl,rfl⟩) (ed f (.dat (.int (m:Int))) (.own (xs.map hD)) v3 v4 (.dat (.int (n:Int))) (.own (iL [])) .un .un .un) ⟨[],_,rfl,rfl⟩
 have lc:cs.length=n:=by rw[lc];simp[ck]
 obtain⟨b,hb,eb⟩:=qm f (.dat (.int (m:Int))) (.own (xs.map hD)) w3 v4 (.dat (.int (n:Int))) (.own (iL cs)) .un .un .un;have r2:dN pV (ed f (.dat (.int (m:Int))) (.own (xs.map hD)) w3 v4 (.dat (.int (n:Int))) (.own (iL cs)) .un .un .un)=some (ck b):=(ik eb (by lia) (by lia)).trans rfl
 obtain⟨ε3,e3,ys,ds,x3,x4,x7,x8,x9,ly,ld,rfl⟩:=nE (g:=av 3) (gb:=cJ) (λε=>∃(ys:List T3) (ds:List Int) (x3 x4 x7 x8 x9:Sl),ys.length=m/\ds.length=n/\ε=ed f (.dat (.int (m:Int))) (.own (ys.map hD)) x3 x4 (.dat (.int (n:Int))) (.own (iL ds)) x7 x8 x9) (ds:=ck b) (λd hd ε hP=>by
  obtain⟨ys,ds,x3,x4,x7,x8,x9,ly,ld,rfl⟩:=hP;obtain⟨i,hi⟩:=List.getElem?_of_mem hd;obtain⟨rfl,hi⟩:=iy hi;obtain⟨zs,es,u4,u7,u8,u9,l1,l2,e⟩:=uQ f i (by lia) ys ds (.dat (.int (m:Int))) x4 (.dat (.int (n:Int))) x7 x8 x9
  exact⟨_,_,rfl,.inl e,zs,es,_,_,_,_,_,l1.trans ly,l2.trans ld,rfl⟩) (ε:=ed f (.dat (.int (m:Int))) (.own (xs.map hD)) w3 v4 (.dat (.int (n:Int))) (.own (iL cs)) .un .un .un) ⟨xs,cs,_,_,_,_,_,lx,lc,rfl⟩
 refine⟨ys,ds,by lia,by lia,gK rfl ?_⟩;refine(ay (cM (f:=rB) em)).trans ?_;refine(ay (ε':=ed f (.dat (.int (m:Int))) (.own []) .un .un .un .un .un .un .un) rfl).trans ?_;refine(ay ((bh (r0 m (by lia))).trans e1)).trans ?_;refine(ay (cM (f:=rL) en)).trans ?_;refine(ay (ε':=ed f (.dat (.int (m:Int))) (.own (xs.map hD)) v3 v4 (.dat (.int (n:Int))) (.own (iL [])) .un .un .un) rfl).trans ?_;refine(ay ((bh r1).trans e2')).trans ?_;refine(ay ((bh r2).trans e3)).trans ?_;rfl
end
theorem sR:eP=rP:=rfl
theorem sT(ns:List Int)(hn:ns.length<=63)(m:Nat)(hm:m<=5000):∃f:Nat->Int,Lw.c_ [.lst (iL ns),.int (m:Int)]=some (.lst (iL (bX f m)))/\∀j,0<=f j/\f j<1000:=by
 obtain⟨row,e,h1,h2⟩:=pX ns hn m hm;obtain⟨f,rfl,hf⟩:=sF h1 h2;exact⟨f,gK rfl (by rw[sR];exact e),hf⟩
theorem my:∀n,cj n=FrS n
 |0=>rfl
 |n+1=>by
  show fnD _ _ (gS (cj n))=fnD _ _ (gZ (FrS n));rw[my n];rfl
theorem tM(d:D)(h:OkS 4 d):cC [d,d]=some (.bl true):=by
 unfold cC;rw[my];exact jQ 4 d h
theorem ip{α:Type}{B:α->Option Str}{c:Str}:∀{xs:List α},first B xs=some c->∃x,B x=some c
 |[],e=>by cases e
 |x::xs,e=>by
  cases h:B x with
  |some d=>
   have:first B (x::xs)=some d:=by show(B x).or _=_;rw[h];rfl
   rw[this] at e;cases e;exact⟨x,h⟩
  |none=>
   have:first B (x::xs)=first B xs:=by show(B x).or _=_;rw[h];rfl
   rw[this] at e;exact ip e
theorem qS(xs:List T3)(cs:List Int)(l1:xs.length<=22)(l2:cs.length<=26):uK (xs.map hD) (iL cs):=by
 have lc:(iL cs).length=cs.length:=by simp[iL]
 have q1:OkQ 9 (.lst (xs.map hD)):=λd hd=>by
  obtain⟨q,_,rfl⟩:=List.mem_map.mp hd;intro e he;simp only[zq,zM,or_false] at he;rcases he with rfl | rfl | rfl<;>exact trivial
 have q2:OkQ 9 (.lst (iL cs)):=λd hd=>by
  obtain⟨q,_,rfl⟩:=List.mem_map.mp hd;exact trivial
 have o:=qC xs cs;refine⟨_,pe xs cs,?_,jd q1,jd q2,tM _ ⟨by show 4<1000000;decide,λd hd=>?_⟩,by rw[wj];lia,by lia⟩
 ·cases hf:(decide (20<xs.length) || decide (24<cs.length)) with
  |true=>
   rw[hf] at o;exact .inr ⟨.inl rfl,[],o⟩
  |false=>
   rw[hf] at o;cases h1:first bH xs with
   |some c=>
    rw[h1] at o;obtain⟨t,ht⟩:=ip h1;refine .inr ⟨?_,[],o⟩;show nC c;unfold bH at ht;split at ht
    ·cases ht;exact .inr (.inl rfl)
    ·split at ht
     ·cases ht;exact .inr (.inr (.inl rfl))
     ·cases ht
   |none=>
    rw[h1] at o;cases h2:first (bC cs) (vX cs.length) with
    |some c=>
     rw[h2] at o;obtain⟨t,ht⟩:=ip h2;refine .inr ⟨?_,[],o⟩;show nC c;unfold bC at ht;split at ht
     ·cases ht;exact .inr (.inr (.inr (.inl rfl)))
     ·split at ht
      ·cases ht;exact .inr (.inr (.inr (.inr rfl)))
      ·cases ht
    |none=>
     rw[h2] at o;exact .inl ⟨rfl,_,o⟩
 ·simp only[zq,zM,or_false] at hd
  rcases hd with rfl | rfl | rfl | rfl
  ·refine⟨by rw[wj];lia,λd hd=>?_⟩
   obtain⟨q,_,rfl⟩:=List.mem_map.mp hd;refine⟨by show 3<1000000;decide,λe he=>?_⟩;simp only[zq,zM,or_false] at he;rcases he with rfl | rfl | rfl<;>exact trivial
  ·exact oP cs (by lia)
  ·exact⟨by decide,λd hd=>by cases hd⟩
  ·exact⟨by decide,λd hd=>by cases hd⟩
theorem worth(ns:List Int)(hn:ns.length<=63):kl [.lst (ns.map D.int)]=some (.bl true):=by
 obtain⟨f,e,_⟩:=sT ns hn 100 (by decide);obtain⟨xs,cs,l1,l2,ed'⟩:=pT f;refine gK rfl ?_;refine(ay (cM ((jw (x:=.lst (iL ns)) (y:=.int 100) rfl rfl).trans e))).trans ?_;refine(ay (ε':=[.dat (.lst (iL ns)),.dat (.lst (iL (bX f 100))),.dat (.lst (xs.map hD)),.dat (.lst (iL cs)),.un,.un,.un,.un,.un,.un,.un]) ?_).trans ?_
 ·unfold pb
  rw[pI (x:=.lst (iL (bX f 100))) rfl,ed'];rfl
 refine(ay (ε':=[.dat (.lst (iL ns)),.dat (.lst (iL (bX f 100))),.dat (.lst (xs.map hD)),.dat (.lst (iL cs)),.own (xs.map hD),.un,.un,.un,.un,.un,.un]) rfl).trans ?_;refine(ay (ε':=[.dat (.lst (iL ns)),.dat (.lst (iL (bX f 100))),.dat (.lst (xs.map hD)),.dat (.lst (iL cs)),.own (xs.map hD),.own (iL cs),.un,.un,.un,.un,.un]) rfl).trans ?_;unfold oR;exact if_pos ⟨_,_,_,_,rfl,qS xs cs l1 l2⟩
end Lw
open PySem PySem.W PyProof.Rows
namespace PySem.W.Fast
theorem tw11241849600726531039:True:=trivial
theorem tw395746178269926367:True:=trivial
theorem tw3055564801380654911:True:=trivial
theorem tw14966895898404673279:True:=trivial
theorem tw16719614847824345759:True:=trivial
theorem tw12333976021904733855:True:=trivial
theorem tw14158344719992847967:True:=trivial
theorem tw16345220649794584159:True:=trivial
theorem tw14059387900217359807:True:=trivial
theorem tw4124762129655174559:True:=trivial
theorem tw16420041888488823103:True:=trivial
theorem tw11373782529197944127:True:=trivial
theorem tw5891175166955965695:True:=trivial
theorem tw2356027480524715167:True:=trivial
theorem tw6095705011467327647:True:=trivial
theorem tw17778629723519135807:True:=trivial
theorem tw10772587383987716159:True:=trivial
theorem tw16991502121925281694:True:=trivial
theorem tw6363469303470644094:True:=trivial
theorem tw1862980043791164222:True:=trivial
theorem tw10562605981733959422:True:=trivial
theorem tw4550986036354050782:True:=trivial
theorem tw388110226570573502:True:=trivial
theorem tw9013971050349123262:True:=trivial
theorem tw370749181293746846:True:=trivial
theorem tw13871890135144682142:True:=trivial
theorem tw9259980228160847454:True:=trivial
theorem tw15991581334146735710:True:=trivial
theorem tw7334749264735724094:True:=trivial
theorem tw4475931202833478142:True:=trivial
theorem tw9804450570306081278:True:=trivial
theorem tw12163407887109401086:True:=trivial
theorem tw15255920878965533054:True:=trivial
theorem tw6495841330392678718:True:=trivial
theorem tw9508689762164426046:True:=trivial
theorem tw6056268702123730142:True:=trivial
theorem tw2050852009124810942:True:=trivial
theorem tw16950156592701881534:True:=trivial
theorem tw8445501250864789630:True:=trivial
theorem tw357591576644135869:True:=trivial
theorem tw10098100749970471773:True:=trivial
theorem tw965104635079013213:True:=trivial
theorem tw17807893554032538429:True:=trivial
theorem tw5552569525544999741:True:=trivial
theorem tw6618496459521500989:True:=trivial
theorem tw9001680878764805853:True:=trivial
theorem tw9902984867436939741:True:=trivial
theorem tw11054800263661985213:True:=trivial
theorem tw3877621403049749885:True:=trivial
theorem tw11548954007017613629:True:=trivial
theorem tw13055525041025179965:True:=trivial
theorem tw7216599329349654717:True:=trivial
theorem tw13386967405284341949:True:=trivial
theorem tw17433053384530713757:True:=trivial
theorem tw12343928394551906365:True:=trivial
theorem tw11754200852624540668:True:=trivial
theorem tw8848386600758339548:True:=trivial
theorem tw1314449301131145020:True:=trivial
theorem tw6664276409161220924:True:=trivial
theorem tw12871202025542679260:True:=trivial
theorem tw12883080874911703740:True:=trivial
theorem tw3857686779123966524:True:=trivial
theorem tw16494697388432211324:True:=trivial
theorem tw4254588415658200316:True:=trivial
theorem tw15916485677692549180:True:=trivial
theorem tw9510633081225367580:True:=trivial
theorem tw13841891386903115739:True:=trivial
theorem tw4692238590351000507:True:=trivial
theorem tw8924173213640194971:True:=trivial
theorem tw5843202924428550043:True:=trivial
theorem tw16805803689381359323:True:=trivial
theorem tw14667461057155296987:True:=trivial
theorem tw15382180159605804667:True:=trivial
theorem tw4202725184615846491:True:=trivial
theorem tw13704926713527967163:True:=trivial
theorem tw6641342788106721691:True:=trivial
theorem tw4489824463281816923:True:=trivial
theorem tw16772087693781827899:True:=trivial
theorem tw5577181852675036443:True:=trivial
theorem tw1606014041023885499:True:=trivial
theorem tw10325143868948738075:True:=trivial
theorem tw16191810059959806938:True:=trivial
theorem tw17041897630080988058:True:=trivial
theorem tw15169607717209702266:True:=trivial
theorem tw17065100480576268090:True:=trivial
theorem tw3905419270374102842:True:=trivial
theorem tw3022242842867618458:True:=trivial
theorem tw1629172346221215354:True:=trivial
theorem tw17570012177310309978:True:=trivial
theorem tw16429893086769899066:True:=trivial
theorem tw12263937827368786394:True:=trivial
theorem tw18036210098450417114:True:=trivial
theorem tw15029198159362911482:True:=trivial
theorem tw15499688200264841402:True:=trivial
theorem tw17738486020615464122:True:=trivial
theorem tw3835658763441571002:True:=trivial
theorem tw17545343490487047226:True:=trivial
theorem tw10929649322096012346:True:=trivial
theorem tw2571008240756005849:True:=trivial
theorem tw9814812176797454169:True:=trivial
theorem tw13504801340747554425:True:=trivial
theorem tw9363118527341090329:True:=trivial
theorem tw11584303414543310265:True:=trivial
theorem tw2235555952068166073:True:=trivial
theorem tw2005047656684927385:True:=trivial
theorem tw2274695183057296761:True:=trivial
theorem tw6336217227063667001:True:=trivial
theorem tw733140774991474937:True:=trivial
theorem tw12147298558360051897:True:=trivial
theorem tw10751458510909590713:True:=trivial
theorem tw16131769009399361657:True:=trivial
theorem tw14139679448512504953:True:=trivial
theorem tw16000546117576308728:True:=trivial
theorem tw4827062142230178808:True:=trivial
theorem tw3189230380600797176:True:=trivial
theorem tw14400683549708610456:True:=trivial
theorem tw14549136813441927000:True:=trivial
theorem tw875543651920905976:True:=trivial
theorem tw18039819835625490072:True:=trivial
theorem tw17927416573481751192:True:=trivial
theorem tw10110027652532588152:True:=trivial
theorem tw10555929549109497400:True:=trivial
theorem tw769817770656157208:True:=trivial
theorem tw11844300040232259096:True:=trivial
theorem tw3616335609698508280:True:=trivial
theorem tw11632669799036181912:True:=trivial
theorem tw13234731426359364952:True:=trivial
theorem tw2754268793247247672:True:=trivial
theorem tw7521713885600251160:True:=trivial
theorem tw16397539489229612887:True:=trivial
theorem tw3256479155514671959:True:=trivial
theorem tw17334812421169655511:True:=trivial
theorem tw4172590911314434679:True:=trivial
theorem tw558168603364166199:True:=trivial
theorem tw2103572537615890807:True:=trivial
theorem tw10080185131191123319:True:=trivial
theorem tw9984195791790238967:True:=trivial
theorem tw5210200915037237463:True:=trivial
theorem tw5695310736364419255:True:=trivial
theorem tw14410969098339120183:True:=trivial
theorem tw2045427111316481014:True:=trivial
theorem tw15562261099802450934:True:=trivial
theorem tw17229067005913582550:True:=trivial
theorem tw11987860979620872022:True:=trivial
theorem tw14954760862491756310:True:=trivial
theorem tw4155736509176446678:True:=trivial
theorem tw11636540390017510966:True:=trivial
theorem tw16348560944212085078:True:=trivial
theorem tw9179794635765271862:True:=trivial
theorem tw11801997237676250326:True:=trivial
theorem tw17956010350958147766:True:=trivial
theorem tw9229587653439800374:True:=trivial
theorem tw7994589293781036054:True:=trivial
theorem tw16282066743259619253:True:=trivial
theorem tw16958469325595652021:True:=trivial
theorem tw7245354765010629525:True:=trivial
theorem tw8075711584057025333:True:=trivial
theorem tw9767885694347179797:True:=trivial
theorem tw2391553931594819317:True:=trivial
theorem tw3678687697197278965:True:=trivial
theorem tw5074139412469547637:True:=trivial
theorem tw14305328730978397749:True:=trivial
theorem tw4062922381635283445:True:=trivial
theorem tw14043363082804110741:True:=trivial
theorem tw5574960942207306997:True:=trivial
theorem tw389605007239726293:True:=trivial
theorem tw15852573989595119733:True:=trivial
theorem tw8960175107008319541:True:=trivial
theorem tw12732226371168818164:True:=trivial
theorem tw11223875872829917140:True:=trivial
theorem tw6995551515901843316:True:=trivial
theorem tw10239131243991212916:True:=trivial
theorem tw12551498610592483188:True:=trivial
theorem tw2396900989959348052:True:=trivial
theorem tw18101881983683975956:True:=trivial
theorem tw1034047622155196116:True:=trivial
theorem tw2655368841336378068:True:=trivial
theorem tw564390361581265492:True:=trivial
theorem tw10972451677954185812:True:=trivial
theorem tw12281674232356708820:True:=trivial
theorem tw7926005598077713844:True:=trivial
theorem tw15186039883745766772:True:=trivial
theorem tw5089932615545351508:True:=trivial
theorem tw14338759020774170964:True:=trivial
theorem tw12771473322067782868:True:=trivial
theorem tw14707325317957220532:True:=trivial
theorem tw5037831502038929588:True:=trivial
theorem tw13583798214933291124:True:=trivial
theorem tw6637054010225609812:True:=trivial
theorem tw3272747480432533556:True:=trivial
theorem tw7618156037351745523:True:=trivial
theorem tw18368436176924547059:True:=trivial
theorem tw3868728677378730899:True:=trivial
theorem tw5545013675762297683:True:=trivial
theorem tw17345694809727283027:True:=trivial
theorem tw17701866505993038675:True:=trivial
theorem tw4533785150343709427:True:=trivial
theorem tw16672267917915647699:True:=trivial
theorem tw17822668153165821651:True:=trivial
theorem tw7869653792851694131:True:=trivial
theorem tw9920617058859511251:True:=trivial
theorem tw497883691030947987:True:=trivial
theorem tw9785505881297958995:True:=trivial
theorem tw3350546753726369682:True:=trivial
theorem tw5061023233865559730:True:=trivial
theorem tw10588637660186212818:True:=trivial
theorem tw12328227223888843922:True:=trivial
theorem tw163819982649477266:True:=trivial
theorem tw16547324942188357746:True:=trivial
theorem tw7977960137440098386:True:=trivial
theorem tw14015112381395650610:True:=trivial
theorem tw1254599880395697009:True:=trivial
theorem tw14052211801983434513:True:=trivial
theorem tw765955236076714769:True:=trivial
theorem tw5017361983914769105:True:=trivial
theorem tw550616802739545809:True:=trivial
theorem tw1471605321224910417:True:=trivial
theorem tw10464943951849913841:True:=trivial
theorem tw17875386606629432753:True:=trivial
theorem tw11909685780550753649:True:=trivial
theorem tw8040134727912965457:True:=trivial
theorem tw17905454902464937233:True:=trivial
theorem tw16374578657892579601:True:=trivial
theorem tw14626833736290466865:True:=trivial
theorem tw7898397533143521297:True:=trivial
theorem tw4690244557072191505:True:=trivial
theorem tw6065449012592066512:True:=trivial
theorem tw9503117630552546256:True:=trivial
theorem tw16221941441558693680:True:=trivial
theorem tw15350831702170749744:True:=trivial
theorem tw8244678210354284112:True:=trivial
theorem tw8900232724407990832:True:=trivial
theorem tw8303981972265776624:True:=trivial
theorem tw18307435908936564176:True:=trivial
theorem tw17127387311004582352:True:=trivial
theorem tw3808067841266654640:True:=trivial
theorem tw1114057483002158256:True:=trivial
theorem tw871398482305186928:True:=trivial
theorem tw3600817696083979215:True:=trivial
theorem tw9465842222298253231:True:=trivial
theorem tw704711438627123087:True:=trivial
theorem tw1153537336956237679:True:=trivial
theorem tw16032155827234247535:True:=trivial
theorem tw15290776554598885199:True:=trivial
theorem tw17566691287832685359:True:=trivial
theorem tw14590581392390747887:True:=trivial
theorem tw16452597183020340975:True:=trivial
theorem tw1546468044019430031:True:=trivial
theorem tw4926969499037855375:True:=trivial
theorem tw16313813802561267343:True:=trivial
theorem tw1424294420475576879:True:=trivial
theorem tw13379388296983788047:True:=trivial
theorem tw7781441073330221551:True:=trivial
theorem tw11055270686621535663:True:=trivial
theorem tw8392715190209489231:True:=trivial
theorem tw8895462473569314127:True:=trivial
theorem tw4588540735482703087:True:=trivial
theorem tw285199079126495439:True:=trivial
theorem tw7091501182337766575:True:=trivial
theorem tw2033188154533484623:True:=trivial
theorem tw127339101803452495:True:=trivial
theorem tw6048626732566941775:True:=trivial
theorem tw14206166514009250863:True:=trivial
theorem tw16798538102626291694:True:=trivial
theorem tw3004889972471518094:True:=trivial
theorem tw12607121693236282254:True:=trivial
theorem tw10226101338389668590:True:=trivial
theorem tw14140467167973072622:True:=trivial
theorem tw7058571021865465582:True:=trivial
theorem tw16103523086282921582:True:=trivial
theorem tw18238924927322053198:True:=trivial
theorem tw8223975183648898542:True:=trivial
theorem tw1797476136827597198:True:=trivial
theorem tw14507014982370037134:True:=trivial
theorem tw12718239361457378670:True:=trivial
theorem tw6853075750396085582:True:=trivial
theorem tw4402393915656705326:True:=trivial
theorem tw2612862316801045774:True:=trivial
theorem tw14472769344042170574:True:=trivial
theorem tw2014345376517681294:True:=trivial
theorem tw4478309315817447534:True:=trivial
theorem tw7219398582961913934:True:=trivial
theorem tw2440218529394499662:True:=trivial
theorem tw8617563537660493870:True:=trivial
theorem tw18372113687568221230:True:=trivial
theorem tw17173983666009111501:True:=trivial
theorem tw3928176365791051661:True:=trivial
theorem tw13928864018498117485:True:=trivial
theorem tw46901899209359085:True:=trivial
theorem tw13983513794286590669:True:=trivial
theorem tw15170091967861110157:True:=trivial
theorem tw4294681410189622637:True:=trivial
theorem tw10195055466260311341:True:=trivial
theorem tw5836441771618912365:True:=trivial
theorem tw5100985476399117389:True:=trivial
theorem tw5192047783918169133:True:=trivial
theorem tw9592378078539256877:True:=trivial
theorem tw13669483978005970957:True:=trivial
theorem tw5968986647746290572:True:=trivial
theorem tw18067974668856096460:True:=trivial
theorem tw9601558825382836588:True:=trivial
theorem tw379833727033373964:True:=trivial
theorem tw8017318805744136428:True:=trivial
theorem tw9292777407354854444:True:=trivial
theorem tw16483638779122580492:True:=trivial
theorem tw15989406332253126603:True:=trivial
theorem tw11986359535103675339:True:=trivial
theorem tw16294186885255269195:True:=trivial
theorem tw4059799464879080139:True:=trivial
theorem tw18078334026486599307:True:=trivial
theorem tw12254007253030801003:True:=trivial
theorem tw7385858245147808267:True:=trivial
theorem tw5864370283205846443:True:=trivial
theorem tw14766717684837711147:True:=trivial
theorem tw3871938021940650219:True:=trivial
theorem tw16256269155761223819:True:=trivial
theorem tw13815507928353207403:True:=trivial
theorem tw2711038051384676330:True:=trivial
theorem tw13854198035554248682:True:=trivial
theorem tw14071634404852522954:True:=trivial
theorem tw9123035873322774442:True:=trivial
theorem tw16086646968963660682:True:=trivial
theorem tw16067063949484500778:True:=trivial
theorem tw12302146434206726890:True:=trivial
theorem tw13412696044856915434:True:=trivial
theorem tw3838482689259485546:True:=trivial
theorem tw555183361183723818:True:=trivial
theorem tw17572413467364465898:True:=trivial
theorem tw13756713288872668298:True:=trivial
theorem tw16951142272426418314:True:=trivial
theorem tw12110417132407064714:True:=trivial
theorem tw16369645483612773450:True:=trivial
theorem tw1084959272023814186:True:=trivial
theorem tw12629706730721561610:True:=trivial
theorem tw18286502674534813545:True:=trivial
theorem tw4214068459871233833:True:=trivial
theorem tw13845695862189153065:True:=trivial
theorem tw11408457566240343785:True:=trivial
theorem tw6690310917015716553:True:=trivial
theorem tw16371448516892595817:True:=trivial
theorem tw9587663854066661737:True:=trivial
theorem tw1780064931488632137:True:=trivial
theorem tw2473517705144100105:True:=trivial
theorem tw3714540128280402185:True:=trivial
theorem tw245460380889538793:True:=trivial
theorem tw14011752755119198441:True:=trivial
theorem tw17280484675690891433:True:=trivial
theorem tw5548997460363415657:True:=trivial
theorem tw3295397235346493513:True:=trivial
theorem tw2770708832205365289:True:=trivial
theorem tw9194833991853036585:True:=trivial
theorem tw7540979815054317609:True:=trivial
theorem tw17509741680737654760:True:=trivial
theorem tw11690789922072516552:True:=trivial
theorem tw13215147737066196808:True:=trivial
theorem tw2698132100015866696:True:=trivial
theorem tw12302496013263608584:True:=trivial
theorem tw666817226652876520:True:=trivial
theorem tw14034181640491383496:True:=trivial
theorem tw16282293910182375112:True:=trivial
theorem tw11801184096113236680:True:=trivial
theorem tw7940440845668468392:True:=trivial
theorem tw11694466403698748072:True:=trivial
theorem tw4529839387373258376:True:=trivial
theorem tw16224378155770094120:True:=trivial
theorem tw13941033245497355720:True:=trivial
theorem tw9339143811079462312:True:=trivial
theorem tw9581005519647482280:True:=trivial
theorem tw3442219937638435176:True:=trivial
theorem tw18168011606147465576:True:=trivial
theorem tw450506513415225608:True:=trivial
theorem tw6007069955609469128:True:=trivial
theorem tw17072999535678926984:True:=trivial
theorem tw5230230139053739112:True:=trivial
theorem tw13398930924245379112:True:=trivial
theorem tw11864797489592582087:True:=trivial
theorem tw9681580439795589031:True:=trivial
theorem tw16807432927118441383:True:=trivial
theorem tw6477544956296333031:True:=trivial
theorem tw3854684976782663335:True:=trivial
theorem tw3149133948497019495:True:=trivial
theorem tw7349044478204027495:True:=trivial
theorem tw7036722676921845319:True:=trivial
theorem tw9223715688945886759:True:=trivial
theorem tw11531971665799610887:True:=trivial
theorem tw11565536961252801991:True:=trivial
theorem tw17845385925245437223:True:=trivial
theorem tw13773899076353525895:True:=trivial
theorem tw4110164313313246247:True:=trivial
theorem tw9717724969194154982:True:=trivial
theorem tw13114729445267701670:True:=trivial
theorem tw11300371179947745158:True:=trivial
theorem tw4440103643392803718:True:=trivial
theorem tw7210114868652493542:True:=trivial
theorem tw8022877789012614726:True:=trivial
theorem tw11082002185706257958:True:=trivial
theorem tw5256373907141506566:True:=trivial
theorem tw16444818174502968806:True:=trivial
theorem tw1219976415332369894:True:=trivial
theorem tw2448576606902899078:True:=trivial
theorem tw7700108006787131782:True:=trivial
theorem tw17235930202032765286:True:=trivial
theorem tw5785258089021565158:True:=trivial
theorem tw11111598954057247717:True:=trivial
theorem tw335840340106045381:True:=trivial
theorem tw14221804011338682309:True:=trivial
theorem tw5365986044835025797:True:=trivial
theorem tw11671751352815154981:True:=trivial
theorem tw12878546426711085861:True:=trivial
theorem tw9152433899593277157:True:=trivial
theorem tw3042260218871250629:True:=trivial
theorem tw10660168610332610149:True:=trivial
theorem tw12623202781360343621:True:=trivial
theorem tw7943231396705567301:True:=trivial
theorem tw8730705388532318757:True:=trivial
theorem tw7482657890655336933:True:=trivial
theorem tw10139701217240316037:True:=trivial
theorem tw5007707341843313733:True:=trivial
theorem tw5647601982664373253:True:=trivial
theorem tw942728731355979781:True:=trivial
theorem tw13893472253089385412:True:=trivial
theorem tw2809394555774612356:True:=trivial
theorem tw13112684976037870436:True:=trivial
theorem tw2295181323754229540:True:=trivial
theorem tw8024922703088812740:True:=trivial
theorem tw11509080000300177060:True:=trivial
theorem tw16204745834053001796:True:=trivial
theorem tw16466449384005703140:True:=trivial
theorem tw11006754876094694852:True:=trivial
theorem tw15093238735019621828:True:=trivial
theorem tw3611358736686686564:True:=trivial
theorem tw3434707433978109252:True:=trivial
theorem tw11149199976782404772:True:=trivial
theorem tw17589701795123758148:True:=trivial
theorem tw15665153441404182532:True:=trivial
theorem tw4748990818024472547:True:=trivial
theorem tw8375819239930007523:True:=trivial
theorem tw12844256402499564451:True:=trivial
theorem tw15385052819297725347:True:=trivial
theorem tw17119895541572988771:True:=trivial
theorem tw15918495929567389475:True:=trivial
theorem tw7027023274170649347:True:=trivial
theorem tw6299729476684870371:True:=trivial
theorem tw11531964414688152291:True:=trivial
theorem tw11968760473118879459:True:=trivial
theorem tw3531640717614481059:True:=trivial
theorem tw3133866602841065091:True:=trivial
theorem tw6711587696179593795:True:=trivial
theorem tw8383889741869099523:True:=trivial
theorem tw11247834560482625859:True:=trivial
theorem tw14982674709781826851:True:=trivial
theorem tw13290314912446089507:True:=trivial
theorem tw6160797326973255875:True:=trivial
theorem tw6880763992446225539:True:=trivial
theorem tw10800140196080419939:True:=trivial
theorem tw8085119532403504195:True:=trivial
theorem tw10572459810264452163:True:=trivial
theorem tw8409518380665516930:True:=trivial
theorem tw16706233300052607842:True:=trivial
theorem tw4526205581080848130:True:=trivial
theorem tw643964395910275810:True:=trivial
theorem tw5713301363618840226:True:=trivial
theorem tw6446569240859793026:True:=trivial
theorem tw3701608484038036002:True:=trivial
theorem tw15747332974427952578:True:=trivial
theorem tw3127844387569055074:True:=trivial
theorem tw5459947674433085698:True:=trivial
theorem tw16775049149693627650:True:=trivial
theorem tw14325657378810662082:True:=trivial
theorem tw9444107892794510498:True:=trivial
theorem tw3613211264125115554:True:=trivial
theorem tw8444309903739666562:True:=trivial
theorem tw1839103180506165282:True:=trivial
theorem tw3263191709043744609:True:=trivial
theorem tw12383643577900440225:True:=trivial
theorem tw1731469209732316737:True:=trivial
theorem tw3246723028975739457:True:=trivial
theorem tw1534706282807248449:True:=trivial
theorem tw12666603806105456161:True:=trivial
theorem tw12359750408056360481:True:=trivial
theorem tw14555391667574370817:True:=trivial
theorem tw15935167362714951169:True:=trivial
theorem tw12274338251862182369:True:=trivial
theorem tw13891885023832496449:True:=trivial
theorem tw1606003233869194529:True:=trivial
theorem tw4768838031902047457:True:=trivial
theorem tw12568478290732037249:True:=trivial
theorem tw16936474108841745505:True:=trivial
theorem tw5702494451239592033:True:=trivial
theorem tw17098133554486965313:True:=trivial
theorem tw3650529889203850273:True:=trivial
theorem tw7420305401144844289:True:=trivial
theorem tw17568521615513335712:True:=trivial
theorem tw11281368884990350976:True:=trivial
theorem tw2993009448007081536:True:=trivial
theorem tw335311546252379680:True:=trivial
theorem tw3890051274474415552:True:=trivial
theorem tw10120430746605437376:True:=trivial
theorem tw3041809172076641728:True:=trivial
theorem tw16725758654890458400:True:=trivial
theorem tw15265240993193294080:True:=trivial
theorem tw5714856766422529280:True:=trivial
theorem tw15608636805936623872:True:=trivial
theorem tw17555247887693932704:True:=trivial
theorem tw17958195448007531648:True:=trivial
theorem tw11378713210364068960:True:=trivial
theorem tw13397173819684774976:True:=trivial
theorem tw15607470995306629152:True:=trivial
theorem tw3559609758654819328:True:=trivial
theorem tw13442459271431200768:True:=trivial
theorem tw1370132310017415168:True:=trivial
end PySem.W.Fast
def PySem.W.Fast.tw16235141604407198827 : PySem.Program := PySem.Challenge.pw_ballastbook_k42_books_opened
theorem PySem.W.Fast.te16235141604407198827 : PySem.Challenge.pw_ballastbook_k42_books_opened = PySem.W.Fast.tw16235141604407198827 := rfl
set_option maxRecDepth 100000 in
set_option maxHeartbeats 0 in
theorem PySem.Challenge.cw_ballastbook_k42_books_opened_holds : PySem.Challenge.rw_ballastbook_k42_books_opened.Holds := by
 w_on;o_law;k_head;(case hw=>w_witness2)
 k_fill
 refine Lw.walk (l:=PySem.Challenge.rw_ballastbook_k42_books_opened) rfl rfl rfl (λw h Y=>PySem.W.kIn_of Y) Lw.worth ?F
 case F=>
  intro w mg h KX G;refine' Lw.tf ?h0 ?h1 ?h2 ?h3 ?h4 ?h5 ?h6 ?h7 ?h8 ?h9 ?h10 ?h11 ?h12 ?h13 ?h14 ?h15 ?h16 ?h17 ?h18 ?h19 ?h20 ?h21 ?h22 ?h23 ?h24 ?h25 ?h26 ?h27 ?h28 ?h29 ?h30 ?h31 ?h32 ?h33 ?h34 ?h35 ?h36
  case h0=>
   refine' Lw.uC KX G ?h37 ?h38 ?h39 ?h40 ?h41 ?h42 ?h43 ?h44 ?h45 ?h46 ?h47 ?h48 ?h49 ?h50 ?h51 ?h52 ?h53
   (case h37=>k_is)
   (case h38=>k_is)
   (case h39=>k_is)
   (case h40=>k_is)
   (case h41=>k_is)
   (case h42=>k_is)
   (case h43=>k_is)
   (case h44=>k_is)
   (case h45=>k_is)
   (case h46=>k_is)
   (case h47=>k_is)
   (case h48=>k_is)
   (case h49=>k_is)
   (case h50=>k_is)
   (case h51=>k_is)
   (case h52=>k_is)
   (case h53=>k_is)
  case h1=>
   refine' PySem.W.mg_none_of KX G ?h54
   (case h54=>k_is)
  case h2=>
   refine' PySem.W.mg_of KX G ?h55
   (case h55=>k_is)
  (case h3=>k_is)
  (case h4=>k_is)
  case h5=>
   refine' Lw.uJ ?h56 ?h57 ?h58 ?h59 ?h60 ?h61 ?h62 ?h63 ?h64 ?h65 ?h66 ?h67
   (case h56=>k_is)
   (case h57=>k_is)
   (case h58=>k_is)
   (case h59=>k_is)
   (case h60=>k_is)
   (case h61=>k_is)
   (case h62=>k_is)
   (case h63=>k_is)
   (case h64=>k_is)
   (case h65=>k_is)
   (case h66=>k_is)
   (case h67=>k_is)
  (case h6=>k_is)
  (case h7=>k_is)
  (case h8=>k_is)
  (case h9=>k_is)
  (case h10=>k_is)
  case h11=>
   refine' Lw.ku ?h68 ?h69 ?h70 ?h71 ?h72
   (case h68=>k_is)
   (case h69=>k_is)
   (case h70=>k_is)
   (case h71=>k_is)
   case h72=>intro _ _ _ _ _ _;exact Dn.uD λ_ _ _=>rfl
  case h12=>
   refine' Lw.ku ?h73 ?h74 ?h75 ?h76 ?h77
   (case h73=>k_is)
   (case h74=>k_is)
   (case h75=>k_is)
   (case h76=>k_is)
   case h77=>intro _ _ _ _ _ _;exact Dn.pB λ_=>rfl
  case h13=>
   refine' Lw.ku ?h78 ?h79 ?h80 ?h81 ?h82
   (case h78=>k_is)
   (case h79=>k_is)
   (case h80=>k_is)
   (case h81=>k_is)
   case h82=>intro _ _ _ _ _ _;exact Dn.pB λ_=>rfl
  case h14=>
   refine' Lw.ku ?h83 ?h84 ?h85 ?h86 ?h87
   (case h83=>k_is)
   (case h84=>k_is)
   (case h85=>k_is)
   (case h86=>k_is)
   case h87=>intro _ _ _ _ _ _;exact Dn.pB λ_=>rfl
  case h15=>
   refine' Lw.ku ?h88 ?h89 ?h90 ?h91 ?h92
   (case h88=>k_is)
   (case h89=>k_is)
   (case h90=>k_is)
   (case h91=>k_is)
   case h92=>intro _ _ _ _ _ _;exact Dn.pB λ_=>rfl
  case h16=>
   refine' Dn.cO (st:=Dn.mth (Lw.top 14)) (qual:="BookError.__init__") KX G rfl ?h93 ⟨rfl,rfl,rfl,by decide +kernel,rfl,by decide +kernel,by decide +kernel⟩ rfl rfl ?h94 ?h95 Lw.hb1 Lw.rf1 ?h96 ?h97 ?h98 ?h99 ?h100 ?h101 ?h102
   (case h94=>k_is)
   (case h95=>k_is)
   (case h96=>k_is)
   (case h97=>k_is)
   (case h98=>k_is)
   (case h99=>k_is)
   (case h100=>k_is)
   (case h101=>k_is)
   (case h102=>k_is)
   case h93=>intro _ _ _ _ _ _ _ _ hh;exact PySem.BindsTo.of_defaults rfl hh rfl rfl rfl
  case h17=>
   refine' Lw.eO ?h103 ?h104 ?h105 ?h106
   case h103=>
    refine' Dn.cO (st:=Dn.mth (Lw.top 30)) (qual:="Full.__init__") KX G rfl ?h107 ⟨rfl,rfl,rfl,by decide +kernel,rfl,by decide +kernel,by decide +kernel⟩ rfl rfl ?h108 ?h109 Lw.hb2 Lw.rf2 ?h110 ?h111 ?h112 ?h113 ?h114 ?h115 ?h116
    (case h108=>k_is)
    (case h109=>k_is)
    (case h110=>k_is)
    (case h111=>k_is)
    (case h112=>k_is)
    (case h113=>k_is)
    (case h114=>k_is)
    (case h115=>k_is)
    (case h116=>k_is)
    case h107=>intro _ _ _ _ _ _ _ _ hh;exact PySem.BindsTo.of_defaults rfl hh rfl rfl rfl
   (case h104=>k_is)
   (case h105=>k_is)
   (case h106=>k_is)
  case h18=>
   refine' Lw.eO ?h117 ?h118 ?h119 ?h120
   case h117=>
    refine' Dn.cO (st:=Dn.mth (Lw.top 20)) (qual:="BadPlace.__init__") KX G rfl ?h121 ⟨rfl,rfl,rfl,by decide +kernel,rfl,by decide +kernel,by decide +kernel⟩ rfl rfl ?h122 ?h123 Lw.hb2 Lw.rf2 ?h124 ?h125 ?h126 ?h127 ?h128 ?h129 ?h130
    (case h122=>k_is)
    (case h123=>k_is)
    (case h124=>k_is)
    (case h125=>k_is)
    (case h126=>k_is)
    (case h127=>k_is)
    (case h128=>k_is)
    (case h129=>k_is)
    (case h130=>k_is)
    case h121=>intro _ _ _ _ _ _ _ _ hh;exact PySem.BindsTo.of_defaults rfl hh rfl rfl rfl
   (case h118=>k_is)
   (case h119=>k_is)
   (case h120=>k_is)
  case h19=>
   refine' Lw.eO ?h131 ?h132 ?h133 ?h134
   case h131=>
    refine' Dn.cO (st:=Dn.mth (Lw.top 21)) (qual:="BadHeight.__init__") KX G rfl ?h135 ⟨rfl,rfl,rfl,by decide +kernel,rfl,by decide +kernel,by decide +kernel⟩ rfl rfl ?h136 ?h137 Lw.hb2 Lw.rf2 ?h138 ?h139 ?h140 ?h141 ?h142 ?h143 ?h144
    (case h136=>k_is)
    (case h137=>k_is)
    (case h138=>k_is)
    (case h139=>k_is)
    (case h140=>k_is)
    (case h141=>k_is)
    (case h142=>k_is)
    (case h143=>k_is)
    (case h144=>k_is)
    case h135=>intro _ _ _ _ _ _ _ _ hh;exact PySem.BindsTo.of_defaults rfl hh rfl rfl rfl
   (case h132=>k_is)
   (case h133=>k_is)
   (case h134=>k_is)
  case h20=>
   refine' Lw.eO ?h145 ?h146 ?h147 ?h148
   case h145=>
    refine' Dn.cO (st:=Dn.mth (Lw.top 17)) (qual:="BadHour.__init__") KX G rfl ?h149 ⟨rfl,rfl,rfl,by decide +kernel,rfl,by decide +kernel,by decide +kernel⟩ rfl rfl ?h150 ?h151 Lw.hb2 Lw.rf2 ?h152 ?h153 ?h154 ?h155 ?h156 ?h157 ?h158
    (case h150=>k_is)
    (case h151=>k_is)
    (case h152=>k_is)
    (case h153=>k_is)
    (case h154=>k_is)
    (case h155=>k_is)
    (case h156=>k_is)
    (case h157=>k_is)
    (case h158=>k_is)
    case h149=>intro _ _ _ _ _ _ _ _ hh;exact PySem.BindsTo.of_defaults rfl hh rfl rfl rfl
   (case h146=>k_is)
   (case h147=>k_is)
   (case h148=>k_is)
  case h21=>
   refine' Lw.eO ?h159 ?h160 ?h161 ?h162
   case h159=>
    refine' Dn.cO (st:=Dn.mth (Lw.top 25)) (qual:="Twice.__init__") KX G rfl ?h163 ⟨rfl,rfl,rfl,by decide +kernel,rfl,by decide +kernel,by decide +kernel⟩ rfl rfl ?h164 ?h165 Lw.hb2 Lw.rf2 ?h166 ?h167 ?h168 ?h169 ?h170 ?h171 ?h172
    (case h164=>k_is)
    (case h165=>k_is)
    (case h166=>k_is)
    (case h167=>k_is)
    (case h168=>k_is)
    (case h169=>k_is)
    (case h170=>k_is)
    (case h171=>k_is)
    (case h172=>k_is)
    case h163=>intro _ _ _ _ _ _ _ _ hh;exact PySem.BindsTo.of_defaults rfl hh rfl rfl rfl
   (case h160=>k_is)
   (case h161=>k_is)
   (case h162=>k_is)
  case h22=>
   refine' Lw.eO ?h173 ?h174 ?h175 ?h176
   case h173=>
    refine' Dn.cO (st:=Dn.mth (Lw.top 15)) (qual:="BadName.__init__") KX G rfl ?h177 ⟨rfl,rfl,rfl,by decide +kernel,rfl,by decide +kernel,by decide +kernel⟩ rfl rfl ?h178 ?h179 Lw.hb2 Lw.rf2 ?h180 ?h181 ?h182 ?h183 ?h184 ?h185 ?h186
    (case h178=>k_is)
    (case h179=>k_is)
    (case h180=>k_is)
    (case h181=>k_is)
    (case h182=>k_is)
    (case h183=>k_is)
    (case h184=>k_is)
    (case h185=>k_is)
    (case h186=>k_is)
    case h177=>intro _ _ _ _ _ _ _ _ hh;exact PySem.BindsTo.of_defaults rfl hh rfl rfl rfl
   (case h174=>k_is)
   (case h175=>k_is)
   (case h176=>k_is)
  case h23=>
   refine' Lw.eO ?h187 ?h188 ?h189 ?h190
   case h187=>
    refine' Dn.cO (st:=Dn.mth (Lw.top 23)) (qual:="BadBox.__init__") KX G rfl ?h191 ⟨rfl,rfl,rfl,by decide +kernel,rfl,by decide +kernel,by decide +kernel⟩ rfl rfl ?h192 ?h193 Lw.hb2 Lw.rf2 ?h194 ?h195 ?h196 ?h197 ?h198 ?h199 ?h200
    (case h192=>k_is)
    (case h193=>k_is)
    (case h194=>k_is)
    (case h195=>k_is)
    (case h196=>k_is)
    (case h197=>k_is)
    (case h198=>k_is)
    (case h199=>k_is)
    (case h200=>k_is)
    case h191=>intro _ _ _ _ _ _ _ _ hh;exact PySem.BindsTo.of_defaults rfl hh rfl rfl rfl
   (case h188=>k_is)
   (case h189=>k_is)
   (case h190=>k_is)
  case h24=>
   refine' Lw.eO ?h201 ?h202 ?h203 ?h204
   case h201=>
    refine' Dn.cO (st:=Dn.mth (Lw.top 19)) (qual:="Late.__init__") KX G rfl ?h205 ⟨rfl,rfl,rfl,by decide +kernel,rfl,by decide +kernel,by decide +kernel⟩ rfl rfl ?h206 ?h207 Lw.hb2 Lw.rf2 ?h208 ?h209 ?h210 ?h211 ?h212 ?h213 ?h214
    (case h206=>k_is)
    (case h207=>k_is)
    (case h208=>k_is)
    (case h209=>k_is)
    (case h210=>k_is)
    (case h211=>k_is)
    (case h212=>k_is)
    (case h213=>k_is)
    (case h214=>k_is)
    case h205=>intro _ _ _ _ _ _ _ _ hh;exact PySem.BindsTo.of_defaults rfl hh rfl rfl rfl
   (case h202=>k_is)
   (case h203=>k_is)
   (case h204=>k_is)
  case h25=>decide
  all_goals
   apply Dn.ud KX G
   k_is
   k_is
   k_is
   k_is
   intro _ _ _ _ _ _
   first | exact Dn.pB λ_=>rfl | exact Dn.vy λ_ _=>rfl | exact Dn.uD λ_ _ _=>rfl
#print axioms PySem.Challenge.cw_ballastbook_k42_books_opened_holds
