import PyProof.Rows.All
import Wide.All
import OpenK.AllK
import Wide.FinOn
import Lean
import PyProof.EqAt
import PyProof.EqKinds
import PyProof.TupleCall
import PyProof.NeKinds
import PySem.Challenge.RW_ballastbook_k16_all_states_reached
set_option Elab.async false
set_option genSizeOf false
set_option genInjectivity false
set_option linter.all false
set_option maxRecDepth 100000
set_option maxHeartbeats 4100000
namespace L2
open PySem PySem.Spec PyProof.Rows
noncomputable abbrev Key:=Sum Int Str
noncomputable def l8:Key->Value->Bool
 |.inl k,v=>Value.isInt k v
 |.inr x,v=>Value.isStrOf x v
noncomputable def Di(w:World):Key->Int
 |.inl k=>hashInt k
 |.inr x=>hashStr w x
theorem bP:∀{k:Key} {v:Value},l8 k v=true->(∃i t,k=Sum.inl i/\v=Value.int i t)\/(∃x t,k=Sum.inr x/\v=Value.str x t)
 |.inl i,v,h=>by
  obtain⟨t,e⟩:=Value.isInt_shape (k:=i) (v:=v) h;exact .inl ⟨i,t,rfl,e⟩
 |.inr x,v,h=>by
  obtain⟨t,e⟩:=Value.isStrOf_shape (x:=x) (v:=v) h;exact .inr ⟨x,t,rfl,e⟩
theorem sD(i:Int)(t:Tok):l8 (.inl i) (.int i t)=true:=by simp[l8,Value.isInt]
theorem tF(x:Str)(t:Tok):l8 (.inr x) (.str x t)=true:=by simp[l8,Value.isStrOf]
theorem zI(a b:Int):decide ((Sum.inl a:Key)=Sum.inl b)=(a==b):=by
 by_cases e:a=b
 ·subst e;simp
 ·have h:¬ (Sum.inl a:Key)=Sum.inl b:=λq=>e (Sum.inl.inj q)
  rw[decide_eq_false h];exact(beq_eq_false_iff_ne.mpr e).symm
theorem Ao(a b:Str):decide ((Sum.inr a:Key)=Sum.inr b)=decide (a=b):=by
 by_cases e:a=b
 ·subst e;simp
 ·have h:¬ (Sum.inr a:Key)=Sum.inr b:=λq=>e (Sum.inr.inj q)
  rw[decide_eq_false h,decide_eq_false e]
theorem Aw(a:Int)(b:Str):decide ((Sum.inl a:Key)=Sum.inr b)=false:=decide_eq_false (λq=>nomatch q)
theorem AK(a:Str)(b:Int):decide ((Sum.inr a:Key)=Sum.inl b)=false:=decide_eq_false (λq=>nomatch q)
noncomputable def bK(prog:Program)(w:World):PySem.KeyKind prog w Key where
 is:=l8
 hash:=Di w
 inj:=λv a b ha hb=>by
  rcases bP ha with⟨i,t,rfl,rfl⟩ | ⟨x,t,rfl,rfl⟩
  ·rcases bP hb with⟨j,u,rfl,e⟩ | ⟨y,u,rfl,e⟩
   ·injection e with e1 _;rw[e1]
   ·exact nomatch e
  ·rcases bP hb with⟨j,u,rfl,e⟩ | ⟨y,u,rfl,e⟩
   ·exact nomatch e
   ·injection e with e1 _;rw[e1]
 byValue:=λk v h=>by
  rcases bP h with⟨i,t,rfl,rfl⟩ | ⟨x,t,rfl,rfl⟩<;>rfl
 pyHash:=λhv h=>by
  rcases bP hv with⟨i,t,rfl,rfl⟩ | ⟨x,t,rfl,rfl⟩
  ·exact wpAny_pyHash_int h
  ·exact wpAny_pyHash_str h
 eqBool:=λhu hv h=>by
  rcases bP hu with⟨i,t,rfl,rfl⟩ | ⟨x,t,rfl,rfl⟩
  ·rcases bP hv with⟨j,u,rfl,rfl⟩ | ⟨y,u,rfl,rfl⟩
   ·rw[zI] at h;exact wpAny_eqBool_int h
   ·rw[Aw] at h;exact SeqAt.EqAt.int_str i t y u _ _ _ _ h
  ·rcases bP hv with⟨j,u,rfl,rfl⟩ | ⟨y,u,rfl,rfl⟩
   ·rw[AK] at h;exact SeqAt.EqAt.str_int x t j u _ _ _ _ h
   ·rw[Ao] at h;exact wpAny_eqBool_str h
 «strs»:=λk x t v h=>by
  rcases bP h with⟨i,u,rfl,e⟩ | ⟨y,u,rfl,e⟩
  ·exact nomatch e
  ·injection e with e1 _
   subst e1;cases v<;>rfl
theorem jC(prog:Program)(w:World)(i:Int)(t:Tok):(bK prog w).is (.inl i) (.int i t)=true:=sD i t
theorem og(prog:Program)(w:World)(x:Str)(t:Tok):(bK prog w).is (.inr x) (.str x t)=true:=tF x t
set_option genInjectivity true in
inductive V where
 |non | bl (b:Bool) | int (i:Int) | str (x:Str) | byt (b:Array UInt8) | flt (b:UInt64) | ref (a:Addr) | ty (n:String)
 deriving DecidableEq
noncomputable def aY:V->Value->Prop
 |.non,u=>u=Value.none
 |.bl b,u=>u=Value.bool b
 |.int i,u=>∃t,u=Value.int i t
 |.str x,u=>∃t,u=Value.str x t
 |.byt b,u=>∃t,u=Value.bytes b t
 |.flt b,u=>∃t,u=Value.float b t
 |.ref a,u=>u=Value.ref a
 |.ty n,u=>u=Value.type n
noncomputable abbrev aV:List V->List Value->Prop:=Paired aY
theorem aV.length{xs:List V}{us:List Value}(r:aV xs us):xs.length=us.length:=Paired.length r
theorem aV.get:∀{xs:List V} {us:List Value} {i:Nat} {x:V},aV xs us->xs[i]?=some x->∃u,us[i]?=some u/\aY x u
 |_,_,_,_,.nil,e=>by simp at e
 |_,_,0,_,.cons r _,e=>by simp at e;subst e;exact⟨_,rfl,r⟩
 |_,_,i+1,x,.cons _ t,e=>by
  obtain⟨u,h1,h2⟩:=aV.get (i:=i) (x:=x) t (by simpa using e);exact⟨u,by simpa using h1,h2⟩
theorem aV.set{x:V}{u:Value}(r:aY x u):∀{xs:List V} {us:List Value} (i:Nat),aV xs us->aV (xs.set i x) (us.set i u)
 |_,_,_,.nil=>.nil
 |_,_,0,.cons _ t=>.cons r t
 |_,_,i+1,.cons q t=>.cons q (aV.set r i t)
theorem aV.append:∀{xs ys:List V} {us ws:List Value},aV xs us->aV ys ws->aV (xs++ys) (us++ws)
 |_,_,_,_,.nil,s=>s
 |_,_,_,_,.cons r t,s=>.cons r (aV.append t s)
theorem aV.take:∀{xs:List V} {us:List Value} (n:Nat),aV xs us->aV (xs.take n) (us.take n)
 |_,_,0,_=>.nil
 |_,_,_+1,.nil=>.nil
 |_,_,n+1,.cons r t=>.cons r (aV.take n t)
theorem aV.drop:∀{xs:List V} {us:List Value} (n:Nat),aV xs us->aV (xs.drop n) (us.drop n)
 |_,_,0,r=>r
 |_,_,_+1,.nil=>.nil
 |_,_,n+1,.cons _ t=>aV.drop n t
noncomputable def jU:Option V->Option Value->Prop
 |some v,some u=>aY v u
 |none,none=>True
 |_,_=>False
noncomputable def KV{κ:Type}:List (κ×V)->List (κ×Value)->Prop:=Paired λ(p:κ×V) (q:κ×Value)=>p.1=q.1/\aY p.2 q.2
noncomputable def kV:Key->V
 |.inl i=>.int i
 |.inr x=>.str x
set_option genInjectivity true in
inductive HO where
 |lst (xs:List V)
 |tup (xs:List V)
 |dK (kvs:List (Key×V)) | dT (kvs:List (List Key×V))
 |set (S:Int->Bool) (n:Nat)
 |ins (C dx:Addr) (fs:List (Str×V))
 |own (x:Addr)
 |xd (fs:List (Str×V))
 |met (f x:Addr)
 |rng (lo hi:Int)
 |frz (o:Obj) (u:HO)
 |tbl (ps:Array Value)
 |ext (φ:Heap->Prop)
noncomputable abbrev Hp:=Addr->Option HO
noncomputable def upd(H:Hp)(a:Addr)(o:HO):Hp:=λb=>if b=a then some o else H b
theorem aN{H:Hp}{a:Addr}{o:HO}:upd H a o a=some o:=by unfold upd;rw[if_pos rfl]
theorem aT{H:Hp}{a b:Addr}{o:HO}(h:b≠a):upd H a o b=H b:=by unfold upd;rw[if_neg h]
theorem aH{H:Hp}{a b:Addr}{o:HO}(h:H a=some o)(h':H b=none):a≠b:=by
 intro e;subst e;rw[h] at h';cases h'
section
variable(P:Program)(w:World)
noncomputable def bG(H:Hp)(h:Heap)(a:Addr):HO->Prop
 |.lst xs=>xs.length<=sizeLine/\∃(its:List Value) (n:Nat),aV xs its/\h.get? a=some { cls:=.type "list",data:=.seq its.toArray n }
 |.tup xs=>xs.length<=sizeLine/\∃its:List Value,aV xs its/\IsTup h a its.toArray
 |.dK kvs=>kvs.length<=sizeLine/\(a==sysModules)=false/\∃vs,KV kvs vs/\h.DictOf (bK P w) a vs
 |.dT kvs=>kvs.length<=sizeLine/\(a==sysModules)=false/\∃xs:List (List Key×Addr×Value),
   Paired (λ(p:List Key×V) (q:List Key×Addr×Value)=>p.1=q.1/\H q.2.1=some (.tup (p.1.map kV))/\aY p.2 q.2.2) kvs xs/\
   ∃o es ep,h.get? a=some o/\o.ExactDict/\o.data=.dict es ep/\es.toList=xs.map (entryOfKey (tupleKind (bK P w)))/\(xs.map (·.1)).Nodup
 |.set S n=>h.SetOf (intKind P w) a S n
 |.ins C dx fs=>H dx=some (.own a)/\fs.length<=1000/\dx≠a/\h.get? a=some (PySem.W.instObj C dx)/\
   ∃mA,h.Ns1 dx mA/\(∀f,jU (fs.lookup f) (mA f))/\PySem.Within mA (fs.map (·.1))
 |.own _=>∃o,h.get? a=some o
 |.xd fs=>∃mA,h.Ns1 a mA/\∀f,jU (fs.lookup f) (mA f)
 |.rng lo hi=>∃t u v,h.get? a=some { cls:=.type "range",data:=.fields #[.int lo t,.int hi u,.int 1 v] }
 |.frz o u=>h.get? a=some o/\bG H h a u
 |.tbl ps=>h.get? a=some { cls:=.none,data:=.fields ps }
 |.met f x=>h.get? a=some (PySem.W.methodObj (.ref f) (.ref x))
 |.ext φ=>φ h/\(∃o,h.get? a=some o)/\∀h1 h2:Heap,φ h1->(∀o,h1.get? a=some o->h2.get? a=some o)->φ h2
noncomputable def HOk(H:Hp)(h:Heap):Prop:=∀a o,H a=some o->bG P w H h a o
end
section
variable{P:Program}{w:World}{H H':Hp}{h h':Heap}{a:Addr}{o:HO}
theorem bG.lt(x:bG P w H h a o):a<h.objs.size:=by
 cases o with
 |lst xs=>obtain⟨_,_,_,_,e⟩:=x;exact Heap.lt_size e
 |tup xs=>obtain⟨_,_,_,p⟩:=x;exact p.lt
 |dK kvs=>obtain⟨_,_,_,_,o,_,_,e,_⟩:=x;exact Heap.lt_size e
 |dT kvs=>obtain⟨_,_,_,_,o,_,_,e,_⟩:=x;exact Heap.lt_size e
 |set S n=>obtain⟨o,_,_,_,e,_⟩:=x;exact Heap.lt_size e
 |ins C dx fs=>obtain⟨_,_,_,e,_⟩:=x;exact Heap.lt_size e
 |own y=>obtain⟨_,e⟩:=x;exact Heap.lt_size e
 |xd fs=>obtain⟨_,⟨_,_,_,e,_⟩,_⟩:=x;exact Heap.lt_size e
 |rng lo hi=>obtain⟨_,_,_,e⟩:=x;exact Heap.lt_size e
 |frz ob u=>obtain⟨e,_⟩:=x;exact Heap.lt_size e
 |tbl ps=>exact Heap.lt_size (show h.get? a=some _ from x)
 |met f y=>exact Heap.lt_size (show h.get? a=some _ from x)
 |ext φ=>obtain⟨_,⟨_,e⟩,_⟩:=x;exact Heap.lt_size e
theorem Paired.mapP{α β:Type}{F G:α->β->Prop}:∀{l₁:List α} {l₂:List β},Paired F l₁ l₂->(∀a b,F a b->G a b)->Paired G l₁ l₂
 |_,_,.nil,_=>.nil
 |_,_,.cons r t,f=>.cons (f _ _ r) (Paired.mapP t f)
theorem bG.stay(x:bG P w H h a o)(k:∀b u,(b=a\/H b=some (.own a))->h.get? b=some u->h'.get? b=some u)
  (ho:∀b,H b=some (.own a)->H' b=some (.own a)) (ht:∀b xs,H b=some (.tup xs)->H' b=some (.tup xs)):bG P w H' h' a o:=by
 induction o with
 |lst xs=>obtain⟨z,its,n,r,e⟩:=x;exact⟨z,its,n,r,k _ _ (.inl rfl) e⟩
 |tup xs=>obtain⟨z,its,r,ob,e,c⟩:=x;exact⟨z,its,r,ob,k _ _ (.inl rfl) e,c⟩
 |dK kvs=>obtain⟨z,y,vs,r,ob,es,ep,e,c⟩:=x;exact⟨z,y,vs,r,ob,es,ep,k _ _ (.inl rfl) e,c⟩
 |dT kvs=>
  obtain⟨z,y,xs,r,ob,es,ep,e,c⟩:=x;exact⟨z,y,xs,Paired.mapP r λp q z=>⟨z.1,ht _ _ z.2.1,z.2.2⟩,ob,es,ep,k _ _ (.inl rfl) e,c⟩
 |set S n=>obtain⟨ob,es,ep,t,e,c⟩:=x;exact⟨ob,es,ep,t,k _ _ (.inl rfl) e,c⟩
 |ins C dx fs=>
  obtain⟨d,z,ne,e,mA,⟨od,es,ep,e2,c⟩,r⟩:=x;exact⟨ho _ d,z,ne,k _ _ (.inl rfl) e,mA,⟨od,es,ep,k _ _ (.inr d) e2,c⟩,r⟩
 |own y=>obtain⟨ob,e⟩:=x;exact⟨ob,k _ _ (.inl rfl) e⟩
 |xd fs=>obtain⟨mA,⟨od,es,ep,e,c⟩,r⟩:=x;exact⟨mA,⟨od,es,ep,k _ _ (.inl rfl) e,c⟩,r⟩
 |rng lo hi=>obtain⟨t,u,v,e⟩:=x;exact⟨t,u,v,k _ _ (.inl rfl) e⟩
 |frz ob u ih=>obtain⟨e,q⟩:=x;exact⟨k _ _ (.inl rfl) e,ih q⟩
 |tbl ps=>
  have e:h.get? a=some { cls:=.none,data:=.fields ps }:=x;show h'.get? a=some { cls:=.none,data:=.fields ps };exact k a _ (.inl rfl) e
 |met f y=>
  have e:h.get? a=some (PySem.W.methodObj (.ref f) (.ref y)):=x;show h'.get? a=some (PySem.W.methodObj (.ref f) (.ref y));exact k a _ (.inl rfl) e
 |ext φ=>obtain⟨p,⟨o,e⟩,st⟩:=x;exact⟨st _ _ p λo q=>k _ _ (.inl rfl) q,⟨o,k _ _ (.inl rfl) e⟩,st⟩
theorem HOk.lt(x:HOk P w H h)(e:H a=some o):a<h.objs.size:=(x a o e).lt
theorem HOk.fresh(x:HOk P w H h)(e:h.objs.size<=a):H a=none:=by
 cases q:H a with
 |none=>rfl
 |some u=>exact absurd (Nat.lt_of_lt_of_le (x.lt q) e) (Nat.lt_irrefl _)
theorem HOk.kept(x:HOk P w H h)(k:∀b u,h.get? b=some u->h'.get? b=some u):HOk P w H h':=λa o e=>
 (x a o e).stay (λb u _ q=>k b u q) (λ_ q=>q) λ_ _ q=>q
theorem HOk.laid(x:HOk P w H h)(k:∀b u,h.get? b=some u->h'.get? b=some u)(hp:h.objs.size<=a)(new:bG P w (upd H a o) h' a o):HOk P w (upd H a o) h':=λb u e=>by
 have hn:=x.fresh hp
 by_cases hb:b=a
 ·subst hb;rw[aN] at e;cases e;exact new
 ·rw[aT hb] at e
  exact(x b u e).stay (λc v _ q=>k c v q) (λc q=>by rw[aT (aH q hn)];exact q) λc xs q=>by rw[aT (aH q hn)];exact q
end
noncomputable def Rd(H:Hp)(a:Addr)(u:HO):Prop:=H a=some u\/∃o,H a=some (.frz o u)
theorem Rd.of{H:Hp}{a:Addr}{u:HO}(h:H a=some u):Rd H a u:=.inl h
theorem Rd.ok{P:Program}{w:World}{H:Hp}{h:Heap}{a:Addr}{u:HO}(r:Rd H a u)(x:HOk P w H h):bG P w H h a u:=by
 rcases r with r | ⟨o,r⟩
 ·exact x a u r
 ·obtain⟨_,q⟩:=x a _ r
  exact q
noncomputable def Mut:Option HO->Prop
 |some (.lst _)=>True
 |some (.dK _)=>True
 |some (.dT _)=>True
 |some (.set _ _)=>True
 |some (.ins _ _ _)=>True
 |some (.ext _)=>True
 |_=>False
section
variable{P:Program}{w:World}{H:Hp}{h h':Heap}{x e:Addr}{o':HO}
theorem HOk.write(ok:HOk P w H h)(mu:Mut (H x))(he:e=x\/H e=some (.own x))(k:∀b u,b≠e->h.get? b=some u->h'.get? b=some u)(heo:∃u,h'.get? e=some u)
  (new:bG P w (upd H x o') h' x o'):HOk P w (upd H x o') h':=λb u q=>by
 have nown:∀c y,H c=some (.own y)->c≠x:=λc y r z=>by subst z;rw[r] at mu;exact mu
 have ntup:∀c xs,H c=some (.tup xs)->c≠x:=λc xs r z=>by subst z;rw[r] at mu;exact mu
 by_cases hb:b=x
 ·subst hb;rw[aN] at q;cases q;exact new
 ·rw[aT hb] at q
  by_cases hbe:b=e
  ·have q':H b=some (.own x):=by
    rcases he with z | z
    ·exact absurd (hbe.trans z) hb
    ·rw[hbe];exact z
   rw[q] at q';cases q';obtain⟨v,hv⟩:=heo;exact⟨v,by rw[hbe];exact hv⟩
  ·refine(ok b u q).stay (λc v hc r=>k c v ?_ r) (λc r=>by rw[aT (nown c b r)];exact r) λc xs r=>by rw[aT (ntup c xs r)];exact r
   rcases hc with rfl | hc
   ·exact hbe
   ·rintro rfl
    rcases he with z | z
    ·exact nown c b hc z
    ·rw[hc] at z;cases z;exact hb rfl
end
structure Un(fs ex:List Addr)(H H':Hp)(h h':Heap):Prop where
 keep:∀b o,h.get? b=some o->H b=none->b∉fs->b∉ex->h'.get? b=some o
 slot:∀b o,h.get? b=some o->H b=none->b∈fs->b∉ex->∃sl,h'.get? b=some { o with slots:=sl }
 free:∀b o,h.get? b=some o->H b=none->b∉ex->H' b=none
 there:∀b o,h.get? b=some o->b∉ex->∃o',h'.get? b=some o'
 tups:∀b xs,H b=some (.tup xs)->H' b=some (.tup xs)
 frzs:∀b o u,H b=some (.frz o u)->H' b=some (.frz o u)
 tbls:∀b ps,H b=some (.tbl ps)->∃more,H' b=some (.tbl (ps++more))
section
variable{fs fs' ex ex':List Addr}{H H1 H2:Hp}{h h1 h2 h':Heap}{a x e:Addr}{o:HO}
theorem Un.any(u:Un fs ex H H1 h h1){b:Addr}{ob:Obj}(q:h.get? b=some ob)(n:H b=none)(hx:b∉ex):∃sl,h1.get? b=some { ob with slots:=sl }:=by
 by_cases hb:b∈fs
 ·exact u.slot b ob q n hb hx
 ·exact⟨ob.slots,u.keep b ob q n hb hx⟩
theorem Un.trans(a:Un fs ex H H1 h h1)(b:Un fs ex H1 H2 h1 h2):Un fs ex H H2 h h2 where
 keep:=λc ob q n hc hx=>b.keep c ob (a.keep c ob q n hc hx) (a.free c ob q n hx) hc hx
 slot:=λc ob q n hc hx=>by
  obtain⟨sl,e1⟩:=a.slot c ob q n hc hx;obtain⟨sl',e2⟩:=b.slot c _ e1 (a.free c ob q n hx) hc hx;exact⟨sl',e2⟩
 free:=λc ob q n hx=>by
  obtain⟨o',e1⟩:=a.there c ob q hx;exact b.free c o' e1 (a.free c ob q n hx) hx
 there:=λc ob q hx=>by
  obtain⟨o',e1⟩:=a.there c ob q hx;exact b.there c o' e1 hx
 tups:=λc xs q=>b.tups c xs (a.tups c xs q)
 frzs:=λc ob xs q=>b.frzs c ob xs (a.frzs c ob xs q)
 tbls:=λc ps q=>by
  obtain⟨m1,e1⟩:=a.tbls c ps q;obtain⟨m2,e2⟩:=b.tbls c _ e1;exact⟨m1++m2,by rw[e2,Array.append_assoc]⟩
theorem Un.kept(k:∀b u,h.get? b=some u->h'.get? b=some u):Un fs ex H H h h':=
 ⟨λb ob q _ _ _=>k b ob q,λb ob q _ _ _=>⟨ob.slots,k b ob q⟩,λ_ _ _ n _=>n,λb ob q _=>⟨ob,k b ob q⟩,λ_ _ q=>q,λ_ _ _ q=>q,λ_ ps q=>⟨#[],by rw[q];simp⟩⟩
theorem Un.refl:Un fs ex H H h h:=Un.kept λ_ _ q=>q
theorem Un.laid(k:∀b u,h.get? b=some u->h'.get? b=some u)(hp:h.objs.size<=a)(hn:H a=none):Un fs ex H (upd H a o) h h' where
 keep:=λb u q _ _ _=>k b u q
 slot:=λb u q _ _ _=>⟨u.slots,k b u q⟩
 free:=λb u q n _=>by rw[aT (Nat.ne_of_lt (Nat.lt_of_lt_of_le (Heap.lt_size q) hp))];exact n
 there:=λb u q _=>⟨u,k b u q⟩
 tups:=λb xs q=>by rw[aT (aH q hn)];exact q
 frzs:=λb u xs q=>by rw[aT (aH q hn)];exact q
 tbls:=λb ps q=>⟨#[],by rw[aT (aH q hn),q];simp⟩
theorem Un.write(mu:Mut (H x))(he:e=x\/H e=some (.own x))(k:∀b u,b≠e->h.get? b=some u->h'.get? b=some u)(heo:∃u,h'.get? e=some u):Un fs ex H (upd H x o) h h':=by
 have hx:∀b,H b=none->b≠x:=λb n z=>by subst z;rw[n] at mu;exact mu
 have hb:∀b,H b=none->b≠e:=λb n z=>by
  subst z;rcases he with r | r
  ·exact hx b n r
  ·rw[n] at r;cases r
 have hm:∀b u,H b=some u->¬ Mut (some u)->b≠x:=λb u q nm z=>by subst z;rw[q] at mu;exact nm mu
 refine⟨λb u q n _ _=>k b u (hb b n) q,λb u q n _ _=>⟨u.slots,k b u (hb b n) q⟩,λb u q n _=>by rw[aT (hx b n)];exact n,λb u q _=>?_,
  λb xs q=>by rw[aT (hm b _ q λz=>z)];exact q,λb u xs q=>by rw[aT (hm b _ q λz=>z)];exact q,λb ps q=>⟨#[],by rw[aT (hm b _ q λz=>z),q];simp⟩⟩
 by_cases hbe:b=e
 ·subst hbe;exact heo
 ·exact⟨u,k b u hbe q⟩
theorem Un.mono(u:Un fs ex H H1 h h1)(hs:∀b∈fs,b∈fs')(hx:∀b∈ex,b∈ex'):Un fs' ex' H H1 h h1:=
 ⟨λb ob q n hb he=>u.keep b ob q n (λz=>hb (hs b z)) λz=>he (hx b z),λ_ _ q n _ he=>u.any q n λz=>he (hx _ z),λb ob q n he=>u.free b ob q n λz=>he (hx b z),λb ob q he=>u.there b ob q λz=>he (hx b z),u.tups,u.frzs,u.tbls⟩
end
noncomputable def trk(h:Heap)(H:Hp):List Addr:=(List.range h.objs.size).filter λa=>(H a).isSome
noncomputable def nJ(h:Heap)(H:Hp):Heap:=PySem.W.hideAll h (trk h H)
theorem sW(h:Heap)(H:Hp):(nJ h H).objs.size=h.objs.size:=PySem.W.hideAll_size _ _
theorem uQ{h:Heap}{H:Hp}{b:Addr}{o:Obj}(e:h.get? b=some o)(n:H b=none):(nJ h H).get? b=some o:=
 PySem.W.hideAll_get _ e λhm=>by
  have q:(H b).isSome=true:=(List.mem_filter.mp hm).2;rw[n] at q;simp at q
theorem w8{h:Heap}{H:Hp}{b:Addr}{o:Obj}(e:(nJ h H).get? b=some o):h.get? b=some o/\H b=none:=by
 have e':h.get? b=some o:=PySem.W.of_hideAll (trk h H) e;refine⟨e',?_⟩;cases q:H b with
 |none=>rfl
 |some x=>
  have hm:b∈trk h H:=List.mem_filter.mpr ⟨List.mem_range.mpr (Heap.lt_size e'),by simp[q]⟩;have z:(nJ h H).get? b=none:=PySem.W.hideAll_none (trk h H) hm;rw[z] at e;cases e
noncomputable def yA(g h:Heap)(L:Addr):List (Addr×Obj):=(List.range h.objs.size).filterMap λa=>if a=L\/(g.get? a).isSome=true then none else(h.get? a).map λo=>(a,o)
noncomputable def rest(g h:Heap)(L d:Addr):List (Addr×Obj):=(yA g h L).filter λp=>decide (p.1≠d)
structure Mod(K:PySem.W.Frag)(mg:Str->Option Value)(base:Heap):Prop where
 kin:K.In base
 glob:base.Ns mainGlobals mg
 blt:∃mb,base.Ns builtinsNs mb/\∀x:Str,x≠"__name__"->mb x=bootBuiltins x
 nolimit:base.NoLimit
structure Cx where
 prog:Program
 w:World
 K:PySem.W.Frag
 mg:Str->Option Value
 base:Heap
 A:Around
 N:List Str
 s₀:Shared
 H₀:Hp
 env:Env
 outer:List Env
 stack:List Env
 ex:List Addr
 fn:Str->Bool
 calm:Bool
 pn:List (Addr×Obj)
 xe:Value->Shared->Prop
noncomputable def frs(l:List Env):List Addr:=l.filterMap (·.frame)
noncomputable abbrev Cx.fs(X:Cx):List Addr:=frs X.outer
noncomputable def Vis(sc:Scope)(x:Str):Prop:=sc.names.lookup x=some .local\/sc.names.lookup x=some .cell\/sc.names.lookup x=some .free
noncomputable def Loc(sc:Scope)(x:Str):Prop:=sc.names.lookup x=some .local\/sc.names.lookup x=some .cell
noncomputable def C4(env:Env)(h:Heap)(m:Str->Option Value)(x:Str)(u:Value):Prop:=
 (env.kindOf x=some .local/\m x=some u)\/((env.kindOf x=some .cell\/env.kindOf x=some .free)/\∃c,env.cells.lookup x=some c/\h.IsCell c (some u))
structure Cx.Ok(X:Cx):Prop where
 mod:Mod X.K X.mg X.base
 kind:X.env.scope.kind=.function
 glob:X.env.globals=mainGlobals
 blt:X.env.builtins=builtinsNs
 above:X.s₀.heap.objs.size<=X.env.locals
 inj:∀x y c,X.env.cells.lookup x=some c->X.env.cells.lookup y=some c->x=y
 has:∀x,(X.env.kindOf x=some .cell\/X.env.kindOf x=some .free)->∃c,X.env.cells.lookup x=some c
 cab:∀x c,X.fn x=true->X.env.cells.lookup x=some c->X.s₀.heap.objs.size<=c
 hd:X.calm=true->X.A.handled=none
 frames:X.A.frames=some X.stack
 stk:X.stack=X.outer\/(X.stack=X.env::X.outer/\X.env.frame=some X.env.locals)
 exf:∀b∈X.ex,b≠X.env.locals/\∀x c,X.env.cells.lookup x=some c->c≠b
 bs:∀b o,X.base.get? b=some o->X.s₀.heap.get? b=some o/\X.H₀ b=none
 bsz:X.base.objs.size<=X.s₀.heap.objs.size
 noex:∀b o,X.base.get? b=some o->b∉X.ex
 exfs:∀b∈X.ex,b∉X.fs
 funs:X.s₀.heap.FunFrames X.base X.outer
 frf:∀b∈X.fs,X.H₀ b=none
structure Inv(X:Cx)(pins:List (Addr×Obj))(σ:List (Option V))(H:Hp)(s:Shared):Prop where
 ok:X.Ok
 os:s.os=X.s₀.os
 bare:AllBare s.gens
 base:Un X.fs X.ex X.H₀ H X.s₀.heap s.heap
 loc:∃m,s.heap.Ns X.env.locals m/\∀(i:Nat) (x:Str) (v:V),X.N[i]?=some x->σ[i]?=some (some v)->Vis X.env.scope x->∃u,aY v u/\C4 X.env s.heap m x u
 cell:∀x c,X.env.cells.lookup x=some c->∃v,s.heap.IsCell c v
 free:H X.env.locals=none
 freeC:∀x c,X.env.cells.lookup x=some c->H c=none
 pin:∀p∈X.pn++pins,s.heap.get? p.1=some p.2/\H p.1=none/\p.1≠X.env.locals/\p.1∉X.fs/\∀v,p.2.data≠.cell v
 hok:HOk X.prog X.w H s.heap
 len:σ.length=X.N.length
section
variable{X:Cx}{pins:List (Addr×Obj)}{σ:List (Option V)}{H H':Hp}{s:Shared}{h':Heap}
theorem Cx.Ok.nofr(ok:X.Ok){b:Addr}{o:Obj}(e:X.base.get? b=some o):b∉X.fs:=λhb=>by
 have:=(ok.funs.mem hb).1;rw[e] at this;cases this
theorem Inv.bs(I:Inv X pins σ H s):∀b o,X.base.get? b=some o->s.heap.get? b=some o/\H b=none:=λb o e=>
 ⟨I.base.keep b o (I.ok.bs b o e).1 (I.ok.bs b o e).2 (I.ok.nofr e) (I.ok.noex b o e),I.base.free b o (I.ok.bs b o e).1 (I.ok.bs b o e).2 (I.ok.noex b o e)⟩
theorem Inv.bk(I:Inv X pins σ H s):∀b o,X.base.get? b=some o->s.heap.get? b=some o:=λb o e=>(I.bs b o e).1
theorem Inv.mod(I:Inv X pins σ H s):Mod X.K X.mg X.base:=I.ok.mod
theorem Inv.kIn(I:Inv X pins σ H s):X.K.In s.heap:=I.ok.mod.kin.keeps I.bk
theorem Inv.nolimit(I:Inv X pins σ H s):s.heap.NoLimit:=I.ok.mod.nolimit.keeps I.bk
theorem Inv.fr(I:Inv X pins σ H s):∃m,Fr X.base X.env.locals s.heap m:=
 let⟨m,hn,_⟩:=I.loc
 ⟨m,hn,I.bk,Nat.le_trans I.ok.bsz I.ok.above⟩
theorem Inv.lt(I:Inv X pins σ H s):X.env.locals<s.heap.objs.size:=let⟨_,hn,_⟩:=I.loc;hn.lt
theorem Inv.sz(I:Inv X pins σ H s):X.s₀.heap.objs.size<=s.heap.objs.size:=Nat.le_trans I.ok.above (Nat.le_of_lt I.lt)
theorem Inv.nofs(I:Inv X pins σ H s){a:Addr}(h:s.heap.objs.size<=a):a∉X.fs:=λhb=>by
 obtain⟨_,o,ho,_⟩:=I.ok.funs.mem hb;exact absurd (Nat.lt_of_lt_of_le (Heap.lt_size ho) (Nat.le_trans I.sz h)) (Nat.lt_irrefl _)
theorem Inv.cne(I:Inv X pins σ H s):∀x c,X.env.cells.lookup x=some c->c≠X.env.locals:=λx c e z=>by
 obtain⟨v,o,ho,hd⟩:=I.cell x c e;obtain⟨m,⟨o',es,ep,ho',hd',_⟩,_⟩:=I.loc;rw[z,ho'] at ho;cases ho;rw[hd'] at hd;cases hd
theorem Inv.funs(I:Inv X pins σ H s):s.heap.FunFrames X.base X.outer:=by
 have all:∀(l:List Env),(∀b∈frs l,b∈X.fs)->X.s₀.heap.FunFrames X.base l->s.heap.FunFrames X.base l:=by
  intro l
  induction l with
  |nil=>intro _ _;trivial
  |cons env r ih=>
   intro hs hl;obtain⟨hk,⟨L,o,hf,hn,ho,hd⟩,hr⟩:=hl;have hL:L∈X.fs:=hs L (by unfold frs;rw[List.filterMap_cons,hf];exact List.mem_cons_self);obtain⟨sl,e⟩:=I.base.slot L o ho (I.ok.frf L hL) hL λz=>I.ok.exfs L z hL;exact⟨hk,⟨L,_,hf,hn,e,hd⟩,ih (λb hb=>hs b (by unfold frs;rw[List.filterMap_cons,hf];exact List.mem_cons_of_mem _ hb)) hr⟩
 exact all X.outer (λ_ hb=>hb) I.ok.funs
theorem Inv.stack(I:Inv X pins σ H s):s.heap.FunFrames X.base X.stack:=by
 rcases I.ok.stk with e | ⟨e,hf⟩
 ·rw[e];exact I.funs
 ·rw[e]
  obtain⟨m,hn,_⟩:=I.loc;refine .cons (by rw[I.ok.kind];decide) hf hn ?_ I.funs;exact Heap.get?_none_of_le (Nat.le_trans I.ok.bsz I.ok.above)
theorem Inv.stkSub(I:Inv X pins σ H s):∀b∈frs X.stack,b∈X.env.locals::X.fs:=λb hb=>by
 rcases I.ok.stk with e | ⟨e,hf⟩
 ·rw[e] at hb;exact List.mem_cons_of_mem _ hb
 ·rw[e] at hb
  unfold frs at hb;rw[List.filterMap_cons,hf] at hb;exact hb
theorem Inv.stkFree(I:Inv X pins σ H s):∀b∈frs X.stack,H b=none:=λb hb=>by
 rcases List.mem_cons.mp (I.stkSub b hb) with e | hb
 ·rw[e];exact I.free
 ·obtain⟨_,o,ho,_⟩:=I.ok.funs.mem hb
  exact I.base.free b o ho (I.ok.frf b hb) λz=>I.ok.exfs b z hb
theorem Inv.step{g':Array GenState}{t':Nat}{d':Drawn}{ch:List Addr}(I:Inv X pins σ H s)
  (hch:∀b∈ch,(b∈X.ex\/X.s₀.heap.objs.size<=b)/\b≠X.env.locals/\(∀x c,X.env.cells.lookup x=some c->c≠b)/\∀p∈X.pn++pins,p.1≠b)
  (keep:∀b o,b≠X.env.locals->b∉X.fs->b∉ch->s.heap.get? b=some o->H b=none->h'.get? b=some o)
  (slot:∀b o,b≠X.env.locals->b∈X.fs->b∉ch->s.heap.get? b=some o->H b=none->∃sl,h'.get? b=some { o with slots:=sl }) (free:∀b o,b∉ch->s.heap.get? b=some o->H b=none->H' b=none)
  (there:∀b o,b∉ch->s.heap.get? b=some o->∃o',h'.get? b=some o')
  (tups:∀b xs,H b=some (.tup xs)->H' b=some (.tup xs)) (frzs:∀b o u,H b=some (.frz o u)->H' b=some (.frz o u)) (tbls:∀b ps,H b=some (.tbl ps)->∃more,H' b=some (.tbl (ps++more)))
  (ns:∀m,s.heap.Ns X.env.locals m->h'.Ns X.env.locals m) (hok:HOk X.prog X.w H' h') (hg:AllBare g') :
  Inv X pins σ H' { s with heap:=h',gens:=g',drawn:=d',toks:=t' }:=by
 have neL:∀b o,X.s₀.heap.get? b=some o->b≠X.env.locals:=λb o e=>Nat.ne_of_lt (Nat.lt_of_lt_of_le (Heap.lt_size e) I.ok.above)
 have neC:∀b o,X.s₀.heap.get? b=some o->b∉X.ex->b∉ch:=λb o e hx hb=>by
  rcases(hch b hb).1 with z | z
  ·exact hx z
  ·exact absurd (Nat.lt_of_lt_of_le (Heap.lt_size e) z) (Nat.lt_irrefl _)
 have cellK:∀x c,X.env.cells.lookup x=some c->∀v,s.heap.IsCell c v->h'.IsCell c v:=λx c e v ⟨o,ho,hd⟩=>by
  have nch:c∉ch:=λz=>(hch c z).2.2.1 x c e rfl
  by_cases hc:c∈X.fs
  ·obtain⟨sl,q⟩:=slot c o (I.cne x c e) hc nch ho (I.freeC x c e)
   exact⟨_,q,hd⟩
  ·exact⟨o,keep c o (I.cne x c e) hc nch ho (I.freeC x c e),hd⟩
 refine⟨I.ok,I.os,hg,⟨λb o e n hb hx=>?_,λb o e n hb hx=>?_,λb o e n hx=>?_,λb o e hx=>?_,λb xs e=>tups b xs (I.base.tups b xs e),λb o xs e=>frzs b o xs (I.base.frzs b o xs e),λb ps e=>?_⟩,?_,λx c e=>?_,?_,λx c e=>?_,λp hp=>?_,hok,I.len⟩
 ·exact keep b o (neL b o e) hb (neC b o e hx) (I.base.keep b o e n hb hx) (I.base.free b o e n hx)
 ·obtain⟨sl,e1⟩:=I.base.slot b o e n hb hx
  obtain⟨sl',e2⟩:=slot b _ (neL b o e) hb (neC b o e hx) e1 (I.base.free b o e n hx);exact⟨sl',e2⟩
 ·obtain⟨o',e1⟩:=I.base.there b o e hx
  exact free b o' (neC b o e hx) e1 (I.base.free b o e n hx)
 ·obtain⟨o',e1⟩:=I.base.there b o e hx
  exact there b o' (neC b o e hx) e1
 ·obtain⟨m1,e1⟩:=I.base.tbls b ps e
  obtain⟨m2,e2⟩:=tbls b _ e1;exact⟨m1++m2,by rw[e2,Array.append_assoc]⟩
 ·obtain⟨m,hn,hl⟩:=I.loc
  refine⟨m,ns m hn,λi x v e1 e2 e3=>?_⟩;obtain⟨u,r,l⟩:=hl i x v e1 e2 e3;refine⟨u,r,?_⟩;rcases l with l | ⟨k,c,e,z⟩
  ·exact .inl l
  ·exact .inr ⟨k,c,e,cellK x c e _ z⟩
 ·obtain⟨v,z⟩:=I.cell x c e
  exact⟨v,cellK x c e v z⟩
 ·obtain⟨m,⟨o,_,_,ho,_⟩,_⟩:=I.loc
  exact free _ o (λz=>(hch _ z).2.1 rfl) ho I.free
 ·obtain⟨v,o,ho,hd⟩:=I.cell x c e
  exact free c o (λz=>(hch c z).2.2.1 x c e rfl) ho (I.freeC x c e)
 ·obtain⟨e,n,ne,nf,d⟩:=I.pin p hp
  have nch:p.1∉ch:=λz=>(hch p.1 z).2.2.2 p hp rfl;exact⟨keep p.1 p.2 ne nf nch e n,free p.1 p.2 nch e n,ne,nf,d⟩
theorem Inv.un{t':Nat}(I:Inv X pins σ H s)(u:Un X.fs [] H H' s.heap h')(hok:HOk X.prog X.w H' h'):Inv X pins σ H' { s with heap:=h',toks:=t' }:=by
 obtain⟨m,⟨o,es,ep,ho,r⟩,_⟩:=id I.loc;obtain⟨sl,hL⟩:=u.any ho I.free (by simp)
 exact I.step (g':=s.gens) (d':=s.drawn) (ch:=[]) (λ_ z=>nomatch z) (λb o _ hb _ e n=>u.keep b o e n hb (by simp)) (λb o _ hb _ e n=>u.slot b o e n hb (by simp)) (λb o _ e n=>u.free b o e n (by simp)) (λb o _ e=>u.there b o e (by simp)) u.tups u.frzs u.tbls (λm' hm=>by
  obtain⟨o',es',ep',ho',r'⟩:=hm;rw[ho] at ho';cases ho'
  exact⟨_,es',ep',hL,r'⟩) hok I.bare
theorem Inv.call{g':Array GenState}{t':Nat}{d':Drawn}{ch:List Addr}(I:Inv X pins σ H s)(u:Un (frs X.stack) ch H H' s.heap h')(hok:HOk X.prog X.w H' h')(hg:AllBare g')
  (hch:∀b∈ch,(b∈X.ex\/X.s₀.heap.objs.size<=b)/\b≠X.env.locals/\(∀x c,X.env.cells.lookup x=some c->c≠b)/\∀p∈X.pn++pins,p.1≠b) :
  Inv X pins σ H' { s with heap:=h',gens:=g',drawn:=d',toks:=t' }:=by
 obtain⟨m,⟨o,es,ep,ho,r⟩,_⟩:=id I.loc;obtain⟨sl,hL⟩:=u.any ho I.free λz=>(hch _ z).2.1 rfl
 exact I.step (ch:=ch) hch (λb o hL hb hc e n=>u.keep b o e n (λz=>(List.mem_cons.mp (I.stkSub b z)).elim hL hb) hc) (λb o _ _ hc e n=>u.any e n hc) (λb o hc e n=>u.free b o e n hc) (λb o hc e=>u.there b o e hc) u.tups u.frzs u.tbls (λm' hm=>by
  obtain⟨o',es',ep',ho',r'⟩:=hm;rw[ho] at ho';cases ho'
  exact⟨_,es',ep',hL,r'⟩) hok hg
theorem Inv.turned{t':Nat}{it:Addr}(I:Inv X pins σ H s)(k:∀b o,b≠it->s.heap.get? b=some o->h'.get? b=some o)(hn:H it=none)(hL:it≠X.env.locals)
  (h1:it∈X.ex\/X.s₀.heap.objs.size<=it) (h2:∀x c,X.env.cells.lookup x=some c->c≠it) (h3:∀p∈X.pn++pins,p.1≠it):Inv X pins σ H { s with heap:=h',toks:=t' }:=by
 have nit:∀b u,H b=some u->b≠it:=λb u e z=>by rw[z,hn] at e;cases e
 refine I.step (g':=s.gens) (d':=s.drawn) (ch:=[it]) (λb hb=>?_) (λb o _ _ hc e _=>k b o (λz=>hc (by simp[z])) e) (λb o _ _ hc e _=>⟨o.slots,k b o (λz=>hc (by simp[z])) e⟩) (λ_ _ _ _ n=>n)
  (λb o hc e=>⟨o,k b o (λz=>hc (by simp[z])) e⟩) (λ_ _ e=>e) (λ_ _ _ e=>e) (λb ps e=>⟨#[],by rw[e];simp⟩) (λm hm=>?_) (λb u e=>?_) I.bare
 ·have e:b=it:=by simpa using hb
  subst e;exact⟨h1,hL,h2,h3⟩
 ·obtain⟨o,es,ep,ho,r⟩:=hm
  exact⟨o,es,ep,k _ o (Ne.symm hL) ho,r⟩
 ·refine(I.hok b u e).stay (λc v hc q=>k c v ?_ q) (λ_ q=>q) λ_ _ q=>q
  rcases hc with z | z
  ·rw[z];exact nit b u e
  ·exact nit c _ z
theorem Inv.tok(I:Inv X pins σ H s)(t:Nat):Inv X pins σ H { s with toks:=t }:=I.un (h':=s.heap) (t':=t) Un.refl I.hok
theorem Inv.kept{t':Nat}(I:Inv X pins σ H s)(k:∀b u,s.heap.get? b=some u->h'.get? b=some u):Inv X pins σ H { s with heap:=h',toks:=t' }:=I.un (Un.kept k) (I.hok.kept k)
theorem Inv.laid{a:Addr}{o:HO}{t':Nat}(I:Inv X pins σ H s)(k:∀b u,s.heap.get? b=some u->h'.get? b=some u)(hp:s.heap.objs.size<=a)(new:bG X.prog X.w (upd H a o) h' a o) :
  Inv X pins σ (upd H a o) { s with heap:=h',toks:=t' }:=I.un (Un.laid k hp (I.hok.fresh hp)) (I.hok.laid k hp new)
theorem Inv.write{x e:Addr}{o:HO}{t':Nat}(I:Inv X pins σ H s)(mu:Mut (H x))(he:e=x\/H e=some (.own x))(k:∀b u,b≠e->s.heap.get? b=some u->h'.get? b=some u)(heo:∃u,h'.get? e=some u)
  (new:bG X.prog X.w (upd H x o) h' x o):Inv X pins σ (upd H x o) { s with heap:=h',toks:=t' }:=I.un (Un.write mu he k heo) (I.hok.write mu he k heo new)
theorem Inv.pins_of{pins':List (Addr×Obj)}(I:Inv X pins σ H s)(h:∀p∈pins',s.heap.get? p.1=some p.2/\H p.1=none/\p.1≠X.env.locals/\p.1∉X.fs/\∀v,p.2.data≠.cell v):Inv X pins' σ H s:=
 ⟨I.ok,I.os,I.bare,I.base,I.loc,I.cell,I.free,I.freeC,λp hp=>(List.mem_append.mp hp).elim (λz=>I.pin p (List.mem_append_left _ z)) (h p),I.hok,I.len⟩
theorem pF{N:List Str}(hN:N.Nodup){i j:Nat}{x:Str}(a:N[i]?=some x)(b:N[j]?=some x):i=j:=by
 obtain⟨h1,e1⟩:=List.getElem?_eq_some_iff.mp a;obtain⟨h2,e2⟩:=List.getElem?_eq_some_iff.mp b;exact(List.getElem_inj hN).mp (e1.trans e2.symm)
theorem sR{M:Model}{A:Around}{E:Value->Shared->Prop}{i:Nat}{x:Str}{v:V}{u:Value}{Q:Unit->Shared->Prop}(I:Inv X pins σ H s)(hN:X.N.Nodup)(hi:X.N[i]?=some x)(hx:Loc X.env.scope x)(r:aY v u)
  (h:∀s',Inv X pins (σ.set i (some v)) H s'->(∃a,Heap.SameBut a s.heap s'.heap/\(a=X.env.locals\/X.env.cells.lookup x=some a))->Q () s') (hf:X.fn x=true\/X.env.scope.names.lookup x=some .local:=by first | exact .inl rfl | exact .inr rfl | assumption):wpAny M A (storeName X.env x u) Q E s:=by
 obtain⟨m,hn,hl⟩:=id I.loc;have hcls:(X.env.scope.kind == .class || (X.env.scope.kind == .module&&X.env.locals != X.env.globals))=false:=by rw[I.ok.kind];rfl
 have hiσ:i<σ.length:=by rw[I.len];exact(List.getElem?_eq_some_iff.mp hi).1
 have cne:=I.cne
 have tracked:∀{a:Addr} {h':Heap},(∃o,s.heap.get? a=some o/\H a=none)->Heap.SameBut a s.heap h'->HOk X.prog X.w H h':=λ{a h'} ha hs b ob e=>by
  obtain⟨_,_,hfree⟩:=ha;refine(I.hok b ob e).stay (λc w' hc q=>(hs.2 c ?_).trans q) (λ_ q=>q) λ_ _ q=>q;rintro rfl;rcases hc with rfl | hc
  ·rw[hfree] at e;cases e
  ·rw[hfree] at hc;cases hc
 rcases hx with hk | hk
 ·refine wpAny_storeName_local hk hn (λh' hn' hs=>?_) hcls
  obtain⟨oL,_,_,hoL,_⟩:=id hn;refine h _ ⟨I.ok,I.os,I.bare,⟨λb o e n hb hx=>?_,λb o e n hb hx=>?_,I.base.free,λb o e hx=>?_,I.base.tups,I.base.frzs,I.base.tbls⟩,⟨_,hn',λj y v' e1 e2 e3=>?_⟩,λy c e=>?_,I.free,I.freeC,λp hp=>?_,tracked ⟨oL,hoL,I.free⟩ hs,by simpa using I.len⟩ ⟨_,hs,.inl rfl⟩
  ·exact(hs.2 b (Nat.ne_of_lt (Nat.lt_of_lt_of_le (Heap.lt_size e) I.ok.above))).trans (I.base.keep b o e n hb hx)
  ·obtain⟨sl,e1⟩:=I.base.slot b o e n hb hx
   exact⟨sl,(hs.2 b (Nat.ne_of_lt (Nat.lt_of_lt_of_le (Heap.lt_size e) I.ok.above))).trans e1⟩
  ·obtain⟨o',e1⟩:=I.base.there b o e hx
   exact⟨o',(hs.2 b (Nat.ne_of_lt (Nat.lt_of_lt_of_le (Heap.lt_size e) I.ok.above))).trans e1⟩
  ·by_cases hj:j=i
   ·subst hj
    rw[hi] at e1;cases e1;rw[List.getElem?_set_self hiσ] at e2;cases e2;exact⟨u,r,.inl ⟨hk,by simp⟩⟩
   ·rw[List.getElem?_set_ne (Ne.symm hj)] at e2
    obtain⟨u',r',q⟩:=hl j y v' e1 e2 e3;refine⟨u',r',?_⟩;rcases q with⟨k,e⟩ | ⟨k,c,e,z⟩
    ·refine .inl ⟨k,?_⟩
     have:y≠x:=λe=>hj (pF hN e1 (e▸hi));simp[this,e]
    ·exact .inr ⟨k,c,e,z.sameBut hs (cne y c e)⟩
  ·obtain⟨w',z⟩:=I.cell y c e
   exact⟨w',z.sameBut hs (cne y c e)⟩
  ·obtain⟨e,n,ne,nf,d⟩:=I.pin p hp
   exact⟨(hs.2 p.1 ne).trans e,n,ne,nf,d⟩
 ·have hfn:X.fn x=true:=by
   rcases hf with z | z
   ·exact z
   ·rw[z] at hk;cases hk
  obtain⟨c,hc⟩:=I.ok.has x (.inl hk);obtain⟨w',z⟩:=I.cell x c hc;refine wpAny_storeName_cell I.ok.kind hk hc z (λh' hc' hs=>?_);obtain⟨oc,hoc,hocd⟩:=id z;refine h { s with heap:=h' } ⟨I.ok,I.os,I.bare,⟨λb o e n hb hx=>?_,λb o e n hb hx=>?_,I.base.free,λb o e hx=>?_,I.base.tups,I.base.frzs,I.base.tbls⟩,⟨m,hn.sameBut hs (Ne.symm (cne x c hc)),λj y v' e1 e2 e3=>?_⟩,λy c' e=>?_,I.free,I.freeC,λp hp=>?_,tracked ⟨oc,hoc,I.freeC x c hc⟩ hs,by simpa using I.len⟩ ⟨c,hs,.inr hc⟩
  ·exact(hs.2 b (Nat.ne_of_lt (Nat.lt_of_lt_of_le (Heap.lt_size e) (I.ok.cab x c hfn hc)))).trans (I.base.keep b o e n hb hx)
  ·obtain⟨sl,e1⟩:=I.base.slot b o e n hb hx
   exact⟨sl,(hs.2 b (Nat.ne_of_lt (Nat.lt_of_lt_of_le (Heap.lt_size e) (I.ok.cab x c hfn hc)))).trans e1⟩
  ·obtain⟨o',e1⟩:=I.base.there b o e hx
   exact⟨o',(hs.2 b (Nat.ne_of_lt (Nat.lt_of_lt_of_le (Heap.lt_size e) (I.ok.cab x c hfn hc)))).trans e1⟩
  ·by_cases hj:j=i
   ·subst hj
    rw[hi] at e1;cases e1;rw[List.getElem?_set_self hiσ] at e2;cases e2;exact⟨u,r,.inr ⟨.inl hk,c,hc,hc'⟩⟩
   ·rw[List.getElem?_set_ne (Ne.symm hj)] at e2
    obtain⟨u',r',q⟩:=hl j y v' e1 e2 e3;refine⟨u',r',?_⟩;rcases q with q | ⟨k,c',e,z'⟩
    ·exact .inl q
    ·refine .inr ⟨k,c',e,z'.sameBut hs ?_⟩
     rintro rfl;exact hj (pF hN e1 (I.ok.inj _ _ _ e hc▸hi))
  ·by_cases hcc:c'=c
   ·subst hcc;exact⟨_,hc'⟩
   ·obtain⟨w2,z2⟩:=I.cell y c' e
    exact⟨w2,z2.sameBut hs hcc⟩
  ·obtain⟨e,n,ne,nf,d⟩:=I.pin p hp
   refine⟨(hs.2 p.1 ?_).trans e,n,ne,nf,d⟩;intro q;rw[q,hoc] at e;have q':oc=p.2:=Option.some.inj e;exact d w' (by rw[<-q'];exact hocd)
theorem gc{M:Model}{A:Around}{E:Value->Shared->Prop}{i:Nat}{x:Str}{v:V}{u:Value}{Q:Unit->Shared->Prop}(I:Inv X pins σ H s)(hN:X.N.Nodup)(hi:X.N[i]?=some x)(hx:Loc X.env.scope x)(r:aY v u)
  (h:∀s',Inv X pins (σ.set i (some v)) H s'->Q () s') (hf:X.fn x=true\/X.env.scope.names.lookup x=some .local:=by first | exact .inl rfl | exact .inr rfl | assumption):wpAny M A (storeName X.env x u) Q E s:=
 sR I hN hi hx r (λs' I' _=>h s' I') hf
theorem Inv.call'{s':Shared}{ch:List Addr}(I:Inv X pins σ H s)(ho:s'.os=s.os)(u:Un (frs X.stack) ch H H' s.heap s'.heap)(hok:HOk X.prog X.w H' s'.heap)(hg:AllBare s'.gens)
  (hch:∀b∈ch,(b∈X.ex\/X.s₀.heap.objs.size<=b)/\b≠X.env.locals/\(∀x c,X.env.cells.lookup x=some c->c≠b)/\∀p∈X.pn++pins,p.1≠b):Inv X pins σ H' s':=by
 obtain⟨h',g',d',t',o'⟩:=s';have e:o'=s.os:=ho;subst e;exact I.call (g':=g') (t':=t') (d':=d') u hok hg hch
end
noncomputable abbrev XK:=Value->Option Addr->Hp->Prop
noncomputable abbrev St:=List (Option V)
noncomputable abbrev VK:=V->Hp->Prop
noncomputable abbrev TE:=St->Hp->VK->Prop
noncomputable abbrev TT:=St->Hp->(Bool->Hp->Prop)->Prop
noncomputable abbrev TA:=St->Hp->(List V->Hp->Prop)->Prop
structure Ends where
 nx:St->Hp->Prop
 rt:VK
 bk:St->Hp->Prop:=λ_ _=>False
 ct:St->Hp->Prop:=λ_ _=>False
noncomputable abbrev TS:=Ends->St->Hp->Prop
noncomputable def EP(X:Cx)(pins:List (Addr×Obj))(σ:St)(Q:VK)(u:Value)(s':Shared):Prop:=∃v H',Inv X pins σ H' s'/\aY v u/\Q v H'
noncomputable def TP(X:Cx)(pins:List (Addr×Obj))(σ:St)(Q:Bool->Hp->Prop)(b:Bool)(s':Shared):Prop:=∃H',Inv X pins σ H' s'/\Q b H'
noncomputable def AP(X:Cx)(pins:List (Addr×Obj))(σ:St)(Q:List V->Hp->Prop)(us:List Value)(s':Shared):Prop:=∃vs H',Inv X pins σ H' s'/\aV vs us/\Q vs H'
noncomputable def SP(X:Cx)(pins:List (Addr×Obj))(D:Ends)(f:Flow)(s':Shared):Prop:=
 match f with
 |.next=>∃σ' H',Inv X pins σ' H' s'/\D.nx σ' H'
 |.brk=>∃σ' H',Inv X pins σ' H' s'/\D.bk σ' H'
 |.cont=>∃σ' H',Inv X pins σ' H' s'/\D.ct σ' H'
 |.ret u=>∃v σ' H',Inv X pins σ' H' s'/\aY v u/\D.rt v H'
noncomputable def PE(X:Cx)(e:Expr)(t:TE):Prop:=
 ∀(pins:List (Addr×Obj)) (s:Shared) (σ:St) (H:Hp) (Q:VK),Inv X pins σ H s->t σ H Q->wpAny (model X.prog X.w) X.A (eval e X.env) (EP X pins σ Q) X.xe s
noncomputable def PT(X:Cx)(e:Expr)(t:TT):Prop:=
 ∀(pins:List (Addr×Obj)) (s:Shared) (σ:St) (H:Hp) (Q:Bool->Hp->Prop),Inv X pins σ H s->t σ H Q->wpAny (model X.prog X.w) X.A (isTrue e X.env (eval e X.env)) (TP X pins σ Q) X.xe s
noncomputable def PW(X:Cx)(e:Expr)(t:TT):Prop:=
 ∀(whole:Sem Value) (pins:List (Addr×Obj)) (s:Shared) (σ:St) (H:Hp) (Q:Bool->Hp->Prop),Inv X pins σ H s->t σ H Q->wpAny (model X.prog X.w) X.A (isTrue e X.env whole) (TP X pins σ Q) X.xe s
theorem PW.pt{X:Cx}{e:Expr}{t:TT}(h:PW X e t):PT X e t:=h _
noncomputable def PA(X:Cx)(es:List Expr)(t:TA):Prop:=
 ∀(pos:Pos) (pins:List (Addr×Obj)) (s:Shared) (σ:St) (H:Hp) (Q:List V->Hp->Prop),Inv X pins σ H s->t σ H Q->wpAny (model X.prog X.w) X.A (spliced (backTo pos (starEach es X.env))) (AP X pins σ Q) X.xe s
noncomputable def PS(X:Cx)(st:Stmt)(t:TS):Prop:=
 ∀(pins:List (Addr×Obj)) (s:Shared) (σ:St) (H:Hp) (D:Ends),Inv X pins σ H s->t D σ H->wpAny (model X.prog X.w) X.A (exec st X.env) (SP X pins D) X.xe s
noncomputable def PSs(X:Cx)(st:List Stmt)(t:TS):Prop:=
 ∀(pins:List (Addr×Obj)) (s:Shared) (σ:St) (H:Hp) (D:Ends),Inv X pins σ H s->t D σ H->wpAny (model X.prog X.w) X.A (execs st X.env) (SP X pins D) X.xe s
theorem thn{α:Type}{t:Sem α}{Q Q':α->Shared->Prop}{M:Model}{A:Around}{E:Value->Shared->Prop}{s:Shared}(h:wpAny M A t Q E s)(hQ:∀a s,Q a s->Q' a s):wpAny M A t Q' E s:=wpAny_mono h hQ λ_ _ x=>x
section
variable{X:Cx}
theorem bin{a b:Expr}{ta tb:TE}(ha:PE X a ta)(hb:PE X b tb){pins:List (Addr×Obj)}{s:Shared}{σ:St}{H:Hp}{R:V->V->Hp->Prop}(I:Inv X pins σ H s)(h:ta σ H λx H1=>tb σ H1 λy H2=>R x y H2)
  {α:Type} {Q:α->Shared->Prop} {f:Value->Value->Sem α}
  (hf:∀v u s2 x y H2,Inv X pins σ H2 s2->aY x v->aY y u->R x y H2->wpAny (model X.prog X.w) X.A (f v u) Q X.xe s2) :
  wpAny (model X.prog X.w) X.A (eval a X.env) (λv s₁=>wpAny (model X.prog X.w) X.A (eval b X.env) (λu s₂=>wpAny (model X.prog X.w) X.A (f v u) Q X.xe s₂) X.xe s₁) X.xe s:=by
 refine thn (ha pins s σ H _ I h) λv s1 ⟨x,H1,I1,r1,q1⟩=>?_;refine thn (hb pins s1 σ H1 _ I1 q1) λu s2 ⟨y,H2,I2,r2,q2⟩=>?_;exact hf v u s2 x y H2 I2 r1 r2 q2
noncomputable def CZ(i:Nat):TE:=λσ H Q=>∃v,σ[i]?=some (some v)/\Q v H
noncomputable def tC(v:V):TE:=λ_ H Q=>Q v H
theorem ll{i:Nat}{x:Str}{pos:Pos}(hN:X.N[i]?=some x)(hv:Vis X.env.scope x)(hd:(x==("__debug__" : Str))=false:=by decide)(hcd:(x==("__classdict__" : Str))=false:=by decide):PE X (.Name x pos) (CZ i):=by
 intro pins s σ H Q I h;obtain⟨v,e,h⟩:=h;obtain⟨m,hn,hl⟩:=I.loc;obtain⟨u,r,l⟩:=hl i x v hN e hv;have fin:EP X pins σ Q u s:=⟨v,H,I,r,h⟩;rcases l with⟨hk,hm⟩ | ⟨hk,c,hc,hcell⟩
 ·exact wpAny_Name (wpAny_loadName_local I.ok.kind hk hn hm fin) hd
 ·rcases hk with hk | hk
  ·exact wpAny_Name (wpAny_loadName_cell I.ok.kind hk hc hcell fin) hd
  ·exact wpAny_Name (wpAny_loadName_free I.ok.kind hk hc hcell fin hcd) hd
theorem zX{i j pos}:PE X (.Constant (.int i) j pos) (tC (.int i)):=λ_ _ _ H _ I h=>wpAny_Constant_int ⟨.int i,H,I.tok _,⟨_,rfl⟩,h⟩
theorem BE{b j pos}:PE X (.Constant (.bool b) j pos) (tC (.bl b)):=λ_ _ _ H _ I h=>Constant_bool ⟨.bl b,H,I,rfl,h⟩
theorem zE{j pos}:PE X (.Constant .none j pos) (tC .non):=λ_ _ _ H _ I h=>Constant_none ⟨.non,H,I,rfl,h⟩
theorem zM{x j pos}:PE X (.Constant (.str x) j pos) (tC (.str x)):=λ_ _ _ H _ I h=>Calls.Constant_str ⟨.str x,H,I.tok _,⟨_,rfl⟩,h⟩
noncomputable def Gl(X:Cx)(x:Str):Prop:=X.env.kindOf x=some .globalImplicit
theorem rZ{E:Value->Shared->Prop}{pins:List (Addr×Obj)}{s:Shared}{σ:St}{H:Hp}{x:Str}{u:Value}{pos:Pos}{Q:Value->Shared->Prop}(I:Inv X pins σ H s)(hg:Gl X x)(hm:X.mg x=some u)(h:Q u s)
  (hd:(x==("__debug__" : Str))=false:=by decide):wpAny (model X.prog X.w) X.A (eval (.Name x pos) X.env) Q E s:=
 Calls.Name_function_global I.ok.kind hg (Calls.loadGlobal_global (by rw[I.ok.glob];exact I.mod.glob.keeps I.bk) hm h) hd
theorem jg{E:Value->Shared->Prop}{pins:List (Addr×Obj)}{s:Shared}{σ:St}{H:Hp}{x:Str}{u:Value}{pos:Pos}{Q:Value->Shared->Prop}(I:Inv X pins σ H s)(hg:Gl X x)(hm:X.mg x=none)(hv:bootBuiltins x=some u)(h:Q u s)
  (hn:x≠"__name__":=by decide) (hd:(x==("__debug__" : Str))=false:=by decide):wpAny (model X.prog X.w) X.A (eval (.Name x pos) X.env) Q E s:=by
 obtain⟨mb,h1,h2⟩:=I.mod.blt;exact Calls.Name_function_global I.ok.kind hg (Calls.loadGlobal_builtin (by rw[I.ok.glob];exact I.mod.glob.keeps I.bk) hm (by rw[I.ok.blt];exact h1.keeps I.bk) ((h2 x hn).trans hv) h) hd
theorem rC{x:Str}{v:V}{u:Value}{pos:Pos}(hg:Gl X x)(hm:X.mg x=some u)(r:aY v u)(hd:(x==("__debug__" : Str))=false:=by decide):PE X (.Name x pos) (tC v):=
 λ_ _ _ H _ I h=>rZ I hg hm ⟨v,H,I,r,h⟩ hd
theorem ye{x:Str}{v:V}{u:Value}{pos:Pos}(hg:Gl X x)(hm:X.mg x=none)(hv:bootBuiltins x=some u)(r:aY v u)(hn:x≠"__name__":=by decide)(hd:(x==("__debug__" : Str))=false:=by decide):PE X (.Name x pos) (tC v):=
 λ_ _ _ H _ I h=>jg I hg hm hv ⟨v,H,I,r,h⟩ hn hd
variable{a b:Expr}{ta tb:TE}{pos:Pos}
variable{tA tB':TT}{rest:List Expr}
noncomputable def CW(t u:TT):TT:=λσ H Q=>t σ H λc H1=>if c=true then u σ H1 Q else Q false H1
noncomputable def tOr(t u:TT):TT:=λσ H Q=>t σ H λc H1=>if c=true then Q true H1 else u σ H1 Q
noncomputable def Dc(t:TT):TT:=λσ H Q=>t σ H λc H1=>Q (!c) H1
theorem xR(ha:PT X a tA):PW X (.BoolOp .And [a] pos) tA:=by
 intro wh pins s σ H Q I h;refine isTrue_and (thn (ha pins s σ H Q I h) λc s1 e=>?_);cases c with
 |true=>exact isTrue_and_nil e
 |false=>exact e
theorem z0(ha:PT X a tA):PW X (.BoolOp .Or [a] pos) tA:=by
 intro wh pins s σ H Q I h;refine isTrue_or (thn (ha pins s σ H Q I h) λc s1 e=>?_);cases c with
 |false=>exact isTrue_or_nil e
 |true=>exact e
theorem Ae(ha:PT X a tA)(hb:PW X (.BoolOp .And (b::rest) pos) tB'):PW X (.BoolOp .And (a::b::rest) pos) (CW tA tB'):=by
 intro wh pins s σ H Q I h;refine isTrue_and (thn (ha pins s σ H _ I h) λc s1 ⟨H1,I1,q1⟩=>?_);cases c with
 |true=>exact hb wh pins s1 σ H1 Q I1 q1
 |false=>exact⟨H1,I1,q1⟩
theorem BB(ha:PT X a tA)(hb:PW X (.BoolOp .Or (b::rest) pos) tB'):PW X (.BoolOp .Or (a::b::rest) pos) (tOr tA tB'):=by
 intro wh pins s σ H Q I h;refine isTrue_or (thn (ha pins s σ H _ I h) λc s1 ⟨H1,I1,q1⟩=>?_);cases c with
 |true=>exact⟨H1,I1,q1⟩
 |false=>exact hb wh pins s1 σ H1 Q I1 q1
theorem Bk(ha:PT X a tA):PT X (.UnaryOp .Not a pos) (Dc tA):=by
 intro pins s σ H Q I h;exact isTrue_not (ha pins s σ H (λc H1=>Q (!c) H1) I h)
noncomputable def Ce(ta tb:TE):TE:=λσ H Q=>ta σ H λx H1=>∃c,x=.bl c/\if c=true then tb σ H1 Q else Q (.bl false) H1
theorem AS{op}{t:TE}(h:PE X a t):PE X (.BoolOp op [a] pos) t:=λpins s σ H Q I hw=>BoolOp_one (h pins s σ H Q I hw)
theorem Az(ha:PE X a ta)(hb:PE X (.BoolOp .And (b::rest) pos) tb):PE X (.BoolOp .And (a::b::rest) pos) (Ce ta tb):=by
 intro pins s σ H Q I h;refine BoolOp_and (thn (ha pins s σ H _ I h) λv s1 ⟨x,H1,I1,r1,q1⟩=>?_);obtain⟨c,rfl,q1⟩:=q1;cases r1;refine wpAny_truthy_bool ?_;cases c with
 |true=>exact hb pins s1 σ H1 Q I1 q1
 |false=>exact⟨.bl false,H1,I1,rfl,q1⟩
end
noncomputable def SqL(K:PySem.W.Frag)(H:Hp)(a:Addr)(xs:List V):Prop:=
 Rd H a (.lst xs)\/
  ∃(o:Obj) (its:Array Value) (n:Nat),K.lookup a=some o/\o.cls=.type "list"/\o.dict=none/\o.data=.seq its n/\its.size<=sizeLine/\aV xs its.toList
noncomputable def SqT(K:PySem.W.Frag)(H:Hp)(a:Addr)(xs:List V):Prop:=
 Rd H a (.tup xs)\/
  ∃(o:Obj) (its:Array Value) (n:Nat),K.lookup a=some o/\o.cls=.type "tuple"/\o.data=.seq its n/\its.size<=sizeLine/\aV xs its.toList
noncomputable def Dg:Value->Option V
 |.none=>some .non
 |.bool b=>some (.bl b)
 |.int i _=>some (.int i)
 |.str x _=>some (.str x)
 |.bytes b _=>some (.byt b)
 |.float b _=>some (.flt b)
 |.ref a=>some (.ref a)
 |.type n=>some (.ty n)
 |_=>none
theorem aY.abs{x:V}{u:Value}(r:aY x u):Dg u=some x:=by
 cases x with
 |non=>cases r;rfl
 |bl _=>cases r;rfl
 |int _=>obtain⟨t,rfl⟩:=r;rfl
 |str _=>obtain⟨t,rfl⟩:=r;rfl
 |byt _=>obtain⟨t,rfl⟩:=r;rfl
 |flt _=>obtain⟨t,rfl⟩:=r;rfl
 |ref _=>cases r;rfl
 |ty _=>cases r;rfl
theorem aY.inj{x y:V}{u:Value}(r:aY x u)(q:aY y u):x=y:=Option.some.inj (r.abs.symm.trans q.abs)
theorem aV.inj:∀{xs ys:List V} {us:List Value},aV xs us->aV ys us->xs=ys:=λ{xs ys us} h=>by
 induction h generalizing ys with
 |nil=>intro g;cases g;rfl
 |cons r t ih=>intro g;cases g with | cons r' t'=>rw[r.inj r',ih t']
section
variable{X:Cx}{pins:List (Addr×Obj)}{σ:St}{H:Hp}{s:Shared}{a:Addr}{xs ys:List V}
theorem SqL.of{K:PySem.W.Frag}(h:H a=some (.lst xs)):SqL K H a xs:=.inl (.inl h)
theorem SqT.of{K:PySem.W.Frag}(h:H a=some (.tup xs)):SqT K H a xs:=.inl (.inl h)
theorem Inv.list(I:Inv X pins σ H s)(h:SqL X.K H a xs):∃its:List Value,aV xs its/\PlainL s.heap a its.toArray/\xs.length<=sizeLine:=by
 rcases h with h | ⟨o,its,n,hk,hc,hd,hs,hz,r⟩
 ·obtain⟨z,its,n,r,e⟩:=h.ok I.hok
  exact⟨its,r,⟨_,n,e,rfl,rfl,rfl⟩,z⟩
 ·refine⟨its.toList,r,⟨o,n,I.kIn a o hk,hc,hd,by simpa using hs⟩,?_⟩
  have e:=r.length;simp only[Array.length_toList] at e
  lia
theorem Inv.tuple(I:Inv X pins σ H s)(h:SqT X.K H a xs):∃its:List Value,aV xs its/\IsTup s.heap a its.toArray/\xs.length<=sizeLine:=by
 rcases h with h | ⟨o,its,n,hk,hc,hs,hz,r⟩
 ·obtain⟨z,its,r,p⟩:=h.ok I.hok
  exact⟨its,r,p,z⟩
 ·refine⟨its.toList,r,⟨o,I.kIn a o hk,hc,n,by simpa using hs⟩,?_⟩
  have e:=r.length;simp only[Array.length_toList] at e
  lia
theorem Inv.list_inj(I:Inv X pins σ H s)(h:SqL X.K H a xs)(h':SqL X.K H a ys):xs=ys:=by
 obtain⟨its,r,⟨o,n,e,_,_,d⟩,_⟩:=I.list h;obtain⟨its',r',⟨o',n',e',_,_,d'⟩,_⟩:=I.list h';rw[e] at e';cases e';rw[d] at d';injection d' with d1 _
 have:its=its':=by simpa using congrArg Array.toList d1
 subst this;exact r.inj r'
theorem Inv.tuple_inj(I:Inv X pins σ H s)(h:SqT X.K H a xs)(h':SqT X.K H a ys):xs=ys:=by
 obtain⟨its,r,⟨o,e,_,n,d⟩,_⟩:=I.tuple h;obtain⟨its',r',⟨o',e',_,n',d'⟩,_⟩:=I.tuple h';rw[e] at e';cases e';rw[d] at d';injection d' with d1 _
 have:its=its':=by simpa using congrArg Array.toList d1
 subst this;exact r.inj r'
end
noncomputable abbrev Cx.wish(X:Cx)(E:Value->Shared->Prop):Cx:={ X with xe:=E }
noncomputable abbrev Cx.nox(X:Cx):Cx:=X.wish λ_ _=>False
theorem Cx.Ok.wish{X:Cx}(ok:X.Ok)(E:Value->Shared->Prop):(X.wish E).Ok:=
 ⟨ok.mod,ok.kind,ok.glob,ok.blt,ok.above,ok.inj,ok.has,ok.cab,ok.hd,ok.frames,ok.stk,ok.exf,ok.bs,ok.bsz,ok.noex,ok.exfs,ok.funs,ok.frf⟩
theorem Cx.Ok.unwish{X:Cx}{E:Value->Shared->Prop}(ok:(X.wish E).Ok):X.Ok:=
 ⟨ok.mod,ok.kind,ok.glob,ok.blt,ok.above,ok.inj,ok.has,ok.cab,ok.hd,ok.frames,ok.stk,ok.exf,ok.bs,ok.bsz,ok.noex,ok.exfs,ok.funs,ok.frf⟩
section
variable{X:Cx}{pins:List (Addr×Obj)}{σ:St}{H:Hp}{s:Shared}{E:Value->Shared->Prop}
theorem Inv.wish(I:Inv X pins σ H s)(E:Value->Shared->Prop):Inv (X.wish E) pins σ H s:=⟨I.ok.wish E,I.os,I.bare,I.base,I.loc,I.cell,I.free,I.freeC,I.pin,I.hok,I.len⟩
theorem Inv.unwish(I:Inv (X.wish E) pins σ H s):Inv X pins σ H s:=⟨I.ok.unwish,I.os,I.bare,I.base,I.loc,I.cell,I.free,I.freeC,I.pin,I.hok,I.len⟩
theorem SP.unwish{D:Ends}{f:Flow}{s':Shared}(h:SP (X.wish E) pins D f s'):SP X pins D f s':=by
 cases f with
 |next=>obtain⟨σ',H',I,q⟩:=h;exact⟨σ',H',I.unwish,q⟩
 |brk=>obtain⟨σ',H',I,q⟩:=h;exact⟨σ',H',I.unwish,q⟩
 |cont=>obtain⟨σ',H',I,q⟩:=h;exact⟨σ',H',I.unwish,q⟩
 |ret u=>obtain⟨v,σ',H',I,r,q⟩:=h;exact⟨v,σ',H',I.unwish,r,q⟩
theorem PE.nox{e:Expr}{t:TE}(h:PE X.nox e t):PE X e t:=λpins s σ H Q I hw=>
 wpAny_mono (h pins s σ H Q (I.wish _) hw) (λ_ _ ⟨v,H',I',r,q⟩=>⟨v,H',I'.unwish,r,q⟩) λ_ _ z=>False.elim z
theorem PT.nox{e:Expr}{t:TT}(h:PT X.nox e t):PT X e t:=λpins s σ H Q I hw=>
 wpAny_mono (h pins s σ H Q (I.wish _) hw) (λ_ _ ⟨H',I',q⟩=>⟨H',I'.unwish,q⟩) λ_ _ z=>False.elim z
theorem PSs.nox{st:List Stmt}{t:TS}(h:PSs X.nox st t):PSs X st t:=λpins s σ H D I hw=>
 wpAny_mono (h pins s σ H D (I.wish _) hw) (λ_ _ q=>q.unwish) λ_ _ z=>False.elim z
end
section
variable{X:Cx}{st:Stmt}{rest:List Stmt}{t u:TS}{e:Expr}{te:TE}{pos:Pos}
noncomputable def Bz:TS:=λD σ H=>D.nx σ H
noncomputable def Dl(t u:TS):TS:=λD σ H=>t { D with nx:=u D } σ H
theorem yb:PSs X [] Bz:=λ_ _ σ H _ I h=>wpAny_execs_nil ⟨σ,H,I,h⟩
theorem uP(h1:PS X st t)(h2:PSs X rest u):PSs X (st::rest) (Dl t u):=by
 intro pins s σ H D I h;refine wpAny_execs_cons (thn (h1 pins s σ H { D with nx:=u D } I h) λf s1 q=>?_);cases f with
 |next=>
  obtain⟨σ',H',I',q⟩:=q;exact h2 pins s1 σ' H' D I' q
 |ret v=>exact q
 |brk=>exact q
 |cont=>exact q
theorem yv(h1:PS X st t):PSs X [st] t:=by
 intro pins s σ H D I h;refine wpAny_execs_cons (thn (h1 pins s σ H D I h) λf s1 q=>?_);cases f with
 |next=>exact wpAny_execs_nil q
 |ret v=>exact q
 |brk=>exact q
 |cont=>exact q
noncomputable def BG:TS:=λD σ H=>D.ct σ H
theorem ot:PS X (.Continue pos) BG:=λ_ _ σ H _ I h=>wpAny_Continue ⟨σ,H,I,h⟩
theorem Inv.quiet{pins:List (Addr×Obj)}{σ:St}{H:Hp}{s:Shared}(I:Inv X pins σ H s):interactive X.env=false:=by simp[interactive,I.ok.kind]
noncomputable def B2(te:TE):TS:=λD σ H=>te σ H λ_ H1=>D.nx σ H1
theorem xx(he:PE X e te)(hs:swapsWith e none pos.line X.env=pure false:=by rfl):PS X (.Expr e pos) (B2 te):=by
 intro pins s σ H D I h;exact wpAny_Expr_any (thn (he pins s σ H _ I h) λv s1 ⟨x,H1,I1,r1,q1⟩=>⟨σ,H1,I1,q1⟩) I.quiet hs
noncomputable def CT(te:TE):TS:=λD σ H=>te σ H D.rt
theorem ua(he:PE X e te):PS X (.Return (some e) pos) (CT te):=by
 intro pins s σ H D I h;exact wpAny_Return_some (thn (he pins s σ H _ I h) λv s1 ⟨x,H1,I1,r1,q1⟩=>⟨x,σ,H1,I1,r1,q1⟩)
noncomputable def C_(c:TT)(t u:TS):TS:=λD σ H=>c σ H λb H1=>if b=true then t D σ H1 else u D σ H1
theorem Cs{c:Expr}{a b:List Stmt}{tc:TT}(hc:PT X c tc)(ha:PSs X a t)(hb:PSs X b u):PS X (.If c a b pos) (C_ tc t u):=by
 intro pins s σ H D I h;refine wpAny_If (thn (hc pins s σ H _ I h) λd s1 ⟨H1,I1,q1⟩=>?_);cases d with
 |true=>exact ha pins s1 σ H1 D I1 q1
 |false=>exact hb pins s1 σ H1 D I1 q1
end
noncomputable abbrev TG:=V->St->Hp->(St->Hp->Prop)->Prop
noncomputable abbrev TGs:=List V->St->Hp->(St->Hp->Prop)->Prop
noncomputable def PG(X:Cx)(target:Expr)(t:TG):Prop:=
 ∀(pins:List (Addr×Obj)) (s:Shared) (σ:St) (H:Hp) (v:V) (u:Value) (Q:St->Hp->Prop),Inv X pins σ H s->aY v u->t v σ H Q->
  wpAny (model X.prog X.w) X.A (assign target X.env u) (λ_ s'=>∃σ' H',Inv X pins σ' H' s'/\Q σ' H') X.xe s
noncomputable def PGs(X:Cx)(ts:List Expr)(t:TGs):Prop:=
 ∀(pins:List (Addr×Obj)) (s:Shared) (σ:St) (H:Hp) (vs:List V) (us:List Value) (Q:St->Hp->Prop),Inv X pins σ H s->aV vs us->t vs σ H Q->
  wpAny (model X.prog X.w) X.A (assignInOrder ((assignEach ts X.env).map (·.2)) us) (λ_ s'=>∃σ' H',Inv X pins σ' H' s'/\Q σ' H') X.xe s
noncomputable abbrev zU:=V->V->V->Hp->(Hp->Prop)->Prop
noncomputable def Cb(X:Cx)(t:zU):Prop:=
 ∀(pins:List (Addr×Obj)) (s:Shared) (σ:St) (H:Hp) (o i v:V) (ov iv u:Value) (Q:Hp->Prop),Inv X pins σ H s->aY o ov->aY i iv->aY v u->t o i v H Q->
  wpAny (model X.prog X.w) X.A (setItem ov iv u) (λ_ s'=>∃H',Inv X pins σ H' s'/\Q H') X.xe s
section
variable{X:Cx}{pos:Pos}
noncomputable def zj(i:Nat):TG:=λv σ H Q=>Q (σ.set i (some v)) H
theorem xn{i:Nat}{x:Str}(hN:X.N.Nodup)(hi:X.N[i]?=some x)(hx:Loc X.env.scope x)(hf:X.fn x=true\/X.env.scope.names.lookup x=some .local:=by first | exact .inl rfl | exact .inr rfl | assumption):PG X (.Name x pos) (zj i):=by
 intro pins s σ H v u Q I r h;exact wpAny_assign_Name (gc I hN hi hx r (λs' I'=>⟨_,H,I',h⟩) hf)
noncomputable def Dh:TGs:=λvs σ H Q=>vs=[]/\Q σ H
noncomputable def CM(t:TG)(u:TGs):TGs:=λvs σ H Q=>∃v r,vs=v::r/\t v σ H λσ' H'=>u r σ' H' Q
theorem xw:PGs X [] Dh:=by
 intro pins s σ H vs us Q I r h;obtain⟨e,h⟩:=h;subst e;cases r;exact assignInOrder_nil ⟨σ,H,I,h⟩
theorem ue{e:Expr}{es:List Expr}{t:TG}{u:TGs}(h1:PG X e t)(h2:PGs X es u)
  (hs:(assignEach (e::es) X.env).map (·.2)=assign e X.env::(assignEach es X.env).map (·.2):=by rfl):PGs X (e::es) (CM t u):=by
 intro pins s σ H vs us Q I r h;obtain⟨v,vr,e1,h⟩:=h;subst e1;cases r with
 |cons r rr=>
  rw[hs];refine assignInOrder_cons (thn (h1 pins s σ H _ _ _ I r h) λ_ s1 ⟨σ1,H1,I1,q1⟩=>?_);exact h2 pins s1 σ1 H1 _ _ Q I1 rr q1
noncomputable def C7(K:PySem.W.Frag)(n:Nat)(t:TGs):TG:=λv σ H Q=>∃a xs,v=.ref a/\SqT K H a xs/\xs.length=n/\t xs σ H Q
theorem u_{es:List Expr}{k:Nat}{t:TGs}{n:Nat}(hc:X.calm=true)(h:PGs X es t)
  (hn:(assignEach es X.env).length=n:=by rfl) (hst:(assignEach es X.env).findIdx? (·.1)=none:=by rfl):PG X (.Tuple es k pos) (C7 X.K n t):=by
 intro pins s σ H v u Q I r hw;obtain⟨a,xs,e1,hq,hl,hw⟩:=hw;subst e1;cases r;obtain⟨its,rv,ht,hz⟩:=I.tuple hq;refine assign_Tuple_tuple (I.ok.hd hc) ht (by simp[hn,<-hl,rv.length]) hst λh' hx=>?_;have I1:Inv X pins σ H { s with heap:=h' }:=I.kept (t':=s.toks) λb o e=>hx b o (Nat.ne_of_lt (Heap.lt_size e)) e;exact h pins _ σ H xs _ Q I1 (by simpa using rv) hw
noncomputable def CU(to ti:TE)(t:zU):TG:=λv σ H Q=>to σ H λo H1=>ti σ H1 λi H2=>t o i v H2 λH3=>Q σ H3
theorem Ah{o i:Expr}{to ti:TE}{t:zU}(ho:PE X o to)(hi:PE X i ti)(hs:Cb X t)
  (ha:∀v,assign (.Subscript o i pos) X.env v=(do
   let ov<-holding [v] (eval o X.env);let iv<-holding [v,ov] (eval i X.env)
   standAt pos
   holding [v,ov,iv] (setItem ov iv v)
   release [v,ov,iv] []):=by intro _;rfl):PG X (.Subscript o i pos) (CU to ti t):=by
 intro pins s σ H v u Q I r h;rw[ha];refine wpAny_bind (wpAny_holding (thn (ho pins s σ H _ I h) λov s1 ⟨x,H1,I1,r1,q1⟩=>?_));refine wpAny_bind (wpAny_holding (thn (hi pins s1 σ H1 _ I1 q1) λiv s2 ⟨y,H2,I2,r2,q2⟩=>?_));refine wpAny_bind (wpAny_standAt (wpAny_bind (wpAny_holding (thn (hs pins s2 σ H2 x y v ov iv u _ I2 r1 r2 r q2) λ_ s3 ⟨H3,I3,q3⟩=>?_))));exact wpAny_release ⟨σ,H3,I3,q3⟩
noncomputable def BJ(te:TE)(g:TG):TS:=λD σ H=>te σ H λx H1=>g x σ H1 D.nx
theorem uY{tg e:Expr}{te:TE}{g:TG}(he:PE X e te)(hg:PG X tg g)(hs:swapsWithSole [tg] e pos.line X.env=pure false:=by rfl)(hw:swappedStores [tg] e X.env=pure none:=by rfl)
  (h1:(assignEach [tg] X.env).map (·.2)=[assign tg X.env]:=by rfl):PS X (.Assign [tg] e pos) (BJ te g):=by
 intro pins s σ H D I h;refine wpAny_Assign_stores (thn (he pins s σ H _ I h) λv s1 ⟨x,H1,I1,r1,q1⟩=>?_) hs hw;rw[h1];exact thn (hg pins s1 σ H1 x v _ I1 r1 q1) λ_ s2 q=>q
theorem qu{i:Nat}{x:Str}{e:Expr}{te:TE}{pos':Pos}(hN:X.N.Nodup)(hi:X.N[i]?=some x)(hx:Loc X.env.scope x)(he:PE X e te)(hs:swapsWith e (some (.Name x pos')) pos.line X.env=pure false:=by rfl)(hf:X.fn x=true\/X.env.scope.names.lookup x=some .local:=by first | exact .inl rfl | exact .inr rfl | assumption) :
  PS X (.Assign [.Name x pos'] e pos) (BJ te (zj i)):=by
 intro pins s σ H D I h;refine wpAny_Assign_Name (thn (he pins s σ H _ I h) λv s1 ⟨y,H1,I1,r1,q1⟩=>?_) hs;exact gc I1 hN hi hx r1 (λs2 I2=>⟨_,H1,I2,q1⟩) hf
noncomputable def C5(i j:Nat)(ta:TA):TS:=λD σ H=>ta σ H λvs H1=>∃v w,vs=[v,w]/\D.nx ((σ.set i (some v)).set j (some w)) H1
theorem Bo{i j:Nat}{x y:Str}{a b:Expr}{ta:TA}{px py pt:Pos}{kt k2 pt2}(hc:X.calm=true)(hN:X.N.Nodup)(hi:X.N[i]?=some x)(hj:X.N[j]?=some y)(hij:i≠j)
  (hx:X.env.scope.names.lookup x=some .local) (hy:X.env.scope.names.lookup y=some .local) (ha:PA X [a,b] ta)
  (hw:swappedStores [.Tuple [.Name x px,.Name y py] kt pt] (.Tuple [a,b] k2 pt2) X.env=pure (some [x,y]))
  (hs:swapsWithSole [.Tuple [.Name x px,.Name y py] kt pt] (.Tuple [a,b] k2 pt2) pos.line X.env=pure false:=by rfl) :
  PS X (.Assign [.Tuple [.Name x px,.Name y py] kt pt] (.Tuple [a,b] k2 pt2) pos) (C5 i j ta):=by
 intro pins s σ H D I h;rw[exec_Assign_arm];refine wpAny_bind (wpAny_standAt ?_);rw[hs];refine wpAny_bind (wpAny_pure ?_);rw[if_neg (by decide)];refine wpAny_bind (Tuple_ (thn (ha _ pins s σ H _ I h) λus s1 ⟨vs,H1,I1,r1,q1⟩=>?_));obtain⟨v,w,e1,q1⟩:=q1;subst e1
 obtain⟨u1,u2,rfl,rv,rw'⟩:∃u1 u2,us=[u1,u2]/\aY v u1/\aY w u2:=by
  cases r1 with
  |cons p q=>
   cases q with
   |cons p' q'=>
    cases q';exact⟨_,_,rfl,p,p'⟩
 refine wpAny_newObj_type ?_ (by show 2<=sizeLine;decide);have I2:Inv X pins σ H1 { s1 with heap:=s1.heap.push { cls:=.type "tuple",data:=.seq [u1,u2].toArray } }:=I1.kept (t':=s1.toks) λb o e=>Heap.get?_push_of_some _ e;rw[hw];refine wpAny_bind (wpAny_pure ?_);show wpAny (model X.prog X.w) X.A (do rule "assign.swapped-stores";let items<-unpackItems (.ref s1.heap.objs.size) 2 none;assignInOrder [λv=>bindName X.env y v,λv=>bindName X.env x v] items.reverse;pure Flow.next) _ _ _;refine wpAny_bind (wpAny_rule (wpAny_bind (unpackItems_tuple (items:=#[u1,u2]) (I.ok.hd hc) (IsTup.new s1.heap _) λh' hx'=>?_)));have I3:=I2.kept (h':=h') (t':=s1.toks) λb o e=>hx' b o (Nat.ne_of_lt (Heap.lt_size e)) e;show wpAny _ _ (assignInOrder [λv=>bindName X.env y v,λv=>bindName X.env x v] [u2,u1]>>=λ_=>pure Flow.next) _ _ _;refine wpAny_bind (assignInOrder_cons (wpAny_bindName (gc I3 hN hj (.inl hy) rw' (λs2 I4=>?_) (.inr hy))));refine assignInOrder_cons (wpAny_bindName (gc I4 hN hi (.inl hx) rv (λs3 I5=>assignInOrder_nil (wpAny_pure ?_)) (.inr hx)));rw[List.set_comm _ _ (Ne.symm hij)] at I5;exact⟨_,H1,I5,q1⟩
end
structure It where
 go:Nat->Hp->Prop
 yld:Nat->Hp->V->Hp->Prop
 stop:Nat->Hp->Prop
noncomputable def jc(X:Cx)(pins:List (Addr×Obj))(H:Hp)(b:Addr):Prop:=
 H b=none/\b≠X.env.locals/\b∉X.fs/\(b∈X.ex\/X.s₀.heap.objs.size<=b)/\(∀x c,X.env.cells.lookup x=some c->c≠b)/\∀p∈X.pn++pins,p.1≠b
theorem Inv.fpOk{X:Cx}{pins:List (Addr×Obj)}{σ:St}{H H':Hp}{s:Shared}{b:Addr}(I:Inv X pins σ H s)(hb:s.heap.objs.size<=b)(hn:H' b=none):jc X pins H' b:=by
 refine⟨hn,Nat.ne_of_gt (Nat.lt_of_lt_of_le I.lt hb),I.nofs hb,.inr (Nat.le_trans I.sz hb),λx c e z=>?_,λp hp z=>?_⟩
 ·obtain⟨v,q⟩:=I.cell x c e
  exact absurd (Nat.lt_of_lt_of_le q.lt (by rw[z];exact hb)) (Nat.lt_irrefl _)
 ·exact absurd (Nat.lt_of_lt_of_le (Heap.lt_size (I.pin p hp).1) (by rw[z];exact hb)) (Nat.lt_irrefl _)
structure Turn(P:Program)(w:World)(K:PySem.W.Frag)(tg:Expr)(J:It)(fp:List Addr)(it:Addr)(tn:Nat->Heap->Prop):Prop where
 mem:it∈fp
 obj:∀i h,tn i h->∀b∈fp,∃o,h.get? b=some o/\∀v,o.data≠.cell v
 keep:∀i h h',tn i h->(∀b∈fp,∀o,h.get? b=some o->h'.get? b=some o)->tn i h'
 item:∀(X:Cx),X.prog=P->X.w=w->X.K=K->X.calm=true->∀(i:Nat) (pins:List (Addr×Obj)) (s:Shared) (σ:St) (H:Hp) (E:Value->Shared->Prop),Inv X pins σ H s->(∀b∈fp,jc X pins H b)->tn i s.heap->J.go i H->
  wpAny (model P w) X.A (pyNext (.ref it)) (λr s1=>∃u,r=some u/\
   wpAny (model P w) X.A (letOwnedTupleGo tg (.ref it) u) (λ_ s2=>∃x H',Inv X pins σ H' s2/\aY x u/\J.yld i H x H'/\tn (i+1) s2.heap/\∀b∈fp,H' b=none) E s1) E s
 done:∀(X:Cx),X.prog=P->X.w=w->X.K=K->X.calm=true->∀(i:Nat) (pins:List (Addr×Obj)) (s:Shared) (σ:St) (H:Hp) (E:Value->Shared->Prop),Inv X pins σ H s->(∀b∈fp,jc X pins H b)->tn i s.heap->J.stop i H->
  wpAny (model P w) X.A (pyNext (.ref it)) (λr s1=>r=none/\Inv X pins σ H s1) E s
 self:∀(A:Around) (i:Nat) (s:Shared) (Q:Value->Shared->Prop) (E:Value->Shared->Prop),tn i s.heap->Q (.ref it) s->wpAny (model P w) A (pyIter (.ref it)) Q E s
noncomputable abbrev TI:=St->Hp->(It->Hp->Prop)->Prop
noncomputable def PIE(X:Cx)(pins:List (Addr×Obj))(σ:St)(tg:Expr)(R:It->Hp->Prop)(itv:Value)(s2:Shared):Prop:=
 ∃(it:Addr) (fp:List Addr) (tn:Nat->Heap->Prop) (J:It) (H':Hp),itv=.ref it/\Inv X pins σ H' s2/\Turn X.prog X.w X.K tg J fp it tn/\tn 0 s2.heap/\(∀b∈fp,jc X pins H' b)/\R J H'
noncomputable def PI(X:Cx)(tg iter:Expr)(wi:TI):Prop:=
 ∀(pins:List (Addr×Obj)) (s:Shared) (σ:St) (H:Hp) (R:It->Hp->Prop),Inv X pins σ H s->wi σ H R->
  wpAny (model X.prog X.w) X.A (eval iter X.env) (λv s1=>wpAny (model X.prog X.w) X.A (pyIter v) (PIE X pins σ tg R) X.xe s1) X.xe s
theorem uH{M:Model}{A:Around}{E:Value->Shared->Prop}{s:Shared}{tg:Expr}{it:Addr}{u:Value}{o:Obj}{n:String}{vs:Array Value}{Q:Unit->Shared->Prop}(ho:s.heap.get? it=some o)(hc:o.cls=.type n)(hd:o.data=.fields vs)
  (hn:["enumerate","zip","dict_itemiterator","dict_reverseitemiterator","odict_iterator","itertools.zip_longest","itertools.pairwise"].contains n=false) (hQ:Q () s):wpAny M A (letOwnedTupleGo tg (.ref it) u) Q E s:=by
 unfold letOwnedTupleGo
 cases tg<;>first
  |exact wpAny_pure hQ
  |(cases u<;>first
    |exact wpAny_pure hQ
    |(refine wpAny_bind (wpAny_load ho ?_)
      rw[hc,hd];show wpAny M A (if(["enumerate","zip","dict_itemiterator","dict_reverseitemiterator","odict_iterator","itertools.zip_longest","itertools.pairwise"].contains n&&vs[0]?==some (rawInt _))=true then _ else _) Q E s;rw[if_neg (by intro h;rw[hn,Bool.false_and] at h;cases h)]
      exact wpAny_pure hQ))
noncomputable def Itl(K:PySem.W.Frag)(a:Addr):It:=
 ⟨λi H=>∃xs x,SqL K H a xs/\xs[i]?=some x,λi H x H'=>H'=H/\∀xs,SqL K H a xs->xs[i]?=some x,λi H=>∃xs,SqL K H a xs/\xs.length<=i⟩
noncomputable def Itt(K:PySem.W.Frag)(a:Addr):It:=
 ⟨λi H=>∃xs x,SqT K H a xs/\xs[i]?=some x,λi H x H'=>H'=H/\∀xs,SqT K H a xs->xs[i]?=some x,λi H=>∃xs,SqT K H a xs/\xs.length<=i⟩
noncomputable def Itr(lo:Int)(n:Nat):It:=⟨λi _=>i<n,λi H x H'=>H'=H/\x=.int (lo+i),λi _=>n<=i⟩
theorem tV{P:Program}{w:World}{K:PySem.W.Frag}{tg:Expr}(a it:Addr):Turn P w K tg (Itl K a) [it] it (λi h=>h.IsListIter it a i) where
 mem:=by simp
 obj:=λi h st b hb=>by
  have e:b=it:=by simpa using hb
  subst e;obtain⟨o,e,c,d⟩:=st;exact⟨o,e,λv z=>by rw[d] at z;cases z⟩
 keep:=λi h h' st k=>st.at λo e=>k it (by simp) o e
 item:=by
  intro X hP hw hK hc i pins s σ H E I hf st hg;subst hP hw hK;obtain⟨xs,x,hq,hx⟩:=hg;obtain⟨its,rv,p,hz⟩:=I.list hq;obtain⟨u,hu,ru⟩:=rv.get hx;obtain⟨f0,f1,f2,f3,f4,f5⟩:=hf it (by simp);refine wpAny_pyNext_list_item st p.isList (x:=u) (by simpa using hu) λh' st' sb=>?_;have I1:Inv X pins σ H { s with heap:=h' }:=I.turned (t':=s.toks) (λb o hb e=>(sb.2 b hb).trans e) f0 f1 f3 f4 f5;obtain⟨o,e,c,d⟩:=id st';exact⟨u,rfl,uH (s:={ s with heap:=h' }) e c d (by decide) ⟨x,H,I1,ru,⟨rfl,λys hy=>by rw[I.list_inj hy hq];exact hx⟩,st',λb hb=>(hf b hb).1⟩⟩
 done:=by
  intro X hP hw hK hc i pins s σ H E I hf st hg;subst hP hw hK;obtain⟨xs,hq,hx⟩:=hg;obtain⟨its,rv,p,hz⟩:=I.list hq;obtain⟨f0,f1,f2,f3,f4,f5⟩:=hf it (by simp);have hl:=rv.length;exact wpAny_pyNext_list_end (I.ok.hd hc) st p.isList (by simp;lia) λh' eb=>⟨rfl,I.turned (t':=s.toks) (λb o hb e=>eb b o hb e) f0 f1 f3 f4 f5⟩
 self:=λ_ _ _ _ _ st h=>wpAny_pyIter_listiter st h
theorem qG{P:Program}{w:World}{K:PySem.W.Frag}{tg:Expr}(a it:Addr):Turn P w K tg (Itt K a) [it] it (λi h=>h.IsTupleIter it a i) where
 mem:=by simp
 obj:=λi h st b hb=>by
  have e:b=it:=by simpa using hb
  subst e;obtain⟨o,e,c,d⟩:=st;exact⟨o,e,λv z=>by rw[d] at z;cases z⟩
 keep:=λi h h' st k=>st.at λo e=>k it (by simp) o e
 item:=by
  intro X hP hw hK hc i pins s σ H E I hf st hg;subst hP hw hK;obtain⟨xs,x,hq,hx⟩:=hg;obtain⟨its,rv,p,hz⟩:=I.tuple hq;obtain⟨u,hu,ru⟩:=rv.get hx;obtain⟨f0,f1,f2,f3,f4,f5⟩:=hf it (by simp);refine wpAny_pyNext_tuple_item st (show s.heap.IsTuple a its.toArray from p) (x:=u) (by simpa using hu) λh' st' sb=>?_;have I1:Inv X pins σ H { s with heap:=h' }:=I.turned (t':=s.toks) (λb o hb e=>(sb.2 b hb).trans e) f0 f1 f3 f4 f5;obtain⟨o,e,c,d⟩:=id st';exact⟨u,rfl,uH (s:={ s with heap:=h' }) e c d (by decide) ⟨x,H,I1,ru,⟨rfl,λys hy=>by rw[I.tuple_inj hy hq];exact hx⟩,st',λb hb=>(hf b hb).1⟩⟩
 done:=by
  intro X hP hw hK hc i pins s σ H E I hf st hg;subst hP hw hK;obtain⟨xs,hq,hx⟩:=hg;obtain⟨its,rv,p,hz⟩:=I.tuple hq;obtain⟨f0,f1,f2,f3,f4,f5⟩:=hf it (by simp);have hl:=rv.length;exact wpAny_pyNext_tuple_end (I.ok.hd hc) st (show s.heap.IsTuple a its.toArray from p) (by simp;lia) λh' eb=>⟨rfl,I.turned (t':=s.toks) (λb o hb e=>eb b o hb e) f0 f1 f3 f4 f5⟩
 self:=λ_ _ _ _ _ st h=>wpAny_pyIter_tupleiter st h
theorem qk{P:Program}{w:World}{K:PySem.W.Frag}{tg:Expr}(it:Addr)(lo:Int)(n:Nat):Turn P w K tg (Itr lo n) [it] it (λi h=>IsRangeIter h it (lo+(i:Nat)*1) ((n:Int)-(i:Nat)) 1) where
 mem:=by simp
 obj:=λi h st b hb=>by
  have e:b=it:=by simpa using hb
  subst e
  exact⟨_,st,λv z=>by
   have z':Data.fields _=Data.cell v:=z
   cases z'⟩
 keep:=λi h h' st k=>k it (by simp) _ st
 item:=by
  intro X hP hw hK hc i pins s σ H E I hf st hg;subst hP hw hK;obtain⟨f0,f1,f2,f3,f4,f5⟩:=hf it (by simp);have W:=Walks.range (prog:=X.prog) (w:=X.w) (I.ok.hd hc) it lo 1 n;refine W.item i s _ _ hg st λv h' tk hv st' kk=>?_;obtain⟨t,rfl⟩:=hv;have I1:Inv X pins σ H { s with heap:=h',toks:=tk }:=I.turned (λb o hb e=>kk b o (by simpa using hb) e) f0 f1 f3 f4 f5;refine⟨_,rfl,uH (s:={ s with heap:=h',toks:=tk }) (n:="range_iterator") st' rfl rfl (by decide) ⟨.int (lo+i),H,I1,⟨t,?_⟩,⟨rfl,rfl⟩,st',λb hb=>(hf b hb).1⟩⟩;rw[Int.mul_one]
 done:=by
  intro X hP hw hK hc i pins s σ H E I hf st hg;subst hP hw hK;obtain⟨f0,f1,f2,f3,f4,f5⟩:=hf it (by simp);exact wpAny_pyNext_range_end (I.ok.hd hc) st (by have:n<=i:=hg;lia) λh' eb=>⟨rfl,I.turned (t':=s.toks) (λb o hb e=>eb b o hb e) f0 f1 f3 f4 f5⟩
 self:=λ_ _ _ _ _ st h=>wpAny_pyIter_rangeiter st h
section
variable{X:Cx}{tg:Expr}
noncomputable def Cc(K:PySem.W.Frag)(tl:TE):TI:=λσ H R=>tl σ H λx H1=>∃a,x=.ref a/\(∃xs,SqL K H1 a xs)/\R (Itl K a) H1
noncomputable def CY(K:PySem.W.Frag)(tl:TE):TI:=λσ H R=>tl σ H λx H1=>∃a,x=.ref a/\(∃xs,SqT K H1 a xs)/\R (Itt K a) H1
theorem xG{l:Expr}{tl:TE}(hl:PE X l tl):PI X tg l (Cc X.K tl):=by
 intro pins s σ H R I h;refine thn (hl pins s σ H _ I h) λv s1 ⟨x,H1,I1,r1,q1⟩=>?_;obtain⟨a,e,⟨xs,hq⟩,q⟩:=q1;subst e;cases r1;obtain⟨its,rv,p,hz⟩:=I1.list hq;refine wpAny_pyIter_list p.isList ?_;refine⟨s1.heap.objs.size,[s1.heap.objs.size],_,_,H1,rfl,I1.kept (t':=s1.toks) λb o e=>Heap.get?_push_of_some _ e,tV a _,⟨_,Heap.get?_push_size _ rfl,rfl,rfl⟩,λb hb=>?_,q⟩;have e:b=s1.heap.objs.size:=by simpa using hb
 subst e;exact I1.fpOk (Nat.le_refl _) (I1.hok.fresh (Nat.le_refl _))
theorem AJ{l:Expr}{tl:TE}(hl:PE X l tl):PI X tg l (CY X.K tl):=by
 intro pins s σ H R I h;refine thn (hl pins s σ H _ I h) λv s1 ⟨x,H1,I1,r1,q1⟩=>?_;obtain⟨a,e,⟨xs,hq⟩,q⟩:=q1;subst e;cases r1;obtain⟨its,rv,p,hz⟩:=I1.tuple hq;refine wpAny_pyIter_tuple (show s1.heap.IsTuple a its.toArray from p) ?_;refine⟨s1.heap.objs.size,[s1.heap.objs.size],_,_,H1,rfl,I1.kept (t':=s1.toks) λb o e=>Heap.get?_push_of_some _ e,qG a _,⟨_,Heap.get?_push_size _ rfl,rfl,rfl⟩,λb hb=>?_,q⟩;have e:b=s1.heap.objs.size:=by simpa using hb
 subst e;exact I1.fpOk (Nat.le_refl _) (I1.hok.fresh (Nat.le_refl _))
theorem vo{pins:List (Addr×Obj)}{σ:St}{H:Hp}{s:Shared}{R:It->Hp->Prop}{E:Value->Shared->Prop}{lo hi:Int}{t u v:Tok}{tk:Nat}(I:Inv X pins σ H s)(h1:-(2 ^ 62)<=lo)(h2:lo<2 ^ 62)(h3:-(2 ^ 62)<=hi)(h4:hi<2 ^ 62)
  (q:R (Itr lo (hi-lo).toNat) H):wpAny (model X.prog X.w) X.A (pyIter (.ref s.heap.objs.size)) (PIE X pins σ tg R) E { s with heap:=s.heap.push { cls:=.type "range",data:=.fields #[.int lo t,.int hi u,.int 1 v] },toks:=tk }:=by
 refine wpAny_pyIter_range (IsRange.new ..) (small_one h1 h2 h3 h4) ?_;have I1:Inv X pins σ H { s with heap:=s.heap.push { cls:=.type "range",data:=.fields #[.int lo t,.int hi u,.int 1 v] },toks:=tk }:=I.kept λb o e=>Heap.get?_push_of_some _ e
 refine⟨(s.heap.push { cls:=.type "range",data:=.fields #[.int lo t,.int hi u,.int 1 v] }).objs.size,[(s.heap.push { cls:=.type "range",data:=.fields #[.int lo t,.int hi u,.int 1 v] }).objs.size],_,_,H,rfl,
  I1.kept (t':=tk) λb o e=>Heap.get?_push_of_some _ e,qk _ lo (hi-lo).toNat,?_,λb hb=>?_,q⟩
 ·have e1:lo+((0:Nat):Int)*1=lo:=by simp
  have e2:(((hi-lo).toNat:Nat):Int)-((0:Nat):Int)=Builtin.Range.rangeSize lo hi 1:=by rw[rangeSize_one];split<;>lia
  show IsRangeIter _ _ (lo+((0:Nat):Int)*1) ((((hi-lo).toNat:Nat):Int)-((0:Nat):Int)) 1;rw[e1,e2];exact Heap.get?_push_size _ rfl
 ·have e:b=(s.heap.push { cls:=.type "range",data:=.fields #[.int lo t,.int hi u,.int 1 v] }).objs.size:=by simpa using hb
  subst e;exact I1.fpOk (Nat.le_refl _) (I1.hok.fresh (Nat.le_refl _))
noncomputable def Cu(ta:TA):TI:=λσ H R=>ta σ H λvs H1=>∃j:Int,vs=[.int j]/\-(2 ^ 62)<=j/\j<2 ^ 62/\R (Itr 0 j.toNat) H1
theorem sm{a:Expr}{ta:TA}{p pos:Pos}(hg:Gl X "range")(hm:X.mg "range" = none)(ha:PA X [a] ta)(hs:starEach [a] X.env=[(false,eval a X.env)]:=by rfl):PI X tg (.Call (.Name "range" p) [a] [] pos) (Cu ta):=by
 intro pins s σ H R I h;refine Call_ (jg I hg hm boot_range (PyProof.Rows.callWith_type1 (thn (ha pos pins s σ H _ I h) λus s1 ⟨vs,H1,I1,r1,q1⟩=>?_) hs rfl));obtain⟨j,e,q1,q2,q⟩:=q1;subst e;cases r1 with
 |cons r rr=>
  cases rr;obtain⟨t,rfl⟩:=r;exact call_range_1 (vo I1 (by lia) (by lia) q1 q2 (by simpa using q))
noncomputable def C0(wi:TI)(g:TG)(tb:TS):TS:=λD σ H=>wi σ H λJ H1=>∃W:Nat->Nat->St->Hp->Prop,(∃m,W 0 m σ H1)/\∀i m σ H,W i m σ H->
 (J.stop i H/\D.nx σ H)\/(J.go i H/\∃N:St->Hp->Prop,(∀σ' H',N σ' H'->∃m',m'<m/\W (i+1) m' σ' H')/\∀x H',J.yld i H x H'->g x σ H' λσ2 H2=>tb { D with nx:=N,ct:=N,bk:=D.nx } σ2 H2)
noncomputable def kx(fp:List Addr)(h:Heap):List (Addr×Obj):=fp.filterMap λb=>(h.get? b).map λo=>(b,o)
theorem fV{fp:List Addr}{h:Heap}{b:Addr}{o:Obj}(hb:b∈fp)(e:h.get? b=some o):(b,o)∈kx fp h:=List.mem_filterMap.mpr ⟨b,hb,by rw[e];rfl⟩
theorem tS{fp:List Addr}{h:Heap}{p:Addr×Obj}(hp:p∈kx fp h):p.1∈fp/\h.get? p.1=some p.2:=by
 obtain⟨b,hb,e⟩:=List.mem_filterMap.mp hp;cases q:h.get? b with
 |none=>rw[q] at e;cases e
 |some o=>
  rw[q] at e;have e':(b,o)=p:=Option.some.inj e;subst e';exact⟨hb,q⟩
theorem Inv.pinned{pins:List (Addr×Obj)}{σ:St}{H:Hp}{s:Shared}{fp:List Addr}(I:Inv X pins σ H s)(hf:∀b∈fp,jc X pins H b)(ho:∀b∈fp,∃o,s.heap.get? b=some o/\∀v,o.data≠.cell v):Inv X (pins++kx fp s.heap) σ H s:=
 I.pins_of λp hp=>(List.mem_append.mp hp).elim (λz=>I.pin p (List.mem_append_right _ z)) λz=>by
  obtain⟨hb,e⟩:=tS z;obtain⟨f0,f1,f2,_⟩:=hf p.1 hb;obtain⟨o,e',d⟩:=ho p.1 hb;rw[e] at e';cases e';exact⟨e,f0,f1,f2,d⟩
theorem Inv.unpinned{pins pl:List (Addr×Obj)}{σ:St}{H:Hp}{s:Shared}(I:Inv X (pins++pl) σ H s):Inv X pins σ H s:=I.pins_of λp hp=>I.pin p (List.mem_append_right _ (List.mem_append_left _ hp))
theorem AD{iter:Expr}{body:List Stmt}{wi:TI}{g:TG}{tb:TS}{pos:Pos}(hp:PassesOwn (model X.prog X.w) X.A X.env X.xe)(hc:X.calm=true)(hi:PI X tg iter wi)(hg:PG X tg g)(hb:PSs X body tb)
  (hs:∀x,foldedSetIterable iter X.env x=pure x:=by intro _;rfl):PS X (.For tg iter body [] pos) (C0 wi g tb):=by
 intro pins s σ H D I h;refine wpAny_For (thn (hi pins s σ H _ I h) λv s1 h1=>thn h1 λitv s2 h2=>?_) hs;obtain⟨it,fp,tn,J,H2,e,I2,T,st2,f2,W,⟨m0,w0⟩,turn⟩:=h2;subst e;have stat:∀{H':Hp},(∀b∈fp,H' b=none)->∀b∈fp,jc X pins H' b:=λhn b hb=>⟨hn b hb,(f2 b hb).2⟩;refine codeAny_forLoop_any (λn s'=>∃i σ' H',Inv X pins σ' H' s'/\tn i s'.heap/\(∀b∈fp,H' b=none)/\W i n σ' H') ?_ m0 ⟨0,σ,H2,I2,st2,λb hb=>(f2 b hb).1,w0⟩;rintro n s3 ⟨i,σ3,H3,I3,st3,fr3,w3⟩;rcases turn i n σ3 H3 w3 with⟨stop,qn⟩ | ⟨go,N,hN,step⟩
 ·refine wpAny_passesOwn hp (thn (T.done X rfl rfl rfl hc i pins s3 σ3 H3 X.xe I3 (stat fr3) st3 stop) λr s4 ⟨hr,I4⟩=>?_)
  subst hr;exact wpAny_execs_nil ⟨σ3,H3,I4,qn⟩
 ·refine wpAny_passesOwn hp (thn (T.item X rfl rfl rfl hc i pins s3 σ3 H3 X.xe I3 (stat fr3) st3 go) λr s4 ⟨u,hr,h4⟩=>?_)
  subst hr;refine wpAny_passesOwn hp (thn h4 λ_ s5 ⟨x,H5,I5,r5,y5,st5,fr5⟩=>?_);have I5':=I5.pinned (stat fr5) (T.obj _ _ st5);refine wpAny_passesOwn hp (thn (hg _ s5 σ3 H5 x u _ I5' r5 (step x H5 y5)) λ_ s6 ⟨σ6,H6,I6,q6⟩=>?_);refine wpAny_passesOwn hp (thn (hb _ s6 σ6 H6 _ I6 q6) λf s7 q7=>?_)
  have again:∀{σ7:St} {H7:Hp},Inv X (pins++kx fp s5.heap) σ7 H7 s7->N σ7 H7->∃m,m<n/\∃i σ' H',Inv X pins σ' H' s7/\tn i s7.heap/\(∀b∈fp,H' b=none)/\W i m σ' H':=λ{σ7 H7} I7 n7=>by
   obtain⟨m',hm,w7⟩:=hN σ7 H7 n7;refine⟨m',hm,i+1,σ7,H7,I7.unpinned,T.keep _ _ _ st5 λb hb o e=>(I7.pin (b,o) (List.mem_append_right _ (List.mem_append_right _ (fV hb e)))).1,λb hb=>?_,w7⟩;obtain⟨o,e,d⟩:=T.obj _ _ st5 b hb;exact(I7.pin (b,o) (List.mem_append_right _ (List.mem_append_right _ (fV hb e)))).2.1
  cases f with
  |next=>obtain⟨σ7,H7,I7,n7⟩:=q7;exact again I7 n7
  |cont=>obtain⟨σ7,H7,I7,n7⟩:=q7;exact again I7 n7
  |brk=>obtain⟨σ7,H7,I7,q7⟩:=q7;exact⟨σ7,H7,I7.unpinned,q7⟩
  |ret v=>obtain⟨x7,σ7,H7,I7,r7,q7⟩:=q7;exact⟨x7,σ7,H7,I7.unpinned,r7,q7⟩
end
noncomputable abbrev R2:=V->V->Hp->VK->Prop
noncomputable def OpR(X:Cx)(f:Value->Value->Sem Value)(r:R2):Prop:=
 ∀(pins:List (Addr×Obj)) (s:Shared) (σ:St) (H:Hp) (x y:V) (v u:Value) (Q:VK),Inv X pins σ H s->aY x v->aY y u->r x y H Q->
  wpAny (model X.prog X.w) X.A (f v u) (EP X pins σ Q) X.xe s
noncomputable def UnR(X:Cx)(f:Value->Sem Value)(r:V->Hp->VK->Prop):Prop:=
 ∀(pins:List (Addr×Obj)) (s:Shared) (σ:St) (H:Hp) (x:V) (v:Value) (Q:VK),Inv X pins σ H s->aY x v->r x H Q->
  wpAny (model X.prog X.w) X.A (f v) (EP X pins σ Q) X.xe s
noncomputable def dW(X:Cx)(f:Value)(r:List V->Hp->VK->Prop):Prop:=
 ∀(pins:List (Addr×Obj)) (s:Shared) (σ:St) (H:Hp) (xs:List V) (us:List Value) (Q:VK),Inv X pins σ H s->aV xs us->r xs H Q->
  wpAny (model X.prog X.w) X.A (call f us) (EP X pins σ Q) X.xe s
noncomputable def CP(X:Cx)(r:V->Hp->(Bool->Hp->Prop)->Prop):Prop:=
 ∀(pins:List (Addr×Obj)) (s:Shared) (σ:St) (H:Hp) (x:V) (v:Value) (Q:Bool->Hp->Prop),Inv X pins σ H s->aY x v->r x H Q->
  wpAny (model X.prog X.w) X.A (truthy v) (TP X pins σ Q) X.xe s
noncomputable def tOp(r:R2)(ta tb:TE):TE:=λσ H Q=>ta σ H λx H1=>tb σ H1 λy H2=>r x y H2 Q
noncomputable def tUn(r:V->Hp->VK->Prop)(ta:TE):TE:=λσ H Q=>ta σ H λx H1=>r x H1 Q
noncomputable def rI(C:Int->Int->Prop)(g:Int->Int->V):R2:=λx y H Q=>∃i j,x=.int i/\y=.int j/\C i j/\Q (g i j) H
noncomputable def rI0(g:Int->Int->V):R2:=λx y H Q=>∃i j,x=.int i/\y=.int j/\Q (g i j) H
noncomputable def rU(g:Int->V):V->Hp->VK->Prop:=λx H Q=>∃i,x=.int i/\Q (g i) H
section
variable{X:Cx}{a b c:Expr}{ta tb tc:TE}{pos:Pos}
theorem Ac(ha:PE X a ta)(hb:PE X b tb){pins:List (Addr×Obj)}{s:Shared}{σ:St}{H:Hp}{R:V->V->Hp->Prop}(I:Inv X pins σ H s)
  (h:ta σ H λx H1=>tb σ H1 λy H2=>R x y H2) {Q:Value->Shared->Prop} {f:Value->Value->Sem Value}
  (hf:∀v u s2 x y H2,Inv X pins σ H2 s2->aY x v->aY y u->R x y H2->wpAny (model X.prog X.w) X.A (f v u) Q X.xe s2) :
  wpAny (model X.prog X.w) X.A (eval a X.env) (λv s₁=>wpAny (model X.prog X.w) X.A (eval b X.env) (λu s₂=>wpAny (model X.prog X.w) X.A (f v u) Q X.xe s₂) X.xe s₁) X.xe s:=by
 refine thn (ha pins s σ H _ I h) λv s1 ⟨x,H1,I1,r1,q1⟩=>?_;refine thn (hb pins s1 σ H1 _ I1 q1) λu s2 ⟨y,H2,I2,r2,q2⟩=>?_;exact hf v u s2 x y H2 I2 r1 r2 q2
theorem zA{op:Operator}{r:R2}(ho:OpR X (binaryOp op) r)(ha:PE X a ta)(hb:PE X b tb):PE X (.BinOp a op b pos) (tOp r ta tb):=by
 intro pins s σ H Q I h;exact wpAny_BinOp (Ac ha hb I h λv u s2 x y H2 I2 rx ry q=>ho pins s2 σ H2 x y v u Q I2 rx ry q)
theorem B3{op:UnaryOp}{r:V->Hp->VK->Prop}(ho:UnR X (unaryOp op) r)(ha:PE X a ta):PE X (.UnaryOp op a pos) (tUn r ta):=by
 intro pins s σ H Q I h;exact UnaryOp_ (thn (ha pins s σ H _ I h) λv s1 ⟨x,H1,I1,r1,q1⟩=>ho pins s1 σ H1 x v Q I1 r1 q1)
theorem opI{f:Value->Value->Sem Value}{C:Int->Int->Prop}{g:Int->Int->Int}
  (rule:∀(i j:Int) (t u:Tok) (s:Shared) (Q:Value->Shared->Prop) (E:Value->Shared->Prop),C i j->Q (.int (g i j) s.toks) { s with toks:=s.toks+1 }->wpAny (model X.prog X.w) X.A (f (.int i t) (.int j u)) Q E s) :
  OpR X f (rI C λi j=>.int (g i j)):=by
 intro pins s σ H x y v u Q I rx ry h;obtain⟨i,j,rfl,rfl,hc,q⟩:=h;obtain⟨t,rfl⟩:=rx;obtain⟨t',rfl⟩:=ry;exact rule i j t t' s _ _ hc ⟨.int (g i j),H,I.tok _,⟨_,rfl⟩,q⟩
theorem B9{f:Value->Value->Sem Value}{g:Int->Int->Int}
  (rule:∀(i j:Int) (t u:Tok) (s:Shared) (Q:Value->Shared->Prop) (E:Value->Shared->Prop),Q (.int (g i j) s.toks) { s with toks:=s.toks+1 }->wpAny (model X.prog X.w) X.A (f (.int i t) (.int j u)) Q E s) :
  OpR X f (rI0 λi j=>.int (g i j)):=by
 intro pins s σ H x y v u Q I rx ry h;obtain⟨i,j,rfl,rfl,q⟩:=h;obtain⟨t,rfl⟩:=rx;obtain⟨t',rfl⟩:=ry;exact rule i j t t' s _ _ ⟨.int (g i j),H,I.tok _,⟨_,rfl⟩,q⟩
theorem xa{f:Value->Value->Sem Value}{g:Int->Int->Bool}
  (rule:∀(i j:Int) (t u:Tok) (s:Shared) (Q:Value->Shared->Prop) (E:Value->Shared->Prop),Q (.bool (g i j)) s->wpAny (model X.prog X.w) X.A (f (.int i t) (.int j u)) Q E s) :
  OpR X f (rI0 λi j=>.bl (g i j)):=by
 intro pins s σ H x y v u Q I rx ry h;obtain⟨i,j,rfl,rfl,q⟩:=h;obtain⟨t,rfl⟩:=rx;obtain⟨t',rfl⟩:=ry;exact rule i j t t' s _ _ ⟨.bl (g i j),H,I,rfl,q⟩
noncomputable def su(i j:Int):Prop:=0<j/\j<1073741824
noncomputable def tM(i j:Int):Prop:=0<=j/\j<=1000000/\i.natAbs<2 ^ 64
noncomputable def lG(i j:Int):Prop:=(-(2 ^ 64)<i/\i<2 ^ 64)\/(-(2 ^ 64)<j/\j<2 ^ 64)
theorem lG.ok{i j:Int}(h:lG i j):IntMulOk i j:=by
 rcases h with⟨h1,h2⟩ | ⟨h1,h2⟩
 ·exact .of_left (intBits_le_64 h1 h2)
 ·exact .of_right (intBits_le_64 h1 h2)
theorem Bb:OpR X (binaryOp .Add) (rI0 λi j=>.int (i+j)):=B9 λ_ _ _ _ _ _ _ q=>add_int q
theorem Am:OpR X (binaryOp .Sub) (rI0 λi j=>.int (i-j)):=B9 λ_ _ _ _ _ _ _ q=>sub_int q
theorem AH:OpR X (binaryOp .Mult) (rI lG λi j=>.int (i*j)):=opI λ_ _ _ _ _ _ _ hc q=>mul_int q hc.ok
theorem yU:OpR X (binaryOp .FloorDiv) (rI su λi j=>.int (i/j)):=opI λi j _ _ _ _ _ hc q=>by
 have h1:(0:Int)<j:=hc.1;have h2:j<1073741824:=hc.2;exact floordiv_int (by lia) (by rw[Int.fdiv_eq_ediv_of_nonneg i (by lia)];exact q) (.inl (PyProof.noPylong_small (by lia)))
theorem AB:OpR X (binaryOp .Mod) (rI (λ_ j=>0<j) λi j=>.int (i%j)):=opI λi j _ _ _ _ _ hc q=>by
 have h1:(0:Int)<j:=hc;exact mod_int' (by lia) (by rw[Int.fmod_eq_emod_of_nonneg i (by lia)];exact q)
theorem Bg:OpR X (binaryOp .Pow) (rI tM λi j=>.int (i ^ j.toNat)):=opI λ_ _ _ _ _ _ _ hc q=>pow_int_small hc.1 hc.2.1 hc.2.2 q
theorem unI{f:Value->Sem Value}{g:Int->Int}
  (rule:∀(i:Int) (t:Tok) (s:Shared) (Q:Value->Shared->Prop) (E:Value->Shared->Prop),Q (.int (g i) s.toks) { s with toks:=s.toks+1 }->wpAny (model X.prog X.w) X.A (f (.int i t)) Q E s) :
  UnR X f (rU λi=>.int (g i)):=by
 intro pins s σ H x v Q I rx h;obtain⟨i,rfl,q⟩:=h;obtain⟨t,rfl⟩:=rx;exact rule i t s _ _ ⟨.int (g i),H,I.tok _,⟨_,rfl⟩,q⟩
theorem AM:UnR X (unaryOp .USub) (rU λi=>.int (-i)):=unI λ_ _ _ _ _ q=>neg_int q
end
noncomputable def AF:V->V->Bool
 |.non,.non=>true | .non,.int _=>true | .int _,.non=>true | .non,.bl _=>true | .bl _,.non=>true | .non,.str _=>true | .str _,.non=>true
 |.int _,.int _=>true | .bl _,.bl _=>true | .str _,.str _=>true | .byt _,.byt _=>true
 |.int _,.str _=>true | .str _,.int _=>true | .bl _,.str _=>true | .str _,.bl _=>true
 |_,_=>false
noncomputable def rEq:R2:=λx y H Q=>AF x y=true/\Q (.bl (decide (x=y))) H
noncomputable def rNe:R2:=λx y H Q=>AF x y=true/\Q (.bl (!decide (x=y))) H
theorem qY{i j:Int}:decide (V.int i=V.int j)=(i==j):=by
 rw[Bool.eq_iff_iff];simp
theorem wK{i j:Bool}:decide (V.bl i=V.bl j)=(i==j):=by
 rw[Bool.eq_iff_iff];simp
theorem qK{i j:Str}:decide (V.str i=V.str j)=(i==j):=by
 rw[Bool.eq_iff_iff];simp
theorem rT{i j:Array UInt8}:decide (V.byt i=V.byt j)=(i.toList==j.toList):=by
 rw[Bool.eq_iff_iff];cases i;cases j;simp
section
variable{X:Cx}{a b c:Expr}{ta tb tc:TE}{pos:Pos}
theorem bu{pins:List (Addr×Obj)}{σ:St}{H:Hp}{s:Shared}{Q:VK}{k k':Bool}(I:Inv X pins σ H s)(q:Q (.bl k) H)(e:k=k'):EP X pins σ Q (.bool k') s:=by
 subst e;exact⟨.bl k,H,I,rfl,q⟩
theorem Cg:OpR X (compareOp .Eq) rEq:=by
 intro pins s σ H x y v u Q I rx ry h;obtain⟨hs,q⟩:=h;cases x with
 |non=>
  cases rx;cases y with
  |non=>cases ry;exact PySem.EqNone.eq_none_none (bu I q (by simp))
  |bl j=>cases ry;exact PySem.EqNone.eq_none_bool (bu I q (by simp))
  |int j=>obtain⟨t',rfl⟩:=ry;exact PySem.EqNone.eq_none_int (bu I q (by simp))
  |str j=>obtain⟨t',rfl⟩:=ry;exact PySem.EqNone.eq_none_str (bu I q (by simp))
  |_=>exact absurd (show false=true from hs) Bool.false_ne_true
 |bl i=>
  cases rx;cases y with
  |non=>cases ry;exact PySem.EqNone.eq_bool_none (bu I q (by simp))
  |bl j=>cases ry;exact eq_bool (bu I q wK)
  |str j=>obtain⟨t',rfl⟩:=ry;exact PySem.EqMixed.eq_bool_str (bu I q (by simp))
  |_=>exact absurd (show false=true from hs) Bool.false_ne_true
 |int i=>
  obtain⟨t,rfl⟩:=rx;cases y with
  |non=>cases ry;exact PySem.EqNone.eq_int_none (bu I q (by simp))
  |int j=>obtain⟨t',rfl⟩:=ry;exact eq_int (bu I q qY)
  |str j=>obtain⟨t',rfl⟩:=ry;exact PySem.EqMixed.eq_int_str (bu I q (by simp))
  |_=>exact absurd (show false=true from hs) Bool.false_ne_true
 |str i=>
  obtain⟨t,rfl⟩:=rx;cases y with
  |non=>cases ry;exact PySem.EqNone.eq_str_none (bu I q (by simp))
  |bl j=>cases ry;exact PySem.EqMixed.eq_str_bool (bu I q (by simp))
  |int j=>obtain⟨t',rfl⟩:=ry;exact PySem.EqMixed.eq_str_int (bu I q (by simp))
  |str j=>obtain⟨t',rfl⟩:=ry;exact eq_str (bu I q qK)
  |_=>exact absurd (show false=true from hs) Bool.false_ne_true
 |byt i=>
  obtain⟨t,rfl⟩:=rx;cases y with
  |byt j=>obtain⟨t',rfl⟩:=ry;exact PySem.W.eq_bytes (bu I q rT)
  |_=>exact absurd (show false=true from hs) Bool.false_ne_true
 |_=>cases y<;>exact absurd (show false=true from hs) Bool.false_ne_true
theorem Cw:OpR X (compareOp .NotEq) rNe:=by
 intro pins s σ H x y v u Q I rx ry h;obtain⟨hs,q⟩:=h;cases x with
 |non=>
  cases rx;cases y with
  |non=>cases ry;exact PySem.EqNone.ne_none_none (bu I q (by simp))
  |bl j=>cases ry;exact PySem.EqNone.ne_none_bool (bu I q (by simp))
  |int j=>obtain⟨t',rfl⟩:=ry;exact PySem.EqNone.ne_none_int (bu I q (by simp))
  |str j=>obtain⟨t',rfl⟩:=ry;exact PySem.EqNone.ne_none_str (bu I q (by simp))
  |_=>exact absurd (show false=true from hs) Bool.false_ne_true
 |bl i=>
  cases rx;cases y with
  |non=>cases ry;exact PySem.EqNone.ne_bool_none (bu I q (by simp))
  |bl j=>cases ry;exact ne_bool (bu I q (congrArg not wK))
  |str j=>obtain⟨t',rfl⟩:=ry;exact PySem.EqMixed.ne_bool_str (bu I q (by simp))
  |_=>exact absurd (show false=true from hs) Bool.false_ne_true
 |int i=>
  obtain⟨t,rfl⟩:=rx;cases y with
  |non=>cases ry;exact PySem.EqNone.ne_int_none (bu I q (by simp))
  |int j=>obtain⟨t',rfl⟩:=ry;exact ne_int (bu I q (congrArg not qY))
  |str j=>obtain⟨t',rfl⟩:=ry;exact PySem.EqMixed.ne_int_str (bu I q (by simp))
  |_=>exact absurd (show false=true from hs) Bool.false_ne_true
 |str i=>
  obtain⟨t,rfl⟩:=rx;cases y with
  |non=>cases ry;exact PySem.EqNone.ne_str_none (bu I q (by simp))
  |bl j=>cases ry;exact PySem.EqMixed.ne_str_bool (bu I q (by simp))
  |int j=>obtain⟨t',rfl⟩:=ry;exact PySem.EqMixed.ne_str_int (bu I q (by simp))
  |str j=>obtain⟨t',rfl⟩:=ry;exact ne_str (bu I q (congrArg not qK))
  |_=>exact absurd (show false=true from hs) Bool.false_ne_true
 |byt i=>
  obtain⟨t,rfl⟩:=rx;cases y with
  |byt j=>obtain⟨t',rfl⟩:=ry;exact PySem.W.ne_bytes (bu I q (congrArg not rT))
  |_=>exact absurd (show false=true from hs) Bool.false_ne_true
 |_=>cases y<;>exact absurd (show false=true from hs) Bool.false_ne_true
theorem CJ:OpR X (compareOp .Lt) (rI0 λi j=>.bl (decide (i<j))):=xa λ_ _ _ _ _ _ _ q=>lt_int q
theorem BP:OpR X (compareOp .LtE) (rI0 λi j=>.bl (decide (i<=j))):=xa λ_ _ _ _ _ _ _ q=>le_int q
theorem B8:OpR X (compareOp .Gt) (rI0 λi j=>.bl (decide (j<i))):=xa λ_ _ _ _ _ _ _ q=>gt_int q
theorem By:OpR X (compareOp .GtE) (rI0 λi j=>.bl (decide (j<=i))):=xa λ_ _ _ _ _ _ _ q=>ge_int q
theorem Bd:OpR X (compareOp .Is) (λx y H Q=>y=.non/\Q (.bl (decide (x=.non))) H):=by
 intro pins s σ H x y v u Q I rx ry h;obtain⟨rfl,q⟩:=h;cases ry;refine is_none_gen (bu I q ?_)
 cases x<;>first
  |(cases rx;rfl)
  |(obtain⟨t,rfl⟩:=rx;rfl)
theorem OpR.or{f:Value->Value->Sem Value}{r r':R2}(h:OpR X f r)(h':OpR X f r'):OpR X f (λx y H Q=>r x y H Q\/r' x y H Q):=by
 intro pins s σ H x y v u Q I rx ry q;rcases q with q | q
 ·exact h pins s σ H x y v u Q I rx ry q
 ·exact h' pins s σ H x y v u Q I rx ry q
theorem aG(b:Expr){op:CmpOp}(h:op≠.In:=by decide)(h2:op≠.NotIn:=by decide):behindInMarks op b=false:=by
 have e1:(op==CmpOp.In)=false:=by cases op<;>first | rfl | exact absurd rfl h
 have e2:(op==CmpOp.NotIn)=false:=by cases op<;>first | rfl | exact absurd rfl h2
 cases b<;>simp[behindInMarks,e1,e2]
theorem xj{op:CmpOp}{r:R2}(ho:OpR X (compareOp op) r)(ha:PE X a ta)(hb:PE X b tb)(hm:behindInMarks op b=false):PE X (.Compare a [op] [b] pos) (tOp r ta tb):=by
 intro pins s σ H Q I h;exact wpAny_Compare1 (Ac ha hb I h λv u s2 x y H2 I2 rx ry q=>ho pins s2 σ H2 x y v u Q I2 rx ry q) hm
noncomputable def zB(t:TE):TT:=λσ H Q=>t σ H λx H'=>∃k,x=.bl k/\Q k H'
theorem xN{op:CmpOp}{r:R2}(ho:OpR X (compareOp op) r)(ha:PE X a ta)(hb:PE X b tb)(hm:behindInMarks op b=false):PT X (.Compare a [op] [b] pos) (zB (tOp r ta tb)):=by
 intro pins s σ H Q I h
 refine wpAny_isTrue_Compare1 (thn (ha pins s σ H _ I h) λv s1 ⟨x,H1,I1,r1,q1⟩=>thn (hb pins s1 σ H1 _ I1 q1) λu s2 ⟨y,H2,I2,r2,q2⟩=>
  thn (ho pins s2 σ H2 x y v u _ I2 r1 r2 q2) λc s3 ⟨z,H3,I3,r3,k,e,q3⟩=>?_) hm
 subst e;cases r3;exact wpAny_truthy_bool ⟨H3,I3,q3⟩
noncomputable def vS(r r':R2)(ta tb tc:TE):TE:=λσ H Q=>ta σ H λx H1=>tb σ H1 λy H2=>r x y H2 λz H3=>∃k,z=.bl k/\
 (if k=true then tc σ H3 λw' H4=>r' y w' H4 Q else Q (.bl false) H3)
theorem uh{op op':CmpOp}{r r':R2}(ho:OpR X (compareOp op) r)(ho':OpR X (compareOp op') r')(ha:PE X a ta)(hb:PE X b tb)(hc:PE X c tc)
  (hm:lastMarks [op,op'] [b,c]=false:=by with_unfolding_all rfl):PE X (.Compare a [op,op'] [b,c] pos) (vS r r' ta tb tc):=by
 intro pins s σ H Q I h
 refine Compare_chain (thn (ha pins s σ H _ I h) λv s1 ⟨x,H1,I1,r1,q1⟩=>chain_link (thn (hb pins s1 σ H1 _ I1 q1) λu s2 ⟨y,H2,I2,r2,q2⟩=>
  thn (ho pins s2 σ H2 x y v u _ I2 r1 r2 q2) λd s3 ⟨z,H3,I3,r3,k,e,q3⟩=>?_)) hm
 subst e;cases r3;refine wpAny_truthy_bool ?_;cases k with
 |false=>exact ite_ff ⟨.bl false,H3,I3,rfl,q3⟩
 |true=>exact ite_tt (chain_last (thn (hc pins s3 σ H3 _ I3 q3) λw' s4 ⟨z',H4,I4,r4,q4⟩=>ho' pins s4 σ H4 y z' u w' Q I4 r2 r4 q4))
theorem uR{op op':CmpOp}{r r':R2}(ho:OpR X (compareOp op) r)(ho':OpR X (compareOp op') r')(ha:PE X a ta)(hb:PE X b tb)(hc:PE X c tc)
  (hm:lastMarks [op,op'] [b,c]=false:=by with_unfolding_all rfl):PT X (.Compare a [op,op'] [b,c] pos) (zB (vS r r' ta tb tc)):=by
 intro pins s σ H Q I h
 refine isTrue_chain (thn (ha pins s σ H _ I h) λv s1 ⟨x,H1,I1,r1,q1⟩=>test_link (thn (hb pins s1 σ H1 _ I1 q1) λu s2 ⟨y,H2,I2,r2,q2⟩=>
  thn (ho pins s2 σ H2 x y v u _ I2 r1 r2 q2) λd s3 ⟨z,H3,I3,r3,k,e,q3⟩=>?_)) hm
 subst e;cases r3;refine wpAny_truthy_bool ?_;cases k with
 |false=>
  obtain⟨k',e',q'⟩:=q3;cases e';exact ite_ff ⟨H3,I3,q'⟩
 |true=>
  refine ite_tt (test_last (thn (hc pins s3 σ H3 _ I3 q3) λw' s4 ⟨z',H4,I4,r4,q4⟩=>thn (ho' pins s4 σ H4 y z' u w' _ I4 r2 r4 q4) λd' s5 ⟨z2,H5,I5,r5,k2,e2,q5⟩=>?_));subst e2;cases r5;exact wpAny_truthy_bool ⟨H5,I5,q5⟩
noncomputable def BC(K:PySem.W.Frag)(x:V)(H:Hp)(k:Bool):Prop:=
 match x with
 |.non=>k=false
 |.bl b=>k=b
 |.int i=>k=(i != 0)
 |.str y=>y.length<=sizeLine/\k=((y.length:Int) != 0)
 |.byt y=>y.size<=sizeLine/\k=((y.size:Int) != 0)
 |.ref p=>(∃xs,SqL K H p xs/\k = !xs.isEmpty)\/(∃xs,SqT K H p xs/\k = !xs.isEmpty)\/∃kvs,H p=some (.dK kvs)/\k = !kvs.isEmpty
 |_=>False
theorem p0{κ:Type}{kvs:List (κ×V)}{vs:List (κ×Value)}(r:KV kvs vs):(!vs.isEmpty) = !kvs.isEmpty:=by
 cases r<;>rfl
theorem kf{xs:List V}{its:List Value}(r:aV xs its):(!its.toArray.isEmpty) = !xs.isEmpty:=by
 cases r<;>simp
theorem nE:(sizeLine:Nat)<2 ^ 63:=by rw[sizeLine_eq];decide
theorem zL:CP X (λx H Q=>∃k,BC X.K x H k/\Q k H):=by
 intro pins s σ H x v Q I rx h;obtain⟨k,e,q⟩:=h;have hl:=nE;have hs:sizeLine=16777216:=sizeLine_eq;cases x with
 |non=>
  cases rx;have e':k=false:=e;subst e';exact truthy_none ⟨H,I,q⟩
 |bl b=>
  cases rx;have e':k=b:=e;subst e';exact wpAny_truthy_bool ⟨H,I,q⟩
 |int i=>
  obtain⟨t,rfl⟩:=rx;have e':k=(i != 0):=e;subst e';exact PySem.P.truthy_int ⟨H,I,q⟩
 |str y=>
  obtain⟨t,rfl⟩:=rx;obtain⟨hy,e'⟩:y.length<=sizeLine/\k=((y.length:Int) != 0):=e;subst e';exact PySem.P.truthy_str (by lia) ⟨H,I.tok _,q⟩
 |byt y=>
  obtain⟨t,rfl⟩:=rx;obtain⟨hy,e'⟩:y.size<=sizeLine/\k=((y.size:Int) != 0):=e;subst e';exact PySem.W.truthy_bytes (by lia) ⟨H,I.tok _,q⟩
 |ref p=>
  cases rx;have e':(∃xs,SqL X.K H p xs/\k = !xs.isEmpty)\/(∃xs,SqT X.K H p xs/\k = !xs.isEmpty)\/∃kvs,H p=some (.dK kvs)/\k = !kvs.isEmpty:=e;rcases e' with⟨xs,hx,e'⟩ | ⟨xs,hx,e'⟩ | ⟨kvs,hx,e'⟩
  ·subst e'
   obtain⟨its,r,pl,hz⟩:=I.list hx;have hlen:=r.length;exact wpAny_truthy_list pl.isList (by simp only[List.size_toArray];lia) ⟨H,I.tok _,by rw[kf r];exact q⟩
  ·subst e'
   obtain⟨its,r,pl,hz⟩:=I.tuple hx;have hlen:=r.length;exact truthy_tuple pl (by simp only[List.size_toArray];lia) ⟨H,I.tok _,by rw[kf r];exact q⟩
  ·subst e'
   obtain⟨hz,hS,vs,r,m⟩:kvs.length<=sizeLine/\(p==sysModules)=false/\∃vs,KV kvs vs/\s.heap.DictOf (bK X.prog X.w) p vs:=I.hok p _ hx;have hlen:kvs.length=vs.length:=Paired.length r;exact wpAny_truthy_dict hS m (by lia) ⟨H,I.tok _,by rw[p0 r];exact q⟩
 |_=>exact(show False from e).elim
theorem wj(ha:PE X a ta)(he:∀whole,isTrue a X.env whole=(do let v<-whole;standAt a.pos;holding [v] (truthy v))) :
  PT X a (λσ H Q=>ta σ H λx H'=>∃k,BC X.K x H' k/\Q k H'):=by
 intro pins s σ H Q I h;exact isTrue_plain (thn (ha pins s σ H _ I h) λv s1 ⟨x,H1,I1,r1,q1⟩=>zL pins s1 σ H1 x v Q I1 r1 q1) (he _)
theorem y2{x:V}{us:List Value}(r:aV [x] us):∃u,us=[u]/\aY x u:=by
 cases r with
 |cons r1 r2=>cases r2;exact⟨_,rfl,r1⟩
theorem B4{x y:V}{us:List Value}(r:aV [x,y] us):∃u w',us=[u,w']/\aY x u/\aY y w':=by
 cases r with
 |cons r1 r2=>
  cases r2 with
  |cons r3 r4=>cases r4;exact⟨_,_,rfl,r1,r3⟩
theorem sN(hc:X.calm=true):dW X (.builtin "max") (λxs H Q=>∃i j,xs=[.int i,.int j]/\Q (.int (if j>i then j else i)) H):=by
 intro pins s σ H xs us Q I r h;obtain⟨i,j,rfl,q⟩:=h;obtain⟨u,w',rfl,⟨t,rfl⟩,⟨t',rfl⟩⟩:=B4 r;refine max_two_ints (I.ok.hd hc) λh' tk k=>⟨_,H,I.kept k,?_,q⟩
 by_cases hj:j>i
 ·rw[if_pos hj,if_pos hj];exact⟨_,rfl⟩
 ·rw[if_neg hj,if_neg hj];exact⟨_,rfl⟩
end
theorem jU.some_of{v:V}{o:Option Value}(r:jU (some v) o):∃u,o=some u/\aY v u:=by
 cases o with
 |none=>exact(show False from r).elim
 |some u=>exact⟨u,rfl,r⟩
structure Room(k:Nat)(A:Around):Prop where
 hd:A.handled=none
 dp:A.depth+3*k+5<recursionLimit
 un:A.units+16*k+200<cLine
theorem Room.mono{j k:Nat}{A:Around}(r:Room k A)(h:j<=k):Room j A:=⟨r.hd,by have:=r.dp;lia,by have:=r.un;lia⟩
theorem Room.deeper{k:Nat}{A:Around}(r:Room (k+1) A)(env:Env):Room k (A.deeper env):=
 ⟨r.hd,by have:=r.dp;show A.depth+1+3*k+5<_;lia,by have:=r.un;show A.units+3+16*k+200<_;lia⟩
theorem Room.in1{k:Nat}{A:Around}(r:Room (k+1) A):Room k A.in1:=
 ⟨r.hd,by have:=r.dp;show A.depth+3*k+5<_;lia,by have:=r.un;show A.units+1+16*k+200<_;lia⟩
theorem Room.depth{k:Nat}{A:Around}(r:Room k A):A.depth<recursionLimit:=by have:=r.dp;lia
theorem Room.units{k:Nat}{A:Around}(r:Room k A):A.units+64<cLine:=by have:=r.un;lia
noncomputable def yy:TA:=λ_ H Q=>Q [] H
noncomputable def r8(ta:TE)(tr:TA):TA:=λσ H Q=>ta σ H λx H1=>tr σ H1 λxs H2=>Q (x::xs) H2
section
variable{X:Cx}{e:Expr}{es:List Expr}{te:TE}{t:TA}{pos:Pos}
theorem da:PA X [] yy:=λ_ _ _ _ H Q I h=>Calls.spliced_nil ⟨[],H,I,.nil,h⟩
theorem b7(ha:PE X e te)(hr:PA X es t)(hs:starEach (e::es) X.env=(false,eval e X.env)::starEach es X.env:=by rfl):PA X (e::es) (r8 te t):=by
 intro pos pins s σ H Q I h;rw[hs];show wpAny _ _ (spliced ((false,eval e X.env)::backTo pos (starEach es X.env))) _ _ s;refine Calls.spliced_cons (thn (ha pins s σ H _ I h) λu s1 ⟨x,H1,I1,r1,q1⟩=>?_);exact thn (hr pos pins s1 σ H1 _ I1 q1) λus s2 ⟨xs,H2,I2,r2,q2⟩=>⟨x::xs,H2,I2,.cons r1 r2,q2⟩
noncomputable def C6(t:TA):TE:=λσ H Q=>t σ H λxs H1=>xs.length<=sizeLine/\∀p,H1 p=none->Q (.ref p) (upd H1 p (.tup xs))
noncomputable def C9(t:TA):TE:=λσ H Q=>t σ H λxs H1=>xs.length<=sizeLine/\∀p,H1 p=none->Q (.ref p) (upd H1 p (.lst xs))
theorem zK{x1}(h:PA X es t):PE X (.Tuple es x1 pos) (C6 t):=by
 intro pins s σ H Q I hq;refine wpAny_Tuple_spliced (thn (h pos pins s σ H _ I hq) λus s1 ⟨xs,H1,I1,r,z,q⟩=>⟨by rw[<-r.length];exact z,?_⟩);have hf:H1 s1.heap.objs.size=none:=I1.hok.fresh (Nat.le_refl _);refine⟨.ref s1.heap.objs.size,upd H1 s1.heap.objs.size (.tup xs),I1.laid (t':=s1.toks) (λb u e=>Heap.get?_push_of_some _ e) (Nat.le_refl _) ?_,rfl,q _ hf⟩;exact⟨z,us,r,⟨_,Heap.get?_push_size _ rfl,rfl,_,rfl⟩⟩
theorem zQ(h:PA X es t):PE X (.List es pos) (C9 t):=by
 intro pins s σ H Q I hq;refine wpAny_List_spliced (thn (h pos pins s σ H _ I hq) λus s1 ⟨xs,H1,I1,r,z,q⟩=>⟨by rw[<-r.length];exact z,?_⟩);have hf:H1 s1.heap.objs.size=none:=I1.hok.fresh (Nat.le_refl _);refine⟨.ref s1.heap.objs.size,upd H1 s1.heap.objs.size (.lst xs),I1.laid (t':=s1.toks) (λb u e=>Heap.get?_push_of_some _ e) (Nat.le_refl _) ?_,rfl,q _ hf⟩;exact⟨z,us,0,r,Heap.get?_push_size _ rfl⟩
end
noncomputable abbrev Sp:=List V->Hp->VK->XK->Prop
noncomputable abbrev CXT:=List Env->Hp->Shared->XK->Value->Shared->Prop
structure Env0(P:Program)(w:World)(K:PySem.W.Frag)(mg:Str->Option Value)(base:Heap)(A:Around)(outer:List Env)(s:Shared)(H:Hp):Prop where
 frames:A.frames=some outer
 mod:Mod K mg base
 bs:∀b o,base.get? b=some o->s.heap.get? b=some o/\H b=none
 bsz:base.objs.size<=s.heap.objs.size
 funs:s.heap.FunFrames base outer
 frf:∀b∈frs outer,H b=none
 hok:HOk P w H s.heap
 bare:AllBare s.gens
noncomputable def CE(outer:List Env)(P:Program)(w:World)(H:Hp)(s:Shared)(Q:VK)(u:Value)(s':Shared):Prop:=
 ∃v H',s'.os=s.os/\AllBare s'.gens/\Un (frs outer) [] H H' s.heap s'.heap/\HOk P w H' s'.heap/\aY v u/\Q v H'
noncomputable def CR(CX:CXT)(outer:List Env)(P:Program)(w:World)(H:Hp)(s:Shared)(Q:VK)(E:XK)(r:Result)(s':Shared):Prop:=
 match r with
 |.ok (.ret u)=>CE outer P w H s Q u s'
 |.ok _=>False
 |.error e=>CX outer H s E e s'
structure FnOk(P:Program)(w:World)(K:PySem.W.Frag)(mg:Str->Option Value)(base:Heap)(CX:CXT)(k:Nat)(f:Addr)(fd:FuncData)(ps:List Str)(sp:Sp):Prop where
 len:∀vs H Q E,sp vs H Q E->vs.length=ps.length
 run:∀(A:Around) (outer:List Env) (s:Shared) (H:Hp) (args:Args) (us:List Value) (vs:List V) (Q:VK) (E:XK),Room k A->Env0 P w K mg base A outer s H->BindsTo s fd args (ps.zip us)->aV vs us->sp vs H Q E->
  codeAny (model P w) A (.call (.ref f) args) (CR CX outer P w H s Q E) s
theorem FnOk.mono{P:Program}{w:World}{K:PySem.W.Frag}{mg:Str->Option Value}{base:Heap}{CX:CXT}{j k:Nat}{f:Addr}{fd:FuncData}{ps:List Str}{sp:Sp}(F:FnOk P w K mg base CX j f fd ps sp)(h:j<=k) :
  FnOk P w K mg base CX k f fd ps sp:=⟨F.len,λA outer s H args us vs Q E hr=>F.run A outer s H args us vs Q E (hr.mono h)⟩
theorem Env0.in1{P:Program}{w:World}{K:PySem.W.Frag}{mg:Str->Option Value}{base:Heap}{A:Around}{outer:List Env}{s:Shared}{H:Hp}(e:Env0 P w K mg base A outer s H) :
  Env0 P w K mg base A.in1 outer s H:=⟨e.frames,e.mod,e.bs,e.bsz,e.funs,e.frf,e.hok,e.bare⟩
section
variable{X:Cx}{pins:List (Addr×Obj)}{σ:St}{H:Hp}{s s':Shared}
theorem Inv.env0(I:Inv X pins σ H s):Env0 X.prog X.w X.K X.mg X.base X.A X.stack s H:=
 ⟨I.ok.frames,I.ok.mod,I.bs,Nat.le_trans I.ok.bsz I.sz,I.stack,I.stkFree,I.hok,I.bare⟩
theorem Inv.after{Q:VK}{u:Value}(I:Inv X pins σ H s)(h:CE X.stack X.prog X.w H s Q u s'):EP X pins σ Q u s':=by
 obtain⟨v,H',os,bare,un,hok,r,q⟩:=h;obtain⟨hh,g,d,t,os'⟩:=s';obtain rfl:os'=s.os:=os;exact⟨v,H',I.call (h':=hh) (g':=g) (d':=d) (t':=t) (ch:=[]) un hok bare (λb z=>absurd z (by simp)),r,q⟩
end
noncomputable def CC(sp:Sp)(dvs:List V)(E:XK)(t:TA):TE:=λσ H Q=>t σ H λvs H1=>sp (vs++dvs) H1 Q E
noncomputable def jw(K:PySem.W.Frag)(fd:FuncData)(ps:List Str)(ds:List Value):Prop:=
 ∀(s:Shared) (us:List Value),K.In s.heap->(us++ds).length=ps.length->BindsTo s fd ⟨us,[]⟩ (ps.zip (us++ds))
theorem jw.all{K:PySem.W.Frag}{fd:FuncData}{ps:List Str}(h:∀us:List Value,us.length=ps.length->bindArgs fd ⟨us,[]⟩=pure (ps.zip us)):jw K fd ps []:=λs us _ hl=>by
 rw[List.append_nil] at hl ⊢;exact .of_eq (h us hl)
noncomputable def pZ(CX:CXT)(X:Cx)(E:XK):Prop:=∀(pins:List (Addr×Obj)) (σ:St) (H:Hp) (s:Shared) (e:Value) (s':Shared),Inv X pins σ H s->CX X.stack H s E e s'->X.xe e s'
section
variable{X:Cx}{CX:CXT}{k:Nat}{f C:Addr}{fd:FuncData}{ps:List Str}{sp:Sp}{dvs:List V}{ds:List Value}{E:XK}{x m:Str}{p pos apos:Pos}{e o:Expr}{es:List Expr}{ta:TE}{t:TA}
theorem z9{pins:List (Addr×Obj)}{σ:St}{H:Hp}{s:Shared}{Q:VK}{us:List Value}{vs:List V}(F:FnOk X.prog X.w X.K X.mg X.base CX k f fd ps sp)(hr:Room k X.A)(hb:jw X.K fd ps ds)(hd:aV dvs ds)(hx:pZ CX X E)
  (I:Inv X pins σ H s) (r:aV vs us) (h:sp (vs++dvs) H Q E):wpAny (model X.prog X.w) X.A (call (.ref f) us) (EP X pins σ Q) X.xe s:=by
 have r2:aV (vs++dvs) (us++ds):=r.append hd;have hl:(us++ds).length=ps.length:=by rw[<-r2.length];exact F.len _ _ _ _ h
 refine wpAny_call (codeAny_mono (F.run X.A X.stack s H ⟨us,[]⟩ (us++ds) (vs++dvs) Q E hr I.env0 (hb s us I.kIn hl) r2 h) λr s' hq=>?_);cases r with
 |error e=>exact hx pins σ H s e s' I hq
 |ok fl=>
  cases fl with
  |ret u=>exact I.after hq
  |next=>exact False.elim hq
  |brk=>exact False.elim hq
  |cont=>exact False.elim hq
theorem nj(F:FnOk X.prog X.w X.K X.mg X.base CX k f fd ps sp)(hr:Room k X.A)(hg:Gl X x)(hm:X.mg x=some (.ref f))(hk:PySem.W.keepIn X.K (.ref f)=true)(hb:jw X.K fd ps ds)(hd:aV dvs ds)(hx:pZ CX X E)
  (ha:PA X (e::es) t) (hdb:(x==("__debug__" : Str))=false:=by decide) (he:starEach (e::es) X.env=(false,eval e X.env)::starEach es X.env:=by rfl) (hpl:(backTo pos (starEach es X.env)).any (·.1)=false:=by rfl) :
  PE X (.Call (.Name x p) (e::es) [] pos) (CC sp dvs E t):=by
 intro pins s σ H Q I h;refine wpAny_Call_Name_kw (rZ I hg hm ?_ hdb);refine PySem.W.callWith_K (h₀:=X.base) I.ok.mod.kin hk (thn (ha pos pins s σ H _ I h) λus s1 ⟨vs,H1,I1,r,q⟩=>⟨I1.kIn,?_⟩) he hpl;exact z9 F hr hb hd hx I1 r q
end
noncomputable def PK(X:Cx)(kws:List Keyword)(t:TA):Prop:=
 ∀(pos:Pos) (pins:List (Addr×Obj)) (s:Shared) (σ:St) (H:Hp) (Q:List V->Hp->Prop),Inv X pins σ H s->t σ H Q->wpAny (model X.prog X.w) X.A (evalAll ((backToKw pos (keywordEach kws X.env)).map (·.2))) (AP X pins σ Q) X.xe s
section
variable{X:Cx}{CX:CXT}{k:Nat}{f C:Addr}{fd:FuncData}{ps ks:List Str}{sp:Sp}{E:XK}{x m:Str}{p pos apos kpos:Pos}{e o:Expr}{es:List Expr}{kws:List Keyword}{te ta:TE}{t tk:TA}{nm:Option Str}
theorem AZ:PK X [] yy:=λ_ _ _ _ H Q I h=>wpAny_evalAll_nil ⟨[],H,I,.nil,h⟩
theorem xS(ha:PE X e te)(hr:PK X kws t):PK X (⟨nm,e,kpos⟩::kws) (r8 te t):=by
 intro pos pins s σ H Q I h;show wpAny _ _ (evalAll ((do let v<-eval e X.env;standAt pos;pure v)::(backToKw pos (keywordEach kws X.env)).map (·.2))) _ _ s;refine wpAny_evalAll_cons (wpAny_bind (thn (ha pins s σ H _ I h) λu s1 ⟨x,H1,I1,r1,q1⟩=>wpAny_bind (wpAny_standAt (wpAny_pure ?_))));exact thn (hr pos pins s1 σ H1 _ I1 q1) λus s2 ⟨xs,H2,I2,r2,q2⟩=>⟨x::xs,H2,I2,.cons r1 r2,q2⟩
variable{g:List Value->List Value->List Value}{gV:List V->List V->List V}
end
structure FnScope(N P:List Str)(sc:Scope):Prop where
 kind:sc.kind=.function
 co:sc.isCoroutine=false
 gen:sc.isGenerator=false
 nd:N.Nodup
 pre:N.take P.length=P
 par:∀x∈P,sc.names.lookup x=some .local\/sc.names.lookup x=some .cell
 nofree:∀y∈sc.names,y.2≠.free
theorem ma{kindOf:Str->Option NameKind}{x:Str}:∀{binds:List (Str×Value)} {m:Str->Option Value},(∀v,(x,v)∉binds)->bindL kindOf binds m x=m x
 |[],_,_=>rfl
 |(n,v)::r,m,h=>by
  unfold bindL;rw[ma λw hw=>h w (List.mem_cons_of_mem _ hw)];split
  ·have:x≠n:=by rintro rfl;exact h v List.mem_cons_self
   simp[this]
  ·rfl
theorem lQ{kindOf:Str->Option NameKind}{x:Str}:∀{binds:List (Str×Value)} {m:Str->Option Value},(∀v,(x,v)∉binds)->bindC kindOf binds m x=m x
 |[],_,_=>rfl
 |(n,v)::r,m,h=>by
  unfold bindC;rw[lQ λw hw=>h w (List.mem_cons_of_mem _ hw)];split
  ·rfl
  ·have:x≠n:=by rintro rfl;exact h v List.mem_cons_self
   simp[this]
theorem lU{kindOf:Str->Option NameKind}{x:Str}{v:Value}:∀{P:List Str} {vs:List Value} {i:Nat} {m:Str->Option Value},P.Nodup->P[i]?=some x->vs[i]?=some v->kindOf x=some .local->
  bindL kindOf (P.zip vs) m x=some v
 |[],_,_,_,_,h,_,_=>by simp at h
 |_::_,[],_,_,_,_,h,_=>by simp at h
 |p::P,w::vs,0,m,nd,h1,h2,hk=>by
  simp at h1 h2;subst h1;subst h2;show bindL kindOf ((p,w)::P.zip vs) m p=_;unfold bindL;rw[ma λv hv=>(List.nodup_cons.mp nd).1 (List.of_mem_zip hv).1,if_pos hk];simp
 |p::P,w::vs,i+1,m,nd,h1,h2,hk=>by
  show bindL kindOf ((p,w)::P.zip vs) m x=_;unfold bindL;exact lU (i:=i) (List.nodup_cons.mp nd).2 (by simpa using h1) (by simpa using h2) hk
theorem my{kindOf:Str->Option NameKind}{x:Str}{v:Value}:∀{P:List Str} {vs:List Value} {i:Nat} {m:Str->Option Value},P.Nodup->P[i]?=some x->vs[i]?=some v->kindOf x≠some .local->
  bindC kindOf (P.zip vs) m x=some v
 |[],_,_,_,_,h,_,_=>by simp at h
 |_::_,[],_,_,_,_,h,_=>by simp at h
 |p::P,w::vs,0,m,nd,h1,h2,hk=>by
  simp at h1 h2;subst h1;subst h2;show bindC kindOf ((p,w)::P.zip vs) m p=_;unfold bindC;rw[lQ λv hv=>(List.nodup_cons.mp nd).1 (List.of_mem_zip hv).1,if_neg hk];simp
 |p::P,w::vs,i+1,m,nd,h1,h2,hk=>by
  show bindC kindOf ((p,w)::P.zip vs) m x=_;unfold bindC;exact my (i:=i) (List.nodup_cons.mp nd).2 (by simpa using h1) (by simpa using h2) hk
noncomputable def gI(N:List Str)(vs:List V):St:=vs.map some++List.replicate (N.length-vs.length) none
noncomputable def jT(CX:CXT)(P:Program)(w:World)(K:PySem.W.Frag)(mg:Str->Option Value)(base:Heap)(N:List Str)(qual:Str)(scope:Scope)(f:Addr)(cd:Value)(A:Around)(outer:List Env)(s:Shared)(H:Hp)(E:XK):Cx where
 prog:=P
 w:=w
 K:=K
 mg:=mg
 base:=base
 A:=A.deeper (envOfC qual scope s.heap.objs.size f cd)
 N:=N
 s₀:=s
 H₀:=H
 env:=envOfC qual scope s.heap.objs.size f cd
 outer:=outer
 stack:=envOfC qual scope s.heap.objs.size f cd::outer
 ex:=[]
 calm:=true
 fn:=λ_=>true
 pn:=[]
 xe:=λe s'=>wpAny (model P w) (A.deeper (envOfC qual scope s.heap.objs.size f cd)) (leaving (envOfC qual scope s.heap.objs.size f cd) e) (λ_ s''=>CX outer H s E e s'') (λe' s''=>CX outer H s E e' s'') s'
theorem oo{sc:Scope}{n:Nat}{x:Str}(h:sc.names.lookup x=some .cell):∃c,(cellsFrom n sc.names []).lookup x=some c:=by
 have q:=PySem.W.cellsFrom_some sc.names n [] (.inl h);exact Option.isSome_iff_exists.mp q
theorem tQ{CX:CXT}{P:Program}{w:World}{K:PySem.W.Frag}{mg:Str->Option Value}{base:Heap}{N ps:List Str}{qual:Str}{scope:Scope}{f:Addr}{cd:Value}{A:Around}{outer:List Env}{s s1:Shared}{H:Hp}{E:XK}{us:List Value}{vs:List V}
  (S:FnScope N ps scope) (hd:A.handled=none) (e0:Env0 P w K mg base A outer s H) (hl:vs.length=ps.length) (r:aV vs us)
  (x:InCallC s s.heap.objs.size (bindL (envOfC qual scope s.heap.objs.size f cd).kindOf (ps.zip us) λ_=>none) (cellsFrom (s.heap.objs.size+1) scope.names []) (bindC (envOfC qual scope s.heap.objs.size f cd).kindOf (ps.zip us) λ_=>none) s1) :
  Inv (jT CX P w K mg base N qual scope f cd A outer s H E) [] (gI N vs) H s1:=by
 have hpl:ps.length<=N.length:=by have:=congrArg List.length S.pre;rw[List.length_take] at this;lia
 obtain⟨h1,tk,rfl,hk⟩:=x.done;have noA:∀b:Addr,b∉(jT CX P w K mg base N qual scope f cd A outer s H E).ex:=λb z=>absurd (show b∈([]:List Addr) from z) (by simp)
 refine⟨⟨e0.mod,S.kind,rfl,rfl,Nat.le_refl _,λy z c h1 h2=>?_,λy hy=>?_,λy c _ h=>?_,λ_=>hd,Around.frames_deeper e0.frames,.inr ⟨rfl,rfl⟩,λb z=>absurd z (noA b),e0.bs,e0.bsz,λb _ _=>noA b,λb z=>absurd z (noA b),e0.funs,e0.frf⟩,
  rfl,e0.bare,Un.kept hk,⟨_,x.toInCall.ns,λi y v h1 h2 h3=>?_⟩,λy c h=>⟨_,x.cell y c h⟩,e0.hok.fresh (Nat.le_refl _),λy c h=>?_,λp hp=>absurd (show p∈([]:List (Addr×Obj)) from hp) (by simp),e0.hok.kept hk,?_⟩
 ·exact name_of_addr x.apart (PySem.mem_of_lookup h1) (PySem.mem_of_lookup h2)
 ·have hy:scope.names.lookup y=some .cell\/scope.names.lookup y=some .free:=hy
  rcases hy with hy | hy
  ·exact oo hy
  ·exact absurd rfl (S.nofree _ (PySem.mem_of_lookup hy))
 ·exact Nat.le_of_lt (x.above y c (PySem.mem_of_lookup h))
 ·have hi:i<vs.length:=by
   unfold gI at h2
   by_cases hi:i<vs.length
   ·exact hi
   ·rw[List.getElem?_append_right (by simpa using hi)] at h2
    rw[List.getElem?_replicate] at h2;split at h2<;>cases h2
  have ha:vs[i]?=some v:=by
   unfold gI at h2;rw[List.getElem?_append_left (by simpa using hi),List.getElem?_map] at h2;cases e:vs[i]? with
   |none=>rw[e] at h2;cases h2
   |some a=>rw[e] at h2;cases h2;rfl
  obtain⟨u,hu,rv⟩:=r.get ha
  have hp:ps[i]?=some y:=by
   rw[<-S.pre,List.getElem?_take_of_lt (by lia)];exact h1
  have ndP:ps.Nodup:=by rw[<-S.pre];exact S.nd.sublist (List.take_sublist _ _)
  refine⟨u,rv,?_⟩;rcases S.par y (List.mem_of_getElem? hp) with k | k
  ·exact .inl ⟨k,lU ndP hp hu k⟩
  ·obtain⟨c,e⟩:=oo (n:=s.heap.objs.size+1) k
   refine .inr ⟨.inl k,c,e,?_⟩;have q:=x.cell y c e;rw[my ndP hp hu (by show scope.names.lookup y≠_;rw[k];decide)] at q;exact q
 ·exact e0.hok.fresh (Nat.le_of_lt (x.above y c (PySem.mem_of_lookup h)))
 ·unfold gI
  show _=N.length;rw[List.length_append,List.length_map,List.length_replicate]
  lia
theorem CA{CX:CXT}{P:Program}{w:World}{K:PySem.W.Frag}{mg:Str->Option Value}{base:Heap}{k:Nat}{f:Addr}{name qual:Str}{params:Arguments}{body:List Stmt}{scope:Scope}{dV kV doc pm cdv ct oc:Value}{an od:Option Addr}
  {osl:Array (Option Value)} {N ps:List Str} {sp:Sp} (lk:K.lookup f=some ⟨oc,od,.func (PySem.W.fnOf name qual params body scope dV kV doc pm an cdv ct),osl⟩) (hcd:PySem.W.codeIn K cdv qual=true) (S:FnScope N ps scope)
  (len:∀vs H Q E,sp vs H Q E->vs.length=ps.length)
  (hbody:∀(A:Around) (outer:List Env) (s:Shared) (H:Hp) (vs:List V) (Q:VK) (E:XK),Room k (A.deeper (envOfC qual scope s.heap.objs.size f cdv))->sp vs H Q E->
   ∃t,PSs (jT CX P w K mg base N qual scope f cdv A outer s H E) body t/\t { nx:=λ_ H'=>Q .non H',rt:=Q } (gI N vs) H) :
  FnOk P w K mg base CX (k+1) f (PySem.W.fnOf name qual params body scope dV kV doc pm an cdv ct) ps sp:=by
 refine⟨len,λA outer s H args us vs Q E hr e0 hb r hsp=>?_⟩;have hl:=len _ _ _ _ hsp;have KX:K.In s.heap:=e0.mod.kin.keeps λb o e=>(e0.bs b o e).1;have lim:s.heap.NoLimit:=e0.mod.nolimit.keeps λb o e=>(e0.bs b o e).1
 have hkind:∀y∈ps.zip us,scope.names.lookup y.1=some .local\/(scope.names.lookup y.1=some .cell/\((cellsFrom (s.heap.objs.size+1) scope.names []).lookup y.1).isSome=true):=λ⟨n,v⟩ hy=>by
  rcases S.par n (List.of_mem_zip hy).1 with q | q
  ·exact .inl q
  ·exact .inr ⟨q,PySem.W.cellsFrom_some _ _ _ (.inl q)⟩
 refine codeAny_call_function hr.depth (KX _ _ lk) rfl S.co S.gen rfl (PySem.W.codeRec_of KX hcd) (hb _ _ _ _ ?_);refine wpAny_newFunctionEnv_cells S.kind hkind λenv he s1 x=>?_;subst he;refine⟨lim.keeps x.toInCall.keep,codeAny_func ?_⟩;obtain⟨t,ht,hq⟩:=hbody A outer s H vs Q E (hr.deeper _) hsp;have I:Inv (jT CX P w K mg base N qual scope f cdv A outer s H E) [] (gI N vs) H s1:=tQ S hr.hd e0 hl r x;refine wpAny_mono (ht [] s1 (gI N vs) H _ I hq) (λfl s' hs=>?_) λe s' hs=>hs
 have fin:∀{σ':St} {H':Hp} {v:V} {u:Value},Inv (jT CX P w K mg base N qual scope f cdv A outer s H E) [] σ' H' s'->aY v u->Q v H'->CE outer P w H s Q u s':=
  λ{σ' H' v u} J rv q=>⟨v,H',J.os,J.bare,J.base,J.hok,rv,q⟩
 cases fl with
 |ret u=>
  obtain⟨v,σ',H',J,rv,q⟩:=hs;exact fin J rv q
 |next=>
  obtain⟨σ',H',J,q⟩:=hs;exact fin (v:=V.non) (u:=Value.none) J rfl q
 |brk=>
  obtain⟨_,_,_,q⟩:=hs;exact False.elim q
 |cont=>
  obtain⟨_,_,_,q⟩:=hs;exact False.elim q
section
variable{X:Cx}{x:Str}{p pos:Pos}{e:Expr}{es:List Expr}{t:TA}{id T:String}{r:List V->Hp->VK->Prop}
noncomputable def tCB(r:List V->Hp->VK->Prop)(t:TA):TE:=λσ H Q=>t σ H λvs H1=>r vs H1 Q
theorem gA(hc:dW X (.builtin id) r)(hg:Gl X x)(hm:X.mg x=none)(hv:bootBuiltins x=some (.builtin id))(ha:PA X (e::es) t)(hn:x≠"__name__":=by decide)(hdb:(x==("__debug__" : Str))=false:=by decide)
  (he:starEach (e::es) X.env=(false,eval e X.env)::starEach es X.env:=by rfl) (hpl:(backTo pos (starEach es X.env)).any (·.1)=false:=by rfl):PE X (.Call (.Name x p) (e::es) [] pos) (tCB r t):=by
 intro pins s σ H Q I h;refine wpAny_Call_Name_kw (jg I hg hm hv ?_ hn hdb);exact PyProof.Rows.callWith_builtin1 (thn (ha pos pins s σ H _ I h) λus s1 ⟨vs,H1,I1,r1,q1⟩=>hc pins s1 σ H1 vs us Q I1 r1 q1) he hpl
theorem i7(hc:dW X (.type T) r)(hg:Gl X x)(hm:X.mg x=none)(hv:bootBuiltins x=some (.type T))(ha:PA X (e::es) t)(hn:x≠"__name__":=by decide)(hdb:(x==("__debug__" : Str))=false:=by decide)
  (he:starEach (e::es) X.env=(false,eval e X.env)::starEach es X.env:=by rfl) (hpl:(backTo pos (starEach es X.env)).any (·.1)=false:=by rfl):PE X (.Call (.Name x p) (e::es) [] pos) (tCB r t):=by
 intro pins s σ H Q I h;refine wpAny_Call_Name_kw (jg I hg hm hv ?_ hn hdb);exact PyProof.Rows.callWith_type1 (thn (ha pos pins s σ H _ I h) λus s1 ⟨vs,H1,I1,r1,q1⟩=>hc pins s1 σ H1 vs us Q I1 r1 q1) he hpl
end
end L2
namespace HT
open PySem PyProof.Rows
noncomputable def zu:List Int->List Int->Bool
 |[],[]=>false
 |[],_::_=>true
 |_::_,[]=>false
 |x::xs,y::ys=>if x=y then zu xs ys else decide (x<y)
theorem ui(A:Around)(s:Shared)(a:Int)(t:Tok)(c:Int)(u:Tok):∃e,SeqAt.EqAt A s (.int a t) (.int c u) e/\(e=true↔a=c):=
 ⟨(a==c),SeqAt.EqAt.int_int a t c u,by simp⟩
section
open PySem.SeqAt
open PySem.AutoSeq1 (wpAny_loadPart')
open PySem.MeetsSeq PySem.MeetsSeq2 PySem.MeetsSeq3
end
section
variable{prog:Program}{w:World}{A:Around}{E:Value->Shared->Prop}{s:Shared}
theorem yz{t b:Addr}{vs ws:List Value}{Q:Value->Shared->Prop}(ht:IsTup s.heap t vs.toArray)(hb:IsTup s.heap b ws.toArray)(hv:vs≠[])
  (h1:ws=[]->Q (.ref t) s) (h2:ws≠[]->Q (.ref s.heap.objs.size) { s with heap:=s.heap.push { cls:=.type "tuple",data:=.seq (vs++ws).toArray } })
  (hsz:vs.length+ws.length<=sizeLine):wpAny (model prog w) A (binaryOp .Add (.ref t) (.ref b)) Q E s:=by
 obtain⟨⟨cls,dd,data,sl⟩,ho,hc,n,hd⟩:=id ht;obtain⟨⟨cls2,dd2,data2,sl2⟩,ho2,hc2,n2,hd2⟩:=id hb;simp only at hc hd hc2 hd2;subst hc hd hc2 hd2;have e:vs.toArray++ws.toArray=(vs++ws).toArray:=by simp
 by_cases hw:ws=[]
 ·exact concat_meets ⟨_,ho,rfl⟩ ⟨_,ho2,rfl⟩ noFill_tuple_add seq_tuple_add PySem.F.slot_tuple_add PySem.F.entry_tuple_add (PySem.F.args_tuple_add_2 _ _)
   (tuple_addW1 t b vs.toArray ws.toArray n n2 dd dd2 sl sl2 (by simpa using hv) (by simp[hw])) ⟨ho,ho2,h1 hw⟩
 ·refine concat_meets ⟨_,ho,rfl⟩ ⟨_,ho2,rfl⟩ noFill_tuple_add seq_tuple_add PySem.F.slot_tuple_add PySem.F.entry_tuple_add (PySem.F.args_tuple_add_2 _ _)
   (tuple_addW2 t b vs.toArray ws.toArray n n2 dd dd2 sl sl2 (by simpa using hv) (by simpa using hw) (by rw[List.size_toArray,List.size_toArray];exact hsz)) ⟨ho,ho2,?_⟩
  rw[e];exact h2 hw
noncomputable def sIx(n d:Nat):Option Int->Nat
 |none=>d
 |some v=>if v<0 then(v+(n:Int)).toNat else min v.toNat n
theorem ug(n d:Nat):sIx n d none=d:=rfl
theorem m_(n d k:Nat):sIx n d (some (k:Int))=min k n:=by
 show(if(k:Int)<0 then((k:Int)+(n:Int)).toNat else min (k:Int).toNat n)=min k n;rw[if_neg (by lia),Int.toNat_natCast]
theorem Bs(n d:Nat)(hd:d<=n)(o:Option Int):sIx n d o<=n:=by
 cases o with
 |none=>exact hd
 |some v=>
  show(if v<0 then(v+(n:Int)).toNat else min v.toNat n)<=n
  by_cases hv:v<0
  ·rw[if_pos hv];lia
  ·rw[if_neg hv];exact Nat.min_le_right _ _
theorem rL(v:Int)(n d:Nat):(if v<0 then max (v+(n:Int)) 0 else min v (n:Int))=((sIx n d (some v):Nat):Int):=by
 show(if v<0 then max (v+(n:Int)) 0 else min v (n:Int))=(((if v<0 then(v+(n:Int)).toNat else min v.toNat n):Nat):Int)
 by_cases hv:v<0
 ·simp only[if_pos hv];lia
 ·simp only[if_neg hv];lia
theorem qg(lo hi:Option Int)(n:Nat):Builtin.Slice.sliceAdjust lo hi 1 (n:Int)=(((sIx n 0 lo:Nat):Int),((sIx n n hi:Nat):Int)):=by
 have h1:¬ ((1:Int)<0):=by lia
 unfold Builtin.Slice.sliceAdjust;simp only[h1,if_false];refine Prod.ext ?_ ?_
 ·cases lo with
  |none=>rfl
  |some v=>exact rL v n 0
 ·cases hi with
  |none=>rfl
  |some v=>exact rL v n n
theorem pT(i j:Nat):Builtin.Slice.slicePlaces (i:Int) (j:Int) 1=j-i:=by
 unfold Builtin.Slice.slicePlaces;have h1:(1:Int)>0:=by lia
 simp only[h1,if_true,Int.ediv_one];split<;>lia
theorem km{v:Value}{o:Option Int}{Q:Option Int->Shared->Prop}(p:IsPart v o)(h:Q o s):wpAny (model prog w) A (Builtin.Slice.slicePartIndex v) Q E s:=by
 cases p with
 |none=>exact slicePart_none h
 |int i t=>exact slicePart_int h
theorem je{sl:Addr}{vl vu:Value}{lo hi:Option Int}{n:Nat}{Q:Int×Int×Nat->Shared->Prop}(hs:s.heap.IsSliceOf sl vl vu .none)(pl:IsPart vl lo)(pu:IsPart vu hi)
  (h:Q (((sIx n 0 lo:Nat):Int),1,sIx n n hi-sIx n 0 lo) s):wpAny (model prog w) A (Builtin.Slice.sliceApplied (.ref sl) (pure (n:Int))) Q E s:=by
 obtain⟨os,hos,hcs,hds⟩:=id hs;unfold Builtin.Slice.sliceApplied Builtin.Slice.sliceFields;refine wpAny_bind (wpAny_bind (wpAny_field hos hds (x:=vl) rfl (wpAny_bind (wpAny_field hos hds (x:=vu) rfl (wpAny_bind (wpAny_field hos hds (x:=.none) rfl (wpAny_pure ?_)))))));refine wpAny_bind (slicePart_none ?_);show wpAny _ _ (if((1:Int)==0)=true then _ else _) _ _ s;rw[if_neg (by decide)];refine wpAny_bind (km pl (wpAny_bind (km pu (wpAny_bind (wpAny_pure ?_)))));show wpAny _ _ (match Builtin.Slice.sliceAdjust lo hi 1 (n:Int) with | (lo,hi)=>pure (lo,(1:Int),Builtin.Slice.slicePlaces lo hi 1)) _ _ s;rw[qg lo hi n];show wpAny _ _ (pure (((sIx n 0 lo:Nat):Int),(1:Int),Builtin.Slice.slicePlaces ((sIx n 0 lo:Nat):Int) ((sIx n n hi:Nat):Int) 1)) _ _ s;rw[pT];exact wpAny_pure h
theorem wu(xs:Array Value)(i k:Nat):((List.range k).filterMap λ(m:Nat)=>xs[((i:Int)+(m:Int)*1).toNat]?).toArray=((xs.toList.drop i).take k).toArray:=by
 have e:(λ(m:Nat)=>xs[((i:Int)+(m:Int)*1).toNat]?)=λm=>xs[i+m]?:=by
  funext m
  have:((i:Int)+(m:Int)*1).toNat=i+m:=by lia
  rw[this]
 rw[e];have:=pick_run xs i k;rw[List.filterMap_map] at this;have e2:((λx=>xs[x]?)∘λx=>i+x)=λm=>xs[i+m]?:=rfl;rw[e2] at this;rw[this]
theorem iK{t sl:Addr}{items:Array Value}{vl vu:Value}{lo hi:Option Int}{Q:Value->Shared->Prop}(ht:IsTup s.heap t items)(hs:s.heap.IsSliceOf sl vl vu .none)(pl:IsPart vl lo)(pu:IsPart vu hi)
  (hw:¬ (sIx items.size 0 lo=0/\sIx items.size items.size hi=items.size))
  (h:Q (.ref s.heap.objs.size) { s with heap:=s.heap.push { cls:=.type "tuple",data:=.seq ((items.toList.drop (sIx items.size 0 lo)).take (sIx items.size items.size hi-sIx items.size 0 lo)).toArray } })
  (hsz:items.size<=sizeLine):wpAny (model prog w) A (getItem (.ref t) (.ref sl)) Q E s:=by
 have htake:sizeOk (.seq ((items.toList.drop (sIx items.size 0 lo)).take (sIx items.size items.size hi-sIx items.size 0 lo)).toArray):=by
  show((items.toList.drop (sIx items.size 0 lo)).take (sIx items.size items.size hi-sIx items.size 0 lo)).toArray.size<=sizeLine;rw[List.size_toArray,List.length_take,List.length_drop,Array.length_toList]
  lia
 have hj:sIx items.size items.size hi<=items.size:=Bs _ _ (Nat.le_refl _) hi;obtain⟨os,hos,hcs,hds⟩:=id hs;have hTs:s.TypeIs (.ref sl) "slice":=⟨os,hos,hcs⟩;unfold getItem
 try with_reducible refine wpAny_holding ?_
 first | refine wpAny_bind (wpAny_pure ?_) | skip
 refine wpAny_bind (wpAny_sequenceKey ht.typeIs (by decide) ?_)
 refine wpAny_bind (wpAny_callSpecial?_slot (name:=Str.ofString "__getitem__") ht.typeIs PyProof.Rows.slot_tuple_getitem
  (wpAny_call_entry PyProof.Rows.slot_tuple_getitem ht.typeIs entry_tuple_getitem ?_ (args_tuple_getitem _ _)))
 show wpAny _ _ (Builtin.Tuple.tupleItemsOf (.ref t)>>=_) _ _ s;refine wpAny_bind (tupleItemsOf_ ht ?_);refine wpAny_bind (wpAny_typeOf hTs ?_);rw[if_pos (by decide)];refine wpAny_bind (je hs pl pu ?_)
 have hno:¬ ((((sIx items.size 0 lo:Nat):Int)==0&&(1:Int)==1&&(sIx items.size items.size hi-sIx items.size 0 lo)==items.size)=true):=by
  intro q;rw[Bool.and_eq_true,Bool.and_eq_true] at q;have q1:((sIx items.size 0 lo:Nat):Int)=0:=eq_of_beq q.1.1;have q2:sIx items.size items.size hi-sIx items.size 0 lo=items.size:=eq_of_beq q.2;exact hw ⟨by lia,by lia⟩
 show wpAny _ _ (if(((sIx items.size 0 lo:Nat):Int)==0&&(1:Int)==1&&(sIx items.size items.size hi-sIx items.size 0 lo)==items.size)=true then _ else _) _ _ s;rw[if_neg hno,wu]
 first
  |exact wpAny_bind (m:=Builtin.Tuple.tupleExact _) (wpAny_newObj_type (wpAny_pure ⟨_,rfl,wpAny_pure h⟩) htake)
  |exact wpAny_bind (m:=Builtin.Tuple.tupleExact _) (wpAny_newObj_type (wpAny_bind (wpAny_pure (wpAny_pure ⟨_,rfl,wpAny_pure h⟩))) htake)
  |exact wpAny_bind (wpAny_bind (m:=Builtin.Tuple.tupleExact _) (wpAny_newObj_type (wpAny_pure (wpAny_pure ⟨_,rfl,wpAny_pure h⟩)) htake))
  |exact wpAny_bind (wpAny_bind (m:=Builtin.Tuple.tupleExact _) (wpAny_newObj_type (wpAny_pure ⟨_,rfl,wpAny_pure h⟩) htake))
end
end HT
namespace L2
open PySem PySem.Spec PyProof.Rows
noncomputable abbrev TO:=St->Hp->(Option Int->Hp->Prop)->Prop
noncomputable def PO(X:Cx)(e:Option Expr)(t:TO):Prop:=
 ∀(pins:List (Addr×Obj)) (s:Shared) (σ:St) (H:Hp) (Q:Option Int->Hp->Prop),Inv X pins σ H s->t σ H Q->
  wpAny (model X.prog X.w) X.A (evalPart e X.env) (λu s'=>∃o H',Inv X pins σ H' s'/\IsPart u o/\Q o H') X.xe s
noncomputable def x8:TO:=λ_ H Q=>Q none H
noncomputable def Cj(t:TE):TO:=λσ H Q=>t σ H λx H1=>∃i,x=.int i/\Q (some i) H1
theorem dY{ns:List Int}:∀{us:List Value},aV (ns.map V.int) us->IntsAre us ns:=by
 induction ns with
 |nil=>intro us r;rw[List.map_nil] at r;cases r;exact .nil
 |cons n ns ih=>
  intro us r;rw[List.map_cons] at r;cases r with
  |cons r1 r2=>
   obtain⟨t,e⟩:=r1;subst e;exact .cons n t (ih r2)
section
variable{X:Cx}{e:Expr}{te:TE}{lo hi:Option Expr}{tl th:TO}{pos p2:Pos}
theorem yx:PO X none x8:=by
 intro pins s σ H Q I h;rw[evalPart_none];exact wpAny_pure ⟨none,H,I,.none,h⟩
theorem yR(h:PE X e te):PO X (some e) (Cj te):=by
 intro pins s σ H Q I hw;rw[evalPart_some];refine thn (h pins s σ H _ I hw) λu s1 ⟨x,H1,I1,r1,q1⟩=>?_;obtain⟨i,rfl,q⟩:=q1;obtain⟨t,rfl⟩:=r1;exact⟨some i,H1,I1,.int i t,q⟩
noncomputable def SlR(X:Cx)(r:V->Option Int->Option Int->Hp->VK->Prop):Prop:=
 ∀(pins:List (Addr×Obj)) (s:Shared) (σ:St) (H:Hp) (x:V) (v vl vu:Value) (lo hi:Option Int) (sl:Addr) (Q:VK),Inv X pins σ H s->aY x v->s.heap.IsSliceOf sl vl vu .none->IsPart vl lo->IsPart vu hi->r x lo hi H Q->
  ∃T id,typeLookup (.type T) "__getitem__" = pure (some (.builtin id))/\s.TypeIs v T/\wpAny (model X.prog X.w) X.A (getItem v (.ref sl)) (EP X pins σ Q) X.xe s
theorem SlR.or{r r':V->Option Int->Option Int->Hp->VK->Prop}(h:SlR X r)(h':SlR X r'):SlR X (λx lo hi H Q=>r x lo hi H Q\/r' x lo hi H Q):=by
 intro pins s σ H x v vl vu lo hi sl Q I rx hs pl pu q;rcases q with q | q
 ·exact h pins s σ H x v vl vu lo hi sl Q I rx hs pl pu q
 ·exact h' pins s σ H x v vl vu lo hi sl Q I rx hs pl pu q
noncomputable def tSl(r:V->Option Int->Option Int->Hp->VK->Prop)(te:TE)(tl th:TO):TE:=λσ H Q=>te σ H λx H1=>tl σ H1 λl H2=>th σ H2 λu H3=>r x l u H3 Q
theorem nV{r:V->Option Int->Option Int->Hp->VK->Prop}(hr:SlR X r)(he:PE X e te)(hl:PO X lo tl)(hu:PO X hi th):PE X (.Subscript e (.Slice lo hi none p2) pos) (tSl r te tl th):=by
 intro pins s σ H Q I h;refine Subscript_ (thn (he pins s σ H _ I h) λv s1 ⟨x,H1,I1,r1,q1⟩=>?_);refine wpAny_Slice (thn (hl pins s1 σ H1 _ I1 q1) λvl s2 ⟨l,H2,I2,pl,q2⟩=>thn (hu pins s2 σ H2 _ I2 q2) λvu s3 ⟨u,H3,I3,pu,q3⟩=>?_);rw[evalPart_none];refine wpAny_pure ?_;have I4:Inv X pins σ H3 { s3 with heap:=s3.heap.push { cls:=.type "slice",data:=.fields #[vl,vu,.none] } }:=I3.kept (t':=s3.toks) λb ob q=>Heap.get?_push_of_some _ q;obtain⟨T,id,hT,ht,hg⟩:=hr pins { s3 with heap:=s3.heap.push { cls:=.type "slice",data:=.fields #[vl,vu,.none] } } σ H3 x v vl vu l u s3.heap.objs.size Q I4 r1 (Heap.IsSliceOf.new ..) pl pu q3;show wpAny (model X.prog X.w) X.A (subscriptTail e (.Slice lo hi none p2) v (.ref s3.heap.objs.size)) (EP X pins σ Q) X.xe { s3 with heap:=s3.heap.push { cls:=.type "slice",data:=.fields #[vl,vu,.none] } };exact tail_any (ops:=[.ref s3.heap.objs.size,v]) ht hT hg (by with_unfolding_all rfl)
noncomputable def nM(xs:List V)(lo hi:Option Int):List V:=(xs.drop (HT.sIx xs.length 0 lo)).take (HT.sIx xs.length xs.length hi-HT.sIx xs.length 0 lo)
theorem jz(xs:List V)(lo hi:Option Int):(nM xs lo hi).length<=xs.length:=by
 unfold nM;rw[List.length_take,List.length_drop]
 lia
noncomputable def CV(K:PySem.W.Frag):V->Option Int->Option Int->Hp->VK->Prop:=λx lo hi H Q=>∃a xs,x=.ref a/\SqT K H a xs/\
 ¬ (HT.sIx xs.length 0 lo=0/\HT.sIx xs.length xs.length hi=xs.length)/\∀p,H p=none->Q (.ref p) (upd H p (.tup (nM xs lo hi)))
theorem AL:SlR X (CV X.K):=by
 intro pins s σ H x v vl vu lo hi sl Q I rx hs pl pu h;obtain⟨a,xs,rfl,hx,hw,q⟩:=h;cases rx;obtain⟨its,r,ht,hz⟩:=I.tuple hx;have hlen:its.toArray.size=xs.length:=by rw[List.size_toArray];exact r.length.symm
 refine⟨"tuple",_,PyProof.Rows.slot_tuple_getitem.lookup,ht.typeIs,?_⟩;refine HT.iK ht hs pl pu (by rw[hlen];exact hw) ?_ (by rw[hlen];exact hz);rw[hlen];refine⟨.ref s.heap.objs.size,_,I.laid (t':=s.toks) (o:=.tup (nM xs lo hi)) (λb ob q=>Heap.get?_push_of_some _ q) (Nat.le_refl _) ?_,rfl,q _ (I.hok.fresh (Nat.le_refl _))⟩;exact⟨Nat.le_trans (jz xs lo hi) hz,_,(r.drop (HT.sIx xs.length 0 lo)).take (HT.sIx xs.length xs.length hi-HT.sIx xs.length 0 lo),IsTup.new _ _⟩
noncomputable def Co(K:PySem.W.Frag):R2:=λx y H Q=>∃a b xs ys,x=.ref a/\y=.ref b/\SqT K H a xs/\SqT K H b ys/\xs≠[]/\xs.length+ys.length<=sizeLine/\
 (ys=[]->Q (.ref a) H)/\(ys≠[]->∀p,H p=none->Q (.ref p) (upd H p (.tup (xs++ys))))
theorem aV.nil_iff{xs:List V}{us:List Value}(r:aV xs us):us=[]↔xs=[]:=by
 cases r with
 |nil=>simp
 |cons _ _=>simp
theorem yj:OpR X (binaryOp .Add) (Co X.K):=by
 intro pins s σ H x y v u Q I rx ry h;obtain⟨a,b,xs,ys,rfl,rfl,ha,hb,hx,hz,q1,q2⟩:=h;cases rx;cases ry;obtain⟨its,r1,p1,_⟩:=I.tuple ha;obtain⟨its2,r2,p2,_⟩:=I.tuple hb;refine HT.yz p1 p2 (λz=>hx (r1.nil_iff.mp z)) (λz=>⟨.ref a,H,I,rfl,q1 (r2.nil_iff.mp z)⟩) (λz=>?_) (by rw[<-r1.length,<-r2.length];exact hz);refine⟨.ref s.heap.objs.size,_,I.laid (t':=s.toks) (o:=.tup (xs++ys)) (λb ob q=>Heap.get?_push_of_some _ q) (Nat.le_refl _) ?_,rfl,q2 (λw=>z (r2.nil_iff.mpr w)) _ (I.hok.fresh (Nat.le_refl _))⟩;exact⟨by rw[List.length_append];exact hz,_,r1.append r2,IsTup.new _ _⟩
end
noncomputable def ixN(n:Nat)(i:Int):Option Nat:=if 0<=i then(if i<n then some i.toNat else none) else if -(n:Int)<=i then some (i+n).toNat else none
noncomputable def atI{α:Type}(xs:List α)(i:Int):Option α:=(ixN xs.length i).bind λj=>xs[j]?
theorem yW{n:Nat}{i:Int}{j:Nat}(h:ixN n i=some j):seqIndex? i n=some j/\j<n/\-(n:Int)<=i/\i<n:=by
 unfold ixN at h
 by_cases h0:0<=i
 ·rw[if_pos h0] at h
  by_cases h1:i<n
  ·rw[if_pos h1] at h
   have e:i.toNat=j:=Option.some.inj h;exact⟨by rw[seqIndex_of h0 h1,e],by lia,by lia,h1⟩
  ·rw[if_neg h1] at h;cases h
 ·rw[if_neg h0] at h
  by_cases h1:-(n:Int)<=i
  ·rw[if_pos h1] at h
   have e:(i+n).toNat=j:=Option.some.inj h;exact⟨by rw[seqIndex_neg (by lia) h1,e],by lia,h1,by lia⟩
  ·rw[if_neg h1] at h;cases h
theorem qO{α:Type}{xs:List α}{i:Int}{v:α}(h:atI xs i=some v):∃j,seqIndex? i xs.length=some j/\xs[j]?=some v/\j<xs.length/\-(xs.length:Int)<=i/\i<xs.length:=by
 unfold atI at h;cases e:ixN xs.length i with
 |none=>rw[e] at h;cases h
 |some j=>
  rw[e] at h;obtain⟨h1,h2,h3,h4⟩:=yW e;exact⟨j,h1,h,h2,h3,h4⟩
theorem nk{α:Type}{xs:List α}{j:Nat}{v:α}(h:xs[j]?=some v):atI xs (j:Int)=some v:=by
 have hj:j<xs.length:=(List.getElem?_eq_some_iff.mp h).1
 have e:ixN xs.length (j:Int)=some j:=by
  unfold ixN;rw[if_pos (by lia),if_pos (by lia)];simp
 unfold atI;rw[e];exact h
noncomputable def mK(b:Expr):Prop:=∀o i,subscripted b false o i=operate [o,i] (getItem o i)
noncomputable def IxR(X:Cx)(r:R2):Prop:=
 ∀(value slice:Expr) (pins:List (Addr×Obj)) (s:Shared) (σ:St) (H:Hp) (x y:V) (v u:Value) (Q:VK),Inv X pins σ H s->aY x v->aY y u->r x y H Q->
  subscripted slice false v u=operate [v,u] (getItem v u)->wpAny (model X.prog X.w) X.A (subscriptTail value slice v u) (EP X pins σ Q) X.xe s
noncomputable def MtR(X:Cx)(id:String)(r:V->List V->Hp->VK->Prop):Prop:=
 ∀(pins:List (Addr×Obj)) (s:Shared) (σ:St) (H:Hp) (x:V) (xs:List V) (v:Value) (us:List Value) (Q:VK),Inv X pins σ H s->aY x v->aV xs us->r x xs H Q->
  wpAny (model X.prog X.w) X.A (call (.builtin id) (v::us)) (EP X pins σ Q) X.xe s
section
variable{X:Cx}{a b:Expr}{ta tb:TE}{pos:Pos}
theorem IxR.or{r r':R2}(h:IxR X r)(h':IxR X r'):IxR X (λx y H Q=>r x y H Q\/r' x y H Q):=by
 intro value slice pins s σ H x y v u Q I rx ry q hs;rcases q with q | q
 ·exact h value slice pins s σ H x y v u Q I rx ry q hs
 ·exact h' value slice pins s σ H x y v u Q I rx ry q hs
theorem MtR.or{id:String}{r r':V->List V->Hp->VK->Prop}(h:MtR X id r)(h':MtR X id r'):MtR X id (λx xs H Q=>r x xs H Q\/r' x xs H Q):=by
 intro pins s σ H x xs v us Q I rx rs q;rcases q with q | q
 ·exact h pins s σ H x xs v us Q I rx rs q
 ·exact h' pins s σ H x xs v us Q I rx rs q
theorem CI{r:R2}(hr:IxR X r)(ha:PE X a ta)(hb:PE X b tb)(hs:mK b):PE X (.Subscript a b pos) (tOp r ta tb):=by
 intro pins s σ H Q I h;exact Subscript_ (Ac ha hb I h λv u s2 x y H2 I2 rx ry q=>hr a b pins s2 σ H2 x y v u Q I2 rx ry q (hs _ _))
noncomputable def CO(K:PySem.W.Frag):R2:=λx y H Q=>∃p xs i v,x=.ref p/\y=.int i/\SqL K H p xs/\atI xs i=some v/\Q v H
noncomputable def Dm(K:PySem.W.Frag):R2:=λx y H Q=>∃p xs i v,x=.ref p/\y=.int i/\SqT K H p xs/\atI xs i=some v/\Q v H
theorem xF:IxR X (CO X.K):=by
 intro value slice pins s σ H x y v u Q I rx ry h hs;obtain⟨p,xs,i,z,rfl,rfl,hq,he,q⟩:=h;cases rx;obtain⟨t,rfl⟩:=ry;obtain⟨its,r,pl,hz⟩:=I.list hq;obtain⟨j,h1,h2,h3,h4,h5⟩:=qO he;obtain⟨w,ew,rw'⟩:=r.get h2;have hl:=r.length;have hn:=nE;have fin:EP X pins σ Q w s:=⟨z,H,I,rw',q⟩
 by_cases h0:0<=i
 ·have hj:i.toNat=j:=by
   rw[seqIndex_of h0 h5] at h1;exact Option.some.inj h1
  exact item_listR pl.isList h0 (by lia) (by rw[hj];simpa using ew) fin hs
 ·have hj:(i+(its.toArray.size:Int)).toNat=j:=by
   rw[seqIndex_neg (by lia) h4] at h1;rw[List.size_toArray,<-hl];exact Option.some.inj h1
  exact subscriptTail_builtinR (x:=w) pl.isList.typeIs slot_list_getitem.lookup
   (wpAny_getItem_list_neg (Q:=λr s'=>r=w/\EP X pins σ Q r s') pl.isList (by lia) (by rw[List.size_toArray]<;>lia) (by lia) (by rw[hj];simpa using ew) ⟨rfl,fin⟩) hs
theorem AN:IxR X (Dm X.K):=by
 intro value slice pins s σ H x y v u Q I rx ry h hs;obtain⟨p,xs,i,z,rfl,rfl,hq,he,q⟩:=h;cases rx;obtain⟨t,rfl⟩:=ry;obtain⟨its,r,pl,hz⟩:=I.tuple hq;obtain⟨j,h1,h2,h3,h4,h5⟩:=qO he;obtain⟨w,ew,rw'⟩:=r.get h2;have hl:=r.length;have hn:=nE;have fin:EP X pins σ Q w s:=⟨z,H,I,rw',q⟩
 exact subscriptTail_builtinR (x:=w) pl.typeIs slot_tuple_getitem.lookup
  (getItem_tuple (j:=j) (Q:=λr s'=>r=w/\EP X pins σ Q r s') pl (by lia) (by lia) (by rw[List.size_toArray,<-hl];exact h1) (by simpa using ew) ⟨rfl,fin⟩) hs
theorem Inv.lst{pins:List (Addr×Obj)}{σ:St}{H:Hp}{s:Shared}{p:Addr}{xs:List V}(I:Inv X pins σ H s)(h:H p=some (.lst xs)) :
  ∃(its:List Value) (n:Nat),aV xs its/\s.heap.get? p=some { cls:=.type "list",data:=.seq its.toArray n }/\xs.length<=sizeLine:=by
 obtain⟨z,its,n,r,e⟩:=I.hok p _ h;exact⟨its,n,r,e,z⟩
theorem mS(lo hi:Option Int)(n:Nat):(sliceBounds lo hi none n).1=((HT.sIx n 0 lo:Nat):Int)/\(sliceBounds lo hi none n).2.1=((HT.sIx n n hi:Nat):Int)/\(sliceBounds lo hi none n).2.2=1:=by
 refine⟨?_,?_,rfl⟩
 ·cases lo with
  |none=>simp[sliceBounds,HT.sIx]
  |some i=>
   simp only[sliceBounds,HT.sIx,Option.getD_none,show(1:Int)>0 by decide,if_true]
   by_cases h:i<0
   ·simp only[h,if_true]<;>lia
   ·simp only[h,if_false]<;>lia
 ·cases hi with
  |none=>simp[sliceBounds,HT.sIx]
  |some i=>
   simp only[sliceBounds,HT.sIx,Option.getD_none,show(1:Int)>0 by decide,if_true]
   by_cases h:i<0
   ·simp only[h,if_true]<;>lia
   ·simp only[h,if_false]<;>lia
theorem lL(its:List Value)(lo hi:Option Int):slicePick its.toArray lo hi none=((its.drop (HT.sIx its.length 0 lo)).take (HT.sIx its.length its.length hi-HT.sIx its.length 0 lo)).toArray:=by
 obtain⟨h1,h2,h3⟩:=mS lo hi its.toArray.size;unfold slicePick;rw[h1,h2,h3];simp only[sliceRange_one,pick_run,List.size_toArray]<;>rfl
noncomputable def C2(K:PySem.W.Frag):V->Option Int->Option Int->Hp->VK->Prop:=λx lo hi H Q=>∃a xs,x=.ref a/\SqL K H a xs/\∀p,H p=none->Q (.ref p) (upd H p (.lst (nM xs lo hi)))
theorem yu:SlR X (C2 X.K):=by
 intro pins s σ H x v vl vu lo hi sl Q I rx hs pl pu h;obtain⟨a,xs,rfl,hx,q⟩:=h;cases rx;obtain⟨its,r,ht,hz⟩:=I.list hx;have hlen:=r.length;refine⟨"list",_,slot_list_getitem.lookup,ht.isList.typeIs,?_⟩;refine wpAny_getItem_list_slice ht.isList hs pl pu .none (by simp) ?_ (by rw[List.size_toArray]<;>lia);rw[lL,<-hlen];refine⟨.ref s.heap.objs.size,_,I.laid (t':=s.toks) (o:=.lst (nM xs lo hi)) (λb ob q=>Heap.get?_push_of_some _ q) (Nat.le_refl _) ?_,rfl,q _ (I.hok.fresh (Nat.le_refl _))⟩;exact⟨Nat.le_trans (jz xs lo hi) hz,_,0,(r.drop (HT.sIx xs.length 0 lo)).take (HT.sIx xs.length xs.length hi-HT.sIx xs.length 0 lo),Heap.get?_push_size _ rfl⟩
noncomputable def f7:V->Bool
 |.non=>true
 |.bl _=>true
 |.int _=>true
 |.str _=>true
 |_=>false
noncomputable def eqV:V->V->Bool
 |.non,.non=>true
 |.bl a,.bl b=>a==b
 |.bl a,.int b=>(if a then 1 else 0)==b
 |.int a,.bl b=>a==(if b then 1 else 0)
 |.int a,.int b=>a==b
 |.str a,.str b=>a==b
 |_,_=>false
theorem qd{A:Around}{s:Shared}{y x:V}{u v:Value}(ry:aY y u)(rx:aY x v)(fy:f7 y=true)(fx:f7 x=true):SeqAt.EqAt A s u v (eqV y x):=by
 cases y with
 |non=>
  cases ry;cases x with
  |non=>cases rx;exact SeqAt.EqAt.same _
  |bl b=>cases rx;exact SeqAt.EqAt.none_bool b
  |int b=>obtain⟨t,rfl⟩:=rx;exact SeqAt.EqAt.none_int b t
  |str b=>obtain⟨t,rfl⟩:=rx;exact SeqAt.EqAt.none_str b t
  |_=>exact absurd (show false=true from fx) Bool.false_ne_true
 |bl a=>
  cases ry;cases x with
  |non=>cases rx;exact SeqAt.EqAt.bool_none a
  |bl b=>cases rx;exact SeqAt.EqAt.bool_bool a b
  |int b=>obtain⟨t,rfl⟩:=rx;exact SeqAt.EqAt.bool_int a b t
  |str b=>obtain⟨t,rfl⟩:=rx;exact SeqAt.EqAt.bool_str a b t
  |_=>exact absurd (show false=true from fx) Bool.false_ne_true
 |int a=>
  obtain⟨t',rfl⟩:=ry;cases x with
  |non=>cases rx;exact SeqAt.EqAt.int_none a t'
  |bl b=>cases rx;exact SeqAt.EqAt.int_bool a t' b
  |int b=>obtain⟨t,rfl⟩:=rx;exact SeqAt.EqAt.int_int a t' b t
  |str b=>obtain⟨t,rfl⟩:=rx;exact SeqAt.EqAt.int_str a t' b t
  |_=>exact absurd (show false=true from fx) Bool.false_ne_true
 |str a=>
  obtain⟨t',rfl⟩:=ry;cases x with
  |non=>cases rx;exact SeqAt.EqAt.str_none a t'
  |bl b=>cases rx;exact SeqAt.EqAt.str_bool a t' b
  |int b=>obtain⟨t,rfl⟩:=rx;exact SeqAt.EqAt.str_int a t' b t
  |str b=>obtain⟨t,rfl⟩:=rx;exact SeqAt.EqAt.str_str a t' b t
  |_=>exact absurd (show false=true from fx) Bool.false_ne_true
 |_=>exact absurd (show false=true from fy) Bool.false_ne_true
noncomputable def eqU(x:V)(u:Value):Bool:=match u with
 |.none=>eqV .non x
 |.bool b=>eqV (.bl b) x
 |.int i _=>eqV (.int i) x
 |.str z _=>eqV (.str z) x
 |_=>false
theorem uS{x y:V}{u:Value}(r:aY y u)(f:f7 y=true):eqU x u=eqV y x:=by
 cases y with
 |non=>cases r;rfl
 |bl b=>cases r;rfl
 |int i=>obtain⟨t,rfl⟩:=r;rfl
 |str z=>obtain⟨t,rfl⟩:=r;rfl
 |_=>exact absurd (show false=true from f) Bool.false_ne_true
theorem iz{x:V}:∀{xs:List V} {us:List Value},aV xs us->xs.all f7=true->us.any (eqU x)=xs.any λy=>eqV y x
 |_,_,.nil,_=>rfl
 |y::xs,u::us,.cons r t,f=>by
  rw[List.all_cons,Bool.and_eq_true] at f;rw[List.any_cons,List.any_cons,uS r f.1,iz t f.2]
theorem gJ{A:Around}{s:Shared}{x:V}{v:Value}(rx:aY x v)(fx:f7 x=true):∀{xs:List V} {us:List Value},aV xs us->xs.all f7=true->∀u∈us,SeqAt.EqAt A s u v (eqU x u)
 |_,_,.nil,_=>λu hu=>by cases hu
 |y::xs,u::us,.cons r t,f=>λu' hu=>by
  rw[List.all_cons,Bool.and_eq_true] at f;rcases List.mem_cons.mp hu with rfl | hu
  ·rw[uS r f.1];exact qd r rx f.1 fx
  ·exact gJ rx fx t f.2 u' hu
noncomputable def inV(x:V)(xs:List V):Bool:=xs.any λy=>eqV y x
noncomputable def rIn(K:PySem.W.Frag)(neg:Bool):R2:=λx y H Q=>∃p xs,y=.ref p/\(SqL K H p xs\/SqT K H p xs)/\f7 x=true/\xs.all f7=true/\Q (.bl (if neg then !inV x xs else inV x xs)) H
theorem sP:OpR X (compareOp .In) (rIn X.K false):=by
 intro pins s σ H x y v u Q I rx ry h;obtain⟨p,xs,rfl,hq,fx,fs,q⟩:=h;cases ry;rcases hq with hq | hq
 ·obtain⟨its,r,pl,hz⟩:=I.list hq
  refine SeqAt.in_listAt (eqU x) pl.isList (λw hw=>gJ rx fx r fs w (by simpa using hw)) ⟨.bl _,H,I,rfl,?_⟩;rw[show its.toArray.any (eqU x)=its.any (eqU x) by simp,iz r fs];exact q
 ·obtain⟨its,r,pl,hz⟩:=I.tuple hq
  refine SeqAt.in_tupleAt (eqU x) pl (λw hw=>gJ rx fx r fs w (by simpa using hw)) ⟨.bl _,H,I,rfl,?_⟩;rw[show its.toArray.any (eqU x)=its.any (eqU x) by simp,iz r fs];exact q
theorem nP:OpR X (compareOp .NotIn) (rIn X.K true):=by
 intro pins s σ H x y v u Q I rx ry h;obtain⟨p,xs,rfl,hq,fx,fs,q⟩:=h;cases ry;rcases hq with hq | hq
 ·obtain⟨its,r,pl,hz⟩:=I.list hq
  refine SeqAt.notIn_listAt (eqU x) pl.isList (λw hw=>gJ rx fx r fs w (by simpa using hw)) ⟨.bl _,H,I,rfl,?_⟩;rw[show its.toArray.any (eqU x)=its.any (eqU x) by simp,iz r fs];exact q
 ·obtain⟨its,r,pl,hz⟩:=I.tuple hq
  refine SeqAt.notIn_tupleAt (eqU x) pl (λw hw=>gJ rx fx r fs w (by simpa using hw)) ⟨.bl _,H,I,rfl,?_⟩;rw[show its.toArray.any (eqU x)=its.any (eqU x) by simp,iz r fs];exact q
theorem m9:dW X (.builtin "len") (λxs H Q=>∃p ys,xs=[.ref p]/\(SqL X.K H p ys\/SqT X.K H p ys)/\Q (.int ys.length) H):=by
 intro pins s σ H xs us Q I r h;obtain⟨p,ys,rfl,hq,q⟩:=h;obtain⟨u,rfl,rx⟩:=y2 r;cases rx;have hn:=nE;rcases hq with hq | hq
 ·obtain⟨its,r',pl,hz⟩:=I.list hq
  have hlen:=r'.length;exact Calls.call_len_list pl.isList (by simp only[List.size_toArray]<;>lia) ⟨.int ys.length,H,I.tok _,⟨s.toks+1,by rw[List.size_toArray,hlen]⟩,q⟩
 ·obtain⟨its,r',pl,hz⟩:=I.tuple hq
  have hlen:=r'.length;exact len_tuple pl (by simp only[List.size_toArray]<;>lia) ⟨.int ys.length,H,I.tok _,⟨s.toks+1,by rw[List.size_toArray,hlen]⟩,q⟩
theorem dW.or{f:Value}{r r':List V->Hp->VK->Prop}(h:dW X f r)(h':dW X f r'):dW X f (λxs H Q=>r xs H Q\/r' xs H Q):=by
 intro pins s σ H xs us Q I rs q;rcases q with q | q
 ·exact h pins s σ H xs us Q I rs q
 ·exact h' pins s σ H xs us Q I rs q
theorem mM:dW X (.type "list") (λxs H Q=>∃p ys,xs=[.ref p]/\(SqL X.K H p ys\/SqT X.K H p ys)/\∀l,H l=none->Q (.ref l) (upd H l (.lst ys))):=by
 intro pins s σ H xs us Q I r h;obtain⟨p,ys,rfl,hq,q⟩:=h;obtain⟨u,rfl,rx⟩:=y2 r;cases rx
 have fin:∀(its:List Value),aV ys its->ys.length<=sizeLine->∀(h':Heap) (c':Nat),(∀b o',s.heap.get? b=some o'->h'.get? b=some o')->
   h'.get? s.heap.objs.size=some { cls:=.type "list",dict:=none,data:=.seq its.toArray c',slots:=#[] }->EP X pins σ Q (.ref s.heap.objs.size) { s with heap:=h' }:=λits r' hz h' c' kp e=>
  ⟨.ref s.heap.objs.size,_,I.laid (t':=s.toks) kp (Nat.le_refl _) (show bG X.prog X.w _ h' _ (.lst ys) from⟨hz,its,c',r',e⟩),rfl,q _ (I.hok.fresh (Nat.le_refl _))⟩
 rcases hq with hq | hq
 ·obtain⟨its,r',pl,hz⟩:=I.list hq
  have hlen:=r'.length;obtain⟨o,ho,hc,n,hd⟩:=pl.isList;exact call_list_seq p (.inl rfl) ho hc hd (λh' c' kp e=>fin its r' hz h' c' kp e) (by simp only[List.size_toArray]<;>lia)
 ·obtain⟨its,r',pl,hz⟩:=I.tuple hq
  have hlen:=r'.length;obtain⟨o,ho,hc,n,hd⟩:=pl;exact call_list_seq p (.inr rfl) ho hc hd (λh' c' kp e=>fin its r' hz h' c' kp e) (by simp only[List.size_toArray]<;>lia)
noncomputable def tyV(K:PySem.W.Frag)(T:String)(x:V)(H:Hp):Prop:=match x with
 |.str _=>T = "str"
 |.int _=>T = "int"
 |.ref p=>(T = "list"/\∃xs,SqL K H p xs)\/(T = "tuple"/\∃o,K.lookup p=some o/\o.cls=.type "tuple"/\o.dict=none)\/
   (T = "dict"/\((∃kvs,H p=some (.dK kvs))\/∃kvs,H p=some (.dT kvs)))\/(T = "set"/\∃S n,H p=some (.set S n))
 |_=>False
theorem zW{pins:List (Addr×Obj)}{σ:St}{H:Hp}{s:Shared}{T:String}{x:V}{v:Value}(I:Inv X pins σ H s)(r:aY x v)(ty:tyV X.K T x H) :
  s.TypeIs v T/\∀a,v=.ref a->∃ob,s.heap.get? a=some ob/\ob.dict=none:=by
 cases x with
 |str z=>
  obtain⟨t,rfl⟩:=r;cases(show T = "str" from ty);exact⟨typeIs_str s z t,λ_ e=>nomatch e⟩
 |int i=>
  obtain⟨t,rfl⟩:=r;cases(show T = "int" from ty);exact⟨typeIs_int s i t,λ_ e=>nomatch e⟩
 |ref p=>
  cases r;rcases ty with⟨rfl,xs,hq⟩ | ⟨rfl,o,hk,hc,hd⟩ | ⟨rfl,hk⟩ | ⟨rfl,S,n,hk⟩
  ·obtain⟨its,_,pl,_⟩:=I.list hq
   refine⟨pl.isList.typeIs,λa e=>?_⟩;cases e;obtain⟨o,n,e,c,hd,_⟩:=pl;exact⟨o,e,hd⟩
  ·refine⟨⟨o,I.kIn p o hk,hc⟩,λa e=>?_⟩
   cases e;exact⟨o,I.kIn _ o hk,hd⟩
  ·have z:∃o,s.heap.get? p=some o/\o.ExactDict:=by
    rcases hk with⟨kvs,hk⟩ | ⟨kvs,hk⟩
    ·obtain⟨_,_,_,_,o,_,_,e,ex,_⟩:=I.hok p _ hk
     exact⟨o,e,ex⟩
    ·obtain⟨_,_,_,_,o,_,_,e,ex,_⟩:=I.hok p _ hk
     exact⟨o,e,ex⟩
   obtain⟨o,e,ex⟩:=z;refine⟨⟨o,e,ex.1⟩,λa e2=>?_⟩;cases e2;exact⟨o,e,ex.2.1⟩
  ·obtain⟨o,_,_,_,e,ex,_⟩:=I.hok p _ hk
   refine⟨⟨o,e,ex.1⟩,λa e2=>?_⟩;cases e2;exact⟨o,e,ex.2.1⟩
 |_=>exact False.elim ty
noncomputable def tBM(K:PySem.W.Frag)(T:String)(r:V->List V->Hp->VK->Prop)(to:TE)(t:TA):TE:=λσ H Q=>to σ H λx H1=>tyV K T x H1/\t σ H1 λxs H2=>r x xs H2 Q
variable{o e:Expr}{es:List Expr}{to:TE}{t:TA}{name:Str}{apos cpos:Pos}{T id:String}{r:V->List V->Hp->VK->Prop}
theorem Cf(pa:PlainAttrs T)(slot:Slot T name id)(hty:typeOf (.builtin id)=pure (.type "method_descriptor"))(hm:MtR X id r)(ho:PE X o to)(ha:PA X (e::es) t)
  (hbase:attributeBase o name X.env (eval o X.env)=eval o X.env:=by rfl)
  (hfew:((backTo cpos (starEach (e::es) X.env)).all (λx=>!x.1)&&(backToKw cpos (keywordEach [] X.env)).all (λx=>x.1.isSome)
   && decide ((e::es).length+([]:List Keyword).length+(if([]:List Keyword).isEmpty then 0 else 1)<30))=true:=by rfl)
  (hline:(apos.endLine==cpos.line)=true:=by rfl) (hs:starEach (e::es) X.env=(false,eval e X.env)::starEach es X.env:=by rfl) (hplain:(backTo cpos (starEach es X.env)).any (·.1)=false:=by rfl) :
  PE X (.Call (.Attribute o name apos) (e::es) [] cpos) (tBM X.K T r to t):=by
 intro pins s σ H Q I h;refine wpAny_Call_method_late hbase hfew hline rfl (thn (ho pins s σ H _ I h) λv s1 ⟨x,H1,I1,r1,ty,q1⟩=>?_);obtain⟨h1,h2⟩:=zW I1 r1 ty;refine⟨T,id,pa,slot,hty,h1,h2,?_⟩;have hA:=ha cpos pins s1 σ H1 _ I1 q1;rw[hs] at hA ⊢;refine Calls.callWith_builtin (by show(false || (backTo cpos (starEach es X.env)).any (·.1))=false;rw[hplain]<;>rfl) (Calls.evalArgs_plain ?_);exact thn hA λus s2 ⟨vs,H2,I2,r2,q2⟩=>hm pins s2 σ H2 x vs v us Q I2 r1 r2 q2
end
noncomputable def MtM(X:Cx)(id:String)(r:V->List V->Hp->VK->Prop):Prop:=
 ∀(pins:List (Addr×Obj)) (s:Shared) (σ:St) (H:Hp) (x:V) (xs:List V) (v:Value) (us:List Value) (Q:VK),Inv X pins σ H s->aY x v->aV xs us->r x xs H Q->
  wpAny (model X.prog X.w) X.A (call (.builtin id) (v::us)) (EP X pins σ Q) X.xe s
theorem aV.one:∀{x:V} {us:List Value},aV [x] us->∃u,us=[u]/\aY x u:=λh=>by
 cases h with | cons r t=>cases t;exact⟨_,rfl,r⟩
theorem aV.two:∀{x y:V} {us:List Value},aV [x,y] us->∃u v,us=[u,v]/\aY x u/\aY y v:=λh=>by
 cases h with | cons r t=>cases t with | cons q t=>cases t;exact⟨_,_,rfl,r,q⟩
theorem aV.zero:∀{us:List Value},aV [] us->us=[]
 |_,.nil=>rfl
theorem aV.eraseIdx:∀{xs:List V} {us:List Value} (i:Nat),aV xs us->aV (xs.eraseIdx i) (us.eraseIdx i)
 |_,_,_,.nil=>.nil
 |_,_,0,.cons _ t=>t
 |_,_,i+1,.cons r t=>.cons r (aV.eraseIdx i t)
theorem aV.reverse{xs:List V}{us:List Value}(h:aV xs us):aV xs.reverse us.reverse:=by
 induction h with
 |nil=>exact .nil
 |cons r t ih=>rw[List.reverse_cons,List.reverse_cons];exact aV.append ih (.cons r .nil)
section
variable{X:Cx}{pins:List (Addr×Obj)}{σ:St}{H:Hp}{s:Shared}{l b:Addr}{xs ys zs:List V}
theorem Inv.lset{its its':List Value}{n:Nat}{f:Array Value->Array Value}{t':Nat}(I:Inv X pins σ H s)(hH:H l=some (.lst xs))
  (e:s.heap.get? l=some { cls:=.type "list",data:=.seq its.toArray n }) (hf:f its.toArray=its'.toArray) (hv:aV ys its') (hz:ys.length<=sizeLine) :
  Inv X pins σ (upd H l (.lst ys)) { s with heap:=s.heap.update l (Obj.mapSeq f),toks:=t' }:=by
 have q:=PySem.IsL.update e f;rw[hf] at q;refine I.write (x:=l) (e:=l) (by rw[hH];exact trivial) (.inl rfl) (λb' u hb hu=>(Heap.get?_update_other s.heap (Obj.mapSeq f) (Ne.symm hb)).trans hu) ⟨_,q⟩ ?_;exact⟨hz,its',_,hv,q⟩
theorem Inv.lnew{its:List Value}{t':Nat}(I:Inv X pins σ H s)(hv:aV ys its)(hz:ys.length<=sizeLine) :
  Inv X pins σ (upd H s.heap.objs.size (.lst ys)) { s with heap:=s.heap.push { cls:=.type "list",data:=.seq its.toArray },toks:=t' }:=
 I.laid (λ_ _ q=>Heap.get?_push_of_some _ q) (Nat.le_refl _) ⟨hz,its,0,hv,Heap.get?_push_size _ rfl⟩
theorem Inv.fresh(I:Inv X pins σ H s):H s.heap.objs.size=none:=I.hok.fresh (Nat.le_refl _)
theorem Inv.lstM(I:Inv X pins σ H s)(hH:H l=some (.lst xs)):xs.length<=sizeLine/\∃(its:List Value) (n:Nat),aV xs its/\xs.length=its.length/\s.heap.get? l=some { cls:=.type "list",data:=.seq its.toArray n }:=by
 obtain⟨z,its,n,r,e⟩:=I.hok l _ hH;exact⟨z,its,n,r,r.length,e⟩
end
section
variable{X:Cx}
noncomputable def yL:V->List V->Hp->VK->Prop:=λx vs H Q=>∃l xs y,x=.ref l/\vs=[y]/\H l=some (.lst xs)/\xs.length<sizeLine/\Q .non (upd H l (.lst (xs++[y])))
theorem mC:MtM X "list.append" yL:=by
 intro pins s σ H x vs v us Q I rx rv h;obtain⟨l,xs,y,rfl,rfl,hH,hz,q⟩:=h;cases rx;obtain⟨u,rfl,ru⟩:=rv.one;obtain⟨z,its,n,r,hl,e⟩:=I.lstM hH;refine call_meets F.slot_list_append ⟨_,e,rfl⟩ F.entry_list_append (F.args_list_append_2 _ _) (PySem.list_append l its.toArray n u (by rw[List.size_toArray];lia)) ⟨e,?_⟩;refine⟨.non,_,I.lset (its':=its++[u]) hH e (by simp) (r.append (.cons ru .nil)) ?_,rfl,q⟩;rw[List.length_append,List.length_singleton]
 lia
end
end L2
namespace Att
open PySem PySem.W PySem.Calls PyProof.Rows
theorem jR{P:Params}{h:Heap}:∀(ns:List Int) (vs:List Value),WellAll P h vs (ns.map WData.int)->IntsAre vs ns:=by
 intro ns
 induction ns with
 |nil=>
  intro vs w;rw[List.map_nil] at w;cases w;exact .nil
 |cons n ns ih=>
  intro vs w;rw[List.map_cons] at w;cases w with
  |cons a b=>
   cases a;exact .cons _ _ (ih _ b)
theorem tW{l:OpenLaw}{n:Nat}(hn:l.most=some n){P:Params}{h:Heap}{args:List WData}{vals:List Value}
  (hpre:l.row.toRowW.claim.pre args=true) (hwl:WellAll P h vals args) :
  ∃a vs ns,vals=[Value.ref a]/\args=[WData.list (ns.map WData.int)]/\h.get? a=some { cls:=.type "list",data:=.seq vs.toArray }/\IntsAre vs ns/\ns.length<=n:=by
 have hsh:WShape.hasAll [] args [.list .int]=true:=(pre_splitW hpre).1;have hc:l.pre.holds [] { args:=args }=true:=(pre_splitW hpre).2;obtain⟨d,r,rfl,h1,h2⟩:=hasAllW_cons hsh;obtain rfl:=hasAllW_nil h2;obtain⟨xs,rfl,h3⟩:=hasW_list h1;obtain⟨ns,rfl⟩:=items_int h3
 have hlen:ns.length<=n:=by
  unfold OpenLaw.pre at hc
  have h4:(WTm.not (.lt (.lit (.int (n:Int))) (.len (.arg 0)))).holds [] { args:=[.list (ns.map .int)] }=true:=by
   have h4:=(holds_andW hc).1;rw[hn] at h4;exact h4
  have h5:=condW_of h4 (w_not (w_lt w_lit (w_len_list (w_arg rfl))));rw[List.length_map] at h5;refine Nat.le_of_not_lt λq=>?_;have q':(n:Int)<((ns.length:Nat):Int):=by lia
  first
   |(rw[decide_eq_true q'] at h5;exact absurd h5 (by decide))
   |(simp at h5;lia)
 cases hwl with
 |cons w1 w2=>
  cases w2;cases w1 with
  |list ho hall=>exact⟨_,_,ns,rfl,rfl,ho,jR ns _ hall,hlen⟩
theorem sC(l:OpenLaw)(args:List WData):l.row.toRowW.claim.post args (.bool true) args=true:=
 postW_of (r:=l.row.toRowW) (X:=(true==true))
  (show WShape.has [] (.bool true) .bool=true by first | rfl | decide | simp[WShape.has,WShape.arms,WShape.armsAll])
  (show(WTm.eq .res (.lit (.bool true))).value [] { args:=args,res:=some (.bool true),after:=args }=some (.bool (true==true)) from w_eq_bool (w_res rfl) w_lit) rfl
theorem pM{l:OpenLaw}{n:Nat}{q:Program}{loose:List Str}{XP:(Str->Option Value)->Heap->Prop}{YP:World->Heap->Prop}{d:DefRec}
  (hn:l.most=some n) (hdf:d.params.defaults=[])
  (call:∀(w:World) (s₀ s₁:Shared) (mg mb:Str->Option Value) (fa:Addr) (o:Obj) (pm cd doc:Value) (a:Addr) (vs:List Value) (ns:List Int),
   Ground q loose [] XP w s₀ mg mb s₁.heap->YP w s₁.heap->
   s₁.heap.get? fa=some o->o.data=.func (docDef d.name d.params d.body d.scope pm cd doc)->s₁.heap.CodeRec cd d.name->mg d.name=some (.ref fa)->
   s₁.heap.get? a=some { cls:=.type "list",data:=.seq vs.toArray }->IntsAre vs ns->ns.length<=n->s₁.gens=#[]->
   codeAny (model l.prog w) callerA (.call (.ref fa) ⟨[.ref a],[]⟩) (λr s'=>r=.ok (.ret (.bool true))/\OldK s₁.heap s'.heap/\s'.os=s₁.os/\AllBare s'.gens) s₁) :
  WalkO q loose XP YP l.row.toRowW d [] (λf vs=>PySem.call f vs):=by
 intro w s₀ s₁ mg mb G Y fa o pm cd doc dV kV ho hd hcd hD hmg hg args vals as hpre hlay hrd hwl hlo;obtain rfl:dV=.none:=Dflts.none hD hdf;obtain rfl:kV=.none:=Dflts.noKw hD;obtain⟨a,vs,ns,rfl,rfl,hobj,hints,hlen⟩:=tW hn hpre hwl;refine enter_call (codeAny_mono (call w s₀ s₁ mg mb fa o pm cd doc a vs ns G Y ho (fd_plain hd) hcd hmg hobj hints hlen hg) λr s' hq=>?_);obtain⟨rfl,h2,h3,h4⟩:=hq;exact⟨.inl ⟨.bool true,.bool true,[],rfl,λ_=>rfl,.bool true,sC l _,λ_=>⟨List.Pairwise.nil,λ_ hm=>(nomatch hm)⟩⟩,h2,h3,h4⟩
end Att
namespace L2
open PySem PySem.Spec PyProof.Rows
theorem l7:∀{vs:List Value} {ns:List Int},IntsAre vs ns->aV (ns.map V.int) vs
 |_,_,.nil=>.nil
 |_,_,.cons n t h=>.cons ⟨t,rfl⟩ (l7 h)
noncomputable def AW(H:Hp):Prop:=∀b,H b=none\/∃o xs,H b=some (.frz o (.lst xs))
theorem v_{P:Program}{w:World}{K:PySem.W.Frag}{mg mb:Str->Option Value}{CX:CXT}{k:Nat}{fa a:Addr}{fd:FuncData}{x:Str}{sp:Sp}{s₁:Shared}{vs:List Value}{ns:List Int}
  (KX:K.In s₁.heap) (hns:s₁.heap.Ns mainGlobals mg) (hb:s₁.heap.Ns builtinsNs mb) (hbb:∀x:Str,x≠"__name__"->mb x=bootBuiltins x) (hlim:s₁.heap.NoLimit) (hg:s₁.gens=#[])
  (ha:s₁.heap.get? a=some { cls:=.type "list",data:=.seq vs.toArray }) (hi:IntsAre vs ns) (hl:ns.length<=sizeLine) (hr:Room k callerA)
  (F:∀base:Heap,K.In base->base.Ns mainGlobals mg->FnOk P w K mg base CX k fa fd [x] sp) (hbind:∀(s:Shared) (u:Value),BindsTo s fd ⟨[u],[]⟩ [(x,u)])
  (hsp:∀H:Hp,AW H->SqL K H a (ns.map V.int)->sp [.ref a] H (λv _=>v=.bl true) λ_ _ _=>False)
  (hCX:∀H e s',CX [] H s₁ (λ_ _ _=>False) e s'->False) :
  codeAny (model P w) callerA (.call (.ref fa) ⟨[.ref a],[]⟩) (λr s'=>r=.ok (.ret (.bool true))/\OldK s₁.heap s'.heap/\s'.os=s₁.os/\AllBare s'.gens) s₁:=by
 have rv:=l7 hi;have lenV:=hi.length
 have core:∀H:Hp,AW H->SqL K H a (ns.map V.int)->HOk P w H s₁.heap->(∀b,H b≠none->b=a)->(H a≠none->K.lookup a=none)->
   codeAny (model P w) callerA (.call (.ref fa) ⟨[.ref a],[]⟩) (λr s'=>r=.ok (.ret (.bool true))/\OldK s₁.heap s'.heap/\s'.os=s₁.os/\AllBare s'.gens) s₁:=by
  intro H hO hS hok hA hK;have base_of:∀{b:Addr} {o:Obj},s₁.heap.get? b=some o->H b=none->(nJ s₁.heap H).get? b=some o:=λe n=>uQ e n
  have noA:∀{b:Addr} {o:Obj} {es:Array DictEntry} {ep:Nat},s₁.heap.get? b=some o->o.data=.dict es ep->H b=none:=λ{b o es ep} e d=>by
   cases q:H b with
   |none=>rfl
   |some u=>
    have e':b=a:=hA b (by rw[q];simp);subst e';rw[ha] at e;cases e;have d':Data.seq vs.toArray _=Data.dict es ep:=d;cases d'
  have nsK:∀{b:Addr} {m:Str->Option Value},s₁.heap.Ns b m->(nJ s₁.heap H).Ns b m:=λ{b m} ⟨o,es,ep,e,d,r⟩=>⟨o,es,ep,base_of e (noA e d),d,r⟩
  have hKb:K.In (nJ s₁.heap H):=λb o e=>base_of (KX b o e) (by
   cases q:H b with
   |none=>rfl
   |some u=>
    have e':b=a:=hA b (by rw[q];simp);subst e'
    rw[hK (by rw[q];simp)] at e;cases e)
  have hM:Mod K mg (nJ s₁.heap H):=⟨hKb,nsK hns,⟨mb,nsK hb,hbb⟩,let⟨mc,h1,h2⟩:=hlim;⟨mc,nsK h1,h2⟩⟩;have e0:Env0 P w K mg (nJ s₁.heap H) callerA [] s₁ H:=⟨rfl,hM,λb o e=>w8 e,Nat.le_of_eq (sW _ _),trivial,λb hb=>absurd (show b∈([]:List Addr) from hb) (by simp),hok,.of_eq hg⟩;refine codeAny_mono ((F _ hKb (nsK hns)).run callerA [] s₁ H ⟨[.ref a],[]⟩ [.ref a] [.ref a] _ _ hr e0 (hbind s₁ (.ref a)) (.cons rfl .nil) (hsp H hO hS)) λr s' h=>?_;cases r with
  |error e=>exact(hCX H e s' h).elim
  |ok fl=>
   cases fl with
   |next=>exact False.elim h
   |brk=>exact False.elim h
   |cont=>exact False.elim h
   |ret u=>
    obtain⟨v,H',os,bare,un,hok',r',q⟩:=h;have q':v=.bl true:=q;subst q';obtain rfl:u=Value.bool true:=r';refine⟨rfl,OldK.of_keep λb o e=>?_,os,bare⟩;cases q:H b with
    |none=>exact un.keep b o e q (by intro z;exact absurd (show b∈([]:List Addr) from z) (by simp)) (by simp)
    |some u=>
     rcases hO b with z | ⟨ob,xs,z⟩
     ·rw[q] at z;cases z
     ·have z2:=un.frzs b ob _ z
      obtain⟨e1,_⟩:=hok b _ z;obtain⟨e2,_⟩:=hok' b _ z2;rw[e] at e1;cases e1;exact e2
 cases hk:K.lookup a with
 |some o=>
  have e:=KX a o hk;rw[ha] at e;cases e;refine core (λ_=>none) (λ_=>.inl rfl) (.inr ⟨_,vs.toArray,_,hk,rfl,rfl,rfl,by rw[List.size_toArray,lenV];exact hl,by simpa using rv⟩) (λb u z=>by have z':(none:Option HO)=some u:=z;cases z') (λb z=>absurd rfl z) λz=>absurd rfl z
 |none=>
  refine core (λb=>if b=a then some (.frz { cls:=.type "list",data:=.seq vs.toArray } (.lst (ns.map V.int))) else none) (λb=>?_) (.inl (.inr ⟨{ cls:=.type "list",data:=.seq vs.toArray },if_pos rfl⟩)) (λb u z=>?_) (λb z=>?_) λ_=>hk
  ·by_cases hb:b=a
   ·exact .inr ⟨_,_,if_pos hb⟩
   ·exact .inl (if_neg hb)
  ·by_cases hb:b=a
   ·have z':=(if_pos hb).symm.trans z
    cases z';subst hb;exact⟨ha,by rw[List.length_map];exact hl,vs,_,rv,ha⟩
   ·have z':=(if_neg hb).symm.trans z
    cases z'
  ·by_cases hb:b=a
   ·exact hb
   ·exact absurd (if_neg hb) z
theorem yC{l:PySem.W.OpenLaw}{n k:Nat}{q:Program}{loose:List Str}{XP:(Str->Option Value)->Heap->Prop}{YP:World->Heap->Prop}{d:DefRec}{K:Params->PySem.W.Frag}{CX:World->CXT}{sp:World->Sp}{x:Str}
  (hn:l.most=some n) (hn2:n<=sizeLine) (hdf:d.params.defaults=[]) (hr:Room k callerA)
  (hY:∀(w:World) (h:Heap),YP w h->(K w.params).In h)
  (F:∀(w:World) (mg:Str->Option Value) (fa:Addr) (h:Heap),(K w.params).In h->h.Ns mainGlobals mg->mg d.name=some (.ref fa)->
   ∃fd:FuncData,(∀(s:Shared) (u:Value),BindsTo s fd ⟨[u],[]⟩ [(x,u)])/\
    ∀base:Heap,(K w.params).In base->base.Ns mainGlobals mg->FnOk l.prog w (K w.params) mg base (CX w) k fa fd [x] (sp w))
  (hsp:∀(w:World) (H:Hp) (a:Addr) (ns:List Int),ns.length<=n->AW H->SqL (K w.params) H a (ns.map V.int)->sp w [.ref a] H (λv _=>v=.bl true) λ_ _ _=>False)
  (hCX:∀(w:World) (H:Hp) (s:Shared) (e:Value) (s':Shared),CX w [] H s (λ_ _ _=>False) e s'->False) :
  PySem.W.WalkO q loose XP YP l.row.toRowW d [] (λf vs=>PySem.call f vs):=by
 refine Att.pM hn hdf λw s₀ s₁ mg mb fa o pm cd doc a vs ns G Y ho hd hcd hmg hobj hints hlen hg=>?_;have KX:=hY w _ Y;obtain⟨fd,hb,hF⟩:=F w mg fa _ KX G.T.g hmg;exact v_ KX G.T.g G.T.b G.T.builtins G.T.nolimit hg hobj hints (Nat.le_trans hlen hn2) hr hF hb (λH hO hS=>hsp w H a ns hlen hO hS) λH e s'=>hCX w H s₁ e s'
noncomputable def dG(s:Stmt):Arguments:=match s with
 |.FunctionDef _ a _ _ _ _ _ _ _ _=>a
 |_=>{ posonlyargs:=[],args:=[],vararg:=none,kwonlyargs:=[],kw_defaults:=[],kwarg:=none,defaults:=[] }
noncomputable def bU(s:Stmt):List Stmt:=match s with
 |.FunctionDef _ _ b _ _ _ _ _ _ _=>b
 |_=>[]
noncomputable def aQ(s:Stmt):Scope:=match s with
 |.FunctionDef _ _ _ _ _ _ sc _ _ _=>sc
 |_=>{ kind:=.function,names:=[],isGenerator:=false,isCoroutine:=false }
noncomputable abbrev CX0:CXT:=λ_ _ _ _ _ _=>False
noncomputable abbrev E0:XK:=λ_ _ _=>False
theorem wc{X:Cx}:pZ CX0 X E0:=λ_ _ _ _ _ _ _ h=>h.elim
structure Fun(K:PySem.W.Frag)(x qual:Str)(st:Stmt)(f:Addr)(fd:FuncData):Prop where
 ex:∃(oc:Value) (od:Option Addr) (kV doc pm:Value) (an:Option Addr) (cdv ct:Value) (osl:Array (Option Value)),
  fd=PySem.W.fnOf x qual (dG st) (bU st) (aQ st) .none kV doc pm an cdv ct/\K.lookup f=some ⟨oc,od,.func fd,osl⟩/\PySem.W.codeIn K cdv qual=true
 kp:PySem.W.keepIn K (.ref f)=true
section
variable{P:Program}{w:World}{K:PySem.W.Frag}{mg:Str->Option Value}{base:Heap}
theorem Fun.ok{x qual:Str}{st:Stmt}{f:Addr}{fd:FuncData}{N ps:List Str}{k:Nat}{sp:Sp}(F:Fun K x qual st f fd)(S:FnScope N ps (aQ st))(len:∀vs H Q E,sp vs H Q E->vs.length=ps.length)
  (hbody:∀(cdv:Value) (A:Around) (outer:List Env) (s:Shared) (H:Hp) (vs:List V) (Q:VK) (E:XK),Room k (A.deeper (envOfC qual (aQ st) s.heap.objs.size f cdv))->sp vs H Q E->
   ∃t,PSs (jT CX0 P w K mg base N qual (aQ st) f cdv A outer s H E).nox (bU st) t/\t { nx:=λ_ H'=>Q .non H',rt:=Q } (gI N vs) H):FnOk P w K mg base CX0 (k+1) f fd ps sp:=by
 obtain⟨oc,od,kV,doc,pm,an,cdv,ct,osl,rfl,lk,hcd⟩:=F.ex;refine CA lk hcd S len λA outer s H vs Q E hr hsp=>?_;obtain⟨t,h,q⟩:=hbody cdv A outer s H vs Q E hr hsp;exact⟨t,h.nox,q⟩
theorem Fun.binds{x qual:Str}{st:Stmt}{f:Addr}{fd:FuncData}{ps:List Str}(F:Fun K x qual st f fd)
  (h:∀(kV doc pm:Value) (an:Option Addr) (cdv ct:Value) (us:List Value),us.length=ps.length->bindArgs (PySem.W.fnOf x qual (dG st) (bU st) (aQ st) .none kV doc pm an cdv ct) ⟨us,[]⟩=pure (ps.zip us)):jw K fd ps []:=by
 obtain⟨oc,od,kV,doc,pm,an,cdv,ct,osl,rfl,lk,hcd⟩:=F.ex;exact .all (h kV doc pm an cdv ct)
theorem uq{x qual:Str}{st:Stmt}{f:Addr}{oc:Value}{od an:Option Addr}{osl:Array (Option Value)}{kV doc pm cdv ct:Value}(l:K.lookup f=some ⟨oc,od,.func (PySem.W.fnOf x qual (dG st) (bU st) (aQ st) .none kV doc pm an cdv ct),osl⟩)
  (c:PySem.W.codeIn K cdv qual=true) (k:PySem.W.keepIn K (.ref f)=true):Fun K x qual st f (PySem.W.fnOf x qual (dG st) (bU st) (aQ st) .none kV doc pm an cdv ct):=⟨⟨oc,od,kV,doc,pm,an,cdv,ct,osl,rfl,l,c⟩,k⟩
end
theorem tq{n:Nat}(h:n<=1000):n<sizeLine:=Nat.lt_of_le_of_lt h (by decide)
noncomputable def aR(H H':Hp):Prop:=∀b o,H b=some o->H' b=some o
theorem aR.refl(H:Hp):aR H H:=λ_ _ h=>h
theorem aR.trans{H H1 H2:Hp}(a:aR H H1)(b:aR H1 H2):aR H H2:=λc o h=>b c o (a c o h)
theorem aR.free{H H':Hp}(e:aR H H'){l:Addr}(h:H' l=Option.none):H l=Option.none:=by
 cases q:H l with
 |none=>rfl
 |some o=>
  rw[e l o q] at h;cases h
theorem aR.seq{K:PySem.W.Frag}{H H':Hp}{a:Addr}{xs:List V}(e:aR H H')(h:SqL K H a xs):SqL K H' a xs:=by
 rcases h with(h | ⟨o,h⟩) | h
 ·exact .inl (.inl (e _ _ h))
 ·exact .inl (.inr ⟨o,e _ _ h⟩)
 ·exact .inr h
end L2
namespace Dn
open PySem PySem.Spec PyProof.Rows L2
set_option genInjectivity true in
inductive D where
 |non | bl (b:Bool) | int (i:Int) | str (x:Str) | tup (xs:List D) | lst (xs:List D) | dic (es:List (List Int×D))
 deriving Inhabited
noncomputable def Cn(ns:List Int):Int:=reduceHash (Builtin.Tuple.tupleHashOf (ns.map hashInt))
noncomputable abbrev bV:=List (List Int×Addr×V)
structure EntOk(p:List Int×Addr×V)(e:DictEntry):Prop where
 hash:e.hash=Cn p.1
 key:e.key=.ref p.2.1
 val:aY p.2.2 e.val
noncomputable def DAt(a:Addr)(us:bV)(ep:Nat):Heap->Prop:=λh=>(a==sysModules)=false/\us.length<=1000000/\∃o raw,h.get? a=some o/\o.ExactDict/\o.data=.dict raw ep/\Paired EntOk us raw.toList
theorem DAt.at{a:Addr}{us:bV}{ep:Nat}{h h':Heap}(x:DAt a us ep h)(k:∀o,h.get? a=some o->h'.get? a=some o):DAt a us ep h':=let⟨n,z,o,raw,e,r⟩:=x;⟨n,z,o,raw,k o e,r⟩
mutual
inductive Den(K:PySem.W.Frag)(G:Hp):V->D->Prop where
 |non:Den K G .non .non
 |bl (b:Bool):Den K G (.bl b) (.bl b)
 |int (i:Int):Den K G (.int i) (.int i)
 |str (x:Str):Den K G (.str x) (.str x)
 |tup {a:Addr} {xs:List V} {ds:List D} (h:SqT K G a xs) (hs:DenL K G xs ds):Den K G (.ref a) (.tup ds)
 |lst {a:Addr} {xs:List V} {ds:List D} (h:SqL K G a xs) (hs:DenL K G xs ds):Den K G (.ref a) (.lst ds)
 |dic {a:Addr} {us:bV} {ep:Nat} {es:List (List Int×D)} (h:G a=some (.ext (DAt a us ep))) (nd:(us.map (·.1)).Nodup) (hs:DenM K G us es):Den K G (.ref a) (.dic es)
inductive DenM(K:PySem.W.Frag)(G:Hp):bV->List (List Int×D)->Prop where
 |nil:DenM K G [] []
 |cons {k:List Int} {b:Addr} {v:V} {d:D} {us:bV} {es:List (List Int×D)} (hk:SqT K G b (k.map V.int)) (hv:Den K G v d) (hs:DenM K G us es):DenM K G ((k,b,v)::us) ((k,d)::es)
inductive DenL(K:PySem.W.Frag)(G:Hp):List V->List D->Prop where
 |nil:DenL K G [] []
 |cons {x:V} {d:D} {xs:List V} {ds:List D} (h:Den K G x d) (hs:DenL K G xs ds):DenL K G (x::xs) (d::ds)
end
theorem aK{K:PySem.W.Frag}{H H':Hp}{a:Addr}{xs:List V}(e:aR H H')(h:SqT K H a xs):SqT K H' a xs:=by
 rcases h with(h | ⟨o,h⟩) | h
 ·exact .inl (.inl (e _ _ h))
 ·exact .inl (.inr ⟨o,e _ _ h⟩)
 ·exact .inr h
theorem Den.mono{K:PySem.W.Frag}{G G':Hp}(e:aR G G'){v:V}{d:D}(h:Den K G v d):Den K G' v d:=
 Den.rec (motive_1:=λv d _=>Den K G' v d) (motive_2:=λu e _=>DenM K G' u e) (motive_3:=λv d _=>DenL K G' v d) .non .bl .int .str (λh _ y=>.tup (aK e h) y) (λh _ y=>.lst (e.seq h) y) (λh n _ y=>.dic (e _ _ h) n y) .nil (λk _ _ y z=>.cons (aK e k) y z) .nil (λ_ _ y z=>.cons y z) h
theorem DenM.mono{K:PySem.W.Frag}{G G':Hp}(e:aR G G'){us:bV}{es:List (List Int×D)}(h:DenM K G us es):DenM K G' us es:=
 DenM.rec (motive_1:=λv d _=>Den K G' v d) (motive_2:=λu e _=>DenM K G' u e) (motive_3:=λv d _=>DenL K G' v d) .non .bl .int .str (λh _ y=>.tup (aK e h) y) (λh _ y=>.lst (e.seq h) y) (λh n _ y=>.dic (e _ _ h) n y) .nil (λk _ _ y z=>.cons (aK e k) y z) .nil (λ_ _ y z=>.cons y z) h
theorem DenL.mono{K:PySem.W.Frag}{G G':Hp}(e:aR G G'){v:List V}{d:List D}(h:DenL K G v d):DenL K G' v d:=
 DenL.rec (motive_1:=λv d _=>Den K G' v d) (motive_2:=λu e _=>DenM K G' u e) (motive_3:=λv d _=>DenL K G' v d) .non .bl .int .str (λh _ y=>.tup (aK e h) y) (λh _ y=>.lst (e.seq h) y) (λh n _ y=>.dic (e _ _ h) n y) .nil (λk _ _ y z=>.cons (aK e k) y z) .nil (λ_ _ y z=>.cons y z) h
section
variable{K:PySem.W.Frag}{G:Hp}
theorem DenL.ind{P:List V->List D->Prop}(n:P [] [])(c:∀{x:V} {d:D} {xs:List V} {ds:List D},Den K G x d->DenL K G xs ds->P xs ds->P (x::xs) (d::ds)){xs:List V}{ds:List D}(h:DenL K G xs ds):P xs ds:=
 DenL.rec (motive_1:=λ_ _ _=>True) (motive_2:=λ_ _ _=>True) (motive_3:=λxs ds _=>P xs ds) trivial (λ_=>trivial) (λ_=>trivial) (λ_=>trivial) (λ_ _ _=>trivial) (λ_ _ _=>trivial) (λ_ _ _ _=>trivial) trivial (λ_ _ _ _ _=>trivial) n (λh hs _ y=>c h hs y) h
theorem DenM.ind{P:bV->List (List Int×D)->Prop}(n:P [] [])(c:∀{k:List Int} {b:Addr} {v:V} {d:D} {us:bV} {es:List (List Int×D)},SqT K G b (k.map V.int)->Den K G v d->DenM K G us es->P us es->P ((k,b,v)::us) ((k,d)::es)){us:bV}{es:List (List Int×D)}(h:DenM K G us es):P us es:=
 DenM.rec (motive_1:=λ_ _ _=>True) (motive_2:=λus es _=>P us es) (motive_3:=λ_ _ _=>True) trivial (λ_=>trivial) (λ_=>trivial) (λ_=>trivial) (λ_ _ _=>trivial) (λ_ _ _=>trivial) (λ_ _ _ _=>trivial) n (λk v hs _ y=>c k v hs y) trivial (λ_ _ _ _=>trivial) h
theorem DenL.length{xs:List V}{ds:List D}(h:DenL K G xs ds):xs.length=ds.length:=
 DenL.ind (P:=λxs ds=>xs.length=ds.length) rfl (λ_ _ y=>congrArg (· + 1) y) h
theorem DenL.get{xs:List V}{ds:List D}{i:Nat}{d:D}(h:DenL K G xs ds):ds[i]?=some d->∃x,xs[i]?=some x/\Den K G x d:=by
 revert i
 refine DenL.ind (P:=λxs ds=>∀{i:Nat},ds[i]?=some d->∃x,xs[i]?=some x/\Den K G x d) (λ{i} e=>nomatch e) (λ{x d' xs ds} h _ y {i} e=>?_) h;cases i with
 |zero=>cases e;exact⟨_,rfl,h⟩
 |succ i=>exact y (i:=i) e
theorem DenL.getV{xs:List V}{ds:List D}{i:Nat}{x:V}(h:DenL K G xs ds):xs[i]?=some x->∃d,ds[i]?=some d/\Den K G x d:=by
 revert i
 refine DenL.ind (P:=λxs ds=>∀{i:Nat},xs[i]?=some x->∃d,ds[i]?=some d/\Den K G x d) (λ{i} e=>nomatch e) (λ{x' d' xs ds} h _ y {i} e=>?_) h;cases i with
 |zero=>cases e;exact⟨_,rfl,h⟩
 |succ i=>exact y (i:=i) e
theorem DenL.append{xs ys:List V}{ds es:List D}(h:DenL K G xs ds)(s:DenL K G ys es):DenL K G (xs++ys) (ds++es):=
 DenL.ind (P:=λxs ds=>DenL K G (xs++ys) (ds++es)) s (λh _ y=>.cons h y) h
theorem DenL.take{xs:List V}{ds:List D}(n:Nat)(h:DenL K G xs ds):DenL K G (xs.take n) (ds.take n):=by
 refine DenL.ind (P:=λxs ds=>∀n,DenL K G (xs.take n) (ds.take n)) (λn=>?_) (λh _ y n=>?_) h n
 ·cases n<;>exact .nil
 ·cases n with
  |zero=>exact .nil
  |succ n=>exact .cons h (y n)
theorem DenL.drop{xs:List V}{ds:List D}(n:Nat)(h:DenL K G xs ds):DenL K G (xs.drop n) (ds.drop n):=by
 refine DenL.ind (P:=λxs ds=>∀n,DenL K G (xs.drop n) (ds.drop n)) (λn=>?_) (λh hs y n=>?_) h n
 ·cases n<;>exact .nil
 ·cases n with
  |zero=>exact .cons h hs
  |succ n=>exact y n
theorem DenL.set{x:V}{d:D}(r:Den K G x d){xs:List V}{ds:List D}(i:Nat)(h:DenL K G xs ds):DenL K G (xs.set i x) (ds.set i d):=by
 refine DenL.ind (P:=λxs ds=>∀i,DenL K G (xs.set i x) (ds.set i d)) (λn=>.nil) (λq t y i=>?_) h i;cases i with
 |zero=>exact .cons r t
 |succ i=>exact .cons q (y i)
theorem DenL.one{x:V}{d:D}(h:Den K G x d):DenL K G [x] [d]:=.cons h .nil
end
structure Grow(G H G' H':Hp):Prop where
 hh:aR H H'
 gg:aR G G'
 gh:aR G' H'
 fo:∀a o,H a=some o->G a=none->G' a=none
theorem Grow.refl{G H:Hp}(h:aR G H):Grow G H G H:=⟨aR.refl _,aR.refl _,h,λ_ _ _ e=>e⟩
theorem Grow.trans{G H G1 H1 G2 H2:Hp}(a:Grow G H G1 H1)(b:Grow G1 H1 G2 H2):Grow G H G2 H2:=
 ⟨a.hh.trans b.hh,a.gg.trans b.gg,b.gh,λc o h e=>b.fo c o (a.hh c o h) (a.fo c o h e)⟩
theorem Grow.new{G H:Hp}{p:Addr}(o:HO)(gh:aR G H)(hn:H p=none):Grow G H (upd G p o) (upd H p o) where
 hh:=λb u e=>by rw[aT (aH e hn)];exact e
 gg:=λb u e=>by rw[aT (aH (gh b u e) hn)];exact e
 gh:=λb u e=>by
  unfold upd at e ⊢
  by_cases z:b=p
  ·rw[if_pos z] at e ⊢;exact e
  ·rw[if_neg z] at e ⊢;exact gh b u e
 fo:=λa u e g=>by rw[aT (aH e hn)];exact g
theorem Grow.lay{G H:Hp}{p:Addr}(o:HO)(gh:aR G H)(hn:H p=none):Grow G H G (upd H p o) where
 hh:=λb u e=>by rw[aT (aH e hn)];exact e
 gg:=aR.refl _
 gh:=λb u e=>by rw[aT (aH (gh b u e) hn)];exact gh b u e
 fo:=λa u e g=>g
set_option genInjectivity true in
inductive Sl where
 |un | dat (d:D) | own (ds:List D) | odi (es:List (List Int×D))
noncomputable abbrev Ev:=List Sl
structure EnvD(K:PySem.W.Frag)(He G H:Hp)(σ:L2.St)(ε:Ev):Prop where
 len:σ.length=ε.length
 dat:∀{i:Nat} {d:D},ε[i]?=some (.dat d)->∃v,σ[i]?=some (some v)/\Den K G v d
 own:∀{i:Nat} {ds:List D},ε[i]?=some (.own ds)->∃a xs,σ[i]?=some (some (.ref a))/\H a=some (.lst xs)/\G a=none/\He a=none/\DenL K G xs ds
 apart:∀{i j:Nat} {ds es:List D} {a:Addr},ε[i]?=some (.own ds)->ε[j]?=some (.own es)->σ[i]?=some (some (.ref a))->σ[j]?=some (some (.ref a))->i=j
 odi:∀{i:Nat} {es:List (List Int×D)},ε[i]?=some (.odi es)->∃a us ep,σ[i]?=some (some (.ref a))/\H a=some (.ext (DAt a us ep))/\G a=none/\He a=none/\(us.map (·.1)).Nodup/\DenM K G us es
 apartD:∀{i j:Nat} {ds es:List (List Int×D)} {a:Addr},ε[i]?=some (.odi ds)->ε[j]?=some (.odi es)->σ[i]?=some (some (.ref a))->σ[j]?=some (some (.ref a))->i=j
theorem EnvD.grow{K:PySem.W.Frag}{He G H G' H':Hp}{σ:L2.St}{ε:Ev}(E:EnvD K He G H σ ε)(g:Grow G H G' H'):EnvD K He G' H' σ ε where
 len:=E.len
 dat:=λe=>let⟨v,h1,h2⟩:=E.dat e;⟨v,h1,h2.mono g.gg⟩
 own:=λe=>let⟨a,xs,h1,h2,h3,h4,h5⟩:=E.own e;⟨a,xs,h1,g.hh _ _ h2,g.fo _ _ h2 h3,h4,h5.mono g.gg⟩
 apart:=E.apart
 odi:=λe=>let⟨a,us,ep,h1,h2,h3,h4,h5,h6⟩:=E.odi e;⟨a,us,ep,h1,g.hh _ _ h2,g.fo _ _ h2 h3,h4,h5,h6.mono g.gg⟩
 apartD:=E.apartD
structure Sta(K:PySem.W.Frag)(He Ge G H:Hp)(σ:L2.St)(ε:Ev):Prop where
 g:Grow Ge He G H
 e:EnvD K He G H σ ε
theorem Sta.grow{K:PySem.W.Frag}{He Ge G H G' H':Hp}{σ:L2.St}{ε:Ev}(S:Sta K He Ge G H σ ε)(g:Grow G H G' H'):Sta K He Ge G' H' σ ε:=⟨S.g.trans g,S.e.grow g⟩
noncomputable def DE(X:Cx)(e:Expr)(f:Ev->Option D):Prop:=∃t,PE X e t/\∀(He G H:Hp) (σ:L2.St) (ε:Ev) (d:D) (Q:VK),aR G H->EnvD X.K He G H σ ε->f ε=some d->
 (∀v G' H',Grow G H G' H'->Den X.K G' v d->Q v H')->t σ H Q
noncomputable def DF(X:Cx)(e:Expr)(f:Ev->Option (List D)):Prop:=∃t,PE X e t/\∀(He G H:Hp) (σ:L2.St) (ε:Ev) (ds:List D) (Q:VK),aR G H->EnvD X.K He G H σ ε->f ε=some ds->
 (∀a xs G' H',Grow G H G' H'->H a=none->G' a=none->H' a=some (.lst xs)->DenL X.K G' xs ds->Q (.ref a) H')->t σ H Q
noncomputable def DT(X:Cx)(e:Expr)(f:Ev->Option Bool):Prop:=∃t,PT X e t/\∀(He G H:Hp) (σ:L2.St) (ε:Ev) (b:Bool) (Q:Bool->Hp->Prop),aR G H->EnvD X.K He G H σ ε->f ε=some b->
 (∀G' H',Grow G H G' H'->Q b H')->t σ H Q
noncomputable def DW(X:Cx)(e:Expr)(f:Ev->Option Bool):Prop:=∃t,PW X e t/\∀(He G H:Hp) (σ:L2.St) (ε:Ev) (b:Bool) (Q:Bool->Hp->Prop),aR G H->EnvD X.K He G H σ ε->f ε=some b->
 (∀G' H',Grow G H G' H'->Q b H')->t σ H Q
noncomputable def DA(X:Cx)(es:List Expr)(f:Ev->Option (List D)):Prop:=∃t,PA X es t/\∀(He G H:Hp) (σ:L2.St) (ε:Ev) (ds:List D) (Q:List V->Hp->Prop),aR G H->EnvD X.K He G H σ ε->f ε=some ds->
 (∀vs G' H',Grow G H G' H'->DenL X.K G' vs ds->Q vs H')->t σ H Q
theorem DW.dt{X:Cx}{e:Expr}{f:Ev->Option Bool}(h:DW X e f):DT X e f:=let⟨t,h1,h2⟩:=h;⟨t,h1.pt,h2⟩
theorem Grow.seal{G H G' H':Hp}{a:Addr}{xs:List V}(g:Grow G H G' H')(hn:H a=none)(gn:G' a=none)(ha:H' a=some (.lst xs)):Grow G H (upd G' a (.lst xs)) H':=
 ⟨g.hh,λb o e=>by rw[aT (aH (g.gg b o e) gn)];exact g.gg b o e,λb o e=>by
   unfold upd at e
   by_cases z:b=a
   ·rw[if_pos z] at e;cases e;rw[z];exact ha
   ·rw[if_neg z] at e;exact g.gh b o e,λb o e z=>by rw[aT (aH e hn)];exact g.fo b o e z⟩
theorem wx{K:PySem.W.Frag}{G':Hp}{a:Addr}{xs:List V}{ds:List D}(gn:G' a=none)(hd:DenL K G' xs ds):Den K (upd G' a (.lst xs)) (.ref a) (.lst ds):=
 .lst (SqL.of aN) (hd.mono λb o e=>by rw[aT (aH e gn)];exact e)
noncomputable def eF(f:Ev->Option (List D)):Ev->Option D:=λε=>(f ε).map D.lst
theorem DF.de{X:Cx}{e:Expr}{f:Ev->Option (List D)}(h:DF X e f):DE X e (eF f):=by
 obtain⟨t,h1,h2⟩:=h;refine⟨t,h1,λHe G H σ ε d Q gh E ef q=>?_⟩;unfold eF at ef;cases e1:f ε with
 |none=>rw[e1] at ef;cases ef
 |some ds=>
  rw[e1] at ef;cases ef;refine h2 He G H σ ε ds Q gh E e1 λa xs G' H' g hn gn ha hd=>?_;exact q _ _ _ (g.seal hn gn ha) (wx gn hd)
set_option genInjectivity true in
inductive Fl where
 |nx (ε:Ev) | rt (d:D) | bk (ε:Ev) | ct (ε:Ev) | ro (ds:List D)
noncomputable def As(K:PySem.W.Frag)(He Ge:Hp)(r:Fl)(W:Ends):Prop:=match r with
 |.nx ε=>∀σ G H,Sta K He Ge G H σ ε->W.nx σ H
 |.bk ε=>∀σ G H,Sta K He Ge G H σ ε->W.bk σ H
 |.ct ε=>∀σ G H,Sta K He Ge G H σ ε->W.ct σ H
 |.rt d=>∀v G H,Grow Ge He G H->Den K G v d->W.rt v H
 |.ro ds=>∀a xs G H,Grow Ge He G H->He a=none->G a=none->H a=some (.lst xs)->DenL K G xs ds->W.rt (.ref a) H
noncomputable def DS(X:Cx)(st:Stmt)(g:Ev->Option Fl):Prop:=∃t,PS X st t/\∀(He Ge G H:Hp) (σ:L2.St) (ε:Ev) (r:Fl) (W:Ends),Sta X.K He Ge G H σ ε->g ε=some r->As X.K He Ge r W->t W σ H
noncomputable def DSs(X:Cx)(st:List Stmt)(g:Ev->Option Fl):Prop:=∃t,PSs X st t/\∀(He Ge G H:Hp) (σ:L2.St) (ε:Ev) (r:Fl) (W:Ends),Sta X.K He Ge G H σ ε->g ε=some r->As X.K He Ge r W->t W σ H
noncomputable def b8(K:PySem.W.Frag)(G H:Hp)(v:V)(d:D):Prop:=Den K G v d\/∃a xs ds,v=.ref a/\d=.lst ds/\H a=some (.lst xs)/\DenL K G xs ds
theorem b8.grow{K:PySem.W.Frag}{G H G' H':Hp}{v:V}{d:D}(h:b8 K G H v d)(g:Grow G H G' H'):b8 K G' H' v d:=by
 rcases h with h | ⟨a,xs,ds,h1,h2,h3,h4⟩
 ·exact .inl (h.mono g.gg)
 ·exact .inr ⟨a,xs,ds,h1,h2,g.hh _ _ h3,h4.mono g.gg⟩
theorem b8.int{K:PySem.W.Frag}{G H:Hp}{v:V}{i:Int}(h:b8 K G H v (.int i)):v=.int i:=by
 rcases h with h | ⟨_,_,_,_,h,_⟩
 ·cases h;rfl
 ·cases h
theorem b8.bl{K:PySem.W.Frag}{G H:Hp}{v:V}{i:Bool}(h:b8 K G H v (.bl i)):v=.bl i:=by
 rcases h with h | ⟨_,_,_,_,h,_⟩
 ·cases h;rfl
 ·cases h
theorem b8.str{K:PySem.W.Frag}{G H:Hp}{v:V}{i:Str}(h:b8 K G H v (.str i)):v=.str i:=by
 rcases h with h | ⟨_,_,_,_,h,_⟩
 ·cases h;rfl
 ·cases h
theorem b8.non{K:PySem.W.Frag}{G H:Hp}{v:V}(h:b8 K G H v .non):v=.non:=by
 rcases h with h | ⟨_,_,_,_,h,_⟩
 ·cases h;rfl
 ·cases h
theorem b8.tup{K:PySem.W.Frag}{G H:Hp}{v:V}{ds:List D}(gh:aR G H)(h:b8 K G H v (.tup ds)):∃a xs,v=.ref a/\SqT K G a xs/\SqT K H a xs/\DenL K G xs ds:=by
 rcases h with h | ⟨_,_,_,_,h,_⟩
 ·cases h with | tup h hs=>exact⟨_,_,rfl,h,aK gh h,hs⟩
 ·cases h
theorem b8.lst{K:PySem.W.Frag}{G H:Hp}{v:V}{ds:List D}(gh:aR G H)(h:b8 K G H v (.lst ds)):∃a xs,v=.ref a/\SqL K H a xs/\DenL K G xs ds:=by
 rcases h with h | ⟨a,xs,ds',h1,h,h3,h4⟩
 ·cases h with | lst h hs=>exact⟨_,_,rfl,gh.seq h,hs⟩
 ·cases h;exact⟨a,xs,h1,.of h3,h4⟩
noncomputable def DB(X:Cx)(e:Expr)(f:Ev->Option D):Prop:=∃t,PE X e t/\∀(He G H:Hp) (σ:L2.St) (ε:Ev) (d:D) (Q:VK),aR G H->EnvD X.K He G H σ ε->f ε=some d->
 (∀v G' H',Grow G H G' H'->b8 X.K G' H' v d->Q v H')->t σ H Q
theorem DE.db{X:Cx}{e:Expr}{f:Ev->Option D}(h:DE X e f):DB X e f:=
 let⟨t,h1,h2⟩:=h;⟨t,h1,λHe G H σ ε d Q gh E ef q=>h2 He G H σ ε d Q gh E ef λv G' H' g hd=>q v G' H' g (.inl hd)⟩
section
variable{X:Cx}{a b c:Expr}{fa fb fc:Ev->Option D}{pos:Pos}
noncomputable def av(i:Nat):Ev->Option D:=λε=>match ε[i]? with | some (.dat d)=>some d | _=>none
noncomputable def af(i:Nat):Ev->Option D:=λε=>match ε[i]? with | some (.dat d)=>some d | some (.own ds)=>some (.lst ds) | _=>none
noncomputable def eC(d:D):Ev->Option D:=λ_=>some d
theorem ar(i:Nat){x:Str}{pos:Pos}(hN:X.N[i]?=some x:=by rfl)(hv:Vis X.env.scope x:=by first | exact Or.inl rfl | exact Or.inr (Or.inl rfl) | exact Or.inr (Or.inr rfl))(hd:(x==("__debug__" : Str))=false:=by decide)
  (hcd:(x==("__classdict__" : Str))=false:=by decide):DE X (.Name x pos) (av i):=by
 refine⟨_,ll hN hv hd hcd,λHe G H σ ε d Q gh E ef q=>?_⟩;unfold av at ef;split at ef
 ·rename_i d' e
  cases ef;obtain⟨v,h1,h2⟩:=E.dat e;exact⟨v,h1,q v G H (.refl gh) h2⟩
 ·cases ef
theorem ai(i:Nat){x:Str}{pos:Pos}(hN:X.N[i]?=some x:=by rfl)(hv:Vis X.env.scope x:=by first | exact Or.inl rfl | exact Or.inr (Or.inl rfl) | exact Or.inr (Or.inr rfl))(hd:(x==("__debug__" : Str))=false:=by decide)
  (hcd:(x==("__classdict__" : Str))=false:=by decide):DB X (.Name x pos) (af i):=by
 refine⟨_,ll hN hv hd hcd,λHe G H σ ε d Q gh E ef q=>?_⟩;unfold af at ef;split at ef
 ·rename_i d' e
  cases ef;obtain⟨v,h1,h2⟩:=E.dat e;exact⟨v,h1,q v G H (.refl gh) (.inl h2)⟩
 ·rename_i ds e
  cases ef;obtain⟨l,xs,h1,h2,h3,h4,h5⟩:=E.own e;exact⟨_,h1,q _ G H (.refl gh) (.inr ⟨l,xs,ds,rfl,rfl,h2,h5⟩)⟩
 ·cases ef
theorem fG{e:Expr}{v:V}{d:D}(h:PE X e (tC v))(hd:∀G,Den X.K G v d):DE X e (eC d):=
 ⟨_,h,λHe G H σ ε d' Q gh E ef q=>by cases ef;exact q v G H (.refl gh) (hd G)⟩
theorem ag{i j pos}:DE X (.Constant (.int i) j pos) (eC (.int i)):=fG zX λ_=>.int i
theorem k6{i j pos}:DE X (.Constant (.bool i) j pos) (eC (.bl i)):=fG BE λ_=>.bl i
theorem h_{j pos}:DE X (.Constant .none j pos) (eC .non):=fG zE λ_=>.non
theorem bg{x j pos}:DE X (.Constant (.str x) j pos) (eC (.str x)):=fG zM λ_=>.str x
theorem xJ{x:Str}{i:Int}{t:Tok}{pos:Pos}(hg:Gl X x)(hm:X.mg x=some (.int i t))(hd:(x==("__debug__" : Str))=false:=by decide):DE X (.Name x pos) (eC (.int i)):=
 fG (rC (v:=.int i) hg hm ⟨t,rfl⟩ hd) λ_=>.int i
noncomputable def e2(op:D->D->Option D)(fa fb:Ev->Option D):Ev->Option D:=λε=>(fa ε).bind λx=>(fb ε).bind λy=>op x y
noncomputable def OpD(X:Cx)(f:Value->Value->Sem Value)(op:D->D->Option D):Prop:=∃r,OpR X f r/\∀(G H:Hp) (x y:V) (dx dy d:D) (Q:VK),aR G H->b8 X.K G H x dx->b8 X.K G H y dy->op dx dy=some d->
 (∀v G' H',Grow G H G' H'->Den X.K G' v d->Q v H')->r x y H Q
theorem aq{α β:Type}{o:Option α}{f:α->Option β}{y:β}(h:o.bind f=some y):∃x,o=some x/\f x=some y:=by
 cases o with
 |none=>cases h
 |some x=>exact⟨x,rfl,h⟩
theorem two{ta tb:TE}{He G H:Hp}{σ:L2.St}{ε:Ev}{op:D->D->Option D}{r:R2}{d:D}{Q:VK}
  (ha:∀(He G H:Hp) (σ:L2.St) (ε:Ev) (d:D) (Q:VK),aR G H->EnvD X.K He G H σ ε->fa ε=some d->(∀v G' H',Grow G H G' H'->b8 X.K G' H' v d->Q v H')->ta σ H Q)
  (hb:∀(He G H:Hp) (σ:L2.St) (ε:Ev) (d:D) (Q:VK),aR G H->EnvD X.K He G H σ ε->fb ε=some d->(∀v G' H',Grow G H G' H'->b8 X.K G' H' v d->Q v H')->tb σ H Q)
  (ho:∀(G H:Hp) (x y:V) (dx dy d:D) (Q:VK),aR G H->b8 X.K G H x dx->b8 X.K G H y dy->op dx dy=some d->(∀v G' H',Grow G H G' H'->Den X.K G' v d->Q v H')->r x y H Q)
  (gh:aR G H) (E:EnvD X.K He G H σ ε) (ef:e2 op fa fb ε=some d) (q:∀v G' H',Grow G H G' H'->Den X.K G' v d->Q v H'):tOp r ta tb σ H Q:=by
 obtain⟨x,e1,ef⟩:=aq ef;obtain⟨y,e2,ef⟩:=aq ef;refine ha He G H σ ε x _ gh E e1 λv G1 H1 g1 d1=>?_;refine hb He G1 H1 σ ε y _ g1.gh (E.grow g1) e2 λu G2 H2 g2 d2=>?_;exact ho G2 H2 v u x y d Q g2.gh (d1.grow g2) d2 ef λw G3 H3 g3 d3=>q w G3 H3 (g1.trans (g2.trans g3)) d3
theorem aj{op:Operator}{f:D->D->Option D}(ho:OpD X (binaryOp op) f)(ha:DB X a fa)(hb:DB X b fb):DE X (.BinOp a op b pos) (e2 f fa fb):=by
 obtain⟨r,h1,h2⟩:=ho;obtain⟨ta,a1,a2⟩:=ha;obtain⟨tb,b1,b2⟩:=hb;exact⟨_,zA h1 a1 b1,λHe G H σ ε d Q gh E ef q=>two a2 b2 h2 gh E ef q⟩
theorem dS{op:CmpOp}{f:D->D->Option D}(ho:OpD X (compareOp op) f)(ha:DB X a fa)(hb:DB X b fb)(hm:behindInMarks op b=false):DE X (.Compare a [op] [b] pos) (e2 f fa fb):=by
 obtain⟨r,h1,h2⟩:=ho;obtain⟨ta,a1,a2⟩:=ha;obtain⟨tb,b1,b2⟩:=hb;exact⟨_,xj h1 a1 b1 hm,λHe G H σ ε d Q gh E ef q=>two a2 b2 h2 gh E ef q⟩
noncomputable def asB:Option D->Option Bool
 |some (.bl b)=>some b
 |_=>none
theorem pq{o:Option D}{b:Bool}(h:asB o=some b):o=some (.bl b):=by
 unfold asB at h;split at h
 ·cases h;rfl
 ·cases h
theorem Den.blV{K:PySem.W.Frag}{G:Hp}{v:V}{b:Bool}(h:Den K G v (.bl b)):v=.bl b:=by cases h;rfl
noncomputable def ay(op:D->D->Option D)(fa fb:Ev->Option D):Ev->Option Bool:=λε=>asB (e2 op fa fb ε)
theorem aJ{op:CmpOp}{f:D->D->Option D}(ho:OpD X (compareOp op) f)(ha:DB X a fa)(hb:DB X b fb)(hm:behindInMarks op b=false):DT X (.Compare a [op] [b] pos) (ay f fa fb):=by
 obtain⟨r,h1,h2⟩:=ho;obtain⟨ta,a1,a2⟩:=ha;obtain⟨tb,b1,b2⟩:=hb;refine⟨_,xN h1 a1 b1 hm,λHe G H σ ε k Q gh E ef q=>?_⟩;refine two a2 b2 h2 gh E (pq ef) λv G' H' g hd=>?_;exact⟨k,hd.blV,q G' H' g⟩
theorem Ay{r:R2}{f:D->D->Option D}(hr:IxR X r)(ho:∀(G H:Hp) (x y:V) (dx dy d:D) (Q:VK),aR G H->b8 X.K G H x dx->b8 X.K G H y dy->f dx dy=some d->(∀v G' H',Grow G H G' H'->Den X.K G' v d->Q v H')->r x y H Q)
  (ha:DB X a fa) (hb:DB X b fb) (hs:mK b):DE X (.Subscript a b pos) (e2 f fa fb):=by
 obtain⟨ta,a1,a2⟩:=ha;obtain⟨tb,b1,b2⟩:=hb;exact⟨_,CI hr a1 b1 hs,λHe G H σ ε d Q gh E ef q=>two a2 b2 ho gh E ef q⟩
noncomputable def dC(g:Int->Int->Option D):D->D->Option D:=λx y=>match x,y with | .int i,.int j=>g i j | _,_=>none
theorem mw{g:Int->Int->Option D}{x y d:D}(h:dC g x y=some d):∃i j,x=.int i/\y=.int j/\g i j=some d:=by
 unfold dC at h;split at h
 ·exact⟨_,_,rfl,rfl,h⟩
 ·cases h
theorem rM{f:Value->Value->Sem Value}{C:Int->Int->Prop}{g:Int->Int->V}{k:Int->Int->Option D}(ho:OpR X f (rI C g))(hk:∀i j d,k i j=some d->C i j/\∀G,Den X.K G (g i j) d):OpD X f (dC k):=
 ⟨_,ho,λG H x y dx dy d Q gh hx hy e q=>by
  obtain⟨i,j,rfl,rfl,e⟩:=mw e;obtain⟨c,hd⟩:=hk i j d e
  exact⟨i,j,hx.int,hy.int,c,q _ G H (.refl gh) (hd G)⟩⟩
theorem i6{f:Value->Value->Sem Value}{g:Int->Int->V}{k:Int->Int->Option D}(ho:OpR X f (rI0 g))(hk:∀i j d,k i j=some d->∀G,Den X.K G (g i j) d):OpD X f (dC k):=
 ⟨_,ho,λG H x y dx dy d Q gh hx hy e q=>by
  obtain⟨i,j,rfl,rfl,e⟩:=mw e
  exact⟨i,j,hx.int,hy.int,q _ G H (.refl gh) (hk i j d e G)⟩⟩
noncomputable def aM:D->D->Option D:=dC λi j=>some (.int (i+j))
noncomputable def bA:D->D->Option D:=dC λi j=>some (.int (i-j))
noncomputable instance (i j:Int):Decidable (lG i j):=by unfold lG;infer_instance
noncomputable instance (i j:Int):Decidable (su i j):=by unfold su;infer_instance
noncomputable instance (i j:Int):Decidable (tM i j):=by unfold tM;infer_instance
noncomputable def bF:D->D->Option D:=dC λi j=>if lG i j then some (.int (i*j)) else none
noncomputable def cv:D->D->Option D:=dC λi j=>if su i j then some (.int (i/j)) else none
noncomputable def aF:D->D->Option D:=dC λi j=>if 0<j then some (.int (i%j)) else none
noncomputable def oS:D->D->Option D:=dC λi j=>if tM i j then some (.int (i ^ j.toNat)) else none
theorem aS:OpD X (binaryOp .Add) aM:=i6 Bb λi j d e G=>by cases e;exact .int _
theorem bB:OpD X (binaryOp .Sub) bA:=i6 Am λi j d e G=>by cases e;exact .int _
theorem cM:OpD X (binaryOp .Mult) bF:=rM AH λi j d e=>by
 split at e
 ·rename_i h;cases e;exact⟨h,λG=>.int _⟩
 ·cases e
theorem eL:OpD X (binaryOp .FloorDiv) cv:=rM yU λi j d e=>by
 split at e
 ·rename_i h;cases e;exact⟨h,λG=>.int _⟩
 ·cases e
theorem aL:OpD X (binaryOp .Mod) aF:=rM AB λi j d e=>by
 split at e
 ·rename_i h;cases e;exact⟨h,λG=>.int _⟩
 ·cases e
theorem u9:OpD X (binaryOp .Pow) oS:=rM Bg λi j d e=>by
 split at e
 ·rename_i h;cases e;exact⟨h,λG=>.int _⟩
 ·cases e
noncomputable def ltI:D->D->Option D:=dC λi j=>some (.bl (decide (i<j)))
noncomputable def leI:D->D->Option D:=dC λi j=>some (.bl (decide (i<=j)))
noncomputable def gtI:D->D->Option D:=dC λi j=>some (.bl (decide (j<i)))
noncomputable def geI:D->D->Option D:=dC λi j=>some (.bl (decide (j<=i)))
theorem lP:OpD X (compareOp .Lt) ltI:=i6 CJ λi j d e G=>by cases e;exact .bl _
theorem dB:OpD X (compareOp .LtE) leI:=i6 BP λi j d e G=>by cases e;exact .bl _
theorem rX:OpD X (compareOp .Gt) gtI:=i6 B8 λi j d e G=>by cases e;exact .bl _
theorem Cr:OpD X (compareOp .GtE) geI:=i6 By λi j d e G=>by cases e;exact .bl _
noncomputable def eqS:D->D->Option Bool
 |.non,.non=>some true | .non,.int _=>some false | .int _,.non=>some false | .non,.bl _=>some false | .bl _,.non=>some false | .non,.str _=>some false | .str _,.non=>some false
 |.int i,.int j=>some (decide (i=j)) | .bl i,.bl j=>some (decide (i=j)) | .str i,.str j=>some (decide (i=j))
 |.int _,.str _=>some false | .str _,.int _=>some false | .bl _,.str _=>some false | .str _,.bl _=>some false
 |_,_=>none
theorem n4{K:PySem.W.Frag}{G H:Hp}{x y:V}{dx dy:D}{k:Bool}(hx:b8 K G H x dx)(hy:b8 K G H y dy)(e:eqS dx dy=some k):AF x y=true/\decide (x=y)=k:=by
 unfold eqS at e;split at e<;>first | (cases e;done) | skip
 all_goals first
  |(cases hx.non) | (cases hx.int) | (cases hx.bl) | (cases hx.str)
 all_goals first
  |(cases hy.non) | (cases hy.int) | (cases hy.bl) | (cases hy.str)
 all_goals (refine⟨rfl,?_⟩;cases e;simp)
noncomputable def nX:D->Bool
 |.non=>true
 |_=>false
theorem b8.isNon{K:PySem.W.Frag}{G H:Hp}{v:V}{d:D}(h:b8 K G H v d):decide (v=.non)=nX d:=by
 rcases h with h | ⟨a,xs,ds,rfl,rfl,_⟩
 ·cases h<;>simp[Dn.nX]
 ·simp[Dn.nX]
noncomputable def isD(neg:Bool):D->D->Option D:=λx y=>match y with | .non=>some (.bl (if neg then !nX x else nX x)) | _=>none
theorem l9:OpD X (compareOp .Is) (isD false):=⟨_,Bd,λG H x y dx dy d Q gh hx hy e q=>by
 unfold isD at e;split at e
 ·cases e;exact⟨hy.non,q _ G H (.refl gh) (by rw[hx.isNon];exact .bl _)⟩
 ·cases e⟩
noncomputable def BO:D->Option D
 |.int i=>some (.int (-i))
 |_=>none
noncomputable def B_(fa:Ev->Option D):Ev->Option D:=λε=>(fa ε).bind BO
theorem wN(ha:DB X a fa):DE X (.UnaryOp .USub a pos) (B_ fa):=by
 obtain⟨ta,a1,a2⟩:=ha;refine⟨_,B3 AM a1,λHe G H σ ε d Q gh E ef q=>?_⟩;obtain⟨x,e1,ef⟩:=aq ef;refine a2 He G H σ ε x _ gh E e1 λv G1 H1 g1 d1=>?_;unfold BO at ef;split at ef
 ·cases ef;exact⟨_,d1.int,q _ G1 H1 g1 (.int _)⟩
 ·cases ef
noncomputable def ixD:D->D->Option D:=λx y=>match x,y with | .lst xs,.int i=>atI xs i | .tup xs,.int i=>atI xs i | _,_=>none
theorem sd{K:PySem.W.Frag}{G:Hp}{xs:List V}{ds:List D}{i:Int}{d:D}(h:DenL K G xs ds)(e:atI ds i=some d):∃v,atI xs i=some v/\Den K G v d:=by
 unfold atI at e ⊢;rw[h.length];cases e1:ixN ds.length i with
 |none=>rw[e1] at e;cases e
 |some j=>
  rw[e1] at e;exact h.get e
theorem aE(ha:DB X a fa)(hb:DB X b fb)(hs:mK b:=by intro _ _;rfl):DE X (.Subscript a b pos) (e2 ixD fa fb):=
 Ay (xF.or AN) (λG H x y dx dy d Q gh hx hy e q=>by
  unfold ixD at e;split at e
  ·obtain⟨p,xs,rfl,h1,h2⟩:=hx.lst gh
   obtain⟨v,h3,h4⟩:=sd h2 e;exact .inl ⟨p,xs,_,v,rfl,hy.int,h1,h3,q _ G H (.refl gh) h4⟩
  ·obtain⟨p,xs,rfl,h0,h1,h2⟩:=hx.tup gh
   obtain⟨v,h3,h4⟩:=sd h2 e;exact .inr ⟨p,xs,_,v,rfl,hy.int,h1,h3,q _ G H (.refl gh) h4⟩
  ·cases e) ha hb hs
noncomputable def aD:Ev->Option (List D):=λ_=>some []
noncomputable def ae(f:Ev->Option D)(g:Ev->Option (List D)):Ev->Option (List D):=λε=>(f ε).bind λd=>(g ε).bind λds=>some (d::ds)
theorem aB:DA X [] aD:=⟨_,da,λHe G H σ ε ds Q gh E ef q=>by cases ef;exact q [] G H (.refl gh) .nil⟩
theorem ah{e:Expr}{es:List Expr}{f:Ev->Option D}{g:Ev->Option (List D)}(h:DE X e f)(hs:DA X es g)(hst:starEach (e::es) X.env=(false,eval e X.env)::starEach es X.env:=by rfl):DA X (e::es) (ae f g):=by
 obtain⟨t,a1,a2⟩:=h;obtain⟨u,b1,b2⟩:=hs;refine⟨_,b7 a1 b1 hst,λHe G H σ ε ds Q gh E ef q=>?_⟩;obtain⟨x,e1,ef⟩:=aq ef;obtain⟨xs,e2,ef⟩:=aq ef;cases ef;refine a2 He G H σ ε x _ gh E e1 λv G1 H1 g1 d1=>?_;refine b2 He G1 H1 σ ε xs _ g1.gh (E.grow g1) e2 λvs G2 H2 g2 d2=>?_;exact q _ G2 H2 (g1.trans g2) (.cons (d1.mono g2.gg) d2)
noncomputable def bh(g:Ev->Option (List D)):Ev->Option D:=λε=>(g ε).bind λds=>if ds.length<=1000 then some (.tup ds) else none
theorem rg{n:Nat}(h:n<=1000):n<=sizeLine:=Nat.le_of_lt (tq h)
theorem bp{es:List Expr}{g:Ev->Option (List D)}{x1}(h:DA X es g):DE X (.Tuple es x1 pos) (bh g):=by
 obtain⟨t,a1,a2⟩:=h;refine⟨_,zK a1,λHe G H σ ε d Q gh E ef q=>?_⟩;obtain⟨ds,e1,ef⟩:=aq ef;split at ef
 ·rename_i hl
  cases ef;refine a2 He G H σ ε ds _ gh E e1 λvs G1 H1 g1 d1=>⟨by rw[d1.length];exact rg hl,λp hp=>?_⟩;have g2:=Grow.new (.tup vs) g1.gh hp;exact q _ _ _ (g1.trans g2) (.tup (SqT.of aN) (d1.mono g2.gg))
 ·cases ef
noncomputable def cI(g:Ev->Option (List D)):Ev->Option (List D):=λε=>(g ε).bind λds=>if ds.length<=1000 then some ds else none
theorem Grow.gnone{G H G' H':Hp}{p:Addr}(g:Grow G H G' H')(h:H' p=none):G' p=none:=g.gh.free h
theorem dg{es:List Expr}{g:Ev->Option (List D)}(h:DA X es g):DF X (.List es pos) (cI g):=by
 obtain⟨t,a1,a2⟩:=h;refine⟨_,zQ a1,λHe G H σ ε ds Q gh E ef q=>?_⟩;obtain⟨ds',e1,ef⟩:=aq ef;split at ef
 ·rename_i hl
  cases ef;refine a2 He G H σ ε _ _ gh E e1 λvs G1 H1 g1 d1=>⟨by rw[d1.length];exact rg hl,λp hp=>?_⟩;exact q p vs G1 _ (g1.trans (.lay _ g1.gh hp)) (g1.hh.free hp) (g1.gnone hp) aN d1
 ·cases ef
noncomputable def DO(X:Cx)(e:Option Expr)(f:Ev->Option (Option Int)):Prop:=∃t,PO X e t/\∀(He G H:Hp) (σ:L2.St) (ε:Ev) (d:Option Int) (Q:Option Int->Hp->Prop),aR G H->EnvD X.K He G H σ ε->f ε=some d->
 (∀G' H',Grow G H G' H'->Q d H')->t σ H Q
noncomputable def cR:Ev->Option (Option Int):=λ_=>some none
noncomputable def bx(f:Ev->Option D):Ev->Option (Option Int):=λε=>match f ε with | some (.int i)=>some (some i) | _=>none
theorem fL:DO X none cR:=⟨_,yx,λHe G H σ ε d Q gh E ef q=>by cases ef;exact q G H (.refl gh)⟩
theorem bZ{e:Expr}{f:Ev->Option D}(h:DB X e f):DO X (some e) (bx f):=by
 obtain⟨t,a1,a2⟩:=h;refine⟨_,yR a1,λHe G H σ ε d Q gh E ef q=>?_⟩;unfold bx at ef;split at ef
 ·rename_i i e1
  cases ef;exact a2 He G H σ ε _ _ gh E e1 λv G1 H1 g1 d1=>⟨i,d1.int,q G1 H1 g1⟩
 ·cases ef
noncomputable def gY(xs:List D)(lo hi:Option Int):List D:=(xs.drop (HT.sIx xs.length 0 lo)).take (HT.sIx xs.length xs.length hi-HT.sIx xs.length 0 lo)
theorem qJ{K:PySem.W.Frag}{G:Hp}{xs:List V}{ds:List D}(lo hi:Option Int)(h:DenL K G xs ds):DenL K G (nM xs lo hi) (gY ds lo hi):=by
 unfold nM gY;rw[h.length];exact(h.drop _).take _
noncomputable def eSl(fa:Ev->Option D)(fl fh:Ev->Option (Option Int)):Ev->Option (List D):=λε=>(fa ε).bind λx=>(fl ε).bind λlo=>(fh ε).bind λhi=>match x with | .lst xs=>some (gY xs lo hi) | _=>none
theorem lq{lo hi:Option Expr}{fl fh:Ev->Option (Option Int)}{p2:Pos}(ha:DB X a fa)(hl:DO X lo fl)(hh:DO X hi fh):DF X (.Subscript a (.Slice lo hi none p2) pos) (eSl fa fl fh):=by
 obtain⟨ta,a1,a2⟩:=ha;obtain⟨tl,b1,b2⟩:=hl;obtain⟨th,c1,c2⟩:=hh;refine⟨_,nV yu a1 b1 c1,λHe G H σ ε ds Q gh E ef q=>?_⟩;obtain⟨x,e1,ef⟩:=aq ef;obtain⟨l,e2,ef⟩:=aq ef;obtain⟨u,e3,ef⟩:=aq ef;refine a2 He G H σ ε x _ gh E e1 λv G1 H1 g1 d1=>?_;refine b2 He G1 H1 σ ε l _ g1.gh (E.grow g1) e2 λG2 H2 g2=>?_;refine c2 He G2 H2 σ ε u _ g2.gh ((E.grow g1).grow g2) e3 λG3 H3 g3=>?_;split at ef
 ·cases ef
  obtain⟨p,xs,rfl,h1,h2⟩:=((d1.grow g2).grow g3).lst g3.gh;refine⟨p,xs,rfl,h1,λp' hp=>?_⟩;have g:=g1.trans (g2.trans g3);exact q p' _ G3 _ (g.trans (.lay _ g3.gh hp)) (g.hh.free hp) (g3.gnone hp) aN (qJ l u h2)
 ·cases ef
noncomputable def ko(fa:Ev->Option D)(fl fh:Ev->Option (Option Int)):Ev->Option D:=λε=>(fa ε).bind λx=>(fl ε).bind λlo=>(fh ε).bind λhi=>match x with
 |.tup xs=>if HT.sIx xs.length 0 lo=0/\HT.sIx xs.length xs.length hi=xs.length then none else some (.tup (gY xs lo hi))
 |_=>none
theorem nO{lo hi:Option Expr}{fl fh:Ev->Option (Option Int)}{p2:Pos}(ha:DB X a fa)(hl:DO X lo fl)(hh:DO X hi fh):DE X (.Subscript a (.Slice lo hi none p2) pos) (ko fa fl fh):=by
 obtain⟨ta,a1,a2⟩:=ha;obtain⟨tl,b1,b2⟩:=hl;obtain⟨th,c1,c2⟩:=hh;refine⟨_,nV AL a1 b1 c1,λHe G H σ ε ds Q gh E ef q=>?_⟩;obtain⟨x,e1,ef⟩:=aq ef;obtain⟨l,e2,ef⟩:=aq ef;obtain⟨u,e3,ef⟩:=aq ef;refine a2 He G H σ ε x _ gh E e1 λv G1 H1 g1 d1=>?_;refine b2 He G1 H1 σ ε l _ g1.gh (E.grow g1) e2 λG2 H2 g2=>?_;refine c2 He G2 H2 σ ε u _ g2.gh ((E.grow g1).grow g2) e3 λG3 H3 g3=>?_;split at ef
 ·split at ef
  ·cases ef
  ·rename_i hw
   cases ef;obtain⟨p,xs,rfl,h0,h1,h2⟩:=((d1.grow g2).grow g3).tup g3.gh;refine⟨p,xs,rfl,h1,by rw[h2.length];exact hw,λp' hp=>?_⟩;have g4:=Grow.new (.tup (nM xs l u)) g3.gh hp;exact q _ _ _ ((g1.trans (g2.trans g3)).trans g4) (.tup (SqT.of aN) ((qJ l u h2).mono g4.gg))
 ·cases ef
noncomputable def bI(f g:Ev->Option Bool):Ev->Option Bool:=λε=>(f ε).bind λk=>if k=true then g ε else some false
noncomputable def f9(f g:Ev->Option Bool):Ev->Option Bool:=λε=>(f ε).bind λk=>if k=true then some true else g ε
noncomputable def oe(f:Ev->Option Bool):Ev->Option Bool:=λε=>(f ε).map λk=>!k
section
variable{f g:Ev->Option Bool}{rest:List Expr}
theorem b_(h:DT X a f):DW X (.BoolOp .And [a] pos) f:=let⟨t,h1,h2⟩:=h;⟨t,xR h1,h2⟩
theorem ic(h:DT X a f):DW X (.BoolOp .Or [a] pos) f:=let⟨t,h1,h2⟩:=h;⟨t,z0 h1,h2⟩
theorem cP(h:DT X a f)(hr:DW X (.BoolOp .And (b::rest) pos) g):DW X (.BoolOp .And (a::b::rest) pos) (bI f g):=by
 obtain⟨t,a1,a2⟩:=h;obtain⟨u,b1,b2⟩:=hr;refine⟨_,Ae a1 b1,λHe G H σ ε k Q gh E ef q=>?_⟩;obtain⟨c,e1,ef⟩:=aq ef;refine a2 He G H σ ε c _ gh E e1 λG1 H1 g1=>?_;cases c with
 |true=>
  rw[if_pos rfl] at ef ⊢;exact b2 He G1 H1 σ ε k _ g1.gh (E.grow g1) ef λG2 H2 g2=>q _ _ (g1.trans g2)
 |false=>
  rw[if_neg Bool.false_ne_true] at ef ⊢;cases ef;exact q _ _ g1
theorem kS(h:DT X a f)(hr:DW X (.BoolOp .Or (b::rest) pos) g):DW X (.BoolOp .Or (a::b::rest) pos) (f9 f g):=by
 obtain⟨t,a1,a2⟩:=h;obtain⟨u,b1,b2⟩:=hr;refine⟨_,BB a1 b1,λHe G H σ ε k Q gh E ef q=>?_⟩;obtain⟨c,e1,ef⟩:=aq ef;refine a2 He G H σ ε c _ gh E e1 λG1 H1 g1=>?_;cases c with
 |true=>
  rw[if_pos rfl] at ef ⊢;cases ef;exact q _ _ g1
 |false=>
  rw[if_neg Bool.false_ne_true] at ef ⊢;exact b2 He G1 H1 σ ε k _ g1.gh (E.grow g1) ef λG2 H2 g2=>q _ _ (g1.trans g2)
theorem Ax(h:DT X a f):DT X (.UnaryOp .Not a pos) (oe f):=by
 obtain⟨t,a1,a2⟩:=h;refine⟨_,Bk a1,λHe G H σ ε k Q gh E ef q=>?_⟩;unfold oe at ef;cases e1:f ε with
 |none=>rw[e1] at ef;cases ef
 |some c=>
  rw[e1] at ef;cases ef;exact a2 He G H σ ε c _ gh E e1 q
end
noncomputable def iP(fa fb:Ev->Option D):Ev->Option D:=λε=>(fa ε).bind λx=>match x with | .bl k=>if k=true then fb ε else some (.bl false) | _=>none
theorem nQ{op}(h:DE X a fa):DE X (.BoolOp op [a] pos) fa:=let⟨t,h1,h2⟩:=h;⟨t,AS h1,h2⟩
theorem fN{rest:List Expr}(h:DE X a fa)(hr:DE X (.BoolOp .And (b::rest) pos) fb):DE X (.BoolOp .And (a::b::rest) pos) (iP fa fb):=by
 obtain⟨t,a1,a2⟩:=h;obtain⟨u,b1,b2⟩:=hr;refine⟨_,Az a1 b1,λHe G H σ ε d Q gh E ef q=>?_⟩;obtain⟨x,e1,ef⟩:=aq ef;refine a2 He G H σ ε x _ gh E e1 λv G1 H1 g1 d1=>?_;split at ef
 ·rename_i k
  refine⟨k,d1.blV,?_⟩;cases k with
  |true=>
   rw[if_pos rfl] at ef ⊢;exact b2 He G1 H1 σ ε d _ g1.gh (E.grow g1) ef λv G2 H2 g2=>q _ _ _ (g1.trans g2)
  |false=>
   rw[if_neg Bool.false_ne_true] at ef ⊢;cases ef;exact q _ _ _ g1 (.bl _)
 ·cases ef
noncomputable def Ci:D->Option Bool
 |.non=>some false
 |.bl b=>some b
 |.int i=>some (i != 0)
 |.str _=>none
 |.tup xs=>some (!xs.isEmpty)
 |.lst xs=>some (!xs.isEmpty)
 |.dic _=>none
theorem DenL.emp{K:PySem.W.Frag}{G:Hp}{xs:List V}{ds:List D}(h:DenL K G xs ds):xs.isEmpty=ds.isEmpty:=by cases h<;>rfl
noncomputable def g8(fa:Ev->Option D):Ev->Option Bool:=λε=>(fa ε).bind Ci
theorem fE(ha:DB X a fa)(he:∀whole,isTrue a X.env whole=(do let v<-whole;standAt a.pos;holding [v] (truthy v)):=by intro _;rfl):DT X a (g8 fa):=by
 obtain⟨ta,a1,a2⟩:=ha;refine⟨_,wj a1 he,λHe G H σ ε k Q gh E ef q=>?_⟩;obtain⟨x,e1,ef⟩:=aq ef;refine a2 He G H σ ε x _ gh E e1 λv G1 H1 g1 d1=>⟨k,?_,q _ _ g1⟩;unfold Ci at ef;split at ef
 ·cases d1.non;cases ef;rfl
 ·cases d1.bl;cases ef;rfl
 ·cases d1.int;cases ef;rfl
 ·cases ef
 ·cases ef
  obtain⟨p,xs,rfl,h0,h1,h2⟩:=d1.tup g1.gh;exact .inr (.inl ⟨xs,h1,by rw[h2.emp]⟩)
 ·cases ef
  obtain⟨p,xs,rfl,h1,h2⟩:=d1.lst g1.gh;exact .inl ⟨xs,h1,by rw[h2.emp]⟩
 ·cases ef
end
noncomputable def spF(K:PySem.W.Frag)(F:List D->Option D):Sp:=λvs H Q _=>∃G ds d,aR G H/\DenL K G vs ds/\F ds=some d/\∀v G' H',Grow G H G' H'->Den K G' v d->Q v H'
noncomputable def spO(K:PySem.W.Frag)(F:List D->Option (List D)):Sp:=λvs H Q _=>∃G ds rs,aR G H/\DenL K G vs ds/\F ds=some rs/\∀a xs G' H',Grow G H G' H'->H a=none->G' a=none->H' a=some (.lst xs)->DenL K G' xs rs->Q (.ref a) H'
noncomputable def df(N:List Str)(ds:List D):Ev:=ds.map Sl.dat++List.replicate (N.length-ds.length) Sl.un
section
variable{X:Cx}{a b c:Expr}{fa fb fc:Ev->Option D}{pos:Pos}
noncomputable def aI(F:List D->Option D)(g:Ev->Option (List D)):Ev->Option D:=λε=>(g ε).bind F
noncomputable def fA(op:D->Option D)(fa:Ev->Option D):Ev->Option D:=λε=>(fa ε).bind op
noncomputable def ee(op:D->D)(fa:Ev->Option D):Ev->Option D:=λε=>(fa ε).map op
theorem xZ{k:Nat}{f:Addr}{fd:FuncData}{ps:List Str}{Fn:List D->Option D}{x:Str}{e:Expr}{es:List Expr}{g:Ev->Option (List D)}{p:Pos}
  (F:FnOk X.prog X.w X.K X.mg X.base CX0 k f fd ps (spF X.K Fn)) (hr:Room k X.A) (hm:X.mg x=some (.ref f)) (hk:PySem.W.keepIn X.K (.ref f)=true) (hb:jw X.K fd ps [])
  (ha:DA X (e::es) g) (hg:Gl X x:=by rfl) (hdb:(x==("__debug__" : Str))=false:=by decide) (he:starEach (e::es) X.env=(false,eval e X.env)::starEach es X.env:=by rfl) (hpl:(backTo pos (starEach es X.env)).any (·.1)=false:=by rfl) :
  DE X (.Call (.Name x p) (e::es) [] pos) (aI Fn g):=by
 obtain⟨t,a1,a2⟩:=ha;refine⟨_,nj (E:=E0) F hr hg hm hk hb .nil wc a1 hdb he hpl,λHe G H σ ε d Q gh E ef q=>?_⟩;obtain⟨ds,e1,ef⟩:=aq ef;refine a2 He G H σ ε ds _ gh E e1 λvs G1 H1 g1 d1=>?_;show spF X.K Fn (vs++[]) H1 Q E0;rw[List.append_nil];exact⟨G1,ds,d,g1.gh,d1,ef,λv G2 H2 g2 d2=>q v G2 H2 (g1.trans g2) d2⟩
noncomputable def jo(F:List D->Option (List D))(g:Ev->Option (List D)):Ev->Option (List D):=λε=>(g ε).bind F
theorem ya{k:Nat}{f:Addr}{fd:FuncData}{ps:List Str}{Fn:List D->Option (List D)}{x:Str}{e:Expr}{es:List Expr}{g:Ev->Option (List D)}{p:Pos}
  (F:FnOk X.prog X.w X.K X.mg X.base CX0 k f fd ps (spO X.K Fn)) (hr:Room k X.A) (hm:X.mg x=some (.ref f)) (hk:PySem.W.keepIn X.K (.ref f)=true) (hb:jw X.K fd ps [])
  (ha:DA X (e::es) g) (hg:Gl X x:=by rfl) (hdb:(x==("__debug__" : Str))=false:=by decide) (he:starEach (e::es) X.env=(false,eval e X.env)::starEach es X.env:=by rfl) (hpl:(backTo pos (starEach es X.env)).any (·.1)=false:=by rfl) :
  DF X (.Call (.Name x p) (e::es) [] pos) (jo Fn g):=by
 obtain⟨t,a1,a2⟩:=ha;refine⟨_,nj (E:=E0) F hr hg hm hk hb .nil wc a1 hdb he hpl,λHe G H σ ε rs Q gh E ef q=>?_⟩;obtain⟨ds,e1,ef⟩:=aq ef;refine a2 He G H σ ε ds _ gh E e1 λvs G1 H1 g1 d1=>?_;show spO X.K Fn (vs++[]) H1 Q E0;rw[List.append_nil];exact⟨G1,ds,rs,g1.gh,d1,ef,λa xs G2 H2 g2 n1 n2 h2 d2=>q a xs G2 H2 (g1.trans g2) (g1.hh.free n1) n2 h2 d2⟩
noncomputable def eX:D->Option D
 |.lst xs=>some (.int xs.length)
 |.tup xs=>some (.int xs.length)
 |_=>none
theorem k8{p:Pos}(ha:DB X a fa)(hm:X.mg "len" = none)(hg:Gl X "len":=by rfl)(hst:starEach [a] X.env=(false,eval a X.env)::starEach [] X.env:=by rfl)(hpl:(backTo pos (starEach [] X.env)).any (·.1)=false:=by rfl):DE X (.Call (.Name "len" p) [a] [] pos) (fA eX fa):=by
 obtain⟨ta,a1,a2⟩:=ha;refine⟨_,gA m9 hg hm PySem.boot_len (b7 a1 da hst) (by decide) (by decide) hst hpl,λHe G H σ ε d Q gh E ef q=>?_⟩;obtain⟨x,e1,ef⟩:=aq ef;refine a2 He G H σ ε x _ gh E e1 λv G1 H1 g1 d1=>?_;unfold eX at ef;split at ef
 ·cases ef
  obtain⟨p,xs,rfl,h1,h2⟩:=d1.lst g1.gh;exact⟨p,xs,rfl,.inl h1,q _ _ _ g1 (by rw[h2.length];exact .int _)⟩
 ·cases ef
  obtain⟨p,xs,rfl,h0,h1,h2⟩:=d1.tup g1.gh;exact⟨p,xs,rfl,.inr h1,q _ _ _ g1 (by rw[h2.length];exact .int _)⟩
 ·cases ef
noncomputable def pj(X:Cx)(f:Value)(op:List D->Option D):Prop:=∃r,dW X f r/\∀(G H:Hp) (vs:List V) (ds:List D) (d:D) (Q:VK),aR G H->DenL X.K G vs ds->op ds=some d->
 (∀v G' H',Grow G H G' H'->Den X.K G' v d->Q v H')->r vs H Q
theorem fB{id:String}{op:List D->Option D}{x:Str}{e:Expr}{es:List Expr}{g:Ev->Option (List D)}{p:Pos}(hc:pj X (.builtin id) op)(hm:X.mg x=none)(hv:bootBuiltins x=some (.builtin id))(ha:DA X (e::es) g)(hg:Gl X x:=by rfl)
  (hn:x≠"__name__":=by decide) (hdb:(x==("__debug__" : Str))=false:=by decide) (he:starEach (e::es) X.env=(false,eval e X.env)::starEach es X.env:=by rfl) (hpl:(backTo pos (starEach es X.env)).any (·.1)=false:=by rfl) :
  DE X (.Call (.Name x p) (e::es) [] pos) (aI op g):=by
 obtain⟨r,c1,c2⟩:=hc;obtain⟨t,a1,a2⟩:=ha;refine⟨_,gA c1 hg hm hv a1 hn hdb he hpl,λHe G H σ ε d Q gh E ef q=>?_⟩;obtain⟨ds,e1,ef⟩:=aq ef;refine a2 He G H σ ε ds _ gh E e1 λvs G1 H1 g1 d1=>?_;exact c2 G1 H1 vs ds d Q g1.gh d1 ef λv G2 H2 g2 d2=>q v G2 H2 (g1.trans g2) d2
noncomputable def j_:List D->Option D
 |[.int i,.int j]=>some (.int (if j>i then j else i))
 |_=>none
theorem Den.intV{K:PySem.W.Frag}{G:Hp}{v:V}{i:Int}(h:Den K G v (.int i)):v=.int i:=by cases h;rfl
theorem mW(hc:X.calm=true):pj X (.builtin "max") j_:=⟨_,sN hc,λG H vs ds d Q gh hd e q=>by
 unfold j_ at e;split at e
 ·cases e
  cases hd with | cons h1 h2=>cases h2 with | cons h2 h3=>cases h3;exact⟨_,_,by rw[h1.intV,h2.intV],q _ _ _ (.refl gh) (.int _)⟩
 ·cases e⟩
theorem Den.lstV{K:PySem.W.Frag}{G:Hp}{v:V}{ds:List D}(h:Den K G v (.lst ds)):∃a xs,v=.ref a/\SqL K G a xs/\DenL K G xs ds:=by cases h with | lst h hs=>exact⟨_,_,rfl,h,hs⟩
theorem Den.tupV{K:PySem.W.Frag}{G:Hp}{v:V}{ds:List D}(h:Den K G v (.tup ds)):∃a xs,v=.ref a/\SqT K G a xs/\DenL K G xs ds:=by cases h with | tup h hs=>exact⟨_,_,rfl,h,hs⟩
noncomputable def mq(fa:Ev->Option D):Ev->Option (List D):=λε=>match fa ε with | some (.lst xs)=>some xs | some (.tup xs)=>some xs | _=>none
theorem j5{p:Pos}(ha:DB X a fa)(hm:X.mg "list" = none)(hg:Gl X "list":=by rfl)(hst:starEach [a] X.env=(false,eval a X.env)::starEach [] X.env:=by rfl)(hpl:(backTo pos (starEach [] X.env)).any (·.1)=false:=by rfl):DF X (.Call (.Name "list" p) [a] [] pos) (mq fa):=by
 obtain⟨ta,a1,a2⟩:=ha;refine⟨_,i7 mM hg hm (by rfl) (b7 a1 da hst) (by decide) (by decide) hst hpl,λHe G H σ ε d Q gh E ef q=>?_⟩;unfold mq at ef;split at ef
 ·rename_i e1
  cases ef;refine a2 He G H σ ε _ _ gh E e1 λv G1 H1 g1 d1=>?_;obtain⟨p,xs,rfl,h1,h2⟩:=d1.lst g1.gh;exact⟨p,xs,rfl,.inl h1,λl hl=>q l xs G1 _ (g1.trans (.lay _ g1.gh hl)) (g1.hh.free hl) (g1.gnone hl) aN h2⟩
 ·rename_i e1
  cases ef;refine a2 He G H σ ε _ _ gh E e1 λv G1 H1 g1 d1=>?_;obtain⟨p,xs,rfl,h0,h1,h2⟩:=d1.tup g1.gh;exact⟨p,xs,rfl,.inr h1,λl hl=>q l xs G1 _ (g1.trans (.lay _ g1.gh hl)) (g1.hh.free hl) (g1.gnone hl) aN h2⟩
 ·cases ef
noncomputable def tyD:D->String
 |.non=>"NoneType" | .bl _=>"bool" | .int _=>"int" | .str _=>"str" | .tup _=>"tuple" | .lst _=>"list" | .dic _=>"dict"
noncomputable def d_(T:String)(d:D):D:=.bl (tyD d==T || (tyD d == "bool" && T == "int"))
theorem yT{K:PySem.W.Frag}{t T:String}(hT:T = "list"\/T = "tuple"\/T = "bool"\/T = "int")(ht:t = "NoneType"\/t = "bool"\/t = "int"\/t = "str"\/t = "tuple"\/t = "list"\/t = "dict") :
  PySem.W.kitOne K (.type t) (.type T)=some (t==T || (t == "bool" && T == "int")):=by
 rcases hT with rfl | rfl | rfl | rfl<;>rcases ht with rfl | rfl | rfl | rfl | rfl | rfl | rfl<;>rfl
theorem yP(d:D):tyD d = "NoneType"\/tyD d = "bool"\/tyD d = "int"\/tyD d = "str"\/tyD d = "tuple"\/tyD d = "list"\/tyD d = "dict":=by cases d<;>simp[tyD]
theorem uw{T:String}(hT:T = "list"\/T = "tuple"\/T = "bool"\/T = "int"):dW X (.builtin "isinstance") (λxs H Q=>∃G v d,xs=[v,.ty T]/\aR G H/\b8 X.K G H v d/\∃k,d_ T d=.bl k/\Q (.bl k) H):=by
 intro pins s σ H xs us Q I rv h;obtain⟨G,v,d,rfl,gh,hd,k,ek,q⟩:=h;obtain⟨u,u2,rfl,r1,r2⟩:=rv.two;have e2:u2=Value.type T:=r2;subst e2
 have kt:PySem.W.kitOne X.K (.type (tyD d)) (.type T)=some k:=by
  rw[yT hT (yP d)];unfold d_ at ek;injection ek with ek
  rw[ek]
 have fin:∀tk,EP X pins σ Q (.bool k) { s with toks:=tk }:=λtk=>⟨.bl k,H,I.tok tk,rfl,q⟩;cases d with
 |non=>cases hd.non;cases(show u=Value.none from r1);exact PySem.W.kia_one PySem.W.kitx_none I.kIn True.intro kt (λz=>nomatch z) fin
 |bl y=>cases hd.bl;cases(show u=Value.bool y from r1);exact PySem.W.kia_one PySem.W.kitx_bool I.kIn True.intro kt (λz=>nomatch z) fin
 |int i=>cases hd.int;obtain⟨t,z⟩:=(show ∃t,u=Value.int i t from r1);cases z;exact PySem.W.kia_one PySem.W.kitx_int I.kIn True.intro kt (λz=>nomatch z) fin
 |str i=>cases hd.str;obtain⟨t,z⟩:=(show ∃t,u=Value.str i t from r1);cases z;exact PySem.W.kia_one PySem.W.kitx_str I.kIn True.intro kt (λz=>nomatch z) fin
 |tup ds=>
  obtain⟨p,ys,rfl,h0,h1,h2⟩:=hd.tup gh;cases(show u=Value.ref p from r1);obtain⟨its,_,⟨o,h3,h4,_⟩,_⟩:=I.tuple h1;exact PySem.W.kia_one PySem.W.kitx_tuple I.kIn ⟨o,h3,h4⟩ kt (λz=>nomatch z) fin
 |lst ds=>
  obtain⟨p,ys,rfl,h1,h2⟩:=hd.lst gh;cases(show u=Value.ref p from r1);obtain⟨its,_,⟨o,n,h3,h4,_⟩,_⟩:=I.list h1;exact PySem.W.kia_one PySem.W.kitx_list I.kIn ⟨o,h3,h4⟩ kt (λz=>nomatch z) fin
 |dic es=>
  rcases hd with hd | ⟨_,_,_,_,z,_⟩
  ·cases hd with
   |@dic p us ep _ h nd hs=>
    cases(show u=Value.ref p from r1);obtain⟨⟨_,_,o,raw,h3,h4,_⟩,_,_⟩:=(show bG X.prog X.w H s.heap p (.ext (DAt p us ep)) from I.hok p _ (gh _ _ h));exact PySem.W.kia_one PySem.W.kitx_dict I.kIn ⟨o,h3,h4.1⟩ kt (λz=>nomatch z) fin
  ·cases z
theorem eV{T:String}{p p2:Pos}{x:Str}(hT:T = "list"\/T = "tuple"\/T = "bool"\/T = "int")(ha:DB X a fa)(hm:X.mg "isinstance" = none)(hm2:X.mg x=none)(hv:bootBuiltins x=some (.type T))(hv0:bootBuiltins "isinstance" = some (.builtin "isinstance"):=by rfl)(hg:Gl X "isinstance":=by rfl)(hg2:Gl X x:=by rfl)(hn2:x≠"__name__":=by decide)(hd2:(x==("__debug__" : Str))=false:=by decide)
  (hst:starEach [a,.Name x p2] X.env=(false,eval a X.env)::starEach [.Name x p2] X.env:=by rfl) (hst2:starEach [.Name x p2] X.env=(false,eval (.Name x p2) X.env)::starEach [] X.env:=by rfl) (hpl:(backTo pos (starEach [.Name x p2] X.env)).any (·.1)=false:=by rfl) :
  DE X (.Call (.Name "isinstance" p) [a,.Name x p2] [] pos) (ee (d_ T) fa):=by
 obtain⟨ta,a1,a2⟩:=ha;refine⟨_,gA (uw hT) hg hm hv0 (b7 a1 (b7 (ye (v:=.ty T) hg2 hm2 hv rfl hn2 hd2) da hst2) hst) (by decide) (by decide) hst hpl,λHe G H σ ε d Q gh E ef q=>?_⟩;unfold ee at ef;cases e1:fa ε with
 |none=>rw[e1] at ef;cases ef
 |some y=>
  rw[e1] at ef;cases ef;refine a2 He G H σ ε y _ gh E e1 λv G1 H1 g1 d1=>?_;exact⟨G1,v,y,rfl,g1.gh,d1,_,rfl,q _ _ _ g1 (.bl _)⟩
end
theorem EnvD.put{K:PySem.W.Frag}{He G H:Hp}{σ:L2.St}{ε:Ev}{i:Nat}{v:V}{d:D}(E:EnvD K He G H σ ε)(h:Den K G v d):EnvD K He G H (σ.set i (some v)) (ε.set i (.dat d)) where
 len:=by rw[List.length_set,List.length_set];exact E.len
 dat:=λ{j d'} e=>by
  rw[List.getElem?_set] at e ⊢
  by_cases z:i=j
  ·rw[if_pos z] at e ⊢
   subst z;rw[E.len];split at e
   ·rename_i hl;cases e;exact⟨v,by rw[if_pos hl],h⟩
   ·cases e
  ·rw[if_neg z] at e ⊢
   exact E.dat e
 own:=λ{j ds} e=>by
  rw[List.getElem?_set] at e ⊢
  by_cases z:i=j
  ·rw[if_pos z] at e;split at e<;>cases e
  ·rw[if_neg z] at e ⊢
   exact E.own e
 apart:=λ{j k ds es a} e1 e2 h1 h2=>by
  rw[List.getElem?_set] at e1 e2 h1 h2
  by_cases z:i=j
  ·rw[if_pos z] at e1;split at e1<;>cases e1
  ·by_cases z2:i=k
   ·rw[if_pos z2] at e2;split at e2<;>cases e2
   ·rw[if_neg z] at e1 h1
    rw[if_neg z2] at e2 h2;exact E.apart e1 e2 h1 h2
 odi:=λ{j ds} e=>by
  rw[List.getElem?_set] at e ⊢
  by_cases z:i=j
  ·rw[if_pos z] at e;split at e<;>cases e
  ·rw[if_neg z] at e ⊢
   exact E.odi e
 apartD:=λ{j k ds es a} e1 e2 h1 h2=>by
  rw[List.getElem?_set] at e1 e2 h1 h2
  by_cases z:i=j
  ·rw[if_pos z] at e1;split at e1<;>cases e1
  ·by_cases z2:i=k
   ·rw[if_pos z2] at e2;split at e2<;>cases e2
   ·rw[if_neg z] at e1 h1
    rw[if_neg z2] at e2 h2;exact E.apartD e1 e2 h1 h2
theorem EnvD.putO{K:PySem.W.Frag}{He G H G' H':Hp}{σ:L2.St}{ε:Ev}{i:Nat}{a:Addr}{xs:List V}{ds:List D}(E:EnvD K He G H σ ε)(g:Grow G H G' H')(heH:aR He H)(hn:H a=none)(gn:G' a=none)(ha:H' a=some (.lst xs))(hd:DenL K G' xs ds) :
  EnvD K He G' H' (σ.set i (some (.ref a))) (ε.set i (.own ds)) where
 len:=by rw[List.length_set,List.length_set];exact E.len
 dat:=λ{j d'} e=>by
  rw[List.getElem?_set] at e ⊢
  by_cases z:i=j
  ·rw[if_pos z] at e;split at e<;>cases e
  ·rw[if_neg z] at e ⊢
   exact(E.grow g).dat e
 own:=λ{j ds'} e=>by
  rw[List.getElem?_set] at e ⊢
  by_cases z:i=j
  ·rw[if_pos z] at e ⊢
   subst z;rw[E.len];split at e
   ·rename_i hl;cases e;exact⟨a,xs,by rw[if_pos hl],ha,gn,heH.free hn,hd⟩
   ·cases e
  ·rw[if_neg z] at e ⊢
   exact(E.grow g).own e
 apart:=λ{j k ds' es b} e1 e2 h1 h2=>by
  rw[List.getElem?_set] at e1 e2 h1 h2
  have key:∀{m:Nat} {es:List D},ε[m]?=some (.own es)->σ[m]?=some (some (.ref a))->False:=λ{m es} q1 q2=>by
   obtain⟨b',ys,w1,w2,_⟩:=E.own q1;rw[q2] at w1;cases w1;rw[hn] at w2;cases w2
  by_cases z:i=j
  ·by_cases z2:i=k
   ·rw[<-z,<-z2]
   ·rw[if_pos z] at h1
    rw[if_neg z2] at e2 h2;split at h1
    ·cases h1;exact(key e2 h2).elim
    ·cases h1
  ·by_cases z2:i=k
   ·rw[if_neg z] at e1 h1
    rw[if_pos z2] at h2;split at h2
    ·cases h2;exact(key e1 h1).elim
    ·cases h2
   ·rw[if_neg z] at e1 h1
    rw[if_neg z2] at e2 h2;exact E.apart e1 e2 h1 h2
 odi:=λ{j ds'} e=>by
  rw[List.getElem?_set] at e ⊢
  by_cases z:i=j
  ·rw[if_pos z] at e;split at e<;>cases e
  ·rw[if_neg z] at e ⊢
   exact(E.grow g).odi e
 apartD:=λ{j k ds es a} e1 e2 h1 h2=>by
  rw[List.getElem?_set] at e1 e2 h1 h2
  by_cases z:i=j
  ·rw[if_pos z] at e1;split at e1<;>cases e1
  ·by_cases z2:i=k
   ·rw[if_pos z2] at e2;split at e2<;>cases e2
   ·rw[if_neg z] at e1 h1
    rw[if_neg z2] at e2 h2;exact E.apartD e1 e2 h1 h2
theorem Sta.write{K:PySem.W.Frag}{He Ge G H:Hp}{σ:L2.St}{ε:Ev}{i:Nat}{a:Addr}{xs ys:List V}{ds es:List D}(S:Sta K He Ge G H σ ε)(ei:ε[i]?=some (.own ds))(hs:σ[i]?=some (some (.ref a)))(ha:H a=some (.lst xs))(hd:DenL K G ys es) :
  Sta K He Ge G (upd H a (.lst ys)) σ (ε.set i (.own es)):=by
 obtain⟨a',xs',h1,h2,h3,h4,h5⟩:=S.e.own ei;rw[hs] at h1;cases h1;have keep:∀{b:Addr} {o:HO},b≠a->H b=some o->upd H a (.lst ys) b=some o:=λ{b o} n e=>by rw[aT n];exact e
 refine⟨⟨λb o e=>keep (aH e h4) (S.g.hh b o e),S.g.gg,λb o e=>keep (aH e h3) (S.g.gh b o e),S.g.fo⟩,?_⟩;have hil:i<ε.length:=(List.getElem?_eq_some_iff.mp ei).1;refine⟨by rw[List.length_set];exact S.e.len,λ{j d} e=>?_,λ{j fs} e=>?_,λ{j k fs gs b} e1 e2 w1 w2=>?_,λ{j fs} e=>?_,λ{j k fs gs b} e1 e2 w1 w2=>?_⟩
 ·rw[List.getElem?_set] at e
  by_cases z:i=j
  ·rw[if_pos z] at e;split at e<;>cases e
  ·rw[if_neg z] at e;exact S.e.dat e
 ·rw[List.getElem?_set] at e
  by_cases z:i=j
  ·rw[if_pos z,if_pos (z▸hil)] at e
   cases e;subst z;exact⟨a,ys,hs,aN,h3,h4,hd⟩
  ·rw[if_neg z] at e
   obtain⟨b,zs,w1,w2,w3,w4,w5⟩:=S.e.own e;refine⟨b,zs,w1,keep (λq=>z ?_) w2,w3,w4,w5⟩;subst q;exact S.e.apart ei e hs w1
 ·have own_of:∀{m:Nat} {fs:List D},(ε.set i (.own es))[m]?=some (.own fs)->∃gs,ε[m]?=some (.own gs):=λ{m fs} e=>by
   rw[List.getElem?_set] at e
   by_cases z:i=m
   ·subst z;exact⟨_,ei⟩
   ·rw[if_neg z] at e;exact⟨_,e⟩
  obtain⟨_,q1⟩:=own_of e1;obtain⟨_,q2⟩:=own_of e2;exact S.e.apart q1 q2 w1 w2
 ·rw[List.getElem?_set] at e
  by_cases z:i=j
  ·rw[if_pos z] at e;split at e<;>cases e
  ·rw[if_neg z] at e
   obtain⟨b,us,ep,w1,w2,w3⟩:=S.e.odi e;exact⟨b,us,ep,w1,keep (λq=>by subst q;rw[ha] at w2;cases w2) w2,w3⟩
 ·have odi_of:∀{m:Nat} {fs:List (List Int×D)},(ε.set i (.own es))[m]?=some (.odi fs)->ε[m]?=some (.odi fs):=λ{m fs} e=>by
   rw[List.getElem?_set] at e
   by_cases z:i=m
   ·rw[if_pos z] at e;split at e<;>cases e
   ·rw[if_neg z] at e;exact e
  exact S.e.apartD (odi_of e1) (odi_of e2) w1 w2
noncomputable def fzS:Sl->Sl
 |.own ds=>.dat (.lst ds)
 |.odi es=>.dat (.dic es)
 |x=>x
noncomputable def fz1(i:Nat)(ε:Ev):Ev:=ε.modify i fzS
theorem Sta.freeze{K:PySem.W.Frag}{He Ge G H:Hp}{σ:L2.St}{ε:Ev}(S:Sta K He Ge G H σ ε)(i:Nat):∃G',Sta K He Ge G' H σ (fz1 i ε):=by
 unfold fz1;cases ei:ε[i]? with
 |none=>
  have:ε.modify i fzS=ε:=by
   apply List.ext_getElem?;intro j;rw[List.getElem?_modify]
   by_cases z:i=j
   ·subst z;rw[ei];rfl
   ·simp[z]
  rw[this];exact⟨G,S⟩
 |some sl=>
  cases sl with
  |un=>
   have:ε.modify i fzS=ε:=by
    apply List.ext_getElem?;intro j;rw[List.getElem?_modify]
    by_cases z:i=j
    ·subst z;rw[ei];simp[fzS]
    ·simp[z]
   rw[this];exact⟨G,S⟩
  |dat d=>
   have:ε.modify i fzS=ε:=by
    apply List.ext_getElem?;intro j;rw[List.getElem?_modify]
    by_cases z:i=j
    ·subst z;rw[ei];simp[fzS]
    ·simp[z]
   rw[this];exact⟨G,S⟩
  |own ds=>
   obtain⟨a,xs,h1,h2,h3,h4,h5⟩:=S.e.own ei;have s2:aR G (upd G a (.lst xs)):=λb o e=>by rw[aT (aH e h3)];exact e
   have gt:∀j,(ε.modify i fzS)[j]?=if i=j then some (.dat (.lst ds)) else ε[j]?:=λj=>by
    rw[List.getElem?_modify]
    by_cases z:i=j
    ·subst z;rw[ei];simp[fzS]
    ·simp[z]
   refine⟨upd G a (.lst xs),⟨S.g.hh,S.g.gg.trans s2,λb o e=>?_,λb o e z=>?_⟩,⟨by rw[List.length_modify];exact S.e.len,λ{j d} e=>?_,λ{j fs} e=>?_,λ{j k fs gs b} e1 e2 w1 w2=>?_,λ{j fs} e=>?_,λ{j k fs gs b} e1 e2 w1 w2=>?_⟩⟩
   ·unfold upd at e
    by_cases z:b=a
    ·rw[if_pos z] at e;cases e;rw[z];exact h2
    ·rw[if_neg z] at e;exact S.g.gh b o e
   ·rw[aT (aH e h4)];exact S.g.fo b o e z
   ·rw[gt] at e
    split at e
    ·rename_i z;subst z;cases e;exact⟨_,h1,.lst (SqL.of aN) (h5.mono s2)⟩
    ·obtain⟨v,w1,w2⟩:=S.e.dat e;exact⟨v,w1,w2.mono s2⟩
   ·rw[gt] at e
    split at e
    ·cases e
    ·rename_i z
     obtain⟨b,zs,w1,w2,w3,w4,w5⟩:=S.e.own e;refine⟨b,zs,w1,w2,?_,w4,w5.mono s2⟩;rw[aT (λq=>z (by subst q;exact S.e.apart ei e h1 w1))];exact w3
   ·rw[gt] at e1 e2
    split at e1
    ·cases e1
    ·split at e2
     ·cases e2
     ·exact S.e.apart e1 e2 w1 w2
   ·rw[gt] at e
    split at e
    ·cases e
    ·obtain⟨b,us,ep,w1,w2,w3,w4,w5,w6⟩:=S.e.odi e
     refine⟨b,us,ep,w1,w2,?_,w4,w5,w6.mono s2⟩;rw[aT (λq=>by subst q;rw[h2] at w2;cases w2)];exact w3
   ·rw[gt] at e1 e2
    split at e1
    ·cases e1
    ·split at e2
     ·cases e2
     ·exact S.e.apartD e1 e2 w1 w2
  |odi es=>
   obtain⟨a,us,ep,h1,h2,h3,h4,h5,h6⟩:=S.e.odi ei;have s2:aR G (upd G a (.ext (DAt a us ep))):=λb o e=>by rw[aT (aH e h3)];exact e
   have gt:∀j,(ε.modify i fzS)[j]?=if i=j then some (.dat (.dic es)) else ε[j]?:=λj=>by
    rw[List.getElem?_modify]
    by_cases z:i=j
    ·subst z;rw[ei];simp[fzS]
    ·simp[z]
   refine⟨upd G a (.ext (DAt a us ep)),⟨S.g.hh,S.g.gg.trans s2,λb o e=>?_,λb o e z=>?_⟩,⟨by rw[List.length_modify];exact S.e.len,λ{j d} e=>?_,λ{j fs} e=>?_,λ{j k fs gs b} e1 e2 w1 w2=>?_,λ{j fs} e=>?_,λ{j k fs gs b} e1 e2 w1 w2=>?_⟩⟩
   ·unfold upd at e
    by_cases z:b=a
    ·rw[if_pos z] at e;cases e;rw[z];exact h2
    ·rw[if_neg z] at e;exact S.g.gh b o e
   ·rw[aT (aH e h4)];exact S.g.fo b o e z
   ·rw[gt] at e
    split at e
    ·rename_i z;subst z;cases e;exact⟨_,h1,.dic aN h5 (h6.mono s2)⟩
    ·obtain⟨v,w1,w2⟩:=S.e.dat e;exact⟨v,w1,w2.mono s2⟩
   ·rw[gt] at e
    split at e
    ·cases e
    ·obtain⟨b,zs,w1,w2,w3,w4,w5⟩:=S.e.own e
     refine⟨b,zs,w1,w2,?_,w4,w5.mono s2⟩;rw[aT (λq=>by subst q;rw[h2] at w2;cases w2)];exact w3
   ·rw[gt] at e1 e2
    split at e1
    ·cases e1
    ·split at e2
     ·cases e2
     ·exact S.e.apart e1 e2 w1 w2
   ·rw[gt] at e
    split at e
    ·cases e
    ·rename_i z
     obtain⟨b,us',ep',w1,w2,w3,w4,w5,w6⟩:=S.e.odi e;refine⟨b,us',ep',w1,w2,?_,w4,w5,w6.mono s2⟩;rw[aT (λq=>z (by subst q;exact S.e.apartD ei e h1 w1))];exact w3
   ·rw[gt] at e1 e2
    split at e1
    ·cases e1
    ·split at e2
     ·cases e2
     ·exact S.e.apartD e1 e2 w1 w2
theorem Grow.base{Ge He G1 H1 G H:Hp}(a:Grow Ge He G1 H1)(b:Grow G1 He G H):Grow Ge He G H:=⟨b.hh,a.gg.trans b.gg,b.gh,λc o h e=>b.fo c o h (a.fo c o h e)⟩
theorem Grow.self{Ge He G1 H1:Hp}(a:Grow Ge He G1 H1):Grow G1 He G1 H1:=⟨a.hh,aR.refl _,a.gh,λ_ _ _ e=>e⟩
section
variable{X:Cx}{a b c:Expr}{fa fb fc:Ev->Option D}{pos:Pos}{st:Stmt}{rest:List Stmt}{g g':Ev->Option Fl}
noncomputable def bj:Ev->Option Fl:=λε=>some (.nx ε)
noncomputable def aC(g g':Ev->Option Fl):Ev->Option Fl:=λε=>(g ε).bind λr=>match r with | .nx ε'=>g' ε' | r=>some r
theorem aP:DSs X [] bj:=⟨_,yb,λHe Ge G H σ ε r W S e P=>by cases e;exact P σ G H S⟩
theorem ax(h:DS X st g):DSs X [st] g:=let⟨t,h1,h2⟩:=h;⟨_,yv h1,h2⟩
theorem ao(h:DS X st g)(hs:DSs X rest g'):DSs X (st::rest) (aC g g'):=by
 obtain⟨t,a1,a2⟩:=h;obtain⟨u,b1,b2⟩:=hs;refine⟨_,uP a1 b1,λHe Ge G H σ ε r W S e P=>?_⟩;obtain⟨r1,e1,e⟩:=aq e;refine a2 He Ge G H σ ε r1 _ S e1 ?_;cases r1 with
 |nx ε'=>exact λσ' G' H' S'=>b2 He Ge G' H' σ' ε' r W S' e P
 |rt d=>cases e;exact P
 |ro ds=>cases e;exact P
 |bk ε'=>cases e;exact P
 |ct ε'=>cases e;exact P
theorem pf:DS X (.Continue pos) (λε=>some (.ct ε)):=⟨_,ot,λHe Ge G H σ ε r W S e P=>by cases e;exact P σ G H S⟩
noncomputable def sFz(i:Nat)(g:Ev->Option Fl):Ev->Option Fl:=λε=>g (fz1 i ε)
theorem iN(i:Nat)(h:DS X st g):DS X st (sFz i g):=let⟨t,h1,h2⟩:=h;⟨t,h1,λHe Ge G H σ ε r W S e P=>let⟨G',S'⟩:=S.freeze i;h2 He Ge G' H σ _ r W S' e P⟩
noncomputable def a8(f:Ev->Option D):Ev->Option Fl:=λε=>(f ε).map Fl.rt
theorem br{α β:Type}{o:Option α}{f:α->β}{y:β}(h:o.map f=some y):∃x,o=some x/\f x=y:=by
 cases o with
 |none=>cases h
 |some x=>exact⟨x,rfl,Option.some.inj h⟩
theorem aO(h:DE X a fa):DS X (.Return (some a) pos) (a8 fa):=by
 obtain⟨t,a1,a2⟩:=h;refine⟨_,ua a1,λHe Ge G H σ ε r W S e P=>?_⟩;obtain⟨d,e1,rfl⟩:=br e;exact a2 He G H σ ε d _ S.g.gh S.e e1 λv G' H' g hd=>P v G' H' (S.g.trans g) hd
noncomputable def rN(f:Ev->Option (List D)):Ev->Option Fl:=λε=>(f ε).map Fl.ro
theorem xC{f:Ev->Option (List D)}(h:DF X a f):DS X (.Return (some a) pos) (rN f):=by
 obtain⟨t,a1,a2⟩:=h;refine⟨_,ua a1,λHe Ge G H σ ε r W S e P=>?_⟩;obtain⟨d,e1,rfl⟩:=br e;exact a2 He G H σ ε d _ S.g.gh S.e e1 λl xs G' H' g n1 n2 h3 hd=>P l xs G' H' (S.g.trans g) (S.g.hh.free n1) n2 h3 hd
noncomputable def Dp(i:Nat):Ev->Option Fl:=λε=>match ε[i]? with | some (.own ds)=>some (.ro ds) | _=>none
noncomputable def sIf(f:Ev->Option Bool)(g g':Ev->Option Fl):Ev->Option Fl:=λε=>(f ε).bind λk=>if k=true then g ε else g' ε
theorem bz{f:Ev->Option Bool}{s1 s2:List Stmt}(hc:DT X c f)(h1:DSs X s1 g)(h2:DSs X s2 g'):DS X (.If c s1 s2 pos) (sIf f g g'):=by
 obtain⟨t,c1,c2⟩:=hc;obtain⟨ta,a1,a2⟩:=h1;obtain⟨tb,b1,b2⟩:=h2;refine⟨_,Cs c1 a1 b1,λHe Ge G H σ ε r W S e P=>?_⟩;obtain⟨k,e1,e⟩:=aq e;refine c2 He G H σ ε k _ S.g.gh S.e e1 λG1 H1 g1=>?_;cases k with
 |true=>
  rw[if_pos rfl] at e ⊢;exact a2 He Ge G1 H1 σ ε r W (S.grow g1) e P
 |false=>
  rw[if_neg Bool.false_ne_true] at e ⊢;exact b2 He Ge G1 H1 σ ε r W (S.grow g1) e P
noncomputable def aU(i:Nat)(f:Ev->Option D):Ev->Option Fl:=λε=>(f ε).map λd=>Fl.nx (ε.set i (.dat d))
theorem aW(i:Nat){x:Str}{pos':Pos}(hN:X.N.Nodup)(ha:DE X a fa)(hi:X.N[i]?=some x:=by rfl)(hx:Loc X.env.scope x:=by first | exact Or.inl rfl | exact Or.inr rfl)(hs:swapsWith a (some (.Name x pos')) pos.line X.env=pure false:=by rfl)
  (hf:X.fn x=true\/X.env.scope.names.lookup x=some .local:=by first | exact .inl rfl | exact .inr rfl):DS X (.Assign [.Name x pos'] a pos) (aU i fa):=by
 obtain⟨t,a1,a2⟩:=ha;refine⟨_,qu hN hi hx a1 hs hf,λHe Ge G H σ ε r W S e P=>?_⟩;obtain⟨d,e1,rfl⟩:=br e;exact a2 He G H σ ε d _ S.g.gh S.e e1 λv G' H' g hd=>P _ G' H' ⟨S.g.trans g,(S.e.grow g).put hd⟩
noncomputable def eY(i:Nat)(f:Ev->Option (List D)):Ev->Option Fl:=λε=>(f ε).map λd=>Fl.nx (ε.set i (.own d))
theorem gi(i:Nat){x:Str}{pos':Pos}{f:Ev->Option (List D)}(hN:X.N.Nodup)(ha:DF X a f)(hi:X.N[i]?=some x:=by rfl)(hx:Loc X.env.scope x:=by first | exact Or.inl rfl | exact Or.inr rfl)(hs:swapsWith a (some (.Name x pos')) pos.line X.env=pure false:=by rfl)
  (hf:X.fn x=true\/X.env.scope.names.lookup x=some .local:=by first | exact .inl rfl | exact .inr rfl):DS X (.Assign [.Name x pos'] a pos) (eY i f):=by
 obtain⟨t,a1,a2⟩:=ha;refine⟨_,qu hN hi hx a1 hs hf,λHe Ge G H σ ε r W S e P=>?_⟩;obtain⟨d,e1,rfl⟩:=br e;exact a2 He G H σ ε d _ S.g.gh S.e e1 λl xs G' H' g hn gn hl hd=>P _ G' H' ⟨S.g.trans g,S.e.putO g S.g.hh hn gn hl hd⟩
noncomputable def dM(i:Nat)(f:Ev->Option D):Ev->Option Fl:=λε=>(f ε).bind λd=>match ε[i]? with
 |some (.own ds)=>if ds.length<1000000 then some (.nx (ε.set i (.own (ds++[d])))) else none
 |_=>none
theorem eZ(i:Nat){x:Str}{p1 p2:Pos}(ha:DE X a fa)(hN:X.N[i]?=some x:=by rfl)(hv:Vis X.env.scope x:=by first | exact Or.inl rfl | exact Or.inr (Or.inl rfl))(hd:(x==("__debug__" : Str))=false:=by decide)
  (hcd:(x==("__classdict__" : Str))=false:=by decide)
  (hbase:attributeBase (.Name x p1) "append" X.env (eval (.Name x p1) X.env)=eval (.Name x p1) X.env:=by rfl)
  (hfew:((backTo pos (starEach [a] X.env)).all (λx=>!x.1)&&(backToKw pos (keywordEach [] X.env)).all (λx=>x.1.isSome)
   && decide (([a]:List Expr).length+([]:List Keyword).length+(if([]:List Keyword).isEmpty then 0 else 1)<30))=true:=by rfl)
  (hline:(p2.endLine==pos.line)=true:=by rfl) (hs:starEach [a] X.env=(false,eval a X.env)::starEach [] X.env:=by rfl) (hplain:(backTo pos (starEach [] X.env)).any (·.1)=false:=by rfl)
  (hsw:swapsWith (.Call (.Attribute (.Name x p1) "append" p2) [a] [] pos) none pos.line X.env=pure false:=by rfl) :
  DS X (.Expr (.Call (.Attribute (.Name x p1) "append" p2) [a] [] pos) pos) (dM i fa):=by
 obtain⟨t,a1,a2⟩:=ha;refine⟨_,xx (Cf PySem.F.plainAttrs_list PySem.F.slot_list_append PySem.F.type_list_append mC (ll hN hv hd hcd) (b7 a1 da hs) hbase hfew hline hs hplain) hsw,λHe Ge G H σ ε r W S e P=>?_⟩;obtain⟨d,e1,e⟩:=aq e;split at e
 ·rename_i ds ei
  split at e
  ·rename_i hl
   cases e;obtain⟨l,xs,h1,h2,h3,h4,h5⟩:=S.e.own ei;refine⟨_,h1,.inl ⟨rfl,xs,SqL.of h2⟩,?_⟩;refine a2 He G H σ ε d _ S.g.gh S.e e1 λv G' H' g hd=>?_;have S':=S.grow g;obtain⟨l',xs',w1,w2,w3,w4,w5⟩:=S'.e.own ei;rw[h1] at w1;cases w1
   have hz:xs'.length<sizeLine:=by
    rw[w5.length];exact Nat.lt_trans hl (by decide)
   exact⟨l,xs',v,rfl,rfl,w2,hz,P σ G' _ (S'.write ei h1 w2 (w5.append (.one hd)))⟩
  ·cases e
 ·cases e
noncomputable def Do(i:Nat)(fk f:Ev->Option D):Ev->Option Fl:=λε=>(f ε).bind λd=>(fk ε).bind λk=>match ε[i]?,k with
 |some (.own ds),.int j=>(ixN ds.length j).map λm=>.nx (ε.set i (.own (ds.set m d)))
 |_,_=>none
noncomputable def DG(X:Cx)(tg:Expr)(g:D->Ev->Option Ev):Prop:=∃t,PG X tg t/\∀(He G H:Hp) (σ:L2.St) (ε ε':Ev) (v:V) (d:D) (Q:L2.St->Hp->Prop),aR G H->EnvD X.K He G H σ ε->Den X.K G v d->g d ε=some ε'->
 (∀σ',EnvD X.K He G H σ' ε'->Q σ' H)->t v σ H Q
noncomputable def DGs(X:Cx)(ts:List Expr)(g:List D->Ev->Option Ev):Prop:=∃t,PGs X ts t/\∀(He G H:Hp) (σ:L2.St) (ε ε':Ev) (vs:List V) (ds:List D) (Q:L2.St->Hp->Prop),aR G H->EnvD X.K He G H σ ε->DenL X.K G vs ds->g ds ε=some ε'->
 (∀σ',EnvD X.K He G H σ' ε'->Q σ' H)->t vs σ H Q
noncomputable def ak(i:Nat):D->Ev->Option Ev:=λd ε=>some (ε.set i (.dat d))
theorem az(i:Nat){x:Str}(hN:X.N.Nodup)(hi:X.N[i]?=some x:=by rfl)(hx:Loc X.env.scope x:=by first | exact Or.inl rfl | exact Or.inr rfl)(hf:X.fn x=true\/X.env.scope.names.lookup x=some .local:=by first | exact .inl rfl | exact .inr rfl):DG X (.Name x pos) (ak i):=
 ⟨_,xn hN hi hx hf,λHe G H σ ε ε' v d Q gh E hd e q=>by cases e;exact q _ (E.put hd)⟩
noncomputable def bf:List D->Ev->Option Ev:=λds ε=>match ds with | []=>some ε | _=>none
noncomputable def aw(g:D->Ev->Option Ev)(g':List D->Ev->Option Ev):List D->Ev->Option Ev:=λds ε=>match ds with | d::r=>(g d ε).bind (g' r) | []=>none
theorem bJ:DGs X [] bf:=⟨_,xw,λHe G H σ ε ε' vs ds Q gh E hd e q=>by
 cases hd with
 |nil=>cases e;exact⟨rfl,q _ E⟩
 |cons _ _=>cases e⟩
theorem aA{e:Expr}{es:List Expr}{g1:D->Ev->Option Ev}{g2:List D->Ev->Option Ev}(h1:DG X e g1)(h2:DGs X es g2)(hs:(assignEach (e::es) X.env).map (·.2)=assign e X.env::(assignEach es X.env).map (·.2):=by rfl):DGs X (e::es) (aw g1 g2):=by
 obtain⟨t,a1,a2⟩:=h1;obtain⟨u,b1,b2⟩:=h2;refine⟨_,ue a1 b1 hs,λHe G H σ ε ε' vs ds Q gh E hd e q=>?_⟩;cases hd with
 |nil=>cases e
 |cons h3 h4=>
  obtain⟨ε1,e1,e⟩:=aq e;exact⟨_,_,rfl,a2 He G H σ ε ε1 _ _ _ gh E h3 e1 λσ1 E1=>b2 He G H σ1 ε1 ε' _ _ _ gh E1 h4 e q⟩
noncomputable def cU(n:Nat)(g:List D->Ev->Option Ev):D->Ev->Option Ev:=λd ε=>match d with | .tup ds=>if ds.length=n then g ds ε else none | _=>none
theorem ir{es:List Expr}{k:Nat}{g:List D->Ev->Option Ev}{n:Nat}(hc:X.calm=true)(h:DGs X es g)(hn:(assignEach es X.env).length=n:=by rfl)(hst:(assignEach es X.env).findIdx? (·.1)=none:=by rfl):DG X (.Tuple es k pos) (cU n g):=by
 obtain⟨t,a1,a2⟩:=h;refine⟨_,u_ hc a1 hn hst,λHe G H σ ε ε' v d Q gh E hd e q=>?_⟩;unfold cU at e;split at e
 ·split at e
  ·rename_i hl
   obtain⟨p,xs,rfl,h1,h2⟩:=hd.tupV;exact⟨p,xs,rfl,aK gh h1,by rw[h2.length];exact hl,a2 He G H σ ε ε' _ _ _ gh E h2 e q⟩
  ·cases e
 ·cases e
noncomputable def iZ(f:Ev->Option D)(g:D->Ev->Option Ev):Ev->Option Fl:=λε=>(f ε).bind λd=>(g d ε).map Fl.nx
theorem d8{tg:Expr}{g:D->Ev->Option Ev}(he:DE X a fa)(hg:DG X tg g)(hs:swapsWithSole [tg] a pos.line X.env=pure false:=by rfl)(hw:swappedStores [tg] a X.env=pure none:=by rfl)
  (h1:(assignEach [tg] X.env).map (·.2)=[assign tg X.env]:=by rfl):DS X (.Assign [tg] a pos) (iZ fa g):=by
 obtain⟨t,a1,a2⟩:=he;obtain⟨u,b1,b2⟩:=hg;refine⟨_,uY a1 b1 hs hw h1,λHe Ge G H σ ε r W S e P=>?_⟩;obtain⟨d,e1,e⟩:=aq e;obtain⟨ε',e2,rfl⟩:=br e;exact a2 He G H σ ε d _ S.g.gh S.e e1 λv G' H' g hd=>b2 He G' H' σ ε ε' v d _ g.gh (S.e.grow g) hd e2 λσ' E'=>P σ' G' H' ⟨S.g.trans g,E'⟩
noncomputable def ItD(K:PySem.W.Frag)(J:It)(ds:List D)(G:Hp):Prop:=∀(i:Nat) (H2:Hp),aR G H2->(i<ds.length->J.go i H2)/\(ds.length<=i->J.stop i H2)/\
 ∀x H3,J.yld i H2 x H3->∀d,ds[i]?=some d->∀G2,aR G G2->aR G2 H2->∃G3,Grow G2 H2 G3 H3/\Den K G3 x d
noncomputable def DI(X:Cx)(tg iter:Expr)(f:Ev->Option (List D)):Prop:=∃wi,PI X tg iter wi/\∀(He G H:Hp) (σ:L2.St) (ε:Ev) (ds:List D) (R:It->Hp->Prop),aR G H->EnvD X.K He G H σ ε->f ε=some ds->
 (∀J G' H',Grow G H G' H'->ItD X.K J ds G'->R J H')->wi σ H R
noncomputable def ec(f:Ev->Option D):Ev->Option (List D):=λε=>match f ε with | some (.lst ds)=>some ds | _=>none
theorem dJ{tg:Expr}(h:DE X a fa):DI X tg a (ec fa):=by
 obtain⟨t,a1,a2⟩:=h;refine⟨_,xG a1,λHe G H σ ε ds R gh E ef q=>?_⟩;unfold ec at ef;split at ef
 ·rename_i e1
  cases ef;refine a2 He G H σ ε _ _ gh E e1 λv G1 H1 g1 d1=>?_;obtain⟨p,xs,rfl,h1,h2⟩:=d1.lstV;refine⟨p,rfl,⟨xs,g1.gh.seq h1⟩,q _ G1 H1 g1 λi H2 s2=>⟨λhi=>?_,λhi=>⟨xs,s2.seq h1,by rw[h2.length];exact hi⟩,?_⟩⟩
  ·have hi':i<xs.length:=by rw[h2.length];exact hi
   exact⟨xs,xs[i],s2.seq h1,by simp[hi']⟩
  ·rintro x H3 ⟨rfl,y⟩ d ed G2 s3 s4
   obtain⟨x',e3,e4⟩:=h2.get ed;have:=y xs (s2.seq h1);rw[e3] at this;cases this;exact⟨G2,.refl s4,e4.mono s3⟩
 ·cases ef
noncomputable def si(f:Ev->Option D):Ev->Option (List D):=λε=>match f ε with | some (.tup ds)=>some ds | _=>none
theorem uo{tg:Expr}(h:DE X a fa):DI X tg a (si fa):=by
 obtain⟨t,a1,a2⟩:=h;refine⟨_,AJ a1,λHe G H σ ε ds R gh E ef q=>?_⟩;unfold si at ef;split at ef
 ·rename_i e1
  cases ef;refine a2 He G H σ ε _ _ gh E e1 λv G1 H1 g1 d1=>?_;obtain⟨p,xs,rfl,h1,h2⟩:=d1.tupV;refine⟨p,rfl,⟨xs,aK g1.gh h1⟩,q _ G1 H1 g1 λi H2 s2=>⟨λhi=>?_,λhi=>⟨xs,aK s2 h1,by rw[h2.length];exact hi⟩,?_⟩⟩
  ·have hi':i<xs.length:=by rw[h2.length];exact hi
   exact⟨xs,xs[i],aK s2 h1,by simp[hi']⟩
  ·rintro x H3 ⟨rfl,y⟩ d ed G2 s3 s4
   obtain⟨x',e3,e4⟩:=h2.get ed;have:=y xs (aK s2 h1);rw[e3] at this;cases this;exact⟨G2,.refl s4,e4.mono s3⟩
 ·cases ef
noncomputable def cK(n:Nat):List D:=(List.range n).map λi=>.int (i:Nat)
noncomputable def c_(f:Ev->Option D):Ev->Option (List D):=λε=>match f ε with | some (.int j)=>if j<1000000/\-1000000<j then some (cK j.toNat) else none | _=>none
theorem cy{tg:Expr}{p:Pos}(h:DE X a fa)(hm:X.mg "range" = none)(hg:Gl X "range":=by rfl)(hs:starEach [a] X.env=[(false,eval a X.env)]:=by rfl):DI X tg (.Call (.Name "range" p) [a] [] pos) (c_ fa):=by
 obtain⟨t,a1,a2⟩:=h;refine⟨_,sm hg hm (b7 a1 da hs) hs,λHe G H σ ε ds R gh E ef q=>?_⟩;unfold c_ at ef;split at ef
 ·rename_i j e1
  split at ef
  ·rename_i hj
   cases ef;refine a2 He G H σ ε _ _ gh E e1 λv G1 H1 g1 d1=>?_;refine⟨j,by rw[d1.intV],by lia,by lia,q _ G1 H1 g1 λi H2 s2=>⟨λhi=>?_,λhi=>?_,?_⟩⟩
   ·show i<j.toNat
    simpa[cK] using hi
   ·show j.toNat<=i
    simpa[cK] using hi
   ·rintro x H3 ⟨rfl,rfl⟩ d ed G2 s3 s4
    refine⟨G2,.refl s4,?_⟩;unfold cK at ed;rw[List.getElem?_map] at ed;obtain⟨m,em,rfl⟩:=br ed;obtain⟨hm,em⟩:=List.getElem?_eq_some_iff.mp em;rw[List.getElem_range] at em;subst em;rw[Int.zero_add];exact .int _
  ·cases ef
 ·cases ef
noncomputable def dI(g:D->Ev->Option Ev)(gb:Ev->Option Fl):List D->Ev->Option Fl
 |[],ε=>some (.nx ε)
 |d::ds,ε=>(g d ε).bind λε1=>(gb ε1).bind λr=>match r with
  |.nx ε2=>dI g gb ds ε2
  |.ct ε2=>dI g gb ds ε2
  |.bk ε2=>some (.nx ε2)
  |.rt v=>some (.rt v)
  |.ro v=>some (.ro v)
noncomputable def cL(f:Ev->Option (List D))(g:D->Ev->Option Ev)(gb:Ev->Option Fl):Ev->Option Fl:=λε=>(f ε).bind λds=>dI g gb ds ε
theorem cx{tg iter:Expr}{body:List Stmt}{f:Ev->Option (List D)}{g:D->Ev->Option Ev}{gb:Ev->Option Fl}(hp:PassesOwn (model X.prog X.w) X.A X.env X.xe)(hc:X.calm=true)(hi:DI X tg iter f)(hg:DG X tg g)(hb:DSs X body gb)
  (hs:∀x,foldedSetIterable iter X.env x=pure x:=by intro _;rfl):DS X (.For tg iter body [] pos) (cL f g gb):=by
 obtain⟨wi,i1,i2⟩:=hi;obtain⟨tg',g1,g2⟩:=hg;obtain⟨tb,b1,b2⟩:=hb;refine⟨_,AD hp hc i1 g1 b1 hs,λHe Ge G H σ ε r W S e P=>?_⟩;obtain⟨ds,e1,e⟩:=aq e;refine i2 He G H σ ε ds _ S.g.gh S.e e1 λJ G1 H1 gr it=>?_;have S1:=S.grow gr;refine⟨λi m σ H=>m=ds.length-i/\i<=ds.length/\∃G ε,Sta X.K He G1 G H σ ε/\dI g gb (ds.drop i) ε=some r,⟨ds.length,by simp,Nat.zero_le _,G1,ε,⟨S1.g.self,S1.e⟩,by simpa using e⟩,?_⟩;rintro i m σ2 H2 ⟨rfl,hi,G2,ε2,S2,e2⟩;obtain⟨go,stop,yld⟩:=it i H2 (S2.g.gg.trans S2.g.gh)
 by_cases hlt:i<ds.length
 ·refine .inr ⟨go hlt,λσ' H'=>i+1<=ds.length/\∃G ε,Sta X.K He G1 G H' σ' ε/\dI g gb (ds.drop (i+1)) ε=some r,λσ' H' ⟨q1,q2⟩=>⟨ds.length-(i+1),by lia,rfl,q1,q2⟩,λx H3 y=>?_⟩
  have ed:ds[i]?=some ds[i]:=by simp[hlt]
  obtain⟨G3,gr3,dx⟩:=yld x H3 y _ ed G2 S2.g.gg S2.g.gh;have S3:=S2.grow gr3;rw[List.drop_eq_getElem_cons hlt] at e2;obtain⟨ε3,e3,e2⟩:=aq e2;obtain⟨r4,e4,e2⟩:=aq e2;refine g2 He G3 H3 σ2 ε2 ε3 x ds[i] _ S3.g.gh S3.e dx e3 λσ4 E4=>?_;refine b2 He G1 G3 H3 σ4 ε3 r4 _ ⟨S3.g,E4⟩ e4 ?_;cases r4 with
  |nx ε5=>exact λσ5 G5 H5 S5=>⟨hlt,G5,ε5,S5,e2⟩
  |ct ε5=>exact λσ5 G5 H5 S5=>⟨hlt,G5,ε5,S5,e2⟩
  |bk ε5=>cases e2;exact λσ5 G5 H5 S5=>P σ5 G5 H5 ⟨S1.g.base S5.g,S5.e⟩
  |rt d=>cases e2;exact λv G5 H5 g5 d5=>P v G5 H5 (S1.g.base g5) d5
  |ro ds=>cases e2;exact λa xs G5 H5 g5 n1 n2 h5 d5=>P a xs G5 H5 (S1.g.base g5) n1 n2 h5 d5
 ·have e5:i=ds.length:=by lia
  subst e5;rw[List.drop_length] at e2;cases e2;exact .inl ⟨stop (Nat.le_refl _),P σ2 G2 H2 ⟨S1.g.base S2.g,S2.e⟩⟩
end
theorem iJ{K:PySem.W.Frag}{H:Hp}{vs:List V}{ds:List D}{N:List Str}{i:Nat}{s:Sl}(e:(df N ds)[i]?=some s):(∃d,s=.dat d/\ds[i]?=some d)\/s=.un:=by
 unfold df at e
 by_cases h:i<ds.length
 ·rw[List.getElem?_append_left (by simpa using h),List.getElem?_map] at e
  obtain⟨d,e1,rfl⟩:=br e;exact .inl ⟨d,rfl,e1⟩
 ·rw[List.getElem?_append_right (by simpa using h),List.getElem?_replicate] at e
  split at e
  ·cases e;exact .inr rfl
  ·cases e
theorem gL{K:PySem.W.Frag}{G H:Hp}{vs:List V}{ds:List D}{N:List Str}(gh:aR G H)(h:DenL K G vs ds):Sta K H G G H (L2.gI N vs) (df N ds):=by
 refine⟨.refl gh,?_,λ{i d} e=>?_,λ{i d} e=>?_,λ{i j ds' es a} e _ _ _=>?_,λ{i d} e=>?_,λ{i j ds' es a} e _ _ _=>?_⟩
 ·unfold L2.gI df
  simp[h.length]
 ·rcases iJ (K:=K) (H:=H) (vs:=vs) e with⟨d',e1,e2⟩ | e1
  ·cases e1
   obtain⟨v,h1,h2⟩:=h.get e2;refine⟨v,?_,h2⟩;unfold L2.gI;have hl:i<vs.length:=(List.getElem?_eq_some_iff.mp h1).1;rw[List.getElem?_append_left (by simpa using hl),List.getElem?_map,h1];rfl
  ·cases e1
 ·rcases iJ (K:=K) (H:=H) (vs:=vs) e with⟨d',e1,e2⟩ | e1<;>cases e1
 ·rcases iJ (K:=K) (H:=H) (vs:=vs) e with⟨d',e1,e2⟩ | e1<;>cases e1
 ·rcases iJ (K:=K) (H:=H) (vs:=vs) e with⟨d',e1,e2⟩ | e1<;>cases e1
 ·rcases iJ (K:=K) (H:=H) (vs:=vs) e with⟨d',e1,e2⟩ | e1<;>cases e1
section
variable{P:Program}{w:World}{K:PySem.W.Frag}{mg:Str->Option Value}{base:Heap}
theorem Ag{x qual:Str}{st:Stmt}{f:Addr}{fd:FuncData}{N ps:List Str}{k:Nat}{F:List D->Option D}(g:Ev->Option Fl)(Fu:Fun K x qual st f fd)(S:FnScope N ps (aQ st))(hlen:∀ds d,F ds=some d->ds.length=ps.length)
  (hg:∀ds d,F ds=some d->g (df N ds)=some (.rt d)\/(∃ε,g (df N ds)=some (.nx ε)/\d=.non)\/∃rs,g (df N ds)=some (.ro rs)/\d=.lst rs)
  (hb:∀(cdv:Value) (A:Around) (outer:List Env) (s:Shared) (H:Hp) (E:XK),Room k (A.deeper (envOfC qual (aQ st) s.heap.objs.size f cdv))->DSs (jT CX0 P w K mg base N qual (aQ st) f cdv A outer s H E).nox (bU st) g):FnOk P w K mg base CX0 (k+1) f fd ps (spF K F):=by
 refine Fu.ok S (λvs H Q E h=>?_) (λcdv A outer s H vs Q E hr h=>?_)
 ·obtain⟨G,ds,d,gh,hd,e,q⟩:=h
  rw[hd.length];exact hlen ds d e
 ·obtain⟨G,ds,d,gh,hd,e,q⟩:=h
  obtain⟨t,h1,h2⟩:=hb cdv A outer s H E hr;refine⟨t,h1,?_⟩;rcases hg ds d e with e1 | ⟨ε,e1,rfl⟩ | ⟨rs,e1,rfl⟩
  ·exact h2 H G G H _ _ _ _ (gL gh hd) e1 λv G' H' g hd=>q v G' H' g hd
  ·exact h2 H G G H _ _ _ _ (gL gh hd) e1 λσ G' H' S'=>q _ G' H' S'.g .non
  ·exact h2 H G G H _ _ _ _ (gL gh hd) e1 λa xs G' H' g n1 n2 h3 d3=>q _ _ H' (g.seal n1 n2 h3) (wx n2 d3)
theorem xT{x qual:Str}{st:Stmt}{f:Addr}{fd:FuncData}{N ps:List Str}{k:Nat}{F:List D->Option (List D)}(g:Ev->Option Fl)(Fu:Fun K x qual st f fd)(S:FnScope N ps (aQ st))(hlen:∀ds d,F ds=some d->ds.length=ps.length)
  (hg:∀ds d,F ds=some d->g (df N ds)=some (.ro d))
  (hb:∀(cdv:Value) (A:Around) (outer:List Env) (s:Shared) (H:Hp) (E:XK),Room k (A.deeper (envOfC qual (aQ st) s.heap.objs.size f cdv))->DSs (jT CX0 P w K mg base N qual (aQ st) f cdv A outer s H E).nox (bU st) g):FnOk P w K mg base CX0 (k+1) f fd ps (spO K F):=by
 refine Fu.ok S (λvs H Q E h=>?_) (λcdv A outer s H vs Q E hr h=>?_)
 ·obtain⟨G,ds,d,gh,hd,e,q⟩:=h
  rw[hd.length];exact hlen ds d e
 ·obtain⟨G,ds,d,gh,hd,e,q⟩:=h
  obtain⟨t,h1,h2⟩:=hb cdv A outer s H E hr;exact⟨t,h1,h2 H G G H _ _ _ _ (gL gh hd) (hg ds d e) λa xs G' H' g n1 n2 h3 d3=>q a xs G' H' g n1 n2 h3 d3⟩
end
noncomputable def fnD(N ps:List Str)(g:Ev->Option Fl):List D->Option D:=λds=>if ds.length=ps.length then(match g (df N ds) with | some (.rt d)=>some d | some (.nx _)=>some .non | some (.ro rs)=>some (.lst rs) | _=>none) else none
section
variable{P:Program}{w:World}{K:PySem.W.Frag}{mg:Str->Option Value}{base:Heap}
theorem nI{x qual:Str}{st:Stmt}{f:Addr}{fd:FuncData}{N ps:List Str}{k:Nat}{g:Ev->Option Fl}(Fu:Fun K x qual st f fd)(S:FnScope N ps (aQ st))
  (hb:∀(cdv:Value) (A:Around) (outer:List Env) (s:Shared) (H:Hp) (E:XK),Room k (A.deeper (envOfC qual (aQ st) s.heap.objs.size f cdv))->DSs (jT CX0 P w K mg base N qual (aQ st) f cdv A outer s H E).nox (bU st) g):FnOk P w K mg base CX0 (k+1) f fd ps (spF K (fnD N ps g)):=by
 refine Ag g Fu S (λds d e=>?_) (λds d e=>?_) hb
 ·unfold fnD at e
  split at e
  ·assumption
  ·cases e
 ·unfold fnD at e
  split at e
  ·split at e
   ·rename_i d' e1;cases e;exact .inl e1
   ·rename_i ε e1;cases e;exact .inr (.inl ⟨ε,e1,rfl⟩)
   ·rename_i rs e1;cases e;exact .inr (.inr ⟨rs,e1,rfl⟩)
   ·cases e
  ·cases e
noncomputable def fnO(N ps:List Str)(g:Ev->Option Fl):List D->Option (List D):=λds=>if ds.length=ps.length then(match g (df N ds) with | some (.ro rs)=>some rs | _=>none) else none
theorem vO{x qual:Str}{st:Stmt}{f:Addr}{fd:FuncData}{N ps:List Str}{k:Nat}{g:Ev->Option Fl}(Fu:Fun K x qual st f fd)(S:FnScope N ps (aQ st))
  (hb:∀(cdv:Value) (A:Around) (outer:List Env) (s:Shared) (H:Hp) (E:XK),Room k (A.deeper (envOfC qual (aQ st) s.heap.objs.size f cdv))->DSs (jT CX0 P w K mg base N qual (aQ st) f cdv A outer s H E).nox (bU st) g):FnOk P w K mg base CX0 (k+1) f fd ps (spO K (fnO N ps g)):=by
 refine xT g Fu S (λds d e=>?_) (λds d e=>?_) hb
 ·unfold fnO at e
  split at e
  ·assumption
  ·cases e
 ·unfold fnO at e
  split at e
  ·split at e
   ·rename_i d' e1;cases e;exact e1
   ·cases e
  ·cases e
theorem xI{f:Addr}{fd:FuncData}{ps:List Str}{k:Nat}:FnOk P w K mg base CX0 k f fd ps (spF K λ_=>none):=
 ⟨λvs H Q E ⟨_,_,_,_,_,e,_⟩=>(by cases e),λA outer s H args us vs Q E _ _ _ _ ⟨_,_,_,_,_,e,_⟩=>(by cases e)⟩
structure FA(K:PySem.W.Frag)(mg:Str->Option Value)(x:Str)(st:Stmt)(ps:List Str)(f:Addr)(fd:FuncData):Prop where
 fu:Fun K x x st f fd
 bi:jw K fd ps []
 mgf:mg x=some (.ref f)
theorem BH{h:Heap}{x:Str}{st:Stmt}{ps:List Str}{f:Addr}{oc:Value}{od an:Option Addr}{osl:Array (Option Value)}{kV doc pm cdv ct:Value}(X:K.In h)(G:h.Ns mainGlobals mg)
  (a:PySem.W.nsIn K mainGlobals x=some (some (.ref f)))
  (l:K.lookup f=some ⟨oc,od,.func (PySem.W.fnOf x x (dG st) (bU st) (aQ st) .none kV doc pm an cdv ct),osl⟩)
  (c:PySem.W.codeIn K cdv x=true) (k:PySem.W.keepIn K (.ref f)=true)
  (hb:∀(kV doc pm:Value) (an:Option Addr) (cdv ct:Value) (us:List Value),us.length=ps.length->bindArgs (PySem.W.fnOf x x (dG st) (bU st) (aQ st) .none kV doc pm an cdv ct) ⟨us,[]⟩=pure (ps.zip us)) :
  FA K mg x st ps f (PySem.W.fnOf x x (dG st) (bU st) (aQ st) .none kV doc pm an cdv ct):=
 ⟨uq l c k,(uq l c k).binds hb,PySem.W.mg_of X G a⟩
end
section
variable{X:Cx}{a b c:Expr}{fa fb fc:Ev->Option D}{pos:Pos}
theorem nS{k j:Nat}{f:Addr}{fd:FuncData}{st:Stmt}{ps:List Str}{Fn:List D->Option D}{x:Str}{e:Expr}{es:List Expr}{g:Ev->Option (List D)}{p:Pos}
  (A:FA X.K X.mg x st ps f fd) (F:FnOk X.prog X.w X.K X.mg X.base CX0 j f fd ps (spF X.K Fn)) (hr:Room k X.A) (hj:j<=k)
  (ha:DA X (e::es) g) (hg:Gl X x:=by rfl) (hdb:(x==("__debug__" : Str))=false:=by decide) (he:starEach (e::es) X.env=(false,eval e X.env)::starEach es X.env:=by rfl) (hpl:(backTo pos (starEach es X.env)).any (·.1)=false:=by rfl) :
  DE X (.Call (.Name x p) (e::es) [] pos) (aI Fn g):=xZ F (hr.mono hj) A.mgf A.fu.kp A.bi ha hg hdb he hpl
theorem ve{k j:Nat}{f:Addr}{fd:FuncData}{st:Stmt}{ps:List Str}{Fn:List D->Option (List D)}{x:Str}{e:Expr}{es:List Expr}{g:Ev->Option (List D)}{p:Pos}
  (A:FA X.K X.mg x st ps f fd) (F:FnOk X.prog X.w X.K X.mg X.base CX0 j f fd ps (spO X.K Fn)) (hr:Room k X.A) (hj:j<=k)
  (ha:DA X (e::es) g) (hg:Gl X x:=by rfl) (hdb:(x==("__debug__" : Str))=false:=by decide) (he:starEach (e::es) X.env=(false,eval e X.env)::starEach es X.env:=by rfl) (hpl:(backTo pos (starEach es X.env)).any (·.1)=false:=by rfl) :
  DF X (.Call (.Name x p) (e::es) [] pos) (jo Fn g):=ya F (hr.mono hj) A.mgf A.fu.kp A.bi ha hg hdb he hpl
noncomputable def eCh(f f':D->D->Option D)(fa fb fc:Ev->Option D):Ev->Option D:=λε=>(fa ε).bind λx=>(fb ε).bind λy=>(f x y).bind λz=>match z with | .bl k=>if k=true then(fc ε).bind λw=>f' y w else some (.bl false) | _=>none
theorem vf{op op':CmpOp}{f f':D->D->Option D}(ho:OpD X (compareOp op) f)(ho':OpD X (compareOp op') f')(ha:DB X a fa)(hb:DB X b fb)(hc:DB X c fc)(hm:lastMarks [op,op'] [b,c]=false:=by with_unfolding_all rfl) :
  DE X (.Compare a [op,op'] [b,c] pos) (eCh f f' fa fb fc):=by
 obtain⟨r,o1,o2⟩:=ho;obtain⟨r',p1,p2⟩:=ho';obtain⟨ta,a1,a2⟩:=ha;obtain⟨tb,b1,b2⟩:=hb;obtain⟨tc,c1,c2⟩:=hc;refine⟨_,uh o1 p1 a1 b1 c1 hm,λHe G H σ ε d Q gh E ef q=>?_⟩;obtain⟨x,e1,ef⟩:=aq ef;obtain⟨y,e2,ef⟩:=aq ef;obtain⟨z,e3,ef⟩:=aq ef;refine a2 He G H σ ε x _ gh E e1 λv G1 H1 g1 d1=>?_;refine b2 He G1 H1 σ ε y _ g1.gh (E.grow g1) e2 λu G2 H2 g2 d2=>?_;split at ef
 ·rename_i k
  refine o2 G2 H2 v u x y (.bl k) _ g2.gh (d1.grow g2) d2 e3 λw G3 H3 g3 d3=>⟨k,d3.blV,?_⟩;cases k with
  |true=>
   rw[if_pos rfl] at ef ⊢;obtain⟨w',e4,ef⟩:=aq ef;refine c2 He G3 H3 σ ε w' _ g3.gh (((E.grow g1).grow g2).grow g3) e4 λv4 G4 H4 g4 d4=>?_;exact p2 G4 H4 u v4 y w' d Q g4.gh ((d2.grow g3).grow g4) d4 ef λv5 G5 H5 g5 d5=>q v5 G5 H5 (g1.trans (g2.trans (g3.trans (g4.trans g5)))) d5
  |false=>
   rw[if_neg Bool.false_ne_true] at ef ⊢;cases ef;exact q _ _ _ (g1.trans (g2.trans g3)) (.bl _)
 ·cases ef
end
theorem qN(K:PySem.W.Frag)(G:Hp):∀ns:List Int,DenL K G (ns.map V.int) (ns.map D.int)
 |[]=>.nil
 |n::r=>.cons (.int n) (qN K G r)
noncomputable def cxC(X:Cx)(sc:Scope)(cl:List (Str×Addr))(N':List Str)(C:Addr)(s₃:Shared)(H₃:Hp)(fp:List Addr)(pins:List (Addr×Obj)):Cx where
 prog:=X.prog
 w:=X.w
 K:=X.K
 mg:=X.mg
 base:=X.base
 A:=X.A
 N:=N'
 s₀:=s₃
 H₀:=H₃
 env:=compEnvC sc cl C X.env
 outer:=X.stack
 stack:=X.stack
 ex:=fp
 fn:=λ_=>false
 calm:=true
 pn:=X.pn++pins
 xe:=λ_ _=>False
structure CompSc(X:Cx)(sc:Scope)(cl:List (Str×Addr))(tn fr:List Str)(ix:List Nat):Prop where
 kind:sc.kind=.function
 nocell:∀y∈sc.names,y.2≠.cell
 names:∀y∈sc.names,y.2=.local->sc.names.lookup y.1=some .local
 clos:closureFor sc X.env=pure cl
 len:ix.length=fr.length
 at_:∀(k:Nat) (x:Str),fr[k]?=some x->∃j,ix[k]?=some j/\X.N[j]?=some x/\X.env.scope.names.lookup x=some .cell
 sub:∀x c,cl.lookup x=some c->X.env.cells.lookup x=some c
 has:∀x,((relabel sc X.env).names.lookup x=some .cell\/(relabel sc X.env).names.lookup x=some .free)->∃c,cl.lookup x=some c
 frc:∀x∈fr,(relabel sc X.env).names.lookup x=some .cell
noncomputable def prS(n:Nat)(ix:List Nat)(σ:L2.St):L2.St:=List.replicate n none++ix.map λi=>σ.getD i none
noncomputable def CS:Sl->Sl
 |.dat d=>.dat d
 |_=>.un
noncomputable def prE(n:Nat)(ix:List Nat)(ε:Ev):Ev:=List.replicate n Sl.un++ix.map λi=>CS (ε.getD i .un)
theorem vT{X:Cx}{sc:Scope}{cl:List (Str×Addr)}{tn fr:List Str}{ix:List Nat}{pins:List (Addr×Obj)}{σ:L2.St}{H₃:Hp}{s₃:Shared}{fp:List Addr}{h₁:Heap}{tk:Nat}{m:Str->Option Value}
  (S:CompSc X sc cl tn fr ix) (hc:X.calm=true) (I:Inv X pins σ H₃ s₃) (hf:∀b∈fp,jc X pins H₃ b) (hlt:∀b∈fp,b<s₃.heap.objs.size) (hn:h₁.Ns s₃.heap.objs.size m) (hk:∀b o,s₃.heap.get? b=some o->h₁.get? b=some o) :
  Inv (cxC X sc cl (tn++fr) s₃.heap.objs.size s₃ H₃ fp pins) [] (prS tn.length ix σ) H₃ { s₃ with heap:=h₁,toks:=tk }:=by
 have ncell:∀{x:Str} {c:Addr},X.env.cells.lookup x=some c->c<s₃.heap.objs.size:=λ{x c} e=>let⟨v,q⟩:=I.cell x c e;q.lt
 have hfs:∀b,b∈frs X.stack->b<s₃.heap.objs.size:=λb hb=>by
  rcases List.mem_cons.mp (I.stkSub b hb) with z | z
  ·rw[z];exact I.lt
  ·exact Nat.lt_of_not_le λq=>I.nofs q z
 refine⟨⟨I.ok.mod,?_,I.ok.glob,I.ok.blt,Nat.le_refl _,?_,?_,?_,?_,I.ok.frames,.inl rfl,?_,?_,?_,?_,?_,?_,?_⟩,rfl,I.bare,Un.kept hk,⟨m,hn,?_⟩,?_,?_,?_,?_,I.hok.kept hk,?_⟩
 ·exact S.kind
 ·intro x y c h1 h2;exact I.ok.inj x y c (S.sub x c h1) (S.sub y c h2)
 ·intro x hx;exact S.has x hx
 ·intro x c h;cases h
 ·intro _;exact I.ok.hd hc
 ·intro b hb
  exact⟨Nat.ne_of_lt (hlt b hb),λx c e=>(hf b hb).2.2.2.2.1 x c (S.sub x c e)⟩
 ·exact I.bs
 ·exact Nat.le_trans I.ok.bsz I.sz
 ·intro b o e hb
  rcases(hf b hb).2.2.2.1 with z | z
  ·exact I.ok.noex b o e z
  ·exact absurd (Nat.lt_of_lt_of_le (Heap.lt_size e) (Nat.le_trans I.ok.bsz z)) (Nat.lt_irrefl _)
 ·intro b hb z
  rcases List.mem_cons.mp (I.stkSub b z) with q | q
  ·exact(hf b hb).2.1 q
  ·exact(hf b hb).2.2.1 q
 ·exact I.stack
 ·exact I.stkFree
 ·intro i x v h1 h2 hv
  have hi:tn.length<=i:=by
   refine Nat.le_of_not_lt λq=>?_;unfold prS at h2;rw[List.getElem?_append_left (by simpa using q),List.getElem?_replicate] at h2;split at h2<;>cases h2
  have h1':fr[i-tn.length]?=some x:=by
   have:(tn++fr)[i]?=some x:=h1;rwa [List.getElem?_append_right hi] at this
  obtain⟨j,e1,e2,e3⟩:=S.at_ _ x h1'
  have h2':σ[j]?=some (some v):=by
   unfold prS at h2;rw[List.getElem?_append_right (by simpa using hi),List.length_replicate,List.getElem?_map,e1] at h2;have h3:σ.getD j none=some v:=Option.some.inj h2;rw[List.getD_eq_getElem?_getD] at h3;cases q:σ[j]? with
   |none=>rw[q] at h3;cases h3
   |some o=>rw[q] at h3;exact congrArg some h3
  obtain⟨mm,hm,hl⟩:=I.loc;obtain⟨u,r,l⟩:=hl j x v e2 h2' (.inr (.inl e3));refine⟨u,r,.inr ⟨.inl (S.frc x (List.mem_of_getElem? h1')),?_⟩⟩;rcases l with⟨k1,_⟩ | ⟨_,c,k2,k3⟩
  ·have:X.env.kindOf x=some .cell:=e3
   rw[this] at k1;cases k1
  ·obtain⟨c',k4⟩:=S.has x (.inl (S.frc x (List.mem_of_getElem? h1')))
   have:=S.sub x c' k4;rw[k2] at this;cases this;exact⟨c,k4,k3.keeps hk⟩
 ·intro x c e
  obtain⟨v,q⟩:=I.cell x c (S.sub x c e);exact⟨v,q.keeps hk⟩
 ·exact I.hok.fresh (Nat.le_refl _)
 ·intro x c e;exact I.freeC x c (S.sub x c e)
 ·intro p hp
  have hp':p∈X.pn++pins:=(List.mem_append.mp hp).elim (λin1=>in1) λin2=>by cases in2
  obtain⟨q1,q2,q3,q4,q5⟩:=I.pin p hp';refine⟨hk _ _ q1,q2,Nat.ne_of_lt (Heap.lt_size q1),λz=>?_,q5⟩;rcases List.mem_cons.mp (I.stkSub _ z) with w | w
  ·exact q3 w
  ·exact q4 w
 ·unfold prS
  show _=(tn++fr).length;rw[List.length_append,List.length_append,List.length_replicate,List.length_map,S.len]
theorem wH{K:PySem.W.Frag}{He G H:Hp}{σ:L2.St}{ε:Ev}(n:Nat)(ix:List Nat)(E:EnvD K He G H σ ε):EnvD K He G H (prS n ix σ) (prE n ix ε):=by
 have look:∀{i:Nat} {s:Sl},(prE n ix ε)[i]?=some s->s=.un\/∃j d,n<=i/\ix[i-n]?=some j/\ε[j]?=some (.dat d)/\s=.dat d:=λ{i s} e=>by
  unfold prE at e
  by_cases h:i<n
  ·rw[List.getElem?_append_left (by simpa using h),List.getElem?_replicate,if_pos h] at e
   cases e;exact .inl rfl
  ·rw[List.getElem?_append_right (by simpa using h),List.length_replicate,List.getElem?_map] at e
   obtain⟨j,e1,rfl⟩:=br e;rw[show ε.getD j .un=(ε[j]?).getD .un from List.getD_eq_getElem?_getD];cases q:ε[j]? with
   |none=>exact .inl rfl
   |some sl=>
    cases sl with
    |un=>exact .inl rfl
    |own ds=>exact .inl rfl
    |odi ds=>exact .inl rfl
    |dat d=>exact .inr ⟨j,d,by lia,e1,q,rfl⟩
 refine⟨by simp[prS,prE],λ{i d} e=>?_,λ{i ds} e=>?_,λ{i j ds es a} e _ _ _=>?_,λ{i ds} e=>?_,λ{i j ds es a} e _ _ _=>?_⟩
 ·rcases look e with z | ⟨j,d',h1,h2,h3,h4⟩
  ·cases z
  ·cases h4
   obtain⟨v,w1,w2⟩:=E.dat h3;refine⟨v,?_,w2⟩;unfold prS;rw[List.getElem?_append_right (by simpa using h1),List.length_replicate,List.getElem?_map,h2];show some (σ.getD j none)=_;rw[List.getD_eq_getElem?_getD,w1];rfl
 ·rcases look e with z | ⟨j,d',h1,h2,h3,h4⟩
  ·cases z
  ·cases h4
 ·rcases look e with z | ⟨j,d',h1,h2,h3,h4⟩
  ·cases z
  ·cases h4
 ·rcases look e with z | ⟨j,d',h1,h2,h3,h4⟩
  ·cases z
  ·cases h4
 ·rcases look e with z | ⟨j,d',h1,h2,h3,h4⟩
  ·cases z
  ·cases h4
noncomputable def NoO(ε:Ev):Prop:=∀(j:Nat) es,ε[j]?≠some (.own es)
noncomputable def NoG(g:D->Ev->Option Ev):Prop:=∀d ε ε',g d ε=some ε'->NoO ε->NoO ε'
noncomputable def xU(g:List D->Ev->Option Ev):Prop:=∀d ε ε',g d ε=some ε'->NoO ε->NoO ε'
theorem cu(i:Nat):NoG (ak i):=λd ε ε' e h j es q=>by
 cases e;rw[List.getElem?_set] at q;split at q
 ·split at q<;>cases q
 ·exact h j es q
theorem j4:xU bf:=λd ε ε' e h=>by
 unfold bf at e;split at e
 ·cases e;exact h
 ·cases e
theorem cz{g1:D->Ev->Option Ev}{g2:List D->Ev->Option Ev}(h1:NoG g1)(h2:xU g2):xU (aw g1 g2):=λd ε ε' e h=>by
 unfold aw at e;split at e
 ·obtain⟨ε1,e1,e⟩:=aq e
  exact h2 _ _ _ e (h1 _ _ _ e1 h)
 ·cases e
theorem mO{n:Nat}{g:List D->Ev->Option Ev}(h:xU g):NoG (cU n g):=λd ε ε' e hn=>by
 unfold cU at e;split at e
 ·split at e
  ·exact h _ _ _ e hn
  ·cases e
 ·cases e
theorem Br(n:Nat)(ix:List Nat)(ε:Ev):NoO (prE n ix ε):=λi es e=>by
 unfold prE at e
 by_cases h:i<n
 ·rw[List.getElem?_append_left (by simpa using h),List.getElem?_replicate,if_pos h] at e
  cases e
 ·rw[List.getElem?_append_right (by simpa using h),List.length_replicate,List.getElem?_map] at e
  obtain⟨j,e1,e2⟩:=br e
  revert e2
  cases ε.getD j .un<;>intro z<;>cases z
noncomputable def DIf(X:Cx)(ifs:List Expr)(f:Ev->Option Bool):Prop:=∃t:TT,(∀(pins:List (Addr×Obj)) (s:Shared) (σ:L2.St) (H:Hp) (Q:Bool->Hp->Prop),Inv X pins σ H s->t σ H Q->
  wpAny (model X.prog X.w) X.A (forIn ifs true λc r=>if r=true then do let ok<-isTrue c X.env (eval c X.env);pure (ForInStep.yield ok) else pure (ForInStep.yield r)) (TP X pins σ Q) X.xe s)/\
 ∀(He G H:Hp) (σ:L2.St) (ε:Ev) (b:Bool) (Q:Bool->Hp->Prop),aR G H->EnvD X.K He G H σ ε->f ε=some b->(∀G' H',Grow G H G' H'->Q b H')->t σ H Q
noncomputable def i9:Ev->Option Bool:=λ_=>some true
theorem nK{X:Cx}:DIf X [] i9:=⟨λσ H Q=>Q true H,λpins s σ H Q I h=>wpAny_tests_nil ⟨H,I,h⟩,λHe G H σ ε b Q gh E e q=>by cases e;exact q G H (.refl gh)⟩
theorem jY{X:Cx}{c:Expr}{f:Ev->Option Bool}(h:DT X c f):DIf X [c] f:=by
 obtain⟨t,h1,h2⟩:=h;exact⟨t,λpins s σ H Q I hq=>wpAny_tests_one (h1 pins s σ H Q I hq),h2⟩
noncomputable def lcD(g:D->Ev->Option Ev)(ft:Ev->Option Bool)(fe:Ev->Option D):List D->Ev->Option (List D)
 |[],_=>some []
 |d::ds,ε=>(g d ε).bind λε1=>(ft ε1).bind λk=>if k=true then(fe ε1).bind λv=>(lcD g ft fe ds ε1).bind λr=>some (v::r) else lcD g ft fe ds ε1
theorem gF{prog:Program}{w:World}{A:Around}{R:Result->Shared->Prop}{t0:Shared}{elt tg iter:Expr}{ifs:List Expr}{sc:Scope}{pos:Pos}{it acc:Value}{ce:Env}(J:Nat->Shared->Prop)
  (step:∀k t,J k t->wpAny (model prog w) A (pyNext it) (λo t1=>match o with | none=>R (.ok .next) t1 | some v=>wpAny (model prog w) A (letOwnedTupleGo tg it v) (λ_ t2=>wpAny (model prog w) A (assign tg ce v) (λ_ t3=>
   wpAny (model prog w) A (forIn ifs true λc r=>if r=true then do let ok<-isTrue c ce (eval c ce);pure (ForInStep.yield ok) else pure (ForInStep.yield r)) (λyes t4=>if yes=true then wpAny (model prog w) A (eval elt ce) (λx t5=>
    wpAny (model prog w) A (call (.builtin "list.append") [acc,x]) (λ_ t6=>∃j,j<k/\J j t6) (λ_ _=>False) t5) (λ_ _=>False) t4 else ∃j,j<k/\J j t4) (λ_ _=>False) t3) (λ_ _=>False) t2) (λ_ _=>False) t1) (λ_ _=>False) t)
  (k0:Nat) (h0:J k0 t0):codeAny (model prog w) A (.compLoop (.ListComp elt [⟨tg,iter,ifs,0⟩] sc pos) 0 it acc ce) R t0:=by
 refine codeAny_loop rfl J (λk t hJ=>?_) k0 h0;show wpAny _ A ((compTurn (.ListComp elt [⟨tg,iter,ifs,0⟩] sc pos) 0 it acc ce).onRaise (λx=>do noteFrame x ce;theTreesLotGoes x)) _ _ t;refine wpAny_noted ?_;rw[compTurn_list];refine wpAny_bind (wpAny_standAt (wpAny_bind (wpAny_mono (step k t hJ) (λo t1 q1=>?_) λ_ _ z=>z.elim)));cases o with
 |none=>exact wpAny_pure q1
 |some v=>
  refine wpAny_bind (wpAny_mono q1 (λ_ t2 q2=>wpAny_bind (wpAny_mono q2 (λ_ t3 q3=>wpAny_bind (wpAny_mono q3 (λyes t4 q4=>?_) λ_ _ z=>z.elim)) λ_ _ z=>z.elim)) λ_ _ z=>z.elim);cases yes with
  |true=>exact wpAny_bind (wpAny_bind (wpAny_mono q4 (λx t5 q5=>wpAny_bind (wpAny_mono q5 (λ_ t6 q6=>wpAny_pure (wpAny_pure ⟨rfl,q6⟩)) λ_ _ z=>z.elim)) λ_ _ z=>z.elim))
  |false=>exact wpAny_pure ⟨rfl,q4⟩
section
variable{X:Cx}{elt tg iter:Expr}{ifs:List Expr}{sc:Scope}{cl:List (Str×Addr)}{tn fr:List Str}{ix:List Nat}{pos:Pos}{fi:Ev->Option (List D)}{g:D->Ev->Option Ev}{ft:Ev->Option Bool}{fe:Ev->Option D}
noncomputable def vA(X:Cx)(pins:List (Addr×Obj))(σ:L2.St)(G H:Hp)(ds:List D)(RR:Value->Addr->Result->Shared->Prop):Prop:=
 ∀(a:Addr) (xs:List V) (G' H':Hp) (C:Addr) (oC:Obj) (m:Str->Option Value) (s':Shared),Inv X (pins++[(C,oC)]) σ H' s'->s'.heap.Ns C m->X.s₀.heap.objs.size<=C->(∀p∈X.pn++pins,p.1≠C)->
  Grow G H G' H'->H a=none->G' a=none->H' a=some (.lst xs)->DenL X.K G' xs ds->RR (.ref a) C (.ok .next) s'
theorem um{pins:List (Addr×Obj)}{σ:L2.St}{H He G G1 H3:Hp}{s3:Shared}{ε:Ev}{ds rs:List D}{RR:Value->Addr->Result->Shared->Prop}{it Dd:Addr}{fp:List Addr}{tn':Nat->Heap->Prop}{J:It}{h₁:Heap}{m:Str->Option Value}{tk:Nat}
  (hc:X.calm=true) (S:CompSc X sc cl tn fr ix) (ng:NoG g)
  (hg:∀C s₃ H₃ fp pins,DG (cxC X sc cl (tn++fr) C s₃ H₃ fp pins) tg g) (ht:∀C s₃ H₃ fp pins,DIf (cxC X sc cl (tn++fr) C s₃ H₃ fp pins) ifs ft) (he:∀C s₃ H₃ fp pins,DE (cxC X sc cl (tn++fr) C s₃ H₃ fp pins) elt fe)
  (I3:Inv X pins σ H3 s3) (E:EnvD X.K He G H σ ε) (hz:ds.length<1000000) (er:lcD g ft fe ds (prE tn.length ix ε)=some rs) (after:vA X pins σ G H rs RR)
  (T:Turn X.prog X.w X.K tg J fp it tn') (itd:ItD X.K J ds G1) (f3:∀b∈fp,jc X pins H3 b) (lt3:∀b∈fp,b<s3.heap.objs.size) (st3:tn' 0 s3.heap) (gr3:Grow G H G1 H3)
  (eD:H3 Dd=some (.lst [])) (nD:H Dd=none) (gD:G1 Dd=none) (hn:h₁.Ns s3.heap.objs.size m) (hk:∀b o,s3.heap.get? b=some o->h₁.get? b=some o) :
  codeAny (model X.prog X.w) X.A (.compStart (.ListComp elt [⟨tg,iter,ifs,0⟩] sc pos) 0 (.ref it) (.ref Dd) (compEnvC sc cl s3.heap.objs.size X.env)) (RR (.ref Dd) s3.heap.objs.size) { s3 with heap:=h₁,toks:=tk }:=by
 have I4:=vT (tk:=tk) S hc I3 f3 lt3 hn hk;have st4:tn' 0 h₁:=T.keep _ _ _ st3 λb hb o e=>hk b o e;obtain⟨tgt,g1,g2⟩:=hg s3.heap.objs.size s3 H3 fp pins;obtain⟨tt,t1,t2⟩:=ht s3.heap.objs.size s3 H3 fp pins;obtain⟨te,e1,e2⟩:=he s3.heap.objs.size s3 H3 fp pins
 have stat:∀{H':Hp},(∀b∈fp,H' b=none)->∀b∈fp,jc (cxC X sc cl (tn++fr) s3.heap.objs.size s3 H3 fp pins) [] H' b:=λ{H'} hn b hb=>by
  obtain⟨_,q1,q2,q3,q4,q5⟩:=f3 b hb;refine⟨hn b hb,Nat.ne_of_lt (lt3 b hb),λz=>?_,.inl hb,λx c e=>q4 x c (S.sub x c e),λp hp=>q5 p ?_⟩
  ·rcases List.mem_cons.mp (I3.stkSub b z) with w | w
   ·exact q1 w
   ·exact q2 w
  ·rcases List.mem_append.mp hp with w | w
   ·exact w
   ·cases w
 have loop:∀s':Shared,s'={ s3 with heap:=h₁,toks:=tk }->codeAny (model X.prog X.w) X.A (.compLoop (.ListComp elt [⟨tg,iter,ifs,0⟩] sc pos) 0 (.ref it) (.ref Dd) (compEnvC sc cl s3.heap.objs.size X.env)) (RR (.ref Dd) s3.heap.objs.size) s':=by
  rintro s' rfl
  refine gF (λn s'=>∃(i:Nat) (σ':L2.St) (G' H':Hp) (ε':Ev) (xs:List V) (dn rest:List D),n=ds.length+1-i/\i<=ds.length/\Inv (cxC X sc cl (tn++fr) s3.heap.objs.size s3 H3 fp pins) [] σ' H' s'/\tn' i s'.heap/\(∀b∈fp,H' b=none)/\
   Grow G H G' H'/\aR G1 G'/\EnvD X.K He G' H' σ' ε'/\NoO ε'/\H' Dd=some (.lst xs)/\G' Dd=none/\DenL X.K G' xs dn/\xs.length<=i/\lcD g ft fe (ds.drop i) ε'=some rest/\rs=dn++rest) ?_ (ds.length+1)
   ⟨0,_,G1,H3,_,[],[],rs,rfl,Nat.zero_le _,I4,st4,λb hb=>(f3 b hb).1,gr3,aR.refl _,wH tn.length ix (E.grow gr3),Br _ _ _,eD,gD,.nil,Nat.le_refl _,by simpa using er,rfl⟩
  rintro n s5 ⟨i,σ',G',H',ε',xs,dn,rest,rfl,hi,I5,st5,fr5,gr5,sG,E5,no5,hD,hGD,hden,hxl,el,ers⟩;obtain⟨go,stop,yld⟩:=itd i H' (sG.trans gr5.gh)
  by_cases hlt:i<ds.length
  ·refine thn (T.item (cxC X sc cl (tn++fr) s3.heap.objs.size s3 H3 fp pins) rfl rfl rfl rfl i [] s5 σ' H' (λ_ _=>False) I5 (stat fr5) st5 (go hlt)) λr s6 ⟨u,hr,h6⟩=>?_
   subst hr;refine thn h6 λ_ s7 ⟨x,H7,I7,r7,y7,st7,fr7⟩=>?_;have I7':=I7.pinned (stat fr7) (T.obj _ _ st7);have ed:ds[i]?=some ds[i]:=by simp[hlt]
   obtain⟨G7,gr7,dx⟩:=yld x H7 y7 _ ed G' sG gr5.gh;rw[List.drop_eq_getElem_cons hlt] at el;obtain⟨ε8,e8,el⟩:=aq el;obtain⟨k,e9,el⟩:=aq el;refine thn (g1 _ s7 σ' H7 x u (λσ8 H8=>H8=H7/\EnvD X.K He G7 H7 σ8 ε8) I7' r7 (g2 He G7 H7 σ' ε' ε8 x ds[i] _ gr7.gh (E5.grow gr7) dx e8 λσ8 E8=>⟨rfl,E8⟩)) λ_ s8 ⟨σ8,H8,I8,e10,E8⟩=>?_;subst e10;refine thn (t1 _ s8 σ8 H8 (λb H9=>b=k/\∃G9,Grow G7 H8 G9 H9) I8 (t2 He G7 H8 σ8 ε8 k _ gr7.gh E8 e9 λG9 H9 gr9=>⟨rfl,G9,gr9⟩)) λok s9 ⟨H9,I9,ek,G9,gr9⟩=>?_;subst ek
   have again:∀{s10:Shared} {G10 H10:Hp} {ys:List V} {dn' rest':List D},Inv (cxC X sc cl (tn++fr) s3.heap.objs.size s3 H3 fp pins) ([]++kx fp s7.heap) σ8 H10 s10->Grow G H G10 H10->aR G1 G10->EnvD X.K He G10 H10 σ8 ε8->H10 Dd=some (.lst ys)->G10 Dd=none->DenL X.K G10 ys dn'->ys.length<=i+1->
     lcD g ft fe (ds.drop (i+1)) ε8=some rest'->rs=dn'++rest'->∃m,m<ds.length+1-i/\∃(i:Nat) (σ':L2.St) (G' H':Hp) (ε':Ev) (xs:List V) (dn rest:List D),m=ds.length+1-i/\i<=ds.length/\Inv (cxC X sc cl (tn++fr) s3.heap.objs.size s3 H3 fp pins) [] σ' H' s10/\tn' i s10.heap/\(∀b∈fp,H' b=none)/\
   Grow G H G' H'/\aR G1 G'/\EnvD X.K He G' H' σ' ε'/\NoO ε'/\H' Dd=some (.lst xs)/\G' Dd=none/\DenL X.K G' xs dn/\xs.length<=i/\lcD g ft fe (ds.drop i) ε'=some rest/\rs=dn++rest:=λ{s10 G10 H10 ys dn' rest'} I10 gr10 sG10 E10 hD10 hG10 den10 len10 el10 ers10=>by
    refine⟨ds.length+1-(i+1),by lia,i+1,σ8,G10,H10,ε8,ys,dn',rest',rfl,hlt,I10.unpinned,T.keep _ _ _ st7 λb hb o e=>(I10.pin (b,o) (List.mem_append_right _ (List.mem_append_right _ (fV hb e)))).1,λb hb=>?_,gr10,sG10,E10,ng _ _ _ e8 no5,hD10,hG10,den10,len10,el10,ers10⟩;obtain⟨o,e,d⟩:=T.obj _ _ st7 b hb;exact(I10.pin (b,o) (List.mem_append_right _ (List.mem_append_right _ (fV hb e)))).2.1
   have gr9':=gr5.trans (gr7.trans gr9);have sG9:aR G1 G9:=sG.trans (gr7.gg.trans gr9.gg);have hD9:H9 Dd=some (.lst xs):=gr9.hh _ _ (gr7.hh _ _ hD);have hG9:G9 Dd=none:=gr9.fo _ _ (gr7.hh _ _ hD) (gr7.fo _ _ hD hGD);cases ok with
   |false=>
    rw[if_neg Bool.false_ne_true] at el;rw[if_neg Bool.false_ne_true];exact again I9 gr9' sG9 (E8.grow gr9) hD9 hG9 (hden.mono (gr7.gg.trans gr9.gg)) (by lia) el ers
   |true=>
    rw[if_pos rfl] at el;rw[if_pos rfl];obtain⟨vd,e11,el⟩:=aq el;obtain⟨rest',e12,el⟩:=aq el;cases el;refine thn (e1 _ s9 σ8 H9 (λy H10=>∃G10,Grow G9 H9 G10 H10/\Den X.K G10 y vd) I9 (e2 He G9 H9 σ8 ε8 vd _ gr9.gh (E8.grow gr9) e11 λy G10 H10 gr10 dy=>⟨G10,gr10,dy⟩)) λuv s10 ⟨y,H10,I10,r10,G10,gr10,dy⟩=>?_;have hD10:=gr10.hh _ _ hD9;have hG10:=gr10.fo _ _ hD9 hG9;have hl:xs.length<sizeLine:=Nat.lt_of_le_of_lt hxl (Nat.lt_trans (Nat.lt_trans hlt hz) (by decide));refine thn (mC _ s10 σ8 H10 (.ref Dd) [y] (.ref Dd) [uv] (λ_ H11=>H11=upd H10 Dd (.lst (xs++[y]))) I10 rfl (.cons r10 .nil) ⟨Dd,xs,y,rfl,rfl,hD10,hl,rfl⟩) λ_ s11 ⟨_,H11,I11,_,e13⟩=>?_;subst e13;have gr10':=gr9'.trans gr10;have keep:∀{b:Addr} {o:HO},b≠Dd->H10 b=some o->upd H10 Dd (.lst (xs++[y])) b=some o:=λ{b o} nb e=>by rw[aT nb];exact e
    refine again I11 ⟨λb o e=>keep (aH e nD) (gr10'.hh b o e),gr10'.gg,λb o e=>keep (aH e hG10) (gr10'.gh b o e),gr10'.fo⟩ (sG9.trans gr10.gg) ?_ aN hG10 (((hden.mono (gr7.gg.trans gr9.gg)).mono gr10.gg).append (.one dy)) (by rw[List.length_append];simp;lia) e12 (by rw[ers];simp);have E10:=(E8.grow gr9).grow gr10
    exact⟨E10.len,E10.dat,λ{j es} e=>by
     obtain⟨b,zs,w1,w2,w3,w4,w5⟩:=E10.own e;exact(ng _ _ _ e8 no5 _ _ e).elim,E10.apart,λ{j es} e=>by
     obtain⟨b,zs,ep,w1,w2,w3,w4,w5,w6⟩:=E10.odi e
     exact⟨b,zs,ep,w1,keep (λq=>by subst q;rw[hD10] at w2;cases w2) w2,w3,w4,w5,w6⟩,E10.apartD⟩
  ·have e5:i=ds.length:=by lia
   subst e5;rw[List.drop_length] at el;cases el;refine thn (T.done (cxC X sc cl (tn++fr) s3.heap.objs.size s3 H3 fp pins) rfl rfl rfl rfl ds.length [] s5 σ' H' (λ_ _=>False) I5 (stat fr5) st5 (stop (Nat.le_refl _))) λr s6 ⟨hr,I6⟩=>?_;subst hr;obtain⟨m6,⟨oC,es,ep,ho,hdt,hrest⟩,_⟩:=id I6.loc;have IX:Inv X pins σ H' s6:=I3.call' I6.os I6.base I6.hok I6.bare λb hb=>⟨(f3 b hb).2.2.2.1,(f3 b hb).2.1,(f3 b hb).2.2.2.2.1,(f3 b hb).2.2.2.2.2⟩;have pC:∀p∈X.pn++pins,p.1≠s3.heap.objs.size:=λp hp=>Nat.ne_of_lt (Heap.lt_size (I3.pin p hp).1)
   have IX':Inv X (pins++[(s3.heap.objs.size,oC)]) σ H' s6:=IX.pins_of λp hp=>by
    rcases List.mem_append.mp hp with older | newer
    ·exact IX.pin p (List.mem_append_right _ older)
    ·rw[List.mem_singleton.mp newer]
     exact⟨ho,I6.free,Ne.symm (Nat.ne_of_lt I3.lt),I3.nofs (Nat.le_refl _),λv q=>by rw[hdt] at q;cases q⟩
   exact after Dd xs G' H' s3.heap.objs.size oC m6 s6 IX' ⟨oC,es,ep,ho,hdt,hrest⟩ I3.sz pC gr5 nD hGD hD (by rw[ers,List.append_nil];exact hden)
 exact codeAny_compStart_list (loop _ rfl) (T.self X.A 0 _ _ _ st4 (loop _ rfl))
theorem rK{pins:List (Addr×Obj)}{σ:L2.St}{H He G:Hp}{s:Shared}{ε:Ev}{ds rs:List D}{RR:Value->Addr->Result->Shared->Prop}(hc:X.calm=true)(hi:DI X tg iter fi)(S:CompSc X sc cl tn fr ix)(ng:NoG g)
  (hg:∀C s₃ H₃ fp pins,DG (cxC X sc cl (tn++fr) C s₃ H₃ fp pins) tg g) (ht:∀C s₃ H₃ fp pins,DIf (cxC X sc cl (tn++fr) C s₃ H₃ fp pins) ifs ft) (he:∀C s₃ H₃ fp pins,DE (cxC X sc cl (tn++fr) C s₃ H₃ fp pins) elt fe)
  (I:Inv X pins σ H s) (gh:aR G H) (E:EnvD X.K He G H σ ε) (ei:fi ε=some ds) (hz:ds.length<1000000) (er:lcD g ft fe ds (prE tn.length ix ε)=some rs) (after:vA X pins σ G H rs RR) :
  wpAny (model X.prog X.w) X.A (eval iter X.env) (λx s₁=>wpAny (model X.prog X.w) X.A (pyIter x) (λit s₂=>wpAny (model X.prog X.w) X.A (newList []) (λacc s₃=>
   wpAny (model X.prog X.w) X.A (newFunctionEnv sc X.env.globals cl [] X.env.qual none .none (some X.env)) (λcenv s₄=>
    codeAny (model X.prog X.w) X.A (.compStart (.ListComp elt [⟨tg,iter,ifs,0⟩] sc pos) 0 it acc { cenv with scope:=relabel sc X.env }) (RR acc cenv.locals) s₄) X.xe s₃) X.xe s₂) X.xe s₁) X.xe s:=by
 obtain⟨wi,i1,i2⟩:=hi;refine thn (i1 pins s σ H (λJ H'=>∃G1,Grow G H G1 H'/\ItD X.K J ds G1) I (i2 He G H σ ε ds _ gh E ei λJ G' H' gr itd=>⟨G',gr,itd⟩)) λv s1 h1=>thn h1 λitv s2 h2=>?_;obtain⟨it,fp,tn',J,H2,rfl,I2,T,st2,f2,G1,gr,itd⟩:=h2;refine wpAny_newObj_type (wpAny_newFunctionEnv S.nocell (by intro y hy;simp at hy) (λh₁ hns₁ hsb₁=>?_) S.kind);dsimp only at hns₁ hsb₁ ⊢;have fr2:H2 s2.heap.objs.size=none:=I2.hok.fresh (Nat.le_refl _)
 have I3:Inv X pins σ (upd H2 s2.heap.objs.size (.lst [])) { s2 with heap:=s2.heap.push { cls:=.type "list",dict:=none,data:=.seq ([]:List Value).toArray } }:=
  I2.laid (t':=s2.toks) (o:=.lst []) (λb ob q=>Heap.get?_push_of_some _ q) (Nat.le_refl _) ⟨Nat.zero_le _,[],0,.nil,Heap.get?_push_size _ rfl⟩
 have fpD:∀b∈fp,b≠s2.heap.objs.size:=λb hb z=>by
  obtain⟨o,e,_⟩:=T.obj 0 _ st2 b hb;exact absurd (Heap.lt_size e) (by rw[z];exact Nat.lt_irrefl _)
 have f3:∀b∈fp,jc X pins (upd H2 s2.heap.objs.size (.lst [])) b:=λb hb=>⟨by rw[aT (fpD b hb)];exact(f2 b hb).1,(f2 b hb).2⟩
 have lt3:∀b∈fp,b<(s2.heap.push { cls:=.type "list",dict:=none,data:=.seq ([]:List Value).toArray }).objs.size:=λb hb=>by
  obtain⟨o,e,_⟩:=T.obj 0 _ st2 b hb;rw[Heap.size_push];exact Nat.lt_succ_of_lt (Heap.lt_size e)
 have st3:tn' 0 (s2.heap.push { cls:=.type "list",dict:=none,data:=.seq ([]:List Value).toArray }):=T.keep _ _ _ st2 λb hb o e=>Heap.get?_push_of_some _ e;have gr3:Grow G H G1 (upd H2 s2.heap.objs.size (.lst [])):=gr.trans (.lay _ gr.gh fr2);have nD:H s2.heap.objs.size=none:=gr.hh.free fr2;have gD:G1 s2.heap.objs.size=none:=gr.gh.free fr2;exact um (s3:={ s2 with heap:=s2.heap.push { cls:=.type "list",dict:=none,data:=.seq ([]:List Value).toArray } }) hc S ng hg ht he I3 E hz er after T itd f3 lt3 st3 gr3 aN nD gD hns₁ λb o e=>hsb₁.extBut b o (Nat.ne_of_lt (Heap.lt_size e)) (Heap.get?_push_of_some _ e)
theorem q8{pins:List (Addr×Obj)}{σ:L2.St}{H':Hp}{s':Shared}{C:Addr}{oC:Obj}{h':Heap}(IX:Inv X (pins++[(C,oC)]) σ H' s')(hC:X.s₀.heap.objs.size<=C)(pC:∀p∈X.pn++pins,p.1≠C)(hs:Heap.SameBut C s'.heap h') :
  Inv X pins σ H' { s' with heap:=h' }:=by
 obtain⟨q1,q2,q3,q4,q5⟩:=IX.pin (C,oC) (List.mem_append_right _ (List.mem_append_right _ (List.mem_singleton.mpr rfl)));refine IX.unpinned.turned (t':=s'.toks) (it:=C) (λb o hb e=>hs.extBut b o hb e) q2 q3 (.inr hC) (λx c e z=>?_) pC;obtain⟨v,w⟩:=IX.cell x c e;rw[z] at w;obtain⟨o,w1,w2⟩:=id w;rw[q1] at w1;cases w1;exact q5 _ w2
noncomputable def eLC(fi:Ev->Option (List D))(n:Nat)(ix:List Nat)(g:D->Ev->Option Ev)(ft:Ev->Option Bool)(fe:Ev->Option D):Ev->Option (List D):=λε=>(fi ε).bind λds=>if ds.length<1000000 then lcD g ft fe ds (prE n ix ε) else none
theorem rG(hc:X.calm=true)(hi:DI X tg iter fi)(S:CompSc X sc cl tn fr ix)(ng:NoG g)
  (hg:∀C s₃ H₃ fp pins,DG (cxC X sc cl (tn++fr) C s₃ H₃ fp pins) tg g) (ht:∀C s₃ H₃ fp pins,DIf (cxC X sc cl (tn++fr) C s₃ H₃ fp pins) ifs ft) (he:∀C s₃ H₃ fp pins,DE (cxC X sc cl (tn++fr) C s₃ H₃ fp pins) elt fe)
  (hs:∀x,foldedSetIterable iter X.env x=pure x:=by intro _;rfl):DF X (.ListComp elt [⟨tg,iter,ifs,0⟩] sc pos) (eLC fi tn.length ix g ft fe):=by
 refine⟨λσ H Q=>∃He G ε rs,aR G H/\EnvD X.K He G H σ ε/\eLC fi tn.length ix g ft fe ε=some rs/\∀a xs G' H',Grow G H G' H'->H a=none->G' a=none->H' a=some (.lst xs)->DenL X.K G' xs rs->Q (.ref a) H',λpins s σ H Q I hq=>?_,
  λHe G H σ ε ds Q gh E ef q=>⟨He,G,ε,ds,gh,E,ef,q⟩⟩
 obtain⟨He,G,ε,rs,gh,E,ef,q⟩:=hq;obtain⟨ds,ei,ef⟩:=aq ef;split at ef
 ·rename_i hz
  rw[eval_ListComp];refine wpAny_comprehension_free (use:=none) rfl hs S.clos S.kind S.names (rK (RR:=λacc C=>compPost (model X.prog X.w) X.A X.xe none (EP X pins σ Q) acc C) hc hi S ng hg ht he I gh E ei hz ef ?_);intro a xs G' H' C oC m s' IX hNs hC pC gr hn gn ha hd;exact⟨m,hNs,λh' hs'=>⟨.ref a,H',q8 IX hC pC hs',rfl,q a xs G' H' gr hn gn ha hd⟩⟩
 ·cases ef
theorem wz{i:Nat}{y:Str}{py spos:Pos}{W':Ends->L2.St->Hp->Prop}{gg:Ev->Option Fl}(hc:X.calm=true)(hN:X.N.Nodup)(hi:DI X tg iter fi)(S:CompSc X sc cl tn fr ix)(ng:NoG g)
  (hg:∀C s₃ H₃ fp pins,DG (cxC X sc cl (tn++fr) C s₃ H₃ fp pins) tg g) (ht:∀C s₃ H₃ fp pins,DIf (cxC X sc cl (tn++fr) C s₃ H₃ fp pins) ifs ft) (he:∀C s₃ H₃ fp pins,DE (cxC X sc cl (tn++fr) C s₃ H₃ fp pins) elt fe)
  (hiN:X.N[i]?=some y) (hx:Loc X.env.scope y) (hf:X.fn y=true\/X.env.scope.names.lookup y=some .local) (hsw:swapsWith (.ListComp elt [⟨tg,iter,ifs,0⟩] sc pos) (some (.Name y py)) spos.line X.env=pure true)
  (hs:∀x,foldedSetIterable iter X.env x=pure x)
  (hgg:∀(He Ge G H:Hp) (σ:L2.St) (ε:Ev) (r:Fl) (W:Ends),Sta X.K He Ge G H σ ε->gg ε=some r->As X.K He Ge r W->∃rs,eLC fi tn.length ix g ft fe ε=some rs/\∀a xs G' H',Grow G H G' H'->H a=none->G' a=none->H' a=some (.lst xs)->DenL X.K G' xs rs->W.nx (σ.set i (some (.ref a))) H') :
  DS X (.Assign [.Name y py] (.ListComp elt [⟨tg,iter,ifs,0⟩] sc pos) spos) gg:=by
 refine⟨λW σ H=>∃He G ε rs,aR G H/\EnvD X.K He G H σ ε/\eLC fi tn.length ix g ft fe ε=some rs/\∀a xs G' H',Grow G H G' H'->H a=none->G' a=none->H' a=some (.lst xs)->DenL X.K G' xs rs->W.nx (σ.set i (some (.ref a))) H',λpins s σ H W I hq=>?_,
  λHe Ge G H σ ε r W S' e P=>let⟨rs,e1,e2⟩:=hgg He Ge G H σ ε r W S' e P;⟨He,G,ε,rs,S'.g.gh,S'.e,e1,e2⟩⟩
 obtain⟨He,G,ε,rs,gh,E,ef,q⟩:=hq;obtain⟨ds,ei,ef⟩:=aq ef;split at ef
 ·rename_i hz
  rw[exec_Assign_Name_used _ _ _ _ hsw];refine wpAny_bind (wpAny_standAt (wpAny_bind ?_));show wpAny _ X.A (do let _<-comprehension (.ListComp elt [⟨tg,iter,ifs,0⟩] sc pos) sc X.env _ (newList []) false (eval iter X.env) (some (assign (.Name y py) X.env))) _ _ s
  refine wpAny_bind (wpAny_mono (wpAny_comprehension_free (use:=some (assign (.Name y py) X.env)) (Q:=λ_ s'=>SP X pins W .next s') rfl hs S.clos S.kind S.names
   (rK (RR:=λacc C=>compPost (model X.prog X.w) X.A X.xe (some (assign (.Name y py) X.env)) (λ_ s'=>SP X pins W .next s') acc C) hc hi S ng hg ht he I gh E ei hz ef ?_)) (λ_ s' hq=>wpAny_pure (wpAny_pure hq)) λ_ _ e=>e)
  intro a xs G' H' C oC m s' IX hNs hC pC gr hn gn ha hd;show wpAny _ X.A (assign (.Name y py) X.env (.ref a)) _ _ _;refine wpAny_assign_Name (gc IX hN hiN hx (v:=.ref a) (u:=.ref a) rfl (λs2 I2=>?_) hf);obtain⟨q1,_⟩:=IX.pin (C,oC) (List.mem_append_right _ (List.mem_append_right _ (List.mem_singleton.mpr rfl)));obtain⟨w1,_⟩:=I2.pin (C,oC) (List.mem_append_right _ (List.mem_append_right _ (List.mem_singleton.mpr rfl)));refine⟨m,?_,λh' hs'=>⟨_,H',q8 I2 hC pC hs',q a xs G' H' gr hn gn ha hd⟩⟩;obtain⟨o,es,ep,h1,h2⟩:=hNs;rw[q1] at h1;cases h1;exact⟨oC,es,ep,w1,h2⟩
 ·cases ef
theorem AG(i:Nat){y:Str}{py spos:Pos}(hc:X.calm=true)(hN:X.N.Nodup)(hi:DI X tg iter fi)(S:CompSc X sc cl tn fr ix)(ng:NoG g)
  (hg:∀C s₃ H₃ fp pins,DG (cxC X sc cl (tn++fr) C s₃ H₃ fp pins) tg g) (ht:∀C s₃ H₃ fp pins,DIf (cxC X sc cl (tn++fr) C s₃ H₃ fp pins) ifs ft) (he:∀C s₃ H₃ fp pins,DE (cxC X sc cl (tn++fr) C s₃ H₃ fp pins) elt fe)
  (hiN:X.N[i]?=some y:=by rfl) (hx:Loc X.env.scope y:=by first | exact Or.inl rfl | exact Or.inr rfl) (hf:X.fn y=true\/X.env.scope.names.lookup y=some .local:=by first | exact .inl rfl | exact .inr rfl) (hsw:swapsWith (.ListComp elt [⟨tg,iter,ifs,0⟩] sc pos) (some (.Name y py)) spos.line X.env=pure true:=by rfl)
  (hs:∀x,foldedSetIterable iter X.env x=pure x:=by intro _;rfl):DS X (.Assign [.Name y py] (.ListComp elt [⟨tg,iter,ifs,0⟩] sc pos) spos) (eY i (eLC fi tn.length ix g ft fe)):=
 wz (i:=i) (W':=λ_ _ _=>True) hc hN hi S ng hg ht he hiN hx hf hsw hs λHe Ge G H σ ε r W S' e P=>by
  obtain⟨rs,e1,rfl⟩:=br e;exact⟨rs,e1,λa xs G' H' gr hn gn ha hd=>P _ G' H' ⟨S'.g.trans gr,S'.e.putO gr S'.g.hh hn gn ha hd⟩⟩
theorem vy(i:Nat){y:Str}{py spos:Pos}(hc:X.calm=true)(hN:X.N.Nodup)(hi:DI X tg iter fi)(S:CompSc X sc cl tn fr ix)(ng:NoG g)
  (hg:∀C s₃ H₃ fp pins,DG (cxC X sc cl (tn++fr) C s₃ H₃ fp pins) tg g) (ht:∀C s₃ H₃ fp pins,DIf (cxC X sc cl (tn++fr) C s₃ H₃ fp pins) ifs ft) (he:∀C s₃ H₃ fp pins,DE (cxC X sc cl (tn++fr) C s₃ H₃ fp pins) elt fe)
  (hiN:X.N[i]?=some y:=by rfl) (hx:Loc X.env.scope y:=by first | exact Or.inl rfl | exact Or.inr rfl) (hf:X.fn y=true\/X.env.scope.names.lookup y=some .local:=by first | exact .inl rfl | exact .inr rfl) (hsw:swapsWith (.ListComp elt [⟨tg,iter,ifs,0⟩] sc pos) (some (.Name y py)) spos.line X.env=pure true:=by rfl)
  (hs:∀x,foldedSetIterable iter X.env x=pure x:=by intro _;rfl):DS X (.Assign [.Name y py] (.ListComp elt [⟨tg,iter,ifs,0⟩] sc pos) spos) (aU i (eF (eLC fi tn.length ix g ft fe))):=
 wz (i:=i) (W':=λ_ _ _=>True) hc hN hi S ng hg ht he hiN hx hf hsw hs λHe Ge G H σ ε r W S' e P=>by
  obtain⟨d,e0,rfl⟩:=br e;obtain⟨rs,e1,rfl⟩:=br e0;refine⟨rs,e1,λa xs G' H' gr hn gn ha hd=>?_⟩;have s2:aR G' (upd G' a (.lst xs)):=λb o e=>by rw[aT (aH e gn)];exact e
  have g2:Grow G H (upd G' a (.lst xs)) H':=⟨gr.hh,gr.gg.trans s2,λb o e=>by
   unfold upd at e
   by_cases z:b=a
   ·rw[if_pos z] at e;cases e;rw[z];exact ha
   ·rw[if_neg z] at e;exact gr.gh b o e,λb o e z=>by rw[aT (aH e hn)];exact gr.fo b o e z⟩
  exact P _ _ H' ⟨S'.g.trans g2,(S'.e.grow g2).put (.lst (SqL.of aN) (hd.mono s2))⟩
end
section
variable{X:Cx}{a b c:Expr}{fa fb fc:Ev->Option D}{pos:Pos}
noncomputable def BV(K:PySem.W.Frag):R2:=λx y H Q=>∃l b xs zs,x=.ref l/\y=.ref b/\SqL K H l xs/\SqL K H b zs/\xs.length+zs.length<=sizeLine/\∀p,H p=none->Q (.ref p) (upd H p (.lst (xs++zs)))
theorem yM:OpR X (binaryOp .Add) (BV X.K):=by
 intro pins s σ H x y v u Q I rx ry h;obtain⟨l,b,xs,zs,rfl,rfl,hH,hB,hz,q⟩:=h;cases rx;cases ry;obtain⟨its,r,pl,z⟩:=I.list hH;obtain⟨its2,r2,pl2,z2⟩:=I.list hB;have hl:=r.length;have hl2:=r2.length;obtain⟨⟨cls,dd,data,sl⟩,ho,hc,n,hd⟩:=id pl.isList;obtain⟨⟨cls2,dd2,data2,sl2⟩,ho2,hc2,n2,hd2⟩:=id pl2.isList;simp only at hc hd hc2 hd2;subst hc hd hc2 hd2;have ea:its.toArray++its2.toArray=(its++its2).toArray:=by simp
 refine concat_meets ⟨_,ho,rfl⟩ ⟨_,ho2,rfl⟩ noFill_list_add seq_list_add PySem.F.slot_list_add PySem.F.entry_list_add (PySem.F.args_list_add_2 _ _) (list_addW l b its.toArray its2.toArray n n2 dd dd2 sl sl2 (by simp;lia)) ⟨ho,ho2,?_⟩;rw[ea];exact⟨.ref _,_,I.lnew (t':=s.toks) (r.append r2) (by rw[List.length_append];lia),rfl,q _ I.fresh⟩
noncomputable def xt(fa fb:Ev->Option D):Ev->Option (List D):=λε=>(fa ε).bind λx=>(fb ε).bind λy=>match x,y with | .lst xs,.lst ys=>if xs.length+ys.length<=1000000 then some (xs++ys) else none | _,_=>none
theorem Bq(ha:DB X a fa)(hb:DB X b fb):DF X (.BinOp a .Add b pos) (xt fa fb):=by
 obtain⟨ta,a1,a2⟩:=ha;obtain⟨tb,b1,b2⟩:=hb;refine⟨_,zA yM a1 b1,λHe G H σ ε ds Q gh E ef q=>?_⟩;obtain⟨x,e1,ef⟩:=aq ef;obtain⟨y,e2,ef⟩:=aq ef;refine a2 He G H σ ε x _ gh E e1 λv G1 H1 g1 d1=>?_;refine b2 He G1 H1 σ ε y _ g1.gh (E.grow g1) e2 λu G2 H2 g2 d2=>?_;split at ef
 ·split at ef
  ·rename_i hz
   cases ef;obtain⟨p,xs,rfl,h1,h2⟩:=(d1.grow g2).lst g2.gh;obtain⟨p',ys,rfl,h3,h4⟩:=d2.lst g2.gh;have g:=g1.trans g2;refine⟨p,p',xs,ys,rfl,rfl,h1,h3,?_,λl hl=>q l _ G2 _ (g.trans (.lay _ g2.gh hl)) (g.hh.free hl) (g2.gnone hl) aN (h2.append h4)⟩;rw[h2.length,h4.length];exact Nat.le_trans hz (by decide)
  ·cases ef
 ·cases ef
theorem DenL.nil_iff{K:PySem.W.Frag}{G:Hp}{xs:List V}{ds:List D}(h:DenL K G xs ds):xs=[]↔ds=[]:=by cases h<;>simp
end
namespace CatI
noncomputable def qH:D->D->Option D:=λx y=>match x,y with | .tup (x0::xs),.tup (y0::ys)=>if xs.length+ys.length<=1000 then some (.tup (x0::xs++y0::ys)) else none | _,_=>none
end CatI
section
variable{X:Cx}{a b c:Expr}{fa fb fc:Ev->Option D}{pos:Pos}
theorem pU:OpD X (binaryOp .Add) CatI.qH:=⟨_,yj,λG H x y dx dy d Q gh hx hy e q=>by
 unfold CatI.qH at e;split at e
 ·split at e
  ·rename_i hz
   cases e;obtain⟨p,xs,rfl,h0,h1,h2⟩:=hx.tup gh;obtain⟨p',ys,rfl,h3,h4,h5⟩:=hy.tup gh;have n1:xs≠[]:=λz=>by have:=h2.nil_iff.mp z;cases this
   have n2:ys≠[]:=λz=>by have:=h5.nil_iff.mp z;cases this
   refine⟨p,p',xs,ys,rfl,rfl,h1,h4,n1,?_,λz=>absurd z n2,λ_ l hl=>?_⟩
   ·rw[h2.length,h5.length]
    simp only[List.length_cons];exact Nat.le_trans (Nat.add_le_add (Nat.le_refl _) (Nat.le_refl _)) (le_line2 hz)
   ·have g:=Grow.new (.tup (xs++ys)) gh hl
    exact q _ _ _ g (.tup (SqT.of aN) ((h2.append h5).mono g.gg))
  ·cases e
 ·cases e⟩
where
 le_line2 {m n:Nat} (h:m+n<=1000):m+1+(n+1)<=sizeLine:=Nat.le_trans (by lia:m+1+(n+1)<=2000) (by decide)
noncomputable def xB(i j:Nat)(g:Ev->Option (List D)):Ev->Option Fl:=λε=>match g ε with | some [x,y]=>some (.nx ((ε.set i (.dat x)).set j (.dat y))) | _=>none
end
section
variable{prog:Program}{w:World}{Ar:Around}{Ex:Value->Shared->Prop}
theorem sS{I L:Addr}{xs:Array Value}(apart:L≠I):∀(k i:Nat) (t:Shared) (Q:List Value->Shared->Prop) (_:t.heap.IsListIter I L i) (_:t.heap.IsList L xs) (_:i+k<=xs.size)
  (_:∀g,g.IsListIter I L (i+k)->Heap.SameBut I t.heap g->Q ((xs.toList.drop i).take k) { t with heap:=g }),wpAny (model prog w) Ar (draw (.ref I) k) Q Ex t:=by
 intro k
 induction k with
 |zero=>intro i t Q itr ls room want;exact wpAny_pure (want t.heap itr (Heap.SameBut.refl ..))
 |succ k ih=>
  intro i t Q itr ls room want;have there:i<xs.size:=Nat.lt_of_lt_of_le (Nat.lt_add_of_pos_right (Nat.succ_pos k)) room;refine wpAny_bind (m:=pyNext (.ref I)) (wpAny_pyNext_list_item itr ls (x:=xs[i]) (by simp[there]) λg1 itr1 same1=>?_);refine wpAny_bind (wpAny_holding (ih (i+1) _ _ itr1 (ls.extBut same1.extBut apart) (by lia) λg2 itr2 same2=>wpAny_pure ?_))
  have e:(xs.toList.drop i).take (k+1)=xs[i]::(xs.toList.drop (i+1)).take k:=by
   rw[List.drop_eq_getElem_cons (by simpa using there),List.take_succ_cons];simp
  have c:i+(k+1)=i+1+k:=by lia
  have fin:=want g2 (c▸itr2) (same1.trans same2);rw[e] at fin;exact fin
theorem jq{t:Shared}{L:Addr}{xs:Array Value}{Q:List Value->Shared->Prop}(hh:Ar.handled=none)(ls:t.heap.IsList L xs)
  (want:∀g,Heap.ExtBut t.heap.objs.size t.heap g->Q xs.toList { t with heap:=g }):wpAny (model prog w) Ar (unpackItems (.ref L) xs.size none) Q Ex t:=by
 have apart:L≠t.heap.objs.size:=let⟨_,there,_⟩:=ls;Nat.ne_of_lt (Heap.lt_size there);unfold unpackItems notIterableAtAll;refine wpAny_bind (wpAny_bind (wpAny_specialOf ls.typeIs slot_list_iter.lookup (wpAny_pure ?_)));rw[if_neg Bool.false_ne_true];refine wpAny_bind (wpAny_holding (wpAny_pyIter_list ls ?_));refine wpAny_bind (wpAny_holding (sS apart xs.size 0 _ _ ⟨_,Heap.get?_push_size _ rfl,rfl,rfl⟩ (ls.push _) (Nat.le_of_eq (Nat.zero_add _)) λg1 itr1 same1=>?_));rw[List.drop_zero,List.take_of_length_le (Nat.le_of_eq (by simp)),if_neg (by simp)];refine wpAny_bind (wpAny_holding (wpAny_pyNext_list_end hh itr1 ((ls.push _).extBut same1.extBut apart) (by simp) λg2 ext2=>?_));exact(if_neg (show ¬ (none:Option Value).isSome=true by simp)).symm▸wpAny_pure (want g2 λb o away e=>ext2 b o away (same1.extBut b o away (Heap.get?_push_of_some _ e)))
theorem iV{t:Shared}{ev:Env}{es:List Expr}{x1}{pos:Pos}{L:Addr}{xs:Array Value}{Q:Unit->Shared->Prop}(hh:Ar.handled=none)(ls:t.heap.IsList L xs)
  (many:(assignEach es ev).length=xs.size) (nostar:(assignEach es ev).findIdx? (·.1)=none)
  (rest:∀g,Heap.ExtBut t.heap.objs.size t.heap g->wpAny (model prog w) Ar (assignInOrder ((assignEach es ev).map (·.2)) xs.toList) Q Ex { t with heap:=g }):wpAny (model prog w) Ar (assign (.Tuple es x1 pos) ev (.ref L)) Q Ex t:=by
 rw[assign_Tuple];refine wpAny_bind (wpAny_standAt ?_);unfold unpack;rw[many,nostar];exact wpAny_bind (wpAny_holding (jq hh ls rest))
end
section
variable{X:Cx}{pos:Pos}
theorem yH{es:List Expr}{k:Nat}{t:TGs}{n:Nat}(hc:X.calm=true)(h:PGs X es t)
  (hn:(assignEach es X.env).length=n:=by rfl) (hst:(assignEach es X.env).findIdx? (·.1)=none:=by rfl):PG X (.Tuple es k pos) (λv σ H Q=>∃a xs,v=.ref a/\SqL X.K H a xs/\xs.length=n/\t xs σ H Q):=by
 intro pins s σ H v u Q I r hw;obtain⟨a,xs,e1,hq,hl,hw⟩:=hw;subst e1;cases r;obtain⟨its,rv,ht,hz⟩:=I.list hq;refine iV (I.ok.hd hc) ht.isList (by simp[hn,<-hl,rv.length]) hst λh' hx=>?_;have I1:Inv X pins σ H { s with heap:=h' }:=I.kept (t':=s.toks) λb o e=>hx b o (Nat.ne_of_lt (Heap.lt_size e)) e;exact h pins _ σ H xs _ Q I1 (by simpa using rv) hw
noncomputable def cZ(n:Nat)(g:List D->Ev->Option Ev):D->Ev->Option Ev:=λd ε=>match d with | .tup ds=>if ds.length=n then g ds ε else none | .lst ds=>if ds.length=n then g ds ε else none | _=>none
theorem BI{tg:Expr}{t t':TG}(h:PG X tg t)(h':PG X tg t'):PG X tg (λv σ H Q=>t v σ H Q\/t' v σ H Q):=by
 intro pins s σ H v u Q I r hw;rcases hw with hw | hw
 ·exact h pins s σ H v u Q I r hw
 ·exact h' pins s σ H v u Q I r hw
theorem dU{es:List Expr}{k:Nat}{g:List D->Ev->Option Ev}{n:Nat}(hc:X.calm=true)(h:DGs X es g)(hn:(assignEach es X.env).length=n:=by rfl)(hst:(assignEach es X.env).findIdx? (·.1)=none:=by rfl):DG X (.Tuple es k pos) (cZ n g):=by
 obtain⟨t,a1,a2⟩:=h;refine⟨_,BI (u_ hc a1 hn hst) (yH hc a1 hn hst),λHe G H σ ε ε' v d Q gh E hd e q=>?_⟩;unfold cZ at e;split at e
 ·split at e
  ·rename_i hl
   obtain⟨p,xs,rfl,h1,h2⟩:=hd.tupV;exact .inl ⟨p,xs,rfl,aK gh h1,by rw[h2.length];exact hl,a2 He G H σ ε ε' _ _ _ gh E h2 e q⟩
  ·cases e
 ·split at e
  ·rename_i hl
   obtain⟨p,xs,rfl,h1,h2⟩:=hd.lstV;exact .inr ⟨p,xs,rfl,gh.seq h1,by rw[h2.length];exact hl,a2 He G H σ ε ε' _ _ _ gh E h2 e q⟩
  ·cases e
 ·cases e
end
noncomputable def AtL(X:Cx):List Str->List Nat->Prop
 |[],[]=>True
 |x::fr,j::ix=>(X.N[j]?=some x/\X.env.scope.names.lookup x=some .cell)/\AtL X fr ix
 |_,_=>False
theorem AtL.len{X:Cx}:∀{fr:List Str} {ix:List Nat},AtL X fr ix->ix.length=fr.length
 |[],[],_=>rfl
 |_::_,_::_,h=>congrArg (· + 1) (AtL.len h.2)
 |[],_::_,h=>h.elim
 |_::_,[],h=>h.elim
theorem AtL.get{X:Cx}:∀{fr:List Str} {ix:List Nat} (k:Nat) (x:Str),AtL X fr ix->fr[k]?=some x->∃j,ix[k]?=some j/\X.N[j]?=some x/\X.env.scope.names.lookup x=some .cell
 |[],_,k,x,_,e=>by simp at e
 |_::_,[],_,_,h,_=>h.elim
 |y::fr,j::ix,0,x,h,e=>by simp at e;subst e;exact⟨j,rfl,h.1.1,h.1.2⟩
 |y::fr,j::ix,k+1,x,h,e=>by
  obtain⟨j',h1,h2⟩:=AtL.get k x h.2 (by simpa using e);exact⟨j',by simpa using h1,h2⟩
noncomputable def wy(X:Cx):List (Str×Addr)->Prop
 |[]=>True
 |p::cl=>X.env.cells.lookup p.1=some p.2/\wy X cl
theorem wy.mem{X:Cx}:∀{cl:List (Str×Addr)},wy X cl->∀p∈cl,X.env.cells.lookup p.1=some p.2
 |[],_,_,h=>by cases h
 |q::cl,h,p,hp=>by
  rcases List.mem_cons.mp hp with z | z
  ·rw[z];exact h.1
  ·exact wy.mem h.2 p z
theorem fY{cl:List (Str×Addr)}{x:Str}(h:(cl.map (·.1)).contains x=true):∃c,cl.lookup x=some c:=by
 induction cl with
 |nil=>simp at h
 |cons p cl ih=>
  rw[List.map_cons,List.contains_cons] at h;obtain⟨y,c0⟩:=p;cases e:(x==y) with
  |true=>exact⟨c0,by unfold List.lookup;rw[e]⟩
  |false=>
   have h':(x==y || (cl.map (·.1)).contains x)=true:=h;rw[e,Bool.false_or] at h';obtain⟨c,hc⟩:=ih h';exact⟨c,by unfold List.lookup;rw[e];exact hc⟩
theorem fJ{X:Cx}{sc:Scope}{cl:List (Str×Addr)}{tn fr:List Str}{ix:List Nat}(clos:closureFor sc X.env=pure cl)(hat:AtL X fr ix)(sub:wy X cl)
  (kind:sc.kind=.function) (nc:(sc.names.all λy=>!(y.2 == .cell))=true)
  (nm:(sc.names.all λy=>!(y.2 == .local) || (sc.names.lookup y.1==some .local))=true)
  (hs:((relabel sc X.env).names.all λy=>!(y.2 == .cell || y.2 == .free) || (cl.map (·.1)).contains y.1)=true)
  (fc:(fr.all λx=>(relabel sc X.env).names.lookup x==some .cell)=true):CompSc X sc cl tn fr ix where
 kind:=kind
 nocell:=λy hy e=>by
  have:=List.all_eq_true.mp nc y hy;rw[e] at this;exact absurd this (by decide)
 names:=λy hy e=>by
  have:=List.all_eq_true.mp nm y hy;rw[e] at this;exact eq_of_beq this
 clos:=clos
 len:=hat.len
 at_:=λk x e=>hat.get k x e
 sub:=λx c e=>sub.mem _ (PySem.mem_of_lookup e)
 has:=λx h=>by
  rcases h with h | h
  ·have:=List.all_eq_true.mp hs _ (PySem.mem_of_lookup h)
   exact fY this
  ·have:=List.all_eq_true.mp hs _ (PySem.mem_of_lookup h)
   exact fY this
 frc:=λx hx=>eq_of_beq (List.all_eq_true.mp fc x hx)
theorem jf{fi:Ev->Option (List D)}{n:Nat}{ix:List Nat}{g:D->Ev->Option Ev}{ft:Ev->Option Bool}{fe:Ev->Option D}{ε:Ev}{ds:List D}(h:fi ε=some ds)(hl:ds.length<1000000):eLC fi n ix g ft fe ε=lcD g ft fe ds (prE n ix ε):=by
 unfold eLC;rw[h];show(if ds.length<1000000 then _ else none)=_;rw[if_pos hl]
noncomputable def jj(f:D->D->Option Bool):List D->List D->Option Bool
 |x::xs,y::ys=>(f x y).bind λa=>(jj f xs ys).bind λb=>some (a&&b)
 |_,_=>some true
noncomputable def cJ:Nat->D->D->Option Bool
 |0,x,y=>eqS x y
 |n+1,x,y=>match x,y with
  |.tup xs,.tup ys=>(jj (cJ n) xs ys).map λb=>b&&xs.length==ys.length
  |.lst xs,.lst ys=>if xs.length=ys.length then jj (cJ n) xs ys else some false
  |x,y=>eqS x y
noncomputable def dR(f:D->D->Option Bool)(xs ys:List D)(j:Nat):Bool:=match xs[j]?,ys[j]? with
 |some x,some y=>(f x y).getD false
 |_,_=>false
theorem cG{f:D->D->Option Bool}:∀{xs ys:List D} {b:Bool},jj f xs ys=some b->b=(List.range (min xs.length ys.length)).all (dR f xs ys)/\∀j x y,xs[j]?=some x->ys[j]?=some y->f x y=some (dR f xs ys j)
 |[],ys,b,e=>by cases e;exact⟨by simp,λj x y h _=>by simp at h⟩
 |x::xs,[],b,e=>by cases e;exact⟨by simp,λj x y _ h=>by simp at h⟩
 |x::xs,y::ys,b,e=>by
  obtain⟨a,e1,e⟩:=aq e;obtain⟨c,e2,e⟩:=aq e;cases e;obtain⟨h1,h2⟩:=cG e2;have sh:∀j,dR f (x::xs) (y::ys) (j+1)=dR f xs ys j:=λj=>by unfold dR;simp
  have s0:dR f (x::xs) (y::ys) 0=a:=by unfold dR;simp[e1]
  refine⟨?_,λj u v hu hv=>?_⟩
  ·have hm:min (x::xs).length (y::ys).length=min xs.length ys.length+1:=by simp only[List.length_cons];lia
   rw[hm,List.range_succ_eq_map,List.all_cons,s0,List.all_map,h1];congr 1
  ·cases j with
   |zero=>simp at hu hv;subst hu hv;rw[s0,e1]
   |succ j=>rw[sh];exact h2 j u v (by simpa using hu) (by simpa using hv)
theorem gk{d:D}{b:Bool}(h:eqS d d=some b):b=true:=by
 cases d<;>simp[eqS] at h<;>first | exact h | exact h.symm
theorem i8{f:D->D->Option Bool}(hf:∀d b,f d d=some b->b=true):∀{ds:List D} {b:Bool},jj f ds ds=some b->b=true
 |[],b,e=>by cases e;rfl
 |d::ds,b,e=>by
  obtain⟨a,e1,e⟩:=aq e;obtain⟨c,e2,e⟩:=aq e;cases e;rw[hf d a e1,i8 hf e2];rfl
theorem gX:∀(n:Nat) (d:D) (b:Bool),cJ n d d=some b->b=true
 |0,d,b,e=>gk e
 |n+1,.tup xs,b,e=>by
  obtain⟨c,e1,rfl⟩:=br e;rw[i8 (gX n) e1];simp
 |n+1,.lst xs,b,e=>by
  have e':(if xs.length=xs.length then jj (cJ n) xs xs else some false)=some b:=e;rw[if_pos rfl] at e';exact i8 (gX n) e'
 |n+1,.non,b,e=>gk (d:=.non) e
 |n+1,.bl k,b,e=>gk (d:=.bl k) e
 |n+1,.int k,b,e=>gk (d:=.int k) e
 |n+1,.str k,b,e=>gk (d:=.str k) e
section
variable{X:Cx}{pins:List (Addr×Obj)}{σ:L2.St}{G H:Hp}{s:Shared}
theorem oP(I:Inv X pins σ H s){a:Addr}{xs ys:List V}(h1:SqT X.K H a xs)(h2:SqL X.K H a ys):False:=by
 obtain⟨its,_,⟨o,e1,c1,_⟩,_⟩:=I.tuple h1;obtain⟨its2,_,⟨o2,n,e2,c2,_⟩,_⟩:=I.list h2;rw[e1] at e2;cases e2;rw[c1] at c2;exact absurd (Value.type.inj c2) (by decide)
theorem uN{x y:V}{u:Value}(hx:L2.aY x u)(hy:L2.aY y u):x=y:=by
 cases x<;>cases y<;>simp only[L2.aY] at hx hy<;>first | rfl | (subst hx;cases hy;done) | (subst hx;cases hy;rfl) | (obtain⟨t,rfl⟩:=hx;obtain⟨t',e⟩:=hy;cases e;first | rfl | done) | (obtain⟨t,rfl⟩:=hx;cases hy) | (subst hx;obtain⟨t',e⟩:=hy;cases e)
theorem jW(I:Inv X pins σ H s)(gh:aR G H){a:Addr}{us:bV}{ep:Nat}(h:G a=some (.ext (DAt a us ep))):DAt a us ep s.heap:=(show bG X.prog X.w H s.heap a (.ext (DAt a us ep)) from I.hok a _ (gh _ _ h)).1
theorem md(I:Inv X pins σ H s)(gh:aR G H){a:Addr}{xs:List V}{us:bV}{ep:Nat}(h1:SqT X.K H a xs)(h:G a=some (.ext (DAt a us ep))):False:=by
 obtain⟨its,_,⟨o,e1,c1,_⟩,_⟩:=I.tuple h1;obtain⟨_,_,o2,raw,e2,⟨c2,_⟩,_⟩:=jW I gh h;rw[e1] at e2;cases e2;rw[c1] at c2;exact absurd (Value.type.inj c2) (by decide)
theorem lZ(I:Inv X pins σ H s)(gh:aR G H){a:Addr}{xs:List V}{us:bV}{ep:Nat}(h1:SqL X.K H a xs)(h:G a=some (.ext (DAt a us ep))):False:=by
 obtain⟨its,_,⟨o,n,e1,c1,_⟩,_⟩:=I.list h1;obtain⟨_,_,o2,raw,e2,⟨c2,_⟩,_⟩:=jW I gh h;rw[e1] at e2;cases e2;rw[c1] at c2;exact absurd (Value.type.inj c2) (by decide)
theorem jI:∀{k k':List Int},k.map V.int=k'.map V.int->k=k'
 |[],[],_=>rfl
 |[],_::_,e=>by cases e
 |_::_,[],e=>by cases e
 |a::k,b::k',e=>by
  rw[List.map_cons,List.map_cons] at e;injection e with e1 e2
  cases e1;rw[jI e2]
theorem tU(I:Inv X pins σ H s)(gh:aR G H):∀{raw:List DictEntry} {us vs:bV} {es fs:List (List Int×D)},DenM X.K G us es->DenM X.K G vs fs->Paired EntOk us raw->Paired EntOk vs raw->us=vs:=by
 intro raw
 induction raw with
 |nil=>intro us vs es fs _ _ p p';cases p;cases p';rfl
 |cons r rs ih=>
  intro us vs es fs m m' p p';cases p with
  |cons q qs=>
   cases p' with
   |cons q' qs'=>
    cases m with
    |cons hk hv hs=>
     cases m' with
     |cons hk' hv' hs'=>
      have e0:=q.key.symm.trans q'.key;injection e0 with e0
      simp only at e0;subst e0;have ek:=jI (I.tuple_inj (aK gh hk) (aK gh hk'));subst ek;have ev:=uN q.val q'.val;simp only at ev;subst ev;rw[ih hs hs' qs qs']
theorem DenL.uniq(I:Inv X pins σ H s)(gh:aR G H){vs:List V}{ds es:List D}(h:DenL X.K G vs ds):DenL X.K G vs es->ds=es:=by
 refine DenL.rec (motive_1:=λv d _=>∀e,Den X.K G v e->d=e) (motive_2:=λu d _=>∀e,DenM X.K G u e->d=e) (motive_3:=λv d _=>∀e,DenL X.K G v e->d=e) ?_ ?_ ?_ ?_ ?_ ?_ ?_ ?_ ?_ ?_ ?_ h es
 ·intro e w;cases w;rfl
 ·intro b e w;cases w;rfl
 ·intro b e w;cases w;rfl
 ·intro b e w;cases w;rfl
 ·intro a xs ds h _ y e w
  cases w with
  |tup h' hs'=>
   have:=I.tuple_inj (aK gh h) (aK gh h');subst this;rw[y _ hs']
  |lst h' _=>exact(oP I (aK gh h) (gh.seq h')).elim
  |dic h' _ _=>exact(md I gh (aK gh h) h').elim
 ·intro a xs ds h _ y e w
  cases w with
  |lst h' hs'=>
   have:=I.list_inj (gh.seq h) (gh.seq h');subst this;rw[y _ hs']
  |tup h' _=>exact(oP I (aK gh h') (gh.seq h)).elim
  |dic h' _ _=>exact(lZ I gh (gh.seq h) h').elim
 ·intro a us ep es h nd hs y e w
  cases w with
  |tup h' _=>exact(md I gh (aK gh h') h).elim
  |lst h' _=>exact(lZ I gh (gh.seq h') h).elim
  |dic h' nd' hs'=>
   obtain⟨_,_,o,raw,e,_,e1,p⟩:=jW I gh h;obtain⟨_,_,o',raw',e',_,e1',p'⟩:=jW I gh h';rw[e] at e';cases e';rw[e1] at e1';cases e1';have z:=tU I gh hs hs' p p';subst z;rw[y _ hs']
 ·intro e w;cases w;rfl
 ·intro k b v d us es _ _ _ y z e w
  cases w with
  |cons _ h' hs'=>rw[y _ h',z _ hs']
 ·intro e w;cases w;rfl
 ·intro v d vs ds _ _ y z e w
  cases w with
  |cons h' hs'=>rw[y _ h',z _ hs']
theorem Den.uniq(I:Inv X pins σ H s)(gh:aR G H){v:V}{d e:D}(h:Den X.K G v d)(h':Den X.K G v e):d=e:=List.head_eq_of_cons_eq (DenL.uniq I gh (.cons h .nil) (.cons h' .nil))
theorem o7{K:PySem.W.Frag}{G:Hp}{x y:V}{dx dy:D}{b:Bool}(hx:Den K G x dx)(hy:Den K G y dy)(e:eqS dx dy=some b):f7 x=true/\f7 y=true/\eqV x y=b:=by
 cases hx<;>cases hy<;>simp[eqS] at e<;>subst e<;>refine⟨rfl,rfl,?_⟩<;>first | rfl | (simp[eqV];done) | (rw[Bool.eq_iff_iff];simp[eqV])
theorem dP{x y:V}{xs ys:List V}{ds es:List D}{its its2:List Value}{n:Nat}{A:Around}(hs:DenL X.K G xs ds)(hs':DenL X.K G ys es)(r:aV xs its)(r2:aV ys its2)
  (step:∀{dx dy:D} {x y:V} {v u:Value} {b:Bool},Den X.K G x dx->Den X.K G y dy->aY x v->aY y u->cJ n dx dy=some b->SeqAt.EqAt A s v u b)
  (pr:∀j x y,ds[j]?=some x->es[j]?=some y->cJ n x y=some (dR (cJ n) ds es j)) :
  ∀j (h1:j<its.toArray.size) (h2:j<its2.toArray.size),SeqAt.EqAt A s its.toArray[j] its2.toArray[j] (dR (cJ n) ds es j):=by
 intro j h1 h2;have l1:=r.length;have l2:=r2.length;have h1':j<its.length:=by simpa using h1
 have h2':j<its2.length:=by simpa using h2
 have hx:xs[j]?=some xs[j]:=by simp[show j<xs.length by lia]
 have hy:ys[j]?=some ys[j]:=by simp[show j<ys.length by lia]
 obtain⟨dx,e1,d1⟩:=hs.getV hx;obtain⟨dy,e2,d2⟩:=hs'.getV hy;obtain⟨v,e3,r3⟩:=r.get hx;obtain⟨u,e4,r4⟩:=r2.get hy
 have ev:its.toArray[j]=v:=by
  have:=(List.getElem?_eq_some_iff.mp e3).2;simpa using this
 have eu:its2.toArray[j]=u:=by
  have:=(List.getElem?_eq_some_iff.mp e4).2;simpa using this
 rw[ev,eu];exact step d1 d2 r3 r4 (pr j dx dy e1 e2)
theorem oV(I:Inv X pins σ H s)(gh:aR G H):∀(n:Nat) (A:Around),A.units+n<cLine->∀{dx dy:D} {x y:V} {v u:Value} {b:Bool},Den X.K G x dx->Den X.K G y dy->aY x v->aY y u->cJ n dx dy=some b->SeqAt.EqAt A s v u b:=by
 intro n
 induction n with
 |zero=>
  intro A hu dx dy x y v u b hx hy rx ry e;obtain⟨f1,f2,e1⟩:=o7 hx hy e;rw[<-e1];exact qd rx ry f1 f2
 |succ n ih=>
  intro A hu dx dy x y v u b hx hy rx ry e;have hu1:A.in1.units+n<cLine:=by show A.units+1+n<cLine;lia
  have step:=λ{dx dy:D} {x y:V} {v u:Value} {b:Bool}=>ih A.in1 hu1 (dx:=dx) (dy:=dy) (x:=x) (y:=y) (v:=v) (u:=u) (b:=b)
  have flat:∀{b},eqS dx dy=some b->SeqAt.EqAt A s v u b:=λ{b} e=>by
   obtain⟨f1,f2,e1⟩:=o7 hx hy e;rw[<-e1];exact qd rx ry f1 f2
  cases hx with
  |@tup a xs ds h hs=>
   cases hy with
   |@tup a' ys es h' hs'=>
    cases(show v=Value.ref a from rx);cases(show u=Value.ref a' from ry)
    by_cases z:a=a'
    ·subst z
     have:=I.tuple_inj (aK gh h) (aK gh h');subst this;have:=DenL.uniq I gh hs hs';subst this;rw[gX _ _ _ e];exact SeqAt.EqAt.same _
    ·obtain⟨c,e1,rfl⟩:=br e
     obtain⟨q1,q2⟩:=cG e1;obtain⟨its,r,p1,_⟩:=I.tuple (aK gh h);obtain⟨its2,r2,p2,_⟩:=I.tuple (aK gh h');have l1:its.toArray.size=ds.length:=by simp[<-r.length,hs.length]
     have l2:its2.toArray.size=es.length:=by simp[<-r2.length,hs'.length]
     refine SeqAt.EqAt.of_refs z ?_;have:=SeqAt.RcAt.tuples (e:=dR (cJ n) ds es) p1 p2 (by lia) (dP (x:=.non) (y:=.non) hs hs' r r2 step q2);rw[l1,l2,<-q1] at this;exact this
   |lst h' hs'=>exact flat e
   |dic _ _ _=>exact flat e
   |non=>exact flat e
   |bl _=>exact flat e
   |int _=>exact flat e
   |str _=>exact flat e
  |@lst a xs ds h hs=>
   cases hy with
   |@lst a' ys es h' hs'=>
    cases(show v=Value.ref a from rx);cases(show u=Value.ref a' from ry)
    by_cases z:a=a'
    ·subst z
     have:=I.list_inj (gh.seq h) (gh.seq h');subst this;have:=DenL.uniq I gh hs hs';subst this;rw[gX _ _ _ e];exact SeqAt.EqAt.same _
    ·have e':(if ds.length=es.length then jj (cJ n) ds es else some false)=some b:=e
     obtain⟨its,r,p1,_⟩:=I.list (gh.seq h);obtain⟨its2,r2,p2,_⟩:=I.list (gh.seq h');have l1:its.toArray.size=ds.length:=by simp[<-r.length,hs.length]
     have l2:its2.toArray.size=es.length:=by simp[<-r2.length,hs'.length]
     refine SeqAt.EqAt.of_refs z ?_
     by_cases hl:ds.length=es.length
     ·rw[if_pos hl] at e'
      obtain⟨q1,q2⟩:=cG e';have:=SeqAt.RcAt.lists (e:=dR (cJ n) ds es) p1.isList p2.isList (by rw[l1,l2,hl]) (by lia) (dP (x:=.non) (y:=.non) hs hs' r r2 step q2);rw[l1] at this;rw[<-hl,Nat.min_self] at q1;rw[q1];exact this
     ·rw[if_neg hl] at e'
      cases e';exact SeqAt.RcAt.lists_lengths p1.isList p2.isList (by rw[l1,l2];simpa using hl) (by lia)
   |tup h' hs'=>exact flat e
   |dic _ _ _=>exact flat e
   |non=>exact flat e
   |bl _=>exact flat e
   |int _=>exact flat e
   |str _=>exact flat e
  |dic _ _ _=>cases hy<;>exact flat e
  |non=>cases hy<;>exact flat e
  |bl _=>cases hy<;>exact flat e
  |int _=>cases hy<;>exact flat e
  |str _=>cases hy<;>exact flat e
end
section
variable{X:Cx}
noncomputable def B7(K:PySem.W.Frag)(neg:Bool):R2:=λx y H Q=>∃G dx dy b,aR G H/\b8 K G H x dx/\b8 K G H y dy/\cJ 9 dx dy=some b/\Q (.bl (if neg then !b else b)) H
theorem b8.flat{K:PySem.W.Frag}{G H:Hp}{v:V}{d:D}(h:b8 K G H v d):Den K G v d\/∃ds,d=.lst ds:=by
 rcases h with h | ⟨_,_,ds,_,e,_⟩
 ·exact .inl h
 ·exact .inr ⟨ds,e⟩
theorem zT(hu:X.A.units+64<cLine):OpR X (compareOp .Eq) (B7 X.K false):=by
 intro pins s σ H x y v u Q I rx ry h;obtain⟨G,dx,dy,b,gh,hx,hy,e,q⟩:=h;have step:=λ{dx dy:D} {x y:V} {v u:Value} {b:Bool}=>oV I gh 8 X.A.in1 (by show X.A.units+1+8<cLine;lia) (dx:=dx) (dy:=dy) (x:=x) (y:=y) (v:=v) (u:=u) (b:=b);have fin:∀{k:Bool},k=b->EP X pins σ Q (.bool k) s:=λ{k} z=>⟨.bl k,H,I,rfl,by rw[z];exact q⟩
 have scl:eqS dx dy=some b->wpAny (model X.prog X.w) X.A (compareOp .Eq v u) (EP X pins σ Q) X.xe s:=λe=>by
  obtain⟨h1,h2⟩:=n4 hx hy e;exact Cg pins s σ H x y v u Q I rx ry ⟨h1,by rw[h2];exact q⟩
 cases dx with
 |tup ds=>
  cases dy with
  |tup es=>
   obtain⟨a,xs,rfl,_,h1,h2⟩:=hx.tup gh;obtain⟨a',ys,rfl,_,h3,h4⟩:=hy.tup gh;cases rx;cases ry;obtain⟨c,e1,e2⟩:=br e;obtain⟨q1,q2⟩:=cG e1;obtain⟨its,r,p1,_⟩:=I.tuple h1;obtain⟨its2,r2,p2,_⟩:=I.tuple h3;have l1:its.toArray.size=ds.length:=by simp[<-r.length,h2.length]
   have l2:its2.toArray.size=es.length:=by simp[<-r2.length,h4.length]
   refine SeqAt.RcAt.tuples (e:=dR (cJ 8) ds es) p1 p2 (by lia) (dP (x:=.non) (y:=.non) h2 h4 r r2 step q2) X.prog X.w X.xe _ (fin ?_);rw[l1,l2,<-q1];exact e2
  |_=>exact scl e
 |lst ds=>
  cases dy with
  |lst es=>
   obtain⟨a,xs,rfl,h1,h2⟩:=hx.lst gh;obtain⟨a',ys,rfl,h3,h4⟩:=hy.lst gh;cases rx;cases ry;have e':(if ds.length=es.length then jj (cJ 8) ds es else some false)=some b:=e;obtain⟨its,r,p1,_⟩:=I.list h1;obtain⟨its2,r2,p2,_⟩:=I.list h3;have l1:its.toArray.size=ds.length:=by simp[<-r.length,h2.length]
   have l2:its2.toArray.size=es.length:=by simp[<-r2.length,h4.length]
   by_cases hl:ds.length=es.length
   ·rw[if_pos hl] at e'
    obtain⟨q1,q2⟩:=cG e';refine SeqAt.RcAt.lists (e:=dR (cJ 8) ds es) p1.isList p2.isList (by rw[l1,l2,hl]) (by lia) (dP (x:=.non) (y:=.non) h2 h4 r r2 step q2) X.prog X.w X.xe _ (fin ?_);rw[l1];rw[<-hl,Nat.min_self] at q1;exact q1.symm
   ·rw[if_neg hl] at e'
    cases e';exact SeqAt.RcAt.lists_lengths p1.isList p2.isList (by rw[l1,l2];simpa using hl) (by lia) X.prog X.w X.xe _ (fin rfl)
  |_=>exact scl e
 |_=>cases dy<;>exact scl e
theorem zR(hu:X.A.units+64<cLine):OpR X (compareOp .NotEq) (B7 X.K true):=by
 intro pins s σ H x y v u Q I rx ry h;obtain⟨G,dx,dy,b,gh,hx,hy,e,q⟩:=h;have step:=λ{dx dy:D} {x y:V} {v u:Value} {b:Bool}=>oV I gh 8 X.A.in1 (by show X.A.units+1+8<cLine;lia) (dx:=dx) (dy:=dy) (x:=x) (y:=y) (v:=v) (u:=u) (b:=b);have fin:∀{k:Bool},k = !b->EP X pins σ Q (.bool k) s:=λ{k} z=>⟨.bl k,H,I,rfl,by rw[z];exact q⟩
 have scl:eqS dx dy=some b->wpAny (model X.prog X.w) X.A (compareOp .NotEq v u) (EP X pins σ Q) X.xe s:=λe=>by
  obtain⟨h1,h2⟩:=n4 hx hy e;exact Cw pins s σ H x y v u Q I rx ry ⟨h1,by rw[h2];exact q⟩
 cases dx with
 |tup ds=>
  cases dy with
  |tup es=>
   obtain⟨a,xs,rfl,_,h1,h2⟩:=hx.tup gh;obtain⟨a',ys,rfl,_,h3,h4⟩:=hy.tup gh;cases rx;cases ry;obtain⟨c,e1,e2⟩:=br e;obtain⟨q1,q2⟩:=cG e1;obtain⟨its,r,p1,_⟩:=I.tuple h1;obtain⟨its2,r2,p2,_⟩:=I.tuple h3;have l1:its.toArray.size=ds.length:=by simp[<-r.length,h2.length]
   have l2:its2.toArray.size=es.length:=by simp[<-r2.length,h4.length]
   refine SeqAt.RcNeAt.tuples (e:=dR (cJ 8) ds es) p1 p2 (by lia) (dP (x:=.non) (y:=.non) h2 h4 r r2 step q2) X.prog X.w X.xe _ (fin ?_);rw[l1,l2,<-q1];exact congrArg not e2
  |_=>exact scl e
 |lst ds=>
  cases dy with
  |lst es=>
   obtain⟨a,xs,rfl,h1,h2⟩:=hx.lst gh;obtain⟨a',ys,rfl,h3,h4⟩:=hy.lst gh;cases rx;cases ry;have e':(if ds.length=es.length then jj (cJ 8) ds es else some false)=some b:=e;obtain⟨its,r,p1,_⟩:=I.list h1;obtain⟨its2,r2,p2,_⟩:=I.list h3;have l1:its.toArray.size=ds.length:=by simp[<-r.length,h2.length]
   have l2:its2.toArray.size=es.length:=by simp[<-r2.length,h4.length]
   by_cases hl:ds.length=es.length
   ·rw[if_pos hl] at e'
    obtain⟨q1,q2⟩:=cG e';refine SeqAt.RcNeAt.lists (e:=dR (cJ 8) ds es) p1.isList p2.isList (by rw[l1,l2,hl]) (by lia) (dP (x:=.non) (y:=.non) h2 h4 r r2 step q2) X.prog X.w X.xe _ (fin ?_);rw[l1];rw[<-hl,Nat.min_self] at q1;rw[q1]
   ·rw[if_neg hl] at e'
    cases e';exact SeqAt.RcNeAt.lists_lengths p1.isList p2.isList (by rw[l1,l2];simpa using hl) (by lia) X.prog X.w X.xe _ (fin rfl)
  |_=>exact scl e
 |_=>cases dy<;>exact scl e
noncomputable def aZ:D->D->Option D:=λx y=>(cJ 9 x y).map D.bl
noncomputable def iw:D->D->Option D:=λx y=>(cJ 9 x y).map λb=>D.bl (!b)
theorem bq{k:Nat}(hr:Room k X.A):OpD X (compareOp .Eq) aZ:=⟨_,zT hr.units,λG H x y dx dy d Q gh hx hy e q=>by
 obtain⟨b,e1,rfl⟩:=br e
 exact⟨G,dx,dy,b,gh,hx,hy,e1,q _ G H (.refl gh) (.bl _)⟩⟩
theorem js{k:Nat}(hr:Room k X.A):OpD X (compareOp .NotEq) iw:=⟨_,zR hr.units,λG H x y dx dy d Q gh hx hy e q=>by
 obtain⟨b,e1,rfl⟩:=br e
 exact⟨G,dx,dy,b,gh,hx,hy,e1,q _ G H (.refl gh) (.bl _)⟩⟩
end
section
variable{prog:Program}{w:World}{Ar:Around}{Rs:Result->Shared->Prop}{It S:Addr}{fp wr:List Addr}{n:Nat}{Pv:Nat->Value->Prop}{St:Nat->Heap->Prop}{kw:List (Str×Value)}
theorem eT:(toString "max" ++ toString ".loop" : String) = "max.loop":=by decide
theorem BZ(W:Walks prog w Ar.in1 It fp wr n Pv St){bt:Nat->Nat->Bool}(cmp:CmpOf prog w Ar.in1 .Gt Pv bt)(apart:S∉fp):∀(k j:Nat) (t:Shared) (best:Value) (c:Nat),j+1+k=n->St (j+1) t.heap->Pv (argBest bt j) best->IsL t.heap S #[best,best] c->
  (∀v g tk,Pv (argBest bt (n-1)) v->(∀b o,b∉wr->b≠S->t.heap.get? b=some o->g.get? b=some o)->Rs (.ok (.ret v)) { t with heap:=g,toks:=tk })->codeAny (model prog w) Ar (.builtin "max.loop" ⟨[.ref It,.none,.ref S],kw⟩) Rs t:=by
 have away:S∉wr:=λz=>apart (W.sub _ z);intro k
 induction k with
 |zero=>
  intro j t best c ej st hb hS want;refine codeAny_builtin F.entry_max_loop ?_;rw[Around.under_plainId F.plain_max_loop _];refine wpAny_bind (m:=seqItems? (.ref S)) (wpAny_seqItems hS rfl ?_);refine wpAny_bind (wpAny_tryCatch (W.done t _ _ (ej▸st) λg tk kept=>?_));have hS1:IsL g S #[best,best] c:=kept S _ away hS;refine wpAny_bind (m:=updateSeq S (λ_=>#[])) (wpAny_updateSeq hS1 rfl (wpAny_bind (wpAny_letGo (wpAny_pure ?_))));refine want best _ tk (by rw[<-ej];exact hb) λb o q1 q2 e=>(Heap.get?_update_other _ _ (Ne.symm q2)).trans (kept b o q1 e)
 |succ k ih=>
  intro j t best c ej st hb hS want;have more:j+1<n:=by lia
  refine codeAny_builtin F.entry_max_loop ?_;rw[Around.under_plainId F.plain_max_loop _];refine wpAny_bind (m:=seqItems? (.ref S)) (wpAny_seqItems hS rfl ?_);refine wpAny_bind (wpAny_tryCatch (W.item (j+1) t _ _ more st λv g tk hv st1 kept=>?_));have hS1:IsL g S #[best,best] c:=kept S _ away hS;refine wpAny_bind (wpAny_pure ?_);refine wpAny_bind (wpAny_tryCatch (wpAny_holding (wpAny_bind (cmp (j+1) (argBest bt j) v best _ _ _ hv hb (wpAny_bind (wpAny_holding (wpAny_truthy_bool (wpAny_bind (wpAny_letGo (wpAny_pure ?_))))))))));cases yes:bt (j+1) (argBest bt j) with
  |true=>
   rw[if_pos rfl];refine wpAny_bind (m:=updateSeq S (λ_=>#[v,v])) (wpAny_updateSeq hS1 rfl (wpAny_bind (wpAny_letGo ?_)));rw[eT];refine wpAny_pure ⟨plainId_quiet F.plain_max_loop _,ih (j+1) _ v _ (by lia) (W.frame _ _ _ st1 λb q o e=>(Heap.get?_update_other _ _ (λz:S=b=>apart (by rw[z];exact q))).trans e) ?_ (Heap.get?_update_self _ hS1 rfl) λv2 g2 tk2 hv2 kept2=>want v2 g2 tk2 hv2 λb o q1 q2 e=>kept2 b o q1 q2 ((Heap.get?_update_other _ _ (Ne.symm q2)).trans (kept b o q1 e))⟩;unfold argBest;rw[if_pos yes];exact hv
  |false=>
   rw[if_neg Bool.false_ne_true];refine wpAny_bind (wpAny_letGo ?_);rw[eT];refine wpAny_pure ⟨plainId_quiet F.plain_max_loop _,ih (j+1) _ best c (by lia) st1 ?_ hS1 λv2 g2 tk2 hv2 kept2=>want v2 g2 tk2 hv2 λb o q1 q2 e=>kept2 b o q1 q2 (kept b o q1 e)⟩;unfold argBest;rw[yes,if_neg Bool.false_ne_true];exact hb
theorem wG(W:Walks prog w Ar.in1 It fp wr n Pv St){bt:Nat->Nat->Bool}(cmp:CmpOf prog w Ar.in1 .Gt Pv bt)(apart:S∉fp){t:Shared}{c:Nat}{d:Value}{nm:Str}(st:St 0 t.heap)(hS:IsL t.heap S #[] c)
  (want:∀v g tk,((n=0/\v=d)\/(0<n/\Pv (argBest bt (n-1)) v))->(∀b o,b∉wr->b≠S->t.heap.get? b=some o->g.get? b=some o)->Rs (.ok (.ret v)) { t with heap:=g,toks:=tk }) :
  codeAny (model prog w) Ar (.builtin "max.loop" ⟨[.ref It,.none,.ref S],[(nm,d)]⟩) Rs t:=by
 have away:S∉wr:=λz=>apart (W.sub _ z);refine codeAny_builtin F.entry_max_loop ?_;rw[Around.under_plainId F.plain_max_loop _];refine wpAny_bind (m:=seqItems? (.ref S)) (wpAny_seqItems hS rfl ?_)
 by_cases hn:n=0
 ·refine wpAny_bind (wpAny_tryCatch (W.done t _ _ (hn▸st) λg tk kept=>?_))
  exact wpAny_bind (wpAny_rule (wpAny_pure (want d g tk (.inl ⟨hn,rfl⟩) λb o q1 _ e=>kept b o q1 e)))
 ·have pos:0<n:=Nat.pos_of_ne_zero hn
  refine wpAny_bind (wpAny_tryCatch (W.item 0 t _ _ pos st λv g tk hv st1 kept=>?_));have hS1:IsL g S #[] c:=kept S _ away hS;refine wpAny_bind (wpAny_pure ?_);refine wpAny_bind (m:=updateSeq S (λ_=>#[v,v])) (wpAny_updateSeq hS1 rfl ?_);rw[eT]
  exact wpAny_pure ⟨plainId_quiet F.plain_max_loop _,BZ W cmp apart (n-1) 0 _ v _ (by lia) (W.frame _ _ _ st1 λb q o e=>(Heap.get?_update_other _ _ (λz:S=b=>apart (by rw[z];exact q))).trans e) hv (Heap.get?_update_self _ hS1 rfl)
   λv2 g2 tk2 hv2 kept2=>want v2 g2 tk2 (.inr ⟨pos,hv2⟩) λb o q1 q2 e=>kept2 b o q1 q2 ((Heap.get?_update_other _ _ (Ne.symm q2)).trans (kept b o q1 e))⟩
end
noncomputable def mxI:Int->List Int->Int
 |m,[]=>m
 |m,x::xs=>mxI (if x>m then x else m) xs
theorem oH:∀(xs:List Int) (m:Int),(mxI m xs=m\/mxI m xs∈xs)/\m<=mxI m xs/\∀a∈xs,a<=mxI m xs
 |[],m=>⟨.inl rfl,Int.le_refl _,λa h=>by cases h⟩
 |x::xs,m=>by
  obtain⟨h1,h2,h3⟩:=oH xs (if x>m then x else m);show(mxI (if x>m then x else m) xs=m\/_)/\_;have c1:m<=(if x>m then x else m):=by split<;>lia
  have c2:x<=(if x>m then x else m):=by split<;>lia
  refine⟨?_,Int.le_trans c1 h2,λa ha=>?_⟩
  ·rcases h1 with h1 | h1
   ·by_cases g:x>m
    ·rw[if_pos g] at h1 ⊢;exact .inr (by rw[show mxI m (x::xs)=mxI (if x>m then x else m) xs from rfl,if_pos g,h1];exact List.mem_cons_self)
    ·rw[if_neg g] at h1 ⊢;exact .inl h1
   ·exact .inr (List.mem_cons_of_mem _ h1)
  ·rcases List.mem_cons.mp ha with z | z
   ·rw[z];exact Int.le_trans c2 h2
   ·exact h3 a z
theorem uO{m M:Int}{xs:List Int}(h1:M∈m::xs)(h2:∀a∈m::xs,a<=M):M=mxI m xs:=by
 obtain⟨q1,q2,q3⟩:=oH xs m
 have u1:mxI m xs<=M:=by
  rcases q1 with z | z
  ·rw[z];exact h2 m List.mem_cons_self
  ·exact h2 _ (List.mem_cons_of_mem _ z)
 have u2:M<=mxI m xs:=by
  rcases List.mem_cons.mp h1 with z | z
  ·rw[z];exact q2
  ·exact q3 M z
 lia
noncomputable def bR:List D->Option (List Int)
 |[]=>some []
 |.int i::ds=>(bR ds).bind λr=>some (i::r)
 |_=>none
theorem mv(l:List Int):bR (l.map D.int)=some l:=by
 induction l with
 |nil=>rfl
 |cons i l ih=>show(bR (l.map D.int)).bind _=_;rw[ih];rfl
theorem cE{K:PySem.W.Frag}{G:Hp}{xs:List V}{ds:List D}{ns:List Int}(h:DenL K G xs ds):bR ds=some ns->xs=ns.map V.int:=by
 refine DenL.ind (P:=λxs ds=>∀ns,bR ds=some ns->xs=ns.map V.int) (λns e=>by cases e;rfl) (λ{x d xs ds} h _ y ns e=>?_) h ns;cases d with
 |int i=>
  obtain⟨r,e1,e2⟩:=aq (show(bR ds).bind _=some ns from e);cases e2;rw[h.intV,y _ e1];rfl
 |_=>cases e
section
variable{prog:Program}{w:World}{Ar:Around}{Ex:Value->Shared->Prop}{t:Shared}
theorem qR{id:String}{b:Builtin}{args:List Value}{kw:List (Str×Value)}{Q:Value->Shared->Prop}(hk:builtinKind id=none)(hp:plainId id=true)(hb:entryFor table id=some b)(ha:argsOk id ⟨args,kw⟩)
  (hc:wpAny (model prog w) Ar.in1 (b ⟨args,kw⟩) (λfin t'=>match fin with
   |.done f=>match(Except.ok f:Result) with
    |.ok (.ret v)=>Q v t'
    |.ok _=>False
    |.error e=>Ex e t'
   |.again c'=>c'.quiet=true/\codeAny (model prog w) Ar c' (λr t'=>match r with
    |.ok (.ret v)=>Q v t'
    |.ok _=>False
    |.error e=>Ex e t') t') Ex t):wpAny (model prog w) Ar (call (.builtin id) args kw) Q Ex t:=by
 refine wpAny_call (codeAny_call_builtin hp hb ?_);simp only[checkBuiltinCall,hk];cases sg:Manifest.signature? id with
 |none=>exact wpAny_pure hc
 |some sig=>
  have ok:Bind.checkArgs id sig ⟨args,kw⟩=pure ():=by simpa only[argsOk,sg] using ha
  simp only[ok];exact wpAny_pure hc
theorem tx(a d:Value):argsOk "max" ⟨[a],[("default",d)]⟩:=by unfold argsOk;kernel_rfl
theorem zH{l:Addr}{d:Value}{xs:Array (Int×Tok)}{Q:Value->Shared->Prop}(hh:Ar.handled=none)(ls:t.heap.IsList l (intItems xs))
  (want:∀v g tk,((xs.size=0/\v=d)\/(0<xs.size/\(intItems xs)[argBest (λi j=>decide (numAt xs i>numAt xs j)) (xs.size-1)]?=some v))->(∀b o,t.heap.get? b=some o->g.get? b=some o)->Q v { t with heap:=g,toks:=tk }) :
  wpAny (model prog w) Ar (call (.builtin "max") [.ref l] [("default",d)]) Q Ex t:=by
 refine qR F.kind_max F.plain_max F.entry_max (tx _ _) ?_;refine wpAny_bind (m:=Builtin.Builtins.bindParams "max" ["key","default"] 0 ⟨[],[("default",d)]⟩) (wpAny_of_eq (a:=[none,some d]) rfl (wpAny_bind (wpAny_pure ?_)));refine wpAny_bind (iter_intList ls λt2 e st hfp hl=>?_);subst e;refine wpAny_bind (wpAny_newObj_type ?_);have sz:(intItems xs).size=xs.size:=by simp[intItems]
 have W:=Walks.list (prog:=prog) (w:=w) (A:=Ar.in1) hh t.heap.objs.size l hl (intItems xs);have ap:(t.heap.push { cls:=.type "list_iterator",data:=.fields #[.ref l,.int 0 0] }).objs.size∉[t.heap.objs.size,l]:=λz=>Nat.lt_irrefl _ (hfp _ z);rw[eT];refine wpAny_pure ⟨plainId_quiet F.plain_max_loop _,wG W (CmpOf.ints_gt (numAt xs) (λ_ _=>intItems_at)) ap (W.frame _ _ _ st λb _ o e=>Heap.get?_push_of_some _ e) (Heap.get?_push_size _ rfl) λv g tk hv kept=>?_⟩;refine want v g tk (by rw[sz] at hv;exact hv) λb o e=>?_;have lt:=Heap.lt_size e;refine kept b o (λz=>?_) (Nat.ne_of_lt (Nat.lt_of_lt_of_le lt (by rw[Heap.size_push];exact Nat.le_succ _))) (Heap.get?_push_of_some _ (Heap.get?_push_of_some _ e));rw[List.mem_singleton.mp z] at lt;exact Nat.lt_irrefl _ lt
end
section
variable{X:Cx}{a c:Expr}{fa fc:Ev->Option D}{pos:Pos}
theorem qL{its:List Value}{ns:List Int}{xs:Array (Int×Tok)}(hi:IntsAre its ns)(e:its.toArray=intItems xs){v:Value}{m:Int}{r:List Int}(en:ns=m::r)
  (hv:(intItems xs)[argBest (λi j=>decide (numAt xs i>numAt xs j)) (xs.size-1)]?=some v):∃tk,v=.int (mxI m r) tk:=by
 have hns:ns=xs.toList.map (·.1):=by rw[<-hi.numsOf,<-nums_intItems,<-e]
 have hsz:ns.length=xs.size:=by rw[hns];simp
 obtain⟨tk,rfl⟩:=intItems_at hv;obtain⟨b1,b2⟩:=argBest_gt (numAt xs) (xs.size-1);have pos:0<xs.size:=by rw[<-hsz,en];simp
 refine⟨tk,?_⟩
 have hm:numAt xs (argBest (λi j=>decide (numAt xs i>numAt xs j)) (xs.size-1))=mxI m r:=by
  refine uO ?_ λu hu=>?_
  ·rw[<-en,hns,numAt_eq];exact getD_mem (by rw[List.length_map,Array.length_toList];lia)
  ·rw[<-en,hns] at hu
   obtain⟨j,hj,rfl⟩:=mem_getD hu;rw[List.length_map,Array.length_toList] at hj;rw[<-numAt_eq];exact b2 j (by lia)
 rw[hm]
noncomputable def oG:D->D->Option D:=λx d=>match x with | .lst ds=>(match bR ds with | some []=>some d | some (m::r)=>some (.int (mxI m r)) | none=>none) | _=>none
theorem uL{p kp:Pos}(ha:DE X a fa)(hd:DE X c fc)(hc:X.calm=true)(hm:X.mg "max" = none)(hg:Gl X "max":=by rfl)
  (hst:starEach [a] X.env=(false,eval a X.env)::starEach [] X.env:=by rfl) (he:backTo pos (starEach [a] X.env)=(false,eval a X.env)::backTo pos (starEach [] X.env):=by rfl) (hpl:(backTo pos (starEach [a] X.env)).any (·.1)=false:=by rfl)
  (hall:(backToKw pos (keywordEach [⟨some "default",c,kp⟩] X.env)).all (·.1.isSome)=true:=by rfl) (hkw:(backToKw pos (keywordEach [⟨some "default",c,kp⟩] X.env)).any (·.1.isNone)=false:=by rfl)
  (hnm:(backToKw pos (keywordEach [⟨some "default",c,kp⟩] X.env)).filterMap (·.1)=[Str.ofString "default"]:=by rfl):DE X (.Call (.Name "max" p) [a] [⟨some "default",c,kp⟩] pos) (e2 oG fa fc):=by
 obtain⟨ta,a1,a2⟩:=ha;obtain⟨tc,c1,c2⟩:=hd;refine⟨λσ H Q=>r8 ta yy σ H λvs H1=>r8 tc yy σ H1 λzs H2=>∃l ns v,vs=[.ref l]/\zs=[v]/\SqL X.K H2 l (ns.map V.int)/\(ns=[]->Q v H2)/\∀m r,ns=m::r->Q (.int (mxI m r)) H2,λpins s σ H Q I h=>?_,λHe G H σ ε d Q gh E ef q=>?_⟩
 ·refine wpAny_Call_Name_kw (jg I hg hm boot_max ?_ (by decide) (by decide))
  refine callWith_kw (thn (b7 a1 da hst pos pins s σ H _ I h) λus s1 ⟨vs,H1,I1,r1,q1⟩=>?_) he hpl hall hkw;refine thn (xS (nm:=some "default") (kpos:=kp) c1 AZ pos pins s1 σ H1 _ I1 q1) λws s2 ⟨zs,H2,I2,r2,q2⟩=>?_;obtain⟨l,ns,v,rfl,rfl,hq,qe,qc⟩:=q2;obtain⟨u,rfl,ru⟩:=r1.one;obtain⟨uv,rfl,rv⟩:=r2.one;cases ru;obtain⟨its,r,pl,hz⟩:=I2.list hq;have hi:IntsAre its ns:=dY r;have⟨xs,e⟩:=hi.allInts.items
  have hsz:ns.length=xs.size:=by
   have:ns=xs.toList.map (·.1):=by rw[<-hi.numsOf,<-nums_intItems,<-e]
   rw[this];simp
  have hl:=pl.isList;rw[e] at hl;rw[hnm];refine zH (I2.ok.hd hc) hl λv' g tk hv kept=>?_;have I3:=I2.kept (t':=tk) kept;rcases hv with⟨z,rfl⟩ | ⟨z,hv⟩
  ·exact⟨v,H2,I3,rv,qe (List.eq_nil_of_length_eq_zero (by lia))⟩
  ·cases en:ns with
   |nil=>rw[en] at hsz;simp at hsz;lia
   |cons m r=>
    obtain⟨tk',rfl⟩:=qL hi e en hv;exact⟨.int (mxI m r),H2,I3,⟨_,rfl⟩,qc m r en⟩
 ·obtain⟨x,e1,ef⟩:=aq ef
  obtain⟨y,e2',ef⟩:=aq ef;refine a2 He G H σ ε x _ gh E e1 λv1 G1 H1 g1 d1=>?_;refine c2 He G1 H1 σ ε y _ g1.gh (E.grow g1) e2' λv2 G2 H2 g2 d2=>?_;unfold oG at ef;split at ef
  ·obtain⟨l,xs,rfl,h1,h2⟩:=d1.lstV
   have g:=g1.trans g2;split at ef
   ·rename_i et
    cases ef;have:=cE h2 et;subst this;exact⟨l,[],v2,rfl,rfl,(g2.gg.trans g2.gh).seq h1,λ_=>q _ G2 H2 g d2,λm r z=>(nomatch z)⟩
   ·rename_i m r et
    cases ef;have:=cE h2 et;subst this
    exact⟨l,m::r,v2,rfl,rfl,(g2.gg.trans g2.gh).seq h1,(λz=>nomatch z),λm' r' z=>by
     cases z
     exact q _ G2 H2 g (.int _)⟩
   ·cases ef
  ·cases ef
noncomputable def uD:List D->Option D
 |[.lst ds]=>(match bR ds with | some (m::r)=>some (.int (mxI m r)) | _=>none)
 |_=>none
theorem xv(hc:X.calm=true):pj X (.builtin "max") uD:=by
 refine⟨λxs H Q=>∃l m r,xs=[.ref l]/\SqL X.K H l ((m::r).map V.int)/\Q (.int (mxI m r)) H,λpins s σ H xs us Q I rv h=>?_,λG H vs ds d Q gh hd e q=>?_⟩
 ·obtain⟨l,m,r,rfl,hq,q⟩:=h
  obtain⟨u,rfl,ru⟩:=rv.one;cases ru;obtain⟨its,rr,pl,hz⟩:=I.list hq;have hi:IntsAre its (m::r):=dY rr;have⟨xs,e⟩:=hi.allInts.items
  have hsz:(m::r).length=xs.size:=by
   have:(m::r)=xs.toList.map (·.1):=by rw[<-hi.numsOf,<-nums_intItems,<-e]
   rw[this];simp
  have hl:=pl.isList;rw[e] at hl;refine max_intList (I.ok.hd hc) hl (by rw[<-hsz];simp) λv g tk hv kept=>?_;obtain⟨tk',rfl⟩:=qL hi e rfl hv;exact⟨.int (mxI m r),H,I.kept (t':=tk) kept,⟨_,rfl⟩,q⟩
 ·unfold uD at e
  split at e
  ·split at e
   ·rename_i m r et
    cases e
    cases hd with | cons h1 h2=>
     cases h2;obtain⟨l,xs,rfl,h3,h4⟩:=h1.lstV;have:=cE h4 et;subst this;exact⟨l,m,r,rfl,gh.seq h3,q _ G H (.refl gh) (.int _)⟩
   ·cases e
  ·cases e
end
noncomputable def jA:List D->Option (List Bool)
 |[]=>some []
 |.bl b::ds=>(jA ds).bind λr=>some (b::r)
 |_=>none
theorem tZ{K:PySem.W.Frag}{G:Hp}{xs:List V}{ds:List D}{ns:List Bool}(h:DenL K G xs ds):jA ds=some ns->xs=ns.map V.bl:=by
 refine DenL.ind (P:=λxs ds=>∀ns,jA ds=some ns->xs=ns.map V.bl) (λns e=>by cases e;rfl) (λ{x d xs ds} h _ y ns e=>?_) h ns;cases d with
 |bl i=>
  obtain⟨r,e1,e2⟩:=aq (show(jA ds).bind _=some ns from e);cases e2;rw[h.blV,y _ e1];rfl
 |_=>cases e
theorem oa:∀{bs:List Bool} {us:List Value},aV (bs.map V.bl) us->us=bs.map Value.bool
 |[],_,.nil=>rfl
 |b::bs,_,.cons r rs=>by rw[oa rs,show _=Value.bool b from r];rfl
theorem l_:∀bs:List Bool,(List.range bs.length).all (λi=>(bs[i]?).getD true)=bs.all id
 |[]=>rfl
 |b::bs=>by
  rw[List.length_cons,List.range_succ_eq_map,List.all_cons,List.all_map,List.all_cons,<-l_ bs];rfl
section
variable{X:Cx}{a b c:Expr}{fa fb fc:Ev->Option D}{pos:Pos}
noncomputable def o6:List D->Option D
 |[.lst ds]=>(jA ds).bind λbs=>some (.bl (bs.all id))
 |_=>none
theorem zN(hc:X.calm=true):pj X (.builtin "all") o6:=by
 refine⟨λxs H Q=>∃(l:Addr) (bs:List Bool),xs=[.ref l]/\SqL X.K H l (bs.map V.bl)/\Q (.bl (bs.all id)) H,λpins s σ H xs us Q I rv h=>?_,λG H vs ds d Q gh hd e q=>?_⟩
 ·obtain⟨l,bs,rfl,hq,q⟩:=h
  obtain⟨u,rfl,ru⟩:=rv.one;cases ru;obtain⟨its,rr,pl,hz⟩:=I.list hq;have ei:=oa rr;subst ei;have hl:=pl.isList;have lt:l<s.heap.objs.size:=let⟨_,there,_⟩:=hl;Heap.lt_size there;apply call_all_walk;apply wpAny_pyIter_list hl;refine⟨s.heap.objs.size,_,_,_,_,_,λi=>(bs[i]?).getD true,rfl,Walks.list (A:=X.A.in1) (I.ok.hd hc) _ l (Nat.ne_of_lt lt) _,⟨⟨_,Heap.get?_push_size _ rfl,rfl,rfl⟩,hl.push _⟩,λi v t Q' E' hv hQ=>?_,λg tk kept=>?_⟩
  ·have hv':(bs.map Value.bool)[i]?=some v:=by simpa using hv
   rw[List.getElem?_map] at hv';obtain⟨k,ek,rfl⟩:=br hv';have hQ2:Q' k t:=by simpa[ek] using hQ
   exact wpAny_truthy_bool hQ2
  ·refine⟨.bl (bs.all id),H,I.kept (t':=tk) λb o e=>kept b o (λz=>?_) (Heap.get?_push_of_some _ e),?_,q⟩
   ·rw[List.mem_singleton.mp z] at e
    exact absurd (Heap.lt_size e) (Nat.lt_irrefl _)
   ·have hn:(bs.map Value.bool).toArray.size=bs.length:=by simp
    rw[hn,l_];rfl
 ·unfold o6 at e
  split at e
  ·obtain⟨bs,eb,e⟩:=aq e
   cases e
   cases hd with | cons h1 h2=>
    cases h2;obtain⟨l,xs,rfl,h3,h4⟩:=h1.lstV;have:=tZ h4 eb;subst this;exact⟨l,bs,rfl,gh.seq h3,q _ G H (.refl gh) (.bl _)⟩
  ·cases e
theorem vw(i j:Nat){x y:Str}{ga:Ev->Option (List D)}{px py pt:Pos}{kt k2 pt2}(hN:X.N.Nodup)(ha:DA X [a,b] ga)(hc:X.calm=true:=by rfl)(hi:X.N[i]?=some x:=by rfl)(hj:X.N[j]?=some y:=by rfl)(hij:i≠j:=by decide)
  (hx:X.env.scope.names.lookup x=some .local:=by rfl) (hy:X.env.scope.names.lookup y=some .local:=by rfl)
  (hw:swappedStores [.Tuple [.Name x px,.Name y py] kt pt] (.Tuple [a,b] k2 pt2) X.env=pure (some [x,y]):=by rfl)
  (hs:swapsWithSole [.Tuple [.Name x px,.Name y py] kt pt] (.Tuple [a,b] k2 pt2) pos.line X.env=pure false:=by rfl) :
  DS X (.Assign [.Tuple [.Name x px,.Name y py] kt pt] (.Tuple [a,b] k2 pt2) pos) (xB i j ga):=by
 obtain⟨t,a1,a2⟩:=ha;refine⟨_,Bo hc hN hi hj hij hx hy a1 hw hs,λHe Ge G H σ ε r W S e P=>?_⟩;unfold xB at e;split at e
 ·rename_i dx dy eg
  cases e;refine a2 He G H σ ε _ _ S.g.gh S.e eg λvs G' H' g hd=>?_
  cases hd with | cons h1 h2=>cases h2 with | cons h2 h3=>
   cases h3;exact⟨_,_,rfl,P _ G' H' ⟨S.g.trans g,((S.e.grow g).put h1).put h2⟩⟩
 ·cases e
end
theorem nN{a b:Nat}(h:a≠b):@Ne Addr a b:=h
noncomputable def SIt(t:Bool)(h:Heap)(it l:Addr)(i:Nat):Prop:=match t with | true=>h.IsTupleIter it l i | false=>h.IsListIter it l i
noncomputable def SSq(t:Bool)(h:Heap)(l:Addr)(xs:Array Value):Prop:=match t with | true=>h.IsTuple l xs | false=>h.IsList l xs
noncomputable def SqB(t:Bool)(K:PySem.W.Frag)(H:Hp)(l:Addr)(xs:List V):Prop:=match t with | true=>SqT K H l xs | false=>SqL K H l xs
theorem SIt.to{t:Bool}{h h':Heap}{it l:Addr}{i:Nat}(q:SIt t h it l i)(k:∀o,h.get? it=some o->h'.get? it=some o):SIt t h' it l i:=by
 cases t with
 |true=>exact let⟨o,e,r⟩:=q;⟨o,k o e,r⟩
 |false=>exact let⟨o,e,r⟩:=q;⟨o,k o e,r⟩
theorem SSq.to{t:Bool}{h h':Heap}{l:Addr}{xs:Array Value}(q:SSq t h l xs)(k:∀o,h.get? l=some o->h'.get? l=some o):SSq t h' l xs:=by
 cases t with
 |true=>exact let⟨o,e,r⟩:=q;⟨o,k o e,r⟩
 |false=>exact let⟨o,e,r⟩:=q;⟨o,k o e,r⟩
theorem SIt.there{t:Bool}{h:Heap}{it l:Addr}{i:Nat}(q:SIt t h it l i):∃o,h.get? it=some o/\∀v,o.data≠.cell v:=by
 cases t with
 |true=>exact let⟨o,e,c,d⟩:=q;⟨o,e,λv z=>by rw[d] at z;cases z⟩
 |false=>exact let⟨o,e,c,d⟩:=q;⟨o,e,λv z=>by rw[d] at z;cases z⟩
theorem SSq.lt{t:Bool}{h:Heap}{l:Addr}{xs:Array Value}(q:SSq t h l xs):l<h.objs.size:=by
 cases t with
 |true=>exact let⟨o,e,r⟩:=q;Heap.lt_size e
 |false=>exact let⟨o,e,r⟩:=q;Heap.lt_size e
theorem fC{X:Cx}{pins:List (Addr×Obj)}{σ:L2.St}{H:Hp}{s:Shared}{t:Bool}{a:Addr}{xs:List V}(I:Inv X pins σ H s)(h:SqB t X.K H a xs):∃its:List Value,aV xs its/\SSq t s.heap a its.toArray:=by
 cases t with
 |true=>exact let⟨its,r,p,_⟩:=I.tuple h;⟨its,r,p⟩
 |false=>exact let⟨its,r,p,_⟩:=I.list h;⟨its,r,p.isList⟩
theorem iA{X:Cx}{pins:List (Addr×Obj)}{σ:L2.St}{H:Hp}{s:Shared}{t:Bool}{a:Addr}{xs ys:List V}(I:Inv X pins σ H s)(h:SqB t X.K H a xs)(h':SqB t X.K H a ys):xs=ys:=by
 cases t with
 |true=>exact I.tuple_inj h h'
 |false=>exact I.list_inj h h'
section
variable{prog:Program}{w:World}{A:Around}{E:Value->Shared->Prop}{s:Shared}
theorem zJ{it l:Addr}{i:Nat}{items:Array Value}{x:Value}{Q:Value->Shared->Prop}(ht:s.heap.IsTupleIter it l i)(hl:s.heap.IsTuple l items)(hx:items[i]?=some x)
  (q:∀h',h'.IsTupleIter it l (i+1)->Heap.SameBut it s.heap h'->Q x { s with heap:=h' }):wpAny (model prog w) A (Builtin.SmallTypes.nextOf (.ref it)) Q E s:=by
 obtain⟨o,e1,e2,e3⟩:=id ht;obtain⟨u,e4,_,m,e5⟩:=hl;unfold Builtin.SmallTypes.nextOf;refine wpAny_bind (wpAny_callSpecial?_slot (name:=Str.ofString "__next__") ht.typeIs F.slot_tuple_iterator_next (wpAny_call_entry F.slot_tuple_iterator_next ht.typeIs F.entry_tuple_iterator_next ?_ (F.args_tuple_iterator_next_1 _)))
 change wpAny _ _ (field (.ref it) 0>>=_) _ _ s
 refine wpAny_bind (wpAny_field e1 e3 (x:=.ref l) rfl ?_)
 change wpAny _ _ (if(Value.ref l==Value.none)=true then _ else _) _ _ s
 rw[if_neg (show ¬((Value.ref l==Value.none)=true) from λz=>Bool.noConfusion z)]
 change wpAny _ _ (field (.ref it) 1>>=_) _ _ s
 refine wpAny_bind (wpAny_field e1 e3 (x:=.int i 0) rfl ?_)
 change wpAny _ _ (seqItems? (.ref l)>>=_) _ _ s
 refine wpAny_bind (wpAny_seqItems e4 e5 ?_);simp only[hx,Int.toNat_natCast];refine wpAny_bind (wpAny_setField e1 e3 (by simp) (wpAny_pure ⟨x,rfl,wpAny_pure (q _ ⟨_,Heap.get?_update_self _ e1 (Obj.isFreed_of_fields (Obj.data_mapFields e3 _)),(Obj.cls_mapFields ..).trans e2,?_⟩ (Heap.SameBut.update ..))⟩));rw[Obj.data_mapFields e3];simp[rawInt]
theorem qb{it l:Addr}{i:Nat}{items:Array Value}{Q:Value->Shared->Prop}(hh:A.handled=none)(ht:s.heap.IsTupleIter it l i)(hl:s.heap.IsTuple l items)(hx:items[i]?=none)
  (q:∀h' e,Heap.ExtBut it s.heap h'->(∃o,h'.get? e=some o/\o.cls=.type "StopIteration")->E (.ref e) { s with heap:=h' }):wpAny (model prog w) A (Builtin.SmallTypes.nextOf (.ref it)) Q E s:=by
 obtain⟨o,e1,e2,e3⟩:=id ht;obtain⟨u,e4,_,m,e5⟩:=hl;unfold Builtin.SmallTypes.nextOf;refine wpAny_bind (wpAny_callSpecial?_slot (name:=Str.ofString "__next__") ht.typeIs F.slot_tuple_iterator_next (wpAny_call_entry F.slot_tuple_iterator_next ht.typeIs F.entry_tuple_iterator_next ?_ (F.args_tuple_iterator_next_1 _)))
 change wpAny _ _ (field (.ref it) 0>>=_) _ _ s
 refine wpAny_bind (wpAny_field e1 e3 (x:=.ref l) rfl ?_)
 change wpAny _ _ (if(Value.ref l==Value.none)=true then _ else _) _ _ s
 rw[if_neg (show ¬((Value.ref l==Value.none)=true) from λz=>Bool.noConfusion z)]
 change wpAny _ _ (field (.ref it) 1>>=_) _ _ s
 refine wpAny_bind (wpAny_field e1 e3 (x:=.int i 0) rfl ?_)
 change wpAny _ _ (seqItems? (.ref l)>>=_) _ _ s
 refine wpAny_bind (wpAny_seqItems e4 e5 ?_);simp only[hx,Int.toNat_natCast];refine wpAny_bind (wpAny_rule (wpAny_bind (wpAny_setField e1 e3 (by simp) ?_)))
 change wpAny _ _ (newExc (.type "StopIteration") []>>=_) _ _ _
 refine wpAny_bind ?_;simp only[newTuple,newExc];refine wpAny_bind (wpAny_newObj_type (wpAny_bind (m:=firstArgMember _ _) (wpAny_of_eq (a:=Value.none) (by first | rfl | (simp only[firstArgMember];rfl)) (wpAny_newObj_type ?_ (by size_fits)))) (by size_fits));simp only[raiseNew];refine wpAny_bind (wpAny_handled ?_);rw[hh];exact wpAny_bind (wpAny_pure (wpAny_throw (q _ _ (((Heap.SameBut.update ..).extBut.push _).push _) ⟨_,Heap.get?_push_size _ rfl,rfl⟩)))
theorem Bn{t:Bool}{it l:Addr}{i:Nat}{items:Array Value}{x:Value}{Q:Value->Shared->Prop}(ht:SIt t s.heap it l i)(hl:SSq t s.heap l items)(hx:items[i]?=some x)
  (q:∀h',SIt t h' it l (i+1)->Heap.SameBut it s.heap h'->Q x { s with heap:=h' }):wpAny (model prog w) A (Builtin.SmallTypes.nextOf (.ref it)) Q E s:=by
 cases t with
 |true=>exact zJ ht hl hx q
 |false=>exact wpAny_nextOf_list_item ht hl hx q
theorem oN{t:Bool}{it l:Addr}{i:Nat}{items:Array Value}{Q:Value->Shared->Prop}(hh:A.handled=none)(ht:SIt t s.heap it l i)(hl:SSq t s.heap l items)(hx:items[i]?=none)
  (q:∀h' e,Heap.ExtBut it s.heap h'->(∃o,h'.get? e=some o/\o.cls=.type "StopIteration")->E (.ref e) { s with heap:=h' }):wpAny (model prog w) A (Builtin.SmallTypes.nextOf (.ref it)) Q E s:=by
 cases t with
 |true=>exact qb hh ht hl hx q
 |false=>exact wpAny_nextOf_list_end hh ht hl hx q
theorem wY{t:Bool}{N l1 l2:Nat}{k:Nat}{xs ys:Array Value}{x y a b:Value}{Q:Value->Shared->Prop}(p1:l1<N)(p2:l2<N)(hz:IsZip s.heap (N+4) (N+2) (N+3) .none)
  (hI:IsPair s.heap (N+2) (.ref N) (.ref (N+1))) (hO:IsPair s.heap (N+3) a b) (h1:SIt t s.heap N l1 k) (h2:SIt t s.heap (N+1) l2 k) (g1:SSq t s.heap l1 xs) (g2:SSq t s.heap l2 ys) (hx:xs[k]?=some x) (hy:ys[k]?=some y)
  (q:∀h',IsZip h' (N+4) (N+2) (N+3) (rawInt s.heap.objs.size)->IsPair h' (N+3) x y->SIt t h' N l1 (k+1)->SIt t h' (N+1) l2 (k+1)->IsPair h' s.heap.objs.size x y->
   (∀c o,c≠N+4->c≠N+3->c≠N->c≠N+1->s.heap.get? c=some o->h'.get? c=some o)->Q (.ref s.heap.objs.size) { s with heap:=h' }) :
  wpAny (model prog w) A (Builtin.«zip.__next__» ⟨[.ref (N+4)],[]⟩) (λfin s'=>∃v,fin=.done (.ret v)/\Q v s') E s:=by
 change wpAny _ _ (field (.ref (N+4)) 2>>=_) _ _ _
 refine wpAny_bind (wpAny_field hz rfl (x:=.bool false) rfl ?_);change wpAny _ _ (field (.ref (N+4)) 3>>=_) _ _ _;refine wpAny_bind (wpAny_field hz rfl (x:=.ref (N+2)) rfl (wpAny_bind (wpAny_seqItems hI rfl ?_)))
 change wpAny _ _ (Builtin.SmallTypes.ownedTupleIsFree (.ref (N+4))>>=_) _ _ _
 refine wpAny_bind ?_;unfold Builtin.SmallTypes.ownedTupleIsFree;refine wpAny_bind (wpAny_field hz rfl (x:=.none) rfl (wpAny_pure ?_));simp only[if_true];refine wpAny_bind (wpAny_rule (wpAny_bind (wpAny_field hz rfl (x:=.ref (N+3)) rfl (wpAny_bind (wpAny_setField_rec hz (by simp) λu1 z1 s1=>?_)))))
 replace z1:IsZip u1 (N+4) (N+2) (N+3) .ellipsis:=z1
 refine wpAny_bind ?_;simp only[List.forIn_cons,List.forIn_nil,List.zipIdx_cons,List.zipIdx_nil];refine wpAny_bind (wpAny_bind (wpAny_onRaise ?_));change wpAny _ _ (Builtin.SmallTypes.nextOf (.ref N)>>=_) _ _ _;refine wpAny_bind (Bn (h1.to λo e=>s1.extBut _ o (nN (by lia)) e) (g1.to λo e=>s1.extBut _ o (nN (by lia)) e) hx λu2 i2 s2=>wpAny_pure ?_);have o2:IsPair u2 (N+3) a b:=s2.extBut _ _ (nN (by lia)) (s1.extBut _ _ (nN (by lia)) hO);refine wpAny_bind (wpAny_seqItems o2 rfl (wpAny_bind (wpAny_updateSeq_pair o2 λu3 o3 s3=>?_)))
 replace o3:IsPair u3 (N+3) x b:=o3
 refine wpAny_bind (wpAny_letGo (wpAny_pure (wpAny_bind (wpAny_bind (wpAny_onRaise ?_)))))
 change wpAny _ _ (Builtin.SmallTypes.nextOf (.ref (N+1))>>=_) _ _ _
 refine wpAny_bind (Bn (h2.to λo e=>s3.extBut _ o (nN (by lia)) (s2.extBut _ o (nN (by lia)) (s1.extBut _ o (nN (by lia)) e))) (g2.to λo e=>s3.extBut _ o (nN (by lia)) (s2.extBut _ o (nN (by lia)) (s1.extBut _ o (nN (by lia)) e))) hy λu4 i4 s4=>wpAny_pure ?_);have o4:IsPair u4 (N+3) x b:=s4.extBut _ _ (nN (by lia)) o3;refine wpAny_bind (wpAny_seqItems o4 rfl (wpAny_bind (wpAny_updateSeq_pair o4 λu5 o5 s5=>?_)))
 replace o5:IsPair u5 (N+3) x y:=o5
 refine wpAny_bind (wpAny_letGo (wpAny_pure (wpAny_pure (wpAny_bind (wpAny_seqItems o5 rfl (wpAny_bind (wpAny_newTuple ?_)))))));have sz:u5.objs.size=s.heap.objs.size:=by rw[s5.1,s4.1,s3.1,s2.1,s1.1]
 have z5:IsZip u5 (N+4) (N+2) (N+3) .ellipsis:=s5.extBut _ _ (nN (by lia)) (s4.extBut _ _ (nN (by lia)) (s3.extBut _ _ (nN (by lia)) (s2.extBut _ _ (nN (by lia)) z1)));have k5:∀c o,c≠N+4->c≠N+3->c≠N->c≠N+1->s.heap.get? c=some o->u5.get? c=some o:=λc o c1 c2 c3 c4 e=>s5.extBut _ _ c2 (s4.extBut _ _ c4 (s3.extBut _ _ c2 (s2.extBut _ _ c3 (s1.extBut _ _ c1 e))));have a5:SIt t u5 N l1 (k+1):=i2.to λo e=>s5.extBut _ o (nN (by lia)) (s4.extBut _ o (nN (by lia)) (s3.extBut _ o (nN (by lia)) e));have b5:SIt t u5 (N+1) l2 (k+1):=i4.to λo e=>s5.extBut _ o (nN (by lia)) e;have zl:N+4<u5.objs.size:=Heap.lt_size z5
 change wpAny _ _ (Builtin.SmallTypes.ownedTupleHandOut (.ref (N+4)) (.ref u5.objs.size)>>=_) _ _ _
 refine wpAny_bind ?_;unfold Builtin.SmallTypes.ownedTupleHandOut;have z6:IsZip (u5.push { cls:=.type "tuple",data:=.seq #[x,y] }) (N+4) (N+2) (N+3) .ellipsis:=Heap.get?_push_of_some _ z5;refine wpAny_bind (wpAny_setField_rec z6 (by simp) λu7 z7 s7=>?_)
 replace z7:IsZip u7 (N+4) (N+2) (N+3) (rawInt u5.objs.size):=z7
 refine wpAny_setField_rec z7 (by simp) λu8 z8 s8=>?_
 replace z8:IsZip u8 (N+4) (N+2) (N+3) (rawInt u5.objs.size):=z8
 have up:∀c o,c≠N+4->u5.get? c=some o->u8.get? c=some o:=λc o c1 e=>s8.extBut _ _ c1 (s7.extBut _ _ c1 (Heap.get?_push_of_some _ e));have t8:IsPair u8 u5.objs.size x y:=s8.extBut _ _ (nN (by lia)) (s7.extBut _ _ (nN (by lia)) (Heap.get?_push_size _ rfl));rw[sz] at z8 t8;refine wpAny_pure ⟨_,rfl,?_⟩;change Q (.ref u5.objs.size) _;rw[sz];exact q u8 z8 (up _ _ (nN (by lia)) o5) (a5.to λo e=>up _ o (nN (by lia)) e) (b5.to λo e=>up _ o (nN (by lia)) e) t8 λc o c1 c2 c3 c4 e=>up c o c1 (k5 c o c1 c2 c3 c4 e)
theorem Bf{t:Bool}{N l1 l2:Nat}{k:Nat}{xs ys:Array Value}{a b:Value}{Q:Fin->Shared->Prop}(hh:A.handled=none)(p1:l1<N)(p2:l2<N)(hz:IsZip s.heap (N+4) (N+2) (N+3) .none)
  (hI:IsPair s.heap (N+2) (.ref N) (.ref (N+1))) (hO:IsPair s.heap (N+3) a b) (h1:SIt t s.heap N l1 k) (h2:SIt t s.heap (N+1) l2 k) (g1:SSq t s.heap l1 xs) (g2:SSq t s.heap l2 ys) (he:xs[k]?=none\/ys[k]?=none)
  (q:∀h' e,(∀c o,c≠N+4->c≠N+3->c≠N->c≠N+1->s.heap.get? c=some o->h'.get? c=some o)->(∃o,h'.get? e=some o/\o.cls=.type "StopIteration")->E (.ref e) { s with heap:=h' }) :
  wpAny (model prog w) A (Builtin.«zip.__next__» ⟨[.ref (N+4)],[]⟩) Q E s:=by
 change wpAny _ _ (field (.ref (N+4)) 2>>=_) _ _ _
 refine wpAny_bind (wpAny_field hz rfl (x:=.bool false) rfl ?_);change wpAny _ _ (field (.ref (N+4)) 3>>=_) _ _ _;refine wpAny_bind (wpAny_field hz rfl (x:=.ref (N+2)) rfl (wpAny_bind (wpAny_seqItems hI rfl ?_)))
 change wpAny _ _ (Builtin.SmallTypes.ownedTupleIsFree (.ref (N+4))>>=_) _ _ _
 refine wpAny_bind ?_;unfold Builtin.SmallTypes.ownedTupleIsFree;refine wpAny_bind (wpAny_field hz rfl (x:=.none) rfl (wpAny_pure ?_));simp only[if_true];refine wpAny_bind (wpAny_rule (wpAny_bind (wpAny_field hz rfl (x:=.ref (N+3)) rfl (wpAny_bind (wpAny_setField_rec hz (by simp) λu1 z1 s1=>?_)))))
 replace z1:IsZip u1 (N+4) (N+2) (N+3) .ellipsis:=z1
 refine wpAny_bind ?_;simp only[List.forIn_cons,List.forIn_nil,List.zipIdx_cons,List.zipIdx_nil];refine wpAny_bind (wpAny_bind (wpAny_onRaise ?_));change wpAny _ _ (Builtin.SmallTypes.nextOf (.ref N)>>=_) _ _ _
 have fin:∀{h h':Heap} {e:Addr},IsZip h (N+4) (N+2) (N+3) .ellipsis->Heap.SameBut (N+4) h h'->(∃o,h.get? e=some o/\o.cls=.type "StopIteration")->∃o,h'.get? e=some o/\o.cls=.type "StopIteration":=λ{h h' e} hz sb ⟨o,h1,h2⟩=>
  ⟨o,sb.extBut _ _ (λz=>by rw[z,hz] at h1;cases h1;simp at h2) h1,h2⟩
 cases ex:xs[k]? with
 |none=>
  refine wpAny_bind (oN hh (h1.to λo e=>s1.extBut _ o (nN (by lia)) e) (g1.to λo e=>s1.extBut _ o (nN (by lia)) e) ex λu2 e s2 he=>?_);have z2:IsZip u2 (N+4) (N+2) (N+3) .ellipsis:=s2 _ _ (nN (by lia)) z1;exact wpAny_setField_rec z2 (by simp) λu3 _ s3=>q u3 e (λc o c1 _ c3 _ x=>s3.extBut _ _ c1 (s2 _ _ c3 (s1.extBut _ _ c1 x))) (fin z2 s3 he)
 |some x=>
  have ey:ys[k]?=none:=by
   rcases he with z | z
   ·rw[ex] at z;cases z
   ·exact z
  refine wpAny_bind (Bn (h1.to λo e=>s1.extBut _ o (nN (by lia)) e) (g1.to λo e=>s1.extBut _ o (nN (by lia)) e) ex λu2 i2 s2=>wpAny_pure ?_);have o2:IsPair u2 (N+3) a b:=s2.extBut _ _ (nN (by lia)) (s1.extBut _ _ (nN (by lia)) hO);refine wpAny_bind (wpAny_seqItems o2 rfl (wpAny_bind (wpAny_updateSeq_pair o2 λu3 o3 s3=>?_)));refine wpAny_bind (wpAny_letGo (wpAny_pure (wpAny_bind (wpAny_bind (wpAny_onRaise ?_)))))
  change wpAny _ _ (Builtin.SmallTypes.nextOf (.ref (N+1))>>=_) _ _ _
  refine wpAny_bind (oN hh (h2.to λo e=>s3.extBut _ o (nN (by lia)) (s2.extBut _ o (nN (by lia)) (s1.extBut _ o (nN (by lia)) e))) (g2.to λo e=>s3.extBut _ o (nN (by lia)) (s2.extBut _ o (nN (by lia)) (s1.extBut _ o (nN (by lia)) e))) ey λu4 e s4 he=>?_);have z4:IsZip u4 (N+4) (N+2) (N+3) .ellipsis:=s4 _ _ (nN (by lia)) (s3.extBut _ _ (nN (by lia)) (s2.extBut _ _ (nN (by lia)) z1));exact wpAny_setField_rec z4 (by simp) λu5 _ s5=>q u5 e (λc o c1 c2 c3 c4 x=>s5.extBut _ _ c1 (s4 _ _ c4 (s3.extBut _ _ c2 (s2.extBut _ _ c3 (s1.extBut _ _ c1 x))))) (fin z4 s5 he)
theorem Bw{t:Bool}{N l1 l2:Nat}{k:Nat}{xs ys:Array Value}{x y a b:Value}{Q:Option Value->Shared->Prop}(p1:l1<N)(p2:l2<N)(hz:IsZip s.heap (N+4) (N+2) (N+3) .none)
  (hI:IsPair s.heap (N+2) (.ref N) (.ref (N+1))) (hO:IsPair s.heap (N+3) a b) (h1:SIt t s.heap N l1 k) (h2:SIt t s.heap (N+1) l2 k) (g1:SSq t s.heap l1 xs) (g2:SSq t s.heap l2 ys) (hx:xs[k]?=some x) (hy:ys[k]?=some y)
  (q:∀h',IsZip h' (N+4) (N+2) (N+3) (rawInt s.heap.objs.size)->IsPair h' (N+3) x y->SIt t h' N l1 (k+1)->SIt t h' (N+1) l2 (k+1)->IsPair h' s.heap.objs.size x y->
   (∀c o,c≠N+4->c≠N+3->c≠N->c≠N+1->s.heap.get? c=some o->h'.get? c=some o)->Q (some (.ref s.heap.objs.size)) { s with heap:=h' }) :
  wpAny (model prog w) A (pyNext (.ref (N+4))) Q E s:=by
 have ty:s.TypeIs (.ref (N+4)) "zip":=⟨_,hz,rfl⟩;unfold pyNext;exact wpAny_bind (wpAny_attempt (wpAny_callSpecial?_slot (name:=Str.ofString "__next__") ty F.slot_zip_next (wpAny_call_entry F.slot_zip_next ty F.entry_zip_next (wY p1 p2 hz hI hO h1 h2 g1 g2 hx hy λh' a1 a2 a3 a4 a5 a6=>wpAny_pure (q h' a1 a2 a3 a4 a5 a6)) (F.args_zip_next_1 _))))
theorem qj{t:Bool}{N l1 l2:Nat}{k:Nat}{xs ys:Array Value}{a b:Value}{Q:Option Value->Shared->Prop}(hh:A.handled=none)(p1:l1<N)(p2:l2<N)(hz:IsZip s.heap (N+4) (N+2) (N+3) .none)
  (hI:IsPair s.heap (N+2) (.ref N) (.ref (N+1))) (hO:IsPair s.heap (N+3) a b) (h1:SIt t s.heap N l1 k) (h2:SIt t s.heap (N+1) l2 k) (g1:SSq t s.heap l1 xs) (g2:SSq t s.heap l2 ys) (he:xs[k]?=none\/ys[k]?=none)
  (q:∀h',(∀c o,c≠N+4->c≠N+3->c≠N->c≠N+1->s.heap.get? c=some o->h'.get? c=some o)->Q none { s with heap:=h' }):wpAny (model prog w) A (pyNext (.ref (N+4))) Q E s:=by
 have ty:s.TypeIs (.ref (N+4)) "zip":=⟨_,hz,rfl⟩;unfold pyNext;refine wpAny_bind (wpAny_attempt (wpAny_callSpecial?_slot (name:=Str.ofString "__next__") ty F.slot_zip_next (wpAny_call_entry F.slot_zip_next ty F.entry_zip_next (Bf hh p1 p2 hz hI hO h1 h2 g1 g2 he λh' e hk ⟨o,w1,w2⟩=>?_) (F.args_zip_next_1 _))));exact wpAny_bind (wpAny_isInstance (T:="StopIteration") (b:=true) ⟨o,w1,w2⟩ isSubtype_stop (wpAny_pure (q _ hk)))
end
noncomputable def jy(t:Bool)(h:Heap)(l1 l2:Addr):Heap:=
 ((((h.push { cls:=.type (if t then "tuple_iterator" else "list_iterator"),data:=.fields #[.ref l1,.int 0 0] }).push { cls:=.type (if t then "tuple_iterator" else "list_iterator"),data:=.fields #[.ref l2,.int 0 0] }).push
  { cls:=.type "tuple",data:=.seq #[.ref h.objs.size,.ref (h.objs.size+1)] }).push { cls:=.type "tuple",data:=.seq #[.none,.none] }).push
  { cls:=.type "zip",data:=.fields #[.none,.bool false,.bool false,.ref (h.objs.size+2),.ref (h.objs.size+3)] }
theorem uU(l1 l2:Addr)(xs ys:Array Value):Meets (Builtin.«zip.__new__» ⟨[.type "zip",.ref l1,.ref l2],[]⟩) (λ_ R s=>s.heap.IsTuple l1 xs/\s.heap.IsTuple l2 ys/\
   R (.ok (.ret (.ref (s.heap.objs.size+4)))) { s with heap:=jy true s.heap l1 l2 }):=
 .of_wp λprog w A R s h=>by
  obtain⟨hp,g,d,tk,os⟩:=s;obtain⟨q1,q2,h⟩:=h;have hsub:=sub_zip;have w1:Heap.IsTuple (Shared.heap ⟨hp,g,d,tk,os⟩) l1 xs:=q1;have w2:Heap.IsTuple (Shared.heap ⟨hp.push { cls:=.type "tuple_iterator",data:=.fields #[.ref l1,.int 0 0] },g,d,tk,os⟩) l2 ys:=Heap.IsTuple.push q2 _
  wp_walk using wpAny_pyIter_tuple w1,wpAny_pyIter_tuple w2
  simp only[Heap.size_push] at *;exact⟨_,rfl,h⟩
theorem wg(t:Bool)(h:Heap)(l1 l2:Addr):IsZip (jy t h l1 l2) (h.objs.size+4) (h.objs.size+2) (h.objs.size+3) .none/\IsPair (jy t h l1 l2) (h.objs.size+2) (.ref h.objs.size) (.ref (h.objs.size+1))/\
  IsPair (jy t h l1 l2) (h.objs.size+3) .none .none/\SIt t (jy t h l1 l2) h.objs.size l1 0/\SIt t (jy t h l1 l2) (h.objs.size+1) l2 0/\∀c o,h.get? c=some o->(jy t h l1 l2).get? c=some o:=by
 have lay:∀(g:Heap) (o:Obj) (n:Nat),g.objs.size=n->o.isFreed=false->(g.push o).get? n=some o:=λg o n e f=>by rw[<-e];exact Heap.get?_push_size _ f
 unfold jy;refine⟨lay _ _ _ (by simp[Heap.size_push]) rfl,?_,?_,?_,?_,λc o e=>?_⟩
 ·exact Heap.get?_push_of_some _ (Heap.get?_push_of_some _ (lay _ _ _ (by simp[Heap.size_push]) rfl))
 ·exact Heap.get?_push_of_some _ (lay _ _ _ (by simp[Heap.size_push]) rfl)
 ·cases t<;>exact⟨_,Heap.get?_push_of_some _ (Heap.get?_push_of_some _ (Heap.get?_push_of_some _ (Heap.get?_push_of_some _ (lay _ _ _ rfl rfl)))),rfl,rfl⟩
 ·cases t<;>exact⟨_,Heap.get?_push_of_some _ (Heap.get?_push_of_some _ (Heap.get?_push_of_some _ (lay _ _ _ (by simp[Heap.size_push]) rfl))),rfl,rfl⟩
 ·exact Heap.get?_push_of_some _ (Heap.get?_push_of_some _ (Heap.get?_push_of_some _ (Heap.get?_push_of_some _ (Heap.get?_push_of_some _ e))))
theorem sL{prog:Program}{w:World}{A:Around}{E:Value->Shared->Prop}{s:Shared}{t:Bool}{l1 l2:Addr}{xs ys:Array Value}{Q:Value->Shared->Prop}(g1:SSq t s.heap l1 xs)(g2:SSq t s.heap l2 ys)
  (q:∀h',IsZip h' (s.heap.objs.size+4) (s.heap.objs.size+2) (s.heap.objs.size+3) .none->IsPair h' (s.heap.objs.size+2) (.ref s.heap.objs.size) (.ref (s.heap.objs.size+1))->IsPair h' (s.heap.objs.size+3) .none .none->
   SIt t h' s.heap.objs.size l1 0->SIt t h' (s.heap.objs.size+1) l2 0->(∀c o,s.heap.get? c=some o->h'.get? c=some o)->Q (.ref (s.heap.objs.size+4)) { s with heap:=h' }):wpAny (model prog w) A (call (.type "zip") [.ref l1,.ref l2]) Q E s:=by
 cases t with
 |false=>exact call_zip_2 g1 g2 λh' a1 a2 a3 a4 a5 _ a6=>q h' a1 a2 a3 a4 a5 a6
 |true=>
  obtain⟨a1,a2,a3,a4,a5,a6⟩:=wg true s.heap l1 l2;exact callType_new F.called_zip (by decide) (F.typeCall_zip_2 _ _) (F.newCall_zip_2 _ _) (λob=>F.args_object_init_3 ob _ _) F.entry_zip_new (uU l1 l2 xs ys) ⟨g1,g2,⟨_,a1,rfl⟩,q _ a1 a2 a3 a4 a5 a6⟩
theorem gy{X:Cx}{pins:List (Addr×Obj)}{σ:L2.St}{H:Hp}{s:Shared}{h':Heap}{t':Nat}{fp:List Addr}(I:Inv X pins σ H s)(k:∀b o,b∉fp->s.heap.get? b=some o->h'.get? b=some o)(hf:∀b∈fp,jc X pins H b):Inv X pins σ H { s with heap:=h',toks:=t' }:=by
 refine I.step (g':=s.gens) (d':=s.drawn) (ch:=fp) (λb hb=>⟨(hf b hb).2.2.2.1,(hf b hb).2.1,(hf b hb).2.2.2.2.1,(hf b hb).2.2.2.2.2⟩) (λb o _ _ hc e _=>k b o hc e) (λb o _ _ hc e _=>⟨o.slots,k b o hc e⟩) (λ_ _ _ _ n=>n) (λb o hc e=>⟨o,k b o hc e⟩) (λ_ _ e=>e) (λ_ _ _ e=>e)
  (λb ps e=>⟨#[],by rw[e];simp⟩) (λm hm=>?_) (λb u e=>?_) I.bare
 ·obtain⟨o,es,ep,ho,r⟩:=hm
  exact⟨o,es,ep,k _ o (λz=>(hf _ z).2.1 rfl) ho,r⟩
 ·refine(I.hok b u e).stay (λc v hc q=>k c v (λz=>?_) q) (λ_ q=>q) λ_ _ q=>q
  have nc:=(hf c z).1;rcases hc with w | w
  ·rw[w,e] at nc;cases nc
  ·rw[w] at nc;cases nc
noncomputable def Itz(t:Bool)(K:PySem.W.Frag)(l1 l2:Addr):It:=
 ⟨λi H=>∃xs ys x y,SqB t K H l1 xs/\SqB t K H l2 ys/\xs[i]?=some x/\ys[i]?=some y,
  λi H v H'=>∃p x y,v=.ref p/\H p=none/\H'=upd H p (.tup [x,y])/\(∀xs,SqB t K H l1 xs->xs[i]?=some x)/\(∀ys,SqB t K H l2 ys->ys[i]?=some y),
  λi H=>∃xs ys,SqB t K H l1 xs/\SqB t K H l2 ys/\(xs.length<=i\/ys.length<=i)⟩
noncomputable def zfp(N:Nat):List Addr:=[N+4,N+2,N+3,N,N+1]
theorem uZ{P:Program}{w:World}{K:PySem.W.Frag}{es:List Expr}{k0:Nat}{tpos:Pos}(t:Bool)(N l1 l2:Nat)(p1:l1<N)(p2:l2<N) :
  Turn P w K (.Tuple es k0 tpos) (Itz t K l1 l2) (zfp N) (N+4) (λi h=>IsZip h (N+4) (N+2) (N+3) .none/\IsPair h (N+2) (.ref N) (.ref (N+1))/\(∃a b,IsPair h (N+3) a b)/\SIt t h N l1 i/\SIt t h (N+1) l2 i) where
 mem:=by simp[zfp]
 obj:=λi h ⟨h1,h2,⟨a,b,h3⟩,h4,h5⟩ c hc=>by
  simp only[zfp,List.mem_cons,List.not_mem_nil,or_false] at hc;rcases hc with rfl | rfl | rfl | rfl | rfl
  ·exact⟨_,h1,λv z=>by cases(show Data.fields _=Data.cell v from z)⟩
  ·exact⟨_,h2,λv z=>by cases(show Data.seq _ _=Data.cell v from z)⟩
  ·exact⟨_,h3,λv z=>by cases(show Data.seq _ _=Data.cell v from z)⟩
  ·exact h4.there
  ·exact h5.there
 keep:=λi h h' ⟨h1,h2,⟨a,b,h3⟩,h4,h5⟩ k=>⟨k _ (by simp[zfp]) _ h1,k _ (by simp[zfp]) _ h2,⟨a,b,k _ (by simp[zfp]) _ h3⟩,h4.to λo e=>k _ (by simp[zfp]) o e,h5.to λo e=>k _ (by simp[zfp]) o e⟩
 item:=by
  intro X hP hw hK hc i pins s σ H E I hf st hg;subst hP hw hK;obtain⟨h1,h2,⟨a,b,h3⟩,h4,h5⟩:=st;obtain⟨xs,ys,x,y,q1,q2,ex,ey⟩:=hg;obtain⟨is1,r1,g1⟩:=fC I q1;obtain⟨is2,r2,g2⟩:=fC I q2;obtain⟨u,eu,ru⟩:=r1.get ex;obtain⟨v,ev,rv⟩:=r2.get ey;refine Bw p1 p2 h1 h2 h3 h4 h5 g1 g2 (x:=u) (y:=v) (by simpa using eu) (by simpa using ev) λh' a1 a2 a3 a4 a5 a6=>⟨_,rfl,?_⟩;refine wpAny_letOwnedTupleGo_zip (s:={ s with heap:=h' }) a1 λh'' b1 b2=>?_;have zl:N+4<s.heap.objs.size:=Heap.lt_size h1;have nn:H s.heap.objs.size=none:=I.hok.fresh (Nat.le_refl _)
  have I1:Inv X pins σ (upd H s.heap.objs.size (.tup [x,y])) { s with heap:=s.heap.push { cls:=.type "tuple",data:=.seq #[u,v] } }:=
   I.laid (t':=s.toks) (λb o e=>Heap.get?_push_of_some _ e) (Nat.le_refl _) ⟨show 2<=sizeLine by decide,[u,v],.cons ru (.cons rv .nil),⟨_,Heap.get?_push_size _ rfl,rfl,_,rfl⟩⟩
  have ne:∀b∈zfp N,b≠s.heap.objs.size:=λc hc=>by
   simp only[zfp,List.mem_cons,List.not_mem_nil,or_false] at hc;rcases hc with rfl | rfl | rfl | rfl | rfl<;>exact nN (by lia)
  have f1:∀b∈zfp N,jc X pins (upd H s.heap.objs.size (.tup [x,y])) b:=λc hc=>⟨by rw[aT (ne c hc)];exact(hf c hc).1,(hf c hc).2⟩
  have k2:∀c o,c∉zfp N->(s.heap.push { cls:=.type "tuple",data:=.seq #[u,v] }).get? c=some o->h''.get? c=some o:=λc o hc e=>by
   simp only[zfp,List.mem_cons,List.not_mem_nil,or_false,not_or] at hc;obtain⟨c1,c2,c3,c4,c5⟩:=hc;refine b2.extBut _ _ c1 ?_
   by_cases z:c=s.heap.objs.size
   ·subst z
    rw[Heap.get?_push_size _ rfl] at e;cases e;exact a5
   ·exact a6 c o c1 c3 c4 c5 ((Heap.get?_push_ne _ _ _ z).symm.trans e)
  have I2:=gy (h':=h'') (t':=s.toks) I1 k2 f1;refine⟨.ref s.heap.objs.size,_,I2,rfl,⟨_,x,y,rfl,nn,rfl,λzs hz=>?_,λzs hz=>?_⟩,⟨b1,b2.extBut _ _ (nN (by lia)) (a6 _ _ (nN (by lia)) (nN (by lia)) (nN (by lia)) (nN (by lia)) h2),⟨_,_,b2.extBut _ _ (nN (by lia)) a2⟩,a3.to λo e=>b2.extBut _ o (nN (by lia)) e,a4.to λo e=>b2.extBut _ o (nN (by lia)) e⟩,λc hc=>(f1 c hc).1⟩
  ·rw[iA I hz q1];exact ex
  ·rw[iA I hz q2];exact ey
 done:=by
  intro X hP hw hK hc i pins s σ H E I hf st hg;subst hP hw hK;obtain⟨h1,h2,⟨a,b,h3⟩,h4,h5⟩:=st;obtain⟨xs,ys,q1,q2,he⟩:=hg;obtain⟨is1,r1,g1⟩:=fC I q1;obtain⟨is2,r2,g2⟩:=fC I q2;have n1:=r1.length;have n2:=r2.length;refine qj (I.ok.hd hc) p1 p2 h1 h2 h3 h4 h5 g1 g2 (he.elim (λz=>.inl (by simp;lia)) λz=>.inr (by simp;lia)) λh' hk=>⟨rfl,gy (t':=s.toks) I (λc o hc e=>?_) hf⟩;simp only[zfp,List.mem_cons,List.not_mem_nil,or_false,not_or] at hc;exact hk c o hc.1 hc.2.2.1 hc.2.2.2.1 hc.2.2.2.2 e
 self:=λ_ _ _ _ _ st h=>wpAny_pyIter_zip st.1 h
section
variable{X:Cx}{a b:Expr}{pos:Pos}
noncomputable def BU(K:PySem.W.Frag)(ta:TA):TI:=λσ H R=>ta σ H λvs H1=>∃t l1 l2 xs ys,vs=[.ref l1,.ref l2]/\SqB t K H1 l1 xs/\SqB t K H1 l2 ys/\R (Itz t K l1 l2) H1
theorem Ai{es:List Expr}{k0:Nat}{tpos p:Pos}{ta:TA}(hg:Gl X "zip")(hm:X.mg "zip" = none)(ha:PA X [a,b] ta)(hs:starEach [a,b] X.env=[(false,eval a X.env),(false,eval b X.env)]:=by rfl)(hs2:starEach [b] X.env=[(false,eval b X.env)]:=by rfl) :
  PI X (.Tuple es k0 tpos) (.Call (.Name "zip" p) [a,b] [] pos) (BU X.K ta):=by
 intro pins s σ H R I h;refine Call_ (jg I hg hm boot_zip (PyProof.Rows.callWith_type1 (thn (ha pos pins s σ H _ I h) λus s1 ⟨vs,H1,I1,r1,q1⟩=>?_) (by rw[hs,hs2]) (by rw[hs2];rfl)));obtain⟨t,l1,l2,xs,ys,e,q1,q2,q⟩:=q1;subst e
 cases r1 with | cons r rr=>cases rr with | cons r' rr=>
  cases rr;cases r;cases r';obtain⟨is1,w1,g1⟩:=fC I1 q1;obtain⟨is2,w2,g2⟩:=fC I1 q2;refine sL g1 g2 λh' a1 a2 a3 a4 a5 a6=>wpAny_pyIter_zip a1 ?_;refine⟨s1.heap.objs.size+4,zfp s1.heap.objs.size,_,_,H1,rfl,I1.kept (t':=s1.toks) a6,uZ t s1.heap.objs.size l1 l2 g1.lt g2.lt,⟨a1,a2,⟨_,_,a3⟩,a4,a5⟩,λc hc=>?_,q⟩
  have lc:s1.heap.objs.size<=c:=by
   simp only[zfp,List.mem_cons,List.not_mem_nil,or_false] at hc;rcases hc with rfl | rfl | rfl | rfl | rfl<;>(show @LE.le Nat _ _ _;lia)
  exact I1.fpOk lc (I1.hok.fresh lc)
noncomputable def kT(xs ys:List D):List D:=List.zipWith (λx y=>D.tup [x,y]) xs ys
noncomputable def wO(f:Ev->Option (List D)):Ev->Option (List D):=λε=>match f ε with
 |some [.lst xs,.lst ys]=>some (kT xs ys)
 |some [.tup xs,.tup ys]=>some (kT xs ys)
 |_=>none
theorem zg{K:PySem.W.Frag}{G:Hp}{t:Bool}{l1 l2:Addr}{xs ys:List V}{ds es:List D}(h1:SqB t K G l1 xs)(h2:SqB t K G l2 ys)(d1:DenL K G xs ds)(d2:DenL K G ys es):ItD K (Itz t K l1 l2) (kT ds es) G:=by
 intro i H2 s2
 have up:∀{l:Addr} {zs:List V},SqB t K G l zs->SqB t K H2 l zs:=λ{l zs} h=>by
  cases t with
  |true=>exact aK s2 h
  |false=>exact s2.seq h
 have n1:=d1.length;have n2:=d2.length;have nz:(kT ds es).length=min ds.length es.length:=by simp[kT]
 refine⟨λhi=>?_,λhi=>⟨xs,ys,up h1,up h2,by rw[nz] at hi;lia⟩,?_⟩
 ·rw[nz] at hi
  exact⟨xs,ys,xs[i]'(by lia),ys[i]'(by lia),up h1,up h2,by simp,by simp⟩
 ·rintro v H3 ⟨p,x,y,rfl,hn,rfl,w1,w2⟩ d ed G2 s3 s4
  have e1:=w1 xs (up h1);have e2:=w2 ys (up h2);obtain⟨d1',f1,f2⟩:=d1.getV e1;obtain⟨d2',f3,f4⟩:=d2.getV e2;have:(kT ds es)[i]?=some (.tup [d1',d2']):=by simp[kT,List.getElem?_zipWith,f1,f3]
  rw[this] at ed;cases ed;have g:=Grow.new (.tup [x,y]) s4 hn;refine⟨_,g,.tup (xs:=[x,y]) (.inl (.inl aN)) (.cons ((f2.mono s3).mono g.gg) (.cons ((f4.mono s3).mono g.gg) .nil))⟩
theorem Bh{es:List Expr}{k0:Nat}{tpos p:Pos}{f:Ev->Option (List D)}(h:DA X [a,b] f)(hm:X.mg "zip" = none)(hg:Gl X "zip":=by rfl)(hs:starEach [a,b] X.env=[(false,eval a X.env),(false,eval b X.env)]:=by rfl)(hs2:starEach [b] X.env=[(false,eval b X.env)]:=by rfl) :
  DI X (.Tuple es k0 tpos) (.Call (.Name "zip" p) [a,b] [] pos) (wO f):=by
 obtain⟨t,a1,a2⟩:=h;refine⟨_,Ai hg hm a1 hs hs2,λHe G H σ ε ds R gh E ef q=>?_⟩;unfold wO at ef;split at ef
 ·rename_i e1
  cases ef;refine a2 He G H σ ε _ _ gh E e1 λvs G1 H1 g1 hd=>?_
  cases hd with | cons h1 hd=>cases hd with | cons h2 hd=>
   cases hd;obtain⟨l1,xs,rfl,w1,w2⟩:=h1.lstV;obtain⟨l2,ys,rfl,w3,w4⟩:=h2.lstV;exact⟨false,l1,l2,xs,ys,rfl,g1.gh.seq w1,g1.gh.seq w3,q _ G1 H1 g1 (zg (t:=false) w1 w3 w2 w4)⟩
 ·rename_i e1
  cases ef;refine a2 He G H σ ε _ _ gh E e1 λvs G1 H1 g1 hd=>?_
  cases hd with | cons h1 hd=>cases hd with | cons h2 hd=>
   cases hd;obtain⟨l1,xs,rfl,w1,w2⟩:=h1.tupV;obtain⟨l2,ys,rfl,w3,w4⟩:=h2.tupV;exact⟨true,l1,l2,xs,ys,rfl,aK g1.gh w1,aK g1.gh w3,q _ G1 H1 g1 (zg (t:=true) w1 w3 w2 w4)⟩
 ·cases ef
end
noncomputable def flD:D->Option V
 |.non=>some .non
 |.bl b=>some (.bl b)
 |.int i=>some (.int i)
 |.str x=>some (.str x)
 |_=>none
noncomputable def lF:List D->Option (List V)
 |[]=>some []
 |d::ds=>(flD d).bind λv=>(lF ds).bind λr=>some (v::r)
noncomputable def Dk:D->Option (List D)
 |.lst ds=>some ds
 |.tup ds=>some ds
 |_=>none
noncomputable def inD(neg:Bool):D->D->Option D:=λx y=>(flD x).bind λv=>(Dk y).bind λds=>(lF ds).bind λvs=>some (.bl (if neg then !inV v vs else inV v vs))
theorem rp{K:PySem.W.Frag}{G:Hp}{v w:V}{d:D}(h:Den K G v d)(e:flD d=some w):v=w/\f7 v=true:=by
 cases h<;>cases e<;>exact⟨rfl,rfl⟩
theorem kD{K:PySem.W.Frag}{G:Hp}:∀{xs:List V} {ds:List D} {ws:List V},DenL K G xs ds->lF ds=some ws->xs=ws/\xs.all f7=true
 |_,_,_,.nil,e=>by cases e;exact⟨rfl,rfl⟩
 |_,_,_,.cons h hs,e=>by
  obtain⟨v,e1,e⟩:=aq e;obtain⟨r,e2,e⟩:=aq e;cases e;obtain⟨rfl,f1⟩:=rp h e1;obtain⟨rfl,f2⟩:=kD hs e2;exact⟨rfl,by rw[List.all_cons,f1,f2];rfl⟩
section
variable{X:Cx}{a b c:Expr}{fa fb fc:Ev->Option D}{pos:Pos}
theorem r9{neg:Bool}(G H:Hp)(x y:V)(dx dy d:D)(Q:VK)(gh:aR G H)(hx:b8 X.K G H x dx)(hy:b8 X.K G H y dy)(e:inD neg dx dy=some d)(q:∀v G' H',Grow G H G' H'->Den X.K G' v d->Q v H'):rIn X.K neg x y H Q:=by
 obtain⟨v,e1,e⟩:=aq e;obtain⟨ds,e2,e⟩:=aq e;obtain⟨vs,e3,e⟩:=aq e;cases e
 have hx':Den X.K G x dx:=by
  rcases hx with h | ⟨_,_,_,_,rfl,_⟩
  ·exact h
  ·cases e1
 obtain⟨rfl,f1⟩:=rp hx' e1;cases dy with
 |lst es=>
  cases e2;obtain⟨p,xs,rfl,h1,h2⟩:=hy.lst gh;obtain⟨rfl,f2⟩:=kD h2 e3;exact⟨p,_,rfl,.inl h1,f1,f2,q _ G H (.refl gh) (.bl _)⟩
 |tup es=>
  cases e2;obtain⟨p,xs,rfl,_,h1,h2⟩:=hy.tup gh;obtain⟨rfl,f2⟩:=kD h2 e3;exact⟨p,_,rfl,.inr h1,f1,f2,q _ G H (.refl gh) (.bl _)⟩
 |_=>cases e2
theorem vt:OpD X (compareOp .In) (inD false):=⟨_,sP,r9⟩
theorem vH:OpD X (compareOp .NotIn) (inD true):=⟨_,nP,r9⟩
end
inductive DenBL(K:PySem.W.Frag)(G H:Hp):List V->List D->Prop where
 |nil:DenBL K G H [] []
 |cons {x:V} {d:D} {xs:List V} {ds:List D} (h:b8 K G H x d) (hs:DenBL K G H xs ds):DenBL K G H (x::xs) (d::ds)
structure Lent(K:PySem.W.Frag)(G H Gp:Hp)(vs:List V)(ds:List D):Prop where
 gg:aR G Gp
 gh:aR Gp H
 den:DenL K Gp vs ds
theorem CH{K:PySem.W.Frag}{G H:Hp}(gh:aR G H):∀{vs:List V} {ds:List D},DenBL K G H vs ds->∃Gp,Lent K G H Gp vs ds
 |_,_,.nil=>⟨G,aR.refl _,gh,.nil⟩
 |_,_,.cons h hs=>by
  obtain⟨Gp,L⟩:=CH gh hs;rcases h with h | ⟨a,xs,es,rfl,rfl,h3,h4⟩
  ·exact⟨Gp,L.gg,L.gh,.cons (h.mono L.gg) L.den⟩
  ·have s2:aR Gp (upd Gp a (.lst xs)):=λb o e=>by
    by_cases z:b=a
    ·subst z
     have:=L.gh _ _ e;rw[h3] at this;cases this;exact aN
    ·rw[aT z];exact e
   refine⟨upd Gp a (.lst xs),L.gg.trans s2,λb o e=>?_,.cons (.lst (SqL.of aN) ((h4.mono L.gg).mono s2)) (L.den.mono s2)⟩
   by_cases z:b=a
   ·subst z;rw[aN] at e;cases e;exact h3
   ·rw[aT z] at e;exact L.gh _ _ e
open Classical in
noncomputable def mL (G Gp G2:Hp):Hp:=λb=>if G b=none/\Gp b≠none then none else G2 b
theorem Ba{G H Gp G2 H2:Hp}(gg:aR G Gp)(gh:aR Gp H)(g:Grow Gp H G2 H2):Grow G H (mL G Gp G2) H2 where
 hh:=g.hh
 gg:=λb o e=>by
  unfold mL;rw[if_neg (λz=>by rw[z.1] at e;cases e)];exact g.gg _ _ (gg _ _ e)
 gh:=λb o e=>by
  unfold mL at e;split at e
  ·cases e
  ·exact g.gh _ _ e
 fo:=λb o e z=>by
  unfold mL
  by_cases q:Gp b=none
  ·rw[if_neg (λw=>w.2 q)];exact g.fo _ _ e q
  ·rw[if_pos ⟨z,q⟩]
noncomputable def q_:D->Bool
 |.tup _=>false
 |.lst _=>false
 |.dic _=>false
 |_=>true
theorem Den.scal{K:PySem.W.Frag}{G G':Hp}{v:V}{d:D}(h:Den K G v d)(s:q_ d=true):Den K G' v d:=by
 cases h with
 |non=>exact .non
 |bl b=>exact .bl b
 |int i=>exact .int i
 |str x=>exact .str x
 |tup _ _=>cases s
 |lst _ _=>cases s
 |dic _ _ _=>cases s
section
variable{X:Cx}{a b c:Expr}{fa fb fc:Ev->Option D}{pos:Pos}
noncomputable def DAB(X:Cx)(es:List Expr)(f:Ev->Option (List D)):Prop:=∃t,PA X es t/\∀(He G H:Hp) (σ:L2.St) (ε:Ev) (ds:List D) (Q:List V->Hp->Prop),aR G H->EnvD X.K He G H σ ε->f ε=some ds->
 (∀vs G' H',Grow G H G' H'->DenBL X.K G' H' vs ds->Q vs H')->t σ H Q
theorem xP:DAB X [] aD:=⟨_,da,λHe G H σ ε ds Q gh E ef q=>by cases ef;exact q [] G H (.refl gh) .nil⟩
theorem oB{es:List Expr}{g:Ev->Option (List D)}(ha:DB X a fa)(hs:DAB X es g)(he:starEach (a::es) X.env=(false,eval a X.env)::starEach es X.env:=by rfl):DAB X (a::es) (ae fa g):=by
 obtain⟨t,a1,a2⟩:=ha;obtain⟨u,b1,b2⟩:=hs;refine⟨_,b7 a1 b1 he,λHe G H σ ε ds Q gh E ef q=>?_⟩;obtain⟨x,e1,ef⟩:=aq ef;obtain⟨xs,e2,ef⟩:=aq ef;cases ef;refine a2 He G H σ ε x _ gh E e1 λv G1 H1 g1 d1=>?_;refine b2 He G1 H1 σ ε xs _ g1.gh (E.grow g1) e2 λvs G2 H2 g2 d2=>?_;exact q _ G2 H2 (g1.trans g2) (.cons (d1.grow g2) d2)
noncomputable def kX(F:List D->Option D)(g:Ev->Option (List D)):Ev->Option D:=λε=>(g ε).bind λds=>(F ds).bind λd=>if q_ d=true then some d else none
theorem wb{k j:Nat}{f:Addr}{fd:FuncData}{st:Stmt}{ps:List Str}{Fn:List D->Option D}{x:Str}{e:Expr}{es:List Expr}{g:Ev->Option (List D)}{p:Pos}
  (A:FA X.K X.mg x st ps f fd) (F:FnOk X.prog X.w X.K X.mg X.base CX0 j f fd ps (spF X.K Fn)) (hr:Room k X.A) (hj:j<=k)
  (ha:DAB X (e::es) g) (hg:Gl X x:=by rfl) (hdb:(x==("__debug__" : Str))=false:=by decide) (he:starEach (e::es) X.env=(false,eval e X.env)::starEach es X.env:=by rfl) (hpl:(backTo pos (starEach es X.env)).any (·.1)=false:=by rfl) :
  DE X (.Call (.Name x p) (e::es) [] pos) (kX Fn g):=by
 obtain⟨t,a1,a2⟩:=ha;refine⟨_,nj (E:=E0) F (hr.mono hj) hg A.mgf A.fu.kp A.bi .nil wc a1 hdb he hpl,λHe G H σ ε d Q gh E ef q=>?_⟩;obtain⟨ds,e1,ef⟩:=aq ef;obtain⟨d',e2,ef⟩:=aq ef;split at ef
 ·rename_i sc
  cases ef;refine a2 He G H σ ε ds _ gh E e1 λvs G1 H1 g1 d1=>?_;show spF X.K Fn (vs++[]) H1 Q E0;rw[List.append_nil];obtain⟨Gp,L⟩:=CH g1.gh d1;exact⟨Gp,ds,_,L.gh,L.den,e2,λv G2 H2 g2 d2=>q v _ H2 (g1.trans (Ba L.gg L.gh g2)) (d2.scal sc)⟩
 ·cases ef
end
section
variable{X:Cx}{a b c:Expr}{fa fb fc:Ev->Option D}{pos:Pos}
noncomputable def yO(f f':D->D->Option D)(fa fb fc:Ev->Option D):Ev->Option Bool:=λε=>asB (eCh f f' fa fb fc ε)
theorem Cy{op op':CmpOp}{f f':D->D->Option D}(ho:OpD X (compareOp op) f)(ho':OpD X (compareOp op') f')(ha:DB X a fa)(hb:DB X b fb)(hc:DB X c fc)(hm:lastMarks [op,op'] [b,c]=false:=by with_unfolding_all rfl) :
  DT X (.Compare a [op,op'] [b,c] pos) (yO f f' fa fb fc):=by
 obtain⟨r,o1,o2⟩:=ho;obtain⟨r',p1,p2⟩:=ho';obtain⟨ta,a1,a2⟩:=ha;obtain⟨tb,b1,b2⟩:=hb;obtain⟨tc,c1,c2⟩:=hc;refine⟨_,uR o1 p1 a1 b1 c1 hm,λHe G H σ ε k Q gh E ef q=>?_⟩;obtain⟨x,e1,ef⟩:=aq (pq ef);obtain⟨y,e2,ef⟩:=aq ef;obtain⟨z,e3,ef⟩:=aq ef;refine a2 He G H σ ε x _ gh E e1 λv G1 H1 g1 d1=>?_;refine b2 He G1 H1 σ ε y _ g1.gh (E.grow g1) e2 λu G2 H2 g2 d2=>?_;split at ef
 ·rename_i j
  refine o2 G2 H2 v u x y (.bl j) _ g2.gh (d1.grow g2) d2 e3 λw G3 H3 g3 d3=>⟨j,d3.blV,?_⟩;cases j with
  |true=>
   rw[if_pos rfl] at ef ⊢;obtain⟨w',e4,ef⟩:=aq ef;refine c2 He G3 H3 σ ε w' _ g3.gh (((E.grow g1).grow g2).grow g3) e4 λv4 G4 H4 g4 d4=>?_;exact p2 G4 H4 u v4 y w' (.bl k) _ g4.gh ((d2.grow g3).grow g4) d4 ef λv5 G5 H5 g5 d5=>⟨k,d5.blV,q G5 H5 (g1.trans (g2.trans (g3.trans (g4.trans g5))))⟩
  |false=>
   rw[if_neg Bool.false_ne_true] at ef ⊢;cases ef;exact⟨false,rfl,q _ _ (g1.trans (g2.trans g3))⟩
 ·cases ef
end
structure Wq where
 (P:Program)
 (w:World)
 (K:PySem.W.Frag)
 (mg:Str->Option Value)
noncomputable def FB(Z:Wq)(x:Str)(st:Stmt)(ps:List Str)(f:Addr)(fd:FuncData):Prop:=FA Z.K Z.mg x st ps f fd/\∀us:List Value,us.length=ps.length->bindArgs fd ⟨us,[]⟩=pure (ps.zip us)
noncomputable def FX(Z:Wq)(x:Str)(st:Stmt)(ps:List Str):Prop:=∃f fd,FB Z x st ps f fd
noncomputable def OkD(Z:Wq)(x:Str)(st:Stmt)(ps:List Str)(n:Nat)(F:List D->Option D):Prop:=∃f fd,FB Z x st ps f fd/\∀base,FnOk Z.P Z.w Z.K Z.mg base CX0 n f fd ps (spF Z.K F)
noncomputable def OkB(Z:Wq)(x:Str)(st:Stmt)(ps:List Str)(n:Nat)(F:List D->Option D)(FO:List D->Option (List D)):Prop:=∃f fd,FB Z x st ps f fd/\(∀base,FnOk Z.P Z.w Z.K Z.mg base CX0 n f fd ps (spF Z.K F))/\∀base,FnOk Z.P Z.w Z.K Z.mg base CX0 n f fd ps (spO Z.K FO)
section
variable{Z:Wq}{x:Str}{st:Stmt}{ps N:List Str}{k:Nat}{g:Ev->Option Fl}
theorem bdF(R:FX Z x st ps)(hb:∀(d:N.Nodup) (f:Addr) (base:Heap) (cdv:Value) (A:Around) (outer:List Env) (s:Shared) (H:Hp) (E:XK),Room k (A.deeper (envOfC x (aQ st) s.heap.objs.size f cdv))->DSs (jT CX0 Z.P Z.w Z.K Z.mg base N x (aQ st) f cdv A outer s H E).nox (bU st) g)
  (S:FnScope N ps (aQ st):=by exact⟨rfl,rfl,rfl,by decide +kernel,rfl,by decide +kernel,by decide +kernel⟩):OkD Z x st ps (k+1) (fnD N ps g):=
 let⟨f,fd,A⟩:=R;⟨f,fd,A,λbase=>nI A.1.fu S (hb S.nd f base)⟩
theorem bdB(R:FX Z x st ps)(hb:∀(d:N.Nodup) (f:Addr) (base:Heap) (cdv:Value) (A:Around) (outer:List Env) (s:Shared) (H:Hp) (E:XK),Room k (A.deeper (envOfC x (aQ st) s.heap.objs.size f cdv))->DSs (jT CX0 Z.P Z.w Z.K Z.mg base N x (aQ st) f cdv A outer s H E).nox (bU st) g)
  (S:FnScope N ps (aQ st):=by exact⟨rfl,rfl,rfl,by decide +kernel,rfl,by decide +kernel,by decide +kernel⟩):OkB Z x st ps (k+1) (fnD N ps g) (fnO N ps g):=
 let⟨f,fd,A⟩:=R;⟨f,fd,A,λbase=>nI A.1.fu S (hb S.nd f base),λbase=>vO A.1.fu S (hb S.nd f base)⟩
theorem OkB.d{n:Nat}{F:List D->Option D}{FO:List D->Option (List D)}(H:OkB Z x st ps n F FO):OkD Z x st ps n F:=let⟨f,fd,A,a,_⟩:=H;⟨f,fd,A,a⟩
theorem CD{P:Program}{w:World}{K:PySem.W.Frag}{mg:Str->Option Value}{h:Heap}{f:Addr}{oc:Value}{od an:Option Addr}{osl:Array (Option Value)}{kV doc pm cdv ct:Value}(X:K.In h)(G:h.Ns mainGlobals mg)
  (a:PySem.W.nsIn K mainGlobals x=some (some (.ref f)))
  (l:K.lookup f=some ⟨oc,od,.func (PySem.W.fnOf x x (dG st) (bU st) (aQ st) .none kV doc pm an cdv ct),osl⟩)
  (c:PySem.W.codeIn K cdv x=true) (k:PySem.W.keepIn K (.ref f)=true)
  (hb:∀(kV doc pm:Value) (an:Option Addr) (cdv ct:Value) (us:List Value),us.length=ps.length->bindArgs (PySem.W.fnOf x x (dG st) (bU st) (aQ st) .none kV doc pm an cdv ct) ⟨us,[]⟩=pure (ps.zip us)):FX ⟨P,w,K,mg⟩ x st ps:=
 ⟨f,_,BH X G a l c k hb,hb kV doc pm an cdv ct⟩
theorem Av{P:Program}{w:World}{K:PySem.W.Frag}{mg:Str->Option Value}{n:Nat}{F:List D->Option D}{y:Str}{fa:Addr}(H:OkD ⟨P,w,K,mg⟩ x st [y] n F)(hfa:mg x=some (.ref fa)) :
  ∃fd:FuncData,(∀(s:Shared) (v:Value),BindsTo s fd ⟨[v],[]⟩ [(y,v)])/\∀base:Heap,K.In base->base.Ns mainGlobals mg->FnOk P w K mg base CX0 n fa fd [y] (spF K F):=by
 obtain⟨f,fd,⟨A,b⟩,G⟩:=H;have e:=A.mgf.symm.trans hfa;cases e;exact⟨fd,λs v=>.of_eq (b [v] rfl),λbase _ _=>G base⟩
end
theorem cg{α:Type}{p:List α->Prop}{n:Nat}(h:∀(a:α) (r:List α),r.length=n->p (a::r)):∀us:List α,us.length=n+1->p us
 |[],e=>by cases e
 |a::r,e=>h a r (Nat.succ.inj e)
theorem oR{α:Type}{p:List α->Prop}(h:p []):∀us:List α,us.length=0->p us
 |[],_=>h
 |_::_,e=>by cases e
theorem De{α:Type}{p:List α->Prop}(h:∀a0,p [a0]):∀us:List α,us.length=1->p us:=cg λa0=>(oR (h a0))
theorem C3{α:Type}{p:List α->Prop}(h:∀a0 a1,p [a0,a1]):∀us:List α,us.length=2->p us:=cg λa0=>cg λa1=>(oR (h a0 a1))
theorem C1{α:Type}{p:List α->Prop}(h:∀a0 a1 a2,p [a0,a1,a2]):∀us:List α,us.length=3->p us:=cg λa0=>cg λa1=>cg λa2=>(oR (h a0 a1 a2))
theorem Da{α:Type}{p:List α->Prop}(h:∀a0 a1 a2 a3,p [a0,a1,a2,a3]):∀us:List α,us.length=4->p us:=cg λa0=>cg λa1=>cg λa2=>cg λa3=>(oR (h a0 a1 a2 a3))
theorem len5{α:Type}{p:List α->Prop}(h:∀a0 a1 a2 a3 a4,p [a0,a1,a2,a3,a4]):∀us:List α,us.length=5->p us:=cg λa0=>cg λa1=>cg λa2=>cg λa3=>cg λa4=>(oR (h a0 a1 a2 a3 a4))
theorem Df{α:Type}{p:List α->Prop}(h:∀a0 a1 a2 a3 a4 a5,p [a0,a1,a2,a3,a4,a5]):∀us:List α,us.length=6->p us:=cg λa0=>cg λa1=>cg λa2=>cg λa3=>cg λa4=>cg λa5=>(oR (h a0 a1 a2 a3 a4 a5))
theorem Dj{α:Type}{p:List α->Prop}(h:∀a0 a1 a2 a3 a4 a5 a6,p [a0,a1,a2,a3,a4,a5,a6]):∀us:List α,us.length=7->p us:=cg λa0=>cg λa1=>cg λa2=>cg λa3=>cg λa4=>cg λa5=>cg λa6=>(oR (h a0 a1 a2 a3 a4 a5 a6))
theorem C8{α:Type}{p:List α->Prop}(h:∀a0 a1 a2 a3 a4 a5 a6 a7,p [a0,a1,a2,a3,a4,a5,a6,a7]):∀us:List α,us.length=8->p us:=cg λa0=>cg λa1=>cg λa2=>cg λa3=>cg λa4=>cg λa5=>cg λa6=>cg λa7=>(oR (h a0 a1 a2 a3 a4 a5 a6 a7))
section
variable{X:Cx}{pos p:Pos}{x:Str}{st:Stmt}{ps:List Str}{k j:Nat}{e:Expr}{es:List Expr}{g:Ev->Option (List D)}{Fn:List D->Option D}{FO:List D->Option (List D)}
theorem cF(H:OkD ⟨X.prog,X.w,X.K,X.mg⟩ x st ps j Fn)(hr:Room k X.A)(ha:DA X (e::es) g)(hj:j<=k:=by decide)(hg:Gl X x:=by rfl)(hdb:(x==("__debug__" : Str))=false:=by decide)(he:starEach (e::es) X.env=(false,eval e X.env)::starEach es X.env:=by rfl)(hpl:(backTo pos (starEach es X.env)).any (·.1)=false:=by rfl) :
  DE X (.Call (.Name x p) (e::es) [] pos) (aI Fn g):=let⟨_,_,A,F⟩:=H;nS A.1 (F _) hr hj ha hg hdb he hpl
theorem cO(H:OkB ⟨X.prog,X.w,X.K,X.mg⟩ x st ps j Fn FO)(hr:Room k X.A)(ha:DA X (e::es) g)(hj:j<=k:=by decide)(hg:Gl X x:=by rfl)(hdb:(x==("__debug__" : Str))=false:=by decide)(he:starEach (e::es) X.env=(false,eval e X.env)::starEach es X.env:=by rfl)(hpl:(backTo pos (starEach es X.env)).any (·.1)=false:=by rfl) :
  DF X (.Call (.Name x p) (e::es) [] pos) (jo FO g):=let⟨_,_,A,_,F⟩:=H;ve A.1 (F _) hr hj ha hg hdb he hpl
theorem cS(H:OkD ⟨X.prog,X.w,X.K,X.mg⟩ x st ps j Fn)(hr:Room k X.A)(ha:DAB X (e::es) g)(hj:j<=k:=by decide)(hg:Gl X x:=by rfl)(hdb:(x==("__debug__" : Str))=false:=by decide)(he:starEach (e::es) X.env=(false,eval e X.env)::starEach es X.env:=by rfl)(hpl:(backTo pos (starEach es X.env)).any (·.1)=false:=by rfl) :
  DE X (.Call (.Name x p) (e::es) [] pos) (kX Fn g):=let⟨_,_,A,F⟩:=H;wb A.1 (F _) hr hj ha hg hdb he hpl
end
end Dn
namespace HG
open PySem PyProof.Rows
noncomputable def hV:List Int->List Int->Bool
 |[],_=>false
 |_::_,[]=>true
 |x::xs,y::ys=>if x=y then hV xs ys else decide (y<x)
theorem uE(x y:Int)(xs ys:List Int):hV (x::xs) (y::ys)=if x=y then hV xs ys else decide (y<x):=rfl
theorem wF(A:Around)(s:Shared)(a:Int)(t:Tok)(c:Int)(u:Tok)(prog:Program)(w:World)(E:Value->Shared->Prop)(Q:Value->Shared->Prop)(h:Q (.bool (decide (c<a))) s) :
  wpAny (model prog w) A (richCompare .Gt (.int a t) (.int c u)) Q E s:=
 (PyProof.Rows.gt_int h:wpAny (model prog w) A (compareOp .Gt (.int a t) (.int c u)) Q E s)
section
open PySem.SeqAt
open PySem.AutoSeq1 (wpAny_loadPart')
open PySem.MeetsSeq PySem.MeetsSeq2 PySem.MeetsSeq3
theorem lJ(l b:Addr)(items items2:Array Value)(n n2:Nat)(dd dd2:Option Addr)(sl sl2:Array (Option Value))(ns ms:List Int)(hi:IntsAre items.toList ns)(hj:IntsAre items2.toList ms) :
  Meets (Builtin.«tuple.__gt__» ⟨[.ref l,.ref b],[]⟩)
   (λ_ R s=>s.heap.get? l=some { cls:=.type "tuple",dict:=dd,data:=.seq items n,slots:=sl }/\s.heap.get? b=some { cls:=.type "tuple",dict:=dd2,data:=.seq items2 n2,slots:=sl2 }/\
    R (.ok (.ret (.bool (hV ns ms)))) s):=
 .of_wp λprog w A R s h=>by
  obtain⟨hp,g,d,tk,os⟩:=s;obtain⟨hl,hb,h⟩:=h;have f2:=AutoSeq1.sub_tuple_tuple;have z1:items.size=ns.length:=by rw[<-hi.length];simp
  have z2:items2.size=ms.length:=by rw[<-hj.length];simp
  wp_walk using wpAny_loadPart' hl,wpAny_loadPart' hb,wpAny_forIn_list _ (λrest b s'=>b.1=none/\s'=⟨hp,g,d,tk,os⟩/\∃(vs ws:List Value) (ns' ms':List Int),rest=vs.zip ws/\
   IntsAre vs ns'/\IntsAre ws ms'/\ns'.length+items2.size=ms'.length+items.size/\R (.ok (.ret (.bool (hV ns' ms')))) ⟨hp,g,d,tk,os⟩) _
  case turn=>
   rintro⟨y,x⟩ rest b s' ⟨hb',rfl,vs,ws,ns',ms',hz,hvi,hwi,hlen,hR⟩;cases hvi with
   |nil=>rw[List.zip_nil_left] at hz;cases hz
   |cons a t hvi'=>
    cases hwi with
    |nil=>rw[List.zip_nil_right] at hz;cases hz
    |cons c u hwi'=>
     rw[List.zip_cons_cons] at hz;injection hz with hyx hrest
     injection hyx with hy hx
     subst hy hx;rw[uE] at hR;simp only[List.length_cons] at hlen;obtain⟨e,he,hiff⟩:=HT.ui A.in1 ⟨hp,g,d,tk,os⟩ a t c u;refine wpAny_bind (he prog w _ _ ?_);cases e with
     |true=>
      rw[if_pos (hiff.mp rfl)] at hR
      wp_walk
      exact⟨rfl,rfl,_,_,_,_,hrest,hvi',hwi',by lia,hR⟩
     |false=>
      rw[if_neg (λq=>absurd (hiff.mpr q) Bool.false_ne_true)] at hR;have hri:=wF A.in1 ⟨hp,g,d,tk,os⟩ a t c u prog w
      wp_walk using hri
      exact⟨_,rfl,by simpa using hR⟩
  case fin=>
   rintro⟨b1,b2⟩ s' ⟨hb',rfl,vs,ws,ns',ms',hz,hvi,hwi,hlen,hR⟩;simp only at hb';subst hb'
   have hv:hV ns' ms'=decide (items2.size<items.size):=by
    cases hvi with
    |nil=>
     cases hwi with
     |nil=>
      simp only[List.length_nil] at hlen;exact(decide_eq_false (by lia)).symm
     |cons c u hw=>
      simp only[List.length_nil,List.length_cons] at hlen;exact(decide_eq_false (by lia)).symm
    |cons a t hv=>
     cases hwi with
     |nil=>
      simp only[List.length_nil,List.length_cons] at hlen;exact(decide_eq_true (by lia)).symm
     |cons c u hw=>
      rw[List.zip_cons_cons] at hz;cases hz
   rw[hv] at hR
   wp_walk
   exact⟨_,rfl,by simpa[Builtin.Tuple.tupleCompareSizes] using hR⟩
  case h=>
   exact⟨rfl,rfl,items.toList,items2.toList,ns,ms,rfl,hi,hj,by lia,h⟩
end
theorem qI{prog:Program}{w:World}{A:Around}{E:Value->Shared->Prop}{s:Shared}{l b:Addr}{items items2:Array Value}{ns ms:List Int}{Q:Value->Shared->Prop}(hl:IsTup s.heap l items)(hb:IsTup s.heap b items2)(hi:IntsAre items.toList ns)(hj:IntsAre items2.toList ms)
  (hu:A.units<cLine) (h:Q (.bool (hV ns ms)) s):wpAny (model prog w) A (richCompare .Gt (.ref l) (.ref b)) Q E s:=by
 obtain⟨⟨cls,dd,data,sl⟩,ho,hc,n,hd⟩:=id hl;obtain⟨⟨cls2,dd2,data2,sl2⟩,ho2,hc2,n2,hd2⟩:=id hb;simp only at hc hd hc2 hd2;subst hc hd hc2 hd2
 exact richCompare_meets_room (op:=.Gt) ⟨_,ho,rfl⟩ ⟨_,ho2,rfl⟩ PySem.F.slot_tuple_gt PySem.F.entry_tuple_gt (PySem.F.args_tuple_gt_2 _ _) (lJ l b items items2 n n2 dd dd2 sl sl2 ns ms hi hj)
  ⟨ho,ho2,show Value.bool (hV ns ms)≠Value.notImplemented/\Q (.bool (hV ns ms)) s from⟨(λx=>nomatch x),h⟩⟩ hu
end HG
namespace Dn
open PySem PySem.Spec PyProof.Rows L2
section
variable{prog:Program}{w:World}{Ar:Around}{Rs:Result->Shared->Prop}{It S:Addr}{fp wr:List Addr}{n:Nat}{Pv:Nat->Value->Prop}{St:Nat->Heap->Prop}{kw:List (Str×Value)}{hv:Heap->Prop}{bt:Nat->Nat->Bool}
theorem Bx(W:Walks prog w Ar.in1 It fp wr n Pv St)(cmp:∀i j vi vj (t:Shared) (Q:Value->Shared->Prop) (E:Value->Shared->Prop),Pv i vi->Pv j vj->hv t.heap->Q (.bool (bt i j)) t->wpAny (model prog w) Ar.in1 (richCompare .Gt vi vj) Q E t)
  (kp:∀g g',hv g->(∀b o,b∉wr->b≠S->g.get? b=some o->g'.get? b=some o)->hv g') (apart:S∉fp):∀(k j:Nat) (t:Shared) (best:Value) (c:Nat),j+1+k=n->St (j+1) t.heap->hv t.heap->Pv (argBest bt j) best->IsL t.heap S #[best,best] c->
  (∀v g tk,Pv (argBest bt (n-1)) v->(∀b o,b∉wr->b≠S->t.heap.get? b=some o->g.get? b=some o)->Rs (.ok (.ret v)) { t with heap:=g,toks:=tk })->codeAny (model prog w) Ar (.builtin "max.loop" ⟨[.ref It,.none,.ref S],kw⟩) Rs t:=by
 have away:S∉wr:=λz=>apart (W.sub _ z);intro k
 induction k with
 |zero=>
  intro j t best c ej st hv0 hb hS want;refine codeAny_builtin F.entry_max_loop ?_;rw[Around.under_plainId F.plain_max_loop _];refine wpAny_bind (m:=seqItems? (.ref S)) (wpAny_seqItems hS rfl (wpAny_bind (wpAny_tryCatch (W.done t _ _ (ej▸st) λg tk kept=>?_))));have hS1:IsL g S #[best,best] c:=kept S _ away hS;refine wpAny_bind (m:=updateSeq S (λ_=>#[])) (wpAny_updateSeq hS1 rfl (wpAny_bind (wpAny_letGo (wpAny_pure ?_))));refine want best _ tk (by rw[<-ej];exact hb) λb o q1 q2 e=>(Heap.get?_update_other _ _ (Ne.symm q2)).trans (kept b o q1 e)
 |succ k ih=>
  intro j t best c ej st hv0 hb hS want;have more:j+1<n:=by lia
  refine codeAny_builtin F.entry_max_loop ?_;rw[Around.under_plainId F.plain_max_loop _];refine wpAny_bind (m:=seqItems? (.ref S)) (wpAny_seqItems hS rfl (wpAny_bind (wpAny_tryCatch (W.item (j+1) t _ _ more st λv g tk hpv st1 kept=>?_))));have hS1:IsL g S #[best,best] c:=kept S _ away hS;have hv1:hv g:=kp _ _ hv0 λb o q1 _ e=>kept b o q1 e;refine wpAny_bind (wpAny_pure (wpAny_bind (wpAny_tryCatch (wpAny_holding (wpAny_bind (cmp (j+1) (argBest bt j) v best _ _ _ hpv hb hv1 (wpAny_bind (wpAny_holding (wpAny_truthy_bool (wpAny_bind (wpAny_letGo (wpAny_pure ?_))))))))))));cases yes:bt (j+1) (argBest bt j) with
  |true=>
   rw[if_pos rfl];refine wpAny_bind (m:=updateSeq S (λ_=>#[v,v])) (wpAny_updateSeq hS1 rfl (wpAny_bind (wpAny_letGo ?_)));rw[eT];refine wpAny_pure ⟨plainId_quiet F.plain_max_loop _,ih (j+1) _ v _ (by lia) (W.frame _ _ _ st1 λb q o e=>(Heap.get?_update_other _ _ (λz:S=b=>apart (by rw[z];exact q))).trans e) (kp _ _ hv1 λb o _ q2 e=>(Heap.get?_update_other _ _ (Ne.symm q2)).trans e) ?_ (Heap.get?_update_self _ hS1 rfl) λv2 g2 tk2 hv2 kept2=>want v2 g2 tk2 hv2 λb o q1 q2 e=>kept2 b o q1 q2 ((Heap.get?_update_other _ _ (Ne.symm q2)).trans (kept b o q1 e))⟩;unfold argBest;rw[if_pos yes];exact hpv
  |false=>
   rw[if_neg Bool.false_ne_true];refine wpAny_bind (wpAny_letGo ?_);rw[eT];refine wpAny_pure ⟨plainId_quiet F.plain_max_loop _,ih (j+1) _ best c (by lia) st1 hv1 ?_ hS1 λv2 g2 tk2 hv2 kept2=>want v2 g2 tk2 hv2 λb o q1 q2 e=>kept2 b o q1 q2 (kept b o q1 e)⟩;unfold argBest;rw[yes,if_neg Bool.false_ne_true];exact hb
theorem vC(W:Walks prog w Ar.in1 It fp wr n Pv St)(cmp:∀i j vi vj (t:Shared) (Q:Value->Shared->Prop) (E:Value->Shared->Prop),Pv i vi->Pv j vj->hv t.heap->Q (.bool (bt i j)) t->wpAny (model prog w) Ar.in1 (richCompare .Gt vi vj) Q E t)
  (kp:∀g g',hv g->(∀b o,b∉wr->b≠S->g.get? b=some o->g'.get? b=some o)->hv g') (apart:S∉fp) {t:Shared} {c:Nat} (pos:0<n) (st:St 0 t.heap) (hv0:hv t.heap) (hS:IsL t.heap S #[] c)
  (want:∀v g tk,Pv (argBest bt (n-1)) v->(∀b o,b∉wr->b≠S->t.heap.get? b=some o->g.get? b=some o)->Rs (.ok (.ret v)) { t with heap:=g,toks:=tk }) :
  codeAny (model prog w) Ar (.builtin "max.loop" ⟨[.ref It,.none,.ref S],kw⟩) Rs t:=by
 have away:S∉wr:=λz=>apart (W.sub _ z);refine codeAny_builtin F.entry_max_loop ?_;rw[Around.under_plainId F.plain_max_loop _];refine wpAny_bind (m:=seqItems? (.ref S)) (wpAny_seqItems hS rfl (wpAny_bind (wpAny_tryCatch (W.item 0 t _ _ pos st λv g tk hpv st1 kept=>?_))));have hS1:IsL g S #[] c:=kept S _ away hS;have hv1:hv g:=kp _ _ hv0 λb o q1 _ e=>kept b o q1 e;refine wpAny_bind (wpAny_pure (wpAny_bind (m:=updateSeq S (λ_=>#[v,v])) (wpAny_updateSeq hS1 rfl ?_)));rw[eT]
 exact wpAny_pure ⟨plainId_quiet F.plain_max_loop _,Bx W cmp kp apart (n-1) 0 _ v _ (by lia) (W.frame _ _ _ st1 λb q o e=>(Heap.get?_update_other _ _ (λz:S=b=>apart (by rw[z];exact q))).trans e) (kp _ _ hv1 λb o _ q2 e=>(Heap.get?_update_other _ _ (Ne.symm q2)).trans e) hpv (Heap.get?_update_self _ hS1 rfl)
  λv2 g2 tk2 hv2 kept2=>want v2 g2 tk2 hv2 λb o q1 q2 e=>kept2 b o q1 q2 ((Heap.get?_update_other _ _ (Ne.symm q2)).trans (kept b o q1 e))⟩
end
noncomputable def eE:List D->Option (List (Int×Int))
 |[]=>some []
 |.tup [.int a,.int b]::ds=>(eE ds).bind λr=>some ((a,b)::r)
 |_=>none
noncomputable def btP(ps:List (Int×Int))(i j:Nat):Bool:=HG.hV [(ps.getD i (0,0)).1,(ps.getD i (0,0)).2] [(ps.getD j (0,0)).1,(ps.getD j (0,0)).2]
noncomputable def lT:List D->Option D
 |[.lst ds]=>(eE ds).bind λps=>if 0<ps.length then ds[argBest (btP ps) (ps.length-1)]? else none
 |_=>none
theorem jF:∀{ds:List D} {ps:List (Int×Int)},eE ds=some ps->ds.length=ps.length/\∀(i:Nat) d,ds[i]?=some d->d=.tup [.int (ps.getD i (0,0)).1,.int (ps.getD i (0,0)).2]
 |[],ps,e=>by cases e;exact⟨rfl,λi d h=>by simp at h⟩
 |d::ds,ps,e=>by
  unfold eE at e;split at e
  ·rename_i h;cases h
  ·rename_i a b ds' h
   cases h;obtain⟨r,e1,e2⟩:=aq e;cases e2;obtain⟨h1,h2⟩:=jF e1;refine⟨by simp[h1],λi d hd=>?_⟩;cases i with
   |zero=>simp at hd;subst hd;rfl
   |succ i=>exact h2 i d (by simpa using hd)
  ·cases e
section
variable{X:Cx}
theorem yq{k:Nat}(hr:Room k X.A)(hc:X.calm=true):pj X (.builtin "max") lT:=by
 refine⟨λxs H Q=>∃G l vs ds ps,xs=[.ref l]/\aR G H/\SqL X.K G l vs/\DenL X.K G vs ds/\eE ds=some ps/\0<ps.length/\∀v,vs[argBest (btP ps) (ps.length-1)]?=some v->Q v H,λpins s σ H xs us Q I rv h=>?_,λG H vs ds d Q gh hd e q=>?_⟩
 ·obtain⟨G,l,vs,ds,ps,rfl,gh,hq,hd,et,pos,q⟩:=h
  obtain⟨u,rfl,ru⟩:=rv.one;cases ru;obtain⟨its,rr,pl,hz⟩:=I.list (gh.seq hq);obtain⟨n1,n2⟩:=jF et;have nl:its.length=ps.length:=by rw[<-rr.length,hd.length,n1]
  have hl:=pl.isList;have lt:l<s.heap.objs.size:=let⟨_,there,_⟩:=hl;Heap.lt_size there
  have at_:∀i v,its[i]?=some v->∃(a:Addr) (arr:Array Value),v=.ref a/\IsTup s.heap a arr/\IntsAre arr.toList [(ps.getD i (0,0)).1,(ps.getD i (0,0)).2]:=λi v hv=>by
   have hi:i<its.length:=(List.getElem?_eq_some_iff.mp hv).1;have hx:vs[i]?=some (vs[i]'(by rw[rr.length];exact hi)):=by simp
   obtain⟨d,e1,e2⟩:=hd.getV hx;have:=n2 i d e1;subst this;obtain⟨a,ys,ea,w1,w2⟩:=e2.tupV;obtain⟨u,eu,ru⟩:=rr.get hx;rw[hv] at eu;cases eu;rw[ea] at ru;cases(show v=Value.ref a from ru);obtain⟨arr,r2,p2,_⟩:=I.tuple (aK gh w1);refine⟨a,arr.toArray,rfl,p2,?_⟩
   have:ys=[(ps.getD i (0,0)).1,(ps.getD i (0,0)).2].map V.int:=by
    cases w2 with | cons g1 w2=>cases w2 with | cons g2 w2=>
     cases w2;rw[g1.intV,g2.intV];rfl
   rw[this] at r2;simpa using dY r2
  have sz:its.toArray.size=ps.length:=by simp[nl]
  refine qR F.kind_max F.plain_max F.entry_max (F.args_max1 _) ?_;refine wpAny_bind (m:=Builtin.Builtins.bindParams "max" ["key","default"] 0 ⟨[],[]⟩) (wpAny_of_eq (a:=[none,none]) rfl (wpAny_bind (wpAny_pure ?_)));refine wpAny_bind (wpAny_pyIter_list hl (wpAny_bind (wpAny_newObj_type ?_)));have W:=Walks.list (prog:=X.prog) (w:=X.w) (A:=X.A.in1) (I.ok.hd hc) s.heap.objs.size l (Nat.ne_of_lt lt) its.toArray
  have ap:(s.heap.push { cls:=.type "list_iterator",data:=.fields #[.ref l,.int 0 0] }).objs.size∉[s.heap.objs.size,l]:=λz=>by
   rw[Heap.size_push] at z;simp only[List.mem_cons,List.not_mem_nil,or_false] at z;rcases z with z | z
   ·exact absurd z (Nat.succ_ne_self _)
   ·rw[<-z] at lt;exact absurd (Nat.lt_trans (Nat.lt_succ_self _) lt) (Nat.lt_irrefl _)
  rw[eT]
  refine wpAny_pure ⟨plainId_quiet F.plain_max_loop _,vC (hv:=λg=>∀b o,s.heap.get? b=some o->g.get? b=some o) (bt:=btP ps) W (λi j vi vj t Q' E' hi hj hg hQ=>?_) (λg g' hg hk b o e=>?_) ap (by rw[sz];exact pos)
   (W.frame _ _ _ (show _/\_ from⟨⟨_,Heap.get?_push_size _ rfl,rfl,rfl⟩,hl.push _⟩) λb _ o e=>Heap.get?_push_of_some _ e) (λb o e=>Heap.get?_push_of_some _ (Heap.get?_push_of_some _ e)) (Heap.get?_push_size _ rfl) λv g tk hv kept=>?_⟩
  ·obtain⟨a1,r1,rfl,p1,i1⟩:=at_ i vi (by simpa using hi)
   obtain⟨a2,r2,rfl,p2,i2⟩:=at_ j vj (by simpa using hj);have k1:IsTup t.heap a1 r1:=let⟨o,e,r⟩:=p1;⟨o,hg _ _ e,r⟩;have k2:IsTup t.heap a2 r2:=let⟨o,e,r⟩:=p2;⟨o,hg _ _ e,r⟩;exact HG.qI k1 k2 i1 i2 (by show X.A.units+1<cLine;have:=hr.units;lia) hQ
  ·have l0:=Heap.lt_size e
   refine hk b o (λz=>?_) (λz=>?_) (hg b o e)
   ·rw[List.mem_singleton.mp z] at l0;exact Nat.lt_irrefl _ l0
   ·rw[z,Heap.size_push] at l0;exact absurd (Nat.lt_trans (Nat.lt_succ_self _) l0) (Nat.lt_irrefl _)
  ·rw[sz] at hv
   have I3:Inv X pins σ H { s with heap:=g,toks:=tk }:=I.kept (t':=tk) λb o e=>by
    have l0:=Heap.lt_size e;refine kept b o (λz=>?_) (λz=>?_) (Heap.get?_push_of_some _ (Heap.get?_push_of_some _ e))
    ·rw[List.mem_singleton.mp z] at l0;exact Nat.lt_irrefl _ l0
    ·rw[z,Heap.size_push] at l0;exact absurd (Nat.lt_trans (Nat.lt_succ_self _) l0) (Nat.lt_irrefl _)
   have hv':its[argBest (btP ps) (ps.length-1)]?=some v:=by simpa using hv
   have hi:=(List.getElem?_eq_some_iff.mp hv').1;have hx:vs[argBest (btP ps) (ps.length-1)]?=some (vs[argBest (btP ps) (ps.length-1)]'(by rw[rr.length];exact hi)):=by simp
   obtain⟨u,eu,ru⟩:=rr.get hx;rw[hv'] at eu;cases eu;exact⟨_,H,I3,ru,q _ hx⟩
 ·unfold lT at e
  split at e
  ·rename_i es
   obtain⟨ps,et,e⟩:=aq e;split at e
   ·rename_i pos
    cases hd with | cons h1 h2=>
     cases h2;obtain⟨l,xs,rfl,h3,h4⟩:=h1.lstV;refine⟨G,l,xs,es,ps,rfl,gh,h3,h4,et,pos,λv hv=>?_⟩;obtain⟨d',e1,e2⟩:=h4.getV hv;rw[e] at e1;cases e1;exact q v G H (.refl gh) e2
   ·cases e
  ·cases e
end
end Dn
namespace L2
open PySem PySem.Spec PyProof.Rows
section
variable{κ:Type}[DecidableEq κ]
noncomputable def ig(kvs:List (κ×V))(k:κ):Option V:=(kvs.find? λkv=>decide (kv.1=k)).map (·.2)
noncomputable def lh(kvs:List (κ×V))(k:κ)(v:V):List (κ×V):=
 if(kvs.any λkv=>decide (kv.1=k))=true then kvs.map (λkv=>if kv.1=k then(kv.1,v) else kv) else kvs++[(k,v)]
noncomputable def zC(kvs:List (κ×V))(k:κ):List (κ×V):=kvs.filter λkv=>decide (kv.1≠k)
theorem kN{p:κ×V}{r:List (κ×V)}{k:κ}(e:p.1=k):ig (p::r) k=some p.2:=by simp[ig,List.find?_cons,e]
theorem lg{p:κ×V}{r:List (κ×V)}{k:κ}(e:¬ p.1=k):ig (p::r) k=ig r k:=by simp[ig,List.find?_cons,e]
theorem oJ(k:κ):∀kvs:List (κ×V),(kvs.any λkv=>decide (kv.1=k))=(ig kvs k).isSome
 |[]=>rfl
 |p::r=>by
  rw[List.any_cons]
  by_cases e:p.1=k
  ·simp only[kN e,decide_eq_true e,Bool.true_or,Option.isSome_some]
  ·rw[lg e,decide_eq_false e,Bool.false_or];exact oJ k r
theorem oQ(kvs:List (κ×V))(k:κ)(v:V):(lh kvs k v).length<=kvs.length+1:=by
 unfold lh;split
 ·rw[List.length_map];lia
 ·rw[List.length_append,List.length_cons,List.length_nil];lia
theorem jU.isSome_eq{o:Option V}{u:Option Value}(r:jU o u):o.isSome=u.isSome:=by
 cases o with
 |none=>cases u with
  |none=>rfl
  |some _=>exact(show False from r).elim
 |some _=>cases u with
  |none=>exact(show False from r).elim
  |some _=>rfl
theorem jU.getD{o:Option V}{u:Option Value}{d:V}{d':Value}(r:jU o u)(rd:aY d d'):aY (o.getD d) (u.getD d'):=by
 cases o with
 |none=>cases u with
  |none=>exact rd
  |some _=>exact(show False from r).elim
 |some _=>cases u with
  |none=>exact(show False from r).elim
  |some _=>exact r
theorem KV.val{kvs:List (κ×V)}{vs:List (κ×Value)}(r:KV kvs vs)(k:κ):jU (ig kvs k) (valueAt vs k):=by
 unfold KV at r
 induction r with
 |nil=>exact True.intro
 |@cons p q ps qs h t ih=>
  obtain⟨h1,h2⟩:=h
  by_cases e:p.1=k
  ·have e':q.1=k:=h1.symm.trans e
   have b:valueAt (q::qs) k=some q.2:=by simp[valueAt,List.find?_cons,e']
   rw[kN e,b];exact h2
  ·have e':¬ q.1=k:=λz=>e (h1.trans z)
   have b:valueAt (q::qs) k=valueAt qs k:=by simp[valueAt,List.find?_cons,e']
   rw[lg e,b];exact ih
theorem KV.any{kvs:List (κ×V)}{vs:List (κ×Value)}(r:KV kvs vs)(k:κ):(kvs.any λkv=>decide (kv.1=k))=vs.any λkv=>decide (kv.1=k):=by
 unfold KV at r
 induction r with
 |nil=>rfl
 |cons h t ih=>rw[List.any_cons,List.any_cons,ih,h.1]
theorem KV.repl{kvs:List (κ×V)}{vs:List (κ×Value)}(r:KV kvs vs)(k:κ){y:V}{u:Value}(ry:aY y u) :
  KV (kvs.map λkv=>if kv.1=k then(kv.1,y) else kv) (vs.map λkv=>if kv.1=k then(kv.1,u) else kv):=by
 unfold KV at r ⊢
 induction r with
 |nil=>exact .nil
 |@cons p q ps qs h t ih=>
  rw[List.map_cons,List.map_cons];refine .cons ?_ ih;obtain⟨h1,h2⟩:=h
  by_cases e:p.1=k
  ·rw[if_pos e,if_pos (h1.symm.trans e)];exact⟨h1,ry⟩
  ·rw[if_neg e,if_neg (λz=>e (h1.trans z))];exact⟨h1,h2⟩
theorem KV.put{kvs:List (κ×V)}{vs:List (κ×Value)}(r:KV kvs vs)(k:κ){y:V}{u:Value}(ry:aY y u):KV (lh kvs k y) (stored vs k u):=by
 unfold lh stored;rw[r.any k]
 by_cases e:(vs.any λkv=>decide (kv.1=k))=true
 ·rw[if_pos e,if_pos e];exact r.repl k ry
 ·rw[if_neg e,if_neg e];exact Paired.snoc r ⟨rfl,ry⟩
theorem KV.drop{kvs:List (κ×V)}{vs:List (κ×Value)}(r:KV kvs vs)(k:κ):KV (zC kvs k) (without vs k):=by
 unfold KV at r ⊢;unfold zC without
 induction r with
 |nil=>exact .nil
 |@cons p q ps qs h t ih=>
  obtain⟨h1,h2⟩:=h;rw[List.filter_cons,List.filter_cons]
  by_cases e:p.1=k
  ·have a:¬ decide (p.1≠k)=true:=by simp[e]
   have b:¬ decide (q.1≠k)=true:=by simp[h1.symm.trans e]
   rw[if_neg a,if_neg b];exact ih
  ·have e':¬ q.1=k:=λz=>e (h1.trans z)
   have a:decide (p.1≠k)=true:=by simp[e]
   have b:decide (q.1≠k)=true:=by simp[e']
   rw[if_pos a,if_pos b];exact .cons ⟨h1,h2⟩ ih
theorem KV.keys{kvs:List (κ×V)}{vs:List (κ×Value)}(r:KV kvs vs):kvs.map (·.1)=vs.map (·.1):=by
 unfold KV at r
 induction r with
 |nil=>rfl
 |cons h t ih=>rw[List.map_cons,List.map_cons,ih,h.1]
theorem KV.length{kvs:List (κ×V)}{vs:List (κ×Value)}(r:KV kvs vs):kvs.length=vs.length:=Paired.length r
end
theorem uy{P:Program}{w:World}{k:Key}{u:Value}(r:aY (kV k) u):(bK P w).is k u=true:=by
 cases k with
 |inl i=>obtain⟨t,e⟩:=(show ∃t,u=Value.int i t from r);subst e;exact jC P w i t
 |inr x=>obtain⟨t,e⟩:=(show ∃t,u=Value.str x t from r);subst e;exact og P w x t
theorem mh{P:Program}{w:World}:∀{ks:List Key} {us:List Value},aV (ks.map kV) us->ItemsAre (bK P w) ks us
 |[],_,r=>by rw[List.map_nil] at r;cases r;exact .nil
 |k::ks,_,r=>by
  rw[List.map_cons] at r;cases r with
  |cons h t=>exact .cons (uy h) (mh t)
noncomputable abbrev KT(H:Hp):List (List Key×V)->List (List Key×Addr×Value)->Prop:=Paired λp q=>p.1=q.1/\H q.2.1=some (.tup (p.1.map kV))/\aY p.2 q.2.2
theorem KT.val{H:Hp}{kvs:List (List Key×V)}{xs:List (List Key×Addr×Value)}(r:KT H kvs xs)(k:List Key):jU (ig kvs k) ((atKey xs k).map (·.2)):=by
 induction r with
 |nil=>exact True.intro
 |@cons p q ps qs h t ih=>
  obtain⟨h1,_,h2⟩:=h
  by_cases e:p.1=k
  ·have e':q.1=k:=h1.symm.trans e
   have b:atKey (q::qs) k=some q.2:=by simp[atKey,List.find?_cons,e']
   rw[kN e,b];exact h2
  ·have e':¬ q.1=k:=λz=>e (h1.trans z)
   have b:atKey (q::qs) k=atKey qs k:=by simp[atKey,List.find?_cons,e']
   rw[lg e,b];exact ih
theorem KT.repl{H:Hp}{kvs:List (List Key×V)}{xs:List (List Key×Addr×Value)}(r:KT H kvs xs)(k:List Key){y:V}{u:Value}(ry:aY y u) :
  KT H (kvs.map λkv=>if kv.1=k then(kv.1,y) else kv) (xs.map (putAt k u)):=by
 induction r with
 |nil=>exact .nil
 |@cons p q ps qs h t ih=>
  rw[List.map_cons,List.map_cons];refine .cons ?_ ih;obtain⟨h1,h2,h3⟩:=h;unfold putAt
  by_cases e:p.1=k
  ·rw[if_pos e,if_pos (h1.symm.trans e)];exact⟨h1,h2,ry⟩
  ·rw[if_neg e,if_neg (λz=>e (h1.trans z))];exact⟨h1,h2,h3⟩
theorem KT.put{H:Hp}{kvs:List (List Key×V)}{xs:List (List Key×Addr×Value)}(r:KT H kvs xs)(k:List Key){b:Addr}{y:V}{u:Value}(hb:H b=some (.tup (k.map kV)))(ry:aY y u) :
  KT H (lh kvs k y) (storedH xs k b u):=by
 have e:(kvs.any λkv=>decide (kv.1=k))=(atKey xs k).isSome:=by
  rw[oJ,(r.val k).isSome_eq,Option.isSome_map]
 unfold lh storedH;rw[e]
 by_cases q:(atKey xs k).isSome=true
 ·rw[if_pos q,if_pos q];exact r.repl k ry
 ·rw[if_neg q,if_neg q];exact Paired.snoc r ⟨rfl,hb,ry⟩
theorem KT.keeps{H H':Hp}{kvs:List (List Key×V)}{xs:List (List Key×Addr×Value)}(r:KT H kvs xs)(ht:∀b ys,H b=some (.tup ys)->H' b=some (.tup ys)):KT H' kvs xs:=
 Paired.mapP r λ_ _ z=>⟨z.1,ht _ _ z.2.1,z.2.2⟩
section
variable{P:Program}{w:World}{H:Hp}{h:Heap}{a:Addr}
theorem zd{u:HO}(ok:HOk P w H h)(e:Rd H a u):bG P w H h a u:=e.ok ok
theorem wq{kvs:List (Key×V)}(ok:HOk P w H h)(e:Rd H a (.dK kvs)):kvs.length<=sizeLine/\(a==sysModules)=false/\∃vs,KV kvs vs/\h.DictOf (bK P w) a vs:=
 show bG P w H h a (.dK kvs) from zd ok e
theorem BM{kvs:List (Key×V)}(ok:HOk P w H h)(e:H a=some (.dK kvs)):kvs.length<=sizeLine/\(a==sysModules)=false/\∃vs,KV kvs vs/\h.DictOf (bK P w) a vs:=wq ok (.inl e)
theorem wB{ks:List Key}(ok:HOk P w H h)(e:H a=some (.tup (ks.map kV))):(tupleKind (bK P w)).is h ks a:=by
 obtain⟨_,its,r,o,h1,h2,n,h3⟩:=(show bG P w H h a (.tup (ks.map kV)) from ok a _ e);exact⟨o,its.toArray,n,h1,h2,h3,by simpa using mh r⟩
theorem y3{kvs:List (List Key×V)}(ok:HOk P w H h)(e:Rd H a (.dT kvs)):kvs.length<=sizeLine/\(a==sysModules)=false/\
  ∃xs,KT H kvs xs/\h.DictOfH (tupleKind (bK P w)) a xs:=by
 obtain⟨z,y,xs,r,o,es,ep,h1,h2,h3,h4,h5⟩:=(show bG P w H h a (.dT kvs) from zd ok e);refine⟨z,y,xs,r,o,es,ep,h1,h2,h3,h4,λx hx=>?_,h5⟩
 have all:∀{l:List (List Key×V)} {m:List (List Key×Addr×Value)},KT H l m->∀x∈m,(tupleKind (bK P w)).is h x.1 x.2.1:=by
  intro l m q
  induction q with
  |nil=>intro x hx;exact nomatch hx
  |@cons p q ps qs hq t ih=>
   intro x hx;rcases List.mem_cons.mp hx with e | hx
   ·subst e
    exact wB ok (by rw[<-hq.1];exact hq.2.1)
   ·exact ih x hx
 exact all r x hx
end
noncomputable def lD(H:Hp)(a:Addr)(y:V)(r:Option V):Prop:=
 (∃kvs k,Rd H a (.dK kvs)/\y=kV k/\r=ig kvs k)\/∃kvs k b,Rd H a (.dT kvs)/\y=.ref b/\H b=some (.tup (k.map kV))/\r=ig kvs k
theorem lD.k{H:Hp}{a:Addr}{kvs:List (Key×V)}{k:Key}(e:H a=some (.dK kvs)):lD H a (kV k) (ig kvs k):=.inl ⟨kvs,k,.inl e,rfl,rfl⟩
theorem lD.t{H:Hp}{a b:Addr}{kvs:List (List Key×V)}{k:List Key}(e:H a=some (.dT kvs))(eb:H b=some (.tup (k.map kV))):lD H a (.ref b) (ig kvs k):=.inr ⟨kvs,k,b,.inl e,rfl,eb,rfl⟩
section
variable{X:Cx}{pins:List (Addr×Obj)}{σ:St}{H:Hp}{s:Shared}{a:Addr}{y v:V}{u r:Value}{o:Option V}{A:Around}{E:Value->Shared->Prop}
theorem Inv.big(I:Inv X pins σ H s):sysModules<s.heap.objs.size:=by
 have h:mainGlobals<s.heap.objs.size:=(I.mod.glob.keeps I.bk).lt;exact Nat.lt_trans (by decide) h
theorem sy{Q:Value->Shared->Prop}(hu:A.units+1<cLine)(I:Inv X pins σ H s)(g:lD H a y (some v))(ry:aY y u)(h:∀w' s',Inv X pins σ H s'->aY v w'->Q w' s') :
  wpAny (model X.prog X.w) A (getItem (.ref a) u) Q E s:=by
 rcases g with⟨kvs,k,e,ey,l⟩ | ⟨kvs,k,b,e,ey,eb,l⟩
 ·subst ey
  obtain⟨z,hd,vs,rel,dd⟩:=wq I.hok e;obtain⟨w',hw,rw'⟩:=jU.some_of (v:=v) (o:=valueAt vs k) (by rw[l];exact rel.val k);exact wpAny_getItem_of (uy ry) dd.mapOf hw (h w' _ (I.tok _) rw')
 ·subst ey
  cases(show u=Value.ref b from ry);obtain⟨z,hd,xs,rel,dd⟩:=y3 I.hok e;obtain⟨w',hw,rw'⟩:=jU.some_of (v:=v) (o:=(atKey xs k).map (·.2)) (by rw[l];exact rel.val k);obtain⟨p,hp,hp2⟩:=Option.map_eq_some_iff.mp hw;refine wpAny_getItem_heap (tupleKind_room_in1 hu) (wB I.hok eb) dd hp ?_;rw[hp2];exact h w' _ (I.tok _) rw'
theorem yf{h':Heap}{t':Nat}{ob:HO}(I:Inv X pins σ H s)(mu:Mut (H a))(hs:Heap.SameBut a s.heap h')(he:∃q,h'.get? a=some q)(new:bG X.prog X.w (upd H a ob) h' a ob) :
  Inv X pins σ (upd H a ob) { s with heap:=h',toks:=t' }:=
 I.write (x:=a) (e:=a) mu (.inl rfl) (λb q hb z=>(hs.2 b hb).trans z) he new
theorem AX{P:Program}{w:World}{H':Hp}{h':Heap}{kvs:List (Key×V)}{vs:List (Key×Value)}(z:kvs.length<=sizeLine)(hd:(a==sysModules)=false)(rel:KV kvs vs)(dd:h'.DictOf (bK P w) a vs) :
  bG P w H' h' a (.dK kvs):=⟨z,hd,vs,rel,dd⟩
end
noncomputable def Bu(i:Expr):Prop:=∀ov iv,subscripted i false ov iv=operate [ov,iv] (getItem ov iv)
theorem yn{prog:Program}{w:World}{A:Around}{E:Value->Shared->Prop}{s:Shared}{env:Env}{value slice:Expr}{pos:Pos}{T id:String}{Q:Value->Shared->Prop}
  (hl:typeLookup (.type T) "__getitem__" = pure (some (.builtin id))) (hs:Bu slice)
  (h:wpAny (model prog w) A (eval value env) (λo s₁=>wpAny (model prog w) A (eval slice env) (λi s₂=>s₂.TypeIs o T/\wpAny (model prog w) A (getItem o i) Q E s₂) E s₁) E s) :
  wpAny (model prog w) A (eval (.Subscript value slice pos) env) Q E s:=by
 refine Subscript_ (wpAny_mono h (λo s₁ h₁=>wpAny_mono h₁ (λi s₂ h₂=>?_) λ_ _ x=>x) λ_ _ x=>x);obtain⟨hT,h₂⟩:=h₂;unfold subscriptTail;refine wpAny_bind ?_;rw[getitemInPython_of_ne hT.not_modules];refine wpAny_bind (wpAny_specialOf hT hl ?_)
 have fin:wpAny (model prog w) A (subscripted slice false o i) (λr s₃=>wpAny (model prog w) A (letTemporaryGo value o r>>=λ_=>pure r) Q E s₃) E s₂:=by
  rw[hs o i];exact wpAny_operating (wpAny_mono h₂ (λr s₃ h₃=>wpAny_bind (wpAny_letTemporaryGo (wpAny_pure h₃))) λ_ _ x=>x)
 first
  |exact wpAny_pure (wpAny_bind fin)
  |exact wpAny_bind (wpAny_pure (wpAny_bind fin))
  |exact wpAny_bind fin
theorem n6{X:Cx}{pins:List (Addr×Obj)}{σ:St}{H:Hp}{s:Shared}{a:Addr}{y:V}{o:Option V}(I:Inv X pins σ H s)(g:lD H a y o):s.TypeIs (.ref a) "dict":=by
 rcases g with⟨kvs,k,e,_,_⟩ | ⟨kvs,k,b,e,_,_,_⟩
 ·obtain⟨_,_,vs,_,dd⟩:=wq I.hok e
  exact dd.typeIs
 ·obtain⟨_,_,xs,_,dd⟩:=y3 I.hok e
  exact dd.typeIs
noncomputable def Cp(td ty:TE):TE:=λσ H Q=>td σ H λx H1=>ty σ H1 λy H2=>∃a v,x=.ref a/\lD H2 a y (some v)/\Q v H2
section
variable{X:Cx}{o i e value:Expr}{pos pos' tpos:Pos}{td ty tv:TE}
theorem xu(hu:X.A.units+1<cLine)(ho:PE X o td)(hi:PE X i ty)(hs:Bu i):PE X (.Subscript o i pos) (Cp td ty):=by
 intro pins s σ H Q I h;refine yn PySem.F.slot_dict_getitem.lookup hs (thn (ho pins s σ H _ I h) λu s1 ⟨x,H1,I1,rx,q1⟩=>thn (hi pins s1 σ H1 _ I1 q1) λiv s2 ⟨y,H2,I2,ry,a,v,ex,g,q2⟩=>?_);subst ex;obtain rfl:u=Value.ref a:=rx;exact⟨n6 I2 g,sy hu I2 g ry λw' s3 I3 rw'=>⟨v,H2,I3,rw',q2⟩⟩
end
theorem vB{P:Program}{w:World}{H:Hp}(h:Heap)(hb:sysModules<h.objs.size):bG P w H (h.push { cls:=.type "dict",data:=.dict #[] }) h.objs.size (.dK []):=
 ⟨Nat.zero_le _,beq_eq_false_iff_ne.mpr (Ne.symm (Nat.ne_of_lt hb)),[],.nil,Heap.DictOf.new h⟩
noncomputable def qE:List (TE×TE)->St->Hp->(List (V×V)->Hp->Prop)->Prop
 |[],_,H,Q=>Q [] H
 |(tk,tv)::r,σ,H,Q=>tk σ H λx H1=>tv σ H1 λy H2=>qE r σ H2 λps H3=>Q ((x,y)::ps) H3
noncomputable abbrev VV:List (V×V)->List (Value×Value)->Prop:=Paired λp q=>aY p.1 q.1/\aY p.2 q.2
noncomputable def PPs(X:Cx)(pos:Pos)(keys:List (Option Expr))(values:List Expr)(trs:List (TE×TE)):Prop:=
 ∀(pins:List (Addr×Obj)) (s:Shared) (σ:St) (H:Hp) (Q:List (V×V)->Hp->Prop),Inv X pins σ H s->qE trs σ H Q->
  wpAny (model X.prog X.w) X.A (evalPairs (pairTrees keys values X.env pos)) (λvs s'=>∃ps H',Inv X pins σ H' s'/\VV ps vs/\Q ps H') X.xe s
theorem xE{X:Cx}{pos:Pos}:PPs X pos [] [] []:=λpins s σ H Q I h=>pairTrees_nil_walk ⟨[],H,I,.nil,h⟩
theorem kZ{X:Cx}{pos:Pos}{k v:Expr}{ks:List (Option Expr)}{vs:List Expr}{tk tv:TE}{trs:List (TE×TE)}(hk:PE X k tk)(hv:PE X v tv)(hr:PPs X pos ks vs trs) :
  PPs X pos (some k::ks) (v::vs) ((tk,tv)::trs):=λpins s σ H Q I h=>
 pairTrees_cons_walk (thn (hk pins s σ H _ I h) λu s1 ⟨x,H1,I1,rx,q1⟩=>thn (hv pins s1 σ H1 _ I1 q1) λw2 s2 ⟨y,H2,I2,ry,q2⟩=>
  thn (hr pins s2 σ H2 _ I2 q2) λws s3 ⟨ps,H3,I3,rel,q3⟩=>⟨(x,y)::ps,H3,I3,.cons ⟨rx,ry⟩ rel,q3⟩)
noncomputable def fQ(kvs more:List (Key×V)):List (Key×V):=more.foldl (λacc kv=>lh acc kv.1 kv.2) kvs
theorem KV.merge:∀{more:List (Key×V)} {rs:List (Key×Value)} {kvs:List (Key×V)} {vs:List (Key×Value)},KV more rs->KV kvs vs->KV (fQ kvs more) (merged vs rs):=by
 intro more rs kvs vs r;unfold KV at r
 induction r generalizing kvs vs with
 |nil=>intro q;exact q
 |@cons p q ps qs h t ih=>
  intro r0
  have e:KV (lh kvs p.1 p.2) (stored vs q.1 q.2):=by
   have:=r0.put p.1 h.2;rw[<-h.1];exact this
  exact ih e
theorem hU:∀(more kvs:List (Key×V)),(fQ kvs more).length<=kvs.length+more.length
 |[],kvs=>by show kvs.length<=kvs.length+0;lia
 |p::r,kvs=>by
  have h1:=hU r (lh kvs p.1 p.2);have h2:=oQ kvs p.1 p.2;show(fQ (lh kvs p.1 p.2) r).length<=_;rw[List.length_cons];lia
theorem kY{P:Program}{w:World}:∀{kvs:List (Key×V)} {ws:List (Value×Value)},VV (kvs.map λkv=>(kV kv.1,kv.2)) ws->∃rs,Carries (bK P w) ws rs/\KV kvs rs
 |[],_,r=>by rw[List.map_nil] at r;cases r;exact⟨[],True.intro,.nil⟩
 |p::kvs,_,r=>by
  rw[List.map_cons] at r;cases r with
  |@cons a b as bs h t=>
   obtain⟨rs,c,q⟩:=kY (P:=P) (w:=w) t;obtain⟨b1,b2⟩:=b;exact⟨(p.1,b2)::rs,⟨uy h.1,rfl,c⟩,.cons ⟨rfl,h.2⟩ q⟩
noncomputable def BR(trs:List (TE×TE)):TE:=λσ H Q=>∀p,H p=none->qE trs σ (upd H p (.dK [])) λps H2=>H2 p=some (.dK [])/\∃kvs:List (Key×V),ps=kvs.map (λkv=>(kV kv.1,kv.2))/\kvs.length<=15/\Q (.ref p) (upd H2 p (.dK (fQ [] kvs)))
theorem xH{X:Cx}{pos:Pos}{keys:List (Option Expr)}{values:List Expr}{trs:List (TE×TE)}(h:PPs X pos keys values trs)(hall:keys.all (·.isSome)=true)(hl:keys.length=values.length)(h0:keys≠[])
  (h15:keys.length<=15):PE X (.Dict keys values pos) (BR trs):=by
 intro pins s σ H Q I q;have hn:=I.hok.fresh (Nat.le_refl s.heap.objs.size);have I1:=I.laid (a:=s.heap.objs.size) (o:=.dK []) (h':=s.heap.push { cls:=.type "dict",data:=.dict #[] }) (t':=s.toks) (λ_ _ q=>Heap.get?_push_of_some _ q) (Nat.le_refl _) (vB s.heap I.big);refine wpAny_Dict_walk (knd:=bK X.prog X.w) hall hl h0 h15 (thn (h pins _ σ _ _ I1 (q _ hn)) λws s2 ⟨ps,H2,I2,rel,e,kvs,ep,lk,q2⟩=>?_);subst ep;obtain⟨rs,c,rk⟩:=kY (P:=X.prog) (w:=X.w) rel;obtain⟨z,hd,vs0,r0,dd⟩:=BM I2.hok e;cases r0;refine⟨rs,c,dd,λh' dd' hs=>⟨.ref s.heap.objs.size,_,?_,rfl,q2⟩⟩
 have hz:(fQ [] kvs).length<=sizeLine:=by
  have h1:=hU kvs [];rw[List.length_nil] at h1;rw[sizeLine_eq];lia
 have he:∃q,h'.get? s.heap.objs.size=some q:=let⟨q,_,_,hq,_⟩:=dd';⟨q,hq⟩;exact yf I2 (by rw[e];exact True.intro) hs he (AX hz hd (rk.merge .nil) dd')
end L2
namespace Dn
open PySem PySem.Spec PyProof.Rows L2
section
variable{X:Cx}{pos dpos:Pos}{ka kb kc va vb vc ix:Expr}{a b c:Str}{i j k:Int}{fi:Ev->Option D}
noncomputable def eD3(a:Str)(i:Int)(b:Str)(j:Int)(c:Str)(k:Int)(fi:Ev->Option D):Ev->Option D:=λε=>match fi ε with
 |some (.str x)=>if x=a then some (.int i) else if x=b then some (.int j) else if x=c then some (.int k) else none
 |_=>none
theorem Au{m:Nat}(hr:Room m X.A)(h1:DE X ka (eC (.str a)))(h2:DE X va (eC (.int i)))(h3:DE X kb (eC (.str b)))(h4:DE X vb (eC (.int j)))(h5:DE X kc (eC (.str c)))(h6:DE X vc (eC (.int k)))(hi:DE X ix fi)(hs:Bu ix)
  (d1:a≠b:=by decide) (d2:a≠c:=by decide) (d3:b≠c:=by decide):DE X (.Subscript (.Dict [some ka,some kb,some kc] [va,vb,vc] dpos) ix pos) (eD3 a i b j c k fi):=by
 obtain⟨t1,p1,q1⟩:=h1;obtain⟨t2,p2,q2⟩:=h2;obtain⟨t3,p3,q3⟩:=h3;obtain⟨t4,p4,q4⟩:=h4;obtain⟨t5,p5,q5⟩:=h5;obtain⟨t6,p6,q6⟩:=h6;obtain⟨t7,p7,q7⟩:=hi;refine⟨_,xu (by have:=hr.units;lia) (xH (kZ p1 p2 (kZ p3 p4 (kZ p5 p6 xE))) rfl rfl (by simp) (show 3<=15 by decide)) p7 hs,λHe G H σ ε d Q gh E ef q=>?_⟩;intro p hp;have g0:Grow G H G (upd H p (.dK [])):=.lay _ gh hp;refine q1 He G _ σ ε _ _ g0.gh (E.grow g0) rfl λv1 G1 H1 g1 w1=>?_;have G01:=g0.trans g1;refine q2 He G1 H1 σ ε _ _ G01.gh (E.grow G01) rfl λv2 G2 H2 g2 w2=>?_;have G02:=G01.trans g2;refine q3 He G2 H2 σ ε _ _ G02.gh (E.grow G02) rfl λv3 G3 H3 g3 w3=>?_;have G03:=G02.trans g3;refine q4 He G3 H3 σ ε _ _ G03.gh (E.grow G03) rfl λv4 G4 H4 g4 w4=>?_;have G04:=G03.trans g4;refine q5 He G4 H4 σ ε _ _ G04.gh (E.grow G04) rfl λv5 G5 H5 g5 w5=>?_;have G05:=G04.trans g5;refine q6 He G5 H5 σ ε _ _ G05.gh (E.grow G05) rfl λv6 G6 H6 g6 w6=>?_;have G06:=G05.trans g6;have gp:Grow G (upd H p (.dK [])) G6 H6:=⟨(g1.hh.trans (g2.hh.trans (g3.hh.trans (g4.hh.trans (g5.hh.trans g6.hh))))),G06.gg,G06.gh,(g1.trans (g2.trans (g3.trans (g4.trans (g5.trans g6))))).fo⟩;have hp6:H6 p=some (.dK []):=gp.hh _ _ aN
 have gn:G6 p=none:=gp.fo p _ aN (by
  cases e:G p with
  |none=>rfl
  |some o=>have:=gh _ _ e;rw[hp] at this;cases this)
 cases w1;cases w2;cases w3;cases w4;cases w5;cases w6;refine⟨hp6,[(.inr a,.int i),(.inr b,.int j),(.inr c,.int k)],rfl,show 3<=15 by decide,?_⟩;have gN:Grow G H G6 (upd H6 p (.dK (fQ [] [(.inr a,.int i),(.inr b,.int j),(.inr c,.int k)]))):=⟨λu o e=>by rw[aT (aH e hp)];exact G06.hh u o e,G06.gg,λu o e=>by rw[aT (aH e gn)];exact G06.gh u o e,G06.fo⟩;unfold eD3 at ef;split at ef
 ·rename_i x ex
  refine q7 He G6 _ σ ε (.str x) _ gN.gh (E.grow gN) ex λv7 G7 H7 g7 w7=>?_;cases w7;have hd:H7 p=some (.dK (fQ [] [(.inr a,.int i),(.inr b,.int j),(.inr c,.int k)])):=g7.hh _ _ aN
  have em:fQ [] [(Sum.inr a,V.int i),(Sum.inr b,V.int j),(Sum.inr c,V.int k)]=[(Sum.inr a,V.int i),(Sum.inr b,V.int j),(Sum.inr c,V.int k)]:=by
   simp[fQ,lh,d1,d2,d3]
  rw[em] at hd;have gq:=gN.trans g7
  by_cases x1:x=a
  ·rw[if_pos x1] at ef
   cases ef;subst x1;exact⟨p,.int i,rfl,by have:=lD.k (k:=.inr x) hd;simpa[ig,kV] using this,q _ G7 H7 gq (.int _)⟩
  ·rw[if_neg x1] at ef
   by_cases x2:x=b
   ·rw[if_pos x2] at ef
    cases ef;subst x2;exact⟨p,.int j,rfl,by have:=lD.k (k:=.inr x) hd;simpa[ig,kV,d1] using this,q _ G7 H7 gq (.int _)⟩
   ·rw[if_neg x2] at ef
    by_cases x3:x=c
    ·rw[if_pos x3] at ef
     cases ef;subst x3;exact⟨p,.int k,rfl,by have:=lD.k (k:=.inr x) hd;simpa[ig,kV,d2,d3] using this,q _ G7 H7 gq (.int _)⟩
    ·rw[if_neg x3] at ef;cases ef
 ·cases ef
end
open PySem.W
section tree
variable{α β:Type}
end tree
structure Pm(n:Nat)(p:Array Nat):Prop where
 sz:p.size=n
 pm:p.toList.Perm (List.range n)
theorem Pm.lt{n:Nat}{p:Array Nat}(h:Pm n p){i:Nat}(hi:i<n):p.getD i 0<n:=by
 have h1:i<p.size:=by rw[h.sz];exact hi
 have e:p.getD i 0=p[i]:=by simp[Array.getD,h1]
 rw[e];have:p[i]∈p.toList:=by simp
 exact List.mem_range.mp (h.pm.mem_iff.mp this)
theorem Pm.start(n:Nat):Pm n (List.toArray (List.range n)):=⟨by simp,by simp⟩
theorem Pm.mir{n:Nat}{p:Array Nat}(h:Pm n p)(i j:Nat):Pm n (kas_rev p i j):=
 ⟨(mirror_size _ _ _ _).trans h.sz,(Array.perm_iff_toList_perm.mp (mirror_perm _ _ _ _)).trans h.pm⟩
theorem Pm.bub{n:Nat}{p:Array Nat}(h:Pm n p)(k d:Nat):Pm n (bubble p k d):=
 ⟨(bubble_size _ _ _).trans h.sz,(Array.perm_iff_toList_perm.mp (bubble_perm _ _ _)).trans h.pm⟩
structure Ord(n:Nat)(lt:Nat->Nat->Bool):Prop where
 as:∀x y,lt x y=true->lt y x=false
 tr:∀x y z,lt y x=false->lt z y=false->lt z x=false
section
variable{n:Nat}{lt:Nat->Nat->Bool}
theorem Ord.rf(O:Ord n lt)(x:Nat):lt x x=false:=by
 cases e:lt x x with
 |false=>rfl
 |true=>exact(O.as _ _ e).symm.trans e |>.symm▸rfl
noncomputable def Up(lt:Nat->Nat->Bool)(p:Array Nat)(m:Nat):Prop:=∀i j,i<=j->j<m->lt (p.getD j 0) (p.getD i 0)=false
theorem Up.one(O:Ord n lt)(p:Array Nat):Up lt p 1:=λi j h1 h2=>by
 have:i=j:=by lia
 subst this;exact O.rf _
theorem Up.more(O:Ord n lt){p:Array Nat}{m:Nat}(h:Up lt p m)(hm:1<=m)(e:lt (p.getD m 0) (p.getD (m-1) 0)=false):Up lt p (m+1):=λi j h1 h2=>by
 by_cases hj:j<m
 ·exact h i j h1 hj
 ·have:j=m:=by lia
  subst this
  by_cases hi:i=j
  ·subst hi;exact O.rf _
  ·exact O.tr _ _ _ (h i (j-1) (by lia) (by lia)) e
end
noncomputable def Kp(h g:Heap):Prop:=∀b o,h.get? b=some o->g.get? b=some o
noncomputable def stA(h:Heap)(vs:List Value):Heap:=(((h.push (seqObj "list" #[] 0)).update h.objs.size (Obj.mapSeq λx=>x++vs.toArray)).push (seqObj "list" vs.toArray 0))
noncomputable def stB(h:Heap)(vs:List Value):Heap:=((((stA h vs).update (h.objs.size+1) (Obj.mapSeq λ_=>#[])).push (seqObj "tuple" vs.toArray 0)).push (seqObj "list" #[] 0))
theorem n8(h:Heap)(vs:List Value):((h.push (seqObj "list" #[] 0)).update h.objs.size (Obj.mapSeq λx=>x++vs.toArray)).objs.size=h.objs.size+1:=(Heap.size_update ..).trans (size_push' ..)
theorem nL(h:Heap)(vs:List Value):(stA h vs).get? (h.objs.size+1)=some (seqObj "list" vs.toArray 0):=by
 unfold stA;rw[<-n8 h vs];exact Heap.get?_push_size _ rfl
theorem AE(h:Heap)(vs:List Value):Kp h (stA h vs):=λb o e=>by
 have lt:=Heap.lt_size e;unfold stA;refine Heap.get?_push_of_some _ ?_;rw[Heap.get?_update_ne _ _ _ _ (Nat.ne_of_lt lt)];exact Heap.get?_push_of_some _ e
theorem uI(h:Heap)(vs:List Value):Kp h (stB h vs):=λb o e=>by
 unfold stB;refine Heap.get?_push_of_some _ (Heap.get?_push_of_some _ ?_);rw[Heap.get?_update_ne _ _ _ _ (Nat.ne_of_lt (Nat.lt_succ_of_lt (Heap.lt_size e)))];exact AE h vs b o e
theorem Bv(h:Heap)(vs:List Value):∃c,((stA h vs).update (h.objs.size+1) (Obj.mapSeq λ_=>#[])).get? (h.objs.size+1)=some (seqObj "list" #[] c)/\(stB h vs).get? (h.objs.size+1)=some (seqObj "list" #[] c):=by
 have e:=get?_update_seq (nL h vs) λ_=>#[];exact⟨_,e,Heap.get?_push_of_some _ (Heap.get?_push_of_some _ e)⟩
noncomputable abbrev lxL:=HT.zu
theorem r_(x y:Int)(xs ys:List Int):lxL (x::xs) (y::ys)=if x=y then lxL xs ys else decide (x<y):=rfl
theorem pJ:∀x y:List Int,lxL x y=true->lxL y x=false
 |[],[],h=>rfl
 |[],_::_,_=>rfl
 |_::_,[],h=>by cases h
 |a::x,b::y,h=>by
  rw[r_] at h ⊢
  by_cases e:a=b
  ·subst e;rw[if_pos rfl] at h ⊢;exact pJ x y h
  ·rw[if_neg e] at h;rw[if_neg (Ne.symm e)]
   have:=of_decide_eq_true h;exact decide_eq_false (by lia)
theorem se:∀x y z:List Int,lxL y x=false->lxL z y=false->lxL z x=false
 |x,[],[],h1,h2=>h1
 |[],[],_::_,h1,h2=>rfl
 |_::_,[],_::_,h1,h2=>by cases h1
 |x,_::_,[],h1,h2=>by cases h2
 |[],_::_,_::_,h1,h2=>rfl
 |a::x,b::y,c::z,h1,h2=>by
  rw[r_] at h1 h2 ⊢
  by_cases e1:b=a
  ·subst e1
   rw[if_pos rfl] at h1
   by_cases e2:c=b
   ·subst e2
    rw[if_pos rfl] at h2 ⊢;exact se x y z h1 h2
   ·rw[if_neg e2] at h2 ⊢;exact h2
  ·rw[if_neg e1] at h1
   have k1:=of_decide_eq_false h1
   by_cases e2:c=b
   ·subst e2
    rw[if_neg e1];exact h1
   ·rw[if_neg e2] at h2
    have k2:=of_decide_eq_false h2;rw[if_neg (by lia)];exact decide_eq_false (by lia)
theorem zo:∀x y:List Int,lxL x y=false->lxL y x=false->x=y
 |[],[],_,_=>rfl
 |[],_::_,no,_=>by cases no
 |_::_,[],_,no=>by cases no
 |a::x,b::y,h1,h2=>by
  rw[r_] at h1 h2
  by_cases e:a=b
  ·subst e
   rw[if_pos rfl] at h1 h2;rw[zo x y h1 h2]
  ·rw[if_neg e] at h1
   rw[if_neg (Ne.symm e)] at h2;have k1:=of_decide_eq_false h1;have k2:=of_decide_eq_false h2
   lia
theorem y8(x:List Int):lxL x x=false:=by
 cases e:lxL x x with
 |false=>rfl
 |true=>exact(pJ x x e).symm.trans e |>.symm
noncomputable def p_(a:List Int):List (List Int)->List (List Int)
 |[]=>[a]
 |b::r=>if lxL b a=true then b::p_ a r else a::b::r
noncomputable def ji:List (List Int)->List (List Int)
 |[]=>[]
 |a::r=>p_ a (ji r)
noncomputable def UpT(l:List (List Int)):Prop:=l.Pairwise λx y=>lxL y x=false
theorem jk(a:List Int):∀l:List (List Int),(p_ a l).Perm (a::l)
 |[]=>.refl _
 |b::r=>by
  unfold p_;split
  ·exact((jk a r).cons b).trans (.swap _ _ _)
  ·exact .refl _
theorem dO:∀l:List (List Int),(ji l).Perm l
 |[]=>.refl _
 |a::r=>(jk a (ji r)).trans ((dO r).cons a)
theorem rz(a:List Int):∀l:List (List Int),UpT l->UpT (p_ a l)
 |[],_=>by simp[p_,UpT]
 |b::r,h=>by
  have⟨h1,h2⟩:=List.pairwise_cons.mp h;unfold p_;split
  ·rename_i g
   refine List.pairwise_cons.mpr ⟨λc hc=>?_,rz a r h2⟩;rcases List.mem_cons.mp ((jk a r).mem_iff.mp hc) with rfl | hc
   ·exact pJ _ _ g
   ·exact h1 c hc
  ·rename_i g
   have g':lxL b a=false:=by simpa using g
   refine List.pairwise_cons.mpr ⟨λc hc=>?_,h⟩;rcases List.mem_cons.mp hc with rfl | ht
   ·exact g'
   ·exact se _ _ _ g' (h1 c ht)
theorem j6:∀l:List (List Int),UpT (ji l)
 |[]=>.nil
 |a::r=>rz a _ (j6 r)
theorem kO:∀{l m:List (List Int)},UpT l->UpT m->l.Perm m->l=m
 |[],m,_,_,p=>(List.Perm.nil_eq p)
 |a::l,[],_,_,p=>absurd p.length_eq (by simp)
 |a::l,b::m,h1,h2,p=>by
  obtain⟨a1,a2⟩:=List.pairwise_cons.mp h1;obtain⟨b1,b2⟩:=List.pairwise_cons.mp h2
  have ab:a=b:=by
   have x1:lxL b a=false:=by
    rcases List.mem_cons.mp (p.mem_iff.mpr (List.mem_cons_self (a:=b) (l:=m))) with e | e
    ·rw[e];exact y8 _
    ·exact a1 b e
   have x2:lxL a b=false:=by
    rcases List.mem_cons.mp (p.mem_iff.mp (List.mem_cons_self (a:=a) (l:=l))) with e | e
    ·rw[e];exact y8 _
    ·exact b1 a e
   exact zo _ _ x2 x1
  subst ab;rw[kO a2 b2 (List.perm_cons a |>.mp p)]
theorem vD{ts:List (List Int)}{p:Array Nat}(hp:Pm ts.length p)(up:Up (λi j=>lxL (ts.getD i []) (ts.getD j [])) p ts.length):p.toList.map (λi=>ts.getD i [])=ji ts:=by
 have e0:(List.range ts.length).map (λi=>ts.getD i [])=ts:=by
  refine List.ext_getElem (by simp) λi h1 h2=>?_;simp[h2]
 refine kO ?_ (j6 ts) (((hp.pm.map _).trans (.of_eq e0)).trans (dO ts).symm);unfold UpT;rw[List.pairwise_map,List.pairwise_iff_getElem];intro i j hi hj hij;have hi':i<p.size:=by simpa using hi
 have hj':j<p.size:=by simpa using hj
 have:=up i j (Nat.le_of_lt hij) (by rw[<-hp.sz];exact hj');simpa[Array.getD,hi',hj'] using this
noncomputable def qp(fin:Bool):List Int->List Int->Bool
 |x::xs,y::ys=>if x=y then qp fin xs ys else decide (x<y)
 |_,_=>fin
theorem m8:∀xs ys:List Int,qp (decide (xs.length<ys.length)) xs ys=lxL xs ys
 |[],[]=>rfl
 |[],_::_=>rfl
 |_::_,[]=>rfl
 |x::xs,y::ys=>by
  rw[r_];unfold qp;have:decide ((x::xs).length<(y::ys).length)=decide (xs.length<ys.length):=by simp
  rw[this,m8 xs ys]
section
variable{prog:Program}{w:World}{A:Around}{E:Value->Shared->Prop}{s:Shared}
theorem xY(b:Bool){x y:Int}{t u:Tok}{Q:Bool->Shared->Prop}(h:Q (decide (x<y)) s):wpAny (model prog w) A (oneLt' b (.int x t) (.int y u)) Q E s:=by
 cases b with
 |true=>exact oneLt_int h
 |false=>exact kat_one _ _ (PyProof.Rows.lt_int h)
theorem kF{b fin:Bool}{Q:Bool->Shared->Prop}:∀{xs ys:List Value} {ns ms:List Int} (i:Nat),IntsAre xs ns->IntsAre ys ms->Q (qp fin ns ms) s->KatLex prog w A b fin Q (xs.zip ys) i s
 |_,_,_,_,_,.nil,_,h=>by
  rw[List.zip_nil_left];exact kat_nil (by simpa[qp] using h)
 |_,_,_,_,_,.cons _ _ _,.nil,h=>by
  rw[List.zip_nil_right];exact kat_nil (by simpa[qp] using h)
 |_,_,_,_,i,.cons n t hx,.cons m u hy,h=>by
  rw[List.zip_cons_cons];unfold qp at h;refine kat_cons (wpAny_eqBool_int ?_)
  by_cases e:n=m
  ·rw[if_pos e] at h
   rw[beq_iff_eq.mpr e];exact kat_yes (kF (i+1) hx hy h)
  ·rw[if_neg e] at h
   rw[beq_eq_false_iff_ne.mpr e];exact kat_no (xY _ h)
end
noncomputable def cw(ns:List Int):D:=.tup (ns.map D.int)
noncomputable def i_:List D->Option (List (List Int))
 |[]=>some []
 |.tup ds::r=>(bR ds).bind λns=>if ns=[] then none else(i_ r).bind λt=>some (ns::t)
 |_=>none
theorem iy:∀{ds:List D} {ns:List Int},bR ds=some ns->ds=ns.map D.int
 |[],ns,e=>by cases e;rfl
 |d::ds,ns,e=>by
  unfold bR at e;split at e
  ·rename_i h;cases h
  ·rename_i i r h
   cases h;obtain⟨t,e1,e2⟩:=aq e;cases e2;rw[iy e1];rfl
  ·cases e
theorem ku:∀{ds:List D} {ts:List (List Int)},i_ ds=some ts->ds=ts.map cw/\∀t∈ts,t≠[]
 |[],ts,e=>by cases e;exact⟨rfl,λt h=>by cases h⟩
 |d::ds,ts,e=>by
  unfold i_ at e;split at e
  ·rename_i h;cases h
  ·rename_i es r h
   cases h;obtain⟨ns,e1,e⟩:=aq e;split at e
   ·cases e
   ·rename_i hne
    obtain⟨t,e2,e3⟩:=aq e;cases e3;obtain⟨h1,h2⟩:=ku e2;have:=iy e1;subst this;refine⟨by rw[h1];rfl,λt ht=>?_⟩;rcases List.mem_cons.mp ht with rfl | ht
    ·exact hne
    ·exact h2 t ht
  ·cases e
theorem fq:∀ns:List Int,bR (ns.map D.int)=some ns
 |[]=>rfl
 |n::r=>by
  show(bR (r.map D.int)).bind _=_;rw[fq r];rfl
theorem mB:∀{ts:List (List Int)},(∀t∈ts,t≠[])->i_ (ts.map cw)=some ts
 |[],_=>rfl
 |t::r,h=>by
  show(bR (t.map D.int)).bind _=_;rw[fq t];show(if t=[] then none else _)=_;rw[if_neg (h t (List.mem_cons_self ..)),mB λu hu=>h u (List.mem_cons_of_mem _ hu)];rfl
section
variable{X:Cx}{a:Expr}{pos:Pos}{fa:Ev->Option D}
theorem bT{α:Type}{l:List α}{i:Nat}(d:α)(h:i<l.length):l[i]?=some (l.getD i d):=by simp[h]
end
end Dn
namespace RW2
open PySem PyProof.Rows PySem.W
section
variable{prog:Program}{w:World}{A:Around}{E:Value->Shared->Prop}{s:Shared}
noncomputable def ie(h:Heap)(d:Addr)(es:Array DictEntry)(ep:Nat):Prop:=∃o,h.get? d=some o/\o.ExactDict/\o.data=.dict es ep
theorem ie.at{h h':Heap}{d:Addr}{es:Array DictEntry}{ep:Nat}(x:ie h d es ep)(k:∀o,h.get? d=some o->h'.get? d=some o):ie h' d es ep:=let⟨o,a,b⟩:=x;⟨o,k o a,b⟩
theorem ie.ty{d:Addr}{es:Array DictEntry}{ep:Nat}(x:ie s.heap d es ep):s.TypeIs (.ref d) "dict":=let⟨o,a,b,_⟩:=x;⟨o,a,b.1⟩
theorem ie.lt{h:Heap}{d:Addr}{es:Array DictEntry}{ep:Nat}(x:ie h d es ep):d<h.objs.size:=let⟨_,a,_⟩:=x;Heap.lt_size a
theorem tf{d:Addr}{es:Array DictEntry}{ep:Nat}{Q:Value->Shared->Prop}(nm:(d==sysModules)=false)(x:ie s.heap d es ep)
  (q:Q (.ref s.heap.objs.size) { s with heap:=s.heap.push { cls:=.type "dict_keyiterator",data:=.fields #[.ref d,.int 0 0,.int es.size 0,.int ep 0] } }):wpAny (model prog w) A (pyIter (.ref d)) Q E s:=by
 have ty:=x.ty;obtain⟨o,w1,w2,w3⟩:=x;refine wpAny_pyIter_slot ty PySem.F.slot_dict_iter (wpAny_call_entry PySem.F.slot_dict_iter ty PySem.F.entry_dict_iter ?_ (PySem.F.args_dict_iter_1 _));unfold Builtin.«dict.__iter__» Builtin.Dict.dictSlotNone;refine wpAny_bind (wpAny_bind (wpAny_notOrdered_dict ty (show wpAny _ _ (pure (Value.ref d)) _ _ s from wpAny_pure ?_)));show wpAny _ _ (Builtin.Dict.showsAll d>>=λ_=>_) _ _ s;unfold Builtin.Dict.showsAll;rw[if_neg (by rw[nm];exact Bool.false_ne_true)];refine wpAny_bind (wpAny_pure (wpAny_bind (wpAny_dictEntries w1 w3 (wpAny_bind (wpAny_dictEpoch w1 w3 (wpAny_bind (wpAny_newObj_type (wpAny_pure ⟨_,rfl,"dict_keyiterator",_,⟨_,Heap.get?_push_size _ rfl,rfl⟩,PySem.F.slot_dict_keyiterator_next.lookup,?_⟩))))))));simpa[rawInt] using q
theorem mH{it d:Addr}{i ep:Nat}{es:Array DictEntry}{Q:Option Value->Shared->Prop}(hh:A.handled=none)(hit:s.heap.IsKeyIter it d i es.size ep)(x:ie s.heap d es ep)
  (some_:∀(lt:i<es.size) h',h'.IsKeyIter it d (i+1) es.size ep->Heap.SameBut it s.heap h'->Q (some es[i].key) { s with heap:=h' })
  (none_:es.size<=i->∀h',Heap.ExtBut it s.heap h'->Q none { s with heap:=h' }):wpAny (model prog w) A (pyNext (.ref it)) Q E s:=by
 obtain⟨o,w1,w2,w3⟩:=id hit;obtain⟨od,v1,v2,v3⟩:=id x;unfold pyNext;refine wpAny_bind (wpAny_attempt (wpAny_callSpecial?_slot (name:=Str.ofString "__next__") hit.typeIs PySem.F.slot_dict_keyiterator_next (wpAny_call_entry PySem.F.slot_dict_keyiterator_next hit.typeIs PySem.F.entry_dict_keyiterator_next ?_ (PySem.F.args_dict_keyiterator_next_1 _))));refine wpAny_bind (wpAny_pure (wpAny_bind (wpAny_bind ?_)))
 first | refine wpAny_bind (wpAny_typeNameOfWhole_keyiter hit.typeIs (wpAny_pure (wpAny_bind (wpAny_fieldsOf w1 w3 ?_)))) | refine wpAny_bind (wpAny_typeNameOf_keyiter hit.typeIs (wpAny_pure (wpAny_bind (wpAny_fieldsOf w1 w3 ?_))))
 have own0:Builtin.Dict_items.ownsTuple "dict_keyiterator" = false:=by decide
 simp only[own0,if_false,Bool.false_eq_true];show wpAny _ _ (if(Value.ref d==Value.none)=true then _ else _) (λ_ _=>_) _ s;rw[if_neg (show ¬ ((Value.ref d==Value.none)=true) by exact Bool.false_ne_true)];refine wpAny_bind (wpAny_pure (wpAny_bind (wpAny_dictEntries v1 v3 ?_)));rw[if_neg (by simp)];refine wpAny_bind (wpAny_pure (wpAny_bind (wpAny_dictEpoch v1 v3 ?_)));rw[if_neg (by simp)];refine wpAny_pure ?_
 by_cases lt:i<es.size
 ·simp only[show ¬ ((i:Int)<0) from by lia,if_false,Int.toNat_natCast,Array.getElem?_eq_getElem lt]
  refine wpAny_bind ?_
  first | refine wpAny_bind (wpAny_typeNameOfWhole_keyiter hit.typeIs (wpAny_pure (wpAny_bind (wpAny_isOneOf_keyiter hit.typeIs ?_)))) | refine wpAny_bind (wpAny_typeNameOf_keyiter hit.typeIs (wpAny_pure (wpAny_bind (wpAny_isOneOf_keyiter hit.typeIs ?_))))
  show wpAny _ _ (setField (.ref it) 1 (rawInt ((i:Int)+1))>>=λ_=>_) _ _ s;have on:(s.heap.update it (Obj.mapFields (·.setIfInBounds 1 (rawInt ((i:Int)+1))))).IsKeyIter it d (i+1) es.size ep:=⟨_,Heap.get?_update_self _ w1 (Obj.isFreed_of_fields (Obj.data_mapFields w3 _)),(Obj.cls_mapFields ..).trans w2,(by rw[Obj.data_mapFields w3];simp[rawInt])⟩;refine wpAny_bind (wpAny_setField w1 w3 (by simp) (wpAny_bind (wpAny_holding (wpAny_bind (wpAny_isOneOf_keyiter (s:={ s with heap:=s.heap.update it (Obj.mapFields (·.setIfInBounds 1 (rawInt ((i:Int)+1)))) }) on.typeIs ?_)))));show wpAny _ _ (pure es[i].key) (λ_ _=>_) _ _;exact wpAny_pure (wpAny_pure ⟨_,rfl,wpAny_pure (some_ lt _ on (Heap.SameBut.update ..))⟩)
 ·have ge:es.size<=i:=Nat.le_of_not_lt lt
  simp only[show ¬ ((i:Int)<0) from by lia,if_false,Int.toNat_natCast,Array.getElem?_eq_none ge];have gone:∀{R:Unit->Shared->Prop} {X:Value->Shared->Prop},R () { s with heap:=s.heap.update it (Obj.mapFields (·.setIfInBounds 0 Value.none)) }->wpAny (model prog w) A.in1 (setField (.ref it) 0 .none) R X s:=λr=>wpAny_setField w1 w3 (by simp) r
  first | refine wpAny_bind (wpAny_bind (wpAny_typeNameOfWhole_keyiter hit.typeIs (wpAny_pure (wpAny_bind (gone ?_))))) | refine wpAny_bind (wpAny_bind (wpAny_typeNameOf_keyiter hit.typeIs (wpAny_pure (wpAny_bind (gone ?_)))))
  show wpAny _ _ (newExc (.type "StopIteration") []>>=λ_=>_) _ _ _;refine wpAny_bind ?_;simp only[newExc,newTuple];refine wpAny_bind (wpAny_newObj_type (wpAny_bind (m:=firstArgMember _ _) (wpAny_of_eq (a:=Value.none) (by first | rfl | (simp only[firstArgMember];rfl)) (wpAny_newObj_type ?_ (by size_fits)))) (by size_fits));simp only[raiseNew];refine wpAny_bind (wpAny_handled ?_);rw[show A.in1.handled=none by exact hh];refine wpAny_bind (wpAny_pure (wpAny_throw ?_)) |> λz=>z
  refine wpAny_bind (wpAny_isInstance (b:=true) (T:="StopIteration") ⟨_,Heap.get?_push_size _ rfl,rfl⟩ isSubtype_stop ?_);exact wpAny_pure (none_ ge _ (((Heap.SameBut.update ..).extBut.push _).push _))
theorem tP(hh:A.handled=none)(it d:Addr)(ne:d≠it)(es:Array DictEntry)(ep:Nat) :
  Walks prog w A it [it,d] [it] es.size (λi v=>∃e,es[i]?=some e/\v=e.key) (λi h=>h.IsKeyIter it d i es.size ep/\ie h d es ep) where
 sub:=λb z=>by rw[List.mem_singleton.mp z];exact List.mem_cons_self ..
 frame:=λ_ _ _ st k=>⟨st.1.at λo e=>k it (by simp) o e,st.2.at λo e=>k d (by simp) o e⟩
 item:=λi s Q E hi st hQ=>mH hh st.1 st.2 (λlt h' on same=>hQ _ h' s.toks ⟨es[i],by simp[lt],rfl⟩ ⟨on,st.2.at λo e=>same.extBut d o ne e⟩ λb o hb e=>same.extBut b o (λz=>hb (by simp[z])) e) λge=>absurd hi (Nat.not_lt.mpr ge)
 done:=λs Q E st hQ=>mH hh st.1 st.2 (λlt=>absurd lt (Nat.lt_irrefl _)) λ_ h' ext=>hQ h' s.toks λb o hb e=>ext b o (λz=>hb (by simp[z])) e
 self:=λ_ _ _ _ stt q=>wpAny_pyIter_keyiter stt.1 q
theorem pN(d:Addr)(nm:(d==sysModules)=false)(es:Array DictEntry)(ep:Nat):KdlSrc prog w "dict" d d es.size (λi v=>∃e,es[i]?=some e/\v=e.key) (λh=>ie h d es ep) where
 type:=λ_ x=>x.ty
 there:=λ_ x=>⟨x.lt,x.lt⟩
 keep:=λ_ _ x k=>x.at λo e=>k d (.inl rfl) o e
 notList:=by decide
 notTuple:=by decide
 hint:=λ_ _ _ _ x q=>kdl_hint_dict x.ty q
 iter:=λ_ _ hh x=>⟨_,_,(λ_ _ q=>tf nm x q),tP hh _ d (Nat.ne_of_lt x.lt) es ep,⟨⟨_,Heap.get?_push_size _ rfl,rfl,rfl⟩,x.at λo e=>Heap.get?_push_of_some _ e⟩⟩
end
theorem mE:typeLookup (.type "list") "keys" = pure none:=by rw[typeLookup_type,builtinLookup_eq_fast];kernel_rfl
section
variable{prog:Program}{w:World}{A:Around}{E:Value->Shared->Prop}{s:Shared}
theorem tN{a:Addr}{its:Array Value}{Q:Option Value->Shared->Prop}(x:PlainL s.heap a its)(hA:A.handled=none)
  (h:∀h' tk,(∀b o,s.heap.get? b=some o->h'.get? b=some o)->Q none { s with heap:=h',toks:=tk }):wpAny (model prog w) A (getAttr? (.ref a) "keys") Q E s:=by
 obtain⟨⟨c,dct,dat,sl⟩,k,hx,hc,hd,hdat⟩:=x;simp only at hc hdat hd;subst hc hdat hd;rcases s with⟨hp,g,d,tk,os⟩
 have tyA:∀tk',(⟨hp,g,d,tk',os⟩:Shared).TypeIs (.ref a) "list":=λ_=>⟨_,hx,rfl⟩;have f1:=sub_AttributeError;have f3:=PySem.F.slot_list_getattribute.lookup;have f4:=PySem.F.slot_list_getattribute.bind (.ref a);have noHook:=am_list_getattr_none;have f6:=mE;unfold getAttr? getAttrBy?;unfold getAttrBy
 repeat (any_goals (first | assumption | exact tyA _ | ((with_reducible show wpAny _ _ (call (Value.builtin "list.__getattribute__") _ _) _ _ _);refine call_meets PySem.F.slot_list_getattribute (tyA _) am_entry_list_getattribute (PySem.F.args_list_getattribute_2 _ _) (meets_getattribute_miss_list a its k sl "keys" _ mE (by decide) (by size_fits)) ⟨hx,hA,λh' tk' e hx'=>?_⟩) | wp_step))
 have⟨t',u',he⟩:=hx'.there;show wpAny _ _ (getattributeRaised _ _ _ _ _ _ _) (λ_ _=>_) _ _;unfold getattributeRaised
 repeat (any_goals (first | wp_step | assumption))
 exact h h' tk' λb o e=>hx'.keeps b o e
end
end RW2
namespace Dn
open PySem PySem.Spec PyProof.Rows L2
noncomputable def jh:Ev->Option Fl:=(sIf (ay gtI (af 5) (eC (.int 0))) (aC (dM 2 (e2 aF (af 5) (eC (.int 1000)))) (aU 5 (e2 cv (af 5) (eC (.int 1000))))) bj)
noncomputable def jt:Ev->Option Fl:=(aC (aU 3 (e2 aF (e2 aM (e2 aM (e2 bF (af 3) (eC (.int 69621))) (e2 aF (af 4) (eC (.int 999983)))) (eC (.int 7))) (eC (.int 2147483629)))) (aC (aU 5 (e2 bA (af 4) (e2 oS (eC (.int 10)) (eC (.int 18))))) (aC (sIf (ay ltI (af 5) (eC (.int 0))) (dM 2 (e2 aF (af 4) (eC (.int 1000)))) bj) (cL (c_ (eC (.int 60))) (ak 6) jh))))
noncomputable def gx:Ev->Option Fl:=(sIf (ay ltI (fA eX (af 2)) (af 1)) (aC (aU 3 (e2 aF (e2 aM (e2 aM (e2 aM (e2 oS (af 3) (eC (.int 3))) (e2 bF (eC (.int 40692)) (af 3))) (e2 bF (eC (.int 7)) (af 6))) (eC (.int 5))) (eC (.int 2147483629)))) (dM 2 (e2 aF (e2 cv (af 3) (eC (.int 1009))) (eC (.int 1000))))) bj)
noncomputable def zY:Ev->Option Fl:=(aC (eY 2 (cI aD)) (aC (aU 3 (eC (.int 29))) (aC (cL (ec (eF (eSl (af 0) cR (bx (eC (.int 63)))))) (ak 4) jt) (aC (cL (c_ (av 1)) (ak 6) gx) (a8 (eF (eSl (af 2) cR (bx (af 1)))))))))
theorem au{g g':Ev->Option Fl}{ε ε':Ev}(h:g ε=some (.nx ε')):aC g g' ε=g' ε':=by unfold aC;rw[h];rfl
theorem bN{g g':Ev->Option Fl}{ε:Ev}{d:D}(h:g ε=some (.rt d)):aC g g' ε=some (.rt d):=by unfold aC;rw[h];rfl
theorem bO{f:Ev->Option (List D)}{g:D->Ev->Option Ev}{gb:Ev->Option Fl}{ε:Ev}{ds:List D}(h:f ε=some ds):cL f g gb ε=dI g gb ds ε:=by unfold cL;rw[h];rfl
theorem g_{f:Ev->Option Bool}{g g':Ev->Option Fl}{ε:Ev}(h:f ε=some true):sIf f g g' ε=g ε:=by unfold sIf;rw[h];rfl
theorem hW{f:Ev->Option Bool}{g g':Ev->Option Fl}{ε:Ev}(h:f ε=some false):sIf f g g' ε=g' ε:=by unfold sIf;rw[h];rfl
theorem bo{i:Nat}{f:Ev->Option D}{ε:Ev}{d:D}(h:f ε=some d):aU i f ε=some (.nx (ε.set i (.dat d))):=by unfold aU;rw[h];rfl
theorem cC{f:Ev->Option D}{ε:Ev}{d:D}(h:f ε=some d):a8 f ε=some (.rt d):=by unfold a8;rw[h];rfl
theorem c7{f:Ev->Option (List D)}{ε:Ev}{ds:List D}(h:f ε=some ds):eF f ε=some (.lst ds):=by unfold eF;rw[h];rfl
theorem uK{F:List D->Option D}{fa:Ev->Option D}{ε:Ev}{x:D}(h1:fa ε=some x):aI F (ae fa aD) ε=F [x]:=by unfold aI ae;rw[h1];rfl
theorem zV{F:List D->Option D}{fa fb:Ev->Option D}{ε:Ev}{x y:D}(h1:fa ε=some x)(h2:fb ε=some y):aI F (ae fa (ae fb aD)) ε=F [x,y]:=by unfold aI ae;rw[h1,h2];rfl
theorem eJ{fa fb:Ev->Option D}{ε:Ev}{a b:Bool}(h1:fa ε=some (.bl a))(h2:fb ε=some (.bl b)):iP fa fb ε=some (.bl (a&&b)):=by
 unfold iP;rw[h1];cases a
 ·rfl
 ·show fb ε=_;rw[h2];rfl
theorem nR{fa fb fc:Ev->Option D}{ε:Ev}{a b c:Int}(h1:fa ε=some (.int a))(h2:fb ε=some (.int b))(h3:fc ε=some (.int c)):eCh leI leI fa fb fc ε=some (.bl (decide (a<=b)&&decide (b<=c))):=by
 unfold eCh;rw[h1,h2,h3];show(if decide (a<=b)=true then some (D.bl (decide (b<=c))) else some (.bl false))=_;cases decide (a<=b)<;>rfl
theorem bC{N ps:List Str}{g:Ev->Option Fl}{ds:List D}{d:D}(hl:ds.length=ps.length)(h:g (df N ds)=some (.rt d)):fnD N ps g ds=some d:=by
 unfold fnD;rw[if_pos hl,h]
theorem vm(xs:List D)(a b:Nat)(hb:b<=xs.length):Dn.gY xs (some (a:Int)) (some (b:Int))=(xs.drop a).take (b-a):=by
 unfold Dn.gY;rw[HT.m_,HT.m_,Nat.min_eq_left hb];rcases Nat.le_total a xs.length with h | h
 ·rw[Nat.min_eq_left h]
 ·rw[Nat.min_eq_right h,List.drop_eq_nil_of_le h,List.drop_length];simp
noncomputable abbrev iL(l:List Int):List D:=l.map D.int
noncomputable def Low(l:List Int):Prop:=∀v∈l,0<=v/\v<1000
theorem Low.snoc{l:List Int}{v:Int}(h:Low l)(h0:0<=v)(h1:v<1000):Low (l++[v]):=by
 intro u hu;rcases List.mem_append.mp hu with z | z
 ·exact h u z
 ·rw[List.mem_singleton.mp z];exact⟨h0,h1⟩
theorem tT(A M S C k:Sl)(row:List Int)(rest:Int)(hl:Low row)(hz:row.length<900000) :
  ∃row' rest',jh [A,M,.own (iL row),S,C,.dat (.int rest),k]=some (.nx [A,M,.own (iL row'),S,C,.dat (.int rest'),k])/\Low row'/\row'.length<=row.length+1:=by
 by_cases h:0<rest
 ·refine⟨row++[rest%1000],rest/1000,?_,hl.snoc (by lia) (by lia),by simp⟩
  have:row.length<1000000:=by lia
  simp[jh,sIf,ay,asB,e2,gtI,dC,af,eC,aC,dM,aU,aF,cv,su,h,this,iL]
 ·refine⟨row,rest,?_,hl,by simp⟩
  simp[jh,sIf,ay,asB,e2,gtI,dC,af,eC,bj,h]
theorem qS(A M S C:Sl):∀(l:List D) (k:Sl) (row:List Int) (rest:Int),Low row->row.length+l.length<900000->
  ∃row' rest' k',dI (ak 6) jh l [A,M,.own (iL row),S,C,.dat (.int rest),k]=some (.nx [A,M,.own (iL row'),S,C,.dat (.int rest'),k'])/\Low row'/\row'.length<=row.length+l.length
 |[],k,row,rest,hl,hz=>⟨row,rest,k,rfl,hl,by simp⟩
 |d::l,k,row,rest,hl,hz=>by
  simp only[List.length_cons] at hz;obtain⟨row1,rest1,e1,l1,z1⟩:=tT A M S C (.dat d) row rest hl (by lia);obtain⟨row2,rest2,k2,e2,l2,z2⟩:=qS A M S C l (.dat d) row1 rest1 l1 (by lia);refine⟨row2,rest2,k2,?_,l2,by simp only[List.length_cons];lia⟩;unfold dI;have t:ak 6 d [A,M,.own (iL row),S,C,.dat (.int rest),k]=some [A,M,.own (iL row),S,C,.dat (.int rest),.dat d]:=rfl;rw[t];show(jh _).bind _=_;rw[e1];exact e2
theorem sJ(A M r k:Sl)(row:List Int)(seed cell:Int)(hl:Low row)(hs:0<=seed/\seed<2147483629)(hz:row.length<800000) :
  ∃row' seed' r' k',jt [A,M,.own (iL row),.dat (.int seed),.dat (.int cell),r,k]=some (.nx [A,M,.own (iL row'),.dat (.int seed'),.dat (.int cell),r',k'])/\Low row'/\(0<=seed'/\seed'<2147483629)/\row'.length<=row.length+61:=by
 have key:∃row1,sIf (ay ltI (af 5) (eC (.int 0))) (dM 2 (e2 aF (af 4) (eC (.int 1000)))) bj [A,M,.own (iL row),.dat (.int ((seed*69621+cell%999983+7)%2147483629)),.dat (.int cell),.dat (.int (cell-1000000000000000000)),k] =
   some (.nx [A,M,.own (iL row1),.dat (.int ((seed*69621+cell%999983+7)%2147483629)),.dat (.int cell),.dat (.int (cell-1000000000000000000)),k])/\Low row1/\row1.length<=row.length+1:=by
  by_cases h:cell-1000000000000000000<0
  ·refine⟨row++[cell%1000],?_,hl.snoc (by lia) (by lia),by simp⟩
   have h2:row.length<1000000:=by lia
   simp[sIf,ay,asB,e2,ltI,dC,af,eC,dM,aF,h,h2,iL]
  ·refine⟨row,?_,hl,by simp⟩
   simp[sIf,ay,asB,e2,ltI,dC,af,eC,bj,h]
 obtain⟨row1,e1,l1,z1⟩:=key;obtain⟨row2,rest2,k2,e2',l2,z2⟩:=qS A M (.dat (.int ((seed*69621+cell%999983+7)%2147483629))) (.dat (.int cell)) (cK 60) k row1 (cell-1000000000000000000) l1 (by simp[cK];lia);refine⟨row2,(seed*69621+cell%999983+7)%2147483629,.dat (.int rest2),k2,?_,l2,by lia,by simp[cK] at z2;lia⟩
 have s1:aU 3 (e2 aF (e2 aM (e2 aM (e2 bF (af 3) (eC (.int 69621))) (e2 aF (af 4) (eC (.int 999983)))) (eC (.int 7))) (eC (.int 2147483629))) [A,M,.own (iL row),.dat (.int seed),.dat (.int cell),r,k] =
   some (.nx [A,M,.own (iL row),.dat (.int ((seed*69621+cell%999983+7)%2147483629)),.dat (.int cell),r,k]):=by
  simp[aU,e2,aF,aM,bF,dC,af,eC,lG]
 have s2:aU 5 (e2 bA (af 4) (e2 oS (eC (.int 10)) (eC (.int 18)))) [A,M,.own (iL row),.dat (.int ((seed*69621+cell%999983+7)%2147483629)),.dat (.int cell),r,k] =
   some (.nx [A,M,.own (iL row),.dat (.int ((seed*69621+cell%999983+7)%2147483629)),.dat (.int cell),.dat (.int (cell-1000000000000000000)),k]):=by
  simp[aU,e2,bA,oS,dC,af,eC,tM]
 have r60:c_ (eC (.int 60)) [A,M,.own (iL row1),.dat (.int ((seed*69621+cell%999983+7)%2147483629)),.dat (.int cell),.dat (.int (cell-1000000000000000000)),k]=some (cK 60):=rfl;unfold jt;rw[au s1,au s2,au e1,bO r60];exact e2'
theorem pK(A M:Sl):∀(l:List Int) (c r k:Sl) (row:List Int) (seed:Int),Low row->(0<=seed/\seed<2147483629)->row.length+61*l.length<800000->
  ∃row' seed' c' r' k',dI (ak 4) jt (iL l) [A,M,.own (iL row),.dat (.int seed),c,r,k]=some (.nx [A,M,.own (iL row'),.dat (.int seed'),c',r',k'])/\Low row'/\(0<=seed'/\seed'<2147483629)/\row'.length<=row.length+61*l.length
 |[],c,r,k,row,seed,hl,hs,hz=>⟨row,seed,c,r,k,rfl,hl,hs,by simp⟩
 |v::l,c,r,k,row,seed,hl,hs,hz=>by
  simp only[List.length_cons] at hz;obtain⟨row1,seed1,r1,k1,e1,l1,h1,z1⟩:=sJ A M r k row seed v hl hs (by lia);obtain⟨row2,seed2,c2,r2,k2,e2,l2,h2,z2⟩:=pK A M l (.dat (.int v)) r1 k1 row1 seed1 l1 h1 (by lia);refine⟨row2,seed2,c2,r2,k2,?_,l2,h2,by simp only[List.length_cons];lia⟩;show dI (ak 4) jt (.int v::iL l) _=_;unfold dI;have t:ak 4 (.int v) [A,M,.own (iL row),.dat (.int seed),c,r,k]=some [A,M,.own (iL row),.dat (.int seed),.dat (.int v),r,k]:=rfl;rw[t];show(jt _).bind _=_;rw[e1];exact e2
theorem sV(A c r:Sl)(m:Nat)(row:List Int)(seed:Int)(j:Nat)(hl:Low row)(hs:0<=seed/\seed<2147483629)(hz:row.length<900000) :
  ∃row' seed',gx [A,.dat (.int (m:Int)),.own (iL row),.dat (.int seed),c,r,.dat (.int (j:Int))]=some (.nx [A,.dat (.int (m:Int)),.own (iL row'),.dat (.int seed'),c,r,.dat (.int (j:Int))])/\Low row'/\(0<=seed'/\seed'<2147483629)/\row'.length<=row.length+1/\(row.length<m->row'.length=row.length+1)/\(m<=row.length->row'.length=row.length):=by
 by_cases h:row.length<m
 ·refine⟨row++[(seed ^ 3+40692*seed+7*(j:Int)+5)%2147483629/1009%1000],(seed ^ 3+40692*seed+7*(j:Int)+5)%2147483629,?_,hl.snoc (by lia) (by lia),by lia,by simp,by simp,by lia⟩
  have h2:(row.length:Int)<(m:Int):=by lia
  have h3:row.length<1000000:=by lia
  have h4:seed.natAbs<18446744073709551616:=by lia
  simp[gx,sIf,ay,asB,e2,ltI,dC,af,eC,fA,eX,aC,dM,aU,aF,cv,oS,aM,bF,su,tM,lG,h2,h3,h4,h,iL]
 ·refine⟨row,seed,?_,hl,hs,by lia,by lia,by lia⟩
  have h2:¬ (row.length:Int)<(m:Int):=by lia
  simp[gx,sIf,ay,asB,e2,ltI,dC,af,eC,fA,eX,bj,h]
theorem l3(A c r:Sl)(m:Nat):∀(l:List Nat) (k:Sl) (row:List Int) (seed:Int),Low row->(0<=seed/\seed<2147483629)->row.length+l.length<900000->m<=row.length+l.length->
  ∃row' seed' k',dI (ak 6) gx (l.map λ(i:Nat)=>D.int (i:Int)) [A,.dat (.int (m:Int)),.own (iL row),.dat (.int seed),c,r,k]=some (.nx [A,.dat (.int (m:Int)),.own (iL row'),.dat (.int seed'),c,r,k'])/\Low row'/\m<=row'.length/\row'.length<900000
 |[],k,row,seed,hl,hs,hz,hm=>⟨row,seed,k,rfl,hl,by simpa using hm,by simpa using hz⟩
 |j::l,k,row,seed,hl,hs,hz,hm=>by
  simp only[List.length_cons] at hz hm;obtain⟨row1,seed1,e1,l1,h1,z1,z2,z3⟩:=sV A c r m row seed j hl hs (by lia);obtain⟨row2,seed2,k2,e2,l2,h2,h3⟩:=l3 A c r m l (.dat (.int (j:Int))) row1 seed1 l1 h1 (by lia) (by lia);refine⟨row2,seed2,k2,?_,l2,h2,h3⟩;show dI (ak 6) gx (.int (j:Int)::l.map λ(i:Nat)=>D.int (i:Int)) _=_;unfold dI;have t:ak 6 (.int (j:Int)) [A,.dat (.int (m:Int)),.own (iL row),.dat (.int seed),c,r,k]=some [A,.dat (.int (m:Int)),.own (iL row),.dat (.int seed),c,r,.dat (.int (j:Int))]:=rfl;rw[t];show(gx _).bind _=_;rw[e1];exact e2
theorem mY(xs:List D)(n:Nat):gY xs none (some (n:Int))=xs.take n:=by
 unfold gY;rw[HT.ug,HT.m_,List.drop_zero,Nat.sub_zero];rcases Nat.le_total n xs.length with h | h
 ·rw[Nat.min_eq_left h]
 ·rw[Nat.min_eq_right h,List.take_length,List.take_of_length_le h]
theorem xA(ns:List Int)(hn:ns.length<=63)(m:Nat)(hm:m<=5000) :
  ∃row:List Int,zY [.dat (.lst (iL ns)),.dat (.int (m:Int)),.un,.un,.un,.un,.un]=some (.rt (.lst (iL row)))/\row.length=m/\Low row:=by
 have hk:(iL ns).take 63=iL ns:=List.take_of_length_le (by simpa[iL] using hn);obtain⟨row1,seed1,c1,r1,k1,e1,l1,h1,z1⟩:=pK (.dat (.lst (iL ns))) (.dat (.int (m:Int))) ns .un .un .un [] 29 (by intro v hv;cases hv) (by decide) (by simp;lia);obtain⟨row2,seed2,k2,e2',l2,h2,h3⟩:=l3 (.dat (.lst (iL ns))) c1 r1 m (List.range m) k1 row1 seed1 l1 h1 (by simp at z1 ⊢;lia) (by simp);refine⟨row2.take m,?_,by rw[List.length_take];lia,λv hv=>l2 v (List.mem_of_mem_take hv)⟩;have s1:eY 2 (cI aD) [.dat (.lst (iL ns)),.dat (.int (m:Int)),.un,.un,.un,.un,.un]=some (.nx [.dat (.lst (iL ns)),.dat (.int (m:Int)),.own (iL []),.un,.un,.un,.un]):=rfl;have s2:aU 3 (eC (.int 29)) [.dat (.lst (iL ns)),.dat (.int (m:Int)),.own (iL []),.un,.un,.un,.un]=some (.nx [.dat (.lst (iL ns)),.dat (.int (m:Int)),.own (iL []),.dat (.int 29),.un,.un,.un]):=rfl
 have s3:ec (eF (eSl (af 0) cR (bx (eC (.int 63))))) [.dat (.lst (iL ns)),.dat (.int (m:Int)),.own (iL []),.dat (.int 29),.un,.un,.un]=some (iL ns):=by
  show ec _ _=_;have:eSl (af 0) cR (bx (eC (.int 63))) [.dat (.lst (iL ns)),.dat (.int (m:Int)),.own (iL []),.dat (.int 29),.un,.un,.un]=some (gY (iL ns) none (some ((63:Nat):Int))):=rfl;unfold ec eF;rw[this,mY,hk];rfl
 have s4:c_ (av 1) [.dat (.lst (iL ns)),.dat (.int (m:Int)),.own (iL row1),.dat (.int seed1),c1,r1,k1]=some (cK m):=by
  have:(m:Int)<1000000/\-1000000<(m:Int):=by lia
  unfold c_;show(if(m:Int)<1000000/\-1000000<(m:Int) then some (cK (m:Int).toNat) else none)=_;rw[if_pos this,Int.toNat_natCast]
 have s5:a8 (eF (eSl (af 2) cR (bx (af 1)))) [.dat (.lst (iL ns)),.dat (.int (m:Int)),.own (iL row2),.dat (.int seed2),c1,r1,k2]=some (.rt (.lst (iL (row2.take m)))):=by
  have:eSl (af 2) cR (bx (af 1)) [.dat (.lst (iL ns)),.dat (.int (m:Int)),.own (iL row2),.dat (.int seed2),c1,r1,k2]=some (gY (iL row2) none (some (m:Int))):=rfl;unfold a8 eF;rw[this,mY];simp[iL,List.map_take]
 have e2'':dI (ak 6) gx (cK m) [.dat (.lst (iL ns)),.dat (.int (m:Int)),.own (iL row1),.dat (.int seed1),c1,r1,k1]=_:=e2';unfold zY;rw[au s1,au s2,au (by rw[bO s3];exact e1),au (by rw[bO s4];exact e2'')];exact s5
noncomputable abbrev tg2:D->Ev->Option Ev:=cU 2 (aw (ak 0) (aw (ak 1) bf))
noncomputable def jO(rec:List D->Option D):Ev->Option Fl:=(aC (sIf (f9 (g8 (ee (d_ "list") (af 1))) (g8 (ee (d_ "tuple") (af 1)))) (aC (sIf (f9 (ay iw (ee (d_ "list") (af 0)) (ee (d_ "list") (af 1))) (ay iw (ee (d_ "tuple") (af 0)) (ee (d_ "tuple") (af 1)))) (a8 (eC (.bl false))) bj) (a8 (iP (e2 aZ (fA eX (af 0)) (fA eX (af 1))) (aI o6 (ae (eF (eLC (wO (ae (av 0) (ae (av 1) aD))) 2 [] tg2 i9 (aI rec (ae (av 0) (ae (av 1) aD))))) aD))))) bj) (aC (sIf (f9 (ay (isD false) (af 0) (eC .non)) (ay (isD false) (af 1) (eC .non))) (a8 (iP (e2 (isD false) (af 0) (eC .non)) (e2 (isD false) (af 1) (eC .non)))) bj) (aC (sIf (f9 (ay iw (ee (d_ "bool") (af 0)) (ee (d_ "bool") (af 1))) (ay iw (ee (d_ "int") (af 0)) (ee (d_ "int") (af 1)))) (a8 (eC (.bl false))) bj) (a8 (e2 aZ (af 0) (af 1))))))
noncomputable def FrS:Nat->List D->Option D
 |0=>λ_=>none
 |n+1=>fnD ["a","b"] ["a","b"] (jO (FrS n))
noncomputable def OkS:Nat->D->Prop
 |0,_=>False
 |n+1,.tup ds=>ds.length<1000000/\∀d∈ds,OkS n d
 |n+1,.lst ds=>ds.length<1000000/\∀d∈ds,OkS n d
 |_+1,.dic _=>False
 |_+1,_=>True
theorem rh{rec:List D->Option D}:∀(ds:List D) (s0 s1:Sl),(∀d∈ds,rec [d,d]=some (.bl true))->lcD tg2 i9 (aI rec (ae (av 0) (ae (av 1) aD))) (kT ds ds) [s0,s1]=some (ds.map λ_=>D.bl true)
 |[],_,_,_=>rfl
 |d::ds,s0,s1,h=>by
  show((rec [d,d]).bind λv=>(lcD tg2 i9 (aI rec (ae (av 0) (ae (av 1) aD))) (kT ds ds) [.dat d,.dat d]).bind λr=>some (v::r))=_;rw[h d (by simp),rh ds _ _ λe he=>h e (by simp[he])];rfl
theorem n5:∀ds:List D,jA (ds.map λ_=>D.bl true)=some (ds.map λ_=>true)
 |[]=>rfl
 |d::ds=>by show(jA (ds.map λ_=>D.bl true)).bind _=_;rw[n5 ds];rfl
theorem AV(ds:List D):o6 [.lst (ds.map λ_=>D.bl true)]=some (.bl true):=by
 show(jA (ds.map λ_=>D.bl true)).bind _=_;rw[n5];show some (D.bl ((ds.map λ_=>true).all id))=_;simp
theorem pd{rec:List D->Option D}(d:D)(ds:List D)(hd:d=.tup ds\/d=.lst ds)(hz:ds.length<1000000)(h:∀e∈ds,rec [e,e]=some (.bl true)):jO rec [.dat d,.dat d]=some (.rt (.bl true)):=by
 have c2:eF (eLC (wO (ae (av 0) (ae (av 1) aD))) 2 [] tg2 i9 (aI rec (ae (av 0) (ae (av 1) aD)))) [.dat d,.dat d]=some (.lst (ds.map λ_=>D.bl true)):=by
  refine c7 ?_;rw[jf (ds:=kT ds ds) (by rcases hd with rfl | rfl<;>rfl) (by simpa[kT] using hz)];exact rh ds _ _ h
 have c1:e2 aZ (fA eX (af 0)) (fA eX (af 1)) [.dat d,.dat d]=some (.bl true):=by
  have:e2 aZ (fA eX (af 0)) (fA eX (af 1)) [.dat d,.dat d]=some (.bl (decide ((ds.length:Int)=(ds.length:Int)))):=by rcases hd with rfl | rfl<;>rfl
  rw[this];simp
 unfold jO;refine bN ?_;rw[g_ (by rcases hd with rfl | rfl<;>rfl),au (ε':=[.dat d,.dat d]) (by rcases hd with rfl | rfl<;>rfl)];exact cC (eJ c1 ((uK c2).trans (AV ds)))
theorem nh:∀(n:Nat) (d:D),OkS n d->FrS n [d,d]=some (.bl true)
 |0,_,h=>h.elim
 |n+1,d,h=>by
  show fnD ["a","b"] ["a","b"] (jO (FrS n)) [d,d]=_;refine bC rfl ?_;show jO (FrS n) [.dat d,.dat d]=_;cases d with
  |non=>rfl
  |bl b=>cases b<;>rfl
  |int i=>
   have:jO (FrS n) [.dat (.int i),.dat (.int i)]=some (.rt (.bl (decide (i=i)))):=rfl;rw[this];simp
  |str x=>
   have:jO (FrS n) [.dat (.str x),.dat (.str x)]=some (.rt (.bl (decide (x=x)))):=rfl;rw[this];simp
  |dic ds=>exact h.elim
  |tup ds=>exact pd _ ds (.inl rfl) h.1 λe he=>nh n e (h.2 e he)
  |lst ds=>exact pd _ ds (.inr rfl) h.1 λe he=>nh n e (h.2 e he)
theorem jb{f:D->D->Option Bool}:∀(ds:List D),(∀d∈ds,f d d=some true)->jj f ds ds=some true
 |[],_=>rfl
 |d::ds,h=>by
  show((f d d).bind λa=>(jj f ds ds).bind λb=>some (a&&b))=_;rw[h d (by simp),jb ds λe he=>h e (by simp[he])];rfl
noncomputable def OkQ:Nat->D->Prop
 |n+1,.tup ds=>∀d∈ds,OkQ n d
 |n+1,.lst ds=>∀d∈ds,OkQ n d
 |0,.tup _=>False
 |0,.lst _=>False
 |_,.dic _=>False
 |_,_=>True
theorem kH:∀(n:Nat) (d:D),OkQ n d->cJ n d d=some true
 |0,.non,_=>rfl
 |0,.bl b,_=>by simp[cJ,eqS]
 |0,.int i,_=>by simp[cJ,eqS]
 |0,.str x,_=>by simp[cJ,eqS]
 |0,.tup _,h=>h.elim
 |0,.lst _,h=>h.elim
 |0,.dic _,h=>h.elim
 |n+1,.dic _,h=>h.elim
 |n+1,.non,_=>rfl
 |n+1,.bl b,_=>by simp[cJ,eqS]
 |n+1,.int i,_=>by simp[cJ,eqS]
 |n+1,.str x,_=>by simp[cJ,eqS]
 |n+1,.tup ds,h=>by
  show(jj (cJ n) ds ds).map _=_;rw[jb ds λe he=>kH n e (h e he)];simp
 |n+1,.lst ds,h=>by
  show(if ds.length=ds.length then jj (cJ n) ds ds else some false)=_;rw[if_pos rfl,jb ds λe he=>kH n e (h e he)]
theorem tp{d:D}(h:OkQ 9 d):iw d d=some (.bl false):=by unfold iw;rw[kH 9 d h];rfl
theorem OkS.int{n:Nat}(h:0<n)(i:Int):OkS n (.int i):=by
 cases n with
 |zero=>cases h
 |succ n=>exact trivial
noncomputable def b6(f:Nat->Int)(n:Nat):List Int:=(List.range n).map f
theorem z_(row:List Int):row=b6 (λj=>row.getD j 0) row.length:=by
 apply List.ext_getElem?;intro i;unfold b6;rw[List.getElem?_map]
 by_cases h:i<row.length
 ·simp[h,List.getElem?_range]
 ·have h':row.length<=i:=by lia
  rw[List.getElem?_eq_none h',List.getElem?_eq_none (by simpa using h')];rfl
theorem Be{row:List Int}{n:Nat}(hl:row.length=n)(hL:Low row):∃f:Nat->Int,row=b6 f n/\∀j,0<=f j/\f j<1000:=by
 refine⟨λj=>row.getD j 0,by rw[<-hl];exact z_ row,λj=>?_⟩
 by_cases h:j<row.length
 ·have:row.getD j 0=row[j]:=by simp[List.getD_eq_getElem?_getD,h]
  show 0<=row.getD j 0/\row.getD j 0<1000;rw[this];exact hL _ (List.getElem_mem h)
 ·have:row.getD j 0=0:=by simp[List.getD_eq_getElem?_getD,List.getElem?_eq_none (show row.length<=j by lia)]
  show 0<=row.getD j 0/\row.getD j 0<1000;rw[this];lia
theorem bL{f:Ev->Option Bool}{g g':Ev->Option Fl}{ε:Ev}(p:Prop)[Decidable p](h:f ε=some (decide p))(hp:p):sIf f g g' ε=g ε:=g_ (h.trans (by rw[decide_eq_true hp]))
theorem bD{f:Ev->Option Bool}{g g':Ev->Option Fl}{ε:Ev}(p:Prop)[Decidable p](h:f ε=some (decide p))(hp:¬p):sIf f g g' ε=g' ε:=hW (h.trans (by rw[decide_eq_false hp]))
theorem Cq{i j:Int}(h:-(2 ^ 64)<j/\j<2 ^ 64):bF (.int i) (.int j)=some (.int (i*j)):=by
 have c:lG i j:=Or.inr h;simp[bF,dC,c]
theorem uB{i j:Int}(h:-(2 ^ 64)<i/\i<2 ^ 64):bF (.int i) (.int j)=some (.int (i*j)):=by
 have c:lG i j:=Or.inl h;simp[bF,dC,c]
theorem vQ{i j:Int}(h:0<j):aF (.int i) (.int j)=some (.int (i%j)):=by
 simp[aF,dC,h]
theorem bY{op:D->D->Option D}{fa fb:Ev->Option D}{ε:Ev}{x y:D}(h1:fa ε=some x)(h2:fb ε=some y):e2 op fa fb ε=op x y:=by unfold e2;rw[h1,h2];rfl
theorem ix2{x y:D}(i:Int)(h:i=0\/i=1):ixD (.lst [x,y]) (.int i)=some (if i=0 then x else y):=by
 rcases h with rfl | rfl<;>rfl
theorem d7{g:D->Ev->Option Ev}{gb:Ev->Option Fl}(P:Nat->Ev->Prop):∀(ds:List D) (n:Nat),(∀i d,ds[i]?=some d->∀ε,P (n+i) ε->∃ε1 ε2,g d ε=some ε1/\(gb ε1=some (.nx ε2)\/gb ε1=some (.ct ε2))/\P (n+i+1) ε2)->
  ∀ε,P n ε->∃ε',dI g gb ds ε=some (.nx ε')/\P (n+ds.length) ε'
 |[],n,_,ε,h=>⟨ε,rfl,h⟩
 |d::ds,n,st,ε,h=>by
  obtain⟨ε1,ε2,e1,e2,h2⟩:=st 0 d rfl ε h
  obtain⟨ε3,e3,h3⟩:=d7 P ds (n+1) (λi d' hd ε h'=>by
   have:=st (i+1) d' hd ε (by rw[show n+(i+1)=n+1+i by lia];exact h');rw[show n+(i+1)+1=n+1+i+1 by lia] at this
   exact this) ε2 h2
  refine⟨ε3,?_,by rw[List.length_cons,show n+(ds.length+1)=n+1+ds.length by lia];exact h3⟩;show(g d ε).bind _=_;rw[e1];show(gb ε1).bind _=_;rcases e2 with e2 | e2<;>(rw[e2];exact e3)
theorem fD{n i:Nat}{d:D}(h:(cK n)[i]?=some d):d=.int (i:Int)/\i<n:=by
 unfold cK at h;rw[List.getElem?_map] at h;obtain⟨m,em,rfl⟩:=br h;obtain⟨hm,em⟩:=List.getElem?_eq_some_iff.mp em;rw[List.getElem_range] at em;subst em;exact⟨rfl,by simpa using hm⟩
@[simp] theorem rngD_len (n:Nat):(cK n).length=n:=by simp[cK]
theorem fM{f:Ev->Option D}{ε:Ev}{j:Int}(h:f ε=some (.int j))(h1:0<=j)(h2:j<1000000):c_ f ε=some (cK j.toNat):=by
 unfold c_;rw[h];show(if j<1000000/\-1000000<j then some (cK j.toNat) else none)=_;rw[if_pos (by lia)]
theorem An{N ps:List Str}{g:Ev->Option Fl}{ds rs:List D}(hl:ds.length=ps.length)(h:g (df N ds)=some (.ro rs)):fnO N ps g ds=some rs:=by
 unfold fnO;rw[if_pos hl,h]
theorem zG{N ps:List Str}{g:Ev->Option Fl}{ds rs:List D}(hl:ds.length=ps.length)(h:g (df N ds)=some (.ro rs)):fnD N ps g ds=some (.lst rs):=by
 unfold fnD;rw[if_pos hl,h]
theorem cB{f g:Ev->Option Bool}{ε:Ev}{a b:Bool}(h1:f ε=some a)(h2:g ε=some b):bI f g ε=some (a&&b):=by
 unfold bI;rw[h1];cases a
 ·rfl
 ·exact h2
theorem qr{f g:Ev->Option Bool}{ε:Ev}{a b:Bool}(h1:f ε=some a)(h2:g ε=some b):f9 f g ε=some (a || b):=by
 unfold f9;rw[h1];cases a
 ·exact h2
 ·rfl
theorem yX{f:Ev->Option Bool}{ε:Ev}{a:Bool}(h1:f ε=some a):oe f ε=some (!a):=by unfold oe;rw[h1];rfl
theorem iR{i:Nat}{f:Ev->Option D}{ε:Ev}{d:D}{ds:List D}(h:f ε=some d)(hi:ε[i]?=some (.own ds))(hl:ds.length<1000000):dM i f ε=some (.nx (ε.set i (.own (ds++[d])))):=by
 unfold dM;rw[h];show(match ε[i]? with | some (.own ds)=>_ | _=>none)=_;rw[hi];show(if ds.length<1000000 then _ else none)=_;rw[if_pos hl]
theorem kq(f:Nat->Int)(m a n:Nat)(h:a+n<=m):Dn.gY (iL (b6 f m)) (some (a:Int)) (some ((a+n:Nat):Int))=iL (b6 (λj=>f (a+j)) n):=by
 rw[vm _ _ _ (by simp[iL,b6];lia)];unfold iL b6;rw[show a+n-a=n by lia,<-List.map_drop,<-List.map_take,<-List.map_drop,<-List.map_take];congr 1;apply List.ext_getElem?;intro i;rw[List.getElem?_map,List.getElem?_map]
 by_cases hi:i<n
 ·rw[List.getElem?_take,if_pos hi,List.getElem?_drop]
  simp[List.getElem?_range,hi,show a+i<m by lia]
 ·rw[List.getElem?_take,if_neg hi]
  simp[List.getElem?_range,hi]
noncomputable def zD:Ev->Option Fl:=(aC (sIf (ay aZ (e2 aF (e2 ixD (af 0) (eC (.int 0))) (eC (.int 5))) (eC (.int 1))) (a8 (bh (ae (e2 bA (e2 ixD (af 0) (eC (.int 1))) (eC (.int 500))) (ae (e2 bA (e2 ixD (af 0) (eC (.int 2))) (eC (.int 500))) aD)))) bj) (aC (sIf (ay aZ (e2 aF (e2 ixD (af 0) (eC (.int 0))) (eC (.int 5))) (eC (.int 2))) (a8 (bh (ae (e2 bF (e2 bA (e2 aF (e2 ixD (af 0) (eC (.int 1))) (eC (.int 3))) (eC (.int 1))) (eC (.int 985))) (ae (e2 bF (e2 bA (e2 aF (e2 ixD (af 0) (eC (.int 2))) (eC (.int 3))) (eC (.int 1))) (eC (.int 985))) aD)))) bj) (a8 (bh (ae (eC (.int 0)) (ae (eC (.int 0)) aD))))))
theorem we(a0 a1 a2:Int):∃b0 b1,zD [.dat (.lst (iL [a0,a1,a2]))]=some (.rt (.tup [.int b0,.int b1])):=by
 unfold zD
 by_cases h1:a0%5=1
 ·exact⟨a1-500,a2-500,bN (by rw[bL (a0%5=1) rfl h1];rfl)⟩
 ·by_cases h2:a0%5=2
  ·refine⟨(a1%3-1)*985,(a2%3-1)*985,(au (by rw[bD (a0%5=1) rfl h1];rfl)).trans (bN ?_)⟩
   rw[bL (a0%5=2) rfl h2];refine cC ?_;have c1:e2 bF (e2 bA (e2 aF (e2 ixD (af 0) (eC (.int 1))) (eC (.int 3))) (eC (.int 1))) (eC (.int 985)) [.dat (.lst (iL [a0,a1,a2]))]=some (.int ((a1%3-1)*985)):=(bY (x:=.int (a1%3-1)) (y:=.int 985) rfl rfl).trans (Cq (by decide));have c2:e2 bF (e2 bA (e2 aF (e2 ixD (af 0) (eC (.int 2))) (eC (.int 3))) (eC (.int 1))) (eC (.int 985)) [.dat (.lst (iL [a0,a1,a2]))]=some (.int ((a2%3-1)*985)):=(bY (x:=.int (a2%3-1)) (y:=.int 985) rfl rfl).trans (Cq (by decide));unfold bh ae;rw[c1,c2];rfl
  ·exact⟨0,0,(au (by rw[bD (a0%5=1) rfl h1];rfl)).trans ((au (by rw[bD (a0%5=2) rfl h2];rfl)).trans rfl)⟩
noncomputable abbrev t6(a0 a1 a2 a3 a4 a5:Int):D:=.tup [.int a0,.int a1,.int a2,.int a3,.int a4,.int a5]
noncomputable def BQ:Ev->Option Fl:=(aC (aU 2 (e2 bA (e2 aM (e2 ixD (af 1) (eC (.int 0))) (e2 aF (e2 ixD (af 0) (eC (.int 0))) (eC (.int 9)))) (eC (.int 4)))) (aC (aU 3 (e2 bA (e2 aM (e2 ixD (af 1) (eC (.int 1))) (e2 aF (e2 ixD (af 0) (eC (.int 1))) (eC (.int 9)))) (eC (.int 4)))) (aC (aU 4 (e2 aF (e2 ixD (af 0) (eC (.int 4))) (eC (.int 6)))) (a8 (bh (ae (av 2) (ae (av 3) (ae (e2 aM (af 2) (e2 aF (e2 ixD (af 0) (eC (.int 2))) (eC (.int 4)))) (ae (e2 aM (af 3) (e2 aF (e2 ixD (af 0) (eC (.int 3))) (eC (.int 4)))) (ae (av 4) (ae (e2 aM (af 4) (e2 aF (e2 ixD (af 0) (eC (.int 5))) (e2 bA (eC (.int 6)) (af 4)))) aD)))))))))))
theorem gP{l:List Int}{n:Nat}(h:n+1<=l.length):∃d r,l=d::r/\n<=r.length:=by
 cases l with
 |nil=>cases h
 |cons d r=>exact⟨d,r,rfl,Nat.le_of_succ_le_succ h⟩
theorem yd(l:List Int)(hl:6<=l.length)(b0 b1:Int):∃a0 a1 a2 a3 a4 a5,BQ [.dat (.lst (iL l)),.dat (.tup [.int b0,.int b1]),.un,.un,.un]=some (.rt (t6 a0 a1 a2 a3 a4 a5))/\(a0<=a2/\a1<=a3/\a4<=a5)/\0<=a4/\a5<=5:=by
 obtain⟨d0,d1,d2,d3,d4,d5,r,rfl⟩:∃d0 d1 d2 d3 d4 d5 r,l=d0::d1::d2::d3::d4::d5::r:=by
  obtain⟨d0,r0,rfl,h0⟩:=gP hl;obtain⟨d1,r1,rfl,h1⟩:=gP h0;obtain⟨d2,r2,rfl,h2⟩:=gP h1;obtain⟨d3,r3,rfl,h3⟩:=gP h2;obtain⟨d4,r4,rfl,h4⟩:=gP h3;obtain⟨d5,r5,rfl,h5⟩:=gP h4;exact⟨d0,d1,d2,d3,d4,d5,r5,rfl⟩
 have at_:∀(k:Nat) (v:Int),(d0::d1::d2::d3::d4::d5::r)[k]?=some v->ixD (.lst (iL (d0::d1::d2::d3::d4::d5::r))) (.int (k:Int))=some (.int v):=λk v h=>nk (by unfold iL;rw[List.getElem?_map,h];rfl);have w0:=at_ 0 d0 rfl;have w1:=at_ 1 d1 rfl;have w2:=at_ 2 d2 rfl;have w3:=at_ 3 d3 rfl;have w4:=at_ 4 d4 rfl;have w5:=at_ 5 d5 rfl;let m:=d4%6;refine⟨b0+d0%9-4,b1+d1%9-4,b0+d0%9-4+d2%4,b1+d1%9-4+d3%4,m,m+d5%(6-m),?_,⟨by lia,by lia,?_⟩,by lia,?_⟩
 ·unfold BQ
  refine(au (bo (d:=.int (b0+d0%9-4)) ?_)).trans ?_
  ·refine(bY (x:=.int (b0+d0%9)) (y:=.int 4) ((bY (x:=.int b0) (y:=.int (d0%9)) rfl ((bY (x:=.int d0) (y:=.int 9) ((bY (y:=.int 0) rfl rfl).trans w0) rfl).trans rfl)).trans rfl) rfl).trans rfl
  refine(au (bo (d:=.int (b1+d1%9-4)) ?_)).trans ?_
  ·refine(bY (x:=.int (b1+d1%9)) (y:=.int 4) ((bY (x:=.int b1) (y:=.int (d1%9)) rfl ((bY (x:=.int d1) (y:=.int 9) ((bY (y:=.int 1) rfl rfl).trans w1) rfl).trans rfl)).trans rfl) rfl).trans rfl
  refine(au (bo (d:=.int m) ((bY (x:=.int d4) (y:=.int 6) ((bY (y:=.int 4) rfl rfl).trans w4) rfl).trans rfl))).trans ?_;refine cC ?_;unfold bh ae
  rw[bY (op:=aM) (fa:=af 2) (x:=.int (b0+d0%9-4)) (y:=.int (d2%4)) rfl ((bY (x:=.int d2) (y:=.int 4) ((bY (y:=.int 2) rfl rfl).trans w2) rfl).trans rfl),
   bY (op:=aM) (fa:=af 3) (x:=.int (b1+d1%9-4)) (y:=.int (d3%4)) rfl ((bY (x:=.int d3) (y:=.int 4) ((bY (y:=.int 3) rfl rfl).trans w3) rfl).trans rfl),
   bY (op:=aM) (fa:=af 4) (x:=.int m) (y:=.int (d5%(6-m))) rfl ((bY (x:=.int d5) (y:=.int (6-m)) ((bY (y:=.int 5) rfl rfl).trans w5) rfl).trans (vQ (by lia)))]
  rfl
 ·have hm:m=d4%6:=rfl
  have:=Int.emod_nonneg d5 (show 6-m≠0 by lia)
  lia
 ·have hm:m=d4%6:=rfl
  have:=Int.emod_lt_of_pos d5 (show 0<6-m by lia)
  lia
structure Stt where
 (x y z s p:Int)
noncomputable def stD(q:Stt):D:=.tup [.int q.x,.int q.y,.int q.z,.int q.s,.int q.p]
theorem ba{op:D->D->Option D}{fa fb:Ev->Option D}{ε:Ev}{x y z:D}(h1:fa ε=some x)(h2:fb ε=some y)(h3:op x y=some z):e2 op fa fb ε=some z:=(bY h1 h2).trans h3
theorem a_{f:Ev->Option D}{g:Ev->Option (List D)}{ε:Ev}{x:D}{xs:List D}(h1:f ε=some x)(h2:g ε=some xs):ae f g ε=some (x::xs):=by unfold ae;rw[h1,h2];rfl
theorem gO{g:Ev->Option (List D)}{ε:Ev}{ds:List D}(h1:g ε=some ds)(h2:ds.length<=1000):bh g ε=some (.tup ds):=by unfold bh;rw[h1];show(if ds.length<=1000 then some (D.tup ds) else none)=_;rw[if_pos h2]
theorem aX{F:List D->Option D}{g:Ev->Option (List D)}{ε:Ev}{ds:List D}{d:D}(h1:g ε=some ds)(h2:F ds=some d):aI F g ε=some d:=by unfold aI;rw[h1];exact h2
theorem cV{op:D->D->Option D}{fa fb:Ev->Option D}{ε:Ev}{x y:D}{b:Bool}(h1:fa ε=some x)(h2:fb ε=some y)(h3:op x y=some (.bl b)):ay op fa fb ε=some b:=by unfold ay;rw[ba h1 h2 h3];rfl
theorem mV{F:List D->Option D}{g:Ev->Option (List D)}{ε:Ev}{b:Bool}(h:aI F g ε=some (.bl b)):g8 (aI F g) ε=some b:=by unfold g8;rw[h];rfl
structure Hl where
 (x y t:Int)
noncomputable def hD(h:Hl):D:=.tup [.int h.x,.int h.y,.int h.t]
noncomputable abbrev hL(hs:List Hl):List D:=hs.map hD
structure Wd where
 (h z dx dy:Int)
noncomputable def wD(q:Wd):D:=.tup [.int q.h,.int q.z,.int q.dx,.int q.dy]
noncomputable abbrev wL(ws:List Wd):List D:=ws.map wD
structure Sh where
 (a b c d e f t u:Int)
noncomputable def shD(q:Sh):D:=.tup [.int q.a,.int q.b,.int q.c,.int q.d,.int q.e,.int q.f,.int q.t,.int q.u]
noncomputable abbrev shL(l:List Sh):List D:=l.map shD
theorem nq(f:Nat->Int)(m j:Nat)(h:j<m):ixD (.lst (iL (b6 f m))) (.int (j:Int))=some (.int (f j)):=
 nk (by unfold iL b6;rw[List.getElem?_map,List.getElem?_map,List.getElem?_range h];rfl)
noncomputable def yE:Ev->Option Fl:=(dM 3 (bh (ae (e2 bA (e2 aM (e2 ixD (af 1) (eC (.int 0))) (e2 aF (e2 ixD (af 0) (e2 aM (e2 bF (eC (.int 3)) (af 4)) (eC (.int 1)))) (eC (.int 9)))) (eC (.int 4))) (ae (e2 bA (e2 aM (e2 ixD (af 1) (eC (.int 1))) (e2 aF (e2 ixD (af 0) (e2 aM (e2 bF (eC (.int 3)) (af 4)) (eC (.int 2)))) (eC (.int 9)))) (eC (.int 4))) (ae (e2 aM (eC (.int 1)) (e2 aF (e2 ixD (af 0) (e2 aM (e2 bF (eC (.int 3)) (af 4)) (eC (.int 3)))) (eC (.int 5)))) aD)))))
noncomputable def yF:Ev->Option Fl:=(aC (aU 6 (e2 ixD (eF (cI (ae (e2 aF (e2 ixD (af 0) (e2 aM (eC (.int 16)) (af 4))) (eC (.int 24))) (ae (e2 aF (e2 aM (af 2) (e2 aF (e2 ixD (af 0) (e2 aM (eC (.int 16)) (af 4))) (eC (.int 4)))) (eC (.int 24))) aD)))) (e2 aF (e2 cv (e2 ixD (af 0) (eC (.int 0))) (eC (.int 30))) (eC (.int 2))))) (sIf (ay (inD true) (af 6) (af 5)) (dM 5 (av 6)) bj))
noncomputable def xf:Ev->Option Fl:=(aC (aU 8 (eF (eSl (af 0) (bx (e2 aM (eC (.int 22)) (e2 bF (eC (.int 4)) (af 4)))) (bx (e2 aM (eC (.int 26)) (e2 bF (eC (.int 4)) (af 4))))))) (aC (aU 9 (e2 ixD (eF (cI (ae (e2 aF (e2 ixD (af 8) (eC (.int 0))) (eC (.int 24))) (ae (e2 aF (e2 aM (af 2) (e2 aF (e2 cv (e2 ixD (af 8) (eC (.int 0))) (eC (.int 7))) (eC (.int 6)))) (eC (.int 24))) aD)))) (e2 aF (e2 cv (e2 ixD (af 8) (eC (.int 1))) (eC (.int 6))) (eC (.int 2))))) (dM 7 (bh (ae (av 9) (ae (e2 aF (e2 ixD (af 8) (eC (.int 1))) (eC (.int 6))) (ae (e2 bA (e2 aF (e2 ixD (af 8) (eC (.int 2))) (eC (.int 5))) (eC (.int 2))) (ae (e2 bA (e2 aF (e2 ixD (af 8) (eC (.int 3))) (eC (.int 5))) (eC (.int 2))) aD))))))))
noncomputable def yK(Fb:List D->Option D):Ev->Option Fl:=(aC (aU 11 (eF (eSl (af 0) (bx (e2 aM (eC (.int 91)) (e2 bF (eC (.int 8)) (af 4)))) (bx (e2 aM (eC (.int 99)) (e2 bF (eC (.int 8)) (af 4))))))) (aC (aU 9 (e2 ixD (eF (cI (ae (e2 aF (e2 ixD (af 11) (eC (.int 6))) (eC (.int 25))) (ae (av 2) aD)))) (e2 aF (e2 ixD (af 11) (eC (.int 7))) (eC (.int 2))))) (dM 10 (e2 CatI.qH (aI Fb (ae (av 11) (ae (av 1) aD))) (bh (ae (av 9) (ae (e2 aM (af 9) (e2 aF (e2 cv (e2 ixD (af 11) (eC (.int 7))) (eC (.int 2))) (e2 bA (eC (.int 25)) (af 9)))) aD)))))))
noncomputable def BD(Fb:List D->Option D):Ev->Option Fl:=(aC (eY 3 (cI aD)) (aC (cL (c_ (e2 aF (e2 ixD (af 0) (eC (.int 0))) (eC (.int 6)))) (ak 4) yE) (aC (eY 5 (cI aD)) (aC (cL (c_ (e2 aF (e2 cv (e2 ixD (af 0) (eC (.int 0))) (eC (.int 6))) (eC (.int 5)))) (ak 4) yF) (aC (eY 7 (cI aD)) (aC (sIf (ay gtI (e2 aF (e2 ixD (af 0) (eC (.int 21))) (eC (.int 4))) (eC (.int 0))) (eY 7 (eLC (c_ (eC (.int 6))) 1 [0] (ak 0) i9 (bh (ae (eC (.int 0)) (ae (av 0) (ae (e2 bA (e2 aF (e2 ixD (af 1) (e2 aM (eC (.int 78)) (e2 bF (eC (.int 2)) (af 0)))) (eC (.int 5))) (eC (.int 2))) (ae (e2 bA (e2 aF (e2 ixD (af 1) (e2 aM (eC (.int 79)) (e2 bF (eC (.int 2)) (af 0)))) (eC (.int 5))) (eC (.int 2))) aD))))))) bj) (aC (cL (c_ (e2 aF (e2 cv (e2 ixD (af 0) (eC (.int 21))) (eC (.int 4))) (eC (.int 14)))) (ak 4) xf) (aC (eY 10 (cI aD)) (aC (cL (c_ (e2 aF (e2 ixD (af 0) (eC (.int 90))) (eC (.int 4)))) (ak 4) (yK Fb)) (sFz 10 (sFz 7 (sFz 5 (sFz 3 (a8 (bh (ae (av 3) (ae (av 5) (ae (av 7) (ae (av 10) aD)))))))))))))))))))
noncomputable def uf(Fb:List D->Option D):Prop:=∀(l:List Int) (_:6<=l.length) (b0 b1:Int),∃a0 a1 a2 a3 a4 a5,Fb [.lst (iL l),.tup [.int b0,.int b1]]=some (t6 a0 a1 a2 a3 a4 a5)/\(a0<=a2/\a1<=a3/\a4<=a5)/\0<=a4/\a5<=5
noncomputable def lu(h:Hl):Prop:=1<=h.t/\h.t<=5
noncomputable def kP(q:Wd):Prop:=(0<=q.h/\q.h<=23)/\(0<=q.z/\q.z<=5)
noncomputable def ni(q:Sh):Prop:=q.a<=q.c/\q.b<=q.d/\q.e<=q.f/\0<=q.e/\q.f<=5/\0<=q.t/\q.t<=q.u/\q.u<=24
section
variable(f:Nat->Int)(b0 b1 hour:Int)
noncomputable abbrev eS(s3 s4 s5 s6 s7 s8 s9 s10 s11:Sl):Ev:=[.dat (.lst (iL (b6 f 120))),.dat (.tup [.int b0,.int b1]),.dat (.int hour),s3,s4,s5,s6,s7,s8,s9,s10,s11]
theorem sk0(k:Nat)(hk:k<6)(hs:List Hl)(hz:hs.length<1000)(s5 s6 s7 s8 s9 s10 s11:Sl):∃h:Hl,lu h/\yE (eS f b0 b1 hour (.own (hL hs)) (.dat (.int (k:Int))) s5 s6 s7 s8 s9 s10 s11)=some (.nx (eS f b0 b1 hour (.own (hL (hs++[h]))) (.dat (.int (k:Int))) s5 s6 s7 s8 s9 s10 s11)):=by
 have m:e2 bF (eC (.int 3)) (af 4) (eS f b0 b1 hour (.own (hL hs)) (.dat (.int (k:Int))) s5 s6 s7 s8 s9 s10 s11)=some (.int (3*(k:Int))):=(bY (x:=.int 3) (y:=.int (k:Int)) rfl rfl).trans (uB (by decide))
 have at_:∀j:Nat,j<10->e2 ixD (af 0) (e2 aM (e2 bF (eC (.int 3)) (af 4)) (eC (.int (j:Int)))) (eS f b0 b1 hour (.own (hL hs)) (.dat (.int (k:Int))) s5 s6 s7 s8 s9 s10 s11)=some (.int (f (3*k+j))):=λj hj=>by
  rw[bY (x:=(.lst (iL (b6 f 120)))) (y:=.int ((3*k+j:Nat):Int)) rfl ((bY (x:=.int (3*(k:Int))) (y:=.int (j:Int)) m rfl).trans (by show some (D.int _)=_;rw[show(3*(k:Int)+(j:Int))=((3*k+j:Nat):Int) by lia]))];exact nq f 120 _ (by lia)
 refine⟨⟨b0+f (3*k+1)%9-4,b1+f (3*k+2)%9-4,1+f (3*k+3)%5⟩,⟨by show 1<=1+_%_;lia,by show 1+_%_<=(5:Int);lia⟩,?_⟩;unfold yE;refine(iR (ds:=hL hs) (d:=hD ⟨b0+f (3*k+1)%9-4,b1+f (3*k+2)%9-4,1+f (3*k+3)%5⟩) ?_ rfl (by simp;lia)).trans ?_
 ·have a1:e2 ixD (af 0) (e2 aM (e2 bF (eC (.int 3)) (af 4)) (eC (.int 1))) (eS f b0 b1 hour (.own (hL hs)) (.dat (.int (k:Int))) s5 s6 s7 s8 s9 s10 s11)=some (.int (f (3*k+1))):=at_ 1 (by decide)
  have a2:e2 ixD (af 0) (e2 aM (e2 bF (eC (.int 3)) (af 4)) (eC (.int 2))) (eS f b0 b1 hour (.own (hL hs)) (.dat (.int (k:Int))) s5 s6 s7 s8 s9 s10 s11)=some (.int (f (3*k+2))):=at_ 2 (by decide);have a3:e2 ixD (af 0) (e2 aM (e2 bF (eC (.int 3)) (af 4)) (eC (.int 3))) (eS f b0 b1 hour (.own (hL hs)) (.dat (.int (k:Int))) s5 s6 s7 s8 s9 s10 s11)=some (.int (f (3*k+3))):=at_ 3 (by decide);refine gO (a_ (ba (ba rfl (ba a1 rfl rfl) rfl) rfl rfl) (a_ (ba (ba rfl (ba a2 rfl rfl) rfl) rfl rfl) (a_ (ba rfl (ba a3 rfl rfl) rfl) rfl))) (show 3<=1000 by decide)
 ·rw[show hL (hs++[⟨b0+f (3*k+1)%9-4,b1+f (3*k+2)%9-4,1+f (3*k+3)%5⟩])=hL hs++[hD ⟨b0+f (3*k+1)%9-4,b1+f (3*k+2)%9-4,1+f (3*k+3)%5⟩] by simp[hL]]
  rfl
theorem mZ:∀l:List Int,lF (iL l)=some (l.map V.int)
 |[]=>rfl
 |i::l=>by show(lF (iL l)).bind _=_;rw[mZ l];rfl
theorem sk1(k:Nat)(hk:k<5)(cs:List Int)(hz:cs.length<1000)(s3 s6 s7 s8 s9 s10 s11:Sl):∃(cs':List Int) (e6:Sl),cs'.length<=cs.length+1/\yF (eS f b0 b1 hour s3 (.dat (.int (k:Int))) (.own (iL cs)) s6 s7 s8 s9 s10 s11)=some (.nx (eS f b0 b1 hour s3 (.dat (.int (k:Int))) (.own (iL cs')) e6 s7 s8 s9 s10 s11)):=by
 have a1:e2 ixD (af 0) (e2 aM (eC (.int 16)) (af 4)) (eS f b0 b1 hour s3 (.dat (.int (k:Int))) (.own (iL cs)) s6 s7 s8 s9 s10 s11)=some (.int (f (16+k))):=
  ba (y:=.int ((16+k:Nat):Int)) rfl (ba rfl rfl (by show some (D.int (16+(k:Int)))=_;rw[show(16+(k:Int))=((16+k:Nat):Int) by lia])) (nq f 120 _ (by lia))
 let c:Int:=if f 0/30%2=0 then f (16+k)%24 else(hour+f (16+k)%4)%24
 have c6:e2 ixD (eF (cI (ae (e2 aF (e2 ixD (af 0) (e2 aM (eC (.int 16)) (af 4))) (eC (.int 24))) (ae (e2 aF (e2 aM (af 2) (e2 aF (e2 ixD (af 0) (e2 aM (eC (.int 16)) (af 4))) (eC (.int 4)))) (eC (.int 24))) aD)))) (e2 aF (e2 cv (e2 ixD (af 0) (eC (.int 0))) (eC (.int 30))) (eC (.int 2))) (eS f b0 b1 hour s3 (.dat (.int (k:Int))) (.own (iL cs)) s6 s7 s8 s9 s10 s11)=some (.int c):=by
  refine ba (x:=.lst [.int (f (16+k)%24),.int ((hour+f (16+k)%4)%24)]) (y:=.int (f 0/30%2)) (c7 ?_) rfl ?_
  ·unfold cI
   rw[a_ (ba a1 rfl rfl) (a_ (ba (ba rfl (ba a1 rfl rfl) rfl) rfl rfl) rfl)];rfl
  ·rw[ix2 _ (by lia)]
   show some (if f 0/30%2=0 then D.int (f (16+k)%24) else D.int ((hour+f (16+k)%4)%24))=some (D.int (if f 0/30%2=0 then f (16+k)%24 else(hour+f (16+k)%4)%24));split<;>rfl
 have ci:ay (inD true) (af 6) (af 5) (eS f b0 b1 hour s3 (.dat (.int (k:Int))) (.own (iL cs)) (.dat (.int c)) s7 s8 s9 s10 s11)=some (!inV (.int c) (cs.map V.int)):=cV (x:=.int c) (y:=.lst (iL cs)) rfl rfl (by show(lF (iL cs)).bind _=_;rw[mZ];rfl);unfold yF;cases hb:inV (.int c) (cs.map V.int) with
 |true=>
  rw[hb] at ci;refine⟨cs,.dat (.int c),by lia,(au (bo c6)).trans ?_⟩;exact(hW ci).trans rfl
 |false=>
  rw[hb] at ci;refine⟨cs++[c],.dat (.int c),by simp,(au (bo c6)).trans ?_⟩;refine(g_ ci).trans ((iR (ds:=iL cs) (d:=.int c) rfl rfl (by simp;lia)).trans ?_);rw[show iL (cs++[c])=iL cs++[.int c] by simp[iL]];rfl
theorem Ct(c n m k:Nat)(F1 F2:Ev->Option D)(ε:Ev)(h1:F1 ε=some (.int ((c+m*k:Nat):Int)))(h2:F2 ε=some (.int ((c+m*k+n:Nat):Int)))(h0:af 0 ε=some (.lst (iL (b6 f 120))))(hb:c+m*k+n<=120):eF (eSl (af 0) (bx F1) (bx F2)) ε=some (.lst (iL (b6 (λj=>f (c+m*k+j)) n))):=by
 refine c7 ?_;unfold eSl bx;rw[h0,h1,h2];show some (Dn.gY (iL (b6 f 120)) (some ((c+m*k:Nat):Int)) (some ((c+m*k+n:Nat):Int)))=_;rw[kq f 120 (c+m*k) n hb]
theorem sk2(k:Nat)(hk:k<14)(ws:List Wd)(hz:ws.length<1000)(s3 s5 s6 s8 s9 s10 s11:Sl):∃(w:Wd) (e8 e9:Sl),kP w/\xf (eS f b0 b1 hour s3 (.dat (.int (k:Int))) s5 s6 (.own (wL ws)) s8 s9 s10 s11)=some (.nx (eS f b0 b1 hour s3 (.dat (.int (k:Int))) s5 s6 (.own (wL (ws++[w]))) e8 e9 s10 s11)):=by
 let g:Nat->Int:=λj=>f (22+4*k+j);have m:e2 bF (eC (.int 4)) (af 4) (eS f b0 b1 hour s3 (.dat (.int (k:Int))) s5 s6 (.own (wL ws)) s8 s9 s10 s11)=some (.int (4*(k:Int))):=ba rfl rfl (uB (by decide));have c8:=Ct f 22 4 4 k (e2 aM (eC (.int 22)) (e2 bF (eC (.int 4)) (af 4))) (e2 aM (eC (.int 26)) (e2 bF (eC (.int 4)) (af 4))) (eS f b0 b1 hour s3 (.dat (.int (k:Int))) s5 s6 (.own (wL ws)) s8 s9 s10 s11) (ba rfl m (by show some (D.int (22+4*(k:Int)))=_;rw[show(22+4*(k:Int))=((22+4*k:Nat):Int) by lia])) (ba rfl m (by show some (D.int (26+4*(k:Int)))=_;rw[show(26+4*(k:Int))=((22+4*k+4:Nat):Int) by lia])) rfl (by lia);let c:Int:=if g 1/6%2=0 then g 0%24 else(hour+g 0/7%6)%24
 have c9:e2 ixD (eF (cI (ae (e2 aF (e2 ixD (af 8) (eC (.int 0))) (eC (.int 24))) (ae (e2 aF (e2 aM (af 2) (e2 aF (e2 cv (e2 ixD (af 8) (eC (.int 0))) (eC (.int 7))) (eC (.int 6)))) (eC (.int 24))) aD)))) (e2 aF (e2 cv (e2 ixD (af 8) (eC (.int 1))) (eC (.int 6))) (eC (.int 2))) (eS f b0 b1 hour s3 (.dat (.int (k:Int))) s5 s6 (.own (wL ws)) (.dat (.lst (iL (b6 g 4)))) s9 s10 s11)=some (.int c):=by
  refine ba (x:=.lst [.int (g 0%24),.int ((hour+g 0/7%6)%24)]) (y:=.int (g 1/6%2)) rfl rfl ?_;rw[ix2 _ (by lia)];show some (if g 1/6%2=0 then D.int (g 0%24) else D.int ((hour+g 0/7%6)%24))=some (D.int (if g 1/6%2=0 then g 0%24 else(hour+g 0/7%6)%24));split<;>rfl
 have hc:0<=c/\c<=23:=by
  show 0<=(if g 1/6%2=0 then g 0%24 else(hour+g 0/7%6)%24)/\(if g 1/6%2=0 then g 0%24 else(hour+g 0/7%6)%24)<=23;split<;>lia
 refine⟨⟨c,g 1%6,g 2%5-2,g 3%5-2⟩,.dat (.lst (iL (b6 g 4))),.dat (.int c),⟨hc,by show 0<=g 1%6;lia,by show g 1%6<=5;lia⟩,?_⟩;unfold xf;refine(au (bo c8)).trans ?_;refine(au (bo c9)).trans ?_;refine(iR (ds:=wL ws) (d:=wD ⟨c,g 1%6,g 2%5-2,g 3%5-2⟩) rfl rfl (by simp;lia)).trans ?_;rw[show wL (ws++[⟨c,g 1%6,g 2%5-2,g 3%5-2⟩])=wL ws++[wD ⟨c,g 1%6,g 2%5-2,g 3%5-2⟩] by simp[wL]];rfl
theorem sk3{Fb:List D->Option D}(hB:uf Fb)(hh:0<=hour/\hour<=24)(k:Nat)(hk:k<3)(ss:List Sh)(hz:ss.length<1000)(s3 s5 s6 s7 s8 s9 s11:Sl):∃(q:Sh) (e9 e11:Sl),ni q/\yK Fb (eS f b0 b1 hour s3 (.dat (.int (k:Int))) s5 s6 s7 s8 s9 (.own (shL ss)) s11)=some (.nx (eS f b0 b1 hour s3 (.dat (.int (k:Int))) s5 s6 s7 s8 e9 (.own (shL (ss++[q]))) e11)):=by
 let g:Nat->Int:=λj=>f (91+8*k+j);have m:e2 bF (eC (.int 8)) (af 4) (eS f b0 b1 hour s3 (.dat (.int (k:Int))) s5 s6 s7 s8 s9 (.own (shL ss)) s11)=some (.int (8*(k:Int))):=ba rfl rfl (uB (by decide));have c11:=Ct f 91 8 8 k (e2 aM (eC (.int 91)) (e2 bF (eC (.int 8)) (af 4))) (e2 aM (eC (.int 99)) (e2 bF (eC (.int 8)) (af 4))) (eS f b0 b1 hour s3 (.dat (.int (k:Int))) s5 s6 s7 s8 s9 (.own (shL ss)) s11) (ba rfl m (by show some (D.int (91+8*(k:Int)))=_;rw[show(91+8*(k:Int))=((91+8*k:Nat):Int) by lia])) (ba rfl m (by show some (D.int (99+8*(k:Int)))=_;rw[show(99+8*(k:Int))=((91+8*k+8:Nat):Int) by lia])) rfl (by lia);let c:Int:=if g 7%2=0 then g 6%25 else hour
 have c9:e2 ixD (eF (cI (ae (e2 aF (e2 ixD (af 11) (eC (.int 6))) (eC (.int 25))) (ae (av 2) aD)))) (e2 aF (e2 ixD (af 11) (eC (.int 7))) (eC (.int 2))) (eS f b0 b1 hour s3 (.dat (.int (k:Int))) s5 s6 s7 s8 s9 (.own (shL ss)) (.dat (.lst (iL (b6 g 8)))))=some (.int c):=by
  refine ba (x:=.lst [.int (g 6%25),.int hour]) (y:=.int (g 7%2)) rfl rfl ?_;rw[ix2 _ (by lia)];show some (if g 7%2=0 then D.int (g 6%25) else D.int hour)=some (D.int (if g 7%2=0 then g 6%25 else hour));split<;>rfl
 have hc:0<=c/\c<=24:=by
  show 0<=(if g 7%2=0 then g 6%25 else hour)/\(if g 7%2=0 then g 6%25 else hour)<=24;split<;>lia
 obtain⟨a0,a1,a2,a3,a4,a5,eb,⟨o1,o2,o3⟩,o4,o5⟩:=hB (b6 g 8) (by simp[b6]) b0 b1;have h1:=Int.emod_nonneg (g 7/2) (show 25-c≠0 by lia);have h2:=Int.emod_lt_of_pos (g 7/2) (show 0<25-c by lia);refine⟨⟨a0,a1,a2,a3,a4,a5,c,c+g 7/2%(25-c)⟩,.dat (.int c),.dat (.lst (iL (b6 g 8))),⟨o1,o2,o3,o4,o5,hc.1,by show c<=c+_;lia,by show c+_<=24;lia⟩,?_⟩;unfold yK;refine(au (bo c11)).trans ?_;refine(au (bo c9)).trans ?_;refine(iR (ds:=shL ss) (d:=shD ⟨a0,a1,a2,a3,a4,a5,c,c+g 7/2%(25-c)⟩) ?_ rfl (by simp;lia)).trans ?_
 ·exact ba (x:=t6 a0 a1 a2 a3 a4 a5) (y:=.tup [.int c,.int (c+g 7/2%(25-c))]) (aX rfl eb) (gO (a_ rfl (a_ (ba rfl (ba rfl rfl (vQ (by lia))) rfl) rfl)) (show 2<=1000 by decide)) rfl
 ·rw[show shL (ss++[⟨a0,a1,a2,a3,a4,a5,c,c+g 7/2%(25-c)⟩])=shL ss++[shD ⟨a0,a1,a2,a3,a4,a5,c,c+g 7/2%(25-c)⟩] by simp[shL]];rfl
theorem yS{Fb:List D->Option D}(hB:uf Fb)(hh:0<=hour/\hour<=24):∃(hs:List Hl) (cs:List Int) (ws:List Wd) (ss:List Sh),BD Fb (eS f b0 b1 hour .un .un .un .un .un .un .un .un .un)=some (.rt (.tup [.lst (hL hs),.lst (iL cs),.lst (wL ws),.lst (shL ss)]))/\
  (hs.length<=5/\∀h∈hs,lu h)/\cs.length<=4/\(ws.length<=19/\∀w∈ws,kP w)/\ss.length<=3/\∀q∈ss,ni q:=by
 have mem_snoc:∀{α:Type} {P:α->Prop} {l:List α} {a:α},(∀x∈l,P x)->P a->∀x∈l++[a],P x:=λ{α P l a} h1 h2 x hx=>by
  rcases List.mem_append.mp hx with z | z
  ·exact h1 x z
  ·rw[List.mem_singleton.mp z];exact h2
 obtain⟨_,e1,hs,t4,hn,hok,rfl⟩:=d7 (g:=ak 4) (gb:=yE) (λi ε=>∃(hs:List Hl) (s4:Sl),hs.length=i/\(∀h∈hs,lu h)/\ε=eS f b0 b1 hour (.own (hL hs)) s4 .un .un .un .un .un .un .un) (cK (f 0%6).toNat) 0 (λi d hd ε ⟨hs,s4,hn,hok,he⟩=>by
  obtain⟨rfl,hi⟩:=fD hd;subst he;obtain⟨h,ho,e⟩:=sk0 f b0 b1 hour i (by lia) hs (by lia) .un .un .un .un .un .un .un
  exact⟨_,_,rfl,.inl e,hs++[h],_,by simp[hn],mem_snoc hok ho,rfl⟩) (eS f b0 b1 hour (.own (hL [])) .un .un .un .un .un .un .un .un) ⟨[],_,rfl,(λh hh=>by cases hh),rfl⟩
 rw[rngD_len] at hn
 obtain⟨_,e2,cs,u4,u6,cn,rfl⟩:=d7 (g:=ak 4) (gb:=yF) (λi ε=>∃(cs:List Int) (s4 s6:Sl),cs.length<=i/\ε=eS f b0 b1 hour (.own (hL hs)) s4 (.own (iL cs)) s6 .un .un .un .un .un) (cK (f 0/6%5).toNat) 0 (λi d hd ε ⟨cs,s4,s6,cn,he⟩=>by
  obtain⟨rfl,hi⟩:=fD hd;subst he;obtain⟨cs',e6,hl,e⟩:=sk1 f b0 b1 hour i (by lia) cs (by lia) (.own (hL hs)) s6 .un .un .un .un .un
  exact⟨_,_,rfl,.inl e,cs',_,_,by lia,rfl⟩) (eS f b0 b1 hour (.own (hL hs)) t4 (.own (iL [])) .un .un .un .un .un .un) ⟨[],_,_,Nat.le_refl _,rfl⟩
 rw[rngD_len] at cn
 obtain⟨w0,l0,wk0,e3⟩:∃w0:List Wd,w0.length<=6/\(∀w∈w0,kP w)/\sIf (ay gtI (Dn.e2 aF (Dn.e2 ixD (af 0) (eC (.int 21))) (eC (.int 4))) (eC (.int 0))) (eY 7 (eLC (c_ (eC (.int 6))) 1 [0] (ak 0) i9 (bh (ae (eC (.int 0)) (ae (av 0) (ae (Dn.e2 bA (Dn.e2 aF (Dn.e2 ixD (af 1) (Dn.e2 aM (eC (.int 78)) (Dn.e2 bF (eC (.int 2)) (af 0)))) (eC (.int 5))) (eC (.int 2))) (ae (Dn.e2 bA (Dn.e2 aF (Dn.e2 ixD (af 1) (Dn.e2 aM (eC (.int 79)) (Dn.e2 bF (eC (.int 2)) (af 0)))) (eC (.int 5))) (eC (.int 2))) aD))))))) bj (eS f b0 b1 hour (.own (hL hs)) u4 (.own (iL cs)) u6 (.own (wL [])) .un .un .un .un)=some (.nx (eS f b0 b1 hour (.own (hL hs)) u4 (.own (iL cs)) u6 (.own (wL w0)) .un .un .un .un)):=by
  by_cases h:f 21%4>0
  ·refine⟨[⟨0,0,f 78%5-2,f 79%5-2⟩,⟨0,1,f 80%5-2,f 81%5-2⟩,⟨0,2,f 82%5-2,f 83%5-2⟩,⟨0,3,f 84%5-2,f 85%5-2⟩,⟨0,4,f 86%5-2,f 87%5-2⟩,⟨0,5,f 88%5-2,f 89%5-2⟩],by simp,λw hw=>?_,?_⟩
   ·simp only[List.mem_cons,List.not_mem_nil,or_false] at hw
    rcases hw with rfl | rfl | rfl | rfl | rfl | rfl<;>exact⟨⟨by simp,by simp⟩,by simp,by simp⟩
   ·exact(bL (f 21%4>0) rfl h).trans rfl
  ·refine⟨[],by simp,(λw hw=>by cases hw),?_⟩
   exact(bD (f 21%4>0) rfl h).trans rfl
 obtain⟨_,e4,ws,v4,v8,v9,wn,wok,rfl⟩:=d7 (g:=ak 4) (gb:=xf) (λi ε=>∃(ws:List Wd) (s4 s8 s9:Sl),ws.length=w0.length+i/\(∀w∈ws,kP w)/\ε=eS f b0 b1 hour (.own (hL hs)) s4 (.own (iL cs)) u6 (.own (wL ws)) s8 s9 .un .un) (cK (f 21/4%14).toNat) 0 (λi d hd ε ⟨ws,s4,s8,s9,wn,wok,he⟩=>by
  obtain⟨rfl,hi⟩:=fD hd;subst he;obtain⟨w,e8,e9,wo,e⟩:=sk2 f b0 b1 hour i (by lia) ws (by lia) (.own (hL hs)) (.own (iL cs)) u6 s8 s9 .un .un
  exact⟨_,_,rfl,.inl e,ws++[w],_,_,_,by simp;lia,mem_snoc wok wo,rfl⟩) (eS f b0 b1 hour (.own (hL hs)) u4 (.own (iL cs)) u6 (.own (wL w0)) .un .un .un .un) ⟨w0,_,_,_,rfl,wk0,rfl⟩
 rw[rngD_len] at wn
 obtain⟨_,e5,ss,x4,x9,x11,sn,sok,rfl⟩:=d7 (g:=ak 4) (gb:=yK Fb) (λi ε=>∃(ss:List Sh) (s4 s9 s11:Sl),ss.length=i/\(∀q∈ss,ni q)/\ε=eS f b0 b1 hour (.own (hL hs)) s4 (.own (iL cs)) u6 (.own (wL ws)) v8 s9 (.own (shL ss)) s11) (cK (f 90%4).toNat) 0 (λi d hd ε ⟨ss,s4,s9,s11,sn,sok,he⟩=>by
  obtain⟨rfl,hi⟩:=fD hd;subst he;obtain⟨q,e9,e11,qo,e⟩:=sk3 f b0 b1 hour hB hh i (by lia) ss (by lia) (.own (hL hs)) (.own (iL cs)) u6 (.own (wL ws)) v8 s9 s11
  exact⟨_,_,rfl,.inl e,ss++[q],_,_,_,by simp[sn],mem_snoc sok qo,rfl⟩) (eS f b0 b1 hour (.own (hL hs)) v4 (.own (iL cs)) u6 (.own (wL ws)) v8 v9 (.own (shL [])) .un) ⟨[],_,_,_,rfl,(λq hq=>by cases hq),rfl⟩
 rw[rngD_len] at sn;refine⟨hs,cs,ws,ss,?_,⟨by lia,hok⟩,by lia,⟨by lia,wok⟩,by lia,sok⟩;unfold BD;refine(au rfl).trans ?_;refine(au ((bO (fM (j:=f 0%6) rfl (by lia) (by lia))).trans e1)).trans ?_;refine(au rfl).trans ?_;refine(au ((bO (fM (j:=f 0/6%5) rfl (by lia) (by lia))).trans e2)).trans ?_;refine(au rfl).trans ?_;refine(au e3).trans ?_;refine(au ((bO (fM (j:=f 21/4%14) rfl (by lia) (by lia))).trans e4)).trans ?_;refine(au rfl).trans ?_;refine(au ((bO (fM (j:=f 90%4) rfl (by lia) (by lia))).trans e5)).trans ?_;rfl
end
noncomputable def gE(h z:Int)(w:Wd):Prop:=w.z=z/\w.h<=h
noncomputable instance (h z:Int) (w:Wd):Decidable (gE h z w):=by unfold gE;infer_instance
noncomputable def jP(h z:Int)(acc:Option Wd)(w:Wd):Option Wd:=if gE h z w then(match acc with | none=>some w | some b=>if b.h<=w.h then some w else acc) else acc
noncomputable def g9(h z:Int):List Wd->Option Wd->Option Wd
 |[],acc=>acc
 |w::r,acc=>g9 h z r (jP h z acc w)
noncomputable def ke(h z:Int)(ws:List Wd):D:=match g9 h z ws none with | none=>.tup [.int 0,.int 0] | some b=>.tup [.int b.dx,.int b.dy]
noncomputable def lC:Option Wd->D
 |none=>.non
 |some b=>wD b
noncomputable def tD:Ev->Option Fl:=(aC (sIf (f9 (ay iw (e2 ixD (af 4) (eC (.int 1))) (af 2)) (ay gtI (e2 ixD (af 4) (eC (.int 0))) (af 1))) (λε=>some (.ct ε)) bj) (sIf (f9 (ay (isD false) (af 3) (eC .non)) (ay geI (e2 ixD (af 4) (eC (.int 0))) (e2 ixD (af 3) (eC (.int 0))))) (aU 3 (av 4)) bj))
noncomputable def gWA:Ev->Option Fl:=(aC (aU 3 (eC .non)) (aC (cL (ec (av 0)) (ak 4) tD) (aC (sIf (ay (isD false) (af 3) (eC .non)) (a8 (bh (ae (eC (.int 0)) (ae (eC (.int 0)) aD)))) bj) (a8 (bh (ae (e2 ixD (af 3) (eC (.int 2))) (ae (e2 ixD (af 3) (eC (.int 3))) aD)))))))
theorem xm(L:D)(h z:Int)(acc:Option Wd)(w:Wd):∃ε,(tD [.dat L,.dat (.int h),.dat (.int z),.dat (lC acc),.dat (wD w)]=some (.nx ε)\/tD [.dat L,.dat (.int h),.dat (.int z),.dat (lC acc),.dat (wD w)]=some (.ct ε))/\ε=[.dat L,.dat (.int h),.dat (.int z),.dat (lC (jP h z acc w)),.dat (wD w)]:=by
 have c:f9 (ay iw (e2 ixD (af 4) (eC (.int 1))) (af 2)) (ay gtI (e2 ixD (af 4) (eC (.int 0))) (af 1)) [.dat L,.dat (.int h),.dat (.int z),.dat (lC acc),.dat (wD w)]=some (!decide (w.z=z) || decide (w.h>h)):=qr rfl rfl;refine⟨_,?_,rfl⟩;unfold tD jP
 by_cases s:gE h z w
 ·rw[if_pos s]
  have c':=c.trans (show some (!decide (w.z=z) || decide (w.h>h))=some false by rw[decide_eq_true s.1,decide_eq_false (show ¬w.h>h by have:=s.2;lia)];rfl)
  left
  refine(au ((hW c').trans rfl)).trans ?_;cases acc with
  |none=>rfl
  |some b=>
   have c2:f9 (ay (isD false) (af 3) (eC .non)) (ay geI (e2 ixD (af 4) (eC (.int 0))) (e2 ixD (af 3) (eC (.int 0)))) [.dat L,.dat (.int h),.dat (.int z),.dat (lC (some b)),.dat (wD w)]=some (false || decide (w.h>=b.h)):=qr rfl rfl;show sIf _ _ _ [.dat L,.dat (.int h),.dat (.int z),.dat (lC (some b)),.dat (wD w)]=some (.nx [.dat L,.dat (.int h),.dat (.int z),.dat (lC (if b.h<=w.h then some w else some b)),.dat (wD w)])
   by_cases g:b.h<=w.h
   ·rw[if_pos g]
    exact(g_ (c2.trans (by rw[decide_eq_true (show w.h>=b.h from g)];rfl))).trans rfl
   ·rw[if_neg g]
    exact(hW (c2.trans (by rw[decide_eq_false (show ¬w.h>=b.h from g)];rfl))).trans rfl
 ·rw[if_neg s]
  right
  have c':=c.trans (show some (!decide (w.z=z) || decide (w.h>h))=some true by
   by_cases g:w.z=z
   ·rw[decide_eq_true g,decide_eq_true (show w.h>h by by_cases q:w.h>h;exact q;exact absurd ⟨g,by lia⟩ s)];rfl
   ·rw[decide_eq_false g];rfl)
  unfold aC;rw[g_ c'];rfl
theorem qV(L:D)(h z:Int):∀(ws:List Wd) (acc:Option Wd) (s4:Sl),∃e4,dI (ak 4) tD (wL ws) [.dat L,.dat (.int h),.dat (.int z),.dat (lC acc),s4]=some (.nx [.dat L,.dat (.int h),.dat (.int z),.dat (lC (g9 h z ws acc)),e4])
 |[],acc,s4=>⟨s4,rfl⟩
 |w::ws,acc,s4=>by
  obtain⟨ε,e,rfl⟩:=xm L h z acc w;obtain⟨e4,e'⟩:=qV L h z ws (jP h z acc w) (.dat (wD w));refine⟨e4,?_⟩;show(tD [.dat L,.dat (.int h),.dat (.int z),.dat (lC acc),.dat (wD w)]).bind _=_;rcases e with e | e<;>(rw[e];exact e')
theorem Ak(ws:List Wd)(h z:Int):gWA [.dat (.lst (wL ws)),.dat (.int h),.dat (.int z),.un,.un]=some (.rt (ke h z ws)):=by
 obtain⟨e4,e⟩:=qV (.lst (wL ws)) h z ws none .un;unfold gWA;refine(au rfl).trans ?_;refine(au ((bO (ds:=wL ws) rfl).trans e)).trans ?_;unfold ke;cases g9 h z ws none with
 |none=>rfl
 |some b=>rfl
theorem mj(h z:Int):∀(ws:List Wd) (acc:Option Wd),(g9 h z ws acc=acc/\∀(k:Nat) (w:Wd),ws[k]?=some w->gE h z w->∃b0,acc=some b0/\w.h<b0.h)\/
  ∃(i:Nat) (b:Wd),ws[i]?=some b/\g9 h z ws acc=some b/\gE h z b/\(∀(k:Nat) (w:Wd),ws[k]?=some w->gE h z w->w.h<b.h\/(w.h=b.h/\k<=i))/\∀b0,acc=some b0->b0.h<=b.h
 |[],acc=>.inl ⟨rfl,λk w e=>by simp at e⟩
 |w::r,acc=>by
  have hn:jP h z acc w=some w/\gE h z w/\(∀b0,acc=some b0->b0.h<=w.h)\/jP h z acc w=acc/\(gE h z w->∃b0,acc=some b0/\w.h<b0.h):=by
   unfold jP
   by_cases s:gE h z w
   ·rw[if_pos s]
    cases acc with
    |none=>exact .inl ⟨rfl,s,λb0 e=>by cases e⟩
    |some b=>
     by_cases g:b.h<=w.h
     ·exact .inl ⟨by show(if b.h<=w.h then some w else some b)=_;rw[if_pos g],s,λb0 e=>by cases e;exact g⟩
     ·exact .inr ⟨by show(if b.h<=w.h then some w else some b)=_;rw[if_neg g],λ_=>⟨b,rfl,by lia⟩⟩
   ·rw[if_neg s]
    exact .inr ⟨rfl,λz=>absurd z s⟩
  rcases mj h z r (jP h z acc w) with⟨e,all⟩ | ⟨i,b,ei,e,sb,all,le⟩
  ·rcases hn with⟨n1,n2,n3⟩ | ⟨n1,n2⟩
   ·refine .inr ⟨0,w,rfl,by show g9 h z r _=_;rw[e,n1],n2,λk v ek sv=>?_,n3⟩
    cases k with
    |zero=>simp at ek;subst ek;exact .inr ⟨rfl,Nat.le_refl _⟩
    |succ k=>
     obtain⟨b0,e0,l0⟩:=all k v (by simpa using ek) sv;rw[n1] at e0;cases e0;exact .inl l0
   ·refine .inl ⟨by show g9 h z r _=_;rw[e,n1],λk v ek sv=>?_⟩
    cases k with
    |zero=>simp at ek;subst ek;exact n2 sv
    |succ k=>
     obtain⟨b0,e0,l0⟩:=all k v (by simpa using ek) sv;rw[n1] at e0;exact⟨b0,e0,l0⟩
  ·refine .inr ⟨i+1,b,by simpa using ei,e,sb,λk v ek sv=>?_,λb0 e0=>?_⟩
   ·cases k with
    |zero=>
     simp at ek;subst ek;rcases hn with⟨n1,n2,n3⟩ | ⟨n1,n2⟩
     ·have:=le w n1
      rcases Int.lt_or_eq_of_le this with l | l
      ·exact .inl l
      ·exact .inr ⟨l,Nat.zero_le _⟩
     ·obtain⟨b0,e0,l0⟩:=n2 sv
      have:=le b0 (n1.trans e0);exact .inl (by lia)
    |succ k=>
     rcases all k v (by simpa using ek) sv with l | ⟨l1,l2⟩
     ·exact .inl l
     ·exact .inr ⟨l1,by lia⟩
   ·rcases hn with⟨n1,n2,n3⟩ | ⟨n1,n2⟩
    ·have:=n3 b0 e0;have:=le w n1;lia
    ·exact le b0 (n1.trans e0)
noncomputable abbrev lwT:Ev->Option Bool:=bI (ay aZ (e2 ixD (e2 ixD (af 1) (af 0)) (eC (.int 1))) (af 2)) (ay leI (e2 ixD (e2 ixD (af 1) (af 0)) (eC (.int 0))) (af 3))
noncomputable abbrev lwE:Ev->Option D:=bh (ae (e2 ixD (e2 ixD (af 1) (af 0)) (eC (.int 0))) (ae (av 0) aD))
noncomputable def gLW:Ev->Option Fl:=(aC (aU 3 (eF (eLC (c_ (fA eX (af 0))) 1 [0,2,1] (ak 0) lwT lwE))) (aC (sIf (ay aZ (fA eX (af 3)) (eC (.int 0))) (a8 (bh (ae (eC (.int 0)) (ae (eC (.int 0)) aD)))) bj) (a8 (ko (e2 ixD (af 0) (e2 ixD (aI lT (ae (av 3) aD)) (eC (.int 1)))) (bx (eC (.int 2))) cR))))
noncomputable def prD(p:Int×Int):D:=.tup [.int p.1,.int p.2]
noncomputable abbrev prL(ps:List (Int×Int)):List D:=ps.map prD
noncomputable def gz(h z:Int)(ws:List Wd):List Nat->List (Int×Int)
 |[]=>[]
 |k::ks=>match ws[k]? with
  |some w=>if gE h z w then(w.h,(k:Int))::gz h z ws ks else gz h z ws ks
  |none=>gz h z ws ks
theorem pI(h z:Int)(ws:List Wd):∀(ks:List Nat) (p:Int×Int),p∈gz h z ws ks↔∃(k:Nat) (w:Wd),k∈ks/\ws[k]?=some w/\gE h z w/\p=(w.h,(k:Int))
 |[],p=>⟨λe=>(by cases e),λ⟨k,w,e,_⟩=>(by cases e)⟩
 |k::ks,p=>by
  have ih:=pI h z ws ks p;unfold gz;cases ew:ws[k]? with
  |none=>
   show p∈gz h z ws ks↔_;rw[ih];constructor
   ·rintro⟨j,w,m,r⟩;exact⟨j,w,List.mem_cons_of_mem _ m,r⟩
   ·rintro⟨j,w,m,e,r⟩
    rcases List.mem_cons.mp m with rfl | m
    ·rw[ew] at e;cases e
    ·exact⟨j,w,m,e,r⟩
  |some w=>
   show p∈(if gE h z w then(w.h,(k:Int))::gz h z ws ks else gz h z ws ks)↔_
   by_cases s:gE h z w
   ·rw[if_pos s,List.mem_cons,ih]
    constructor
    ·rintro(rfl | ⟨j,w',m,r⟩)
     ·exact⟨k,w,List.mem_cons_self,ew,s,rfl⟩
     ·exact⟨j,w',List.mem_cons_of_mem _ m,r⟩
    ·rintro⟨j,w',m,e,s',rfl⟩
     rcases List.mem_cons.mp m with rfl | m
     ·rw[ew] at e;cases e;exact .inl rfl
     ·exact .inr ⟨j,w',m,e,s',rfl⟩
   ·rw[if_neg s,ih]
    constructor
    ·rintro⟨j,w',m,r⟩;exact⟨j,w',List.mem_cons_of_mem _ m,r⟩
    ·rintro⟨j,w',m,e,s',r⟩
     rcases List.mem_cons.mp m with rfl | m
     ·rw[ew] at e;cases e;exact absurd s' s
     ·exact⟨j,w',m,e,s',r⟩
theorem zf{ws:List Wd}{k:Nat}{w:Wd}(e:ws[k]?=some w):ixD (.lst (wL ws)) (.int (k:Int))=some (wD w):=nk (by unfold wL;rw[List.getElem?_map,e];rfl)
theorem zi(h z:Int)(ws:List Wd):∀(ks:List Nat) (_:∀k∈ks,k<ws.length) (s0:Sl),lcD (ak 0) lwT lwE (ks.map λ(i:Nat)=>D.int (i:Int)) [s0,.dat (.lst (wL ws)),.dat (.int z),.dat (.int h)]=some (prL (gz h z ws ks))
 |[],_,_=>rfl
 |k::ks,hk,s0=>by
  have kl:=hk k List.mem_cons_self;have ew:ws[k]?=some ws[k]:=by simp[kl]
  have ih:=zi h z ws ks (λj hj=>hk j (List.mem_cons_of_mem _ hj)) (.dat (.int (k:Int)));have i0:e2 ixD (af 1) (af 0) [.dat (.int (k:Int)),.dat (.lst (wL ws)),.dat (.int z),.dat (.int h)]=some (wD ws[k]):=zf ew;have c:lwT [.dat (.int (k:Int)),.dat (.lst (wL ws)),.dat (.int z),.dat (.int h)]=some (decide (ws[k].z=z)&&decide (ws[k].h<=h)):=cB (cV (ba i0 rfl rfl) rfl rfl) (cV (ba i0 rfl rfl) rfl rfl);have ce:lwE [.dat (.int (k:Int)),.dat (.lst (wL ws)),.dat (.int z),.dat (.int h)]=some (prD (ws[k].h,(k:Int))):=gO (a_ (ba i0 rfl rfl) rfl) (show 2<=1000 by decide);show(lwT [.dat (.int (k:Int)),.dat (.lst (wL ws)),.dat (.int z),.dat (.int h)]).bind (λb=>if b=true then(lwE [.dat (.int (k:Int)),.dat (.lst (wL ws)),.dat (.int z),.dat (.int h)]).bind λv=>(lcD (ak 0) lwT lwE (ks.map λ(i:Nat)=>D.int (i:Int)) [.dat (.int (k:Int)),.dat (.lst (wL ws)),.dat (.int z),.dat (.int h)]).bind λr=>some (v::r) else lcD (ak 0) lwT lwE (ks.map λ(i:Nat)=>D.int (i:Int)) [.dat (.int (k:Int)),.dat (.lst (wL ws)),.dat (.int z),.dat (.int h)])=_
  have es:gz h z ws (k::ks)=if gE h z ws[k] then(ws[k].h,(k:Int))::gz h z ws ks else gz h z ws ks:=by
   show(match ws[k]? with | some w=>_ | none=>_)=_;rw[ew]
  rw[c,ce,ih,es];show(if(decide (ws[k].z=z)&&decide (ws[k].h<=h))=true then some (prD (ws[k].h,(k:Int))::prL (gz h z ws ks)) else some (prL (gz h z ws ks)))=some (prL (if gE h z ws[k] then(ws[k].h,(k:Int))::gz h z ws ks else gz h z ws ks))
  by_cases s:gE h z ws[k]
  ·rw[if_pos s,decide_eq_true s.1,decide_eq_true s.2];rfl
  ·rw[if_neg s]
   by_cases g:ws[k].z=z
   ·rw[decide_eq_true g,decide_eq_false (λq=>s ⟨g,q⟩)];rfl
   ·rw[decide_eq_false g];rfl
theorem kh:∀ps:List (Int×Int),eE (prL ps)=some ps
 |[]=>rfl
 |p::ps=>by show(eE (prL ps)).bind _=_;rw[kh ps];rfl
theorem xK(ps:List (Int×Int))(h:∀p∈ps,0<=p.2/\p.2<100):btP ps=λi j=>decide ((ps.getD i (0,0)).1*100+(ps.getD i (0,0)).2>(ps.getD j (0,0)).1*100+(ps.getD j (0,0)).2):=by
 have hb:∀i,0<=(ps.getD i (0,0)).2/\(ps.getD i (0,0)).2<100:=λi=>by
  rw[show ps.getD i (0,0)=(ps[i]?).getD (0,0) from List.getD_eq_getElem?_getD];cases e:ps[i]? with
  |none=>exact⟨by decide,by decide⟩
  |some p=>exact h p (List.mem_of_getElem? e)
 funext i j
 unfold btP;have h1:=hb i;have h2:=hb j;generalize ps.getD i (0,0)=p at h1 ⊢;generalize ps.getD j (0,0)=q at h2 ⊢;show(if p.1=q.1 then(if p.2=q.2 then false else decide (q.2<p.2)) else decide (q.1<p.1))=_
 by_cases g:p.1=q.1
 ·rw[if_pos g]
  by_cases g2:p.2=q.2
  ·rw[if_pos g2];exact(decide_eq_false (by lia)).symm
  ·rw[if_neg g2]
   by_cases g3:q.2<p.2
   ·rw[decide_eq_true g3,decide_eq_true (by lia)]
   ·rw[decide_eq_false g3,decide_eq_false (by lia)]
 ·rw[if_neg g]
  by_cases g3:q.1<p.1
  ·rw[decide_eq_true g3,decide_eq_true (by lia)]
  ·rw[decide_eq_false g3,decide_eq_false (by lia)]
theorem sQ(ps:List (Int×Int))(h:∀p∈ps,0<=p.2/\p.2<100)(pos:0<ps.length):∃p∈ps,lT [.lst (prL ps)]=some (prD p)/\∀q∈ps,q.1*100+q.2<=p.1*100+p.2:=by
 obtain⟨b1,b2⟩:=argBest_gt (λi=>(ps.getD i (0,0)).1*100+(ps.getD i (0,0)).2) (ps.length-1);rw[<-xK ps h] at b1 b2;have hb:argBest (btP ps) (ps.length-1)<ps.length:=by lia
 have eb:ps.getD (argBest (btP ps) (ps.length-1)) (0,0)=ps[argBest (btP ps) (ps.length-1)]:=by simp[List.getD_eq_getElem?_getD,hb]
 refine⟨ps[argBest (btP ps) (ps.length-1)],List.getElem_mem hb,?_,λq hq=>?_⟩
 ·show(eE (prL ps)).bind _=_
  rw[kh];show(if 0<ps.length then(prL ps)[argBest (btP ps) (ps.length-1)]? else none)=_;rw[if_pos pos];unfold prL;rw[List.getElem?_map,List.getElem?_eq_getElem hb];rfl
 ·obtain⟨j,hj⟩:=List.getElem?_of_mem hq
  have jl:j<ps.length:=(List.getElem?_eq_some_iff.mp hj).1;have:=b2 j (by lia);rw[eb] at this;have ej:ps.getD j (0,0)=q:=by simp[List.getD_eq_getElem?_getD,hj]
  rw[ej] at this;exact this
theorem Ad(ws:List Wd)(hz:ws.length<100)(h z:Int):gLW [.dat (.lst (wL ws)),.dat (.int h),.dat (.int z),.un]=some (.rt (ke h z ws)):=by
 let ps:=gz h z ws (List.range ws.length)
 have c3:eF (eLC (c_ (fA eX (af 0))) 1 [0,2,1] (ak 0) lwT lwE) [.dat (.lst (wL ws)),.dat (.int h),.dat (.int z),.un]=some (.lst (prL ps)):=by
  refine c7 ?_
  rw[jf (ds:=cK ws.length) (by
   have:=fM (f:=fA eX (af 0)) (ε:=[.dat (.lst (wL ws)),.dat (.int h),.dat (.int z),.un]) (j:=((wL ws).length:Int)) rfl (by lia) (by simp;lia)
   rw[this];simp) (by simp;lia)]
  exact zi h z ws (List.range ws.length) (λk hk=>List.mem_range.mp hk) _
 have pm:=pI h z ws (List.range ws.length);unfold gLW;refine(au (bo c3)).trans ?_;have cl:ay aZ (fA eX (af 3)) (eC (.int 0)) [.dat (.lst (wL ws)),.dat (.int h),.dat (.int z),.dat (.lst (prL ps))]=some (decide (((prL ps).length:Int)=0)):=rfl;rcases mj h z ws none with⟨e,all⟩ | ⟨i,b,ei,e,sb,all,_⟩
 ·have en:ps=[]:=by
   refine List.eq_nil_iff_forall_not_mem.mpr λp hp=>?_;obtain⟨k,w,_,ew,sw,_⟩:=(pm p).mp hp;obtain⟨b0,e0,_⟩:=all k w ew sw;cases e0
  refine bN ((bL _ cl (by rw[en];rfl)).trans ?_);unfold ke;rw[e];rfl
 ·have il:i<ws.length:=(List.getElem?_eq_some_iff.mp ei).1
  have hi:(b.h,(i:Int))∈ps:=(pm _).mpr ⟨i,b,List.mem_range.mpr il,ei,sb,rfl⟩;have pos:0<ps.length:=List.length_pos_of_mem hi
  obtain⟨p,hp,em,hmax⟩:=sQ ps (λp hp=>by
   obtain⟨k,w,hk,_,_,rfl⟩:=(pm p).mp hp;have:=List.mem_range.mp hk
   exact⟨by show(0:Int)<=k;lia,by show(k:Int)<100;lia⟩) pos
  obtain⟨k,w,hk,ew,sw,rfl⟩:=(pm p).mp hp;have kl:=List.mem_range.mp hk;have m1:=hmax _ hi;have m2:=all k w ew sw
  have ki:k=i:=by
   have m1':b.h*100+(i:Int)<=w.h*100+(k:Int):=m1;rcases m2 with l | ⟨l1,l2⟩<;>lia
  subst ki;rw[ei] at ew;cases ew;refine(au ((bD _ cl (λz=>by rw[List.length_map] at z;lia)).trans rfl)).trans ?_;refine cC ?_;have ix:e2 ixD (af 0) (e2 ixD (aI lT (ae (av 3) aD)) (eC (.int 1))) [.dat (.lst (wL ws)),.dat (.int h),.dat (.int z),.dat (.lst (prL ps))]=some (wD b):=ba (y:=.int (k:Int)) rfl (ba (aX rfl em) rfl rfl) (zf ei);show ko _ _ _ [.dat (.lst (wL ws)),.dat (.int h),.dat (.int z),.dat (.lst (prL ps))]=_;unfold ko ke;rw[ix,e];rfl
theorem sf{α:Type}{g:D->Ev->Option Ev}{ft:Ev->Option Bool}{fe:Ev->Option D}(P:Ev->Prop)(enc:α->D)(p:α->Bool)(h:α->D):∀(xs:List α),(∀x∈xs,∀ε,P ε->∃ε1,g (enc x) ε=some ε1/\P ε1/\ft ε1=some (p x)/\(p x=true->fe ε1=some (h x)))->
  ∀ε,P ε->lcD g ft fe (xs.map enc) ε=some ((xs.filter p).map h)
 |[],_,ε,_=>rfl
 |x::xs,st,ε,hp=>by
  obtain⟨ε1,e1,p1,e2,e3⟩:=st x (List.mem_cons_self ..) ε hp;have ih:=sf P enc p h xs (λy hy=>st y (List.mem_cons_of_mem _ hy)) ε1 p1;show(g (enc x) ε).bind _=_;rw[e1];show(ft ε1).bind _=_;rw[e2];show(if p x=true then _ else _)=_;cases hx:p x with
  |true=>
   rw[if_pos rfl,e3 hx];show(lcD g ft fe (xs.map enc) ε1).bind _=_;rw[ih,List.filter_cons_of_pos (by simpa using hx)];rfl
  |false=>
   rw[if_neg Bool.false_ne_true,ih,List.filter_cons_of_neg (by simp[hx])]
theorem wZ{α:Type}{g:D->Ev->Option Ev}{fe:Ev->Option D}(P:Ev->Prop)(enc:α->D)(h:α->D)(xs:List α)(st:∀x∈xs,∀ε,P ε->∃ε1,g (enc x) ε=some ε1/\P ε1/\fe ε1=some (h x))(ε:Ev)(hp:P ε) :
  lcD g i9 fe (xs.map enc) ε=some (xs.map h):=by
 rw[sf (ft:=i9) P enc (λ_=>true) h xs (λx hx ε hp=>let⟨ε1,a,b,c⟩:=st x hx ε hp;⟨ε1,a,b,rfl,λ_=>c⟩) ε hp,List.filter_eq_self.mpr λ_ _=>rfl]
theorem mf{α:Type}{g:D->Ev->Option Ev}{gb:Ev->Option Fl}(enc:α->D)(P:List α->Ev->Prop)(xs:List α):∀(rest done:List α),done++rest=xs->
  (∀done x rest,done++x::rest=xs->∀ε,P done ε->∃ε1 ε2,g (enc x) ε=some ε1/\(gb ε1=some (.nx ε2)\/gb ε1=some (.ct ε2))/\P (done++[x]) ε2)->∀ε,P done ε->∃ε',dI g gb (rest.map enc) ε=some (.nx ε')/\P xs ε'
 |[],done,hx,_,ε,hp=>⟨ε,rfl,by rw[<-hx,List.append_nil];exact hp⟩
 |x::rest,done,hx,st,ε,hp=>by
  obtain⟨ε1,ε2,e1,e2,p2⟩:=st done x rest hx ε hp;obtain⟨ε3,e3,p3⟩:=mf enc P xs rest (done++[x]) (by rw[List.append_assoc];exact hx) st ε2 p2;refine⟨ε3,?_,p3⟩;show(g (enc x) ε).bind _=_;rw[e1];show(gb ε1).bind _=_;rcases e2 with e2 | e2<;>(rw[e2];exact e3)
theorem gG{α:Type}{g:D->Ev->Option Ev}{gb:Ev->Option Fl}(enc:α->D)(P:List α->Ev->Prop)(xs:List α)
  (st:∀done x rest,done++x::rest=xs->∀ε,P done ε->∃ε1 ε2,g (enc x) ε=some ε1/\(gb ε1=some (.nx ε2)\/gb ε1=some (.ct ε2))/\P (done++[x]) ε2) (ε:Ev) (h:P [] ε):∃ε',dI g gb (xs.map enc) ε=some (.nx ε')/\P xs ε':=
 mf enc P xs xs [] rfl st ε h
theorem fO{α:Type}(l:List α):l=[]\/∃r a,l=r++[a]:=by
 cases h:l.reverse with
 |nil=>exact .inl (by simpa using h)
 |cons a r=>exact .inr ⟨r.reverse,a,by rw[<-List.reverse_reverse l,h,List.reverse_cons]⟩
theorem Bm{F:List D->Option D}{fa fb:Ev->Option D}{ε:Ev}{x y d:D}(h1:fa ε=some x)(h2:fb ε=some y)(h:F [x,y]=some d)(sc:q_ d=true):kX F (ae fa (ae fb aD)) ε=some d:=by
 unfold kX ae;rw[h1,h2];show(F [x,y]).bind _=_;rw[h];show(if q_ d=true then some d else none)=_;rw[if_pos sc]
theorem vq{F:List D->Option (List D)}{g:Ev->Option (List D)}{ε:Ev}{ds rs:List D}(h1:g ε=some ds)(h2:F ds=some rs):jo F g ε=some rs:=by unfold jo;rw[h1];exact h2
theorem xX{i:Nat}{f:Ev->Option (List D)}{ε:Ev}{ds:List D}(h:f ε=some ds):eY i f ε=some (.nx (ε.set i (.own ds))):=by unfold eY;rw[h];rfl
theorem xW{f:Ev->Option D}{ε:Ev}{b:Bool}(h:f ε=some (.bl b)):g8 f ε=some b:=by unfold g8;rw[h];rfl
theorem yJ{f:Ev->Option D}{ε:Ev}{ds:List D}(h:f ε=some (.lst ds)):ec f ε=some ds:=by unfold ec;rw[h]
theorem A_{fi:Ev->Option (List D)}{n:Nat}{ix:List Nat}{g:D->Ev->Option Ev}{ft:Ev->Option Bool}{fe:Ev->Option D}{ε:Ev}{ds rs:List D}(h:fi ε=some ds)(hl:ds.length<1000000)(h2:lcD g ft fe ds (prE n ix ε)=some rs):eLC fi n ix g ft fe ε=some rs:=(jf h hl).trans h2
structure Sk where
 (hs:List Hl)
 (cs:List Int)
 (ws:List Wd)
 (ss:List Sh)
noncomputable def skD(k:Sk):D:=.tup [.lst (hL k.hs),.lst (iL k.cs),.lst (wL k.ws),.lst (shL k.ss)]
structure SkOk(k:Sk):Prop where
 hl:k.hs.length<=5
 hk:∀h∈k.hs,lu h
 cl:k.cs.length<=4
 wl:k.ws.length<=19
 wk:∀w∈k.ws,kP w
 sl:k.ss.length<=3
 sk:∀q∈k.ss,ni q
noncomputable def zm(FB FS FT:List D->Option D):Ev->Option Fl:=(aC (aU 1 (aI FB (ae (eF (eSl (af 0) cR (bx (eC (.int 3))))) aD))) (aC (aU 2 (e2 aF (e2 ixD (af 0) (eC (.int 3))) (eC (.int 5)))) (aC (aU 3 (bh (ae (eC (.int 6)) (ae (eC (.int 6)) aD)))) (aC (sIf (ay aZ (e2 aF (e2 ixD (af 0) (eC (.int 4))) (eC (.int 6))) (eC (.int 1))) (aU 2 (eC (.int 5))) bj) (aC (sIf (ay aZ (e2 aF (e2 ixD (af 0) (eC (.int 4))) (eC (.int 6))) (eC (.int 2))) (aC (aU 2 (e2 bA (eC (.int 8)) (e2 aF (e2 ixD (af 0) (eC (.int 5))) (eC (.int 3))))) (aU 3 (e2 ixD (eF (cI (ae (bh (ae (eC (.int 1)) (ae (eC (.int 1)) aD))) (ae (bh (ae (eC (.int 3)) (ae (eC (.int 0)) aD))) (ae (bh (ae (eC (.int 0)) (ae (eC (.int 3)) aD))) (ae (bh (ae (eC (.int 2)) (ae (eC (.int 0)) aD))) aD)))))) (e2 aF (e2 ixD (af 0) (eC (.int 9))) (eC (.int 4)))))) bj) (aC (aU 4 (e2 aF (e2 ixD (af 0) (eC (.int 6))) (e2 bA (eC (.int 25)) (af 2)))) (aC (sIf (ay aZ (e2 aF (e2 ixD (af 0) (eC (.int 7))) (eC (.int 5))) (eC (.int 1))) (aU 4 (e2 bA (eC (.int 24)) (af 2))) bj) (aC (aU 5 (aI FS (ae (eF (eSl (af 0) (bx (eC (.int 10))) (bx (eC (.int 130))))) (ae (av 1) (ae (av 4) aD))))) (aC (aU 6 (aI FT (ae (eF (eSl (af 0) (bx (eC (.int 130))) (bx (eC (.int 136))))) (ae (av 1) (ae (eC (.int 6)) aD))))) (aC (aU 6 (e2 CatI.qH (ko (af 6) cR (bx (eC (.int 3)))) (bh (ae (e2 aF (e2 ixD (af 0) (eC (.int 133))) (e2 aM (e2 ixD (af 3) (eC (.int 0))) (eC (.int 1)))) (ae (e2 aF (e2 ixD (af 0) (eC (.int 134))) (e2 aM (e2 ixD (af 3) (eC (.int 1))) (eC (.int 1)))) aD))))) (a8 (bh (ae (av 1) (ae (av 4) (ae (av 2) (ae (av 5) (ae (av 6) aD)))))))))))))))))
theorem CQ(f:Nat->Int)(n:Nat)(h:3<=n):gY (iL (b6 f n)) none (some (3:Int))=iL [f 0,f 1,f 2]:=by
 rw[show(some (3:Int))=some ((3:Nat):Int) from rfl,mY];apply List.ext_getElem?;intro i
 match i with
 |0=>simp[iL,b6,show 0<n by lia]
 |1=>simp[iL,b6,show 1<n by lia]
 |2=>simp[iL,b6,show 2<n by lia]
 |i+3=>simp[iL,b6];lia
theorem t9{FB FS FT:List D->Option D}(hB:∀a0 a1 a2,∃b0 b1,FB [.lst (iL [a0,a1,a2])]=some (.tup [.int b0,.int b1]))
  (hS:∀(f:Nat->Int) (b0 b1 hour:Int),0<=hour/\hour<=24->∃k:Sk,FS [.lst (iL (b6 f 120)),.tup [.int b0,.int b1],.int hour]=some (skD k)/\SkOk k)
  (hT:∀(g:Nat->Int) (b0 b1:Int),∃q:Stt,FT [.lst (iL (b6 g 6)),.tup [.int b0,.int b1],.int 6]=some (stD q)/\0<=q.z/\q.z<=5) (f:Nat->Int) (n:Nat) (hn:136<=n) :
  ∃(b0 b1 hour many:Int) (k:Sk) (q:Stt),zm FB FS FT [.dat (.lst (iL (b6 f n))),.un,.un,.un,.un,.un,.un]=some (.rt (.tup [.tup [.int b0,.int b1],.int hour,.int many,skD k,stD q]))/\(0<=many/\many<=8)/\(0<=hour/\hour+many<=24)/\SkOk k/\(0<=q.z/\q.z<=5)/\(0<=q.s/\q.s<=6)/\(0<=q.p/\q.p<=6):=by
 obtain⟨b0,b1,eb⟩:=hB (f 0) (f 1) (f 2);let N:Sl:=.dat (.lst (iL (b6 f n)));let B:Sl:=.dat (.tup [.int b0,.int b1]);have at_:∀(j:Nat) (rest:List Sl),j<136->e2 ixD (af 0) (eC (.int (j:Int))) (N::rest)=some (.int (f j)):=λj rest hj=>ba rfl rfl (nq f n j (by lia))
 have two:∃many l0 l1:Int,(0<=many/\many<=8)/\(0<=l0/\l0<=6)/\(0<=l1/\l1<=6)/\∀g':Ev->Option Fl,aC (sIf (ay aZ (e2 aF (e2 ixD (af 0) (eC (.int 4))) (eC (.int 6))) (eC (.int 1))) (aU 2 (eC (.int 5))) bj) (aC (sIf (ay aZ (e2 aF (e2 ixD (af 0) (eC (.int 4))) (eC (.int 6))) (eC (.int 2))) (aC (aU 2 (e2 bA (eC (.int 8)) (e2 aF (e2 ixD (af 0) (eC (.int 5))) (eC (.int 3))))) (aU 3 (e2 ixD (eF (cI (ae (bh (ae (eC (.int 1)) (ae (eC (.int 1)) aD))) (ae (bh (ae (eC (.int 3)) (ae (eC (.int 0)) aD))) (ae (bh (ae (eC (.int 0)) (ae (eC (.int 3)) aD))) (ae (bh (ae (eC (.int 2)) (ae (eC (.int 0)) aD))) aD)))))) (e2 aF (e2 ixD (af 0) (eC (.int 9))) (eC (.int 4)))))) bj) g') [N,B,.dat (.int (f 3%5)),.dat (.tup [.int 6,.int 6]),.un,.un,.un]=g' [N,B,.dat (.int many),.dat (.tup [.int l0,.int l1]),.un,.un,.un]:=by
  have c:∀(v:Int) (m l:Sl),ay aZ (e2 aF (e2 ixD (af 0) (eC (.int 4))) (eC (.int 6))) (eC (.int v)) [N,B,m,l,.un,.un,.un]=some (decide (f 4%6=v)):=λv m l=>cV (x:=.int (f 4%6)) (y:=.int v) (ba (x:=.int (f 4)) (y:=.int 6) (at_ 4 _ (by decide)) rfl rfl) rfl rfl
  by_cases h1:f 4%6=1
  ·refine⟨5,6,6,by decide,by decide,by decide,λg'=>?_⟩
   refine(au ((bL (f 4%6=1) (c 1 _ _) h1).trans rfl)).trans ?_;exact(au ((bD (f 4%6=2) (c 2 _ _) (by lia)).trans rfl)).trans rfl
  ·by_cases h2:f 4%6=2
   ·have pick:∃l0 l1:Int,(0<=l0/\l0<=6)/\(0<=l1/\l1<=6)/\ixD (.lst [.tup [.int 1,.int 1],.tup [.int 3,.int 0],.tup [.int 0,.int 3],.tup [.int 2,.int 0]]) (.int (f 9%4))=some (.tup [.int l0,.int l1]):=by
     have h4:f 9%4=0\/f 9%4=1\/f 9%4=2\/f 9%4=3:=by lia
     rcases h4 with h | h | h | h<;>rw[h]
     ·exact⟨1,1,by decide,by decide,rfl⟩
     ·exact⟨3,0,by decide,by decide,rfl⟩
     ·exact⟨0,3,by decide,by decide,rfl⟩
     ·exact⟨2,0,by decide,by decide,rfl⟩
    obtain⟨l0,l1,hl0,hl1,ep⟩:=pick;refine⟨8-f 5%3,l0,l1,by lia,hl0,hl1,λg'=>?_⟩;refine(au ((bD (f 4%6=1) (c 1 _ _) h1).trans rfl)).trans ?_;refine(au (ε':=[N,B,.dat (.int (8-f 5%3)),.dat (.tup [.int l0,.int l1]),.un,.un,.un]) ((bL (f 4%6=2) (c 2 _ _) h2).trans ?_)).trans ?_
    ·refine(au (bo (d:=.int (8-f 5%3)) (ba (x:=.int 8) (y:=.int (f 5%3)) rfl (ba (x:=.int (f 5)) (y:=.int 3) (at_ 5 _ (by decide)) rfl rfl) rfl))).trans ?_
     exact bo (d:=.tup [.int l0,.int l1]) (ba (x:=.lst [.tup [.int 1,.int 1],.tup [.int 3,.int 0],.tup [.int 0,.int 3],.tup [.int 2,.int 0]]) (y:=.int (f 9%4)) rfl (ba (x:=.int (f 9)) (y:=.int 4) (at_ 9 _ (by decide)) rfl rfl) ep)
    ·rfl
   ·refine⟨f 3%5,6,6,by lia,by decide,by decide,λg'=>?_⟩
    refine(au ((bD (f 4%6=1) (c 1 _ _) h1).trans rfl)).trans ?_;exact(au ((bD (f 4%6=2) (c 2 _ _) h2).trans rfl)).trans rfl
 obtain⟨many,l0,l1,hm,hl0,hl1,e45⟩:=two
 have hour_:∃hour:Int,(0<=hour/\hour+many<=24)/\∀g':Ev->Option Fl,aC (aU 4 (e2 aF (e2 ixD (af 0) (eC (.int 6))) (e2 bA (eC (.int 25)) (af 2)))) (aC (sIf (ay aZ (e2 aF (e2 ixD (af 0) (eC (.int 7))) (eC (.int 5))) (eC (.int 1))) (aU 4 (e2 bA (eC (.int 24)) (af 2))) bj) g') [N,B,.dat (.int many),.dat (.tup [.int l0,.int l1]),.un,.un,.un]=g' [N,B,.dat (.int many),.dat (.tup [.int l0,.int l1]),.dat (.int hour),.un,.un]:=by
  have s4:aU 4 (e2 aF (e2 ixD (af 0) (eC (.int 6))) (e2 bA (eC (.int 25)) (af 2))) [N,B,.dat (.int many),.dat (.tup [.int l0,.int l1]),.un,.un,.un]=some (.nx [N,B,.dat (.int many),.dat (.tup [.int l0,.int l1]),.dat (.int (f 6%(25-many))),.un,.un]):=
   bo (d:=.int (f 6%(25-many))) (ba (x:=.int (f 6)) (y:=.int (25-many)) (at_ 6 _ (by decide)) rfl (vQ (by lia)))
  have c:ay aZ (e2 aF (e2 ixD (af 0) (eC (.int 7))) (eC (.int 5))) (eC (.int 1)) [N,B,.dat (.int many),.dat (.tup [.int l0,.int l1]),.dat (.int (f 6%(25-many))),.un,.un]=some (decide (f 7%5=1)):=cV (x:=.int (f 7%5)) (y:=.int 1) (ba (x:=.int (f 7)) (y:=.int 5) (at_ 7 _ (by decide)) rfl rfl) rfl rfl
  by_cases h:f 7%5=1
  ·exact⟨24-many,by lia,λg'=>(au s4).trans ((au ((bL (f 7%5=1) c h).trans rfl)).trans rfl)⟩
  ·have:=Int.emod_nonneg (f 6) (show 25-many≠0 by lia)
   have:=Int.emod_lt_of_pos (f 6) (show 0<25-many by lia);exact⟨f 6%(25-many),by lia,λg'=>(au s4).trans ((au ((bD (f 7%5=1) c h).trans rfl)).trans rfl)⟩
 obtain⟨hour,hh,e67⟩:=hour_;obtain⟨k,ek,hk⟩:=hS (λj=>f (10+j)) b0 b1 hour (by lia);obtain⟨q,eq,hz⟩:=hT (λj=>f (130+j)) b0 b1;have m0:=Int.emod_nonneg (f 133) (show l0+1≠0 by lia);have m1:=Int.emod_lt_of_pos (f 133) (show 0<l0+1 by lia);have m2:=Int.emod_nonneg (f 134) (show l1+1≠0 by lia);have m3:=Int.emod_lt_of_pos (f 134) (show 0<l1+1 by lia);refine⟨b0,b1,hour,many,k,⟨q.x,q.y,q.z,f 133%(l0+1),f 134%(l1+1)⟩,?_,hm,hh,hk,hz,by show 0<=f 133%(l0+1)/\f 133%(l0+1)<=6;lia,by show 0<=f 134%(l1+1)/\f 134%(l1+1)<=6;lia⟩;unfold zm;refine(au (bo (d:=.tup [.int b0,.int b1]) (aX (a_ (x:=.lst (iL [f 0,f 1,f 2])) (c7 ?_) rfl) eb))).trans ?_
 ·show some (gY (iL (b6 f n)) none (some (3:Int)))=_
  rw[CQ f n (by lia)]
 refine(au (bo (d:=.int (f 3%5)) (ba (x:=.int (f 3)) (y:=.int 5) (at_ 3 _ (by decide)) rfl rfl))).trans ?_;refine(au (bo (d:=.tup [.int 6,.int 6]) rfl)).trans ?_;refine(e45 _).trans ?_;refine(e67 _).trans ?_;refine(au (bo (d:=skD k) (aX (a_ (x:=.lst (iL (b6 (λj=>f (10+j)) 120))) (c7 ?_) rfl) ek))).trans ?_
 ·show some (gY (iL (b6 f n)) (some ((10:Nat):Int)) (some ((10+120:Nat):Int)))=_
  rw[kq f n 10 120 (by lia)]
 refine(au (bo (d:=stD q) (aX (a_ (x:=.lst (iL (b6 (λj=>f (130+j)) 6))) (c7 ?_) rfl) eq))).trans ?_
 ·show some (gY (iL (b6 f n)) (some ((130:Nat):Int)) (some ((130+6:Nat):Int)))=_
  rw[kq f n 130 6 (by lia)]
 refine(au (bo (d:=stD ⟨q.x,q.y,q.z,f 133%(l0+1),f 134%(l1+1)⟩) ?_)).trans ?_
 ·refine ba (x:=.tup [.int q.x,.int q.y,.int q.z]) (y:=.tup [.int (f 133%(l0+1)),.int (f 134%(l1+1))]) rfl (gO (a_ (ba (x:=.int (f 133)) (y:=.int (l0+1)) (at_ 133 _ (by decide)) rfl (vQ (by lia))) (a_ (ba (x:=.int (f 134)) (y:=.int (l1+1)) (at_ 134 _ (by decide)) rfl (vQ (by lia))) rfl)) (show 2<=1000 by decide)) rfl
 ·rfl
theorem yG(k:Sk):OkQ 9 (skD k):=λd hd=>by
 simp only[List.mem_cons,List.not_mem_nil,or_false] at hd;rcases hd with rfl | rfl | rfl | rfl
 ·intro e he
  obtain⟨h,_,rfl⟩:=List.mem_map.mp he;intro z hz;simp only[List.mem_cons,List.not_mem_nil,or_false] at hz;rcases hz with rfl | rfl | rfl<;>exact trivial
 ·intro e he
  obtain⟨h,_,rfl⟩:=List.mem_map.mp he;exact trivial
 ·intro e he
  obtain⟨h,_,rfl⟩:=List.mem_map.mp he;intro z hz;simp only[List.mem_cons,List.not_mem_nil,or_false] at hz;rcases hz with rfl | rfl | rfl | rfl<;>exact trivial
 ·intro e he
  obtain⟨h,_,rfl⟩:=List.mem_map.mp he;intro z hz;simp only[List.mem_cons,List.not_mem_nil,or_false] at hz;rcases hz with rfl | rfl | rfl | rfl | rfl | rfl | rfl | rfl<;>exact trivial
structure SkLen(k:Sk):Prop where
 hl:k.hs.length<1000
 cl:k.cs.length<1000
 wl:k.ws.length<1000
 sl:k.ss.length<1000
theorem SkOk.len{k:Sk}(h:SkOk k):SkLen k:=⟨by have:=h.hl;lia,by have:=h.cl;lia,by have:=h.wl;lia,by have:=h.sl;lia⟩
end Dn
namespace RW2
open PySem PyProof.Rows PySem.W L2
theorem zz:entryFor table "dict.update.loop" = some Builtin.«dict.update.loop»:=entryFor_of_tree (by kernel_rfl)
theorem rD:plainId "dict.update.loop" = true:=by decide +kernel
noncomputable abbrev Tk(prog:Program)(w:World):=tupleKind (bK prog w)
noncomputable abbrev PsL:=List (List L2.Key×Addr×Value)
noncomputable def cm(ps:PsL):PsL:=ps.foldl (λxs p=>storedH xs p.1 p.2.1 p.2.2) []
theorem eH(ps:PsL)(p:List L2.Key×Addr×Value):cm (ps++[p])=storedH (cm ps) p.1 p.2.1 p.2.2:=by unfold cm;rw[List.foldl_append];rfl
theorem qB{xs:PsL}{k:List L2.Key}{a:Addr}{v:Value}{x:List L2.Key×Addr×Value}(h:x∈storedH xs k a v):(∃y∈xs,x.1=y.1/\x.2.1=y.2.1)\/(x.1=k/\x.2.1=a):=by
 unfold storedH at h;split at h
 ·obtain⟨y0,hy,rfl⟩:=List.mem_map.mp h
  refine .inl ⟨y0,hy,?_⟩;unfold putAt;split<;>exact⟨rfl,rfl⟩
 ·rcases List.mem_append.mp h with h5 | h5
  ·exact .inl ⟨x,h5,rfl,rfl⟩
  ·rw[List.mem_singleton.mp h5];exact .inr ⟨rfl,rfl⟩
theorem iq:∀(n:Nat) (ps:PsL),ps.length=n->∀x∈cm ps,∃p∈ps,x.1=p.1/\x.2.1=p.2.1
 |0,ps,hn,x,h=>by
  have:ps=[]:=List.eq_nil_of_length_eq_zero hn;subst this;cases h
 |n+1,ps,hn,x,h=>by
  rcases Dn.fO ps with rfl | ⟨r,p,rfl⟩
  ·cases h
  ·rw[eH] at h
   rcases qB h with⟨y,hy,e1,e2⟩ | ⟨e1,e2⟩
   ·obtain⟨q,hq,f1,f2⟩:=iq n r (by simpa using hn) y hy
    exact⟨q,List.mem_append_left _ hq,e1.trans f1,e2.trans f2⟩
   ·exact⟨p,by simp,e1,e2⟩
theorem qh(xs:PsL)(k:List L2.Key)(a:Addr)(v:Value):(storedH xs k a v).length<=xs.length+1:=by
 unfold storedH;split<;>simp
theorem kW:∀(n:Nat) (ps:PsL),ps.length=n->(cm ps).length<=n
 |0,ps,hn=>by
  have:ps=[]:=List.eq_nil_of_length_eq_zero hn;subst this;exact Nat.le_refl _
 |n+1,ps,hn=>by
  rcases Dn.fO ps with rfl | ⟨r,p,rfl⟩
  ·simp at hn
  ·rw[eH]
   have:=kW n r (by simpa using hn);have:=qh (cm r) p.1 p.2.1 p.2.2
   lia
section
variable{prog:Program}{w:World}{A:Around}{E:Value->Shared->Prop}{s:Shared}
theorem vn{h g:Heap}{k:List L2.Key}{a:Addr}(x:(Tk prog w).is h k a)(kp:Dn.Kp h g):(Tk prog w).is g k a:=let⟨o,its,n,e,r⟩:=x;⟨o,its,n,kp _ _ e,r⟩
theorem kE{h g:Heap}{d:Addr}{xs:PsL}(x:h.DictOfH (Tk prog w) d xs)(same:∀o,h.get? d=some o->g.get? d=some o)(ks:∀y∈xs,(Tk prog w).is g y.1 y.2.1):g.DictOfH (Tk prog w) d xs:=
 let⟨o,es,ep,e,c,dd,el,_,nd⟩:=x;⟨o,es,ep,same o e,c,dd,el,ks,nd⟩
theorem vp{R:Result->Shared->Prop}{It d:Addr}{h0:Heap}{ps:PsL}{fp wr:List Addr}{Pv:Nat->Value->Prop}{St:Nat->Heap->Prop}(W:Walks prog w A.in1 It fp wr ps.length Pv St)(dn:d∉fp)(hu:A.units+1<cLine)
  (hp:∀i v,Pv i v->∃(a:Addr) (p:List L2.Key×Addr×Value),v=.ref a/\ps[i]?=some p/\IsTup h0 a #[.ref p.2.1,p.2.2]) (hk:∀p∈ps,(Tk prog w).is h0 p.1 p.2.1) (d0:h0.get? d=none) (w0:∀b∈wr,h0.get? b=none) (hz:ps.length<sizeLine) :
  ∀(k i:Nat) (t:Shared) (tok:Tok),i+k=ps.length->St i t.heap->Dn.Kp h0 t.heap->t.heap.DictOfH (Tk prog w) d (cm (ps.take i))->
   (∀g tk,Dn.Kp h0 g->g.DictOfH (Tk prog w) d (cm ps)->R (.ok (.ret .none)) { t with heap:=g,toks:=tk })->codeAny (model prog w) A (.builtin "dict.update.loop" ⟨[.ref d,.ref It,.int i tok,.none],[]⟩) R t:=by
 have dw:d∉wr:=λz=>dn (W.sub _ z);have step:∀{t:Shared} {g:Heap},Dn.Kp h0 t.heap->(∀b o,b∉wr->t.heap.get? b=some o->g.get? b=some o)->Dn.Kp h0 g:=λ{t g} kp kept b o e=>kept b o (λz=>by rw[w0 b z] at e;cases e) (kp b o e)
 have keys:∀{g:Heap} (i:Nat),Dn.Kp h0 g->∀y∈cm (ps.take i),(Tk prog w).is g y.1 y.2.1:=λ{g} i kp y hy=>by
  obtain⟨p,hp',e1,e2⟩:=iq _ _ rfl y hy;rw[e1,e2];exact vn (hk p (List.mem_of_mem_take hp')) kp
 intro k
 induction k with
 |zero=>
  intro i t tok ei st kp hd want;refine codeAny_builtin zz ?_;rw[Around.under_plainId rD _];show wpAny _ A.in1 (pyNext (.ref It)>>=λ_=>_) _ _ t;have ei':i=ps.length:=by lia
  subst ei';refine wpAny_bind (W.done t _ _ st λg tk kept=>?_);show wpAny _ _ (Builtin.Dict.addKeywords d []>>=λ_=>ret .none) _ _ _;refine wpAny_bind (wpAny_pure (wpAny_pure (want g tk (step kp kept) ?_)));rw[List.take_length] at hd;have ks:=keys (g:=g) ps.length (step kp kept);rw[List.take_length] at ks;exact kE hd (λo e=>kept d o dw e) ks
 |succ k ih=>
  intro i t tok ei st kp hd want;refine codeAny_builtin zz ?_;rw[Around.under_plainId rD _];show wpAny _ A.in1 (pyNext (.ref It)>>=λ_=>_) _ _ t;have lt:i<ps.length:=by lia
  refine wpAny_bind (W.item i t _ _ lt st λv g tk hpv st1 kept=>?_);obtain⟨a,p,rfl,hpi,tu⟩:=hp i v hpv;have kp1:=step kp kept;have hd1:g.DictOfH (Tk prog w) d (cm (ps.take i)):=kE hd (λo e=>kept d o dw e) (keys i kp1);obtain⟨o,o1,o2,n,o3⟩:=tu;have ty:({ t with heap:=g,toks:=tk }:Shared).TypeIs (.ref a) "tuple":=⟨o,kp1 _ _ o1,o2⟩;dsimp only;refine wpAny_bind (wpAny_holding (wpAny_bind (wpAny_tryCatch ?_)));unfold Builtin.Dict.pairItems;refine wpAny_bind (wpAny_typeOf ty ?_);rw[if_pos (by decide)];refine wpAny_bind (wpAny_seqItems (kp1 _ _ o1) o3 (wpAny_pure ?_));show wpAny _ _ (holding [Value.ref p.2.1,p.2.2] (dictSet d (.ref p.2.1) p.2.2)) _ _ _
  have hz1:(cm (ps.take i)).length<=sizeLine:=by
   have:=kW _ (ps.take i) rfl;rw[List.length_take] at this
   lia
  refine wpAny_holding (wpAny_dictSet_heap (knd:=Tk prog w) (hsz:=hz1) (show A.in1.units<cLine from hu) (vn (hk p (List.mem_of_getElem? hpi)) kp1) hd1 λg2 hd2 same=>?_);have kp2:Dn.Kp h0 g2:=λb o e=>(same.2 b (λz=>by rw[z,d0] at e;cases e)).trans (kp1 b o e);refine wpAny_pure ⟨plainId_quiet rD _,ih (i+1) _ _ (by lia) (W.frame _ _ _ st1 λb q o e=>(same.2 b (λz=>dn (by rw[<-z];exact q))).trans e) kp2 ?_ λg3 tk3 kp3 hd3=>want g3 tk3 kp3 hd3⟩;rw[List.take_add_one,hpi];show g2.DictOfH (Tk prog w) d (cm (ps.take i++[p]));rw[eH];exact hd2
theorem xM{l:Addr}{its:List Value}{ps:PsL}{Q:Value->Shared->Prop}(x:PlainL s.heap l its.toArray)(hA:A.handled=none)(hu:A.units+2<cLine)(len:its.length=ps.length)(hz:ps.length<sizeLine)
  (hp:∀(i:Nat) v,its[i]?=some v->∃(a:Addr) (p:List L2.Key×Addr×Value),v=.ref a/\ps[i]?=some p/\IsTup s.heap a #[.ref p.2.1,p.2.2]) (hk:∀p∈ps,(Tk prog w).is s.heap p.1 p.2.1)
  (h:∀g tk,Dn.Kp s.heap g->g.DictOfH (Tk prog w) s.heap.objs.size (cm ps)->Q (.ref s.heap.objs.size) { s with heap:=g,toks:=tk }):wpAny (model prog w) A (call (.type "dict") [.ref l]) Q E s:=by
 refine callType_codes (Q₁:=λob s₁=>ob=.ref s.heap.objs.size/\s₁={ s with heap:=s.heap.push { cls:=.type "dict",data:=.dict #[] } }) PySem.F.kt_called_dict (PySem.F.kt_typeCall_dict_1 _) PySem.F.entry_dict_init (kt_code_dict_new _ ⟨rfl,rfl⟩) ?_;rintro ob s₁ ⟨rfl,rfl⟩;have new0:(s.heap.push { cls:=.type "dict",data:=.dict #[] }).DictOfH (Tk prog w) s.heap.objs.size []:=⟨_,#[],_,Heap.get?_push_size _ rfl,⟨rfl,rfl,rfl⟩,rfl,rfl,(λy hy=>nomatch hy),List.nodup_nil⟩;have kp0:Dn.Kp s.heap (s.heap.push { cls:=.type "dict",data:=.dict #[] }):=λb o e=>Heap.get?_push_of_some _ e;have ty:({ s with heap:=s.heap.push { cls:=.type "dict",data:=.dict #[] } }:Shared).TypeIs (.ref s.heap.objs.size) "dict":=⟨_,Heap.get?_push_size _ rfl,rfl⟩;refine⟨ty,PySem.F.args_dict_init_2 _ _,?_⟩;unfold Builtin.«dict.__init__» Builtin.Dict.selfAndRest;refine wpAny_bind (wpAny_bind (wpAny_notOrdered_dict ty ?_));show wpAny _ _ (pure (s.heap.objs.size,[Value.ref l])) (λ_ _=>_) _ _;refine wpAny_pure ?_;show wpAny _ _ (Builtin.Dict.updateFrom "dict.__init__" s.heap.objs.size (.ref l) [] .none) (λ_ _=>_) _ _;unfold Builtin.Dict.updateFrom;have xl:=x.keeps (h':=s.heap.push { cls:=.type "dict",data:=.dict #[] }) kp0;refine wpAny_bind (wpAny_typeOf (T:="list") (let⟨o,ho,hc,_⟩:=xl.isList;⟨o,ho,hc⟩) ?_);rw[if_pos (by decide)];refine wpAny_bind (tN (s:={ s with heap:=s.heap.push { cls:=.type "dict",data:=.dict #[] } }) xl (show A.in1.in1.handled=none from hA) λh1 tk1 kp1=>?_);rw[if_pos (show(none:Option Value).isNone=true from rfl)];refine wpAny_bind (wpAny_rule ?_);have x1:PlainL h1 l its.toArray:=xl.keeps kp1;have lt1:l<h1.objs.size:=x1.lt;have kp01:Dn.Kp s.heap h1:=λb o e=>kp1 b o (kp0 b o e);have dl:s.heap.objs.size<h1.objs.size:=Heap.lt_size (kp1 _ _ (Heap.get?_push_size _ rfl));refine wpAny_bind (wpAny_pyIter_list (s:={ s with heap:=h1,toks:=tk1 }) x1.isList (wpAny_pure ⟨plainId_quiet rD _,?_⟩));have W:=Walks.list (prog:=prog) (w:=w) (A:=A.in1.in1) (show A.in1.in1.handled=none from hA) h1.objs.size l (Nat.ne_of_lt lt1) its.toArray;have sz:its.toArray.size=ps.length:=by simp[len]
 rw[sz] at W;have lts:l<s.heap.objs.size:=x.lt;refine vp (A:=A.in1) (h0:=s.heap) (ps:=ps) W ?_ (show A.units+1+1<cLine by lia) (λi v hv=>hp i v (by simpa using hv)) hk (Heap.get?_none_of_le (Nat.le_refl _)) (λb hb=>?_) hz ps.length 0 _ _ (Nat.zero_add _) ?_ ?_ ?_ λg tk kp hd=>⟨rfl,h g tk kp hd⟩
 ·simp only[List.mem_cons,List.not_mem_nil,or_false,not_or]
  exact⟨Nat.ne_of_lt dl,Nat.ne_of_gt lts⟩
 ·rw[List.mem_singleton.mp hb];exact Heap.get?_none_of_le (Nat.le_of_lt dl)
 ·exact⟨⟨_,Heap.get?_push_size _ rfl,rfl,rfl⟩,x1.isList.push _⟩
 ·exact λb o e=>Heap.get?_push_of_some _ (kp01 b o e)
 ·exact kE new0 (λo e=>Heap.get?_push_of_some _ (kp1 _ _ e)) λy hy=>by cases hy
end
end RW2
namespace Dn
open PySem PySem.Spec PyProof.Rows L2 PySem.W RW2
noncomputable def qt(xs:List (List Int))(k:List Int):List (List Int):=if k∈xs then xs else xs++[k]
noncomputable def du(ks:List (List Int)):List (List Int):=ks.foldl qt []
theorem fP(ks:List (List Int))(k:List Int):du (ks++[k])=qt (du ks) k:=by unfold du;rw[List.foldl_append];rfl
theorem uV(xs:List (List Int))(k:List Int):(qt xs k).length<=xs.length+1:=by unfold qt;split<;>simp
theorem jd:∀(n:Nat) (ks:List (List Int)),ks.length=n->(du ks).length<=n
 |0,ks,hn=>by
  have:ks=[]:=List.eq_nil_of_length_eq_zero hn;subst this;exact Nat.le_refl _
 |n+1,ks,hn=>by
  rcases fO ks with rfl | ⟨r,p,rfl⟩
  ·simp at hn
  ·rw[fP]
   have h1:=jd n r (by simpa using hn);have h2:=uV (du r) p
   lia
theorem ja:∀(n:Nat) (ks:List (List Int)),ks.length=n->∀k,k∈du ks↔k∈ks
 |0,ks,hn,k=>by
  have:ks=[]:=List.eq_nil_of_length_eq_zero hn;subst this;exact Iff.rfl
 |n+1,ks,hn,k=>by
  rcases fO ks with rfl | ⟨r,p,rfl⟩
  ·simp at hn
  ·rw[fP]
   have ih:=ja n r (by simpa using hn);unfold qt;split
   ·rename_i hm
    rw[ih k,List.mem_append,List.mem_singleton];exact⟨.inl,λz=>z.elim id λe=>by rw[e];exact(ih p).mp hm⟩
   ·rw[List.mem_append,ih k,List.mem_append]
theorem ju:∀(n:Nat) (ks:List (List Int)),ks.length=n->(du ks).Nodup
 |0,ks,hn=>by
  have:ks=[]:=List.eq_nil_of_length_eq_zero hn;subst this;exact List.nodup_nil
 |n+1,ks,hn=>by
  rcases fO ks with rfl | ⟨r,p,rfl⟩
  ·simp at hn
  ·rw[fP]
   have ih:=ju n r (by simpa using hn);unfold qt;split
   ·exact ih
   ·rename_i hm
    rw[List.nodup_append];exact⟨ih,by simp,λa ha b hb=>by rw[List.mem_singleton.mp hb];exact λe=>hm (e▸ha)⟩
noncomputable def inl(k:List Int):List Key:=k.map Sum.inl
theorem qZ{a b:List Int}(h:inl a=inl b):a=b:=by
 have:(inl a).map (λx:Key=>match x with | .inl i=>i | .inr _=>0)=(inl b).map (λx:Key=>match x with | .inl i=>i | .inr _=>0):=by rw[h]
 simpa[inl,Function.comp_def] using this
open Classical in
theorem oK(xs:PsL)(k:List Key)(a:Addr)(v:Value):(storedH xs k a v).map (·.1)=if k∈xs.map (·.1) then xs.map (·.1) else xs.map (·.1)++[k]:=by
 unfold storedH
 by_cases h:(atKey xs k).isSome=true
 ·have hm:k∈xs.map (·.1):=by
   unfold atKey at h;rw[Option.isSome_map,List.find?_isSome] at h;obtain⟨x,hx,e⟩:=h;exact List.mem_map.mpr ⟨x,hx,of_decide_eq_true e⟩
  rw[if_pos h,if_pos hm,keys_map_putAt]
 ·have hm:k∉xs.map (·.1):=λz=>h (by
   obtain⟨x,hx,e⟩:=List.mem_map.mp z;unfold atKey;rw[Option.isSome_map,List.find?_isSome]
   exact⟨x,hx,decide_eq_true e⟩)
  rw[if_neg h,if_neg hm,List.map_append];rfl
theorem jJ:∀(n:Nat) (ps:PsL) (ks:List (List Int)),ps.length=n->ps.map (·.1)=ks.map inl->(cm ps).map (·.1)=(du ks).map inl
 |0,ps,ks,hn,e=>by
  have:ps=[]:=List.eq_nil_of_length_eq_zero hn;subst this;have:ks=[]:=by simpa using e.symm
  subst this;rfl
 |n+1,ps,ks,hn,e=>by
  rcases fO ps with rfl | ⟨r,p,rfl⟩
  ·simp at hn
  ·rcases fO ks with rfl | ⟨q,k,rfl⟩
   ·simp at e
   ·rw[List.map_append,List.map_append] at e
    have e2:=List.append_inj' e rfl;have ek:p.1=inl k:=by simpa using e2.2
    have ih:=jJ n r q (by simpa using hn) e2.1;rw[eH,fP,oK,ih,ek]
    have mem:(inl k∈(du q).map inl)↔k∈du q:=⟨λz=>by
     obtain⟨x,hx,ex⟩:=List.mem_map.mp z
     rw[<-qZ ex];exact hx,λz=>List.mem_map.mpr ⟨k,z,rfl⟩⟩
    unfold qt
    by_cases hm:k∈du q
    ·rw[if_pos (mem.mpr hm),if_pos hm]
    ·rw[if_neg (λz=>hm (mem.mp z)),if_neg hm,List.map_append];rfl
noncomputable def iM:List D->Option (List (List Int))
 |[]=>some []
 |.tup [.tup ds,_]::r=>(bR ds).bind λns=>(iM r).bind λt=>some (ns::t)
 |_=>none
noncomputable def lr(fa:Ev->Option D):Ev->Option (List D):=λε=>match fa ε with
 |some (.lst ds)=>(iM ds).bind λks=>if ks.length<1000000 then some ((du ks).map cw) else none
 |_=>none
noncomputable def oM(p:Addr)(as:List Addr):Heap->Prop:=λh=>(p==sysModules)=false/\∃es ep,ie h p es ep/\es.toList.map (·.key)=as.map Value.ref
section
variable{X:Cx}{a:Expr}{pos:Pos}{fa:Ev->Option D}
theorem oT{P:Program}{w:World}:∀{ns:List Int} {us:List Value},aV (ns.map V.int) us->ItemsAre (bK P w) (inl ns) us
 |[],_,r=>by cases r;exact .nil
 |n::ns,_,r=>by
  cases r with
  |@cons _ u _ us h t=>
   obtain⟨tk,rfl⟩:=(show ∃t,u=Value.int n t from h);exact .cons (jC P w n tk) (oT t)
theorem xp{pins:List (Addr×Obj)}{σ:L2.St}{H G:Hp}{s:Shared}(I:Inv X pins σ H s)(gh:aR G H){ds:List D}{vs:List V}{its:List Value}{ks:List (List Int)}(hd0:DenL X.K G vs ds):aV vs its->iM ds=some ks->
  ∃ps:PsL,its.length=ps.length/\(∀(i:Nat) v,its[i]?=some v->∃(a:Addr) (p:List L2.Key×Addr×Value),v=.ref a/\ps[i]?=some p/\IsTup s.heap a #[.ref p.2.1,p.2.2])/\
   (∀p∈ps,(Tk X.prog X.w).is s.heap p.1 p.2.1/\∃k,p.1=inl k/\Den X.K G (.ref p.2.1) (cw k))/\ps.map (·.1)=ks.map inl:=by
 revert its ks
 refine DenL.ind (P:=λvs ds=>∀{its:List Value} {ks:List (List Int)},aV vs its->iM ds=some ks->
  ∃ps:PsL,its.length=ps.length/\(∀(i:Nat) v,its[i]?=some v->∃(a:Addr) (p:List L2.Key×Addr×Value),v=.ref a/\ps[i]?=some p/\IsTup s.heap a #[.ref p.2.1,p.2.2])/\
   (∀p∈ps,(Tk X.prog X.w).is s.heap p.1 p.2.1/\∃k,p.1=inl k/\Den X.K G (.ref p.2.1) (cw k))/\ps.map (·.1)=ks.map inl) (λ{its ks} rv e=>?_) (λ{x d vs ds} hd hs y {its ks} rv e=>?_) hd0
 ·cases e;cases rv;exact⟨[],rfl,(λi v h=>by simp at h),(λp h=>by cases h),rfl⟩
 ·cases rv with
  |@cons x u xs us r1 rs=>
   unfold iM at e;split at e
   ·rename_i h;cases h
   ·rename_i kd v r h
    cases h;obtain⟨ns,en,e⟩:=aq e;obtain⟨t,et,e⟩:=aq e;cases e;obtain⟨ps,h1,h2,h3,h4⟩:=y rs et;have:=iy en;subst this;obtain⟨aa,ys,rfl,w1,w2⟩:=hd.tupV;cases(show u=Value.ref aa from r1);cases w2 with
    |@cons y0 d0 ys' ds' k1 k2=>
     cases k2 with
     |@cons y1 d1 ys'' ds'' k3 k4=>
      cases k4;obtain⟨b,zs,rfl,v1,v2⟩:=k1.tupV;obtain⟨its1,q1,q2,_⟩:=I.tuple (aK gh w1);cases q1 with
      |@cons _ u0 _ us0 q3 q4=>
       cases q4 with
       |@cons _ u1 _ us1 q5 q6=>
        cases q6;cases(show u0=Value.ref b from q3);obtain⟨its2,p1,⟨o,o1,o2,n,o3⟩,_⟩:=I.tuple (aK gh v1);have ez:=cE v2 en;subst ez;have ia:ItemsAre (bK X.prog X.w) (inl ns) its2:=oT p1;refine⟨(inl ns,b,u1)::ps,by simp[h1],λi v hv=>?_,λp hp=>?_,by rw[List.map_cons,List.map_cons,h4]⟩
        ·cases i with
         |zero=>simp at hv;subst hv;exact⟨aa,_,rfl,rfl,q2⟩
         |succ i=>obtain⟨a',p',x1,x2,x3⟩:=h2 i v (by simpa using hv);exact⟨a',p',x1,by simpa using x2,x3⟩
        ·rcases List.mem_cons.mp hp with rfl | ht
         ·exact⟨⟨o,its2.toArray,n,o1,o2,o3,by simpa using ia⟩,ns,rfl,.tup v1 v2⟩
         ·exact h3 p ht
   ·cases e
theorem qX{G:Hp}:∀{xs:PsL} {ks:List (List Int)},xs.map (·.1)=ks.map inl->(∀x∈xs,∃k,x.1=inl k/\Den X.K G (.ref x.2.1) (cw k))->DenL X.K G ((xs.map λx=>x.2.1).map V.ref) (ks.map cw)
 |[],ks,e,_=>by
  have:ks=[]:=by simpa using e.symm
  subst this;exact .nil
 |x::xs,[],e,_=>by simp at e
 |x::xs,k::ks,e,h=>by
  rw[List.map_cons,List.map_cons] at e;injection e with e1 e2
  obtain⟨k',e3,hd⟩:=h x (List.mem_cons_self ..);have:k'=k:=qZ (e3.symm.trans e1);subst this;exact .cons hd (qX e2 λy hy=>h y (List.mem_cons_of_mem _ hy))
theorem qq{k:Nat}(hr:Room k X.A)(hc:X.calm=true):dW X (.type "dict") (λxs H Q=>∃G l vs ds ks,xs=[.ref l]/\aR G H/\SqL X.K H l vs/\DenL X.K G vs ds/\iM ds=some ks/\ks.length<1000000/\
  ∀p as,H p=none->as.length=(du ks).length->DenL X.K G (as.map V.ref) ((du ks).map cw)->Q (.ref p) (upd H p (.ext (oM p as)))):=by
 intro pins s σ H xs us Q I rv h;obtain⟨G,l,vs,ds,ks,rfl,gh,hq,hd,hk,hn,q⟩:=h;obtain⟨u,rfl,ru⟩:=rv.one;cases ru;obtain⟨its,rr,pl,hz⟩:=I.list hq;obtain⟨ps,h1,h2,h3,h4⟩:=xp I gh hd rr hk;have lp:ps.length=ks.length:=by have:=congrArg List.length h4;simpa using this
 have lt:ps.length<sizeLine:=by rw[lp];exact Nat.lt_trans hn (by decide)
 refine xM pl (I.ok.hd hc) (by have:=hr.un;lia) h1 lt h2 (λp hp=>(h3 p hp).1) λg tk kp hm=>?_;have keys:=jJ _ ps ks rfl h4;have nn:H s.heap.objs.size=none:=I.hok.fresh (Nat.le_refl _)
 have dn:DenL X.K G (((cm ps).map λx=>x.2.1).map V.ref) ((du ks).map cw):=qX keys λx hx=>by
  obtain⟨p,hp,e1,e2⟩:=iq _ ps rfl x hx;obtain⟨k',e3,e4⟩:=(h3 p hp).2;exact⟨k',e1.trans e3,by rw[e2];exact e4⟩
 obtain⟨o,es,ep,w1,w2,w3,w4,_,_⟩:=hm
 have notm:(s.heap.objs.size==sysModules)=false:=by
  have h:mainGlobals<s.heap.objs.size:=(I.mod.glob.keeps I.bk).lt;exact beq_eq_false_iff_ne.mpr (Nat.ne_of_gt (Nat.lt_trans (show sysModules<mainGlobals by decide) h))
 have ky:es.toList.map (·.key)=((cm ps).map λx=>x.2.1).map Value.ref:=by
  rw[w4,List.map_map,List.map_map];rfl
 refine⟨.ref s.heap.objs.size,upd H s.heap.objs.size (.ext (oM s.heap.objs.size ((cm ps).map λx=>x.2.1))),I.laid (a:=s.heap.objs.size) (t':=tk) kp (Nat.le_refl _) ⟨⟨notm,es,ep,⟨o,w1,w2,w3⟩,ky⟩,⟨o,w1⟩,λg1 g2 z k=>?_⟩,rfl,q _ _ nn ?_ dn⟩
 ·obtain⟨z1,es',ep',z2,z3⟩:=z
  exact⟨z1,es',ep',z2.at k,z3⟩
 ·have:=congrArg List.length keys
  simpa using this
theorem pX(hc:X.calm=true):dW X (.type "list") (λxs H Q=>∃p as,xs=[.ref p]/\H p=some (.ext (oM p as))/\as.length<1000000/\∀q,H q=none->Q (.ref q) (upd H q (.lst (as.map V.ref)))):=by
 intro pins s σ H xs us Q I rv h;obtain⟨p,as,rfl,hp,hn,q⟩:=h;obtain⟨u,rfl,ru⟩:=rv.one;cases ru;obtain⟨⟨nm,es,ep,li,ky⟩,_,_⟩:=(show bG X.prog X.w H s.heap p (.ext (oM p as)) from I.hok p _ hp);have sz:es.size=as.length:=by have:=congrArg List.length ky;simpa using this
 have lt:es.size<=sizeLine:=by rw[sz];exact Nat.le_of_lt (Nat.lt_trans hn (by decide))
 refine kdl_call (pN p nm es ep) (I.ok.hd hc) li lt λg tk acc c kp hl items=>?_;have nn:H s.heap.objs.size=none:=I.hok.fresh (Nat.le_refl _)
 have ea:acc.toList=as.map Value.ref:=by
  refine List.ext_getElem? λi=>?_;rw[<-ky]
  by_cases hi:i<es.size
  ·have hi2:i<acc.size:=by rw[items.1];exact hi
   obtain⟨e,e1,e2⟩:=items.2 i acc[i] (by simp[hi2]);rw[List.getElem?_map,Array.getElem?_toList,Array.getElem?_toList,e1];simp[hi2,e2]
  ·have hi2:acc.size<=i:=by rw[items.1];exact Nat.le_of_not_lt hi
   rw[List.getElem?_map,Array.getElem?_toList,Array.getElem?_toList,Array.getElem?_eq_none hi2,Array.getElem?_eq_none (Nat.le_of_not_lt hi)];rfl
 have vals:∀l:List Addr,aV (l.map V.ref) (l.map Value.ref):=by
  intro l
  induction l with
  |nil=>exact .nil
  |cons b r ih=>exact .cons rfl ih
 refine⟨.ref s.heap.objs.size,upd H s.heap.objs.size (.lst (as.map V.ref)),I.laid (a:=s.heap.objs.size) (t':=tk) kp (Nat.le_refl _) ⟨by rw[List.length_map];exact Nat.le_of_lt (Nat.lt_trans hn (by decide)),acc.toList,c,by rw[ea];exact vals as,by rw[hl]⟩,rfl,q _ nn⟩
theorem vZ{k:Nat}{p p' pos':Pos}(hr:Room k X.A)(hc:X.calm=true)(ha:DB X a fa)(hm1:X.mg "list" = none)(hm2:X.mg "dict" = none)(hg1:Gl X "list":=by rfl)(hg2:Gl X "dict":=by rfl)
  (hst:starEach [a] X.env=(false,eval a X.env)::starEach [] X.env:=by rfl) (hst2:starEach [Expr.Call (.Name "dict" p') [a] [] pos'] X.env=(false,eval (.Call (.Name "dict" p') [a] [] pos') X.env)::starEach [] X.env:=by rfl)
  (hpl:(backTo pos (starEach [] X.env)).any (·.1)=false:=by rfl) (hpl2:(backTo pos' (starEach [] X.env)).any (·.1)=false:=by rfl):DF X (.Call (.Name "list" p) [.Call (.Name "dict" p') [a] [] pos'] [] pos) (lr fa):=by
 obtain⟨ta,a1,a2⟩:=ha;refine⟨_,i7 (pX hc) hg1 hm1 boot_list (b7 (i7 (qq hr hc) hg2 hm2 boot_dict (b7 a1 da hst) (by decide) (by decide) hst hpl2) da hst2) (by decide) (by decide) hst2 hpl,λHe G H σ ε d Q gh E ef q=>?_⟩;unfold lr at ef;split at ef
 ·rename_i ds e1
  obtain⟨ks,en,ef⟩:=aq ef;split at ef
  ·rename_i hl
   cases ef;refine a2 He G H σ ε _ _ gh E e1 λv G1 H1 g1 d1=>?_;obtain⟨l,xs,rfl,h1,h2⟩:=d1.lst g1.gh;refine⟨G1,l,xs,ds,ks,rfl,g1.gh,h1,h2,en,hl,λp1 as hp1 ea hd=>?_⟩;have la:as.length<1000000:=by have:=jd _ ks rfl;lia
   refine⟨p1,as,rfl,aN,la,λq1 hq1=>?_⟩;have g2:Grow G H G1 (upd H1 p1 (.ext (oM p1 as))):=g1.trans (.lay _ g1.gh hp1);exact q q1 _ G1 _ (g2.trans (.lay _ g2.gh hq1)) (g2.hh.free hq1) (g2.gh.free hq1) aN hd
  ·cases ef
 ·cases ef
end
noncomputable def lkD:List (List Int×D)->List Int->Option D
 |[],_=>none
 |e::r,k=>if e.1=k then some e.2 else lkD r k
noncomputable def pP:List (List Int×D)->List Int->D->List (List Int×D)
 |[],k,d=>[(k,d)]
 |e::r,k,d=>if e.1=k then(e.1,d)::r else e::pP r k d
noncomputable def i5:bV->List Int->Addr->V->bV
 |[],k,b,v=>[(k,b,v)]
 |e::r,k,b,v=>if e.1=k then(e.1,e.2.1,v)::r else e::i5 r k b v
noncomputable abbrev Ti(P:Program)(w:World):=tupleKind (intKind P w)
noncomputable abbrev XsL:=List (List Int×Addr×Value)
noncomputable def wJ:XsL->List Int->Addr->Value->XsL
 |[],k,b,v=>[(k,b,v)]
 |e::r,k,b,v=>if e.1=k then(e.1,e.2.1,v)::r else e::wJ r k b v
theorem mG:∀(es:bV) (k:List Int) (b:Addr) (v:V),(i5 es k b v).map (·.1)=if k∈es.map (·.1) then es.map (·.1) else es.map (·.1)++[k]
 |[],k,b,v=>by simp[i5]
 |e::r,k,b,v=>by
  unfold i5
  by_cases z:e.1=k
  ·rw[if_pos z,if_pos (by simp[z])];rfl
  ·rw[if_neg z,List.map_cons,mG r k b v]
   by_cases q:k∈r.map (·.1)
   ·rw[if_pos q,if_pos (by rw[List.map_cons];exact List.mem_cons_of_mem _ q)];rfl
   ·rw[if_neg q,if_neg (by rw[List.map_cons,List.mem_cons];exact λh=>h.elim (λh=>z h.symm) q)];rfl
theorem tI{ks:List (List Int)}{k:List Int}(h:ks.Nodup):(if k∈ks then ks else ks++[k]).Nodup:=by
 split
 ·exact h
 ·rename_i hm
  rw[List.nodup_append];exact⟨h,by simp,λa ha b hb=>by rw[List.mem_singleton.mp hb];exact λe=>hm (e▸ha)⟩
theorem qC{es:bV}{k:List Int}{b:Addr}{v:V}(h:(es.map (·.1)).Nodup):((i5 es k b v).map (·.1)).Nodup:=by
 rw[mG];exact tI h
theorem oU:∀(es:bV) (k:List Int) (b:Addr) (v:V),(i5 es k b v).length<=es.length+1
 |[],_,_,_=>Nat.le_refl _
 |e::r,k,b,v=>by
  unfold i5;split
  ·exact Nat.le_succ _
  ·exact Nat.succ_le_succ (oU r k b v)
theorem ox(k:List Int)(v:Value):∀(xs:XsL),k∉xs.map (·.1)->xs.map (putAt k v)=xs
 |[],_=>rfl
 |e::r,h=>by
  rw[List.map_cons,List.mem_cons,not_or] at h;rw[List.map_cons,ox k v r h.2,putAt,if_neg λz=>h.1 z.symm]
theorem kC(k:List Int)(b:Addr)(v:Value):∀(xs:XsL),(xs.map (·.1)).Nodup->storedH xs k b v=wJ xs k b v
 |[],_=>rfl
 |e::r,h=>by
  rw[List.map_cons,List.nodup_cons] at h;have ih:=kC k b v r h.2;unfold wJ
  by_cases z:e.1=k
  ·rw[if_pos z]
   have:atKey (e::r) k=some e.2:=by simp[atKey,List.find?_cons,z]
   rw[storedH_old this,List.map_cons,ox k v r (z▸h.1),putAt,if_pos z]
  ·rw[if_neg z,<-ih]
   have q:atKey (e::r) k=atKey r k:=by simp[atKey,List.find?_cons,z]
   unfold storedH;rw[q];split
   ·rw[List.map_cons,putAt,if_neg z]
   ·rfl
noncomputable def EX(u:List Int×Addr×V)(x:List Int×Addr×Value):Prop:=u.1=x.1/\u.2.1=x.2.1/\L2.aY u.2.2 x.2.2
theorem vK{k:List Int}{b:Addr}{v:V}{u:Value}(rv:L2.aY v u):∀{us:bV} {xs:XsL},Paired EX us xs->Paired EX (i5 us k b v) (wJ xs k b u)
 |_,_,.nil=>.cons ⟨rfl,rfl,rv⟩ .nil
 |_,_,.cons (a:=a) (b:=x) h t=>by
  unfold i5 wJ;rw[<-h.1];split
  ·exact .cons ⟨rfl,h.2.1,rv⟩ t
  ·exact .cons h (vK rv t)
theorem iS:∀{us:bV} {xs:XsL},Paired EX us xs->us.map (·.1)=xs.map (·.1)
 |_,_,.nil=>rfl
 |_,_,.cons h t=>by rw[List.map_cons,List.map_cons,iS t,h.1]
theorem yr{x:List Int×Addr×Value}{r:XsL}{k:List Int}:atKey (x::r) k=if x.1=k then some x.2 else atKey r k:=by
 by_cases z:x.1=k<;>simp[atKey,List.find?_cons,z]
theorem Cz{k:List Int}{p:Addr×Value}:∀{us:bV} {xs:XsL},Paired EX us xs->atKey xs k=some p->∃b v,(k,b,v)∈us/\L2.aY v p.2:=by
 intro us xs q
 induction q with
 |nil=>intro e;cases e
 |@cons a x us xs h t ih=>
  intro e;rw[yr] at e;split at e
  ·rename_i z
   cases e;exact⟨a.2.1,a.2.2,by rw[<-z,<-h.1];exact List.mem_cons_self ..,h.2.2⟩
  ·obtain⟨b,v,h1,h2⟩:=ih e
   exact⟨b,v,List.mem_cons_of_mem _ h1,h2⟩
section
variable{X:Cx}{pins:List (Addr×Obj)}{σ:L2.St}{G H:Hp}{s:Shared}
theorem oq{P:Program}{w:World}:∀{ns:List Int} {us:List Value},aV (ns.map V.int) us->ItemsAre (intKind P w) ns us
 |[],_,r=>by cases r;exact .nil
 |n::ns,_,r=>by
  cases r with
  |@cons _ u _ us h t=>
   obtain⟨tk,rfl⟩:=(show ∃t,u=Value.int n t from h);exact .cons (by simp[intKind,Value.isInt]) (oq t)
theorem ny(I:Inv X pins σ H s)(gh:aR G H){b:Addr}{k:List Int}(h:SqT X.K G b (k.map V.int)):(Ti X.prog X.w).is s.heap k b:=by
 obtain⟨its,r,⟨o,o1,o2,n,o3⟩,_⟩:=I.tuple (aK gh h);exact⟨o,its.toArray,n,o1,o2,o3,by simpa using oq r⟩
theorem uJ{P:Program}{w:World}:∀{us:bV} {raw:List DictEntry},Paired EntOk us raw->∃xs:XsL,raw=xs.map (entryOfKey (Ti P w))/\Paired EX us xs
 |_,_,.nil=>⟨[],rfl,.nil⟩
 |_,_,.cons (a:=a) (b:=r) h t=>by
  obtain⟨xs,e,q⟩:=uJ (P:=P) (w:=w) t;refine⟨(a.1,a.2.1,r.val)::xs,?_,.cons ⟨rfl,rfl,h.val⟩ q⟩;rw[List.map_cons,<-e];congr 1;obtain⟨r1,r2,r3⟩:=r;have h1:=h.hash;have h2:=h.key;simp only at h1 h2;subst h1 h2;rfl
theorem t_{P:Program}{w:World}:∀{us:bV} {xs:XsL},Paired EX us xs->Paired EntOk us (xs.map (entryOfKey (Ti P w)))
 |_,_,.nil=>.nil
 |_,_,.cons (a:=a) (b:=x) h t=>.cons ⟨by rw[h.1];rfl,by rw[h.2.1];rfl,h.2.2⟩ (t_ t)
theorem DenM.mem{K:PySem.W.Frag}{G:Hp}{us:bV}{es:List (List Int×D)}(h:DenM K G us es):∀u∈us,SqT K G u.2.1 (u.1.map V.int):=
 DenM.ind (P:=λus _=>∀u∈us,SqT K G u.2.1 (u.1.map V.int)) (λ_ h=>nomatch h) (λhk _ _ y u hu=>(List.mem_cons.mp hu).elim (λe=>by subst e;exact hk) (y u)) h
theorem DenM.keys{K:PySem.W.Frag}{G:Hp}{us:bV}{es:List (List Int×D)}(h:DenM K G us es):us.map (·.1)=es.map (·.1):=
 DenM.ind (P:=λus es=>us.map (·.1)=es.map (·.1)) rfl (λ_ _ _ y=>by rw[List.map_cons,List.map_cons,y]) h
theorem DenM.len{K:PySem.W.Frag}{G:Hp}{us:bV}{es:List (List Int×D)}(h:DenM K G us es):us.length=es.length:=by simpa using congrArg List.length h.keys
theorem DenM.put{K:PySem.W.Frag}{G:Hp}{k:List Int}{b:Addr}{v:V}{d:D}(hb:SqT K G b (k.map V.int))(hv:Den K G v d){us:bV}{es:List (List Int×D)}(h:DenM K G us es):DenM K G (i5 us k b v) (pP es k d):=
 DenM.ind (P:=λus es=>DenM K G (i5 us k b v) (pP es k d)) (.cons hb hv .nil) (λhk hv' hs y=>by
  unfold i5 pP;simp only;split
  ·exact .cons hk hv hs
  ·exact .cons hk hv' y) h
theorem DenM.look{K:PySem.W.Frag}{G:Hp}{k:List Int}{us:bV}{es:List (List Int×D)}(h:DenM K G us es):(us.map (·.1)).Nodup->∀{b:Addr} {v:V},(k,b,v)∈us->∃d,lkD es k=some d/\Den K G v d:=
 DenM.ind (P:=λus es=>(us.map (·.1)).Nodup->∀{b:Addr} {v:V},(k,b,v)∈us->∃d,lkD es k=some d/\Den K G v d) (λ_ {_ _} h=>nomatch h) (λ{k'} _ _ _ _ _ hk hv hs y nd {b v} h=>by
  rw[List.map_cons,List.nodup_cons] at nd;unfold lkD;rcases List.mem_cons.mp h with e9 | h
  ·cases e9
   exact⟨_,if_pos rfl,hv⟩
  ·have:k'≠k:=λz=>nd.1 (by subst z;exact List.mem_map.mpr ⟨_,h,rfl⟩)
   rw[if_neg this]
   exact y nd.2 h) h
theorem pQ:∀{es:List (List Int×D)} {k:List Int},k∉es.map (·.1)->lkD es k=none
 |[],_,_=>rfl
 |e::r,k,h=>by
  rw[List.map_cons,List.mem_cons,not_or] at h;unfold lkD;rw[if_neg λz=>h.1 z.symm,pQ h.2]
theorem rE{k:List Int}:∀{xs:XsL},atKey xs k=none->k∉xs.map (·.1)
 |[],_=>by simp
 |x::r,e=>by
  by_cases z:x.1=k
  ·rw[show atKey (x::r) k=some x.2 by simp[atKey,List.find?_cons,z]] at e;cases e
  ·rw[show atKey (x::r) k=atKey r k by simp[atKey,List.find?_cons,z]] at e
   rw[List.map_cons,List.mem_cons,not_or];exact⟨λq=>z q.symm,rE e⟩
theorem wR(I:Inv X pins σ H s)(gh:aR G H){a:Addr}{us:bV}{ep:Nat}{es:List (List Int×D)}(x:DAt a us ep s.heap)(nd:(us.map (·.1)).Nodup)(m:DenM X.K G us es):∃xs:XsL,Paired EX us xs/\s.heap.DictOfH (Ti X.prog X.w) a xs:=by
 obtain⟨n,z,o,raw,e,c,dd,p⟩:=x;obtain⟨xs,e1,q⟩:=uJ (P:=X.prog) (w:=X.w) p;refine⟨xs,q,o,raw,ep,e,c,dd,e1,λy hy=>?_,by rw[<-iS q];exact nd⟩
 have:∀{us:bV} {xs:XsL},Paired EX us xs->∀y∈xs,∃u∈us,EX u y:=by
  intro us xs q
  induction q with
  |nil=>intro y hy;cases hy
  |cons h t ih=>
   intro y hy;rcases List.mem_cons.mp hy with rfl | hy9
   ·exact⟨_,List.mem_cons_self ..,h⟩
   ·obtain⟨u,hu,e⟩:=ih y hy9;exact⟨u,List.mem_cons_of_mem _ hu,e⟩
 obtain⟨u,hu,e2⟩:=this q y hy;rw[<-e2.1,<-e2.2.1];exact ny I gh (m.mem u hu)
theorem y4{h:Heap}{P:Program}{w:World}{a:Addr}{us:bV}{xs:XsL}(hm:h.DictOfH (Ti P w) a xs)(q:Paired EX us xs)(notm:(a==sysModules)=false)(z:us.length<=1000000):∃ep,DAt a us ep h:=by
 obtain⟨o,raw,ep,e,c,dd,e1,_,_⟩:=hm;exact⟨ep,notm,z,o,raw,e,c,dd,by rw[e1];exact t_ q⟩
theorem mX{P:Program}{w:World}{H:Hp}{h:Heap}{a:Addr}{us:bV}{ep:Nat}(x:DAt a us ep h):bG P w H h a (.ext (DAt a us ep)):=⟨x,let⟨_,_,o,_,e,_⟩:=x;⟨o,e⟩,λ_ _ z k=>z.at k⟩
noncomputable def Cv(K:PySem.W.Frag):V->V->V->Hp->(Hp->Prop)->Prop:=λo i v H Q=>∃a us ep b k G es,o=.ref a/\i=.ref b/\H a=some (.ext (DAt a us ep))/\aR G H/\SqT K G b (k.map V.int)/\(us.map (·.1)).Nodup/\DenM K G us es/\us.length<1000000/\∀ep',Q (upd H a (.ext (DAt a (i5 us k b v) ep')))
theorem wM(hu:X.A.units+1<cLine):Cb X (Cv X.K):=by
 intro pins s σ H o i v ov iv u Q I ro ri rv h;obtain⟨a,us,ep,b,k,G,es,rfl,rfl,ha,gh,hb,nd,m,hz,q⟩:=h;cases ro;cases ri;have x:DAt a us ep s.heap:=(show bG X.prog X.w H s.heap a (.ext (DAt a us ep)) from I.hok a _ ha).1;obtain⟨xs,p,dh⟩:=wR I gh x nd m;have lx:xs.length=us.length:=by simpa using(congrArg List.length (iS p)).symm
 refine wpAny_setItem_heap (knd:=Ti X.prog X.w) (hsz:=by rw[lx];exact Nat.le_of_lt (Nat.lt_trans hz (by decide))) (show X.A.in1.units<cLine from hu) (ny I gh hb) dh λh' dh' same=>?_;rw[kC k b u xs (by rw[<-iS p];exact nd)] at dh';obtain⟨ep',x'⟩:=y4 dh' (vK (k:=k) (b:=b) rv p) x.1 (Nat.le_trans (oU ..) hz);exact⟨_,I.write (t':=_) (by rw[ha];trivial) (.inl rfl) (λb u hb e=>same.extBut b u hb e) (let⟨_,_,o,_,e,_⟩:=x';⟨o,e⟩) (mX x'),q ep'⟩
end
theorem EnvD.putOD{K:PySem.W.Frag}{He G H G' H':Hp}{σ:L2.St}{ε:Ev}{i:Nat}{a:Addr}{us:bV}{ep:Nat}{ds:List (List Int×D)}(E:EnvD K He G H σ ε)(g:Grow G H G' H')(heH:aR He H)(hn:H a=none)(gn:G' a=none)(ha:H' a=some (.ext (DAt a us ep)))(nd:(us.map (·.1)).Nodup)(hd:DenM K G' us ds) :
  EnvD K He G' H' (σ.set i (some (.ref a))) (ε.set i (.odi ds)) where
 len:=by rw[List.length_set,List.length_set];exact E.len
 dat:=λ{j d'} e=>by
  rw[List.getElem?_set] at e ⊢
  by_cases z:i=j
  ·rw[if_pos z] at e;split at e<;>cases e
  ·rw[if_neg z] at e ⊢
   exact(E.grow g).dat e
 odi:=λ{j ds'} e=>by
  rw[List.getElem?_set] at e ⊢
  by_cases z:i=j
  ·rw[if_pos z] at e ⊢
   subst z;rw[E.len];split at e
   ·rename_i hl;cases e;exact⟨a,us,ep,by rw[if_pos hl],ha,gn,heH.free hn,nd,hd⟩
   ·cases e
  ·rw[if_neg z] at e ⊢
   exact(E.grow g).odi e
 apartD:=λ{j k ds' es b} e1 e2 h1 h2=>by
  rw[List.getElem?_set] at e1 e2 h1 h2
  have key:∀{m:Nat} {es:List (List Int×D)},ε[m]?=some (.odi es)->σ[m]?=some (some (.ref a))->False:=λ{m es} q1 q2=>by
   obtain⟨b',ys,ep',w1,w2,_⟩:=E.odi q1;rw[q2] at w1;cases w1;rw[hn] at w2;cases w2
  by_cases z:i=j
  ·by_cases z2:i=k
   ·rw[<-z,<-z2]
   ·rw[if_pos z] at h1
    rw[if_neg z2] at e2 h2;split at h1
    ·cases h1;exact(key e2 h2).elim
    ·cases h1
  ·by_cases z2:i=k
   ·rw[if_neg z] at e1 h1
    rw[if_pos z2] at h2;split at h2
    ·cases h2;exact(key e1 h1).elim
    ·cases h2
   ·rw[if_neg z] at e1 h1
    rw[if_neg z2] at e2 h2;exact E.apartD e1 e2 h1 h2
 own:=λ{j ds'} e=>by
  rw[List.getElem?_set] at e ⊢
  by_cases z:i=j
  ·rw[if_pos z] at e;split at e<;>cases e
  ·rw[if_neg z] at e ⊢
   exact(E.grow g).own e
 apart:=λ{j k ds es a} e1 e2 h1 h2=>by
  rw[List.getElem?_set] at e1 e2 h1 h2
  by_cases z:i=j
  ·rw[if_pos z] at e1;split at e1<;>cases e1
  ·by_cases z2:i=k
   ·rw[if_pos z2] at e2;split at e2<;>cases e2
   ·rw[if_neg z] at e1 h1
    rw[if_neg z2] at e2 h2;exact E.apart e1 e2 h1 h2
theorem Sta.writeD{K:PySem.W.Frag}{He Ge G H:Hp}{σ:L2.St}{ε:Ev}{i:Nat}{a:Addr}{us vs:bV}{ep ep':Nat}{ds es:List (List Int×D)}(S:Sta K He Ge G H σ ε)(ei:ε[i]?=some (.odi ds))(hs:σ[i]?=some (some (.ref a)))(ha:H a=some (.ext (DAt a us ep)))(nd:(vs.map (·.1)).Nodup)(hd:DenM K G vs es) :
  Sta K He Ge G (upd H a (.ext (DAt a vs ep'))) σ (ε.set i (.odi es)):=by
 obtain⟨a',us',ep2,h1,h2,h3,h4,h5⟩:=S.e.odi ei;rw[hs] at h1;cases h1;have keep:∀{b:Addr} {o:HO},b≠a->H b=some o->upd H a (.ext (DAt a vs ep')) b=some o:=λ{b o} n e=>by rw[aT n];exact e
 refine⟨⟨λb o e=>keep (aH e h4) (S.g.hh b o e),S.g.gg,λb o e=>keep (aH e h3) (S.g.gh b o e),S.g.fo⟩,?_⟩;have hil:i<ε.length:=(List.getElem?_eq_some_iff.mp ei).1
 have own_of:∀{m:Nat} {fs:List D},(ε.set i (.odi es))[m]?=some (.own fs)->ε[m]?=some (.own fs):=λ{m fs} e=>by
  rw[List.getElem?_set] at e
  by_cases z:i=m
  ·rw[if_pos z] at e;split at e<;>cases e
  ·rw[if_neg z] at e;exact e
 have odi_of:∀{m:Nat} {fs:List (List Int×D)},(ε.set i (.odi es))[m]?=some (.odi fs)->∃gs,ε[m]?=some (.odi gs):=λ{m fs} e=>by
  rw[List.getElem?_set] at e
  by_cases z:i=m
  ·subst z;exact⟨_,ei⟩
  ·rw[if_neg z] at e;exact⟨_,e⟩
 refine⟨by rw[List.length_set];exact S.e.len,λ{j d} e=>?_,λ{j fs} e=>?_,λ{j k fs gs b} e1 e2 w1 w2=>S.e.apart (own_of e1) (own_of e2) w1 w2,λ{j fs} e=>?_,λ{j k fs gs b} e1 e2 w1 w2=>?_⟩
 ·rw[List.getElem?_set] at e
  by_cases z:i=j
  ·rw[if_pos z] at e;split at e<;>cases e
  ·rw[if_neg z] at e;exact S.e.dat e
 ·obtain⟨b,zs,w1,w2,w3⟩:=S.e.own (own_of e)
  exact⟨b,zs,w1,keep (λq=>by subst q;rw[ha] at w2;cases w2) w2,w3⟩
 ·rw[List.getElem?_set] at e
  by_cases z:i=j
  ·rw[if_pos z,if_pos (z▸hil)] at e
   cases e;subst z;exact⟨a,vs,ep',hs,aN,h3,h4,nd,hd⟩
  ·rw[if_neg z] at e
   obtain⟨b,zs,ep3,w1,w2,w3,w4,w5⟩:=S.e.odi e;refine⟨b,zs,ep3,w1,keep (λq=>z ?_) w2,w3,w4,w5⟩;subst q;exact S.e.apartD ei e hs w1
 ·obtain⟨_,q1⟩:=odi_of e1
  obtain⟨_,q2⟩:=odi_of e2;exact S.e.apartD q1 q2 w1 w2
noncomputable def yB:D->Option (List Int)
 |.tup ds=>bR ds
 |_=>none
theorem j8{K:PySem.W.Frag}{G H:Hp}{v:V}{d:D}{k:List Int}(gh:aR G H)(h:b8 K G H v d)(e:yB d=some k):∃b,v=.ref b/\SqT K G b (k.map V.int):=by
 cases d with
 |tup ds=>
  obtain⟨a,xs,rfl,h1,_,h3⟩:=h.tup gh;have:=cE h3 e;subst this;exact⟨a,rfl,h1⟩
 |_=>cases e
section
variable{X:Cx}{a b c:Expr}{fa fb fc:Ev->Option D}{pos:Pos}
theorem AR{pins:List (Addr×Obj)}{σ:L2.St}{H:Hp}{s:Shared}(I:Inv X pins σ H s):(s.heap.objs.size==sysModules)=false:=by
 have h:mainGlobals<s.heap.objs.size:=(I.mod.glob.keeps I.bk).lt;exact beq_eq_false_iff_ne.mpr (Nat.ne_of_gt (Nat.lt_trans (show sysModules<mainGlobals by decide) h))
theorem vN{pins:List (Addr×Obj)}{σ:L2.St}{H:Hp}{s:Shared}(I:Inv X pins σ H s):DAt s.heap.objs.size [] 0 (s.heap.push { cls:=.type "dict",data:=.dict #[] }):=
 ⟨AR I,Nat.zero_le _,_,#[],Heap.get?_push_size _ rfl,⟨rfl,rfl,rfl⟩,rfl,.nil⟩
noncomputable def tD0:TE:=λ_ H Q=>∀p,H p=none->Q (.ref p) (upd H p (.ext (DAt p [] 0)))
theorem BN:PE X (.Dict [] [] pos) tD0:=λpins s σ H Q I h=>
 wpAny_Dict_empty ⟨.ref s.heap.objs.size,_,I.laid (a:=s.heap.objs.size) (t':=s.toks) (λ_ _ q=>Heap.get?_push_of_some _ q) (Nat.le_refl _) (mX (vN I)),rfl,h _ (I.hok.fresh (Nat.le_refl _))⟩
noncomputable def tD1(K:PySem.W.Frag)(tk tv:TE):TE:=λσ H Q=>∀p,H p=none->tk σ (upd H p (.ext (DAt p [] 0))) λy H1=>tv σ H1 λx H2=>∃b k G,y=.ref b/\H2 p=some (.ext (DAt p [] 0))/\aR G H2/\SqT K G b (k.map V.int)/\∀ep,Q (.ref p) (upd H2 p (.ext (DAt p [(k,b,x)] ep)))
theorem Ck{tk tv:TE}(hu:X.A.units<cLine)(hk:PE X a tk)(hv:PE X b tv):PE X (.Dict [some a] [b] pos) (tD1 X.K tk tv):=by
 intro pins s σ H Q I h;rw[arm_eval_Dict,zip_pairTrees [some a] [b] X.env pos rfl rfl,dictDisplay_pairs _ (by simp[pairTrees]) (by simp[pairTrees])];have nn:H s.heap.objs.size=none:=I.hok.fresh (Nat.le_refl _);unfold subDict;refine wpAny_bind (wpAny_standAt (wpAny_bind ?_));refine wpAny_bind (wpAny_alloc (wpAny_bind (wpAny_holding ?_)));rw[if_pos (by simp[pairTrees])];have I1:=I.laid (a:=s.heap.objs.size) (t':=s.toks) (λ_ _ q=>Heap.get?_push_of_some _ q) (Nat.le_refl _) (mX (P:=X.prog) (w:=X.w) (H:=upd H s.heap.objs.size (.ext (DAt s.heap.objs.size [] 0))) (vN I));refine wpAny_bind (pairTrees_cons_walk (thn (hk pins _ σ _ _ I1 (h _ nn)) λkv s2 ⟨y,H2,I2,ry,q2⟩=>thn (hv pins s2 σ H2 _ I2 q2) λvv s3 ⟨x,H3,I3,rx,q3⟩=>pairTrees_nil_walk ?_));obtain⟨bb,k,G,rfl,h3,gh,hb,q⟩:=q3;cases ry;have x0:DAt s.heap.objs.size [] 0 s3.heap:=(show bG X.prog X.w H3 s3.heap s.heap.objs.size (.ext (DAt s.heap.objs.size [] 0)) from I3.hok _ _ h3).1;obtain⟨xs,p,dh⟩:=wR I3 gh x0 List.nodup_nil (es:=[]) .nil;cases p;rw[List.forIn_cons];refine wpAny_holding (wpAny_bind ?_);refine wpAny_bind (wpAny_bind (wpAny_dictSet_heap (knd:=Ti X.prog X.w) (show X.A.units<cLine from hu) (ny I3 gh hb) dh (hsz:=Nat.zero_le _) λh' dh' same=>wpAny_pure ?_));obtain⟨ep,x'⟩:=y4 (us:=[(k,bb,x)]) dh' (.cons ⟨rfl,rfl,rx⟩ .nil) x0.1 (show 1<=1000000 by decide);show wpAny _ _ (forIn [] _ _) _ _ _;rw[List.forIn_nil];refine wpAny_pure (wpAny_pure (wpAny_pure (wpAny_pure ⟨.ref s.heap.objs.size,_,I3.write (t':=_) (by rw[h3];trivial) (.inl rfl) (λb u hb e=>same.extBut b u hb e) (let⟨_,_,o,_,e,_⟩:=x';⟨o,e⟩) (mX x'),rfl,q ep⟩)))
noncomputable def DFD(X:Cx)(e:Expr)(f:Ev->Option (List (List Int×D))):Prop:=∃t,PE X e t/\∀(He G H:Hp) (σ:L2.St) (ε:Ev) (es:List (List Int×D)) (Q:VK),aR G H->EnvD X.K He G H σ ε->f ε=some es->
 (∀p us ep G' H',Grow G H G' H'->H p=none->G' p=none->H' p=some (.ext (DAt p us ep))->(us.map (·.1)).Nodup->DenM X.K G' us es->Q (.ref p) H')->t σ H Q
noncomputable def fD0:Ev->Option (List (List Int×D)):=λ_=>some []
theorem B6:DFD X (.Dict [] [] pos) fD0:=⟨_,BN,λHe G H σ ε es Q gh E ef q p hp=>by cases ef;exact q p [] 0 G _ (.lay _ gh hp) hp (gh.free hp) aN List.nodup_nil .nil⟩
noncomputable def fD1(fk fv:Ev->Option D):Ev->Option (List (List Int×D)):=λε=>(fk ε).bind λk=>(fv ε).bind λd=>(yB k).bind λn=>some [(n,d)]
theorem BW{kk:Nat}(hr:Room kk X.A)(hk:DE X a fa)(hv:DE X b fb):DFD X (.Dict [some a] [b] pos) (fD1 fa fb):=by
 obtain⟨t,a1,a2⟩:=hk;obtain⟨u,b1,b2⟩:=hv;refine⟨_,Ck (by have:=hr.un;lia) a1 b1,λHe G H σ ε es Q gh E ef q p hp=>?_⟩;obtain⟨dk,e1,ef⟩:=aq ef;obtain⟨dv,e2,ef⟩:=aq ef;obtain⟨n,e3,ef⟩:=aq ef;cases ef;have g0:Grow G H G (upd H p (.ext (DAt p [] 0))):=.lay _ gh hp;have gp:G p=none:=gh.free hp;refine a2 He G _ σ ε dk _ g0.gh (E.grow g0) e1 λy G1 H1 g1 d1=>?_;refine b2 He G1 H1 σ ε dv _ g1.gh ((E.grow g0).grow g1) e2 λx G2 H2 g2 d2=>?_;obtain⟨bb,rfl,hb⟩:=j8 g2.gh (.inl (d1.mono g2.gg)) e3;have h1:H1 p=some (.ext (DAt p [] 0)):=g1.hh _ _ aN;have h2:=g2.hh _ _ h1;have n1:G1 p=none:=g1.fo _ _ aN gp;have n2:G2 p=none:=g2.fo _ _ h1 n1;refine⟨bb,n,G2,rfl,h2,g2.gh,hb,λep=>?_⟩;have gr:=g1.trans g2;refine q p [(n,bb,x)] ep G2 _ ⟨λb o e=>?_,gr.gg,λb o e=>?_,λb o e z=>gr.fo b o (g0.hh b o e) z⟩ hp n2 aN (by simp) (.cons hb d2 .nil)
 ·rw[aT (aH e hp)];exact gr.hh b o (g0.hh b o e)
 ·rw[aT (aH e n2)];exact gr.gh b o e
noncomputable def AY(i:Nat)(f:Ev->Option (List (List Int×D))):Ev->Option Fl:=λε=>(f ε).map λd=>Fl.nx (ε.set i (.odi d))
theorem ud(i:Nat){x:Str}{pos':Pos}{f:Ev->Option (List (List Int×D))}(hN:X.N.Nodup)(ha:DFD X a f)(hi:X.N[i]?=some x:=by rfl)(hx:Loc X.env.scope x:=by first | exact Or.inl rfl | exact Or.inr rfl)(hs:swapsWith a (some (.Name x pos')) pos.line X.env=pure false:=by rfl)
  (hf:X.fn x=true\/X.env.scope.names.lookup x=some .local:=by first | exact .inl rfl | exact .inr rfl):DS X (.Assign [.Name x pos'] a pos) (AY i f):=by
 obtain⟨t,a1,a2⟩:=ha;refine⟨_,qu hN hi hx a1 hs hf,λHe Ge G H σ ε r W S e P=>?_⟩;obtain⟨d,e1,rfl⟩:=br e;exact a2 He G H σ ε d _ S.g.gh S.e e1 λp us ep G' H' g hn gn hl nd hd=>P _ G' H' ⟨S.g.trans g,S.e.putOD g S.g.hh hn gn hl nd hd⟩
noncomputable def zx(i:Nat)(fk f:Ev->Option D):Ev->Option Fl:=λε=>(f ε).bind λd=>(fk ε).bind λk=>(yB k).bind λn=>match ε[i]? with
 |some (.odi es)=>if es.length<1000000 then some (.nx (ε.set i (.odi (pP es n d)))) else none
 |_=>none
theorem w9(i:Nat){x:Str}{p1 p2:Pos}{k:Expr}{fk:Ev->Option D}{kk:Nat}(hr:Room kk X.A)(ha:DE X a fa)(hk:DE X k fk)(hN:X.N[i]?=some x:=by rfl)(hv:Vis X.env.scope x:=by first | exact Or.inl rfl | exact Or.inr (Or.inl rfl))(hd:(x==("__debug__" : Str))=false:=by decide)
  (hcd:(x==("__classdict__" : Str))=false:=by decide)
  (hasg:∀v,assign (.Subscript (.Name x p1) k p2) X.env v=(do
   let ov<-holding [v] (eval (.Name x p1) X.env);let iv<-holding [v,ov] (eval k X.env)
   standAt p2
   holding [v,ov,iv] (setItem ov iv v)
   release [v,ov,iv] []):=by intro _;rfl)
  (hs:swapsWithSole [.Subscript (.Name x p1) k p2] a pos.line X.env=pure false:=by rfl) (hw:swappedStores [.Subscript (.Name x p1) k p2] a X.env=pure none:=by rfl)
  (h1:(assignEach [.Subscript (.Name x p1) k p2] X.env).map (·.2)=[assign (.Subscript (.Name x p1) k p2) X.env]:=by rfl) :
  DS X (.Assign [.Subscript (.Name x p1) k p2] a pos) (zx i fk fa):=by
 obtain⟨t,a1,a2⟩:=ha;obtain⟨u,b1,b2⟩:=hk;refine⟨_,uY a1 (Ah (ll hN hv hd hcd) b1 (wM (by have:=hr.un;lia)) hasg) hs hw h1,λHe Ge G H σ ε r W S e P=>?_⟩;obtain⟨d,e1,e⟩:=aq e;obtain⟨dk,e2,e⟩:=aq e;obtain⟨n,e3,e⟩:=aq e;split at e
 ·rename_i es ei
  split at e
  ·rename_i hl
   cases e;refine a2 He G H σ ε d _ S.g.gh S.e e1 λv G1 H1 g1 hd1=>?_;have S1:=S.grow g1;obtain⟨l,us,ep,w1,w2,w3,w4,w5,w6⟩:=S1.e.odi ei;refine⟨_,w1,?_⟩;refine b2 He G1 H1 σ ε _ _ S1.g.gh S1.e e2 λv2 G2 H2 g2 hd2=>?_;have S2:=S1.grow g2;obtain⟨l',us',ep',z1,z2,z3,z4,z5,z6⟩:=S2.e.odi ei;rw[w1] at z1;cases z1;obtain⟨bb,rfl,hb⟩:=j8 g2.gh (.inl hd2) e3;exact⟨l,us',ep',bb,n,G2,es,rfl,rfl,z2,S2.g.gh,hb,z5,z6,by rw[z6.len];exact hl,λep2=>P σ G2 _ (S2.writeD ei w1 z2 (qC z5) (z6.put hb (hd1.mono g2.gg)))⟩
  ·cases e
 ·cases e
noncomputable def BL(K:PySem.W.Frag):V->List V->Hp->VK->Prop:=λx xs H Q=>∃a us ep b k y G es,x=.ref a/\xs=[.ref b,y]/\H a=some (.ext (DAt a us ep))/\aR G H/\SqT K G b (k.map V.int)/\(us.map (·.1)).Nodup/\DenM K G us es/\(∀b' v,(k,b',v)∈us->Q v H)/\(k∉us.map (·.1)->Q y H)
theorem Bt(hu:X.A.units+1<cLine):MtM X "dict.get" (BL X.K):=by
 intro pins s σ H x xs v vs Q I rx rv h;obtain⟨a,us,ep,b,k,y,G,es,rfl,rfl,ha,gh,hb,nd,m,q1,q2⟩:=h;cases rx;obtain⟨u1,u2,rfl,r1,r2⟩:=rv.two;cases r1;have x0:DAt a us ep s.heap:=(show bG X.prog X.w H s.heap a (.ext (DAt a us ep)) from I.hok a _ ha).1;obtain⟨xs,p,dh⟩:=wR I gh x0 nd m;refine call_meetsIn PySem.F.slot_dict_get dh.typeIs PySem.F.entry_dict_get (PySem.F.args_dict_get_3 _ _ _) (meetsH_dict_get_default (Ti X.prog X.w) a b x0.1 u2) ⟨(show X.A.in1.units<cLine from hu),k,xs,ny I gh hb,dh,?_⟩;have I':Inv X pins σ H { s with toks:=s.toks+(Ti X.prog X.w).draws k }:=I.kept (t':=_) λ_ _ e=>e;cases e:atKey xs k with
 |none=>exact⟨y,H,I',r2,q2 (by rw[iS p];exact rE e)⟩
 |some z=>
  obtain⟨b',v,h1,h2⟩:=Cz p e;exact⟨v,H,I',h2,q1 b' v h1⟩
noncomputable def tMD(r:V->List V->Hp->VK->Prop)(to:TE)(t:TA):TE:=λσ H Q=>to σ H λx H1=>(∃p us ep,x=.ref p/\H1 p=some (.ext (DAt p us ep)))/\t σ H1 λxs H2=>r x xs H2 Q
theorem wV{pins:List (Addr×Obj)}{σ:L2.St}{H:Hp}{s:Shared}(I:Inv X pins σ H s){p:Addr}{us:bV}{ep:Nat}(h:H p=some (.ext (DAt p us ep))):s.TypeIs (.ref p) "dict"/\∀a,Value.ref p=.ref a->∃ob,s.heap.get? a=some ob/\ob.dict=none:=by
 obtain⟨_,_,o,raw,e,c,_⟩:=(show bG X.prog X.w H s.heap p (.ext (DAt p us ep)) from I.hok p _ h).1;exact⟨⟨o,e,c.1⟩,λa z=>by cases z;exact⟨o,e,c.2.1⟩⟩
theorem B5{o e:Expr}{es:List Expr}{to:TE}{t:TA}{name:Str}{apos cpos:Pos}{id:String}{r:V->List V->Hp->VK->Prop}(slot:Slot "dict" name id)(hty:typeOf (.builtin id)=pure (.type "method_descriptor"))(hm:MtM X id r)(ho:PE X o to)(ha:PA X (e::es) t)
  (hbase:attributeBase o name X.env (eval o X.env)=eval o X.env:=by rfl)
  (hfew:((backTo cpos (starEach (e::es) X.env)).all (λx=>!x.1)&&(backToKw cpos (keywordEach [] X.env)).all (λx=>x.1.isSome)
   && decide ((e::es).length+([]:List Keyword).length+(if([]:List Keyword).isEmpty then 0 else 1)<30))=true:=by rfl)
  (hline:(apos.endLine==cpos.line)=true:=by rfl) (hs:starEach (e::es) X.env=(false,eval e X.env)::starEach es X.env:=by rfl) (hplain:(backTo cpos (starEach es X.env)).any (·.1)=false:=by rfl) :
  PE X (.Call (.Attribute o name apos) (e::es) [] cpos) (tMD r to t):=by
 intro pins s σ H Q I h;refine wpAny_Call_method_late hbase hfew hline rfl (thn (ho pins s σ H _ I h) λv s1 ⟨x,H1,I1,r1,⟨p,us,ep,ex,eh⟩,q1⟩=>?_);subst ex;cases r1;obtain⟨h1,h2⟩:=wV I1 eh;refine⟨"dict",id,PySem.F.plainAttrs_dict,slot,hty,h1,h2,?_⟩;have hA:=ha cpos pins s1 σ H1 _ I1 q1;rw[hs] at hA ⊢;refine Calls.callWith_builtin (by show(false || (backTo cpos (starEach es X.env)).any (·.1))=false;rw[hplain]<;>rfl) (Calls.evalArgs_plain ?_);exact thn hA λus s2 ⟨vs,H2,I2,r2,q2⟩=>hm pins s2 σ H2 (.ref p) vs (.ref p) us Q I2 (show Value.ref p=Value.ref p from rfl) r2 q2
noncomputable def slD:Option Sl->Option (List (List Int×D))
 |some (.odi es)=>some es
 |some (.dat (.dic es))=>some es
 |_=>none
theorem zZ{K:PySem.W.Frag}{He G H:Hp}{σ:L2.St}{ε:Ev}{i:Nat}{es:List (List Int×D)}(gh:aR G H)(E:EnvD K He G H σ ε)(e:slD ε[i]?=some es):∃a us ep,σ[i]?=some (some (.ref a))/\H a=some (.ext (DAt a us ep))/\(us.map (·.1)).Nodup/\DenM K G us es:=by
 unfold slD at e;split at e
 ·rename_i es' e1
  cases e;obtain⟨a,us,ep,h1,h2,_,_,h5,h6⟩:=E.odi e1;exact⟨a,us,ep,h1,h2,h5,h6⟩
 ·rename_i es' e1
  cases e;obtain⟨v,h1,h2⟩:=E.dat e1;cases h2 with
  |dic h nd hs=>exact⟨_,_,_,h1,gh _ _ h,nd,hs⟩
 ·cases e
noncomputable def rP(i:Nat)(fk fc:Ev->Option D):Ev->Option D:=λε=>(slD ε[i]?).bind λes=>(fk ε).bind λk=>(fc ε).bind λd=>(yB k).bind λn=>some ((lkD es n).getD d)
theorem xc(i:Nat){x:Str}{p1 p2:Pos}{k:Expr}{fk:Ev->Option D}{kk:Nat}(hr:Room kk X.A)(hk:DE X k fk)(hc:DE X c fc)(hN:X.N[i]?=some x:=by rfl)(hv:Vis X.env.scope x:=by first | exact Or.inl rfl | exact Or.inr (Or.inl rfl))(hd:(x==("__debug__" : Str))=false:=by decide)
  (hcd:(x==("__classdict__" : Str))=false:=by decide)
  (hbase:attributeBase (.Name x p1) "get" X.env (eval (.Name x p1) X.env)=eval (.Name x p1) X.env:=by rfl)
  (hfew:((backTo pos (starEach [k,c] X.env)).all (λx=>!x.1)&&(backToKw pos (keywordEach [] X.env)).all (λx=>x.1.isSome)
   && decide (([k,c]:List Expr).length+([]:List Keyword).length+(if([]:List Keyword).isEmpty then 0 else 1)<30))=true:=by rfl)
  (hline:(p2.endLine==pos.line)=true:=by rfl) (hs:starEach [k,c] X.env=(false,eval k X.env)::starEach [c] X.env:=by rfl) (hs2:starEach [c] X.env=(false,eval c X.env)::starEach [] X.env:=by rfl) (hplain:(backTo pos (starEach [c] X.env)).any (·.1)=false:=by rfl) :
  DE X (.Call (.Attribute (.Name x p1) "get" p2) [k,c] [] pos) (rP i fk fc):=by
 obtain⟨t,a1,a2⟩:=hk;obtain⟨u,b1,b2⟩:=hc;refine⟨_,B5 PySem.F.slot_dict_get PySem.F.type_dict_get (Bt (by have:=hr.un;lia)) (ll hN hv hd hcd) (b7 a1 (b7 b1 da hs2) hs) hbase hfew hline hs hplain,λHe G H σ ε d Q gh E ef q=>?_⟩;obtain⟨es,e0,ef⟩:=aq ef;obtain⟨dk,e1,ef⟩:=aq ef;obtain⟨dc,e2,ef⟩:=aq ef;obtain⟨n,e3,ef⟩:=aq ef;cases ef;obtain⟨l,us,ep,w1,w2,w3,w4⟩:=zZ gh E e0;refine⟨_,w1,⟨l,us,ep,rfl,w2⟩,?_⟩;refine a2 He G H σ ε dk _ gh E e1 λy G1 H1 g1 d1=>?_;refine b2 He G1 H1 σ ε dc _ g1.gh (E.grow g1) e2 λz G2 H2 g2 d2=>?_;obtain⟨bb,rfl,hb⟩:=j8 g2.gh (.inl (d1.mono g2.gg)) e3;have m2:=(w4.mono g1.gg).mono g2.gg;refine⟨l,us,ep,bb,n,z,G2,es,rfl,rfl,g2.hh _ _ (g1.hh _ _ w2),g2.gh,hb,w3,m2,λb' v hm=>?_,λhn=>?_⟩
 ·obtain⟨d,f1,f2⟩:=m2.look w3 hm
  refine q v G2 H2 (g1.trans g2) ?_;rw[f1];exact f2
 ·refine q z G2 H2 (g1.trans g2) ?_
  rw[pQ (by rw[<-w4.keys];exact hn)];exact d2
end
end Dn
namespace RW2
open PySem PyProof.Rows
section
variable{prog:Program}{w:World}{A:Around}{E:Value->Shared->Prop}{s:Shared}{d:Addr}{od:Obj}{es:Array DictEntry}{ep:Nat}
theorem p9{Q:Value->Shared->Prop}(nm:(d==sysModules)=false)(g1:s.heap.get? d=some od)(g2:od.ExactDict)(q:Q (.ref s.heap.objs.size) { s with heap:=s.heap.push { cls:=.type "dict_items",data:=.fields #[.ref d] } }) :
  wpAny (model prog w) A (call (Value.builtin "dict.items") [Value.ref d]) Q E s:=by
 have ty:s.TypeIs (.ref d) "dict":=⟨od,g1,g2.1⟩;refine wpAny_call_entry PySem.F.slot_dict_items ty PySem.F.entry_dict_items ?_ (PySem.F.args_dict_items_1 _);unfold Builtin.«dict.items» Builtin.Dict.noArgs;refine wpAny_bind (wpAny_bind (wpAny_notOrdered_dict ty (show wpAny _ _ (pure d) _ _ s from wpAny_pure ?_)));show wpAny _ _ (Builtin.Dict.showsAll d>>=λ_=>_) _ _ s;unfold Builtin.Dict.showsAll;rw[if_neg (by rw[nm];decide)];exact wpAny_bind (wpAny_pure (wpAny_bind (wpAny_newObj_type (wpAny_pure ⟨_,rfl,q⟩))))
theorem pR{v:Addr}{Q:Value->Shared->Prop}(hv:s.heap.IsItemsView v d)(g1:s.heap.get? d=some od)(g3:od.data=.dict es ep)
  (q:Q (.ref s.heap.objs.size) { s with heap:=s.heap.push { cls:=.type "dict_itemiterator",data:=.fields #[.none,.bool false,.ref d,.int 0 0,.int es.size 0,.int ep 0,.none,.none] } }):wpAny (model prog w) A (pyIter (.ref v)) Q E s:=by
 have ty:=hv.typeIs;obtain⟨ov,v1,_,v3⟩:=hv;refine wpAny_pyIter_slot ty PySem.F.slot_dict_items_iter (wpAny_call_entry PySem.F.slot_dict_items_iter ty PySem.F.entry_dict_items_iter ?_ (PySem.F.args_dict_items_iter_1 _));unfold Builtin.«dict_items.__iter__» Builtin.Dict_items.dictOf Builtin.Dict_items.newIterator;refine wpAny_bind (wpAny_pure (wpAny_bind (wpAny_bind (wpAny_field v1 v3 (x:=.ref d) rfl (wpAny_pure (wpAny_bind (wpAny_bind (wpAny_dictEntries g1 g3 (wpAny_bind (wpAny_dictEpoch g1 g3 ?_))))))))));have own1:Builtin.Dict_items.ownsTuple "dict_itemiterator" = true:=by decide
 simp only[own1,if_true];refine wpAny_newObj_type (wpAny_pure ⟨_,rfl,"dict_itemiterator",_,⟨_,Heap.get?_push_size _ rfl,rfl⟩,PySem.F.slot_dict_itemiterator_next.lookup,?_⟩) (by simp only[sizeOk,Builtin.Dict_items.ownedTupleFields,List.size_toArray,List.length_append,List.length_cons,List.length_nil,sizeLine_eq];lia);simpa[rawInt,Builtin.Dict_items.ownedTupleFields] using q
theorem vP{B:Around}{Y:Value->Shared->Prop}{t:Shared}(hB:B.handled=none)(y:∀e h',(∀b o,t.heap.get? b=some o->h'.get? b=some o)->(∃o,h'.get? e=some o/\o.cls=.type "StopIteration")->Y (.ref e) { t with heap:=h' }){Z:Fin->Shared->Prop} :
  wpAny (model prog w) B (newExc (.type "StopIteration") []>>=λx=>raiseNew x) Z Y t:=by
 refine wpAny_bind ?_;simp only[newExc,newTuple];refine wpAny_bind (wpAny_newObj_type (wpAny_bind (m:=firstArgMember _ _) (wpAny_of_eq (a:=Value.none) (by first | rfl | (simp only[firstArgMember];rfl)) (wpAny_newObj_type ?_ (by size_fits)))) (by size_fits));simp only[raiseNew];refine wpAny_bind (wpAny_handled ?_);rw[show B.handled=none by exact hB];exact wpAny_bind (wpAny_pure (wpAny_throw (y _ _ (λb o e=>Heap.get?_push_of_some _ (Heap.get?_push_of_some _ e)) ⟨_,Heap.get?_push_size _ rfl,rfl⟩)))
theorem kj{it:Addr}{i:Nat}{ok ov:Value}{Q:Option Value->Shared->Prop}(hh:A.handled=none)(hit:IsItemIter s.heap it d i es.size ep ok ov)(g1:s.heap.get? d=some od)(g3:od.data=.dict es ep)
  (some_:∀(lt:i<es.size) h',IsItemIterOut h' it d (i+1) es.size ep es[i].key es[i].val s.heap.objs.size->h'.get? s.heap.objs.size=some { cls:=.type "tuple",data:=.seq #[es[i].key,es[i].val] }->(∀b o,b≠it->s.heap.get? b=some o->h'.get? b=some o)->Q (some (.ref s.heap.objs.size)) { s with heap:=h' })
  (none_:es.size<=i->∀h',Heap.ExtBut it s.heap h'->Q none { s with heap:=h' }):wpAny (model prog w) A (pyNext (.ref it)) Q E s:=by
 have ty:s.TypeIs (.ref it) "dict_itemiterator":=⟨_,hit,rfl⟩;unfold pyNext;refine wpAny_bind (wpAny_attempt (wpAny_callSpecial?_slot (name:=Str.ofString "__next__") ty PySem.F.slot_dict_itemiterator_next (wpAny_call_entry PySem.F.slot_dict_itemiterator_next ty PySem.F.entry_dict_itemiterator_next ?_ (PySem.F.args_dict_itemiterator_next_1 _))));refine wpAny_bind (wpAny_pure (wpAny_bind (wpAny_bind ?_)))
 first | refine wpAny_bind (wpAny_typeNameOfWhole_itemiter ty (wpAny_pure (wpAny_bind (wpAny_fieldsOf hit rfl ?_)))) | refine wpAny_bind (wpAny_typeNameOf_itemiter ty (wpAny_pure (wpAny_bind (wpAny_fieldsOf hit rfl ?_))))
 have own1:Builtin.Dict_items.ownsTuple "dict_itemiterator" = true:=by decide
 simp only[own1,if_true];show wpAny _ _ (if(Value.ref d==Value.none)=true then _ else _) (λ_ _=>_) _ s;rw[if_neg (show ¬ ((Value.ref d==Value.none)=true) by exact Bool.false_ne_true)];refine wpAny_bind (wpAny_pure (wpAny_bind (wpAny_dictEntries g1 g3 ?_)));rw[if_neg (by simp)];refine wpAny_bind (wpAny_pure (wpAny_bind (wpAny_dictEpoch g1 g3 ?_)));rw[if_neg (by simp)];refine wpAny_pure ?_
 by_cases lt:i<es.size
 ·simp only[show ¬ ((i:Int)<0) from by lia,if_false,Int.toNat_natCast,Array.getElem?_eq_getElem lt]
  refine wpAny_bind ?_
  first | refine wpAny_bind (wpAny_typeNameOfWhole_itemiter ty (wpAny_pure (wpAny_bind (wpAny_isOneOf_itemiter ty ?_)))) | refine wpAny_bind (wpAny_typeNameOf_itemiter ty (wpAny_pure (wpAny_bind (wpAny_isOneOf_itemiter ty ?_))))
  show wpAny _ _ (setField (.ref it) 3 (rawInt ((i:Int)+1))>>=λ_=>_) _ _ s;refine wpAny_bind (wpAny_setField_rec hit (by simp) λh1 r1 s1=>?_)
  replace s1:Heap.SameBut it s.heap h1:=s1
  have r1':IsItemIter h1 it d (i+1) es.size ep ok ov:=by
   unfold IsItemIter;rw[show((i+1:Nat):Int)=(i:Int)+1 by lia];simpa[rawInt] using r1
  have ty1:({ s with heap:=h1 }:Shared).TypeIs (.ref it) "dict_itemiterator":=⟨_,r1',rfl⟩;refine wpAny_bind (wpAny_holding (wpAny_bind (wpAny_isOneOf_itemiter ty1 (wpAny_bind (wpAny_isOneOf_itemiter ty1 ?_)))));show wpAny _ _ (Builtin.Dict_items.pairFromOwner (.ref it) 6 es[i].key es[i].val) _ _ { s with heap:=h1 };unfold Builtin.Dict_items.pairFromOwner;refine wpAny_bind (wpAny_newTuple ?_);have z1:h1.objs.size=s.heap.objs.size:=s1.1;have il:it<s.heap.objs.size:=Heap.lt_size hit;generalize eh:h1.push { cls:=.type "tuple",data:=.seq #[es[i].key,es[i].val] }=h2;have r2:IsItemIter h2 it d (i+1) es.size ep ok ov:=eh▸Heap.get?_push_of_some _ r1';have t2:h2.get? s.heap.objs.size=some { cls:=.type "tuple",data:=.seq #[es[i].key,es[i].val] }:=by rw[<-eh,<-z1];exact Heap.get?_push_size _ rfl
  have k2:∀b o,b≠it->s.heap.get? b=some o->h2.get? b=some o:=λb o nb e=>eh▸Heap.get?_push_of_some _ (s1.extBut b o nb e);have z1':({ s with heap:=h1 }:Shared).heap.objs.size=s.heap.objs.size:=s1.1;rw[z1'];show wpAny _ _ (Builtin.Dict_items.ownedTupleIsFree (.ref it)>>=λ_=>_) _ _ { s with heap:=h2 };refine wpAny_bind ?_;unfold Builtin.Dict_items.ownedTupleIsFree;refine wpAny_bind (wpAny_field (s:={ s with heap:=h2 }) r2 rfl (x:=.none) rfl (wpAny_pure ?_));simp only[if_true];refine wpAny_bind (wpAny_field (s:={ s with heap:=h2 }) r2 rfl (x:=ok) rfl (wpAny_bind (wpAny_field (s:={ s with heap:=h2 }) r2 rfl (x:=ov) rfl (wpAny_bind (wpAny_setField_rec (s:={ s with heap:=h2 }) r2 (by simp) λh3 r3 s3=>?_)))))
  replace r3:IsItemIter h3 it d (i+1) es.size ep es[i].key ov:=r3
  replace s3:Heap.SameBut it h2 h3:=s3
  refine wpAny_bind (wpAny_setField_rec (s:={ s with heap:=h3 }) r3 (by simp) λh4 r4 s4=>?_)
  replace r4:IsItemIter h4 it d (i+1) es.size ep es[i].key es[i].val:=r4
  replace s4:Heap.SameBut it h3 h4:=s4
  refine wpAny_bind (wpAny_setField_rec (s:={ s with heap:=h4 }) r4 (by simp) λh5 r5 s5=>?_)
  replace r5:IsItemIterOut h5 it d (i+1) es.size ep es[i].key es[i].val s.heap.objs.size:=r5
  replace s5:Heap.SameBut it h4 h5:=s5
  refine wpAny_bind (wpAny_setField_rec (s:={ s with heap:=h5 }) r5 (by simp) λh6 r6 s6=>?_)
  replace r6:IsItemIterOut h6 it d (i+1) es.size ep es[i].key es[i].val s.heap.objs.size:=r6
  replace s6:Heap.SameBut it h5 h6:=s6
  have all:∀b o,b≠it->h2.get? b=some o->h6.get? b=some o:=λb o nb e=>s6.extBut b o nb (s5.extBut b o nb (s4.extBut b o nb (s3.extBut b o nb e)));exact wpAny_bind (wpAny_letGo (wpAny_pure (wpAny_pure ⟨_,rfl,wpAny_pure (some_ lt h6 r6 (all _ _ (Nat.ne_of_gt il) t2) λb o nb e=>all b o nb (k2 b o nb e))⟩)))
 ·have ge:es.size<=i:=Nat.le_of_not_lt lt
  simp only[show ¬ ((i:Int)<0) from by lia,if_false,Int.toNat_natCast,Array.getElem?_eq_none ge];have gone:∀{R:Unit->Shared->Prop} {X:Value->Shared->Prop},R () { s with heap:=s.heap.update it (Obj.mapFields (·.setIfInBounds 2 Value.none)) }->wpAny (model prog w) A.in1 (setField (.ref it) 2 .none) R X s:=λr=>wpAny_setField hit rfl (by simp) r
  first | refine wpAny_bind (wpAny_bind (wpAny_typeNameOfWhole_itemiter ty (wpAny_pure (wpAny_bind (gone ?_))))) | refine wpAny_bind (wpAny_bind (wpAny_typeNameOf_itemiter ty (wpAny_pure (wpAny_bind (gone ?_)))))
  refine vP (show A.in1.handled=none from hh) λe h' kp ⟨o,ho,hc⟩=>?_;exact wpAny_bind (wpAny_isInstance (b:=true) (T:="StopIteration") ⟨o,ho,hc⟩ isSubtype_stop (wpAny_pure (none_ ge _ λb o nb e=>kp b o ((Heap.SameBut.update ..).extBut b o nb e))))
end
end RW2
namespace Dn
open PySem PySem.Spec PyProof.Rows L2 RW2
theorem BS:entryFor table "dict_itemiterator.__iter__" = some Builtin.«dict_keyiterator.__iter__»:=PySem.entryFor_alias (id':="dict_keyiterator.__iter__") (by kernel_rfl) rfl (by decide +kernel) (by kernel_rfl)
theorem vU{α β:Type}{F:α->β->Prop}{i:Nat}:∀{l:List α} {r:List β},Paired F l r->∀{a},l[i]?=some a->∃b,r[i]?=some b/\F a b:=by
 induction i with
 |zero=>intro l r p a e;cases p with | nil=>simp at e | cons h t=>simp at e;subst e;exact⟨_,rfl,h⟩
 |succ i ih=>intro l r p a e;cases p with | nil=>simp at e | cons h t=>simp at e;obtain⟨b,h1,h2⟩:=ih t e;exact⟨b,by simpa using h1,h2⟩
noncomputable def Itd(d:Addr)(us:bV)(ep:Nat):It:=
 ⟨λi H=>H d=some (.ext (DAt d us ep))/\i<us.length,
  λi H v H'=>∃p u,us[i]?=some u/\v=.ref p/\H p=none/\H'=upd H p (.tup [.ref u.2.1,u.2.2]),
  λi H=>H d=some (.ext (DAt d us ep))/\us.length<=i⟩
theorem qx{P:Program}{w:World}{K:PySem.W.Frag}{es:List Expr}{k0:Nat}{tpos:Pos}(N d:Addr)(us:bV)(ep:Nat) :
  Turn P w K (.Tuple es k0 tpos) (Itd d us ep) [N] N (λi h=>∃ok ov,IsItemIter h N d i us.length ep ok ov) where
 mem:=by simp
 obj:=λi h ⟨ok,ov,st⟩ b hb=>by
  have e:b=N:=by simpa using hb
  subst e;exact⟨_,st,λv z=>by cases(show Data.fields _=Data.cell v from z)⟩
 keep:=λi h h' ⟨ok,ov,st⟩ k=>⟨ok,ov,k N (by simp) _ st⟩
 item:=by
  intro X hP hw hK hc i pins s σ H E I hf st hg;subst hP hw hK;obtain⟨ok,ov,h1⟩:=st;obtain⟨hd,lt⟩:=hg;obtain⟨f0,f1,f2,f3,f4,f5⟩:=hf N (by simp);obtain⟨nm,_,o,raw,g1,g2,g3,pr⟩:=(show bG X.prog X.w H s.heap d (.ext (DAt d us ep)) from I.hok d _ hd).1;have sz:raw.size=us.length:=by rw[pr.length];simp
  have hu:us[i]?=some us[i]:=by simp[lt]
  obtain⟨r,er,ek⟩:=vU pr hu;refine kj (I.ok.hd hc) (by rw[sz];exact h1) g1 g3 (λlt' h' ho hT hk=>⟨_,rfl,?_⟩) (λge=>by lia)
  have er':raw[i]=r:=by
   have:raw[i]?=some r:=by simpa using er
   rw[Array.getElem?_eq_getElem lt'] at this;exact Option.some.inj this
  rw[er'] at ho hT;refine wpAny_letOwnedTupleGo_items (s:={ s with heap:=h' }) ho λh'' he' hs'=>?_
  replace hs':Heap.SameBut N h' h'':=hs'
  have zl:N<s.heap.objs.size:=Heap.lt_size h1;have nn:H s.heap.objs.size=none:=I.hok.fresh (Nat.le_refl _)
  have I1:Inv X pins σ (upd H s.heap.objs.size (.tup [.ref us[i].2.1,us[i].2.2])) { s with heap:=s.heap.push { cls:=.type "tuple",data:=.seq #[r.key,r.val] },toks:=s.toks }:=
   I.laid (t':=s.toks) (λb o e=>Heap.get?_push_of_some _ e) (Nat.le_refl _) ⟨show 2<=sizeLine by decide,[r.key,r.val],.cons ek.key (.cons ek.val .nil),⟨_,Heap.get?_push_size _ rfl,rfl,_,rfl⟩⟩
  have ne:N≠s.heap.objs.size:=Nat.ne_of_lt zl
  have ff:∀b∈[N],jc X pins (upd H s.heap.objs.size (.tup [.ref us[i].2.1,us[i].2.2])) b:=λc hc=>by
   rw[List.mem_singleton.mp hc];exact⟨by rw[aT ne];exact f0,f1,f2,f3,f4,f5⟩
  have k2:∀c o,c∉[N]->(s.heap.push { cls:=.type "tuple",data:=.seq #[r.key,r.val] }).get? c=some o->h''.get? c=some o:=λc o hc e=>by
   rw[List.mem_singleton] at hc;refine hs'.extBut _ _ hc ?_
   by_cases z:c=s.heap.objs.size
   ·subst z
    rw[Heap.get?_push_size _ rfl] at e;cases e;exact hT
   ·exact hk c o hc ((Heap.get?_push_ne _ _ _ z).symm.trans e)
  have I2:=gy (h':=h'') (t':=s.toks) I1 k2 ff;exact⟨.ref s.heap.objs.size,_,I2,rfl,⟨_,us[i],hu,rfl,nn,rfl⟩,⟨_,_,by rw[<-sz];exact he'⟩,λc hc=>(ff c hc).1⟩
 done:=by
  intro X hP hw hK hc i pins s σ H E I hf st hg;subst hP hw hK;obtain⟨ok,ov,h1⟩:=st;obtain⟨hd,ge⟩:=hg;obtain⟨f0,f1,f2,f3,f4,f5⟩:=hf N (by simp);obtain⟨nm,_,o,raw,g1,g2,g3,pr⟩:=(show bG X.prog X.w H s.heap d (.ext (DAt d us ep)) from I.hok d _ hd).1;have sz:raw.size=us.length:=by rw[pr.length];simp
  exact kj (I.ok.hd hc) (by rw[sz];exact h1) g1 g3 (λlt'=>absurd lt' (by lia)) λ_ h' eb=>⟨rfl,I.turned (t':=s.toks) (λb o hb e=>eb b o hb e) f0 f1 f3 f4 f5⟩
 self:=λ_ _ s _ _ ⟨ok,ov,st⟩ q=>by
  have ty:s.TypeIs (.ref N) "dict_itemiterator":=⟨_,st,rfl⟩;refine wpAny_pyIter_slot ty PySem.F.slot_dict_itemiterator_iter (wpAny_call_entry PySem.F.slot_dict_itemiterator_iter ty BS ?_ (PySem.F.args_dict_itemiterator_iter_1 _));exact(show wpAny _ _ (ret (.ref N)) _ _ s from wpAny_pure ⟨_,rfl,"dict_itemiterator",_,ty,PySem.F.slot_dict_itemiterator_next.lookup,q⟩)
section
variable{X:Cx}{a:Expr}{pos:Pos}{fa:Ev->Option D}
noncomputable def x_(ta:TE):TI:=λσ H R=>ta σ H λv H1=>∃d us ep,v=.ref d/\H1 d=some (.ext (DAt d us ep))/\R (Itd d us ep) H1
theorem uc{es:List Expr}{k0:Nat}{tpos p2:Pos}{ta:TE}(ha:PE X a ta)(hbase:attributeBase a "items" X.env (eval a X.env)=eval a X.env:=by rfl)(hline:(p2.endLine==pos.line)=true:=by rfl) :
  PI X (.Tuple es k0 tpos) (.Call (.Attribute a "items" p2) [] [] pos) (x_ ta):=by
 intro pins s σ H R I h;refine wpAny_Call_method0_late hbase hline (thn (ha pins s σ H (λv H1=>∃d us ep,v=.ref d/\H1 d=some (.ext (DAt d us ep))/\R (Itd d us ep) H1) I h) λv s1 ⟨x,H1,I1,r1,d,us,ep,ex,hd,q⟩=>?_);subst ex;cases r1;obtain⟨h1,h2⟩:=wV I1 hd;obtain⟨nm,_,o,raw,g1,g2,g3,pr⟩:=(show bG X.prog X.w H1 s1.heap d (.ext (DAt d us ep)) from I1.hok d _ hd).1;have sz:raw.size=us.length:=by rw[pr.length];simp
 refine⟨"dict","dict.items",PySem.F.plainAttrs_dict,PySem.F.slot_dict_items,PySem.F.type_dict_items,h1,h2,Calls.callWith_builtin rfl (PySem.evalArgs_none (p9 nm g1 g2 ?_))⟩;have I2:Inv X pins σ H1 { s1 with heap:=s1.heap.push { cls:=.type "dict_items",data:=.fields #[.ref d] } }:=I1.kept (t':=s1.toks) λb o e=>Heap.get?_push_of_some _ e;refine pR (s:={ s1 with heap:=s1.heap.push { cls:=.type "dict_items",data:=.fields #[.ref d] } }) ⟨_,Heap.get?_push_size _ rfl,rfl,rfl⟩ (Heap.get?_push_of_some _ g1) g3 ?_;refine⟨_,[_],_,_,H1,rfl,I2.kept (t':=s1.toks) λb o e=>Heap.get?_push_of_some _ e,qx _ d us ep,⟨_,_,by rw[<-sz];exact Heap.get?_push_size _ rfl⟩,λb hb=>?_,q⟩;rw[List.mem_singleton.mp hb];exact I2.fpOk (Nat.le_refl _) (I2.hok.fresh (Nat.le_refl _))
noncomputable def jm(es:List (List Int×D)):List D:=es.map λe=>.tup [.tup (e.1.map D.int),e.2]
noncomputable def kU(f:Ev->Option D):Ev->Option (List D):=λε=>match f ε with | some (.dic es)=>some (jm es) | _=>none
theorem DenM.get{K:PySem.W.Frag}{G:Hp}{i:Nat}:∀{us:bV} {es:List (List Int×D)},DenM K G us es->∀{u},us[i]?=some u->∃d,es[i]?=some (u.1,d)/\SqT K G u.2.1 (u.1.map V.int)/\Den K G u.2.2 d:=by
 induction i with
 |zero=>intro us es m u e;cases m with | nil=>simp at e | cons hk hv hs=>simp at e;subst e;exact⟨_,rfl,hk,hv⟩
 |succ i ih=>intro us es m u e;cases m with | nil=>simp at e | cons hk hv hs=>simp at e;obtain⟨d,h1,h2⟩:=ih hs e;exact⟨d,by simpa using h1,h2⟩
theorem j9{K:PySem.W.Frag}{G:Hp}:∀k:List Int,DenL K G (k.map V.int) (k.map D.int)
 |[]=>.nil
 |n::r=>.cons (.int n) (j9 r)
theorem vz{es:List Expr}{k0:Nat}{tpos p2:Pos}(h:DE X a fa)(hbase:attributeBase a "items" X.env (eval a X.env)=eval a X.env:=by rfl)(hline:(p2.endLine==pos.line)=true:=by rfl) :
  DI X (.Tuple es k0 tpos) (.Call (.Attribute a "items" p2) [] [] pos) (kU fa):=by
 obtain⟨t,a1,a2⟩:=h;refine⟨_,uc a1 hbase hline,λHe G H σ ε ds R gh E ef q=>?_⟩;unfold kU at ef;split at ef
 ·rename_i es' e1
  cases ef;refine a2 He G H σ ε _ _ gh E e1 λv G1 H1 g1 d1=>?_;cases d1 with
  |@dic d us ep _ hG nd m=>
   refine⟨d,us,ep,rfl,g1.gh _ _ hG,q _ G1 H1 g1 λi H2 s2=>?_⟩;have n1:=m.len;have nl:(jm es').length=es'.length:=by unfold jm;simp
   refine⟨λhi=>⟨s2 _ _ hG,by lia⟩,λhi=>⟨s2 _ _ hG,by lia⟩,?_⟩;rintro v H3 ⟨p',u,hu,rfl,hn,rfl⟩ dd ed G2 s3 s4;obtain⟨d',f1,f2,f3⟩:=m.get hu;unfold jm at ed;rw[List.getElem?_map,f1] at ed;cases ed;have g:=Grow.new (.tup [.ref u.2.1,u.2.2]) s4 hn;exact⟨_,g,.tup (xs:=[.ref u.2.1,u.2.2]) (.inl (.inl aN)) (.cons (.tup (aK g.gg (aK s3 f2)) (j9 _)) (.cons ((f3.mono s3).mono g.gg) .nil))⟩
 ·cases ef
end
noncomputable def AU(K:PySem.W.Frag)(a:Addr)(xs:List V):Prop:=∃(o:Obj) (its:Array Value) (n:Nat),K.lookup a=some o/\o.cls=.type "tuple"/\o.data=.seq its n/\its.size<=sizeLine/\aV xs its.toList
theorem B0{K:PySem.W.Frag}{a:Addr}{od:Option Addr}{x y z:Str}{t u v:Tok}{n:Nat}{sl:Array (Option Value)}(h:K.lookup a=some ⟨.type "tuple",od,.seq #[.str x t,.str y u,.str z v] n,sl⟩):AU K a [.str x,.str y,.str z]:=
 ⟨_,_,_,h,rfl,rfl,(show 3<=sizeLine by decide),.cons ⟨t,rfl⟩ (.cons ⟨u,rfl⟩ (.cons ⟨v,rfl⟩ .nil))⟩
theorem oI{K:PySem.W.Frag}{G:Hp}:∀k:List Str,DenL K G (k.map V.str) (k.map D.str)
 |[]=>.nil
 |n::r=>.cons (.str n) (oI r)
section
variable{X:Cx}{a b c:Expr}{fa fb fc:Ev->Option D}{pos:Pos}
theorem yZ{x:Str}{ad:Addr}(ss:List Str)(hg:Gl X x)(hm:X.mg x=some (.ref ad))(ht:AU X.K ad (ss.map V.str))(hd:(x==("__debug__" : Str))=false:=by decide):DE X (.Name x pos) (eC (.tup (ss.map D.str))):=
 fG (rC (v:=.ref ad) hg hm rfl hd) λG=>.tup (.inr ht) (oI ss)
theorem yD(l b:Addr)(items items2:Array Value)(n n2:Nat)(d1 d2:Option Addr)(s1 s2:Array (Option Value))(hc0:items.isEmpty=true):Meets (Builtin.«tuple.__add__» ⟨[.ref l,.ref b],[]⟩) (λ_ R s=>s.heap.get? l=some ⟨.type "tuple",d1,.seq items n,s1⟩/\s.heap.get? b=some ⟨.type "tuple",d2,.seq items2 n2,s2⟩/\R (.ok (.ret (Value.ref b))) s):=
 .of_wp λprog w A R s h=>by
  obtain⟨hp,gs,dr,tk,os⟩:=s;obtain⟨hl,hb,h⟩:=h;have q1:=AutoSeq1.sub_tuple_tuple;have q2:=AutoSeq1.sub_list_tuple
  (wp_walk using wpAny_loadPart' hl,wpAny_loadPart' hb);exact⟨_,rfl,h⟩
noncomputable def zr(K:PySem.W.Frag):R2:=λx y H Q=>∃a b ys,x=.ref a/\y=.ref b/\SqT K H a []/\SqT K H b ys/\Q (.ref b) H
theorem xq:OpR X (binaryOp .Add) (zr X.K):=by
 intro pins s σ H x y v u Q I rx ry h;obtain⟨a,b,ys,rfl,rfl,ha,hb,q⟩:=h;cases rx;cases ry;obtain⟨its,r1,⟨⟨cls,dd,data,sl⟩,ho,hc,n,hd⟩,_⟩:=I.tuple ha;obtain⟨its2,r2,⟨⟨cls2,dd2,data2,sl2⟩,ho2,hc2,n2,hd2⟩,_⟩:=I.tuple hb;simp only at hc hd hc2 hd2;subst hc hd hc2 hd2;cases r1;exact concat_meets ⟨_,ho,rfl⟩ ⟨_,ho2,rfl⟩ noFill_tuple_add seq_tuple_add PySem.F.slot_tuple_add PySem.F.entry_tuple_add (PySem.F.args_tuple_add_2 _ _) (yD a b #[] its2.toArray n n2 dd dd2 sl sl2 rfl) ⟨ho,ho2,.ref b,H,I,rfl,q⟩
noncomputable def ux:D->D->Option D:=λx y=>match x,y with | .tup [],.tup ys=>some (.tup ys) | x,y=>CatI.qH x y
theorem yV:OpD X (binaryOp .Add) ux:=by
 obtain⟨r,o1,o2⟩:=pU (X:=X);refine⟨λx y H Q=>r x y H Q\/zr X.K x y H Q,λpins s σ H x y v u Q I rx ry h=>?_,λG H x y dx dy d Q gh hx hy e q=>?_⟩
 ·rcases h with h | h
  ·exact o1 pins s σ H x y v u Q I rx ry h
  ·exact xq pins s σ H x y v u Q I rx ry h
 ·unfold ux at e
  split at e
  ·rename_i ys
   cases e;obtain⟨p,xs,rfl,h0,h1,h2⟩:=hx.tup gh;obtain⟨p',zs,rfl,h3,h4,h5⟩:=hy.tup gh;cases h2;exact .inr ⟨p,p',zs,rfl,rfl,h1,h4,q _ G H (.refl gh) (.tup h3 h5)⟩
  ·exact .inl (o2 G H x y _ _ d Q gh hx hy e q)
end
end Dn
namespace Fl
open PySem PySem.Spec PyProof.Rows L2 Dn
noncomputable abbrev oZ:List Str:=["_law_sky_here"]
noncomputable abbrev eG:List Str:=["_law_sky_here"]
noncomputable def jM:Ev->Option Fl:=(a8 (bh (ae (eF (mq (e2 ixD (af 0) (eC (.int 0))))) (ae (eF (mq (e2 ixD (af 0) (eC (.int 1))))) (ae (eF (mq (e2 ixD (af 0) (eC (.int 2))))) (ae (eF (mq (e2 ixD (af 0) (eC (.int 3))))) aD))))))
noncomputable def dA:List D->Option D:=fnD oZ eG jM
noncomputable abbrev nZ:List Str:=["_law_winds","_law_hour","_law_height","_law_some"]
noncomputable abbrev eI:List Str:=["_law_winds","_law_hour","_law_height"]
noncomputable def om:Ev->Option Fl:=(aC (aU 3 (eF (eLC (c_ (fA eX (af 0))) 1 [0,2,1] (ak 0) (bI (ay aZ (e2 ixD (e2 ixD (af 1) (af 0)) (eC (.int 1))) (af 2)) (ay leI (e2 ixD (e2 ixD (af 1) (af 0)) (eC (.int 0))) (af 3))) (bh (ae (e2 ixD (e2 ixD (af 1) (af 0)) (eC (.int 0))) (ae (av 0) aD)))))) (aC (sIf (ay aZ (fA eX (af 3)) (eC (.int 0))) (a8 (bh (ae (eC (.int 0)) (ae (eC (.int 0)) aD)))) bj) (a8 (ko (e2 ixD (af 0) (e2 ixD (aI lT (ae (av 3) aD)) (eC (.int 1)))) (bx (eC (.int 2))) cR))))
noncomputable def eR:List D->Option D:=fnD nZ eI om
noncomputable abbrev pW:List Str:=["_law_sky_here","_law_hour","_law_state_here","_law_order","_law_x","_law_y","_law_z","_law_sacks","_law_puffs","_law_step","_law_dx","_law_dy"]
noncomputable abbrev fK:List Str:=["_law_sky_here","_law_hour","_law_state_here","_law_order"]
noncomputable def kG:Ev->Option Fl:=(aC (iZ (av 2) (cZ 5 (aw (ak 4) (aw (ak 5) (aw (ak 6) (aw (ak 7) (aw (ak 8) bf))))))) (aC (aU 9 (eD3 "up" 1 "level" 0 "down" (-1) (av 3))) (aC (aU 6 (e2 aM (af 6) (af 9))) (aC (sIf (bI (ay (inD false) (af 1) (e2 ixD (af 0) (eC (.int 1)))) (ay gtI (af 6) (eC (.int 0)))) (aU 6 (e2 bA (af 6) (eC (.int 1)))) bj) (aC (iZ (aI eR (ae (e2 ixD (af 0) (eC (.int 2))) (ae (av 1) (ae (av 6) aD)))) (cZ 2 (aw (ak 10) (aw (ak 11) bf)))) (a8 (bh (ae (e2 aM (af 4) (af 10)) (ae (e2 aM (af 5) (af 11)) (ae (av 6) (ae (e2 bA (af 7) (aI j_ (ae (eC (.int 0)) (ae (av 9) aD)))) (ae (e2 bA (af 8) (aI j_ (ae (eC (.int 0)) (ae (B_ (af 9)) aD)))) aD))))))))))))
noncomputable def dX:List D->Option D:=fnD pW fK kG
noncomputable abbrev lI:List Str:=["_law_hills","_law_x","_law_y"]
noncomputable abbrev dq:List Str:=["_law_hills","_law_x","_law_y"]
noncomputable def e_:Ev->Option Fl:=(a8 (aI uD (ae (eF (xt (eF (cI (ae (eC (.int 0)) aD))) (eF (eLC (ec (av 0)) 3 [1,2] (cU 3 (aw (ak 0) (aw (ak 1) (aw (ak 2) bf)))) (bI (ay aZ (af 0) (af 3)) (ay aZ (af 1) (af 4))) (av 2))))) aD)))
noncomputable def dm:List D->Option D:=fnD lI dq e_
noncomputable abbrev tE:List Str:=["_law_box_here","_law_x","_law_y","_law_z"]
noncomputable abbrev gT:List Str:=["_law_box_here","_law_x","_law_y","_law_z"]
noncomputable def mn:Ev->Option Fl:=(a8 (iP (e2 leI (e2 ixD (af 0) (eC (.int 0))) (af 1)) (iP (e2 leI (af 1) (e2 ixD (af 0) (eC (.int 2)))) (iP (e2 leI (e2 ixD (af 0) (eC (.int 1))) (af 2)) (iP (e2 leI (af 2) (e2 ixD (af 0) (eC (.int 3)))) (iP (e2 leI (e2 ixD (af 0) (eC (.int 4))) (af 3)) (e2 leI (af 3) (e2 ixD (af 0) (eC (.int 5))))))))))
noncomputable def gS:List D->Option D:=fnD tE gT mn
noncomputable abbrev pD:List Str:=["_law_shuts","_law_hour","_law_x","_law_y","_law_z"]
noncomputable abbrev eM:List Str:=["_law_shuts","_law_hour","_law_x","_law_y","_law_z"]
noncomputable def jK:Ev->Option Fl:=(a8 (e2 (inD false) (eC (.bl true)) (eF (eLC (ec (av 0)) 1 [2,3,4,1] (ak 0) (bI (ay leI (e2 ixD (af 0) (eC (.int 6))) (af 4)) (ay leI (af 4) (e2 ixD (af 0) (eC (.int 7))))) (aI gS (ae (ko (af 0) cR (bx (eC (.int 6)))) (ae (av 1) (ae (av 2) (ae (av 3) aD)))))))))
noncomputable def eo:List D->Option D:=fnD pD eM jK
noncomputable abbrev nr:List Str:=["_law_sky_here","_law_hour","_law_state_here"]
noncomputable abbrev dE:List Str:=["_law_sky_here","_law_hour","_law_state_here"]
noncomputable def iC:Ev->Option Fl:=(aC (sIf (ay ltI (e2 ixD (af 2) (eC (.int 2))) (aI dm (ae (e2 ixD (af 0) (eC (.int 0))) (ae (e2 ixD (af 2) (eC (.int 0))) (ae (e2 ixD (af 2) (eC (.int 1))) aD))))) (a8 (eC (.str "hill"))) bj) (aC (sIf (g8 (aI eo (ae (e2 ixD (af 0) (eC (.int 3))) (ae (av 1) (ae (e2 ixD (af 2) (eC (.int 0))) (ae (e2 ixD (af 2) (eC (.int 1))) (ae (e2 ixD (af 2) (eC (.int 2))) aD))))))) (a8 (eC (.str "shut"))) bj) (a8 (eC (.str "")))))
noncomputable def fU:List D->Option D:=fnD nr dE iC
noncomputable abbrev ql:List Str:=["_law_sky_here","_law_hour","_law_state_here","_law_order"]
noncomputable abbrev fR:List Str:=["_law_sky_here","_law_hour","_law_state_here","_law_order"]
noncomputable def k7:Ev->Option Fl:=(aC (sIf (bI (ay aZ (af 3) (eC (.str "up"))) (ay aZ (e2 ixD (af 2) (eC (.int 3))) (eC (.int 0)))) (a8 (eC (.str "sacks"))) bj) (aC (sIf (bI (ay aZ (af 3) (eC (.str "down"))) (ay aZ (e2 ixD (af 2) (eC (.int 4))) (eC (.int 0)))) (a8 (eC (.str "puffs"))) bj) (aC (sIf (bI (ay aZ (af 3) (eC (.str "up"))) (ay aZ (e2 ixD (af 2) (eC (.int 2))) (eC (.int 5)))) (a8 (eC (.str "high"))) bj) (aC (sIf (bI (ay aZ (af 3) (eC (.str "down"))) (ay aZ (e2 ixD (af 2) (eC (.int 2))) (eC (.int 0)))) (a8 (eC (.str "low"))) bj) (a8 (aI fU (ae (av 0) (ae (e2 aM (af 1) (eC (.int 1))) (ae (aI dX (ae (av 0) (ae (av 1) (ae (av 2) (ae (av 3) aD))))) aD)))))))))
noncomputable def fS:List D->Option D:=fnD ql fR k7
noncomputable abbrev kn:List Str:=["_law_sky_here","_law_hour","_law_state_here","_law_many","_law_rows","_law_at","_law_later","_law_orders","_law_one","_law_order"]
noncomputable abbrev cT:List Str:=["_law_sky_here","_law_hour","_law_state_here","_law_many"]
noncomputable def cN:Ev->Option Fl:=(sIf (ay aZ (aI fS (ae (av 0) (ae (e2 aM (af 1) (af 5)) (ae (av 8) (ae (av 9) aD))))) (eC (.str ""))) (dM 6 (bh (ae (e2 ux (af 7) (bh (ae (av 9) aD))) (ae (aI dX (ae (av 0) (ae (e2 aM (af 1) (af 5)) (ae (av 8) (ae (av 9) aD))))) aD)))) bj)
noncomputable def cf:Ev->Option Fl:=(cL (si (bh (ae (eC (.str "up")) (ae (eC (.str "level")) (ae (eC (.str "down")) aD))))) (ak 9) (cN))
noncomputable def cb:Ev->Option Fl:=(aC (eY 6 (cI aD)) (aC (cL (ec (av 4)) (cU 2 (aw (ak 7) (aw (ak 8) bf))) (cf)) (sFz 6 (aU 4 (av 6)))))
noncomputable def gf:Ev->Option Fl:=(aC (aU 4 (eF (cI (ae (bh (ae (bh aD) (ae (av 2) aD))) aD)))) (aC (cL (c_ (av 3)) (ak 5) (cb)) (a8 (av 4))))
noncomputable def bW:List D->Option D:=fnD kn cT gf
noncomputable abbrev tL:List Str:=["winds","hour","height","blowing","wind"]
noncomputable abbrev gR:List Str:=["winds","hour","height"]
noncomputable def nu:Ev->Option Fl:=(aC (sIf (f9 (ay iw (e2 ixD (af 4) (eC (.int 1))) (af 2)) (ay gtI (e2 ixD (af 4) (eC (.int 0))) (af 1))) (λε=>some (.ct ε)) bj) (sIf (f9 (ay (isD false) (af 3) (eC .non)) (ay geI (e2 ixD (af 4) (eC (.int 0))) (e2 ixD (af 3) (eC (.int 0))))) (aU 3 (av 4)) bj))
noncomputable def tG:Ev->Option Fl:=(aC (aU 3 (eC .non)) (aC (cL (ec (av 0)) (ak 4) (nu)) (aC (sIf (ay (isD false) (af 3) (eC .non)) (a8 (bh (ae (eC (.int 0)) (ae (eC (.int 0)) aD)))) bj) (a8 (bh (ae (e2 ixD (af 3) (eC (.int 2))) (ae (e2 ixD (af 3) (eC (.int 3))) aD)))))))
noncomputable def fw:List D->Option D:=fnD tL gR tG
noncomputable abbrev uX:List Str:=["sky","hour","state","order","hills","cool","winds","shuts","x","y","height","sacks","puffs","dx","dy"]
noncomputable abbrev iW:List Str:=["sky","hour","state","order"]
noncomputable def oA:Ev->Option Fl:=(aC (iZ (av 0) (cZ 4 (aw (ak 4) (aw (ak 5) (aw (ak 6) (aw (ak 7) bf)))))) (aC (iZ (av 2) (cZ 5 (aw (ak 8) (aw (ak 9) (aw (ak 10) (aw (ak 11) (aw (ak 12) bf))))))) (aC (sIf (ay aZ (af 3) (eC (.str "up"))) (xB 10 11 (ae (e2 aM (af 10) (eC (.int 1))) (ae (e2 bA (af 11) (eC (.int 1))) aD))) (sIf (ay aZ (af 3) (eC (.str "down"))) (xB 10 12 (ae (e2 bA (af 10) (eC (.int 1))) (ae (e2 bA (af 12) (eC (.int 1))) aD))) bj)) (aC (sIf (ay (inD false) (af 1) (af 5)) (aU 10 (aI j_ (ae (e2 bA (af 10) (eC (.int 1))) (ae (eC (.int 0)) aD)))) bj) (aC (iZ (aI fw (ae (av 6) (ae (av 1) (ae (av 10) aD)))) (cZ 2 (aw (ak 13) (aw (ak 14) bf)))) (a8 (bh (ae (e2 aM (af 8) (af 13)) (ae (e2 aM (af 9) (af 14)) (ae (av 10) (ae (av 11) (ae (av 12) aD))))))))))))
noncomputable def kR:List D->Option D:=fnD uX iW oA
noncomputable abbrev iG:List Str:=["state","order","x","y","height","sacks","puffs"]
noncomputable abbrev b9:List Str:=["state","order"]
noncomputable def eU:Ev->Option Fl:=(aC (iZ (av 0) (cZ 5 (aw (ak 2) (aw (ak 3) (aw (ak 4) (aw (ak 5) (aw (ak 6) bf))))))) (aC (sIf (bI (ay aZ (af 1) (eC (.str "up"))) (ay ltI (af 5) (eC (.int 1)))) (a8 (eC (.str "sacks"))) bj) (aC (sIf (bI (ay aZ (af 1) (eC (.str "down"))) (ay ltI (af 6) (eC (.int 1)))) (a8 (eC (.str "puffs"))) bj) (aC (sIf (bI (ay aZ (af 1) (eC (.str "up"))) (ay aZ (af 4) (eC (.int 5)))) (a8 (eC (.str "high"))) bj) (aC (sIf (bI (ay aZ (af 1) (eC (.str "down"))) (ay aZ (af 4) (eC (.int 0)))) (a8 (eC (.str "low"))) bj) (a8 (eC (.str ""))))))))
noncomputable def cQ:List D->Option D:=fnD iG b9 eU
noncomputable abbrev oD:List Str:=["hills","x","y","tops"]
noncomputable abbrev eQ:List Str:=["hills","x","y"]
noncomputable def gC:Ev->Option Fl:=(aC (aU 3 (eF (eLC (ec (av 0)) 3 [1,2] (cU 3 (aw (ak 0) (aw (ak 1) (aw (ak 2) bf)))) (bI (ay aZ (af 0) (af 3)) (ay aZ (af 1) (af 4))) (av 2)))) (a8 (e2 oG (av 3) (eC (.int 0)))))
noncomputable def eN:List D->Option D:=fnD oD eQ gC
noncomputable abbrev wI:List Str:=["box","x","y","height","x1","y1","x2","y2","low","high"]
noncomputable abbrev iF:List Str:=["box","x","y","height"]
noncomputable def oi:Ev->Option Fl:=(aC (iZ (av 0) (cZ 6 (aw (ak 4) (aw (ak 5) (aw (ak 6) (aw (ak 7) (aw (ak 8) (aw (ak 9) bf)))))))) (a8 (iP (eCh leI leI (af 4) (af 1) (af 6)) (iP (eCh leI leI (af 5) (af 2) (af 7)) (eCh leI leI (af 8) (af 3) (af 9))))))
noncomputable def iO:List D->Option D:=fnD wI iF oi
noncomputable abbrev tw:List Str:=["shuts","hour","x","y","height","shut"]
noncomputable abbrev gM:List Str:=["shuts","hour","x","y","height"]
noncomputable def bQ:Ev->Option Fl:=(sIf (bI (yO leI leI (e2 ixD (af 5) (eC (.int 6))) (af 1) (e2 ixD (af 5) (eC (.int 7)))) (g8 (aI iO (ae (ko (af 5) cR (bx (eC (.int 6)))) (ae (av 2) (ae (av 3) (ae (av 4) aD))))))) (a8 (eC (.bl true))) bj)
noncomputable def mx:Ev->Option Fl:=(aC (cL (ec (av 0)) (ak 5) (bQ)) (a8 (eC (.bl false))))
noncomputable def gW:List D->Option D:=fnD tw gM mx
noncomputable abbrev jS:List Str:=["sky","hour","state","hills","cool","winds","shuts","x","y","height","sacks","puffs"]
noncomputable abbrev cA:List Str:=["sky","hour","state"]
noncomputable def fZ:Ev->Option Fl:=(aC (iZ (av 0) (cZ 4 (aw (ak 3) (aw (ak 4) (aw (ak 5) (aw (ak 6) bf)))))) (aC (iZ (av 2) (cZ 5 (aw (ak 7) (aw (ak 8) (aw (ak 9) (aw (ak 10) (aw (ak 11) bf))))))) (aC (sIf (ay ltI (af 9) (aI eN (ae (av 3) (ae (av 7) (ae (av 8) aD))))) (a8 (eC (.str "hill"))) bj) (aC (sIf (g8 (aI gW (ae (av 6) (ae (av 1) (ae (av 7) (ae (av 8) (ae (av 9) aD))))))) (a8 (eC (.str "shut"))) bj) (a8 (eC (.str "")))))))
noncomputable def dD:List D->Option D:=fnD jS cA fZ
noncomputable abbrev wW:List Str:=["sky","hour","state","order","after","why"]
noncomputable abbrev j7:List Str:=["sky","hour","state","order"]
noncomputable def rS:Ev->Option Fl:=(aC (aU 4 (aI kR (ae (av 0) (ae (av 1) (ae (av 2) (ae (av 3) aD)))))) (aC (aU 5 (aI cQ (ae (av 2) (ae (av 3) aD)))) (aC (sIf (ay aZ (af 5) (eC (.str ""))) (aU 5 (aI dD (ae (av 0) (ae (e2 aM (af 1) (eC (.int 1))) (ae (av 4) aD))))) bj) (a8 (bh (ae (av 5) (ae (av 4) aD)))))))
noncomputable def iH:List D->Option D:=fnD wW j7 rS
noncomputable abbrev x5:List Str:=["sky","hour","state","found","order","why","after"]
noncomputable abbrev jZ:List Str:=["sky","hour","state"]
noncomputable def ik:Ev->Option Fl:=(aC (iZ (aI iH (ae (av 0) (ae (av 1) (ae (av 2) (ae (av 4) aD))))) (cZ 2 (aw (ak 5) (aw (ak 6) bf)))) (sIf (ay aZ (af 5) (eC (.str ""))) (dM 3 (bh (ae (av 4) (ae (av 6) aD)))) bj))
noncomputable def rW:Ev->Option Fl:=(aC (eY 3 (cI aD)) (aC (cL (si (eC (.tup [.str "up",.str "level",.str "down"]))) (ak 4) (ik)) (sFz 3 (a8 (av 3)))))
noncomputable def gK:List D->Option D:=fnD x5 jZ rW
noncomputable def bS(hs:List Hl)(x y:Int):List Int:=(hs.filter λh=>decide (h.x=x)&&decide (h.y=y)).map (·.t)
noncomputable abbrev tgH:D->Ev->Option Ev:=cU 3 (aw (ak 0) (aw (ak 1) (aw (ak 2) bf)))
noncomputable abbrev ftH:Ev->Option Bool:=bI (ay aZ (af 0) (af 3)) (ay aZ (af 1) (af 4))
theorem CB(h:Hl)(x y:Int):ftH [.dat (.int h.x),.dat (.int h.y),.dat (.int h.t),.dat (.int x),.dat (.int y)]=some (decide (h.x=x)&&decide (h.y=y)):=by
 have u1:ay aZ (af 0) (af 3) [.dat (.int h.x),.dat (.int h.y),.dat (.int h.t),.dat (.int x),.dat (.int y)]=some (decide (h.x=x)):=rfl;have u2:ay aZ (af 1) (af 4) [.dat (.int h.x),.dat (.int h.y),.dat (.int h.t),.dat (.int x),.dat (.int y)]=some (decide (h.y=y)):=rfl;unfold ftH bI;rw[u1,u2];cases decide (h.x=x)<;>rfl
theorem wm(x y:Int):∀(hs:List Hl) (s0 s1 s2:Sl),lcD tgH ftH (av 2) (hL hs) [s0,s1,s2,.dat (.int x),.dat (.int y)]=some (iL (bS hs x y))
 |[],_,_,_=>rfl
 |h::hs,s0,s1,s2=>by
  show((ftH [.dat (.int h.x),.dat (.int h.y),.dat (.int h.t),.dat (.int x),.dat (.int y)]).bind λk=>if k=true then(some (D.int h.t)).bind λv=>(lcD tgH ftH (av 2) (hL hs) [.dat (.int h.x),.dat (.int h.y),.dat (.int h.t),.dat (.int x),.dat (.int y)]).bind λr=>some (v::r) else lcD tgH ftH (av 2) (hL hs) [.dat (.int h.x),.dat (.int h.y),.dat (.int h.t),.dat (.int x),.dat (.int y)])=_;rw[CB,wm x y hs];unfold bS;rw[List.filter_cons];cases e:(decide (h.x=x)&&decide (h.y=y))<;>simp[iL]
noncomputable def gr(hs:List Hl)(x y:Int):Int:=match bS hs x y with | []=>0 | m::r=>mxI m r
theorem tj(hs:List Hl)(hz:hs.length<1000000)(x y:Int):eN [.lst (hL hs),.int x,.int y]=some (.int (gr hs x y)):=by
 refine bC rfl ?_;show gC [.dat (.lst (hL hs)),.dat (.int x),.dat (.int y),.un]=_;unfold gC
 have c:eF (eLC (ec (av 0)) 3 [1,2] tgH ftH (av 2)) [.dat (.lst (hL hs)),.dat (.int x),.dat (.int y),.un]=some (.lst (iL (bS hs x y))):=by
  refine c7 ?_;rw[jf (ds:=hL hs) rfl (by simpa[hL] using hz)];exact wm x y hs _ _ _
 rw[au (bo c)];show a8 (e2 oG (av 3) (eC (.int 0))) [.dat (.lst (hL hs)),.dat (.int x),.dat (.int y),.dat (.lst (iL (bS hs x y)))]=_;refine cC ?_;show oG (.lst (iL (bS hs x y))) (.int 0)=_;show(match bR (iL (bS hs x y)) with | some []=>some (D.int 0) | some (m::r)=>some (D.int (mxI m r)) | none=>none)=_;unfold gr;rw[show bR (iL (bS hs x y))=some (bS hs x y) from mv _];cases bS hs x y<;>rfl
theorem wA{hs:List Hl}{x y:Int}(ok:∀h∈hs,0<=h.t):∀v∈bS hs x y,0<=v:=λv hv=>by
 obtain⟨h,h1,rfl⟩:=List.mem_map.mp hv;exact ok h (List.mem_filter.mp h1).1
theorem Bi(hs:List Hl)(hz:hs.length<100000)(ok:∀h∈hs,0<=h.t)(x y:Int):dm [.lst (hL hs),.int x,.int y]=some (.int (gr hs x y)):=by
 refine bC rfl ?_;show e_ [.dat (.lst (hL hs)),.dat (.int x),.dat (.int y)]=_;unfold e_
 have c:eF (eLC (ec (av 0)) 3 [1,2] tgH ftH (av 2)) [.dat (.lst (hL hs)),.dat (.int x),.dat (.int y)]=some (.lst (iL (bS hs x y))):=by
  refine c7 ?_;rw[jf (ds:=hL hs) rfl (by simp[hL];lia)];exact wm x y hs _ _ _
 have tl:(bS hs x y).length<=hs.length:=by unfold bS;rw[List.length_map];exact List.length_filter_le _ _
 have c2:eF (xt (eF (cI (ae (eC (.int 0)) aD))) (eF (eLC (ec (av 0)) 3 [1,2] tgH ftH (av 2)))) [.dat (.lst (hL hs)),.dat (.int x),.dat (.int y)]=some (.lst (iL (0::bS hs x y))):=by
  refine c7 ?_;unfold xt;rw[c];show(if 1+(iL (bS hs x y)).length<=1000000 then some ([D.int 0]++iL (bS hs x y)) else none)=_;rw[if_pos (by simp[iL];lia)];rfl
 refine cC ?_;rw[uK c2];show(match bR (iL (0::bS hs x y)) with | some (m::r)=>some (D.int (mxI m r)) | _=>none)=_;rw[show bR (iL (0::bS hs x y))=some (0::bS hs x y) from mv _];have tm:=wA (x:=x) (y:=y) ok;unfold gr
 revert tm
 cases bS hs x y with
 |nil=>intro _;rfl
 |cons m r=>
  intro tm;have h0:=tm m (by simp);show some (D.int (mxI (if m>0 then m else 0) r))=_;rw[show(if m>0 then m else 0)=m by split<;>lia]
noncomputable def in6(q:Sh)(x y z:Int):Bool:=(decide (q.a<=x)&&decide (x<=q.c))&&((decide (q.b<=y)&&decide (y<=q.d))&&(decide (q.e<=z)&&decide (z<=q.f)))
theorem tO(q:Sh)(x y z:Int):iO [t6 q.a q.b q.c q.d q.e q.f,.int x,.int y,.int z]=some (.bl (in6 q x y z)):=by
 refine bC rfl ?_;unfold oi;refine(au rfl).trans (cC ?_);exact eJ (nR rfl rfl rfl) (eJ (nR rfl rfl rfl) (nR rfl rfl rfl))
theorem wd(q:Sh)(x y z:Int):gS [t6 q.a q.b q.c q.d q.e q.f,.int x,.int y,.int z]=some (.bl (in6 q x y z)):=by
 refine bC rfl ?_;unfold mn;refine cC ?_;refine(eJ (b:=decide (x<=q.c)&&(decide (q.b<=y)&&(decide (y<=q.d)&&(decide (q.e<=z)&&decide (z<=q.f))))) (a:=decide (q.a<=x)) rfl (eJ rfl (eJ rfl (eJ rfl (eJ rfl rfl))))).trans ?_;unfold in6;rw[Bool.and_assoc,Bool.and_assoc]
noncomputable def whB(q:Sh)(h:Int):Bool:=decide (q.t<=h)&&decide (h<=q.u)
noncomputable def d9(ss:List Sh)(h x y z:Int):Bool:=ss.any λq=>whB q h&&in6 q x y z
theorem lR(L:D)(h x y z:Int):∀(ss:List Sh) (s5:Sl),(d9 ss h x y z=false->∃e5,dI (ak 5) bQ (shL ss) [.dat L,.dat (.int h),.dat (.int x),.dat (.int y),.dat (.int z),s5]=some (.nx [.dat L,.dat (.int h),.dat (.int x),.dat (.int y),.dat (.int z),e5]))/\
  (d9 ss h x y z=true->dI (ak 5) bQ (shL ss) [.dat L,.dat (.int h),.dat (.int x),.dat (.int y),.dat (.int z),s5]=some (.rt (.bl true)))
 |[],s5=>⟨λ_=>⟨s5,rfl⟩,λh=>by cases h⟩
 |q::ss,s5=>by
  have c:bI (yO leI leI (e2 ixD (af 5) (eC (.int 6))) (af 1) (e2 ixD (af 5) (eC (.int 7)))) (g8 (aI iO (ae (ko (af 5) cR (bx (eC (.int 6)))) (ae (av 2) (ae (av 3) (ae (av 4) aD)))))) [.dat L,.dat (.int h),.dat (.int x),.dat (.int y),.dat (.int z),.dat (shD q)]=some (whB q h&&in6 q x y z):=by
   refine cB ?_ ?_
   ·unfold yO;rw[nR (a:=q.t) (b:=h) (c:=q.u) rfl rfl rfl];rfl
   ·exact mV (tO q x y z)
  obtain⟨k1,k2⟩:=lR L h x y z ss (.dat (shD q));have hb:d9 (q::ss) h x y z=((whB q h&&in6 q x y z) || d9 ss h x y z):=rfl
  have e0:dI (ak 5) bQ (shL (q::ss)) [.dat L,.dat (.int h),.dat (.int x),.dat (.int y),.dat (.int z),s5]=(bQ [.dat L,.dat (.int h),.dat (.int x),.dat (.int y),.dat (.int z),.dat (shD q)]).bind λr=>match r with
   |.nx ε2=>dI (ak 5) bQ (shL ss) ε2 | .ct ε2=>dI (ak 5) bQ (shL ss) ε2 | .bk ε2=>some (.nx ε2) | .rt v=>some (.rt v) | .ro v=>some (.ro v):=rfl
  rw[e0];unfold bQ at e0 ⊢;cases ho:(whB q h&&in6 q x y z) with
  |true=>
   rw[ho] at c hb;rw[g_ c];exact⟨λh=>(by rw[hb] at h;cases h),λ_=>rfl⟩
  |false=>
   rw[ho] at c hb;rw[hW c];exact⟨λh=>k1 (by rw[hb] at h;exact h),λh=>k2 (by rw[hb] at h;exact h)⟩
theorem xh(ss:List Sh)(h x y z:Int):gW [.lst (shL ss),.int h,.int x,.int y,.int z]=some (.bl (d9 ss h x y z)):=by
 refine bC rfl ?_;unfold mx;obtain⟨k1,k2⟩:=lR (.lst (shL ss)) h x y z ss .un;cases hb:d9 ss h x y z with
 |false=>
  obtain⟨e5,e⟩:=k1 hb;exact(au ((bO (ds:=shL ss) rfl).trans e)).trans rfl
 |true=>exact bN ((bO (ds:=shL ss) rfl).trans (k2 hb))
noncomputable abbrev ftS:Ev->Option Bool:=bI (ay leI (e2 ixD (af 0) (eC (.int 6))) (af 4)) (ay leI (af 4) (e2 ixD (af 0) (eC (.int 7))))
noncomputable abbrev feS:Ev->Option D:=aI gS (ae (ko (af 0) cR (bx (eC (.int 6)))) (ae (av 1) (ae (av 2) (ae (av 3) aD))))
theorem vY(h x y z:Int):∀(ss:List Sh) (s0:Sl),∃bs:List Bool,lcD (ak 0) ftS feS (shL ss) [s0,.dat (.int x),.dat (.int y),.dat (.int z),.dat (.int h)]=some (bs.map D.bl)/\bs.any id=d9 ss h x y z
 |[],_=>⟨[],rfl,rfl⟩
 |q::ss,s0=>by
  obtain⟨bs,e,hb⟩:=vY h x y z ss (.dat (shD q));have c:ftS [.dat (shD q),.dat (.int x),.dat (.int y),.dat (.int z),.dat (.int h)]=some (whB q h):=cB (a:=decide (q.t<=h)) (b:=decide (h<=q.u)) rfl rfl;have e0:lcD (ak 0) ftS feS (shL (q::ss)) [s0,.dat (.int x),.dat (.int y),.dat (.int z),.dat (.int h)]=(ftS [.dat (shD q),.dat (.int x),.dat (.int y),.dat (.int z),.dat (.int h)]).bind λk=>if k=true then(feS [.dat (shD q),.dat (.int x),.dat (.int y),.dat (.int z),.dat (.int h)]).bind λv=>(lcD (ak 0) ftS feS (shL ss) [.dat (shD q),.dat (.int x),.dat (.int y),.dat (.int z),.dat (.int h)]).bind λr=>some (v::r) else lcD (ak 0) ftS feS (shL ss) [.dat (shD q),.dat (.int x),.dat (.int y),.dat (.int z),.dat (.int h)]:=rfl
  have hs:d9 (q::ss) h x y z=((whB q h&&in6 q x y z) || d9 ss h x y z):=rfl;rw[e0,c,hs];cases whB q h with
  |true=>
   refine⟨in6 q x y z::bs,?_,by rw[<-hb];rfl⟩;rw[show feS [.dat (shD q),.dat (.int x),.dat (.int y),.dat (.int z),.dat (.int h)]=some (.bl (in6 q x y z)) from wd q x y z];show(lcD (ak 0) ftS feS (shL ss) _).bind _=_;rw[e];rfl
  |false=>exact⟨bs,e,by rw[hb];rfl⟩
theorem wC:∀bs:List Bool,lF (bs.map D.bl)=some (bs.map V.bl)
 |[]=>rfl
 |b::bs=>by show(lF (bs.map D.bl)).bind _=_;rw[wC bs];rfl
theorem zt:∀bs:List Bool,inV (.bl true) (bs.map V.bl)=bs.any id
 |[]=>rfl
 |b::bs=>by
  show(eqV (.bl b) (.bl true) || inV (.bl true) (bs.map V.bl))=_;rw[zt bs];cases b<;>rfl
theorem qm(ss:List Sh)(hz:ss.length<1000000)(h x y z:Int):eo [.lst (shL ss),.int h,.int x,.int y,.int z]=some (.bl (d9 ss h x y z)):=by
 refine bC rfl ?_;unfold jK;obtain⟨bs,e,hb⟩:=vY h x y z ss .un;refine cC ?_;refine(bY (x:=.bl true) (y:=.lst (bs.map D.bl)) rfl (c7 ?_)).trans ?_
 ·rw[jf (ds:=shL ss) rfl (by simpa using hz)];exact e
 ·show(lF (bs.map D.bl)).bind _=_
  rw[wC,<-hb,<-zt];rfl
noncomputable abbrev sk4(hs:List Hl)(cs:List Int)(ws:List Wd)(ss:List Sh):D:=.tup [.lst (hL hs),.lst (iL cs),.lst (wL ws),.lst (shL ss)]
noncomputable def why(hs:List Hl)(ss:List Sh)(h:Int)(q:Stt):Str:=if q.z<gr hs q.x q.y then "hill" else if d9 ss h q.x q.y q.z=true then "shut" else ""
section
variable(hs:List Hl)(cs:List Int)(ws:List Wd)(ss:List Sh)(hz:hs.length<=5)(ok:∀h∈hs,0<=h.t)(sz:ss.length<=3)(h:Int)(q:Stt)
include hz in
theorem AO:dD [sk4 hs cs ws ss,.int h,stD q]=some (.str (why hs ss h q)):=by
 refine bC rfl ?_;unfold fZ;refine(au rfl).trans ?_;refine(au rfl).trans ?_;show aC _ _ [.dat (sk4 hs cs ws ss),.dat (.int h),.dat (stD q),.dat (.lst (hL hs)),.dat (.lst (iL cs)),.dat (.lst (wL ws)),.dat (.lst (shL ss)),.dat (.int q.x),.dat (.int q.y),.dat (.int q.z),.dat (.int q.s),.dat (.int q.p)]=_;have c1:ay ltI (af 9) (aI eN (ae (av 3) (ae (av 7) (ae (av 8) aD)))) [.dat (sk4 hs cs ws ss),.dat (.int h),.dat (stD q),.dat (.lst (hL hs)),.dat (.lst (iL cs)),.dat (.lst (wL ws)),.dat (.lst (shL ss)),.dat (.int q.x),.dat (.int q.y),.dat (.int q.z),.dat (.int q.s),.dat (.int q.p)]=some (decide (q.z<gr hs q.x q.y)):=cV (x:=.int q.z) (y:=.int (gr hs q.x q.y)) rfl (aX rfl (tj hs (by lia) q.x q.y)) rfl;have c2:g8 (aI gW (ae (av 6) (ae (av 1) (ae (av 7) (ae (av 8) (ae (av 9) aD)))))) [.dat (sk4 hs cs ws ss),.dat (.int h),.dat (stD q),.dat (.lst (hL hs)),.dat (.lst (iL cs)),.dat (.lst (wL ws)),.dat (.lst (shL ss)),.dat (.int q.x),.dat (.int q.y),.dat (.int q.z),.dat (.int q.s),.dat (.int q.p)]=some (d9 ss h q.x q.y q.z):=mV (aX rfl (xh ss h q.x q.y q.z));unfold why
 by_cases g1:q.z<gr hs q.x q.y
 ·rw[if_pos g1]
  exact bN ((bL _ c1 g1).trans rfl)
 ·rw[if_neg g1]
  refine(au ((bD _ c1 g1).trans rfl)).trans ?_;cases hb:d9 ss h q.x q.y q.z with
  |true=>
   rw[hb] at c2;rw[if_pos rfl];exact bN ((g_ c2).trans rfl)
  |false=>
   rw[hb] at c2;rw[if_neg Bool.false_ne_true];exact(au ((hW c2).trans rfl)).trans rfl
include hz ok sz in
theorem ur:fU [sk4 hs cs ws ss,.int h,stD q]=some (.str (why hs ss h q)):=by
 refine bC rfl ?_;unfold iC;show aC _ _ [.dat (sk4 hs cs ws ss),.dat (.int h),.dat (stD q)]=_;have c1:ay ltI (e2 ixD (af 2) (eC (.int 2))) (aI dm (ae (e2 ixD (af 0) (eC (.int 0))) (ae (e2 ixD (af 2) (eC (.int 0))) (ae (e2 ixD (af 2) (eC (.int 1))) aD)))) [.dat (sk4 hs cs ws ss),.dat (.int h),.dat (stD q)]=some (decide (q.z<gr hs q.x q.y)):=cV (x:=.int q.z) (y:=.int (gr hs q.x q.y)) rfl (aX rfl (Bi hs (by lia) ok q.x q.y)) rfl;have c2:g8 (aI eo (ae (e2 ixD (af 0) (eC (.int 3))) (ae (av 1) (ae (e2 ixD (af 2) (eC (.int 0))) (ae (e2 ixD (af 2) (eC (.int 1))) (ae (e2 ixD (af 2) (eC (.int 2))) aD)))))) [.dat (sk4 hs cs ws ss),.dat (.int h),.dat (stD q)]=some (d9 ss h q.x q.y q.z):=mV (aX rfl (qm ss (by lia) h q.x q.y q.z));unfold why
 by_cases g1:q.z<gr hs q.x q.y
 ·rw[if_pos g1]
  exact bN ((bL _ c1 g1).trans rfl)
 ·rw[if_neg g1]
  refine(au ((bD _ c1 g1).trans rfl)).trans ?_;cases hb:d9 ss h q.x q.y q.z with
  |true=>
   rw[hb] at c2;rw[if_pos rfl];exact bN ((g_ c2).trans rfl)
  |false=>
   rw[hb] at c2;rw[if_neg Bool.false_ne_true];exact(au ((hW c2).trans rfl)).trans rfl
end
noncomputable def wo(o:Str)(q:Stt):Str:=if o = "up"/\q.s<1 then "sacks" else if o = "down"/\q.p<1 then "puffs" else if o = "up"/\q.z=5 then "high" else if o = "down"/\q.z=0 then "low" else ""
theorem B1(o:Str)(q:Stt):cQ [stD q,.str o]=some (.str (wo o q)):=by
 refine bC rfl ?_;unfold eU;refine(au rfl).trans ?_;show aC _ _ [.dat (stD q),.dat (.str o),.dat (.int q.x),.dat (.int q.y),.dat (.int q.z),.dat (.int q.s),.dat (.int q.p)]=_;have b2:∀(P Q:Prop) [Decidable P] [Decidable Q],(decide P&&decide Q)=decide (P/\Q):=λP Q _ _=>by by_cases p:P<;>by_cases q:Q<;>simp[p,q]
 have c1:bI (ay aZ (af 1) (eC (.str "up"))) (ay ltI (af 5) (eC (.int 1))) [.dat (stD q),.dat (.str o),.dat (.int q.x),.dat (.int q.y),.dat (.int q.z),.dat (.int q.s),.dat (.int q.p)]=some (decide (o = "up"/\q.s<1)):=by rw[<-b2];exact cB rfl rfl
 have c2:bI (ay aZ (af 1) (eC (.str "down"))) (ay ltI (af 6) (eC (.int 1))) [.dat (stD q),.dat (.str o),.dat (.int q.x),.dat (.int q.y),.dat (.int q.z),.dat (.int q.s),.dat (.int q.p)]=some (decide (o = "down"/\q.p<1)):=by rw[<-b2];exact cB rfl rfl
 have c3:bI (ay aZ (af 1) (eC (.str "up"))) (ay aZ (af 4) (eC (.int 5))) [.dat (stD q),.dat (.str o),.dat (.int q.x),.dat (.int q.y),.dat (.int q.z),.dat (.int q.s),.dat (.int q.p)]=some (decide (o = "up"/\q.z=5)):=by rw[<-b2];exact cB rfl rfl
 have c4:bI (ay aZ (af 1) (eC (.str "down"))) (ay aZ (af 4) (eC (.int 0))) [.dat (stD q),.dat (.str o),.dat (.int q.x),.dat (.int q.y),.dat (.int q.z),.dat (.int q.s),.dat (.int q.p)]=some (decide (o = "down"/\q.z=0)):=by rw[<-b2];exact cB rfl rfl
 unfold wo
 by_cases g1:o = "up"/\q.s<1
 ·rw[if_pos g1];exact bN ((bL _ c1 g1).trans rfl)
 ·rw[if_neg g1]
  refine(au ((bD _ c1 g1).trans rfl)).trans ?_
  by_cases g2:o = "down"/\q.p<1
  ·rw[if_pos g2];exact bN ((bL _ c2 g2).trans rfl)
  ·rw[if_neg g2]
   refine(au ((bD _ c2 g2).trans rfl)).trans ?_
   by_cases g3:o = "up"/\q.z=5
   ·rw[if_pos g3];exact bN ((bL _ c3 g3).trans rfl)
   ·rw[if_neg g3]
    refine(au ((bD _ c3 g3).trans rfl)).trans ?_
    by_cases g4:o = "down"/\q.z=0
    ·rw[if_pos g4];exact bN ((bL _ c4 g4).trans rfl)
    ·rw[if_neg g4]
     exact(au ((bD _ c4 g4).trans rfl)).trans rfl
noncomputable abbrev isO(o:Str):Prop:=o = "up"\/o = "level"\/o = "down"
noncomputable def wv(h z:Int)(ws:List Wd):Int×Int:=match g9 h z ws none with | none=>(0,0) | some b=>(b.dx,b.dy)
theorem oF(h z:Int)(ws:List Wd):ke h z ws=.tup [.int (wv h z ws).1,.int (wv h z ws).2]:=by unfold ke wv;cases g9 h z ws none<;>rfl
theorem Ca(ws:List Wd)(h z:Int):fw [.lst (wL ws),.int h,.int z]=some (.tup [.int (wv h z ws).1,.int (wv h z ws).2]):=by rw[<-oF];exact bC rfl (Ak ws h z)
theorem BF(ws:List Wd)(hz:ws.length<100)(h z:Int):eR [.lst (wL ws),.int h,.int z]=some (.tup [.int (wv h z ws).1,.int (wv h z ws).2]):=by rw[<-oF];exact bC rfl (Ad ws hz h z)
noncomputable def inC(cs:List Int)(h:Int):Bool:=inV (.int h) (cs.map V.int)
theorem wU(cs:List Int)(h:Int):inD false (.int h) (.lst (iL cs))=some (.bl (inC cs h)):=by show(lF (iL cs)).bind _=_;rw[mZ];rfl
noncomputable def czP(c:Bool)(z:Int):Int:=if c=true then(if(0:Int)>z-1 then 0 else z-1) else z
noncomputable def z1(o:Str)(q:Stt):Int:=if o = "up" then q.z+1 else if o = "down" then q.z-1 else q.z
noncomputable def s1(o:Str)(q:Stt):Int:=if o = "up" then q.s-1 else q.s
noncomputable def p1(o:Str)(q:Stt):Int:=if o = "down" then q.p-1 else q.p
noncomputable def bX(k:Sk)(h:Int)(q:Stt)(o:Str):Stt:=⟨q.x+(wv h (czP (inC k.cs h) (z1 o q)) k.ws).1,q.y+(wv h (czP (inC k.cs h) (z1 o q)) k.ws).2,czP (inC k.cs h) (z1 o q),s1 o q,p1 o q⟩
noncomputable abbrev evP(k:Sk)(h:Int)(q:Stt)(o:Str)(z s p:Int)(a b:Sl):Ev:=[.dat (skD k),.dat (.int h),.dat (stD q),.dat (.str o),.dat (.lst (hL k.hs)),.dat (.lst (iL k.cs)),.dat (.lst (wL k.ws)),.dat (.lst (shL k.ss)),.dat (.int q.x),.dat (.int q.y),.dat (.int z),.dat (.int s),.dat (.int p),a,b]
theorem AC(k:Sk)(h:Int)(q:Stt)(o:Str):kR [skD k,.int h,stD q,.str o]=some (stD (bX k h q o)):=by
 refine bC rfl ?_;unfold oA;refine(au rfl).trans ?_;refine(au rfl).trans ?_;show aC _ _ (evP k h q o q.z q.s q.p .un .un)=_;have c1:ay aZ (af 3) (eC (.str "up")) (evP k h q o q.z q.s q.p .un .un)=some (decide (o = "up")):=rfl;have c2:ay aZ (af 3) (eC (.str "down")) (evP k h q o q.z q.s q.p .un .un)=some (decide (o = "down")):=rfl;have cc:∀z s p,ay (inD false) (af 1) (af 5) (evP k h q o z s p .un .un)=some (inC k.cs h):=λz s p=>cV (x:=.int h) (y:=.lst (iL k.cs)) rfl rfl (wU k.cs h)
 have cool:∀z s p,sIf (ay (inD false) (af 1) (af 5)) (aU 10 (aI j_ (ae (e2 bA (af 10) (eC (.int 1))) (ae (eC (.int 0)) aD)))) bj (evP k h q o z s p .un .un)=some (.nx (evP k h q o (czP (inC k.cs h) z) s p .un .un)):=λz s p=>by
  have:=cc z s p;unfold czP;cases hb:inC k.cs h with
  |true=>rw[hb] at this;rw[g_ this,if_pos rfl];rfl
  |false=>rw[hb] at this;rw[hW this,if_neg Bool.false_ne_true];rfl
 have fin:∀z s p,aC (sIf (ay (inD false) (af 1) (af 5)) (aU 10 (aI j_ (ae (e2 bA (af 10) (eC (.int 1))) (ae (eC (.int 0)) aD)))) bj) (aC (iZ (aI fw (ae (av 6) (ae (av 1) (ae (av 10) aD)))) (cZ 2 (aw (ak 13) (aw (ak 14) bf)))) (a8 (bh (ae (e2 aM (af 8) (af 13)) (ae (e2 aM (af 9) (af 14)) (ae (av 10) (ae (av 11) (ae (av 12) aD)))))))) (evP k h q o z s p .un .un)=some (.rt (stD ⟨q.x+(wv h (czP (inC k.cs h) z) k.ws).1,q.y+(wv h (czP (inC k.cs h) z) k.ws).2,czP (inC k.cs h) z,s,p⟩)):=λz s p=>by
  refine(au (cool z s p)).trans ?_;refine(au (ε':=evP k h q o (czP (inC k.cs h) z) s p (.dat (.int (wv h (czP (inC k.cs h) z) k.ws).1)) (.dat (.int (wv h (czP (inC k.cs h) z) k.ws).2))) ?_).trans rfl;show((aI fw (ae (av 6) (ae (av 1) (ae (av 10) aD))) (evP k h q o (czP (inC k.cs h) z) s p .un .un)).bind λd=>(cZ 2 (aw (ak 13) (aw (ak 14) bf)) d (evP k h q o (czP (inC k.cs h) z) s p .un .un)).map Fl.nx)=_;rw[aX (ds:=[.lst (wL k.ws),.int h,.int (czP (inC k.cs h) z)]) rfl (Ca k.ws h (czP (inC k.cs h) z))];rfl
 unfold bX z1 s1 p1
 by_cases g1:o = "up"
 ·have g2:¬o = "down":=λz=>by rw[g1] at z;exact absurd z (by decide)
  rw[if_pos g1,if_pos g1,if_neg g2];exact(au (ε':=evP k h q o (q.z+1) (q.s-1) q.p .un .un) ((bL _ c1 g1).trans rfl)).trans (fin _ _ _)
 ·rw[if_neg g1,if_neg g1]
  by_cases g2:o = "down"
  ·rw[if_pos g2,if_pos g2]
   exact(au (ε':=evP k h q o (q.z-1) q.s (q.p-1) .un .un) ((bD _ c1 g1).trans ((bL _ c2 g2).trans rfl))).trans (fin _ _ _)
  ·rw[if_neg g2,if_neg g2]
   exact(au (ε':=evP k h q o q.z q.s q.p .un .un) ((bD _ c1 g1).trans ((bD _ c2 g2).trans rfl))).trans (fin _ _ _)
noncomputable def wh(k:Sk)(h:Int)(q:Stt)(o:Str):Str:=if wo o q = "" then why k.hs k.ss (h+1) (bX k h q o) else wo o q
theorem vh(k:Sk)(hk:k.hs.length<=5)(h:Int)(q:Stt)(o:Str):iH [skD k,.int h,stD q,.str o]=some (.tup [.str (wh k h q o),stD (bX k h q o)]):=by
 refine bC rfl ?_;unfold rS;refine(au (bo (d:=stD (bX k h q o)) (aX (ds:=[skD k,.int h,stD q,.str o]) rfl (AC k h q o)))).trans ?_;refine(au (bo (d:=.str (wo o q)) (aX (ds:=[stD q,.str o]) rfl (B1 o q)))).trans ?_;have c:ay aZ (af 5) (eC (.str "")) [.dat (skD k),.dat (.int h),.dat (stD q),.dat (.str o),.dat (stD (bX k h q o)),.dat (.str (wo o q))]=some (decide (wo o q = "")):=rfl;unfold wh
 by_cases g:wo o q = ""
 ·rw[if_pos g]
  refine(au ((bL _ c g).trans (bo (d:=.str (why k.hs k.ss (h+1) (bX k h q o))) (aX (ds:=[skD k,.int (h+1),stD (bX k h q o)]) rfl ?_)))).trans rfl;exact AO k.hs k.cs k.ws k.ss hk (h+1) (bX k h q o)
 ·rw[if_neg g]
  exact(au ((bD _ c g).trans rfl)).trans rfl
noncomputable abbrev Ods:List Str:=["up","level","down"]
noncomputable def can(k:Sk)(h:Int)(q:Stt):List Str:=Ods.filter λo=>decide (wh k h q o = "")
noncomputable def mvD(k:Sk)(h:Int)(q:Stt)(o:Str):D:=.tup [.str o,stD (bX k h q o)]
theorem mP(k:Sk)(h:Int)(q:Stt):(can k h q).length<=3:=List.length_filter_le _ _
theorem ub(k:Sk)(hk:k.hs.length<=5)(h:Int)(q:Stt):gK [skD k,.int h,stD q]=some (.lst ((can k h q).map (mvD k h q))):=by
 refine bC rfl ?_;unfold rW;refine(au rfl).trans ?_
 obtain⟨ε',e,s4,s5,s6,rfl⟩:=gG (g:=ak 4) (gb:=ik) D.str (λdone ε=>∃s4 s5 s6,ε=[.dat (skD k),.dat (.int h),.dat (stD q),.own ((done.filter λo=>decide (wh k h q o = "")).map (mvD k h q)),s4,s5,s6]) Ods (λdone o rest hd ε ⟨s4,s5,s6,he⟩=>by
  subst he;have dl:done.length<3:=by have:=congrArg List.length hd;simp at this;lia
  refine⟨_,[.dat (skD k),.dat (.int h),.dat (stD q),.own (((done++[o]).filter λo=>decide (wh k h q o = "")).map (mvD k h q)),.dat (.str o),.dat (.str (wh k h q o)),.dat (stD (bX k h q o))],rfl,.inl ?_,_,_,_,rfl⟩;unfold ik
  have t:iZ (aI iH (ae (av 0) (ae (av 1) (ae (av 2) (ae (av 4) aD))))) (cZ 2 (aw (ak 5) (aw (ak 6) bf))) [.dat (skD k),.dat (.int h),.dat (stD q),.own ((done.filter λo=>decide (wh k h q o = "")).map (mvD k h q)),.dat (.str o),s5,s6]=some (.nx [.dat (skD k),.dat (.int h),.dat (stD q),.own ((done.filter λo=>decide (wh k h q o = "")).map (mvD k h q)),.dat (.str o),.dat (.str (wh k h q o)),.dat (stD (bX k h q o))]):=by
   show((aI iH (ae (av 0) (ae (av 1) (ae (av 2) (ae (av 4) aD)))) [.dat (skD k),.dat (.int h),.dat (stD q),.own ((done.filter λo=>decide (wh k h q o = "")).map (mvD k h q)),.dat (.str o),s5,s6]).bind λd=>(cZ 2 (aw (ak 5) (aw (ak 6) bf)) d [.dat (skD k),.dat (.int h),.dat (stD q),.own ((done.filter λo=>decide (wh k h q o = "")).map (mvD k h q)),.dat (.str o),s5,s6]).map Fl.nx)=_;rw[aX (ds:=[skD k,.int h,stD q,.str o]) rfl (vh k hk h q o)];rfl
  refine(au t).trans ?_;have c:ay aZ (af 5) (eC (.str "")) [.dat (skD k),.dat (.int h),.dat (stD q),.own ((done.filter λo=>decide (wh k h q o = "")).map (mvD k h q)),.dat (.str o),.dat (.str (wh k h q o)),.dat (stD (bX k h q o))]=some (decide (wh k h q o = "")):=rfl;rw[List.filter_append,List.map_append]
  by_cases g:wh k h q o = ""
  ·refine(bL _ c g).trans ?_
   rw[List.filter_cons_of_pos (by simpa using g)];show(if((done.filter λo=>decide (wh k h q o = "")).map (mvD k h q)).length<1000000 then _ else _)=_;rw[if_pos (by rw[List.length_map];have:=List.length_filter_le (λo=>decide (wh k h q o = "")) done;lia)];rfl
  ·refine(bD _ c g).trans ?_
   rw[List.filter_cons_of_neg (by simpa using g)];simp only[List.filter_nil,List.map_nil,List.append_nil]
   rfl) [.dat (skD k),.dat (.int h),.dat (stD q),.own [],.un,.un,.un] ⟨_,_,_,rfl⟩
 exact(au ((bO (ds:=Ods.map D.str) rfl).trans e)).trans rfl
noncomputable def dz(o:Str):Int:=if o = "up" then 1 else if o = "level" then 0 else -1
noncomputable def czL(c:Bool)(z:Int):Int:=if(c&&decide (z>0))=true then z-1 else z
noncomputable def wX(k:Sk)(h:Int)(q:Stt)(o:Str):Stt:=⟨q.x+(wv h (czL (inC k.cs h) (q.z+dz o)) k.ws).1,q.y+(wv h (czL (inC k.cs h) (q.z+dz o)) k.ws).2,czL (inC k.cs h) (q.z+dz o),q.s-(if dz o>0 then dz o else 0),q.p-(if -dz o>0 then -dz o else 0)⟩
noncomputable abbrev evQ(k:Sk)(h:Int)(q:Stt)(o:Str)(z:Int)(c a b:Sl):Ev:=[.dat (skD k),.dat (.int h),.dat (stD q),.dat (.str o),.dat (.int q.x),.dat (.int q.y),.dat (.int z),.dat (.int q.s),.dat (.int q.p),c,a,b]
theorem rJ(k:Sk)(hw:k.ws.length<100)(h:Int)(q:Stt)(o:Str)(ho:isO o):dX [skD k,.int h,stD q,.str o]=some (stD (wX k h q o)):=by
 refine bC rfl ?_;unfold kG;refine(au (ε':=evQ k h q o q.z .un .un .un) rfl).trans ?_
 have c9:eD3 "up" 1 "level" 0 "down" (-1) (av 3) (evQ k h q o q.z .un .un .un)=some (.int (dz o)):=by
  show(if o = "up" then some (D.int 1) else if o = "level" then some (.int 0) else if o = "down" then some (.int (-1)) else none)=_;unfold dz;rcases ho with rfl | rfl | rfl
  ·rw[if_pos rfl,if_pos rfl]
  ·rw[if_neg (by decide),if_pos rfl,if_neg (by decide),if_pos rfl]
  ·rw[if_neg (by decide),if_neg (by decide),if_pos rfl,if_neg (by decide),if_neg (by decide)]
 refine(au (bo c9)).trans ?_;refine(au (ε':=evQ k h q o (q.z+dz o) (.dat (.int (dz o))) .un .un) rfl).trans ?_
 have cc:bI (ay (inD false) (af 1) (e2 ixD (af 0) (eC (.int 1)))) (ay gtI (af 6) (eC (.int 0))) (evQ k h q o (q.z+dz o) (.dat (.int (dz o))) .un .un)=some (inC k.cs h&&decide (q.z+dz o>0)):=
  cB (cV (x:=.int h) (y:=.lst (iL k.cs)) rfl rfl (wU k.cs h)) rfl
 refine(au (ε':=evQ k h q o (czL (inC k.cs h) (q.z+dz o)) (.dat (.int (dz o))) .un .un) ?_).trans ?_
 ·unfold czL
  cases hb:(inC k.cs h&&decide (q.z+dz o>0)) with
  |true=>rw[hb] at cc;rw[g_ cc,if_pos rfl];rfl
  |false=>rw[hb] at cc;rw[hW cc,if_neg Bool.false_ne_true];rfl
 generalize hz:czL (inC k.cs h) (q.z+dz o)=z;refine(au (ε':=evQ k h q o z (.dat (.int (dz o))) (.dat (.int (wv h z k.ws).1)) (.dat (.int (wv h z k.ws).2))) ?_).trans ?_
 ·show((aI eR (ae (e2 ixD (af 0) (eC (.int 2))) (ae (av 1) (ae (av 6) aD))) (evQ k h q o z (.dat (.int (dz o))) .un .un)).bind λd=>(cZ 2 (aw (ak 10) (aw (ak 11) bf)) d (evQ k h q o z (.dat (.int (dz o))) .un .un)).map Fl.nx)=_
  rw[aX (ds:=[.lst (wL k.ws),.int h,.int z]) rfl (BF k.ws hw h z)];rfl
 ·unfold wX
  rw[hz];rfl
structure StOk(q:Stt):Prop where
 z:0<=q.z
 s:0<=q.s
 p:0<=q.p
theorem BX(q:Stt):wo "up" q=(if q.s<1 then("sacks" : Str) else if q.z=5 then("high" : Str) else("" : Str)):=by
 have n1:("up" : Str)≠"down":=by decide
 simp[wo,n1]
theorem qU(q:Stt):wo "down" q=(if q.p<1 then("puffs" : Str) else if q.z=0 then("low" : Str) else("" : Str)):=by
 have n1:("down" : Str)≠"up":=by decide
 simp[wo,n1]
theorem uF:dz "up" = 1:=if_pos rfl
theorem kQ:dz "level" = 0:=(if_neg (by decide)).trans (if_pos rfl)
theorem mT:dz "down" = -1:=(if_neg (by decide)).trans (if_neg (by decide))
theorem CL(q:Stt):z1 "up" q=q.z+1:=if_pos rfl
theorem vI(q:Stt):z1 "level" q=q.z:=(if_neg (by decide)).trans (if_neg (by decide))
theorem yQ(q:Stt):z1 "down" q=q.z-1:=(if_neg (by decide)).trans (if_pos rfl)
theorem y9(q:Stt):s1 "up" q=q.s-1:=if_pos rfl
theorem oO(q:Stt):s1 "level" q=q.s:=if_neg (by decide)
theorem rH(q:Stt):s1 "down" q=q.s:=if_neg (by decide)
theorem zq(q:Stt):p1 "up" q=q.p:=if_neg (by decide)
theorem o8(q:Stt):p1 "level" q=q.p:=if_neg (by decide)
theorem rR(q:Stt):p1 "down" q=q.p-1:=if_pos rfl
theorem BA(c:Bool)(z:Int)(hz:0<=z):czL c z=czP c z:=by
 unfold czL czP;cases c with
 |false=>rfl
 |true=>
  by_cases e:z>0
  ·rw[if_pos (by simp[e]),if_pos rfl,if_neg (by lia)]
  ·rw[if_neg (by simp[e]),if_pos rfl,if_pos (by lia)];lia
theorem AI{q:Stt}(hw:wo "down" q = ""):¬q.z=0:=λz=>by
 rw[qU,if_pos z] at hw;split at hw
 ·exact absurd hw (by decide)
 ·exact absurd hw (by decide)
theorem zv{o:Str}(ho:isO o){q:Stt}(hq:StOk q)(hw:wo o q = ""):0<=z1 o q/\q.z+dz o=z1 o q:=by
 have h0:=hq.z;rcases ho with rfl | rfl | rfl
 ·rw[CL,uF];lia
 ·rw[vI,kQ];lia
 ·have:=AI hw
  rw[yQ,mT];lia
theorem uj(k:Sk)(h:Int)(q:Stt)(o:Str)(ho:isO o)(hq:StOk q)(hw:wo o q = ""):wX k h q o=bX k h q o:=by
 obtain⟨g1,g2⟩:=zv ho hq hw
 have ss:q.s-(if dz o>0 then dz o else 0)=s1 o q:=by
  rcases ho with rfl | rfl | rfl
  ·rw[uF,y9,if_pos (by decide)]
  ·rw[kQ,oO,if_neg (by decide)];lia
  ·rw[mT,rH,if_neg (by decide)];lia
 have pp:q.p-(if -dz o>0 then -dz o else 0)=p1 o q:=by
  rcases ho with rfl | rfl | rfl
  ·rw[uF,zq,if_neg (by decide)];lia
  ·rw[kQ,o8,if_neg (by decide)];lia
  ·rw[mT,rR,if_pos (by decide)];lia
 unfold wX bX;rw[g2,BA _ _ g1,ss,pp]
theorem Bc(c:Bool)(z:Int)(hz:0<=z):0<=czP c z:=by
 unfold czP;split
 ·split<;>lia
 ·exact hz
theorem Af(k:Sk)(h:Int)(q:Stt)(o:Str)(ho:isO o)(hq:StOk q)(hw:wo o q = ""):StOk (bX k h q o):=by
 have h1:=hq.s;have h2:=hq.p;refine⟨Bc _ _ (zv ho hq hw).1,?_,?_⟩
 ·show 0<=s1 o q
  rcases ho with rfl | rfl | rfl
  ·rw[BX] at hw
   rw[y9];split at hw
   ·exact absurd hw (by decide)
   ·lia
  ·rw[oO];exact h1
  ·rw[rH];exact h1
 ·show 0<=p1 o q
  rcases ho with rfl | rfl | rfl
  ·rw[zq];exact h2
  ·rw[o8];exact h2
  ·rw[qU] at hw
   rw[rR];split at hw
   ·exact absurd hw (by decide)
   ·lia
theorem yI(k:Sk)(kk:SkOk k)(h:Int)(q:Stt)(hq:StOk q)(o:Str)(ho:isO o):fS [skD k,.int h,stD q,.str o]=some (.str (wh k h q o)):=by
 refine bC rfl ?_;unfold k7;have b2:∀(P Q:Prop) [Decidable P] [Decidable Q],(decide P&&decide Q)=decide (P/\Q):=λP Q _ _=>by by_cases p:P<;>by_cases q:Q<;>simp[p,q]
 have c1:bI (ay aZ (af 3) (eC (.str "up"))) (ay aZ (e2 ixD (af 2) (eC (.int 3))) (eC (.int 0))) [.dat (skD k),.dat (.int h),.dat (stD q),.dat (.str o)]=some (decide (o = "up"/\q.s=0)):=by rw[<-b2];exact cB rfl rfl
 have c2:bI (ay aZ (af 3) (eC (.str "down"))) (ay aZ (e2 ixD (af 2) (eC (.int 4))) (eC (.int 0))) [.dat (skD k),.dat (.int h),.dat (stD q),.dat (.str o)]=some (decide (o = "down"/\q.p=0)):=by rw[<-b2];exact cB rfl rfl
 have c3:bI (ay aZ (af 3) (eC (.str "up"))) (ay aZ (e2 ixD (af 2) (eC (.int 2))) (eC (.int 5))) [.dat (skD k),.dat (.int h),.dat (stD q),.dat (.str o)]=some (decide (o = "up"/\q.z=5)):=by rw[<-b2];exact cB rfl rfl
 have c4:bI (ay aZ (af 3) (eC (.str "down"))) (ay aZ (e2 ixD (af 2) (eC (.int 2))) (eC (.int 0))) [.dat (skD k),.dat (.int h),.dat (stD q),.dat (.str o)]=some (decide (o = "down"/\q.z=0)):=by rw[<-b2];exact cB rfl rfl
 have h1:=hq.s;have h2:=hq.p;have sE:(o = "up"/\q.s<1)↔(o = "up"/\q.s=0):=⟨λ⟨a,b⟩=>⟨a,by lia⟩,λ⟨a,b⟩=>⟨a,by lia⟩⟩;have pE:(o = "down"/\q.p<1)↔(o = "down"/\q.p=0):=⟨λ⟨a,b⟩=>⟨a,by lia⟩,λ⟨a,b⟩=>⟨a,by lia⟩⟩
 have ew:wo o q=if o = "up"/\q.s=0 then("sacks" : Str) else if o = "down"/\q.p=0 then("puffs" : Str) else if o = "up"/\q.z=5 then("high" : Str) else if o = "down"/\q.z=0 then("low" : Str) else("" : Str):=by
  unfold wo;simp only[sE,pE]
 unfold wh
 by_cases g1:o = "up"/\q.s=0
 ·rw[if_pos g1] at ew
  rw[ew,if_neg (by decide)];exact bN ((bL _ c1 g1).trans rfl)
 ·rw[if_neg g1] at ew
  refine(au ((bD _ c1 g1).trans rfl)).trans ?_
  by_cases g2:o = "down"/\q.p=0
  ·rw[if_pos g2] at ew
   rw[ew,if_neg (by decide)];exact bN ((bL _ c2 g2).trans rfl)
  ·rw[if_neg g2] at ew
   refine(au ((bD _ c2 g2).trans rfl)).trans ?_
   by_cases g3:o = "up"/\q.z=5
   ·rw[if_pos g3] at ew
    rw[ew,if_neg (by decide)];exact bN ((bL _ c3 g3).trans rfl)
   ·rw[if_neg g3] at ew
    refine(au ((bD _ c3 g3).trans rfl)).trans ?_
    by_cases g4:o = "down"/\q.z=0
    ·rw[if_pos g4] at ew
     rw[ew,if_neg (by decide)];exact bN ((bL _ c4 g4).trans rfl)
    ·rw[if_neg g4] at ew
     refine(au ((bD _ c4 g4).trans rfl)).trans ?_;rw[if_pos ew];refine cC (aX (ds:=[skD k,.int (h+1),stD (bX k h q o)]) (a_ rfl (a_ rfl (a_ (x:=stD (bX k h q o)) ?_ rfl))) (ur k.hs k.cs k.ws k.ss kk.hl (λa b=>by have:=kk.hk a b;unfold lu at this;lia) kk.sl (h+1) (bX k h q o)));rw[<-uj k h q o ho hq ew];exact aX (ds:=[skD k,.int h,stD q,.str o]) rfl (rJ k (by have:=kk.wl;lia) h q o ho)
noncomputable def fg(r:List Str×Stt):D:=.tup [.tup (r.1.map D.str),stD r.2]
noncomputable def tH(k:Sk)(h:Int)(r:List Str×Stt)(o:Str):List Str×Stt:=(r.1++[o],bX k h r.2 o)
noncomputable def qv(k:Sk)(h:Int)(r:List Str×Stt):List (List Str×Stt):=(can k h r.2).map (tH k h r)
noncomputable def flR(k:Sk)(h:Int)(rows:List (List Str×Stt)):List (List Str×Stt):=rows.flatMap (qv k h)
noncomputable def cY(k:Sk)(h:Int)(q:Stt):Nat->List (List Str×Stt)
 |0=>[([],q)]
 |n+1=>flR k (h+(n:Int)) (cY k h q n)
theorem uA(k:Sk)(h:Int)(r:List Str×Stt):(qv k h r).length<=3:=by unfold qv;rw[List.length_map];exact mP k h r.2
theorem nG(k:Sk)(h:Int):∀rows:List (List Str×Stt),(flR k h rows).length<=3*rows.length
 |[]=>Nat.le_refl _
 |r::rows=>by
  have:=nG k h rows;have:=uA k h r;unfold flR at *;rw[List.flatMap_cons,List.length_append,List.length_cons]
  lia
theorem xo{k:Sk}{h:Int}{q:Stt}{o:Str}(ho:o∈can k h q):isO o/\wo o q = "":=by
 obtain⟨h1,h2⟩:=List.mem_filter.mp ho;refine⟨by simpa using h1,?_⟩;have h3:wh k h q o = "":=by simpa using h2
 unfold wh at h3
 by_cases g:wo o q = ""
 ·exact g
 ·rw[if_neg g] at h3;exact h3
theorem ly(k:Sk)(h:Int)(q:Stt)(hq:StOk q):∀n,(cY k h q n).length<=3 ^ n/\∀r∈cY k h q n,r.1.length=n/\StOk r.2
 |0=>⟨Nat.le_refl _,λr hr=>by rw[List.mem_singleton.mp hr];exact⟨rfl,hq⟩⟩
 |n+1=>by
  obtain⟨h1,h2⟩:=ly k h q hq n;refine⟨?_,λr hr=>?_⟩
  ·have:=nG k (h+(n:Int)) (cY k h q n)
   show(flR k (h+(n:Int)) (cY k h q n)).length<=3 ^ (n+1);rw[Nat.pow_succ]
   lia
  ·obtain⟨r0,hr0,hm⟩:=List.mem_flatMap.mp (show r∈flR k (h+(n:Int)) (cY k h q n) from hr)
   obtain⟨o,ho,rfl⟩:=List.mem_map.mp hm;obtain⟨g1,g2⟩:=h2 r0 hr0;obtain⟨g3,g4⟩:=xo ho;refine⟨?_,Af k _ r0.2 o g3 g2 g4⟩;show(r0.1++[o]).length=n+1;rw[List.length_append,g1];rfl
theorem xb(l:List Str)(hl:l.length<=900)(o:Str):ux (.tup (l.map D.str)) (.tup [.str o])=some (.tup ((l++[o]).map D.str)):=by
 cases l with
 |nil=>rfl
 |cons x xs=>
  show(if(xs.map D.str).length+0<=1000 then some (D.tup (D.str x::xs.map D.str++[D.str o])) else none)=_;rw[if_pos (by rw[List.length_map];simp at hl;lia)];simp
section
variable(k:Sk)(kk:SkOk k)(h:Int)(q:Stt)(m:Sl)
noncomputable abbrev evF(rows:Sl)(at_:Nat)(L:List D)(a b c:Sl):Ev:=[.dat (skD k),.dat (.int h),.dat (stD q),m,rows,.dat (.int (at_:Int)),.own L,a,b,c]
include kk in
theorem AQ(rows:Sl)(n:Nat)(L:List D)(hL:L.length<=900000)(r:List Str×Stt)(hr:r.1.length<=900)(hs:StOk r.2)(c:Sl):∃c',cf (evF k h q m rows n L (.dat (.tup (r.1.map D.str))) (.dat (stD r.2)) c)=some (.nx (evF k h q m rows n (L++(qv k (h+(n:Int)) r).map fg) (.dat (.tup (r.1.map D.str))) (.dat (stD r.2)) c')):=by
 obtain⟨ε',e,c',rfl⟩:=gG (g:=ak 9) (gb:=cN) D.str (λdone ε=>∃c,ε=evF k h q m rows n (L++((done.filter λo=>decide (wh k (h+(n:Int)) r.2 o = "")).map (tH k (h+(n:Int)) r)).map fg) (.dat (.tup (r.1.map D.str))) (.dat (stD r.2)) c) Ods (λdone o rest hd ε ⟨c,he⟩=>by
  subst he;have dl:done.length<3:=by have:=congrArg List.length hd;simp at this;lia
  have ho:isO o:=by
   have:o∈Ods:=by rw[<-hd];simp
   simpa using this
  refine⟨_,evF k h q m rows n (L++(((done++[o]).filter λo=>decide (wh k (h+(n:Int)) r.2 o = "")).map (tH k (h+(n:Int)) r)).map fg) (.dat (.tup (r.1.map D.str))) (.dat (stD r.2)) (.dat (.str o)),rfl,.inl ?_,_,rfl⟩;generalize hX:L++((done.filter λo=>decide (wh k (h+(n:Int)) r.2 o = "")).map (tH k (h+(n:Int)) r)).map fg=X
  have lX:X.length<1000000:=by
   rw[<-hX,List.length_append,List.length_map,List.length_map];have:=List.length_filter_le (λo=>decide (wh k (h+(n:Int)) r.2 o = "")) done
   lia
  unfold cN;show sIf _ _ _ (evF k h q m rows n X (.dat (.tup (r.1.map D.str))) (.dat (stD r.2)) (.dat (.str o)))=_
  have c1:ay aZ (aI fS (ae (av 0) (ae (e2 aM (af 1) (af 5)) (ae (av 8) (ae (av 9) aD))))) (eC (.str "")) (evF k h q m rows n X (.dat (.tup (r.1.map D.str))) (.dat (stD r.2)) (.dat (.str o)))=some (decide (wh k (h+(n:Int)) r.2 o = "")):=
   cV (x:=.str (wh k (h+(n:Int)) r.2 o)) (y:=.str "") (aX (ds:=[skD k,.int (h+(n:Int)),stD r.2,.str o]) rfl (yI k kk (h+(n:Int)) r.2 hs o ho)) rfl rfl
  rw[List.filter_append,List.map_append,List.map_append,<-List.append_assoc,hX]
  by_cases g:wh k (h+(n:Int)) r.2 o = ""
  ·refine(bL _ c1 g).trans ?_
   rw[List.filter_cons_of_pos (by simpa using g)]
   have gw:wo o r.2 = "":=by
    unfold wh at g
    by_cases g':wo o r.2 = ""
    ·exact g'
    ·rw[if_neg g'] at g;exact g
   have e1:bh (ae (e2 ux (af 7) (bh (ae (av 9) aD))) (ae (aI dX (ae (av 0) (ae (e2 aM (af 1) (af 5)) (ae (av 8) (ae (av 9) aD))))) aD)) (evF k h q m rows n X (.dat (.tup (r.1.map D.str))) (.dat (stD r.2)) (.dat (.str o)))=some (fg (tH k (h+(n:Int)) r o)):=by
    refine gO (a_ (x:=.tup ((r.1++[o]).map D.str)) (ba (x:=.tup (r.1.map D.str)) (y:=.tup [.str o]) rfl rfl (xb r.1 hr o)) (a_ (x:=stD (bX k (h+(n:Int)) r.2 o)) ?_ rfl)) (show 2<=1000 by decide);rw[<-uj k (h+(n:Int)) r.2 o ho hs gw];exact aX (ds:=[skD k,.int (h+(n:Int)),stD r.2,.str o]) rfl (rJ k (by have:=kk.wl;lia) (h+(n:Int)) r.2 o ho)
   show(bh _ _).bind _=_;rw[e1];show(if X.length<1000000 then _ else _)=_;rw[if_pos lX];rfl
  ·refine(bD _ c1 g).trans ?_
   rw[List.filter_cons_of_neg (by simpa using g)];simp only[List.filter_nil,List.map_nil,List.append_nil]
   rfl) (evF k h q m rows n L (.dat (.tup (r.1.map D.str))) (.dat (stD r.2)) c) ⟨c,by simp⟩
 refine⟨c',?_⟩;unfold cf;exact(bO (ds:=Ods.map D.str) rfl).trans e
include kk in
theorem w_(n:Nat)(rows:List (List Str×Stt))(hl:rows.length<=200000)(hr:∀r∈rows,r.1.length<=900/\StOk r.2)(s6 s7 s8 s9:Sl):∃e6 e7 e8 e9,cb [.dat (skD k),.dat (.int h),.dat (stD q),m,.dat (.lst (rows.map fg)),.dat (.int (n:Int)),s6,s7,s8,s9]=some (.nx [.dat (skD k),.dat (.int h),.dat (stD q),m,.dat (.lst ((flR k (h+(n:Int)) rows).map fg)),.dat (.int (n:Int)),e6,e7,e8,e9]):=by
 unfold cb
 obtain⟨ε',e,e7,e8,e9,rfl⟩:=gG (g:=cU 2 (aw (ak 7) (aw (ak 8) bf))) (gb:=cf) fg (λdone ε=>∃a b c,ε=evF k h q m (.dat (.lst (rows.map fg))) n ((flR k (h+(n:Int)) done).map fg) a b c) rows (λdone r rest hd ε ⟨a,b,c,he⟩=>by
  subst he;obtain⟨g1,g2⟩:=hr r (by rw[<-hd];simp);have dl:done.length<=200000:=by have:=congrArg List.length hd;simp at this;lia
  obtain⟨c',e⟩:=AQ k kk h q m (.dat (.lst (rows.map fg))) n ((flR k (h+(n:Int)) done).map fg) (by rw[List.length_map];have:=nG k (h+(n:Int)) done;lia) r g1 g2 c;refine⟨_,_,rfl,.inl e,.dat (.tup (r.1.map D.str)),.dat (stD r.2),c',?_⟩;rw[<-List.map_append];have:flR k (h+(n:Int)) (done++[r])=flR k (h+(n:Int)) done++qv k (h+(n:Int)) r:=by unfold flR;rw[List.flatMap_append];simp
  rw[this]) (evF k h q m (.dat (.lst (rows.map fg))) n [] s7 s8 s9) ⟨_,_,_,rfl⟩
 refine⟨_,_,_,_,(au (ε':=evF k h q m (.dat (.lst (rows.map fg))) n [] s7 s8 s9) rfl).trans ((au ((bO (ds:=rows.map fg) rfl).trans e)).trans rfl)⟩
include kk in
theorem qw(hq:StOk q)(n:Nat)(hn:n<=8):bW [skD k,.int h,stD q,.int (n:Int)]=some (.lst ((cY k h q n).map fg)):=by
 refine bC rfl ?_;unfold gf;refine(au (ε':=[.dat (skD k),.dat (.int h),.dat (stD q),.dat (.int (n:Int)),.dat (.lst ((cY k h q 0).map fg)),.un,.un,.un,.un,.un]) rfl).trans ?_
 obtain⟨ε',e,e5,e6,e7,e8,e9,rfl⟩:=d7 (g:=ak 5) (gb:=cb) (λi ε=>∃s5 s6 s7 s8 s9,ε=[.dat (skD k),.dat (.int h),.dat (stD q),.dat (.int (n:Int)),.dat (.lst ((cY k h q i).map fg)),s5,s6,s7,s8,s9]) (cK n) 0 (λi d hd ε ⟨s5,s6,s7,s8,s9,he⟩=>by
  subst he;obtain⟨rfl,hi⟩:=fD hd;rw[Nat.zero_add];obtain⟨h1,h2⟩:=ly k h q hq i;have p3:3 ^ i<=3 ^ 8:=Nat.pow_le_pow_right (by decide) (by lia);obtain⟨e6,e7,e8,e9,e⟩:=w_ k kk h q (.dat (.int (n:Int))) i (cY k h q i) (by lia) (λr hr=>⟨by have:=(h2 r hr).1;lia,(h2 r hr).2⟩) s6 s7 s8 s9
  exact⟨_,_,rfl,.inl e,_,_,_,_,_,rfl⟩) [.dat (skD k),.dat (.int h),.dat (stD q),.dat (.int (n:Int)),.dat (.lst ((cY k h q 0).map fg)),.un,.un,.un,.un,.un] ⟨_,_,_,_,_,rfl⟩
 refine(au ((bO (ds:=cK n) (fM (j:=(n:Int)) rfl (by lia) (by lia))).trans e)).trans ?_;rw[show(cK n).length=n by unfold cK;simp,Nat.zero_add];rfl
end
theorem yc(k:Sk)(kk:SkOk k):dA [skD k]=some (skD k):=by
 have hl:=kk.hl;have cl:=kk.cl;have wl:=kk.wl;have sl:=kk.sl;refine bC rfl ?_;unfold jM;refine cC (gO (a_ (x:=.lst (hL k.hs)) (c7 ?_) (a_ (x:=.lst (iL k.cs)) (c7 ?_) (a_ (x:=.lst (wL k.ws)) (c7 ?_) (a_ (x:=.lst (shL k.ss)) (c7 ?_) rfl)))) (show 4<=1000 by decide))<;>rfl
end Fl
namespace Dn
open PySem PyProof.Rows
theorem bH{M:Model}{A:Around}{E:Value->Shared->Prop}{s:Shared}{σ α:Type}{c:Prop}[Decidable c]{a b:StateT σ Sem α}{Q:α->σ->Prop}{st:σ}(h:c)(k:wpS M A E s a Q st):wpS M A E s (if c then a else b) Q st:=by rw[if_pos h];exact k
theorem bw{M:Model}{A:Around}{E:Value->Shared->Prop}{s:Shared}{σ α:Type}{c:Prop}[Decidable c]{a b:StateT σ Sem α}{Q:α->σ->Prop}{st:σ}(h:¬c)(k:wpS M A E s b Q st):wpS M A E s (if c then a else b) Q st:=by rw[if_neg h];exact k
theorem zk{l m r k x:Nat}(m1:l<=m)(g:r-l<=k-x):r-(m+1)<=k-(x+1):=Nat.le_trans (Nat.sub_le_sub_left (Nat.succ_le_succ m1) r) (Nat.sub_le_sub_right g 1)
theorem zw{l m r k x:Nat}(m1:l<=m)(m2:m<r)(g:r-l<=k-x):m-l<=k-(x+1):=Nat.le_sub_one_of_lt (Nat.lt_of_lt_of_le (Nat.sub_lt_sub_right m1 m2) g)
noncomputable def xk:Bool->Keyed->Array Keyed->Nat->Nat->Nat->StateT SortSt Sem (Option Nat):=sortPriv% PySem.Builtin.gallop
section
variable{M:Model}{A:Around}{E:Value->Shared->Prop}{s:Shared}{κ:SortKind}{S:Keyed->Prop}{L:Keyed->Keyed->Bool}
noncomputable def lN(M:Model)(A:Around)(E:Value->Shared->Prop)(s:Shared)(κ:SortKind)(S:Keyed->Prop)(L:Keyed->Keyed->Bool):Prop:=
 ∀(x y:Keyed) (st:SortSt) (Q:Option Bool->SortSt->Prop),S x->S y->kindOf st=κ->Q (some (L x y)) st->wpS M A E s (lt' x y) Q st
theorem a9{arr:Array Keyed}{i:Nat}{st:SortSt}{Q:Keyed->SortSt->Prop}(hi:i<arr.size)(h:Q arr[i] st):wpS M A E s (elem' arr i) Q st:=by
 rw[elem'_eq,Array.getElem?_eq_getElem hi];exact wpS_pure h
noncomputable def byd(L:Keyed->Keyed->Bool)(left:Bool)(key:Keyed)(x:Keyed):Bool:=if left=true then L x key else !L key x
theorem dQ(C:lN M A E s κ S L){left:Bool}{key:Keyed}{arr:Array Keyed}{base n hint:Nat}{st:SortSt}{Q:Option Nat->SortSt->Prop}(hS:∀x∈arr.toList,S x)(hk:S key)(hb:base+n<=arr.size)(hh:hint<n)(hst:kindOf st=κ)
  (f:Nat->Bool) (hf:∀i (h:base+i<arr.size),i<n->f i=byd L left key arr[base+i]) (mono:∀i j,i<=j->j<n->f j=true->f i=true)
  (h:∀hi,hi<=n->(∀i,i<hi->f i=true)->(∀i,hi<=i->i<n->f i=false)->Q (some hi) st):wpS M A E s (xk left key arr base n hint) Q st:=by
 have ask:∀(i:Nat) (R:Option Bool->SortSt->Prop),i<n->R (some (f i)) st->wpS M A E s (do
   let x<-elem' arr (base+i)
   if left then lt' x key else return (<-lt' key x).map (!·)) R st:=λi R hi r=>by
  have hi':base+i<arr.size:=by lia
  refine wpS_bind (a9 hi' ?_);have sx:S arr[base+i]:=hS _ (by simp);rw[hf i hi' hi] at r;unfold byd at r;cases left with
  |true=>exact C _ _ st _ sx hk hst r
  |false=>exact wpS_bind (C _ _ st _ hk sx hst (wpS_pure r))
 refine wpS_bind (ask hint _ hh ?_);dsimp -zeta -zetaHave only
 extract_lets jp m1 m2
 have K:∀a b lo0 hi0,lo0<=hi0->hi0<=n->(∀i,i<lo0->f i=true)->(∀i,hi0<=i->i<n->f i=false)->wpS M A E s (jp () a b lo0 hi0) Q st:=by
  intro a b lo0 hi0 F1 F2 F3 F4;dsimp only[jp]
  refine wpS_bind (wpS_mono (wpS_forRange (I:=λx c st'=>st=st'/\∃lo hi,c=(none,lo,hi)/\lo<=hi/\hi<=n/\hi-lo<=n-x/\(∀i,i<lo->f i=true)/\(∀i,hi<=i->i<n->f i=false))
   (Q:=λc st'=>st=st'/\∃hi,c=(none,hi,hi)/\hi<=n/\(∀i,i<hi->f i=true)/\(∀i,hi<=i->i<n->f i=false)) ?_ ?_ ⟨rfl,_,_,rfl,F1,F2,by lia,F3,F4⟩) ?_)
  ·rintro x c st' _ hx ⟨rfl,lo,hi,rfl,g1,g2,g3,g4,g5⟩
   dsimp only
   by_cases ge:lo>=hi
   ·first | refine bH ge ?_ | rw[if_pos ge]
    have e:lo=hi:=by lia
    subst e;exact wpS_pure ⟨rfl,lo,rfl,g2,g4,g5⟩
   ·first | refine bw ge ?_ | rw[if_neg ge]
    have m1:lo<=lo+(hi-lo)/2:=Nat.le_add_right _ _;have m2:lo+(hi-lo)/2<hi:=by lia
    generalize lo+(hi-lo)/2=m at m1 m2 ⊢;refine wpS_bind (ask (m) _ (by lia) ?_);cases hm:f (m) with
    |true=>exact wpS_pure ⟨rfl,m+1,hi,rfl,m2,g2,zk m1 g3,λi hi'=>mono i _ (by lia) (by lia) hm,g5⟩
    |false=>
     refine wpS_pure ⟨rfl,lo,m,rfl,m1,Nat.le_trans (Nat.le_of_lt m2) g2,zw m1 m2 g3,g4,λi h1 h2=>?_⟩;cases hv:f i with
     |false=>rfl
     |true=>rw[mono _ i h1 h2 hv] at hm;cases hm
  ·rintro c st' ⟨rfl,lo,hi,rfl,g1,g2,g3,g4,g5⟩
   have e:lo=hi:=by lia
   subst e;exact⟨rfl,lo,rfl,g2,g4,g5⟩
  ·rintro c st' ⟨rfl,hi,rfl,g2,g4,g5⟩
   exact wpS_pure (h hi g2 g4 g5)
 clear_value jp
 dsimp only[m1,m2];cases hv:f hint with
 |true=>
  first | refine bH rfl ?_ | rw[if_pos rfl]
  refine wpS_bind (wpS_mono (wpS_forRange (I:=λx c st'=>st=st'/\∃la of,c=(none,la,of)/\la<of/\x+1<=of/\hint+la<n/\f (hint+la)=true)
   (Q:=λc st'=>st=st'/\∃la of,c=(none,la,of)/\la<of/\hint+la<n/\f (hint+la)=true/\(of>=n-hint\/f (hint+of)=false)) ?_ ?_ ⟨rfl,0,1,rfl,by lia,by lia,hh,hv⟩) ?_)
  ·rintro x c st' _ hx ⟨rfl,la,of,rfl,g1,g2,g3,g4⟩
   dsimp only
   by_cases ge:of>=n-hint
   ·rw[if_pos ge];exact wpS_pure ⟨rfl,la,of,rfl,g1,g3,g4,.inl ge⟩
   ·first | refine bw ge ?_ | rw[if_neg ge]
    refine wpS_bind (ask (hint+of) _ (by lia) ?_);cases hm:f (hint+of) with
    |true=>exact wpS_pure ⟨rfl,of,2*of+1,rfl,by lia,by lia,by lia,hm⟩
    |false=>exact wpS_pure ⟨rfl,la,of,rfl,g1,g3,g4,.inr hm⟩
  ·rintro c st' ⟨rfl,la,of,rfl,g1,g2,g3,g4⟩
   exact⟨rfl,la,of,rfl,g1,g3,g4,.inl (by lia)⟩
  ·rintro c st' ⟨rfl,la,of,rfl,g1,g3,g4,g5⟩
   dsimp only;have F1:hint+la+1<=hint+min of (n-hint):=by lia
   have F2:hint+min of (n-hint)<=n:=by lia
   have F3:∀i,i<hint+la+1->f i=true:=λi hi=>mono i (hint+la) (by lia) g3 g4
   have F4:∀i,hint+min of (n-hint)<=i->i<n->f i=false:=λi h1 h2=>by
    rcases g5 with g5 | g5
    ·lia
    ·cases hv:f i with
     |false=>rfl
     |true=>rw[mono (hint+of) i (by lia) h2 hv] at g5;cases g5
   exact K _ _ _ _ F1 F2 F3 F4
 |false=>
  first | refine bw Bool.false_ne_true ?_ | rw[if_neg Bool.false_ne_true]
  refine wpS_bind (wpS_mono (wpS_forRange (I:=λx c st'=>st=st'/\∃la of,c=(none,la,of)/\la<of/\x+1<=of/\la<=hint/\f (hint-la)=false)
   (Q:=λc st'=>st=st'/\∃la of,c=(none,la,of)/\la<of/\la<=hint/\f (hint-la)=false/\(of>=hint+1\/f (hint-of)=true)) ?_ ?_ ⟨rfl,0,1,rfl,by lia,by lia,by lia,hv⟩) ?_)
  ·rintro x c st' _ hx ⟨rfl,la,of,rfl,g1,g2,g3,g4⟩
   dsimp only
   by_cases ge:of>=hint+1
   ·rw[if_pos ge];exact wpS_pure ⟨rfl,la,of,rfl,g1,g3,g4,.inl ge⟩
   ·first | refine bw ge ?_ | rw[if_neg ge]
    refine wpS_bind (ask (hint-of) _ (by lia) ?_);cases hm:f (hint-of) with
    |true=>exact wpS_pure ⟨rfl,la,of,rfl,g1,g3,g4,.inr hm⟩
    |false=>exact wpS_pure ⟨rfl,of,2*of+1,rfl,by lia,by lia,by lia,hm⟩
  ·rintro c st' ⟨rfl,la,of,rfl,g1,g2,g3,g4⟩
   exact⟨rfl,la,of,rfl,g1,g3,g4,.inl (by lia)⟩
  ·rintro c st' ⟨rfl,la,of,rfl,g1,g3,g4,g5⟩
   dsimp only;have F1:hint+1-min of (hint+1)<=hint-la:=by omega
   have F2:hint-la<=n:=by lia
   have F3:∀i,i<hint+1-min of (hint+1)->f i=true:=λi hi=>by
    rcases g5 with g5 | g5
    ·lia
    ·exact mono i (hint-of) (by lia) (by lia) g5
   have F4:∀i,hint-la<=i->i<n->f i=false:=λi h1 h2=>by
    cases hv:f i with
    |false=>rfl
    |true=>rw[mono (hint-la) i h1 h2 hv] at g4;cases g4
   exact K _ _ _ _ F1 F2 F3 F4
end
noncomputable abbrev leK(L:Keyed->Keyed->Bool)(x y:Keyed):Prop:=L y x=false
structure MI(L:Keyed->Keyed->Bool)(a b out:List Keyed)(ia ib:Nat):Prop where
 la:ia<=a.length
 lb:ib<=b.length
 pm:out.Perm (a.take ia++b.take ib)
 pa:(out++a.drop ia).Pairwise (leK L)
 pb:(out++b.drop ib).Pairwise (leK L)
noncomputable def fF(L:Keyed->Keyed->Bool)(a b r:List Keyed):Prop:=r.Pairwise (leK L)/\r.Perm (a++b)
section
variable{L:Keyed->Keyed->Bool}{a b out:List Keyed}{ia ib:Nat}
theorem j0{l:List Keyed}{i:Nat}{x:Keyed}(h:l[i]?=some x):l.drop i=x::l.drop (i+1):=by
 obtain⟨h1,h2⟩:=List.getElem?_eq_some_iff.mp h;rw[List.drop_eq_getElem_cons h1,h2]
theorem rV{l:List Keyed}{i:Nat}{x:Keyed}(h:l[i]?=some x):l.take (i+1)=l.take i++[x]:=by
 rw[List.take_add_one,h];rfl
theorem MI.pushB(h:MI L a b out ia ib){x:Keyed}(hb:b[ib]?=some x)(hx:∀y∈a.drop ia,leK L x y):MI L a b (out++[x]) ia (ib+1):=by
 have lt:ib<b.length:=(List.getElem?_eq_some_iff.mp hb).1;obtain⟨p1,p2,p3⟩:=List.pairwise_append.mp h.pa;have pb:=h.pb;rw[j0 hb] at pb;obtain⟨q1,q2,q3⟩:=List.pairwise_append.mp pb;refine⟨h.la,lt,?_,?_,?_⟩
 ·rw[rV hb,<-List.append_assoc]
  exact h.pm.append (List.Perm.refl _)
 ·rw[List.append_assoc]
  refine List.pairwise_append.mpr ⟨p1,List.pairwise_cons.mpr ⟨hx,p2⟩,λu hu v hv=>?_⟩;rcases List.mem_cons.mp hv with rfl | hv9
  ·exact q3 u hu _ (List.mem_cons_self ..)
  ·exact p3 u hu v hv9
 ·rw[List.append_assoc]
  exact pb
theorem MI.pushA(h:MI L a b out ia ib){x:Keyed}(ha:a[ia]?=some x)(hx:∀y∈b.drop ib,leK L x y):MI L a b (out++[x]) (ia+1) ib:=by
 have lt:ia<a.length:=(List.getElem?_eq_some_iff.mp ha).1;obtain⟨p1,p2,p3⟩:=List.pairwise_append.mp h.pb;have pa:=h.pa;rw[j0 ha] at pa;obtain⟨q1,q2,q3⟩:=List.pairwise_append.mp pa;refine⟨lt,h.lb,?_,?_,?_⟩
 ·rw[rV ha]
  have:(a.take ia++[x]++b.take ib).Perm (a.take ia++b.take ib++[x]):=by
   rw[List.append_assoc,List.append_assoc];exact(List.Perm.refl _).append List.perm_append_comm
  exact(h.pm.append (List.Perm.refl _)).trans this.symm
 ·rw[List.append_assoc]
  exact pa
 ·rw[List.append_assoc]
  refine List.pairwise_append.mpr ⟨p1,List.pairwise_cons.mpr ⟨hx,p2⟩,λu hu v hv=>?_⟩;rcases List.mem_cons.mp hv with rfl | hv9
  ·exact q3 u hu _ (List.mem_cons_self ..)
  ·exact p3 u hu v hv9
theorem mF{l:List Keyed}{i k:Nat}{x:Keyed}(h:l[i+k]?=some x):(l.drop i).take (k+1)=(l.drop i).take k++[x]:=by
 rw[List.take_add_one,List.getElem?_drop,h];rfl
theorem MI.chunkB(h:MI L a b out ia ib):∀(k:Nat),ib+k<=b.length->(∀i,i<k->∀x,b[ib+i]?=some x->∀y∈a.drop ia,leK L x y)->MI L a b (out++(b.drop ib).take k) ia (ib+k)
 |0,_,_=>by rw[List.take_zero,List.append_nil];exact h
 |k+1,hk,hx=>by
  have ih:=MI.chunkB h k (by lia) λi hi=>hx i (by lia);have e:b[ib+k]?=some b[ib+k]:=by simp
  have:=ih.pushB e (hx k (by lia) _ e);rw[mF e,<-List.append_assoc];exact this
theorem MI.chunkA(h:MI L a b out ia ib):∀(k:Nat),ia+k<=a.length->(∀i,i<k->∀x,a[ia+i]?=some x->∀y∈b.drop ib,leK L x y)->MI L a b (out++(a.drop ia).take k) (ia+k) ib
 |0,_,_=>by rw[List.take_zero,List.append_nil];exact h
 |k+1,hk,hx=>by
  have ih:=MI.chunkA h k (by lia) λi hi=>hx i (by lia);have e:a[ia+k]?=some a[ia+k]:=by simp
  have:=ih.pushA e (hx k (by lia) _ e);rw[mF e,<-List.append_assoc];exact this
theorem MI.perm(h:MI L a b out ia ib):(out++a.drop ia++b.drop ib).Perm (a++b):=by
 have e1:(a.take ia++b.take ib++a.drop ia++b.drop ib).Perm (a.take ia++a.drop ia++(b.take ib++b.drop ib)):=by
  rw[List.append_assoc,List.append_assoc,List.append_assoc];refine(List.Perm.refl _).append ?_;rw[<-List.append_assoc,<-List.append_assoc];exact List.perm_append_comm.append (List.Perm.refl _)
 rw[List.take_append_drop,List.take_append_drop] at e1;exact((h.pm.append (List.Perm.refl _)).append (List.Perm.refl _)).trans e1
theorem MI.finB(h:MI L a b out ia ib)(e:ib=b.length):fF L a b (out++a.drop ia++b.drop ib):=by
 refine⟨?_,h.perm⟩;rw[e,List.drop_length,List.append_nil];exact h.pa
theorem MI.finA(h:MI L a b out ia ib)(e:ia=a.length):fF L a b (out++a.drop ia++b.drop ib):=by
 refine⟨?_,h.perm⟩;rw[e,List.drop_length,List.append_nil];exact h.pb
theorem MI.lastA(h:MI L a b out ia ib){x:Keyed}(e:ia+1=a.length)(ha:a[ia]?=some x)(hx:∀y∈b,leK L y x):fF L a b (out++b.drop ib++a.drop ia):=by
 have d:a.drop ia=[x]:=by rw[j0 ha,e,List.drop_length]
 have pa:=h.pa;rw[d] at pa;obtain⟨q1,q2,q3⟩:=List.pairwise_append.mp pa;refine⟨?_,?_⟩
 ·rw[d]
  refine List.pairwise_append.mpr ⟨h.pb,by simp,λu hu v hv=>?_⟩;rw[List.mem_singleton.mp hv];rcases List.mem_append.mp hu with hu | hu
  ·exact q3 u hu x (by simp)
  ·exact hx u (List.mem_of_mem_drop hu)
 ·refine List.Perm.trans ?_ h.perm
  rw[List.append_assoc,List.append_assoc];exact(List.Perm.refl _).append List.perm_append_comm
theorem MI.lastB(h:MI L a b out ia ib){x:Keyed}(e:ib+1=b.length)(hb:b[ib]?=some x)(hx:∀y∈a,leK L y x):fF L a b (out++a.drop ia++b.drop ib):=by
 have d:b.drop ib=[x]:=by rw[j0 hb,e,List.drop_length]
 have pb:=h.pb;rw[d] at pb;obtain⟨q1,q2,q3⟩:=List.pairwise_append.mp pb;refine⟨?_,h.perm⟩;rw[d];refine List.pairwise_append.mpr ⟨h.pa,by simp,λu hu v hv=>?_⟩;rw[List.mem_singleton.mp hv];rcases List.mem_append.mp hu with hu | hu
 ·exact q3 u hu x (by simp)
 ·exact hx u (List.mem_of_mem_drop hu)
end
theorem MI.start{L:Keyed->Keyed->Bool}{a b:List Keyed}(sa:a.Pairwise (leK L))(sb:b.Pairwise (leK L)):MI L a b [] 0 0:=⟨Nat.zero_le _,Nat.zero_le _,by simp,by simpa using sa,by simpa using sb⟩
theorem hE{L:Keyed->Keyed->Bool}(as:∀x y,L x y=true->L y x=false){l:List Keyed}(h:l.Pairwise (leK L)){i j:Nat}{x y:Keyed}(hx:l[i]?=some x)(hy:l[j]?=some y)(ij:i<=j):leK L x y:=by
 obtain⟨h1,rfl⟩:=List.getElem?_eq_some_iff.mp hx;obtain⟨h2,rfl⟩:=List.getElem?_eq_some_iff.mp hy
 by_cases e:i=j
 ·subst e
  cases hv:L l[i] l[i] with
  |false=>exact hv
  |true=>have:=as _ _ hv;rw[hv] at this;cases this
 ·exact List.pairwise_iff_getElem.mp h i j h1 h2 (by lia)
theorem q9{L:Keyed->Keyed->Bool}{a b r:List Keyed}(h:fF (λx y=>L y x) a.reverse b.reverse r):fF L a b r.reverse:=by
 refine⟨List.pairwise_reverse.mpr h.1,?_⟩;refine(List.reverse_perm r).trans (h.2.trans ?_);exact(List.reverse_perm a).append (List.reverse_perm b)
theorem vg{l:List Keyed}{q:Nat}(h1:1<=q)(h2:q<=l.length):l.reverse[l.length-q]?=l[q-1]?:=by
 rw[List.getElem?_reverse (by lia)];congr 1
 lia
theorem gd{l:List Keyed}{q:Nat}(h:q<=l.length):l.reverse.drop (l.length-q)=(l.take q).reverse:=by
 rw[List.drop_reverse];congr 2
 lia
theorem rj{l:List Keyed}{p q:Nat}(h1:p<=q)(h2:q<=l.length):(l.reverse.drop (l.length-q)).take (q-p)=((l.drop p).take (q-p)).reverse:=by
 rw[gd h2,List.take_reverse,List.length_take,List.drop_take];congr 3<;>lia
noncomputable def lO:Nat->StateT SortSt Sem Unit:=sortPriv% PySem.Builtin.setMinGallop
noncomputable def vM:Array Keyed->Array Keyed->StateT SortSt Sem (Array Keyed):=sortPriv% PySem.Builtin.mergeLo
section
variable{M:Model}{A:Around}{E:Value->Shared->Prop}{s:Shared}{κ:SortKind}{S:Keyed->Prop}{L:Keyed->Keyed->Bool}
structure SmG(st st':SortSt):Prop where
 k:kindOf st'=kindOf st
 a:arrOf st'=arrOf st
 p:pendingOf st'=pendingOf st
 f:failedOf st'=failedOf st
theorem SmG.rf(st:SortSt):SmG st st:=⟨rfl,rfl,rfl,rfl⟩
theorem iY{g:Nat}{st:SortSt}{Q:Unit->SortSt->Prop}(h:∀st',SmG st st'->Q () st'):wpS M A E s (lO g) Q st:=by
 show wpS M A E s (modify λs=>SortSt.mk' (kindOf s) (arrOf s) (pendingOf s) g (failedOf s)) Q st;exact wpS_modify (h _ ⟨rfl,rfl,rfl,rfl⟩)
theorem SmG.tr{x y z:SortSt}(h:SmG x y)(g:SmG y z):SmG x z:=⟨g.k.trans h.k,g.a.trans h.a,g.p.trans h.p,g.f.trans h.f⟩
theorem fm{msg:String}{st:SortSt}{Q:Unit->SortSt->Prop}(h:Q () st):wpS M A E s (liftM (rule msg):StateT SortSt Sem Unit) Q st:=wpS_lift (wpAny_rule ⟨rfl,h⟩)
theorem mU(x:Array Keyed)(i:Nat):(x.extract i).toList=x.toList.drop i:=by
 simp only[Array.toList_extract];exact List.take_of_length_le (by simp:_<=_)
theorem vk(x:Array Keyed)(i k:Nat):(x.extract i (i+k)).toList=(x.toList.drop i).take k:=by simp
theorem atL{x:Array Keyed}{i:Nat}(h:i<x.size):x.toList[i]?=some x[i]:=by simp[h]
structure MG(L:Keyed->Keyed->Bool)(a b out:Array Keyed)(ia ib:Nat):Prop where
 mi:MI L a.toList b.toList out.toList ia ib
 la:ia+1<a.size
 lb:ib<b.size
theorem rq{M:Model}{A:Around}{E:Value->Shared->Prop}{s:Shared}{σ α β:Type}{c:Prop}[Decidable c]{f:β->StateT σ Sem α}{x y:β}{Q:α->σ->Prop}{st:σ}(h:∀z,wpS M A E s (f z) Q st):wpS M A E s (if c then f x else f y) Q st:=by split<;>exact h _
theorem jX{M:Model}{A:Around}{E:Value->Shared->Prop}{s:Shared}{σ α β γ:Type}{c:Prop}[Decidable c]{f:β->γ->StateT σ Sem α}{t:StateT σ Sem α}{x:β}{y:γ}{Q:α->σ->Prop}{st:σ}{P:β->γ->Prop}(h:∀x y,P x y->wpS M A E s (f x y) Q st)(h1:c->(∀x y,P x y->wpS M A E s (f x y) Q st)->wpS M A E s t Q st)(h2:¬c->P x y):wpS M A E s (if c then t else f x y) Q st:=by
 split
 ·exact h1 ‹_› h
 ·exact h _ _ (h2 ‹_›)
theorem pV(C:lN M A E s κ S L)(as:∀x y,L x y=true->L y x=false)(tr:∀x y z,L y x=false->L z y=false->L z x=false){a b:Array Keyed}(hSa:∀x∈a.toList,S x)(hSb:∀x∈b.toList,S x)
  (sa:a.toList.Pairwise (leK L)) (sb:b.toList.Pairwise (leK L)) (na:1<=a.size) (nb:1<=b.size) (first:L b[0] a[0]=true) (last:∀y∈b.toList,L y a[a.size-1]=true) {st:SortSt} {Q:Array Keyed->SortSt->Prop} (hst:kindOf st=κ)
  (h:∀r st',SmG st st'->fF L a.toList b.toList r.toList->Q r st'):wpS M A E s (vM a b) Q st:=by
 have sz:a.toList.length=a.size:=by simp
 have szb:b.toList.length=b.size:=by simp
 have leA:∀{x:Keyed} {ia:Nat} (hi:ia<a.size),leK L x a[ia]->∀y∈a.toList.drop ia,leK L x y:=λ{x ia} hi e y hy=>by
  obtain⟨j,hj⟩:=List.getElem?_of_mem hy;rw[List.getElem?_drop] at hj;exact tr _ _ _ e (hE as sa (atL hi) hj (by lia))
 have leB:∀{x:Keyed} {ib:Nat} (hi:ib<b.size),leK L x b[ib]->∀y∈b.toList.drop ib,leK L x y:=λ{x ib} hi e y hy=>by
  obtain⟨j,hj⟩:=List.getElem?_of_mem hy;rw[List.getElem?_drop] at hj;exact tr _ _ _ e (hE as sb (atL hi) hj (by lia))
 have lastF:∀{out:Array Keyed} {ia ib:Nat},MI L a.toList b.toList out.toList ia ib->ia+1=a.size->fF L a.toList b.toList (out++b.extract ib++a.extract ia).toList:=λ{out ia ib} m e=>by
  rw[Array.toList_append,Array.toList_append,mU,mU];have hi:ia<a.size:=by lia
  have ei:ia=a.size-1:=by lia
  refine m.lastA (by omega) (atL hi) λy hy=>?_;have:=last y hy;subst ei;exact as _ _ this
 have doneF:∀{out:Array Keyed} {ia ib:Nat},MI L a.toList b.toList out.toList ia ib->(ib=b.size\/ia=a.size)->fF L a.toList b.toList (out++a.extract ia++b.extract ib).toList:=λ{out ia ib} m e=>by
  rw[Array.toList_append,Array.toList_append,mU,mU];rcases e with e | e
  ·exact m.finB (by omega)
  ·exact m.finA (by omega)
 have pushB:∀{out:Array Keyed} {ia ib:Nat},MI L a.toList b.toList out.toList ia ib->(h1:ib<b.size)->(h2:ia<a.size)->leK L b[ib] a[ia]->MI L a.toList b.toList (out.push b[ib]).toList ia (ib+1):=λ{out ia ib} m h1 h2 e=>by
  rw[Array.toList_push];exact m.pushB (atL h1) (leA h2 e)
 have pushA:∀{out:Array Keyed} {ia ib:Nat},MI L a.toList b.toList out.toList ia ib->(h1:ia<a.size)->(h2:ib<b.size)->leK L a[ia] b[ib]->MI L a.toList b.toList (out.push a[ia]).toList (ia+1) ib:=λ{out ia ib} m h1 h2 e=>by
  rw[Array.toList_push];exact m.pushA (atL h1) (leB h2 e)
 refine wpS_bind (fm (wpS_bind (a9 nb ?_)));have m0:MI L a.toList b.toList (#[b[0]]:Array Keyed).toList 0 1:=(MI.start sa sb).pushB (atL nb) (leA na (as _ _ first))
 by_cases c1:(1==b.size)=true
 ·first | refine bH c1 ?_ | rw[if_pos c1]
  have e:=beq_iff_eq.mp c1;exact wpS_pure (h _ st (.rf st) (doneF m0 (.inl e)))
 first | refine bw c1 ?_ | rw[if_neg c1]
 by_cases c2:(0+1==a.size)=true
 ·first | refine bH c2 ?_ | rw[if_pos c2]
  have e:=beq_iff_eq.mp c2;exact wpS_pure (h _ st (.rf st) (lastF m0 e))
 first | refine bw c2 ?_ | rw[if_neg c2]
 have c1':¬1=b.size:=λe=>c1 (beq_iff_eq.mpr e);have c2':¬0+1=a.size:=λe=>c2 (beq_iff_eq.mpr e);refine wpS_bind (wpS_get ?_)
 refine wpS_bind (wpS_mono (wpS_forRange (I:=λx c st'=>SmG st st'/\∃out ia ib g,c=(none,out,ia,ib,g)/\MG L a b out ia ib/\x+1<=ia+ib)
  (Q:=λc st'=>SmG st st'/\∃r,c.1=some r/\fF L a.toList b.toList r.toList) ?_ ?_ ⟨.rf st,_,_,_,_,rfl,⟨m0,by lia,by lia⟩,by lia⟩) ?_)
 ·rintro x c st1 _ hx ⟨g1,out,ia,ib,g,rfl,G,pr⟩
  dsimp -zeta -zetaHave only
  refine wpS_bind (wpS_mono (wpS_forRange (I:=λy c st'=>SmG st st'/\∃out' ia' ib' p q,c=(none,out',ia',ib',p,q)/\MG L a b out' ia' ib'/\ia+ib+y<=ia'+ib')
   (Q:=λc st'=>SmG st st'/\((∃out' ia' ib' p q,c=(none,out',ia',ib',p,q)/\MG L a b out' ia' ib'/\ia+ib+1<=ia'+ib')\/∃r,c.1=some r/\fF L a.toList b.toList r.toList)) ?_ ?_ ⟨g1,_,_,_,_,_,rfl,G,by lia⟩) ?_)
  ·rintro y c st2 _ hy ⟨g2,out',ia',ib',p,q,rfl,G',pr'⟩
   dsimp only;have la:=G'.la;have lb:=G'.lb;have la':ia'<a.size:=by lia
   refine wpS_bind (a9 lb (wpS_bind (a9 la' (wpS_bind (C _ _ st2 _ (hSb _ (by simp)) (hSa _ (by simp)) (g2.k.trans hst) ?_)))));dsimp only;cases hw:L b[ib'] a[ia'] with
   |true=>
    first | refine bH rfl ?_ | rw[if_pos rfl]
    refine wpS_bind (a9 lb ?_);have m:=pushB G'.mi lb la' (as _ _ hw)
    by_cases d1:(ib'+1==b.size)=true
    ·first | refine bH d1 ?_ | rw[if_pos d1]
     exact wpS_pure ⟨g2,.inr ⟨_,rfl,doneF m (.inl (beq_iff_eq.mp d1))⟩⟩
    ·first | refine bw d1 ?_ | rw[if_neg d1]
     have d1':¬ib'+1=b.size:=λe=>d1 (beq_iff_eq.mpr e);split
     ·exact wpS_pure ⟨g2,.inl ⟨_,_,_,_,_,rfl,⟨m,la,by lia⟩,by lia⟩⟩
     ·exact wpS_pure ⟨g2,_,_,_,_,_,rfl,⟨m,la,by lia⟩,by lia⟩
   |false=>
    first | refine bw Bool.false_ne_true ?_ | rw[if_neg Bool.false_ne_true]
    refine wpS_bind (a9 la' ?_);have m:=pushA G'.mi la' lb hw
    by_cases d1:(ia'+1+1==a.size)=true
    ·first | refine bH d1 ?_ | rw[if_pos d1]
     exact wpS_pure ⟨g2,.inr ⟨_,rfl,lastF m (beq_iff_eq.mp d1)⟩⟩
    ·first | refine bw d1 ?_ | rw[if_neg d1]
     have d1':¬ia'+1+1=a.size:=λe=>d1 (beq_iff_eq.mpr e);split
     ·exact wpS_pure ⟨g2,.inl ⟨_,_,_,_,_,rfl,⟨m,by lia,lb⟩,by lia⟩⟩
     ·exact wpS_pure ⟨g2,_,_,_,_,_,rfl,⟨m,by lia,lb⟩,by lia⟩
  ·rintro c st2 ⟨g2,out',ia',ib',p,q,rfl,G',pr'⟩
   exact⟨g2,.inl ⟨_,_,_,_,_,rfl,G',by lia⟩⟩
  ·rintro c st2 ⟨g2,⟨out',ia',ib',p,q,rfl,G',pr'⟩ | ⟨r,e,fr⟩⟩
   ·dsimp -zeta -zetaHave only
    refine wpS_bind (fm ?_)
    refine wpS_bind (wpS_mono (wpS_forRange (I:=λy c st'=>SmG st st'/\∃out ia2 ib2 g p q,c=(none,out,ia2,ib2,g,p,q)/\MG L a b out ia2 ib2/\ia+ib+1<=ia2+ib2)
     (Q:=λc st'=>SmG st st'/\((∃out ia2 ib2 g p q,c=(none,out,ia2,ib2,g,p,q)/\MG L a b out ia2 ib2/\ia+ib+1<=ia2+ib2)\/∃r,c.1=some r/\fF L a.toList b.toList r.toList)) ?_ ?_ ⟨g2,_,_,_,_,_,_,rfl,G',pr'⟩) ?_)
    ·rintro y c st3 _ hy ⟨g3,out,ia2,ib2,g,p,q,rfl,G2,pr2⟩
     dsimp -zeta -zetaHave only
     extract_lets s1 o1 s2 i1 s3 b1 s4 mg s5 ac bc ib1 jp mg1
     refine rq (f:=λz=>jp () z) λg'=>?_;dsimp -zeta -zetaHave only[jp,ib1,o1,i1,b1,s1,s2,s3,s4,s5,ac,bc];have la:=G2.la;have lb:=G2.lb;have la2:ia2<a.size:=by lia
     refine wpS_bind (iY λst4 g4=>wpS_bind (a9 lb (wpS_bind (dQ C (f:=λi=>!L b[ib2] (a.getD (ia2+i) b[ib2])) hSa (hSb _ (by simp)) (by lia) (by lia) ((g3.tr g4).k.trans hst) (λi hi _=>by simp[byd,Array.getD,hi]) (λi j ij hj e=>?_) λk hk h1 h2=>?_))))
     ·have hj':ia2+j<a.size:=by lia
      have hi':ia2+i<a.size:=by lia
      simp only[Array.getD,hi',hj',dite_true,Bool.not_eq_true'] at e ⊢;exact tr _ _ _ (hE as sa (atL hi') (atL hj') (by lia)) e
     dsimp -zeta -zetaHave only
     have ch:∀i,i<k->∀x,a.toList[ia2+i]?=some x->∀y∈b.toList.drop ib2,leK L x y:=λi hi x hx=>by
      have hi':ia2+i<a.size:=by lia
      have e:=h1 i hi;simp only[Array.getD,hi',dite_true,Bool.not_eq_true'] at e;rw[atL hi'] at hx;cases hx;exact leB lb e
     have m1:=G2.mi.chunkA k (by lia) ch;rw[<-vk,<-Array.toList_append] at m1
     have kl:ia2+k<a.size:=by
      rcases Nat.lt_or_ge (ia2+k) a.size with hlt | hge
      ·exact hlt
      ·have e:=h1 (a.size-1-ia2) (by lia)
       have e5:ia2+(a.size-1-ia2)=a.size-1:=by lia
       have hi':a.size-1<a.size:=by omega
       simp only[e5,Array.getD,hi',dite_true,Bool.not_eq_true'] at e;have e2:=last b[ib2] (by simp);exact absurd (e2.symm.trans e) (by decide)
     have lkb:leK L b[ib2] (a[ia2+k]'kl):=by
      have e:=h2 k (Nat.le_refl _) (by lia);simp only[Array.getD,kl,dite_true,Bool.not_eq_false'] at e;exact as _ _ e
     extract_lets ac2 jp2 ou ii
     refine jX (f:=λx y=>jp2 () x y) (P:=λx y=>MI L a.toList b.toList x.toList y ib2/\(ia2<=y/\y+1<a.size)/\∃h:y<a.size,leK L b[ib2] a[y]) (λo2 i2 hp=>?_) (λhk0 T=>?_) λhk0=>?_
     ·obtain⟨mm,⟨il,lz⟩,la1,lk⟩:=hp
      dsimp -zeta -zetaHave only[jp2,ac2];refine wpS_bind (a9 lb ?_);have m2:=pushB mm lb la1 lk
      by_cases d2:(ib2+1==b.size)=true
      ·refine bH d2 ?_
       exact wpS_pure ⟨g3.tr g4,.inr ⟨_,rfl,doneF m2 (.inl (beq_iff_eq.mp d2))⟩⟩
      refine bw d2 ?_;have d2':¬ib2+1=b.size:=λe=>d2 (beq_iff_eq.mpr e);refine wpS_bind (a9 la1 (wpS_bind (dQ C (f:=λi=>L (b.getD (ib2+1+i) a[i2]) a[i2]) hSb (hSa _ (by simp)) (by lia) (by lia) ((g3.tr g4).k.trans hst) (λi hi _=>by simp[byd,Array.getD,hi]) (λi j ij hj e=>?_) λk2 hk2 h3 h4=>?_)))
      ·have hj':ib2+1+j<b.size:=by lia
       have hi':ib2+1+i<b.size:=by lia
       simp only[Array.getD,hi',hj',dite_true] at e ⊢;cases hv:L (b[ib2+1+i]'hi') a[i2] with
       |true=>rfl
       |false=>have z:=tr _ _ _ hv (hE as sb (atL hi') (atL hj') (by lia));exact absurd (e.symm.trans z) (by decide)
      dsimp -zeta -zetaHave only
      have ch:∀i,i<k2->∀x,b.toList[ib2+1+i]?=some x->∀y∈a.toList.drop i2,leK L x y:=λi hi x hx=>by
       have hi':ib2+1+i<b.size:=by lia
       have e:=h3 i hi;simp only[Array.getD,hi',dite_true] at e;rw[atL hi'] at hx;cases hx;exact leA la1 (as _ _ e)
      extract_lets bc2 ia3 jp3 ou3 ib3
      refine jX (f:=λx y=>jp3 () x y) (P:=λx y=>MI L a.toList b.toList x.toList i2 y/\ib2+1<=y/\∃h:y<b.size,leK L a[i2] b[y]) (λo4 i4 hp=>?_) (λhk20 T=>?_) λhk20=>?_
      ·obtain⟨m3,jl,lb3,lka⟩:=hp
       dsimp -zeta -zetaHave only[jp3,bc2,ia3];refine wpS_bind (a9 la1 ?_);have m4:=pushA m3 la1 lb3 lka
       by_cases d3:(i2+1+1==a.size)=true
       ·refine bH d3 ?_
        exact wpS_pure ⟨g3.tr g4,.inr ⟨_,rfl,lastF m4 (beq_iff_eq.mp d3)⟩⟩
       refine bw d3 ?_;have d3':¬i2+1+1=a.size:=λe=>d3 (beq_iff_eq.mpr e);split
       ·exact wpS_pure ⟨g3.tr g4,.inl ⟨_,_,_,_,_,_,rfl,⟨m4,by lia,lb3⟩,by lia⟩⟩
       ·exact wpS_pure ⟨g3.tr g4,_,_,_,_,_,_,rfl,⟨m4,by lia,lb3⟩,by lia⟩
      ·have m3:=m2.chunkB k2 (by lia) ch
       rw[<-vk,<-Array.toList_append] at m3
       by_cases d4:(ib2+1+k2==b.size)=true
       ·refine bH d4 ?_
        exact wpS_pure ⟨g3.tr g4,.inr ⟨_,rfl,doneF m3 (.inl (beq_iff_eq.mp d4))⟩⟩
       refine bw d4 ?_;have d4':¬ib2+1+k2=b.size:=λe=>d4 (beq_iff_eq.mpr e);have lb3:ib2+1+k2<b.size:=by lia
       refine T _ _ ⟨m3,by show ib2+1<=ib2+1+k2;lia,lb3,?_⟩;have e:=h4 k2 (Nat.le_refl _) (by lia);simp only[Array.getD,lb3,dite_true] at e;exact e
      ·have e0:k2=0:=by lia
       subst e0;have lb3:ib2+1<b.size:=by lia
       refine⟨m2,Nat.le_refl _,lb3,?_⟩;have e:=h4 0 (Nat.le_refl _) (by lia);simp only[Array.getD,lb3,dite_true,Nat.add_zero] at e;exact e
     ·by_cases d1:(ia2+k+1==a.size)=true
      ·refine bH d1 ?_
       exact wpS_pure ⟨g3.tr g4,.inr ⟨_,rfl,lastF m1 (beq_iff_eq.mp d1)⟩⟩
      refine bw d1 ?_
      by_cases d5:(ia2+k==a.size)=true
      ·refine bH d5 ?_
       exact wpS_pure ⟨g3.tr g4,.inr ⟨_,rfl,doneF m1 (.inr (beq_iff_eq.mp d5))⟩⟩
      have d1':¬ia2+k+1=a.size:=λe=>d1 (beq_iff_eq.mpr e);exact bw d5 (T _ _ ⟨m1,⟨by show ia2<=ia2+k;lia,by show ia2+k+1<a.size;lia⟩,kl,lkb⟩)
     ·have e0:k=0:=by lia
      subst e0;exact⟨G2.mi,⟨Nat.le_refl _,la⟩,la2,by simpa only[Nat.add_zero] using lkb⟩
    ·rintro c st3 ⟨g3,out',ia',ib',g',p,q,rfl,G',pr'⟩
     exact⟨g3,.inl ⟨_,_,_,_,_,_,rfl,G',pr'⟩⟩
    ·rintro c st3 ⟨g3,⟨out',ia',ib',g',p,q,rfl,G',pr'⟩ | ⟨r,e,fr⟩⟩
     ·dsimp only
      refine wpS_bind (iY λst4 g4=>wpS_pure ⟨g3.tr g4,_,_,_,_,rfl,G',by lia⟩)
     ·obtain⟨c1,c2⟩:=c
      cases e;exact wpS_pure ⟨g3,r,rfl,fr⟩
   ·obtain⟨c1,c2⟩:=c
    cases e;exact wpS_pure ⟨g2,r,rfl,fr⟩
 ·rintro c st1 ⟨g1,out,ia,ib,g,rfl,G,pr⟩
  have:=G.la;have:=G.lb
  lia
 ·rintro c st1 ⟨g1,r,e,fr⟩
  obtain⟨c1,c2⟩:=c;cases e;exact wpS_pure (h r st1 g1 fr)
end
theorem ixs{n m i t:Nat}(hi:i<m-t)(hm:m<=n):1<=m-i/\m-i<=n/\n-(m-i)=n-m+i/\m-i-1<n/\t<=m-i-1/\m-i-1<m:=by
 have hl:i<m:=Nat.lt_of_lt_of_le hi (Nat.sub_le ..);have h1:0<m-i:=Nat.sub_pos_of_lt hl;have h2:m-i-1<m:=Nat.sub_one_lt_of_le h1 (Nat.sub_le ..);exact⟨h1,Nat.le_trans (Nat.sub_le ..) hm,(Nat.sub_sub_right n (Nat.le_of_lt hl)).trans (Nat.sub_add_comm hm),Nat.lt_of_lt_of_le h2 hm,Nat.le_sub_one_of_lt (Nat.lt_sub_of_add_lt (Nat.add_comm i t▸Nat.add_lt_of_lt_sub hi)),h2⟩
noncomputable def vR:Array Keyed->Array Keyed->StateT SortSt Sem (Array Keyed):=sortPriv% PySem.Builtin.mergeHi
noncomputable abbrev op(L:Keyed->Keyed->Bool):Keyed->Keyed->Bool:=λx y=>L y x
theorem nt(x:Array Keyed)(i:Nat):(x.extract 0 i).toList=x.toList.take i:=by simp
theorem uk(x:Array Keyed)(p q:Nat):(x.extract p q).reverse.toList=((x.toList.drop p).take (q-p)).reverse:=by simp
noncomputable abbrev MR(L:Keyed->Keyed->Bool)(a b out:Array Keyed)(na nb:Nat):Prop:=MI (op L) a.toList.reverse b.toList.reverse out.toList (a.size-na) (b.size-nb)
structure MH(L:Keyed->Keyed->Bool)(a b out:Array Keyed)(na nb:Nat):Prop where
 mi:MR L a b out na nb
 la:1<=na
 la':na<=a.size
 lb:2<=nb
 lb':nb<=b.size
section
variable{M:Model}{A:Around}{E:Value->Shared->Prop}{s:Shared}{κ:SortKind}{S:Keyed->Prop}{L:Keyed->Keyed->Bool}
theorem p8(C:lN M A E s κ S L)(as:∀x y,L x y=true->L y x=false)(tr:∀x y z,L y x=false->L z y=false->L z x=false){a b:Array Keyed}(hSa:∀x∈a.toList,S x)(hSb:∀x∈b.toList,S x)
  (sa:a.toList.Pairwise (leK L)) (sb:b.toList.Pairwise (leK L)) (na:1<=a.size) (nb:1<=b.size) (first:∀y∈a.toList,L b[0] y=true) (last:L b[b.size-1] a[a.size-1]=true) {st:SortSt} {Q:Array Keyed->SortSt->Prop} (hst:kindOf st=κ)
  (h:∀r st',SmG st st'->fF L a.toList b.toList r.toList->Q r st'):wpS M A E s (vR a b) Q st:=by
 have sz:a.toList.length=a.size:=by simp
 have szb:b.toList.length=b.size:=by simp
 have szr:a.toList.reverse.length=a.size:=by simp
 have szbr:b.toList.reverse.length=b.size:=by simp
 have atA:∀{n:Nat} (h1:1<=n) (h2:n<=a.size),a.toList.reverse[a.size-n]?=some (a[n-1]'(by lia)):=λ{n} h1 h2=>by
  have:=vg (l:=a.toList) h1 (by lia);rw[sz] at this;rw[this];exact atL (by lia)
 have atB:∀{n:Nat} (h1:1<=n) (h2:n<=b.size),b.toList.reverse[b.size-n]?=some (b[n-1]'(by lia)):=λ{n} h1 h2=>by
  have:=vg (l:=b.toList) h1 (by lia);rw[szb] at this;rw[this];exact atL (by lia)
 have leA:∀{x:Keyed} {n:Nat} (h1:1<=n) (h2:n<=a.size),leK L (a[n-1]'(by lia)) x->∀y∈a.toList.reverse.drop (a.size-n),leK (op L) x y:=λ{x n} h1 h2 e y hy=>by
  have:=gd (l:=a.toList) (q:=n) (by lia);rw[sz] at this;rw[this,List.mem_reverse] at hy;obtain⟨j,hj⟩:=List.getElem?_of_mem hy;obtain⟨hj1,hj2⟩:=List.getElem?_eq_some_iff.mp hj;rw[List.length_take] at hj1;have hj3:a.toList[j]?=some y:=by rw[List.getElem?_take,if_pos (by lia)] at hj;exact hj
  exact tr _ _ _ (hE as sa hj3 (atL (show n-1<a.size by lia)) (by lia)) e
 have leB:∀{x:Keyed} {n:Nat} (h1:1<=n) (h2:n<=b.size),leK L (b[n-1]'(by lia)) x->∀y∈b.toList.reverse.drop (b.size-n),leK (op L) x y:=λ{x n} h1 h2 e y hy=>by
  have:=gd (l:=b.toList) (q:=n) (by lia);rw[szb] at this;rw[this,List.mem_reverse] at hy;obtain⟨j,hj⟩:=List.getElem?_of_mem hy;obtain⟨hj1,hj2⟩:=List.getElem?_eq_some_iff.mp hj;rw[List.length_take] at hj1;have hj3:b.toList[j]?=some y:=by rw[List.getElem?_take,if_pos (by lia)] at hj;exact hj
  exact tr _ _ _ (hE as sb hj3 (atL (show n-1<b.size by lia)) (by lia)) e
 have rA:∀{n:Nat},n<=a.size->a.toList.reverse.drop (a.size-n)=(a.toList.take n).reverse:=λ{n} hn=>by have:=gd (l:=a.toList) (q:=n) (by lia);rw[sz] at this;exact this
 have rB:∀{n:Nat},n<=b.size->b.toList.reverse.drop (b.size-n)=(b.toList.take n).reverse:=λ{n} hn=>by have:=gd (l:=b.toList) (q:=n) (by lia);rw[szb] at this;exact this
 have firstF:∀{out:Array Keyed} {x y:Nat},MR L a b out x y->x<=a.size->y=1->fF L a.toList b.toList (b.extract 0 y++a.extract 0 x++out.reverse).toList:=λ{out x y} m hx e=>by
  subst e;have f:=m.lastB (by rw[szbr];lia) (atB (Nat.le_refl _) nb) λz hz=>as _ _ (first z (List.mem_reverse.mp hz));rw[rA hx,rB nb] at f;have f2:=q9 f;rw[List.reverse_append,List.reverse_append,List.reverse_reverse,List.reverse_reverse,<-List.append_assoc] at f2;rw[Array.toList_append,Array.toList_append,nt,nt,Array.toList_reverse];exact f2
 have doneF:∀{out:Array Keyed} {x y:Nat},MR L a b out x y->x<=a.size->y<=b.size->(x=0\/y=0)->fF L a.toList b.toList (a.extract 0 x++b.extract 0 y++out.reverse).toList:=λ{out x y} m hx hy e=>by
  have f:fF (op L) a.toList.reverse b.toList.reverse (out.toList++a.toList.reverse.drop (a.size-x)++b.toList.reverse.drop (b.size-y)):=by
   rcases e with e | e
   ·exact m.finA (by rw[szr];lia)
   ·exact m.finB (by rw[szbr];lia)
  rw[rA hx,rB hy] at f;have f2:=q9 f;rw[List.reverse_append,List.reverse_append,List.reverse_reverse,List.reverse_reverse,<-List.append_assoc] at f2;rw[Array.toList_append,Array.toList_append,nt,nt,Array.toList_reverse];rcases e with e | e
  ·subst e
   simpa using f2
  ·subst e
   simpa using f2
 have pushB:∀{out:Array Keyed} {x y:Nat},MR L a b out x y->(h1:1<=x)->(h2:x<=a.size)->(h3:1<=y)->(h4:y<=b.size)->leK L (a[x-1]'(by lia)) (b[y-1]'(by lia))->MR L a b (out.push (b[y-1]'(by lia))) x (y-1):=λ{out x y} m h1 h2 h3 h4 e=>by
  show MI _ _ _ (out.push _).toList _ _;rw[Array.toList_push,show b.size-(y-1)=b.size-y+1 by lia];exact m.pushB (atB h3 h4) (leA h1 h2 e)
 have pushA:∀{out:Array Keyed} {x y:Nat},MR L a b out x y->(h1:1<=x)->(h2:x<=a.size)->(h3:1<=y)->(h4:y<=b.size)->leK L (b[y-1]'(by lia)) (a[x-1]'(by lia))->MR L a b (out.push (a[x-1]'(by lia))) (x-1) y:=λ{out x y} m h1 h2 h3 h4 e=>by
  show MI _ _ _ (out.push _).toList _ _;rw[Array.toList_push,show a.size-(x-1)=a.size-x+1 by lia];exact m.pushA (atA h1 h2) (leB h3 h4 e)
 have nl:a.size-1<a.size:=by lia
 refine wpS_bind (fm (wpS_bind (a9 nl ?_)))
 have ms:MR L a b #[] a.size b.size:=by
  show MI _ _ _ _ (a.size-a.size) (b.size-b.size);rw[Nat.sub_self,Nat.sub_self];exact MI.start (List.pairwise_reverse.mpr sa) (List.pairwise_reverse.mpr sb)
 have m0:=pushA ms na (Nat.le_refl _) nb (Nat.le_refl _) (as _ _ last)
 by_cases c1:(a.size-1==0)=true
 ·first | refine bH c1 ?_ | rw[if_pos c1]
  exact wpS_pure (h _ st (.rf st) (doneF m0 (by lia) (Nat.le_refl _) (.inl (beq_iff_eq.mp c1))))
 first | refine bw c1 ?_ | rw[if_neg c1]
 by_cases c2:(b.size==1)=true
 ·first | refine bH c2 ?_ | rw[if_pos c2]
  exact wpS_pure (h _ st (.rf st) (firstF m0 (by lia) (beq_iff_eq.mp c2)))
 first | refine bw c2 ?_ | rw[if_neg c2]
 have c1':¬a.size-1=0:=λe=>c1 (beq_iff_eq.mpr e);have c2':¬b.size=1:=λe=>c2 (beq_iff_eq.mpr e);refine wpS_bind (wpS_get ?_)
 refine wpS_bind (wpS_mono (wpS_forRange (I:=λx c st'=>SmG st st'/\∃u v out g,c=(none,u,v,out,g)/\MH L a b out u v/\x+1<=(a.size-u)+(b.size-v))
  (Q:=λc st'=>SmG st st'/\∃r,c.1=some r/\fF L a.toList b.toList r.toList) ?_ ?_ ⟨.rf st,_,_,_,_,rfl,⟨m0,by lia,by lia,by lia,Nat.le_refl _⟩,by lia⟩) ?_)
 ·rintro x c st1 _ hx ⟨g1,u,v,out,g,rfl,G,pr⟩
  dsimp -zeta -zetaHave only
  refine wpS_bind (wpS_mono (wpS_forRange (I:=λy c st'=>SmG st st'/\∃u' v' out' p q,c=(none,u',v',out',p,q)/\MH L a b out' u' v'/\(a.size-u)+(b.size-v)+y<=(a.size-u')+(b.size-v'))
   (Q:=λc st'=>SmG st st'/\((∃u' v' out' p q,c=(none,u',v',out',p,q)/\MH L a b out' u' v'/\(a.size-u)+(b.size-v)+1<=(a.size-u')+(b.size-v'))\/∃r,c.1=some r/\fF L a.toList b.toList r.toList)) ?_ ?_ ⟨g1,_,_,_,_,_,rfl,G,by lia⟩) ?_)
  ·rintro y c st2 _ hy ⟨g2,u',v',out',p,q,rfl,G',pr'⟩
   dsimp only;obtain⟨m,la,la',lb,lb'⟩:=G';have hb:v'-1<b.size:=by lia
   have ha:u'-1<a.size:=by lia
   refine wpS_bind (a9 hb (wpS_bind (a9 ha (wpS_bind (C _ _ st2 _ (hSb _ (by simp)) (hSa _ (by simp)) (g2.k.trans hst) ?_)))));dsimp only;cases hw:L b[v'-1] a[u'-1] with
   |true=>
    first | refine bH rfl ?_ | rw[if_pos rfl]
    refine wpS_bind (a9 ha ?_);have m1:=pushA m la la' (by lia) lb' (as _ _ hw)
    by_cases d1:(u'-1==0)=true
    ·first | refine bH d1 ?_ | rw[if_pos d1]
     exact wpS_pure ⟨g2,.inr ⟨_,rfl,doneF m1 (by lia) lb' (.inl (beq_iff_eq.mp d1))⟩⟩
    ·first | refine bw d1 ?_ | rw[if_neg d1]
     have d1':¬u'-1=0:=λe=>d1 (beq_iff_eq.mpr e);split
     ·exact wpS_pure ⟨g2,.inl ⟨_,_,_,_,_,rfl,⟨m1,by lia,by lia,lb,lb'⟩,by lia⟩⟩
     ·exact wpS_pure ⟨g2,_,_,_,_,_,rfl,⟨m1,by lia,by lia,lb,lb'⟩,by lia⟩
   |false=>
    first | refine bw Bool.false_ne_true ?_ | rw[if_neg Bool.false_ne_true]
    refine wpS_bind (a9 hb ?_);have m1:=pushB m la la' (by lia) lb' hw
    by_cases d1:(v'-1==1)=true
    ·first | refine bH d1 ?_ | rw[if_pos d1]
     exact wpS_pure ⟨g2,.inr ⟨_,rfl,firstF m1 la' (beq_iff_eq.mp d1)⟩⟩
    ·first | refine bw d1 ?_ | rw[if_neg d1]
     have d1':¬v'-1=1:=λe=>d1 (beq_iff_eq.mpr e);split
     ·exact wpS_pure ⟨g2,.inl ⟨_,_,_,_,_,rfl,⟨m1,la,la',by lia,by lia⟩,by lia⟩⟩
     ·exact wpS_pure ⟨g2,_,_,_,_,_,rfl,⟨m1,la,la',by lia,by lia⟩,by lia⟩
  ·rintro c st2 ⟨g2,u',v',out',p,q,rfl,G',pr'⟩
   exact⟨g2,.inl ⟨_,_,_,_,_,rfl,G',by lia⟩⟩
  ·rintro c st2 ⟨g2,⟨u',v',out',p,q,rfl,G',pr'⟩ | ⟨r,e,fr⟩⟩
   ·dsimp -zeta -zetaHave only
    refine wpS_bind (fm ?_)
    refine wpS_bind (wpS_mono (wpS_forRange (I:=λy c st'=>SmG st st'/\∃u2 v2 out g p q,c=(none,u2,v2,out,g,p,q)/\MH L a b out u2 v2/\(a.size-u)+(b.size-v)+1<=(a.size-u2)+(b.size-v2))
     (Q:=λc st'=>SmG st st'/\((∃u2 v2 out g p q,c=(none,u2,v2,out,g,p,q)/\MH L a b out u2 v2/\(a.size-u)+(b.size-v)+1<=(a.size-u2)+(b.size-v2))\/∃r,c.1=some r/\fF L a.toList b.toList r.toList)) ?_ ?_ ⟨g2,_,_,_,_,_,_,rfl,G',pr'⟩) ?_)
    ·rintro y c st3 _ hy ⟨g3,u2,v2,out,g,p,q,rfl,G2,pr2⟩
     dsimp -zeta -zetaHave only;obtain⟨m,la,la',lb,lb'⟩:=G2;have hb:v2-1<b.size:=by lia
     extract_lets s1 i1 s2 b1 s3 o1 s4 mg s5 ac bc x1 jp mg1
     refine rq (f:=λz=>jp () z) λg'=>?_;dsimp -zeta -zetaHave only[jp,x1,i1,b1,o1,s1,s2,s3,s4,s5,ac,bc];refine wpS_bind (iY λst4 g4=>wpS_bind (a9 hb (wpS_bind (dQ C (f:=λi=>!L b[v2-1] (a.getD (0+i) b[v2-1])) hSa (hSb _ (by simp)) (by lia) (by lia) ((g3.tr g4).k.trans hst) (λi hi _=>by simp only[byd,Array.getD,hi,dite_true];rfl) (λi j ij hj e=>?_) λt ht h1 h2=>?_))))
     ·have hj':0+j<a.size:=by lia
      have hi':0+i<a.size:=by lia
      simp only[Array.getD,hi',hj',dite_true,Bool.not_eq_true'] at e ⊢;exact tr _ _ _ (hE as sa (atL hi') (atL hj') (by lia)) e
     dsimp -zeta -zetaHave only
     have ch:∀i,i<u2-t->∀x,a.toList.reverse[a.size-u2+i]?=some x->∀y∈b.toList.reverse.drop (b.size-v2),leK (op L) x y:=λi hi x hx=>by
      obtain⟨q1,q2,q3,q4,q5,q6⟩:=ixs (n:=a.size) hi (by omega);have hx2:=atA (n:=u2-i) (by first | assumption | omega) (by first | assumption | omega);rw[q3,hx] at hx2;cases hx2;have hj':=q4;have e:=h2 (u2-i-1) (by first | assumption | omega) (by first | assumption | omega);simp only[Array.getD,hj',dite_true,Nat.zero_add,Bool.not_eq_false'] at e;exact leB (by lia) lb' (as _ _ e)
     have low:∀i (hi:i<a.size),i<t->leK L a[i] b[v2-1]:=λi hi it=>by
      have hj':i<a.size:=by lia
      have e:=h1 i it;simp only[Array.getD,hj',dite_true,Nat.zero_add,Bool.not_eq_true'] at e;exact e
     extract_lets kk ac2 jp2 ou ii
     refine jX (f:=λx y=>jp2 () x y) (P:=λx y=>MR L a b y x v2/\(1<=x/\x<=u2)/\∃h:x-1<a.size,leK L a[x-1] b[v2-1]) (λi2 o2 hp=>?_) (λhk0 T=>?_) λhk0=>?_
     ·obtain⟨mm,⟨hU1,hx2⟩,haU,lkb⟩:=hp
      have hU2:i2<=a.size:=by lia
      dsimp -zeta -zetaHave only[jp2,ac2,kk];refine wpS_bind (a9 hb ?_);have m2:=pushB mm hU1 hU2 (by lia) lb' lkb
      by_cases d2:(v2-1==1)=true
      ·refine bH d2 ?_
       exact wpS_pure ⟨g3.tr g4,.inr ⟨_,rfl,firstF m2 hU2 (beq_iff_eq.mp d2)⟩⟩
      refine bw d2 ?_;have d2':¬v2-1=1:=λe=>d2 (beq_iff_eq.mpr e);refine wpS_bind (a9 haU (wpS_bind (dQ C (f:=λi=>L (b.getD (0+i) a[i2-1]) a[i2-1]) hSb (hSa _ (by simp)) (by lia) (by lia) ((g3.tr g4).k.trans hst) (λi hi _=>by simp only[byd,Array.getD,hi,dite_true,if_true];rfl) (λi j ij hj e=>?_) λt2 ht2 h3 h4=>?_)))
      ·have hj':0+j<b.size:=by lia
       have hi':0+i<b.size:=by lia
       simp only[Array.getD,hi',hj',dite_true] at e ⊢;cases hv:L (b[0+i]'hi') a[i2-1] with
       |true=>rfl
       |false=>have z:=tr _ _ _ hv (hE as sb (atL hi') (atL hj') (by lia));exact absurd (e.symm.trans z) (by decide)
      dsimp -zeta -zetaHave only
      have ch:∀i,i<v2-1-t2->∀x,b.toList.reverse[b.size-(v2-1)+i]?=some x->∀y∈a.toList.reverse.drop (a.size-i2),leK (op L) x y:=λi hi x hx=>by
       obtain⟨q1,q2,q3,q4,q5,q6⟩:=ixs (n:=b.size) hi (by omega);have hx2:=atB (n:=v2-1-i) (by first | assumption | omega) (by first | assumption | omega);rw[q3,hx] at hx2;cases hx2;have hj':=q4;have e:=h4 (v2-1-i-1) (by first | assumption | omega) (by first | assumption | omega);simp only[Array.getD,hj',dite_true,Nat.zero_add] at e;exact leA hU1 hU2 e
      have lkA:∀i (hi:i<b.size),i<t2->leK L b[i] a[i2-1]:=λi hi it=>by
       have hj':i<b.size:=hi;have e:=h3 i it;simp only[Array.getD,hj',dite_true,Nat.zero_add] at e;exact as _ _ e
      extract_lets k3 bc2 na3 jp3 ou3 nb3
      refine jX (f:=λx y=>jp3 () x y) (P:=λx y=>MR L a b y i2 x/\(2<=x/\x<=v2-1)/\∃h:x-1<b.size,leK L b[x-1] a[i2-1]) (λi4 o4 hp=>?_) (λhk20 T=>?_) λhk20=>?_
      ·obtain⟨m3,⟨hV0,hV4⟩,hV3,lka⟩:=hp
       have hV2:i4<=b.size:=by lia
       dsimp -zeta -zetaHave only[jp3,bc2,na3,k3];refine wpS_bind (a9 haU ?_);have m4:=pushA m3 hU1 hU2 (by lia) hV2 lka
       by_cases d3:(i2-1==0)=true
       ·refine bH d3 ?_
        exact wpS_pure ⟨g3.tr g4,.inr ⟨_,rfl,doneF m4 (by lia) hV2 (.inl (beq_iff_eq.mp d3))⟩⟩
       refine bw d3 ?_;have d3':¬i2-1=0:=λe=>d3 (beq_iff_eq.mpr e);have pr3:a.size-u+(b.size-v)+1<=a.size-(i2-1)+(b.size-i4):=by lia
       split
       ·exact wpS_pure ⟨g3.tr g4,.inl ⟨_,_,_,_,_,_,rfl,⟨m4,by lia,by lia,hV0,hV2⟩,pr3⟩⟩
       ·exact wpS_pure ⟨g3.tr g4,_,_,_,_,_,_,rfl,⟨m4,by lia,by lia,hV0,hV2⟩,pr3⟩
      ·have hk21:v2-1-t2>0:=hk20
       have m3:=m2.chunkB (v2-1-t2) (by rw[szbr];lia) ch;have cut:=rj (l:=b.toList) (p:=t2) (q:=v2-1) ht2 (by lia);rw[szb] at cut;rw[cut,<-uk,<-Array.toList_append,show b.size-(v2-1)+(v2-1-t2)=b.size-t2 by lia] at m3
       by_cases d4:(t2==1)=true
       ·refine bH d4 ?_
        exact wpS_pure ⟨g3.tr g4,.inr ⟨_,rfl,firstF m3 hU2 (beq_iff_eq.mp d4)⟩⟩
       refine bw d4 ?_
       by_cases d5:(t2==0)=true
       ·refine bH d5 ?_
        exact wpS_pure ⟨g3.tr g4,.inr ⟨_,rfl,doneF m3 hU2 (by lia) (.inr (beq_iff_eq.mp d5))⟩⟩
       have d4':¬t2=1:=λe=>d4 (beq_iff_eq.mpr e);have d5':¬t2=0:=λe=>d5 (beq_iff_eq.mpr e);have hV3:t2-1<b.size:=by lia
       exact bw d5 (T t2 _ ⟨m3,⟨by lia,by lia⟩,hV3,lkA _ hV3 (by lia)⟩)
      ·have e0:t2=v2-1:=by have:¬v2-1-t2>0:=hk20;lia
       have hV3:v2-1-1<b.size:=by lia
       exact⟨m2,⟨by lia,Nat.le_refl _⟩,hV3,lkA _ hV3 (by lia)⟩
     ·have hk1:u2-t>0:=hk0
      have m1:=m.chunkA (u2-t) (by rw[szr];lia) ch;have cut:=rj (l:=a.toList) (p:=t) (q:=u2) ht (by lia);rw[sz] at cut;rw[cut,<-uk,<-Array.toList_append,show a.size-u2+(u2-t)=a.size-t by lia] at m1
      by_cases d1:(t==0)=true
      ·refine bH d1 ?_
       exact wpS_pure ⟨g3.tr g4,.inr ⟨_,rfl,doneF m1 (by lia) lb' (.inl (beq_iff_eq.mp d1))⟩⟩
      have d1':¬t=0:=λe=>d1 (beq_iff_eq.mpr e);have hU3:t-1<a.size:=by lia
      exact bw d1 (T t _ ⟨m1,⟨by lia,by lia⟩,hU3,low _ hU3 (by lia)⟩)
     ·have e0:t=u2:=by have:¬u2-t>0:=hk0;lia
      have hU3:u2-1<a.size:=by lia
      exact⟨m,⟨la,Nat.le_refl _⟩,hU3,low _ hU3 (by lia)⟩
    ·rintro c st3 ⟨g3,u',v',out',g',p,q,rfl,G',pr'⟩
     exact⟨g3,.inl ⟨_,_,_,_,_,_,rfl,G',pr'⟩⟩
    ·rintro c st3 ⟨g3,⟨u',v',out',g',p,q,rfl,G',pr'⟩ | ⟨r,e,fr⟩⟩
     ·dsimp only
      refine wpS_bind (iY λst4 g4=>wpS_pure ⟨g3.tr g4,_,_,_,_,rfl,G',by lia⟩)
     ·obtain⟨c1,c2⟩:=c
      cases e;exact wpS_pure ⟨g3,r,rfl,fr⟩
   ·obtain⟨c1,c2⟩:=c
    cases e;exact wpS_pure ⟨g2,r,rfl,fr⟩
 ·rintro c st1 ⟨g1,u,v,out,g,rfl,G,pr⟩
  have:=G.la;have:=G.la';have:=G.lb;have:=G.lb'
  lia
 ·rintro c st1 ⟨g1,r,e,fr⟩
  obtain⟨c1,c2⟩:=c;cases e;exact wpS_pure (h r st1 g1 fr)
end
noncomputable def oh:Nat->StateT SortSt Sem Bool:=sortPriv% PySem.Builtin.mergeAt
theorem eO{l:List Keyed}{i:Nat}(h:i<l.length)(d:Keyed):l.getD i d=l[i]:=by simp[List.getD,h]
theorem gH(p r:List Keyed)(k:Nat):(p++r).drop (p.length+k)=r.drop k:=by rw[<-List.drop_drop,List.drop_left]
theorem uM(p r:List Keyed)(k:Nat):(p++r).take (p.length+k)=p++r.take k:=by rw[List.take_append,List.take_of_length_le (by lia),Nat.add_sub_cancel_left]
theorem mr:∀(l:List Keyed) (n s0:Nat) (xs:Array Keyed),s0+n+l.length<=xs.size->((l.zipIdx n).foldl (λa (p,j)=>a.setIfInBounds (s0+j) p) xs).toList=xs.toList.take (s0+n)++l++xs.toList.drop (s0+n+l.length)
 |[],n,s0,xs,h=>by simp
 |x::l,n,s0,xs,h=>by
  simp only[List.length_cons] at h;rw[List.zipIdx_cons,List.foldl_cons];have ih:=mr l (n+1) s0 (xs.setIfInBounds (s0+n) x) (by rw[Array.size_setIfInBounds];lia);rw[ih,Array.toList_setIfInBounds];have lt:s0+n<xs.toList.length:=by simp;lia
  have e1:(xs.toList.set (s0+n) x).take (s0+(n+1))=xs.toList.take (s0+n)++[x]:=by
   rw[show s0+(n+1)=s0+n+1 by lia,List.take_add_one,List.take_set_of_le (Nat.le_refl _),List.getElem?_set_self lt];rfl
  have e2:(xs.toList.set (s0+n) x).drop (s0+(n+1)+l.length)=xs.toList.drop (s0+n+(x::l).length):=by
   rw[List.drop_set_of_lt (by lia)];congr 1;simp only[List.length_cons];lia
  rw[e1,e2];simp
section
variable{M:Model}{A:Around}{E:Value->Shared->Prop}{s:Shared}{κ:SortKind}{S:Keyed->Prop}{L:Keyed->Keyed->Bool}
theorem yk{st st':SortSt}{Q:PUnit->SortSt->Prop}(h:Q ⟨⟩ st'):wpS M A E s (set st':StateT SortSt Sem PUnit) Q st:=wpS_modify (f:=λ_=>st') h
theorem zP(tr:∀x y z,L y x=false->L z y=false->L z x=false){Al Bl r:List Keyed}{k m:Nat}{key key2:Keyed}(sA:Al.Pairwise (leK L))(sB:Bl.Pairwise (leK L))(kB:∀y∈Bl,leK L key y)(kA:∀x∈Al,leK L x key2)(c1:∀x∈Al.take k,leK L x key)(c2:∀y∈Bl.drop m,leK L key2 y)(pr:r.Pairwise (leK L))(pm:r.Perm (Al.drop k++Bl.take m)) :
  (Al.take k++r++Bl.drop m).Pairwise (leK L)/\(Al.take k++r++Bl.drop m).Perm (Al++Bl):=by
 have a1:=List.pairwise_append.mp (show(Al.take k++Al.drop k).Pairwise (leK L) by rw[List.take_append_drop];exact sA);have b1:=List.pairwise_append.mp (show(Bl.take m++Bl.drop m).Pairwise (leK L) by rw[List.take_append_drop];exact sB);refine⟨List.pairwise_append.mpr ⟨List.pairwise_append.mpr ⟨a1.1,pr,λx hx y hy=>?_⟩,b1.2.1,λx hx y hy=>?_⟩,?_⟩
 ·rcases List.mem_append.mp (pm.mem_iff.mp hy) with h | h
  ·exact a1.2.2 x hx y h
  ·exact tr _ _ _ (c1 x hx) (kB y (List.mem_of_mem_take h))
 ·rcases List.mem_append.mp hx with h | h
  ·exact tr _ _ _ (c1 x h) (kB y (List.mem_of_mem_drop hy))
  ·rcases List.mem_append.mp (pm.mem_iff.mp h) with h | h
   ·exact tr _ _ _ (kA x (List.mem_of_mem_drop h)) (c2 y hy)
   ·exact b1.2.2 x h y hy
 ·have e:Al++Bl=Al.take k++(Al.drop k++Bl.take m)++Bl.drop m:=by
   rw[<-List.append_assoc,List.take_append_drop,List.append_assoc,List.take_append_drop]
  rw[e];exact((List.Perm.refl _).append pm).append (List.Perm.refl _)
theorem pY(C:lN M A E s κ S L)(as:∀x y,L x y=true->L y x=false)(tr:∀x y z,L y x=false->L z y=false->L z x=false){i pw pw':Nat}{pre Al Bl post:List Keyed}{st:SortSt}{Q:Bool->SortSt->Prop}(hst:kindOf st=κ)(hf:failedOf st=none)
  (hp1:(pendingOf st)[i]?=some (pre.length,Al.length,pw)) (hp2:(pendingOf st)[i+1]?=some (pre.length+Al.length,Bl.length,pw')) (hl:(arrOf st).toList=pre++Al++Bl++post) (hS:∀x∈(arrOf st).toList,S x) (nA:1<=Al.length) (nB:1<=Bl.length) (sA:Al.Pairwise (leK L)) (sB:Bl.Pairwise (leK L))
  (h:∀st' Cl,kindOf st'=κ->failedOf st'=none->pendingOf st'=((pendingOf st).setIfInBounds i (pre.length,Al.length+Bl.length,pw)).eraseIdxIfInBounds (i+1)->(arrOf st').toList=pre++Cl++post->Cl.Pairwise (leK L)->Cl.Perm (Al++Bl)->Q true st'):wpS M A E s (oh i) Q st:=by
 have szz:(arrOf st).size=pre.length+Al.length+Bl.length+post.length:=by rw[<-Array.length_toList,hl];simp;lia
 have atA:∀j (hj:j<Al.length) (h2:pre.length+j<(arrOf st).size),(arrOf st)[pre.length+j]=Al[j]:=λj hj h2=>by
  have:(arrOf st).toList[pre.length+j]?=some Al[j]:=by
   rw[hl,List.append_assoc,List.append_assoc,List.getElem?_append_right (by lia),Nat.add_sub_cancel_left,List.getElem?_append_left hj];simp
  rw[atL h2] at this;exact Option.some.inj this
 have atB:∀j (hj:j<Bl.length) (h2:pre.length+Al.length+j<(arrOf st).size),(arrOf st)[pre.length+Al.length+j]=Bl[j]:=λj hj h2=>by
  have:(arrOf st).toList[pre.length+Al.length+j]?=some Bl[j]:=by
   rw[hl,List.append_assoc (pre++Al),List.getElem?_append_right (by simp),List.length_append,Nat.add_sub_cancel_left,List.getElem?_append_left hj];simp
  rw[atL h2] at this;exact Option.some.inj this
 have pA:∀i j (hi:i<Al.length) (hj:j<Al.length),i<=j->leK L Al[i] Al[j]:=λi j hi hj ij=>hE as sA (by simp) (by simp) ij;have pB:∀i j (hi:i<Bl.length) (hj:j<Bl.length),i<=j->leK L Bl[i] Bl[j]:=λi j hi hj ij=>hE as sB (by simp) (by simp) ij
 have kB:∀y∈Bl,leK L Bl[0] y:=λy hy=>by
  obtain⟨j,hj,rfl⟩:=List.mem_iff_getElem.mp hy;exact pB 0 j nB hj (Nat.zero_le _)
 have kA:∀x∈Al,leK L x (Al[Al.length-1]'(by omega)):=λx hx=>by
  obtain⟨j,hj,rfl⟩:=List.mem_iff_getElem.mp hx;exact pA j _ hj (by lia) (by lia)
 refine wpS_bind (wpS_get ?_);rw[show(sortPriv% PySem.Builtin.SortState.a) st=arrOf st from rfl,hp1,hp2];dsimp only;have hb:pre.length+Al.length<(arrOf st).size:=by lia
 have eb:=atB 0 nB (by lia);simp only[Nat.add_zero] at eb;refine wpS_bind (yk (wpS_bind (a9 hb ?_)));rw[eb];show wpS M A E s _ _ (SortSt.mk' (kindOf st) (arrOf st) (((pendingOf st).setIfInBounds i (pre.length,Al.length+Bl.length,pw)).eraseIdxIfInBounds (i+1)) (gallopOf st) (failedOf st));generalize hst2:SortSt.mk' _ _ _ _ _=st2;have k2:kindOf st2=κ:=by rw[<-hst2];exact hst
 have a2:arrOf st2=arrOf st:=by rw[<-hst2]
 have p2:pendingOf st2=((pendingOf st).setIfInBounds i (pre.length,Al.length+Bl.length,pw)).eraseIdxIfInBounds (i+1):=by rw[<-hst2]
 have f2:failedOf st2=none:=by rw[<-hst2];exact hf
 have sb0:S Bl[0]:=hS _ (by rw[hl];simp);refine wpS_bind (dQ C (f:=λj=>!L Bl[0] (Al.getD j Bl[0])) hS sb0 (by lia) (by lia) k2 (λj hj hj2=>?_) (λx y xy hy e=>?_) λk hk h1 h2=>?_)
 ·simp only[byd,atA j hj2 hj]
  simp[hj2]
 ·have hx':x<Al.length:=by lia
  simp only[eO hy,eO hx',Bool.not_eq_true'] at e ⊢;exact tr _ _ _ (pA x y hx' hy xy) e
 dsimp only
 have c1:∀x∈Al.take k,leK L x Bl[0]:=λx hx=>by
  obtain⟨j,hj,rfl⟩:=List.mem_iff_getElem.mp hx;rw[List.length_take] at hj;have e:=h1 j (by lia);rw[List.getElem_take];have hj':j<Al.length:=by lia
  simp only[eO hj',Bool.not_eq_true'] at e;exact e
 by_cases d1:(Al.length-k==0)=true
 ·rw[if_pos d1]
  have ek:k=Al.length:=by have:=beq_iff_eq.mp d1;lia
  subst ek;obtain⟨g1,g2⟩:=zP (k:=Al.length) (m:=0) (r:=[]) (key2:=Al[Al.length-1]'(by lia)) tr sA sB kB kA c1 (λy hy=>tr _ _ _ (c1 _ (by rw[List.take_length];exact List.getElem_mem _)) (kB y (by simpa using hy))) List.Pairwise.nil (by simp);simp only[List.take_length,List.append_nil,List.drop_zero] at g1 g2;exact wpS_pure (h st2 (Al++Bl) k2 f2 p2 (by rw[a2,hl];simp) g1 g2)
 ·rw[if_neg d1]
  have d1':¬Al.length-k=0:=λe=>d1 (beq_iff_eq.mpr e);have hla:pre.length+k+(Al.length-k)-1<(arrOf st).size:=by lia
  have ela:(arrOf st)[pre.length+k+(Al.length-k)-1]=Al[Al.length-1]'(by lia):=by
   have:=atA (Al.length-1) (by lia) (by lia);rw[<-this];congr 1;lia
  have sl:S (Al[Al.length-1]'(by lia)):=hS _ (by rw[hl];simp);refine wpS_bind (a9 hla ?_);rw[ela];generalize hkey2:Al[Al.length-1]'(by lia)=key2 at sl kA;refine wpS_bind (dQ C (f:=λj=>L (Bl.getD j key2) key2) hS sl (by lia) (by lia) k2 (λj hj hj2=>?_) (λx y xy hy e=>?_) λm hm h3 h4=>?_)
  ·simp only[byd,atB j hj2 hj]
   simp[hj2]
  ·have hx':x<Bl.length:=by lia
   simp only[eO hy,eO hx'] at e ⊢;cases hv:L Bl[x] key2 with
   |true=>rfl
   |false=>have z:=tr _ _ _ hv (pB x y hx' hy xy);exact absurd (e.symm.trans z) (by decide)
  dsimp only
  have c2:∀y∈Bl.drop m,leK L key2 y:=λy hy=>by
   obtain⟨j,hj,rfl⟩:=List.mem_iff_getElem.mp hy;rw[List.length_drop] at hj;have e:=h4 (m+j) (by lia) (by lia);rw[List.getElem_drop];have hj':m+j<Bl.length:=by lia
   simp only[eO hj'] at e;exact e
  by_cases d2:(m==0)=true
  ·rw[if_pos d2]
   have em:=beq_iff_eq.mp d2;subst em;obtain⟨g1,g2⟩:=zP (k:=k) (m:=0) (r:=Al.drop k) tr sA sB kB kA c1 c2 ((List.pairwise_append.mp (show(Al.take k++Al.drop k).Pairwise (leK L) by rw[List.take_append_drop];exact sA)).2.1) (by simp);simp only[List.take_append_drop,List.drop_zero] at g1 g2;exact wpS_pure (h st2 (Al++Bl) k2 f2 p2 (by rw[a2,hl];simp) g1 g2)
  ·rw[if_neg d2]
   have d2':¬m=0:=λe=>d2 (beq_iff_eq.mpr e);have hl':(arrOf st).toList=pre++(Al++(Bl++post)):=by rw[hl];simp
   have ex:((arrOf st).extract (pre.length+k) (pre.length+Al.length)).toList=Al.drop k:=by
    rw[Array.toList_extract,hl',List.extract_eq_take_drop,gH,List.drop_append_of_le_length (by lia)];exact List.take_left' (by rw[List.length_drop];lia)
   have ey:((arrOf st).extract (pre.length+Al.length) (pre.length+Al.length+m)).toList=Bl.take m:=by
    rw[Array.toList_extract,hl',List.extract_eq_take_drop,gH,show pre.length+Al.length+m-(pre.length+Al.length)=m by lia];rw[show Al.length=Al.length+0 from rfl,gH,List.drop_zero];exact List.take_append_of_le_length hm
   generalize hX:(arrOf st).extract (pre.length+k) (pre.length+Al.length)=X at ex;generalize hY:(arrOf st).extract (pre.length+Al.length) (pre.length+Al.length+m)=Y at ey;have xl:X.size=Al.length-k:=by rw[<-Array.length_toList,ex,List.length_drop]
   have yl:Y.size=m:=by rw[<-Array.length_toList,ey,List.length_take];lia
   have x0:X[0]'(by lia)=Al[k]'(by lia):=by
    have:X.toList[0]?=some (Al[k]'(by lia)):=by rw[ex];simp[show k<Al.length by lia]
    rw[atL (by lia)] at this;exact Option.some.inj this
   have xL:X[X.size-1]'(by lia)=key2:=by
    have:X.toList[X.size-1]?=some key2:=by
     rw[ex,List.getElem?_drop,show k+(X.size-1)=Al.length-1 by lia,<-hkey2];simp[show Al.length-1<Al.length by lia]
    rw[atL (by lia)] at this;exact Option.some.inj this
   have y0:Y[0]'(by lia)=Bl[0]:=by
    have:Y.toList[0]?=some Bl[0]:=by rw[ey,List.getElem?_take,if_pos (by lia)];simp
    rw[atL (by lia)] at this;exact Option.some.inj this
   have sX:X.toList.Pairwise (leK L):=by rw[ex];exact(List.pairwise_append.mp (show(Al.take k++Al.drop k).Pairwise (leK L) by rw[List.take_append_drop];exact sA)).2.1
   have sY:Y.toList.Pairwise (leK L):=by rw[ey];exact(List.pairwise_append.mp (show(Bl.take m++Bl.drop m).Pairwise (leK L) by rw[List.take_append_drop];exact sB)).1
   have SX:∀x∈X.toList,S x:=λx hx=>hS x (by rw[ex] at hx;rw[hl];simp[List.mem_of_mem_drop hx]);have SY:∀x∈Y.toList,S x:=λx hx=>hS x (by rw[ey] at hx;rw[hl];simp[List.mem_of_mem_take hx])
   have fk:L Bl[0] (Al[k]'(by lia))=true:=by
    have e:=h2 k (Nat.le_refl _) (by lia);simpa only[eO (show k<Al.length by lia),Bool.not_eq_false'] using e
   have lastY:∀z∈Y.toList,L z key2=true:=λz hz=>by
    rw[ey] at hz;obtain⟨j,hj,rfl⟩:=List.mem_iff_getElem.mp hz;rw[List.length_take] at hj;rw[List.getElem_take];have hj':j<Bl.length:=by lia
    have e:=h3 j (by lia);simpa only[eO hj'] using e
   have firstX:∀z∈X.toList,L Bl[0] z=true:=λz hz=>by
    rw[ex] at hz;obtain⟨j,hj,rfl⟩:=List.mem_iff_getElem.mp hz;rw[List.length_drop] at hj;rw[List.getElem_drop];cases hv:L Bl[0] (Al[k+j]'(by lia)) with
    |true=>rfl
    |false=>have z:=tr _ _ _ (pA k (k+j) (by lia) (by lia) (by lia)) hv;exact absurd (fk.symm.trans z) (by decide)
   have fin:∀(r:Array Keyed) (st3:SortSt),SmG st2 st3->fF L X.toList Y.toList r.toList->wpS M A E s (do
     modify λs=>SortSt.mk' (kindOf s) (List.foldl (λa x=>a.setIfInBounds (pre.length+k+x.snd) x.fst) (arrOf s) r.toList.zipIdx) (pendingOf s) (gallopOf s) (failedOf s)
     let u<-get
     pure (failedOf u).isNone) Q st3:=λr st3 g3 fr=>by
    refine wpS_bind (wpS_modify (wpS_bind (wpS_get ?_)));rw[ex,ey] at fr;obtain⟨g1,g2⟩:=zP (k:=k) (m:=m) tr sA sB kB kA c1 c2 fr.1 fr.2;have rl:r.toList.length=Al.length-k+m:=by rw[fr.2.length_eq,List.length_append,List.length_drop,List.length_take];lia
    have e3:failedOf st3=none:=g3.f.trans f2;have big:pre.length+k+0+r.toList.length<=(arrOf st3).size:=by rw[g3.a,a2,rl];lia
    have wa:=mr r.toList 0 (pre.length+k) (arrOf st3) big;rw[g3.a,a2,hl'] at wa;have:(failedOf (SortSt.mk' (kindOf st3) (List.foldl (λa x=>a.setIfInBounds (pre.length+k+x.snd) x.fst) (arrOf st3) r.toList.zipIdx) (pendingOf st3) (gallopOf st3) (failedOf st3))).isNone=true:=by show(failedOf st3).isNone=true;rw[e3];rfl
    rw[this];refine wpS_pure (h _ (Al.take k++r.toList++Bl.drop m) (g3.k.trans k2) e3 (g3.p.trans p2) ?_ g1 g2);show(List.foldl (λa x=>a.setIfInBounds (pre.length+k+x.snd) x.fst) (arrOf st3) r.toList.zipIdx).toList=_;rw[g3.a,a2];refine wa.trans ?_;rw[Nat.add_zero,uM,List.take_append_of_le_length (by lia),rl,show pre.length+k+(Al.length-k+m)=pre.length+(Al.length+m) by lia,gH,gH,List.drop_append_of_le_length hm];simp
   by_cases d3:Al.length-k<=m
   ·rw[if_pos d3]
    refine wpS_bind (pV C as tr SX SY sX sY (by lia) (by lia) (by rw[x0,y0];exact fk) (λz hz=>by rw[xL];exact lastY z hz) k2 λr st3 g3 fr=>?_);exact fin r st3 g3 fr
   ·rw[if_neg d3]
    refine wpS_bind (p8 C as tr SX SY sX sY (by lia) (by lia) (λz hz=>by rw[y0];exact firstX z hz) (by rw[xL];exact lastY _ (by simp)) k2 λr st3 g3 fr=>?_);exact fin r st3 g3 fr
end
noncomputable def sT:Nat->Nat->StateT SortSt Sem (Option Nat):=sortPriv% PySem.Builtin.countRun
theorem yh{M:Model}{A:Around}{E:Value->Shared->Prop}{s:Shared}{i j:Nat}{Q:Unit->SortSt->Prop}{st:SortSt}(h:Q () (setArr st (mirror (arrOf st) i j ((j-i)/2)))):wpS M A E s (reverseSlice' i j) Q st:=by
 rw[reverseSlice'_eq];exact wpS_modify h
noncomputable def dK:Keyed:=(Value.none,Value.none)
noncomputable def gt(xs:Array Keyed)(i:Nat):Keyed:=xs.getD i dK
theorem qT{xs:Array Keyed}{i:Nat}(h:i<xs.size):gt xs i=xs[i]:=by simp[gt,Array.getD,h]
theorem vx(xs:Array Keyed)(i:Nat):gt xs i=(xs[i]?).getD dK:=by
 by_cases h:i<xs.size
 ·simp[gt,Array.getD,h]
 ·simp[gt,Array.getD,h]
noncomputable def UpA(L:Keyed->Keyed->Bool)(xs:Array Keyed)(lo n:Nat):Prop:=∀i j,i<=j->j<n->leK L (gt xs (lo+i)) (gt xs (lo+j))
noncomputable def DwA(L:Keyed->Keyed->Bool)(xs:Array Keyed)(lo n:Nat):Prop:=∀i j,i<=j->j<n->leK L (gt xs (lo+j)) (gt xs (lo+i))
structure FrR(st0:SortSt)(lo:Nat)(st:SortSt):Prop where
 k:kindOf st=kindOf st0
 p:pendingOf st=pendingOf st0
 f:failedOf st=failedOf st0
 pm:(arrOf st).toList.Perm (arrOf st0).toList
 tk:(arrOf st).toList.take lo=(arrOf st0).toList.take lo
theorem FrR.rf(st:SortSt)(lo:Nat):FrR st lo st:=⟨rfl,rfl,rfl,List.Perm.refl _,rfl⟩
theorem FrR.sz{st0 st:SortSt}{lo:Nat}(h:FrR st0 lo st):(arrOf st).size=(arrOf st0).size:=by rw[<-Array.length_toList,<-Array.length_toList];exact h.pm.length_eq
theorem FrR.S{st0 st:SortSt}{lo:Nat}(h:FrR st0 lo st){P:Keyed->Prop}(hS:∀x∈(arrOf st0).toList,P x):∀x∈(arrOf st).toList,P x:=λx hx=>hS x (h.pm.mem_iff.mp hx)
theorem eW{xs:Array Keyed}{i j:Nat}(hj:j<=xs.size)(k:Nat):gt (mirror xs i j ((j-i)/2)) k=if i<=k/\k<j then gt xs (i+j-1-k) else gt xs k:=by
 rw[vx,getElem?_mirror_all hj];split<;>rw[vx]
theorem zS{xs:Array Keyed}{src d:Nat}(hs:src<xs.size)(hd:d<=src)(k:Nat):gt (bubble xs src d) k=if k=src-d then gt xs src else if src-d<k/\k<=src then gt xs (k-1) else gt xs k:=by
 rw[vx,getElem?_bubble hs d hd];split
 ·rw[vx]
 ·split<;>rw[vx]
theorem FrR.mir{st0 st:SortSt}{lo p q:Nat}(h:FrR st0 lo st)(hp:lo<=p)(hq:q<=(arrOf st).size):FrR st0 lo (setArr st (mirror (arrOf st) p q ((q-p)/2))):=by
 refine⟨h.k,h.p,h.f,(Array.perm_iff_toList_perm.mp (mirror_perm _ _ _ _)).trans h.pm,?_⟩;show(mirror (arrOf st) p q ((q-p)/2)).toList.take lo=_;rw[<-h.tk];apply List.ext_getElem?;intro k;rw[List.getElem?_take,List.getElem?_take];split
 ·rename_i hk
  rw[Array.getElem?_toList,Array.getElem?_toList,getElem?_mirror_all hq,if_neg (by lia)]
 ·rfl
theorem FrR.bub{st0 st:SortSt}{lo src d:Nat}(h:FrR st0 lo st)(hs:src<(arrOf st).size)(hd:lo+d<=src):FrR st0 lo (setArr st (bubble (arrOf st) src d)):=by
 refine⟨h.k,h.p,h.f,(Array.perm_iff_toList_perm.mp (bubble_perm _ _ _)).trans h.pm,?_⟩;show(bubble (arrOf st) src d).toList.take lo=_;rw[<-h.tk];apply List.ext_getElem?;intro k;rw[List.getElem?_take,List.getElem?_take];split
 ·rename_i hk
  rw[Array.getElem?_toList,Array.getElem?_toList,getElem?_bubble hs d (by lia),if_neg (by lia),if_neg (by lia)]
 ·rfl
section
variable{M:Model}{A:Around}{E:Value->Shared->Prop}{s:Shared}{κ:SortKind}{S:Keyed->Prop}{L:Keyed->Keyed->Bool}
theorem dN(C:lN M A E s κ S L){i j:Nat}{st:SortSt}{Q:Option Bool->SortSt->Prop}(hS:∀x∈(arrOf st).toList,S x)(hst:kindOf st=κ)(hi:i<(arrOf st).size)(hj:j<(arrOf st).size)(h:Q (some (L (gt (arrOf st) i) (gt (arrOf st) j))) st):wpS M A E s (ltAt' i j) Q st:=by
 rw[ltAt'_eq];refine wpS_bind (wpS_get ?_);refine wpS_bind (a9 hi (wpS_bind (a9 hj ?_)));rw[qT hi,qT hj] at h;exact C _ _ st _ (hS _ (by simp)) (hS _ (by simp)) hst h
theorem UpA.one(as:∀x y,L x y=true->L y x=false)(xs:Array Keyed)(lo:Nat):UpA L xs lo 1:=λi j h1 h2=>by
 have:i=j:=by lia
 subst this;cases hv:L (gt xs (lo+i)) (gt xs (lo+i)) with
 |false=>exact hv
 |true=>have:=as _ _ hv;rw[hv] at this;cases this
theorem UpA.more(as:∀x y,L x y=true->L y x=false)(tr:∀x y z,L y x=false->L z y=false->L z x=false){xs:Array Keyed}{lo n:Nat}(h:UpA L xs lo n)(hn:1<=n)(e:L (gt xs (lo+n)) (gt xs (lo+n-1))=false):UpA L xs lo (n+1):=λi j h1 h2=>by
 by_cases hj:j=n
 ·subst hj
  by_cases hi:i=j
  ·subst hi
   exact UpA.one as xs (lo+i) 0 0 (Nat.le_refl _) (by lia)
  ·have e2:=h i (j-1) (by lia) (by lia)
   rw[show lo+(j-1)=lo+j-1 by lia] at e2;exact tr _ _ _ e2 e
 ·exact h i j h1 (by lia)
theorem DwA.more(as:∀x y,L x y=true->L y x=false)(tr:∀x y z,L y x=false->L z y=false->L z x=false){xs:Array Keyed}{lo n:Nat}(h:DwA L xs lo n)(hn:1<=n)(e:leK L (gt xs (lo+n)) (gt xs (lo+n-1))):DwA L xs lo (n+1):=λi j h1 h2=>by
 by_cases hj:j=n
 ·subst hj
  by_cases hi:i=j
  ·subst hi
   exact UpA.one as xs (lo+i) 0 0 (Nat.le_refl _) (by lia)
  ·have e2:=h i (j-1) (by lia) (by lia)
   rw[show lo+(j-1)=lo+j-1 by lia] at e2;exact tr _ _ _ e e2
 ·exact h i j h1 (by lia)
noncomputable def EqA(L:Keyed->Keyed->Bool)(xs:Array Keyed)(lo n q:Nat):Prop:=∀i j,n-(q+1)<=i->i<n->n-(q+1)<=j->j<n->leK L (gt xs (lo+i)) (gt xs (lo+j))
theorem nv{lo p n:Nat}(hp:p<=n){j:Nat}(h1:p<=j)(h2:j<n):lo+p+(lo+n)-1-(lo+j)=lo+(p+n-1-j)/\p<=p+n-1-j/\p+n-1-j<n:=by lia
theorem DwA.turn{xs:Array Keyed}{lo n q:Nat}(hq:q<n)(hs:lo+n<=xs.size)(h:DwA L xs lo n)(e:EqA L xs lo n q):DwA L (mirror xs (lo+n-(q+1)) (lo+n) ((lo+n-(lo+n-(q+1)))/2)) lo n:=by
 unfold EqA at e;rw[show lo+n-(q+1)=lo+(n-(q+1)) from Nat.add_sub_assoc hq lo];have hp:n-(q+1)<=n:=Nat.sub_le _ _;generalize n-(q+1)=p at e hp ⊢;intro i j h1 h2;rw[eW hs,eW hs];have jn:lo+j<lo+n:=Nat.add_lt_add_left h2 lo;have i2:i<n:=Nat.lt_of_le_of_lt h1 h2
 by_cases cj:p<=j
 ·obtain⟨j1,j2,j3⟩:=nv (lo:=lo) hp cj h2
  rw[if_pos (⟨Nat.add_le_add_left cj lo,jn⟩:lo+p<=lo+j/\lo+j<lo+n),j1]
  by_cases ci:p<=i
  ·obtain⟨i1,i3,i4⟩:=nv (lo:=lo) hp ci i2
   rw[if_pos (⟨Nat.add_le_add_left ci lo,Nat.add_lt_add_left i2 lo⟩:lo+p<=lo+i/\lo+i<lo+n),i1];exact e _ _ j2 j3 i3 i4
  ·rw[if_neg λz=>ci (Nat.le_of_add_le_add_left z.1)]
   exact h i _ (Nat.le_trans (Nat.le_of_lt (Nat.lt_of_not_le ci)) j2) j3
 ·rw[if_neg λz=>cj (Nat.le_of_add_le_add_left z.1),if_neg λz=>cj (Nat.le_trans (Nat.le_of_add_le_add_left z.1) h1)]
  exact h i j h1 h2
theorem DwA.flip{xs:Array Keyed}{lo n:Nat}(hs:lo+n<=xs.size)(h:DwA L xs lo n):UpA L (mirror xs lo (lo+n) ((lo+n-lo)/2)) lo n:=λi j h1 h2=>by
 have i2:i<n:=Nat.lt_of_le_of_lt h1 h2;obtain⟨i1,_,i4⟩:=nv (lo:=lo) (Nat.zero_le n) (Nat.zero_le i) i2;obtain⟨j1,_,_⟩:=nv (lo:=lo) (Nat.zero_le n) (Nat.zero_le j) h2;rw[Nat.add_zero] at i1 j1;rw[eW hs,eW hs,if_pos ⟨Nat.le_add_right _ _,Nat.add_lt_add_left i2 lo⟩,if_pos ⟨Nat.le_add_right _ _,Nat.add_lt_add_left h2 lo⟩,i1,j1];exact h _ _ (Nat.sub_le_sub_left h1 _) i4
theorem sM(C:lN M A E s κ S L)(as:∀x y,L x y=true->L y x=false)(tr:∀x y z,L y x=false->L z y=false->L z x=false){lo nrem:Nat}{st:SortSt}{Q:Option Nat->SortSt->Prop}(hst:kindOf st=κ)(hS:∀x∈(arrOf st).toList,S x)(h1:1<=nrem)(hb:lo+nrem<=(arrOf st).size)
  (h:∀n st',FrR st lo st'->1<=n->n<=nrem->UpA L (arrOf st') lo n->Q (some n) st'):wpS M A E s (sT lo nrem) Q st:=by
 have rfl':∀x,leK L x x:=λx=>by
  cases hv:L x x with
  |false=>exact hv
  |true=>have:=as _ _ hv;rw[hv] at this;cases this
 have fr0:=FrR.rf st lo;have szS:=fr0.sz;refine wpS_bind (wpS_mono (wpS_forRange (I:=λx c st'=>st=st'/\c=(none,x)/\UpA L (arrOf st) lo x) (Q:=λc st'=>st=st'/\∃n,c=(none,n)/\1<=n/\n<=nrem/\UpA L (arrOf st) lo n/\(n=nrem\/L (gt (arrOf st) (lo+n)) (gt (arrOf st) (lo+n-1))=true)) ?_ ?_ ⟨rfl,rfl,(UpA.one as _ _)⟩) ?_)
 ·rintro x c st' hx1 hx2 ⟨rfl,rfl,up⟩
  dsimp only;refine wpS_bind (dN C (fr0.S hS) (fr0.k.trans hst) (by lia) (by lia) ?_);dsimp only;cases hv:L (gt (arrOf st) (lo+x)) (gt (arrOf st) (lo+x-1)) with
  |true=>exact wpS_pure ⟨rfl,x,rfl,hx1,by lia,up,.inr hv⟩
  |false=>exact wpS_pure ⟨rfl,rfl,up.more as tr (by lia) hv⟩
 ·rintro c st' ⟨rfl,rfl,up⟩
  have em:max (1) nrem=nrem:=by lia
  rw[em] at up ⊢;exact⟨rfl,nrem,rfl,by lia,Nat.le_refl _,up,.inl rfl⟩
 rintro c st' ⟨rfl,n,rfl,n1,n2,up,e⟩;dsimp -zeta -zetaHave only
 by_cases d1:(n==nrem)=true
 ·first | refine bH d1 ?_ | rw[if_pos d1]
  exact wpS_pure (h n st fr0 n1 n2 up)
 first | refine bw d1 ?_ | rw[if_neg d1]
 have d1':¬n=nrem:=λe=>d1 (beq_iff_eq.mpr e);have hd:L (gt (arrOf st) (lo+n)) (gt (arrOf st) (lo+n-1))=true:=e.resolve_left d1'
 extract_lets n1v neq0 jp
 have K:∀st1,FrR st lo st1->DwA L (arrOf st1) lo (n+1)->wpS M A E s (jp ()) Q st1:=by
  intro st1 fr1 dw1;dsimp -zeta -zetaHave only[jp,n1v,neq0];refine wpS_bind (fm ?_);refine wpS_bind (wpS_mono (wpS_forRange (I:=λx c st'=>FrR st lo st'/\∃q,c=(none,x,q)/\q<x/\DwA L (arrOf st') lo x/\EqA L (arrOf st') lo x q) (Q:=λc st'=>FrR st lo st'/\∃m q,c=(none,m,q)/\1<=m/\m<=nrem/\q<m/\DwA L (arrOf st') lo m/\EqA L (arrOf st') lo m q) ?_ ?_ ⟨fr1,0,rfl,by lia,dw1,λi j i1 i2 j1 j2=>by rw[show i=j by lia];exact rfl' _⟩) ?_)
  ·rintro x c st' hx1 hx2 ⟨fr,q,rfl,hq,dw,eq⟩
   have szx:=fr.sz;dsimp only;refine wpS_bind (dN C (fr.S hS) (fr.k.trans hst) (by lia) (by lia) ?_);dsimp only;cases hv:L (gt (arrOf st') (lo+x)) (gt (arrOf st') (lo+x-1)) with
   |true=>
    first | refine bH rfl ?_ | rw[if_pos rfl]
    by_cases q0:q>0
    ·first | refine bH q0 ?_ | rw[if_pos q0]
     refine wpS_bind (yh (wpS_pure ⟨fr.mir (by lia) (by lia),0,rfl,by lia,(dw.turn hq (by lia) eq).more as tr (by lia) ?_,λi j i1 i2 j1 j2=>by rw[show i=j by lia];exact rfl' _⟩));show leK L (gt (mirror _ _ _ _) _) (gt (mirror _ _ _ _) _);rw[eW (by lia),eW (by lia),if_neg (by lia),if_pos (by lia)];have e2:=eq (x-1) (x-(q+1)) (by lia) (by lia) (by lia) (by lia);rw[show lo+(x-1)=lo+x-1 by lia,show lo+(x-(q+1))=lo+x-(q+1)+(lo+x)-1-(lo+x-1) by lia] at e2;exact tr _ _ _ (as _ _ hv) e2
    ·first | refine bw q0 ?_ | rw[if_neg q0]
     exact wpS_pure ⟨fr,0,rfl,by lia,dw.more as tr (by lia) (as _ _ hv),λi j i1 i2 j1 j2=>by rw[show i=j by lia];exact rfl' _⟩
   |false=>
    first | refine bw Bool.false_ne_true ?_ | rw[if_neg Bool.false_ne_true]
    refine wpS_bind (dN C (fr.S hS) (fr.k.trans hst) (by lia) (by lia) ?_);dsimp only;cases hv2:L (gt (arrOf st') (lo+x-1)) (gt (arrOf st') (lo+x)) with
    |true=>exact wpS_pure ⟨fr,x,q,rfl,by lia,by lia,hq,dw,eq⟩
    |false=>
     refine wpS_pure ⟨fr,q+1,rfl,by lia,dw.more as tr (by lia) hv2,λi j i1 i2 j1 j2=>?_⟩
     have up1:∀i,x-(q+1)<=i->i<x->leK L (gt (arrOf st') (lo+i)) (gt (arrOf st') (lo+x)):=λi i1 i2=>by
      have e2:=eq i (x-1) i1 i2 (by lia) (by lia);rw[show lo+(x-1)=lo+x-1 by lia] at e2;exact tr _ _ _ e2 hv
     have dn1:∀i,x-(q+1)<=i->i<x->leK L (gt (arrOf st') (lo+x)) (gt (arrOf st') (lo+i)):=λi i1 i2=>by
      have e2:=eq (x-1) i (by lia) (by lia) i1 i2;rw[show lo+(x-1)=lo+x-1 by lia] at e2;exact tr _ _ _ hv2 e2
     by_cases ci:i=x
     ·by_cases cj:j=x
      ·rw[ci,cj];exact rfl' _
      ·rw[ci];exact dn1 j (by lia) (by lia)
     ·by_cases cj:j=x
      ·rw[cj];exact up1 i (by lia) (by lia)
      ·exact eq i j (by lia) (by lia) (by lia) (by lia)
  ·rintro c st' ⟨fr,q,rfl,hq,dw,eq⟩
   have em:max (n+1) nrem=nrem:=by lia
   rw[em] at dw eq hq ⊢;exact⟨fr,nrem,q,rfl,by lia,Nat.le_refl _,hq,dw,eq⟩
  ·rintro c st' ⟨fr,m,q,rfl,m1,m2,hq,dw,eq⟩
   have szx:=fr.sz;dsimp -zeta -zetaHave only
   extract_lets r1 s1 m0 q0' jp2
   have K2:∀st',FrR st lo st'->DwA L (arrOf st') lo m->wpS M A E s (jp2 ()) Q st':=by
    intro st' fr dw;dsimp -zeta -zetaHave only[jp2,r1,s1,m0,q0'];refine wpS_bind (yh ?_);have szq:=fr.sz;have frF:=fr.mir (p:=lo) (q:=lo+m) (Nat.le_refl _) (by lia);have upF:UpA L (arrOf (setArr st' (mirror (arrOf st') lo (lo+m) ((lo+m-lo)/2)))) lo m:=dw.flip (by lia);generalize setArr st' (mirror (arrOf st') lo (lo+m) ((lo+m-lo)/2))=stF at frF upF ⊢;have szS:=frF.sz;refine wpS_bind (wpS_mono (wpS_forRange (I:=λx c st'=>stF=st'/\c=(none,x)/\UpA L (arrOf stF) lo x) (Q:=λc st'=>stF=st'/\∃n,c=(none,n)/\m<=n/\n<=nrem/\UpA L (arrOf stF) lo n/\(n=nrem\/L (gt (arrOf stF) (lo+n)) (gt (arrOf stF) (lo+n-1))=true)) ?_ ?_ ⟨rfl,rfl,upF⟩) ?_)
    ·rintro x c st' hx1 hx2 ⟨rfl,rfl,up⟩
     dsimp only;refine wpS_bind (dN C (frF.S hS) (frF.k.trans hst) (by lia) (by lia) ?_);dsimp only;cases hv:L (gt (arrOf stF) (lo+x)) (gt (arrOf stF) (lo+x-1)) with
     |true=>exact wpS_pure ⟨rfl,x,rfl,hx1,by lia,up,.inr hv⟩
     |false=>exact wpS_pure ⟨rfl,rfl,up.more as tr (by lia) hv⟩
    ·rintro c st' ⟨rfl,rfl,up⟩
     have em:max (m) nrem=nrem:=by lia
     rw[em] at up ⊢;exact⟨rfl,nrem,rfl,by lia,Nat.le_refl _,up,.inl rfl⟩
    ·rintro c st'' ⟨rfl,n,rfl,n1,n2,up,_⟩
     exact wpS_pure (h n stF frF (by lia) n2 up)
   clear_value jp2
   by_cases q0:q>0
   ·first | refine bH q0 ?_ | rw[if_pos q0]
    exact wpS_bind (yh (K2 _ (fr.mir (by lia) (by lia)) (dw.turn hq (by lia) eq)))
   ·first | refine bw q0 ?_ | rw[if_neg q0]
    exact K2 _ fr dw
 clear_value jp
 by_cases d2:n>1
 ·first | refine bH d2 ?_ | rw[if_pos d2]
  refine wpS_bind (dN C hS hst (by lia) (by lia) ?_);dsimp -zeta -zetaHave only;cases hv:L (gt (arrOf st) lo) (gt (arrOf st) (lo+n-1)) with
  |true=>exact wpS_pure (h n st fr0 n1 n2 up)
  |false=>
   first | refine bw Bool.false_ne_true ?_ | rw[if_neg Bool.false_ne_true]
   refine wpS_bind (yh ?_)
   have al:∀i j,i<n->j<n->leK L (gt (arrOf st) (lo+i)) (gt (arrOf st) (lo+j)):=λi j hi hj=>by
    have e1:=up i (n-1) (by lia) (by lia);have e2:=up 0 j (by lia) hj;rw[show lo+(n-1)=lo+n-1 by lia] at e1;exact tr _ _ _ (tr _ _ _ e1 hv) e2
   have fr1:=fr0.mir (p:=lo) (q:=lo+n) (Nat.le_refl _) (by lia)
   have dw1:DwA L (arrOf (setArr st (mirror (arrOf st) lo (lo+n) ((lo+n-lo)/2)))) lo (n+1):=by
    have base:DwA L (arrOf (setArr st (mirror (arrOf st) lo (lo+n) ((lo+n-lo)/2)))) lo n:=λi j i1 i2=>by
     show leK L (gt (mirror _ _ _ _) _) (gt (mirror _ _ _ _) _);rw[eW (by lia),eW (by lia),if_pos (by lia),if_pos (by lia)];have e1:=al (n-1-j) (n-1-i) (by lia) (by lia);rw[show lo+(n-1-j)=lo+(lo+n)-1-(lo+j) by lia,show lo+(n-1-i)=lo+(lo+n)-1-(lo+i) by lia] at e1;exact e1
    refine base.more as tr n1 ?_;show leK L (gt (mirror _ _ _ _) _) (gt (mirror _ _ _ _) _);rw[eW (by lia),eW (by lia),if_neg (by lia),if_pos (by lia)];have e1:=al (n-1) 0 (by lia) (by lia);rw[show lo+(n-1)=lo+n-1 by lia,show lo+0=lo+(lo+n)-1-(lo+n-1) by lia] at e1;exact tr _ _ _ (as _ _ hd) e1
   exact K _ fr1 dw1
 ·first | refine bw d2 ?_ | rw[if_neg d2]
  have en:n=1:=by lia
  have dw1:DwA L (arrOf st) lo (n+1):=by
   refine DwA.more as tr (λi j i1 i2=>?_) n1 (as _ _ hd);rw[show i=j by lia];exact rfl' _
  exact K _ fr0 dw1
end
section
variable{M:Model}{A:Around}{E:Value->Shared->Prop}{s:Shared}{κ:SortKind}{S:Keyed->Prop}{L:Keyed->Keyed->Bool}
theorem yY{xs:Array Keyed}{lo k l:Nat}(hl:l<=k)(hs:lo+k<xs.size)(i:Nat):gt (bubble xs (lo+k) (lo+k-(lo+l))) (lo+i)=if i=l then gt xs (lo+k) else if l<i/\i<=k then gt xs (lo+(i-1)) else gt xs (lo+i):=by
 rw[zS hs (Nat.sub_le _ _),Nat.sub_sub_self (Nat.add_le_add_left hl lo)];simp only[Nat.add_left_cancel_iff,Nat.add_lt_add_iff_left,Nat.add_le_add_iff_left]
 by_cases c2:l<i/\i<=k
 ·rw[if_pos c2,if_pos c2,Nat.add_sub_assoc (Nat.lt_of_le_of_lt (Nat.zero_le _) c2.1)]
 ·rw[if_neg c2,if_neg c2]
theorem xV(C:lN M A E s κ S L)(as:∀x y,L x y=true->L y x=false)(tr:∀x y z,L y x=false->L z y=false->L z x=false){lo n ok:Nat}{st:SortSt}{Q:Bool->SortSt->Prop}(hst:kindOf st=κ)(hS:∀x∈(arrOf st).toList,S x)(hok:ok<=n)(hb:lo+n<=(arrOf st).size)(up0:UpA L (arrOf st) lo ok)
  (h:∀st',FrR st lo st'->UpA L (arrOf st') lo n->Q true st'):wpS M A E s (binarySort' lo n ok) Q st:=by
 rw[binarySort'_eq];refine wpS_bind (wpS_mono (wpS_forRange (I:=λk c st'=>c=(none,())/\FrR st lo st'/\UpA L (arrOf st') lo (min k n)) (Q:=λc st'=>c=(none,())/\FrR st lo st'/\UpA L (arrOf st') lo n) ?_ ?_ ?_) ?_)
 ·rintro k c st1 hk1 hk2 ⟨rfl,fr,up⟩
  rw[show min k n=k by lia] at up;have sz:=fr.sz;dsimp only
  refine wpS_bind (wpS_mono (wpS_forRange (I:=λx c st'=>st1=st'/\∃l r,c=(none,l,r)/\l<=r/\r<=k/\r-l<=k-x/\(∀i,i<l->leK L (gt (arrOf st1) (lo+i)) (gt (arrOf st1) (lo+k)))/\(∀i,r<=i->i<k->leK L (gt (arrOf st1) (lo+k)) (gt (arrOf st1) (lo+i))))
   (Q:=λc st'=>st1=st'/\∃l r,c=(none,l,r)/\l<=k/\(∀i,i<l->leK L (gt (arrOf st1) (lo+i)) (gt (arrOf st1) (lo+k)))/\(∀i,l<=i->i<k->leK L (gt (arrOf st1) (lo+k)) (gt (arrOf st1) (lo+i)))) ?_ ?_ ⟨rfl,0,k,rfl,by lia,by lia,by lia,λi hi=>by lia,λi h1 h2=>by lia⟩) ?_)
  ·rintro x c st' _ hx ⟨rfl,l,r,rfl,g1,g2,g3,g4,g5⟩
   dsimp only
   by_cases ge:l>=r
   ·first | refine bH ge ?_ | rw[if_pos ge]
    have e:l=r:=by lia
    subst e;exact wpS_pure ⟨rfl,l,l,rfl,g2,g4,g5⟩
   ·first | refine bw ge ?_ | rw[if_neg ge]
    have m1:l<=(l+r)/2:=(Nat.le_div_iff_mul_le Nat.two_pos).2 (by rw[Nat.mul_two];exact Nat.add_le_add_left g1 l);have m2:(l+r)/2<r:=Nat.div_lt_of_lt_mul (by rw[Nat.two_mul];exact Nat.add_lt_add_right (Nat.lt_of_not_le ge) r);generalize (l+r)/2=m at m1 m2 ⊢;refine wpS_bind (dN C (fr.S hS) (fr.k.trans hst) (by lia) (by lia) ?_);dsimp only;cases hv:L (gt (arrOf st1) (lo+k)) (gt (arrOf st1) (lo+m)) with
    |true=>exact wpS_pure ⟨rfl,l,m,rfl,m1,Nat.le_trans (Nat.le_of_lt m2) g2,zw m1 m2 g3,g4,λi h1 h2=>tr _ _ _ (as _ _ hv) (up (m) i h1 h2)⟩
    |false=>exact wpS_pure ⟨rfl,m+1,r,rfl,m2,g2,zk m1 g3,λi h1=>tr _ _ _ (up i (m) (by lia) (by lia)) hv,g5⟩
  ·rintro c st' ⟨rfl,l,r,rfl,g1,g2,g3,g4,g5⟩
   have e:l=r:=by lia
   subst e;exact⟨rfl,l,l,rfl,g2,g4,g5⟩
  ·rintro c st' ⟨rfl,l,r,rfl,g2,g4,g5⟩
   dsimp only;rw[moveDown'_eq];refine wpS_bind (wpS_modify (wpS_pure ⟨rfl,fr.bub (by lia) (by lia),?_⟩));rw[show min (k+1) n=k+1 by lia];have at_:=λi=>yY (xs:=arrOf st1) (lo:=lo) (k:=k) (l:=l) g2 (by lia) i;intro i j h1 h2;show leK L (gt (bubble _ _ _) _) (gt (bubble _ _ _) _);rw[at_ i,at_ j]
   have rf:∀x,leK L x x:=λx=>by
    cases hv:L x x with
    |false=>exact hv
    |true=>have:=as _ _ hv;rw[hv] at this;cases this
   by_cases ci:i=l
   ·first | refine bH ci ?_ | rw[if_pos ci]
    by_cases cj:j=l
    ·rw[if_pos cj];exact rf _
    ·rw[if_neg cj,if_pos (by lia)];exact g5 (j-1) (by lia) (by lia)
   ·first | refine bw ci ?_ | rw[if_neg ci]
    by_cases cj:j=l
    ·rw[if_pos cj,if_neg (by lia)];exact g4 i (by lia)
    ·first | refine bw cj ?_ | rw[if_neg cj]
     by_cases di:l<i/\i<=k
     ·rw[if_pos di,if_pos (by lia)];exact up (i-1) (j-1) (by lia) (by lia)
     ·first | refine bw di ?_ | rw[if_neg di]
      by_cases dj:l<j/\j<=k
      ·rw[if_pos dj];exact up i (j-1) (by lia) (by lia)
      ·rw[if_neg dj];exact up i j h1 (by lia)
 ·rintro c st1 ⟨hc,fr,up⟩
  rw[show min (max (max ok 1) n) n=n by lia] at up;exact⟨hc,fr,up⟩
 ·refine⟨rfl,FrR.rf st lo,λi j h1 h2=>?_⟩
  by_cases e:ok=0
  ·have:i=j:=by lia
   subst this;exact UpA.one as _ (lo+i) 0 0 (Nat.le_refl _) (by lia)
  ·exact up0 i j h1 (by lia)
 ·rintro c st1 ⟨rfl,fr,up⟩
  exact wpS_pure (h st1 fr up)
end
noncomputable def sU:StateT SortSt Sem Unit:=sortPriv% PySem.Builtin.sortRuns
noncomputable abbrev key2(p:Nat×Nat×Nat):Nat×Nat:=(p.1,p.2.1)
noncomputable def bM:Nat->List (List Keyed)->List (Nat×Nat)
 |_,[]=>[]
 |n,r::rs=>(n,r.length)::bM (n+r.length) rs
theorem dZ:∀(R rs:List (List Keyed)) (n:Nat),bM n (R++rs)=bM n R++bM (n+R.flatten.length) rs
 |[],rs,n=>by simp[bM]
 |r::R,rs,n=>by
  show(n,r.length)::bM (n+r.length) (R++rs)=(n,r.length)::(bM (n+r.length) R++bM (n+(r::R).flatten.length) rs);rw[dZ R rs,List.flatten_cons,List.length_append,Nat.add_assoc]
theorem cD:∀(R:List (List Keyed)) (n:Nat),(bM n R).length=R.length
 |[],_=>rfl
 |r::R,n=>by show(bM (n+r.length) R).length+1=R.length+1;rw[cD R]
theorem l6{α β:Type}(g:α->β):∀(l:List α) (i:Nat),(l.eraseIdx i).map g=(l.map g).eraseIdx i
 |[],_=>rfl
 |_::_,0=>rfl
 |x::l,i+1=>by show g x::(l.eraseIdx i).map g=g x::(l.map g).eraseIdx i;rw[l6 g l i]
structure Rn(L:Keyed->Keyed->Bool)(κ:SortKind)(st0 st:SortSt)(runs:List (List Keyed))(rest:List Keyed):Prop where
 k:kindOf st=κ
 f:failedOf st=none
 al:(arrOf st).toList=runs.flatten++rest
 pm:(arrOf st).toList.Perm (arrOf st0).toList
 ru:∀r∈runs,r.Pairwise (leK L)/\1<=r.length
 pe:(pendingOf st).toList.map key2=bM 0 runs
section
variable{M:Model}{A:Around}{E:Value->Shared->Prop}{s:Shared}{κ:SortKind}{S:Keyed->Prop}{L:Keyed->Keyed->Bool}
theorem Rn.size{st0 st:SortSt}{runs:List (List Keyed)}{rest:List Keyed}(h:Rn L κ st0 st runs rest):(pendingOf st).size=runs.length:=by
 have:=congrArg List.length h.pe;rw[cD] at this;simpa using this
theorem kK(C:lN M A E s κ S L)(as:∀x y,L x y=true->L y x=false)(tr:∀x y z,L y x=false->L z y=false->L z x=false){st0 st:SortSt}{runs:List (List Keyed)}{rest:List Keyed}(hS:∀x∈(arrOf st0).toList,S x)(h:Rn L κ st0 st runs rest){i:Nat}(hi:i+2<=runs.length){Q:Bool->SortSt->Prop}
  (q:∀st' runs',Rn L κ st0 st' runs' rest->runs'.length+1=runs.length->runs'.flatten.length=runs.flatten.length->Q true st'):wpS M A E s (oh i) Q st:=by
 obtain⟨R1,a,b,R2,rfl,li⟩:∃R1 a b R2,runs=R1++a::b::R2/\R1.length=i:=by
  refine⟨runs.take i,runs[i],runs[i+1],runs.drop (i+2),?_,by rw[List.length_take];lia⟩;rw[<-List.drop_eq_getElem_cons,<-List.drop_eq_getElem_cons,List.take_append_drop]
 subst li;have pe:=h.pe;rw[dZ] at pe
 have e1:((pendingOf st).toList.map key2)[R1.length]?=some (R1.flatten.length,a.length):=by
  rw[pe,List.getElem?_append_right (by rw[cD];lia),cD,Nat.sub_self];show some (0+R1.flatten.length,a.length)=_;rw[Nat.zero_add]
 have e2:((pendingOf st).toList.map key2)[R1.length+1]?=some (R1.flatten.length+a.length,b.length):=by
  rw[pe,List.getElem?_append_right (by rw[cD];lia),cD,Nat.add_sub_cancel_left];show some (0+R1.flatten.length+a.length,b.length)=_;rw[Nat.zero_add]
 rw[List.getElem?_map,Array.getElem?_toList] at e1 e2;obtain⟨⟨u1,u2,u3⟩,f1,f2⟩:=Option.map_eq_some_iff.mp e1;obtain⟨⟨w1,w2,w3⟩,g1,g2⟩:=Option.map_eq_some_iff.mp e2;simp only[key2,Prod.mk.injEq] at f2 g2;obtain⟨rfl,rfl⟩:=f2;obtain⟨rfl,rfl⟩:=g2;have ra:=h.ru a (by simp);have rb:=h.ru b (by simp);refine pY (pre:=R1.flatten) (Al:=a) (Bl:=b) (post:=R2.flatten++rest) C as tr h.k h.f f1 g1 (by rw[h.al];simp) (λx hx=>hS x (h.pm.mem_iff.mp hx)) ra.2 rb.2 ra.1 rb.1 λst' Cl k' f' p' a' sc pc=>?_;have cl:Cl.length=a.length+b.length:=by rw[pc.length_eq,List.length_append]
 refine q st' (R1++Cl::R2) ⟨k',f',by rw[a'];simp,?_,λr hr=>?_,?_⟩ (by simp;lia) (by simp[cl];lia)
 ·refine List.Perm.trans ?_ h.pm
  rw[a',h.al];simp only[List.flatten_append,List.flatten_cons,List.append_assoc];refine(List.Perm.refl _).append ?_;have e9:=pc.append (List.Perm.refl (R2.flatten++rest));rw[List.append_assoc a] at e9;exact e9
 ·rcases List.mem_append.mp hr with hr | hr
  ·exact h.ru r (by simp[hr])
  ·rcases List.mem_cons.mp hr with rfl | hr
   ·exact⟨sc,by lia⟩
   ·exact h.ru r (by simp[hr])
 ·rw[p']
  have lt:R1.length+1<(pendingOf st).size:=(Array.getElem?_eq_some_iff.mp g1).1;rw[Array.toList_eraseIdxIfInBounds,Array.toList_setIfInBounds,l6,List.map_set,pe,dZ];show((bM 0 R1++(0+R1.flatten.length,a.length)::(0+R1.flatten.length+a.length,b.length)::bM (0+R1.flatten.length+a.length+b.length) R2).set R1.length (R1.flatten.length,a.length+b.length)).eraseIdx (R1.length+1)=bM 0 R1++(0+R1.flatten.length,Cl.length)::bM (0+R1.flatten.length+Cl.length) R2;have sl:=cD R1 0;rw[List.set_append_right _ _ (by lia),sl,Nat.sub_self,List.set_cons_zero,List.eraseIdx_append_of_length_le (by lia),sl,Nat.add_sub_cancel_left];show bM 0 R1++(R1.flatten.length,a.length+b.length)::bM (0+R1.flatten.length+a.length+b.length) R2=_;rw[cl,Nat.zero_add,Nat.add_assoc]
theorem xD{l:List (Nat×Nat×Nat)}{i v:Nat}:(l.modify i λx=>(x.1,x.2.1,v)).map key2=l.map key2:=by
 apply List.ext_getElem?;intro j;rw[List.getElem?_map,List.getElem?_map,List.getElem?_modify];cases l[j]? with
 |none=>rfl
 |some x=>by_cases e:i=j<;>simp[e,key2]
theorem CK{xs:Array Keyed}{lo n:Nat}(h:UpA L xs lo n)(hb:lo+n<=xs.size):((xs.toList.drop lo).take n).Pairwise (leK L):=by
 rw[List.pairwise_iff_getElem];intro i j hi hj ij;rw[List.length_take,List.length_drop] at hi hj;have e:=h i j (by lia) (by lia);rw[qT (by lia),qT (by lia)] at e;simp only[List.getElem_take,List.getElem_drop,Array.getElem_toList];exact e
theorem Rn.more{st0 st st':SortSt}{runs:List (List Keyed)}{rest:List Keyed}{n:Nat}(h:Rn L κ st0 st runs rest)(hn:n<=rest.length)(n1:1<=n)(sp:(rest.take n).Pairwise (leK L))(pe:(pendingOf st').toList.map key2=bM 0 (runs++[rest.take n]))(k:kindOf st'=kindOf st)(f:failedOf st'=failedOf st)(a:arrOf st'=arrOf st):Rn L κ st0 st' (runs++[rest.take n]) (rest.drop n):=by
 refine⟨k.trans h.k,f.trans h.f,?_,by rw[a];exact h.pm,λr hr=>?_,pe⟩
 ·rw[a,h.al,List.flatten_append,List.flatten_singleton,List.append_assoc,List.take_append_drop]
 ·rcases List.mem_append.mp hr with hr | hr
  ·exact h.ru r hr
  ·rw[List.mem_singleton.mp hr]
   exact⟨sp,by rw[List.length_take];lia⟩
theorem Rn.fr{st0 st st':SortSt}{runs:List (List Keyed)}{rest:List Keyed}(h:Rn L κ st0 st runs rest)(g:FrR st runs.flatten.length st'):Rn L κ st0 st' runs ((arrOf st').toList.drop runs.flatten.length):=by
 refine⟨g.k.trans h.k,g.f.trans h.f,?_,g.pm.trans h.pm,h.ru,by rw[g.p];exact h.pe⟩;have e:=g.tk;rw[h.al,List.take_left] at e
 conv=>lhs;rw[<-List.take_append_drop runs.flatten.length (arrOf st').toList,e]
theorem Aq(c:Prop)[Decidable c](p n:Nat)(h:p+2<=n):(if c then p-1 else p)+2<=n:=by split<;>lia
theorem yp{σ α β:Type}{c:Prop}[Decidable c]{f:β->StateT σ Sem α}{t:StateT σ Sem α}{x:β}{Q:α->σ->Prop}{st:σ}(P:β->σ->Prop)(h:∀x st,P x st->wpS M A E s (f x) Q st)(h1:c->(∀x st,P x st->wpS M A E s (f x) Q st)->wpS M A E s t Q st)(h2:¬c->P x st):wpS M A E s (if c then t else f x) Q st:=by
 split
 ·exact h1 ‹_› h
 ·exact h _ _ (h2 ‹_›)
theorem nW(C:lN M A E s κ S L)(as:∀x y,L x y=true->L y x=false)(tr:∀x y z,L y x=false->L z y=false->L z x=false){st:SortSt}{Q:Unit->SortSt->Prop}(hst:kindOf st=κ)(hf:failedOf st=none)(hp:pendingOf st=#[])(hS:∀x∈(arrOf st).toList,S x)
  (h:∀st',failedOf st'=none->(arrOf st').toList.Pairwise (leK L)->(arrOf st').toList.Perm (arrOf st).toList->Q () st'):wpS M A E s sU Q st:=by
 refine wpS_bind (wpS_get ?_);rw[show(sortPriv% PySem.Builtin.SortState.a) st=arrOf st from rfl]
 extract_lets size minrun lo0
 have minE:minrun=minRun' (arrOf st).size (arrOf st).size 0:=rfl
 clear_value minrun
 dsimp -zeta -zetaHave only[size,lo0]
 clear lo0
 have R0:Rn L κ st st [] (arrOf st).toList:=⟨hst,hf,rfl,List.Perm.refl _,(λr hr=>by cases hr),by rw[hp];rfl⟩;refine wpS_bind (wpS_mono (wpS_forRange (I:=λx c st'=>∃lo runs rest,c=(none,lo)/\Rn L κ st st' runs rest/\lo=runs.flatten.length/\x<=lo) (Q:=λc st'=>∃lo runs rest,c=(none,lo)/\Rn L κ st st' runs rest/\lo=runs.flatten.length/\(arrOf st).size<=lo) ?_ ?_ ⟨0,[],_,rfl,R0,rfl,Nat.le_refl _⟩) ?_)
 ·rintro x c st1 _ hx ⟨lo,runs,rest,rfl,R,el,xl⟩
  dsimp -zeta -zetaHave only
  by_cases ge:lo>=(arrOf st).size
  ·first | refine bH ge ?_ | rw[if_pos ge]
   exact wpS_pure ⟨lo,runs,rest,rfl,R,el,ge⟩
  first | refine bw ge ?_ | rw[if_neg ge]
  have s1:(arrOf st1).size=(arrOf st).size:=by rw[<-Array.length_toList,<-Array.length_toList];exact R.pm.length_eq
  refine wpS_bind (sM C as tr R.k (λx hx=>hS x (R.pm.mem_iff.mp hx)) (by lia) (by lia) λn st2 fr n1 n2 up=>?_);dsimp -zeta -zetaHave only;have s2:=fr.sz;have fr':=fr;rw[el] at fr';have RT:=R.fr fr'
  extract_lets n0 jp force n3
  refine yp (f:=λz=>jp () z) (λz st3=>(1<=z/\z<=(arrOf st).size-lo/\(arrOf st3).size=(arrOf st).size)/\UpA L (arrOf st3) lo z/\Rn L κ st st3 runs ((arrOf st3).toList.drop runs.flatten.length)) (λNN st3 hh=>?_) (λnm K=>?_) λnm=>⟨⟨n1,n2,s2.trans s1⟩,up,RT⟩
  ·obtain⟨⟨nn1,nn3,s3⟩,up3,RT⟩:=hh
   dsimp -zeta -zetaHave only[jp];have nn2:lo+NN<=(arrOf st3).size:=by lia
   have hpw:=CK up3 nn2;rw[el] at hpw;have rl:((arrOf st3).toList.drop runs.flatten.length).length=(arrOf st).size-lo:=by rw[List.length_drop,Array.length_toList,el];lia
   generalize hREST:(arrOf st3).toList.drop runs.flatten.length=REST at RT hpw rl;refine wpS_bind (wpS_get ?_);rcases hbk:(pendingOf st3).back? with _ | ⟨s1,n1,p1⟩
   ·dsimp only
    refine wpS_bind (wpS_modify (wpS_pure ⟨lo+NN,runs++[REST.take NN],REST.drop NN,rfl,RT.more (by lia) nn1 hpw (by show((pendingOf st3).push _).toList.map key2=_;rw[Array.toList_push,List.map_append,RT.pe,dZ];show bM 0 runs++[(lo,NN)]=bM 0 runs++[(0+runs.flatten.length,(REST.take NN).length)];rw[List.length_take,rl,show min NN ((arrOf st).size-lo)=NN by lia,<-el,Nat.zero_add]) rfl rfl rfl,?_,by lia⟩));rw[List.flatten_append,List.length_append,List.flatten_singleton,List.length_take];lia
   ·dsimp only
    refine wpS_bind (wpS_mono (wpS_forRange (I:=λ_ c st'=>c=(none,())/\∃runs',Rn L κ st st' runs' REST/\runs'.flatten.length=lo) (Q:=λc st'=>c=(none,())/\∃runs',Rn L κ st st' runs' REST/\runs'.flatten.length=lo) ?_ (λc st' z=>z) ⟨rfl,runs,RT,el.symm⟩) ?_)
    ·rintro y c st4 _ hy ⟨rfl,runs',R4,l4⟩
     have sz4:=R4.size;have sz5:((sortPriv% PySem.Builtin.SortState.pending) st4).size=(pendingOf st4).size:=rfl;refine wpS_bind (wpS_get ?_)
     by_cases hs:(pendingOf st4).size>1
     ·first | refine bH hs ?_ | rw[if_pos hs]
      rcases hq:(pendingOf st4)[(pendingOf st4).size-2]? with _ | ⟨q1,q2,older⟩
      ·exact wpS_pure ⟨rfl,runs',R4,l4⟩
      ·dsimp only
       split
       ·exact wpS_pure ⟨rfl,runs',R4,l4⟩
       ·refine wpS_bind (kK C as tr hS R4 (by lia) λst5 runs5 R5 len5 fl5=>?_)
        first | refine bw (by decide) ?_ | rw[if_neg (by decide)]
        exact wpS_pure ⟨rfl,runs5,R5,by lia⟩
     ·first | refine bw hs ?_ | rw[if_neg hs]
      exact wpS_pure ⟨rfl,runs',R4,l4⟩
    ·rintro c st4 ⟨rfl,runs',R4,l4⟩
     dsimp only;refine wpS_bind (wpS_modify (wpS_bind (wpS_modify (wpS_pure ⟨lo+NN,runs'++[REST.take NN],REST.drop NN,rfl,R4.more (by lia) nn1 hpw ?_ rfl rfl rfl,?_,by lia⟩))))
     ·show(((pendingOf st4).modify _ _).push _).toList.map key2=_
      rw[Array.toList_push,List.map_append,Array.toList_modify,xD,R4.pe,dZ];show bM 0 runs'++[(lo,NN)]=bM 0 runs'++[(0+runs'.flatten.length,(REST.take NN).length)];rw[List.length_take,rl,show min NN ((arrOf st).size-lo)=NN by lia,l4,Nat.zero_add]
     ·rw[List.flatten_append,List.length_append,List.flatten_singleton,List.length_take];lia
  ·refine wpS_bind (fm (wpS_bind (xV C as tr (fr.k.trans R.k) (λx hx=>hS x (RT.pm.mem_iff.mp hx)) (by lia) (by lia) up λst3 fr3 up3=>?_)))
   first | refine bw (by decide) ?_ | rw[if_neg (by decide)]
   have s3:=fr3.sz;have fr3':=fr3;rw[el] at fr3';exact K _ _ ⟨⟨by lia,by lia,by lia⟩,up3,RT.fr fr3'⟩
 ·rintro c st1 ⟨lo,runs,rest,rfl,R,el,xl⟩
  exact⟨lo,runs,rest,rfl,R,el,by lia⟩
 ·rintro c st1 ⟨lo,runs,rest,rfl,R,el,xl⟩
  dsimp only;have s1:(arrOf st1).size=(arrOf st).size:=by rw[<-Array.length_toList,<-Array.length_toList];exact R.pm.length_eq
  have e0:rest=[]:=by
   have:=congrArg List.length R.al;rw[List.length_append,Array.length_toList] at this;exact List.eq_nil_of_length_eq_zero (by lia)
  subst e0
  have many:∀rs:List (List Keyed),(∀r∈rs,1<=r.length)->rs.length<=rs.flatten.length:=λrs=>by
   induction rs with
   |nil=>intro _;exact Nat.le_refl _
   |cons r rs ih=>
    intro hr;have h1:=hr r (by simp);have h2:=ih λr' h'=>hr r' (by simp[h']);rw[List.flatten_cons,List.length_append,List.length_cons];lia
  have m1:=many runs λr hr=>(R.ru r hr).2
  have fl:runs.flatten.length=(arrOf st).size:=by
   have:=congrArg List.length R.al;rw[List.length_append,Array.length_toList,List.length_nil] at this
   lia
  refine wpS_bind (wpS_mono (wpS_forRange (I:=λx c st'=>c=(none,())/\∃runs',Rn L κ st st' runs' []/\runs'.length<=max 1 ((arrOf st).size-x)) (Q:=λc st'=>c=(none,())/\∃runs',Rn L κ st st' runs' []/\runs'.length<=1) ?_ ?_ ⟨rfl,runs,R,by lia⟩) ?_)
  ·rintro x c st4 _ hx ⟨rfl,runs',R4,l4⟩
   have sz4:=R4.size;have sz5:((sortPriv% PySem.Builtin.SortState.pending) st4).size=(pendingOf st4).size:=rfl;refine wpS_bind (wpS_get ?_)
   by_cases hs:(pendingOf st4).size<=1
   ·first | refine bH hs ?_ | rw[if_pos hs]
    exact wpS_pure ⟨rfl,runs',R4,by lia⟩
   ·first | refine bw hs ?_ | rw[if_neg hs]
    refine wpS_bind (kK C as tr hS R4 (Aq _ _ _ (by lia)) λst5 runs5 R5 len5 fl5=>?_)
    first | refine bw (by decide) ?_ | rw[if_neg (by decide)]
    exact wpS_pure ⟨rfl,runs5,R5,by lia⟩
  ·rintro c st4 ⟨rfl,runs',R4,l4⟩
   exact⟨rfl,runs',R4,by lia⟩
  ·rintro c st4 ⟨rfl,runs',R4,l4⟩
   refine wpS_pure (h st4 R4.f ?_ R4.pm);rw[R4.al,List.append_nil]
   match runs',l4,R4 with
   |[],_,_=>exact List.Pairwise.nil
   |[r],_,R4=>rw[List.flatten_singleton];exact(R4.ru r (by simp)).1
   |_::_::_,l4,_=>simp at l4
end
open PySem.Spec L2 PySem.W
section
variable{vs:List Value}{lt:Nat->Nat->Bool}
noncomputable def sK(vs:List Value)(x:Keyed):Prop:=∃i,i<vs.length/\x=(vs.getD i .none,vs.getD i .none)
open Classical in
noncomputable def ixK (vs:List Value) (v:Value):Nat:=if h:∃i,i<vs.length/\vs.getD i .none=v then Classical.choose h else 0
noncomputable def lK (vs:List Value) (lt:Nat->Nat->Bool) (x y:Keyed):Bool:=lt (ixK vs x.1) (ixK vs y.1)
theorem vJ{i:Nat}(hi:i<vs.length):ixK vs (vs.getD i .none)<vs.length/\vs.getD (ixK vs (vs.getD i .none)) .none=vs.getD i .none:=by
 have h:∃j,j<vs.length/\vs.getD j .none=vs.getD i .none:=⟨i,hi,rfl⟩;unfold ixK;rw[dif_pos h];exact Classical.choose_spec h
theorem zh(hcon:∀i j k,i<vs.length->j<vs.length->vs.getD i .none=vs.getD j .none->lt i k=lt j k/\lt k i=lt k j){i j:Nat}(hi:i<vs.length)(hj:j<vs.length):lK vs lt (vs.getD i .none,vs.getD i .none) (vs.getD j .none,vs.getD j .none)=lt i j:=by
 obtain⟨a1,a2⟩:=vJ hi;obtain⟨b1,b2⟩:=vJ hj;show lt _ _=_;rw[(hcon _ _ _ a1 hi a2).1,(hcon _ _ _ b1 hj b2).2]
theorem vF{prog:Program}{w:World}{A:Around}{s:Shared}{κ:SortKind}(hcon:∀i j k,i<vs.length->j<vs.length->vs.getD i .none=vs.getD j .none->lt i k=lt j k/\lt k i=lt k j)
  (hc:∀i j (R:Bool->Shared->Prop),i<vs.length->j<vs.length->R (lt i j) s->wpAny (model prog w) A (keyLt' κ (vs.getD i .none) (vs.getD j .none)) R (λ_ _=>False) s):lN (model prog w) A (λ_ _=>False) s κ (sK vs) (lK vs lt):=by
 rintro x y st Q ⟨i,hi,rfl⟩ ⟨j,hj,rfl⟩ hk q;rw[zh hcon hi hj] at q;rw[lt'_eq];refine wpS_bind (wpS_get ?_);rw[hk];refine wpS_bind (wpS_lift (wpAny_attempt (wpAny_mono (hc i j (λb t=>b=lt i j/\t=s) hi hj ⟨rfl,rfl⟩) (λb t hb=>?_) λ_ _ x=>x.elim)));obtain⟨rfl,rfl⟩:=hb;exact⟨rfl,wpS_pure q⟩
theorem uG(vs:List Value):(vs.toArray.zip vs.toArray).toList=(List.range vs.length).map λi=>(vs.getD i .none,vs.getD i .none):=by
 refine List.ext_getElem (by simp) λi h1 h2=>?_;have hi:i<vs.length:=by simpa using h2
 simp[hi]
theorem qW{vs:List Value}(h:vs.length<2):(vs.toArray.zip vs.toArray).map (·.2)=List.toArray ((List.toArray (List.range vs.length)).toList.map λi=>vs.getD i .none):=by
 rcases vs with _ | ⟨v,_ | ⟨w,r⟩⟩
 ·simp
 ·simp[List.range,List.range.loop]
 ·rw[List.length_cons,List.length_cons] at h;lia
theorem y6(vs:List Value):∀x∈(vs.toArray.zip vs.toArray).toList,sK vs x:=λx hx=>by
 rw[uG] at hx;obtain⟨i,hi,rfl⟩:=List.mem_map.mp hx;exact⟨i,List.mem_range.mp hi,rfl⟩
theorem sI{α β:Type}(f:α->β):∀{l l':List β},l.Perm l'->∀q:List α,l'=q.map f->∃p:List α,p.Perm q/\l=p.map f:=by
 intro l l' h
 induction h with
 |nil=>intro q e;exact⟨q,.refl _,e⟩
 |cons x h ih=>
  intro q e
  match q,e with
  |y::q,e=>
   rw[List.map_cons] at e;injection e with e1 e2
   obtain⟨p,h1,h2⟩:=ih q e2;exact⟨y::p,h1.cons y,by rw[List.map_cons,<-h2,e1]⟩
 |swap x y l=>
  intro q e
  match q,e with
  |u::v::q,e=>
   rw[List.map_cons,List.map_cons] at e;injection e with e1 e2
   injection e2 with e2 e3
   exact⟨v::u::q,.swap _ _ _,by rw[List.map_cons,List.map_cons,<-e1,<-e2,<-e3]⟩
 |trans h1 h2 ih1 ih2=>
  intro q e;obtain⟨p2,a1,a2⟩:=ih2 q e;obtain⟨p1,b1,b2⟩:=ih1 p2 a2;exact⟨p1,b1.trans a1,b2⟩
theorem rm(O:Ord vs.length lt)(hcon:∀i j k,i<vs.length->j<vs.length->vs.getD i .none=vs.getD j .none->lt i k=lt j k/\lt k i=lt k j){st:SortSt}(sp:(arrOf st).toList.Pairwise (leK (lK vs lt)))(pm:(arrOf st).toList.Perm (vs.toArray.zip vs.toArray).toList) :
  ∃p:Array Nat,Pm vs.length p/\Up lt p vs.length/\(arrOf st).map (·.2)=List.toArray (p.toList.map λi=>vs.getD i .none):=by
 obtain⟨p,h1,h2⟩:=sI _ pm (List.range vs.length) (uG vs);have sz:p.length=vs.length:=by rw[h1.length_eq,List.length_range]
 refine⟨p.toArray,⟨by simpa using sz,by simpa using h1⟩,λi j ij hj=>?_,?_⟩
 ·by_cases e:i=j
  ·subst e;exact O.rf _
  ·have hi':i<p.length:=by lia
   have hj':j<p.length:=by lia
   rw[h2,List.pairwise_map] at sp;have:=List.pairwise_iff_getElem.mp sp i j hi' hj' (by lia);have li:p[i]<vs.length:=List.mem_range.mp (h1.mem_iff.mp (List.getElem_mem _));have lj:p[j]<vs.length:=List.mem_range.mp (h1.mem_iff.mp (List.getElem_mem _));have e2:=zh hcon lj li;have e3:lt p[j] p[i]=false:=e2.symm.trans this;simpa[Array.getD,hi',hj'] using e3
 ·apply Array.toList_inj.mp
  rw[Array.toList_map,h2,List.map_map];rfl
end
section
variable{prog:Program}{w:World}{A:Around}{E:Value->Shared->Prop}{s:Shared}{κ:SortKind}
theorem tK{l:Addr}{vs:List Value}{Q:Value->Shared->Prop}{lt:Nat->Nat->Bool}(hl:s.heap.IsList l vs.toArray)(hz:vs.length<1000000)(O:Ord vs.length lt)(hcon:∀i j k,i<vs.length->j<vs.length->vs.getD i .none=vs.getD j .none->lt i k=lt j k/\lt k i=lt k j)
  (hk:2<=vs.length->∀(t:Shared) (R:SortKind->Shared->Prop),Kp s.heap t.heap->R κ t->wpAny (model prog w) A.in1.in1 (keyKind' vs.toArray) R (λ_ _=>False) t)
  (hc:∀i j (t:Shared) (R:Bool->Shared->Prop),Kp s.heap t.heap->i<vs.length->j<vs.length->R (lt i j) t->wpAny (model prog w) A.in1.in1 (keyLt' κ (vs.getD i .none) (vs.getD j .none)) R (λ_ _=>False) t)
  (h:∀p:Array Nat,Pm vs.length p->Up lt p vs.length->Q (.ref (s.heap.objs.size+1)) { s with heap:=sortedAll s.heap vs (List.toArray (p.toList.map λi=>vs.getD i .none)) }):wpAny (model prog w) A (call (.builtin "sorted") [.ref l]) Q E s:=by
 have zl:vs.length<=sizeLine:=Nat.le_of_lt (Nat.lt_trans hz (by decide));obtain⟨c,m1,m2⟩:=Bv s.heap vs;refine Calls.call_function_entry (kind_sorted) (plain_sorted) (entry_sorted) (args_sorted1 _) ?_;unfold Builtin.«sorted»;refine wpAny_bind (m:=(checkCount "sorted" 1 1 _)) (wpAny_pure (wpAny_bind (collect_list hl (wpAny_bind (wpAny_newList (items:=vs) ?_ zl)) zl)));show wpAny _ _ _ _ _ { s with heap:=stA s.heap vs };rw[n8];refine wpAny_bind (wpAny_holding (wpAny_call_entry (slot_list_sort) ⟨_,nL s.heap vs,rfl⟩ (entry_list_sort) ?tree (args_list_sort _)))
 case tree=>
  rw[list_sort_plain];refine wpAny_bind (listItems_at (nL s.heap vs) rfl (wpAny_bind (listUpdate_at (nL s.heap vs) rfl (wpAny_bind (seqEpoch_at m1 rfl (wpAny_bind (wpAny_newTuple (items:=vs) (wpAny_bind (wpAny_newList (items:=[]) (wpAny_holding ?_) (Nat.zero_le _))) zl)))) (by simpa using zl) (Nat.zero_le _))));show wpAny (model prog w) A.in1.in1 _ _ _ { s with heap:=stB s.heap vs };dsimp only
  have out:∀p:Array Nat,Pm vs.length p->Up lt p vs.length->∀st:SortSt,(arrOf st).map (·.2)=List.toArray (p.toList.map λi=>vs.getD i .none)->((arrOf st).map (·.2)).size<=sizeLine+1:=λp hp _ st e=>by
   rw[e];simp only[List.size_toArray,List.length_map,Array.length_toList,hp.sz]
   lia
  by_cases two:vs.toArray.size<2
  ·rw[if_pos two,if_pos two]
   have two':vs.length<2:=by simpa using two
   refine wpAny_bind (wpAny_pure ?_);rw[StateT.run_pure]
   have e0:(arrOf (SortSt.mk' general' (vs.toArray.zip vs.toArray) #[] 7 none)).map (·.2)=List.toArray ((List.toArray (List.range vs.length)).toList.map λi=>vs.getD i .none):=by
    show(vs.toArray.zip vs.toArray).map (·.2)=_;exact qW two'
   have up0:Up lt (List.toArray (List.range vs.length)) vs.length:=λi j a b=>by
    have:i=j:=by lia
    subst this;exact O.rf _
   refine wpAny_bind (wpAny_pure ?_);dsimp only;refine wpAny_bind (seqEpoch_at m2 rfl (wpAny_bind (listUpdate_at m2 rfl ?_ (Nat.zero_le _) (out _ (.start _) up0 _ e0))));simp only[Bool.false_eq_true,bne_self_eq_false,if_false];refine wpAny_pure ⟨_,rfl,wpAny_pure ⟨_,rfl,?_⟩⟩;have:=h _ (.start _) up0;rw[<-e0] at this;exact this
  ·rw[if_neg two,if_neg two]
   have two':2<=vs.length:=by simpa using two
   refine wpAny_bind (wpAny_mono (hk two' { s with heap:=stB s.heap vs } (λk t=>k=κ/\t={ s with heap:=stB s.heap vs }) (uI _ _) ⟨rfl,rfl⟩) (λk t hkt=>?_) λ_ _ x=>x.elim);obtain⟨rfl,rfl⟩:=hkt;generalize ht:({ s with heap:=stB s.heap vs }:Shared)=t0 at *;have kp0:Kp s.heap t0.heap:=by rw[<-ht];exact uI _ _
   have run:=nW (M:=model prog w) (A:=A.in1.in1) (E:=λ_ _=>False) (s:=t0) (κ:=k) (S:=sK vs) (L:=lK vs lt) (st:=SortSt.mk' k (vs.toArray.zip vs.toArray) #[] 7 none) (Q:=λ_ st=>failedOf st=none/\∃p:Array Nat,Pm vs.length p/\Up lt p vs.length/\(arrOf st).map (·.2)=List.toArray (p.toList.map λi=>vs.getD i .none))
    (vF hcon λi j R hi hj hR=>hc i j t0 R kp0 hi hj hR) (λx y e=>O.as _ _ e) (λx y z e f=>O.tr _ _ _ e f) rfl rfl rfl (y6 vs) λst' f' sp pm=>⟨f',rm O hcon sp pm⟩
   have run':wpAny (model prog w) A.in1.in1 ((sortRuns').run (SortSt.mk' k (vs.toArray.zip vs.toArray) #[] 7 none)) (λr t=>t=t0/\failedOf r.2=none/\∃p:Array Nat,Pm vs.length p/\Up lt p vs.length/\(arrOf r.2).map (·.2)=List.toArray (p.toList.map λi=>vs.getD i .none)) (λ_ _=>False) t0:=run;refine wpAny_bind (wpAny_mono run' ?_ λ_ _ x=>x.elim);rintro⟨⟨⟩,st⟩ t ⟨e1,hf,p,hp,hup,hout⟩;subst e1;dsimp only at hf hout ⊢;subst ht;refine wpAny_bind (seqEpoch_at m2 rfl (wpAny_bind (listUpdate_at m2 rfl ?_ (Nat.zero_le _) (out p hp hup st hout))));rw[hf];simp only[Bool.false_eq_true,bne_self_eq_false,if_false];refine wpAny_pure ⟨_,rfl,wpAny_pure ⟨_,rfl,?_⟩⟩;have:=h p hp hup;rw[<-hout] at this;exact this
end
theorem iD{vs:List Value}{ns ms:List Int}(h:IntsAre vs ns):IntsAre vs ms->ns=ms:=by
 induction h generalizing ms with
 |nil=>intro g;cases g;rfl
 |cons n t h ih=>intro g;cases g with | cons _ _ g=>rw[ih g]
noncomputable def oE(fa:Ev->Option D):Ev->Option (List D):=λε=>match fa ε with
 |some (.lst ds)=>(i_ ds).bind λts=>if ts.length<1000000 then some ((ji ts).map cw) else none
 |_=>none
section
variable{X:Cx}{a:Expr}{pos:Pos}{fa:Ev->Option D}
theorem sZ{k:Nat}(hr:Room k X.A)(hc:X.calm=true):dW X (.builtin "sorted") (λxs H Q=>∃G l vs ts,xs=[.ref l]/\aR G H/\SqL X.K H l vs/\DenL X.K G vs (ts.map cw)/\(∀t∈ts,t≠[])/\ts.length<1000000/\
  ∀p us,H p=none->DenL X.K G us ((ji ts).map cw)->Q (.ref p) (upd H p (.lst us))):=by
 intro pins s σ H xs us Q I rv h;obtain⟨G,l,vs,ts,rfl,gh,hq,hd,hne,hn,q⟩:=h;obtain⟨u,rfl,ru⟩:=rv.one;cases ru;obtain⟨its,rr,pl,hz⟩:=I.list hq;have nl:its.length=ts.length:=by rw[<-rr.length,hd.length,List.length_map]
 have at_:∀i,i<ts.length->∃(a:Addr) (arr:Array Value),its.getD i .none=.ref a/\IsTup s.heap a arr/\IntsAre arr.toList (ts.getD i []):=λi hi=>by
  have hi1:i<its.length:=by lia
  have hi2:i<vs.length:=by rw[rr.length];exact hi1
  have hx:=bT V.non hi2;obtain⟨d,e1,e2⟩:=hd.getV hx;rw[List.getElem?_map,bT [] hi] at e1;cases e1;obtain⟨a,ys,ea,w1,w2⟩:=e2.tupV;obtain⟨u,eu,ru⟩:=rr.get hx;rw[bT Value.none hi1] at eu;have eu:=Option.some.inj eu;rw[ea] at ru;obtain⟨arr,r2,p2,_⟩:=I.tuple (aK gh w1);refine⟨a,arr.toArray,eu.trans (show u=Value.ref a from ru),p2,?_⟩;have:=cE w2 (fq _);rw[this] at r2;simpa using dY r2
 have sz:ts.length=its.length:=nl.symm;refine tK (κ:=tuples' (Value.type "int" != Value.type "tuple")) (lt:=λi j=>lxL (ts.getD i []) (ts.getD j [])) pl.isList (by lia) ⟨λx y e=>pJ _ _ e,λx y z e f=>se _ _ _ e f⟩ (λi j k hi hj e=>?_) (λh2 t R kp hR=>?_) (λi j t R kp hi hj hR=>?_) λp hp hup=>?_
 ·obtain⟨a1,r1,x1,⟨o1,p1,c1,n1,d1⟩,i1⟩:=at_ i (by lia)
  obtain⟨a2,r2,x2,⟨o2,p2,c2,n2,d2⟩,i2⟩:=at_ j (by lia);have ea:a1=a2:=by rw[x1,x2] at e;injection e
  subst ea;rw[p1] at p2;cases p2;rw[d1] at d2;cases d2;have:ts.getD i []=ts.getD j []:=iD i1 i2;rw[this];exact⟨rfl,rfl⟩
 ·-- of which kind the keys are
  have tu:∀(m:Nat) (vs':List Value) (fs:List Int),(∀i,i<vs'.length->∃(a:Addr) (arr:Array Value),vs'.getD i .none=.ref a/\IsTup s.heap a arr/\IntsAre arr.toList (ts.getD (m+i) []))->m+vs'.length<=ts.length->
    ∃fs:List Value,KatTups t.heap vs' fs/\fs.length=vs'.length/\∀v∈fs,∃n tk,v=.int n tk:=by
   intro m vs'
   induction vs' generalizing m with
   |nil=>exact λ_ _ _=>⟨[],.nil,rfl,λv hv=>by cases hv⟩
   |cons v vs' ih=>
    intro fs hat hm
    obtain⟨fs',f1,f2,f3⟩:=ih (m+1) fs (λi hi=>by
     have:=hat (i+1) (by simp;lia);rw[show m+(i+1)=m+1+i by lia] at this
     simpa using this) (by simp at hm;lia)
    obtain⟨a,arr,e1,⟨o,e2,e3,n,e4⟩,e5⟩:=hat 0 (by simp);have e1:v=.ref a:=by simpa using e1
    subst e1
    have hmem:ts.getD (m+0) []∈ts:=by
     have hlt:m+0<ts.length:=by simp at hm;lia
     have:=bT ([]:List Int) hlt;exact List.mem_of_getElem? this
    generalize hg:ts.getD (m+0) []=tt at e5 hmem;cases hh:arr.toList with
    |nil=>
     rw[hh] at e5;cases e5;exact absurd rfl (hne _ hmem)
    |cons f r=>
     rw[hh] at e5;cases e5 with
     |cons nn tk rest=>
      refine⟨.int nn tk::fs',.cons (kp _ _ e2) e3 e4 ?_ f1,by simp[f2],λv hv=>?_⟩
      ·rw[<-Array.getElem?_toList,hh];rfl
      ·rcases List.mem_cons.mp hv with rfl | hv
       ·exact⟨_,_,rfl⟩
       ·exact f3 v hv
  obtain⟨fs,f1,f2,f3⟩:=tu 0 its [] (λi hi=>by rw[Nat.zero_add];exact at_ i (by lia)) (by lia);refine kat_kind (T:=.type "int") f1 (by lia) (λv hv=>?_) (by rfl) hR;obtain⟨n,tk,rfl⟩:=f3 v hv;exact Looks.of_pure rfl
 ·obtain⟨a1,r1,x1,⟨o1,p1,c1,n1,d1⟩,i1⟩:=at_ i (by lia)
  obtain⟨a2,r2,x2,⟨o2,p2,c2,n2,d2⟩,i2⟩:=at_ j (by lia);rw[x1,x2];refine kat_lt (kp _ _ p1) d1 (kp _ _ p2) d2 (kF 0 i1 i2 ?_);have l1:r1.size=(ts.getD i []).length:=by rw[<-i1.length];simp
  have l2:r2.size=(ts.getD j []).length:=by rw[<-i2.length];simp
  rw[l1,l2,m8];exact hR
 ·rw[<-sz] at hp hup
  have us:=vD hp hup;obtain⟨ep,he⟩:=sortedAll_at s.heap its (List.toArray (p.toList.map λi=>its.getD i .none));have nn:H (s.heap.objs.size+1)=none:=I.hok.fresh (Nat.le_succ _);have below:∀i∈p.toList,i<ts.length:=λi hi=>List.mem_range.mp (hp.pm.mem_iff.mp hi)
  have vals:∀l:List Nat,(∀i∈l,i<ts.length)->aV (l.map λi=>vs.getD i V.non) (l.map λi=>its.getD i Value.none):=by
   intro l
   induction l with
   |nil=>exact λ_=>.nil
   |cons i r ih=>
    intro hl;have hi:=hl i (List.mem_cons_self ..);have hx:=bT V.non (l:=vs) (i:=i) (by rw[rr.length];lia);obtain⟨u,eu,ru⟩:=rr.get hx;rw[bT Value.none (by lia)] at eu;rw[<-Option.some.inj eu] at ru;exact .cons ru (ih λj hj=>hl j (List.mem_cons_of_mem _ hj))
  have dens:∀l:List Nat,(∀i∈l,i<ts.length)->DenL X.K G (l.map λi=>vs.getD i V.non) ((l.map λi=>ts.getD i []).map cw):=by
   intro l
   induction l with
   |nil=>exact λ_=>.nil
   |cons i r ih=>
    intro hl;have hi:=hl i (List.mem_cons_self ..);have hx:=bT V.non (l:=vs) (i:=i) (by rw[rr.length];lia);obtain⟨d,e1,e2⟩:=hd.getV hx;rw[List.getElem?_map,bT [] hi] at e1;cases e1;exact .cons e2 (ih λj hj=>hl j (List.mem_cons_of_mem _ hj))
  have dn:=dens p.toList below;rw[us] at dn;refine⟨.ref (s.heap.objs.size+1),upd H (s.heap.objs.size+1) (.lst (p.toList.map λi=>vs.getD i V.non)),I.laid (a:=s.heap.objs.size+1) (o:=.lst (p.toList.map λi=>vs.getD i V.non)) (t':=s.toks) (λb o e=>sortedAll_old e) (Nat.le_succ _) ⟨?_,p.toList.map λi=>its.getD i .none,ep,vals _ below,?_⟩,rfl,q _ _ nn dn⟩
  ·rw[List.length_map,Array.length_toList,hp.sz,sizeLine_eq];lia
  ·rw[he]
theorem yw{k:Nat}{p:Pos}(hr:Room k X.A)(hc:X.calm=true)(ha:DB X a fa)(hm:X.mg "sorted" = none)(hg:Gl X "sorted":=by rfl)(hst:starEach [a] X.env=(false,eval a X.env)::starEach [] X.env:=by rfl)(hpl:(backTo pos (starEach [] X.env)).any (·.1)=false:=by rfl):DF X (.Call (.Name "sorted" p) [a] [] pos) (oE fa):=by
 obtain⟨ta,a1,a2⟩:=ha;refine⟨_,gA (sZ hr hc) hg hm boot_sorted (b7 a1 da hst) (by decide) (by decide) hst hpl,λHe G H σ ε d Q gh E ef q=>?_⟩;unfold oE at ef;split at ef
 ·rename_i ds e1
  obtain⟨ts,en,ef⟩:=aq ef;split at ef
  ·rename_i hl
   cases ef;refine a2 He G H σ ε _ _ gh E e1 λv G1 H1 g1 d1=>?_;obtain⟨m1,m2⟩:=ku en;subst m1;obtain⟨l,xs,rfl,h1,h2⟩:=d1.lst g1.gh;refine⟨G1,l,xs,ts,rfl,g1.gh,h1,h2,m2,hl,λp' us hp hd=>?_⟩;exact q p' _ G1 _ (g1.trans (.lay _ g1.gh hp)) (g1.hh.free hp) (g1.gh.free hp) aN hd
  ·cases ef
 ·cases ef
end
open RW2
noncomputable def g0(h:Heap)(vs:List Value):Heap:=h.push (seqObj "list" vs.toArray 0)
noncomputable def gB(h:Heap)(vs:List Value):Heap:=(((g0 h vs).update h.objs.size (Obj.mapSeq λ_=>#[])).push (seqObj "tuple" vs.toArray 0)).push (seqObj "list" #[] 0)
theorem qQ(h:Heap)(vs:List Value):(g0 h vs).get? h.objs.size=some (seqObj "list" vs.toArray 0):=Heap.get?_push_size _ rfl
theorem zb(h:Heap)(vs:List Value):∃c,((g0 h vs).update h.objs.size (Obj.mapSeq λ_=>#[])).get? h.objs.size=some (seqObj "list" #[] c)/\(gB h vs).get? h.objs.size=some (seqObj "list" #[] c):=by
 have e:=get?_update_seq (qQ h vs) λ_=>#[];exact⟨_,e,Heap.get?_push_of_some _ (Heap.get?_push_of_some _ e)⟩
theorem zp{h:Heap}{vs:List Value}{b:Addr}{o:Obj}(e:h.get? b=some o):(gB h vs).get? b=some o:=by
 unfold gB g0;refine Heap.get?_push_of_some _ (Heap.get?_push_of_some _ ?_);rw[Heap.get?_update_ne _ _ _ _ (Nat.ne_of_lt (Heap.lt_size e))];exact Heap.get?_push_of_some _ e
theorem zy{h h1:Heap}{vs:List Value}(k:Kp h h1):Kp h (gB h1 vs):=λb o e=>zp (k b o e)
noncomputable def gZ(h:Heap)(vs:List Value)(out:Array Value):Heap:=(gB h vs).update h.objs.size (Obj.mapSeq λ_=>out)
theorem CG(h:Heap)(vs:List Value)(out:Array Value):∃c,(gZ h vs out).get? h.objs.size=some (seqObj "list" out c):=by
 obtain⟨c,_,m2⟩:=zb h vs;exact⟨_,get?_update_seq m2 λ_=>out⟩
theorem Cd{h:Heap}{vs:List Value}{out:Array Value}{b:Addr}{o:Obj}(e:h.get? b=some o):(gZ h vs out).get? b=some o:=by
 unfold gZ;rw[Heap.get?_update_ne _ _ _ _ (Nat.ne_of_lt (Heap.lt_size e))];exact zp e
section
variable{prog:Program}{w:World}{A:Around}{E:Value->Shared->Prop}{s:Shared}{κ:SortKind}
theorem vG{d:Addr}{es:Array DictEntry}{ep:Nat}{R:List Value->Shared->Prop}(nm:(d==sysModules)=false)(x:ie s.heap d es ep)(hh:A.handled=none)(hn:es.size<=sizeLine)
  (h:∀(h':Heap) (tk:Nat),Kp s.heap h'->s.heap.objs.size<h'.objs.size->R (es.toList.map (·.key)) { s with heap:=h',toks:=tk }):wpAny (model prog w) A (collect (.ref d)) R E s:=by
 have dl:=x.lt;have src:=pN (prog:=prog) (w:=w) d nm es ep;unfold collect;refine wpAny_bind (wpAny_runValue (codeAny_builtin entry_proto_collect' ?_));rw[Around.under_plainId PySem.F.plain_proto_collect _];show wpAny _ A.in1 (newList []>>=λl=>again (.builtin "list.__iadd__" ⟨[l,.ref d],[]⟩)) _ _ s;refine wpAny_bind (wpAny_newObj_type (wpAny_pure ⟨plainId_quiet PySem.F.plain_list_iadd _,codeAny_builtin entry_list_iadd' ?_⟩));rw[Around.under_plainId PySem.F.plain_list_iadd _];have at0:(s.heap.push { cls:=.type "list",data:=.seq ([]:List Value).toArray }).get? s.heap.objs.size=some { cls:=.type "list",data:=.seq #[] }:=Heap.get?_push_size _ rfl;show wpAny _ A.in1 (Builtin.List.listExtendWith (.ref s.heap.objs.size) (.ref d) (.ref s.heap.objs.size)) _ _ _
 have key:=kdl_extend (A:=A) (s:={ s with heap:=s.heap.push { cls:=.type "list",data:=.seq ([]:List Value).toArray } })
  (R:=λ(q:Result) (s':Shared)=>∃(h':Heap) (tk:Nat) (acc:Array Value) (c:Nat),q=.ok (.ret (.ref s.heap.objs.size))/\s'={ s with heap:=h',toks:=tk }/\Kp s.heap h'/\h'.get? s.heap.objs.size=some { cls:=.type "list",dict:=none,data:=.seq acc c,slots:=#[] }/\ItemsOf (λi v=>∃e,es[i]?=some e/\v=e.key) acc es.size)
  src hh (src.keep _ _ x λb _ o e=>Heap.get?_push_of_some _ e) s.heap.objs.size (Nat.ne_of_gt dl) (Nat.ne_of_gt dl) (.ref s.heap.objs.size) 0 at0
  (λh' tk acc c hk hS items=>⟨h',tk,acc,c,rfl,rfl,λb o e=>hk b o (Nat.ne_of_lt (Heap.lt_size e)) (Heap.get?_push_of_some _ e),hS,items⟩) hn
 have fin:∀(h':Heap) (tk:Nat) (acc:Array Value) (c:Nat),Kp s.heap h'->h'.get? s.heap.objs.size=some { cls:=.type "list",dict:=none,data:=.seq acc c,slots:=#[] }->ItemsOf (λi v=>∃e,es[i]?=some e/\v=e.key) acc es.size->R acc.toList { s with heap:=h',toks:=tk }:=λh' tk acc c kp hS items=>by
  have ea:acc.toList=es.toList.map (·.key):=by
   refine List.ext_getElem? λi=>?_;rw[List.getElem?_map,Array.getElem?_toList,Array.getElem?_toList]
   by_cases hi:i<es.size
   ·have hi2:i<acc.size:=by rw[items.1];exact hi
    obtain⟨e,e1,e2⟩:=items.2 i acc[i] (by simp[hi2]);rw[e1];simp[hi2,e2]
   ·rw[Array.getElem?_eq_none (by rw[items.1];exact Nat.le_of_not_lt hi),Array.getElem?_eq_none (Nat.le_of_not_lt hi)]
    rfl
  rw[ea];exact h h' tk kp (Heap.lt_size hS)
 refine wpAny_mono key (λf s' z=>?_) λe s' z=>?_
 ·cases f with
  |done f=>
   obtain⟨h',tk,acc,c,e,rfl,kp,hS,items⟩:=z;cases e;show wpAny _ A (load s.heap.objs.size>>=λ_=>_) _ _ _;exact wpAny_bind (wpAny_load hS (wpAny_pure (fin h' tk acc c kp hS items)))
  |again c₁=>
   refine⟨z.1,codeAny_mono z.2 λq s₂ y=>?_⟩;obtain⟨h',tk,acc,c,rfl,rfl,kp,hS,items⟩:=y;show wpAny _ A (load s.heap.objs.size>>=λ_=>_) _ _ _;exact wpAny_bind (wpAny_load hS (wpAny_pure (fin h' tk acc c kp hS items)))
 ·obtain⟨_,_,_,_,e',_⟩:=z
  cases e'
theorem tJ{d:Addr}{es:Array DictEntry}{ep:Nat}{vs:List Value}{Q:Value->Shared->Prop}{lt:Nat->Nat->Bool}(nm:(d==sysModules)=false)(x:ie s.heap d es ep)(hh:A.handled=none)(ev:es.toList.map (·.key)=vs)(hz:vs.length<1000000)(O:Ord vs.length lt)
  (hcon:∀i j k,i<vs.length->j<vs.length->vs.getD i .none=vs.getD j .none->lt i k=lt j k/\lt k i=lt k j)
  (hk:2<=vs.length->∀(t:Shared) (R:SortKind->Shared->Prop),Kp s.heap t.heap->R κ t->wpAny (model prog w) A.in1.in1 (keyKind' vs.toArray) R (λ_ _=>False) t)
  (hc:∀i j (t:Shared) (R:Bool->Shared->Prop),Kp s.heap t.heap->i<vs.length->j<vs.length->R (lt i j) t->wpAny (model prog w) A.in1.in1 (keyLt' κ (vs.getD i .none) (vs.getD j .none)) R (λ_ _=>False) t)
  (h:∀(p:Array Nat) (h1:Heap) (tk1:Nat),Kp s.heap h1->s.heap.objs.size<h1.objs.size->Pm vs.length p->Up lt p vs.length->Q (.ref h1.objs.size) { s with heap:=gZ h1 vs (List.toArray (p.toList.map λi=>vs.getD i .none)),toks:=tk1 }):wpAny (model prog w) A (call (.builtin "sorted") [.ref d]) Q E s:=by
 have zl:vs.length<=sizeLine:=Nat.le_of_lt (Nat.lt_trans hz (by decide));have ze:es.size<=sizeLine:=by have:=congrArg List.length ev;simp at this;lia
 refine Calls.call_function_entry (kind_sorted) (plain_sorted) (entry_sorted) (args_sorted1 _) ?_;unfold Builtin.«sorted»;refine wpAny_bind (m:=(checkCount "sorted" 1 1 _)) (wpAny_pure (wpAny_bind (vG (A:=A.in1) nm x hh ze λh1 tk1 kp1 sl1=>?_)));rw[ev];refine wpAny_bind (wpAny_newList (items:=vs) ?_ zl);obtain⟨c,m1,m2⟩:=zb h1 vs;show wpAny _ _ _ _ _ { s with heap:=g0 h1 vs,toks:=tk1 };refine wpAny_bind (wpAny_holding (wpAny_call_entry (slot_list_sort) ⟨_,qQ h1 vs,rfl⟩ (entry_list_sort) ?tree (args_list_sort _)))
 case tree=>
  rw[list_sort_plain];refine wpAny_bind (listItems_at (qQ h1 vs) rfl (wpAny_bind (listUpdate_at (qQ h1 vs) rfl (wpAny_bind (seqEpoch_at m1 rfl (wpAny_bind (wpAny_newTuple (items:=vs) (wpAny_bind (wpAny_newList (items:=[]) (wpAny_holding ?_) (Nat.zero_le _))) zl)))) (by simpa using zl) (Nat.zero_le _))));show wpAny (model prog w) A.in1.in1 _ _ _ { s with heap:=gB h1 vs,toks:=tk1 };dsimp only
  have out:∀p:Array Nat,Pm vs.length p->Up lt p vs.length->∀st:SortSt,(arrOf st).map (·.2)=List.toArray (p.toList.map λi=>vs.getD i .none)->((arrOf st).map (·.2)).size<=sizeLine+1:=λp hp _ st e=>by
   rw[e];simp only[List.size_toArray,List.length_map,Array.length_toList,hp.sz]
   lia
  by_cases two:vs.toArray.size<2
  ·rw[if_pos two,if_pos two]
   have two':vs.length<2:=by simpa using two
   refine wpAny_bind (wpAny_pure ?_);rw[StateT.run_pure]
   have e0:(arrOf (SortSt.mk' general' (vs.toArray.zip vs.toArray) #[] 7 none)).map (·.2)=List.toArray ((List.toArray (List.range vs.length)).toList.map λi=>vs.getD i .none):=by
    show(vs.toArray.zip vs.toArray).map (·.2)=_;exact qW two'
   have up0:Up lt (List.toArray (List.range vs.length)) vs.length:=λi j a b=>by
    have:i=j:=by lia
    subst this;exact O.rf _
   refine wpAny_bind (wpAny_pure ?_);dsimp only;refine wpAny_bind (seqEpoch_at m2 rfl (wpAny_bind (listUpdate_at m2 rfl ?_ (Nat.zero_le _) (out _ (.start _) up0 _ e0))));simp only[Bool.false_eq_true,bne_self_eq_false,if_false];refine wpAny_pure ⟨_,rfl,wpAny_pure ⟨_,rfl,?_⟩⟩;have:=h _ h1 tk1 kp1 sl1 (.start _) up0;rw[<-e0] at this;exact this
  ·rw[if_neg two,if_neg two]
   have two':2<=vs.length:=by simpa using two
   refine wpAny_bind (wpAny_mono (hk two' { s with heap:=gB h1 vs,toks:=tk1 } (λk t=>k=κ/\t={ s with heap:=gB h1 vs,toks:=tk1 }) (zy kp1) ⟨rfl,rfl⟩) (λk t hkt=>?_) λ_ _ x=>x.elim);obtain⟨rfl,rfl⟩:=hkt;generalize ht:({ s with heap:=gB h1 vs,toks:=tk1 }:Shared)=t0 at *;have kp0:Kp s.heap t0.heap:=by rw[<-ht];exact zy kp1
   have run:=nW (M:=model prog w) (A:=A.in1.in1) (E:=λ_ _=>False) (s:=t0) (κ:=k) (S:=sK vs) (L:=lK vs lt) (st:=SortSt.mk' k (vs.toArray.zip vs.toArray) #[] 7 none) (Q:=λ_ st=>failedOf st=none/\∃p:Array Nat,Pm vs.length p/\Up lt p vs.length/\(arrOf st).map (·.2)=List.toArray (p.toList.map λi=>vs.getD i .none))
    (vF hcon λi j R hi hj hR=>hc i j t0 R kp0 hi hj hR) (λx y e=>O.as _ _ e) (λx y z e f=>O.tr _ _ _ e f) rfl rfl rfl (y6 vs) λst' f' sp pm=>⟨f',rm O hcon sp pm⟩
   have run':wpAny (model prog w) A.in1.in1 ((sortRuns').run (SortSt.mk' k (vs.toArray.zip vs.toArray) #[] 7 none)) (λr t=>t=t0/\failedOf r.2=none/\∃p:Array Nat,Pm vs.length p/\Up lt p vs.length/\(arrOf r.2).map (·.2)=List.toArray (p.toList.map λi=>vs.getD i .none)) (λ_ _=>False) t0:=run;refine wpAny_bind (wpAny_mono run' ?_ λ_ _ x=>x.elim);rintro⟨⟨⟩,st⟩ t ⟨e1,hf,p,hp,hup,hout⟩;subst e1;dsimp only at hf hout ⊢;subst ht;refine wpAny_bind (seqEpoch_at m2 rfl (wpAny_bind (listUpdate_at m2 rfl ?_ (Nat.zero_le _) (out p hp hup st hout))));rw[hf];simp only[Bool.false_eq_true,bne_self_eq_false,if_false];refine wpAny_pure ⟨_,rfl,wpAny_pure ⟨_,rfl,?_⟩⟩;have:=h p h1 tk1 kp1 sl1 hp hup;rw[<-hout] at this;exact this
end
section
variable{X:Cx}{a:Expr}{pos:Pos}{fa:Ev->Option D}
theorem zc:∀{us:bV} {raw:List DictEntry},Paired EntOk us raw->raw.map (·.key)=us.map λu=>Value.ref u.2.1
 |_,_,.nil=>rfl
 |_,_,.cons h t=>by rw[List.map_cons,List.map_cons,zc t,h.key]
theorem lS:∀us:bV,aV (us.map λu=>V.ref u.2.1) (us.map λu=>Value.ref u.2.1)
 |[]=>.nil
 |u::us=>.cons rfl (lS us)
theorem mz{K:PySem.W.Frag}{G:Hp}:∀{us:bV} {es:List (List Int×D)},DenM K G us es->DenL K G (us.map λu=>V.ref u.2.1) ((es.map (·.1)).map cw)
 |_,_,.nil=>.nil
 |_,_,.cons hk hv hs=>.cons (.tup hk (j9 _)) (mz hs)
theorem sH{k:Nat}(hr:Room k X.A)(hc:X.calm=true):dW X (.builtin "sorted") (λxs H Q=>∃G d es0 ep es,xs=[.ref d]/\aR G H/\H d=some (.ext (DAt d es0 ep))/\DenM X.K G es0 es/\(∀t∈es.map (·.1),t≠[])/\es.length<1000000/\
  ∀p us,H p=none->DenL X.K G us ((ji (es.map (·.1))).map cw)->Q (.ref p) (upd H p (.lst us))):=by
 intro pins s σ H xs us Q I rv h;obtain⟨G,d,es0,ep0,es,rfl,gh,hD,hm,hne,hn,q⟩:=h;obtain⟨u,rfl,ru⟩:=rv.one;cases ru;obtain⟨nm,_,o,raw,g1,g2,g3,pr⟩:=(show bG X.prog X.w H s.heap d (.ext (DAt d es0 ep0)) from I.hok d _ hD).1;have hn:(es.map (·.1)).length<1000000:=by rw[List.length_map];exact hn
 have hd:=mz hm;have rr:=lS es0;have ev:=zc pr;generalize hts:es.map (·.1)=ts at hne hn hd q;generalize hvs:(es0.map λu=>V.ref u.2.1)=vs at hd rr;generalize hits:(es0.map λu=>Value.ref u.2.1)=its at rr ev;have nl:its.length=ts.length:=by rw[<-rr.length,hd.length,List.length_map]
 have at_:∀i,i<ts.length->∃(a:Addr) (arr:Array Value),its.getD i .none=.ref a/\IsTup s.heap a arr/\IntsAre arr.toList (ts.getD i []):=λi hi=>by
  have hi1:i<its.length:=by lia
  have hi2:i<vs.length:=by rw[rr.length];exact hi1
  have hx:=bT V.non hi2;obtain⟨d,e1,e2⟩:=hd.getV hx;rw[List.getElem?_map,bT [] hi] at e1;cases e1;obtain⟨a,ys,ea,w1,w2⟩:=e2.tupV;obtain⟨u,eu,ru⟩:=rr.get hx;rw[bT Value.none hi1] at eu;have eu:=Option.some.inj eu;rw[ea] at ru;obtain⟨arr,r2,p2,_⟩:=I.tuple (aK gh w1);refine⟨a,arr.toArray,eu.trans (show u=Value.ref a from ru),p2,?_⟩;have:=cE w2 (fq _);rw[this] at r2;simpa using dY r2
 have sz:ts.length=its.length:=nl.symm;refine tJ (κ:=tuples' (Value.type "int" != Value.type "tuple")) (lt:=λi j=>lxL (ts.getD i []) (ts.getD j [])) nm (show ie s.heap d raw ep0 from⟨o,g1,g2,g3⟩) (I.ok.hd hc) ev (by lia) ⟨λx y e=>pJ _ _ e,λx y z e f=>se _ _ _ e f⟩ (λi j k hi hj e=>?_) (λh2 t R kp hR=>?_) (λi j t R kp hi hj hR=>?_) λp h1 tk1 kp1 sl1 hp hup=>?_
 ·obtain⟨a1,r1,x1,⟨o1,p1,c1,n1,d1⟩,i1⟩:=at_ i (by lia)
  obtain⟨a2,r2,x2,⟨o2,p2,c2,n2,d2⟩,i2⟩:=at_ j (by lia);have ea:a1=a2:=by rw[x1,x2] at e;injection e
  subst ea;rw[p1] at p2;cases p2;rw[d1] at d2;cases d2;have:ts.getD i []=ts.getD j []:=iD i1 i2;rw[this];exact⟨rfl,rfl⟩
 ·-- of which kind the keys are
  have tu:∀(m:Nat) (vs':List Value) (fs:List Int),(∀i,i<vs'.length->∃(a:Addr) (arr:Array Value),vs'.getD i .none=.ref a/\IsTup s.heap a arr/\IntsAre arr.toList (ts.getD (m+i) []))->m+vs'.length<=ts.length->
    ∃fs:List Value,KatTups t.heap vs' fs/\fs.length=vs'.length/\∀v∈fs,∃n tk,v=.int n tk:=by
   intro m vs'
   induction vs' generalizing m with
   |nil=>exact λ_ _ _=>⟨[],.nil,rfl,λv hv=>by cases hv⟩
   |cons v vs' ih=>
    intro fs hat hm
    obtain⟨fs',f1,f2,f3⟩:=ih (m+1) fs (λi hi=>by
     have:=hat (i+1) (by simp;lia);rw[show m+(i+1)=m+1+i by lia] at this
     simpa using this) (by simp at hm;lia)
    obtain⟨a,arr,e1,⟨o,e2,e3,n,e4⟩,e5⟩:=hat 0 (by simp);have e1:v=.ref a:=by simpa using e1
    subst e1
    have hmem:ts.getD (m+0) []∈ts:=by
     have hlt:m+0<ts.length:=by simp at hm;lia
     have:=bT ([]:List Int) hlt;exact List.mem_of_getElem? this
    generalize hg:ts.getD (m+0) []=tt at e5 hmem;cases hh:arr.toList with
    |nil=>
     rw[hh] at e5;cases e5;exact absurd rfl (hne _ hmem)
    |cons f r=>
     rw[hh] at e5;cases e5 with
     |cons nn tk rest=>
      refine⟨.int nn tk::fs',.cons (kp _ _ e2) e3 e4 ?_ f1,by simp[f2],λv hv=>?_⟩
      ·rw[<-Array.getElem?_toList,hh];rfl
      ·rcases List.mem_cons.mp hv with rfl | hv
       ·exact⟨_,_,rfl⟩
       ·exact f3 v hv
  obtain⟨fs,f1,f2,f3⟩:=tu 0 its [] (λi hi=>by rw[Nat.zero_add];exact at_ i (by lia)) (by lia);refine kat_kind (T:=.type "int") f1 (by lia) (λv hv=>?_) (by rfl) hR;obtain⟨n,tk,rfl⟩:=f3 v hv;exact Looks.of_pure rfl
 ·obtain⟨a1,r1,x1,⟨o1,p1,c1,n1,d1⟩,i1⟩:=at_ i (by lia)
  obtain⟨a2,r2,x2,⟨o2,p2,c2,n2,d2⟩,i2⟩:=at_ j (by lia);rw[x1,x2];refine kat_lt (kp _ _ p1) d1 (kp _ _ p2) d2 (kF 0 i1 i2 ?_);have l1:r1.size=(ts.getD i []).length:=by rw[<-i1.length];simp
  have l2:r2.size=(ts.getD j []).length:=by rw[<-i2.length];simp
  rw[l1,l2,m8];exact hR
 ·rw[<-sz] at hp hup
  have us:=vD hp hup;obtain⟨ep,he⟩:=CG h1 its (List.toArray (p.toList.map λi=>its.getD i .none));have le1:s.heap.objs.size<=h1.objs.size:=Nat.le_of_lt sl1;have nn:H h1.objs.size=none:=I.hok.fresh le1;have below:∀i∈p.toList,i<ts.length:=λi hi=>List.mem_range.mp (hp.pm.mem_iff.mp hi)
  have vals:∀l:List Nat,(∀i∈l,i<ts.length)->aV (l.map λi=>vs.getD i V.non) (l.map λi=>its.getD i Value.none):=by
   intro l
   induction l with
   |nil=>exact λ_=>.nil
   |cons i r ih=>
    intro hl;have hi:=hl i (List.mem_cons_self ..);have hx:=bT V.non (l:=vs) (i:=i) (by rw[rr.length];lia);obtain⟨u,eu,ru⟩:=rr.get hx;rw[bT Value.none (by lia)] at eu;rw[<-Option.some.inj eu] at ru;exact .cons ru (ih λj hj=>hl j (List.mem_cons_of_mem _ hj))
  have dens:∀l:List Nat,(∀i∈l,i<ts.length)->DenL X.K G (l.map λi=>vs.getD i V.non) ((l.map λi=>ts.getD i []).map cw):=by
   intro l
   induction l with
   |nil=>exact λ_=>.nil
   |cons i r ih=>
    intro hl;have hi:=hl i (List.mem_cons_self ..);have hx:=bT V.non (l:=vs) (i:=i) (by rw[rr.length];lia);obtain⟨d,e1,e2⟩:=hd.getV hx;rw[List.getElem?_map,bT [] hi] at e1;cases e1;exact .cons e2 (ih λj hj=>hl j (List.mem_cons_of_mem _ hj))
  have dn:=dens p.toList below;rw[us] at dn;refine⟨.ref h1.objs.size,upd H h1.objs.size (.lst (p.toList.map λi=>vs.getD i V.non)),I.laid (a:=h1.objs.size) (o:=.lst (p.toList.map λi=>vs.getD i V.non)) (t':=tk1) (λb o e=>Cd (kp1 b o e)) le1 ⟨?_,p.toList.map λi=>its.getD i .none,ep,vals _ below,?_⟩,rfl,q _ _ nn dn⟩
  ·rw[List.length_map,Array.length_toList,hp.sz,sizeLine_eq];lia
  ·rw[he]
noncomputable def oY(fa:Ev->Option D):Ev->Option (List D):=λε=>match fa ε with
 |some (.dic es)=>if(es.all λe=>!e.1.isEmpty)=true/\es.length<1000000 then some ((ji (es.map (·.1))).map cw) else none
 |_=>none
theorem ym{k:Nat}{p:Pos}(hr:Room k X.A)(hc:X.calm=true)(ha:DE X a fa)(hm:X.mg "sorted" = none)(hg:Gl X "sorted":=by rfl)(hst:starEach [a] X.env=(false,eval a X.env)::starEach [] X.env:=by rfl)(hpl:(backTo pos (starEach [] X.env)).any (·.1)=false:=by rfl):DF X (.Call (.Name "sorted" p) [a] [] pos) (oY fa):=by
 obtain⟨ta,a1,a2⟩:=ha;refine⟨_,gA (sH hr hc) hg hm boot_sorted (b7 a1 da hst) (by decide) (by decide) hst hpl,λHe G H σ ε d Q gh E ef q=>?_⟩;unfold oY at ef;split at ef
 ·rename_i es e1
  split at ef
  ·rename_i cnd
   cases ef;refine a2 He G H σ ε _ _ gh E e1 λv G1 H1 g1 d1=>?_;cases d1 with
   |@dic dd us ep _ hG nd m=>
    refine⟨G1,dd,us,ep,es,rfl,g1.gh,g1.gh _ _ hG,m,λt ht=>?_,cnd.2,λp us' hp hd=>q p us' G1 _ (g1.trans (.lay _ g1.gh hp)) (g1.hh.free hp) (g1.gh.free hp) aN hd⟩;obtain⟨e,he,rfl⟩:=List.mem_map.mp ht;have:=List.all_eq_true.mp cnd.1 e he;intro z;rw[z] at this;cases this
  ·cases ef
 ·cases ef
end
end Dn
namespace Lw
open PySem PySem.Spec PyProof.Rows L2 Dn
open Fl
noncomputable def top(i:Nat):Stmt:=PySem.Challenge.pw_ballastbook_k16_all_states_reached.main.body.getD i (.Pass ⟨0,0,0,0⟩)
noncomputable abbrev kz:List Str:=["_law_script","_law_many","_law_row","_law_seed","_law_cell","_law_rest","_law_k"]
noncomputable abbrev cX:List Str:=["_law_script","_law_many"]
noncomputable def iT:Ev->Option Fl:=(sIf (ay gtI (af 5) (eC (.int 0))) (aC (dM 2 (e2 aF (af 5) (eC (.int 1000)))) (aU 5 (e2 cv (af 5) (eC (.int 1000))))) bj)
noncomputable def iU:Ev->Option Fl:=(aC (aU 3 (e2 aF (e2 aM (e2 aM (e2 bF (af 3) (eC (.int 69621))) (e2 aF (af 4) (eC (.int 999983)))) (eC (.int 7))) (eC (.int 2147483629)))) (aC (aU 5 (e2 bA (af 4) (e2 oS (eC (.int 10)) (eC (.int 18))))) (aC (sIf (ay ltI (af 5) (eC (.int 0))) (dM 2 (e2 aF (af 4) (eC (.int 1000)))) bj) (cL (c_ (eC (.int 60))) (ak 6) (iT)))))
noncomputable def iB:Ev->Option Fl:=(sIf (ay ltI (fA eX (af 2)) (af 1)) (aC (aU 3 (e2 aF (e2 aM (e2 aM (e2 aM (e2 oS (af 3) (eC (.int 3))) (e2 bF (eC (.int 40692)) (af 3))) (e2 bF (eC (.int 7)) (af 6))) (eC (.int 5))) (eC (.int 2147483629)))) (dM 2 (e2 aF (e2 cv (af 3) (eC (.int 1009))) (eC (.int 1000))))) bj)
noncomputable def f_:Ev->Option Fl:=(aC (eY 2 (cI aD)) (aC (aU 3 (eC (.int 29))) (aC (cL (ec (eF (eSl (af 0) cR (bx (eC (.int 63)))))) (ak 4) (iU)) (aC (cL (c_ (av 1)) (ak 6) (iB)) (a8 (eF (eSl (af 2) cR (bx (af 1)))))))))
noncomputable def d6:List D->Option D:=fnD kz cX f_
noncomputable abbrev gm(Z:Wq):Prop:=OkD Z "_law_numbers" (top 20) cX 1 d6
noncomputable abbrev nY:List Str:=["_law_d"]
noncomputable abbrev eA:List Str:=["_law_d"]
noncomputable def oy:Ev->Option Fl:=(aC (sIf (ay aZ (e2 aF (e2 ixD (af 0) (eC (.int 0))) (eC (.int 5))) (eC (.int 1))) (a8 (bh (ae (e2 bA (e2 ixD (af 0) (eC (.int 1))) (eC (.int 500))) (ae (e2 bA (e2 ixD (af 0) (eC (.int 2))) (eC (.int 500))) aD)))) bj) (aC (sIf (ay aZ (e2 aF (e2 ixD (af 0) (eC (.int 0))) (eC (.int 5))) (eC (.int 2))) (a8 (bh (ae (e2 bF (e2 bA (e2 aF (e2 ixD (af 0) (eC (.int 1))) (eC (.int 3))) (eC (.int 1))) (eC (.int 985))) (ae (e2 bF (e2 bA (e2 aF (e2 ixD (af 0) (eC (.int 2))) (eC (.int 3))) (eC (.int 1))) (eC (.int 985))) aD)))) bj) (a8 (bh (ae (eC (.int 0)) (ae (eC (.int 0)) aD))))))
noncomputable def gu:List D->Option D:=fnD nY eA oy
noncomputable abbrev jQ(Z:Wq):Prop:=OkD Z "_law_base" (top 22) eA 1 gu
noncomputable abbrev qy:List Str:=["_law_d","_law_base_here","_law_x","_law_y","_law_low"]
noncomputable abbrev fT:List Str:=["_law_d","_law_base_here"]
noncomputable def qA:Ev->Option Fl:=(aC (aU 2 (e2 bA (e2 aM (e2 ixD (af 1) (eC (.int 0))) (e2 aF (e2 ixD (af 0) (eC (.int 0))) (eC (.int 9)))) (eC (.int 4)))) (aC (aU 3 (e2 bA (e2 aM (e2 ixD (af 1) (eC (.int 1))) (e2 aF (e2 ixD (af 0) (eC (.int 1))) (eC (.int 9)))) (eC (.int 4)))) (aC (aU 4 (e2 aF (e2 ixD (af 0) (eC (.int 4))) (eC (.int 6)))) (a8 (bh (ae (av 2) (ae (av 3) (ae (e2 aM (af 2) (e2 aF (e2 ixD (af 0) (eC (.int 2))) (eC (.int 4)))) (ae (e2 aM (af 3) (e2 aF (e2 ixD (af 0) (eC (.int 3))) (eC (.int 4)))) (ae (av 4) (ae (e2 aM (af 4) (e2 aF (e2 ixD (af 0) (eC (.int 5))) (e2 bA (eC (.int 6)) (af 4)))) aD)))))))))))
noncomputable def iu:List D->Option D:=fnD qy fT qA
noncomputable abbrev kg(Z:Wq):Prop:=OkD Z "_law_box" (top 23) fT 1 iu
noncomputable abbrev pS:List Str:=["_law_d","_law_base_here","_law_hour","_law_hills","_law_j","_law_cool","_law_one","_law_winds","_law_w","_law_first","_law_shuts","_law_s"]
noncomputable abbrev fI:List Str:=["_law_d","_law_base_here","_law_hour"]
noncomputable def lB:Ev->Option Fl:=(dM 3 (bh (ae (e2 bA (e2 aM (e2 ixD (af 1) (eC (.int 0))) (e2 aF (e2 ixD (af 0) (e2 aM (e2 bF (eC (.int 3)) (af 4)) (eC (.int 1)))) (eC (.int 9)))) (eC (.int 4))) (ae (e2 bA (e2 aM (e2 ixD (af 1) (eC (.int 1))) (e2 aF (e2 ixD (af 0) (e2 aM (e2 bF (eC (.int 3)) (af 4)) (eC (.int 2)))) (eC (.int 9)))) (eC (.int 4))) (ae (e2 aM (eC (.int 1)) (e2 aF (e2 ixD (af 0) (e2 aM (e2 bF (eC (.int 3)) (af 4)) (eC (.int 3)))) (eC (.int 5)))) aD)))))
noncomputable def lH:Ev->Option Fl:=(aC (aU 6 (e2 ixD (eF (cI (ae (e2 aF (e2 ixD (af 0) (e2 aM (eC (.int 16)) (af 4))) (eC (.int 24))) (ae (e2 aF (e2 aM (af 2) (e2 aF (e2 ixD (af 0) (e2 aM (eC (.int 16)) (af 4))) (eC (.int 4)))) (eC (.int 24))) aD)))) (e2 aF (e2 cv (e2 ixD (af 0) (eC (.int 0))) (eC (.int 30))) (eC (.int 2))))) (sIf (ay (inD true) (af 6) (af 5)) (dM 5 (av 6)) bj))
noncomputable def lM:Ev->Option Fl:=(aC (aU 8 (eF (eSl (af 0) (bx (e2 aM (eC (.int 22)) (e2 bF (eC (.int 4)) (af 4)))) (bx (e2 aM (eC (.int 26)) (e2 bF (eC (.int 4)) (af 4))))))) (aC (aU 9 (e2 ixD (eF (cI (ae (e2 aF (e2 ixD (af 8) (eC (.int 0))) (eC (.int 24))) (ae (e2 aF (e2 aM (af 2) (e2 aF (e2 cv (e2 ixD (af 8) (eC (.int 0))) (eC (.int 7))) (eC (.int 6)))) (eC (.int 24))) aD)))) (e2 aF (e2 cv (e2 ixD (af 8) (eC (.int 1))) (eC (.int 6))) (eC (.int 2))))) (dM 7 (bh (ae (av 9) (ae (e2 aF (e2 ixD (af 8) (eC (.int 1))) (eC (.int 6))) (ae (e2 bA (e2 aF (e2 ixD (af 8) (eC (.int 2))) (eC (.int 5))) (eC (.int 2))) (ae (e2 bA (e2 aF (e2 ixD (af 8) (eC (.int 3))) (eC (.int 5))) (eC (.int 2))) aD))))))))
noncomputable def lA:Ev->Option Fl:=(aC (aU 11 (eF (eSl (af 0) (bx (e2 aM (eC (.int 91)) (e2 bF (eC (.int 8)) (af 4)))) (bx (e2 aM (eC (.int 99)) (e2 bF (eC (.int 8)) (af 4))))))) (aC (aU 9 (e2 ixD (eF (cI (ae (e2 aF (e2 ixD (af 11) (eC (.int 6))) (eC (.int 25))) (ae (av 2) aD)))) (e2 aF (e2 ixD (af 11) (eC (.int 7))) (eC (.int 2))))) (dM 10 (e2 CatI.qH (aI iu (ae (av 11) (ae (av 1) aD))) (bh (ae (av 9) (ae (e2 aM (af 9) (e2 aF (e2 cv (e2 ixD (af 11) (eC (.int 7))) (eC (.int 2))) (e2 bA (eC (.int 25)) (af 9)))) aD)))))))
noncomputable def qD:Ev->Option Fl:=(aC (eY 3 (cI aD)) (aC (cL (c_ (e2 aF (e2 ixD (af 0) (eC (.int 0))) (eC (.int 6)))) (ak 4) (lB)) (aC (eY 5 (cI aD)) (aC (cL (c_ (e2 aF (e2 cv (e2 ixD (af 0) (eC (.int 0))) (eC (.int 6))) (eC (.int 5)))) (ak 4) (lH)) (aC (eY 7 (cI aD)) (aC (sIf (ay gtI (e2 aF (e2 ixD (af 0) (eC (.int 21))) (eC (.int 4))) (eC (.int 0))) (eY 7 (eLC (c_ (eC (.int 6))) 1 [0] (ak 0) i9 (bh (ae (eC (.int 0)) (ae (av 0) (ae (e2 bA (e2 aF (e2 ixD (af 1) (e2 aM (eC (.int 78)) (e2 bF (eC (.int 2)) (af 0)))) (eC (.int 5))) (eC (.int 2))) (ae (e2 bA (e2 aF (e2 ixD (af 1) (e2 aM (eC (.int 79)) (e2 bF (eC (.int 2)) (af 0)))) (eC (.int 5))) (eC (.int 2))) aD))))))) bj) (aC (cL (c_ (e2 aF (e2 cv (e2 ixD (af 0) (eC (.int 21))) (eC (.int 4))) (eC (.int 14)))) (ak 4) (lM)) (aC (eY 10 (cI aD)) (aC (cL (c_ (e2 aF (e2 ixD (af 0) (eC (.int 90))) (eC (.int 4)))) (ak 4) (lA)) (sFz 10 (sFz 7 (sFz 5 (sFz 3 (a8 (bh (ae (av 3) (ae (av 5) (ae (av 7) (ae (av 10) aD)))))))))))))))))))
noncomputable def h8:List D->Option D:=fnD pS fI qD
noncomputable abbrev kI(Z:Wq):Prop:=OkD Z "_law_sky" (top 24) fI 2 h8
noncomputable abbrev mJ:List Str:=["_law_d","_law_base_here","_law_most","_law_x","_law_y"]
noncomputable abbrev dF:List Str:=["_law_d","_law_base_here","_law_most"]
noncomputable def nH:Ev->Option Fl:=(aC (aU 3 (e2 bA (e2 aM (e2 ixD (af 1) (eC (.int 0))) (e2 aF (e2 ixD (af 0) (eC (.int 0))) (eC (.int 7)))) (eC (.int 3)))) (aC (aU 4 (e2 bA (e2 aM (e2 ixD (af 1) (eC (.int 1))) (e2 aF (e2 ixD (af 0) (eC (.int 1))) (eC (.int 7)))) (eC (.int 3)))) (a8 (bh (ae (av 3) (ae (av 4) (ae (e2 aF (e2 ixD (af 0) (eC (.int 2))) (eC (.int 6))) (ae (e2 aF (e2 ixD (af 0) (eC (.int 3))) (e2 aM (af 2) (eC (.int 1)))) (ae (e2 aF (e2 ixD (af 0) (eC (.int 4))) (e2 aM (af 2) (eC (.int 1)))) aD)))))))))
noncomputable def fW:List D->Option D:=fnD mJ dF nH
noncomputable abbrev iE(Z:Wq):Prop:=OkD Z "_law_state" (top 25) dF 1 fW
noncomputable abbrev ow:List Str:=["_law_numbers_here","_law_base_here","_law_many","_law_left","_law_hour","_law_sky_here","_law_state_here"]
noncomputable abbrev eB:List Str:=["_law_numbers_here"]
noncomputable def oX:Ev->Option Fl:=(aC (aU 1 (aI gu (ae (eF (eSl (af 0) cR (bx (eC (.int 3))))) aD))) (aC (aU 2 (e2 aF (e2 ixD (af 0) (eC (.int 3))) (eC (.int 5)))) (aC (aU 3 (bh (ae (eC (.int 6)) (ae (eC (.int 6)) aD)))) (aC (sIf (ay aZ (e2 aF (e2 ixD (af 0) (eC (.int 4))) (eC (.int 6))) (eC (.int 1))) (aU 2 (eC (.int 5))) bj) (aC (sIf (ay aZ (e2 aF (e2 ixD (af 0) (eC (.int 4))) (eC (.int 6))) (eC (.int 2))) (aC (aU 2 (e2 bA (eC (.int 8)) (e2 aF (e2 ixD (af 0) (eC (.int 5))) (eC (.int 3))))) (aU 3 (e2 ixD (eF (cI (ae (bh (ae (eC (.int 1)) (ae (eC (.int 1)) aD))) (ae (bh (ae (eC (.int 3)) (ae (eC (.int 0)) aD))) (ae (bh (ae (eC (.int 0)) (ae (eC (.int 3)) aD))) (ae (bh (ae (eC (.int 2)) (ae (eC (.int 0)) aD))) aD)))))) (e2 aF (e2 ixD (af 0) (eC (.int 9))) (eC (.int 4)))))) bj) (aC (aU 4 (e2 aF (e2 ixD (af 0) (eC (.int 6))) (e2 bA (eC (.int 25)) (af 2)))) (aC (sIf (ay aZ (e2 aF (e2 ixD (af 0) (eC (.int 7))) (eC (.int 5))) (eC (.int 1))) (aU 4 (e2 bA (eC (.int 24)) (af 2))) bj) (aC (aU 5 (aI h8 (ae (eF (eSl (af 0) (bx (eC (.int 10))) (bx (eC (.int 130))))) (ae (av 1) (ae (av 4) aD))))) (aC (aU 6 (aI fW (ae (eF (eSl (af 0) (bx (eC (.int 130))) (bx (eC (.int 136))))) (ae (av 1) (ae (eC (.int 6)) aD))))) (aC (aU 6 (e2 CatI.qH (ko (af 6) cR (bx (eC (.int 3)))) (bh (ae (e2 aF (e2 ixD (af 0) (eC (.int 133))) (e2 aM (e2 ixD (af 3) (eC (.int 0))) (eC (.int 1)))) (ae (e2 aF (e2 ixD (af 0) (eC (.int 134))) (e2 aM (e2 ixD (af 3) (eC (.int 1))) (eC (.int 1)))) aD))))) (a8 (bh (ae (av 1) (ae (av 4) (ae (av 2) (ae (av 5) (ae (av 6) aD)))))))))))))))))
noncomputable def eK:List D->Option D:=fnD ow eB oX
noncomputable abbrev jE(Z:Wq):Prop:=OkD Z "_law_case" (top 35) eB 3 eK
noncomputable abbrev jL(Z:Wq):Prop:=OkD Z "_law_copy" (top 34) eG 1 dA
noncomputable abbrev jx(Z:Wq):Prop:=OkD Z "_law_wind" (top 26) eI 1 eR
noncomputable abbrev ip(Z:Wq):Prop:=OkD Z "_law_led" (top 31) fK 2 dX
noncomputable abbrev hZ(Z:Wq):Prop:=OkD Z "_law_ground" (top 27) dq 1 dm
noncomputable abbrev mI(Z:Wq):Prop:=OkD Z "_law_in" (top 28) gT 1 gS
noncomputable abbrev jN(Z:Wq):Prop:=OkD Z "_law_shut" (top 29) eM 2 eo
noncomputable abbrev iX(Z:Wq):Prop:=OkD Z "_law_stand" (top 30) dE 3 fU
noncomputable abbrev kr(Z:Wq):Prop:=OkD Z "_law_why" (top 32) fR 4 fS
noncomputable abbrev gj(Z:Wq):Prop:=OkD Z "_law_flights" (top 33) cT 5 bW
noncomputable abbrev mD(Z:Wq):Prop:=OkD Z "wind_at" (top 9) gR 1 fw
noncomputable abbrev pG(Z:Wq):Prop:=OkD Z "led_to" (top 13) iW 2 kR
noncomputable abbrev eP(Z:Wq):Prop:=OkD Z "why_not_ordered" (top 12) b9 1 cQ
noncomputable abbrev jG(Z:Wq):Prop:=OkD Z "ground_at" (top 4) eQ 1 eN
noncomputable abbrev o_(Z:Wq):Prop:=OkD Z "inside" (top 2) iF 1 iO
noncomputable abbrev me(Z:Wq):Prop:=OkD Z "shut_at" (top 6) gM 2 gW
noncomputable abbrev fX(Z:Wq):Prop:=OkD Z "why_not_stand" (top 7) cA 3 dD
noncomputable abbrev rF(Z:Wq):Prop:=OkD Z "tried" (top 14) j7 4 iH
noncomputable abbrev rY(Z:Wq):Prop:=OkD Z "moves" (top 15) jZ 5 gK
noncomputable abbrev s_:List Str:=["sky","hour","state","many","counts","at","further","before","count","order","after"]
noncomputable abbrev gU:List Str:=["sky","hour","state","many"]
noncomputable def fH:Ev->Option Fl:=(zx 6 (av 10) (e2 aM (rP 6 (av 10) (eC (.int 0))) (af 8)))
noncomputable def cq:Ev->Option Fl:=(cL (ec (aI gK (ae (av 0) (ae (e2 aM (af 1) (af 5)) (ae (av 7) aD))))) (cU 2 (aw (ak 9) (aw (ak 10) bf))) (fH))
noncomputable def dH:Ev->Option Fl:=(aC (AY 6 fD0) (aC (sFz 4 (cL (kU (av 4)) (cU 2 (aw (ak 7) (aw (ak 8) bf))) (cq))) (sFz 6 (aU 4 (av 6)))))
noncomputable def l5:Ev->Option Fl:=(aC (AY 4 (fD1 (av 2) (eC (.int 1)))) (aC (cL (c_ (av 3)) (ak 5) (dH)) (sFz 4 (a8 (av 4)))))
noncomputable def gQ:List D->Option D:=fnD s_ gU l5
noncomputable abbrev ml(Z:Wq):Prop:=OkD Z "counted" (top 17) gU 6 gQ
noncomputable abbrev pO:List Str:=["sky","hour","state","many"]
noncomputable abbrev gv:List Str:=["sky","hour","state","many"]
noncomputable def iQ:Ev->Option Fl:=(rN (oY (aI gQ (ae (av 0) (ae (av 1) (ae (av 2) (ae (av 3) aD)))))))
noncomputable def k_:List D->Option D:=fnD pO gv iQ
noncomputable def jr:List D->Option (List D):=fnO pO gv iQ
noncomputable abbrev o9(Z:Wq):Prop:=OkB Z "states" (top 18) gv 7 k_ jr
noncomputable abbrev jB:List Str:=["_law_found","_law_due"]
noncomputable abbrev ck:List Str:=["_law_found","_law_due"]
noncomputable def jD(rec:List D->Option D):Ev->Option Fl:=(aC (sIf (f9 (g8 (ee (d_ "list") (af 1))) (g8 (ee (d_ "tuple") (af 1)))) (aC (sIf (f9 (ay iw (ee (d_ "list") (af 0)) (ee (d_ "list") (af 1))) (ay iw (ee (d_ "tuple") (af 0)) (ee (d_ "tuple") (af 1)))) (a8 (eC (.bl false))) bj) (a8 (iP (e2 aZ (fA eX (af 0)) (fA eX (af 1))) (aI o6 (ae (eF (eLC (wO (ae (av 0) (ae (av 1) aD))) 2 [] (cU 2 (aw (ak 0) (aw (ak 1) bf))) i9 (aI rec (ae (av 0) (ae (av 1) aD))))) aD))))) bj) (aC (sIf (f9 (ay (isD false) (af 0) (eC .non)) (ay (isD false) (af 1) (eC .non))) (a8 (iP (e2 (isD false) (af 0) (eC .non)) (e2 (isD false) (af 1) (eC .non)))) bj) (aC (sIf (f9 (ay iw (ee (d_ "bool") (af 0)) (ee (d_ "bool") (af 1))) (ay iw (ee (d_ "int") (af 0)) (ee (d_ "int") (af 1)))) (a8 (eC (.bl false))) bj) (a8 (e2 aZ (af 0) (af 1))))))
noncomputable def cW:Nat->List D->Option D
 |0=>λ_=>none
 |n+1=>fnD jB ck (jD (cW n))
noncomputable def cH:List D->Option D:=cW 4
noncomputable abbrev jv(Z:Wq):Prop:=OkD Z "_law_same" (top 21) ck 4 cH
noncomputable abbrev CF:List Str:=["_law_script","_law_base_here","_law_hour","_law_many","_law_sky_here","_law_state_here","_law_handed","_law_due","_law_found"]
noncomputable abbrev rQ:List Str:=["_law_script"]
noncomputable def za:Ev->Option Fl:=(aC (iZ (aI eK (ae (aI d6 (ae (av 0) (ae (eC (.int 140)) aD))) aD)) (cZ 5 (aw (ak 1) (aw (ak 2) (aw (ak 3) (aw (ak 4) (aw (ak 5) bf))))))) (aC (aU 6 (aI dA (ae (av 4) aD))) (aC (aU 7 (eF (oE (eF (lr (eF (eLC (ec (aI bW (ae (av 4) (ae (av 2) (ae (av 5) (ae (av 3) aD)))))) 2 [] (cU 2 (aw (ak 0) (aw (ak 1) bf))) i9 (bh (ae (av 1) (ae (eC (.bl true)) aD)))))))))) (aC (eY 8 (jo jr (ae (av 6) (ae (av 2) (ae (av 5) (ae (av 3) aD)))))) (aC (sIf (f9 (oe (g8 (kX cH (ae (af 8) (ae (af 7) aD))))) (ay iw (af 6) (af 4))) (a8 (eC (.bl false))) bj) (aC (dM 8 (av 5)) (a8 (aI cH (ae (aI k_ (ae (av 6) (ae (av 2) (ae (av 5) (ae (av 3) aD))))) (ae (av 7) aD))))))))))
noncomputable def rn:List D->Option D:=fnD CF rQ za
noncomputable abbrev uT(Z:Wq):Prop:=OkD Z "law" (top 36) rQ 8 rn
structure Md(Z:Wq):Prop where
 u_ORDERS:∃a,Z.mg "ORDERS" = some (.ref a)/\AU Z.K a [.str "up",.str "level",.str "down"]
 b_all:Z.mg "all" = none
 b_bool:Z.mg "bool" = none
 b_dict:Z.mg "dict" = none
 b_int:Z.mg "int" = none
 b_isinstance:Z.mg "isinstance" = none
 b_len:Z.mg "len" = none
 b_list:Z.mg "list" = none
 b_max:Z.mg "max" = none
 b_range:Z.mg "range" = none
 b_sorted:Z.mg "sorted" = none
 b_tuple:Z.mg "tuple" = none
 b_zip:Z.mg "zip" = none
 g_TOP_HEIGHT:∃t,Z.mg "TOP_HEIGHT" = some (.int 5 t)
theorem k9{Z:Wq}(R:FX Z "_law_numbers" (top 20) cX)(M:Md Z):gm Z:=bdF R λd _ _ _ _ _ _ _ _ hr=>(ao (gi 2 d (dg aB)) (ao (aW 3 d ag) (ao (cx PassesOwn.never rfl (dJ (DF.de (lq (ai 0) fL (bZ (DE.db ag))))) (az 4 d) (ao (aW 3 d (aj aL (DE.db (aj aS (DE.db (aj aS (DE.db (aj cM (ai 3) (DE.db ag))) (DE.db (aj aL (ai 4) (DE.db ag))))) (DE.db ag))) (DE.db ag))) (ao (aW 5 d (aj bB (ai 4) (DE.db (aj u9 (DE.db ag) (DE.db ag))))) (ao (bz (aJ lP (ai 5) (DE.db ag) (aG _)) (ax (eZ 2 (aj aL (ai 4) (DE.db ag)))) aP) (ax (cx PassesOwn.never rfl (cy ag M.b_range) (az 6 d) (ax (bz (aJ rX (ai 5) (DE.db ag) (aG _)) (ao (eZ 2 (aj aL (ai 5) (DE.db ag))) (ax (aW 5 d (aj eL (ai 5) (DE.db ag))))) aP)))))))) (ao (cx PassesOwn.never rfl (cy (ar 1) M.b_range) (az 6 d) (ax (bz (aJ lP (DE.db (k8 (ai 2) M.b_len)) (ai 1) (aG _)) (ao (aW 3 d (aj aL (DE.db (aj aS (DE.db (aj aS (DE.db (aj aS (DE.db (aj u9 (ai 3) (DE.db ag))) (DE.db (aj cM (DE.db ag) (ai 3))))) (DE.db (aj cM (DE.db ag) (ai 6))))) (DE.db ag))) (DE.db ag))) (ax (eZ 2 (aj aL (DE.db (aj eL (ai 3) (DE.db ag))) (DE.db ag))))) aP))) (ax (aO (DF.de (lq (ai 2) fL (bZ (ai 1))))))))))
theorem oz{Z:Wq}(R:FX Z "_law_base" (top 22) eA)(M:Md Z):jQ Z:=bdF R λd _ _ _ _ _ _ _ _ hr=>(ao (bz (aJ (bq hr) (DE.db (aj aL (DE.db (aE (ai 0) (DE.db ag))) (DE.db ag))) (DE.db ag) (aG _)) (ax (aO (bp (ah (aj bB (DE.db (aE (ai 0) (DE.db ag))) (DE.db ag)) (ah (aj bB (DE.db (aE (ai 0) (DE.db ag))) (DE.db ag)) aB))))) aP) (ao (bz (aJ (bq hr) (DE.db (aj aL (DE.db (aE (ai 0) (DE.db ag))) (DE.db ag))) (DE.db ag) (aG _)) (ax (aO (bp (ah (aj cM (DE.db (aj bB (DE.db (aj aL (DE.db (aE (ai 0) (DE.db ag))) (DE.db ag))) (DE.db ag))) (DE.db ag)) (ah (aj cM (DE.db (aj bB (DE.db (aj aL (DE.db (aE (ai 0) (DE.db ag))) (DE.db ag))) (DE.db ag))) (DE.db ag)) aB))))) aP) (ax (aO (bp (ah ag (ah ag aB)))))))
theorem qz{Z:Wq}(R:FX Z "_law_box" (top 23) fT)(M:Md Z):kg Z:=bdF R λd _ _ _ _ _ _ _ _ hr=>(ao (aW 2 d (aj bB (DE.db (aj aS (DE.db (aE (ai 1) (DE.db ag))) (DE.db (aj aL (DE.db (aE (ai 0) (DE.db ag))) (DE.db ag))))) (DE.db ag))) (ao (aW 3 d (aj bB (DE.db (aj aS (DE.db (aE (ai 1) (DE.db ag))) (DE.db (aj aL (DE.db (aE (ai 0) (DE.db ag))) (DE.db ag))))) (DE.db ag))) (ao (aW 4 d (aj aL (DE.db (aE (ai 0) (DE.db ag))) (DE.db ag))) (ax (aO (bp (ah (ar 2) (ah (ar 3) (ah (aj aS (ai 2) (DE.db (aj aL (DE.db (aE (ai 0) (DE.db ag))) (DE.db ag)))) (ah (aj aS (ai 3) (DE.db (aj aL (DE.db (aE (ai 0) (DE.db ag))) (DE.db ag)))) (ah (ar 4) (ah (aj aS (ai 4) (DE.db (aj aL (DE.db (aE (ai 0) (DE.db ag))) (DE.db (aj bB (DE.db ag) (ai 4)))))) aB))))))))))))
theorem qF{Z:Wq}(R:FX Z "_law_sky" (top 24) fI)(M:Md Z)(h__law_box:kg Z):kI Z:=bdF R λd _ _ _ _ _ _ _ _ hr=>(ao (gi 3 d (dg aB)) (ao (cx PassesOwn.never rfl (cy (aj aL (DE.db (aE (ai 0) (DE.db ag))) (DE.db ag)) M.b_range) (az 4 d) (ax (eZ 3 (bp (ah (aj bB (DE.db (aj aS (DE.db (aE (ai 1) (DE.db ag))) (DE.db (aj aL (DE.db (aE (ai 0) (DE.db (aj aS (DE.db (aj cM (DE.db ag) (ai 4))) (DE.db ag))))) (DE.db ag))))) (DE.db ag)) (ah (aj bB (DE.db (aj aS (DE.db (aE (ai 1) (DE.db ag))) (DE.db (aj aL (DE.db (aE (ai 0) (DE.db (aj aS (DE.db (aj cM (DE.db ag) (ai 4))) (DE.db ag))))) (DE.db ag))))) (DE.db ag)) (ah (aj aS (DE.db ag) (DE.db (aj aL (DE.db (aE (ai 0) (DE.db (aj aS (DE.db (aj cM (DE.db ag) (ai 4))) (DE.db ag))))) (DE.db ag)))) aB))))))) (ao (gi 5 d (dg aB)) (ao (cx PassesOwn.never rfl (cy (aj aL (DE.db (aj eL (DE.db (aE (ai 0) (DE.db ag))) (DE.db ag))) (DE.db ag)) M.b_range) (az 4 d) (ao (aW 6 d (aE (DE.db (DF.de (dg (ah (aj aL (DE.db (aE (ai 0) (DE.db (aj aS (DE.db ag) (ai 4))))) (DE.db ag)) (ah (aj aL (DE.db (aj aS (ai 2) (DE.db (aj aL (DE.db (aE (ai 0) (DE.db (aj aS (DE.db ag) (ai 4))))) (DE.db ag))))) (DE.db ag)) aB))))) (DE.db (aj aL (DE.db (aj eL (DE.db (aE (ai 0) (DE.db ag))) (DE.db ag))) (DE.db ag))))) (ax (bz (aJ vH (ai 6) (ai 5) (by with_unfolding_all rfl)) (ax (eZ 5 (ar 6))) aP)))) (ao (gi 7 d (dg aB)) (ao (bz (aJ rX (DE.db (aj aL (DE.db (aE (ai 0) (DE.db ag))) (DE.db ag))) (DE.db ag) (aG _)) (ax (AG 7 (tn:=["_law_level"]) (fr:=["_law_d"]) (ix:=[0]) rfl d (cy ag M.b_range) (fJ (by rfl) (by exact⟨⟨rfl,rfl⟩,trivial⟩) (by exact⟨rfl,trivial⟩) (by rfl) (by rfl) (by rfl) (by rfl) (by rfl)) (cu _) (λ_ _ _ _ _=>(az 0 (show(((["_law_level"]:List Str)++(["_law_d"]:List Str)):List Str).Nodup by decide +kernel))) (λ_ _ _ _ _=>nK) (λ_ _ _ _ _=>(bp (ah ag (ah (ar 0) (ah (aj bB (DE.db (aj aL (DE.db (aE (ai 1) (DE.db (aj aS (DE.db ag) (DE.db (aj cM (DE.db ag) (ai 0))))))) (DE.db ag))) (DE.db ag)) (ah (aj bB (DE.db (aj aL (DE.db (aE (ai 1) (DE.db (aj aS (DE.db ag) (DE.db (aj cM (DE.db ag) (ai 0))))))) (DE.db ag))) (DE.db ag)) aB)))))))) aP) (ao (cx PassesOwn.never rfl (cy (aj aL (DE.db (aj eL (DE.db (aE (ai 0) (DE.db ag))) (DE.db ag))) (DE.db ag)) M.b_range) (az 4 d) (ao (aW 8 d (DF.de (lq (ai 0) (bZ (DE.db (aj aS (DE.db ag) (DE.db (aj cM (DE.db ag) (ai 4)))))) (bZ (DE.db (aj aS (DE.db ag) (DE.db (aj cM (DE.db ag) (ai 4))))))))) (ao (aW 9 d (aE (DE.db (DF.de (dg (ah (aj aL (DE.db (aE (ai 8) (DE.db ag))) (DE.db ag)) (ah (aj aL (DE.db (aj aS (ai 2) (DE.db (aj aL (DE.db (aj eL (DE.db (aE (ai 8) (DE.db ag))) (DE.db ag))) (DE.db ag))))) (DE.db ag)) aB))))) (DE.db (aj aL (DE.db (aj eL (DE.db (aE (ai 8) (DE.db ag))) (DE.db ag))) (DE.db ag))))) (ax (eZ 7 (bp (ah (ar 9) (ah (aj aL (DE.db (aE (ai 8) (DE.db ag))) (DE.db ag)) (ah (aj bB (DE.db (aj aL (DE.db (aE (ai 8) (DE.db ag))) (DE.db ag))) (DE.db ag)) (ah (aj bB (DE.db (aj aL (DE.db (aE (ai 8) (DE.db ag))) (DE.db ag))) (DE.db ag)) aB)))))))))) (ao (gi 10 d (dg aB)) (ao (cx PassesOwn.never rfl (cy (aj aL (DE.db (aE (ai 0) (DE.db ag))) (DE.db ag)) M.b_range) (az 4 d) (ao (aW 11 d (DF.de (lq (ai 0) (bZ (DE.db (aj aS (DE.db ag) (DE.db (aj cM (DE.db ag) (ai 4)))))) (bZ (DE.db (aj aS (DE.db ag) (DE.db (aj cM (DE.db ag) (ai 4))))))))) (ao (aW 9 d (aE (DE.db (DF.de (dg (ah (aj aL (DE.db (aE (ai 11) (DE.db ag))) (DE.db ag)) (ah (ar 2) aB))))) (DE.db (aj aL (DE.db (aE (ai 11) (DE.db ag))) (DE.db ag))))) (ax (eZ 10 (aj pU (DE.db (cF h__law_box hr (ah (ar 11) (ah (ar 1) aB)))) (DE.db (bp (ah (ar 9) (ah (aj aS (ai 9) (DE.db (aj aL (DE.db (aj eL (DE.db (aE (ai 11) (DE.db ag))) (DE.db ag))) (DE.db (aj bB (DE.db ag) (ai 9)))))) aB)))))))))) (ax (iN 10 (iN 7 (iN 5 (iN 3 (aO (bp (ah (ar 3) (ah (ar 5) (ah (ar 7) (ah (ar 10) aB))))))))))))))))))))
theorem mQ{Z:Wq}(R:FX Z "_law_state" (top 25) dF)(M:Md Z):iE Z:=bdF R λd _ _ _ _ _ _ _ _ hr=>(ao (aW 3 d (aj bB (DE.db (aj aS (DE.db (aE (ai 1) (DE.db ag))) (DE.db (aj aL (DE.db (aE (ai 0) (DE.db ag))) (DE.db ag))))) (DE.db ag))) (ao (aW 4 d (aj bB (DE.db (aj aS (DE.db (aE (ai 1) (DE.db ag))) (DE.db (aj aL (DE.db (aE (ai 0) (DE.db ag))) (DE.db ag))))) (DE.db ag))) (ax (aO (bp (ah (ar 3) (ah (ar 4) (ah (aj aL (DE.db (aE (ai 0) (DE.db ag))) (DE.db ag)) (ah (aj aL (DE.db (aE (ai 0) (DE.db ag))) (DE.db (aj aS (ai 2) (DE.db ag)))) (ah (aj aL (DE.db (aE (ai 0) (DE.db ag))) (DE.db (aj aS (ai 2) (DE.db ag)))) aB))))))))))
theorem oj{Z:Wq}(R:FX Z "_law_case" (top 35) eB)(M:Md Z)(h__law_base:jQ Z)(h__law_sky:kI Z)(h__law_state:iE Z):jE Z:=bdF R λd _ _ _ _ _ _ _ _ hr=>(ao (aW 1 d (cF h__law_base hr (ah (DF.de (lq (ai 0) fL (bZ (DE.db ag)))) aB))) (ao (aW 2 d (aj aL (DE.db (aE (ai 0) (DE.db ag))) (DE.db ag))) (ao (aW 3 d (bp (ah ag (ah ag aB)))) (ao (bz (aJ (bq hr) (DE.db (aj aL (DE.db (aE (ai 0) (DE.db ag))) (DE.db ag))) (DE.db ag) (aG _)) (ax (aW 2 d ag)) aP) (ao (bz (aJ (bq hr) (DE.db (aj aL (DE.db (aE (ai 0) (DE.db ag))) (DE.db ag))) (DE.db ag) (aG _)) (ao (aW 2 d (aj bB (DE.db ag) (DE.db (aj aL (DE.db (aE (ai 0) (DE.db ag))) (DE.db ag))))) (ax (aW 3 d (aE (DE.db (DF.de (dg (ah (bp (ah ag (ah ag aB))) (ah (bp (ah ag (ah ag aB))) (ah (bp (ah ag (ah ag aB))) (ah (bp (ah ag (ah ag aB))) aB))))))) (DE.db (aj aL (DE.db (aE (ai 0) (DE.db ag))) (DE.db ag))))))) aP) (ao (aW 4 d (aj aL (DE.db (aE (ai 0) (DE.db ag))) (DE.db (aj bB (DE.db ag) (ai 2))))) (ao (bz (aJ (bq hr) (DE.db (aj aL (DE.db (aE (ai 0) (DE.db ag))) (DE.db ag))) (DE.db ag) (aG _)) (ax (aW 4 d (aj bB (DE.db ag) (ai 2)))) aP) (ao (aW 5 d (cF h__law_sky hr (ah (DF.de (lq (ai 0) (bZ (DE.db ag)) (bZ (DE.db ag)))) (ah (ar 1) (ah (ar 4) aB))))) (ao (aW 6 d (cF h__law_state hr (ah (DF.de (lq (ai 0) (bZ (DE.db ag)) (bZ (DE.db ag)))) (ah (ar 1) (ah ag aB))))) (ao (aW 6 d (aj pU (DE.db (nO (ai 6) fL (bZ (DE.db ag)))) (DE.db (bp (ah (aj aL (DE.db (aE (ai 0) (DE.db ag))) (DE.db (aj aS (DE.db (aE (ai 3) (DE.db ag))) (DE.db ag)))) (ah (aj aL (DE.db (aE (ai 0) (DE.db ag))) (DE.db (aj aS (DE.db (aE (ai 3) (DE.db ag))) (DE.db ag)))) aB)))))) (ax (aO (bp (ah (ar 1) (ah (ar 4) (ah (ar 2) (ah (ar 5) (ah (ar 6) aB))))))))))))))))))
theorem ph{Z:Wq}(R:FX Z "_law_copy" (top 34) eG)(M:Md Z):jL Z:=bdF R λd _ _ _ _ _ _ _ _ hr=>(ax (aO (bp (ah (DF.de (j5 (DE.db (aE (ai 0) (DE.db ag))) M.b_list)) (ah (DF.de (j5 (DE.db (aE (ai 0) (DE.db ag))) M.b_list)) (ah (DF.de (j5 (DE.db (aE (ai 0) (DE.db ag))) M.b_list)) (ah (DF.de (j5 (DE.db (aE (ai 0) (DE.db ag))) M.b_list)) aB)))))))
theorem nT{Z:Wq}(R:FX Z "_law_wind" (top 26) eI)(M:Md Z):jx Z:=bdF R λd _ _ _ _ _ _ _ _ hr=>(ao (vy 3 (tn:=["_law_k"]) (fr:=["_law_winds","_law_height","_law_hour"]) (ix:=[0,2,1]) rfl d (cy (k8 (ai 0) M.b_len) M.b_range) (fJ (by rfl) (by exact⟨⟨rfl,rfl⟩,⟨rfl,rfl⟩,⟨rfl,rfl⟩,trivial⟩) (by exact⟨rfl,rfl,rfl,trivial⟩) (by rfl) (by rfl) (by rfl) (by rfl) (by rfl)) (cu _) (λ_ _ _ _ _=>(az 0 (show(((["_law_k"]:List Str)++(["_law_winds","_law_height","_law_hour"]:List Str)):List Str).Nodup by decide +kernel))) (λ_ _ _ _ _=>(jY (DW.dt (cP (aJ (bq hr) (DE.db (aE (DE.db (aE (ai 1) (ai 0))) (DE.db ag))) (ai 2) (aG _)) (b_ (aJ dB (DE.db (aE (DE.db (aE (ai 1) (ai 0))) (DE.db ag))) (ai 3) (aG _))))))) (λ_ _ _ _ _=>(bp (ah (aE (DE.db (aE (ai 1) (ai 0))) (DE.db ag)) (ah (ar 0) aB))))) (ao (bz (aJ (bq hr) (DE.db (k8 (ai 3) M.b_len)) (DE.db ag) (aG _)) (ax (aO (bp (ah ag (ah ag aB))))) aP) (ax (aO (nO (DE.db (aE (ai 0) (DE.db (aE (DE.db (fB (yq hr rfl) M.b_max (by rfl) (ah (ar 3) aB))) (DE.db ag))))) (bZ (DE.db ag)) fL)))))
theorem qf{Z:Wq}(R:FX Z "_law_led" (top 31) fK)(M:Md Z)(h__law_wind:jx Z):ip Z:=bdF R λd _ _ _ _ _ _ _ _ hr=>(ao (d8 (ar 2) (dU rfl (aA (az 4 d) (aA (az 5 d) (aA (az 6 d) (aA (az 7 d) (aA (az 8 d) bJ))))))) (ao (aW 9 d (Au hr bg (show DE _ _ (eC (.int 1)) from ag) bg (show DE _ _ (eC (.int 0)) from ag) bg (show DE _ _ (eC (.int (-1))) from(wN (DE.db ag))) (ar 3) (λ_ _=>rfl))) (ao (aW 6 d (aj aS (ai 6) (ai 9))) (ao (bz (DW.dt (cP (aJ vt (ai 1) (DE.db (aE (ai 0) (DE.db ag))) (by with_unfolding_all rfl)) (b_ (aJ rX (ai 6) (DE.db ag) (aG _))))) (ax (aW 6 d (aj bB (ai 6) (DE.db ag)))) aP) (ao (d8 (cF h__law_wind hr (ah (aE (ai 0) (DE.db ag)) (ah (ar 1) (ah (ar 6) aB)))) (dU rfl (aA (az 10 d) (aA (az 11 d) bJ)))) (ax (aO (bp (ah (aj aS (ai 4) (ai 10)) (ah (aj aS (ai 5) (ai 11)) (ah (ar 6) (ah (aj bB (ai 7) (DE.db (fB (mW rfl) M.b_max (by rfl) (ah ag (ah (ar 9) aB))))) (ah (aj bB (ai 8) (DE.db (fB (mW rfl) M.b_max (by rfl) (ah ag (ah (wN (ai 9)) aB))))) aB)))))))))))))
theorem lE{Z:Wq}(R:FX Z "_law_ground" (top 27) dq)(M:Md Z):hZ Z:=bdF R λd _ _ _ _ _ _ _ _ hr=>(ax (aO (fB (xv rfl) M.b_max (by rfl) (ah (DF.de (Bq (DE.db (DF.de (dg (ah ag aB)))) (DE.db (DF.de (rG (tn:=["_law_a","_law_b","_law_top"]) (fr:=["_law_x","_law_y"]) (ix:=[1,2]) rfl (dJ (ar 0)) (fJ (by rfl) (by exact⟨⟨rfl,rfl⟩,⟨rfl,rfl⟩,trivial⟩) (by exact⟨rfl,rfl,trivial⟩) (by rfl) (by rfl) (by rfl) (by rfl) (by rfl)) (mO (cz (cu _) (cz (cu _) (cz (cu _) j4)))) (λ_ _ _ _ _=>(ir rfl (aA (az 0 (show(((["_law_a","_law_b","_law_top"]:List Str)++(["_law_x","_law_y"]:List Str)):List Str).Nodup by decide +kernel)) (aA (az 1 (show(((["_law_a","_law_b","_law_top"]:List Str)++(["_law_x","_law_y"]:List Str)):List Str).Nodup by decide +kernel)) (aA (az 2 (show(((["_law_a","_law_b","_law_top"]:List Str)++(["_law_x","_law_y"]:List Str)):List Str).Nodup by decide +kernel)) bJ))))) (λ_ _ _ _ _=>(jY (DW.dt (cP (aJ (bq hr) (ai 0) (ai 3) (aG _)) (b_ (aJ (bq hr) (ai 1) (ai 4) (aG _))))))) (λ_ _ _ _ _=>(ar 2))))))) aB))))
theorem sq{Z:Wq}(R:FX Z "_law_in" (top 28) gT)(M:Md Z):mI Z:=bdF R λd _ _ _ _ _ _ _ _ hr=>(ax (aO (fN (dS dB (DE.db (aE (ai 0) (DE.db ag))) (ai 1) (aG _)) (fN (dS dB (ai 1) (DE.db (aE (ai 0) (DE.db ag))) (aG _)) (fN (dS dB (DE.db (aE (ai 0) (DE.db ag))) (ai 2) (aG _)) (fN (dS dB (ai 2) (DE.db (aE (ai 0) (DE.db ag))) (aG _)) (fN (dS dB (DE.db (aE (ai 0) (DE.db ag))) (ai 3) (aG _)) (nQ (dS dB (ai 3) (DE.db (aE (ai 0) (DE.db ag))) (aG _))))))))))
theorem pL{Z:Wq}(R:FX Z "_law_shut" (top 29) eM)(M:Md Z)(h__law_in:mI Z):jN Z:=bdF R λd _ _ _ _ _ _ _ _ hr=>(ax (aO (dS vt (DE.db k6) (DE.db (DF.de (rG (tn:=["_law_one"]) (fr:=["_law_x","_law_y","_law_z","_law_hour"]) (ix:=[2,3,4,1]) rfl (dJ (ar 0)) (fJ (by rfl) (by exact⟨⟨rfl,rfl⟩,⟨rfl,rfl⟩,⟨rfl,rfl⟩,⟨rfl,rfl⟩,trivial⟩) (by exact⟨rfl,rfl,rfl,rfl,trivial⟩) (by rfl) (by rfl) (by rfl) (by rfl) (by rfl)) (cu _) (λ_ _ _ _ _=>(az 0 (show(((["_law_one"]:List Str)++(["_law_x","_law_y","_law_z","_law_hour"]:List Str)):List Str).Nodup by decide +kernel))) (λ_ _ _ _ _=>(jY (DW.dt (cP (aJ dB (DE.db (aE (ai 0) (DE.db ag))) (ai 4) (aG _)) (b_ (aJ dB (ai 4) (DE.db (aE (ai 0) (DE.db ag))) (aG _))))))) (λ_ _ _ _ _=>(cF h__law_in hr (ah (nO (ai 0) fL (bZ (DE.db ag))) (ah (ar 1) (ah (ar 2) (ah (ar 3) aB))))))))) (by with_unfolding_all rfl))))
theorem mN{Z:Wq}(R:FX Z "_law_stand" (top 30) dE)(M:Md Z)(h__law_ground:hZ Z)(h__law_shut:jN Z):iX Z:=bdF R λd _ _ _ _ _ _ _ _ hr=>(ao (bz (aJ lP (DE.db (aE (ai 2) (DE.db ag))) (DE.db (cF h__law_ground hr (ah (aE (ai 0) (DE.db ag)) (ah (aE (ai 2) (DE.db ag)) (ah (aE (ai 2) (DE.db ag)) aB))))) (aG _)) (ax (aO bg)) aP) (ao (bz (fE (DE.db (cF h__law_shut hr (ah (aE (ai 0) (DE.db ag)) (ah (ar 1) (ah (aE (ai 2) (DE.db ag)) (ah (aE (ai 2) (DE.db ag)) (ah (aE (ai 2) (DE.db ag)) aB)))))))) (ax (aO bg)) aP) (ax (aO bg))))
theorem qi{Z:Wq}(R:FX Z "_law_why" (top 32) fR)(M:Md Z)(h__law_led:ip Z)(h__law_stand:iX Z):kr Z:=bdF R λd _ _ _ _ _ _ _ _ hr=>(ao (bz (DW.dt (cP (aJ (bq hr) (ai 3) (DE.db bg) (aG _)) (b_ (aJ (bq hr) (DE.db (aE (ai 2) (DE.db ag))) (DE.db ag) (aG _))))) (ax (aO bg)) aP) (ao (bz (DW.dt (cP (aJ (bq hr) (ai 3) (DE.db bg) (aG _)) (b_ (aJ (bq hr) (DE.db (aE (ai 2) (DE.db ag))) (DE.db ag) (aG _))))) (ax (aO bg)) aP) (ao (bz (DW.dt (cP (aJ (bq hr) (ai 3) (DE.db bg) (aG _)) (b_ (aJ (bq hr) (DE.db (aE (ai 2) (DE.db ag))) (DE.db ag) (aG _))))) (ax (aO bg)) aP) (ao (bz (DW.dt (cP (aJ (bq hr) (ai 3) (DE.db bg) (aG _)) (b_ (aJ (bq hr) (DE.db (aE (ai 2) (DE.db ag))) (DE.db ag) (aG _))))) (ax (aO bg)) aP) (ax (aO (cF h__law_stand hr (ah (ar 0) (ah (aj aS (ai 1) (DE.db ag)) (ah (cF h__law_led hr (ah (ar 0) (ah (ar 1) (ah (ar 2) (ah (ar 3) aB))))) aB))))))))))
theorem kJ{Z:Wq}(R:FX Z "_law_flights" (top 33) cT)(M:Md Z)(h__law_why:kr Z)(h__law_led:ip Z):gj Z:=bdF R λd _ _ _ _ _ _ _ _ hr=>(ao (aW 4 d (DF.de (dg (ah (bp (ah (bp aB) (ah (ar 2) aB))) aB)))) (ao (cx PassesOwn.never rfl (cy (ar 3) M.b_range) (az 5 d) (ao (gi 6 d (dg aB)) (ao (cx PassesOwn.never rfl (dJ (ar 4)) (ir rfl (aA (az 7 d) (aA (az 8 d) bJ))) (ax (cx PassesOwn.never rfl (uo (bp (ah bg (ah bg (ah bg aB))))) (az 9 d) (ax (bz (aJ (bq hr) (DE.db (cF h__law_why hr (ah (ar 0) (ah (aj aS (ai 1) (ai 5)) (ah (ar 8) (ah (ar 9) aB)))))) (DE.db bg) (aG _)) (ax (eZ 6 (bp (ah (aj yV (ai 7) (DE.db (bp (ah (ar 9) aB)))) (ah (cF h__law_led hr (ah (ar 0) (ah (aj aS (ai 1) (ai 5)) (ah (ar 8) (ah (ar 9) aB))))) aB))))) aP))))) (ax (iN 6 (aW 4 d (ar 6))))))) (ax (aO (ar 4)))))
theorem so{Z:Wq}(R:FX Z "wind_at" (top 9) gR)(M:Md Z):mD Z:=bdF R λd _ _ _ _ _ _ _ _ hr=>(ao (aW 3 d h_) (ao (cx PassesOwn.never rfl (dJ (ar 0)) (az 4 d) (ao (bz (DW.dt (kS (aJ (js hr) (DE.db (aE (ai 4) (DE.db ag))) (ai 2) (aG _)) (ic (aJ rX (DE.db (aE (ai 4) (DE.db ag))) (ai 1) (aG _))))) (ax pf) aP) (ax (bz (DW.dt (kS (aJ l9 (ai 3) (DE.db h_) (aG _)) (ic (aJ Cr (DE.db (aE (ai 4) (DE.db ag))) (DE.db (aE (ai 3) (DE.db ag))) (aG _))))) (ax (aW 3 d (ar 4))) aP)))) (ao (bz (aJ l9 (ai 3) (DE.db h_) (aG _)) (ax (aO (bp (ah ag (ah ag aB))))) aP) (ax (aO (bp (ah (aE (ai 3) (DE.db ag)) (ah (aE (ai 3) (DE.db ag)) aB))))))))
theorem uW{Z:Wq}(R:FX Z "led_to" (top 13) iW)(M:Md Z)(h_wind_at:mD Z):pG Z:=bdF R λd _ _ _ _ _ _ _ _ hr=>(ao (d8 (ar 0) (dU rfl (aA (az 4 d) (aA (az 5 d) (aA (az 6 d) (aA (az 7 d) bJ)))))) (ao (d8 (ar 2) (dU rfl (aA (az 8 d) (aA (az 9 d) (aA (az 10 d) (aA (az 11 d) (aA (az 12 d) bJ))))))) (ao (bz (aJ (bq hr) (ai 3) (DE.db bg) (aG _)) (ax (vw 10 11 d (ah (aj aS (ai 10) (DE.db ag)) (ah (aj bB (ai 11) (DE.db ag)) aB)))) (ax (bz (aJ (bq hr) (ai 3) (DE.db bg) (aG _)) (ax (vw 10 12 d (ah (aj bB (ai 10) (DE.db ag)) (ah (aj bB (ai 12) (DE.db ag)) aB)))) aP))) (ao (bz (aJ vt (ai 1) (ai 5) (by with_unfolding_all rfl)) (ax (aW 10 d (fB (mW rfl) M.b_max (by rfl) (ah (aj bB (ai 10) (DE.db ag)) (ah ag aB))))) aP) (ao (d8 (cF h_wind_at hr (ah (ar 6) (ah (ar 1) (ah (ar 10) aB)))) (dU rfl (aA (az 13 d) (aA (az 14 d) bJ)))) (ax (aO (bp (ah (aj aS (ai 8) (ai 13)) (ah (aj aS (ai 9) (ai 14)) (ah (ar 10) (ah (ar 11) (ah (ar 12) aB)))))))))))))
theorem iI{Z:Wq}(R:FX Z "why_not_ordered" (top 12) b9)(M:Md Z):eP Z:=let⟨_,gi_TOP_HEIGHT⟩:=M.g_TOP_HEIGHT;bdF R λd _ _ _ _ _ _ _ _ hr=>(ao (d8 (ar 0) (dU rfl (aA (az 2 d) (aA (az 3 d) (aA (az 4 d) (aA (az 5 d) (aA (az 6 d) bJ))))))) (ao (bz (DW.dt (cP (aJ (bq hr) (ai 1) (DE.db bg) (aG _)) (b_ (aJ lP (ai 5) (DE.db ag) (aG _))))) (ax (aO bg)) aP) (ao (bz (DW.dt (cP (aJ (bq hr) (ai 1) (DE.db bg) (aG _)) (b_ (aJ lP (ai 6) (DE.db ag) (aG _))))) (ax (aO bg)) aP) (ao (bz (DW.dt (cP (aJ (bq hr) (ai 1) (DE.db bg) (aG _)) (b_ (aJ (bq hr) (ai 4) (DE.db (xJ rfl gi_TOP_HEIGHT)) (aG _))))) (ax (aO bg)) aP) (ao (bz (DW.dt (cP (aJ (bq hr) (ai 1) (DE.db bg) (aG _)) (b_ (aJ (bq hr) (ai 4) (DE.db ag) (aG _))))) (ax (aO bg)) aP) (ax (aO bg)))))))
theorem pk{Z:Wq}(R:FX Z "ground_at" (top 4) eQ)(M:Md Z):jG Z:=bdF R λd _ _ _ _ _ _ _ _ hr=>(ao (vy 3 (tn:=["hill_x","hill_y","top"]) (fr:=["x","y"]) (ix:=[1,2]) rfl d (dJ (ar 0)) (fJ (by rfl) (by exact⟨⟨rfl,rfl⟩,⟨rfl,rfl⟩,trivial⟩) (by exact⟨rfl,rfl,trivial⟩) (by rfl) (by rfl) (by rfl) (by rfl) (by rfl)) (mO (cz (cu _) (cz (cu _) (cz (cu _) j4)))) (λ_ _ _ _ _=>(ir rfl (aA (az 0 (show(((["hill_x","hill_y","top"]:List Str)++(["x","y"]:List Str)):List Str).Nodup by decide +kernel)) (aA (az 1 (show(((["hill_x","hill_y","top"]:List Str)++(["x","y"]:List Str)):List Str).Nodup by decide +kernel)) (aA (az 2 (show(((["hill_x","hill_y","top"]:List Str)++(["x","y"]:List Str)):List Str).Nodup by decide +kernel)) bJ))))) (λ_ _ _ _ _=>(jY (DW.dt (cP (aJ (bq hr) (ai 0) (ai 3) (aG _)) (b_ (aJ (bq hr) (ai 1) (ai 4) (aG _))))))) (λ_ _ _ _ _=>(ar 2))) (ax (aO (uL (ar 3) ag rfl M.b_max))))
theorem wQ{Z:Wq}(R:FX Z "inside" (top 2) iF)(M:Md Z):o_ Z:=bdF R λd _ _ _ _ _ _ _ _ hr=>(ao (d8 (ar 0) (dU rfl (aA (az 4 d) (aA (az 5 d) (aA (az 6 d) (aA (az 7 d) (aA (az 8 d) (aA (az 9 d) bJ)))))))) (ax (aO (fN (vf dB dB (ai 4) (ai 1) (ai 6)) (fN (vf dB dB (ai 5) (ai 2) (ai 7)) (nQ (vf dB dB (ai 8) (ai 3) (ai 9))))))))
theorem tX{Z:Wq}(R:FX Z "shut_at" (top 6) gM)(M:Md Z)(h_inside:o_ Z):me Z:=bdF R λd _ _ _ _ _ _ _ _ hr=>(ao (cx PassesOwn.never rfl (dJ (ar 0)) (az 5 d) (ax (bz (DW.dt (cP (Cy dB dB (DE.db (aE (ai 5) (DE.db ag))) (ai 1) (DE.db (aE (ai 5) (DE.db ag)))) (b_ (fE (DE.db (cF h_inside hr (ah (nO (ai 5) fL (bZ (DE.db ag))) (ah (ar 2) (ah (ar 3) (ah (ar 4) aB)))))))))) (ax (aO k6)) aP))) (ax (aO k6)))
theorem jV{Z:Wq}(R:FX Z "why_not_stand" (top 7) cA)(M:Md Z)(h_ground_at:jG Z)(h_shut_at:me Z):fX Z:=bdF R λd _ _ _ _ _ _ _ _ hr=>(ao (d8 (ar 0) (dU rfl (aA (az 3 d) (aA (az 4 d) (aA (az 5 d) (aA (az 6 d) bJ)))))) (ao (d8 (ar 2) (dU rfl (aA (az 7 d) (aA (az 8 d) (aA (az 9 d) (aA (az 10 d) (aA (az 11 d) bJ))))))) (ao (bz (aJ lP (ai 9) (DE.db (cF h_ground_at hr (ah (ar 3) (ah (ar 7) (ah (ar 8) aB))))) (aG _)) (ax (aO bg)) aP) (ao (bz (fE (DE.db (cF h_shut_at hr (ah (ar 6) (ah (ar 1) (ah (ar 7) (ah (ar 8) (ah (ar 9) aB)))))))) (ax (aO bg)) aP) (ax (aO bg))))))
theorem xr{Z:Wq}(R:FX Z "tried" (top 14) j7)(M:Md Z)(h_led_to:pG Z)(h_why_not_ordered:eP Z)(h_why_not_stand:fX Z):rF Z:=bdF R λd _ _ _ _ _ _ _ _ hr=>(ao (aW 4 d (cF h_led_to hr (ah (ar 0) (ah (ar 1) (ah (ar 2) (ah (ar 3) aB)))))) (ao (aW 5 d (cF h_why_not_ordered hr (ah (ar 2) (ah (ar 3) aB)))) (ao (bz (aJ (bq hr) (ai 5) (DE.db bg) (aG _)) (ax (aW 5 d (cF h_why_not_stand hr (ah (ar 0) (ah (aj aS (ai 1) (DE.db ag)) (ah (ar 4) aB)))))) aP) (ax (aO (bp (ah (ar 5) (ah (ar 4) aB))))))))
theorem yN{Z:Wq}(R:FX Z "moves" (top 15) jZ)(M:Md Z)(h_tried:rF Z):rY Z:=let⟨ga_ORDERS,GM_ORDERS,GT_ORDERS⟩:=M.u_ORDERS;bdF R λd _ _ _ _ _ _ _ _ hr=>(ao (gi 3 d (dg aB)) (ao (cx PassesOwn.never rfl (uo (yZ ["up","level","down"] rfl GM_ORDERS GT_ORDERS)) (az 4 d) (ao (d8 (cF h_tried hr (ah (ar 0) (ah (ar 1) (ah (ar 2) (ah (ar 4) aB))))) (dU rfl (aA (az 5 d) (aA (az 6 d) bJ)))) (ax (bz (aJ (bq hr) (ai 5) (DE.db bg) (aG _)) (ax (eZ 3 (bp (ah (ar 4) (ah (ar 6) aB))))) aP)))) (ax (iN 3 (aO (ar 3))))))
theorem sr{Z:Wq}(R:FX Z "counted" (top 17) gU)(M:Md Z)(h_moves:rY Z):ml Z:=bdF R λd _ _ _ _ _ _ _ _ hr=>(ao (ud 4 d (BW hr (ar 2) ag)) (ao (cx PassesOwn.never rfl (cy (ar 3) M.b_range) (az 5 d) (ao (ud 6 d B6) (ao (iN 4 (cx PassesOwn.never rfl (vz (ar 4)) (ir rfl (aA (az 7 d) (aA (az 8 d) bJ))) (ax (cx PassesOwn.never rfl (dJ (cF h_moves hr (ah (ar 0) (ah (aj aS (ai 1) (ai 5)) (ah (ar 7) aB))))) (ir rfl (aA (az 9 d) (aA (az 10 d) bJ))) (ax (w9 6 hr (aj aS (DE.db (xc 6 hr (ar 10) ag)) (ai 8)) (ar 10))))))) (ax (iN 6 (aW 4 d (ar 6))))))) (ax (iN 4 (aO (ar 4))))))
theorem vW{Z:Wq}(R:FX Z "states" (top 18) gv)(M:Md Z)(h_counted:ml Z):o9 Z:=bdB R λd _ _ _ _ _ _ _ _ hr=>(ax (xC (ym hr rfl (cF h_counted hr (ah (ar 0) (ah (ar 1) (ah (ar 2) (ah (ar 3) aB))))) M.b_sorted)))
theorem jH{Z:Wq}{f:Addr}{fd:FuncData}(R:FA Z.K Z.mg "_law_same" (top 21) ck f fd)(M:Md Z):∀(n:Nat) (base:Heap),FnOk Z.P Z.w Z.K Z.mg base CX0 (0+n) f fd ck (spF Z.K (cW n))
 |0,_=>xI
 |n+1,base=>by
  have GR:=jH R M n base;have sc:FnScope jB ck (aQ (top 21)):=⟨rfl,rfl,rfl,by decide +kernel,rfl,by decide +kernel,by decide +kernel⟩;have d:=sc.nd;exact nI R.fu sc λcdv A outer s H E hr=>(ao (bz (DW.dt (kS (fE (DE.db (eV (T:="list") (by simp) (ai 1) M.b_isinstance M.b_list (by rfl)))) (ic (fE (DE.db (eV (T:="tuple") (by simp) (ai 1) M.b_isinstance M.b_tuple (by rfl))))))) (ao (bz (DW.dt (kS (aJ (js hr) (DE.db (eV (T:="list") (by simp) (ai 0) M.b_isinstance M.b_list (by rfl))) (DE.db (eV (T:="list") (by simp) (ai 1) M.b_isinstance M.b_list (by rfl))) (aG _)) (ic (aJ (js hr) (DE.db (eV (T:="tuple") (by simp) (ai 0) M.b_isinstance M.b_tuple (by rfl))) (DE.db (eV (T:="tuple") (by simp) (ai 1) M.b_isinstance M.b_tuple (by rfl))) (aG _))))) (ax (aO k6)) aP) (ax (aO (fN (dS (bq hr) (DE.db (k8 (ai 0) M.b_len)) (DE.db (k8 (ai 1) M.b_len)) (aG _)) (nQ (fB (zN rfl) M.b_all (by rfl) (ah (DF.de (rG (tn:=["_law_one","_law_other"]) (fr:=[]) (ix:=[]) rfl (Bh (ah (ar 0) (ah (ar 1) aB)) M.b_zip) (fJ (by rfl) (by exact trivial) (by exact trivial) (by rfl) (by rfl) (by rfl) (by rfl) (by rfl)) (mO (cz (cu _) (cz (cu _) j4))) (λ_ _ _ _ _=>(ir rfl (aA (az 0 (show(((["_law_one","_law_other"]:List Str)++([]:List Str)):List Str).Nodup by decide +kernel)) (aA (az 1 (show(((["_law_one","_law_other"]:List Str)++([]:List Str)):List Str).Nodup by decide +kernel)) bJ)))) (λ_ _ _ _ _=>nK) (λ_ _ _ _ _=>(nS R GR hr (Nat.le_refl _) (ah (ar 0) (ah (ar 1) aB)))))) aB))))))) aP) (ao (bz (DW.dt (kS (aJ l9 (ai 0) (DE.db h_) (aG _)) (ic (aJ l9 (ai 1) (DE.db h_) (aG _))))) (ax (aO (fN (dS l9 (ai 0) (DE.db h_) (aG _)) (nQ (dS l9 (ai 1) (DE.db h_) (aG _)))))) aP) (ao (bz (DW.dt (kS (aJ (js hr) (DE.db (eV (T:="bool") (by simp) (ai 0) M.b_isinstance M.b_bool (by rfl))) (DE.db (eV (T:="bool") (by simp) (ai 1) M.b_isinstance M.b_bool (by rfl))) (aG _)) (ic (aJ (js hr) (DE.db (eV (T:="int") (by simp) (ai 0) M.b_isinstance M.b_int (by rfl))) (DE.db (eV (T:="int") (by simp) (ai 1) M.b_isinstance M.b_int (by rfl))) (aG _))))) (ax (aO k6)) aP) (ax (aO (dS (bq hr) (ai 0) (ai 1) (aG _)))))))
theorem pH{Z:Wq}(R:FX Z "_law_same" (top 21) ck)(M:Md Z):jv Z:=let⟨f,fd,A⟩:=R;⟨f,fd,A,λbase=>(jH A.1 M 4 base).mono (by decide)⟩
theorem BY{Z:Wq}(R:FX Z "law" (top 36) rQ)(M:Md Z)(h__law_numbers:gm Z)(h__law_case:jE Z)(h__law_copy:jL Z)(h__law_flights:gj Z)(h_states:o9 Z)(h__law_same:jv Z):uT Z:=bdF R λd _ _ _ _ _ _ _ _ hr=>(ao (d8 (cF h__law_case hr (ah (cF h__law_numbers hr (ah (ar 0) (ah ag aB))) aB)) (dU rfl (aA (az 1 d) (aA (az 2 d) (aA (az 3 d) (aA (az 4 d) (aA (az 5 d) bJ))))))) (ao (aW 6 d (cF h__law_copy hr (ah (ar 4) aB))) (ao (aW 7 d (DF.de (yw hr rfl (DE.db (DF.de (vZ hr rfl (DE.db (DF.de (rG (tn:=["_law_orders","_law_one"]) (fr:=[]) (ix:=[]) rfl (dJ (cF h__law_flights hr (ah (ar 4) (ah (ar 2) (ah (ar 5) (ah (ar 3) aB)))))) (fJ (by rfl) (by exact trivial) (by exact trivial) (by rfl) (by rfl) (by rfl) (by rfl) (by rfl)) (mO (cz (cu _) (cz (cu _) j4))) (λ_ _ _ _ _=>(ir rfl (aA (az 0 (show(((["_law_orders","_law_one"]:List Str)++([]:List Str)):List Str).Nodup by decide +kernel)) (aA (az 1 (show(((["_law_orders","_law_one"]:List Str)++([]:List Str)):List Str).Nodup by decide +kernel)) bJ)))) (λ_ _ _ _ _=>nK) (λ_ _ _ _ _=>(bp (ah (ar 1) (ah k6 aB))))))) M.b_list M.b_dict))) M.b_sorted))) (ao (gi 8 d (cO h_states hr (ah (ar 6) (ah (ar 2) (ah (ar 5) (ah (ar 3) aB)))))) (ao (bz (DW.dt (kS (Ax (fE (DE.db (cS h__law_same hr (oB (ai 8) (oB (ai 7) xP)))))) (ic (aJ (js hr) (ai 6) (ai 4) (aG _))))) (ax (aO k6)) aP) (ao (eZ 8 (ar 5)) (ax (aO (cF h__law_same hr (ah (cF h_states.d hr (ah (ar 6) (ah (ar 2) (ah (ar 5) (ah (ar 3) aB))))) (ah (ar 7) aB)))))))))))
theorem zO{Z:Wq}(M:Md Z)(A0:FX Z "_law_numbers" (top 20) cX)(A1:FX Z "_law_base" (top 22) eA)(A2:FX Z "_law_box" (top 23) fT)(A3:FX Z "_law_sky" (top 24) fI)(A4:FX Z "_law_state" (top 25) dF)(A5:FX Z "_law_case" (top 35) eB)(A6:FX Z "_law_copy" (top 34) eG)(A7:FX Z "_law_wind" (top 26) eI)(A8:FX Z "_law_led" (top 31) fK)(A9:FX Z "_law_ground" (top 27) dq)(A10:FX Z "_law_in" (top 28) gT)(A11:FX Z "_law_shut" (top 29) eM)(A12:FX Z "_law_stand" (top 30) dE)(A13:FX Z "_law_why" (top 32) fR)(A14:FX Z "_law_flights" (top 33) cT)(A15:FX Z "wind_at" (top 9) gR)(A16:FX Z "led_to" (top 13) iW)(A17:FX Z "why_not_ordered" (top 12) b9)(A18:FX Z "ground_at" (top 4) eQ)(A19:FX Z "inside" (top 2) iF)(A20:FX Z "shut_at" (top 6) gM)(A21:FX Z "why_not_stand" (top 7) cA)(A22:FX Z "tried" (top 14) j7)(A23:FX Z "moves" (top 15) jZ)(A24:FX Z "counted" (top 17) gU)(A25:FX Z "states" (top 18) gv)(A26:FX Z "_law_same" (top 21) ck)(A27:FX Z "law" (top 36) rQ):uT Z:=
 have H0:=k9 A0 M;have H1:=oz A1 M;have H2:=qz A2 M;have H3:=qF A3 M H2;have H4:=mQ A4 M;have H5:=oj A5 M H1 H3 H4;have H6:=ph A6 M;have H7:=nT A7 M;have H8:=qf A8 M H7;have H9:=lE A9 M;have H10:=sq A10 M;have H11:=pL A11 M H10;have H12:=mN A12 M H9 H11;have H13:=qi A13 M H8 H12;have H14:=kJ A14 M H13 H8;have H15:=so A15 M;have H16:=uW A16 M H15;have H17:=iI A17 M;have H18:=pk A18 M;have H19:=wQ A19 M;have H20:=tX A20 M H19;have H21:=jV A21 M H18 H20;have H22:=xr A22 M H16 H17 H21;have H23:=yN A23 M H22;have H24:=sr A24 M H23;have H25:=vW A25 M H24;have H26:=pH A26 M;have H27:=BY A27 M H0 H5 H6 H14 H25 H26
 H27
theorem BK{P:Program}{w:World}{K:PySem.W.Frag}{h:Heap}{mg:Str->Option Value}{t_TOP_HEIGHT:Tok}{ga_ORDERS:Addr}{go_ORDERS:Option Addr}{gn_ORDERS:Nat}{gs_ORDERS:Array (Option Value)}{gu_ORDERS gv_ORDERS gw_ORDERS:Tok}(X:K.In h)(G:h.Ns mainGlobals mg)
  (z_all:PySem.W.nsIn K mainGlobals "all" = some none)
  (z_bool:PySem.W.nsIn K mainGlobals "bool" = some none)
  (z_dict:PySem.W.nsIn K mainGlobals "dict" = some none)
  (z_int:PySem.W.nsIn K mainGlobals "int" = some none)
  (z_isinstance:PySem.W.nsIn K mainGlobals "isinstance" = some none)
  (z_len:PySem.W.nsIn K mainGlobals "len" = some none)
  (z_list:PySem.W.nsIn K mainGlobals "list" = some none)
  (z_max:PySem.W.nsIn K mainGlobals "max" = some none)
  (z_range:PySem.W.nsIn K mainGlobals "range" = some none)
  (z_sorted:PySem.W.nsIn K mainGlobals "sorted" = some none)
  (z_tuple:PySem.W.nsIn K mainGlobals "tuple" = some none)
  (z_zip:PySem.W.nsIn K mainGlobals "zip" = some none)
  (y_TOP_HEIGHT:PySem.W.nsIn K mainGlobals "TOP_HEIGHT" = some (some (.int 5 t_TOP_HEIGHT)))
  (y_ORDERS:PySem.W.nsIn K mainGlobals "ORDERS" = some (some (.ref ga_ORDERS))) (x_ORDERS:K.lookup ga_ORDERS=some ⟨.type "tuple",go_ORDERS,.seq #[.str "up" gu_ORDERS,.str "level" gv_ORDERS,.str "down" gw_ORDERS] gn_ORDERS,gs_ORDERS⟩):Md ⟨P,w,K,mg⟩:=⟨⟨_,PySem.W.mg_of X G y_ORDERS,B0 x_ORDERS⟩,PySem.W.mg_none_of X G z_all,PySem.W.mg_none_of X G z_bool,PySem.W.mg_none_of X G z_dict,PySem.W.mg_none_of X G z_int,PySem.W.mg_none_of X G z_isinstance,PySem.W.mg_none_of X G z_len,PySem.W.mg_none_of X G z_list,PySem.W.mg_none_of X G z_max,PySem.W.mg_none_of X G z_range,PySem.W.mg_none_of X G z_sorted,PySem.W.mg_none_of X G z_tuple,PySem.W.mg_none_of X G z_zip,⟨_,PySem.W.mg_of X G y_TOP_HEIGHT⟩⟩
theorem walk{l:PySem.W.OpenLaw}{q:Program}{loose:List Str}{XP:(Str->Option Value)->Heap->Prop}{YP:World->Heap->Prop}{d:DefRec}{K:Params->PySem.W.Frag}(hn:l.most=some 63)(hdf:d.params.defaults=[])(hnm:d.name = "law")
  (hY:∀(w:World) (h:Heap),YP w h->(K w.params).In h) (worth:∀ns:List Int,ns.length<=63->rn [.lst (ns.map D.int)]=some (.bl true))
  (F:∀(w:World) (mg:Str->Option Value) (h:Heap),(K w.params).In h->h.Ns mainGlobals mg->uT ⟨l.prog,w,K w.params,mg⟩) :
  PySem.W.WalkO q loose XP YP l.row.toRowW d [] (λf vs=>PySem.call f vs):=
 L2.yC (n:=63) (k:=8) (x:="_law_script") (CX:=λ_=>CX0) (sp:=λw=>spF (K w.params) rn) hn (by decide) hdf ⟨rfl,by decide,by decide⟩ hY (λw mg fa h a b c=>Av (F w mg h a b) (by rw[<-hnm];exact c))
  (λw H a ns hl _ hS=>⟨H,[.lst (ns.map D.int)],.bl true,aR.refl _,.one (.lst hS (qN _ _ ns)),worth ns hl,λv G' H' g hd=>hd.blV⟩) λ_ _ _ _ _ z=>z
theorem Ap:f_=zY:=rfl
theorem Ab(ns:List Int)(hn:ns.length<=63)(m:Nat)(hm:m<=5000):∃f:Nat->Int,Lw.d6 [.lst (iL ns),.int (m:Int)]=some (.lst (iL (b6 f m)))/\∀j,0<=f j/\f j<1000:=by
 obtain⟨row,e,h1,h2⟩:=xA ns hn m hm;obtain⟨f,rfl,hf⟩:=Be h1 h2;exact⟨f,bC rfl (by rw[Ap];exact e),hf⟩
theorem sj:∀n,cW n=FrS n
 |0=>rfl
 |n+1=>by
  show fnD _ _ (jD (cW n))=fnD _ _ (jO (FrS n));rw[sj n];rfl
theorem vX(d:D)(h:OkS 4 d):cH [d,d]=some (.bl true):=by
 unfold cH;rw[sj];exact nh 4 d h
theorem xO(a0 a1 a2:Int):∃b0 b1,gu [.lst (iL [a0,a1,a2])]=some (.tup [.int b0,.int b1]):=by
 obtain⟨b0,b1,e⟩:=we a0 a1 a2;exact⟨b0,b1,bC rfl e⟩
theorem Bp:uf iu:=λl hl b0 b1=>by
 obtain⟨a0,a1,a2,a3,a4,a5,e,h⟩:=yd l hl b0 b1;exact⟨a0,a1,a2,a3,a4,a5,bC rfl e,h⟩
theorem zF(f:Nat->Int)(b0 b1 hour:Int)(hh:0<=hour/\hour<=24):∃k:Sk,h8 [.lst (iL (b6 f 120)),.tup [.int b0,.int b1],.int hour]=some (skD k)/\SkOk k:=by
 obtain⟨hs,cs,ws,ss,e,⟨h1,h2⟩,h3,⟨h4,h5⟩,h6,h7⟩:=yS f b0 b1 hour Bp hh;exact⟨⟨hs,cs,ws,ss⟩,bC rfl e,h1,h2,h3,h4,h5,h6,h7⟩
theorem uC(g:Nat->Int)(b0 b1:Int):∃q:Stt,fW [.lst (iL (b6 g 6)),.tup [.int b0,.int b1],.int 6]=some (stD q)/\0<=q.z/\q.z<=5:=
 ⟨⟨b0+g 0%7-3,b1+g 1%7-3,g 2%6,g 3%7,g 4%7⟩,rfl,by show 0<=g 2%6;lia,by show g 2%6<=5;lia⟩
theorem yo(f:Nat->Int):∃(b0 b1 hour:Int) (n:Nat) (k:Sk) (q:Stt),eK [.lst (iL (b6 f 140))]=some (.tup [.tup [.int b0,.int b1],.int hour,.int (n:Int),skD k,stD q])/\n<=8/\SkOk k/\StOk q:=by
 obtain⟨b0,b1,hour,many,k,q,e,hm,_,hk,hz,hs,hp⟩:=t9 xO zF uC f 140 (by decide);refine⟨b0,b1,hour,many.toNat,k,q,?_,by lia,hk,hz.1,hs.1,hp.1⟩;rw[show((many.toNat:Nat):Int)=many by lia];exact bC rfl e
theorem yi:Fl.gK=Fl.gK:=rfl
theorem tY:Fl.bW=Fl.bW:=rfl
theorem Bj:Fl.dA=Fl.dA:=rfl
noncomputable def stK(q:Stt):List Int:=[q.x,q.y,q.z,q.s,q.p]
theorem m7{a b:Stt}(h:stK a=stK b):a=b:=by
 obtain⟨a1,a2,a3,a4,a5⟩:=a;obtain⟨b1,b2,b3,b4,b5⟩:=b;simp only[stK,List.cons.injEq,and_true] at h;obtain⟨rfl,rfl,rfl,rfl,rfl⟩:=h;rfl
noncomputable abbrev Cm:=List (Stt×Int)
noncomputable def cmD(c:Cm):List (List Int×D):=c.map λe=>(stK e.1,.int e.2)
noncomputable def lkC:Cm->Stt->Int
 |[],_=>0
 |e::r,s=>if stK e.1=stK s then e.2 else lkC r s
noncomputable def fj:Cm->Stt->Int->Cm
 |[],s,c=>[(s,c)]
 |e::r,s,c=>if stK e.1=stK s then(e.1,e.2+c)::r else e::fj r s c
theorem y_:∀(c:Cm) (s:Stt),(lkD (cmD c) (stK s)).getD (.int 0)=.int (lkC c s)
 |[],_=>rfl
 |e::r,s=>by
  show((if stK e.1=stK s then some (D.int e.2) else lkD (cmD r) (stK s)).getD (.int 0))=.int (if stK e.1=stK s then e.2 else lkC r s);split
  ·rfl
  ·exact y_ r s
theorem uu:∀(c:Cm) (s:Stt) (v:Int),pP (cmD c) (stK s) (.int (lkC c s+v))=cmD (fj c s v)
 |[],s,v=>by show[(stK s,D.int (0+v))]=[(stK s,D.int v)];rw[Int.zero_add]
 |e::r,s,v=>by
  show(if stK e.1=stK s then(stK e.1,D.int ((if stK e.1=stK s then e.2 else lkC r s)+v))::cmD r else(stK e.1,D.int e.2)::pP (cmD r) (stK s) (.int ((if stK e.1=stK s then e.2 else lkC r s)+v)))=cmD (if stK e.1=stK s then(e.1,e.2+v)::r else e::fj r s v);split
  ·rfl
  ·rw[uu r s v];rfl
theorem n9:∀(c:Cm) (s:Stt) (v:Int),(fj c s v).length<=c.length+1
 |[],_,_=>Nat.le_refl _
 |e::r,s,v=>by
  unfold fj;split
  ·exact Nat.le_succ _
  ·exact Nat.succ_le_succ (n9 r s v)
noncomputable def wt(f:Stt->Int):Cm->Int
 |[]=>0
 |e::r=>f e.1*e.2+wt f r
theorem vV(f:Stt->Int):∀(c:Cm) (s:Stt) (v:Int),wt f (fj c s v)=wt f c+f s*v
 |[],s,v=>by show f s*v+0=0+f s*v;lia
 |e::r,s,v=>by
  unfold fj
  by_cases g:stK e.1=stK s
  ·rw[if_pos g]
   show f e.1*(e.2+v)+wt f r=f e.1*e.2+wt f r+f s*v;rw[m7 g,Int.mul_add];lia
  ·rw[if_neg g]
   show f e.1*e.2+wt f (fj r s v)=f e.1*e.2+wt f r+f s*v;rw[vV f r s v];lia
noncomputable def bE(k:Sk)(h:Int)(s:Stt)(v:Int)(os:List Str)(c:Cm):Cm:=os.foldl (λa o=>fj a (bX k h s o) v) c
noncomputable def goC(k:Sk)(h:Int)(c:Cm):Cm:=c.foldl (λa e=>bE k h e.1 e.2 (can k h e.1) a) []
noncomputable def mR(f:Stt->Int)(k:Sk)(h:Int)(s:Stt)(os:List Str):Int:=(os.map λo=>f (bX k h s o)).sum
theorem lV(f:Stt->Int)(k:Sk)(h:Int)(s:Stt)(v:Int):∀(os:List Str) (c:Cm),wt f (bE k h s v os c)=wt f c+mR f k h s os*v
 |[],c=>by show wt f c=wt f c+0*v;rw[Int.zero_mul];lia
 |o::os,c=>by
  show wt f (bE k h s v os (fj c (bX k h s o) v))=wt f c+(f (bX k h s o)+mR f k h s os)*v;rw[lV f k h s v os,vV,Int.add_mul];lia
theorem Aj(f:Stt->Int)(k:Sk)(h:Int):∀(c a:Cm),wt f (c.foldl (λa e=>bE k h e.1 e.2 (can k h e.1) a) a)=wt f a+wt (λs=>mR f k h s (can k h s)) c
 |[],a=>by show wt f a=wt f a+0;lia
 |e::c,a=>by
  show wt f (c.foldl (λa e=>bE k h e.1 e.2 (can k h e.1) a) (bE k h e.1 e.2 (can k h e.1) a))=wt f a+(mR f k h e.1 (can k h e.1)*e.2+wt (λs=>mR f k h s (can k h s)) c);rw[Aj f k h c,lV];lia
theorem h9(k:Sk)(h:Int)(s:Stt)(v:Int):∀(os:List Str) (c:Cm),(bE k h s v os c).length<=c.length+os.length
 |[],c=>Nat.le_refl _
 |o::os,c=>by
  have h1:=h9 k h s v os (fj c (bX k h s o) v);have h2:=n9 c (bX k h s o) v;show(bE k h s v os (fj c (bX k h s o) v)).length<=c.length+(os.length+1)
  lia
theorem nF(k:Sk)(h:Int):∀(c a:Cm),(c.foldl (λa e=>bE k h e.1 e.2 (can k h e.1) a) a).length<=a.length+3*c.length
 |[],a=>Nat.le_refl _
 |e::c,a=>by
  have h1:=nF k h c (bE k h e.1 e.2 (can k h e.1) a);have h2:=h9 k h e.1 e.2 (can k h e.1) a;have h3:=mP k h e.1;show(c.foldl (λa e=>bE k h e.1 e.2 (can k h e.1) a) (bE k h e.1 e.2 (can k h e.1) a)).length<=a.length+3*(c.length+1)
  lia
noncomputable def CN(k:Sk)(h:Int)(q:Stt):Nat->Cm
 |0=>[(q,1)]
 |n+1=>goC k (h+(n:Int)) (CN k h q n)
theorem nC(k:Sk)(h:Int)(q:Stt):∀n,(CN k h q n).length<=3 ^ n
 |0=>Nat.le_refl _
 |n+1=>by
  have h1:=nC k h q n;have h2:(goC k (h+(n:Int)) (CN k h q n)).length<=0+3*(CN k h q n).length:=nF k (h+(n:Int)) (CN k h q n) [];show(goC k (h+(n:Int)) (CN k h q n)).length<=3 ^ (n+1);rw[Nat.pow_succ]
  lia
theorem x6(f:Stt->Int)(k:Sk)(h:Int):∀rows:List (List Str×Stt),((flR k h rows).map λr=>f r.2).sum=(rows.map λr=>mR f k h r.2 (can k h r.2)).sum
 |[]=>rfl
 |r::rows=>by
  show((qv k h r++flR k h rows).map λr=>f r.2).sum=mR f k h r.2 (can k h r.2)+(rows.map λr=>mR f k h r.2 (can k h r.2)).sum;rw[List.map_append,List.sum_append,x6 f k h rows];congr 1;unfold qv mR;rw[List.map_map];rfl
section
variable(k:Sk)(kk:SkOk k)(h:Int)(q:Stt)(m:Sl)
noncomputable abbrev evC(cs:Sl)(n:Nat)(F:Cm)(a b c d:Sl):Ev:=[.dat (skD k),.dat (.int h),.dat (stD q),m,cs,.dat (.int (n:Int)),.odi (cmD F),a,b,c,d]
include kk in
theorem AA(cs:Sl)(n:Nat)(F:Cm)(hF:F.length<=900000)(s:Stt)(v:Int)(c d:Sl):∃c' d',cq (evC k h q m cs n F (.dat (stD s)) (.dat (.int v)) c d)=some (.nx (evC k h q m cs n (bE k (h+(n:Int)) s v (can k (h+(n:Int)) s) F) (.dat (stD s)) (.dat (.int v)) c' d')):=by
 obtain⟨ε',e,c',d',rfl⟩:=gG (g:=cU 2 (aw (ak 9) (aw (ak 10) bf))) (gb:=fH) (mvD k (h+(n:Int)) s) (λdone ε=>∃c d,ε=evC k h q m cs n (bE k (h+(n:Int)) s v done F) (.dat (stD s)) (.dat (.int v)) c d) (can k (h+(n:Int)) s) (λdone o rest hd ε ⟨c,d,he⟩=>by
  subst he;have dl:done.length<=3:=by have:=congrArg List.length hd;have:=mP k (h+(n:Int)) s;simp at *;lia
  have l1:=h9 k (h+(n:Int)) s v done F;refine⟨_,evC k h q m cs n (bE k (h+(n:Int)) s v (done++[o]) F) (.dat (stD s)) (.dat (.int v)) (.dat (.str o)) (.dat (stD (bX k (h+(n:Int)) s o))),rfl,.inl ?_,_,_,rfl⟩;rw[show bE k (h+(n:Int)) s v (done++[o]) F=fj (bE k (h+(n:Int)) s v done F) (bX k (h+(n:Int)) s o) v by unfold bE;rw[List.foldl_append];rfl];generalize bE k (h+(n:Int)) s v done F=X at l1 ⊢;unfold fH
  have e1:e2 aM (rP 6 (av 10) (eC (.int 0))) (af 8) (evC k h q m cs n X (.dat (stD s)) (.dat (.int v)) (.dat (.str o)) (.dat (stD (bX k (h+(n:Int)) s o))))=some (.int (lkC X (bX k (h+(n:Int)) s o)+v)):=by
   refine ba (x:=.int (lkC X (bX k (h+(n:Int)) s o))) (y:=.int v) ?_ rfl rfl;rw[<-y_];rfl
  show((e2 aM (rP 6 (av 10) (eC (.int 0))) (af 8) (evC k h q m cs n X (.dat (stD s)) (.dat (.int v)) (.dat (.str o)) (.dat (stD (bX k (h+(n:Int)) s o))))).bind λd=>_)=_;rw[e1];show(if(cmD X).length<1000000 then _ else _)=_;rw[if_pos (by unfold cmD;rw[List.length_map];lia)];show some (Fl.nx [.dat (skD k),.dat (.int h),.dat (stD q),m,cs,.dat (.int (n:Int)),.odi (pP (cmD X) (stK (bX k (h+(n:Int)) s o)) (.int (lkC X (bX k (h+(n:Int)) s o)+v))),.dat (stD s),.dat (.int v),.dat (.str o),.dat (stD (bX k (h+(n:Int)) s o))])=_
  rw[uu]) (evC k h q m cs n F (.dat (stD s)) (.dat (.int v)) c d) ⟨c,d,rfl⟩
 refine⟨c',d',?_⟩;unfold cq;refine(bO (ds:=(can k (h+(n:Int)) s).map (mvD k (h+(n:Int)) s)) ?_).trans e;show(match aI gK (ae (av 0) (ae (e2 aM (af 1) (af 5)) (ae (av 7) aD))) (evC k h q m cs n F (.dat (stD s)) (.dat (.int v)) c d) with | some (.lst ds)=>some ds | _=>none)=_;rw[aX (ds:=[skD k,.int (h+(n:Int)),stD s]) rfl (by rw[yi];exact ub k kk.hl (h+(n:Int)) s)]
include kk in
theorem yg(C:Cm)(hC:C.length<=200000)(n:Nat)(cs:Sl)(hcs:fzS cs=.dat (.dic (cmD C)))(s6 a b c d:Sl):∃e6 a' b' c' d',dH [.dat (skD k),.dat (.int h),.dat (stD q),m,cs,.dat (.int (n:Int)),s6,a,b,c,d]=some (.nx [.dat (skD k),.dat (.int h),.dat (stD q),m,.dat (.dic (cmD (goC k (h+(n:Int)) C))),.dat (.int (n:Int)),e6,a',b',c',d']):=by
 unfold dH
 obtain⟨ε',e,a',b',c',d',rfl⟩:=gG (g:=cU 2 (aw (ak 7) (aw (ak 8) bf))) (gb:=cq) (λe:Stt×Int=>D.tup [stD e.1,.int e.2]) (λdone ε=>∃a b c d,ε=evC k h q m (.dat (.dic (cmD C))) n (goC k (h+(n:Int)) done) a b c d) C (λdone e rest hd ε ⟨a,b,c,d,he⟩=>by
  subst he;have dl:done.length<=200000:=by have:=congrArg List.length hd;simp at this;lia
  have gl:(goC k (h+(n:Int)) done).length<=0+3*done.length:=nF k (h+(n:Int)) done [];obtain⟨c',d',e1⟩:=AA k kk h q m (.dat (.dic (cmD C))) n (goC k (h+(n:Int)) done) (by lia) e.1 e.2 c d;refine⟨_,_,rfl,.inl e1,.dat (stD e.1),.dat (.int e.2),c',d',?_⟩
  rw[show goC k (h+(n:Int)) (done++[e])=bE k (h+(n:Int)) e.1 e.2 (can k (h+(n:Int)) e.1) (goC k (h+(n:Int)) done) by unfold goC;rw[List.foldl_append];rfl]) (evC k h q m (.dat (.dic (cmD C))) n [] a b c d) ⟨_,_,_,_,rfl⟩
 refine⟨.dat (.dic (cmD (goC k (h+(n:Int)) C))),a',b',c',d',(au (ε':=[.dat (skD k),.dat (.int h),.dat (stD q),m,cs,.dat (.int (n:Int)),.odi [],a,b,c,d]) rfl).trans ?_⟩
 have fz:sFz 4 (cL (kU (av 4)) (cU 2 (aw (ak 7) (aw (ak 8) bf))) cq) [.dat (skD k),.dat (.int h),.dat (stD q),m,cs,.dat (.int (n:Int)),.odi [],a,b,c,d]=cL (kU (av 4)) (cU 2 (aw (ak 7) (aw (ak 8) bf))) cq (evC k h q m (.dat (.dic (cmD C))) n [] a b c d):=by
  show cL _ _ _ [.dat (skD k),.dat (.int h),.dat (stD q),m,fzS cs,.dat (.int (n:Int)),.odi [],a,b,c,d]=_;rw[hcs];rfl
 refine(au (fz.trans ((bO (ds:=C.map λe=>D.tup [stD e.1,.int e.2]) ?_).trans e))).trans rfl;show some (jm (cmD C))=_;unfold jm cmD;rw[List.map_map];rfl
include kk in
theorem qa(n:Nat)(hn:n<=8):gQ [skD k,.int h,stD q,.int (n:Int)]=some (.dic (cmD (CN k h q n))):=by
 refine bC rfl ?_;unfold l5;refine(au (ε':=[.dat (skD k),.dat (.int h),.dat (stD q),.dat (.int (n:Int)),.odi (cmD (CN k h q 0)),.un,.un,.un,.un,.un,.un]) rfl).trans ?_
 obtain⟨ε',e,e4,e5,e6,e7,e8,e9,e10,rfl,hf⟩:=d7 (g:=ak 5) (gb:=dH) (λi ε=>∃s4 s5 s6 s7 s8 s9 s10,ε=[.dat (skD k),.dat (.int h),.dat (stD q),.dat (.int (n:Int)),s4,s5,s6,s7,s8,s9,s10]/\fzS s4=.dat (.dic (cmD (CN k h q i)))) (cK n) 0 (λi d hd ε ⟨s4,s5,s6,s7,s8,s9,s10,he,hf⟩=>by
  subst he;obtain⟨rfl,hi⟩:=fD hd;rw[Nat.zero_add] at hf ⊢;have h1:=nC k h q i;have p3:3 ^ i<=3 ^ 8:=Nat.pow_le_pow_right (by decide) (by lia);obtain⟨e6,a',b',c',d',e⟩:=yg k kk h q (.dat (.int (n:Int))) (CN k h q i) (by lia) i s4 hf s6 s7 s8 s9 s10
  exact⟨_,_,rfl,.inl e,_,_,_,_,_,_,_,rfl,rfl⟩) [.dat (skD k),.dat (.int h),.dat (stD q),.dat (.int (n:Int)),.odi (cmD (CN k h q 0)),.un,.un,.un,.un,.un,.un] ⟨_,_,_,_,_,_,_,rfl,rfl⟩
 refine(au ((bO (ds:=cK n) (fM (j:=(n:Int)) rfl (by lia) (by lia))).trans e)).trans ?_;rw[show(cK n).length=n by unfold cK;simp,Nat.zero_add] at hf;show a8 (av 4) [.dat (skD k),.dat (.int h),.dat (stD q),.dat (.int (n:Int)),fzS e4,e5,e6,e7,e8,e9,e10]=_;rw[hf];rfl
end
theorem yt{f:Ev->Option D}{ε:Ev}{es:List (List Int×D)}(h:f ε=some (.dic es))(c1:(es.all λe=>!e.1.isEmpty)=true)(c2:es.length<1000000):oY f ε=some ((ji (es.map (·.1))).map cw):=by
 unfold oY;rw[h];exact if_pos ⟨c1,c2⟩
theorem xg{f:Ev->Option D}{ε:Ev}{ds:List D}{ts:List (List Int)}(h:f ε=some (.lst ds))(e:i_ ds=some ts)(hl:ts.length<1000000):oE f ε=some ((ji ts).map cw):=by
 unfold oE;rw[h];simp only[e,Option.bind_some];exact if_pos hl
theorem vE{f:Ev->Option D}{ε:Ev}{ds:List D}{ks:List (List Int)}(h:f ε=some (.lst ds))(e:iM ds=some ks)(hl:ks.length<1000000):lr f ε=some ((du ks).map cw):=by
 unfold lr;rw[h];simp only[e,Option.bind_some];exact if_pos hl
theorem xi{f:Ev->Option (List D)}{ε:Ev}{ds:List D}(h:f ε=some ds):rN f ε=some (.ro ds):=by unfold rN;rw[h];rfl
theorem Aa(q:Stt):stK q≠[]:=by unfold stK;simp
noncomputable abbrev kL(c:Cm):List (List Int):=c.map λe=>stK e.1
theorem xQ(c:Cm):(cmD c).map (·.1)=kL c:=by unfold cmD kL;rw[List.map_map];rfl
theorem kM:∀(c:Cm) (s:Stt) (v:Int) (t:List Int),t∈kL (fj c s v)↔t∈kL c\/t=stK s
 |[],s,v,t=>by simp[fj,kL]
 |e::r,s,v,t=>by
  unfold fj
  by_cases g:stK e.1=stK s
  ·rw[if_pos g]
   show t∈stK e.1::kL r↔t∈stK e.1::kL r\/t=stK s;rw[List.mem_cons];exact⟨.inl,λz=>z.elim id λz=>.inl (z.trans g.symm)⟩
  ·rw[if_neg g]
   show t∈stK e.1::kL (fj r s v)↔t∈stK e.1::kL r\/t=stK s;rw[List.mem_cons,List.mem_cons,kM r s v t,or_assoc]
theorem lW:∀(c:Cm) (s:Stt) (v:Int),(kL c).Nodup->(kL (fj c s v)).Nodup
 |[],s,v,_=>by simp[fj,kL]
 |e::r,s,v,h=>by
  obtain⟨h1,h2⟩:=List.nodup_cons.mp (show(stK e.1::kL r).Nodup from h);unfold fj
  by_cases g:stK e.1=stK s
  ·rw[if_pos g];exact h
  ·rw[if_neg g]
   refine List.nodup_cons.mpr ⟨λz=>?_,lW r s v h2⟩;rcases(kM r s v _).mp z with z | z
   ·exact h1 z
   ·exact g z
theorem nU(k:Sk)(h:Int)(s:Stt)(v:Int)(t:List Int):∀(os:List Str) (c:Cm),t∈kL (bE k h s v os c)↔t∈kL c\/∃o∈os,t=stK (bX k h s o)
 |[],c=>by simp[bE]
 |o::os,c=>by
  show t∈kL (bE k h s v os (fj c (bX k h s o) v))↔_;rw[nU k h s v t os,kM,or_assoc];simp
theorem lY(k:Sk)(h:Int)(s:Stt)(v:Int):∀(os:List Str) (c:Cm),(kL c).Nodup->(kL (bE k h s v os c)).Nodup
 |[],c,hc=>hc
 |o::os,c,hc=>lY k h s v os _ (lW c _ v hc)
theorem rO(k:Sk)(h:Int)(t:List Int):∀(c a:Cm),t∈kL (c.foldl (λa e=>bE k h e.1 e.2 (can k h e.1) a) a)↔t∈kL a\/∃e∈c,∃o∈can k h e.1,t=stK (bX k h e.1 o)
 |[],a=>by simp
 |e::c,a=>by
  rw[List.foldl_cons,rO k h t c,nU,or_assoc];simp
theorem n_(k:Sk)(h:Int):∀(c a:Cm),(kL a).Nodup->(kL (c.foldl (λa e=>bE k h e.1 e.2 (can k h e.1) a) a)).Nodup
 |[],a,ha=>ha
 |e::c,a,ha=>by rw[List.foldl_cons];exact n_ k h c _ (lY k h e.1 e.2 _ a ha)
theorem uz(k:Sk)(h:Int)(q:Stt):∀n,(kL (CN k h q n)).Nodup
 |0=>by simp[CN,kL]
 |n+1=>n_ k _ _ [] List.nodup_nil
theorem qP(k:Sk)(h:Int)(q:Stt):∀(n:Nat) (t:List Int),t∈kL (CN k h q n)↔t∈(cY k h q n).map λr=>stK r.2
 |0,t=>by simp[CN,kL,cY]
 |n+1,t=>by
  have ih:=qP k h q n;show t∈kL (goC k (h+(n:Int)) (CN k h q n))↔t∈(flR k (h+(n:Int)) (cY k h q n)).map λr=>stK r.2;unfold goC;rw[rO];constructor
  ·rintro(z | ⟨e,he,o,ho,rfl⟩)
   ·cases z
   ·have:=(ih (stK e.1)).mp (List.mem_map.mpr ⟨e,he,rfl⟩)
    obtain⟨r,hr,er⟩:=List.mem_map.mp this;have er:=m7 er;rw[<-er] at ho ⊢;exact List.mem_map.mpr ⟨tH k (h+(n:Int)) r o,List.mem_flatMap.mpr ⟨r,hr,List.mem_map.mpr ⟨o,ho,rfl⟩⟩,rfl⟩
  ·intro z
   obtain⟨r',hr',rfl⟩:=List.mem_map.mp z;obtain⟨r,hr,hm⟩:=List.mem_flatMap.mp hr';obtain⟨o,ho,rfl⟩:=List.mem_map.mp hm;have:=(ih (stK r.2)).mpr (List.mem_map.mpr ⟨r,hr,rfl⟩);obtain⟨e,he,er⟩:=List.mem_map.mp this;have er:=m7 er;refine .inr ⟨e,he,o,by rw[er];exact ho,?_⟩;rw[er];rfl
noncomputable def stS(k:Sk)(h:Int)(q:Stt)(n:Nat):List (List Int):=ji (kL (CN k h q n))
theorem tR(k:Sk)(h:Int)(q:Stt)(n:Nat):ji (du ((cY k h q n).map λr=>stK r.2))=stS k h q n:=by
 refine kO (j6 _) (j6 _) ((dO _).trans (List.Perm.trans ?_ (dO _).symm));refine(List.perm_ext_iff_of_nodup (ju _ _ rfl) (uz k h q n)).mpr λt=>?_;rw[ja _ _ rfl t,qP k h q n t]
section
variable(k:Sk)(kk:SkOk k)(h:Int)(q:Stt)
include kk in
theorem pz(n:Nat)(hn:n<=8):iQ [.dat (skD k),.dat (.int h),.dat (stD q),.dat (.int (n:Int))]=some (.ro ((stS k h q n).map cw)):=by
 have hl:=nC k h q n;have p3:3 ^ n<=3 ^ 8:=Nat.pow_le_pow_right (by decide) hn;unfold iQ;refine xi ?_;have e:=yt (f:=aI gQ (ae (av 0) (ae (av 1) (ae (av 2) (ae (av 3) aD))))) (ε:=[.dat (skD k),.dat (.int h),.dat (stD q),.dat (.int (n:Int))]) (aX (ds:=[skD k,.int h,stD q,.int (n:Int)]) rfl (qa k kk h q n hn)) (List.all_eq_true.mpr λe he=>by obtain⟨x,_,rfl⟩:=List.mem_map.mp he;rfl) (by unfold cmD;rw[List.length_map];lia);rw[xQ] at e;exact e
end
theorem oW:∀rows:List (List Str×Stt),iM (rows.map λr=>D.tup [stD r.2,.bl true])=some (rows.map λr=>stK r.2)
 |[]=>rfl
 |r::rows=>by
  show(bR ((stK r.2).map D.int)).bind _=_;rw[fq];show(iM (rows.map λr=>D.tup [stD r.2,.bl true])).bind _=_;rw[oW rows];rfl
theorem vL(l:List (List Int))(hl:l.length<1000000)(hm:∀t∈l,t.length<1000):OkS 4 (.lst (l.map cw)):=by
 refine⟨by rw[List.length_map];exact hl,λd hd=>?_⟩;obtain⟨t,ht,rfl⟩:=List.mem_map.mp hd;refine⟨by rw[List.length_map];have:=hm t ht;lia,λz hz=>?_⟩;obtain⟨i,_,rfl⟩:=List.mem_map.mp hz;exact trivial
theorem worth(ns:List Int)(hn:ns.length<=63):rn [.lst (ns.map D.int)]=some (.bl true):=by
 obtain⟨f,e1,hf⟩:=Ab ns hn 140 (by decide);obtain⟨b0,b1,hour,n,k,q,e2,hm,kk,hq⟩:=yo f;have hr:=(ly k hour q hq n).1;have p3:3 ^ n<=3 ^ 8:=Nat.pow_le_pow_right (by decide) hm;have hc:=nC k hour q n
 have ls:(stS k hour q n).length<1000000:=by
  unfold stS;rw[(dO _).length_eq,List.length_map];lia
 have m5:∀t∈stS k hour q n,t.length<1000:=λt ht=>by
  obtain⟨e,_,rfl⟩:=List.mem_map.mp ((dO _).mem_iff.mp ht);show 5<1000
  decide
 have ok:OkS 4 (.lst ((stS k hour q n).map cw)):=vL _ ls m5;have sF:k_ [skD k,.int hour,stD q,.int (n:Int)]=some (.lst ((stS k hour q n).map cw)):=zG rfl (pz k kk hour q n hm);have sO:jr [skD k,.int hour,stD q,.int (n:Int)]=some ((stS k hour q n).map cw):=An rfl (pz k kk hour q n hm);refine bC rfl ?_;unfold za;refine(au (ε':=[.dat (.lst (iL ns)),.dat (.tup [.int b0,.int b1]),.dat (.int hour),.dat (.int (n:Int)),.dat (skD k),.dat (stD q),.un,.un,.un]) ?_).trans ?_
 ·show((aI eK _ _).bind λd=>_)=_
  rw[aX (ds:=[.lst (iL (b6 f 140))]) (a_ (aX rfl e1) rfl) e2];rfl
 refine(au (bo (d:=skD k) (aX (ds:=[skD k]) rfl (by rw[Bj];exact yc k kk)))).trans ?_;refine(au (bo (d:=.lst ((stS k hour q n).map cw)) (c7 ?_))).trans ?_
 ·have lc:eLC (ec (aI bW (ae (av 4) (ae (av 2) (ae (av 5) (ae (av 3) aD)))))) 2 [] (cU 2 (aw (ak 0) (aw (ak 1) bf))) i9 (bh (ae (av 1) (ae (eC (.bl true)) aD))) [.dat (.lst (iL ns)),.dat (.tup [.int b0,.int b1]),.dat (.int hour),.dat (.int (n:Int)),.dat (skD k),.dat (stD q),.dat (skD k),.un,.un]=some ((cY k hour q n).map λr=>D.tup [stD r.2,.bl true]):=
   A_ (ds:=(cY k hour q n).map fg) (yJ (aX (ds:=[skD k,.int hour,stD q,.int (n:Int)]) rfl (by rw[tY];exact qw k kk hour q hq n hm))) (by rw[List.length_map];lia) (wZ (λε=>∃a b,ε=[a,b]) fg (λr=>D.tup [stD r.2,.bl true]) (cY k hour q n) (λr _ ε ⟨a,b,he⟩=>by subst he;exact⟨_,rfl,⟨_,_,rfl⟩,rfl⟩) _ ⟨.un,.un,rfl⟩)
  have ol:=jd _ ((cY k hour q n).map λr=>stK r.2) rfl;rw[List.length_map] at ol;have ld:=vE (c7 lc) (oW _) (by rw[List.length_map];lia);have sg:=xg (c7 ld) (mB λt ht=>by obtain⟨r,_,rfl⟩:=List.mem_map.mp ((ja _ _ rfl t).mp ht);exact Aa _) (by lia);rw[tR] at sg;exact sg
 refine(au (xX (vq (ds:=[skD k,.int hour,stD q,.int (n:Int)]) rfl sO))).trans ?_;refine(au (ε':=[.dat (.lst (iL ns)),.dat (.tup [.int b0,.int b1]),.dat (.int hour),.dat (.int (n:Int)),.dat (skD k),.dat (stD q),.dat (skD k),.dat (.lst ((stS k hour q n).map cw)),.own ((stS k hour q n).map cw)]) ?_).trans ?_
 ·refine(hW (qr (a:=false) (b:=false) (yX (a:=true) (xW (Bm (x:=.lst ((stS k hour q n).map cw)) (y:=.lst ((stS k hour q n).map cw)) rfl rfl (vX _ ok) rfl))) ?_)).trans rfl
  exact cV (x:=skD k) (y:=skD k) rfl rfl (tp (yG k))
 refine(au (iR (ds:=(stS k hour q n).map cw) (d:=stD q) rfl rfl (by rw[List.length_map];lia))).trans ?_;exact cC ((zV (F:=cH) (x:=.lst ((stS k hour q n).map cw)) (y:=.lst ((stS k hour q n).map cw)) (aX (ds:=[skD k,.int hour,stD q,.int (n:Int)]) rfl sF) rfl).trans (vX _ ok))
end Lw
open PySem PySem.W PyProof.Rows
set_option maxRecDepth 100000 in
set_option maxHeartbeats 0 in
theorem PySem.Challenge.cw_ballastbook_k16_all_states_reached_holds : PySem.Challenge.rw_ballastbook_k16_all_states_reached.Holds := by
 w_on;o_law;k_head;(case hw=>w_witness2)
 k_fill
 refine Lw.walk (l:=PySem.Challenge.rw_ballastbook_k16_all_states_reached) rfl rfl rfl (λw h Y=>PySem.W.kIn_of Y) Lw.worth ?F
 case F=>
  intro w mg h KX G;refine' Lw.zO ?qM ?qA0 ?qA1 ?qA2 ?qA3 ?qA4 ?qA5 ?qA6 ?qA7 ?qA8 ?qA9 ?qA10 ?qA11 ?qA12 ?qA13 ?qA14 ?qA15 ?qA16 ?qA17 ?qA18 ?qA19 ?qA20 ?qA21 ?qA22 ?qA23 ?qA24 ?qA25 ?qA26 ?qA27
  case qM=>
   refine' Lw.BK KX G ?qz_all ?qz_bool ?qz_dict ?qz_int ?qz_isinstance ?qz_len ?qz_list ?qz_max ?qz_range ?qz_sorted ?qz_tuple ?qz_zip ?qy_TOP_HEIGHT ?qy_ORDERS ?qx_ORDERS
   (case qz_all=>k_is)
   (case qz_bool=>k_is)
   (case qz_dict=>k_is)
   (case qz_int=>k_is)
   (case qz_isinstance=>k_is)
   (case qz_len=>k_is)
   (case qz_list=>k_is)
   (case qz_max=>k_is)
   (case qz_range=>k_is)
   (case qz_sorted=>k_is)
   (case qz_tuple=>k_is)
   (case qz_zip=>k_is)
   (case qy_TOP_HEIGHT=>k_is)
   (case qy_ORDERS=>k_is)
   (case qx_ORDERS=>k_is)
  all_goals
   apply Dn.CD KX G
   k_is
   k_is
   k_is
   k_is
   intro _ _ _ _ _ _
   first | exact Dn.De λ_=>rfl | exact Dn.C3 λ_ _=>rfl | exact Dn.C1 λ_ _ _=>rfl | exact Dn.Da λ_ _ _ _=>rfl | exact Dn.len5 λ_ _ _ _ _=>rfl | exact Dn.Df λ_ _ _ _ _ _=>rfl | exact Dn.Dj λ_ _ _ _ _ _ _=>rfl | exact Dn.C8 λ_ _ _ _ _ _ _ _=>rfl
#print axioms PySem.Challenge.cw_ballastbook_k16_all_states_reached_holds
