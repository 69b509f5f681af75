import PyProof.Rows.All
import Wide.All
import OpenK.AllK
import Wide.FinOn
import Lean
import PyProof.EqAt
import PyProof.EqKinds
import PyProof.TupleCall
import PySem.Challenge.RW_heapsafe_k19_whole_turns
open PySem.W (Frag mg_of findIn nsIn fnOf keepIn)
open List (getElem?_eq_getElem length_map length_append forall_mem_cons mem_of_getElem? mem_cons_self mem_singleton forall_mem_nil length_singleton mem_cons_of_mem size_toArray getElem?_append_left getElem?_append_right getElem?_map mem_append_right mem_append_left mem_map mem_iff_getElem? mem_cons take_add_one map_append take_length mem_append length_cons length_take length_range length_replicate filter_append append_assoc append_nil getElem?_set length_set not_mem_nil pairwise_cons nodup_append)
open PySem.Heap (get?_push_of_some lt_size get?_push_size)
set_option Elab.async false
set_option linter.all false
set_option maxRecDepth 100000
set_option maxHeartbeats 4000000
namespace L2
open PySem PySem.Spec PyProof.Rows
noncomputable abbrev Key:=Sum Int Str
noncomputable def lV:Key->Value->Bool
 | .inl k,v=>Value.isInt k v
 | .inr x,v=>Value.isStrOf x v
noncomputable def YF (w:World):Key->Int
 | .inl k=>hashInt k
 | .inr x=>hashStr w x
theorem bZ:∀{k:Key}{v:Value},lV k v=true->(∃i t,k=Sum.inl i/\v=Value.int i t)\/(∃x t,k=Sum.inr x/\v=Value.str x t)
 | .inl i,v,h=>by
  obtain⟨t,e⟩:=Value.isInt_shape (k:=i) (v:=v) h;exact .inl ⟨i,t,rfl,e⟩
 | .inr x,v,h=>by
  obtain⟨t,e⟩:=Value.isStrOf_shape (x:=x) (v:=v) h;exact .inr ⟨x,t,rfl,e⟩
theorem Hj (i:Int) (t:Tok):lV (.inl i) (.int i t)=true:=by simp [lV,Value.isInt]
theorem Hk (x:Str) (t:Tok):lV (.inr x) (.str x t)=true:=by simp [lV,Value.isStrOf]
theorem T2 (a b:Int):decide ((Sum.inl a:Key)=Sum.inl b)=(a == b):=by
 by_cases e:a=b
 ·subst e; simp
 ·have h:¬(Sum.inl a:Key)=Sum.inl b:=λq=>e (Sum.inl.inj q)
  rw [decide_eq_false h];exact(beq_eq_false_iff_ne.mpr e).symm
theorem T3 (a b:Str):decide ((Sum.inr a:Key)=Sum.inr b)=decide (a=b):=by
 by_cases e:a=b
 ·subst e; simp
 ·have h:¬(Sum.inr a:Key)=Sum.inr b:=λq=>e (Sum.inr.inj q)
  rw [decide_eq_false h,decide_eq_false e]
theorem T4 (a:Int) (b:Str):decide ((Sum.inl a:Key)=Sum.inr b)=false:=decide_eq_false (λq=>nomatch q)
theorem T5 (a:Str) (b:Int):decide ((Sum.inr a:Key)=Sum.inl b)=false:=decide_eq_false (λq=>nomatch q)
noncomputable def bp (prog:Program) (w:World):PySem.KeyKind prog w Key where
 is:=lV
 hash:=YF w
 inj:=λv a b ha hb=>by
  rcases bZ ha with ⟨i,t,rfl,rfl⟩ | ⟨x,t,rfl,rfl⟩
  ·rcases bZ hb with ⟨j,u,rfl,e⟩ | ⟨y,u,rfl,e⟩
   ·injection e with e1 _; rw [e1]
   ·exact nomatch e
  ·rcases bZ hb with ⟨j,u,rfl,e⟩ | ⟨y,u,rfl,e⟩
   ·exact nomatch e
   ·injection e with e1 _; rw [e1]
 byValue:=λk v h=>by
  rcases bZ h with ⟨i,t,rfl,rfl⟩ | ⟨x,t,rfl,rfl⟩ <;> rfl
 pyHash:=λhv h=>by
  rcases bZ hv with ⟨i,t,rfl,rfl⟩ | ⟨x,t,rfl,rfl⟩
  ·exact wpAny_pyHash_int h
  ·exact wpAny_pyHash_str h
 eqBool:=λhu hv h=>by
  rcases bZ hu with ⟨i,t,rfl,rfl⟩ | ⟨x,t,rfl,rfl⟩
  ·rcases bZ hv with ⟨j,u,rfl,rfl⟩ | ⟨y,u,rfl,rfl⟩
   ·rw [T2] at h; exact wpAny_eqBool_int h
   ·rw [T4] at h; exact SeqAt.EqAt.int_str i t y u _ _ _ _ h
  ·rcases bZ hv with ⟨j,u,rfl,rfl⟩ | ⟨y,u,rfl,rfl⟩
   ·rw [T5] at h; exact SeqAt.EqAt.str_int x t j u _ _ _ _ h
   ·rw [T3] at h; exact wpAny_eqBool_str h
 «strs»:=λk x t v h=>by
  rcases bZ h with ⟨i,u,rfl,e⟩ | ⟨y,u,rfl,e⟩
  ·exact nomatch e
  ·injection e with e1 _
   subst e1
   cases v <;> rfl
theorem yj (prog:Program) (w:World) (i:Int) (t:Tok):(bp prog w).is (.inl i) (.int i t)=true:=Hj i t
theorem yk (prog:Program) (w:World) (x:Str) (t:Tok):(bp prog w).is (.inr x) (.str x t)=true:=Hk x t
inductive V where
 | bN | bl (b:Bool) | int (i:Int) | str (x:Str) | II (b:Array UInt8) | T6 (b:UInt64) | ref (a:Addr) | ty (n:String)
 deriving DecidableEq
noncomputable def RelV:V->Value->Prop
 | .bN,u=>u=Value.none
 | .bl b,u=>u=Value.bool b
 | .int i,u=>∃t,u=Value.int i t
 | .str x,u=>∃t,u=Value.str x t
 | .II b,u=>∃t,u=Value.bytes b t
 | .T6 b,u=>∃t,u=Value.float b t
 | .ref a,u=>u=Value.ref a
 | .ty n,u=>u=Value.type n
noncomputable abbrev Vals:List V->List Value->Prop:=Paired RelV
theorem Vals.length {xs:List V}{us:List Value}(r:Vals xs us):xs.length=us.length:=Paired.length r
theorem Vals.get:∀{xs:List V}{us:List Value}{i:Nat}{x:V},Vals xs us->xs[i]?=some x->∃u,us[i]?=some u/\RelV x u
 | _,_,_,_,.nil,e=>by simp at e
 | _,_,0,_,.cons r _,e=>by simp at e; subst e; exact⟨_,rfl,r⟩
 | _,_,i+1,x,.cons _ t,e=>by
  obtain⟨u,h1,h2⟩:=Vals.get (i:=i) (x:=x) t (by simpa using e);exact⟨u,by simpa using h1,h2⟩
theorem Vals.set {x:V}{u:Value}(r:RelV x u):∀{xs:List V}{us:List Value}(i:Nat),Vals xs us->Vals (xs.set i x) (us.set i u)
 | _,_,_,.nil=>.nil
 | _,_,0,.cons _ t=>.cons r t
 | _,_,i+1,.cons q t=>.cons q (Vals.set r i t)
theorem Vals.append:∀{xs ys:List V}{us ws:List Value},Vals xs us->Vals ys ws->Vals (xs++ys) (us++ws)
 | _,_,_,_,.nil,s=>s
 | _,_,_,_,.cons r t,s=>.cons r (Vals.append t s)
theorem Vals.take:∀{xs:List V}{us:List Value}(n:Nat),Vals xs us->Vals (xs.take n) (us.take n)
 | _,_,0,_=>.nil
 | _,_,_+1,.nil=>.nil
 | _,_,n+1,.cons r t=>.cons r (Vals.take n t)
theorem Vals.drop:∀{xs:List V}{us:List Value}(n:Nat),Vals xs us->Vals (xs.drop n) (us.drop n)
 | _,_,0,r=>r
 | _,_,_+1,.nil=>.nil
 | _,_,n+1,.cons _ t=>Vals.drop n t
noncomputable def iG:Option V->Option Value->Prop
 | some v,some u=>RelV v u
 | none,none=>True
 | _,_=>False
noncomputable def KV {κ:Type}:List (κ×V)->List (κ×Value)->Prop:=Paired λ(p:κ×V) (q:κ×Value)=>p.1=q.1/\RelV p.2 q.2
noncomputable def kV:Key->V
 | .inl i=>.int i
 | .inr x=>.str x
inductive HO where
 
 | lst (xs:List V)
 
 | tup (xs:List V)
 
 | dK (kvs:List (Key×V)) | dT (kvs:List (List Key×V))
 
 | set (S:Int->Bool) (n:Nat)
 
 | ins (C dx:Addr) (fs:List (Str×V))
 
 | own (x:Addr)
 
 | xd (fs:List (Str×V))
 
 | met (f x:Addr)
 
 | rng (lo hi:Int)
 
 | fI (o:Obj) (u:HO)
 
 | T7 (ps:Array Value)
 
 | ext (φ:Heap->Prop)
noncomputable abbrev Hp:=Addr->Option HO
noncomputable def upd (H:Hp) (a:Addr) (o:HO):Hp:=λb=>if b=a then some o else H b
theorem ae {H:Hp}{a:Addr}{o:HO}:upd H a o a=some o:=by unfold upd; rw [if_pos rfl]
theorem au {H:Hp}{a b:Addr}{o:HO}(h:b≠a):upd H a o b=H b:=by unfold upd; rw [if_neg h]
theorem vw {H:Hp}{a:Addr}{o u:HO}:upd (upd H a o) a u=upd H a u:=by
 funext b; unfold upd; split <;> rfl
theorem oH {H:Hp}{a b:Addr}{o u:HO}(h:H a=some o) (h':H b=some u) (d:o≠u):a≠b:=by
 intro e; subst e; rw [h] at h'; exact d (Option.some.inj h')
theorem aC {H:Hp}{a b:Addr}{o:HO}(h:H a=some o) (h':H b=none):a≠b:=by
 intro e; subst e; rw [h] at h'; cases h'
section
variable (P:Program) (w:World)
noncomputable def cR (H:Hp) (h:Heap) (a:Addr):HO->Prop
 | .lst xs=>xs.length<=sizeLine/\∃(bF:List Value) (n:Nat),Vals xs bF/\h.get? a=some {cls:=.type "list",data:=.seq bF.toArray n}
 | .tup xs=>xs.length<=sizeLine/\∃bF:List Value,Vals xs bF/\IsTup h a bF.toArray
 | .dK kvs=>kvs.length<=sizeLine/\(a == sysModules)=false/\∃vs,KV kvs vs/\h.DictOf (bp P w) a vs
 | .dT kvs=>kvs.length<=sizeLine/\(a == sysModules)=false/\∃xs:List (List Key×Addr×Value),
   Paired (λ(p:List Key×V) (q:List Key×Addr×Value)=>p.1=q.1/\H q.2.1=some (.tup (p.1.map kV))/\RelV p.2 q.2.2) kvs xs /\
   ∃o es ep,h.get? a=some o/\o.ExactDict/\o.data=.dict es ep/\es.toList=xs.map (entryOfKey (tupleKind (bp P w)))/\(xs.map (·.1)).Nodup
 | .set S n=>h.SetOf (intKind P w) a S n
 | .ins C dx fs=>H dx=some (.own a)/\fs.length<=1000/\dx≠a/\h.get? a=some (PySem.W.instObj C dx) /\
   ∃mA,h.Ns1 dx mA/\(∀f,iG (fs.lookup f) (mA f))/\PySem.Within mA (fs.map (·.1))
 | .own _=>∃o,h.get? a=some o
 | .xd fs=>∃mA,h.Ns1 a mA/\∀f,iG (fs.lookup f) (mA f)
 | .rng lo hi=>∃t u v,h.get? a=some {cls:=.type "range",data:=.fields #[.int lo t,.int hi u,.int 1 v]}
 | .fI o u=>h.get? a=some o/\cR H h a u
 | .T7 ps=>h.get? a=some {cls:=.none,data:=.fields ps}
 | .met f x=>h.get? a=some (PySem.W.methodObj (.ref f) (.ref x))
 | .ext φ=>φ h/\(∃o,h.get? a=some o)/\∀h1 h2:Heap,φ h1->(∀o,h1.get? a=some o->h2.get? a=some o)->φ h2
noncomputable def kT (H:Hp) (h:Heap):Prop:=∀a o,H a=some o->cR P w H h a o
end
section
variable {P:Program}{w:World}{H H':Hp}{h h':Heap}{a:Addr}{o:HO}
theorem cR.lt (x:cR P w H h a o):a < h.objs.size:=by
 cases o with
 | lst xs=>obtain⟨_,_,_,_,e⟩:=x; exact lt_size e
 | tup xs=>obtain⟨_,_,_,p⟩:=x; exact p.lt
 | dK kvs=>obtain⟨_,_,_,_,o,_,_,e,_⟩:=x; exact lt_size e
 | dT kvs=>obtain⟨_,_,_,_,o,_,_,e,_⟩:=x; exact lt_size e
 | set S n=>obtain⟨o,_,_,_,e,_⟩:=x; exact lt_size e
 | ins C dx fs=>obtain⟨_,_,_,e,_⟩:=x; exact lt_size e
 | own y=>obtain⟨_,e⟩:=x; exact lt_size e
 | xd fs=>obtain⟨_,⟨_,_,_,e,_⟩,_⟩:=x; exact lt_size e
 | rng lo hi=>obtain⟨_,_,_,e⟩:=x; exact lt_size e
 | fI ob u=>obtain⟨e,_⟩:=x; exact lt_size e
 | T7 ps=>exact lt_size (show h.get? a=some _ from x)
 | met f y=>exact lt_size (show h.get? a=some _ from x)
 | ext φ=>obtain⟨_,⟨_,e⟩,_⟩:=x; exact lt_size e
theorem Paired.T8 {α β:Type}{F G:α->β->Prop}:∀{l₁:List α}{l₂:List β},Paired F l₁ l₂->(∀a b,F a b->G a b)->Paired G l₁ l₂
 | _,_,.nil,_=>.nil
 | _,_,.cons r t,f=>.cons (f _ _ r) (Paired.T8 t f)
theorem cR.Dq (x:cR P w H h a o) (k:∀b u,(b=a\/H b=some (.own a))->h.get? b=some u->h'.get? b=some u)
  (ho:∀b,H b=some (.own a)->H' b=some (.own a)) (ht:∀b xs,H b=some (.tup xs)->H' b=some (.tup xs)):cR P w H' h' a o:=by
 induction o with
 | lst xs=>obtain⟨z,bF,n,r,e⟩:=x; exact⟨z,bF,n,r,k _ _ (.inl rfl) e⟩
 | tup xs=>obtain⟨z,bF,r,ob,e,c⟩:=x; exact⟨z,bF,r,ob,k _ _ (.inl rfl) e,c⟩
 | dK kvs=>obtain⟨z,y,vs,r,ob,es,ep,e,c⟩:=x; exact⟨z,y,vs,r,ob,es,ep,k _ _ (.inl rfl) e,c⟩
 | dT kvs=>
  obtain⟨z,y,xs,r,ob,es,ep,e,c⟩:=x;exact⟨z,y,xs,Paired.T8 r λp q z=>⟨z.1,ht _ _ z.2.1,z.2.2⟩,ob,es,ep,k _ _ (.inl rfl) e,c⟩
 | set S n=>obtain⟨ob,es,ep,t,e,c⟩:=x; exact⟨ob,es,ep,t,k _ _ (.inl rfl) e,c⟩
 | ins C dx fs=>
  obtain⟨d,z,ne,e,mA,⟨od,es,ep,e2,c⟩,r⟩:=x;exact⟨ho _ d,z,ne,k _ _ (.inl rfl) e,mA,⟨od,es,ep,k _ _ (.inr d) e2,c⟩,r⟩
 | own y=>obtain⟨ob,e⟩:=x; exact⟨ob,k _ _ (.inl rfl) e⟩
 | xd fs=>obtain⟨mA,⟨od,es,ep,e,c⟩,r⟩:=x; exact⟨mA,⟨od,es,ep,k _ _ (.inl rfl) e,c⟩,r⟩
 | rng lo hi=>obtain⟨t,u,v,e⟩:=x; exact⟨t,u,v,k _ _ (.inl rfl) e⟩
 | fI ob u ih=>obtain⟨e,q⟩:=x; exact⟨k _ _ (.inl rfl) e,ih q⟩
 | T7 ps=>
  have e:h.get? a=some {cls:=.none,data:=.fields ps}:=x;show h'.get? a=some {cls:=.none,data:=.fields ps};exact k a _ (.inl rfl) e
 | met f y=>
  have e:h.get? a=some (PySem.W.methodObj (.ref f) (.ref y)):=x;show h'.get? a=some (PySem.W.methodObj (.ref f) (.ref y));exact k a _ (.inl rfl) e
 | ext φ=>obtain⟨p,⟨o,e⟩,st⟩:=x; exact⟨st _ _ p λo q=>k _ _ (.inl rfl) q,⟨o,k _ _ (.inl rfl) e⟩,st⟩
theorem kT.lt (x:kT P w H h) (e:H a=some o):a < h.objs.size:=(x a o e).lt
theorem kT.fresh (x:kT P w H h) (e:h.objs.size<=a):H a=none:=by
 cases q:H a with
 | none=>rfl
 | some u=>exact absurd (Nat.lt_of_lt_of_le (x.lt q) e) (Nat.lt_irrefl _)
theorem kT.kept (x:kT P w H h) (k:∀b u,h.get? b=some u->h'.get? b=some u):kT P w H h':=λa o e=>
 (x a o e).Dq (λb u _ q=>k b u q) (λ_ q=>q) λ_ _ q=>q
theorem kT.laid (x:kT P w H h) (k:∀b u,h.get? b=some u->h'.get? b=some u) (hp:h.objs.size<=a) (new:cR P w (upd H a o) h' a o):kT P w (upd H a o) h':=λb u e=>by
 have hn:=x.fresh hp
 by_cases hb:b=a
 ·subst hb; rw [ae] at e; cases e; exact new
 ·rw [au hb] at e;exact(x b u e).Dq (λc v _ q=>k c v q) (λc q=>by rw [au (aC q hn)]; exact q) λc xs q=>by rw [au (aC q hn)]; exact q
end
noncomputable def Rd (H:Hp) (a:Addr) (u:HO):Prop:=H a=some u\/∃o,H a=some (.fI o u)
theorem Rd.ok {P:Program}{w:World}{H:Hp}{h:Heap}{a:Addr}{u:HO}(r:Rd H a u) (x:kT P w H h):cR P w H h a u:=by
 rcases r with r | ⟨o,r⟩
 ·exact x a u r
 ·obtain⟨_,q⟩:=x a _ r;exact q
noncomputable def YG:Option HO->Prop
 | some (.lst _)=>True
 | some (.dK _)=>True
 | some (.dT _)=>True
 | some (.set _ _)=>True
 | some (.ins _ _ _)=>True
 | some (.ext _)=>True
 | _=>False
section
variable {P:Program}{w:World}{H:Hp}{h h':Heap}{x e:Addr}{o':HO}
theorem kT.write (ok:kT P w H h) (mu:YG (H x)) (he:e=x\/H e=some (.own x)) (k:∀b u,b≠e->h.get? b=some u->h'.get? b=some u) (X_:∃u,h'.get? e=some u)
  (new:cR P w (upd H x o') h' x o'):kT P w (upd H x o') h':=λb u q=>by
 have YH:∀c y,H c=some (.own y)->c≠x:=λc y r z=>by subst z; rw [r] at mu; exact mu
 have T9:∀c xs,H c=some (.tup xs)->c≠x:=λc xs r z=>by subst z; rw [r] at mu; exact mu
 by_cases hb:b=x
 ·subst hb; rw [ae] at q; cases q; exact new
 ·rw [au hb] at q
  by_cases T_:b=e
  ·have q':H b=some (.own x):=by
    rcases he with z | z
    ·exact absurd (T_.trans z) hb
    ·rw [T_]; exact z
   rw [q] at q'; cases q'
   obtain⟨v,hv⟩:=X_;exact⟨v,by rw [T_]; exact hv⟩
  ·refine(ok b u q).Dq (λc v hc r=>k c v ?_ r) (λc r=>by rw [au (YH c b r)]; exact r) λc xs r=>by rw [au (T9 c xs r)]; exact r
   rcases hc with rfl | hc
   ·exact T_
   ·rintro rfl;rcases he with z | z
    ·exact YH c b hc z
    ·rw [hc] at z; cases z; exact hb rfl
end
structure Un (fs ex:List Addr) (H H':Hp) (h h':Heap):Prop where
 keep:∀b o,h.get? b=some o->H b=none->b∉fs->b∉ex->h'.get? b=some o
 slot:∀b o,h.get? b=some o->H b=none->b∈fs->b∉ex->∃sl,h'.get? b=some {o with slots:=sl}
 free:∀b o,h.get? b=some o->H b=none->b∉ex->H' b=none
 there:∀b o,h.get? b=some o->b∉ex->∃o',h'.get? b=some o'
 sN:∀b xs,H b=some (.tup xs)->H' b=some (.tup xs)
 qh:∀b o u,H b=some (.fI o u)->H' b=some (.fI o u)
 sO:∀b ps,H b=some (.T7 ps)->∃more,H' b=some (.T7 (ps++more))
section
variable {fs fs' ex ex':List Addr}{H H1 H2:Hp}{h h1 h2 h':Heap}{a x e:Addr}{o:HO}
theorem Un.any (u:Un fs ex H H1 h h1) {b:Addr}{ob:Obj}(q:h.get? b=some ob) (n:H b=none) (hx:b∉ex):∃sl,h1.get? b=some {ob with slots:=sl}:=by
 by_cases hb:b∈fs
 ·exact u.slot b ob q n hb hx
 ·exact⟨ob.slots,u.keep b ob q n hb hx⟩
theorem Un.kept (k:∀b u,h.get? b=some u->h'.get? b=some u):Un fs ex H H h h':=
 ⟨λb ob q _ _ _=>k b ob q,λb ob q _ _ _=>⟨ob.slots,k b ob q⟩,λ_ _ _ n _=>n,λb ob q _=>⟨ob,k b ob q⟩,λ_ _ q=>q,λ_ _ _ q=>q,λ_ ps q=>⟨#[],by rw [q]; simp⟩⟩
theorem Un.refl:Un fs ex H H h h:=Un.kept λ_ _ q=>q
theorem Un.laid (k:∀b u,h.get? b=some u->h'.get? b=some u) (hp:h.objs.size<=a) (hn:H a=none):Un fs ex H (upd H a o) h h' where
 keep:=λb u q _ _ _=>k b u q
 slot:=λb u q _ _ _=>⟨u.slots,k b u q⟩
 free:=λb u q n _=>by rw [au (Nat.ne_of_lt (Nat.lt_of_lt_of_le (lt_size q) hp))]; exact n
 there:=λb u q _=>⟨u,k b u q⟩
 sN:=λb xs q=>by rw [au (aC q hn)]; exact q
 qh:=λb u xs q=>by rw [au (aC q hn)]; exact q
 sO:=λb ps q=>⟨#[],by rw [au (aC q hn),q]; simp⟩
theorem Un.write (mu:YG (H x)) (he:e=x\/H e=some (.own x)) (k:∀b u,b≠e->h.get? b=some u->h'.get? b=some u) (X_:∃u,h'.get? e=some u):Un fs ex H (upd H x o) h h':=by
 have hx:∀b,H b=none->b≠x:=λb n z=>by subst z; rw [n] at mu; exact mu
 have hb:∀b,H b=none->b≠e:=λb n z=>by
  subst z;rcases he with r | r
  ·exact hx b n r
  ·rw [n] at r; cases r
 have hm:∀b u,H b=some u->¬YG (some u)->b≠x:=λb u q nm z=>by subst z; rw [q] at mu; exact nm mu
 refine⟨λb u q n _ _=>k b u (hb b n) q,λb u q n _ _=>⟨u.slots,k b u (hb b n) q⟩,λb u q n _=>by rw [au (hx b n)]; exact n,λb u q _=>?_,
  λb xs q=>by rw [au (hm b _ q λz=>z)]; exact q,λb u xs q=>by rw [au (hm b _ q λz=>z)]; exact q,λb ps q=>⟨#[],by rw [au (hm b _ q λz=>z),q]; simp⟩⟩
 by_cases T_:b=e
 ·subst T_; exact X_
 ·exact⟨u,k b u T_ q⟩
end
noncomputable def trk (h:Heap) (H:Hp):List Addr:=(List.range h.objs.size).filter λa=>(H a).isSome
noncomputable def vx (h:Heap) (H:Hp):Heap:=PySem.W.hideAll h (trk h H)
theorem Hl (h:Heap) (H:Hp):(vx h H).objs.size=h.objs.size:=PySem.W.hideAll_size _ _
theorem IW {h:Heap}{H:Hp}{b:Addr}{o:Obj}(e:h.get? b=some o) (n:H b=none):(vx h H).get? b=some o:=
 PySem.W.hideAll_get _ e λhm=>by
  have q:(H b).isSome=true:=(List.mem_filter.mp hm).2;rw [n] at q; simp at q
theorem O6 {h:Heap}{H:Hp}{b:Addr}{o:Obj}(e:(vx h H).get? b=some o):h.get? b=some o/\H b=none:=by
 have e':h.get? b=some o:=PySem.W.of_hideAll (trk h H) e;refine⟨e',?_⟩
 cases q:H b with
 | none=>rfl
 | some x=>
  have hm:b∈trk h H:=List.mem_filter.mpr ⟨List.mem_range.mpr (lt_size e'),by simp [q]⟩;have z:(vx h H).get? b=none:=PySem.W.hideAll_none (trk h H) hm;rw [z] at e; cases e
noncomputable def O7 (g h:Heap) (L:Addr):List (Addr×Obj):=(List.range h.objs.size).filterMap λa=>if a=L\/(g.get? a).isSome=true then none else(h.get? a).map λo=>(a,o)
noncomputable def rest (g h:Heap) (L d:Addr):List (Addr×Obj):=(O7 g h L).filter λp=>decide (p.1≠d)
structure Mod (K:Frag) (mg:Str->Option Value) (base:Heap):Prop where
 Ua:K.In base
 glob:base.Ns mainGlobals mg
 blt:∃mb,base.Ns builtinsNs mb/\∀x:Str,x≠"__name__"->mb x=bootBuiltins x
 nolimit:base.NoLimit
structure Cx where
 prog:Program
 w:World
 K:Frag
 mg:Str->Option Value
 base:Heap
 A:Around
 N:List Str
 s₀:Shared
 H₀:Hp
 env:Env
 outer:List Env
 stack:List Env
 ex:List Addr
 fn:Str->Bool
 calm:Bool
 pn:List (Addr×Obj)
 xe:Value->Shared->Prop
noncomputable def IJ (l:List Env):List Addr:=l.filterMap (·.frame)
noncomputable abbrev Cx.fs (X:Cx):List Addr:=IJ X.outer
noncomputable def YI (sc:Scope) (x:Str):Prop:=sc.names.lookup x=some .local\/sc.names.lookup x=some .cell\/sc.names.lookup x=some .free
noncomputable def Loc (sc:Scope) (x:Str):Prop:=sc.names.lookup x=some .local\/sc.names.lookup x=some .cell
noncomputable def Look (env:Env) (h:Heap) (m:Str->Option Value) (x:Str) (u:Value):Prop:=
 (env.kindOf x=some .local/\m x=some u)\/((env.kindOf x=some .cell\/env.kindOf x=some .free)/\∃c,env.cells.lookup x=some c/\h.IsCell c (some u))
structure Cx.Ok (X:Cx):Prop where
 mod:Mod X.K X.mg X.base
 kind:X.env.scope.kind=.function
 glob:X.env.globals=mainGlobals
 blt:X.env.builtins=builtinsNs
 above:X.s₀.heap.objs.size<=X.env.locals
 inj:∀x y c,X.env.cells.lookup x=some c->X.env.cells.lookup y=some c->x=y
 has:∀x,(X.env.kindOf x=some .cell\/X.env.kindOf x=some .free)->∃c,X.env.cells.lookup x=some c
 Ub:∀x c,X.fn x=true->X.env.cells.lookup x=some c->X.s₀.heap.objs.size<=c
 hd:X.calm=true->X.A.handled=none
 frames:X.A.frames=some X.stack
 Ya:X.stack=X.outer\/(X.stack=X.env::X.outer/\X.env.frame=some X.env.locals)
 QI:∀b∈X.ex,b≠X.env.locals/\∀x c,X.env.cells.lookup x=some c->c≠b
 bs:∀b o,X.base.get? b=some o->X.s₀.heap.get? b=some o/\X.H₀ b=none
 Hm:X.base.objs.size<=X.s₀.heap.objs.size
 yl:∀b o,X.base.get? b=some o->b∉X.ex
 ym:∀b∈X.ex,b∉X.fs
 lW:X.s₀.heap.FunFrames X.base X.outer
 O8:∀b∈X.fs,X.H₀ b=none
structure Inv (X:Cx) (pins:List (Addr×Obj)) (σ:List (Option V)) (H:Hp) (s:Shared):Prop where
 ok:X.Ok
 os:s.os=X.s₀.os
 bare:AllBare s.gens
 base:Un X.fs X.ex X.H₀ H X.s₀.heap s.heap
 loc:∃m,s.heap.Ns X.env.locals m/\∀(i:Nat) (x:Str) (v:V),X.N[i]?=some x->σ[i]?=some (some v)->YI X.env.scope x->∃u,RelV v u/\Look X.env s.heap m x u
 cell:∀x c,X.env.cells.lookup x=some c->∃v,s.heap.IsCell c v
 free:H X.env.locals=none
 gi:∀x c,X.env.cells.lookup x=some c->H c=none
 pin:∀p∈X.pn++pins,s.heap.get? p.1=some p.2/\H p.1=none/\p.1≠X.env.locals/\p.1∉X.fs/\∀v,p.2.data≠.cell v
 bV:kT X.prog X.w H s.heap
 len:σ.length=X.N.length
section
variable {X:Cx}{pins:List (Addr×Obj)}{σ:List (Option V)}{H H':Hp}{s:Shared}{h':Heap}
theorem Cx.Ok.adG (ok:X.Ok) {b:Addr}{o:Obj}(e:X.base.get? b=some o):b∉X.fs:=λhb=>by
 have:=(ok.lW.mem hb).1;rw [e] at this; cases this
theorem Inv.bs (I:Inv X pins σ H s):∀b o,X.base.get? b=some o->s.heap.get? b=some o/\H b=none:=λb o e=>
 ⟨I.base.keep b o (I.ok.bs b o e).1 (I.ok.bs b o e).2 (I.ok.adG e) (I.ok.yl b o e),I.base.free b o (I.ok.bs b o e).1 (I.ok.bs b o e).2 (I.ok.yl b o e)⟩
theorem Inv.bk (I:Inv X pins σ H s):∀b o,X.base.get? b=some o->s.heap.get? b=some o:=λb o e=>(I.bs b o e).1
theorem Inv.mod (I:Inv X pins σ H s):Mod X.K X.mg X.base:=I.ok.mod
theorem Inv.iT (I:Inv X pins σ H s):X.K.In s.heap:=I.ok.mod.Ua.keeps I.bk
theorem Inv.lt (I:Inv X pins σ H s):X.env.locals < s.heap.objs.size:=let ⟨_,hn,_⟩:=I.loc; hn.lt
theorem Inv.sz (I:Inv X pins σ H s):X.s₀.heap.objs.size<=s.heap.objs.size:=Nat.le_trans I.ok.above (Nat.le_of_lt I.lt)
theorem Inv.Uc (I:Inv X pins σ H s) {a:Addr}(h:s.heap.objs.size<=a):a∉X.fs:=λhb=>by
 obtain⟨_,o,ho,_⟩:=I.ok.lW.mem hb;exact absurd (Nat.lt_of_lt_of_le (lt_size ho) (Nat.le_trans I.sz h)) (Nat.lt_irrefl _)
theorem Inv.Ud (I:Inv X pins σ H s):∀x c,X.env.cells.lookup x=some c->c≠X.env.locals:=λx c e z=>by
 obtain⟨v,o,ho,hd⟩:=I.cell x c e;obtain⟨m,⟨o',es,ep,Dg,yn,_⟩,_⟩:=I.loc;rw [z,Dg] at ho; cases ho; rw [yn] at hd; cases hd
theorem Inv.lW (I:Inv X pins σ H s):s.heap.FunFrames X.base X.outer:=by
 have all:∀(l:List Env),(∀b∈IJ l,b∈X.fs)->X.s₀.heap.FunFrames X.base l->s.heap.FunFrames X.base l:=by
  intro l;induction l with
  | nil=>intro _ _; trivial
  | cons env r ih=>
   intro hs hl;obtain⟨hk,⟨L,o,hf,hn,ho,hd⟩,hr⟩:=hl;have hL:L∈X.fs:=hs L (by unfold IJ; rw [List.filterMap_cons,hf]; exact mem_cons_self);obtain⟨sl,e⟩:=I.base.slot L o ho (I.ok.O8 L hL) hL λz=>I.ok.ym L z hL
   exact⟨hk,⟨L,_,hf,hn,e,hd⟩,ih (λb hb=>hs b (by unfold IJ; rw [List.filterMap_cons,hf]; exact mem_cons_of_mem _ hb)) hr⟩
 exact all X.outer (λ_ hb=>hb) I.ok.lW
theorem Inv.stack (I:Inv X pins σ H s):s.heap.FunFrames X.base X.stack:=by
 rcases I.ok.Ya with e | ⟨e,hf⟩
 ·rw [e]; exact I.lW
 ·rw [e];obtain⟨m,hn,_⟩:=I.loc;refine .cons (by rw [I.ok.kind]; decide) hf hn ?_ I.lW;exact Heap.get?_none_of_le (Nat.le_trans I.ok.Hm I.ok.above)
theorem Inv.vy (I:Inv X pins σ H s):∀b∈IJ X.stack,b∈X.env.locals::X.fs:=λb hb=>by
 rcases I.ok.Ya with e | ⟨e,hf⟩
 ·rw [e] at hb; exact mem_cons_of_mem _ hb
 ·rw [e] at hb;unfold IJ at hb;rw [List.filterMap_cons,hf] at hb;exact hb
theorem Inv.vz (I:Inv X pins σ H s):∀b∈IJ X.stack,H b=none:=λb hb=>by
 rcases mem_cons.mp (I.vy b hb)with e | hb
 ·rw [e]; exact I.free
 ·obtain⟨_,o,ho,_⟩:=I.ok.lW.mem hb;exact I.base.free b o ho (I.ok.O8 b hb) λz=>I.ok.ym b z hb
theorem Inv.step {g':Array GenState}{t':Nat}{d':Drawn}{ch:List Addr}(I:Inv X pins σ H s)
  (OX:∀b∈ch,(b∈X.ex\/X.s₀.heap.objs.size<=b)/\b≠X.env.locals/\(∀x c,X.env.cells.lookup x=some c->c≠b)/\∀p∈X.pn++pins,p.1≠b)
  (keep:∀b o,b≠X.env.locals->b∉X.fs->b∉ch->s.heap.get? b=some o->H b=none->h'.get? b=some o)
  (slot:∀b o,b≠X.env.locals->b∈X.fs->b∉ch->s.heap.get? b=some o->H b=none->∃sl,h'.get? b=some {o with slots:=sl}) (free:∀b o,b∉ch->s.heap.get? b=some o->H b=none->H' b=none)
  (there:∀b o,b∉ch->s.heap.get? b=some o->∃o',h'.get? b=some o')
  (sN:∀b xs,H b=some (.tup xs)->H' b=some (.tup xs)) (qh:∀b o u,H b=some (.fI o u)->H' b=some (.fI o u)) (sO:∀b ps,H b=some (.T7 ps)->∃more,H' b=some (.T7 (ps++more)))
  (ns:∀m,s.heap.Ns X.env.locals m->h'.Ns X.env.locals m) (bV:kT X.prog X.w H' h') (hg:AllBare g') :
  Inv X pins σ H' {s with heap:=h',gens:=g',drawn:=d',toks:=t'}:=by
 have neL:∀b o,X.s₀.heap.get? b=some o->b≠X.env.locals:=λb o e=>Nat.ne_of_lt (Nat.lt_of_lt_of_le (lt_size e) I.ok.above)
 have neC:∀b o,X.s₀.heap.get? b=some o->b∉X.ex->b∉ch:=λb o e hx hb=>by
  rcases (OX b hb).1 with z | z
  ·exact hx z
  ·exact absurd (Nat.lt_of_lt_of_le (lt_size e) z) (Nat.lt_irrefl _)
 have cellK:∀x c,X.env.cells.lookup x=some c->∀v,s.heap.IsCell c v->h'.IsCell c v:=λx c e v ⟨o,ho,hd⟩=>by
  have O9:c∉ch:=λz=>(OX c z).2.2.1 x c e rfl
  by_cases hc:c∈X.fs
  ·obtain⟨sl,q⟩:=slot c o (I.Ud x c e) hc O9 ho (I.gi x c e);exact⟨_,q,hd⟩
  ·exact⟨o,keep c o (I.Ud x c e) hc O9 ho (I.gi x c e),hd⟩
 refine⟨I.ok,I.os,hg,⟨λb o e n hb hx=>?_,λb o e n hb hx=>?_,λb o e n hx=>?_,λb o e hx=>?_,λb xs e=>sN b xs (I.base.sN b xs e),λb o xs e=>qh b o xs (I.base.qh b o xs e),λb ps e=>?_⟩,?_,λx c e=>?_,?_,λx c e=>?_,λp hp=>?_,bV,I.len⟩
 ·exact keep b o (neL b o e) hb (neC b o e hx) (I.base.keep b o e n hb hx) (I.base.free b o e n hx)
 ·obtain⟨sl,e1⟩:=I.base.slot b o e n hb hx;obtain⟨sl',e2⟩:=slot b _ (neL b o e) hb (neC b o e hx) e1 (I.base.free b o e n hx);exact⟨sl',e2⟩
 ·obtain⟨o',e1⟩:=I.base.there b o e hx;exact free b o' (neC b o e hx) e1 (I.base.free b o e n hx)
 ·obtain⟨o',e1⟩:=I.base.there b o e hx;exact there b o' (neC b o e hx) e1
 ·obtain⟨m1,e1⟩:=I.base.sO b ps e;obtain⟨m2,e2⟩:=sO b _ e1;exact⟨m1++m2,by rw [e2,Array.append_assoc]⟩
 ·obtain⟨m,hn,hl⟩:=I.loc;refine⟨m,ns m hn,λi x v e1 e2 e3=>?_⟩;obtain⟨u,r,l⟩:=hl i x v e1 e2 e3;refine⟨u,r,?_⟩;rcases l with l | ⟨k,c,e,z⟩
  ·exact .inl l
  ·exact .inr ⟨k,c,e,cellK x c e _ z⟩
 ·obtain⟨v,z⟩:=I.cell x c e;exact⟨v,cellK x c e v z⟩
 ·obtain⟨m,⟨o,_,_,ho,_⟩,_⟩:=I.loc;exact free _ o (λz=>(OX _ z).2.1 rfl) ho I.free
 ·obtain⟨v,o,ho,hd⟩:=I.cell x c e;exact free c o (λz=>(OX c z).2.2.1 x c e rfl) ho (I.gi x c e)
 ·obtain⟨e,n,ne,nf,d⟩:=I.pin p hp;have O9:p.1∉ch:=λz=>(OX p.1 z).2.2.2 p hp rfl
  exact⟨keep p.1 p.2 ne nf O9 e n,free p.1 p.2 O9 e n,ne,nf,d⟩
theorem Inv.un {t':Nat}(I:Inv X pins σ H s) (u:Un X.fs [] H H' s.heap h') (bV:kT X.prog X.w H' h'):Inv X pins σ H' {s with heap:=h',toks:=t'}:=by
 obtain⟨m,⟨o,es,ep,ho,r⟩,_⟩:=id I.loc;obtain⟨sl,hL⟩:=u.any ho I.free (by simp);exact I.step (g':=s.gens) (d':=s.drawn) (ch:=[]) (λ_ z=>nomatch z) (λb o _ hb _ e n=>u.keep b o e n hb (by simp)) (λb o _ hb _ e n=>u.slot b o e n hb (by simp)) (λb o _ e n=>u.free b o e n (by simp)) (λb o _ e=>u.there b o e (by simp)) u.sN u.qh u.sO (λm' hm=>by
  obtain⟨o',vA,ep',Dg,r'⟩:=hm;rw [ho] at Dg; cases Dg
  exact⟨_,vA,ep',hL,r'⟩) bV I.bare
theorem Inv.call {g':Array GenState}{t':Nat}{d':Drawn}{ch:List Addr}(I:Inv X pins σ H s) (u:Un (IJ X.stack) ch H H' s.heap h') (bV:kT X.prog X.w H' h') (hg:AllBare g')
  (OX:∀b∈ch,(b∈X.ex\/X.s₀.heap.objs.size<=b)/\b≠X.env.locals/\(∀x c,X.env.cells.lookup x=some c->c≠b)/\∀p∈X.pn++pins,p.1≠b) :
  Inv X pins σ H' {s with heap:=h',gens:=g',drawn:=d',toks:=t'}:=by
 obtain⟨m,⟨o,es,ep,ho,r⟩,_⟩:=id I.loc;obtain⟨sl,hL⟩:=u.any ho I.free λz=>(OX _ z).2.1 rfl
 exact I.step (ch:=ch) OX (λb o hL hb hc e n=>u.keep b o e n (λz=>(mem_cons.mp (I.vy b z)).elim hL hb) hc) (λb o _ _ hc e n=>u.any e n hc) (λb o hc e n=>u.free b o e n hc) (λb o hc e=>u.there b o e hc) u.sN u.qh u.sO (λm' hm=>by
  obtain⟨o',vA,ep',Dg,r'⟩:=hm;rw [ho] at Dg; cases Dg
  exact⟨_,vA,ep',hL,r'⟩) bV hg
theorem Inv.turned {t':Nat}{it:Addr}(I:Inv X pins σ H s) (k:∀b o,b≠it->s.heap.get? b=some o->h'.get? b=some o) (hn:H it=none) (hL:it≠X.env.locals)
  (h1:it∈X.ex\/X.s₀.heap.objs.size<=it) (h2:∀x c,X.env.cells.lookup x=some c->c≠it) (h3:∀p∈X.pn++pins,p.1≠it):Inv X pins σ H {s with heap:=h',toks:=t'}:=by
 have nit:∀b u,H b=some u->b≠it:=λb u e z=>by rw [z,hn] at e; cases e
 refine I.step (g':=s.gens) (d':=s.drawn) (ch:=[it]) (λb hb=>?_) (λb o _ _ hc e _=>k b o (λz=>hc (by simp [z])) e) (λb o _ _ hc e _=>⟨o.slots,k b o (λz=>hc (by simp [z])) e⟩) (λ_ _ _ _ n=>n)
  (λb o hc e=>⟨o,k b o (λz=>hc (by simp [z])) e⟩) (λ_ _ e=>e) (λ_ _ _ e=>e) (λb ps e=>⟨#[],by rw [e]; simp⟩) (λm hm=>?_) (λb u e=>?_) I.bare
 ·have e:b=it:=by simpa using hb
  subst e;exact⟨h1,hL,h2,h3⟩
 ·obtain⟨o,es,ep,ho,r⟩:=hm;exact⟨o,es,ep,k _ o (Ne.symm hL) ho,r⟩
 ·refine(I.bV b u e).Dq (λc v hc q=>k c v ?_ q) (λ_ q=>q) λ_ _ q=>q
  rcases hc with z | z
  ·rw [z]; exact nit b u e
  ·exact nit c _ z
theorem Inv.tok (I:Inv X pins σ H s) (t:Nat):Inv X pins σ H {s with toks:=t}:=I.un (h':=s.heap) (t':=t) Un.refl I.bV
theorem Inv.kept {t':Nat}(I:Inv X pins σ H s) (k:∀b u,s.heap.get? b=some u->h'.get? b=some u):Inv X pins σ H {s with heap:=h',toks:=t'}:=I.un (Un.kept k) (I.bV.kept k)
theorem Inv.laid {a:Addr}{o:HO}{t':Nat}(I:Inv X pins σ H s) (k:∀b u,s.heap.get? b=some u->h'.get? b=some u) (hp:s.heap.objs.size<=a) (new:cR X.prog X.w (upd H a o) h' a o) :
  Inv X pins σ (upd H a o) {s with heap:=h',toks:=t'}:=I.un (Un.laid k hp (I.bV.fresh hp)) (I.bV.laid k hp new)
theorem Inv.write {x e:Addr}{o:HO}{t':Nat}(I:Inv X pins σ H s) (mu:YG (H x)) (he:e=x\/H e=some (.own x)) (k:∀b u,b≠e->s.heap.get? b=some u->h'.get? b=some u) (X_:∃u,h'.get? e=some u)
  (new:cR X.prog X.w (upd H x o) h' x o):Inv X pins σ (upd H x o) {s with heap:=h',toks:=t'}:=I.un (Un.write mu he k X_) (I.bV.write mu he k X_ new)
theorem Inv.pX {QJ:List (Addr×Obj)}(I:Inv X pins σ H s) (h:∀p∈QJ,s.heap.get? p.1=some p.2/\H p.1=none/\p.1≠X.env.locals/\p.1∉X.fs/\∀v,p.2.data≠.cell v):Inv X QJ σ H s:=
 ⟨I.ok,I.os,I.bare,I.base,I.loc,I.cell,I.free,I.gi,λp hp=>(mem_append.mp hp).elim (λz=>I.pin p (mem_append_left _ z)) (h p),I.bV,I.len⟩
theorem yo {N:List Str}(hN:N.Nodup) {i j:Nat}{x:Str}(a:N[i]?=some x) (b:N[j]?=some x):i=j:=by
 obtain⟨h1,e1⟩:=List.getElem?_eq_some_iff.mp a;obtain⟨h2,e2⟩:=List.getElem?_eq_some_iff.mp b;exact(List.getElem_inj hN).mp (e1.trans e2.symm)
theorem Hn {M:Model}{A:Around}{E:Value->Shared->Prop}{i:Nat}{x:Str}{v:V}{u:Value}{Q:Unit->Shared->Prop}(I:Inv X pins σ H s) (hN:X.N.Nodup) (hi:X.N[i]?=some x) (hx:Loc X.env.scope x) (r:RelV v u)
  (h:∀s',Inv X pins (σ.set i (some v)) H s'->(∃a,Heap.SameBut a s.heap s'.heap/\(a=X.env.locals\/X.env.cells.lookup x=some a))->Q () s') (hf:X.fn x=true\/X.env.scope.names.lookup x=some .local:=by first | exact .inl rfl | exact .inr rfl | assumption):wpAny M A (storeName X.env x u) Q E s:=by
 obtain⟨m,hn,hl⟩:=id I.loc;have adH:(X.env.scope.kind == .class || (X.env.scope.kind == .module&&X.env.locals != X.env.globals))=false:=by rw [I.ok.kind]; rfl
 have YJ:i < σ.length:=by rw [I.len]; exact(List.getElem?_eq_some_iff.mp hi).1
 have Ud:=I.Ud;have tracked:∀{a:Addr}{h':Heap},(∃o,s.heap.get? a=some o/\H a=none)->Heap.SameBut a s.heap h'->kT X.prog X.w H h':=λ{a h'} ha hs b ob e=>by
  obtain⟨_,_,QK⟩:=ha;refine(I.bV b ob e).Dq (λc w' hc q=>(hs.2 c ?_).trans q) (λ_ q=>q) λ_ _ q=>q
  rintro rfl;rcases hc with rfl | hc
  ·rw [QK] at e; cases e
  ·rw [QK] at hc; cases hc
 rcases hx with hk | hk
 ·refine wpAny_storeName_local hk hn (λh' hn' hs=>?_) adH;obtain⟨oL,_,_,O_,_⟩:=id hn;refine h _ ⟨I.ok,I.os,I.bare,⟨λb o e n hb hx=>?_,λb o e n hb hx=>?_,I.base.free,λb o e hx=>?_,I.base.sN,I.base.qh,I.base.sO⟩,⟨_,hn',λj y v' e1 e2 e3=>?_⟩,λy c e=>?_,I.free,I.gi,λp hp=>?_,tracked ⟨oL,O_,I.free⟩ hs,by simpa using I.len⟩ ⟨_,hs,.inl rfl⟩
  ·exact(hs.2 b (Nat.ne_of_lt (Nat.lt_of_lt_of_le (lt_size e) I.ok.above))).trans (I.base.keep b o e n hb hx)
  ·obtain⟨sl,e1⟩:=I.base.slot b o e n hb hx;exact⟨sl,(hs.2 b (Nat.ne_of_lt (Nat.lt_of_lt_of_le (lt_size e) I.ok.above))).trans e1⟩
  ·obtain⟨o',e1⟩:=I.base.there b o e hx;exact⟨o',(hs.2 b (Nat.ne_of_lt (Nat.lt_of_lt_of_le (lt_size e) I.ok.above))).trans e1⟩
  ·by_cases hj:j=i
   ·subst hj;rw [hi] at e1; cases e1
    rw [List.getElem?_set_self YJ] at e2;cases e2;exact⟨u,r,.inl ⟨hk,by simp⟩⟩
   ·rw [List.getElem?_set_ne (Ne.symm hj)] at e2;obtain⟨u',r',q⟩:=hl j y v' e1 e2 e3;refine⟨u',r',?_⟩;rcases q with ⟨k,e⟩ | ⟨k,c,e,z⟩
    ·refine .inl ⟨k,?_⟩;have:y≠x:=λe=>hj (yo hN e1 (e▸hi))
     simp [this,e]
    ·exact .inr ⟨k,c,e,z.sameBut hs (Ud y c e)⟩
  ·obtain⟨w',z⟩:=I.cell y c e;exact⟨w',z.sameBut hs (Ud y c e)⟩
  ·obtain⟨e,n,ne,nf,d⟩:=I.pin p hp;exact⟨(hs.2 p.1 ne).trans e,n,ne,nf,d⟩
 ·have hfn:X.fn x=true:=by
   rcases hf with z | z
   ·exact z
   ·rw [z] at hk; cases hk
  obtain⟨c,hc⟩:=I.ok.has x (.inl hk);obtain⟨w',z⟩:=I.cell x c hc;refine wpAny_storeName_cell I.ok.kind hk hc z (λh' QL hs=>?_);obtain⟨oc,hoc,adI⟩:=id z;refine h {s with heap:=h'} ⟨I.ok,I.os,I.bare,⟨λb o e n hb hx=>?_,λb o e n hb hx=>?_,I.base.free,λb o e hx=>?_,I.base.sN,I.base.qh,I.base.sO⟩,⟨m,hn.sameBut hs (Ne.symm (Ud x c hc)),λj y v' e1 e2 e3=>?_⟩,λy c' e=>?_,I.free,I.gi,λp hp=>?_,tracked ⟨oc,hoc,I.gi x c hc⟩ hs,by simpa using I.len⟩ ⟨c,hs,.inr hc⟩
  ·exact(hs.2 b (Nat.ne_of_lt (Nat.lt_of_lt_of_le (lt_size e) (I.ok.Ub x c hfn hc)))).trans (I.base.keep b o e n hb hx)
  ·obtain⟨sl,e1⟩:=I.base.slot b o e n hb hx;exact⟨sl,(hs.2 b (Nat.ne_of_lt (Nat.lt_of_lt_of_le (lt_size e) (I.ok.Ub x c hfn hc)))).trans e1⟩
  ·obtain⟨o',e1⟩:=I.base.there b o e hx;exact⟨o',(hs.2 b (Nat.ne_of_lt (Nat.lt_of_lt_of_le (lt_size e) (I.ok.Ub x c hfn hc)))).trans e1⟩
  ·by_cases hj:j=i
   ·subst hj;rw [hi] at e1; cases e1
    rw [List.getElem?_set_self YJ] at e2;cases e2;exact⟨u,r,.inr ⟨.inl hk,c,hc,QL⟩⟩
   ·rw [List.getElem?_set_ne (Ne.symm hj)] at e2;obtain⟨u',r',q⟩:=hl j y v' e1 e2 e3;refine⟨u',r',?_⟩;rcases q with q | ⟨k,c',e,z'⟩
    ·exact .inl q
    ·refine .inr ⟨k,c',e,z'.sameBut hs ?_⟩;rintro rfl;exact hj (yo hN e1 (I.ok.inj _ _ _ e hc▸hi))
  ·by_cases hcc:c'=c
   ·subst hcc; exact⟨_,QL⟩
   ·obtain⟨w2,z2⟩:=I.cell y c' e;exact⟨w2,z2.sameBut hs hcc⟩
  ·obtain⟨e,n,ne,nf,d⟩:=I.pin p hp;refine⟨(hs.2 p.1 ?_).trans e,n,ne,nf,d⟩;intro q;rw [q,hoc] at e;have q':oc=p.2:=Option.some.inj e;exact d w' (by rw [<-q']; exact adI)
theorem jD {M:Model}{A:Around}{E:Value->Shared->Prop}{i:Nat}{x:Str}{v:V}{u:Value}{Q:Unit->Shared->Prop}(I:Inv X pins σ H s) (hN:X.N.Nodup) (hi:X.N[i]?=some x) (hx:Loc X.env.scope x) (r:RelV v u)
  (h:∀s',Inv X pins (σ.set i (some v)) H s'->Q () s') (hf:X.fn x=true\/X.env.scope.names.lookup x=some .local:=by first | exact .inl rfl | exact .inr rfl | assumption):wpAny M A (storeName X.env x u) Q E s:=
 Hn I hN hi hx r (λs' I' _=>h s' I') hf
theorem Inv.QM {s':Shared}{ch:List Addr}(I:Inv X pins σ H s) (ho:s'.os=s.os) (u:Un (IJ X.stack) ch H H' s.heap s'.heap) (bV:kT X.prog X.w H' s'.heap) (hg:AllBare s'.gens)
  (OX:∀b∈ch,(b∈X.ex\/X.s₀.heap.objs.size<=b)/\b≠X.env.locals/\(∀x c,X.env.cells.lookup x=some c->c≠b)/\∀p∈X.pn++pins,p.1≠b):Inv X pins σ H' s':=by
 obtain⟨h',g',d',t',o'⟩:=s';have e:o'=s.os:=ho;subst e;exact I.call (g':=g') (t':=t') (d':=d') u bV hg OX
end
noncomputable abbrev XK:=Value->Option Addr->Hp->Prop
noncomputable abbrev St:=List (Option V)
noncomputable abbrev VK:=V->Hp->Prop
noncomputable abbrev TE:=St->Hp->VK->Prop
noncomputable abbrev TT:=St->Hp->(Bool->Hp->Prop)->Prop
noncomputable abbrev TA:=St->Hp->(List V->Hp->Prop)->Prop
structure Ends where
 nx:St->Hp->Prop
 rt:VK
 bk:St->Hp->Prop:=λ_ _=>False
 ct:St->Hp->Prop:=λ_ _=>False
noncomputable abbrev TS:=Ends->St->Hp->Prop
noncomputable def EP (X:Cx) (pins:List (Addr×Obj)) (σ:St) (Q:VK) (u:Value) (s':Shared):Prop:=∃v H',Inv X pins σ H' s'/\RelV v u/\Q v H'
noncomputable def TP (X:Cx) (pins:List (Addr×Obj)) (σ:St) (Q:Bool->Hp->Prop) (b:Bool) (s':Shared):Prop:=∃H',Inv X pins σ H' s'/\Q b H'
noncomputable def AP (X:Cx) (pins:List (Addr×Obj)) (σ:St) (Q:List V->Hp->Prop) (us:List Value) (s':Shared):Prop:=∃vs H',Inv X pins σ H' s'/\Vals vs us/\Q vs H'
noncomputable def SP (X:Cx) (pins:List (Addr×Obj)) (D:Ends) (f:Flow) (s':Shared):Prop:=
 match f with
 | .next=>∃σ' H',Inv X pins σ' H' s'/\D.nx σ' H'
 | .brk=>∃σ' H',Inv X pins σ' H' s'/\D.bk σ' H'
 | .cont=>∃σ' H',Inv X pins σ' H' s'/\D.ct σ' H'
 | .ret u=>∃v σ' H',Inv X pins σ' H' s'/\RelV v u/\D.rt v H'
noncomputable def PE (X:Cx) (e:Expr) (t:TE):Prop:=
 ∀(pins:List (Addr×Obj)) (s:Shared) (σ:St) (H:Hp) (Q:VK),Inv X pins σ H s->t σ H Q->wpAny (model X.prog X.w) X.A (eval e X.env) (EP X pins σ Q) X.xe s
noncomputable def PT (X:Cx) (e:Expr) (t:TT):Prop:=
 ∀(pins:List (Addr×Obj)) (s:Shared) (σ:St) (H:Hp) (Q:Bool->Hp->Prop),Inv X pins σ H s->t σ H Q->wpAny (model X.prog X.w) X.A (isTrue e X.env (eval e X.env)) (TP X pins σ Q) X.xe s
noncomputable def PW (X:Cx) (e:Expr) (t:TT):Prop:=
 ∀(whole:Sem Value) (pins:List (Addr×Obj)) (s:Shared) (σ:St) (H:Hp) (Q:Bool->Hp->Prop),Inv X pins σ H s->t σ H Q->wpAny (model X.prog X.w) X.A (isTrue e X.env whole) (TP X pins σ Q) X.xe s
theorem PW.pt {X:Cx}{e:Expr}{t:TT}(h:PW X e t):PT X e t:=h _
noncomputable def PA (X:Cx) (es:List Expr) (t:TA):Prop:=
 ∀(pos:Pos) (pins:List (Addr×Obj)) (s:Shared) (σ:St) (H:Hp) (Q:List V->Hp->Prop),Inv X pins σ H s->t σ H Q->wpAny (model X.prog X.w) X.A (spliced (backTo pos (starEach es X.env))) (AP X pins σ Q) X.xe s
noncomputable def PS (X:Cx) (st:Stmt) (t:TS):Prop:=
 ∀(pins:List (Addr×Obj)) (s:Shared) (σ:St) (H:Hp) (D:Ends),Inv X pins σ H s->t D σ H->wpAny (model X.prog X.w) X.A (exec st X.env) (SP X pins D) X.xe s
noncomputable def yf (X:Cx) (st:List Stmt) (t:TS):Prop:=
 ∀(pins:List (Addr×Obj)) (s:Shared) (σ:St) (H:Hp) (D:Ends),Inv X pins σ H s->t D σ H->wpAny (model X.prog X.w) X.A (execs st X.env) (SP X pins D) X.xe s
theorem ck {α:Type}{t:Sem α}{Q Q':α->Shared->Prop}{M:Model}{A:Around}{E:Value->Shared->Prop}{s:Shared}(h:wpAny M A t Q E s) (hQ:∀a s,Q a s->Q' a s):wpAny M A t Q' E s:=wpAny_mono h hQ λ_ _ x=>x
section
variable {X:Cx}
theorem bin {a b:Expr}{ta tb:TE}(ha:PE X a ta) (hb:PE X b tb) {pins:List (Addr×Obj)}{s:Shared}{σ:St}{H:Hp}{R:V->V->Hp->Prop}(I:Inv X pins σ H s) (h:ta σ H λx H1=>tb σ H1 λy H2=>R x y H2)
  {α:Type}{Q:α->Shared->Prop}{f:Value->Value->Sem α}
  (hf:∀v u s2 x y H2,Inv X pins σ H2 s2->RelV x v->RelV y u->R x y H2->wpAny (model X.prog X.w) X.A (f v u) Q X.xe s2) :
  wpAny (model X.prog X.w) X.A (eval a X.env) (λv s₁=>wpAny (model X.prog X.w) X.A (eval b X.env) (λu s₂=>wpAny (model X.prog X.w) X.A (f v u) Q X.xe s₂) X.xe s₁) X.xe s:=by
 refine ck (ha pins s σ H _ I h) λv s1 ⟨x,H1,I1,r1,q1⟩=>?_
 refine ck (hb pins s1 σ H1 _ I1 q1) λu s2 ⟨y,H2,I2,r2,q2⟩=>?_
 exact hf v u s2 x y H2 I2 r1 r2 q2
noncomputable def Dr (i:Nat):TE:=λσ H Q=>∃v,σ[i]?=some (some v)/\Q v H
noncomputable def tC (v:V):TE:=λ_ H Q=>Q v H
theorem Ue {i:Nat}{x:Str}{pos:Pos}(hN:X.N[i]?=some x) (hv:YI X.env.scope x) (hd:(x == ("__debug__":Str))=false:=by decide) (IY:(x == ("__classdict__":Str))=false:=by decide):PE X (.Name x pos) (Dr i):=by
 intro pins s σ H Q I h;obtain⟨v,e,h⟩:=h;obtain⟨m,hn,hl⟩:=I.loc;obtain⟨u,r,l⟩:=hl i x v hN e hv;have fin:EP X pins σ Q u s:=⟨v,H,I,r,h⟩
 rcases l with ⟨hk,hm⟩ | ⟨hk,c,hc,jn⟩
 ·exact wpAny_Name (wpAny_loadName_local I.ok.kind hk hn hm fin) hd
 ·rcases hk with hk | hk
  ·exact wpAny_Name (wpAny_loadName_cell I.ok.kind hk hc jn fin) hd
  ·exact wpAny_Name (wpAny_loadName_free I.ok.kind hk hc jn fin IY) hd
theorem ai {i j pos}:PE X (.Constant (.int i) j pos) (tC (.int i)):=λ_ _ _ H _ I h=>wpAny_Constant_int ⟨.int i,H,I.tok _,⟨_,rfl⟩,h⟩
theorem gj {b j pos}:PE X (.Constant (.bool b) j pos) (tC (.bl b)):=λ_ _ _ H _ I h=>Constant_bool ⟨.bl b,H,I,rfl,h⟩
theorem cz {j pos}:PE X (.Constant .none j pos) (tC .bN):=λ_ _ _ H _ I h=>Constant_none ⟨.bN,H,I,rfl,h⟩
theorem az {x j pos}:PE X (.Constant (.str x) j pos) (tC (.str x)):=λ_ _ _ H _ I h=>Calls.Constant_str ⟨.str x,H,I.tok _,⟨_,rfl⟩,h⟩
noncomputable def Gl (X:Cx) (x:Str):Prop:=X.env.kindOf x=some .globalImplicit
theorem pY {E:Value->Shared->Prop}{pins:List (Addr×Obj)}{s:Shared}{σ:St}{H:Hp}{x:Str}{u:Value}{pos:Pos}{Q:Value->Shared->Prop}(I:Inv X pins σ H s) (hg:Gl X x) (hm:X.mg x=some u) (h:Q u s)
  (hd:(x == ("__debug__":Str))=false:=by decide):wpAny (model X.prog X.w) X.A (eval (.Name x pos) X.env) Q E s:=
 Calls.Name_function_global I.ok.kind hg (Calls.loadGlobal_global (by rw [I.ok.glob]; exact I.mod.glob.keeps I.bk) hm h) hd
theorem vB {E:Value->Shared->Prop}{pins:List (Addr×Obj)}{s:Shared}{σ:St}{H:Hp}{x:Str}{u:Value}{pos:Pos}{Q:Value->Shared->Prop}(I:Inv X pins σ H s) (hg:Gl X x) (hm:X.mg x=none) (hv:bootBuiltins x=some u) (h:Q u s)
  (hn:x≠"__name__":=by decide) (hd:(x == ("__debug__":Str))=false:=by decide):wpAny (model X.prog X.w) X.A (eval (.Name x pos) X.env) Q E s:=by
 obtain⟨mb,h1,h2⟩:=I.mod.blt;exact Calls.Name_function_global I.ok.kind hg (Calls.loadGlobal_builtin (by rw [I.ok.glob]; exact I.mod.glob.keeps I.bk) hm (by rw [I.ok.blt]; exact h1.keeps I.bk) ((h2 x hn).trans hv) h) hd
theorem dc {x:Str}{v:V}{u:Value}{pos:Pos}(hg:Gl X x) (hm:X.mg x=some u) (r:RelV v u) (hd:(x == ("__debug__":Str))=false:=by decide):PE X (.Name x pos) (tC v):=
 λ_ _ _ H _ I h=>pY I hg hm ⟨v,H,I,r,h⟩ hd
theorem dZ {x:Str}{v:V}{u:Value}{pos:Pos}(hg:Gl X x) (hm:X.mg x=none) (hv:bootBuiltins x=some u) (r:RelV v u) (hn:x≠"__name__":=by decide) (hd:(x == ("__debug__":Str))=false:=by decide):PE X (.Name x pos) (tC v):=
 λ_ _ _ H _ I h=>vB I hg hm hv ⟨v,H,I,r,h⟩ hn hd
variable {a b:Expr}{ta tb:TE}{pos:Pos}
noncomputable def PC (X:Cx) (op:CmpOp) (a b:Expr) (t:TE):Prop:=
 ∀(pins:List (Addr×Obj)) (s:Shared) (σ:St) (H:Hp) (Q:VK),Inv X pins σ H s->t σ H Q ->
  wpAny (model X.prog X.w) X.A (eval a X.env) (λv s₁=>wpAny (model X.prog X.w) X.A (eval b X.env) (λu s₂=>wpAny (model X.prog X.w) X.A (compareOp op v u) (EP X pins σ Q) X.xe s₂) X.xe s₁) X.xe s
theorem yp (b:Expr) {op:CmpOp}(h:op≠.In) (h2:op≠.NotIn):behindInMarks op b=false:=by
 have e1:(op == CmpOp.In)=false:=by cases op <;> first | rfl | exact absurd rfl h
 have e2:(op == CmpOp.NotIn)=false:=by cases op <;> first | rfl | exact absurd rfl h2
 cases b <;> simp [behindInMarks,e1,e2]
noncomputable def tB (t:TE):TT:=λσ H Q=>t σ H λx H1=>∃c,x=.bl c/\Q c H1
theorem IZ {op:CmpOp}{t:TE}(h:PC X op a b t) (h1:behindInMarks op b=false:=by first | exact yp _ (by decide) (by decide) | rfl):PE X (.Compare a [op] [b] pos) t:=λpins s σ H Q I hw=>wpAny_Compare1 (h pins s σ H Q I hw) h1
theorem Ds {op:CmpOp}{t:TE}(h:PC X op a b t) (h1:behindInMarks op b=false:=by first | exact yp _ (by decide) (by decide) | rfl):PT X (.Compare a [op] [b] pos) (tB t):=by
 intro pins s σ H Q I hw;refine wpAny_isTrue_Compare1 (ck (h pins s σ H _ I hw) λv s1 h1=>ck h1 λu s2 h2=>ck h2 λc s3 ⟨x,H1,I1,r1,q1⟩=>?_) h1;obtain⟨d,rfl,q⟩:=q1;cases r1;exact wpAny_truthy_bool ⟨H1,I1,q⟩
theorem fJ {e:Expr}{t:TE}(h:PE X e t) (he:∀whole,isTrue e X.env whole=(do let v <-whole; standAt e.pos; holding [v] (truthy v)):=by intro _; rfl):PT X e (tB t):=by
 intro pins s σ H Q I hw;refine isTrue_plain (ck (h pins s σ H _ I hw) λv s1 ⟨x,H1,I1,r1,q1⟩=>?_) (he _);obtain⟨d,rfl,q⟩:=q1;cases r1;exact wpAny_truthy_bool ⟨H1,I1,q⟩
variable {tA tB':TT}{rest:List Expr}
noncomputable def YK (t u:TT):TT:=λσ H Q=>t σ H λc H1=>if c=true then u σ H1 Q else Q false H1
noncomputable def tOr (t u:TT):TT:=λσ H Q=>t σ H λc H1=>if c=true then Q true H1 else u σ H1 Q
noncomputable def YL (t:TT):TT:=λσ H Q=>t σ H λc H1=>Q (!c) H1
theorem gJ (ha:PT X a tA):PW X (.BoolOp .And [a] pos) tA:=by
 intro wh pins s σ H Q I h;refine isTrue_and (ck (ha pins s σ H Q I h) λc s1 e=>?_)
 cases c with
 | true=>exact isTrue_and_nil e
 | false=>exact e
theorem kU (ha:PT X a tA):PW X (.BoolOp .Or [a] pos) tA:=by
 intro wh pins s σ H Q I h;refine isTrue_or (ck (ha pins s σ H Q I h) λc s1 e=>?_)
 cases c with
 | false=>exact isTrue_or_nil e
 | true=>exact e
theorem iV (ha:PT X a tA) (hb:PW X (.BoolOp .And (b::rest) pos) tB'):PW X (.BoolOp .And (a::b::rest) pos) (YK tA tB'):=by
 intro wh pins s σ H Q I h;refine isTrue_and (ck (ha pins s σ H _ I h) λc s1 ⟨H1,I1,q1⟩=>?_)
 cases c with
 | true=>exact hb wh pins s1 σ H1 Q I1 q1
 | false=>exact⟨H1,I1,q1⟩
theorem lX (ha:PT X a tA) (hb:PW X (.BoolOp .Or (b::rest) pos) tB'):PW X (.BoolOp .Or (a::b::rest) pos) (tOr tA tB'):=by
 intro wh pins s σ H Q I h;refine isTrue_or (ck (ha pins s σ H _ I h) λc s1 ⟨H1,I1,q1⟩=>?_)
 cases c with
 | true=>exact⟨H1,I1,q1⟩
 | false=>exact hb wh pins s1 σ H1 Q I1 q1
theorem m_ (ha:PT X a tA):PT X (.UnaryOp .Not a pos) (YL tA):=by
 intro pins s σ H Q I h;exact isTrue_not (ha pins s σ H (λc H1=>Q (!c) H1) I h)
noncomputable def QN (ta tb:TE):TE:=λσ H Q=>ta σ H λx H1=>∃c,x=.bl c/\if c=true then tb σ H1 Q else Q (.bl false) H1
noncomputable def YM (ta tb:TE):TE:=λσ H Q=>ta σ H λx H1=>∃c,x=.bl c/\if c=true then Q (.bl true) H1 else tb σ H1 Q
noncomputable def I0 (ta:TE):TE:=λσ H Q=>ta σ H λx H1=>∃c,x=.bl c/\Q (.bl (!c)) H1
theorem qi {op} {t:TE}(h:PE X a t):PE X (.BoolOp op [a] pos) t:=λpins s σ H Q I hw=>BoolOp_one (h pins s σ H Q I hw)
theorem ng (ha:PE X a ta) (hb:PE X (.BoolOp .And (b::rest) pos) tb):PE X (.BoolOp .And (a::b::rest) pos) (QN ta tb):=by
 intro pins s σ H Q I h;refine BoolOp_and (ck (ha pins s σ H _ I h) λv s1 ⟨x,H1,I1,r1,q1⟩=>?_);obtain⟨c,rfl,q1⟩:=q1;cases r1;refine wpAny_truthy_bool ?_
 cases c with
 | true=>exact hb pins s1 σ H1 Q I1 q1
 | false=>exact⟨.bl false,H1,I1,rfl,q1⟩
theorem YN (ha:PE X a ta) (hb:PE X (.BoolOp .Or (b::rest) pos) tb):PE X (.BoolOp .Or (a::b::rest) pos) (YM ta tb):=by
 intro pins s σ H Q I h;refine BoolOp_or (ck (ha pins s σ H _ I h) λv s1 ⟨x,H1,I1,r1,q1⟩=>?_);obtain⟨c,rfl,q1⟩:=q1;cases r1;refine wpAny_truthy_bool ?_
 cases c with
 | false=>exact hb pins s1 σ H1 Q I1 q1
 | true=>exact⟨.bl true,H1,I1,rfl,q1⟩
theorem Dt (ha:PE X a ta):PE X (.UnaryOp .Not a pos) (I0 ta):=by
 intro pins s σ H Q I h;refine UnaryOp_ (ck (ha pins s σ H _ I h) λv s1 ⟨x,H1,I1,r1,q1⟩=>?_);obtain⟨c,rfl,q1⟩:=q1;cases r1;exact not_of (wpAny_truthy_bool ⟨.bl (!c),H1,I1,rfl,q1⟩)
noncomputable def tIf (t:TT) (ta tb:TE):TE:=λσ H Q=>t σ H λc H1=>if c=true then ta σ H1 Q else tb σ H1 Q
theorem eJ {c:Expr}(hc:PT X c tA) (ha:PE X a ta) (hb:PE X b tb):PE X (.IfExp c a b pos) (tIf tA ta tb):=by
 intro pins s σ H Q I h;refine wpAny_IfExp (ck (hc pins s σ H _ I h) λd s1 ⟨H1,I1,q1⟩=>?_)
 cases d with
 | true=>exact ha pins s1 σ H1 Q I1 q1
 | false=>exact hb pins s1 σ H1 Q I1 q1
end
noncomputable def ba (K:Frag) (H:Hp) (a:Addr) (xs:List V):Prop:=
 Rd H a (.lst xs) \/
  ∃(o:Obj) (bF:Array Value) (n:Nat),K.lookup a=some o/\o.cls=.type "list"/\o.dict=none/\o.data=.seq bF n/\bF.size<=sizeLine/\Vals xs bF.toList
noncomputable def bX (K:Frag) (H:Hp) (a:Addr) (xs:List V):Prop:=
 Rd H a (.tup xs) \/
  ∃(o:Obj) (bF:Array Value) (n:Nat),K.lookup a=some o/\o.cls=.type "tuple"/\o.data=.seq bF n/\bF.size<=sizeLine/\Vals xs bF.toList
noncomputable def adJ:Value->Option V
 | .none=>some .bN
 | .bool b=>some (.bl b)
 | .int i _=>some (.int i)
 | .str x _=>some (.str x)
 | .bytes b _=>some (.II b)
 | .float b _=>some (.T6 b)
 | .ref a=>some (.ref a)
 | .type n=>some (.ty n)
 | _=>none
theorem RelV.abs {x:V}{u:Value}(r:RelV x u):adJ u=some x:=by
 cases x with
 | bN=>cases r; rfl
 | bl _=>cases r; rfl
 | int _=>obtain⟨t,rfl⟩:=r; rfl
 | str _=>obtain⟨t,rfl⟩:=r; rfl
 | II _=>obtain⟨t,rfl⟩:=r; rfl
 | T6 _=>obtain⟨t,rfl⟩:=r; rfl
 | ref _=>cases r; rfl
 | ty _=>cases r; rfl
theorem RelV.inj {x y:V}{u:Value}(r:RelV x u) (q:RelV y u):x=y:=Option.some.inj (r.abs.symm.trans q.abs)
theorem Vals.inj:∀{xs ys:List V}{us:List Value},Vals xs us->Vals ys us->xs=ys
 | _,_,_,.nil,.nil=>rfl
 | _,_,_,.cons r t,.cons r' t'=>by rw [r.inj r',Vals.inj t t']
section
variable {X:Cx}{pins:List (Addr×Obj)}{σ:St}{H:Hp}{s:Shared}{a:Addr}{xs ys:List V}
theorem ba.of {K:Frag}(h:H a=some (.lst xs)):ba K H a xs:=.inl (.inl h)
theorem bX.of {K:Frag}(h:H a=some (.tup xs)):bX K H a xs:=.inl (.inl h)
theorem Inv.list (I:Inv X pins σ H s) (h:ba X.K H a xs):∃bF:List Value,Vals xs bF/\PlainL s.heap a bF.toArray/\xs.length<=sizeLine:=by
 rcases h with h | ⟨o,bF,n,hk,hc,hd,hs,hz,r⟩
 ·obtain⟨z,bF,n,r,e⟩:=h.ok I.bV;exact⟨bF,r,⟨_,n,e,rfl,rfl,rfl⟩,z⟩
 ·refine⟨bF.toList,r,⟨o,n,I.iT a o hk,hc,hd,by simpa using hs⟩,?_⟩;have e:=r.length;simp only [Array.length_toList] at e;omega
theorem Inv.tuple (I:Inv X pins σ H s) (h:bX X.K H a xs):∃bF:List Value,Vals xs bF/\IsTup s.heap a bF.toArray/\xs.length<=sizeLine:=by
 rcases h with h | ⟨o,bF,n,hk,hc,hs,hz,r⟩
 ·obtain⟨z,bF,r,p⟩:=h.ok I.bV;exact⟨bF,r,p,z⟩
 ·refine⟨bF.toList,r,⟨o,I.iT a o hk,hc,n,by simpa using hs⟩,?_⟩;have e:=r.length;simp only [Array.length_toList] at e;omega
theorem Inv.yq (I:Inv X pins σ H s) (h:ba X.K H a xs) (h':ba X.K H a ys):xs=ys:=by
 obtain⟨bF,r,⟨o,n,e,_,_,d⟩,_⟩:=I.list h;obtain⟨its',r',⟨o',n',e',_,_,d'⟩,_⟩:=I.list h';rw [e] at e'; cases e'
 rw [d] at d';injection d' with d1 _
 have:bF=its':=by simpa using congrArg Array.toList d1
 subst this;exact r.inj r'
theorem Inv.tS (I:Inv X pins σ H s) (h:bX X.K H a xs) (h':bX X.K H a ys):xs=ys:=by
 obtain⟨bF,r,⟨o,e,_,n,d⟩,_⟩:=I.tuple h;obtain⟨its',r',⟨o',e',_,n',d'⟩,_⟩:=I.tuple h';rw [e] at e'; cases e'
 rw [d] at d';injection d' with d1 _
 have:bF=its':=by simpa using congrArg Array.toList d1
 subst this;exact r.inj r'
end
noncomputable abbrev Cx.sP (X:Cx) (E:Value->Shared->Prop):Cx:={X with xe:=E}
noncomputable abbrev Cx.YO (X:Cx):Cx:=X.sP λ_ _=>False
theorem Cx.Ok.sP {X:Cx}(ok:X.Ok) (E:Value->Shared->Prop):(X.sP E).Ok:=
 ⟨ok.mod,ok.kind,ok.glob,ok.blt,ok.above,ok.inj,ok.has,ok.Ub,ok.hd,ok.frames,ok.Ya,ok.QI,ok.bs,ok.Hm,ok.yl,ok.ym,ok.lW,ok.O8⟩
theorem Cx.Ok.jE {X:Cx}{E:Value->Shared->Prop}(ok:(X.sP E).Ok):X.Ok:=
 ⟨ok.mod,ok.kind,ok.glob,ok.blt,ok.above,ok.inj,ok.has,ok.Ub,ok.hd,ok.frames,ok.Ya,ok.QI,ok.bs,ok.Hm,ok.yl,ok.ym,ok.lW,ok.O8⟩
section
variable {X:Cx}{pins:List (Addr×Obj)}{σ:St}{H:Hp}{s:Shared}{E:Value->Shared->Prop}
theorem Inv.sP (I:Inv X pins σ H s) (E:Value->Shared->Prop):Inv (X.sP E) pins σ H s:=⟨I.ok.sP E,I.os,I.bare,I.base,I.loc,I.cell,I.free,I.gi,I.pin,I.bV,I.len⟩
theorem Inv.jE (I:Inv (X.sP E) pins σ H s):Inv X pins σ H s:=⟨I.ok.jE,I.os,I.bare,I.base,I.loc,I.cell,I.free,I.gi,I.pin,I.bV,I.len⟩
theorem SP.jE {D:Ends}{f:Flow}{s':Shared}(h:SP (X.sP E) pins D f s'):SP X pins D f s':=by
 cases f with
 | next=>obtain⟨σ',H',I,q⟩:=h; exact⟨σ',H',I.jE,q⟩
 | brk=>obtain⟨σ',H',I,q⟩:=h; exact⟨σ',H',I.jE,q⟩
 | cont=>obtain⟨σ',H',I,q⟩:=h; exact⟨σ',H',I.jE,q⟩
 | ret u=>obtain⟨v,σ',H',I,r,q⟩:=h; exact⟨v,σ',H',I.jE,r,q⟩
theorem yf.YO {st:List Stmt}{t:TS}(h:yf X.YO st t):yf X st t:=λpins s σ H D I hw=>
 wpAny_mono (h pins s σ H D (I.sP _) hw) (λ_ _ q=>q.jE) λ_ _ z=>False.elim z
end
section
variable {X:Cx}{st:Stmt}{rest:List Stmt}{t u:TS}{e:Expr}{te:TE}{pos:Pos}
noncomputable def QO:TS:=λD σ H=>D.nx σ H
noncomputable def YQ (t u:TS):TS:=λD σ H=>t {D with nx:=u D} σ H
theorem aL:yf X [] QO:=λ_ _ σ H _ I h=>wpAny_execs_nil ⟨σ,H,I,h⟩
theorem ag (h1:PS X st t) (h2:yf X rest u):yf X (st::rest) (YQ t u):=by
 intro pins s σ H D I h;refine wpAny_execs_cons (ck (h1 pins s σ H {D with nx:=u D} I h) λf s1 q=>?_)
 cases f with
 | next=>
  obtain⟨σ',H',I',q⟩:=q;exact h2 pins s1 σ' H' D I' q
 | ret v=>exact q
 | brk=>exact q
 | cont=>exact q
theorem ah (h1:PS X st t):yf X [st] t:=by
 intro pins s σ H D I h;refine wpAny_execs_cons (ck (h1 pins s σ H D I h) λf s1 q=>?_)
 cases f with
 | next=>exact wpAny_execs_nil q
 | ret v=>exact q
 | brk=>exact q
 | cont=>exact q
theorem Inv.quiet {pins:List (Addr×Obj)}{σ:St}{H:Hp}{s:Shared}(I:Inv X pins σ H s):interactive X.env=false:=by simp [interactive,I.ok.kind]
noncomputable def QP (te:TE):TS:=λD σ H=>te σ H λ_ H1=>D.nx σ H1
theorem aY (he:PE X e te) (hs:swapsWith e none pos.line X.env=pure false:=by rfl):PS X (.Expr e pos) (QP te):=by
 intro pins s σ H D I h;exact wpAny_Expr_any (ck (he pins s σ H _ I h) λv s1 ⟨x,H1,I1,r1,q1⟩=>⟨σ,H1,I1,q1⟩) I.quiet hs
noncomputable def YR (te:TE):TS:=λD σ H=>te σ H D.rt
theorem aB (he:PE X e te):PS X (.Return (some e) pos) (YR te):=by
 intro pins s σ H D I h;exact wpAny_Return_some (ck (he pins s σ H _ I h) λv s1 ⟨x,H1,I1,r1,q1⟩=>⟨x,σ,H1,I1,r1,q1⟩)
noncomputable def YS (c:TT) (t u:TS):TS:=λD σ H=>c σ H λb H1=>if b=true then t D σ H1 else u D σ H1
theorem bh {c:Expr}{a b:List Stmt}{tc:TT}(hc:PT X c tc) (ha:yf X a t) (hb:yf X b u):PS X (.If c a b pos) (YS tc t u):=by
 intro pins s σ H D I h;refine wpAny_If (ck (hc pins s σ H _ I h) λd s1 ⟨H1,I1,q1⟩=>?_)
 cases d with
 | true=>exact ha pins s1 σ H1 D I1 q1
 | false=>exact hb pins s1 σ H1 D I1 q1
end
noncomputable abbrev TG:=V->St->Hp->(St->Hp->Prop)->Prop
noncomputable abbrev Ug:=List V->St->Hp->(St->Hp->Prop)->Prop
noncomputable def PG (X:Cx) (target:Expr) (t:TG):Prop:=
 ∀(pins:List (Addr×Obj)) (s:Shared) (σ:St) (H:Hp) (v:V) (u:Value) (Q:St->Hp->Prop),Inv X pins σ H s->RelV v u->t v σ H Q ->
  wpAny (model X.prog X.w) X.A (assign target X.env u) (λ_ s'=>∃σ' H',Inv X pins σ' H' s'/\Q σ' H') X.xe s
noncomputable def PGs (X:Cx) (ts:List Expr) (t:Ug):Prop:=
 ∀(pins:List (Addr×Obj)) (s:Shared) (σ:St) (H:Hp) (vs:List V) (us:List Value) (Q:St->Hp->Prop),Inv X pins σ H s->Vals vs us->t vs σ H Q ->
  wpAny (model X.prog X.w) X.A (assignInOrder ((assignEach ts X.env).map (·.2)) us) (λ_ s'=>∃σ' H',Inv X pins σ' H' s'/\Q σ' H') X.xe s
noncomputable abbrev TIp:=V->V->Hp->VK->Prop
noncomputable def PIp (X:Cx) (op:Operator) (t:TIp):Prop:=
 ∀(pins:List (Addr×Obj)) (s:Shared) (σ:St) (H:Hp) (x y:V) (v u:Value) (Q:VK),Inv X pins σ H s->RelV x v->RelV y u->t x y H Q ->
  wpAny (model X.prog X.w) X.A (inplaceOp op v u) (EP X pins σ Q) X.xe s
section
variable {X:Cx}{pos:Pos}
noncomputable def lY (i:Nat):TG:=λv σ H Q=>Q (σ.set i (some v)) H
theorem a_ {i:Nat}{x:Str}(hN:X.N.Nodup) (hi:X.N[i]?=some x) (hx:Loc X.env.scope x) (hf:X.fn x=true\/X.env.scope.names.lookup x=some .local:=by first | exact .inl rfl | exact .inr rfl | assumption):PG X (.Name x pos) (lY i):=by
 intro pins s σ H v u Q I r h;exact wpAny_assign_Name (jD I hN hi hx r (λs' I'=>⟨_,H,I',h⟩) hf)
noncomputable def Uh:Ug:=λvs σ H Q=>vs=[]/\Q σ H
noncomputable def FU (t:TG) (u:Ug):Ug:=λvs σ H Q=>∃v r,vs=v::r/\t v σ H λσ' H'=>u r σ' H' Q
theorem hW:PGs X [] Uh:=by
 intro pins s σ H vs us Q I r h;obtain⟨e,h⟩:=h;subst e;cases r;exact assignInOrder_nil ⟨σ,H,I,h⟩
theorem cm {e:Expr}{es:List Expr}{t:TG}{u:Ug}(h1:PG X e t) (h2:PGs X es u)
  (hs:(assignEach (e::es) X.env).map (·.2)=assign e X.env::(assignEach es X.env).map (·.2):=by rfl):PGs X (e::es) (FU t u):=by
 intro pins s σ H vs us Q I r h;obtain⟨v,vr,e1,h⟩:=h;subst e1
 cases r with
 | cons r rr=>
  rw [hs];refine assignInOrder_cons (ck (h1 pins s σ H _ _ _ I r h) λ_ s1 ⟨σ1,H1,I1,q1⟩=>?_);exact h2 pins s1 σ1 H1 _ _ Q I1 rr q1
noncomputable def Ui (K:Frag) (n:Nat) (t:Ug):TG:=λv σ H Q=>∃a xs,v=.ref a/\bX K H a xs/\xs.length=n/\t xs σ H Q
theorem jF {es:List Expr}{k:Nat}{t:Ug}{n:Nat}(hc:X.calm=true) (h:PGs X es t)
  (hn:(assignEach es X.env).length=n:=by rfl) (I_:(assignEach es X.env).findIdx? (·.1)=none:=by rfl):PG X (.Tuple es k pos) (Ui X.K n t):=by
 intro pins s σ H v u Q I r hw;obtain⟨a,xs,e1,hq,hl,hw⟩:=hw;subst e1;cases r;obtain⟨bF,rv,ht,hz⟩:=I.tuple hq;refine assign_Tuple_tuple (I.ok.hd hc) ht (by simp [hn,<-hl,rv.length]) I_ λh' hx=>?_
 have I1:Inv X pins σ H {s with heap:=h'}:=I.kept (t':=s.toks) λb o e=>hx b o (Nat.ne_of_lt (lt_size e)) e
 exact h pins _ σ H xs _ Q I1 (by simpa using rv) hw
noncomputable def Ja (te:TE) (g:TG):TS:=λD σ H=>te σ H λx H1=>g x σ H1 D.nx
theorem vC {tg e:Expr}{te:TE}{g:TG}(he:PE X e te) (hg:PG X tg g) (hs:swapsWithSole [tg] e pos.line X.env=pure false:=by rfl) (hw:swappedStores [tg] e X.env=pure none:=by rfl)
  (h1:(assignEach [tg] X.env).map (·.2)=[assign tg X.env]:=by rfl):PS X (.Assign [tg] e pos) (Ja te g):=by
 intro pins s σ H D I h;refine wpAny_Assign_stores (ck (he pins s σ H _ I h) λv s1 ⟨x,H1,I1,r1,q1⟩=>?_) hs hw;rw [h1];exact ck (hg pins s1 σ H1 x v _ I1 r1 q1) λ_ s2 q=>q
theorem aN {i:Nat}{x:Str}{e:Expr}{te:TE}{pos':Pos}(hN:X.N.Nodup) (hi:X.N[i]?=some x) (hx:Loc X.env.scope x) (he:PE X e te) (hs:swapsWith e (some (.Name x pos')) pos.line X.env=pure false:=by rfl) (hf:X.fn x=true\/X.env.scope.names.lookup x=some .local:=by first | exact .inl rfl | exact .inr rfl | assumption) :
  PS X (.Assign [.Name x pos'] e pos) (Ja te (lY i)):=by
 intro pins s σ H D I h;refine wpAny_Assign_Name (ck (he pins s σ H _ I h) λv s1 ⟨y,H1,I1,r1,q1⟩=>?_) hs;exact jD I1 hN hi hx r1 (λs2 I2=>⟨_,H1,I2,q1⟩) hf
noncomputable def YT (i:Nat) (te:TE) (ti:TIp):TS:=λD σ H=>∃x,σ[i]?=some (some x)/\te σ H λy H1=>ti x y H1 λz H2=>D.nx (σ.set i (some z)) H2
theorem Uj {i:Nat}{x:Str}{e:Expr}{te:TE}{op:Operator}{ti:TIp}{pos':Pos}(hN:X.N.Nodup) (hi:X.N[i]?=some x) (hx:Loc X.env.scope x) (he:PE X e te) (ho:PIp X op ti) (hf:X.fn x=true\/X.env.scope.names.lookup x=some .local:=by first | exact .inl rfl | exact .inr rfl | assumption) :
  PS X (.AugAssign (.Name x pos') op e pos) (YT i te ti):=by
 intro pins s σ H D I h;obtain⟨v,e1,h⟩:=h;obtain⟨m,hn,hl⟩:=I.loc;have vis:YI X.env.scope x:=by rcases hx with k | k; exact .inl k; exact .inr (.inl k)
 obtain⟨u,r,l⟩:=hl i x v hi e1 vis;refine wpAny_AugAssign_Name ?_;have go:wpAny (model X.prog X.w) X.A (eval e X.env) (λw s₂=>wpAny (model X.prog X.w) X.A (inplaceOp op u w) (λr s₃=>wpAny (model X.prog X.w) X.A (storeName X.env x r) (λ_=>SP X pins D .next) X.xe s₃) X.xe s₂) X.xe s:=by
  refine ck (he pins s σ H _ I h) λw s1 ⟨y,H1,I1,r1,q1⟩=>?_
  refine ck (ho pins s1 σ H1 v y u w _ I1 r r1 q1) λz s2 ⟨zv,H2,I2,r2,q2⟩=>?_
  exact jD I2 hN hi hx r2 (λs3 I3=>⟨_,H2,I3,q2⟩) hf
 rcases l with ⟨hk,hm⟩ | ⟨hk,c,hc,jn⟩
 ·exact wpAny_loadName_local I.ok.kind hk hn hm go
 ·rcases hk with hk | hk
  ·exact wpAny_loadName_cell I.ok.kind hk hc jn go
  ·rcases hx with k | k
   ·have:X.env.scope.names.lookup x=some .free:=hk;rw [k] at this; cases this
   ·have:X.env.scope.names.lookup x=some .free:=hk;rw [k] at this; cases this
noncomputable def ipI (f:Int->Int->Int):TIp:=λx y H Q=>∃i j,x=.int i/\y=.int j/\Q (.int (f i j)) H
theorem Uk:PIp X .Add (ipI λi j=>i+j):=by
 intro pins s σ H x y v u Q I r1 r2 h;obtain⟨i,j,e1,e2,q⟩:=h;subst e1; subst e2
 obtain⟨t,rfl⟩:=r1;obtain⟨t',rfl⟩:=r2;exact iadd_int ⟨.int _,H,I.tok _,⟨_,rfl⟩,q⟩
end
section
variable {X:Cx}{pos:Pos}
noncomputable def Jb (c:TT) (tb:TS):TS:=λD σ H=>∃W:Nat->St->Hp->Prop,(∃m,W m σ H)/\∀m σ H,W m σ H ->
 c σ H λb H1=>if b=true then ∃N:St->Hp->Prop,(∀σ' H',N σ' H'->∃m',m' < m/\W m' σ' H')/\tb {D with nx:=N,ct:=N,bk:=D.nx} σ H1 else D.nx σ H1
theorem Jc {c:Expr}{body:List Stmt}{tc:TT}{tb:TS}(hp:PassesOwn (model X.prog X.w) X.A X.env X.xe) (hc:PT X c tc) (hb:yf X body tb):PS X (.While c body [] pos) (Jb tc tb):=by
 intro pins s σ H D I h;obtain⟨W,⟨m0,w0⟩,turn⟩:=h;refine wpAny_While (codeAny_whileLoop (λn s'=>∃σ' H',Inv X pins σ' H' s'/\W n σ' H') ?_ m0 ⟨σ,H,I,w0⟩);rintro n s1 ⟨σ1,H1,I1,w1⟩;refine wpAny_passesOwn hp (ck (hc pins s1 σ1 H1 _ I1 (turn n σ1 H1 w1)) λb s2 ⟨H2,I2,q2⟩=>?_)
 cases b with
 | true=>
  obtain⟨N,hN,q2⟩:=q2;rw [if_pos rfl];refine wpAny_passesOwn hp (ck (hb pins s2 σ1 H2 _ I2 q2) λf s3 q3=>?_)
  cases f with
  | next=>
   obtain⟨σ3,H3,I3,n3⟩:=q3;obtain⟨m',hm,w3⟩:=hN σ3 H3 n3;exact⟨m',hm,σ3,H3,I3,w3⟩
  | cont=>
   obtain⟨σ3,H3,I3,n3⟩:=q3;obtain⟨m',hm,w3⟩:=hN σ3 H3 n3;exact⟨m',hm,σ3,H3,I3,w3⟩
  | brk=>exact q3
  | ret v=>exact q3
 | false=>
  rw [if_neg Bool.false_ne_true];exact wpAny_execs_nil ⟨σ1,H2,I2,q2⟩
end
structure It where
 go:Nat->Hp->Prop
 Ul:Nat->Hp->V->Hp->Prop
 stop:Nat->Hp->Prop
noncomputable def iH (X:Cx) (pins:List (Addr×Obj)) (H:Hp) (b:Addr):Prop:=
 H b=none/\b≠X.env.locals/\b∉X.fs/\(b∈X.ex\/X.s₀.heap.objs.size<=b)/\(∀x c,X.env.cells.lookup x=some c->c≠b)/\∀p∈X.pn++pins,p.1≠b
theorem Inv.Jd {X:Cx}{pins:List (Addr×Obj)}{σ:St}{H H':Hp}{s:Shared}{b:Addr}(I:Inv X pins σ H s) (hb:s.heap.objs.size<=b) (hn:H' b=none):iH X pins H' b:=by
 refine⟨hn,Nat.ne_of_gt (Nat.lt_of_lt_of_le I.lt hb),I.Uc hb,.inr (Nat.le_trans I.sz hb),λx c e z=>?_,λp hp z=>?_⟩
 ·obtain⟨v,q⟩:=I.cell x c e;exact absurd (Nat.lt_of_lt_of_le q.lt (by rw [z]; exact hb)) (Nat.lt_irrefl _)
 ·exact absurd (Nat.lt_of_lt_of_le (lt_size (I.pin p hp).1) (by rw [z]; exact hb)) (Nat.lt_irrefl _)
structure Turn (P:Program) (w:World) (K:Frag) (tg:Expr) (J:It) (fp:List Addr) (it:Addr) (tn:Nat->Heap->Prop):Prop where
 mem:it∈fp
 obj:∀i h,tn i h->∀b∈fp,∃o,h.get? b=some o/\∀v,o.data≠.cell v
 keep:∀i h h',tn i h->(∀b∈fp,∀o,h.get? b=some o->h'.get? b=some o)->tn i h'
 item:∀(X:Cx),X.prog=P->X.w=w->X.K=K->X.calm=true->∀(i:Nat) (pins:List (Addr×Obj)) (s:Shared) (σ:St) (H:Hp) (E:Value->Shared->Prop),Inv X pins σ H s->(∀b∈fp,iH X pins H b)->tn i s.heap->J.go i H ->
  wpAny (model P w) X.A (pyNext (.ref it)) (λr s1=>∃u,r=some u /\
   wpAny (model P w) X.A (letOwnedTupleGo tg (.ref it) u) (λ_ s2=>∃x H',Inv X pins σ H' s2/\RelV x u/\J.Ul i H x H'/\tn (i+1) s2.heap/\∀b∈fp,H' b=none) E s1) E s
 done:∀(X:Cx),X.prog=P->X.w=w->X.K=K->X.calm=true->∀(i:Nat) (pins:List (Addr×Obj)) (s:Shared) (σ:St) (H:Hp) (E:Value->Shared->Prop),Inv X pins σ H s->(∀b∈fp,iH X pins H b)->tn i s.heap->J.stop i H ->
  wpAny (model P w) X.A (pyNext (.ref it)) (λr s1=>r=none/\Inv X pins σ H s1) E s
 self:∀(A:Around) (i:Nat) (s:Shared) (Q:Value->Shared->Prop) (E:Value->Shared->Prop),tn i s.heap->Q (.ref it) s->wpAny (model P w) A (pyIter (.ref it)) Q E s
noncomputable abbrev TI:=St->Hp->(It->Hp->Prop)->Prop
noncomputable def PIE (X:Cx) (pins:List (Addr×Obj)) (σ:St) (tg:Expr) (R:It->Hp->Prop) (Yb:Value) (s2:Shared):Prop:=
 ∃(it:Addr) (fp:List Addr) (tn:Nat->Heap->Prop) (J:It) (H':Hp),Yb=.ref it/\Inv X pins σ H' s2/\Turn X.prog X.w X.K tg J fp it tn/\tn 0 s2.heap/\(∀b∈fp,iH X pins H' b)/\R J H'
noncomputable def PI (X:Cx) (tg iter:Expr) (wi:TI):Prop:=
 ∀(pins:List (Addr×Obj)) (s:Shared) (σ:St) (H:Hp) (R:It->Hp->Prop),Inv X pins σ H s->wi σ H R ->
  wpAny (model X.prog X.w) X.A (eval iter X.env) (λv s1=>wpAny (model X.prog X.w) X.A (pyIter v) (PIE X pins σ tg R) X.xe s1) X.xe s
theorem Je {M:Model}{A:Around}{E:Value->Shared->Prop}{s:Shared}{tg:Expr}{it:Addr}{u:Value}{o:Obj}{n:String}{vs:Array Value}{Q:Unit->Shared->Prop}(ho:s.heap.get? it=some o) (hc:o.cls=.type n) (hd:o.data=.fields vs)
    (hn:["enumerate","zip","dict_itemiterator","dict_reverseitemiterator","odict_iterator","itertools.zip_longest","itertools.pairwise"].contains n=false) (hQ:Q () s):wpAny M A (letOwnedTupleGo tg (.ref it) u) Q E s:=by
  unfold letOwnedTupleGo
  cases tg <;> first
    | exact wpAny_pure hQ
    | (cases u <;> first
        | exact wpAny_pure hQ
        | (refine wpAny_bind (wpAny_load ho ?_)
           rw [hc,hd];show wpAny M A (if (["enumerate","zip","dict_itemiterator","dict_reverseitemiterator","odict_iterator","itertools.zip_longest","itertools.pairwise"].contains n&&vs[0]? == some (rawInt _))=true then _ else _) Q E s;rw [if_neg (by intro h; rw [hn,Bool.false_and] at h; cases h)];exact wpAny_pure hQ))
noncomputable def Jf (K:Frag) (a:Addr):It:=
 ⟨λi H=>∃xs x,ba K H a xs/\xs[i]?=some x,λi H x H'=>H'=H/\∀xs,ba K H a xs->xs[i]?=some x,λi H=>∃xs,ba K H a xs/\xs.length<=i⟩
noncomputable def Itt (K:Frag) (a:Addr):It:=
 ⟨λi H=>∃xs x,bX K H a xs/\xs[i]?=some x,λi H x H'=>H'=H/\∀xs,bX K H a xs->xs[i]?=some x,λi H=>∃xs,bX K H a xs/\xs.length<=i⟩
noncomputable def QQ (lo:Int) (n:Nat):It:=⟨λi _=>i < n,λi H x H'=>H'=H/\x=.int (lo+i),λi _=>n<=i⟩
theorem Ho {P:Program}{w:World}{K:Frag}{tg:Expr}(a it:Addr):Turn P w K tg (Jf K a) [it] it (λi h=>h.IsListIter it a i) where
 mem:=by simp
 obj:=λi h st b hb=>by
  have e:b=it:=by simpa using hb
  subst e;obtain⟨o,e,c,d⟩:=st;exact⟨o,e,λv z=>by rw [d] at z; cases z⟩
 keep:=λi h h' st k=>st.at λo e=>k it (by simp) o e
 item:=by
  intro X hP hw hK hc i pins s σ H E I hf st hg;subst hP hw hK;obtain⟨xs,x,hq,hx⟩:=hg;obtain⟨bF,rv,p,hz⟩:=I.list hq;obtain⟨u,hu,ru⟩:=rv.get hx;obtain⟨f0,f1,f2,f3,f4,f5⟩:=hf it (by simp);refine wpAny_pyNext_list_item st p.isList (x:=u) (by simpa using hu) λh' Hq sb=>?_
  have I1:Inv X pins σ H {s with heap:=h'}:=I.turned (t':=s.toks) (λb o hb e=>(sb.2 b hb).trans e) f0 f1 f3 f4 f5;obtain⟨o,e,c,d⟩:=id Hq;exact⟨u,rfl,Je (s:={s with heap:=h'}) e c d (by decide) ⟨x,H,I1,ru,⟨rfl,λys hy=>by rw [I.yq hy hq]; exact hx⟩,Hq,λb hb=>(hf b hb).1⟩⟩
 done:=by
  intro X hP hw hK hc i pins s σ H E I hf st hg;subst hP hw hK;obtain⟨xs,hq,hx⟩:=hg;obtain⟨bF,rv,p,hz⟩:=I.list hq;obtain⟨f0,f1,f2,f3,f4,f5⟩:=hf it (by simp);have hl:=rv.length;exact wpAny_pyNext_list_end (I.ok.hd hc) st p.isList (by simp; omega) λh' eb=>⟨rfl,I.turned (t':=s.toks) (λb o hb e=>eb b o hb e) f0 f1 f3 f4 f5⟩
 self:=λ_ _ _ _ _ st h=>wpAny_pyIter_listiter st h
theorem Du {P:Program}{w:World}{K:Frag}{tg:Expr}(a it:Addr):Turn P w K tg (Itt K a) [it] it (λi h=>h.IsTupleIter it a i) where
 mem:=by simp
 obj:=λi h st b hb=>by
  have e:b=it:=by simpa using hb
  subst e;obtain⟨o,e,c,d⟩:=st;exact⟨o,e,λv z=>by rw [d] at z; cases z⟩
 keep:=λi h h' st k=>st.at λo e=>k it (by simp) o e
 item:=by
  intro X hP hw hK hc i pins s σ H E I hf st hg;subst hP hw hK;obtain⟨xs,x,hq,hx⟩:=hg;obtain⟨bF,rv,p,hz⟩:=I.tuple hq;obtain⟨u,hu,ru⟩:=rv.get hx;obtain⟨f0,f1,f2,f3,f4,f5⟩:=hf it (by simp);refine wpAny_pyNext_tuple_item st (show s.heap.IsTuple a bF.toArray from p) (x:=u) (by simpa using hu) λh' Hq sb=>?_
  have I1:Inv X pins σ H {s with heap:=h'}:=I.turned (t':=s.toks) (λb o hb e=>(sb.2 b hb).trans e) f0 f1 f3 f4 f5;obtain⟨o,e,c,d⟩:=id Hq;exact⟨u,rfl,Je (s:={s with heap:=h'}) e c d (by decide) ⟨x,H,I1,ru,⟨rfl,λys hy=>by rw [I.tS hy hq]; exact hx⟩,Hq,λb hb=>(hf b hb).1⟩⟩
 done:=by
  intro X hP hw hK hc i pins s σ H E I hf st hg;subst hP hw hK;obtain⟨xs,hq,hx⟩:=hg;obtain⟨bF,rv,p,hz⟩:=I.tuple hq;obtain⟨f0,f1,f2,f3,f4,f5⟩:=hf it (by simp);have hl:=rv.length;exact wpAny_pyNext_tuple_end (I.ok.hd hc) st (show s.heap.IsTuple a bF.toArray from p) (by simp; omega) λh' eb=>⟨rfl,I.turned (t':=s.toks) (λb o hb e=>eb b o hb e) f0 f1 f3 f4 f5⟩
 self:=λ_ _ _ _ _ st h=>wpAny_pyIter_tupleiter st h
theorem Dv {P:Program}{w:World}{K:Frag}{tg:Expr}(it:Addr) (lo:Int) (n:Nat):Turn P w K tg (QQ lo n) [it] it (λi h=>IsRangeIter h it (lo+(i:Nat)*1) ((n:Int) - (i:Nat)) 1) where
 mem:=by simp
 obj:=λi h st b hb=>by
  have e:b=it:=by simpa using hb
  subst e;exact⟨_,st,λv z=>by
   have z':Data.fields _=Data.cell v:=z;cases z'⟩
 keep:=λi h h' st k=>k it (by simp) _ st
 item:=by
  intro X hP hw hK hc i pins s σ H E I hf st hg;subst hP hw hK;obtain⟨f0,f1,f2,f3,f4,f5⟩:=hf it (by simp);have W:=Walks.range (prog:=X.prog) (w:=X.w) (I.ok.hd hc) it lo 1 n;refine W.item i s _ _ hg st λv h' tk hv Hq kk=>?_
  obtain⟨t,rfl⟩:=hv;have I1:Inv X pins σ H {s with heap:=h',toks:=tk}:=I.turned (λb o hb e=>kk b o (by simpa using hb) e) f0 f1 f3 f4 f5;refine⟨_,rfl,Je (s:={s with heap:=h',toks:=tk}) (n:="range_iterator") Hq rfl rfl (by decide) ⟨.int (lo+i),H,I1,⟨t,?_⟩,⟨rfl,rfl⟩,Hq,λb hb=>(hf b hb).1⟩⟩;rw [Int.mul_one]
 done:=by
  intro X hP hw hK hc i pins s σ H E I hf st hg;subst hP hw hK;obtain⟨f0,f1,f2,f3,f4,f5⟩:=hf it (by simp);exact wpAny_pyNext_range_end (I.ok.hd hc) st (by have:n<=i:=hg; omega) λh' eb=>⟨rfl,I.turned (t':=s.toks) (λb o hb e=>eb b o hb e) f0 f1 f3 f4 f5⟩
 self:=λ_ _ _ _ _ st h=>wpAny_pyIter_rangeiter st h
section
variable {X:Cx}{tg:Expr}
noncomputable def QR (K:Frag) (tl:TE):TI:=λσ H R=>tl σ H λx H1=>∃a,x=.ref a/\(∃xs,ba K H1 a xs)/\R (Jf K a) H1
noncomputable def YU (K:Frag) (tl:TE):TI:=λσ H R=>tl σ H λx H1=>∃a,x=.ref a/\(∃xs,bX K H1 a xs)/\R (Itt K a) H1
theorem bQ {l:Expr}{tl:TE}(hl:PE X l tl):PI X tg l (QR X.K tl):=by
 intro pins s σ H R I h;refine ck (hl pins s σ H _ I h) λv s1 ⟨x,H1,I1,r1,q1⟩=>?_
 obtain⟨a,e,⟨xs,hq⟩,q⟩:=q1;subst e;cases r1;obtain⟨bF,rv,p,hz⟩:=I1.list hq;refine wpAny_pyIter_list p.isList ?_;refine⟨s1.heap.objs.size,[s1.heap.objs.size],_,_,H1,rfl,I1.kept (t':=s1.toks) λb o e=>get?_push_of_some _ e,Ho a _,⟨_,get?_push_size _ rfl,rfl,rfl⟩,λb hb=>?_,q⟩;have e:b=s1.heap.objs.size:=by simpa using hb
 subst e;exact I1.Jd (Nat.le_refl _) (I1.bV.fresh (Nat.le_refl _))
theorem Um {l:Expr}{tl:TE}(hl:PE X l tl):PI X tg l (YU X.K tl):=by
 intro pins s σ H R I h;refine ck (hl pins s σ H _ I h) λv s1 ⟨x,H1,I1,r1,q1⟩=>?_
 obtain⟨a,e,⟨xs,hq⟩,q⟩:=q1;subst e;cases r1;obtain⟨bF,rv,p,hz⟩:=I1.tuple hq;refine wpAny_pyIter_tuple (show s1.heap.IsTuple a bF.toArray from p) ?_;refine⟨s1.heap.objs.size,[s1.heap.objs.size],_,_,H1,rfl,I1.kept (t':=s1.toks) λb o e=>get?_push_of_some _ e,Du a _,⟨_,get?_push_size _ rfl,rfl,rfl⟩,λb hb=>?_,q⟩;have e:b=s1.heap.objs.size:=by simpa using hb
 subst e;exact I1.Jd (Nat.le_refl _) (I1.bV.fresh (Nat.le_refl _))
theorem Jg {pins:List (Addr×Obj)}{σ:St}{H:Hp}{s:Shared}{R:It->Hp->Prop}{E:Value->Shared->Prop}{lo hi:Int}{t u v:Tok}{tk:Nat}(I:Inv X pins σ H s) (h1:-(2 ^ 62)<=lo) (h2:lo < 2 ^ 62) (h3:-(2 ^ 62)<=hi) (h4:hi < 2 ^ 62)
  (q:R (QQ lo (hi - lo).toNat) H):wpAny (model X.prog X.w) X.A (pyIter (.ref s.heap.objs.size)) (PIE X pins σ tg R) E {s with heap:=s.heap.push {cls:=.type "range",data:=.fields #[.int lo t,.int hi u,.int 1 v]},toks:=tk}:=by
 refine wpAny_pyIter_range (IsRange.new ..) (small_one h1 h2 h3 h4) ?_;have I1:Inv X pins σ H {s with heap:=s.heap.push {cls:=.type "range",data:=.fields #[.int lo t,.int hi u,.int 1 v]},toks:=tk}:=I.kept λb o e=>get?_push_of_some _ e
 refine⟨(s.heap.push {cls:=.type "range",data:=.fields #[.int lo t,.int hi u,.int 1 v]}).objs.size,[(s.heap.push {cls:=.type "range",data:=.fields #[.int lo t,.int hi u,.int 1 v]}).objs.size],_,_,H,rfl,
  I1.kept (t':=tk) λb o e=>get?_push_of_some _ e,Dv _ lo (hi - lo).toNat,?_,λb hb=>?_,q⟩
 ·have e1:lo+((0:Nat):Int)*1=lo:=by simp
  have e2:(((hi - lo).toNat:Nat):Int) - ((0:Nat):Int)=Builtin.Range.rangeSize lo hi 1:=by rw [rangeSize_one]; split <;> omega
  show IsRangeIter _ _ (lo+((0:Nat):Int)*1) ((((hi - lo).toNat:Nat):Int) - ((0:Nat):Int)) 1;rw [e1,e2];exact get?_push_size _ rfl
 ·have e:b=(s.heap.push {cls:=.type "range",data:=.fields #[.int lo t,.int hi u,.int 1 v]}).objs.size:=by simpa using hb
  subst e;exact I1.Jd (Nat.le_refl _) (I1.bV.fresh (Nat.le_refl _))
noncomputable def QS (ta:TA):TI:=λσ H R=>ta σ H λvs H1=>∃j:Int,vs=[.int j]/\-(2 ^ 62)<=j/\j < 2 ^ 62/\R (QQ 0 j.toNat) H1
theorem tT {a:Expr}{ta:TA}{p pos:Pos}(hg:Gl X "range") (hm:X.mg "range"=none) (ha:PA X [a] ta) (hs:starEach [a] X.env=[(false,eval a X.env)]:=by rfl):PI X tg (.Call (.Name "range" p) [a] [] pos) (QS ta):=by
 intro pins s σ H R I h;refine Call_ (vB I hg hm boot_range (PyProof.Rows.callWith_type1 (ck (ha pos pins s σ H _ I h) λus s1 ⟨vs,H1,I1,r1,q1⟩=>?_) hs rfl));obtain⟨j,e,q1,q2,q⟩:=q1;subst e
 cases r1 with
 | cons r rr=>
  cases rr;obtain⟨t,rfl⟩:=r;exact call_range_1 (Jg I1 (by omega) (by omega) q1 q2 (by simpa using q))
noncomputable def adK (wi:TI) (g:TG) (tb:TS):TS:=λD σ H=>wi σ H λJ H1=>∃W:Nat->Nat->St->Hp->Prop,(∃m,W 0 m σ H1)/\∀i m σ H,W i m σ H ->
 (J.stop i H/\D.nx σ H)\/(J.go i H/\∃N:St->Hp->Prop,(∀σ' H',N σ' H'->∃m',m' < m/\W (i+1) m' σ' H')/\∀x H',J.Ul i H x H'->g x σ H' λσ2 H2=>tb {D with nx:=N,ct:=N,bk:=D.nx} σ2 H2)
noncomputable def jG (fp:List Addr) (h:Heap):List (Addr×Obj):=fp.filterMap λb=>(h.get? b).map λo=>(b,o)
theorem gb {fp:List Addr}{h:Heap}{b:Addr}{o:Obj}(hb:b∈fp) (e:h.get? b=some o):(b,o)∈jG fp h:=List.mem_filterMap.mpr ⟨b,hb,by rw [e]; rfl⟩
theorem Hr {fp:List Addr}{h:Heap}{p:Addr×Obj}(hp:p∈jG fp h):p.1∈fp/\h.get? p.1=some p.2:=by
 obtain⟨b,hb,e⟩:=List.mem_filterMap.mp hp
 cases q:h.get? b with
 | none=>rw [q] at e; cases e
 | some o=>
  rw [q] at e;have e':(b,o)=p:=Option.some.inj e;subst e';exact⟨hb,q⟩
theorem Inv.pinned {pins:List (Addr×Obj)}{σ:St}{H:Hp}{s:Shared}{fp:List Addr}(I:Inv X pins σ H s) (hf:∀b∈fp,iH X pins H b) (ho:∀b∈fp,∃o,s.heap.get? b=some o/\∀v,o.data≠.cell v):Inv X (pins++jG fp s.heap) σ H s:=
 I.pX λp hp=>(mem_append.mp hp).elim (λz=>I.pin p (mem_append_right _ z)) λz=>by
  obtain⟨hb,e⟩:=Hr z;obtain⟨f0,f1,f2,_⟩:=hf p.1 hb;obtain⟨o,e',d⟩:=ho p.1 hb;rw [e] at e'; cases e'
  exact⟨e,f0,f1,f2,d⟩
theorem Inv.gS {pins pl:List (Addr×Obj)}{σ:St}{H:Hp}{s:Shared}(I:Inv X (pins++pl) σ H s):Inv X pins σ H s:=I.pX λp hp=>I.pin p (mem_append_right _ (mem_append_left _ hp))
theorem Uo {iter:Expr}{body:List Stmt}{wi:TI}{g:TG}{tb:TS}{pos:Pos}(hp:PassesOwn (model X.prog X.w) X.A X.env X.xe) (hc:X.calm=true) (hi:PI X tg iter wi) (hg:PG X tg g) (hb:yf X body tb)
  (hs:∀x,foldedSetIterable iter X.env x=pure x:=by intro _; rfl):PS X (.For tg iter body [] pos) (adK wi g tb):=by
 intro pins s σ H D I h;refine wpAny_For (ck (hi pins s σ H _ I h) λv s1 h1=>ck h1 λYb s2 h2=>?_) hs;obtain⟨it,fp,tn,J,H2,e,I2,T,Pa,f2,W,⟨m0,w0⟩,turn⟩:=h2;subst e;have qj:∀{H':Hp},(∀b∈fp,H' b=none)->∀b∈fp,iH X pins H' b:=λhn b hb=>⟨hn b hb,(f2 b hb).2⟩
 refine codeAny_forLoop_any (λn s'=>∃i σ' H',Inv X pins σ' H' s'/\tn i s'.heap/\(∀b∈fp,H' b=none)/\W i n σ' H') ?_ m0 ⟨0,σ,H2,I2,Pa,λb hb=>(f2 b hb).1,w0⟩;rintro n s3 ⟨i,σ3,H3,I3,QT,Jh,w3⟩;rcases turn i n σ3 H3 w3 with ⟨stop,qn⟩ | ⟨go,N,hN,step⟩
 ·refine wpAny_passesOwn hp (ck (T.done X rfl rfl rfl hc i pins s3 σ3 H3 X.xe I3 (qj Jh) QT stop) λr s4 ⟨hr,I4⟩=>?_);subst hr;exact wpAny_execs_nil ⟨σ3,H3,I4,qn⟩
 ·refine wpAny_passesOwn hp (ck (T.item X rfl rfl rfl hc i pins s3 σ3 H3 X.xe I3 (qj Jh) QT go) λr s4 ⟨u,hr,h4⟩=>?_);subst hr;refine wpAny_passesOwn hp (ck h4 λ_ s5 ⟨x,H5,I5,r5,y5,st5,fr5⟩=>?_);have I5':=I5.pinned (qj fr5) (T.obj _ _ st5);refine wpAny_passesOwn hp (ck (hg _ s5 σ3 H5 x u _ I5' r5 (step x H5 y5)) λ_ s6 ⟨σ6,H6,I6,q6⟩=>?_);refine wpAny_passesOwn hp (ck (hb _ s6 σ6 H6 _ I6 q6) λf s7 q7=>?_);have again:∀{σ7:St}{H7:Hp},Inv X (pins++jG fp s5.heap) σ7 H7 s7->N σ7 H7->∃m,m < n/\∃i σ' H',Inv X pins σ' H' s7/\tn i s7.heap/\(∀b∈fp,H' b=none)/\W i m σ' H':=λ{σ7 H7} I7 n7=>by
   obtain⟨m',hm,w7⟩:=hN σ7 H7 n7;refine⟨m',hm,i+1,σ7,H7,I7.gS,T.keep _ _ _ st5 λb hb o e=>(I7.pin (b,o) (mem_append_right _ (mem_append_right _ (gb hb e)))).1,λb hb=>?_,w7⟩;obtain⟨o,e,d⟩:=T.obj _ _ st5 b hb;exact(I7.pin (b,o) (mem_append_right _ (mem_append_right _ (gb hb e)))).2.1
  cases f with
  | next=>obtain⟨σ7,H7,I7,n7⟩:=q7; exact again I7 n7
  | cont=>obtain⟨σ7,H7,I7,n7⟩:=q7; exact again I7 n7
  | brk=>obtain⟨σ7,H7,I7,q7⟩:=q7; exact⟨σ7,H7,I7.gS,q7⟩
  | ret v=>obtain⟨x7,σ7,H7,I7,r7,q7⟩:=q7; exact⟨x7,σ7,H7,I7.gS,r7,q7⟩
end
theorem Ji {K:Frag}{a:Addr}{xs:List V}{g:TG}{tb:TS}{D:Ends}{σ:St}{H:Hp}(Pv:Nat->St->Hp->Prop) (h0:Pv 0 σ H) (hl:∀i σ H,i<=xs.length->Pv i σ H->ba K H a xs)
  (hs:∀i x σ H,xs[i]?=some x->Pv i σ H->g x σ H λσ2 H2=>tb {D with nx:=Pv (i+1),ct:=Pv (i+1),bk:=D.nx} σ2 H2) (hd:∀σ H,Pv xs.length σ H->D.nx σ H) :
  ∃W:Nat->Nat->St->Hp->Prop,(∃m,W 0 m σ H)/\∀i m σ H,W i m σ H ->
   ((Jf K a).stop i H/\D.nx σ H)\/((Jf K a).go i H/\∃N:St->Hp->Prop,(∀σ' H',N σ' H'->∃m',m' < m/\W (i+1) m' σ' H')/\∀x H',(Jf K a).Ul i H x H'->g x σ H' λσ2 H2=>tb {D with nx:=N,ct:=N,bk:=D.nx} σ2 H2):=by
 refine⟨λi m σ H=>m=xs.length - i/\i<=xs.length/\Pv i σ H,⟨xs.length,by simp,Nat.zero_le _,h0⟩,?_⟩;rintro i m σ H ⟨rfl,hi,p⟩;have q:=hl i σ H hi p
 by_cases hU:i < xs.length
 ·refine .inr ⟨⟨xs,xs[i],q,by simp [hU]⟩,Pv (i+1),λσ' H' p'=>⟨xs.length - (i+1),by omega,rfl,hU,p'⟩,λx H' y=>?_⟩;obtain⟨e,y⟩:=y;subst e;exact hs i x σ _ (y xs q) p
 ·have e:i=xs.length:=by omega
  subst e;exact .inl ⟨⟨xs,q,Nat.le_refl _⟩,hd σ H p⟩
theorem Hs {lo:Int}{n:Nat}{g:TG}{tb:TS}{D:Ends}{σ:St}{H:Hp}(Pv:Nat->St->Hp->Prop) (h0:Pv 0 σ H)
  (hs:∀i σ H,i < n->Pv i σ H->g (.int (lo+i)) σ H λσ2 H2=>tb {D with nx:=Pv (i+1),ct:=Pv (i+1),bk:=D.nx} σ2 H2) (hd:∀σ H,Pv n σ H->D.nx σ H) :
  ∃W:Nat->Nat->St->Hp->Prop,(∃m,W 0 m σ H)/\∀i m σ H,W i m σ H ->
   ((QQ lo n).stop i H/\D.nx σ H)\/((QQ lo n).go i H/\∃N:St->Hp->Prop,(∀σ' H',N σ' H'->∃m',m' < m/\W (i+1) m' σ' H')/\∀x H',(QQ lo n).Ul i H x H'->g x σ H' λσ2 H2=>tb {D with nx:=N,ct:=N,bk:=D.nx} σ2 H2):=by
 refine⟨λi m σ H=>m=n - i/\i<=n/\Pv i σ H,⟨n,by simp,Nat.zero_le _,h0⟩,?_⟩;rintro i m σ H ⟨rfl,hi,p⟩
 by_cases hU:i < n
 ·refine .inr ⟨hU,Pv (i+1),λσ' H' p'=>⟨n - (i+1),by omega,rfl,hU,p'⟩,λx H' y=>?_⟩;obtain⟨e,y⟩:=y;subst e y;exact hs i σ _ hU p
 ·have e:i=n:=by omega
  subst e;exact .inl ⟨Nat.le_refl _,hd σ H p⟩
noncomputable abbrev R2:=V->V->Hp->VK->Prop
noncomputable def kW (X:Cx) (f:Value->Value->Sem Value) (r:R2):Prop:=
 ∀(pins:List (Addr×Obj)) (s:Shared) (σ:St) (H:Hp) (x y:V) (v u:Value) (Q:VK),Inv X pins σ H s->RelV x v->RelV y u->r x y H Q ->
  wpAny (model X.prog X.w) X.A (f v u) (EP X pins σ Q) X.xe s
noncomputable def UnR (X:Cx) (f:Value->Sem Value) (r:V->Hp->VK->Prop):Prop:=
 ∀(pins:List (Addr×Obj)) (s:Shared) (σ:St) (H:Hp) (x:V) (v:Value) (Q:VK),Inv X pins σ H s->RelV x v->r x H Q ->
  wpAny (model X.prog X.w) X.A (f v) (EP X pins σ Q) X.xe s
noncomputable def fK (X:Cx) (f:Value) (r:List V->Hp->VK->Prop):Prop:=
 ∀(pins:List (Addr×Obj)) (s:Shared) (σ:St) (H:Hp) (xs:List V) (us:List Value) (Q:VK),Inv X pins σ H s->Vals xs us->r xs H Q ->
  wpAny (model X.prog X.w) X.A (call f us) (EP X pins σ Q) X.xe s
noncomputable def Yc (r:R2) (ta tb:TE):TE:=λσ H Q=>ta σ H λx H1=>tb σ H1 λy H2=>r x y H2 Q
noncomputable def tUn (r:V->Hp->VK->Prop) (ta:TE):TE:=λσ H Q=>ta σ H λx H1=>r x H1 Q
noncomputable def rI (C:Int->Int->Prop) (g:Int->Int->V):R2:=λx y H Q=>∃i j,x=.int i/\y=.int j/\C i j/\Q (g i j) H
noncomputable def Up (g:Int->Int->V):R2:=λx y H Q=>∃i j,x=.int i/\y=.int j/\Q (g i j) H
noncomputable def rU (g:Int->V):V->Hp->VK->Prop:=λx H Q=>∃i,x=.int i/\Q (g i) H
section
variable {X:Cx}{a b c:Expr}{ta tb tc:TE}{pos:Pos}
theorem Uq (ha:PE X a ta) (hb:PE X b tb) {pins:List (Addr×Obj)}{s:Shared}{σ:St}{H:Hp}{R:V->V->Hp->Prop}(I:Inv X pins σ H s)
  (h:ta σ H λx H1=>tb σ H1 λy H2=>R x y H2) {Q:Value->Shared->Prop}{f:Value->Value->Sem Value}
  (hf:∀v u s2 x y H2,Inv X pins σ H2 s2->RelV x v->RelV y u->R x y H2->wpAny (model X.prog X.w) X.A (f v u) Q X.xe s2) :
  wpAny (model X.prog X.w) X.A (eval a X.env) (λv s₁=>wpAny (model X.prog X.w) X.A (eval b X.env) (λu s₂=>wpAny (model X.prog X.w) X.A (f v u) Q X.xe s₂) X.xe s₁) X.xe s:=by
 refine ck (ha pins s σ H _ I h) λv s1 ⟨x,H1,I1,r1,q1⟩=>?_
 refine ck (hb pins s1 σ H1 _ I1 q1) λu s2 ⟨y,H2,I2,r2,q2⟩=>?_
 exact hf v u s2 x y H2 I2 r1 r2 q2
theorem bu {op:Operator}{r:R2}(ho:kW X (binaryOp op) r) (ha:PE X a ta) (hb:PE X b tb):PE X (.BinOp a op b pos) (Yc r ta tb):=by
 intro pins s σ H Q I h;exact wpAny_BinOp (Uq ha hb I h λv u s2 x y H2 I2 rx ry q=>ho pins s2 σ H2 x y v u Q I2 rx ry q)
theorem YV {op:UnaryOp}{r:V->Hp->VK->Prop}(ho:UnR X (unaryOp op) r) (ha:PE X a ta):PE X (.UnaryOp op a pos) (tUn r ta):=by
 intro pins s σ H Q I h;exact UnaryOp_ (ck (ha pins s σ H _ I h) λv s1 ⟨x,H1,I1,r1,q1⟩=>ho pins s1 σ H1 x v Q I1 r1 q1)
theorem opI {f:Value->Value->Sem Value}{C:Int->Int->Prop}{g:Int->Int->Int}
  (rule:∀(i j:Int) (t u:Tok) (s:Shared) (Q:Value->Shared->Prop) (E:Value->Shared->Prop),C i j->Q (.int (g i j) s.toks) {s with toks:=s.toks+1}->wpAny (model X.prog X.w) X.A (f (.int i t) (.int j u)) Q E s) :
  kW X f (rI C λi j=>.int (g i j)):=by
 intro pins s σ H x y v u Q I rx ry h;obtain⟨i,j,rfl,rfl,hc,q⟩:=h;obtain⟨t,rfl⟩:=rx;obtain⟨t',rfl⟩:=ry;exact rule i j t t' s _ _ hc ⟨.int (g i j),H,I.tok _,⟨_,rfl⟩,q⟩
theorem adL {f:Value->Value->Sem Value}{g:Int->Int->Int}
  (rule:∀(i j:Int) (t u:Tok) (s:Shared) (Q:Value->Shared->Prop) (E:Value->Shared->Prop),Q (.int (g i j) s.toks) {s with toks:=s.toks+1}->wpAny (model X.prog X.w) X.A (f (.int i t) (.int j u)) Q E s) :
  kW X f (Up λi j=>.int (g i j)):=by
 intro pins s σ H x y v u Q I rx ry h;obtain⟨i,j,rfl,rfl,q⟩:=h;obtain⟨t,rfl⟩:=rx;obtain⟨t',rfl⟩:=ry;exact rule i j t t' s _ _ ⟨.int (g i j),H,I.tok _,⟨_,rfl⟩,q⟩
theorem Ur {f:Value->Value->Sem Value}{g:Int->Int->Bool}
  (rule:∀(i j:Int) (t u:Tok) (s:Shared) (Q:Value->Shared->Prop) (E:Value->Shared->Prop),Q (.bool (g i j)) s->wpAny (model X.prog X.w) X.A (f (.int i t) (.int j u)) Q E s) :
  kW X f (Up λi j=>.bl (g i j)):=by
 intro pins s σ H x y v u Q I rx ry h;obtain⟨i,j,rfl,rfl,q⟩:=h;obtain⟨t,rfl⟩:=rx;obtain⟨t',rfl⟩:=ry;exact rule i j t t' s _ _ ⟨.bl (g i j),H,I,rfl,q⟩
noncomputable def adM (i j:Int):Prop:=0<=j/\j<=1000000/\i.natAbs < 2 ^ 64
noncomputable def Us (i j:Int):Prop:=(-(2 ^ 64) < i/\i < 2 ^ 64)\/(-(2 ^ 64) < j/\j < 2 ^ 64)
theorem Us.ok {i j:Int}(h:Us i j):IntMulOk i j:=by
 rcases h with ⟨h1,h2⟩ | ⟨h1,h2⟩
 ·exact .of_left (intBits_le_64 h1 h2)
 ·exact .of_right (intBits_le_64 h1 h2)
theorem nj:kW X (binaryOp .Add) (Up λi j=>.int (i+j)):=adL λ_ _ _ _ _ _ _ q=>add_int q
theorem Dw:kW X (binaryOp .Mult) (rI Us λi j=>.int (i*j)):=opI λ_ _ _ _ _ _ _ hc q=>mul_int q hc.ok
theorem eY:kW X (binaryOp .Mod) (rI (λ_ j=>0 < j) λi j=>.int (i % j)):=opI λi j _ _ _ _ _ hc q=>by
 have h1:(0:Int) < j:=hc;exact mod_int' (by omega) (by rw [Int.fmod_eq_emod_of_nonneg i (by omega)]; exact q)
theorem Ut:kW X (binaryOp .Pow) (rI adM λi j=>.int (i ^ j.toNat)):=opI λ_ _ _ _ _ _ _ hc q=>pow_int_small hc.1 hc.2.1 hc.2.2 q
theorem unI {f:Value->Sem Value}{g:Int->Int}
  (rule:∀(i:Int) (t:Tok) (s:Shared) (Q:Value->Shared->Prop) (E:Value->Shared->Prop),Q (.int (g i) s.toks) {s with toks:=s.toks+1}->wpAny (model X.prog X.w) X.A (f (.int i t)) Q E s) :
  UnR X f (rU λi=>.int (g i)):=by
 intro pins s σ H x v Q I rx h;obtain⟨i,rfl,q⟩:=h;obtain⟨t,rfl⟩:=rx;exact rule i t s _ _ ⟨.int (g i),H,I.tok _,⟨_,rfl⟩,q⟩
theorem Uu:UnR X (unaryOp .USub) (rU λi=>.int (-i)):=unI λ_ _ _ _ _ q=>neg_int q
end
noncomputable def yr:V->V->Bool
 | .bN,.bN=>true | .bN,.int _=>true | .int _,.bN=>true | .bN,.bl _=>true | .bl _,.bN=>true | .bN,.str _=>true | .str _,.bN=>true
 | .int _,.int _=>true | .bl _,.bl _=>true | .str _,.str _=>true | .II _,.II _=>true
 | .int _,.str _=>true | .str _,.int _=>true | .bl _,.str _=>true | .str _,.bl _=>true
 | _,_=>false
noncomputable def rEq:R2:=λx y H Q=>yr x y=true/\Q (.bl (decide (x=y))) H
noncomputable def rNe:R2:=λx y H Q=>yr x y=true/\Q (.bl (!decide (x=y))) H
theorem FV {i j:Int}:decide (V.int i=V.int j)=(i == j):=by
 rw [Bool.eq_iff_iff];simp
theorem Jj {i j:Bool}:decide (V.bl i=V.bl j)=(i == j):=by
 rw [Bool.eq_iff_iff];simp
theorem FW {i j:Str}:decide (V.str i=V.str j)=(i == j):=by
 rw [Bool.eq_iff_iff];simp
theorem FX {i j:Array UInt8}:decide (V.II i=V.II j)=(i.toList == j.toList):=by
 rw [Bool.eq_iff_iff];cases i;cases j;simp
section
variable {X:Cx}{a b c:Expr}{ta tb tc:TE}{pos:Pos}
theorem bL {pins:List (Addr×Obj)}{σ:St}{H:Hp}{s:Shared}{Q:VK}{k k':Bool}(I:Inv X pins σ H s) (q:Q (.bl k) H) (e:k=k'):EP X pins σ Q (.bool k') s:=by
 subst e;exact⟨.bl k,H,I,rfl,q⟩
theorem cj:kW X (compareOp .Eq) rEq:=by
 intro pins s σ H x y v u Q I rx ry h;obtain⟨hs,q⟩:=h
 cases x with
 | bN=>
  cases rx
  cases y with
  | bN=>cases ry; exact PySem.EqNone.eq_none_none (bL I q (by simp))
  | bl j=>cases ry; exact PySem.EqNone.eq_none_bool (bL I q (by simp))
  | int j=>obtain⟨t',rfl⟩:=ry; exact PySem.EqNone.eq_none_int (bL I q (by simp))
  | str j=>obtain⟨t',rfl⟩:=ry; exact PySem.EqNone.eq_none_str (bL I q (by simp))
  | _=>exact absurd (show false=true from hs) Bool.false_ne_true
 | bl i=>
  cases rx
  cases y with
  | bN=>cases ry; exact PySem.EqNone.eq_bool_none (bL I q (by simp))
  | bl j=>cases ry; exact eq_bool (bL I q Jj)
  | str j=>obtain⟨t',rfl⟩:=ry; exact PySem.EqMixed.eq_bool_str (bL I q (by simp))
  | _=>exact absurd (show false=true from hs) Bool.false_ne_true
 | int i=>
  obtain⟨t,rfl⟩:=rx
  cases y with
  | bN=>cases ry; exact PySem.EqNone.eq_int_none (bL I q (by simp))
  | int j=>obtain⟨t',rfl⟩:=ry; exact eq_int (bL I q FV)
  | str j=>obtain⟨t',rfl⟩:=ry; exact PySem.EqMixed.eq_int_str (bL I q (by simp))
  | _=>exact absurd (show false=true from hs) Bool.false_ne_true
 | str i=>
  obtain⟨t,rfl⟩:=rx
  cases y with
  | bN=>cases ry; exact PySem.EqNone.eq_str_none (bL I q (by simp))
  | bl j=>cases ry; exact PySem.EqMixed.eq_str_bool (bL I q (by simp))
  | int j=>obtain⟨t',rfl⟩:=ry; exact PySem.EqMixed.eq_str_int (bL I q (by simp))
  | str j=>obtain⟨t',rfl⟩:=ry; exact eq_str (bL I q FW)
  | _=>exact absurd (show false=true from hs) Bool.false_ne_true
 | II i=>
  obtain⟨t,rfl⟩:=rx
  cases y with
  | II j=>obtain⟨t',rfl⟩:=ry; exact PySem.W.eq_bytes (bL I q FX)
  | _=>exact absurd (show false=true from hs) Bool.false_ne_true
 | _=>cases y <;> exact absurd (show false=true from hs) Bool.false_ne_true
theorem jH:kW X (compareOp .NotEq) rNe:=by
 intro pins s σ H x y v u Q I rx ry h;obtain⟨hs,q⟩:=h
 cases x with
 | bN=>
  cases rx
  cases y with
  | bN=>cases ry; exact PySem.EqNone.ne_none_none (bL I q (by simp))
  | bl j=>cases ry; exact PySem.EqNone.ne_none_bool (bL I q (by simp))
  | int j=>obtain⟨t',rfl⟩:=ry; exact PySem.EqNone.ne_none_int (bL I q (by simp))
  | str j=>obtain⟨t',rfl⟩:=ry; exact PySem.EqNone.ne_none_str (bL I q (by simp))
  | _=>exact absurd (show false=true from hs) Bool.false_ne_true
 | bl i=>
  cases rx
  cases y with
  | bN=>cases ry; exact PySem.EqNone.ne_bool_none (bL I q (by simp))
  | bl j=>cases ry; exact ne_bool (bL I q (congrArg not Jj))
  | str j=>obtain⟨t',rfl⟩:=ry; exact PySem.EqMixed.ne_bool_str (bL I q (by simp))
  | _=>exact absurd (show false=true from hs) Bool.false_ne_true
 | int i=>
  obtain⟨t,rfl⟩:=rx
  cases y with
  | bN=>cases ry; exact PySem.EqNone.ne_int_none (bL I q (by simp))
  | int j=>obtain⟨t',rfl⟩:=ry; exact ne_int (bL I q (congrArg not FV))
  | str j=>obtain⟨t',rfl⟩:=ry; exact PySem.EqMixed.ne_int_str (bL I q (by simp))
  | _=>exact absurd (show false=true from hs) Bool.false_ne_true
 | str i=>
  obtain⟨t,rfl⟩:=rx
  cases y with
  | bN=>cases ry; exact PySem.EqNone.ne_str_none (bL I q (by simp))
  | bl j=>cases ry; exact PySem.EqMixed.ne_str_bool (bL I q (by simp))
  | int j=>obtain⟨t',rfl⟩:=ry; exact PySem.EqMixed.ne_str_int (bL I q (by simp))
  | str j=>obtain⟨t',rfl⟩:=ry; exact ne_str (bL I q (congrArg not FW))
  | _=>exact absurd (show false=true from hs) Bool.false_ne_true
 | II i=>
  obtain⟨t,rfl⟩:=rx
  cases y with
  | II j=>obtain⟨t',rfl⟩:=ry; exact PySem.W.ne_bytes (bL I q (congrArg not FX))
  | _=>exact absurd (show false=true from hs) Bool.false_ne_true
 | _=>cases y <;> exact absurd (show false=true from hs) Bool.false_ne_true
theorem Jk:kW X (compareOp .Lt) (Up λi j=>.bl (decide (i < j))):=Ur λ_ _ _ _ _ _ _ q=>lt_int q
theorem YW:kW X (compareOp .LtE) (Up λi j=>.bl (decide (i<=j))):=Ur λ_ _ _ _ _ _ _ q=>le_int q
theorem Jl:kW X (compareOp .GtE) (Up λi j=>.bl (decide (j<=i))):=Ur λ_ _ _ _ _ _ _ q=>ge_int q
theorem nk:kW X (compareOp .Is) (λx y H Q=>y=.bN/\Q (.bl (decide (x=.bN))) H):=by
 intro pins s σ H x y v u Q I rx ry h;obtain⟨rfl,q⟩:=h;cases ry;refine is_none_gen (bL I q ?_)
 cases x <;> first
  | (cases rx; rfl)
  | (obtain⟨t,rfl⟩:=rx; rfl)
theorem lZ:kW X (compareOp .IsNot) (λx y H Q=>y=.bN/\Q (.bl (!decide (x=.bN))) H):=by
 intro pins s σ H x y v u Q I rx ry h;obtain⟨rfl,q⟩:=h;cases ry;refine isnot_none_gen (bL I q ?_)
 cases x <;> first
  | (cases rx; rfl)
  | (obtain⟨t,rfl⟩:=rx; rfl)
theorem aH (b:Expr) {op:CmpOp}(h:op≠.In:=by decide) (h2:op≠.NotIn:=by decide):behindInMarks op b=false:=by
 have e1:(op == CmpOp.In)=false:=by cases op <;> first | rfl | exact absurd rfl h
 have e2:(op == CmpOp.NotIn)=false:=by cases op <;> first | rfl | exact absurd rfl h2
 cases b <;> simp [behindInMarks,e1,e2]
theorem fL {op:CmpOp}{r:R2}(ho:kW X (compareOp op) r) (ha:PE X a ta) (hb:PE X b tb) (hm:behindInMarks op b=false):PE X (.Compare a [op] [b] pos) (Yc r ta tb):=by
 intro pins s σ H Q I h;exact wpAny_Compare1 (Uq ha hb I h λv u s2 x y H2 I2 rx ry q=>ho pins s2 σ H2 x y v u Q I2 rx ry q) hm
noncomputable def QU (t:TE):TT:=λσ H Q=>t σ H λx H'=>∃k,x=.bl k/\Q k H'
theorem aF {op:CmpOp}{r:R2}(ho:kW X (compareOp op) r) (ha:PE X a ta) (hb:PE X b tb) (hm:behindInMarks op b=false):PT X (.Compare a [op] [b] pos) (QU (Yc r ta tb)):=by
 intro pins s σ H Q I h;refine wpAny_isTrue_Compare1 (ck (ha pins s σ H _ I h) λv s1 ⟨x,H1,I1,r1,q1⟩=>ck (hb pins s1 σ H1 _ I1 q1) λu s2 ⟨y,H2,I2,r2,q2⟩=>
  ck (ho pins s2 σ H2 x y v u _ I2 r1 r2 q2) λc s3 ⟨z,H3,I3,r3,k,e,q3⟩=>?_) hm
 subst e;cases r3;exact wpAny_truthy_bool ⟨H3,I3,q3⟩
noncomputable def Jm (r r':R2) (ta tb tc:TE):TE:=λσ H Q=>ta σ H λx H1=>tb σ H1 λy H2=>r x y H2 λz H3=>∃k,z=.bl k /\
 (if k=true then tc σ H3 λw' H4=>r' y w' H4 Q else Q (.bl false) H3)
theorem Jn {op op':CmpOp}{r r':R2}(ho:kW X (compareOp op) r) (Dg:kW X (compareOp op') r') (ha:PE X a ta) (hb:PE X b tb) (hc:PE X c tc)
  (hm:lastMarks [op,op'] [b,c]=false:=by with_unfolding_all rfl):PE X (.Compare a [op,op'] [b,c] pos) (Jm r r' ta tb tc):=by
 intro pins s σ H Q I h;refine Compare_chain (ck (ha pins s σ H _ I h) λv s1 ⟨x,H1,I1,r1,q1⟩=>chain_link (ck (hb pins s1 σ H1 _ I1 q1) λu s2 ⟨y,H2,I2,r2,q2⟩=>
  ck (ho pins s2 σ H2 x y v u _ I2 r1 r2 q2) λd s3 ⟨z,H3,I3,r3,k,e,q3⟩=>?_)) hm
 subst e;cases r3;refine wpAny_truthy_bool ?_
 cases k with
 | false=>exact ite_ff ⟨.bl false,H3,I3,rfl,q3⟩
 | true=>exact ite_tt (chain_last (ck (hc pins s3 σ H3 _ I3 q3) λw' s4 ⟨z',H4,I4,r4,q4⟩=>Dg pins s4 σ H4 y z' u w' Q I4 r2 r4 q4))
theorem vE:(sizeLine:Nat) < 2 ^ 63:=by rw [sizeLine_eq]; decide
theorem vals1 {x:V}{us:List Value}(r:Vals [x] us):∃u,us=[u]/\RelV x u:=by
 cases r with
 | cons r1 r2=>cases r2; exact⟨_,rfl,r1⟩
theorem vals2 {x y:V}{us:List Value}(r:Vals [x,y] us):∃u w',us=[u,w']/\RelV x u/\RelV y w':=by
 cases r with
 | cons r1 r2=>
  cases r2 with
  | cons r3 r4=>cases r4; exact⟨_,_,rfl,r1,r3⟩
theorem yt:fK X (.builtin "abs") (λxs H Q=>∃i,xs=[.int i]/\Q (.int (if i < 0 then -i else i)) H):=by
 intro pins s σ H xs us Q I r h;obtain⟨i,rfl,q⟩:=h;obtain⟨u,rfl,t,rfl⟩:=vals1 r;exact call_abs_int λu tk=>⟨.int (if i < 0 then -i else i),H,I.tok _,⟨_,rfl⟩,q⟩
theorem tU:fK X (.type "int") (λxs H Q=>(∃i,xs=[.int i]/\Q (.int i) H)\/∃k,xs=[.bl k]/\Q (.int (if k then 1 else 0)) H):=by
 intro pins s σ H xs us Q I r h;rcases h with ⟨i,rfl,q⟩ | ⟨k,rfl,q⟩
 ·obtain⟨u,rfl,t,rfl⟩:=vals1 r;exact call_int_int ⟨.int i,H,I,⟨_,rfl⟩,q⟩
 ·obtain⟨u,rfl,r1⟩:=vals1 r;cases r1;exact call_int_bool ⟨.int (if k then 1 else 0),H,I.tok _,⟨_,rfl⟩,q⟩
end
structure Dx (h:Heap) (x dx C:Addr) (mA:Str->Option Value):Prop where
 obj:h.get? x=some (PySem.W.instObj C dx)
 ns:h.Ns1 dx mA
 ne:dx≠x
theorem Ht {h:Heap}{dx:Addr}{mA:Str->Option Value}(n:h.Ns1 dx mA):∃od,h.get? dx=some od/\∀name,PySem.W.lookIn name od=some (mA name):=by
 obtain⟨o,es,ep,ho,hd,hk,_,hm⟩:=n;refine⟨o,ho,λname=>?_⟩;have e:=hm name;unfold nsFind findBy at e;rw [<-Array.find?_toList] at e;unfold PySem.W.lookIn;rw [hd];dsimp only;split
 ·rename_i y q;rw [q] at e;exact congrArg some e
 ·rename_i q;rw [q] at e;have a:es.toList.any (·.refKey)=false:=by
   rw [List.any_eq_false];intro y hy;obtain⟨z,t,yu⟩:=hk y (Array.mem_toList_iff.mp hy);simp [DictEntry.refKey,yu]
  have a':¬es.toList.any (·.refKey)=true:=by rw [a]; exact Bool.false_ne_true
  rw [if_neg a'];exact congrArg some e
theorem Dx.look {h:Heap}{x dx C:Addr}{mA:Str->Option Value}(I:Dx h x dx C mA):∃od,PySem.W.InstAt h x (PySem.W.instObj C dx) C (some od)/\∀name,PySem.W.lookIn name od=some (mA name):=
 let ⟨od,ho,hl⟩:=Ht I.ns
 ⟨od,⟨I.obj,rfl,rfl,ho⟩,hl⟩
section
variable {prog:Program}{w:World}{A:Around}{E:Value->Shared->Prop}{s:Shared}{K:Frag}{x dx C f:Addr}{mA:Str->Option Value}{name:Str}{v:Value}
theorem get_map {expr:Bool}{Q:Value->Shared->Prop}(X:K.In s.heap) (I:Dx s.heap x dx C mA) (hg:PySem.W.plainGet K C name=true) (hh:PySem.W.hasDictIn K C=true)
  (ha:findIn K (.ref C) name=some none) (hv:mA name=some v) (hv':PySem.W.handedIn v=true) (h:Q v {s with toks:=s.toks+1}) :
  wpAny (model prog w) A (getAttr (.ref x) name expr) Q E s:=by
 obtain⟨od,J,hl⟩:=I.look;exact PySem.W.get_value X J (PySem.W.plainGet_of hg).1 (PySem.W.findObj_own hh ha rfl (by rw [hl,hv])) hv' h
theorem Jo {pl:Sem Bool}{Q:Value×List Value->Shared->Prop}(X:K.In s.heap) (I:Dx s.heap x dx C mA) (hg:PySem.W.plainGet K C name=true)
  (hf:findIn K (.ref C) name=some (some (.ref f))) (ht:PySem.W.isFn K (.ref f)=true) (hv:mA name=none) (h:Q (.ref f,[.ref x]) s) :
  wpAny (model prog w) A (getMethod (.ref x) name pl) Q E s:=by
 obtain⟨od,J,hl⟩:=I.look;exact PySem.W.method_fn X J (PySem.W.plainGet_of hg).1 (PySem.W.plainGet_of hg).2 hf (beq_iff_eq.mp ht) (by show(PySem.W.lookIn name od).map (·.isSome)=some false; rw [hl,hv]; rfl) h
theorem Pb {ns:List Str}{Q:Unit->Shared->Prop}(X:K.In s.heap) (I:Dx s.heap x dx C mA)
  (hs:findIn K (.ref C) "__setattr__"=some (some (.builtin "object.__setattr__"))) (hp:PySem.W.plainOver K C=true) (ht:PySem.W.takerIn K C name=some none) (hh:PySem.W.hasDictIn K C=true)
  (hw:PySem.Within mA ns) (hsz:ns.length<=sizeLine)
  (h:∀h',Dx h' x dx C (λy=>if y=name then some v else mA y)->Heap.SameBut dx s.heap h'->Q () {s with heap:=h',toks:=s.toks+2}) :
  wpAny (model prog w) A (setAttr (.ref x) name v) Q E s:=by
 obtain⟨od,J,hl⟩:=I.look;refine PySem.W.set_plain X J hs (PySem.W.osa_open (s:={s with toks:=s.toks+1}) (r:=none) X J hp ht λb=>?_);obtain⟨cd,hc,yn⟩:=PySem.W.any_some hh;have hx:s.heap.get? x=some ⟨.ref C,some dx,.plain,#[]⟩:=I.obj;refine wpAny_bind (wpAny_pure (wpAny_bind (wpAny_bind (wpAny_loadPart hx (wpAny_bind (PySem.W.Looks.here (s:={s with toks:=s.toks+1}) (PySem.W.looks_clsIn X hc) ?_))))));rw [yn];refine wpAny_pure (a:=some dx) (wpAny_bind (wpAny_pure (wpAny_bind ?_)));refine wpAny_nsSet1 (s:={s with toks:=s.toks+1}) I.ns λh' hn2 YX=>?_
 obtain⟨oD,esD,epD,hoD,Yd,hcD⟩:=hn2.count (PySem.Within.cons name v hw);refine wpAny_bind (wpAny_lookBehind hoD (by rw [Yd]; exact pastItsLine_dict (Nat.le_trans hcD (by rw [length_cons]; omega))) ?_);exact wpAny_pure (h _ ⟨(YX.2 _ (Ne.symm I.ne)).trans I.obj,hn2,I.ne⟩ YX)
theorem Jp {R:Result->Shared->Prop}{vs:List Value}{kw:List (Str×Value)}(X:K.In s.heap) (hm:PySem.W.makesIn K C=true)
  (hi:findIn K (.ref C) "__init__"=some (some (.ref f))) (hf:PySem.W.typeIn K (.ref f)=some (.type "function"))
  (h:codeAny (model prog w) (A.under (.builtin "type.__call__" ⟨.ref C::vs,kw⟩)) (.call (.ref f) ⟨.ref (s.heap.objs.size+1)::vs,kw⟩) (PySem.W.InitBack (s.heap.objs.size+1) R)
   {s with heap:=(s.heap.push PySem.W.emptyDict).push (PySem.W.instObj C s.heap.objs.size)}) :
  codeAny (model prog w) A (.call (.ref C) ⟨vs,kw⟩) R s:=by
 obtain⟨hh,g,d,t,os⟩:=s;exact PySem.W.make_core (PySem.W.makes_of X hm) (PySem.W.looks_findIn X hi) (λself=>PySem.W.bind_fn X self hf) (.inl rfl) h
end
noncomputable def b_ (f:Str) (v:V):List (Str×V)->List (Str×V)
 | []=>[(f,v)]
 | (g,x)::r=>if g=f then(g,v)::r else(g,x)::b_ f v r
theorem aO (f g:Str) (v:V):∀fs:List (Str×V),(b_ f v fs).lookup g=if g=f then some v else fs.lookup g
 | []=>by
  show List.lookup g [(f,v)]=_
  by_cases h:g=f
  ·have hb:(g == f)=true:=beq_iff_eq.mpr h;simp only [List.lookup,hb,if_pos h]
  ·have hb:(g == f)=false:=beq_eq_false_iff_ne.mpr h;simp only [List.lookup,hb,if_neg h]
 | (k,x)::r=>by
  have ih:=aO f g v r;rw [show b_ f v ((k,x)::r)=(if k=f then(k,v)::r else(k,x)::b_ f v r) from rfl]
  by_cases hk:k=f
  ·rw [if_pos hk]
   by_cases h:g=k
   ·have hb:(g == k)=true:=beq_iff_eq.mpr h;simp only [List.lookup,hb,if_pos (h.trans hk)]
   ·have hb:(g == k)=false:=beq_eq_false_iff_ne.mpr h;simp only [List.lookup,hb,if_neg (λe:g=f=>h (e.trans hk.symm))]
  ·rw [if_neg hk]
   by_cases h:g=k
   ·have hb:(g == k)=true:=beq_iff_eq.mpr h;simp only [List.lookup,hb,if_neg (λe:g=f=>hk (h.symm.trans e))]
   ·have hb:(g == k)=false:=beq_eq_false_iff_ne.mpr h;simp only [List.lookup,hb];exact ih
theorem nq (f:Str) (v:V):∀fs:List (Str×V),f∈(b_ f v fs).map (·.1)/\∀g,g∈fs.map (·.1)->g∈(b_ f v fs).map (·.1)
 | []=>⟨by simp [b_],λg h=>by simp at h⟩
 | (k,x)::r=>by
  obtain⟨i1,i2⟩:=nq f v r;rw [show b_ f v ((k,x)::r)=(if k=f then(k,v)::r else(k,x)::b_ f v r) from rfl]
  by_cases hk:k=f
  ·rw [if_pos hk];subst hk;exact⟨by simp,λg h=>by simpa using h⟩
  ·rw [if_neg hk];refine⟨?_,λg h=>?_⟩
   ·rw [List.map_cons];exact mem_cons_of_mem _ i1
   ·rw [List.map_cons] at h ⊢;rcases mem_cons.mp h with e | e
    ·exact mem_cons.mpr (.inl e)
    ·exact mem_cons_of_mem _ (i2 g e)
theorem bT (f:Str) (v:V):∀fs:List (Str×V),(b_ f v fs).length<=fs.length+1
 | []=>by simp [b_]
 | (k,x)::r=>by
  have ih:=bT f v r;rw [show b_ f v ((k,x)::r)=(if k=f then(k,v)::r else(k,x)::b_ f v r) from rfl]
  by_cases hk:k=f
  ·rw [if_pos hk,length_cons,length_cons]; omega
  ·rw [if_neg hk,length_cons,length_cons]; omega
theorem iG.some_of {v:V}{o:Option Value}(r:iG (some v) o):∃u,o=some u/\RelV v u:=by
 cases o with
 | none=>exact(show False from r).elim
 | some u=>exact⟨u,rfl,r⟩
theorem iG.none_of {o:Option Value}(r:iG none o):o=none:=by
 cases o with
 | none=>rfl
 | some u=>exact(show False from r).elim
theorem Hu {v:V}{u:Value}(r:RelV v u):PySem.W.handedIn u=true:=by
 cases v with
 | bN=>cases (show u=Value.none from r); rfl
 | bl b=>cases (show u=Value.bool b from r); rfl
 | int i=>obtain⟨t,e⟩:=(show ∃t,u=Value.int i t from r); cases e; rfl
 | str x=>obtain⟨t,e⟩:=(show ∃t,u=Value.str x t from r); cases e; rfl
 | II b=>obtain⟨t,e⟩:=(show ∃t,u=Value.bytes b t from r); cases e; rfl
 | T6 b=>obtain⟨t,e⟩:=(show ∃t,u=Value.float b t from r); cases e; rfl
 | ref a=>cases (show u=Value.ref a from r); rfl
 | ty n=>cases (show u=Value.type n from r); rfl
section
variable {P:Program}{w:World}{H H':Hp}{h h':Heap}{a C dx:Addr}{fs fs':List (Str×V)}
theorem pZ (bV:kT P w H h) (e:H a=some (.ins C dx fs)):∃mA,Dx h a dx C mA/\(∀f,iG (fs.lookup f) (mA f))/\PySem.Within mA (fs.map (·.1))/\fs.length<=1000/\H dx=some (.own a):=by
 obtain⟨d,z,ne,ob,mA,n,r,q⟩:=(show cR P w H h a (.ins C dx fs) from bV a _ e)
 exact⟨mA,⟨ob,n,ne⟩,r,q,z,d⟩
end
structure sQ (K:Frag) (C:Addr):Prop where
 pg:PySem.W.plainGet K C Str.empty=true
 hd:PySem.W.hasDictIn K C=true
 po:PySem.W.plainOver K C=true
 sa:findIn K (.ref C) "__setattr__"=some (some (.builtin "object.__setattr__"))
theorem sQ.get {K:Frag}{C:Addr}(c:sQ K C) (f:Str):PySem.W.plainGet K C f=true:=c.pg
noncomputable def cJ (K:Frag) (C:Addr) (f:Str):Prop:=findIn K (.ref C) f=some none
theorem cJ.YY {K:Frag}{C:Addr}{f:Str}(n:cJ K C f):PySem.W.takerIn K C f=some none:=by
 unfold PySem.W.takerIn;rw [show findIn K (.ref C) f=some none from n];rfl
structure Meth (K:Frag) (C:Addr) (m:Str) (f:Addr):Prop where
 at_:findIn K (.ref C) m=some (some (.ref f))
 fn:PySem.W.isFn K (.ref f)=true
 kp:keepIn K (.ref f)=true
section
variable {X:Cx}{pins:List (Addr×Obj)}{σ:St}{H:Hp}{s:Shared}{a C dx:Addr}{fs:List (Str×V)}{f:Str}{v:V}{A:Around}{E:Value->Shared->Prop}
theorem Dy {b:Bool}{Q:Value->Shared->Prop}(I:Inv X pins σ H s) (e:H a=some (.ins C dx fs)) (c:sQ X.K C) (n:cJ X.K C f) (l:fs.lookup f=some v)
  (h:∀u s',Inv X pins σ H s'->RelV v u->Q u s'):wpAny (model X.prog X.w) A (getAttr (.ref a) f b) Q E s:=by
 obtain⟨mA,O,r,_,_,_⟩:=pZ I.bV e;obtain⟨u,hu,ru⟩:=iG.some_of (v:=v) (o:=mA f) (by rw [<-l]; exact r f);exact get_map I.iT O (c.get f) c.hd n hu (Hu ru) (h u _ (I.tok _) ru)
theorem iW {m:Str}{g:Addr}{pl:Sem Bool}{Q:Value×List Value->Shared->Prop}(I:Inv X pins σ H s) (e:H a=some (.ins C dx fs)) (c:sQ X.K C) (k:Meth X.K C m g) (l:fs.lookup m=none)
  (h:Q (.ref g,[.ref a]) s):wpAny (model X.prog X.w) A (getMethod (.ref a) m pl) Q E s:=by
 obtain⟨mA,O,r,_,_,_⟩:=pZ I.bV e;have hn:mA m=none:=iG.none_of (by rw [<-l]; exact r m);exact Jo I.iT O (c.get m) k.at_ k.fn hn h
theorem Dz {y:V}{u:Value}{Q:Unit->Shared->Prop}(I:Inv X pins σ H s) (e:H a=some (.ins C dx fs)) (c:sQ X.K C) (n:cJ X.K C f) (hl:fs.length < 1000) (ry:RelV y u)
  (h:∀s',Inv X pins σ (upd H a (.ins C dx (b_ f y fs))) s'->Q () s'):wpAny (model X.prog X.w) A (setAttr (.ref a) f u) Q E s:=by
 obtain⟨mA,O,r,wi,_,ho⟩:=pZ I.bV e;have hz:(fs.map (·.1)).length<=sizeLine:=by rw [length_map,sizeLine_eq]; omega
 refine Pb I.iT O c.sa c.po n.YY c.hd wi hz λh' O' sb=>h _ ?_
 have hd:∃o,h'.get? dx=some o:=let ⟨o,_,_,e',_⟩:=O'.ns; ⟨o,e'⟩
 refine I.write (x:=a) (e:=dx) (by rw [e]; exact True.intro) (.inr ho) (λb q hb z=>(sb.2 b hb).trans z) hd ?_;refine⟨by rw [au O.ne]; exact ho,?_,O.ne,O'.obj,_,O'.ns,λg=>?_,λg hg=>?_⟩
 ·have:=bT f y fs; omega
 ·show iG ((b_ f y fs).lookup g) (if g=f then some u else mA g);rw [aO]
  by_cases q:g=f
  ·rw [if_pos q,if_pos q]; exact ry
  ·rw [if_neg q,if_neg q]; exact r g
 ·by_cases q:g=f
  ·rw [q]; exact(nq f y fs).1
  ·refine(nq f y fs).2 g (wi g λz=>hg ?_);show(if g=f then some u else mA g)=none;rw [if_neg q]; exact z
theorem Inv.made (I:Inv X pins σ H s):Inv X pins σ (upd (upd H s.heap.objs.size (.own (s.heap.objs.size+1))) (s.heap.objs.size+1) (.ins C s.heap.objs.size []))
  {s with heap:=(s.heap.push PySem.W.emptyDict).push (PySem.W.instObj C s.heap.objs.size)}:=by
 have e1:(s.heap.push PySem.W.emptyDict).get? s.heap.objs.size=some PySem.W.emptyDict:=get?_push_size s.heap rfl;have e2:((s.heap.push PySem.W.emptyDict).push (PySem.W.instObj C s.heap.objs.size)).get? (s.heap.objs.size+1)=some (PySem.W.instObj C s.heap.objs.size):=by
  have:=get?_push_size (s.heap.push PySem.W.emptyDict) (o:=PySem.W.instObj C s.heap.objs.size) rfl
  rwa [Heap.size_push] at this
 have e3:(s.heap.push PySem.W.emptyDict).Ns s.heap.objs.size (λ_=>none):=⟨PySem.W.emptyDict,#[],_,e1,rfl,(λe he=>absurd he (by simp)),λ_=>rfl⟩
 have I1:=I.laid (a:=s.heap.objs.size) (o:=.own (s.heap.objs.size+1)) (h':=s.heap.push PySem.W.emptyDict) (t':=s.toks) (λb u q=>get?_push_of_some _ q) (Nat.le_refl _) ⟨_,e1⟩;refine I1.laid (a:=s.heap.objs.size+1) (o:=.ins C s.heap.objs.size []) (t':=s.toks) (λb u q=>get?_push_of_some _ q) (Nat.le_of_eq (Heap.size_push _ _)) ?_;have ne:s.heap.objs.size≠s.heap.objs.size+1:=Nat.ne_of_lt (Nat.lt_succ_self _);refine⟨by rw [au ne,ae],Nat.zero_le _,ne,e2,λ_=>none,(Heap.Ns1.of_empty e3).at λo q=>get?_push_of_some _ q,λ_=>True.intro,λy hy=>absurd rfl hy⟩
theorem Pc {prog:Program}{w:World}{env:Env}{e:Expr}{f:Str}{pos:Pos}{s:Shared}{Q:Value->Shared->Prop}(hb:attributeBase e f env (eval e env)=eval e env)
  (h:wpAny (model prog w) A (eval e env) (λo s₁=>wpAny (model prog w) A (getAttr o f true) Q E s₁) E s):wpAny (model prog w) A (eval (.Attribute e f pos) env) Q E s:=
 Attribute_any_ h (by rw [arm_eval_Attribute,hb])
end
noncomputable def YZ (K:Frag) (ta:TE) (f:Str):TE:=λσ H Q=>ta σ H λx H1=>∃a C dx fs v,x=.ref a/\H1 a=some (.ins C dx fs)/\sQ K C/\cJ K C f/\fs.lookup f=some v/\Q v H1
noncomputable def Y0 (K:Frag) (ta tv:TE) (f:Str):TS:=λD σ H=>tv σ H λy H1=>ta σ H1 λx H2=>∃a C dx fs,x=.ref a/\H2 a=some (.ins C dx fs)/\sQ K C/\cJ K C f/\fs.length < 1000 /\
 D.nx σ (upd H2 a (.ins C dx (b_ f y fs)))
section
variable {X:Cx}{o e value:Expr}{f:Str}{pos pos' adN:Pos}{ta tv:TE}
theorem bM (he:PE X e ta) (hb:attributeBase e f X.env (eval e X.env)=eval e X.env):PE X (.Attribute e f pos) (YZ X.K ta f):=by
 intro pins s σ H Q I h;refine Pc hb (ck (he pins s σ H _ I h) λu s1 ⟨x,H1,I1,rx,a,C,dx,fs,v,ex,ea,c,n,l,q⟩=>?_);subst ex;obtain rfl:u=Value.ref a:=rx;exact Dy I1 ea c n l λu' s2 I2 ru=>⟨v,H1,I2,ru,q⟩
theorem iu (ha:PE X o ta) (hv:PE X value tv) (hs:swapsWith value (some (.Attribute o f pos')) pos.line X.env=pure false):PS X (.Assign [.Attribute o f pos'] value pos) (Y0 X.K ta tv f):=by
 intro pins s σ H D I h;refine plainObj_wpAny_Assign_Attribute (ck (hv pins s σ H _ I h) λu s1 ⟨y,H1,I1,ry,q⟩=>ck (ha pins s1 σ H1 _ I1 q) λov s2 ⟨x,H2,I2,rx,a,C,dx,fs,ex,ea,c,n,l,q2⟩=>?_) hs;subst ex;obtain rfl:ov=Value.ref a:=rx;exact Dz I2 ea c n l ry λs3 I3=>⟨σ,_,I3,q2⟩
theorem QV {pl:Sem Bool}{m:Str}{apos:Pos}{args:List Expr}{pins:List (Addr×Obj)}{s:Shared}{σ:St}{H:Hp}{Q:Value->Shared->Prop}{te:TE}(he:PE X e te) (I:Inv X pins σ H s)
  (h:te σ H λx H1=>∃a C dx fs g,x=.ref a/\H1 a=some (.ins C dx fs)/\sQ X.K C/\Meth X.K C m g/\fs.lookup m=none /\
   ∀s1,Inv X pins σ H1 s1->wpAny (model X.prog X.w) X.A (callWith pos (.ref g) [.ref a] (backTo pos (starEach args X.env)) (backToKw pos (keywordEach [] X.env))) Q X.xe s1)
  (ht:eval (.Call (.Attribute e m apos) args [] pos) X.env=(do
   let ov <-eval e X.env
   standAt apos.atName
   let (f,first) <-holding [ov] (getMethod ov m pl)
   callWith pos f first (backTo pos (starEach args X.env)) (backToKw pos (keywordEach [] X.env)))) :
  wpAny (model X.prog X.w) X.A (eval (.Call (.Attribute e m apos) args [] pos) X.env) Q X.xe s:=by
 refine PySem.W.methodCall_KW (pl:=pl) (ck (he pins s σ H _ I h) λu s1 ⟨x,H1,I1,rx,a,C,dx,fs,g,ex,ea,c,k,l,q⟩=>?_) ht;subst ex;obtain rfl:u=Value.ref a:=rx;exact iW I1 ea c k l (q s1 I1)
end
section
variable {X:Cx}{pins:List (Addr×Obj)}{σ:St}{H:Hp}{s:Shared}{A:Around}{E:Value->Shared->Prop}{Q:Value->Shared->Prop}{c:Value}{b:Bool}
inductive nu (K:Frag) (H:Hp):V->Value->Prop where
 | bN:nu K H .bN (.type "NoneType")
 | bl (x:Bool):nu K H (.bl x) (.type "bool")
 | int (i:Int):nu K H (.int i) (.type "int")
 | str (x:Str):nu K H (.str x) (.type "str")
 | T6 (x:UInt64):nu K H (.T6 x) (.type "float")
 | lst {a:Addr}{xs:List V}(e:H a=some (.lst xs)):nu K H (.ref a) (.type "list")
 | fI {a:Addr}{o:Obj}{xs:List V}(e:H a=some (.fI o (.lst xs))):nu K H (.ref a) (.type "list")
 | tup {a:Addr}{xs:List V}(e:H a=some (.tup xs)):nu K H (.ref a) (.type "tuple")
 | dK {a:Addr}{kvs:List (Key×V)}(e:H a=some (.dK kvs)):nu K H (.ref a) (.type "dict")
 | dT {a:Addr}{kvs:List (List Key×V)}(e:H a=some (.dT kvs)):nu K H (.ref a) (.type "dict")
 | ins {a C dx:Addr}{fs:List (Str×V)}(e:H a=some (.ins C dx fs)) (cl:sQ K C) (ha:findIn K (.ref C) "__class__"=some (some (.builtin "object.__class__")))
   (hn:PySem.W.specialIn K (.builtin "object.__class__") "__get__"=some (some (.builtin "getset_descriptor.__get__"))) (Uv:PySem.W.takesIn K (.builtin "object.__class__")=some true)
   (hm:PySem.W.mroIn K C (.type "object")=some true):nu K H (.ref a) (.ref C)
theorem Hv {x:V}{u t:Value}(I:Inv X pins σ H s) (rx:RelV x u) (ty:nu X.K H x t) (e:PySem.W.kitOne X.K t c=some b) (h:∀tk,Q (.bool b) {s with toks:=tk}) :
  wpAny (model X.prog X.w) A (call (.builtin "isinstance") [u,c]) Q E s:=by
 cases ty with
 | bN=>cases (show u=Value.none from rx); exact PySem.W.kia_one PySem.W.kitx_none I.iT True.intro e (λz=>nomatch z) h
 | bl y=>cases (show u=Value.bool y from rx); exact PySem.W.kia_one PySem.W.kitx_bool I.iT True.intro e (λz=>nomatch z) h
 | int i=>obtain⟨t,q⟩:=(show ∃t,u=Value.int i t from rx); cases q; exact PySem.W.kia_one PySem.W.kitx_int I.iT True.intro e (λz=>nomatch z) h
 | str y=>obtain⟨t,q⟩:=(show ∃t,u=Value.str y t from rx); cases q; exact PySem.W.kia_one PySem.W.kitx_str I.iT True.intro e (λz=>nomatch z) h
 | T6 y=>obtain⟨t,q⟩:=(show ∃t,u=Value.float y t from rx); cases q; exact PySem.W.kia_one PySem.W.kitx_float I.iT True.intro e (λz=>nomatch z) h
 | @lst a xs ea=>
  cases (show u=Value.ref a from rx);obtain⟨_,_,n,_,h1⟩:=(show cR X.prog X.w H s.heap a (.lst xs) from I.bV a _ ea)
  exact PySem.W.kia_one PySem.W.kitx_list I.iT ⟨_,h1,rfl⟩ e (λz=>nomatch z) h
 | @fI a ob xs ea=>
  cases (show u=Value.ref a from rx);obtain⟨_,_,_,n,_,h1⟩:=(show cR X.prog X.w H s.heap a (.fI ob (.lst xs)) from I.bV a _ ea)
  exact PySem.W.kia_one PySem.W.kitx_list I.iT ⟨_,h1,rfl⟩ e (λz=>nomatch z) h
 | @tup a xs ea=>
  cases (show u=Value.ref a from rx);obtain⟨_,_,_,p⟩:=(show cR X.prog X.w H s.heap a (.tup xs) from I.bV a _ ea)
  obtain⟨o,h1,h2,_⟩:=p;exact PySem.W.kia_one PySem.W.kitx_tuple I.iT ⟨o,h1,h2⟩ e (λz=>nomatch z) h
 | @dK a kvs ea=>
  cases (show u=Value.ref a from rx);obtain⟨_,_,vs,_,p⟩:=(show cR X.prog X.w H s.heap a (.dK kvs) from I.bV a _ ea)
  obtain⟨o,es,ep,h1,h2,_⟩:=p;exact PySem.W.kia_one PySem.W.kitx_dict I.iT ⟨o,h1,h2.1⟩ e (λz=>nomatch z) h
 | @dT a kvs ea=>
  cases (show u=Value.ref a from rx);obtain⟨_,_,xs,_,o,es,ep,h1,h2,_⟩:=(show cR X.prog X.w H s.heap a (.dT kvs) from I.bV a _ ea)
  exact PySem.W.kia_one PySem.W.kitx_dict I.iT ⟨o,h1,h2.1⟩ e (λz=>nomatch z) h
 | @ins a C dx fs ea cl ha hn Uv hm=>
  cases (show u=Value.ref a from rx);obtain⟨mA,O,_⟩:=pZ I.bV ea;obtain⟨od,J,_⟩:=O.look;exact PySem.W.kia_one (PySem.W.kitx_own (cl.get _) cl.hd ha hn Uv hm) I.iT J e (λz=>nomatch z) h
end
structure eK (k:Nat) (A:Around):Prop where
 hd:A.handled=none
 dp:A.depth+3*k+5 < recursionLimit
 un:A.units+16*k+200 < cLine
theorem eK.mono {j k:Nat}{A:Around}(r:eK k A) (h:j<=k):eK j A:=⟨r.hd,by have:=r.dp; omega,by have:=r.un; omega⟩
theorem eK.dm {j k:Nat}{A:Around}(r:eK k A) (h:j<=k:=by decide):eK j A:=r.mono h
theorem eK.deeper {k:Nat}{A:Around}(r:eK (k+1) A) (env:Env):eK k (A.deeper env):=
 ⟨r.hd,by have:=r.dp; show A.depth+1+3*k+5 < _; omega,by have:=r.un; show A.units+3+16*k+200 < _; omega⟩
theorem DA {A:Around}{C:Addr}{us:List Value}{kw:List (Str×Value)}:(A.under (.builtin "type.__call__" ⟨.ref C::us,kw⟩)).depth=A.depth+1:=by
 first | rfl | simp [Around.under,Code.weight,Code.isCreation,Code.isGuard,Code.isCaller,Code.frames,Code.isFrame,guardIds]
theorem DB {A:Around}{C:Addr}{us:List Value}{kw:List (Str×Value)}:(A.under (.builtin "type.__call__" ⟨.ref C::us,kw⟩)).units=A.units+1:=by
 first | rfl | simp [Around.under,Code.cUnits,Code.frames,Code.isFrame]
theorem eK.make {k:Nat}{A:Around}(r:eK (k+1) A) (C:Addr) (us:List Value) (kw:List (Str×Value)):eK k (A.under (.builtin "type.__call__" ⟨.ref C::us,kw⟩)):=
 ⟨r.hd,by have:=r.dp; rw [DA]; omega,by have:=r.un; rw [DB]; omega⟩
theorem eK.depth {k:Nat}{A:Around}(r:eK k A):A.depth < recursionLimit:=by have:=r.dp; omega
theorem eK.units {k:Nat}{A:Around}(r:eK k A):A.units+64 < cLine:=by have:=r.un; omega
noncomputable def yv:TA:=λ_ H Q=>Q [] H
noncomputable def qk (ta:TE) (tr:TA):TA:=λσ H Q=>ta σ H λx H1=>tr σ H1 λxs H2=>Q (x::xs) H2
section
variable {X:Cx}{e:Expr}{es:List Expr}{te:TE}{t:TA}{pos:Pos}
theorem af:PA X [] yv:=λ_ _ _ _ H Q I h=>Calls.spliced_nil ⟨[],H,I,.nil,h⟩
theorem aa (ha:PE X e te) (hr:PA X es t) (hs:starEach (e::es) X.env=(false,eval e X.env)::starEach es X.env:=by rfl):PA X (e::es) (qk te t):=by
 intro pos pins s σ H Q I h;rw [hs];show wpAny _ _ (spliced ((false,eval e X.env)::backTo pos (starEach es X.env))) _ _ s;refine Calls.spliced_cons (ck (ha pins s σ H _ I h) λu s1 ⟨x,H1,I1,r1,q1⟩=>?_);exact ck (hr pos pins s1 σ H1 _ I1 q1) λus s2 ⟨xs,H2,I2,r2,q2⟩=>⟨x::xs,H2,I2,.cons r1 r2,q2⟩
noncomputable def Pf (t:TA):TE:=λσ H Q=>t σ H λxs H1=>xs.length<=sizeLine/\∀p,H1 p=none->Q (.ref p) (upd H1 p (.tup xs))
noncomputable def Y1 (t:TA):TE:=λσ H Q=>t σ H λxs H1=>xs.length<=sizeLine/\∀p,H1 p=none->Q (.ref p) (upd H1 p (.lst xs))
theorem bo {x1} (h:PA X es t):PE X (.Tuple es x1 pos) (Pf t):=by
 intro pins s σ H Q I hq;refine wpAny_Tuple_spliced (ck (h pos pins s σ H _ I hq) λus s1 ⟨xs,H1,I1,r,z,q⟩=>⟨by rw [<-r.length]; exact z,?_⟩);have hf:H1 s1.heap.objs.size=none:=I1.bV.fresh (Nat.le_refl _);refine⟨.ref s1.heap.objs.size,upd H1 s1.heap.objs.size (.tup xs),I1.laid (t':=s1.toks) (λb u e=>get?_push_of_some _ e) (Nat.le_refl _) ?_,rfl,q _ hf⟩;exact⟨z,us,r,⟨_,get?_push_size _ rfl,rfl,_,rfl⟩⟩
theorem bP (h:PA X es t):PE X (.List es pos) (Y1 t):=by
 intro pins s σ H Q I hq;refine wpAny_List_spliced (ck (h pos pins s σ H _ I hq) λus s1 ⟨xs,H1,I1,r,z,q⟩=>⟨by rw [<-r.length]; exact z,?_⟩);have hf:H1 s1.heap.objs.size=none:=I1.bV.fresh (Nat.le_refl _);refine⟨.ref s1.heap.objs.size,upd H1 s1.heap.objs.size (.lst xs),I1.laid (t':=s1.toks) (λb u e=>get?_push_of_some _ e) (Nat.le_refl _) ?_,rfl,q _ hf⟩;exact⟨z,us,0,r,get?_push_size _ rfl⟩
end
noncomputable abbrev Sp:=List V->Hp->VK->XK->Prop
noncomputable abbrev vF:=List Env->Hp->Shared->XK->Value->Shared->Prop
structure DC (P:Program) (w:World) (K:Frag) (mg:Str->Option Value) (base:Heap) (A:Around) (outer:List Env) (s:Shared) (H:Hp):Prop where
 frames:A.frames=some outer
 mod:Mod K mg base
 bs:∀b o,base.get? b=some o->s.heap.get? b=some o/\H b=none
 Hm:base.objs.size<=s.heap.objs.size
 lW:s.heap.FunFrames base outer
 O8:∀b∈IJ outer,H b=none
 bV:kT P w H s.heap
 bare:AllBare s.gens
noncomputable def CE (outer:List Env) (P:Program) (w:World) (H:Hp) (s:Shared) (Q:VK) (u:Value) (s':Shared):Prop:=
 ∃v H',s'.os=s.os/\AllBare s'.gens/\Un (IJ outer) [] H H' s.heap s'.heap/\kT P w H' s'.heap/\RelV v u/\Q v H'
noncomputable def CR (CX:vF) (outer:List Env) (P:Program) (w:World) (H:Hp) (s:Shared) (Q:VK) (E:XK) (r:Result) (s':Shared):Prop:=
 match r with
 | .ok (.ret u)=>CE outer P w H s Q u s'
 | .ok _=>False
 | .error e=>CX outer H s E e s'
structure aU (P:Program) (w:World) (K:Frag) (mg:Str->Option Value) (base:Heap) (CX:vF) (k:Nat) (f:Addr) (fd:FuncData) (ps:List Str) (sp:Sp):Prop where
 len:∀vs H Q E,sp vs H Q E->vs.length=ps.length
 run:∀(A:Around) (outer:List Env) (s:Shared) (H:Hp) (args:Args) (us:List Value) (vs:List V) (Q:VK) (E:XK),eK k A->DC P w K mg base A outer s H->BindsTo s fd args (ps.zip us)->Vals vs us->sp vs H Q E ->
  codeAny (model P w) A (.call (.ref f) args) (CR CX outer P w H s Q E) s
theorem DC.make {P:Program}{w:World}{K:Frag}{mg:Str->Option Value}{base:Heap}{A:Around}{outer:List Env}{s:Shared}{H:Hp}(e:DC P w K mg base A outer s H) (C:Addr) (us:List Value) (kw:List (Str×Value)) :
  DC P w K mg base (A.under (.builtin "type.__call__" ⟨.ref C::us,kw⟩)) outer s H:=⟨by first | exact e.frames | (simpa [Around.under,Code.envs,Code.isFrame,pushEnvs] using e.frames),e.mod,e.bs,e.Hm,e.lW,e.O8,e.bV,e.bare⟩
section
variable {X:Cx}{pins:List (Addr×Obj)}{σ:St}{H:Hp}{s s':Shared}
theorem Inv.Y2 (I:Inv X pins σ H s):DC X.prog X.w X.K X.mg X.base X.A X.stack s H:=
 ⟨I.ok.frames,I.ok.mod,I.bs,Nat.le_trans I.ok.Hm I.sz,I.stack,I.vz,I.bV,I.bare⟩
theorem Inv.after {Q:VK}{u:Value}(I:Inv X pins σ H s) (h:CE X.stack X.prog X.w H s Q u s'):EP X pins σ Q u s':=by
 obtain⟨v,H',os,bare,un,bV,r,q⟩:=h;obtain⟨hh,g,d,t,os'⟩:=s';obtain rfl:os'=s.os:=os;exact⟨v,H',I.call (h':=hh) (g':=g) (d':=d) (t':=t) (ch:=[]) un bV bare (λb z=>absurd z (by simp)),r,q⟩
end
noncomputable def FY (sp:Sp) (iI:List V) (E:XK) (t:TA):TE:=λσ H Q=>t σ H λvs H1=>sp (vs++iI) H1 Q E
noncomputable def Jq (C:Addr) (m:Str) (sp:Sp) (iI:List V) (E:XK) (ta:TE) (t:TA):TE:=λσ H Q=>ta σ H λx H1=>∃a dx fs,x=.ref a/\H1 a=some (.ins C dx fs)/\fs.lookup m=none /\
 t σ H1 λvs H2=>sp (x::(vs++iI)) H2 Q E
noncomputable def Jr (C:Addr) (sp:Sp) (iI:List V) (E:XK) (t:TA):TE:=λσ H Q=>t σ H λvs H1=>∀x dx,H1 x=none->H1 dx=none->dx≠x ->
 sp (.ref x::(vs++iI)) (upd (upd H1 dx (.own x)) x (.ins C dx [])) (λv H2=>v=.bN/\Q (.ref x) H2) E
noncomputable def Binds (K:Frag) (fd:FuncData) (ps:List Str) (ds:List Value):Prop:=
 ∀(s:Shared) (us:List Value),K.In s.heap->(us++ds).length=ps.length->BindsTo s fd ⟨us,[]⟩ (ps.zip (us++ds))
theorem Binds.all {K:Frag}{fd:FuncData}{ps:List Str}(h:∀us:List Value,us.length=ps.length->bindArgs fd ⟨us,[]⟩=pure (ps.zip us)):Binds K fd ps []:=λs us _ hl=>by
 rw [append_nil] at hl ⊢;exact .of_eq (h us hl)
noncomputable def Passes (CX:vF) (X:Cx) (E:XK):Prop:=∀(pins:List (Addr×Obj)) (σ:St) (H:Hp) (s:Shared) (e:Value) (s':Shared),Inv X pins σ H s->CX X.stack H s E e s'->X.xe e s'
section
variable {X:Cx}{CX:vF}{k:Nat}{f C:Addr}{fd:FuncData}{ps:List Str}{sp:Sp}{iI:List V}{ds:List Value}{E:XK}{x m:Str}{p pos apos:Pos}{e o:Expr}{es:List Expr}{ta:TE}{t:TA}
theorem ny {pins:List (Addr×Obj)}{σ:St}{H:Hp}{s:Shared}{Q:VK}{us:List Value}{vs:List V}(F:aU X.prog X.w X.K X.mg X.base CX k f fd ps sp) (hr:eK k X.A) (hb:Binds X.K fd ps ds) (hd:Vals iI ds) (hx:Passes CX X E)
  (I:Inv X pins σ H s) (r:Vals vs us) (h:sp (vs++iI) H Q E):wpAny (model X.prog X.w) X.A (call (.ref f) us) (EP X pins σ Q) X.xe s:=by
 have r2:Vals (vs++iI) (us++ds):=r.append hd;have hl:(us++ds).length=ps.length:=by rw [<-r2.length]; exact F.len _ _ _ _ h
 refine wpAny_call (codeAny_mono (F.run X.A X.stack s H ⟨us,[]⟩ (us++ds) (vs++iI) Q E hr I.Y2 (hb s us I.iT hl) r2 h) λr s' hq=>?_)
 cases r with
 | error e=>exact hx pins σ H s e s' I hq
 | ok fl=>
  cases fl with
  | ret u=>exact I.after hq
  | next=>exact False.elim hq
  | brk=>exact False.elim hq
  | cont=>exact False.elim hq
theorem aD (F:aU X.prog X.w X.K X.mg X.base CX k f fd ps sp) (hr:eK k X.A) (hg:Gl X x) (hm:X.mg x=some (.ref f)) (hk:keepIn X.K (.ref f)=true) (hb:Binds X.K fd ps ds) (hd:Vals iI ds) (hx:Passes CX X E)
  (ha:PA X (e::es) t) (Pg:(x == ("__debug__":Str))=false:=by decide) (he:starEach (e::es) X.env=(false,eval e X.env)::starEach es X.env:=by rfl) (tV:(backTo pos (starEach es X.env)).any (·.1)=false:=by rfl) :
  PE X (.Call (.Name x p) (e::es) [] pos) (FY sp iI E t):=by
 intro pins s σ H Q I h;refine wpAny_Call_Name_kw (pY I hg hm ?_ Pg);refine PySem.W.callWith_K (h₀:=X.base) I.ok.mod.Ua hk (ck (ha pos pins s σ H _ I h) λus s1 ⟨vs,H1,I1,r,q⟩=>⟨I1.iT,?_⟩) he tV;exact ny F hr hb hd hx I1 r q
theorem aS {pl:Sem Bool}(he:PE X o ta) (c:sQ X.K C) (hm:Meth X.K C m f) (F:aU X.prog X.w X.K X.mg X.base CX k f fd ps sp) (hr:eK k X.A) (hb:Binds X.K fd ps ds) (hd:Vals iI ds) (hx:Passes CX X E) (ha:PA X (e::es) t)
  (I_:starEach (e::es) X.env=(false,eval e X.env)::starEach es X.env:=by rfl) (tV:(backTo pos (starEach es X.env)).any (·.1)=false:=by rfl)
  (ht:eval (.Call (.Attribute o m apos) (e::es) [] pos) X.env=(do
   let ov <-eval o X.env
   standAt apos.atName
   let (f,first) <-holding [ov] (getMethod ov m pl)
   callWith pos f first (backTo pos (starEach (e::es) X.env)) (backToKw pos (keywordEach [] X.env))):=by rfl) :
  PE X (.Call (.Attribute o m apos) (e::es) [] pos) (Jq C m sp iI E ta t):=by
 intro pins s σ H Q I h;refine PySem.W.methodCall_KW (pl:=pl) (ck (he pins s σ H _ I h) λu s1 ⟨x,H1,I1,rx,a,dx,fs,ex,ea,l,q⟩=>?_) ht;subst ex;obtain rfl:u=Value.ref a:=rx;refine iW I1 ea c hm l ?_;refine PySem.W.callWith_K (first:=[.ref a]) (h₀:=X.base) I.ok.mod.Ua hm.kp (ck (ha pos pins s1 σ H1 _ I1 q) λus s2 ⟨vs,H2,I2,r,q2⟩=>⟨I2.iT,?_⟩) I_ tV;exact ny (us:=.ref a::us) (vs:=.ref a::vs) F hr hb hd hx I2 (.cons rfl r) q2
theorem dj {pl:Sem Bool}(he:PE X o ta) (c:sQ X.K C) (hm:Meth X.K C m f) (F:aU X.prog X.w X.K X.mg X.base CX k f fd ps sp) (hr:eK k X.A) (hb:Binds X.K fd ps ds) (hd:Vals iI ds) (hx:Passes CX X E)
  (ht:eval (.Call (.Attribute o m apos) [] [] pos) X.env=(do
   let ov <-eval o X.env
   standAt apos.atName
   let (f,first) <-holding [ov] (getMethod ov m pl)
   callWith pos f first (backTo pos (starEach [] X.env)) (backToKw pos (keywordEach [] X.env))):=by rfl) :
  PE X (.Call (.Attribute o m apos) [] [] pos) (Jq C m sp iI E ta yv):=by
 intro pins s σ H Q I h;refine PySem.W.methodCall_KW (pl:=pl) (ck (he pins s σ H _ I h) λu s1 ⟨x,H1,I1,rx,a,dx,fs,ex,ea,l,q⟩=>?_) ht;subst ex;obtain rfl:u=Value.ref a:=rx;refine iW I1 ea c hm l ?_;exact PySem.W.callWith_K0 (first:=[.ref a]) I1.iT hm.kp (ny (us:=[.ref a]) (vs:=[.ref a]) F hr hb hd hx I1 (.cons rfl .nil) q)
structure Mk (K:Frag) (C f:Addr):Prop where
 makes:PySem.W.makesIn K C=true
 init:findIn K (.ref C) "__init__"=some (some (.ref f))
 fn:PySem.W.isFn K (.ref f)=true
 kp:keepIn K (.ref C)=true
theorem yw {pins:List (Addr×Obj)}{σ:St}{H:Hp}{s:Shared}{Q:VK}{us:List Value}{vs:List V}(M:Mk X.K C f) (F:aU X.prog X.w X.K X.mg X.base CX k f fd ps sp) (hr:eK (k+1) X.A) (hb:Binds X.K fd ps ds) (hd:Vals iI ds)
  (hx:Passes CX X E) (I:Inv X pins σ H s) (r:Vals vs us)
  (h:∀x dx,H x=none->H dx=none->dx≠x->sp (.ref x::(vs++iI)) (upd (upd H dx (.own x)) x (.ins C dx [])) (λv H2=>v=.bN/\Q (.ref x) H2) E) :
  wpAny (model X.prog X.w) X.A (call (.ref C) us) (EP X pins σ Q) X.xe s:=by
 have hq:=h (s.heap.objs.size+1) s.heap.objs.size (I.bV.fresh (Nat.le_succ _)) (I.bV.fresh (Nat.le_refl _)) (Nat.ne_of_lt (Nat.lt_succ_self _));have I2:=Inv.made (C:=C) I;have r2:Vals (V.ref (s.heap.objs.size+1)::(vs++iI)) (Value.ref (s.heap.objs.size+1)::(us++ds)):=.cons rfl (r.append hd);have hl:(Value.ref (s.heap.objs.size+1)::us++ds).length=ps.length:=by
  have e:=r2.length;rw [F.len _ _ _ _ hq] at e;exact e.symm
 refine wpAny_call (Jp (f:=f) I.iT M.makes M.init (beq_iff_eq.mp M.fn) (codeAny_mono (F.run _ X.stack _ _ ⟨Value.ref (s.heap.objs.size+1)::us,[]⟩ (Value.ref (s.heap.objs.size+1)::(us++ds)) _ _ E (hr.make C us [])
  (I2.Y2.make C us []) (hb _ (Value.ref (s.heap.objs.size+1)::us) I2.iT hl) r2 hq) λr s' Y3=>?_))
 cases r with
 | error e=>exact hx pins σ _ _ e s' I2 Y3
 | ok fl=>
  cases fl with
  | ret u=>
   obtain⟨v,H',I3,rv,ev,q3⟩:=I2.after Y3;subst ev;exact⟨rv,⟨V.ref (s.heap.objs.size+1),H',I3,rfl,q3⟩⟩
  | next=>exact False.elim Y3
  | brk=>exact False.elim Y3
  | cont=>exact False.elim Y3
theorem kq (M:Mk X.K C f) (F:aU X.prog X.w X.K X.mg X.base CX k f fd ps sp) (hr:eK (k+1) X.A) (hg:Gl X x) (hm:X.mg x=some (.ref C)) (hb:Binds X.K fd ps ds) (hd:Vals iI ds) (hx:Passes CX X E)
  (ha:PA X (e::es) t) (Pg:(x == ("__debug__":Str))=false:=by decide) (he:starEach (e::es) X.env=(false,eval e X.env)::starEach es X.env:=by rfl) (tV:(backTo pos (starEach es X.env)).any (·.1)=false:=by rfl) :
  PE X (.Call (.Name x p) (e::es) [] pos) (Jr C sp iI E t):=by
 intro pins s σ H Q I h;refine wpAny_Call_Name_kw (pY I hg hm ?_ Pg);refine PySem.W.callWith_K (h₀:=X.base) I.ok.mod.Ua M.kp (ck (ha pos pins s σ H _ I h) λus s1 ⟨vs,H1,I1,r,q⟩=>⟨I1.iT,?_⟩) he tV;exact yw M F hr hb hd hx I1 r q
theorem Js (M:Mk X.K C f) (F:aU X.prog X.w X.K X.mg X.base CX k f fd ps sp) (hr:eK (k+1) X.A) (hg:Gl X x) (hm:X.mg x=some (.ref C)) (hb:Binds X.K fd ps ds) (hd:Vals iI ds) (hx:Passes CX X E)
  (Pg:(x == ("__debug__":Str))=false:=by decide):PE X (.Call (.Name x p) [] [] pos) (Jr C sp iI E yv):=by
 intro pins s σ H Q I h;refine wpAny_Call_Name_kw (pY I hg hm ?_ Pg);exact PySem.W.callWith_K0 I.iT M.kp (yw (us:=[]) M F hr hb hd hx I .nil h)
end
section
variable {X:Cx}{CX:vF}{k:Nat}{f C:Addr}{fd:FuncData}{ps ks:List Str}{sp:Sp}{E:XK}{x m:Str}{p pos apos agK:Pos}{e o:Expr}{es:List Expr}{kws:List Keyword}{te ta:TE}{t tk:TA}{nm:Option Str}
variable {g:List Value->List Value->List Value}{gV:List V->List V->List V}
end
structure aA (N P:List Str) (sc:Scope):Prop where
 kind:sc.kind=.function
 co:sc.isCoroutine=false
 gen:sc.isGenerator=false
 nd:N.Nodup
 pre:N.take P.length=P
 par:∀x∈P,sc.names.lookup x=some .local\/sc.names.lookup x=some .cell
 Uw:∀y∈sc.names,y.2≠.free
theorem tW {kindOf:Str->Option NameKind}{x:Str}:∀{binds:List (Str×Value)}{m:Str->Option Value},(∀v,(x,v)∉binds)->bindL kindOf binds m x=m x
 | [],_,_=>rfl
 | (n,v)::r,m,h=>by
  unfold bindL;rw [tW λw hw=>h w (mem_cons_of_mem _ hw)];split
  ·have:x≠n:=by rintro rfl; exact h v mem_cons_self
   simp [this]
  ·rfl
theorem tX {kindOf:Str->Option NameKind}{x:Str}:∀{binds:List (Str×Value)}{m:Str->Option Value},(∀v,(x,v)∉binds)->bindC kindOf binds m x=m x
 | [],_,_=>rfl
 | (n,v)::r,m,h=>by
  unfold bindC;rw [tX λw hw=>h w (mem_cons_of_mem _ hw)];split
  ·rfl
  ·have:x≠n:=by rintro rfl; exact h v mem_cons_self
   simp [this]
theorem tY {kindOf:Str->Option NameKind}{x:Str}{v:Value}:∀{P:List Str}{vs:List Value}{i:Nat}{m:Str->Option Value},P.Nodup->P[i]?=some x->vs[i]?=some v->kindOf x=some .local ->
  bindL kindOf (P.zip vs) m x=some v
 | [],_,_,_,_,h,_,_=>by simp at h
 | _::_,[],_,_,_,_,h,_=>by simp at h
 | p::P,w::vs,0,m,nd,h1,h2,hk=>by
  simp at h1 h2; subst h1; subst h2
  show bindL kindOf ((p,w)::P.zip vs) m p=_;unfold bindL;rw [tW λv hv=>(List.nodup_cons.mp nd).1 (List.of_mem_zip hv).1,if_pos hk];simp
 | p::P,w::vs,i+1,m,nd,h1,h2,hk=>by
  show bindL kindOf ((p,w)::P.zip vs) m x=_;unfold bindL;exact tY (i:=i) (List.nodup_cons.mp nd).2 (by simpa using h1) (by simpa using h2) hk
theorem t_ {kindOf:Str->Option NameKind}{x:Str}{v:Value}:∀{P:List Str}{vs:List Value}{i:Nat}{m:Str->Option Value},P.Nodup->P[i]?=some x->vs[i]?=some v->kindOf x≠some .local ->
  bindC kindOf (P.zip vs) m x=some v
 | [],_,_,_,_,h,_,_=>by simp at h
 | _::_,[],_,_,_,_,h,_=>by simp at h
 | p::P,w::vs,0,m,nd,h1,h2,hk=>by
  simp at h1 h2; subst h1; subst h2
  show bindC kindOf ((p,w)::P.zip vs) m p=_;unfold bindC;rw [tX λv hv=>(List.nodup_cons.mp nd).1 (List.of_mem_zip hv).1,if_neg hk];simp
 | p::P,w::vs,i+1,m,nd,h1,h2,hk=>by
  show bindC kindOf ((p,w)::P.zip vs) m x=_;unfold bindC;exact t_ (i:=i) (List.nodup_cons.mp nd).2 (by simpa using h1) (by simpa using h2) hk
noncomputable def start (N:List Str) (vs:List V):St:=vs.map some++List.replicate (N.length - vs.length) none
noncomputable def yx (CX:vF) (P:Program) (w:World) (K:Frag) (mg:Str->Option Value) (base:Heap) (N:List Str) (qual:Str) (scope:Scope) (f:Addr) (cd:Value) (A:Around) (outer:List Env) (s:Shared) (H:Hp) (E:XK):Cx where
 prog:=P
 w:=w
 K:=K
 mg:=mg
 base:=base
 A:=A.deeper (envOfC qual scope s.heap.objs.size f cd)
 N:=N
 s₀:=s
 H₀:=H
 env:=envOfC qual scope s.heap.objs.size f cd
 outer:=outer
 stack:=envOfC qual scope s.heap.objs.size f cd::outer
 ex:=[]
 calm:=true
 fn:=λ_=>true
 pn:=[]
 xe:=λe s'=>wpAny (model P w) (A.deeper (envOfC qual scope s.heap.objs.size f cd)) (leaving (envOfC qual scope s.heap.objs.size f cd) e) (λ_ Y4=>CX outer H s E e Y4) (λe' Y4=>CX outer H s E e' Y4) s'
theorem yy {sc:Scope}{n:Nat}{x:Str}(h:sc.names.lookup x=some .cell):∃c,(cellsFrom n sc.names []).lookup x=some c:=by
 have q:=PySem.W.cellsFrom_some sc.names n [] (.inl h);exact Option.isSome_iff_exists.mp q
theorem Hw {CX:vF}{P:Program}{w:World}{K:Frag}{mg:Str->Option Value}{base:Heap}{N ps:List Str}{qual:Str}{scope:Scope}{f:Addr}{cd:Value}{A:Around}{outer:List Env}{s s1:Shared}{H:Hp}{E:XK}{us:List Value}{vs:List V}
  (S:aA N ps scope) (hd:A.handled=none) (e0:DC P w K mg base A outer s H) (hl:vs.length=ps.length) (r:Vals vs us)
  (x:InCallC s s.heap.objs.size (bindL (envOfC qual scope s.heap.objs.size f cd).kindOf (ps.zip us) λ_=>none) (cellsFrom (s.heap.objs.size+1) scope.names []) (bindC (envOfC qual scope s.heap.objs.size f cd).kindOf (ps.zip us) λ_=>none) s1) :
  Inv (yx CX P w K mg base N qual scope f cd A outer s H E) [] (start N vs) H s1:=by
 have tV:ps.length<=N.length:=by have:=congrArg List.length S.pre; rw [length_take] at this; omega
 obtain⟨h1,tk,rfl,hk⟩:=x.done;have Y5:∀b:Addr,b∉(yx CX P w K mg base N qual scope f cd A outer s H E).ex:=λb z=>absurd (show b∈([]:List Addr) from z) (by simp)
 refine⟨⟨e0.mod,S.kind,rfl,rfl,Nat.le_refl _,λy z c h1 h2=>?_,λy hy=>?_,λy c _ h=>?_,λ_=>hd,Around.frames_deeper e0.frames,.inr ⟨rfl,rfl⟩,λb z=>absurd z (Y5 b),e0.bs,e0.Hm,λb _ _=>Y5 b,λb z=>absurd z (Y5 b),e0.lW,e0.O8⟩,
  rfl,e0.bare,Un.kept hk,⟨_,x.toInCall.ns,λi y v h1 h2 h3=>?_⟩,λy c h=>⟨_,x.cell y c h⟩,e0.bV.fresh (Nat.le_refl _),λy c h=>?_,λp hp=>absurd (show p∈([]:List (Addr×Obj)) from hp) (by simp),e0.bV.kept hk,?_⟩
 ·exact name_of_addr x.apart (PySem.mem_of_lookup h1) (PySem.mem_of_lookup h2)
 ·have hy:scope.names.lookup y=some .cell\/scope.names.lookup y=some .free:=hy;rcases hy with hy | hy
  ·exact yy hy
  ·exact absurd rfl (S.Uw _ (PySem.mem_of_lookup hy))
 ·exact Nat.le_of_lt (x.above y c (PySem.mem_of_lookup h))
 ·have hi:i < vs.length:=by
   unfold start at h2
   by_cases hi:i < vs.length
   ·exact hi
   ·rw [getElem?_append_right (by simpa using hi)] at h2;rw [List.getElem?_replicate] at h2;split at h2 <;> cases h2
  have ha:vs[i]?=some v:=by
   unfold start at h2;rw [getElem?_append_left (by simpa using hi),getElem?_map] at h2
   cases e:vs[i]? with
   | none=>rw [e] at h2; cases h2
   | some a=>rw [e] at h2; cases h2; rfl
  obtain⟨u,hu,rv⟩:=r.get ha;have hp:ps[i]?=some y:=by
   rw [<-S.pre,List.getElem?_take_of_lt (by omega)]; exact h1
  have ndP:ps.Nodup:=by rw [<-S.pre]; exact S.nd.sublist (List.take_sublist _ _)
  refine⟨u,rv,?_⟩;rcases S.par y (mem_of_getElem? hp)with k | k
  ·exact .inl ⟨k,tY ndP hp hu k⟩
  ·obtain⟨c,e⟩:=yy (n:=s.heap.objs.size+1) k;refine .inr ⟨.inl k,c,e,?_⟩;have q:=x.cell y c e;rw [t_ ndP hp hu (by show scope.names.lookup y≠_; rw [k]; decide)] at q;exact q
 ·exact e0.bV.fresh (Nat.le_of_lt (x.above y c (PySem.mem_of_lookup h)))
 ·unfold start;show _=N.length;rw [length_append,length_map,length_replicate];omega
theorem Y6 {CX:vF}{P:Program}{w:World}{K:Frag}{mg:Str->Option Value}{base:Heap}{k:Nat}{f:Addr}{name qual:Str}{params:Arguments}{body:List Stmt}{scope:Scope}{dV kV doc pm bY ct oc:Value}{an od:Option Addr}
  {OY:Array (Option Value)}{N ps:List Str}{sp:Sp}(lk:K.lookup f=some ⟨oc,od,.func (fnOf name qual params body scope dV kV doc pm an bY ct),OY⟩) (IY:PySem.W.codeIn K bY qual=true) (S:aA N ps scope)
  (len:∀vs H Q E,sp vs H Q E->vs.length=ps.length)
  (Jt:∀(A:Around) (outer:List Env) (s:Shared) (H:Hp) (vs:List V) (Q:VK) (E:XK),eK k (A.deeper (envOfC qual scope s.heap.objs.size f bY))->sp vs H Q E ->
   ∃t,yf (yx CX P w K mg base N qual scope f bY A outer s H E) body t/\t {nx:=λ_ H'=>Q .bN H',rt:=Q} (start N vs) H) :
  aU P w K mg base CX (k+1) f (fnOf name qual params body scope dV kV doc pm an bY ct) ps sp:=by
 refine⟨len,λA outer s H args us vs Q E hr e0 hb r QW=>?_⟩;have hl:=len _ _ _ _ QW;have KX:K.In s.heap:=e0.mod.Ua.keeps λb o e=>(e0.bs b o e).1
 have lim:s.heap.NoLimit:=e0.mod.nolimit.keeps λb o e=>(e0.bs b o e).1
 have Y7:∀y∈ps.zip us,scope.names.lookup y.1=some .local\/(scope.names.lookup y.1=some .cell/\((cellsFrom (s.heap.objs.size+1) scope.names []).lookup y.1).isSome=true):=λ⟨n,v⟩ hy=>by
  rcases S.par n (List.of_mem_zip hy).1 with q | q
  ·exact .inl q
  ·exact .inr ⟨q,PySem.W.cellsFrom_some _ _ _ (.inl q)⟩
 refine codeAny_call_function hr.depth (KX _ _ lk) rfl S.co S.gen rfl (PySem.W.codeRec_of KX IY) (hb _ _ _ _ ?_);refine wpAny_newFunctionEnv_cells S.kind Y7 λenv he s1 x=>?_
 subst he;refine⟨lim.keeps x.toInCall.keep,codeAny_func ?_⟩;obtain⟨t,ht,hq⟩:=Jt A outer s H vs Q E (hr.deeper _) QW;have I:Inv (yx CX P w K mg base N qual scope f bY A outer s H E) [] (start N vs) H s1:=Hw S hr.hd e0 hl r x;refine wpAny_mono (ht [] s1 (start N vs) H _ I hq) (λfl s' hs=>?_) λe s' hs=>hs
 have fin:∀{σ':St}{H':Hp}{v:V}{u:Value},Inv (yx CX P w K mg base N qual scope f bY A outer s H E) [] σ' H' s'->RelV v u->Q v H'->CE outer P w H s Q u s':=
  λ{σ' H' v u} J rv q=>⟨v,H',J.os,J.bare,J.base,J.bV,rv,q⟩
 cases fl with
 | ret u=>
  obtain⟨v,σ',H',J,rv,q⟩:=hs;exact fin J rv q
 | next=>
  obtain⟨σ',H',J,q⟩:=hs;exact fin (v:=V.bN) (u:=Value.none) J rfl q
 | brk=>
  obtain⟨_,_,_,q⟩:=hs;exact False.elim q
 | cont=>
  obtain⟨_,_,_,q⟩:=hs;exact False.elim q
section
variable {X:Cx}{x:Str}{p pos:Pos}{e:Expr}{es:List Expr}{t:TA}{id T:String}{r:List V->Hp->VK->Prop}
noncomputable def tCB (r:List V->Hp->VK->Prop) (t:TA):TE:=λσ H Q=>t σ H λvs H1=>r vs H1 Q
theorem aR (hc:fK X (.builtin id) r) (hg:Gl X x) (hm:X.mg x=none) (hv:bootBuiltins x=some (.builtin id)) (ha:PA X (e::es) t) (hn:x≠"__name__":=by decide) (Pg:(x == ("__debug__":Str))=false:=by decide)
  (he:starEach (e::es) X.env=(false,eval e X.env)::starEach es X.env:=by rfl) (tV:(backTo pos (starEach es X.env)).any (·.1)=false:=by rfl):PE X (.Call (.Name x p) (e::es) [] pos) (tCB r t):=by
 intro pins s σ H Q I h;refine wpAny_Call_Name_kw (vB I hg hm hv ?_ hn Pg);exact PyProof.Rows.callWith_builtin1 (ck (ha pos pins s σ H _ I h) λus s1 ⟨vs,H1,I1,r1,q1⟩=>hc pins s1 σ H1 vs us Q I1 r1 q1) he tV
theorem cv (hc:fK X (.type T) r) (hg:Gl X x) (hm:X.mg x=none) (hv:bootBuiltins x=some (.type T)) (ha:PA X (e::es) t) (hn:x≠"__name__":=by decide) (Pg:(x == ("__debug__":Str))=false:=by decide)
  (he:starEach (e::es) X.env=(false,eval e X.env)::starEach es X.env:=by rfl) (tV:(backTo pos (starEach es X.env)).any (·.1)=false:=by rfl):PE X (.Call (.Name x p) (e::es) [] pos) (tCB r t):=by
 intro pins s σ H Q I h;refine wpAny_Call_Name_kw (vB I hg hm hv ?_ hn Pg);exact PyProof.Rows.callWith_type1 (ck (ha pos pins s σ H _ I h) λus s1 ⟨vs,H1,I1,r1,q1⟩=>hc pins s1 σ H1 vs us Q I1 r1 q1) he tV
end
end L2
namespace HT
open PySem PyProof.Rows
section
open PySem.SeqAt
open PySem.AutoSeq1 (wpAny_loadPart')
open PySem.MeetsSeq PySem.MeetsSeq2 PySem.MeetsSeq3
end
section
variable {prog:Program}{w:World}{A:Around}{E:Value->Shared->Prop}{s:Shared}
noncomputable def yz (n d:Nat):Option Int->Nat
 | none=>d
 | some v=>if v < 0 then(v+(n:Int)).toNat else min v.toNat n
theorem jI (n d:Nat):yz n d none=d:=rfl
theorem l_ (n d k:Nat):yz n d (some (k:Int))=min k n:=by
 show(if (k:Int) < 0 then((k:Int)+(n:Int)).toNat else min (k:Int).toNat n)=min k n;rw [if_neg (by omega),Int.toNat_natCast]
end
end HT
namespace L2
open PySem PySem.Spec PyProof.Rows
noncomputable abbrev TO:=St->Hp->(Option Int->Hp->Prop)->Prop
noncomputable def PO (X:Cx) (e:Option Expr) (t:TO):Prop:=
 ∀(pins:List (Addr×Obj)) (s:Shared) (σ:St) (H:Hp) (Q:Option Int->Hp->Prop),Inv X pins σ H s->t σ H Q ->
  wpAny (model X.prog X.w) X.A (evalPart e X.env) (λu s'=>∃o H',Inv X pins σ H' s'/\IsPart u o/\Q o H') X.xe s
noncomputable def FZ:TO:=λ_ H Q=>Q none H
noncomputable def QX (t:TE):TO:=λσ H Q=>t σ H λx H1=>∃i,x=.int i/\Q (some i) H1
theorem intsAre_of {ns:List Int}:∀{us:List Value},Vals (ns.map V.int) us->IntsAre us ns:=by
 induction ns with
 | nil=>intro us r; rw [List.map_nil] at r; cases r; exact .nil
 | cons n ns ih=>
  intro us r;rw [List.map_cons] at r
  cases r with
  | cons r1 r2=>
   obtain⟨t,e⟩:=r1;subst e;exact .cons n t (ih r2)
section
variable {X:Cx}{e:Expr}{te:TE}{lo hi:Option Expr}{tl th:TO}{pos p2:Pos}
theorem iX:PO X none FZ:=by
 intro pins s σ H Q I h;rw [evalPart_none];exact wpAny_pure ⟨none,H,I,.none,h⟩
theorem gK (h:PE X e te):PO X (some e) (QX te):=by
 intro pins s σ H Q I hw;rw [evalPart_some];refine ck (h pins s σ H _ I hw) λu s1 ⟨x,H1,I1,r1,q1⟩=>?_
 obtain⟨i,rfl,q⟩:=q1;obtain⟨t,rfl⟩:=r1;exact⟨some i,H1,I1,.int i t,q⟩
noncomputable def SlR (X:Cx) (r:V->Option Int->Option Int->Hp->VK->Prop):Prop:=
 ∀(pins:List (Addr×Obj)) (s:Shared) (σ:St) (H:Hp) (x:V) (v vl vu:Value) (lo hi:Option Int) (sl:Addr) (Q:VK),Inv X pins σ H s->RelV x v->s.heap.IsSliceOf sl vl vu .none->IsPart vl lo->IsPart vu hi->r x lo hi H Q ->
  ∃T id,typeLookup (.type T) "__getitem__"=pure (some (.builtin id))/\s.TypeIs v T/\wpAny (model X.prog X.w) X.A (getItem v (.ref sl)) (EP X pins σ Q) X.xe s
noncomputable def tSl (r:V->Option Int->Option Int->Hp->VK->Prop) (te:TE) (tl th:TO):TE:=λσ H Q=>te σ H λx H1=>tl σ H1 λl H2=>th σ H2 λu H3=>r x l u H3 Q
theorem gk {r:V->Option Int->Option Int->Hp->VK->Prop}(hr:SlR X r) (he:PE X e te) (hl:PO X lo tl) (hu:PO X hi th):PE X (.Subscript e (.Slice lo hi none p2) pos) (tSl r te tl th):=by
 intro pins s σ H Q I h;refine Subscript_ (ck (he pins s σ H _ I h) λv s1 ⟨x,H1,I1,r1,q1⟩=>?_);refine wpAny_Slice (ck (hl pins s1 σ H1 _ I1 q1) λvl s2 ⟨l,H2,I2,pl,q2⟩=>ck (hu pins s2 σ H2 _ I2 q2) λvu s3 ⟨u,H3,I3,pu,q3⟩=>?_);rw [evalPart_none];refine wpAny_pure ?_;have I4:Inv X pins σ H3 {s3 with heap:=s3.heap.push {cls:=.type "slice",data:=.fields #[vl,vu,.none]}}:=I3.kept (t':=s3.toks) λb ob q=>get?_push_of_some _ q
 obtain⟨T,id,hT,ht,hg⟩:=hr pins {s3 with heap:=s3.heap.push {cls:=.type "slice",data:=.fields #[vl,vu,.none]}} σ H3 x v vl vu l u s3.heap.objs.size Q I4 r1 (Heap.IsSliceOf.new ..) pl pu q3;show wpAny (model X.prog X.w) X.A (subscriptTail e (.Slice lo hi none p2) v (.ref s3.heap.objs.size)) (EP X pins σ Q) X.xe {s3 with heap:=s3.heap.push {cls:=.type "slice",data:=.fields #[vl,vu,.none]}};exact tail_any (ops:=[.ref s3.heap.objs.size,v]) ht hT hg (by with_unfolding_all rfl)
noncomputable def iw (xs:List V) (lo hi:Option Int):List V:=(xs.drop (HT.yz xs.length 0 lo)).take (HT.yz xs.length xs.length hi - HT.yz xs.length 0 lo)
theorem yA (xs:List V) (lo hi:Option Int):(iw xs lo hi).length<=xs.length:=by
 unfold iw;rw [length_take,List.length_drop];omega
end
noncomputable def Ye (n:Nat) (i:Int):Option Nat:=if 0<=i then(if i < n then some i.toNat else none)else if -(n:Int)<=i then some (i+n).toNat else none
noncomputable def ql {α:Type}(xs:List α) (i:Int):Option α:=(Ye xs.length i).bind λj=>xs[j]?
theorem Ph {n:Nat}{i:Int}{j:Nat}(h:Ye n i=some j):seqIndex? i n=some j/\j < n/\-(n:Int)<=i/\i < n:=by
 unfold Ye at h
 by_cases h0:0<=i
 ·rw [if_pos h0] at h
  by_cases h1:i < n
  ·rw [if_pos h1] at h;have e:i.toNat=j:=Option.some.inj h;exact⟨by rw [seqIndex_of h0 h1,e],by omega,by omega,h1⟩
  ·rw [if_neg h1] at h; cases h
 ·rw [if_neg h0] at h
  by_cases h1:-(n:Int)<=i
  ·rw [if_pos h1] at h;have e:(i+n).toNat=j:=Option.some.inj h;exact⟨by rw [seqIndex_neg (by omega) h1,e],by omega,h1,by omega⟩
  ·rw [if_neg h1] at h; cases h
theorem vG {α:Type}{xs:List α}{i:Int}{v:α}(h:ql xs i=some v):∃j,seqIndex? i xs.length=some j/\xs[j]?=some v/\j < xs.length/\-(xs.length:Int)<=i/\i < xs.length:=by
 unfold ql at h
 cases e:Ye xs.length i with
 | none=>rw [e] at h; cases h
 | some j=>
  rw [e] at h;obtain⟨h1,h2,h3,h4⟩:=Ph e;exact⟨j,h1,h,h2,h3,h4⟩
theorem dk {α:Type}{xs:List α}{j:Nat}{v:α}(h:xs[j]?=some v):ql xs (j:Int)=some v:=by
 have hj:j < xs.length:=(List.getElem?_eq_some_iff.mp h).1;have e:Ye xs.length (j:Int)=some j:=by
  unfold Ye;rw [if_pos (by omega),if_pos (by omega)]; simp
 unfold ql; rw [e]; exact h
noncomputable def Pj (b:Expr):Prop:=∀o i,subscripted b false o i=operate [o,i] (getItem o i)
noncomputable def Yf (X:Cx) (r:R2):Prop:=
 ∀(value slice:Expr) (pins:List (Addr×Obj)) (s:Shared) (σ:St) (H:Hp) (x y:V) (v u:Value) (Q:VK),Inv X pins σ H s->RelV x v->RelV y u->r x y H Q ->
  subscripted slice false v u=operate [v,u] (getItem v u)->wpAny (model X.prog X.w) X.A (subscriptTail value slice v u) (EP X pins σ Q) X.xe s
noncomputable def MtR (X:Cx) (id:String) (r:V->List V->Hp->VK->Prop):Prop:=
 ∀(pins:List (Addr×Obj)) (s:Shared) (σ:St) (H:Hp) (x:V) (xs:List V) (v:Value) (us:List Value) (Q:VK),Inv X pins σ H s->RelV x v->Vals xs us->r x xs H Q ->
  wpAny (model X.prog X.w) X.A (call (.builtin id) (v::us)) (EP X pins σ Q) X.xe s
section
variable {X:Cx}{a b:Expr}{ta tb:TE}{pos:Pos}
theorem av {r:R2}(hr:Yf X r) (ha:PE X a ta) (hb:PE X b tb) (hs:Pj b):PE X (.Subscript a b pos) (Yc r ta tb):=by
 intro pins s σ H Q I h;exact Subscript_ (Uq ha hb I h λv u s2 x y H2 I2 rx ry q=>hr a b pins s2 σ H2 x y v u Q I2 rx ry q (hs _ _))
noncomputable def Ux (K:Frag):R2:=λx y H Q=>∃p xs i v,x=.ref p/\y=.int i/\ba K H p xs/\ql xs i=some v/\Q v H
noncomputable def pH (K:Frag):R2:=λx y H Q=>∃p xs i v,x=.ref p/\y=.int i/\bX K H p xs/\ql xs i=some v/\Q v H
noncomputable def Y8:R2:=λx y H Q=>∃z i c,x=.str z/\y=.int i/\z.length<=sizeLine/\ql z.cps.toList i=some c/\Q (.str ⟨#[c]⟩) H
theorem df:Yf X (Ux X.K):=by
 intro value slice pins s σ H x y v u Q I rx ry h hs;obtain⟨p,xs,i,z,rfl,rfl,hq,he,q⟩:=h;cases rx;obtain⟨t,rfl⟩:=ry;obtain⟨bF,r,pl,hz⟩:=I.list hq;obtain⟨j,h1,h2,h3,h4,h5⟩:=vG he;obtain⟨w,ew,yB⟩:=r.get h2;have hl:=r.length;have hn:=vE;have fin:EP X pins σ Q w s:=⟨z,H,I,yB,q⟩
 by_cases h0:0<=i
 ·have hj:i.toNat=j:=by
   rw [seqIndex_of h0 h5] at h1;exact Option.some.inj h1
  exact item_listR pl.isList h0 (by omega) (by rw [hj]; simpa using ew) fin hs
 ·have hj:(i+(bF.toArray.size:Int)).toNat=j:=by
   rw [seqIndex_neg (by omega) h4] at h1;rw [size_toArray,<-hl];exact Option.some.inj h1
  exact subscriptTail_builtinR (x:=w) pl.isList.typeIs slot_list_getitem.lookup
   (wpAny_getItem_list_neg (Q:=λr s'=>r=w/\EP X pins σ Q r s') pl.isList (by omega) (by rw [size_toArray] <;> omega) (by omega) (by rw [hj]; simpa using ew) ⟨rfl,fin⟩) hs
theorem aq:Yf X (pH X.K):=by
 intro value slice pins s σ H x y v u Q I rx ry h hs;obtain⟨p,xs,i,z,rfl,rfl,hq,he,q⟩:=h;cases rx;obtain⟨t,rfl⟩:=ry;obtain⟨bF,r,pl,hz⟩:=I.tuple hq;obtain⟨j,h1,h2,h3,h4,h5⟩:=vG he;obtain⟨w,ew,yB⟩:=r.get h2;have hl:=r.length;have hn:=vE;have fin:EP X pins σ Q w s:=⟨z,H,I,yB,q⟩
 exact subscriptTail_builtinR (x:=w) pl.typeIs slot_tuple_getitem.lookup
  (getItem_tuple (j:=j) (Q:=λr s'=>r=w/\EP X pins σ Q r s') pl (by omega) (by omega) (by rw [size_toArray,<-hl]; exact h1) (by simpa using ew) ⟨rfl,fin⟩) hs
theorem DD:Yf X Y8:=by
 intro value slice pins s σ H x y v u Q I rx ry h hs;obtain⟨z,i,c,rfl,rfl,hz,he,q⟩:=h;obtain⟨t,rfl⟩:=rx;obtain⟨t',rfl⟩:=ry;obtain⟨j,h1,h2,h3,h4,h5⟩:=vG he;have hl:z.cps.toList.length=z.length:=by simp [Str.length]
 rw [hl] at h1 h4 h5;have hn:=vE;exact tail_any (typeIs_str s z t) slot_str_getitem.lookup (getItem_str (c:=c) (by
  have e1:decide (i < -(2 ^ 63:Int))=false:=decide_eq_false (by omega);have e2:decide (i≥2 ^ 63)=false:=decide_eq_false (by omega);rw [e1,e2,Bool.or_false]) (by rw [h1]; simpa using h2) ⟨.str ⟨#[c]⟩,H,I.tok _,⟨_,rfl⟩,q⟩) hs
theorem vH (lo hi:Option Int) (n:Nat):(sliceBounds lo hi none n).1=((HT.yz n 0 lo:Nat):Int)/\(sliceBounds lo hi none n).2.1=((HT.yz n n hi:Nat):Int)/\(sliceBounds lo hi none n).2.2=1:=by
 refine⟨?_,?_,rfl⟩
 ·cases lo with
  | none=>simp [sliceBounds,HT.yz]
  | some i=>
   simp only [sliceBounds,HT.yz,Option.getD_none,show(1:Int) > 0 by decide,if_true]
   by_cases h:i < 0
   ·simp only [h,if_true] <;> omega
   ·simp only [h,if_false] <;> omega
 ·cases hi with
  | none=>simp [sliceBounds,HT.yz]
  | some i=>
   simp only [sliceBounds,HT.yz,Option.getD_none,show(1:Int) > 0 by decide,if_true]
   by_cases h:i < 0
   ·simp only [h,if_true] <;> omega
   ·simp only [h,if_false] <;> omega
theorem sR (bF:List Value) (lo hi:Option Int):slicePick bF.toArray lo hi none=((bF.drop (HT.yz bF.length 0 lo)).take (HT.yz bF.length bF.length hi - HT.yz bF.length 0 lo)).toArray:=by
 obtain⟨h1,h2,h3⟩:=vH lo hi bF.toArray.size;unfold slicePick;rw [h1,h2,h3];simp only [sliceRange_one,pick_run,size_toArray] <;> rfl
noncomputable def adO (K:Frag):V->Option Int->Option Int->Hp->VK->Prop:=λx lo hi H Q=>∃a xs,x=.ref a/\ba K H a xs/\∀p,H p=none->Q (.ref p) (upd H p (.lst (iw xs lo hi)))
theorem hX:SlR X (adO X.K):=by
 intro pins s σ H x v vl vu lo hi sl Q I rx hs pl pu h;obtain⟨a,xs,rfl,hx,q⟩:=h;cases rx;obtain⟨bF,r,ht,hz⟩:=I.list hx;have hlen:=r.length;refine⟨"list",_,slot_list_getitem.lookup,ht.isList.typeIs,?_⟩;refine wpAny_getItem_list_slice ht.isList hs pl pu .none (by simp) ?_ (by rw [size_toArray] <;> omega);rw [sR,<-hlen];refine⟨.ref s.heap.objs.size,_,I.laid (t':=s.toks) (o:=.lst (iw xs lo hi)) (λb ob q=>get?_push_of_some _ q) (Nat.le_refl _) ?_,rfl,q _ (I.bV.fresh (Nat.le_refl _))⟩;exact⟨Nat.le_trans (yA xs lo hi) hz,_,0,(r.drop (HT.yz xs.length 0 lo)).take (HT.yz xs.length xs.length hi - HT.yz xs.length 0 lo),get?_push_size _ rfl⟩
noncomputable def h_:V->Bool
 | .bN=>true
 | .bl _=>true
 | .int _=>true
 | .str _=>true
 | _=>false
noncomputable def F0:V->V->Bool
 | .bN,.bN=>true
 | .bl a,.bl b=>a == b
 | .bl a,.int b=>(if a then 1 else 0) == b
 | .int a,.bl b=>a == (if b then 1 else 0)
 | .int a,.int b=>a == b
 | .str a,.str b=>a == b
 | _,_=>false
theorem Uy {A:Around}{s:Shared}{y x:V}{u v:Value}(ry:RelV y u) (rx:RelV x v) (fy:h_ y=true) (fx:h_ x=true):SeqAt.EqAt A s u v (F0 y x):=by
 cases y with
 | bN=>
  cases ry
  cases x with
  | bN=>cases rx; exact SeqAt.EqAt.same _
  | bl b=>cases rx; exact SeqAt.EqAt.none_bool b
  | int b=>obtain⟨t,rfl⟩:=rx; exact SeqAt.EqAt.none_int b t
  | str b=>obtain⟨t,rfl⟩:=rx; exact SeqAt.EqAt.none_str b t
  | _=>exact absurd (show false=true from fx) Bool.false_ne_true
 | bl a=>
  cases ry
  cases x with
  | bN=>cases rx; exact SeqAt.EqAt.bool_none a
  | bl b=>cases rx; exact SeqAt.EqAt.bool_bool a b
  | int b=>obtain⟨t,rfl⟩:=rx; exact SeqAt.EqAt.bool_int a b t
  | str b=>obtain⟨t,rfl⟩:=rx; exact SeqAt.EqAt.bool_str a b t
  | _=>exact absurd (show false=true from fx) Bool.false_ne_true
 | int a=>
  obtain⟨t',rfl⟩:=ry
  cases x with
  | bN=>cases rx; exact SeqAt.EqAt.int_none a t'
  | bl b=>cases rx; exact SeqAt.EqAt.int_bool a t' b
  | int b=>obtain⟨t,rfl⟩:=rx; exact SeqAt.EqAt.int_int a t' b t
  | str b=>obtain⟨t,rfl⟩:=rx; exact SeqAt.EqAt.int_str a t' b t
  | _=>exact absurd (show false=true from fx) Bool.false_ne_true
 | str a=>
  obtain⟨t',rfl⟩:=ry
  cases x with
  | bN=>cases rx; exact SeqAt.EqAt.str_none a t'
  | bl b=>cases rx; exact SeqAt.EqAt.str_bool a t' b
  | int b=>obtain⟨t,rfl⟩:=rx; exact SeqAt.EqAt.str_int a t' b t
  | str b=>obtain⟨t,rfl⟩:=rx; exact SeqAt.EqAt.str_str a t' b t
  | _=>exact absurd (show false=true from fx) Bool.false_ne_true
 | _=>exact absurd (show false=true from fy) Bool.false_ne_true
noncomputable def DE (x:V) (u:Value):Bool:=match u with
 | .none=>F0 .bN x
 | .bool b=>F0 (.bl b) x
 | .int i _=>F0 (.int i) x
 | .str z _=>F0 (.str z) x
 | _=>false
theorem Ju {x y:V}{u:Value}(r:RelV y u) (f:h_ y=true):DE x u=F0 y x:=by
 cases y with
 | bN=>cases r; rfl
 | bl b=>cases r; rfl
 | int i=>obtain⟨t,rfl⟩:=r; rfl
 | str z=>obtain⟨t,rfl⟩:=r; rfl
 | _=>exact absurd (show false=true from f) Bool.false_ne_true
theorem ma {x:V}:∀{xs:List V}{us:List Value},Vals xs us->xs.all h_=true->us.any (DE x)=xs.any λy=>F0 y x
 | _,_,.nil,_=>rfl
 | y::xs,u::us,.cons r t,f=>by
  rw [List.all_cons,Bool.and_eq_true] at f;rw [List.any_cons,List.any_cons,Ju r f.1,ma t f.2]
theorem jJ {A:Around}{s:Shared}{x:V}{v:Value}(rx:RelV x v) (fx:h_ x=true):∀{xs:List V}{us:List Value},Vals xs us->xs.all h_=true->∀u∈us,SeqAt.EqAt A s u v (DE x u)
 | _,_,.nil,_=>λu hu=>by cases hu
 | y::xs,u::us,.cons r t,f=>λu' hu=>by
  rw [List.all_cons,Bool.and_eq_true] at f;rcases mem_cons.mp hu with rfl | hu
  ·rw [Ju r f.1]; exact Uy r rx f.1 fx
  ·exact jJ rx fx t f.2 u' hu
noncomputable def QY (x:V) (xs:List V):Bool:=xs.any λy=>F0 y x
noncomputable def Y9 (K:Frag) (neg:Bool):R2:=λx y H Q=>∃p xs,y=.ref p/\(ba K H p xs\/bX K H p xs)/\h_ x=true/\xs.all h_=true/\Q (.bl (if neg then !QY x xs else QY x xs)) H
theorem fb:kW X (compareOp .In) (Y9 X.K false):=by
 intro pins s σ H x y v u Q I rx ry h;obtain⟨p,xs,rfl,hq,fx,fs,q⟩:=h;cases ry;rcases hq with hq | hq
 ·obtain⟨bF,r,pl,hz⟩:=I.list hq;refine SeqAt.in_listAt (DE x) pl.isList (λw hw=>jJ rx fx r fs w (by simpa using hw)) ⟨.bl _,H,I,rfl,?_⟩;rw [show bF.toArray.any (DE x)=bF.any (DE x)by simp,ma r fs];exact q
 ·obtain⟨bF,r,pl,hz⟩:=I.tuple hq;refine SeqAt.in_tupleAt (DE x) pl (λw hw=>jJ rx fx r fs w (by simpa using hw)) ⟨.bl _,H,I,rfl,?_⟩;rw [show bF.toArray.any (DE x)=bF.any (DE x)by simp,ma r fs];exact q
theorem me:kW X (compareOp .NotIn) (Y9 X.K true):=by
 intro pins s σ H x y v u Q I rx ry h;obtain⟨p,xs,rfl,hq,fx,fs,q⟩:=h;cases ry;rcases hq with hq | hq
 ·obtain⟨bF,r,pl,hz⟩:=I.list hq;refine SeqAt.notIn_listAt (DE x) pl.isList (λw hw=>jJ rx fx r fs w (by simpa using hw)) ⟨.bl _,H,I,rfl,?_⟩;rw [show bF.toArray.any (DE x)=bF.any (DE x)by simp,ma r fs];exact q
 ·obtain⟨bF,r,pl,hz⟩:=I.tuple hq;refine SeqAt.notIn_tupleAt (DE x) pl (λw hw=>jJ rx fx r fs w (by simpa using hw)) ⟨.bl _,H,I,rfl,?_⟩;rw [show bF.toArray.any (DE x)=bF.any (DE x)by simp,ma r fs];exact q
theorem cF:fK X (.builtin "len") (λxs H Q=>∃p ys,xs=[.ref p]/\(ba X.K H p ys\/bX X.K H p ys)/\Q (.int ys.length) H):=by
 intro pins s σ H xs us Q I r h;obtain⟨p,ys,rfl,hq,q⟩:=h;obtain⟨u,rfl,rx⟩:=vals1 r;cases rx;have hn:=vE;rcases hq with hq | hq
 ·obtain⟨bF,r',pl,hz⟩:=I.list hq;have hlen:=r'.length;exact Calls.call_len_list pl.isList (by simp only [size_toArray] <;> omega) ⟨.int ys.length,H,I.tok _,⟨s.toks+1,by rw [size_toArray,hlen]⟩,q⟩
 ·obtain⟨bF,r',pl,hz⟩:=I.tuple hq;have hlen:=r'.length;exact len_tuple pl (by simp only [size_toArray] <;> omega) ⟨.int ys.length,H,I.tok _,⟨s.toks+1,by rw [size_toArray,hlen]⟩,q⟩
theorem gL:fK X (.type "list") (λxs H Q=>∃p ys,xs=[.ref p]/\(ba X.K H p ys\/bX X.K H p ys)/\∀l,H l=none->Q (.ref l) (upd H l (.lst ys))):=by
 intro pins s σ H xs us Q I r h;obtain⟨p,ys,rfl,hq,q⟩:=h;obtain⟨u,rfl,rx⟩:=vals1 r;cases rx;have fin:∀(bF:List Value),Vals ys bF->ys.length<=sizeLine->∀(h':Heap) (c':Nat),(∀b o',s.heap.get? b=some o'->h'.get? b=some o') ->
   h'.get? s.heap.objs.size=some {cls:=.type "list",dict:=none,data:=.seq bF.toArray c',slots:=#[]}->EP X pins σ Q (.ref s.heap.objs.size) {s with heap:=h'}:=λbF r' hz h' c' kp e=>
  ⟨.ref s.heap.objs.size,_,I.laid (t':=s.toks) kp (Nat.le_refl _) (show cR X.prog X.w _ h' _ (.lst ys) from⟨hz,bF,c',r',e⟩),rfl,q _ (I.bV.fresh (Nat.le_refl _))⟩
 rcases hq with hq | hq
 ·obtain⟨bF,r',pl,hz⟩:=I.list hq;have hlen:=r'.length;obtain⟨o,ho,hc,n,hd⟩:=pl.isList;exact call_list_seq p (.inl rfl) ho hc hd (λh' c' kp e=>fin bF r' hz h' c' kp e) (by simp only [size_toArray] <;> omega)
 ·obtain⟨bF,r',pl,hz⟩:=I.tuple hq;have hlen:=r'.length;obtain⟨o,ho,hc,n,hd⟩:=pl;exact call_list_seq p (.inr rfl) ho hc hd (λh' c' kp e=>fin bF r' hz h' c' kp e) (by simp only [size_toArray] <;> omega)
noncomputable def tyV (K:Frag) (T:String) (x:V) (H:Hp):Prop:=match x with
 | .str _=>T="str"
 | .int _=>T="int"
 | .ref p=>(T="list"/\∃xs,ba K H p xs)\/(T="tuple"/\∃o,K.lookup p=some o/\o.cls=.type "tuple"/\o.dict=none) \/
   (T="dict"/\((∃kvs,H p=some (.dK kvs))\/∃kvs,H p=some (.dT kvs)))\/(T="set"/\∃S n,H p=some (.set S n))
 | _=>False
theorem Jv {pins:List (Addr×Obj)}{σ:St}{H:Hp}{s:Shared}{T:String}{x:V}{v:Value}(I:Inv X pins σ H s) (r:RelV x v) (ty:tyV X.K T x H) :
  s.TypeIs v T/\∀a,v=.ref a->∃ob,s.heap.get? a=some ob/\ob.dict=none:=by
 cases x with
 | str z=>
  obtain⟨t,rfl⟩:=r;cases (show T="str" from ty);exact⟨typeIs_str s z t,λ_ e=>nomatch e⟩
 | int i=>
  obtain⟨t,rfl⟩:=r;cases (show T="int" from ty);exact⟨typeIs_int s i t,λ_ e=>nomatch e⟩
 | ref p=>
  cases r;rcases ty with ⟨rfl,xs,hq⟩ | ⟨rfl,o,hk,hc,hd⟩ | ⟨rfl,hk⟩ | ⟨rfl,S,n,hk⟩
  ·obtain⟨bF,_,pl,_⟩:=I.list hq;refine⟨pl.isList.typeIs,λa e=>?_⟩;cases e;obtain⟨o,n,e,c,hd,_⟩:=pl;exact⟨o,e,hd⟩
  ·refine⟨⟨o,I.iT p o hk,hc⟩,λa e=>?_⟩;cases e;exact⟨o,I.iT _ o hk,hd⟩
  ·have z:∃o,s.heap.get? p=some o/\o.ExactDict:=by
    rcases hk with ⟨kvs,hk⟩ | ⟨kvs,hk⟩
    ·obtain⟨_,_,_,_,o,_,_,e,ex,_⟩:=I.bV p _ hk;exact⟨o,e,ex⟩
    ·obtain⟨_,_,_,_,o,_,_,e,ex,_⟩:=I.bV p _ hk;exact⟨o,e,ex⟩
   obtain⟨o,e,ex⟩:=z;refine⟨⟨o,e,ex.1⟩,λa e2=>?_⟩;cases e2;exact⟨o,e,ex.2.1⟩
  ·obtain⟨o,_,_,_,e,ex,_⟩:=I.bV p _ hk;refine⟨⟨o,e,ex.1⟩,λa e2=>?_⟩;cases e2;exact⟨o,e,ex.2.1⟩
 | _=>exact False.elim ty
noncomputable def Y_ (K:Frag) (T:String) (r:V->List V->Hp->VK->Prop) (to:TE):TE:=λσ H Q=>to σ H λx H1=>tyV K T x H1/\r x [] H1 Q
noncomputable def tBM (K:Frag) (T:String) (r:V->List V->Hp->VK->Prop) (to:TE) (t:TA):TE:=λσ H Q=>to σ H λx H1=>tyV K T x H1/\t σ H1 λxs H2=>r x xs H2 Q
variable {o e:Expr}{es:List Expr}{to:TE}{t:TA}{name:Str}{apos eC:Pos}{T id:String}{r:V->List V->Hp->VK->Prop}
theorem DF (pa:PlainAttrs T) (slot:Slot T name id) (hty:typeOf (.builtin id)=pure (.type "method_descriptor")) (hm:MtR X id r) (ho:PE X o to)
  (Jw:attributeBase o name X.env (eval o X.env)=eval o X.env:=by rfl) (Jx:(apos.endLine == eC.line)=true:=by rfl):PE X (.Call (.Attribute o name apos) [] [] eC) (Y_ X.K T r to):=by
 intro pins s σ H Q I h;refine wpAny_Call_method0_late Jw Jx (ck (ho pins s σ H _ I h) λv s1 ⟨x,H1,I1,r1,ty,q1⟩=>?_);obtain⟨h1,h2⟩:=Jv I1 r1 ty;exact⟨T,id,pa,slot,hty,h1,h2,Calls.callWith_builtin rfl (PySem.evalArgs_none (hm pins s1 σ H1 x [] v [] Q I1 r1 .nil q1))⟩
theorem mf (pa:PlainAttrs T) (slot:Slot T name id) (hty:typeOf (.builtin id)=pure (.type "method_descriptor")) (hm:MtR X id r) (ho:PE X o to) (ha:PA X (e::es) t)
  (Jw:attributeBase o name X.env (eval o X.env)=eval o X.env:=by rfl)
  (adP:((backTo eC (starEach (e::es) X.env)).all (λx=>!x.1)&&(backToKw eC (keywordEach [] X.env)).all (λx=>x.1.isSome)
   && decide ((e::es).length+([]:List Keyword).length+(if ([]:List Keyword).isEmpty then 0 else 1) < 30))=true:=by rfl)
  (Jx:(apos.endLine == eC.line)=true:=by rfl) (hs:starEach (e::es) X.env=(false,eval e X.env)::starEach es X.env:=by rfl) (Uz:(backTo eC (starEach es X.env)).any (·.1)=false:=by rfl) :
  PE X (.Call (.Attribute o name apos) (e::es) [] eC) (tBM X.K T r to t):=by
 intro pins s σ H Q I h;refine wpAny_Call_method_late Jw adP Jx rfl (ck (ho pins s σ H _ I h) λv s1 ⟨x,H1,I1,r1,ty,q1⟩=>?_);obtain⟨h1,h2⟩:=Jv I1 r1 ty;refine⟨T,id,pa,slot,hty,h1,h2,?_⟩;have hA:=ha eC pins s1 σ H1 _ I1 q1;rw [hs] at hA ⊢;refine Calls.callWith_builtin (by show(false || (backTo eC (starEach es X.env)).any (·.1))=false; rw [Uz] <;> rfl) (Calls.evalArgs_plain ?_);exact ck hA λus s2 ⟨vs,H2,I2,r2,q2⟩=>hm pins s2 σ H2 x vs v us Q I2 r1 r2 q2
end
noncomputable def Za (X:Cx) (id:String) (r:V->List V->Hp->VK->Prop):Prop:=
 ∀(pins:List (Addr×Obj)) (s:Shared) (σ:St) (H:Hp) (x:V) (xs:List V) (v:Value) (us:List Value) (Q:VK),Inv X pins σ H s->RelV x v->Vals xs us->r x xs H Q ->
  wpAny (model X.prog X.w) X.A (call (.builtin id) (v::us)) (EP X pins σ Q) X.xe s
theorem Vals.one:∀{x:V}{us:List Value},Vals [x] us->∃u,us=[u]/\RelV x u
 | _,_,.cons r .nil=>⟨_,rfl,r⟩
theorem Vals.eraseIdx:∀{xs:List V}{us:List Value}(i:Nat),Vals xs us->Vals (xs.eraseIdx i) (us.eraseIdx i)
 | _,_,_,.nil=>.nil
 | _,_,0,.cons _ t=>t
 | _,_,i+1,.cons r t=>.cons r (Vals.eraseIdx i t)
theorem Vals.rep {xs:List V}{us:List Value}(h:Vals xs us):∀k:Nat,Vals (List.replicate k xs).flatten (List.replicate k us).flatten
 | 0=>.nil
 | k+1=>by
  rw [List.replicate_succ,List.replicate_succ,List.flatten_cons,List.flatten_cons];exact Vals.append h (Vals.rep h k)
theorem ua {α:Type}:∀(l:List α) (i:Nat),(l.eraseIdx i).length<=l.length
 | [],_=>Nat.le_refl _
 | _::_,0=>Nat.le_succ _
 | _::r,i+1=>Nat.succ_le_succ (ua r i)
theorem foldl_rep (bF:List Value):∀(k:Nat) (acc:List Value),
  List.foldl (λx1 x2=>x1++x2) acc.toArray (List.replicate k bF.toArray)=(acc++(List.replicate k bF).flatten).toArray
 | 0,acc=>by simp
 | k+1,acc=>by
  have e:acc.toArray++bF.toArray=(acc++bF).toArray:=by simp
  have e2:(acc++bF)++(List.replicate k bF).flatten=acc++(List.replicate (k+1) bF).flatten:=by
   rw [List.replicate_succ,List.flatten_cons,append_assoc]
  rw [<-e2,<-foldl_rep bF k (acc++bF),<-e,List.replicate_succ,List.foldl_cons]
section
variable {X:Cx}{pins:List (Addr×Obj)}{σ:St}{H:Hp}{s:Shared}{l b:Addr}{xs ys zs:List V}
theorem Inv.Zb {bF its':List Value}{n:Nat}{f:Array Value->Array Value}{t':Nat}(I:Inv X pins σ H s) (hH:H l=some (.lst xs))
  (e:s.heap.get? l=some {cls:=.type "list",data:=.seq bF.toArray n}) (hf:f bF.toArray=its'.toArray) (hv:Vals ys its') (hz:ys.length<=sizeLine) :
  Inv X pins σ (upd H l (.lst ys)) {s with heap:=s.heap.update l (Obj.mapSeq f),toks:=t'}:=by
 have q:=PySem.IsL.update e f;rw [hf] at q;refine I.write (x:=l) (e:=l) (by rw [hH]; exact trivial) (.inl rfl) (λb' u hb hu=>(Heap.get?_update_other s.heap (Obj.mapSeq f) (Ne.symm hb)).trans hu) ⟨_,q⟩ ?_;exact⟨hz,its',_,hv,q⟩
theorem Inv.Pk {bF:List Value}{t':Nat}(I:Inv X pins σ H s) (hv:Vals ys bF) (hz:ys.length<=sizeLine) :
  Inv X pins σ (upd H s.heap.objs.size (.lst ys)) {s with heap:=s.heap.push {cls:=.type "list",data:=.seq bF.toArray},toks:=t'}:=
 I.laid (λ_ _ q=>get?_push_of_some _ q) (Nat.le_refl _) ⟨hz,bF,0,hv,get?_push_size _ rfl⟩
theorem Inv.fresh (I:Inv X pins σ H s):H s.heap.objs.size=none:=I.bV.fresh (Nat.le_refl _)
theorem Inv.Jy (I:Inv X pins σ H s) (hH:H l=some (.lst xs)):xs.length<=sizeLine/\∃(bF:List Value) (n:Nat),Vals xs bF/\xs.length=bF.length/\s.heap.get? l=some {cls:=.type "list",data:=.seq bF.toArray n}:=by
 obtain⟨z,bF,n,r,e⟩:=I.bV l _ hH;exact⟨z,bF,n,r,r.length,e⟩
theorem Jz {n:Nat}(h:n<=sizeLine):Builtin.List.listTooLong n=false:=by
 unfold Builtin.List.listTooLong;exact decide_eq_false (by omega)
end
section
variable {X:Cx}
noncomputable def Pl:V->List V->Hp->VK->Prop:=λx vs H Q=>∃l xs y,x=.ref l/\vs=[y]/\H l=some (.lst xs)/\xs.length < sizeLine/\Q .bN (upd H l (.lst (xs++[y])))
theorem fc:Za X "list.append" Pl:=by
 intro pins s σ H x vs v us Q I rx rv h;obtain⟨l,xs,y,rfl,rfl,hH,hz,q⟩:=h;cases rx;obtain⟨u,rfl,ru⟩:=rv.one;obtain⟨z,bF,n,r,hl,e⟩:=I.Jy hH;refine call_meets F.slot_list_append ⟨_,e,rfl⟩ F.entry_list_append (F.args_list_append_2 _ _) (PySem.list_append l bF.toArray n u (by rw [size_toArray]; omega)) ⟨e,?_⟩;refine⟨.bN,_,I.Zb (its':=bF++[u]) hH e (by simp) (r.append (.cons ru .nil)) ?_,rfl,q⟩;rw [length_append,length_singleton];omega
noncomputable def UA:V->List V->Hp->VK->Prop:=λx vs H Q=>∃l xs i k y,x=.ref l/\vs=[.int i]/\H l=some (.lst xs)/\-(2 ^ 63)<=i/\i < 2 ^ 63/\seqIndex? i xs.length=some k/\xs[k]?=some y/\Q y (upd H l (.lst (xs.eraseIdx k)))
theorem yC:Za X "list.pop" UA:=by
 intro pins s σ H x vs v us Q I rx rv h;obtain⟨l,xs,i,k,y,rfl,rfl,hH,h1,h2,hk,hy,q⟩:=h;cases rx;obtain⟨u,rfl,ru⟩:=rv.one;obtain⟨t,rfl⟩:=ru;obtain⟨z,bF,n,r,hl,e⟩:=I.Jy hH;obtain⟨w,hw,yB⟩:=r.get hy;refine call_meets F.slot_list_pop ⟨_,e,rfl⟩ F.entry_list_pop (F.args_list_pop_2 _ _)
  (MeetsSeq.list_pop_at l bF.toArray n i t k w (fitsIndex_both h1 h2) (by rw [size_toArray,<-hl]; exact hk) (by rw [<-Array.getElem?_toList]; exact hw) (by rw [size_toArray]; omega)) ⟨e,?_⟩
 refine⟨y,_,I.Zb (its':=bF.eraseIdx k) hH e ?_ (r.eraseIdx k) ?_,yB,q⟩
 ·show bF.toArray.eraseIdxIfInBounds k=(bF.eraseIdx k).toArray;rw [List.eraseIdxIfInBounds_toArray]
 ·have:=ua xs k;omega
noncomputable def Zc:R2:=λx y H Q=>∃l k xs,x=.ref l/\y=.int k/\H l=some (.lst xs)/\-(2 ^ 63)<=k/\k < 2 ^ 63/\xs.length*k.toNat<=sizeLine /\
 ∀p,H p=none->Q (.ref p) (upd H p (.lst (List.replicate k.toNat xs).flatten))
theorem len_rep {α:Type}(xs:List α) (k:Nat):(List.replicate k xs).flatten.length=k*xs.length:=by
 induction k with
 | zero=>simp
 | succ k ih=>rw [List.replicate_succ,List.flatten_cons,length_append,ih,Nat.succ_mul,Nat.add_comm]
theorem DG:kW X (binaryOp .Mult) Zc:=by
 intro pins s σ H x y v u Q I rx ry h;obtain⟨l,k,xs,rfl,rfl,hH,h1,h2,hz,q⟩:=h;cases rx;obtain⟨t,rfl⟩:=ry;obtain⟨z,bF,n,r,hl,e⟩:=I.Jy hH;have hlen:bF.toArray.size*k.toNat<=sizeLine:=by rw [size_toArray,<-hl]; exact hz
 have adQ:¬bF.toArray.size*k.toNat > (2 ^ 63 - 1) / 8:=by
  have:(sizeLine:Nat)<=(2 ^ 63 - 1) / 8:=by decide
  omega
 have adR:¬(!Builtin.List.listFitsIndex k)=true:=by
  rw [fitsIndex_both h1 h2];exact Bool.false_ne_true
 have Zd:¬Builtin.List.listTooLong (bF.toArray.size*k.toNat)=true:=by
  rw [Jz hlen];exact Bool.false_ne_true
 have nB:List.foldl (λx1 x2=>x1++x2) #[] (List.replicate (if bF.toArray.isEmpty=true then 0 else k.toNat) bF.toArray)=(List.replicate k.toNat bF).flatten.toArray:=by
  have f0:∀m:Nat,List.foldl (λx1 x2=>x1++x2) #[] (List.replicate m bF.toArray)=(List.replicate m bF).flatten.toArray:=λm=>by
   have:=foldl_rep bF m [];rw [List.nil_append] at this;exact this
  rw [f0]
  cases bF with
  | nil=>simp
  | cons a r'=>rw [if_neg (by simp)]
 refine wpAny_binaryOp_repeat_ref (T:="list") (U:="int") (by decide) ⟨_,e,rfl⟩ (λs'=>typeIs_int s' k t) noFill_list_mul F.fills_int_mul F.slot_int_rmul repeat_list F.slot_int_index.lookup
  (call_meets F.slot_int_rmul (typeIs_int s k t) F.entry_int_rmul (F.args_int_rmul_2 _ _) (int___rmul___int_list k t l bF.toArray n)
   ⟨e,rfl,⟨_,e,rfl⟩,call_meets F.slot_list_mul ⟨_,e,rfl⟩ F.entry_list_mul (F.args_list_mul_2 _ _) (AutoListH.list___mul___list_int_3 l bF.toArray n k t adR adQ Zd) ⟨e,?_⟩⟩)
 rw [nB];exact⟨.ref _,_,I.Pk (t':=s.toks) (r.rep k.toNat) (by rw [len_rep,Nat.mul_comm]; exact hz),rfl,q _ I.fresh⟩
end
section
variable {prog:Program}{w:World}{A:Around}{E:Value->Shared->Prop}{s:Shared}
set_option maxRecDepth 100000 in
end
section
variable {X:Cx}
end
end L2
namespace Att
open PySem PySem.W PySem.Calls PyProof.Rows
theorem pI {P:Params}{h:Heap}:∀(ns:List Int) (vs:List Value),WellAll P h vs (ns.map WData.int)->IntsAre vs ns:=by
 intro ns;induction ns with
 | nil=>
  intro vs w;rw [List.map_nil] at w;cases w;exact .nil
 | cons n ns ih=>
  intro vs w;rw [List.map_cons] at w
  cases w with
  | cons a b=>
   cases a;exact .cons _ _ (ih _ b)
theorem Hx {l:OpenLaw}{n:Nat}(hn:l.most=some n) {P:Params}{h:Heap}{args:List WData}{vals:List Value}
  (Pm:l.row.toRowW.claim.pre args=true) (hwl:WellAll P h vals args) :
  ∃a vs ns,vals=[Value.ref a]/\args=[WData.list (ns.map WData.int)]/\h.get? a=some {cls:=.type "list",data:=.seq vs.toArray}/\IntsAre vs ns/\ns.length<=n:=by
 have hsh:WShape.hasAll [] args [.list .int]=true:=(pre_splitW Pm).1;have hc:l.pre.holds [] {args:=args}=true:=(pre_splitW Pm).2;obtain⟨d,r,rfl,h1,h2⟩:=hasAllW_cons hsh;obtain rfl:=hasAllW_nil h2;obtain⟨xs,rfl,h3⟩:=hasW_list h1;obtain⟨ns,rfl⟩:=items_int h3;have hlen:ns.length<=n:=by
  unfold OpenLaw.pre at hc;have h4:(WTm.not (.lt (.lit (.int (n:Int))) (.len (.arg 0)))).holds [] {args:=[.list (ns.map .int)]}=true:=by
   have h4:=(holds_andW hc).1;rw [hn] at h4;exact h4
  have h5:=condW_of h4 (w_not (w_lt w_lit (w_len_list (w_arg rfl))));rw [length_map] at h5;refine Nat.le_of_not_lt λq=>?_
  have q':(n:Int) < ((ns.length:Nat):Int):=by omega
  first
   | (rw [decide_eq_true q'] at h5; exact absurd h5 (by decide))
   | (simp at h5; omega)
 cases hwl with
 | cons w1 w2=>
  cases w2
  cases w1 with
  | list ho adS=>exact⟨_,_,ns,rfl,rfl,ho,pI ns _ adS,hlen⟩
theorem Hy (l:OpenLaw) (args:List WData):l.row.toRowW.claim.post args (.bool true) args=true:=
 postW_of (r:=l.row.toRowW) (X:=(true == true))
  (show WShape.has [] (.bool true) .bool=true by first | rfl | decide | simp [WShape.has,WShape.arms,WShape.armsAll])
  (show(WTm.eq .res (.lit (.bool true))).value [] {args:=args,res:=some (.bool true),after:=args}=some (.bool (true == true)) from w_eq_bool (w_res rfl) w_lit) rfl
theorem yD {l:OpenLaw}{n:Nat}{q:Program}{loose:List Str}{XP:(Str->Option Value)->Heap->Prop}{YP:World->Heap->Prop}{d:DefRec}
  (hn:l.most=some n) (QZ:d.params.defaults=[])
  (call:∀(w:World) (s₀ s₁:Shared) (mg mb:Str->Option Value) (fa:Addr) (o:Obj) (pm cd doc:Value) (a:Addr) (vs:List Value) (ns:List Int),
   Ground q loose [] XP w s₀ mg mb s₁.heap->YP w s₁.heap ->
   s₁.heap.get? fa=some o->o.data=.func (docDef d.name d.params d.body d.scope pm cd doc)->s₁.heap.CodeRec cd d.name->mg d.name=some (.ref fa) ->
   s₁.heap.get? a=some {cls:=.type "list",data:=.seq vs.toArray}->IntsAre vs ns->ns.length<=n->s₁.gens=#[] ->
   codeAny (model l.prog w) callerA (.call (.ref fa) ⟨[.ref a],[]⟩) (λr s'=>r=.ok (.ret (.bool true))/\OldK s₁.heap s'.heap/\s'.os=s₁.os/\AllBare s'.gens) s₁) :
  WalkO q loose XP YP l.row.toRowW d [] (λf vs=>PySem.call f vs):=by
 intro w s₀ s₁ mg mb G Y fa o pm cd doc dV kV ho hd IY hD Ze hg args vals as Pm agL p_ hwl hlo;obtain rfl:dV=.none:=Dflts.none hD QZ;obtain rfl:kV=.none:=Dflts.noKw hD;obtain⟨a,vs,ns,rfl,rfl,UB,hints,hlen⟩:=Hx hn Pm hwl;refine enter_call (codeAny_mono (call w s₀ s₁ mg mb fa o pm cd doc a vs ns G Y ho (fd_plain hd) IY Ze UB hints hlen hg) λr s' hq=>?_);obtain⟨rfl,h2,h3,h4⟩:=hq;exact⟨.inl ⟨.bool true,.bool true,[],rfl,λ_=>rfl,.bool true,Hy l _,λ_=>⟨List.Pairwise.nil,λ_ hm=>(nomatch hm)⟩⟩,h2,h3,h4⟩
section
variable {prog:Program}{w:World}{A:Around}{E:Value->Shared->Prop}{s:Shared}{K:Frag}
end
end Att
namespace L2
open PySem PySem.Spec PyProof.Rows
theorem iJ:∀{vs:List Value}{ns:List Int},IntsAre vs ns->Vals (ns.map V.int) vs
 | _,_,.nil=>.nil
 | _,_,.cons n t h=>.cons ⟨t,rfl⟩ (iJ h)
noncomputable def UC (H:Hp):Prop:=∀b,H b=none\/∃o xs,H b=some (.fI o (.lst xs))
theorem JA {P:Program}{w:World}{K:Frag}{mg mb:Str->Option Value}{CX:vF}{k:Nat}{fa a:Addr}{fd:FuncData}{x:Str}{sp:Sp}{s₁:Shared}{vs:List Value}{ns:List Int}
  (KX:K.In s₁.heap) (vI:s₁.heap.Ns mainGlobals mg) (hb:s₁.heap.Ns builtinsNs mb) (hbb:∀x:Str,x≠"__name__"->mb x=bootBuiltins x) (adT:s₁.heap.NoLimit) (hg:s₁.gens=#[])
  (ha:s₁.heap.get? a=some {cls:=.type "list",data:=.seq vs.toArray}) (hi:IntsAre vs ns) (hl:ns.length<=sizeLine) (hr:eK k callerA)
  (F:∀base:Heap,K.In base->base.Ns mainGlobals mg->aU P w K mg base CX k fa fd [x] sp) (Zf:∀(s:Shared) (u:Value),BindsTo s fd ⟨[u],[]⟩ [(x,u)])
  (QW:∀H:Hp,UC H->ba K H a (ns.map V.int)->sp [.ref a] H (λv _=>v=.bl true) λ_ _ _=>False)
  (hCX:∀H e s',CX [] H s₁ (λ_ _ _=>False) e s'->False) :
  codeAny (model P w) callerA (.call (.ref fa) ⟨[.ref a],[]⟩) (λr s'=>r=.ok (.ret (.bool true))/\OldK s₁.heap s'.heap/\s'.os=s₁.os/\AllBare s'.gens) s₁:=by
 have rv:=iJ hi;have adU:=hi.length;have core:∀H:Hp,UC H->ba K H a (ns.map V.int)->kT P w H s₁.heap->(∀b,H b≠none->b=a)->(H a≠none->K.lookup a=none) ->
   codeAny (model P w) callerA (.call (.ref fa) ⟨[.ref a],[]⟩) (λr s'=>r=.ok (.ret (.bool true))/\OldK s₁.heap s'.heap/\s'.os=s₁.os/\AllBare s'.gens) s₁:=by
  intro H hO hS bV hA hK;have F1:∀{b:Addr}{o:Obj},s₁.heap.get? b=some o->H b=none->(vx s₁.heap H).get? b=some o:=λe n=>IW e n
  have Y5:∀{b:Addr}{o:Obj}{es:Array DictEntry}{ep:Nat},s₁.heap.get? b=some o->o.data=.dict es ep->H b=none:=λ{b o es ep} e d=>by
   cases q:H b with
   | none=>rfl
   | some u=>
    have e':b=a:=hA b (by rw [q]; simp);subst e';rw [ha] at e; cases e
    have d':Data.seq vs.toArray _=Data.dict es ep:=d;cases d'
  have nsK:∀{b:Addr}{m:Str->Option Value},s₁.heap.Ns b m->(vx s₁.heap H).Ns b m:=λ{b m} ⟨o,es,ep,e,d,r⟩=>⟨o,es,ep,F1 e (Y5 e d),d,r⟩
  have hKb:K.In (vx s₁.heap H):=λb o e=>F1 (KX b o e) (by
   cases q:H b with
   | none=>rfl
   | some u=>
    have e':b=a:=hA b (by rw [q]; simp);subst e';rw [hK (by rw [q]; simp)] at e; cases e)
  have hM:Mod K mg (vx s₁.heap H):=⟨hKb,nsK vI,⟨mb,nsK hb,hbb⟩,let ⟨mc,h1,h2⟩:=adT; ⟨mc,nsK h1,h2⟩⟩
  have e0:DC P w K mg (vx s₁.heap H) callerA [] s₁ H:=⟨rfl,hM,λb o e=>O6 e,Nat.le_of_eq (Hl _ _),trivial,λb hb=>absurd (show b∈([]:List Addr) from hb) (by simp),bV,.of_eq hg⟩
  refine codeAny_mono ((F _ hKb (nsK vI)).run callerA [] s₁ H ⟨[.ref a],[]⟩ [.ref a] [.ref a] _ _ hr e0 (Zf s₁ (.ref a)) (.cons rfl .nil) (QW H hO hS)) λr s' h=>?_
  cases r with
  | error e=>exact(hCX H e s' h).elim
  | ok fl=>
   cases fl with
   | next=>exact False.elim h
   | brk=>exact False.elim h
   | cont=>exact False.elim h
   | ret u=>
    obtain⟨v,H',os,bare,un,adV,r',q⟩:=h;have q':v=.bl true:=q;subst q';obtain rfl:u=Value.bool true:=r';refine⟨rfl,OldK.of_keep λb o e=>?_,os,bare⟩
    cases q:H b with
    | none=>exact un.keep b o e q (by intro z; exact absurd (show b∈([]:List Addr) from z) (by simp)) (by simp)
    | some u=>
     rcases hO b with z | ⟨ob,xs,z⟩
     ·rw [q] at z; cases z
     ·have z2:=un.qh b ob _ z;obtain⟨e1,_⟩:=bV b _ z;obtain⟨e2,_⟩:=adV b _ z2;rw [e] at e1; cases e1
      exact e2
 cases hk:K.lookup a with
 | some o=>
  have e:=KX a o hk;rw [ha] at e;cases e;refine core (λ_=>none) (λ_=>.inl rfl) (.inr ⟨_,vs.toArray,_,hk,rfl,rfl,rfl,by rw [size_toArray,adU]; exact hl,by simpa using rv⟩) (λb u z=>by have z':(none:Option HO)=some u:=z; cases z') (λb z=>absurd rfl z) λz=>absurd rfl z
 | none=>
  refine core (λb=>if b=a then some (.fI {cls:=.type "list",data:=.seq vs.toArray} (.lst (ns.map V.int)))else none) (λb=>?_) (.inl (.inr ⟨{cls:=.type "list",data:=.seq vs.toArray},if_pos rfl⟩)) (λb u z=>?_) (λb z=>?_) λ_=>hk
  ·by_cases hb:b=a
   ·exact .inr ⟨_,_,if_pos hb⟩
   ·exact .inl (if_neg hb)
  ·by_cases hb:b=a
   ·have z':=(if_pos hb).symm.trans z;cases z';subst hb;exact⟨ha,by rw [length_map]; exact hl,vs,_,rv,ha⟩
   ·have z':=(if_neg hb).symm.trans z;cases z'
  ·by_cases hb:b=a
   ·exact hb
   ·exact absurd (if_neg hb) z
theorem Pn {l:PySem.W.OpenLaw}{n k:Nat}{q:Program}{loose:List Str}{XP:(Str->Option Value)->Heap->Prop}{YP:World->Heap->Prop}{d:DefRec}{K:Params->Frag}{CX:World->vF}{sp:World->Sp}{x:Str}
  (hn:l.most=some n) (hn2:n<=sizeLine) (QZ:d.params.defaults=[]) (hr:eK k callerA)
  (hY:∀(w:World) (h:Heap),YP w h->(K w.params).In h)
  (F:∀(w:World) (mg:Str->Option Value) (fa:Addr) (h:Heap),(K w.params).In h->h.Ns mainGlobals mg->mg d.name=some (.ref fa) ->
   ∃fd:FuncData,(∀(s:Shared) (u:Value),BindsTo s fd ⟨[u],[]⟩ [(x,u)]) /\
    ∀base:Heap,(K w.params).In base->base.Ns mainGlobals mg->aU l.prog w (K w.params) mg base (CX w) k fa fd [x] (sp w))
  (QW:∀(w:World) (H:Hp) (a:Addr) (ns:List Int),ns.length<=n->UC H->ba (K w.params) H a (ns.map V.int)->sp w [.ref a] H (λv _=>v=.bl true) λ_ _ _=>False)
  (hCX:∀(w:World) (H:Hp) (s:Shared) (e:Value) (s':Shared),CX w [] H s (λ_ _ _=>False) e s'->False) :
  PySem.W.WalkO q loose XP YP l.row.toRowW d [] (λf vs=>PySem.call f vs):=by
 refine Att.yD hn QZ λw s₀ s₁ mg mb fa o pm cd doc a vs ns G Y ho hd IY Ze UB hints hlen hg=>?_
 have KX:=hY w _ Y;obtain⟨fd,hb,hF⟩:=F w mg fa _ KX G.T.g Ze;exact JA KX G.T.g G.T.b G.T.builtins G.T.nolimit hg UB hints (Nat.le_trans hlen hn2) hr hF hb (λH hO hS=>QW w H a ns hlen hO hS) λH e s'=>hCX w H s₁ e s'
noncomputable def inClass (s:Stmt) (j:Nat):Stmt:=match s with
 | .ClassDef _ _ _ body _ _ _ _ _ _ _=>body.getD j (.Pass ⟨0,0,0,0⟩)
 | _=>.Pass ⟨0,0,0,0⟩
noncomputable def fM (s:Stmt):Arguments:=match s with
 | .FunctionDef _ a _ _ _ _ _ _ _ _=>a
 | _=>{posonlyargs:=[],args:=[],vararg:=none,kwonlyargs:=[],kw_defaults:=[],kwarg:=none,defaults:=[]}
noncomputable def d_ (s:Stmt):List Stmt:=match s with
 | .FunctionDef _ _ b _ _ _ _ _ _ _=>b
 | _=>[]
noncomputable def ar (s:Stmt):Scope:=match s with
 | .FunctionDef _ _ _ _ _ _ sc _ _ _=>sc
 | _=>{kind:=.function,names:=[],isGenerator:=false,isCoroutine:=false}
noncomputable abbrev cU:vF:=λ_ _ _ _ _ _=>False
noncomputable abbrev E0:XK:=λ_ _ _=>False
theorem aw {X:Cx}:Passes cU X E0:=λ_ _ _ _ _ _ _ h=>h.elim
structure cQ (K:Frag) (x qual:Str) (st:Stmt) (f:Addr) (fd:FuncData):Prop where
 ex:∃(oc:Value) (od:Option Addr) (kV doc pm:Value) (an:Option Addr) (bY ct:Value) (OY:Array (Option Value)),
  fd=fnOf x qual (fM st) (d_ st) (ar st) .none kV doc pm an bY ct/\K.lookup f=some ⟨oc,od,.func fd,OY⟩/\PySem.W.codeIn K bY qual=true
 kp:keepIn K (.ref f)=true
section
variable {P:Program}{w:World}{K:Frag}{mg:Str->Option Value}{base:Heap}
theorem cQ.ok {x qual:Str}{st:Stmt}{f:Addr}{fd:FuncData}{N ps:List Str}{k:Nat}{sp:Sp}(F:cQ K x qual st f fd) (S:aA N ps (ar st)) (len:∀vs H Q E,sp vs H Q E->vs.length=ps.length)
  (Jt:∀(bY:Value) (A:Around) (outer:List Env) (s:Shared) (H:Hp) (vs:List V) (Q:VK) (E:XK),eK k (A.deeper (envOfC qual (ar st) s.heap.objs.size f bY))->sp vs H Q E ->
   ∃t,yf (yx cU P w K mg base N qual (ar st) f bY A outer s H E).YO (d_ st) t/\t {nx:=λ_ H'=>Q .bN H',rt:=Q} (start N vs) H):aU P w K mg base cU (k+1) f fd ps sp:=by
 obtain⟨oc,od,kV,doc,pm,an,bY,ct,OY,rfl,lk,IY⟩:=F.ex;refine Y6 lk IY S len λA outer s H vs Q E hr QW=>?_
 obtain⟨t,h,q⟩:=Jt bY A outer s H vs Q E hr QW;exact⟨t,h.YO,q⟩
theorem cQ.binds {x qual:Str}{st:Stmt}{f:Addr}{fd:FuncData}{ps:List Str}(F:cQ K x qual st f fd)
  (h:∀(kV doc pm:Value) (an:Option Addr) (bY ct:Value) (us:List Value),us.length=ps.length->bindArgs (fnOf x qual (fM st) (d_ st) (ar st) .none kV doc pm an bY ct) ⟨us,[]⟩=pure (ps.zip us)):Binds K fd ps []:=by
 obtain⟨oc,od,kV,doc,pm,an,bY,ct,OY,rfl,lk,IY⟩:=F.ex;exact .all (h kV doc pm an bY ct)
theorem JB {x qual:Str}{st:Stmt}{f:Addr}{oc:Value}{od an:Option Addr}{OY:Array (Option Value)}{kV doc pm bY ct:Value}(l:K.lookup f=some ⟨oc,od,.func (fnOf x qual (fM st) (d_ st) (ar st) .none kV doc pm an bY ct),OY⟩)
  (c:PySem.W.codeIn K bY qual=true) (k:keepIn K (.ref f)=true):cQ K x qual st f (fnOf x qual (fM st) (d_ st) (ar st) .none kV doc pm an bY ct):=⟨⟨oc,od,kV,doc,pm,an,bY,ct,OY,rfl,l,c⟩,k⟩
end
theorem bB {A:Around}{k:Nat}(hr:eK k A):A.units+1 < cLine:=Nat.lt_of_le_of_lt (Nat.add_le_add_left (by decide:1<=64) _) hr.units
theorem aG {n:Nat}(h:n<=1000):n < sizeLine:=Nat.lt_of_le_of_lt h (by decide)
section
variable {X:Cx}
theorem pv (i:Nat) {x:Str}{pos:Pos}(hN:X.N[i]?=some x:=by rfl) (hv:YI X.env.scope x:=by first | exact Or.inl rfl | exact Or.inr (Or.inl rfl) | exact Or.inr (Or.inr rfl)) (hd:(x == ("__debug__":Str))=false:=by decide)
  (IY:(x == ("__classdict__":Str))=false:=by decide):PE X (.Name x pos) (Dr i):=Ue hN hv hd IY
end
theorem ee {A B:Prop}(h:B):if false=true then A else B:=by
 rw [if_neg Bool.false_ne_true];exact h
theorem jK {A B:Prop}(h:A):if true=true then A else B:=by
 rw [if_pos rfl];exact h
theorem bj {c A B:Prop} [Decidable c] (h1:c->A) (h2:¬c->B):if c then A else B:=by
 by_cases h:c
 ·rw [if_pos h];exact h1 h
 ·rw [if_neg h];exact h2 h
noncomputable def ak (H H':Hp):Prop:=∀b o,H b=some o->H' b=some o
theorem ak.refl (H:Hp):ak H H:=λ_ _ h=>h
theorem ak.trans {H H1 H2:Hp}(a:ak H H1) (b:ak H1 H2):ak H H2:=λc o h=>b c o (a c o h)
theorem ak.free {H H':Hp}(e:ak H H') {l:Addr}(h:H' l=Option.none):H l=Option.none:=by
 cases q:H l with
 | none=>rfl
 | some o=>
  rw [e l o q] at h;cases h
theorem ak.seq {K:Frag}{H H':Hp}{a:Addr}{xs:List V}(e:ak H H') (h:ba K H a xs):ba K H' a xs:=by
 rcases h with (h | ⟨o,h⟩) | h
 ·exact .inl (.inl (e _ _ h))
 ·exact .inl (.inr ⟨o,e _ _ h⟩)
 ·exact .inr h
theorem JC:bootBuiltins "abs"=some (.builtin "abs"):=by decide +kernel
theorem eE:bootBuiltins "len"=some (.builtin "len"):=by decide +kernel
theorem bG:bootBuiltins "isinstance"=some (.builtin "isinstance"):=by decide +kernel
theorem vJ:bootBuiltins "int"=some (.type "int"):=by decide +kernel
theorem F2:bootBuiltins "bool"=some (.type "bool"):=by decide +kernel
theorem kX:bootBuiltins "str"=some (.type "str"):=by decide +kernel
theorem ib:bootBuiltins "list"=some (.type "list"):=by decide +kernel
theorem yE:bootBuiltins "tuple"=some (.type "tuple"):=by decide +kernel
theorem mi:bootBuiltins "dict"=some (.type "dict"):=by decide +kernel
section
variable {X:Cx}{pos:Pos}
noncomputable def F3 (j:Int):Prop:=0 < j/\(j < 1073741824\/j.natAbs.log2 < 9000)
theorem F3.small {j:Int}(h:0 < j) (h2:j < 1073741824):F3 j:=⟨h,.inl h2⟩
theorem cY:kW X (binaryOp .FloorDiv) (rI (λ_ j=>F3 j) λi j=>.int (i / j)):=opI λi j _ _ _ _ _ hc q=>by
 have h1:(0:Int) < j:=hc.1;refine floordiv_int (by omega) (by rw [Int.fdiv_eq_ediv_of_nonneg i (by omega)]; exact q) (.inl ?_);rcases hc.2 with h2 | h2
 ·exact PyProof.noPylong_small (by omega)
 ·exact PyProof.noPylong_of_log2 h2
noncomputable def Q0 (K:Frag):R2:=λx y H Q=>∃l b xs zs,x=.ref l/\y=.ref b/\ba K H l xs/\ba K H b zs/\xs.length+zs.length<=sizeLine/\∀p,H p=none->Q (.ref p) (upd H p (.lst (xs++zs)))
theorem eS:kW X (binaryOp .Add) (Q0 X.K):=by
 intro pins s σ H x y v u Q I rx ry h;obtain⟨l,b,xs,zs,rfl,rfl,hH,hB,hz,q⟩:=h;cases rx;cases ry;obtain⟨bF,r,hl,z⟩:=I.list hH;obtain⟨cG,r2,fW,z2⟩:=I.list hB;obtain⟨⟨cls,dd,data,sl⟩,n,ho,hc,hdd,hd⟩:=hl;obtain⟨⟨agM,dd2,data2,sl2⟩,n2,OZ,JD,agN,hd2⟩:=fW;simp only at hc hd JD hd2;subst hc hd JD hd2;have l1:=r.length;have l2:=r2.length;have ea:bF.toArray++cG.toArray=(bF++cG).toArray:=by simp
 refine concat_meets ⟨_,ho,rfl⟩ ⟨_,OZ,rfl⟩ noFill_list_add seq_list_add PySem.F.slot_list_add PySem.F.entry_list_add (PySem.F.args_list_add_2 _ _) (list_addW l b bF.toArray cG.toArray n n2 dd dd2 sl sl2 (by rw [size_toArray,size_toArray]; omega)) ⟨ho,OZ,?_⟩;rw [ea];exact⟨.ref _,_,I.Pk (t':=s.toks) (r.append r2) (by rw [length_append]; omega),rfl,q _ I.fresh⟩
end
section
variable {X:Cx}
end
end L2
namespace L2
open PySem PySem.Spec PyProof.Rows
theorem UD (CX:vF) (P:Program) (w:World) (K:Frag) (mg:Str->Option Value) (base:Heap) (N:List Str) (qual:Str) (scope:Scope) (f:Addr) (cd:Value) (A:Around) (outer:List Env) (s:Shared) (H:Hp) (E:XK) :
  (yx CX P w K mg base N qual scope f cd A outer s H E).K=K:=rfl
theorem JE (K:Frag) (t:String):PySem.W.kitOne K (.type t) (.type t)=some true:=by
 unfold PySem.W.kitOne;rw [if_pos (by simp)]
theorem Po (K:Frag) {t u:String}{b:Bool}(e1:(Value.type t == Value.type u)=false) (e2:PySem.W.kitMeta u=true) (e3:(fastBuiltinMro t).map (·.contains (Value.type u))=some b):PySem.W.kitOne K (.type t) (.type u)=some b:=by
 unfold PySem.W.kitOne;rw [e1,if_neg Bool.false_ne_true];show(if PySem.W.kitMeta u=true then _ else _)=_;rw [if_pos e2];exact e3
theorem ak.put {H:Hp}{b:Addr}{o:HO}(h:H b=none):ak H (upd H b o):=λc u e=>by
 rw [au (aC e h)];exact e
theorem Pp (i j:Int):yr (.int i) (.int j)=true:=rfl
theorem Pq (i j:Bool):yr (.bl i) (.bl j)=true:=rfl
theorem Pt (i j:PySem.Str):yr (.str i) (.str j)=true:=rfl
theorem Pu (i:Int):yr (.int i) .bN=true:=rfl
theorem Pw (i:Int):yr .bN (.int i)=true:=rfl
noncomputable def cS (X:Cx) (N:List Str) (scope:Scope) (cl:List (Str×Addr)) (C:Addr) (s:Shared) (H:Hp) (fp:List Addr):Cx:=
 {X with N:=N,s₀:=s,H₀:=H,env:=compEnvC scope cl C X.env,outer:=X.stack,stack:=X.stack,ex:=fp,fn:=λ_=>false,pn:=[],xe:=λ_ _=>False}
noncomputable def bA (fr:List Nat) (σ:St) (v:Option V):St:=v::fr.map λj=>(σ[j]?).join
structure DH (X:Cx) (x:Str) (ns:List Str) (fr:List Nat) (scope:Scope) (cl:List (Str×Addr)):Prop where
 qm:closureFor scope X.env=pure cl
 iY:∀y∈scope.names,y.2≠.cell
 kind:scope.kind=.function
 own:∀y∈scope.names,y.2=.local->scope.names.lookup y.1=some .local
 var:scope.names.lookup x=some .local
 sub:∀z c,cl.lookup z=some c->X.env.cells.lookup z=some c
 has:∀z,((relabel scope X.env).names.lookup z=some .cell\/(relabel scope X.env).names.lookup z=some .free)->∃c,cl.lookup z=some c
 len:ns.length=fr.length
 yF:∀(k:Nat) z j,ns[k]?=some z->fr[k]?=some j->X.N[j]?=some z/\X.env.scope.names.lookup z=some .cell/\((relabel scope X.env).names.lookup z=some .cell\/(relabel scope X.env).names.lookup z=some .free)
 nd:(x::ns).Nodup
inductive sS (P:Expr->TT->Prop):List Expr->TT->Prop where
 | nil:sS P [] λ_ H Q=>Q true H
 | one {c:Expr}{t:TT}(h:P c t):sS P [c] t
noncomputable def iy (J:It) (fr:List Nat) (tt:TT) (te:TE) (σ:St) (D:Addr) (Q:Hp->Prop) (H:Hp):Prop:=
 ∃W:Nat->Nat->Hp->Prop,(∃m,W 0 m H)/\∀i m H2,W i m H2->(J.stop i H2/\Q H2)\/(J.go i H2/\∀v H',J.Ul i H2 v H'->tt (bA fr σ (some v)) H' λb H3=>
  if b=true then te (bA fr σ (some v)) H3 λy H4=>∃ys,H4 D=some (.lst ys)/\ys.length < sizeLine/\∃m',m' < m/\W (i+1) m' (upd H4 D (.lst (ys++[y])))else ∃m',m' < m/\W (i+1) m' H3)
theorem yG {A B:Prop}(h:if true=true then A else B):A:=by
 rw [if_pos rfl] at h;exact h
section
variable {X:Cx}{pins:List (Addr×Obj)}{σ:St}{H:Hp}{s:Shared}{x:Str}{ns:List Str}{fr:List Nat}{scope:Scope}{cl:List (Str×Addr)}{fp:List Addr}
theorem Q1 (I:Inv X pins σ H s) (L:DH X x ns fr scope cl) (hf:∀b∈fp,iH X pins H b) (ho:∀b∈fp,b < s.heap.objs.size):(cS X (x::ns) scope cl s.heap.objs.size s H fp).Ok where
 mod:=I.ok.mod
 kind:=L.kind
 glob:=I.ok.glob
 blt:=I.ok.blt
 above:=Nat.le_refl _
 inj:=λa b c h1 h2=>I.ok.inj a b c (L.sub a c h1) (L.sub b c h2)
 has:=λz h=>L.has z h
 Ub:=λ_ _ h=>nomatch h
 hd:=I.ok.hd
 frames:=I.ok.frames
 Ya:=.inl rfl
 QI:=λb hb=>⟨Nat.ne_of_lt (ho b hb),λz c h=>(hf b hb).2.2.2.2.1 z c (L.sub z c h)⟩
 bs:=I.bs
 Hm:=Nat.le_trans I.ok.Hm I.sz
 yl:=λb o e hb=>by
  rcases (hf b hb).2.2.2.1 with h | h
  ·exact I.ok.yl b o e h
  ·exact absurd (Nat.lt_of_lt_of_le (lt_size e) (Nat.le_trans I.ok.Hm h)) (Nat.lt_irrefl _)
 ym:=λb hb hs=>by
  rcases mem_cons.mp (I.vy b hs)with h | h
  ·exact(hf b hb).2.1 h
  ·exact(hf b hb).2.2.1 h
 lW:=I.stack
 O8:=I.vz
theorem Px {fr:List Nat}{σ:St}{v:Option V}{k:Nat}{u:V}(h:(bA fr σ v)[k+1]?=some (some u)):∃j,fr[k]?=some j/\σ[j]?=some (some u):=by
 unfold bA at h;rw [List.getElem?_cons_succ,getElem?_map] at h
 cases e:fr[k]? with
 | none=>rw [e] at h; cases h
 | some j=>
  rw [e] at h;refine⟨j,rfl,?_⟩
  cases e2:σ[j]? with
  | none=>simp [e2] at h
  | some o=>simp [e2] at h; rw [h]
theorem JF {h':Heap}{t':Nat}(I:Inv X pins σ H s) (L:DH X x ns fr scope cl) (hf:∀b∈fp,iH X pins H b) (ho:∀b∈fp,b < s.heap.objs.size)
  (hn:h'.Ns s.heap.objs.size λ_=>none) (hk:∀b o,s.heap.get? b=some o->h'.get? b=some o) :
  Inv (cS X (x::ns) scope cl s.heap.objs.size s H fp) [] (bA fr σ none) H {s with heap:=h',toks:=t'} where
 ok:=Q1 I L hf ho
 os:=rfl
 bare:=I.bare
 base:=Un.kept hk
 loc:=by
  refine⟨_,hn,λi z v e1 e2 e3=>?_⟩
  cases i with
  | zero=>cases e2
  | succ k=>
   have Zg:ns[k]?=some z:=e1;obtain⟨j,ej,ev⟩:=Px e2;obtain⟨hN,hc,hy⟩:=L.yF k z j Zg ej;obtain⟨m,hm,hl⟩:=I.loc;obtain⟨u,r,l⟩:=hl j z v hN ev (.inr (.inl hc));refine⟨u,r,.inr ⟨hy,?_⟩⟩;rcases l with ⟨l,_⟩ | ⟨_,c,UE,⟨o,OZ,hd⟩⟩
   ·have:X.env.scope.names.lookup z=some .local:=l;rw [hc] at this;cases this
   ·obtain⟨c',QL⟩:=L.has z hy;have e:=L.sub z c' QL;rw [UE] at e;cases e;exact⟨c,QL,o,hk c o OZ,hd⟩
 cell:=λz c e=>by
  obtain⟨v,o,OZ,hd⟩:=I.cell z c (L.sub z c e);exact⟨v,o,hk c o OZ,hd⟩
 free:=I.fresh
 gi:=λz c e=>I.gi z c (L.sub z c e)
 pin:=λp hp=>nomatch hp
 bV:=I.bV.kept hk
 len:=by
  show(bA fr σ none).length=(x::ns).length;unfold bA;rw [length_cons,length_map,length_cons,L.len]
theorem JG {elt iter:Expr}{px:Pos}{ifs:List Expr}{pos:Pos}{J:It}{it D:Addr}{tn:Nat->Heap->Prop}{tt:TT}{te:TE}{Qe:Hp->Prop}{R:Result->Shared->Prop}{s4:Shared}
  (hc:X.calm=true) (L:DH X x ns fr scope cl) (T:Turn X.prog X.w X.K (.Name x px) J fp it tn) (hf:∀b∈fp,iH X pins H b) (ho:∀b∈fp,b < s.heap.objs.size) (I:Inv X pins σ H s)
  (hE:PE (cS X (x::ns) scope cl s.heap.objs.size s H fp) elt te) (hT:sS (PT (cS X (x::ns) scope cl s.heap.objs.size s H fp)) ifs tt) (hw:iy J fr tt te σ D Qe H)
  (I4:Inv (cS X (x::ns) scope cl s.heap.objs.size s H fp) [] (bA fr σ none) H s4) (Zh:tn 0 s4.heap)
  (hR:∀(s':Shared) (H':Hp) (v:Option V),Inv (cS X (x::ns) scope cl s.heap.objs.size s H fp) [] (bA fr σ v) H' s'->Qe H'->R (.ok .next) s') :
  codeAny (model X.prog X.w) X.A (.compStart (.ListComp elt [⟨.Name x px,iter,ifs,0⟩] scope pos) 0 (.ref it) (.ref D) (compEnvC scope cl s.heap.objs.size X.env)) R s4:=by
 obtain⟨W,⟨m0,w0⟩,turn⟩:=hw;have UG:=Q1 I L hf ho;have Q2:Loc (cS X (x::ns) scope cl s.heap.objs.size s H fp).env.scope x:=.inl (lookup_relabel_local L.var);have qj:∀{H':Hp},(∀b∈fp,H' b=none)->∀b∈fp,iH (cS X (x::ns) scope cl s.heap.objs.size s H fp) [] H' b:=λhn b hb=>
  ⟨hn b hb,(UG.QI b hb).1,UG.ym b hb,.inl hb,(UG.QI b hb).2,λp hp=>nomatch hp⟩
 have fr0:∀b∈fp,H b=none:=λb hb=>(hf b hb).1
 have loop:codeAny (model X.prog X.w) X.A (.compLoop (.ListComp elt [⟨.Name x px,iter,ifs,0⟩] scope pos) 0 (.ref it) (.ref D) (compEnvC scope cl s.heap.objs.size X.env)) R s4:=by
  refine codeAny_loop rfl (λn s'=>∃i v H',Inv (cS X (x::ns) scope cl s.heap.objs.size s H fp) [] (bA fr σ v) H' s'/\tn i s'.heap/\(∀b∈fp,H' b=none)/\W i n H') (λn s3 hI=>?_) m0 ⟨0,none,H,I4,Zh,fr0,w0⟩;obtain⟨i,v0,H3,I3,QT,Jh,w3⟩:=hI;show wpAny _ X.A ((compTurn (.ListComp elt [⟨.Name x px,iter,ifs,0⟩] scope pos) 0 (.ref it) (.ref D) (compEnvC scope cl s.heap.objs.size X.env)).onRaise (λy=>do noteFrame y (compEnvC scope cl s.heap.objs.size X.env); theTreesLotGoes y)) _ _ s3;refine wpAny_noted ?_;rw [compTurn_list];have low:∀{α:Type}{t:Sem α}{Q Q':α->Shared->Prop}{E:Value->Shared->Prop}{s5:Shared},wpAny (model X.prog X.w) X.A t Q (λ_ _=>False) s5->(∀a s6,Q a s6->Q' a s6)->wpAny (model X.prog X.w) X.A t Q' E s5:=
   λh hq=>wpAny_mono h hq λ_ _ z=>z.elim
  rcases turn i n H3 w3 with ⟨stop,q⟩ | ⟨go,step⟩
  ·refine wpAny_bind (wpAny_standAt (wpAny_bind (low (T.done (cS X (x::ns) scope cl s.heap.objs.size s H fp) rfl rfl rfl hc i [] s3 _ H3 (λ_ _=>False) I3 (qj Jh) QT stop) λr s5 hr=>?_)));obtain⟨hr,I5⟩:=hr;subst hr;exact wpAny_pure (hR s5 H3 v0 I5 q)
  ·refine wpAny_bind (wpAny_standAt (wpAny_bind (low (T.item (cS X (x::ns) scope cl s.heap.objs.size s H fp) rfl rfl rfl hc i [] s3 _ H3 (λ_ _=>False) I3 (qj Jh) QT go) λr s5 hr=>?_)));obtain⟨u,hr,h5⟩:=hr;subst hr;refine wpAny_bind (low h5 λ_ s6 h6=>?_);obtain⟨y,H6,I6,r6,y6,UH,fr6⟩:=h6;have I6':=I6.pinned (qj fr6) (T.obj _ _ UH);have hg:PG (cS X (x::ns) scope cl s.heap.objs.size s H fp) (.Name x px) (lY 0):=a_ (i:=0) L.nd rfl Q2 (.inr (lookup_relabel_local L.var));refine wpAny_bind (low (hg _ s6 _ H6 y u (λσ' H'=>σ'=bA fr σ (some y)/\H'=H6) I6' r6 ⟨rfl,rfl⟩) λ_ s7 h7=>?_);obtain⟨σ7,H7,I7,e7,e7'⟩:=h7;subst e7 e7';have back:∀{H8:Hp}{s8:Shared},Inv (cS X (x::ns) scope cl s.heap.objs.size s H fp) ([]++jG fp s6.heap) (bA fr σ (some y)) H8 s8->(∃m',m' < n/\W (i+1) m' H8) ->
     ∃m,m < n/\∃i v H',Inv (cS X (x::ns) scope cl s.heap.objs.size s H fp) [] (bA fr σ v) H' s8/\tn i s8.heap/\(∀b∈fp,H' b=none)/\W i m H':=λ{H8 s8} I8 hm=>by
    obtain⟨m',hm,w8⟩:=hm;refine⟨m',hm,i+1,some y,H8,I8.gS,T.keep _ _ _ UH λb hb o e=>(I8.pin (b,o) (mem_append_right _ (mem_append_right _ (gb hb e)))).1,λb hb=>?_,w8⟩;obtain⟨o,e,d⟩:=T.obj _ _ UH b hb;exact(I8.pin (b,o) (mem_append_right _ (mem_append_right _ (gb hb e)))).2.1
   have yH:=step y _ y6;have emit:∀{H8:Hp}{s8:Shared},Inv (cS X (x::ns) scope cl s.heap.objs.size s H fp) ([]++jG fp s6.heap) (bA fr σ (some y)) H8 s8 ->
     te (bA fr σ (some y)) H8 (λy H4=>∃ys,H4 D=some (.lst ys)/\ys.length < sizeLine/\∃m',m' < n/\W (i+1) m' (upd H4 D (.lst (ys++[y])))) ->
     wpAny (model X.prog X.w) X.A (do let _ <-call (.builtin "list.append") [.ref D,<-eval elt (compEnvC scope cl s.heap.objs.size X.env)]) (λ_ s9=>∃m,m < n/\∃i v H',Inv (cS X (x::ns) scope cl s.heap.objs.size s H fp) [] (bA fr σ v) H' s9/\tn i s9.heap/\(∀b∈fp,H' b=none)/\W i m H') (λ_ _=>False) s8:=λ{H8 s8} I8 h8=>by
    refine wpAny_bind (ck (hE _ s8 _ H8 _ I8 h8) λv9 s9 h9=>?_);obtain⟨z,H9,I9,r9,ys,hD,hlen,hm⟩:=h9;refine wpAny_bind (ck (fc (X:=cS X (x::ns) scope cl s.heap.objs.size s H fp) _ s9 _ H9 (.ref D) [z] (.ref D) [v9] (λ_ H'=>∃m',m' < n/\W (i+1) m' H') I9 rfl (.cons r9 .nil) ⟨D,ys,z,rfl,rfl,hD,hlen,hm⟩) λv10 Dh h10=>?_);obtain⟨_,UI,I10,_,UJ⟩:=h10;exact wpAny_pure (back I10 UJ)
   cases hT with
   | nil=>
    refine wpAny_bind (wpAny_tests_nil ?_);refine wpAny_bind (low (emit I7 (yG yH)) λ_ s9 h9=>wpAny_pure ⟨rfl,h9⟩)
   | one hP=>
    refine wpAny_bind (wpAny_tests_one (low (hP _ s7 _ _ _ I7 yH) λb s8 h8=>?_));obtain⟨H8,I8,q8⟩:=h8
    cases b with
    | false=>
     have q9:∃m',m' < n/\W (i+1) m' H8:=q8;exact wpAny_pure ⟨rfl,back I8 q9⟩
    | true=>
     exact wpAny_bind (low (emit I8 q8) λ_ s9 h9=>wpAny_pure ⟨rfl,h9⟩)
 exact codeAny_compStart_list loop (T.self X.A 0 _ _ _ Zh loop)
theorem JH {s':Shared}{H':Hp}{σ':St}(I:Inv X pins σ H s) (hf:∀b∈fp,iH X pins H b) (I':Inv (cS X (x::ns) scope cl s.heap.objs.size s H fp) [] σ' H' s'):Inv X pins σ H' s':=
 I.QM (ch:=fp) I'.os I'.base I'.bV I'.bare λb hb=>⟨(hf b hb).2.2.2.1,(hf b hb).2.1,(hf b hb).2.2.2.2.1,(hf b hb).2.2.2.2.2⟩
theorem JI {elt iter:Expr}{px:Pos}{ifs:List Expr}{pos:Pos}{J:It}{it:Addr}{tn:Nat->Heap->Prop}{tt:TT}{te:TE}{Qe:Addr->Hp->Prop}{R:Value->Addr->Result->Shared->Prop}{E:Value->Shared->Prop}
  (hc:X.calm=true) (L:DH X x ns fr scope cl) (T:Turn X.prog X.w X.K (.Name x px) J fp it tn) (hf:∀b∈fp,iH X pins H b) (I:Inv X pins σ H s) (st:tn 0 s.heap)
  (hE:∀C s H,PE (cS X (x::ns) scope cl C s H fp) elt te) (hT:∀C s H,sS (PT (cS X (x::ns) scope cl C s H fp)) ifs tt) (hw:∀D,H D=none->iy J fr tt te σ D (Qe D) (upd H D (.lst [])))
  (hR:∀(D C:Addr) (s':Shared) (H':Hp),Inv X pins σ H' s'->Qe D H'->(∃m o,s'.heap.get? C=some o/\(∀v,o.data≠.cell v)/\∀h':Heap,h'.get? C=some o->h'.Ns C m)->H' C=none->C≠X.env.locals->C∉X.fs->X.s₀.heap.objs.size<=C ->
   (∀z c,X.env.cells.lookup z=some c->c≠C)->(∀p∈X.pn++pins,p.1≠C)->R (.ref D) C (.ok .next) s') :
  wpAny (model X.prog X.w) X.A (newList []) (λacc s₃=>wpAny (model X.prog X.w) X.A (newFunctionEnv scope X.env.globals cl [] X.env.qual none .none (some X.env)) (λJJ s₄=>
   codeAny (model X.prog X.w) X.A (.compStart (.ListComp elt [⟨.Name x px,iter,ifs,0⟩] scope pos) 0 (.ref it) acc {JJ with scope:=relabel scope X.env}) (R acc JJ.locals) s₄) E s₃) E s:=by
 have ho:∀b∈fp,b < s.heap.objs.size:=λb hb=>by
  obtain⟨o,e,_⟩:=T.obj _ _ st b hb;exact lt_size e
 have I3:Inv X pins σ (upd H s.heap.objs.size (.lst [])) {s with heap:=s.heap.push {cls:=.type "list",dict:=none,data:=.seq ([]:List Value).toArray}}:=I.Pk (t':=s.toks) (.nil) (Nat.zero_le _);refine wpAny_newObj_type (wpAny_newFunctionEnv L.iY (by intro y hy; simp at hy) (λh1 vI vK=>?_) L.kind);dsimp only at vI vK ⊢;generalize Py:({s with heap:=s.heap.push {cls:=.type "list",dict:=none,data:=.seq ([]:List Value).toArray}}:Shared)=s3 at I3;have eh:s.heap.push {cls:=.type "list",dict:=none,data:=.seq ([]:List Value).toArray}=s3.heap:=by rw [<-Py]
 rw [eh] at vI vK ⊢;have hz:s3.heap.objs.size=s.heap.objs.size+1:=by rw [<-eh,Heap.size_push]
 have hk:∀b o,s3.heap.get? b=some o->h1.get? b=some o:=λb o e=>vK.extBut b o (Nat.ne_of_lt (lt_size e)) (get?_push_of_some _ e)
 have UK:∀b∈fp,iH X pins (upd H s.heap.objs.size (.lst [])) b:=λb hb=>⟨by rw [au (Nat.ne_of_lt (ho b hb))]; exact(hf b hb).1,(hf b hb).2⟩
 have Zi:∀b∈fp,b < s3.heap.objs.size:=λb hb=>by rw [hz]; exact Nat.lt_succ_of_lt (ho b hb)
 have es:∀tk,({s with heap:=h1,toks:=tk}:Shared)={s3 with heap:=h1,toks:=tk}:=λtk=>by rw [<-Py]
 rw [es];have I4:=JF (t':=s.toks+([]:List (Str×Value)).length) I3 L UK Zi vI hk;refine JG hc L T UK Zi I3 (hE _ _ _) (hT _ _ _) (hw _ I.fresh) I4 ?_ λs' H' v I' q=>?_
 ·refine T.keep _ _ _ st λb hb o e=>hk b o ?_
  rw [<-eh];exact get?_push_of_some _ e
 ·have IX:=JH I3 UK I';obtain⟨m,⟨o,vA,ep,Dg,yn,Zj⟩,_⟩:=I'.loc;refine hR _ _ s' H' IX q ⟨m,o,Dg,λv z=>?_,λh' e=>⟨o,vA,ep,e,yn,Zj⟩⟩ I'.free (Nat.ne_of_gt I3.lt) (I3.Uc (Nat.le_refl _)) I3.sz (λz c e=>?_) λp hp=>?_
  ·rw [yn] at z;cases z
  ·obtain⟨v,o2,e2,_⟩:=I3.cell z c e;exact Nat.ne_of_lt (lt_size e2)
  ·exact Nat.ne_of_lt (lt_size (I3.pin p hp).1)
noncomputable def tLc (wi:TI) (fr:List Nat) (tt:TT) (te:TE):TE:=λσ H Q=>wi σ H λJ H1=>∀D,H1 D=none->iy J fr tt te σ D (λH2=>Q (.ref D) H2) (upd H1 D (.lst []))
theorem oI {elt iter:Expr}{px pos:Pos}{ifs:List Expr}{wi:TI}{tt:TT}{te:TE}(hc:X.calm=true) (L:DH X x ns fr scope cl) (hi:PI X (.Name x px) iter wi)
  (hE:∀C s H fp,PE (cS X (x::ns) scope cl C s H fp) elt te) (hT:∀C s H fp,sS (PT (cS X (x::ns) scope cl C s H fp)) ifs tt)
  (hs:∀v,foldedSetIterable iter X.env v=pure v:=by intro _; rfl):PE X (.ListComp elt [⟨.Name x px,iter,ifs,0⟩] scope pos) (tLc wi fr tt te):=by
 intro pins s σ H Q I h;rw [eval_ListComp];refine wpAny_comprehension_free (use:=none) rfl hs L.qm L.kind L.own (ck (hi pins s σ H _ I h) λv s1 h1=>ck h1 λYb s2 h2=>?_);obtain⟨it,fp,tn,J,H2,e,I2,T,Pa,f2,q⟩:=h2;subst e;refine JI (R:=λacc C=>compPost (model X.prog X.w) X.A X.xe none (EP X pins σ Q) acc C) hc L T f2 I2 Pa (λC s H=>hE C s H fp) (λC s H=>hT C s H fp) q ?_;intro D C s' H' I' q' vI hn hl Zk hz jn DI;obtain⟨m,o,e,hd,hk⟩:=vI;refine⟨m,hk _ e,λh' vK=>?_⟩;exact⟨.ref D,H',I'.turned (t':=s'.toks) (λb o hb e=>vK.extBut b o hb e) hn hl (.inr hz) jn DI,rfl,q'⟩
theorem Zl {elt iter:Expr}{y:Str}{j:Nat}{px py pos JK:Pos}{ifs:List Expr}{wi:TI}{tt:TT}{te:TE}(hc:X.calm=true) (hN:X.N.Nodup) (hj:X.N[j]?=some y) (hy:X.env.scope.names.lookup y=some .local) (L:DH X x ns fr scope cl) (hi:PI X (.Name x px) iter wi)
  (hE:∀C s H fp,PE (cS X (x::ns) scope cl C s H fp) elt te) (hT:∀C s H fp,sS (PT (cS X (x::ns) scope cl C s H fp)) ifs tt)
  (hsw:swapsWith (.ListComp elt [⟨.Name x px,iter,ifs,0⟩] scope pos) (some (.Name y py)) JK.line X.env=pure true:=by rfl)
  (hs:∀v,foldedSetIterable iter X.env v=pure v:=by intro _; rfl):PS X (.Assign [.Name y py] (.ListComp elt [⟨.Name x px,iter,ifs,0⟩] scope pos) JK) (Ja (tLc wi fr tt te) (lY j)):=by
 intro pins s σ H Dn I h;rw [exec_Assign_Name_used _ _ _ _ hsw];refine wpAny_bind (wpAny_standAt (wpAny_bind ?_));show wpAny _ X.A (do let _ <-comprehension (.ListComp elt [⟨.Name x px,iter,ifs,0⟩] scope pos) scope X.env _ (newList []) false (eval iter X.env) (some (assign (.Name y py) X.env))) _ _ s;refine wpAny_bind (ck (wpAny_comprehension_free (use:=some (assign (.Name y py) X.env)) (Q:=λ_ s'=>SP X pins Dn .next s') rfl hs L.qm L.kind L.own (ck (hi pins s σ H _ I h) λv s1 h1=>ck h1 λYb s2 h2=>?_)) λ_ s' q=>wpAny_pure (wpAny_pure q));obtain⟨it,fp,tn,J,H2,e,I2,T,Pa,f2,q⟩:=h2;subst e;refine JI (R:=λacc C=>compPost (model X.prog X.w) X.A X.xe (some (assign (.Name y py) X.env)) (λ_ s'=>SP X pins Dn .next s') acc C) hc L T f2 I2 Pa (λC s H=>hE C s H fp) (λC s H=>hT C s H fp) q ?_;intro D C s' H' I' q' vI hn hl Zk hz jn DI;obtain⟨m,o,e,hd,hk⟩:=vI;have I'':Inv X (pins++[(C,o)]) σ H' s':=I'.pX λp hp=>by
  rcases mem_append.mp hp with h | h
  ·exact I'.pin p (mem_append_right _ h)
  ·have ep:p=(C,o):=by simpa using h
   subst ep;exact⟨e,hn,hl,Zk,hd⟩
 refine wpAny_assign_Name (jD I'' hN hj (.inl hy) (show RelV (.ref D) (.ref D) from rfl) (λs2 I2=>?_) (.inr hy));obtain⟨e2,n2,_⟩:=I2.pin (C,o) (mem_append_right _ (mem_append_right _ (mem_singleton.mpr rfl)));refine⟨m,hk _ e2,λh' vK=>?_⟩;exact⟨σ.set j (some (.ref D)),H',I2.gS.turned (t':=s2.toks) (λb o hb e=>vK.extBut b o hb e) hn hl (.inr hz) jn DI,q'⟩
end
section
variable {X:Cx}{x:Str}{ns:List Str}{fr:List Nat}{scope:Scope}{cl:List (Str×Addr)}
theorem qo {α:Type}{z:Str}{c:α}:∀{l:List (Str×α)},l.lookup z=some c->(z,c)∈l
 | [],h=>by simp at h
 | (y,d)::l,h=>by
  rw [List.lookup_cons] at h
  cases e:z == y with
  | true=>
   rw [e] at h;have e2:z=y:=by simpa using e
   cases h;rw [e2];exact mem_cons_self
  | false=>
   rw [e] at h;exact mem_cons_of_mem _ (qo h)
theorem vL (qm:closureFor scope X.env=pure cl) (iY:scope.names.all (λy=>y.2 != .cell)=true) (kind:scope.kind=.function)
  (own:scope.names.all (λy=>y.2 != .local || scope.names.lookup y.1 == some .local)=true) (var:scope.names.lookup x=some .local) (sub:∀p∈cl,X.env.cells.lookup p.1=some p.2)
  (has:(relabel scope X.env).names.all (λy=>!(y.2 == .cell || y.2 == .free) || (cl.lookup y.1).isSome)=true) (len:ns.length=fr.length)
  (fr_:∀p∈ns.zip fr,X.N[p.2]?=some p.1/\X.env.scope.names.lookup p.1=some .cell/\((relabel scope X.env).names.lookup p.1=some .cell\/(relabel scope X.env).names.lookup p.1=some .free)) (nd:(x::ns).Nodup):DH X x ns fr scope cl where
 qm:=qm
 iY:=λy hy=>by simpa using List.all_eq_true.mp iY y hy
 kind:=kind
 own:=λy hy h=>by
  have:=List.all_eq_true.mp own y hy;rw [h] at this;simpa using this
 var:=var
 sub:=λz c h=>sub _ (qo h)
 has:=λz h=>by
  have k:∀t,(relabel scope X.env).names.lookup z=some t->(t=.cell\/t=.free)->∃c,cl.lookup z=some c:=λt ht hk=>by
   have:=List.all_eq_true.mp has _ (qo ht);rcases hk with rfl | rfl <;> simpa [Option.isSome_iff_exists] using this
  rcases h with h | h
  ·exact k _ h (.inl rfl)
  ·exact k _ h (.inr rfl)
 len:=len
 yF:=λk z j h1 h2=>fr_ (z,j) (mem_of_getElem? (i:=k) (by rw [List.getElem?_zip_eq_some]; exact⟨h1,h2⟩))
 nd:=nd
end
end L2
namespace L2
open PySem PySem.Spec PyProof.Rows
theorem mj {X:Cx}{K:Frag}(h:X.K=K):Yf X (pH K):=by
 subst h;exact aq
open AutoSeq1 (wpAny_loadPart')
section
variable {prog:Program}{w:World}{A:Around}{E:Value->Shared->Prop}{s:Shared}
end
section
variable {M:Model}{A:Around}{E:Value->Shared->Prop}{s:Shared}{env:Env}
end
section
variable {X:Cx}
end
inductive D where
 | bN | bl (b:Bool) | int (i:Int) | str (x:Str) | lst (ds:List D) | tup (ds:List D)
mutual
noncomputable def bI:D->D->Bool
 | .bN,.bN=>true
 | .bl a,.bl b=>a == b
 | .bl a,.int b=>(if a then 1 else 0) == b
 | .int a,.bl b=>a == (if b then 1 else 0)
 | .int a,.int b=>a == b
 | .str a,.str b=>a == b
 | .lst a,.lst b=>kY a b
 | .tup a,.tup b=>kY a b
 | _,_=>false
noncomputable def kY:List D->List D->Bool
 | [],[]=>true
 | a::x,b::y=>bI a b&&kY x y
 | _,_=>false
end
mutual
noncomputable def D.dep:D->Nat
 | .lst a=>fX a+1
 | .tup a=>fX a+1
 | _=>0
noncomputable def fX:List D->Nat
 | []=>0
 | a::x=>max a.dep (fX x)
end
mutual
theorem fN:∀d:D,bI d d=true
 | .bN=>by simp [bI]
 | .bl b=>by simp [bI]
 | .int i=>by simp [bI]
 | .str x=>by simp [bI]
 | .lst ds=>by rw [bI]; exact nC ds
 | .tup ds=>by rw [bI]; exact nC ds
theorem nC:∀ds:List D,kY ds ds=true
 | []=>by simp [kY]
 | d::ds=>by rw [kY,fN d,nC ds]; rfl
end
theorem iZ:∀{ds:List D}{i:Nat}{d:D},ds[i]?=some d->d.dep<=fX ds
 | [],_,_,h=>by simp at h
 | e::ds,0,d,h=>by
  simp at h;subst h;rw [fX];exact Nat.le_max_left _ _
 | e::ds,i+1,d,h=>by
  rw [fX];exact Nat.le_trans (iZ (i:=i) (by simpa using h)) (Nat.le_max_right _ _)
theorem gn:∀{ds es:List D},ds.length≠es.length->kY ds es=false
 | [],[],h=>absurd rfl h
 | [],_::_,_=>by simp [kY]
 | _::_,[],_=>by simp [kY]
 | d::ds,e::es,h=>by rw [kY,gn (by simpa using h),Bool.and_false]
theorem jL:∀{ds es:List D},ds.length=es.length->kY ds es=(List.range ds.length).all λj=>bI (ds.getD j .bN) (es.getD j .bN)
 | [],[],_=>by simp [kY]
 | [],_::_,h=>by simp at h
 | _::_,[],h=>by simp at h
 | d::ds,e::es,h=>by
  rw [kY,jL (by simpa using h),length_cons,List.range_succ_eq_map,List.all_cons,List.all_map];rfl
inductive gM (K:Frag) (H:Hp):V->D->Prop where
 | bN:gM K H .bN .bN
 | bl (b:Bool):gM K H (.bl b) (.bl b)
 | int (i:Int):gM K H (.int i) (.int i)
 | str (x:Str):gM K H (.str x) (.str x)
 | lst {a:Addr}{xs:List V}{ds:List D}(h:ba K H a xs) (hl:xs.length=ds.length) (hi:∀(i:Nat) (x:V) (d:D),xs[i]?=some x->ds[i]?=some d->gM K H x d):gM K H (.ref a) (.lst ds)
 | tup {a:Addr}{xs:List V}{ds:List D}(h:bX K H a xs) (hl:xs.length=ds.length) (hi:∀(i:Nat) (x:V) (d:D),xs[i]?=some x->ds[i]?=some d->gM K H x d):gM K H (.ref a) (.tup ds)
section
variable {X:Cx}{pins:List (Addr×Obj)}{s:Shared}{σ:St}{H:Hp}
theorem Inv.yI (I:Inv X pins σ H s) {a:Addr}{xs ys:List V}(h:ba X.K H a xs) (h':bX X.K H a ys):False:=by
 obtain⟨bF,_,p,_⟩:=I.list h;obtain⟨cG,_,q,_⟩:=I.tuple h';obtain⟨o,e,c,_⟩:=p.isList;obtain⟨o2,e2,c2,_⟩:=q;rw [e] at e2;cases e2;rw [c] at c2;injection c2 with h3
 exact absurd h3 (by decide)
theorem Q3 {xs:List V}{ds es:List D}(hl:xs.length=ds.length) (fW:xs.length=es.length) (h:∀(i:Nat) x d e,xs[i]?=some x->ds[i]?=some d->es[i]?=some e->d=e):ds=es:=by
 refine List.ext_getElem (by omega) λi h1 h2=>?_
 exact h i _ _ _ (getElem?_eq_getElem (by omega)) (getElem?_eq_getElem h1) (getElem?_eq_getElem h2)
theorem gM.one (I:Inv X pins σ H s) {x:V}{d:D}(h:gM X.K H x d):∀{e:D},gM X.K H x e->d=e:=by
 induction h with
 | bN=>intro e h; cases h; rfl
 | bl b=>intro e h; cases h; rfl
 | int b=>intro e h; cases h; rfl
 | str b=>intro e h; cases h; rfl
 | lst q hl hi ih=>
  intro e h
  cases h with
  | lst q2 fW JL=>
   cases I.yq q q2
   rw [Q3 hl fW λi x d e h1 h2 h3=>ih i x d h1 h2 (JL i x e h1 h3)]
  | tup q2 fW JL=>exact(I.yI q q2).elim
 | tup q hl hi ih=>
  intro e h
  cases h with
  | tup q2 fW JL=>
   cases I.tS q q2
   rw [Q3 hl fW λi x d e h1 h2 h3=>ih i x d h1 h2 (JL i x e h1 h3)]
  | lst q2 fW JL=>exact(I.yI q2 q).elim
theorem F4 {ds:List D}{i:Nat}(h:i < ds.length):ds[i]?=some (ds.getD i .bN):=by simp [List.getD,h]
theorem kr {xs ys:List V}{ds es:List D}{bF cG:List Value}{A:Around}(r1:Vals xs bF) (r2:Vals ys cG) (hl:xs.length=ds.length) (fW:ys.length=es.length)
  (ih:∀(i:Nat) x d,xs[i]?=some x->ds[i]?=some d->∀{y:V}{e:D}{u v:Value},gM X.K H y e->RelV x u->RelV y v->SeqAt.EqAt A s u v (bI d e)) (JL:∀(i:Nat) y e,ys[i]?=some y->es[i]?=some e->gM X.K H y e) :
  ∀j (h1:j < bF.toArray.size) (h2:j < cG.toArray.size),SeqAt.EqAt A s bF.toArray[j] cG.toArray[j] (bI (ds.getD j .bN) (es.getD j .bN)):=by
 intro j h1 h2;have l1:=r1.length;have l2:=r2.length;have j1:j < xs.length:=by simp at h1; omega
 have j2:j < ys.length:=by simp at h2; omega
 obtain⟨u1,e1,q1⟩:=r1.get (getElem?_eq_getElem j1);obtain⟨u2,e2,q2⟩:=r2.get (getElem?_eq_getElem j2);have i1:bF.toArray[j]=u1:=by
  obtain⟨_,e⟩:=List.getElem?_eq_some_iff.mp e1;simpa using e
 have i2:cG.toArray[j]=u2:=by
  obtain⟨_,e⟩:=List.getElem?_eq_some_iff.mp e2;simpa using e
 rw [i1,i2];exact ih j _ _ (getElem?_eq_getElem j1) (F4 (by omega)) (JL j _ _ (getElem?_eq_getElem j2) (F4 (by omega))) q1 q2
theorem JM {ds es:List D}:(((List.range (min ds.length es.length)).all λj=>bI (ds.getD j .bN) (es.getD j .bN))&&(ds.length == es.length))=kY ds es:=by
 by_cases h:ds.length=es.length
 ·rw [jL h,h];simp
 ·rw [gn h];have:(ds.length == es.length)=false:=by simpa using h
  rw [this,Bool.and_false]
theorem qp (I:Inv X pins σ H s) {x:V}{d:D}(h:gM X.K H x d):∀{A:Around},A.units+d.dep < cLine->∀{y:V}{e:D}{u v:Value},gM X.K H y e->RelV x u->RelV y v->SeqAt.EqAt A s u v (bI d e):=by
 induction h with
 | bN=>
  intro A hu y e u v h2 r1 r2;cases r1;have dB:A.units < cLine:=Nat.lt_of_le_of_lt (Nat.le_add_right _ _) hu
  cases h2 with
  | bN=>
   cases r2
   repeat' first | exact .same _ | nofun | rw [bI]
  | bl b2=>
   cases r2
   repeat' first | exact .none_bool b2 | nofun | rw [bI]
  | int b2=>
   obtain⟨t2,rfl⟩:=r2
   repeat' first | exact .none_int b2 t2 | nofun | rw [bI]
  | str b2=>
   obtain⟨t2,rfl⟩:=r2
   repeat' first | exact .none_str b2 t2 | nofun | rw [bI]
  | @lst a2 dF iK q2 l2 i2=>
   cases r2;obtain⟨cG,v2,p2,z2⟩:=I.list q2
   repeat' first | exact .none_list p2.isList dB | nofun | rw [bI]
  | @tup a2 dF iK q2 l2 i2=>
   cases r2;obtain⟨cG,v2,p2,z2⟩:=I.tuple q2
   repeat' first | exact .none_tuple p2 dB | nofun | rw [bI]
 | bl b1=>
  intro A hu y e u v h2 r1 r2;cases r1;have dB:A.units < cLine:=Nat.lt_of_le_of_lt (Nat.le_add_right _ _) hu
  cases h2 with
  | bN=>
   cases r2
   repeat' first | exact .bool_none b1 | nofun | rw [bI]
  | bl b2=>
   cases r2
   repeat' first | exact .bool_bool b1 b2 | nofun | rw [bI]
  | int b2=>
   obtain⟨t2,rfl⟩:=r2
   repeat' first | exact .bool_int b1 b2 t2 | nofun | rw [bI]
  | str b2=>
   obtain⟨t2,rfl⟩:=r2
   repeat' first | exact .bool_str b1 b2 t2 | nofun | rw [bI]
  | @lst a2 dF iK q2 l2 i2=>
   cases r2;obtain⟨cG,v2,p2,z2⟩:=I.list q2
   repeat' first | exact .bool_list b1 p2.isList dB | nofun | rw [bI]
  | @tup a2 dF iK q2 l2 i2=>
   cases r2;obtain⟨cG,v2,p2,z2⟩:=I.tuple q2
   repeat' first | exact .bool_tuple b1 p2 dB | nofun | rw [bI]
 | int b1=>
  intro A hu y e u v h2 r1 r2;obtain⟨t1,rfl⟩:=r1;have dB:A.units < cLine:=Nat.lt_of_le_of_lt (Nat.le_add_right _ _) hu
  cases h2 with
  | bN=>
   cases r2
   repeat' first | exact .int_none b1 t1 | nofun | rw [bI]
  | bl b2=>
   cases r2
   repeat' first | exact .int_bool b1 t1 b2 | nofun | rw [bI]
  | int b2=>
   obtain⟨t2,rfl⟩:=r2
   repeat' first | exact .int_int b1 t1 b2 t2 | nofun | rw [bI]
  | str b2=>
   obtain⟨t2,rfl⟩:=r2
   repeat' first | exact .int_str b1 t1 b2 t2 | nofun | rw [bI]
  | @lst a2 dF iK q2 l2 i2=>
   cases r2;obtain⟨cG,v2,p2,z2⟩:=I.list q2
   repeat' first | exact .int_list b1 t1 p2.isList dB | nofun | rw [bI]
  | @tup a2 dF iK q2 l2 i2=>
   cases r2;obtain⟨cG,v2,p2,z2⟩:=I.tuple q2
   repeat' first | exact .int_tuple b1 t1 p2 dB | nofun | rw [bI]
 | str b1=>
  intro A hu y e u v h2 r1 r2;obtain⟨t1,rfl⟩:=r1;have dB:A.units < cLine:=Nat.lt_of_le_of_lt (Nat.le_add_right _ _) hu
  cases h2 with
  | bN=>
   cases r2
   repeat' first | exact .str_none b1 t1 | nofun | rw [bI]
  | bl b2=>
   cases r2
   repeat' first | exact .str_bool b1 t1 b2 | nofun | rw [bI]
  | int b2=>
   obtain⟨t2,rfl⟩:=r2
   repeat' first | exact .str_int b1 t1 b2 t2 | nofun | rw [bI]
  | str b2=>
   obtain⟨t2,rfl⟩:=r2
   repeat' first | exact .str_str b1 t1 b2 t2 | nofun | rw [bI]
  | @lst a2 dF iK q2 l2 i2=>
   cases r2;obtain⟨cG,v2,p2,z2⟩:=I.list q2
   repeat' first | exact .str_list b1 t1 p2.isList dB | nofun | rw [bI]
  | @tup a2 dF iK q2 l2 i2=>
   cases r2;obtain⟨cG,v2,p2,z2⟩:=I.tuple q2
   repeat' first | exact .str_tuple b1 t1 p2 dB | nofun | rw [bI]
 | @lst a1 Zm qr q1 l1 i1 ih=>
  intro A hu y e u v h2 r1 r2;cases r1;have dB:A.units < cLine:=Nat.lt_of_le_of_lt (Nat.le_add_right _ _) hu;obtain⟨ml,v1,p1,z1⟩:=I.list q1;have n1:ml.toArray.size=qr.length:=by rw [size_toArray,<-v1.length,l1]
  have JN:∀(i:Nat) (d:D),qr[i]?=some d->A.in1.units+d.dep < cLine:=λi d h=>by
   have e1:=iZ h;have e2:A.units+(fX qr+1) < cLine:=by simpa only [D.dep] using hu
   show A.units+1+d.dep < cLine;omega
  cases h2 with
  | bN=>
   cases r2
   repeat' first | exact .list_none p1.isList dB | nofun | rw [bI]
  | bl b2=>
   cases r2
   repeat' first | exact .list_bool b2 p1.isList dB | nofun | rw [bI]
  | int b2=>
   obtain⟨t2,rfl⟩:=r2
   repeat' first | exact .list_int b2 t2 p1.isList dB | nofun | rw [bI]
  | str b2=>
   obtain⟨t2,rfl⟩:=r2
   repeat' first | exact .list_str b2 t2 p1.isList dB | nofun | rw [bI]
  | @lst a2 dF iK q2 l2 i2=>
   cases r2;obtain⟨cG,v2,p2,z2⟩:=I.list q2;have n2:cG.toArray.size=iK.length:=by rw [size_toArray,<-v2.length,l2]
   have it:=kr (X:=X) (A:=A.in1) v1 v2 l1 l2 (λi x d ha hb=>ih i x d ha hb (JN i d hb)) i2
   by_cases UL:a1=a2
   ·subst UL
    cases (gM.lst q1 l1 i1).one I (gM.lst q2 l2 i2)
    rw [fN];exact SeqAt.EqAt.same _
   refine SeqAt.EqAt.of_refs UL ?_;rw [bI]
   by_cases hlen:ml.toArray.size=cG.toArray.size
   ·rw [jL (by omega),<-n1];exact SeqAt.RcAt.lists p1.isList p2.isList hlen dB it
   ·rw [gn (by omega)];exact SeqAt.RcAt.lists_lengths p1.isList p2.isList (by simpa using hlen) dB
  | @tup a2 dF iK q2 l2 i2=>
   cases r2;obtain⟨cG,v2,p2,z2⟩:=I.tuple q2
   repeat' first | exact .list_tuple p1.isList p2 dB | nofun | rw [bI]
 | @tup a1 Zm qr q1 l1 i1 ih=>
  intro A hu y e u v h2 r1 r2;cases r1;have dB:A.units < cLine:=Nat.lt_of_le_of_lt (Nat.le_add_right _ _) hu;obtain⟨ml,v1,p1,z1⟩:=I.tuple q1;have n1:ml.toArray.size=qr.length:=by rw [size_toArray,<-v1.length,l1]
  have JN:∀(i:Nat) (d:D),qr[i]?=some d->A.in1.units+d.dep < cLine:=λi d h=>by
   have e1:=iZ h;have e2:A.units+(fX qr+1) < cLine:=by simpa only [D.dep] using hu
   show A.units+1+d.dep < cLine;omega
  cases h2 with
  | bN=>
   cases r2
   repeat' first | exact .tuple_none p1 dB | nofun | rw [bI]
  | bl b2=>
   cases r2
   repeat' first | exact .tuple_bool b2 p1 dB | nofun | rw [bI]
  | int b2=>
   obtain⟨t2,rfl⟩:=r2
   repeat' first | exact .tuple_int b2 t2 p1 dB | nofun | rw [bI]
  | str b2=>
   obtain⟨t2,rfl⟩:=r2
   repeat' first | exact .tuple_str b2 t2 p1 dB | nofun | rw [bI]
  | @lst a2 dF iK q2 l2 i2=>
   cases r2;obtain⟨cG,v2,p2,z2⟩:=I.list q2
   repeat' first | exact .tuple_list p1 p2.isList dB | nofun | rw [bI]
  | @tup a2 dF iK q2 l2 i2=>
   cases r2;obtain⟨cG,v2,p2,z2⟩:=I.tuple q2;have n2:cG.toArray.size=iK.length:=by rw [size_toArray,<-v2.length,l2]
   have it:=kr (X:=X) (A:=A.in1) v1 v2 l1 l2 (λi x d ha hb=>ih i x d ha hb (JN i d hb)) i2
   by_cases UL:a1=a2
   ·subst UL
    cases (gM.tup q1 l1 i1).one I (gM.tup q2 l2 i2)
    rw [fN];exact SeqAt.EqAt.same _
   refine SeqAt.EqAt.of_refs UL ?_;rw [bI];rw [<-JM,<-n1,<-n2];exact SeqAt.RcAt.tuples p1 p2 dB it
theorem UM (I:Inv X pins σ H s) {A:Around}{x y:V}{d e:D}{u v:Value}(h:gM X.K H x d) (h2:gM X.K H y e) (hu:A.units+d.dep < cLine) (r1:RelV x u) (r2:RelV y v):SeqAt.RcAt A s u v (bI d e):=by
 cases h with
 | bN=>
  cases r1;have dB:A.units < cLine:=Nat.lt_of_le_of_lt (Nat.le_add_right _ _) hu
  cases h2 with
  | bN=>
   cases r2
   repeat' first | exact SeqAt.RcAt.none_none | nofun | rw [bI]
  | bl b2=>
   cases r2
   repeat' first | exact SeqAt.RcAt.none_bool b2 | nofun | rw [bI]
  | int b2=>
   obtain⟨t2,rfl⟩:=r2
   repeat' first | exact SeqAt.RcAt.none_int b2 t2 | nofun | rw [bI]
  | str b2=>
   obtain⟨t2,rfl⟩:=r2
   repeat' first | exact SeqAt.RcAt.none_str b2 t2 | nofun | rw [bI]
  | @lst a2 dF iK q2 l2 i2=>
   cases r2;obtain⟨cG,v2,p2,z2⟩:=I.list q2
   repeat' first | exact SeqAt.RcAt.none_list p2.isList dB | nofun | rw [bI]
  | @tup a2 dF iK q2 l2 i2=>
   cases r2;obtain⟨cG,v2,p2,z2⟩:=I.tuple q2
   repeat' first | exact SeqAt.RcAt.none_tuple p2 dB | nofun | rw [bI]
 | bl b1=>
  cases r1;have dB:A.units < cLine:=Nat.lt_of_le_of_lt (Nat.le_add_right _ _) hu
  cases h2 with
  | bN=>
   cases r2
   repeat' first | exact SeqAt.RcAt.bool_none b1 | nofun | rw [bI]
  | bl b2=>
   cases r2
   repeat' first | exact SeqAt.RcAt.bool_bool b1 b2 | nofun | rw [bI]
  | int b2=>
   obtain⟨t2,rfl⟩:=r2
   repeat' first | exact SeqAt.RcAt.bool_int b1 b2 t2 | nofun | rw [bI]
  | str b2=>
   obtain⟨t2,rfl⟩:=r2
   repeat' first | exact SeqAt.RcAt.bool_str b1 b2 t2 | nofun | rw [bI]
  | @lst a2 dF iK q2 l2 i2=>
   cases r2;obtain⟨cG,v2,p2,z2⟩:=I.list q2
   repeat' first | exact SeqAt.RcAt.bool_list b1 p2.isList dB | nofun | rw [bI]
  | @tup a2 dF iK q2 l2 i2=>
   cases r2;obtain⟨cG,v2,p2,z2⟩:=I.tuple q2
   repeat' first | exact SeqAt.RcAt.bool_tuple b1 p2 dB | nofun | rw [bI]
 | int b1=>
  obtain⟨t1,rfl⟩:=r1;have dB:A.units < cLine:=Nat.lt_of_le_of_lt (Nat.le_add_right _ _) hu
  cases h2 with
  | bN=>
   cases r2
   repeat' first | exact SeqAt.RcAt.int_none b1 t1 | nofun | rw [bI]
  | bl b2=>
   cases r2
   repeat' first | exact SeqAt.RcAt.int_bool b1 t1 b2 | nofun | rw [bI]
  | int b2=>
   obtain⟨t2,rfl⟩:=r2
   repeat' first | exact SeqAt.RcAt.int_int b1 t1 b2 t2 | nofun | rw [bI]
  | str b2=>
   obtain⟨t2,rfl⟩:=r2
   repeat' first | exact SeqAt.RcAt.int_str b1 t1 b2 t2 | nofun | rw [bI]
  | @lst a2 dF iK q2 l2 i2=>
   cases r2;obtain⟨cG,v2,p2,z2⟩:=I.list q2
   repeat' first | exact SeqAt.RcAt.int_list b1 t1 p2.isList dB | nofun | rw [bI]
  | @tup a2 dF iK q2 l2 i2=>
   cases r2;obtain⟨cG,v2,p2,z2⟩:=I.tuple q2
   repeat' first | exact SeqAt.RcAt.int_tuple b1 t1 p2 dB | nofun | rw [bI]
 | str b1=>
  obtain⟨t1,rfl⟩:=r1;have dB:A.units < cLine:=Nat.lt_of_le_of_lt (Nat.le_add_right _ _) hu
  cases h2 with
  | bN=>
   cases r2
   repeat' first | exact SeqAt.RcAt.str_none b1 t1 | nofun | rw [bI]
  | bl b2=>
   cases r2
   repeat' first | exact SeqAt.RcAt.str_bool b1 t1 b2 | nofun | rw [bI]
  | int b2=>
   obtain⟨t2,rfl⟩:=r2
   repeat' first | exact SeqAt.RcAt.str_int b1 t1 b2 t2 | nofun | rw [bI]
  | str b2=>
   obtain⟨t2,rfl⟩:=r2
   repeat' first | exact SeqAt.RcAt.str_str b1 t1 b2 t2 | nofun | rw [bI]
  | @lst a2 dF iK q2 l2 i2=>
   cases r2;obtain⟨cG,v2,p2,z2⟩:=I.list q2
   repeat' first | exact SeqAt.RcAt.str_list b1 t1 p2.isList dB | nofun | rw [bI]
  | @tup a2 dF iK q2 l2 i2=>
   cases r2;obtain⟨cG,v2,p2,z2⟩:=I.tuple q2
   repeat' first | exact SeqAt.RcAt.str_tuple b1 t1 p2 dB | nofun | rw [bI]
 | @lst a1 Zm qr q1 l1 i1=>
  cases r1;have dB:A.units < cLine:=Nat.lt_of_le_of_lt (Nat.le_add_right _ _) hu;obtain⟨ml,v1,p1,z1⟩:=I.list q1;have n1:ml.toArray.size=qr.length:=by rw [size_toArray,<-v1.length,l1]
  have JN:∀(i:Nat) (d:D),qr[i]?=some d->A.in1.units+d.dep < cLine:=λi d h=>by
   have e1:=iZ h;have e2:A.units+(fX qr+1) < cLine:=by simpa only [D.dep] using hu
   show A.units+1+d.dep < cLine;omega
  cases h2 with
  | bN=>
   cases r2
   repeat' first | exact SeqAt.RcAt.list_none p1.isList dB | nofun | rw [bI]
  | bl b2=>
   cases r2
   repeat' first | exact SeqAt.RcAt.list_bool b2 p1.isList dB | nofun | rw [bI]
  | int b2=>
   obtain⟨t2,rfl⟩:=r2
   repeat' first | exact SeqAt.RcAt.list_int b2 t2 p1.isList dB | nofun | rw [bI]
  | str b2=>
   obtain⟨t2,rfl⟩:=r2
   repeat' first | exact SeqAt.RcAt.list_str b2 t2 p1.isList dB | nofun | rw [bI]
  | @lst a2 dF iK q2 l2 i2=>
   cases r2;obtain⟨cG,v2,p2,z2⟩:=I.list q2;have n2:cG.toArray.size=iK.length:=by rw [size_toArray,<-v2.length,l2]
   have it:=kr (X:=X) (A:=A.in1) v1 v2 l1 l2 (λi x d ha hb=>qp I (i1 i x d ha hb) (JN i d hb)) i2;rw [bI]
   by_cases hlen:ml.toArray.size=cG.toArray.size
   ·rw [jL (by omega),<-n1];exact SeqAt.RcAt.lists p1.isList p2.isList hlen dB it
   ·rw [gn (by omega)];exact SeqAt.RcAt.lists_lengths p1.isList p2.isList (by simpa using hlen) dB
  | @tup a2 dF iK q2 l2 i2=>
   cases r2;obtain⟨cG,v2,p2,z2⟩:=I.tuple q2
   repeat' first | exact SeqAt.RcAt.list_tuple p1.isList p2 dB | nofun | rw [bI]
 | @tup a1 Zm qr q1 l1 i1=>
  cases r1;have dB:A.units < cLine:=Nat.lt_of_le_of_lt (Nat.le_add_right _ _) hu;obtain⟨ml,v1,p1,z1⟩:=I.tuple q1;have n1:ml.toArray.size=qr.length:=by rw [size_toArray,<-v1.length,l1]
  have JN:∀(i:Nat) (d:D),qr[i]?=some d->A.in1.units+d.dep < cLine:=λi d h=>by
   have e1:=iZ h;have e2:A.units+(fX qr+1) < cLine:=by simpa only [D.dep] using hu
   show A.units+1+d.dep < cLine;omega
  cases h2 with
  | bN=>
   cases r2
   repeat' first | exact SeqAt.RcAt.tuple_none p1 dB | nofun | rw [bI]
  | bl b2=>
   cases r2
   repeat' first | exact SeqAt.RcAt.tuple_bool b2 p1 dB | nofun | rw [bI]
  | int b2=>
   obtain⟨t2,rfl⟩:=r2
   repeat' first | exact SeqAt.RcAt.tuple_int b2 t2 p1 dB | nofun | rw [bI]
  | str b2=>
   obtain⟨t2,rfl⟩:=r2
   repeat' first | exact SeqAt.RcAt.tuple_str b2 t2 p1 dB | nofun | rw [bI]
  | @lst a2 dF iK q2 l2 i2=>
   cases r2;obtain⟨cG,v2,p2,z2⟩:=I.list q2
   repeat' first | exact SeqAt.RcAt.tuple_list p1 p2.isList dB | nofun | rw [bI]
  | @tup a2 dF iK q2 l2 i2=>
   cases r2;obtain⟨cG,v2,p2,z2⟩:=I.tuple q2;have n2:cG.toArray.size=iK.length:=by rw [size_toArray,<-v2.length,l2]
   have it:=kr (X:=X) (A:=A.in1) v1 v2 l1 l2 (λi x d ha hb=>qp I (i1 i x d ha hb) (JN i d hb)) i2;rw [bI];rw [<-JM,<-n1,<-n2];exact SeqAt.RcAt.tuples p1 p2 dB it
theorem JO (I:Inv X pins σ H s) {A:Around}{x y:V}{d e:D}{u v:Value}(h:gM X.K H x d) (h2:gM X.K H y e) (hu:A.units+d.dep < cLine) (r1:RelV x u) (r2:RelV y v):SeqAt.RcNeAt A s u v (!bI d e):=by
 cases h with
 | bN=>
  cases r1;have dB:A.units < cLine:=Nat.lt_of_le_of_lt (Nat.le_add_right _ _) hu
  cases h2 with
  | bN=>
   cases r2
   repeat' first | exact SeqAt.RcNeAt.none_none | nofun | rw [bI]
  | bl b2=>
   cases r2
   repeat' first | exact SeqAt.RcNeAt.none_bool b2 | nofun | rw [bI]
  | int b2=>
   obtain⟨t2,rfl⟩:=r2
   repeat' first | exact SeqAt.RcNeAt.none_int b2 t2 | nofun | rw [bI]
  | str b2=>
   obtain⟨t2,rfl⟩:=r2
   repeat' first | exact SeqAt.RcNeAt.none_str b2 t2 | nofun | rw [bI]
  | @lst a2 dF iK q2 l2 i2=>
   cases r2;obtain⟨cG,v2,p2,z2⟩:=I.list q2
   repeat' first | exact SeqAt.RcNeAt.none_list p2.isList dB | nofun | rw [bI]
  | @tup a2 dF iK q2 l2 i2=>
   cases r2;obtain⟨cG,v2,p2,z2⟩:=I.tuple q2
   repeat' first | exact SeqAt.RcNeAt.none_tuple p2 dB | nofun | rw [bI]
 | bl b1=>
  cases r1;have dB:A.units < cLine:=Nat.lt_of_le_of_lt (Nat.le_add_right _ _) hu
  cases h2 with
  | bN=>
   cases r2
   repeat' first | exact SeqAt.RcNeAt.bool_none b1 | nofun | rw [bI]
  | bl b2=>
   cases r2
   repeat' first | exact SeqAt.RcNeAt.bool_bool b1 b2 | nofun | rw [bI]
  | int b2=>
   obtain⟨t2,rfl⟩:=r2
   repeat' first | exact SeqAt.RcNeAt.bool_int b1 b2 t2 | nofun | rw [bI]
  | str b2=>
   obtain⟨t2,rfl⟩:=r2
   repeat' first | exact SeqAt.RcNeAt.bool_str b1 b2 t2 | nofun | rw [bI]
  | @lst a2 dF iK q2 l2 i2=>
   cases r2;obtain⟨cG,v2,p2,z2⟩:=I.list q2
   repeat' first | exact SeqAt.RcNeAt.bool_list b1 p2.isList dB | nofun | rw [bI]
  | @tup a2 dF iK q2 l2 i2=>
   cases r2;obtain⟨cG,v2,p2,z2⟩:=I.tuple q2
   repeat' first | exact SeqAt.RcNeAt.bool_tuple b1 p2 dB | nofun | rw [bI]
 | int b1=>
  obtain⟨t1,rfl⟩:=r1;have dB:A.units < cLine:=Nat.lt_of_le_of_lt (Nat.le_add_right _ _) hu
  cases h2 with
  | bN=>
   cases r2
   repeat' first | exact SeqAt.RcNeAt.int_none b1 t1 | nofun | rw [bI]
  | bl b2=>
   cases r2
   repeat' first | exact SeqAt.RcNeAt.int_bool b1 t1 b2 | nofun | rw [bI]
  | int b2=>
   obtain⟨t2,rfl⟩:=r2
   repeat' first | exact SeqAt.RcNeAt.int_int b1 t1 b2 t2 | nofun | rw [bI]
  | str b2=>
   obtain⟨t2,rfl⟩:=r2
   repeat' first | exact SeqAt.RcNeAt.int_str b1 t1 b2 t2 | nofun | rw [bI]
  | @lst a2 dF iK q2 l2 i2=>
   cases r2;obtain⟨cG,v2,p2,z2⟩:=I.list q2
   repeat' first | exact SeqAt.RcNeAt.int_list b1 t1 p2.isList dB | nofun | rw [bI]
  | @tup a2 dF iK q2 l2 i2=>
   cases r2;obtain⟨cG,v2,p2,z2⟩:=I.tuple q2
   repeat' first | exact SeqAt.RcNeAt.int_tuple b1 t1 p2 dB | nofun | rw [bI]
 | str b1=>
  obtain⟨t1,rfl⟩:=r1;have dB:A.units < cLine:=Nat.lt_of_le_of_lt (Nat.le_add_right _ _) hu
  cases h2 with
  | bN=>
   cases r2
   repeat' first | exact SeqAt.RcNeAt.str_none b1 t1 | nofun | rw [bI]
  | bl b2=>
   cases r2
   repeat' first | exact SeqAt.RcNeAt.str_bool b1 t1 b2 | nofun | rw [bI]
  | int b2=>
   obtain⟨t2,rfl⟩:=r2
   repeat' first | exact SeqAt.RcNeAt.str_int b1 t1 b2 t2 | nofun | rw [bI]
  | str b2=>
   obtain⟨t2,rfl⟩:=r2
   repeat' first | exact SeqAt.RcNeAt.str_str b1 t1 b2 t2 | nofun | rw [bI]
  | @lst a2 dF iK q2 l2 i2=>
   cases r2;obtain⟨cG,v2,p2,z2⟩:=I.list q2
   repeat' first | exact SeqAt.RcNeAt.str_list b1 t1 p2.isList dB | nofun | rw [bI]
  | @tup a2 dF iK q2 l2 i2=>
   cases r2;obtain⟨cG,v2,p2,z2⟩:=I.tuple q2
   repeat' first | exact SeqAt.RcNeAt.str_tuple b1 t1 p2 dB | nofun | rw [bI]
 | @lst a1 Zm qr q1 l1 i1=>
  cases r1;have dB:A.units < cLine:=Nat.lt_of_le_of_lt (Nat.le_add_right _ _) hu;obtain⟨ml,v1,p1,z1⟩:=I.list q1;have n1:ml.toArray.size=qr.length:=by rw [size_toArray,<-v1.length,l1]
  have JN:∀(i:Nat) (d:D),qr[i]?=some d->A.in1.units+d.dep < cLine:=λi d h=>by
   have e1:=iZ h;have e2:A.units+(fX qr+1) < cLine:=by simpa only [D.dep] using hu
   show A.units+1+d.dep < cLine;omega
  cases h2 with
  | bN=>
   cases r2
   repeat' first | exact SeqAt.RcNeAt.list_none p1.isList dB | nofun | rw [bI]
  | bl b2=>
   cases r2
   repeat' first | exact SeqAt.RcNeAt.list_bool b2 p1.isList dB | nofun | rw [bI]
  | int b2=>
   obtain⟨t2,rfl⟩:=r2
   repeat' first | exact SeqAt.RcNeAt.list_int b2 t2 p1.isList dB | nofun | rw [bI]
  | str b2=>
   obtain⟨t2,rfl⟩:=r2
   repeat' first | exact SeqAt.RcNeAt.list_str b2 t2 p1.isList dB | nofun | rw [bI]
  | @lst a2 dF iK q2 l2 i2=>
   cases r2;obtain⟨cG,v2,p2,z2⟩:=I.list q2;have n2:cG.toArray.size=iK.length:=by rw [size_toArray,<-v2.length,l2]
   have it:=kr (X:=X) (A:=A.in1) v1 v2 l1 l2 (λi x d ha hb=>qp I (i1 i x d ha hb) (JN i d hb)) i2;rw [bI]
   by_cases hlen:ml.toArray.size=cG.toArray.size
   ·rw [jL (by omega),<-n1];exact SeqAt.RcNeAt.lists p1.isList p2.isList hlen dB it
   ·rw [gn (by omega)];exact SeqAt.RcNeAt.lists_lengths p1.isList p2.isList (by simpa using hlen) dB
  | @tup a2 dF iK q2 l2 i2=>
   cases r2;obtain⟨cG,v2,p2,z2⟩:=I.tuple q2
   repeat' first | exact SeqAt.RcNeAt.list_tuple p1.isList p2 dB | nofun | rw [bI]
 | @tup a1 Zm qr q1 l1 i1=>
  cases r1;have dB:A.units < cLine:=Nat.lt_of_le_of_lt (Nat.le_add_right _ _) hu;obtain⟨ml,v1,p1,z1⟩:=I.tuple q1;have n1:ml.toArray.size=qr.length:=by rw [size_toArray,<-v1.length,l1]
  have JN:∀(i:Nat) (d:D),qr[i]?=some d->A.in1.units+d.dep < cLine:=λi d h=>by
   have e1:=iZ h;have e2:A.units+(fX qr+1) < cLine:=by simpa only [D.dep] using hu
   show A.units+1+d.dep < cLine;omega
  cases h2 with
  | bN=>
   cases r2
   repeat' first | exact SeqAt.RcNeAt.tuple_none p1 dB | nofun | rw [bI]
  | bl b2=>
   cases r2
   repeat' first | exact SeqAt.RcNeAt.tuple_bool b2 p1 dB | nofun | rw [bI]
  | int b2=>
   obtain⟨t2,rfl⟩:=r2
   repeat' first | exact SeqAt.RcNeAt.tuple_int b2 t2 p1 dB | nofun | rw [bI]
  | str b2=>
   obtain⟨t2,rfl⟩:=r2
   repeat' first | exact SeqAt.RcNeAt.tuple_str b2 t2 p1 dB | nofun | rw [bI]
  | @lst a2 dF iK q2 l2 i2=>
   cases r2;obtain⟨cG,v2,p2,z2⟩:=I.list q2
   repeat' first | exact SeqAt.RcNeAt.tuple_list p1 p2.isList dB | nofun | rw [bI]
  | @tup a2 dF iK q2 l2 i2=>
   cases r2;obtain⟨cG,v2,p2,z2⟩:=I.tuple q2;have n2:cG.toArray.size=iK.length:=by rw [size_toArray,<-v2.length,l2]
   have it:=kr (X:=X) (A:=A.in1) v1 v2 l1 l2 (λi x d ha hb=>qp I (i1 i x d ha hb) (JN i d hb)) i2;rw [bI];rw [<-JM,<-n1,<-n2];exact SeqAt.RcNeAt.tuples p1 p2 dB it
noncomputable def Pz (K:Frag) (neg:Bool):R2:=λx y H Q=>∃d e,gM K H x d/\gM K H y e/\d.dep<=60/\Q (.bl (if neg=true then !bI d e else bI d e)) H
theorem jM (hu:X.A.units+64 < cLine):kW X (compareOp .Eq) (Pz X.K false):=by
 intro pins s σ H x y v u Q I rx ry h;obtain⟨d,e,h1,h2,hd,q⟩:=h;exact UM I h1 h2 (by omega) rx ry _ _ _ _ (bL I q rfl)
theorem JP (hu:X.A.units+64 < cLine):kW X (compareOp .NotEq) (Pz X.K true):=by
 intro pins s σ H x y v u Q I rx ry h;obtain⟨d,e,h1,h2,hd,q⟩:=h;exact JO I h1 h2 (by omega) rx ry _ _ _ _ (bL I q rfl)
noncomputable def fD:V->D
 | .bN=>.bN
 | .bl b=>.bl b
 | .int i=>.int i
 | .str x=>.str x
 | _=>.bN
theorem gM.flat {K:Frag}{x:V}(h:h_ x=true):gM K H x (fD x):=by
 cases x with
 | bN=>exact .bN
 | bl b=>exact .bl b
 | int i=>exact .int i
 | str z=>exact .str z
 | _=>exact absurd (show false=true from h) Bool.false_ne_true
theorem gM.Q4 {K:Frag}{a:Addr}{xs:List V}(h:ba K H a xs) (hf:∀x∈xs,h_ x=true):gM K H (.ref a) (.lst (xs.map fD)):=by
 refine .lst h (by simp) λi x d h1 h2=>?_
 rw [getElem?_map,h1] at h2;cases h2;exact .flat (hf x (mem_of_getElem? h1))
theorem gM.Q5 {K:Frag}{a:Addr}{xs:List V}(h:bX K H a xs) (hf:∀x∈xs,h_ x=true):gM K H (.ref a) (.tup (xs.map fD)):=by
 refine .tup h (by simp) λi x d h1 h2=>?_
 rw [getElem?_map,h1] at h2;cases h2;exact .flat (hf x (mem_of_getElem? h1))
theorem JQ (x:V):(fD x).dep=0:=by cases x <;> rfl
theorem ub (xs:List V):fX (xs.map fD)=0:=by
 induction xs with
 | nil=>rfl
 | cons x xs ih=>rw [List.map_cons,fX,JQ,ih]; rfl
end
structure Ends.Le (D D':Ends):Prop where
 nx:∀σ H,D.nx σ H->D'.nx σ H
 rt:∀v H,D.rt v H->D'.rt v H
 bk:∀σ H,D.bk σ H->D'.bk σ H
 ct:∀σ H,D.ct σ H->D'.ct σ H
theorem Ends.Le.refl (D:Ends):D.Le D:=⟨λ_ _ h=>h,λ_ _ h=>h,λ_ _ h=>h,λ_ _ h=>h⟩
noncomputable def aJ (X:Cx) (UN:List Stmt):TS:=λD σ H=>∃t D',yf X UN t/\t D' σ H/\D'.Le D
theorem ao {X:Cx}{UN:List Stmt}:yf X UN (aJ X UN):=λpins s σ H D I h=>by
 obtain⟨t,D',h1,h2,le⟩:=h;refine ck (h1 pins s σ H D' I h2) λf s' h=>?_
 cases f with
 | next=>obtain⟨a,b,c,d⟩:=h; exact⟨a,b,c,le.nx _ _ d⟩
 | brk=>obtain⟨a,b,c,d⟩:=h; exact⟨a,b,c,le.bk _ _ d⟩
 | cont=>obtain⟨a,b,c,d⟩:=h; exact⟨a,b,c,le.ct _ _ d⟩
 | ret u=>obtain⟨v,a,b,c,r,d⟩:=h; exact⟨v,a,b,c,r,le.rt _ _ d⟩
theorem aJ.of {X:Cx}{UN:List Stmt}{D:Ends}{σ:St}{H:Hp}{t:TS}(h:yf X UN t) (q:t D σ H):aJ X UN D σ H:=⟨t,D,h,q,.refl D⟩
noncomputable def kM (X:Cx) (e:Expr):TT:=λσ H Q=>∃t Q',PT X e t/\t σ H Q'/\∀b H1,Q' b H1->Q b H1
theorem JR {X:Cx}{e:Expr}:PT X e (kM X e):=λpins s σ H Q I h=>by
 obtain⟨t,Q',h1,h2,le⟩:=h;refine ck (h1 pins s σ H Q' I h2) λb s' h=>?_
 obtain⟨H1,i,q⟩:=h;exact⟨H1,i,le _ _ q⟩
theorem kM.of {X:Cx}{e:Expr}{σ:St}{H:Hp}{Q:Bool->Hp->Prop}{t:TT}(h:PT X e t) (q:t σ H Q):kM X e σ H Q:=⟨t,Q,h,q,λ_ _ h=>h⟩
noncomputable def JS (J:It) (g:TG) (tb:TS) (D:Ends) (σ:St) (H:Hp):Prop:=∃W:Nat->Nat->St->Hp->Prop,(∃m,W 0 m σ H)/\∀i m σ H,W i m σ H ->
 (J.stop i H/\D.nx σ H)\/(J.go i H/\∃N:St->Hp->Prop,(∀σ' H',N σ' H'->∃m',m' < m/\W (i+1) m' σ' H')/\∀x H',J.Ul i H x H'->g x σ H' λσ2 H2=>tb {D with nx:=N,ct:=N,bk:=D.nx} σ2 H2)
noncomputable def Q6 (wi:TI) (g:TG) (tb:TS):TS:=λD σ H=>wi σ H λJ H1=>JS J g tb D σ H1
theorem cp {X:Cx}{tg iter:Expr}{body:List Stmt}{wi:TI}{g:TG}{tb:TS}{pos:Pos}(hp:PassesOwn (model X.prog X.w) X.A X.env X.xe) (hc:X.calm=true) (hi:PI X tg iter wi) (hg:PG X tg g) (hb:yf X body tb)
  (hs:∀x,foldedSetIterable iter X.env x=pure x:=by intro _; rfl):PS X (.For tg iter body [] pos) (Q6 wi g tb):=Uo hp hc hi hg hb hs
section
variable {K:Frag}{a:Addr}{p:Nat}{xs:List V}{lo:Int}{n:Nat}{g:TG}{tb:TS}{D:Ends}{σ:St}{H:Hp}
theorem cV (xs:List V) (Pv:Nat->St->Hp->Prop) (h0:Pv 0 σ H) (hl:∀i σ H,i<=xs.length->Pv i σ H->ba K H a xs)
  (hs:∀i x σ H,xs[i]?=some x->Pv i σ H->g x σ H λσ2 H2=>tb {D with nx:=Pv (i+1),ct:=Pv (i+1),bk:=D.nx} σ2 H2) (hd:∀σ H,Pv xs.length σ H->D.nx σ H):JS (Jf K a) g tb D σ H:=Ji Pv h0 hl hs hd
theorem JT (Pv:Nat->St->Hp->Prop) (h0:Pv 0 σ H) (hs:∀i σ H,i < n->Pv i σ H->g (.int (lo+i)) σ H λσ2 H2=>tb {D with nx:=Pv (i+1),ct:=Pv (i+1),bk:=D.nx} σ2 H2) (hd:∀σ H,Pv n σ H->D.nx σ H):JS (QQ lo n) g tb D σ H:=Hs Pv h0 hs hd
end
noncomputable def DJ (c:TT) (tb:TS) (D:Ends) (σ:St) (H:Hp):Prop:=Jb c tb D σ H
noncomputable def F5 (c:TT) (tb:TS):TS:=λD σ H=>DJ c tb D σ H
theorem uc {X:Cx}{c:Expr}{body:List Stmt}{tb:TS}{pos:Pos}(hp:PassesOwn (model X.prog X.w) X.A X.env X.xe) (hb:yf X body tb):PS X (.While c body [] pos) (F5 (kM X c) tb):=Jc hp JR hb
theorem ww {X:Cx}{c:Expr}{tb:TS}{D:Ends}{σ:St}{H:Hp}(Pv:Nat->St->Hp->Prop) (m0:Nat) (h0:Pv m0 σ H)
  (hs:∀m σ H,Pv m σ H->kM X c σ H λb H1=>if b=true then tb {D with nx:=λσ' H'=>∃m',m' < m/\Pv m' σ' H',ct:=λσ' H'=>∃m',m' < m/\Pv m' σ' H',bk:=D.nx} σ H1 else D.nx σ H1):DJ (kM X c) tb D σ H:=by
 refine⟨Pv,⟨m0,h0⟩,λm σ H h=>?_⟩;obtain⟨t,Q',h1,h2,le⟩:=hs m σ H h;refine⟨t,Q',h1,h2,λb H1 q=>?_⟩;have q:=le b H1 q
 cases b with
 | true=>exact⟨_,λ_ _ h=>h,q⟩
 | false=>exact q
theorem ww2 {X:Cx}{c:Expr}{tb:TS}{D:Ends}{σ:St}{H:Hp}(Pv:Nat->St->Hp->Prop) (Pe:St->Hp->Prop) (m0:Nat) (h0:Pv m0 σ H)
  (hs:∀m σ H,Pv m σ H->kM X c σ H λb H1=>if b=true then tb {D with nx:=λσ' H'=>∃m',m' < m/\Pv m' σ' H',ct:=λσ' H'=>∃m',m' < m/\Pv m' σ' H',bk:=D.nx} σ H1 else Pe σ H1)
  (hd:∀σ H,Pe σ H->D.nx σ H):DJ (kM X c) tb D σ H:=by
 refine ww Pv m0 h0 λm σ H h=>?_
 obtain⟨t,Q',h1,h2,le⟩:=hs m σ H h;refine⟨t,Q',h1,h2,λb H1 q=>?_⟩;have q:=le b H1 q
 cases b with
 | true=>exact q
 | false=>exact hd σ H1 q
noncomputable def yg (X:Cx) (st:Stmt):TS:=λD σ H=>∃t D',PS X st t/\t D' σ H/\D'.Le D
theorem kZ {X:Cx}{st:Stmt}:PS X st (yg X st):=λpins s σ H D I h=>by
 obtain⟨t,D',h1,h2,le⟩:=h;refine ck (h1 pins s σ H D' I h2) λf s' h=>?_
 cases f with
 | next=>obtain⟨a,b,c,d⟩:=h; exact⟨a,b,c,le.nx _ _ d⟩
 | brk=>obtain⟨a,b,c,d⟩:=h; exact⟨a,b,c,le.bk _ _ d⟩
 | cont=>obtain⟨a,b,c,d⟩:=h; exact⟨a,b,c,le.ct _ _ d⟩
 | ret u=>obtain⟨v,a,b,c,r,d⟩:=h; exact⟨v,a,b,c,r,le.rt _ _ d⟩
theorem yg.of {X:Cx}{st:Stmt}{D:Ends}{σ:St}{H:Hp}{t:TS}(h:PS X st t) (q:t D σ H):yg X st D σ H:=⟨t,D,h,q,.refl D⟩
theorem yJ {X:Cx}{st:Stmt}{D:Ends}{σ:St}{H:Hp}(M:St->Hp->Prop) (h:yg X st {D with nx:=M} σ H) (q:∀σ H,M σ H->D.nx σ H):yg X st D σ H:=by
 obtain⟨t,D',h1,h2,le⟩:=h;exact⟨t,D',h1,h2,λσ H z=>q σ H (le.nx σ H z),le.rt,le.bk,le.ct⟩
structure JU (K:Frag) (C:Addr) (m:Str) (f:Addr):Prop where
 sp:PySem.W.specialIn K (.ref C) "__getattribute__"=some (some (.builtin "type.__getattribute__"))
 rd:PySem.W.readsIn K C (.type "type")=true
 fd:PySem.W.findCls K (.ref C) (.type "type") m=some (.val (.ref f))
 kp:keepIn K (.ref f)=true
noncomputable def JV (L:List (Addr×Sp)) (m:Str) (iI:List V) (E:XK) (ta:TE) (t:TA):TE:=λσ H Q=>ta σ H λx H1=>∃a C dx fs,x=.ref a/\H1 a=some (.ins C dx fs)/\fs.lookup m=none/\∃sp,(C,sp)∈L /\
 t σ H1 λvs H2=>sp (x::(vs++iI)) H2 Q E
noncomputable def VM (X:Cx) (CX:vF) (m:Str) (ds:List Value) (q:Addr×Sp):Prop:=∃(f:Addr) (fd:FuncData) (ps:List Str) (k:Nat),sQ X.K q.1/\Meth X.K q.1 m f/\aU X.prog X.w X.K X.mg X.base CX k f fd ps q.2/\eK k X.A/\Binds X.K fd ps ds
section
variable {X:Cx}{CX:vF}{k:Nat}{f C:Addr}{fd:FuncData}{ps:List Str}{sp:Sp}{iI:List V}{ds:List Value}{E:XK}{x m:Str}{p pos apos:Pos}{e o:Expr}{es:List Expr}{ta:TE}{t:TA}{L:List (Addr×Sp)}
theorem vM {pl:Sem Bool}(he:PE X o (tC (.ref C))) (hm:JU X.K C m f) (F:aU X.prog X.w X.K X.mg X.base CX k f fd ps sp) (hr:eK k X.A) (hb:Binds X.K fd ps ds) (hd:Vals iI ds) (hx:Passes CX X E) (ha:PA X (e::es) t)
  (I_:starEach (e::es) X.env=(false,eval e X.env)::starEach es X.env:=by rfl) (tV:(backTo pos (starEach es X.env)).any (·.1)=false:=by rfl)
  (ht:eval (.Call (.Attribute o m apos) (e::es) [] pos) X.env=(do
   let ov <-eval o X.env
   standAt apos.atName
   let (f,first) <-holding [ov] (getMethod ov m pl)
   callWith pos f first (backTo pos (starEach (e::es) X.env)) (backToKw pos (keywordEach [] X.env))):=by rfl) :
  PE X (.Call (.Attribute o m apos) (e::es) [] pos) (FY sp iI E t):=by
 intro pins s σ H Q I h;refine PySem.W.methodCall_KW (pl:=pl) (ck (he pins s σ H (λv H1=>v=.ref C/\H1=H) I ⟨rfl,rfl⟩) λu s1 ⟨x,H1,I1,rx,ex,eH⟩=>?_) ht;subst ex;subst eH;obtain rfl:u=Value.ref C:=rx;refine PySem.W.method_cls I1.iT hm.sp (PySem.W.cls_value I1.iT hm.rd hm.fd rfl ?_);refine PySem.W.callWith_K (first:=[]) (h₀:=X.base) I.ok.mod.Ua hm.kp (ck (ha pos pins _ σ _ _ (I1.tok _) h) λus s2 ⟨vs,H2,I2,r,q2⟩=>⟨I2.iT,?_⟩) I_ tV;exact ny F hr hb hd hx I2 r q2
theorem ff {pl:Sem Bool}(he:PE X o ta) (hL:∀q∈L,VM X CX m ds q) (hd:Vals iI ds) (hx:Passes CX X E)
  (ht:eval (.Call (.Attribute o m apos) [] [] pos) X.env=(do
   let ov <-eval o X.env
   standAt apos.atName
   let (f,first) <-holding [ov] (getMethod ov m pl)
   callWith pos f first (backTo pos (starEach [] X.env)) (backToKw pos (keywordEach [] X.env))):=by rfl) :
  PE X (.Call (.Attribute o m apos) [] [] pos) (JV L m iI E ta yv):=by
 intro pins s σ H Q I h;refine PySem.W.methodCall_KW (pl:=pl) (ck (he pins s σ H _ I h) λu s1 ⟨x,H1,I1,rx,a,C,dx,fs,ex,ea,l,sp,hC,q⟩=>?_) ht;subst ex;obtain rfl:u=Value.ref a:=rx;obtain⟨f,fd,ps,k,c,hm,F,hr,hb⟩:=hL _ hC;refine iW I1 ea c hm l ?_;exact PySem.W.callWith_K0 (first:=[.ref a]) I1.iT hm.kp (ny (us:=[.ref a]) (vs:=[.ref a]) F hr hb hd hx I1 (.cons rfl .nil) q)
end
theorem ak.cg {K:Frag}{H H':Hp}(k:ak H H') {a:Addr}{xs:List V}(h:bX K H a xs):bX K H' a xs:=by
 rcases h with (h | ⟨o,h⟩) | h
 ·exact .inl (.inl (k _ _ h))
 ·exact .inl (.inr ⟨o,k _ _ h⟩)
 ·exact .inr h
theorem gN {i:Nat}{v:V}{σ:St}{H:Hp}{Q:St->Hp->Prop}(h:Q (σ.set i (some v)) H):lY i v σ H Q:=h
section
variable {K:Frag}{a D:Addr}{fr:List Nat}{tt:TT}{te:TE}{σ:St}{Q:Hp->Prop}{H:Hp}
noncomputable def UO (D:Addr) (Pv:Nat->List V->Hp->Prop) (n m i:Nat):VK:=λy H4=>∃ys,H4 D=some (.lst ys)/\ys.length < sizeLine/\∃m',m' < m/\(m'+(i+1)=n/\∃zs,Pv (i+1) zs (upd H4 D (.lst (ys++[y]))))
noncomputable def UP (Pv:Nat->List V->Hp->Prop) (n m i:Nat) (H3:Hp):Prop:=∃m',m' < m/\(m'+(i+1)=n/\∃zs,Pv (i+1) zs H3)
theorem UO.mk {Pv:Nat->List V->Hp->Prop}{n m i:Nat}{y:V}{H4:Hp}{ys:List V}(hm:m+1+i=n) (h:H4 D=some (.lst ys)) (hz:ys.length<=1000) (p:Pv (i+1) (ys++[y]) (upd H4 D (.lst (ys++[y])))):UO D Pv n (m+1) i y H4:=
 ⟨ys,h,aG hz,m,by omega,by omega,_,p⟩
theorem UP.mk {Pv:Nat->List V->Hp->Prop}{n m i:Nat}{H3:Hp}{ys:List V}(hm:m+1+i=n) (p:Pv (i+1) ys H3):UP Pv n (m+1) i H3:=⟨m,by omega,by omega,_,p⟩
theorem lcl (xs:List V) (Pv:Nat->List V->Hp->Prop) (h0:Pv 0 [] H) (hl:∀i ys H,i<=xs.length->Pv i ys H->ba K H a xs)
  (hs:∀i m x ys H,m+1+i=xs.length->xs[i]?=some x->Pv i ys H->tt (bA fr σ (some x)) H λb H3=>if b=true then te (bA fr σ (some x)) H3 (UO D Pv xs.length (m+1) i)else UP Pv xs.length (m+1) i H3)
  (hq:∀ys H,Pv xs.length ys H->Q H):iy (Jf K a) fr tt te σ D Q H:=by
 refine⟨λi m H2=>m+i=xs.length/\∃ys,Pv i ys H2,⟨xs.length,rfl,[],h0⟩,?_⟩;rintro i m H2 ⟨hm,ys,hp⟩;have hS:=hl i ys H2 (by omega) hp
 cases m with
 | zero=>
  have e:i=xs.length:=by omega
  subst e;exact .inl ⟨⟨xs,hS,Nat.le_refl _⟩,hq ys H2 hp⟩
 | succ m=>
  have hi:i < xs.length:=by omega
  refine .inr ⟨⟨xs,xs[i],hS,getElem?_eq_getElem hi⟩,λv H' y=>?_⟩;obtain⟨rfl,hv⟩:=y;exact hs i m v ys H' hm (hv xs hS) hp
theorem qu {β:Type}(xs:List V) (bs:List β) (g:β->Option V) (hz:xs.length<=1000) (hl:bs.length=xs.length) (hS:∀ys,ba K (upd H D (.lst ys)) a xs)
  (ht:∀(i:Nat) x b ys (R:Bool->Hp->Prop),xs[i]?=some x->bs[i]?=some b->R (g b).isSome (upd H D (.lst ys))->tt (bA fr σ (some x)) (upd H D (.lst ys)) R)
  (he:∀(i:Nat) x b y ys (R:VK),xs[i]?=some x->bs[i]?=some b->g b=some y->R y (upd H D (.lst ys))->te (bA fr σ (some x)) (upd H D (.lst ys)) R)
  (hq:Q (upd H D (.lst (bs.filterMap g)))):iy (Jf K a) fr tt te σ D Q (upd H D (.lst [])):=by
 refine⟨λi m H2=>m+i=xs.length/\H2=upd H D (.lst ((bs.take i).filterMap g)),⟨xs.length,rfl,rfl⟩,?_⟩;rintro i m H2 ⟨hm,rfl⟩
 cases m with
 | zero=>
  have e:i=xs.length:=by omega
  subst e;refine .inl ⟨⟨xs,hS _,Nat.le_refl _⟩,?_⟩;rw [<-hl,take_length];exact hq
 | succ m=>
  have hi:i < xs.length:=by omega
  have hb:i < bs.length:=by omega
  refine .inr ⟨⟨xs,xs[i],hS _,getElem?_eq_getElem hi⟩,λv H' y=>?_⟩;obtain⟨rfl,hv⟩:=y;have hx:=hv xs (hS _);have JW:bs[i]?=some bs[i]:=getElem?_eq_getElem hb;have et:bs.take (i+1)=bs.take i++[bs[i]]:=by rw [take_add_one,JW]; rfl
  have ll:((bs.take i).filterMap g).length<=1000:=by
   have h1:=List.length_filterMap_le g (bs.take i);have h2:=List.length_take_le i bs;omega
  have l2:((bs.take i).filterMap g).length < 1000:=by
   have h1:=List.length_filterMap_le g (bs.take i);have h2:=List.length_take_le i bs;omega
  refine ht i v _ _ _ hx JW ?_
  cases eg:g bs[i] with
  | none=>
   rw [Option.isSome_none,if_neg Bool.false_ne_true];refine⟨m,by omega,by omega,?_⟩;rw [et,List.filterMap_append];simp [eg]
  | some y=>
   rw [Option.isSome_some,if_pos rfl];refine he i v _ y _ _ hx JW eg ⟨_,ae,aG (by omega),m,by omega,by omega,?_⟩;rw [vw,et,List.filterMap_append];simp [eg]
end
inductive Yg (K:Frag) (H:Hp):V->Value->Prop where
 | ty {x:V}{t:Value}(h:nu K H x t):Yg K H x t
 | lst {a:Addr}{xs:List V}(h:ba K H a xs):Yg K H (.ref a) (.type "list")
 | tup {a:Addr}{xs:List V}(h:bX K H a xs):Yg K H (.ref a) (.type "tuple")
theorem vN {X:Cx}:fK X (.builtin "isinstance") (λxs H Q=>∃x n t b,xs=[x,.ty n]/\Yg X.K H x t/\PySem.W.kitOne X.K t (.type n)=some b/\Q (.bl b) H):=by
 intro pins s σ H xs us Q I r h;obtain⟨x,n,t,b,rfl,ty,e,q⟩:=h;obtain⟨u,w',rfl,r1,r2⟩:=vals2 r;cases (show w'=Value.type n from r2)
 cases ty with
 | ty h=>exact Hv I r1 h e λtk=>⟨.bl b,H,I.tok _,rfl,q⟩
 | @lst a ys h=>
  cases (show u=Value.ref a from r1);obtain⟨bF,_,⟨o,n,h1,h2,_⟩,_⟩:=I.list h;exact PySem.W.kia_one PySem.W.kitx_list I.iT ⟨o,h1,h2⟩ e (λz=>nomatch z) λtk=>⟨.bl b,H,I.tok _,rfl,q⟩
 | @tup a ys h=>
  cases (show u=Value.ref a from r1);obtain⟨bF,_,⟨o,h1,h2,_⟩,_⟩:=I.tuple h;exact PySem.W.kia_one PySem.W.kitx_tuple I.iT ⟨o,h1,h2⟩ e (λz=>nomatch z) λtk=>⟨.bl b,H,I.tok _,rfl,q⟩
section
variable {κ:Type} [DecidableEq κ]
noncomputable def bz (kvs:List (κ×V)) (k:κ):Option V:=(kvs.find? λkv=>decide (kv.1=k)).map (·.2)
noncomputable def putK (kvs:List (κ×V)) (k:κ) (v:V):List (κ×V):=
 if (kvs.any λkv=>decide (kv.1=k))=true then kvs.map (λkv=>if kv.1=k then(kv.1,v)else kv)else kvs++[(k,v)]
noncomputable def dC (kvs:List (κ×V)) (k:κ):List (κ×V):=kvs.filter λkv=>decide (kv.1≠k)
theorem dS {p:κ×V}{r:List (κ×V)}{k:κ}(e:p.1=k):bz (p::r) k=some p.2:=by simp [bz,List.find?_cons,e]
theorem dU {p:κ×V}{r:List (κ×V)}{k:κ}(e:¬p.1=k):bz (p::r) k=bz r k:=by simp [bz,List.find?_cons,e]
theorem eO (k:κ):∀kvs:List (κ×V),(kvs.any λkv=>decide (kv.1=k))=(bz kvs k).isSome
 | []=>rfl
 | p::r=>by
  rw [List.any_cons]
  by_cases e:p.1=k
  ·simp only [dS e,decide_eq_true e,Bool.true_or,Option.isSome_some]
  ·rw [dU e,decide_eq_false e,Bool.false_or]; exact eO k r
theorem yK (k j:κ) (y:V):∀kvs:List (κ×V),bz (kvs.map λkv=>if kv.1=k then(kv.1,y)else kv) j=(bz kvs j).map λx=>if j=k then y else x
 | []=>rfl
 | p::r=>by
  have ih:=yK k j y r;rw [List.map_cons]
  by_cases h:p.1=k
  ·rw [if_pos h]
   by_cases e:p.1=j
   ·rw [dS (p:=(p.1,y)) e,dS e,Option.map_some,if_pos (e.symm.trans h)]
   ·rw [dU (p:=(p.1,y)) e,dU e,ih]
  ·rw [if_neg h]
   by_cases e:p.1=j
   ·rw [dS (p:=p) e,dS e,Option.map_some,if_neg (λz=>h (e.trans z))]
   ·rw [dU (p:=p) e,dU e,ih]
theorem ud (k j:κ) (y:V):∀kvs:List (κ×V),bz kvs k=none->bz (kvs++[(k,y)]) j=if j=k then some y else bz kvs j
 | [],_=>by
  by_cases e:k=j
  ·rw [if_pos e.symm]; exact dS (p:=(k,y)) e
  ·rw [if_neg (λz=>e z.symm)]; exact dU (p:=(k,y)) e
 | p::r,hn=>by
  rw [List.cons_append];have hk:¬p.1=k:=λz=>by rw [dS z] at hn; cases hn
  rw [dU hk] at hn;have ih:=ud k j y r hn
  by_cases e:p.1=j
  ·rw [dS e,dS e,if_neg (λz=>hk (e.trans z))]
  ·rw [dU e,dU e,ih]
theorem jN (kvs:List (κ×V)) (k j:κ) (y:V):bz (putK kvs k y) j=if j=k then some y else bz kvs j:=by
 unfold putK
 by_cases a:(kvs.any λkv=>decide (kv.1=k))=true
 ·rw [if_pos a,yK];rw [eO] at a
  by_cases e:j=k
  ·obtain⟨x,hx⟩:=Option.isSome_iff_exists.mp a;rw [if_pos e,e,hx,Option.map_some,if_pos rfl]
  ·rw [if_neg e]
   cases bz kvs j with
   | none=>rfl
   | some x=>rw [Option.map_some,if_neg e]
 ·rw [if_neg a];refine ud k j y kvs ?_;rw [eO] at a
  cases q:bz kvs k with
  | none=>rfl
  | some x=>rw [q] at a; exact(a rfl).elim
theorem gp (kvs:List (κ×V)) (k:κ) (v:V):(putK kvs k v).length<=kvs.length+1:=by
 unfold putK;split
 ·rw [length_map]; omega
 ·rw [length_append,length_cons,List.length_nil]; omega
theorem jO {kvs:List (κ×V)}{k:κ}(v:V) (h:bz kvs k=none):putK kvs k v=kvs++[(k,v)]:=by
 unfold putK;rw [eO,h];exact if_neg (by decide)
theorem iG.gO {o:Option V}{u:Option Value}(r:iG o u):o.isSome=u.isSome:=by
 cases o with
 | none=>cases u with
  | none=>rfl
  | some _=>exact(show False from r).elim
 | some _=>cases u with
  | none=>exact(show False from r).elim
  | some _=>rfl
theorem iG.getD {o:Option V}{u:Option Value}{d:V}{d':Value}(r:iG o u) (rd:RelV d d'):RelV (o.getD d) (u.getD d'):=by
 cases o with
 | none=>cases u with
  | none=>exact rd
  | some _=>exact(show False from r).elim
 | some _=>cases u with
  | none=>exact(show False from r).elim
  | some _=>exact r
theorem KV.val {kvs:List (κ×V)}{vs:List (κ×Value)}(r:KV kvs vs) (k:κ):iG (bz kvs k) (valueAt vs k):=by
 unfold KV at r;induction r with
 | nil=>exact True.intro
 | @cons p q ps qs h t ih=>
  obtain⟨h1,h2⟩:=h
  by_cases e:p.1=k
  ·have e':q.1=k:=h1.symm.trans e;have b:valueAt (q::qs) k=some q.2:=by simp [valueAt,List.find?_cons,e']
   rw [dS e,b]; exact h2
  ·have e':¬q.1=k:=λz=>e (h1.trans z)
   have b:valueAt (q::qs) k=valueAt qs k:=by simp [valueAt,List.find?_cons,e']
   rw [dU e,b]; exact ih
theorem KV.any {kvs:List (κ×V)}{vs:List (κ×Value)}(r:KV kvs vs) (k:κ):(kvs.any λkv=>decide (kv.1=k))=vs.any λkv=>decide (kv.1=k):=by
 unfold KV at r;induction r with
 | nil=>rfl
 | cons h t ih=>rw [List.any_cons,List.any_cons,ih,h.1]
theorem KV.UQ {kvs:List (κ×V)}{vs:List (κ×Value)}(r:KV kvs vs) (k:κ) {y:V}{u:Value}(ry:RelV y u) :
  KV (kvs.map λkv=>if kv.1=k then(kv.1,y)else kv) (vs.map λkv=>if kv.1=k then(kv.1,u)else kv):=by
 unfold KV at r ⊢;induction r with
 | nil=>exact .nil
 | @cons p q ps qs h t ih=>
  rw [List.map_cons,List.map_cons];refine .cons ?_ ih;obtain⟨h1,h2⟩:=h
  by_cases e:p.1=k
  ·rw [if_pos e,if_pos (h1.symm.trans e)]; exact⟨h1,ry⟩
  ·rw [if_neg e,if_neg (λz=>e (h1.trans z))]; exact⟨h1,h2⟩
theorem KV.put {kvs:List (κ×V)}{vs:List (κ×Value)}(r:KV kvs vs) (k:κ) {y:V}{u:Value}(ry:RelV y u):KV (putK kvs k y) (stored vs k u):=by
 unfold putK stored;rw [r.any k]
 by_cases e:(vs.any λkv=>decide (kv.1=k))=true
 ·rw [if_pos e,if_pos e]; exact r.UQ k ry
 ·rw [if_neg e,if_neg e]; exact Paired.snoc r ⟨rfl,ry⟩
theorem KV.drop {kvs:List (κ×V)}{vs:List (κ×Value)}(r:KV kvs vs) (k:κ):KV (dC kvs k) (without vs k):=by
 unfold KV at r ⊢;unfold dC without;induction r with
 | nil=>exact .nil
 | @cons p q ps qs h t ih=>
  obtain⟨h1,h2⟩:=h;rw [List.filter_cons,List.filter_cons]
  by_cases e:p.1=k
  ·have a:¬decide (p.1≠k)=true:=by simp [e]
   have b:¬decide (q.1≠k)=true:=by simp [h1.symm.trans e]
   rw [if_neg a,if_neg b]; exact ih
  ·have e':¬q.1=k:=λz=>e (h1.trans z)
   have a:decide (p.1≠k)=true:=by simp [e]
   have b:decide (q.1≠k)=true:=by simp [e']
   rw [if_pos a,if_pos b]; exact .cons ⟨h1,h2⟩ ih
theorem KV.length {kvs:List (κ×V)}{vs:List (κ×Value)}(r:KV kvs vs):kvs.length=vs.length:=Paired.length r
theorem qv (kvs:List (κ×V)) (k:κ):(dC kvs k).length<=kvs.length:=List.length_filter_le _ _
end
theorem jP {P:Program}{w:World}{k:Key}{u:Value}(r:RelV (kV k) u):(bp P w).is k u=true:=by
 cases k with
 | inl i=>obtain⟨t,e⟩:=(show ∃t,u=Value.int i t from r); subst e; exact yj P w i t
 | inr x=>obtain⟨t,e⟩:=(show ∃t,u=Value.str x t from r); subst e; exact yk P w x t
theorem ue {P:Program}{w:World}:∀{ks:List Key}{us:List Value},Vals (ks.map kV) us->ItemsAre (bp P w) ks us
 | [],_,r=>by rw [List.map_nil] at r; cases r; exact .nil
 | k::ks,_,r=>by
  rw [List.map_cons] at r
  cases r with
  | cons h t=>exact .cons (jP h) (ue t)
noncomputable abbrev KT (H:Hp):List (List Key×V)->List (List Key×Addr×Value)->Prop:=Paired λp q=>p.1=q.1/\H q.2.1=some (.tup (p.1.map kV))/\RelV p.2 q.2.2
theorem KT.val {H:Hp}{kvs:List (List Key×V)}{xs:List (List Key×Addr×Value)}(r:KT H kvs xs) (k:List Key):iG (bz kvs k) ((atKey xs k).map (·.2)):=by
 induction r with
 | nil=>exact True.intro
 | @cons p q ps qs h t ih=>
  obtain⟨h1,_,h2⟩:=h
  by_cases e:p.1=k
  ·have e':q.1=k:=h1.symm.trans e;have b:atKey (q::qs) k=some q.2:=by simp [atKey,List.find?_cons,e']
   rw [dS e,b]; exact h2
  ·have e':¬q.1=k:=λz=>e (h1.trans z)
   have b:atKey (q::qs) k=atKey qs k:=by simp [atKey,List.find?_cons,e']
   rw [dU e,b]; exact ih
theorem KT.UQ {H:Hp}{kvs:List (List Key×V)}{xs:List (List Key×Addr×Value)}(r:KT H kvs xs) (k:List Key) {y:V}{u:Value}(ry:RelV y u) :
  KT H (kvs.map λkv=>if kv.1=k then(kv.1,y)else kv) (xs.map (putAt k u)):=by
 induction r with
 | nil=>exact .nil
 | @cons p q ps qs h t ih=>
  rw [List.map_cons,List.map_cons];refine .cons ?_ ih;obtain⟨h1,h2,h3⟩:=h;unfold putAt
  by_cases e:p.1=k
  ·rw [if_pos e,if_pos (h1.symm.trans e)]; exact⟨h1,h2,ry⟩
  ·rw [if_neg e,if_neg (λz=>e (h1.trans z))]; exact⟨h1,h2,h3⟩
theorem KT.put {H:Hp}{kvs:List (List Key×V)}{xs:List (List Key×Addr×Value)}(r:KT H kvs xs) (k:List Key) {b:Addr}{y:V}{u:Value}(hb:H b=some (.tup (k.map kV))) (ry:RelV y u) :
  KT H (putK kvs k y) (storedH xs k b u):=by
 have e:(kvs.any λkv=>decide (kv.1=k))=(atKey xs k).isSome:=by
  rw [eO,(r.val k).gO,Option.isSome_map]
 unfold putK storedH;rw [e]
 by_cases q:(atKey xs k).isSome=true
 ·rw [if_pos q,if_pos q]; exact r.UQ k ry
 ·rw [if_neg q,if_neg q]; exact Paired.snoc r ⟨rfl,hb,ry⟩
theorem KT.keeps {H H':Hp}{kvs:List (List Key×V)}{xs:List (List Key×Addr×Value)}(r:KT H kvs xs) (ht:∀b ys,H b=some (.tup ys)->H' b=some (.tup ys)):KT H' kvs xs:=
 Paired.T8 r λ_ _ z=>⟨z.1,ht _ _ z.2.1,z.2.2⟩
section
variable {P:Program}{w:World}{H:Hp}{h:Heap}{a:Addr}
theorem Q7 {u:HO}(ok:kT P w H h) (e:Rd H a u):cR P w H h a u:=e.ok ok
theorem gH {kvs:List (Key×V)}(ok:kT P w H h) (e:Rd H a (.dK kvs)):kvs.length<=sizeLine/\(a == sysModules)=false/\∃vs,KV kvs vs/\h.DictOf (bp P w) a vs:=
 show cR P w H h a (.dK kvs) from Q7 ok e
theorem jo {kvs:List (Key×V)}(ok:kT P w H h) (e:H a=some (.dK kvs)):kvs.length<=sizeLine/\(a == sysModules)=false/\∃vs,KV kvs vs/\h.DictOf (bp P w) a vs:=gH ok (.inl e)
theorem nE {ks:List Key}(ok:kT P w H h) (e:H a=some (.tup (ks.map kV))):(tupleKind (bp P w)).is h ks a:=by
 obtain⟨_,bF,r,o,h1,h2,n,h3⟩:=(show cR P w H h a (.tup (ks.map kV)) from ok a _ e)
 exact⟨o,bF.toArray,n,h1,h2,h3,by simpa using ue r⟩
theorem qw {kvs:List (List Key×V)}(ok:kT P w H h) (e:Rd H a (.dT kvs)):kvs.length<=sizeLine/\(a == sysModules)=false /\
  ∃xs,KT H kvs xs/\h.DictOfH (tupleKind (bp P w)) a xs:=by
 obtain⟨z,y,xs,r,o,es,ep,h1,h2,h3,h4,h5⟩:=(show cR P w H h a (.dT kvs) from Q7 ok e)
 refine⟨z,y,xs,r,o,es,ep,h1,h2,h3,h4,λx hx=>?_,h5⟩;have all:∀{l:List (List Key×V)}{m:List (List Key×Addr×Value)},KT H l m->∀x∈m,(tupleKind (bp P w)).is h x.1 x.2.1:=by
  intro l m q;induction q with
  | nil=>intro x hx; exact nomatch hx
  | @cons p q ps qs hq t ih=>
   intro x hx;rcases mem_cons.mp hx with e | hx
   ·subst e;exact nE ok (by rw [<-hq.1]; exact hq.2.1)
   ·exact ih x hx
 exact all r x hx
theorem Zn {kvs:List (List Key×V)}(ok:kT P w H h) (e:H a=some (.dT kvs)):kvs.length<=sizeLine/\(a == sysModules)=false /\
  ∃xs,KT H kvs xs/\h.DictOfH (tupleKind (bp P w)) a xs:=qw ok (.inl e)
end
noncomputable def fH (H:Hp) (a:Addr) (y:V) (r:Option V):Prop:=
 (∃kvs k,Rd H a (.dK kvs)/\y=kV k/\r=bz kvs k)\/∃kvs k b,Rd H a (.dT kvs)/\y=.ref b/\H b=some (.tup (k.map kV))/\r=bz kvs k
noncomputable def gE (H:Hp) (a:Addr) (y v:V) (H':Hp):Prop:=
 (∃kvs k,H a=some (.dK kvs)/\y=kV k/\kvs.length < sizeLine/\H'=upd H a (.dK (putK kvs k v))) \/
 ∃kvs k b,H a=some (.dT kvs)/\y=.ref b/\H b=some (.tup (k.map kV))/\kvs.length < sizeLine/\H'=upd H a (.dT (putK kvs k v))
theorem fH.k {H:Hp}{a:Addr}{kvs:List (Key×V)}{k:Key}(e:H a=some (.dK kvs)):fH H a (kV k) (bz kvs k):=.inl ⟨kvs,k,.inl e,rfl,rfl⟩
theorem gE.k {H:Hp}{a:Addr}{kvs:List (Key×V)}{k:Key}{v:V}(e:H a=some (.dK kvs)) (hl:kvs.length < sizeLine):gE H a (kV k) v (upd H a (.dK (putK kvs k v))):=.inl ⟨kvs,k,e,rfl,hl,rfl⟩
section
variable {X:Cx}{pins:List (Addr×Obj)}{σ:St}{H:Hp}{s:Shared}{a:Addr}{y v:V}{u r:Value}{o:Option V}{A:Around}{E:Value->Shared->Prop}
theorem Inv.big (I:Inv X pins σ H s):sysModules < s.heap.objs.size:=by
 have h:mainGlobals < s.heap.objs.size:=(I.mod.glob.keeps I.bk).lt;exact Nat.lt_trans (by decide) h
theorem Hz {Q:Value->Shared->Prop}(hu:A.units+1 < cLine) (I:Inv X pins σ H s) (g:fH H a y (some v)) (ry:RelV y u) (h:∀w' s',Inv X pins σ H s'->RelV v w'->Q w' s') :
  wpAny (model X.prog X.w) A (getItem (.ref a) u) Q E s:=by
 rcases g with ⟨kvs,k,e,ey,l⟩ | ⟨kvs,k,b,e,ey,eb,l⟩
 ·subst ey;obtain⟨z,hd,vs,rel,dd⟩:=gH I.bV e;obtain⟨w',hw,yB⟩:=iG.some_of (v:=v) (o:=valueAt vs k) (by rw [l]; exact rel.val k);exact wpAny_getItem_of (jP ry) dd.mapOf hw (h w' _ (I.tok _) yB)
 ·subst ey;cases (show u=Value.ref b from ry);obtain⟨z,hd,xs,rel,dd⟩:=qw I.bV e;obtain⟨w',hw,yB⟩:=iG.some_of (v:=v) (o:=(atKey xs k).map (·.2)) (by rw [l]; exact rel.val k);obtain⟨p,hp,qx⟩:=Option.map_eq_some_iff.mp hw;refine wpAny_getItem_heap (tupleKind_room_in1 hu) (nE I.bV eb) dd hp ?_;rw [qx];exact h w' _ (I.tok _) yB
theorem Zo {Q:Value->Shared->Prop}(hu:A.units+1 < cLine) (I:Inv X pins σ H s) (g:fH H a y o) (ry:RelV y u) (h:∀s',Inv X pins σ H s'->Q (.bool o.isSome) s') :
  wpAny (model X.prog X.w) A (compareOp .In u (.ref a)) Q E s:=by
 rcases g with ⟨kvs,k,e,ey,l⟩ | ⟨kvs,k,b,e,ey,eb,l⟩
 ·subst ey;obtain⟨z,hd,vs,rel,dd⟩:=gH I.bV e;refine wpAny_in_of (jP ry) hd dd.mapOf ?_;rw [<-(rel.val k).gO,<-l];exact h _ (I.tok _)
 ·subst ey;cases (show u=Value.ref b from ry);obtain⟨z,hd,xs,rel,dd⟩:=qw I.bV e;refine wpAny_in_heap (tupleKind_room_in1 hu) (nE I.bV eb) hd dd ?_;have q:=(rel.val k).gO;rw [Option.isSome_map] at q;rw [<-q,<-l];exact h _ (I.tok _)
theorem PB {Q:Value->Shared->Prop}(hu:A.units+1 < cLine) (I:Inv X pins σ H s) (g:fH H a y o) (ry:RelV y u) (h:∀s',Inv X pins σ H s'->Q (.bool (!o.isSome)) s') :
  wpAny (model X.prog X.w) A (compareOp .NotIn u (.ref a)) Q E s:=by
 rcases g with ⟨kvs,k,e,ey,l⟩ | ⟨kvs,k,b,e,ey,eb,l⟩
 ·subst ey;obtain⟨z,hd,vs,rel,dd⟩:=gH I.bV e;refine wpAny_notIn_of (jP ry) hd dd.mapOf ?_;rw [<-(rel.val k).gO,<-l];exact h _ (I.tok _)
 ·subst ey;cases (show u=Value.ref b from ry);obtain⟨z,hd,xs,rel,dd⟩:=qw I.bV e;refine wpAny_notIn_heap (tupleKind_room_in1 hu) (nE I.bV eb) hd dd ?_;have q:=(rel.val k).gO;rw [Option.isSome_map] at q;rw [<-q,<-l];exact h _ (I.tok _)
theorem mn {h':Heap}{t':Nat}{ob:HO}(I:Inv X pins σ H s) (mu:YG (H a)) (hs:Heap.SameBut a s.heap h') (he:∃q,h'.get? a=some q) (new:cR X.prog X.w (upd H a ob) h' a ob) :
  Inv X pins σ (upd H a ob) {s with heap:=h',toks:=t'}:=
 I.write (x:=a) (e:=a) mu (.inl rfl) (λb q hb z=>(hs.2 b hb).trans z) he new
theorem nG {P:Program}{w:World}{H':Hp}{h':Heap}{kvs:List (Key×V)}{vs:List (Key×Value)}(z:kvs.length<=sizeLine) (hd:(a == sysModules)=false) (rel:KV kvs vs) (dd:h'.DictOf (bp P w) a vs) :
  cR P w H' h' a (.dK kvs):=⟨z,hd,vs,rel,dd⟩
theorem HB {H':Hp}{Q:Unit->Shared->Prop}(hu:A.units+1 < cLine) (I:Inv X pins σ H s) (g:gE H a y v H') (ry:RelV y u) (rv:RelV v r) (h:∀s',Inv X pins σ H' s'->Q () s') :
  wpAny (model X.prog X.w) A (setItem (.ref a) u r) Q E s:=by
 rcases g with ⟨kvs,k,e,ey,l,eH⟩ | ⟨kvs,k,b,e,ey,eb,l,eH⟩
 ·subst ey eH;obtain⟨z,hd,vs,rel,dd⟩:=jo I.bV e;have hz:vs.length<=sizeLine:=by rw [<-rel.length]; exact z
  have hl:(putK kvs k v).length<=sizeLine:=by have:=gp kvs k v; omega
  refine wpAny_setItem_pairs (hsz:=hz) (jP ry) dd λh' DK hs=>h _ ?_
  have he:∃q,h'.get? a=some q:=let ⟨q,_,_,hq,_⟩:=DK; ⟨q,hq⟩
  exact mn I (by rw [e]; exact True.intro) hs he (nG hl hd (rel.put k rv) DK)
 ·subst ey eH;cases (show u=Value.ref b from ry);obtain⟨z,hd,xs,rel,dd⟩:=Zn I.bV e;have hz:xs.length<=sizeLine:=by rw [<-Paired.length rel]; exact z
  have hl:(putK kvs k v).length<=sizeLine:=by have:=gp kvs k v; omega
  refine wpAny_setItem_heap (hsz:=hz) (tupleKind_room_in1 hu) (nE I.bV eb) dd λh' DK hs=>h _ ?_
  obtain⟨q,es,ep,hq,h2,h3,h4,_,h5⟩:=DK;refine mn I (by rw [e]; exact True.intro) hs ⟨q,hq⟩ ⟨hl,hd,_,(rel.put k eb rv).keeps λc ys ec=>?_,q,es,ep,hq,h2,h3,h4,h5⟩;rw [au (oH ec e (λz=>nomatch z))];exact ec
end
section
variable {X:Cx}{pins:List (Addr×Obj)}{σ:St}{H:Hp}{s:Shared}{a:Addr}{kvs:List (Key×V)}{k:Key}{u:Value}{A:Around}{E:Value->Shared->Prop}
theorem Yh {Q:Unit->Shared->Prop}(I:Inv X pins σ H s) (e:H a=some (.dK kvs)) (ry:RelV (kV k) u) (l:(bz kvs k).isSome=true) (h:∀s',Inv X pins σ (upd H a (.dK (dC kvs k))) s'->Q () s') :
  wpAny (model X.prog X.w) A (delItem (.ref a) u) Q E s:=by
 obtain⟨z,hd,vs,rel,dd⟩:=jo I.bV e;refine wpAny_delItem_slot dd.typeIs (by decide) PySem.F.slot_dict_delitem
  (call_meetsIn PySem.F.slot_dict_delitem dd.typeIs PySem.F.entry_dict_delitem (PySem.F.args_dict_delitem_2 _ _) (meets_dict_delitem_pairs (bp X.prog X.w) a (jP ry)) ⟨vs,dd,by rw [<-rel.length]; exact z,by rw [<-(rel.val k).gO]; exact l,λh' DK hs=>h _ ?_⟩)
 have he:∃q,h'.get? a=some q:=let ⟨q,_,_,hq,_⟩:=DK; ⟨q,hq⟩
 exact mn I (by rw [e]; exact True.intro) hs he (nG (Nat.le_trans (qv kvs k) z) hd (rel.drop k) DK)
theorem Zp {v:V}{more:List Value}{Q:Value->Shared->Prop}(I:Inv X pins σ H s) (e:H a=some (.dK kvs)) (ry:RelV (kV k) u) (l:bz kvs k=some v) (hm:more=[]\/∃x,more=[x])
  (h:∀w' s',Inv X pins σ (upd H a (.dK (dC kvs k))) s'->RelV v w'->Q w' s'):wpAny (model X.prog X.w) A (call (.builtin "dict.pop") (.ref a::u::more)) Q E s:=by
 obtain⟨z,hd,vs,rel,dd⟩:=jo I.bV e;obtain⟨w',hw,yB⟩:=iG.some_of (v:=v) (o:=valueAt vs k) (by rw [<-l]; exact rel.val k);have hp:(keyPart u).isSome=true:=by
  cases k with
  | inl i=>obtain⟨t,q⟩:=(show ∃t,u=Value.int i t from ry); subst q; rfl
  | inr x=>obtain⟨t,q⟩:=(show ∃t,u=Value.str x t from ry); subst q; rfl
 have ha:argsOk "dict.pop" ⟨.ref a::u::more,[]⟩:=by
  rcases hm with q | ⟨x,q⟩
  ·subst q; exact PySem.F.args_dict_pop_2 _ _
  ·subst q; exact PySem.F.args_dict_pop_3 _ _ _
 refine call_meetsIn PySem.F.slot_dict_pop dd.typeIs PySem.F.entry_dict_pop ha (meets_dict_pop_there (bp X.prog X.w) a (jP ry) more hm hp)
  ⟨vs,w',dd,by rw [<-rel.length]; exact z,hw,λh' DK hs=>h w' _ ?_ yB⟩
 have he:∃q,h'.get? a=some q:=let ⟨q,_,_,hq,_⟩:=DK; ⟨q,hq⟩
 exact mn I (by rw [e]; exact True.intro) hs he (nG (Nat.le_trans (qv kvs k) z) hd (rel.drop k) DK)
theorem UR {r:Value}{Q:Value->Shared->Prop}(I:Inv X pins σ H s) (e:H a=some (.dK kvs)) (ry:RelV (kV k) u) (l:bz kvs k=none) (h:∀s',Inv X pins σ H s'->Q r s') :
  wpAny (model X.prog X.w) A (call (.builtin "dict.pop") [.ref a,u,r]) Q E s:=by
 obtain⟨z,hd,vs,rel,dd⟩:=jo I.bV e;have hn:valueAt vs k=none:=iG.none_of (by rw [<-l]; exact rel.val k);have hp:(keyPart u).isSome=true:=by
  cases k with
  | inl i=>obtain⟨t,q⟩:=(show ∃t,u=Value.int i t from ry); subst q; rfl
  | inr x=>obtain⟨t,q⟩:=(show ∃t,u=Value.str x t from ry); subst q; rfl
 exact call_meetsIn PySem.F.slot_dict_pop dd.typeIs PySem.F.entry_dict_pop (PySem.F.args_dict_pop_3 _ _ _) (meets_dict_pop_default (bp X.prog X.w) a (jP ry) hd hp r) ⟨vs,dd,hn,h _ (I.tok _)⟩
theorem Zq {Q:Value->Shared->Prop}(I:Inv X pins σ H s) (e:Rd H a (.dK kvs)) (h:∀t s',Inv X pins σ H s'->Q (.int kvs.length t) s'):wpAny (model X.prog X.w) A (call (.builtin "len") [.ref a]) Q E s:=by
 obtain⟨z,hd,vs,rel,dd⟩:=gH I.bV e;refine call_len_dict hd dd (by rw [<-rel.length]; rw [sizeLine_eq] at z; omega) ?_;rw [<-rel.length];exact h _ _ (I.tok _)
end
noncomputable def US (i:Expr):Prop:=∀ov iv,subscripted i false ov iv=operate [ov,iv] (getItem ov iv)
theorem F6 {prog:Program}{w:World}{A:Around}{E:Value->Shared->Prop}{s:Shared}{env:Env}{value slice:Expr}{pos:Pos}{T id:String}{Q:Value->Shared->Prop}
  (hl:typeLookup (.type T) "__getitem__"=pure (some (.builtin id))) (hs:US slice)
  (h:wpAny (model prog w) A (eval value env) (λo s₁=>wpAny (model prog w) A (eval slice env) (λi s₂=>s₂.TypeIs o T/\wpAny (model prog w) A (getItem o i) Q E s₂) E s₁) E s) :
  wpAny (model prog w) A (eval (.Subscript value slice pos) env) Q E s:=by
 refine Subscript_ (wpAny_mono h (λo s₁ h₁=>wpAny_mono h₁ (λi s₂ h₂=>?_) λ_ _ x=>x) λ_ _ x=>x);obtain⟨hT,h₂⟩:=h₂;unfold subscriptTail;refine wpAny_bind ?_;rw [getitemInPython_of_ne hT.not_modules];refine wpAny_bind (wpAny_specialOf hT hl ?_);have fin:wpAny (model prog w) A (subscripted slice false o i) (λr s₃=>wpAny (model prog w) A (letTemporaryGo value o r >>= λ_=>pure r) Q E s₃) E s₂:=by
  rw [hs o i];exact wpAny_operating (wpAny_mono h₂ (λr s₃ h₃=>wpAny_bind (wpAny_letTemporaryGo (wpAny_pure h₃))) λ_ _ x=>x)
 first
  | exact wpAny_pure (wpAny_bind fin)
  | exact wpAny_bind (wpAny_pure (wpAny_bind fin))
  | exact wpAny_bind fin
theorem yL {X:Cx}{pins:List (Addr×Obj)}{σ:St}{H:Hp}{s:Shared}{a:Addr}{y:V}{o:Option V}(I:Inv X pins σ H s) (g:fH H a y o):s.TypeIs (.ref a) "dict":=by
 rcases g with ⟨kvs,k,e,_,_⟩ | ⟨kvs,k,b,e,_,_,_⟩
 ·obtain⟨_,_,vs,_,dd⟩:=gH I.bV e;exact dd.typeIs
 ·obtain⟨_,_,xs,_,dd⟩:=qw I.bV e;exact dd.typeIs
noncomputable def Q8 (td ty:TE):TE:=λσ H Q=>td σ H λx H1=>ty σ H1 λy H2=>∃a v,x=.ref a/\fH H2 a y (some v)/\Q v H2
noncomputable def Zr (ty td:TE):TE:=λσ H Q=>ty σ H λy H1=>td σ H1 λx H2=>∃a o,x=.ref a/\fH H2 a y o/\Q (.bl o.isSome) H2
noncomputable def F7 (ty td:TE):TE:=λσ H Q=>ty σ H λy H1=>td σ H1 λx H2=>∃a o,x=.ref a/\fH H2 a y o/\Q (.bl (!o.isSome)) H2
noncomputable def Q9 (td ty tv:TE):TS:=λD σ H=>tv σ H λv H1=>td σ H1 λx H2=>ty σ H2 λy H3=>∃a H4,x=.ref a/\gE H3 a y v H4/\D.nx σ H4
section
variable {X:Cx}{o i e value:Expr}{pos pos' adN:Pos}{td ty tv:TE}
theorem cf (hu:X.A.units+1 < cLine) (ho:PE X o td) (hi:PE X i ty) (hs:US i):PE X (.Subscript o i pos) (Q8 td ty):=by
 intro pins s σ H Q I h;refine F6 PySem.F.slot_dict_getitem.lookup hs (ck (ho pins s σ H _ I h) λu s1 ⟨x,H1,I1,rx,q1⟩=>ck (hi pins s1 σ H1 _ I1 q1) λiv s2 ⟨y,H2,I2,ry,a,v,ex,g,q2⟩=>?_);subst ex;obtain rfl:u=Value.ref a:=rx;exact⟨yL I2 g,Hz hu I2 g ry λw' s3 I3 yB=>⟨v,H2,I3,yB,q2⟩⟩
theorem UT (hu:X.A.units+1 < cLine) (hi:PE X i ty) (ho:PE X o td):PC X .In i o (Zr ty td):=by
 intro pins s σ H Q I h;refine ck (hi pins s σ H _ I h) λiv s1 ⟨y,H1,I1,ry,q1⟩=>ck (ho pins s1 σ H1 _ I1 q1) λu s2 ⟨x,H2,I2,rx,a,ov,ex,g,q2⟩=>?_
 subst ex;obtain rfl:u=Value.ref a:=rx;exact Zo hu I2 g ry λs3 I3=>⟨.bl ov.isSome,H2,I3,rfl,q2⟩
theorem nH (hu:X.A.units+1 < cLine) (hi:PE X i ty) (ho:PE X o td):PC X .NotIn i o (F7 ty td):=by
 intro pins s σ H Q I h;refine ck (hi pins s σ H _ I h) λiv s1 ⟨y,H1,I1,ry,q1⟩=>ck (ho pins s1 σ H1 _ I1 q1) λu s2 ⟨x,H2,I2,rx,a,ov,ex,g,q2⟩=>?_
 subst ex;obtain rfl:u=Value.ref a:=rx;exact PB hu I2 g ry λs3 I3=>⟨.bl (!ov.isSome),H2,I3,rfl,q2⟩
theorem cH (hu:X.A.units+1 < cLine) (ho:PE X o td) (hi:PE X i ty) (hv:PE X value tv) (hs:swapsWith value (some (.Subscript o i pos')) pos.line X.env=pure false) :
  PS X (.Assign [.Subscript o i pos'] value pos) (Q9 td ty tv):=by
 intro pins s σ H D I h;refine wpAny_Assign_Subscript (ck (hv pins s σ H _ I h) λr s1 ⟨v,H1,I1,rv,q1⟩=>ck (ho pins s1 σ H1 _ I1 q1) λu s2 ⟨x,H2,I2,rx,q2⟩=>ck (hi pins s2 σ H2 _ I2 q2) λiv s3 ⟨y,H3,I3,ry,a,H4,ex,g,q3⟩=>?_) hs;subst ex;obtain rfl:u=Value.ref a:=rx;exact HB hu I3 g ry rv λs4 I4=>⟨σ,H4,I4,q3⟩
end
theorem JX {P:Program}{w:World}{H:Hp}(h:Heap) (hb:sysModules < h.objs.size):cR P w H (h.push {cls:=.type "dict",data:=.dict #[]}) h.objs.size (.dK []):=
 ⟨Nat.zero_le _,beq_eq_false_iff_ne.mpr (Ne.symm (Nat.ne_of_lt hb)),[],.nil,Heap.DictOf.new h⟩
noncomputable def JY:TE:=λ_ H Q=>∀p,H p=none->Q (.ref p) (upd H p (.dK []))
section
variable {X:Cx}{pos:Pos}
theorem gq:PE X (.Dict [] [] pos) JY:=λpins s σ H Q I h=>
 wpAny_Dict_empty ⟨.ref s.heap.objs.size,_,I.laid (a:=s.heap.objs.size) (o:=.dK []) (t':=s.toks) (λ_ _ q=>get?_push_of_some _ q) (Nat.le_refl _) (JX s.heap I.big),rfl,h _ (I.bV.fresh (Nat.le_refl _))⟩
end
structure M1 (X:Cx) (o:Expr) (m:Str) (apos:Pos) (e:Expr) (eC:Pos):Prop where
 base:attributeBase o m X.env (eval o X.env)=eval o X.env
 bO:((backTo eC (starEach [e] X.env)).all (λx=>!x.1)&&(backToKw eC (keywordEach [] X.env)).all (λx=>x.1.isSome)
  && decide (([e]:List Expr).length+([]:List Keyword).length+(if ([]:List Keyword).isEmpty then 0 else 1) < 30))=true
 line:(apos.endLine == eC.line)=true
 trees:backTo eC (starEach [e] X.env)=[(false,eval e X.env)]
structure M2 (X:Cx) (o:Expr) (m:Str) (apos:Pos) (e f:Expr) (eC:Pos):Prop where
 base:attributeBase o m X.env (eval o X.env)=eval o X.env
 bO:((backTo eC (starEach [e,f] X.env)).all (λx=>!x.1)&&(backToKw eC (keywordEach [] X.env)).all (λx=>x.1.isSome)
  && decide (([e,f]:List Expr).length+([]:List Keyword).length+(if ([]:List Keyword).isEmpty then 0 else 1) < 30))=true
 line:(apos.endLine == eC.line)=true
 trees:backTo eC (starEach [e,f] X.env)=[(false,eval e X.env),(false,eval f X.env)]
noncomputable def JZ (H:Hp) (a:Addr):Prop:=(∃kvs,Rd H a (.dK kvs))\/∃kvs,Rd H a (.dT kvs)
theorem J0 {X:Cx}{pins:List (Addr×Obj)}{σ:St}{H:Hp}{s:Shared}{a:Addr}(I:Inv X pins σ H s) (d:JZ H a) :
  s.TypeIs (.ref a) "dict"/\(∀b,Value.ref a=.ref b->∃ob,s.heap.get? b=some ob/\ob.dict=none)/\(a == sysModules)=false:=by
 rcases d with ⟨kvs,e⟩ | ⟨kvs,e⟩
 ·obtain⟨_,hd,vs,_,dd⟩:=gH I.bV e;refine⟨dd.typeIs,λb q=>?_,hd⟩;cases q;obtain⟨ob,_,_,h1,h2,_⟩:=dd;exact⟨ob,h1,h2.2.1⟩
 ·obtain⟨_,hd,xs,_,dd⟩:=qw I.bV e;refine⟨dd.typeIs,λb q=>?_,hd⟩;cases q;obtain⟨ob,_,_,h1,h2,_⟩:=dd;exact⟨ob,h1,h2.2.1⟩
section
variable {X:Cx}{pins:List (Addr×Obj)}{σ:St}{H:Hp}{s:Shared}{a:Addr}{y d:V}{u r:Value}{o:Option V}{A:Around}{E:Value->Shared->Prop}
theorem UU {Q:Value->Shared->Prop}(hu:A.units+1 < cLine) (I:Inv X pins σ H s) (g:fH H a y o) (ry:RelV y u) (rd:RelV d r) (h:∀w' s',Inv X pins σ H s'->RelV (o.getD d) w'->Q w' s') :
  wpAny (model X.prog X.w) A (call (.builtin "dict.get") [.ref a,u,r]) Q E s:=by
 rcases g with ⟨kvs,k,e,ey,l⟩ | ⟨kvs,k,b,e,ey,eb,l⟩
 ·subst ey;obtain⟨z,hd,vs,rel,dd⟩:=gH I.bV e;refine call_meetsIn PySem.F.slot_dict_get dd.typeIs PySem.F.entry_dict_get (PySem.F.args_dict_get_3 _ _ _) (meets_dict_get_default (bp X.prog X.w) a (jP ry) hd r) ⟨_,dd.mapOf,h _ _ (I.tok _) ?_⟩;rw [l];exact(rel.val k).getD rd
 ·subst ey;cases (show u=Value.ref b from ry);obtain⟨z,hd,xs,rel,dd⟩:=qw I.bV e;refine call_meetsIn PySem.F.slot_dict_get dd.typeIs PySem.F.entry_dict_get (PySem.F.args_dict_get_3 _ _ _) (meetsH_dict_get_default (tupleKind (bp X.prog X.w)) a b hd r) ⟨tupleKind_room_in1 hu,k,xs,nE I.bV eb,dd,h _ _ (I.tok _) ?_⟩;rw [l];exact(rel.val k).getD rd
end
noncomputable def J1 (td ty tx:TE):TE:=λσ H Q=>td σ H λx H1=>∃a,x=.ref a/\JZ H1 a/\ty σ H1 λy H2=>tx σ H2 λz H3=>∃o,fH H3 a y o/\Q (o.getD z) H3
noncomputable def J2 (td ty tx:TE):TE:=λσ H Q=>td σ H λx H1=>∃a,x=.ref a/\JZ H1 a/\ty σ H1 λy H2=>tx σ H2 λz H3=>∃kvs k,H3 a=some (.dK kvs)/\y=kV k /\
 (∀v,bz kvs k=some v->Q v (upd H3 a (.dK (dC kvs k))))/\(bz kvs k=none->Q z H3)
section
variable {X:Cx}{o e f:Expr}{apos eC:Pos}{td ty tx:TE}
theorem qy (hu:X.A.units+1 < cLine) (ho:PE X o td) (he:PE X e ty) (hf:PE X f tx) (m:M2 X o "get" apos e f eC):PE X (.Call (.Attribute o "get" apos) [e,f] [] eC) (J1 td ty tx):=by
 intro pins s σ H Q I h;refine wpAny_Call_method m.base m.bO m.line PySem.F.plainAttrs_dict PySem.F.slot_dict_get PySem.F.type_dict_get (ck (ho pins s σ H _ I h) λu s1 ⟨x,H1,I1,rx,a,ex,d,q1⟩=>?_);subst ex;obtain rfl:u=Value.ref a:=rx;obtain⟨t1,t2,_⟩:=J0 I1 d;refine⟨t1,t2,?_⟩;rw [m.trees];refine Calls.callWith_builtin rfl (Calls.evalArgs_plain (Calls.spliced_cons (ck (he pins s1 σ H1 _ I1 q1) λiv s2 ⟨y,H2,I2,ry,q2⟩=>
  Calls.spliced_cons (ck (hf pins s2 σ H2 _ I2 q2) λfv s3 ⟨z,H3,I3,rz,ov,g,q3⟩=>Calls.spliced_nil ?_))))
 exact UU hu I3 g ry rz λw' s4 I4 yB=>⟨_,H3,I4,yB,q3⟩
theorem J3 (ho:PE X o td) (he:PE X e ty) (hf:PE X f tx) (m:M2 X o "pop" apos e f eC):PE X (.Call (.Attribute o "pop" apos) [e,f] [] eC) (J2 td ty tx):=by
 intro pins s σ H Q I h;refine wpAny_Call_method m.base m.bO m.line PySem.F.plainAttrs_dict PySem.F.slot_dict_pop PySem.F.type_dict_pop (ck (ho pins s σ H _ I h) λu s1 ⟨x,H1,I1,rx,a,ex,d,q1⟩=>?_);subst ex;obtain rfl:u=Value.ref a:=rx;obtain⟨t1,t2,_⟩:=J0 I1 d;refine⟨t1,t2,?_⟩;rw [m.trees];refine Calls.callWith_builtin rfl (Calls.evalArgs_plain (Calls.spliced_cons (ck (he pins s1 σ H1 _ I1 q1) λiv s2 ⟨y,H2,I2,ry,q2⟩=>
  Calls.spliced_cons (ck (hf pins s2 σ H2 _ I2 q2) λfv s3 ⟨z,H3,I3,rz,kvs,k,ea,ey,q3,q4⟩=>Calls.spliced_nil ?_))))
 subst ey
 cases l:bz kvs k with
 | some v=>exact Zp I3 ea ry l (.inr ⟨fv,rfl⟩) λw' s4 I4 yB=>⟨v,_,I4,yB,q3 v l⟩
 | none=>exact UR I3 ea ry l λs4 I4=>⟨z,H3,I4,rz,q4 l⟩
end
section
variable {X:Cx}{pins:List (Addr×Obj)}{σ:St}{H:Hp}{s:Shared}{a:Addr}{kvs:List (Key×V)}{A:Around}{E:Value->Shared->Prop}
theorem J4 {Q:Value->Shared->Prop}(I:Inv X pins σ H s) (e:Rd H a (.dK kvs)) (h:∀p s',H p=none->Inv X pins σ (upd H p (.dK kvs)) s'->Q (.ref p) s'):wpAny (model X.prog X.w) A (call (.type "dict") [.ref a]) Q E s:=by
 obtain⟨z,hd,vs,rel,dd⟩:=gH I.bV e;refine kt_call_dict hd dd (by rw [<-rel.length]; exact z) λh' DK hs=>?_
 refine h _ _ (I.bV.fresh (Nat.le_refl _)) (I.laid (a:=s.heap.objs.size) (o:=.dK kvs) (t':=s.toks) (λb q hq=>?_) (Nat.le_refl _) (nG z (beq_eq_false_iff_ne.mpr (Ne.symm (Nat.ne_of_lt I.big))) rel DK));exact(hs.2 b (Nat.ne_of_lt (lt_size hq))).trans (get?_push_of_some _ hq)
end
section
variable {X:Cx}{pins:List (Addr×Obj)}{σ:St}{H:Hp}{s:Shared}{a:Addr}{y:V}{u:Value}{A:Around}{E:Value->Shared->Prop}
end
section
variable {X:Cx}
theorem gP:fK X (.builtin "len") (λxs H Q=>∃a kvs,xs=[V.ref a]/\H a=some (.dK kvs)/\Q (.int kvs.length) H):=by
 intro pins s σ H xs us Q I r h;obtain⟨a,kvs,rfl,ha,q⟩:=h;obtain⟨u,rfl,ru⟩:=vals1 r;cases ru;exact Zq I (.inl ha) λt s' I'=>⟨.int kvs.length,H,I',⟨t,rfl⟩,q⟩
end
section
variable {κ:Type} [DecidableEq κ]
theorem jQ {kvs:List (κ×V)}{k:κ}(h:bz kvs k=none):¬k∈kvs.map (·.1):=by
 intro m;obtain⟨p,hp,e⟩:=mem_map.mp m;have q:(kvs.any λkv=>decide (kv.1=k))=true:=List.any_eq_true.mpr ⟨p,hp,decide_eq_true e⟩;rw [eO,h] at q;exact absurd q (by simp)
theorem qa {kvs:List (κ×V)}{k:κ}{v:V}(h:bz kvs k=some v):k∈kvs.map (·.1):=by
 have q:(kvs.any λkv=>decide (kv.1=k))=true:=by
  rw [eO,h]
  all_goals rfl
 obtain⟨p,hp,e⟩:=List.any_eq_true.mp q;exact mem_map.mpr ⟨p,hp,of_decide_eq_true e⟩
theorem HC {p:κ×V}{r:List (κ×V)}{k:κ}(e:p.1=k):dC (p::r) k=dC r k:=by
 unfold dC;rw [List.filter_cons,if_neg (by simp [e])]
theorem uf {p:κ×V}{r:List (κ×V)}{k:κ}(e:¬p.1=k):dC (p::r) k=p::dC r k:=by
 unfold dC;rw [List.filter_cons,if_pos (by simp [e])]
theorem yM:∀{kvs:List (κ×V)}{k:κ},¬k∈kvs.map (·.1)->dC kvs k=kvs
 | [],_,_=>rfl
 | p::r,k,h=>by
  have h':¬k∈r.map (·.1):=λm=>by
   obtain⟨q,hq,e⟩:=mem_map.mp m;exact h (mem_map.mpr ⟨q,mem_cons.mpr (Or.inr hq),e⟩)
  rw [uf λe=>h (mem_map.mpr ⟨p,mem_cons.mpr (Or.inl rfl),e⟩),yM h']
theorem ug {kvs:List (κ×V)}{k:κ}{p:κ×V}(h:p∈dC kvs k):p∈kvs:=(List.mem_filter.mp h).1
theorem qz:∀{kvs:List (κ×V)}{k:κ},(kvs.map (·.1)).Nodup->((dC kvs k).map (·.1)).Nodup
 | [],_,_=>List.nodup_nil
 | p::r,k,h=>by
  have h:(p.1::r.map (·.1)).Nodup:=h;obtain⟨h1,h2⟩:=List.nodup_cons.mp h
  by_cases e:p.1=k
  ·rw [HC e];exact qz h2
  ·rw [uf e];show(p.1::(dC r k).map (·.1)).Nodup;refine List.nodup_cons.mpr ⟨λm=>h1 ?_,qz h2⟩;obtain⟨q,hq,eq⟩:=mem_map.mp m;exact mem_map.mpr ⟨q,ug hq,eq⟩
end
theorem gc:bootBuiltins "sorted"=some (.builtin "sorted"):=by decide +kernel
theorem J5:bootBuiltins "any"=some (.builtin "any"):=by decide +kernel
theorem qA:∀{xs:List V}{us:List Value},xs.length=us.length->(∀(i:Nat) x u,xs[i]?=some x->us[i]?=some u->RelV x u)->Vals xs us
 | [],[],_,_=>.nil
 | [],_::_,h,_=>by simp at h
 | _::_,[],h,_=>by simp at h
 | x::xs,u::us,h,k=>.cons (k 0 x u rfl rfl) (qA (by simpa using h) λi y v a b=>k (i+1) y v (by simpa using a) (by simpa using b))
theorem vO {k:Key}{v:Value}(h:lV k v=true):RelV (kV k) v:=by
 rcases bZ h with ⟨i,t,rfl,rfl⟩ | ⟨x,t,rfl,rfl⟩ <;> exact⟨t,rfl⟩
theorem KV.get:∀{kvs:List (Key×V)}{vs:List (Key×Value)}{i:Nat}{p:Key×V}{q:Key×Value},KV kvs vs->kvs[i]?=some p->vs[i]?=some q->p.1=q.1
 | _,_,_,_,_,.nil,h,_=>by simp at h
 | _,_,0,_,_,.cons r _,h,h'=>by
  simp at h h';subst h h';exact r.1
 | _,_,i+1,_,_,.cons _ t,h,h'=>KV.get (i:=i) t (by simpa using h) (by simpa using h')
noncomputable def gT (kvs:List (Key×V)):List V:=kvs.map λkv=>kV kv.1
theorem uh {P:Program}{w:World}{kvs:List (Key×V)}{vs:List (Key×Value)}{us:List Value}(rel:KV kvs vs) (hl:us.length=vs.length) (h:∀(j:Nat) v,us[j]?=some v->∃k x,vs[j]?=some (k,x)/\(bp P w).is k v=true):Vals (gT kvs) us:=by
 refine qA (by rw [gT,length_map,rel.length,hl]) λi x u hx hu=>?_
 obtain⟨k,z,h1,h2⟩:=h i u hu;rw [gT,getElem?_map] at hx
 cases e:kvs[i]? with
 | none=>rw [e] at hx; cases hx
 | some p=>
  rw [e] at hx;cases hx;have:=rel.get e h1;dsimp only at this ⊢;rw [this];exact vO h2
section
variable {X:Cx}
theorem DL (hc:X.calm=true):fK X (.type "list") (λxs H Q=>∃p kvs,xs=[.ref p]/\Rd H p (.dK kvs)/\∀l,H l=none->Q (.ref l) (upd H l (.lst (gT kvs)))):=by
 intro pins s σ H xs us Q I r h;obtain⟨p,kvs,rfl,hq,q⟩:=h;obtain⟨u,rfl,rx⟩:=vals1 r;cases rx;obtain⟨z,hd,vs,rel,dd⟩:=gH I.bV hq;obtain⟨ep,dat⟩:=dd.dictAt;refine PySem.W.kdl_call (PySem.W.kdl_dict hd) (I.ok.hd hc) dat (by rw [<-rel.length]; exact z) λh' tk vP c' kp e it=>?_
 have hv:Vals (gT kvs) vP.toList:=uh (P:=X.prog) (w:=X.w) rel (by rw [Array.length_toList]; exact it.1) λj v hj=>it.2 j v (by rw [<-Array.getElem?_toList]; exact hj)
 exact⟨.ref s.heap.objs.size,_,I.laid (t':=tk) kp (Nat.le_refl _) (show cR X.prog X.w _ h' _ (.lst (gT kvs)) from⟨by rw [gT,length_map]; exact z,vP.toList,c',hv,by simpa using e⟩),rfl,q _ (I.bV.fresh (Nat.le_refl _))⟩
theorem i_:fK X (.builtin "sorted") (λxs H Q=>∃(p:Addr) (ns:List Int),xs=[.ref p]/\ba X.K H p (ns.map V.int)/\ns.length < 64/\∀(l:Addr) (pJ:List Int),H l=none->pJ.Perm ns->pJ.Pairwise (·<=·)->Q (.ref l) (upd H l (.lst (pJ.map V.int)))):=by
 intro pins s σ H xs us Q I r h;obtain⟨p,ns,rfl,hq,h64,q⟩:=h;obtain⟨u,rfl,rx⟩:=vals1 r;cases rx;obtain⟨bF,rv,pl,hz⟩:=I.list hq;have hl:=rv.length;rw [length_map] at hl;refine sorted_ints (vs:=bF) pl.isList (intsAre_of rv) (by omega) λout pJ a1 a2 a3=>?_
 obtain⟨e,he⟩:=sortedAll_at s.heap bF out;have hp:=a2.length_eq;exact⟨.ref (s.heap.objs.size+1),_,I.laid (t':=s.toks) (λb o hb=>sortedAll_old hb) (Nat.le_succ _) (show cR X.prog X.w _ _ _ (.lst (pJ.map V.int)) from⟨by rw [length_map]; exact Nat.le_of_lt (aG (by omega)),out.toList,e,iJ a1,by simpa [seqObj] using he⟩),rfl,q _ pJ (I.bV.fresh (Nat.le_succ _)) a2 a3⟩
end
section
variable {X:Cx}{pins:List (Addr×Obj)}{σ:St}{H:Hp}{s:Shared}{a:Addr}{kvs:List (Key×V)}{o:Obj}
theorem Inv.freeze (I:Inv X pins σ H s) (e:H a=some (.dK kvs)):∃o,s.heap.get? a=some o/\Inv X pins σ (upd H a (.fI o (.dK kvs))) s:=by
 obtain⟨z,hd,vs,rel,dd⟩:=jo I.bV e;obtain⟨o,es,ep,ho,hr⟩:=id dd;have this:Inv X pins σ (upd H a (.fI o (.dK kvs))) {s with heap:=s.heap,toks:=s.toks}:=I.write (x:=a) (e:=a) (by rw [e]; exact True.intro) (.inl rfl) (λb q _ h=>h) ⟨o,ho⟩ (show cR X.prog X.w _ s.heap a (.fI o (.dK kvs)) from⟨ho,z,hd,vs,rel,dd⟩);exact⟨o,ho,this⟩
theorem Inv.adW (I:Inv X pins σ H s) (e:H a=some (.fI o (.dK kvs))) (h0:∀o u,X.H₀ a≠some (.fI o u)):Inv X pins σ (upd H a (.dK kvs)) s where
 ok:=I.ok
 os:=I.os
 bare:=I.bare
 base:={
  keep:=I.base.keep
  slot:=I.base.slot
  free:=λb q h1 h2 h3=>by
   have:=I.base.free b q h1 h2 h3;rw [au (aC e this).symm];exact this
  there:=I.base.there
  sN:=λb xs h=>by
   have:=I.base.sN b xs h;rw [au (oH this e (λz=>nomatch z))];exact this
  qh:=λb q u h=>by
   have n:b≠a:=λz=>by
    subst z;exact h0 _ _ h
   rw [au n];exact I.base.qh b q u h
  sO:=λb ps h=>by
   obtain⟨more,h2⟩:=I.base.sO b ps h;refine⟨more,?_⟩;rw [au (oH h2 e (λz=>nomatch z))];exact h2}
 loc:=I.loc
 cell:=I.cell
 free:=by rw [au (aC e I.free).symm]; exact I.free
 gi:=λx c h=>by rw [au (aC e (I.gi x c h)).symm]; exact I.gi x c h
 pin:=λp hp=>by
  obtain⟨h1,h2,h3⟩:=I.pin p hp;exact⟨h1,by rw [au (aC e h2).symm]; exact h2,h3⟩
 bV:=λb q h=>by
  by_cases hb:b=a
  ·subst hb;rw [ae] at h;cases h;obtain⟨_,h2⟩:=I.bV b _ e;exact h2
  ·rw [au hb] at h;refine(I.bV b q h).Dq (λ_ _ _ r=>r) (λc r=>?_) λc xs r=>?_
   ·rw [au (oH r e (λz=>nomatch z))];exact r
   ·rw [au (oH r e (λz=>nomatch z))];exact r
 len:=I.len
noncomputable def PD (H₀:Hp) (a:Addr) (kvs:List (Key×V)) (H H':Hp):Prop:=(∀o u,H₀ a≠some (.fI o u))/\(∃o,H a=some (.fI o (.dK kvs)))/\H'=upd H a (.dK kvs)
theorem Inv.J6 (I:Inv X pins σ H s) {H':Hp}(t:PD X.H₀ a kvs H H'):Inv X pins σ H' s:=by
 obtain⟨h0,⟨o,e⟩,rfl⟩:=t;exact I.adW e h0
end
noncomputable def Itd (a:Addr) (o:Obj) (kvs:List (Key×V)):It:=
 ⟨λi H=>i < kvs.length/\H a=some (.fI o (.dK kvs)),λi H x H'=>H'=H/\∃kv,kvs[i]?=some kv/\x=kV kv.1,λi H=>kvs.length<=i/\H a=some (.fI o (.dK kvs))⟩
theorem HD {P:Program}{w:World}{K:Frag}{tg:Expr}{a it:Addr}{o:Obj}{kvs:List (Key×V)}{vs:List (Key×Value)}{ep:Nat}(hd:(a == sysModules)=false) (rel:KV kvs vs)
  (dat:∀h:Heap,h.get? a=some o->h.DictAt (bp P w) a vs ep):Turn P w K tg (Itd a o kvs) [it] it (λi h=>h.IsKeyIter it a i vs.length ep) where
 mem:=by simp
 obj:=λi h st b hb=>by
  have e:b=it:=by simpa using hb
  subst e;obtain⟨o,e,c,d⟩:=st;exact⟨o,e,λv z=>by rw [d] at z; cases z⟩
 keep:=λi h h' st k=>st.at λo e=>k it (by simp) o e
 item:=by
  intro X hP hw hK hc i pins s σ H E I hf st hg;subst hP hw hK;obtain⟨hi,ha⟩:=hg;obtain⟨ho,_⟩:=I.bV a _ ha;have hv:i < vs.length:=by rw [<-rel.length]; exact hi
  obtain⟨f0,f1,f2,f3,f4,f5⟩:=hf it (by simp);refine wpAny_pyNext_dict_item st (dat _ ho) (k:=vs[i].1) (v:=vs[i].2) (getElem?_eq_getElem hv) λkey h' hk Hq sb=>?_
  have I1:Inv X pins σ H {s with heap:=h'}:=I.turned (t':=s.toks) (λb o hb e=>(sb.2 b hb).trans e) f0 f1 f3 f4 f5;have ek:=rel.get (getElem?_eq_getElem hi) (getElem?_eq_getElem hv);refine⟨key,rfl,letGo_keyiter Hq ⟨kV kvs[i].1,H,I1,?_,⟨rfl,kvs[i],getElem?_eq_getElem hi,rfl⟩,Hq,λb hb=>(hf b hb).1⟩⟩;rw [ek];exact vO hk
 done:=by
  intro X hP hw hK hc i pins s σ H E I hf st hg;subst hP hw hK;obtain⟨hi,ha⟩:=hg;obtain⟨ho,_⟩:=I.bV a _ ha;obtain⟨f0,f1,f2,f3,f4,f5⟩:=hf it (by simp);have hl:=rel.length;exact wpAny_pyNext_dict_end (I.ok.hd hc) st (dat _ ho) (List.getElem?_eq_none (by omega)) λh' eb=>⟨rfl,I.turned (t':=s.toks) (λb o hb e=>eb b o hb e) f0 f1 f3 f4 f5⟩
 self:=λ_ _ _ _ _ st h=>wpAny_pyIter_keyiter st h
noncomputable def Q_ (tl:TE):TI:=λσ H R=>tl σ H λx H1=>∃a kvs,x=.ref a/\H1 a=some (.dK kvs)/\∀o,R (Itd a o kvs) (upd H1 a (.fI o (.dK kvs)))
theorem vQ {X:Cx}{tg l:Expr}{tl:TE}(hl:PE X l tl):PI X tg l (Q_ tl):=by
 intro pins s σ H R I h;refine ck (hl pins s σ H _ I h) λv s1 ⟨x,H1,I1,r1,q1⟩=>?_
 obtain⟨a,kvs,e,ha,q⟩:=q1;subst e;cases r1;obtain⟨z,hd,vs,rel,dd⟩:=jo I1.bV ha;obtain⟨o,ho,I2⟩:=I1.freeze ha;obtain⟨ep,dat⟩:=dd.dictAt;have UW:∀h:Heap,h.get? a=some o->h.DictAt (bp X.prog X.w) a vs ep:=λh e=>by
  obtain⟨o',es,h1,h2⟩:=dat;rw [ho] at h1;cases h1;exact⟨o,es,e,h2⟩
 refine wpAny_pyIter_dict hd dat ?_;refine⟨s1.heap.objs.size,[s1.heap.objs.size],_,_,_,rfl,I2.kept (t':=s1.toks) λb o e=>get?_push_of_some _ e,HD hd rel UW,⟨_,get?_push_size _ rfl,rfl,rfl⟩,λb hb=>?_,q o⟩;have e:b=s1.heap.objs.size:=by simpa using hb
 subst e;exact I2.Jd (Nat.le_refl _) (I2.bV.fresh (Nat.le_refl _))
noncomputable def Zs (H₀:Hp) (D:Ends):Ends:={nx:=λσ H=>D.nx σ H\/∃a kvs H',PD H₀ a kvs H H'/\D.nx σ H',rt:=λv H=>D.rt v H\/∃a kvs H',PD H₀ a kvs H H'/\D.rt v H',bk:=D.bk,ct:=D.ct}
noncomputable def Ra (H₀:Hp) (t:TS):TS:=λD σ H=>t (Zs H₀ D) σ H
theorem vR {X:Cx}{st:Stmt}{t:TS}(h:PS X st t):PS X st (Ra X.H₀ t):=λpins s σ H D I q=>by
 refine ck (h pins s σ H _ I q) λf s' h=>?_
 cases f with
 | next=>
  obtain⟨σ',H',i,d⟩:=h;rcases d with d | ⟨a,kvs,H2,th,d⟩
  ·exact⟨σ',H',i,d⟩
  ·exact⟨σ',H2,i.J6 th,d⟩
 | brk=>exact h
 | cont=>exact h
 | ret u=>
  obtain⟨v,σ',H',i,r,d⟩:=h;rcases d with d | ⟨a,kvs,H2,th,d⟩
  ·exact⟨v,σ',H',i,r,d⟩
  ·exact⟨v,σ',H2,i.J6 th,r,d⟩
theorem PF {a:Addr}{o:Obj}{kvs:List (Key×V)}{g:TG}{tb:TS}{D:Ends}{σ:St}{H:Hp}(Pv:Nat->St->Hp->Prop) (h0:Pv 0 σ H) (hl:∀i σ H,i<=kvs.length->Pv i σ H->H a=some (.fI o (.dK kvs)))
  (hs:∀i kv σ H,kvs[i]?=some kv->Pv i σ H->g (kV kv.1) σ H λσ2 H2=>tb {D with nx:=Pv (i+1),ct:=Pv (i+1),bk:=D.nx} σ2 H2) (hd:∀σ H,Pv kvs.length σ H->D.nx σ H):JS (Itd a o kvs) g tb D σ H:=by
 refine⟨λi m σ H=>m=kvs.length - i/\i<=kvs.length/\Pv i σ H,⟨kvs.length,by simp,Nat.zero_le _,h0⟩,?_⟩;rintro i m σ H ⟨rfl,hi,p⟩;have q:=hl i σ H hi p
 by_cases hU:i < kvs.length
 ·refine .inr ⟨⟨hU,q⟩,Pv (i+1),λσ' H' p'=>⟨kvs.length - (i+1),by omega,rfl,hU,p'⟩,λx H' y=>?_⟩;obtain⟨rfl,kv,e,rfl⟩:=y;exact hs i kv σ _ e p
 ·have e:i=kvs.length:=by omega
  subst e;exact .inl ⟨⟨Nat.le_refl _,q⟩,hd σ H p⟩
section
variable {prog:Program}{w:World}{A:Around}{E:Value->Shared->Prop}{s:Shared}
theorem vS {d:Addr}{kvs:List (Key×Value)}{ep:Nat}{Q:List Value->Shared->Prop}(hh:A.handled=none) (lo:(d == sysModules)=false) (dat:s.heap.DictAt (bp prog w) d kvs ep) (hn:kvs.length<=sizeLine)
  (h:∀h' tk (vs:List Value),(∀b o,s.heap.get? b=some o->h'.get? b=some o)->s.heap.objs.size < h'.objs.size->vs.length=kvs.length->(∀(j:Nat) v,vs[j]?=some v->∃k x,kvs[j]?=some (k,x)/\(bp prog w).is k v=true)->Q vs {s with heap:=h',toks:=tk}) :
  wpAny (model prog w) A (collect (.ref d)) Q E s:=by
 unfold collect;refine wpAny_bind (wpAny_runValue (codeAny_builtin entry_proto_collect' ?_));show wpAny _ _ (do again (.builtin "list.__iadd__" ⟨[<-newList [],.ref d],[]⟩)) _ _ s;refine wpAny_bind (wpAny_newList (wpAny_pure ⟨Code.quiet_builtin _ (by decide +kernel),codeAny_builtin entry_list_iadd' ?_⟩));show wpAny _ _ (Builtin.List.listExtendWith (.ref s.heap.objs.size) (.ref d) (.ref s.heap.objs.size)) _ _ {s with heap:=s.heap.push (seqObj "list" #[] 0)};rw [Around.under_plainId (by decide +kernel)];have hU:=dat.lt_size;refine PySem.W.kdl_extend (s:={s with heap:=s.heap.push (seqObj "list" #[] 0)}) (R:=λr s'=>match r with
  | .ok (.ret v)=>wpAny (model prog w) A (match v with
   | .ref a=>do
    let o <-load a
    match o.data with
    | .seq xs _=>pure xs.toList
    | _=>unsupported "internal:collect"
   | _=>unsupported "internal:collect") Q E s'
  | .ok _=>False
  | .error e=>E e s') (PySem.W.kdl_dict (kvs:=kvs) (ep:=ep) lo) hh (dat.push _) s.heap.objs.size (Nat.ne_of_gt hU) (Nat.ne_of_gt hU) (.ref s.heap.objs.size) 0 (get?_push_size _ rfl) (λh' tk acc c kp hS it=>?_) hn
 show wpAny (model prog w) A (do
   let o <-load s.heap.objs.size
   match o.data with
   | .seq xs _=>pure xs.toList
   | _=>unsupported "internal:collect") Q E {s with heap:=h',toks:=tk}
 refine wpAny_bind (wpAny_load hS ?_);exact wpAny_pure (h h' tk acc.toList (λb o e=>kp b o (Nat.ne_of_lt (lt_size e)) (get?_push_of_some _ e)) (lt_size hS) (by rw [Array.length_toList]; exact it.1) λj v e=>it.2 j v (by rw [<-Array.getElem?_toList]; exact e))
end
section
variable {X:Cx}
theorem ja (hc:X.calm=true):fK X (.builtin "sorted") (λxs H Q=>∃(p:Addr) (kvs:List (Key×V)) (ns:List Int),xs=[.ref p]/\Rd H p (.dK kvs)/\gT kvs=ns.map V.int/\ns.length < 64/\∀(l:Addr) (pJ:List Int),H l=none->pJ.Perm ns->pJ.Pairwise (·<=·)->Q (.ref l) (upd H l (.lst (pJ.map V.int)))):=by
 intro pins s σ H xs us Q I r h;obtain⟨p,kvs,ns,rfl,hq,hk,h64,q⟩:=h;obtain⟨u,rfl,rx⟩:=vals1 r;cases rx;obtain⟨z,hd,vs,rel,dd⟩:=gH I.bV hq;obtain⟨ep,dat⟩:=dd.dictAt;have hl:=rel.length;have fW:kvs.length=ns.length:=by
  have:=congrArg List.length hk;simpa [gT] using this
 refine Calls.call_function_entry kind_sorted plain_sorted entry_sorted (args_sorted1 _) ?_;unfold Builtin.«sorted»;refine wpAny_bind (m:=checkCount "sorted" 1 1 _) (wpAny_pure ?_);refine wpAny_bind (vS (I.ok.hd hc) hd dat (by rw [<-hl]; exact z) λh' tk ws kp hsz hlen hws=>?_);refine wpAny_bind (wpAny_newList ?_);have hv:Vals (ns.map V.int) ws:=by
  rw [<-hk];exact uh (P:=X.prog) (w:=X.w) rel hlen hws
 have hI:IntsAre ws ns:=intsAre_of hv;have O_:(h'.push (seqObj "list" ws.toArray 0)).get? h'.objs.size=some (seqObj "list" ws.toArray 0):=get?_push_size _ rfl;refine wpAny_bind (wpAny_holding (wpAny_call_entry slot_list_sort ⟨_,O_,rfl⟩ entry_list_sort (list_sort_tree O_ hI (by omega) λout pJ a1 a2 a3=>⟨_,rfl,?_⟩) (args_list_sort _)));obtain⟨e,he⟩:=sortedHeap_at (out:=out) O_;have hp:=a2.length_eq;refine wpAny_pure ⟨_,rfl,?_⟩;refine⟨.ref h'.objs.size,_,I.laid (t':=tk) (λb o hb=>?_) (Nat.le_of_lt hsz) (show cR X.prog X.w _ _ _ (.lst (pJ.map V.int)) from⟨by rw [length_map]; exact Nat.le_of_lt (aG (by omega)),out.toList,e,iJ a1,by simpa [seqObj] using he⟩),rfl,q _ pJ (I.bV.fresh (Nat.le_of_lt hsz)) a2 a3⟩;have ui:=kp b o hb;have hU:=lt_size ui;rw [sortedHeap_old (Nat.ne_of_lt hU) (by rw [Heap.size_push]; exact Nat.lt_succ_of_lt hU)];exact get?_push_of_some _ ui
end
section
variable {X:Cx}
end
section
variable {X:Cx}
end
noncomputable def Zt (H₀:Hp) (Q:VK):VK:=λv H=>Q v H\/∃a kvs H',PD H₀ a kvs H H'/\Q v H'
noncomputable def J7 (H₀:Hp) (t:TE):TE:=λσ H Q=>t σ H (Zt H₀ Q)
theorem F8 {X:Cx}{e:Expr}{t:TE}(h:PE X e t):PE X e (J7 X.H₀ t):=λpins s σ H Q I q=>by
 refine ck (h pins s σ H _ I q) λv s' h=>?_
 obtain⟨x,H',i,r,d⟩:=h;rcases d with d | ⟨a,kvs,H2,th,d⟩
 ·exact⟨x,H',i,r,d⟩
 ·exact⟨x,H2,i.J6 th,r,d⟩
section
variable {a D:Addr}{o:Obj}{kvs:List (Key×V)}{fr:List Nat}{tt:TT}{te:TE}{σ:St}{H:Hp}{Q:Hp->Prop}
theorem J8 {β:Type}(bs:List β) (g:β->Option V) (hz:kvs.length<=1000) (hl:bs.length=kvs.length) (hS:∀ys,upd H D (.lst ys) a=some (.fI o (.dK kvs)))
  (ht:∀(i:Nat) kv b ys (R:Bool->Hp->Prop),kvs[i]?=some kv->bs[i]?=some b->R (g b).isSome (upd H D (.lst ys))->tt (bA fr σ (some (kV kv.1))) (upd H D (.lst ys)) R)
  (he:∀(i:Nat) kv b y ys (R:VK),kvs[i]?=some kv->bs[i]?=some b->g b=some y->R y (upd H D (.lst ys))->te (bA fr σ (some (kV kv.1))) (upd H D (.lst ys)) R)
  (hq:Q (upd H D (.lst (bs.filterMap g)))):iy (Itd a o kvs) fr tt te σ D Q (upd H D (.lst [])):=by
 refine⟨λi m H2=>m+i=kvs.length/\H2=upd H D (.lst ((bs.take i).filterMap g)),⟨kvs.length,rfl,rfl⟩,?_⟩;rintro i m H2 ⟨hm,rfl⟩
 cases m with
 | zero=>
  have e:i=kvs.length:=by omega
  subst e;refine .inl ⟨⟨Nat.le_refl _,hS _⟩,?_⟩;rw [<-hl,take_length];exact hq
 | succ m=>
  have hi:i < kvs.length:=by omega
  have hb:i < bs.length:=by omega
  refine .inr ⟨⟨hi,hS _⟩,λv H' y=>?_⟩;obtain⟨rfl,kv,hx,rfl⟩:=y;have JW:bs[i]?=some bs[i]:=getElem?_eq_getElem hb;have et:bs.take (i+1)=bs.take i++[bs[i]]:=by rw [take_add_one,JW]; rfl
  have l2:((bs.take i).filterMap g).length < 1000:=by
   have h1:=List.length_filterMap_le g (bs.take i);have h2:=List.length_take_le i bs;omega
  refine ht i kv _ _ _ hx JW ?_
  cases eg:g bs[i] with
  | none=>
   rw [Option.isSome_none,if_neg Bool.false_ne_true];refine⟨m,by omega,by omega,?_⟩;rw [et,List.filterMap_append];simp [eg]
  | some y=>
   rw [Option.isSome_some,if_pos rfl];refine he i kv _ y _ _ hx JW eg ⟨_,ae,aG (by omega),m,by omega,by omega,?_⟩;rw [vw,et,List.filterMap_append];simp [eg]
end
section
variable {X:Cx}
end
section
variable {X:Cx}
end
noncomputable def Zu (K:Frag):R2:=λx y H Q=>Ux K x y H Q\/pH K x y H Q
theorem J9 {X:Cx}:Yf X (Zu X.K):=λvalue slice pins s σ H x y v u Q I rx ry h hs=>by
 rcases h with h | h
 ·exact df value slice pins s σ H x y v u Q I rx ry h hs
 ·exact aq value slice pins s σ H x y v u Q I rx ry h hs
theorem aU.no {P:Program}{w:World}{K:Frag}{mg:Str->Option Value}{base:Heap}{CX:vF}{k:Nat}{f:Addr}{fd:FuncData}{ps:List Str}:aU P w K mg base CX k f fd ps (λ_ _ _ _=>False):=
 ⟨λ_ _ _ _ h=>h.elim,λ_ _ _ _ _ _ _ _ _ _=>by
  intros
  exact False.elim (by assumption)⟩
noncomputable def UX:D->String
 | .bN=>"NoneType"
 | .bl _=>"bool"
 | .int _=>"int"
 | .str _=>"str"
 | .lst _=>"list"
 | .tup _=>"tuple"
theorem gM.ty {K:Frag}{H:Hp}{x:V}{d:D}(h:gM K H x d):Yg K H x (.type (UX d)):=by
 cases h with
 | bN=>exact .ty .bN
 | bl b=>exact .ty (.bl b)
 | int i=>exact .ty (.int i)
 | str x=>exact .ty (.str x)
 | lst h _ _=>exact .lst h
 | tup h _ _=>exact .tup h
noncomputable def isN (t n:String):Bool:=t == n || (t == "bool"&&n == "int")
noncomputable def isT (d:D) (n:String):Bool:=isN (UX d) n
theorem adX (K:Frag) (t n:String) (ht:t="NoneType"\/t="bool"\/t="int"\/t="str"\/t="list"\/t="tuple") (hn:n="bool"\/n="str"\/n="int"\/n="tuple"\/n="list"\/n="dict"):PySem.W.kitOne K (.type t) (.type n)=some (isN t n):=by
 rcases ht with rfl | rfl | rfl | rfl | rfl | rfl <;> rcases hn with rfl | rfl | rfl | rfl | rfl | rfl <;>
  first
  | exact JE K _
  | exact Po K (by decide +kernel) (by decide +kernel) (by decide +kernel)
theorem HE (K:Frag) (d:D) (n:String) (hn:n="bool"\/n="str"\/n="int"\/n="tuple"\/n="list"\/n="dict"):PySem.W.kitOne K (.type (UX d)) (.type n)=some (isT d n):=by
 refine adX K _ n ?_ hn
 cases d <;> simp [UX]
open AutoSeq1 (wpAny_loadPart')
section
variable {X:Cx}
theorem HF:Za X "dict.values" (λx vs H Q=>∃(a:Addr) (kvs:List (Key×V)),x=.ref a/\vs=[]/\Rd H a (.dK kvs)/\∀p,H p=none->Q (.ref p) (upd H p (.ext λh=>h.IsValuesView p a))):=by
 intro pins s σ H x vs v us Q I rx rv h;obtain⟨a,kvs,rfl,rfl,ha,q⟩:=h;cases rx;cases rv;obtain⟨z,hd,vs,rel,dd⟩:=gH I.bV ha;refine call_meetsIn PySem.F.slot_dict_values dd.typeIs PySem.F.entry_dict_values (PySem.F.args_dict_values_1 _) (meets_dict_values (bp X.prog X.w) a hd) ⟨⟨vs,dd⟩,.ref s.heap.objs.size,_,I.laid (a:=s.heap.objs.size) (t':=s.toks) (λb o hb=>get?_push_of_some _ hb) (Nat.le_refl _) ?_,rfl,q _ (I.bV.fresh (Nat.le_refl _))⟩;have e:=get?_push_size s.heap (o:={cls:=.type "dict_values",data:=.fields #[.ref a]}) rfl;exact⟨⟨_,e,rfl,rfl⟩,⟨_,e⟩,λh1 h2 ⟨o,e1,c,d⟩ k=>⟨o,k o e1,c,d⟩⟩
end
section
variable {prog:Program}{w:World}{A:Around}{E:Value->Shared->Prop}{s:Shared}
end
section
variable {X:Cx}
theorem KV.DM:∀{kvs:List (Key×V)}{vs:List (Key×Value)}{i:Nat}{p:Key×V}{q:Key×Value},KV kvs vs->kvs[i]?=some p->vs[i]?=some q->RelV p.2 q.2
 | _,_,0,_,_,.cons r _,h1,h2=>by
  cases h1;cases h2;exact r.2
 | _,_,i+1,_,_,.cons _ t,h1,h2=>KV.DM (i:=i) t (by simpa using h1) (by simpa using h2)
noncomputable def UY (K:Frag) (neg:Bool):R2:=λx y H Q=>∃(a b:Addr) (ka kb:List (Key×V)),x=.ref a/\y=.ref b/\H a=some (.dK ka)/\H b=some (.dK kb)/\ka.length=kb.length /\
 (∀kv∈ka,∃u d,bz kb kv.1=some u/\gM K H kv.2 d/\gM K H u d/\d.dep<=60)/\Q (.bl (!neg)) H
theorem keq_hits {pins:List (Addr×Obj)}{σ:St}{H:Hp}{s:Shared}(I:Inv X pins σ H s) {A:Around}{kb:List (Key×V)}{vb:List (Key×Value)}(rb:KV kb vb) (hu:A.units+60 < cLine):∀{ka:List (Key×V)}{va:List (Key×Value)},KV ka va ->
  (∀kv∈ka,∃u d,bz kb kv.1=some u/\gM X.K H kv.2 d/\gM X.K H u d/\d.dep<=60)->PySem.W.KeqHits A s vb va true
 | _,_,.nil,_=>.nil
 | p::_,(k2,v2)::_,.cons r t,h=>by
  obtain⟨u,d,e1,h1,h2,h3⟩:=h p (mem_cons_self ..);obtain⟨e,r⟩:=r;have hv:=rb.val p.1;rw [e1] at hv
  cases e4:valueAt vb p.1 with
  | none=>rw [e4] at hv; cases hv
  | some y=>
   rw [e4] at hv;have e':p.1=k2:=e;rw [e'] at e4;have key:SeqAt.EqAt A s v2 y true:=by
    have:=qp I h1 (A:=A) (by omega) h2 r hv;rw [fN] at this;exact this
   exact PySem.W.KeqHits.hit (e:=true) (b:=true) e4 key (keq_hits I rb hu t λkv lR=>h kv (mem_cons_of_mem _ lR))
theorem UZ (hu:X.A.units+64 < cLine):kW X (compareOp .Eq) (UY X.K false):=by
 intro pins s σ H x y v u Q I rx ry h;obtain⟨a,b,ka,kb,rfl,rfl,ha,hb,hl,hv,q⟩:=h;cases rx;cases ry;obtain⟨z1,n1,v1,r1,d1⟩:=jo I.bV ha;obtain⟨z2,n2,v2,r2,d2⟩:=jo I.bV hb;refine PySem.W.keq_eq (r:=true) n1 n2 d1 d2 (by omega) (λ_=>keq_hits I r2 (by show X.A.units+1+60 < cLine; omega) r1 hv) (bL I q ?_);have l1:=r1.length;have l2:=r2.length;have:v1.length=v2.length:=by omega
 simp [this]
theorem J_ (hu:X.A.units+64 < cLine):kW X (compareOp .NotEq) (UY X.K true):=by
 intro pins s σ H x y v u Q I rx ry h;obtain⟨a,b,ka,kb,rfl,rfl,ha,hb,hl,hv,q⟩:=h;cases rx;cases ry;obtain⟨z1,n1,v1,r1,d1⟩:=jo I.bV ha;obtain⟨z2,n2,v2,r2,d2⟩:=jo I.bV hb;refine PySem.W.keq_ne (r:=true) n1 n2 d1 d2 (by omega) (λ_=>keq_hits I r2 (by show X.A.units+1+60 < cLine; omega) r1 hv) (bL I q ?_);have l1:=r1.length;have l2:=r2.length;have:v1.length=v2.length:=by omega
 simp [this]
end
section
variable {prog:Program}{w:World}{A:Around}{E:Value->Shared->Prop}{s:Shared}
end
section
variable {X:Cx}
end
noncomputable def bJ (fr:List Nat) (σ:St) (v v2:Option V):St:=v::v2::fr.map λj=>(σ[j]?).join
structure qB (X:Cx) (x x2:Str) (ns:List Str) (fr:List Nat) (scope:Scope) (cl:List (Str×Addr)):Prop where
 qm:closureFor scope X.env=pure cl
 iY:∀y∈scope.names,y.2≠.cell
 kind:scope.kind=.function
 own:∀y∈scope.names,y.2=.local->scope.names.lookup y.1=some .local
 var:scope.names.lookup x=some .local
 Ka:scope.names.lookup x2=some .local
 sub:∀z c,cl.lookup z=some c->X.env.cells.lookup z=some c
 has:∀z,((relabel scope X.env).names.lookup z=some .cell\/(relabel scope X.env).names.lookup z=some .free)->∃c,cl.lookup z=some c
 len:ns.length=fr.length
 yF:∀(k:Nat) z j,ns[k]?=some z->fr[k]?=some j->X.N[j]?=some z/\X.env.scope.names.lookup z=some .cell/\((relabel scope X.env).names.lookup z=some .cell\/(relabel scope X.env).names.lookup z=some .free)
 nd:(x::x2::ns).Nodup
noncomputable def jb (K:Frag) (J:It) (fr:List Nat) (tt:TT) (te:TE) (σ:St) (D:Addr) (Q:Hp->Prop) (H:Hp):Prop:=
 ∃W:Nat->Nat->Hp->Prop,(∃m,W 0 m H)/\∀i m H2,W i m H2->(J.stop i H2/\Q H2)\/(J.go i H2/\∀v H',J.Ul i H2 v H'->∃t va vb,v=.ref t/\bX K H' t [va,vb]/\tt (bJ fr σ (some va) (some vb)) H' λb H3=>
  if b=true then te (bJ fr σ (some va) (some vb)) H3 λy H4=>∃ys,H4 D=some (.lst ys)/\ys.length < sizeLine/\∃m',m' < m/\W (i+1) m' (upd H4 D (.lst (ys++[y])))else ∃m',m' < m/\W (i+1) m' H3)
section
variable {X:Cx}{pins:List (Addr×Obj)}{σ:St}{H:Hp}{s:Shared}{x x2:Str}{ns:List Str}{fr:List Nat}{scope:Scope}{cl:List (Str×Addr)}{fp:List Addr}
theorem Kb (I:Inv X pins σ H s) (L:qB X x x2 ns fr scope cl) (hf:∀b∈fp,iH X pins H b) (ho:∀b∈fp,b < s.heap.objs.size):(cS X (x::x2::ns) scope cl s.heap.objs.size s H fp).Ok where
 mod:=I.ok.mod
 kind:=L.kind
 glob:=I.ok.glob
 blt:=I.ok.blt
 above:=Nat.le_refl _
 inj:=λa b c h1 h2=>I.ok.inj a b c (L.sub a c h1) (L.sub b c h2)
 has:=λz h=>L.has z h
 Ub:=λ_ _ h=>nomatch h
 hd:=I.ok.hd
 frames:=I.ok.frames
 Ya:=.inl rfl
 QI:=λb hb=>⟨Nat.ne_of_lt (ho b hb),λz c h=>(hf b hb).2.2.2.2.1 z c (L.sub z c h)⟩
 bs:=I.bs
 Hm:=Nat.le_trans I.ok.Hm I.sz
 yl:=λb o e hb=>by
  rcases (hf b hb).2.2.2.1 with h | h
  ·exact I.ok.yl b o e h
  ·exact absurd (Nat.lt_of_lt_of_le (lt_size e) (Nat.le_trans I.ok.Hm h)) (Nat.lt_irrefl _)
 ym:=λb hb hs=>by
  rcases mem_cons.mp (I.vy b hs)with h | h
  ·exact(hf b hb).2.1 h
  ·exact(hf b hb).2.2.1 h
 lW:=I.stack
 O8:=I.vz
theorem Kc {fr:List Nat}{σ:St}{v v2:Option V}{k:Nat}{u:V}(h:(bJ fr σ v v2)[k+2]?=some (some u)):∃j,fr[k]?=some j/\σ[j]?=some (some u):=by
 unfold bJ at h;rw [List.getElem?_cons_succ,List.getElem?_cons_succ,getElem?_map] at h
 cases e:fr[k]? with
 | none=>rw [e] at h; cases h
 | some j=>
  rw [e] at h;refine⟨j,rfl,?_⟩
  cases e2:σ[j]? with
  | none=>simp [e2] at h
  | some o=>simp [e2] at h; rw [h]
theorem HG {h':Heap}{t':Nat}(I:Inv X pins σ H s) (L:qB X x x2 ns fr scope cl) (hf:∀b∈fp,iH X pins H b) (ho:∀b∈fp,b < s.heap.objs.size)
  (hn:h'.Ns s.heap.objs.size λ_=>none) (hk:∀b o,s.heap.get? b=some o->h'.get? b=some o) :
  Inv (cS X (x::x2::ns) scope cl s.heap.objs.size s H fp) [] (bJ fr σ none none) H {s with heap:=h',toks:=t'} where
 ok:=Kb I L hf ho
 os:=rfl
 bare:=I.bare
 base:=Un.kept hk
 loc:=by
  refine⟨_,hn,λi z v e1 e2 e3=>?_⟩
  match i,e1,e2 with
  | 0,_,e2=>cases e2
  | 1,_,e2=>cases e2
  | k+2,e1,e2=>
   have Zg:ns[k]?=some z:=e1;obtain⟨j,ej,ev⟩:=Kc e2;obtain⟨hN,hc,hy⟩:=L.yF k z j Zg ej;obtain⟨m,hm,hl⟩:=I.loc;obtain⟨u,r,l⟩:=hl j z v hN ev (.inr (.inl hc));refine⟨u,r,.inr ⟨hy,?_⟩⟩;rcases l with ⟨l,_⟩ | ⟨_,c,UE,⟨o,OZ,hd⟩⟩
   ·have:X.env.scope.names.lookup z=some .local:=l;rw [hc] at this;cases this
   ·obtain⟨c',QL⟩:=L.has z hy;have e:=L.sub z c' QL;rw [UE] at e;cases e;exact⟨c,QL,o,hk c o OZ,hd⟩
 cell:=λz c e=>by
  obtain⟨v,o,OZ,hd⟩:=I.cell z c (L.sub z c e);exact⟨v,o,hk c o OZ,hd⟩
 free:=I.fresh
 gi:=λz c e=>I.gi z c (L.sub z c e)
 pin:=λp hp=>nomatch hp
 bV:=I.bV.kept hk
 len:=by
  show(bJ fr σ none none).length=(x::x2::ns).length;unfold bJ;rw [length_cons,length_cons,length_map,length_cons,length_cons,L.len]
theorem HH {elt iter:Expr}{px Di tp:Pos}{kt:Nat}{ifs:List Expr}{pos:Pos}{J:It}{it D:Addr}{tn:Nat->Heap->Prop}{tt:TT}{te:TE}{Qe:Hp->Prop}{R:Result->Shared->Prop}{s4:Shared}
  (hc:X.calm=true) (L:qB X x x2 ns fr scope cl) (T:Turn X.prog X.w X.K (.Tuple [.Name x px,.Name x2 Di] kt tp) J fp it tn) (hf:∀b∈fp,iH X pins H b) (ho:∀b∈fp,b < s.heap.objs.size) (I:Inv X pins σ H s)
  (hE:PE (cS X (x::x2::ns) scope cl s.heap.objs.size s H fp) elt te) (hT:sS (PT (cS X (x::x2::ns) scope cl s.heap.objs.size s H fp)) ifs tt) (hw:jb X.K J fr tt te σ D Qe H)
  (I4:Inv (cS X (x::x2::ns) scope cl s.heap.objs.size s H fp) [] (bJ fr σ none none) H s4) (Zh:tn 0 s4.heap)
  (hR:∀(s':Shared) (H':Hp) (v v2:Option V),Inv (cS X (x::x2::ns) scope cl s.heap.objs.size s H fp) [] (bJ fr σ v v2) H' s'->Qe H'->R (.ok .next) s') :
  codeAny (model X.prog X.w) X.A (.compStart (.ListComp elt [⟨.Tuple [.Name x px,.Name x2 Di] kt tp,iter,ifs,0⟩] scope pos) 0 (.ref it) (.ref D) (compEnvC scope cl s.heap.objs.size X.env)) R s4:=by
 obtain⟨W,⟨m0,w0⟩,turn⟩:=hw;have UG:=Kb I L hf ho;have Q2:Loc (cS X (x::x2::ns) scope cl s.heap.objs.size s H fp).env.scope x:=.inl (lookup_relabel_local L.var);have qj:∀{H':Hp},(∀b∈fp,H' b=none)->∀b∈fp,iH (cS X (x::x2::ns) scope cl s.heap.objs.size s H fp) [] H' b:=λhn b hb=>
  ⟨hn b hb,(UG.QI b hb).1,UG.ym b hb,.inl hb,(UG.QI b hb).2,λp hp=>nomatch hp⟩
 have fr0:∀b∈fp,H b=none:=λb hb=>(hf b hb).1
 have loop:codeAny (model X.prog X.w) X.A (.compLoop (.ListComp elt [⟨.Tuple [.Name x px,.Name x2 Di] kt tp,iter,ifs,0⟩] scope pos) 0 (.ref it) (.ref D) (compEnvC scope cl s.heap.objs.size X.env)) R s4:=by
  refine codeAny_loop rfl (λn s'=>∃i v v2 H',Inv (cS X (x::x2::ns) scope cl s.heap.objs.size s H fp) [] (bJ fr σ v v2) H' s'/\tn i s'.heap/\(∀b∈fp,H' b=none)/\W i n H') (λn s3 hI=>?_) m0 ⟨0,none,none,H,I4,Zh,fr0,w0⟩;obtain⟨i,v0,v02,H3,I3,QT,Jh,w3⟩:=hI;show wpAny _ X.A ((compTurn (.ListComp elt [⟨.Tuple [.Name x px,.Name x2 Di] kt tp,iter,ifs,0⟩] scope pos) 0 (.ref it) (.ref D) (compEnvC scope cl s.heap.objs.size X.env)).onRaise (λy=>do noteFrame y (compEnvC scope cl s.heap.objs.size X.env); theTreesLotGoes y)) _ _ s3;refine wpAny_noted ?_;rw [compTurn_list];have low:∀{α:Type}{t:Sem α}{Q Q':α->Shared->Prop}{E:Value->Shared->Prop}{s5:Shared},wpAny (model X.prog X.w) X.A t Q (λ_ _=>False) s5->(∀a s6,Q a s6->Q' a s6)->wpAny (model X.prog X.w) X.A t Q' E s5:=
   λh hq=>wpAny_mono h hq λ_ _ z=>z.elim
  rcases turn i n H3 w3 with ⟨stop,q⟩ | ⟨go,step⟩
  ·refine wpAny_bind (wpAny_standAt (wpAny_bind (low (T.done (cS X (x::x2::ns) scope cl s.heap.objs.size s H fp) rfl rfl rfl hc i [] s3 _ H3 (λ_ _=>False) I3 (qj Jh) QT stop) λr s5 hr=>?_)));obtain⟨hr,I5⟩:=hr;subst hr;exact wpAny_pure (hR s5 H3 v0 v02 I5 q)
  ·refine wpAny_bind (wpAny_standAt (wpAny_bind (low (T.item (cS X (x::x2::ns) scope cl s.heap.objs.size s H fp) rfl rfl rfl hc i [] s3 _ H3 (λ_ _=>False) I3 (qj Jh) QT go) λr s5 hr=>?_)));obtain⟨u,hr,h5⟩:=hr;subst hr;refine wpAny_bind (low h5 λ_ s6 h6=>?_);obtain⟨y,H6,I6,r6,y6,UH,fr6⟩:=h6;have I6':=I6.pinned (qj fr6) (T.obj _ _ UH);obtain⟨t,va,vb,ey,hsq,yH⟩:=step y _ y6;subst ey;have adY:Loc (cS X (x::x2::ns) scope cl s.heap.objs.size s H fp).env.scope x2:=.inl (lookup_relabel_local L.Ka);have hg:PG (cS X (x::x2::ns) scope cl s.heap.objs.size s H fp) (.Tuple [.Name x px,.Name x2 Di] kt tp) (Ui X.K 2 (FU (lY 0) (FU (lY 1) Uh))):=
    jF (X:=cS X (x::x2::ns) scope cl s.heap.objs.size s H fp) hc (cm (a_ (i:=0) L.nd rfl Q2 (.inr (lookup_relabel_local L.var))) (cm (a_ (i:=1) L.nd rfl adY (.inr (lookup_relabel_local L.Ka))) hW))
   refine wpAny_bind (low (hg _ s6 _ H6 (.ref t) u (λσ' H'=>σ'=bJ fr σ (some va) (some vb)/\H'=H6) I6' r6 ⟨t,[va,vb],rfl,hsq,rfl,va,[vb],rfl,vb,[],rfl,rfl,rfl,rfl⟩) λ_ s7 h7=>?_);obtain⟨σ7,H7,I7,e7,e7'⟩:=h7;subst e7 e7';have back:∀{H8:Hp}{s8:Shared},Inv (cS X (x::x2::ns) scope cl s.heap.objs.size s H fp) ([]++jG fp s6.heap) (bJ fr σ (some va) (some vb)) H8 s8->(∃m',m' < n/\W (i+1) m' H8) ->
     ∃m,m < n/\∃i v v2 H',Inv (cS X (x::x2::ns) scope cl s.heap.objs.size s H fp) [] (bJ fr σ v v2) H' s8/\tn i s8.heap/\(∀b∈fp,H' b=none)/\W i m H':=λ{H8 s8} I8 hm=>by
    obtain⟨m',hm,w8⟩:=hm;refine⟨m',hm,i+1,some va,some vb,H8,I8.gS,T.keep _ _ _ UH λb hb o e=>(I8.pin (b,o) (mem_append_right _ (mem_append_right _ (gb hb e)))).1,λb hb=>?_,w8⟩;obtain⟨o,e,d⟩:=T.obj _ _ UH b hb;exact(I8.pin (b,o) (mem_append_right _ (mem_append_right _ (gb hb e)))).2.1
   have emit:∀{H8:Hp}{s8:Shared},Inv (cS X (x::x2::ns) scope cl s.heap.objs.size s H fp) ([]++jG fp s6.heap) (bJ fr σ (some va) (some vb)) H8 s8 ->
     te (bJ fr σ (some va) (some vb)) H8 (λy H4=>∃ys,H4 D=some (.lst ys)/\ys.length < sizeLine/\∃m',m' < n/\W (i+1) m' (upd H4 D (.lst (ys++[y])))) ->
     wpAny (model X.prog X.w) X.A (do let _ <-call (.builtin "list.append") [.ref D,<-eval elt (compEnvC scope cl s.heap.objs.size X.env)]) (λ_ s9=>∃m,m < n/\∃i v v2 H',Inv (cS X (x::x2::ns) scope cl s.heap.objs.size s H fp) [] (bJ fr σ v v2) H' s9/\tn i s9.heap/\(∀b∈fp,H' b=none)/\W i m H') (λ_ _=>False) s8:=λ{H8 s8} I8 h8=>by
    refine wpAny_bind (ck (hE _ s8 _ H8 _ I8 h8) λv9 s9 h9=>?_);obtain⟨z,H9,I9,r9,ys,hD,hlen,hm⟩:=h9;refine wpAny_bind (ck (fc (X:=cS X (x::x2::ns) scope cl s.heap.objs.size s H fp) _ s9 _ H9 (.ref D) [z] (.ref D) [v9] (λ_ H'=>∃m',m' < n/\W (i+1) m' H') I9 rfl (.cons r9 .nil) ⟨D,ys,z,rfl,rfl,hD,hlen,hm⟩) λv10 Dh h10=>?_);obtain⟨_,UI,I10,_,UJ⟩:=h10;exact wpAny_pure (back I10 UJ)
   cases hT with
   | nil=>
    refine wpAny_bind (wpAny_tests_nil ?_);refine wpAny_bind (low (emit I7 (yG yH)) λ_ s9 h9=>wpAny_pure ⟨rfl,h9⟩)
   | one hP=>
    refine wpAny_bind (wpAny_tests_one (low (hP _ s7 _ _ _ I7 yH) λb s8 h8=>?_));obtain⟨H8,I8,q8⟩:=h8
    cases b with
    | false=>
     have q9:∃m',m' < n/\W (i+1) m' H8:=q8;exact wpAny_pure ⟨rfl,back I8 q9⟩
    | true=>
     exact wpAny_bind (low (emit I8 q8) λ_ s9 h9=>wpAny_pure ⟨rfl,h9⟩)
 exact codeAny_compStart_list loop (T.self X.A 0 _ _ _ Zh loop)
theorem HI {s':Shared}{H':Hp}{σ':St}(I:Inv X pins σ H s) (hf:∀b∈fp,iH X pins H b) (I':Inv (cS X (x::x2::ns) scope cl s.heap.objs.size s H fp) [] σ' H' s'):Inv X pins σ H' s':=
 I.QM (ch:=fp) I'.os I'.base I'.bV I'.bare λb hb=>⟨(hf b hb).2.2.2.1,(hf b hb).2.1,(hf b hb).2.2.2.2.1,(hf b hb).2.2.2.2.2⟩
theorem F9 {elt iter:Expr}{px Di tp:Pos}{kt:Nat}{ifs:List Expr}{pos:Pos}{J:It}{it:Addr}{tn:Nat->Heap->Prop}{tt:TT}{te:TE}{Qe:Addr->Hp->Prop}{R:Value->Addr->Result->Shared->Prop}{E:Value->Shared->Prop}
  (hc:X.calm=true) (L:qB X x x2 ns fr scope cl) (T:Turn X.prog X.w X.K (.Tuple [.Name x px,.Name x2 Di] kt tp) J fp it tn) (hf:∀b∈fp,iH X pins H b) (I:Inv X pins σ H s) (st:tn 0 s.heap)
  (hE:∀C s H,PE (cS X (x::x2::ns) scope cl C s H fp) elt te) (hT:∀C s H,sS (PT (cS X (x::x2::ns) scope cl C s H fp)) ifs tt) (hw:∀D,H D=none->jb X.K J fr tt te σ D (Qe D) (upd H D (.lst [])))
  (hR:∀(D C:Addr) (s':Shared) (H':Hp),Inv X pins σ H' s'->Qe D H'->(∃m o,s'.heap.get? C=some o/\(∀v,o.data≠.cell v)/\∀h':Heap,h'.get? C=some o->h'.Ns C m)->H' C=none->C≠X.env.locals->C∉X.fs->X.s₀.heap.objs.size<=C ->
   (∀z c,X.env.cells.lookup z=some c->c≠C)->(∀p∈X.pn++pins,p.1≠C)->R (.ref D) C (.ok .next) s') :
  wpAny (model X.prog X.w) X.A (newList []) (λacc s₃=>wpAny (model X.prog X.w) X.A (newFunctionEnv scope X.env.globals cl [] X.env.qual none .none (some X.env)) (λJJ s₄=>
   codeAny (model X.prog X.w) X.A (.compStart (.ListComp elt [⟨.Tuple [.Name x px,.Name x2 Di] kt tp,iter,ifs,0⟩] scope pos) 0 (.ref it) acc {JJ with scope:=relabel scope X.env}) (R acc JJ.locals) s₄) E s₃) E s:=by
 have ho:∀b∈fp,b < s.heap.objs.size:=λb hb=>by
  obtain⟨o,e,_⟩:=T.obj _ _ st b hb;exact lt_size e
 have I3:Inv X pins σ (upd H s.heap.objs.size (.lst [])) {s with heap:=s.heap.push {cls:=.type "list",dict:=none,data:=.seq ([]:List Value).toArray}}:=I.Pk (t':=s.toks) (.nil) (Nat.zero_le _);refine wpAny_newObj_type (wpAny_newFunctionEnv L.iY (by intro y hy; simp at hy) (λh1 vI vK=>?_) L.kind);dsimp only at vI vK ⊢;generalize Py:({s with heap:=s.heap.push {cls:=.type "list",dict:=none,data:=.seq ([]:List Value).toArray}}:Shared)=s3 at I3;have eh:s.heap.push {cls:=.type "list",dict:=none,data:=.seq ([]:List Value).toArray}=s3.heap:=by rw [<-Py]
 rw [eh] at vI vK ⊢;have hz:s3.heap.objs.size=s.heap.objs.size+1:=by rw [<-eh,Heap.size_push]
 have hk:∀b o,s3.heap.get? b=some o->h1.get? b=some o:=λb o e=>vK.extBut b o (Nat.ne_of_lt (lt_size e)) (get?_push_of_some _ e)
 have UK:∀b∈fp,iH X pins (upd H s.heap.objs.size (.lst [])) b:=λb hb=>⟨by rw [au (Nat.ne_of_lt (ho b hb))]; exact(hf b hb).1,(hf b hb).2⟩
 have Zi:∀b∈fp,b < s3.heap.objs.size:=λb hb=>by rw [hz]; exact Nat.lt_succ_of_lt (ho b hb)
 have es:∀tk,({s with heap:=h1,toks:=tk}:Shared)={s3 with heap:=h1,toks:=tk}:=λtk=>by rw [<-Py]
 rw [es];have I4:=HG (t':=s.toks+([]:List (Str×Value)).length) I3 L UK Zi vI hk;refine HH hc L T UK Zi I3 (hE _ _ _) (hT _ _ _) (hw _ I.fresh) I4 ?_ λs' H' v v2 I' q=>?_
 ·refine T.keep _ _ _ st λb hb o e=>hk b o ?_
  rw [<-eh];exact get?_push_of_some _ e
 ·have IX:=HI I3 UK I';obtain⟨m,⟨o,vA,ep,Dg,yn,Zj⟩,_⟩:=I'.loc;refine hR _ _ s' H' IX q ⟨m,o,Dg,λv z=>?_,λh' e=>⟨o,vA,ep,e,yn,Zj⟩⟩ I'.free (Nat.ne_of_gt I3.lt) (I3.Uc (Nat.le_refl _)) I3.sz (λz c e=>?_) λp hp=>?_
  ·rw [yn] at z;cases z
  ·obtain⟨v,o2,e2,_⟩:=I3.cell z c e;exact Nat.ne_of_lt (lt_size e2)
  ·exact Nat.ne_of_lt (lt_size (I3.pin p hp).1)
noncomputable def U2 (K:Frag) (wi:TI) (fr:List Nat) (tt:TT) (te:TE):TE:=λσ H Q=>wi σ H λJ H1=>∀D,H1 D=none->jb K J fr tt te σ D (λH2=>Q (.ref D) H2) (upd H1 D (.lst []))
theorem Kd {elt iter:Expr}{px Di tp pos:Pos}{kt:Nat}{ifs:List Expr}{wi:TI}{tt:TT}{te:TE}(hc:X.calm=true) (L:qB X x x2 ns fr scope cl) (hi:PI X (.Tuple [.Name x px,.Name x2 Di] kt tp) iter wi)
  (hE:∀C s H fp,PE (cS X (x::x2::ns) scope cl C s H fp) elt te) (hT:∀C s H fp,sS (PT (cS X (x::x2::ns) scope cl C s H fp)) ifs tt)
  (hs:∀v,foldedSetIterable iter X.env v=pure v:=by intro _; rfl):PE X (.ListComp elt [⟨.Tuple [.Name x px,.Name x2 Di] kt tp,iter,ifs,0⟩] scope pos) (U2 X.K wi fr tt te):=by
 intro pins s σ H Q I h;rw [eval_ListComp];refine wpAny_comprehension_free (use:=none) rfl hs L.qm L.kind L.own (ck (hi pins s σ H _ I h) λv s1 h1=>ck h1 λYb s2 h2=>?_);obtain⟨it,fp,tn,J,H2,e,I2,T,Pa,f2,q⟩:=h2;subst e;refine F9 (R:=λacc C=>compPost (model X.prog X.w) X.A X.xe none (EP X pins σ Q) acc C) hc L T f2 I2 Pa (λC s H=>hE C s H fp) (λC s H=>hT C s H fp) q ?_;intro D C s' H' I' q' vI hn hl Zk hz jn DI;obtain⟨m,o,e,hd,hk⟩:=vI;refine⟨m,hk _ e,λh' vK=>?_⟩;exact⟨.ref D,H',I'.turned (t':=s'.toks) (λb o hb e=>vK.extBut b o hb e) hn hl (.inr hz) jn DI,rfl,q'⟩
theorem U3 {elt iter:Expr}{y:Str}{j:Nat}{px Di tp py pos JK:Pos}{kt:Nat}{ifs:List Expr}{wi:TI}{tt:TT}{te:TE}(hc:X.calm=true) (hN:X.N.Nodup) (hj:X.N[j]?=some y) (hy:X.env.scope.names.lookup y=some .local) (L:qB X x x2 ns fr scope cl) (hi:PI X (.Tuple [.Name x px,.Name x2 Di] kt tp) iter wi)
  (hE:∀C s H fp,PE (cS X (x::x2::ns) scope cl C s H fp) elt te) (hT:∀C s H fp,sS (PT (cS X (x::x2::ns) scope cl C s H fp)) ifs tt)
  (hsw:swapsWith (.ListComp elt [⟨.Tuple [.Name x px,.Name x2 Di] kt tp,iter,ifs,0⟩] scope pos) (some (.Name y py)) JK.line X.env=pure true:=by rfl)
  (hs:∀v,foldedSetIterable iter X.env v=pure v:=by intro _; rfl):PS X (.Assign [.Name y py] (.ListComp elt [⟨.Tuple [.Name x px,.Name x2 Di] kt tp,iter,ifs,0⟩] scope pos) JK) (Ja (U2 X.K wi fr tt te) (lY j)):=by
 intro pins s σ H Dn I h;rw [exec_Assign_Name_used _ _ _ _ hsw];refine wpAny_bind (wpAny_standAt (wpAny_bind ?_));show wpAny _ X.A (do let _ <-comprehension (.ListComp elt [⟨.Tuple [.Name x px,.Name x2 Di] kt tp,iter,ifs,0⟩] scope pos) scope X.env _ (newList []) false (eval iter X.env) (some (assign (.Name y py) X.env))) _ _ s;refine wpAny_bind (ck (wpAny_comprehension_free (use:=some (assign (.Name y py) X.env)) (Q:=λ_ s'=>SP X pins Dn .next s') rfl hs L.qm L.kind L.own (ck (hi pins s σ H _ I h) λv s1 h1=>ck h1 λYb s2 h2=>?_)) λ_ s' q=>wpAny_pure (wpAny_pure q));obtain⟨it,fp,tn,J,H2,e,I2,T,Pa,f2,q⟩:=h2;subst e;refine F9 (R:=λacc C=>compPost (model X.prog X.w) X.A X.xe (some (assign (.Name y py) X.env)) (λ_ s'=>SP X pins Dn .next s') acc C) hc L T f2 I2 Pa (λC s H=>hE C s H fp) (λC s H=>hT C s H fp) q ?_;intro D C s' H' I' q' vI hn hl Zk hz jn DI;obtain⟨m,o,e,hd,hk⟩:=vI;have I'':Inv X (pins++[(C,o)]) σ H' s':=I'.pX λp hp=>by
  rcases mem_append.mp hp with h | h
  ·exact I'.pin p (mem_append_right _ h)
  ·have ep:p=(C,o):=by simpa using h
   subst ep;exact⟨e,hn,hl,Zk,hd⟩
 refine wpAny_assign_Name (jD I'' hN hj (.inl hy) (show RelV (.ref D) (.ref D) from rfl) (λs2 I2=>?_) (.inr hy));obtain⟨e2,n2,_⟩:=I2.pin (C,o) (mem_append_right _ (mem_append_right _ (mem_singleton.mpr rfl)));refine⟨m,hk _ e2,λh' vK=>?_⟩;exact⟨σ.set j (some (.ref D)),H',I2.gS.turned (t':=s2.toks) (λb o hb e=>vK.extBut b o hb e) hn hl (.inr hz) jn DI,q'⟩
end
section
variable {X:Cx}{x x2:Str}{ns:List Str}{fr:List Nat}{scope:Scope}{cl:List (Str×Addr)}
theorem Ke (qm:closureFor scope X.env=pure cl) (iY:scope.names.all (λy=>y.2 != .cell)=true) (kind:scope.kind=.function)
  (own:scope.names.all (λy=>y.2 != .local || scope.names.lookup y.1 == some .local)=true) (var:scope.names.lookup x=some .local) (Ka:scope.names.lookup x2=some .local) (sub:∀p∈cl,X.env.cells.lookup p.1=some p.2)
  (has:(relabel scope X.env).names.all (λy=>!(y.2 == .cell || y.2 == .free) || (cl.lookup y.1).isSome)=true) (len:ns.length=fr.length)
  (fr_:∀p∈ns.zip fr,X.N[p.2]?=some p.1/\X.env.scope.names.lookup p.1=some .cell/\((relabel scope X.env).names.lookup p.1=some .cell\/(relabel scope X.env).names.lookup p.1=some .free)) (nd:(x::x2::ns).Nodup):qB X x x2 ns fr scope cl where
 qm:=qm
 iY:=λy hy=>by simpa using List.all_eq_true.mp iY y hy
 kind:=kind
 own:=λy hy h=>by
  have:=List.all_eq_true.mp own y hy;rw [h] at this;simpa using this
 var:=var
 Ka:=Ka
 sub:=λz c h=>sub _ (qo h)
 has:=λz h=>by
  have k:∀t,(relabel scope X.env).names.lookup z=some t->(t=.cell\/t=.free)->∃c,cl.lookup z=some c:=λt ht hk=>by
   have:=List.all_eq_true.mp has _ (qo ht);rcases hk with rfl | rfl <;> simpa [Option.isSome_iff_exists] using this
  rcases h with h | h
  ·exact k _ h (.inl rfl)
  ·exact k _ h (.inr rfl)
 len:=len
 yF:=λk z j h1 h2=>fr_ (z,j) (mem_of_getElem? (i:=k) (by rw [List.getElem?_zip_eq_some]; exact⟨h1,h2⟩))
 nd:=nd
end
open AutoSeq1 (wpAny_loadPart')
section
variable {prog:Program}{w:World}{A:Around}{E:Value->Shared->Prop}{s:Shared}
end
open AutoSeq1 (wpAny_loadPart')
section
variable {prog:Program}{w:World}{A:Around}{E:Value->Shared->Prop}{s:Shared}
end
open AutoSeq1 (wpAny_loadPart')
section
variable {prog:Program}{w:World}{A:Around}{E:Value->Shared->Prop}{s:Shared}
end
section
variable {X:Cx}
end
section
variable {X:Cx}
theorem ku:fK X (.type "str") (λxs H Q=>(∃i,xs=[.int i]/\i.natAbs.log2 < 1920/\Q (.str (toString i)) H)\/∃z,xs=[.str z]/\Q (.str z) H):=by
 intro pins s σ H xs us Q I r h;rcases h with ⟨i,rfl,hz,q⟩ | ⟨z,rfl,q⟩
 ·obtain⟨u,rfl,t,rfl⟩:=vals1 r;exact PySem.P.str_of_int hz ⟨.str _,H,I.tok _,⟨_,rfl⟩,q⟩
 ·obtain⟨u,rfl,t,rfl⟩:=vals1 r;exact PySem.P.str_of_str ⟨.str z,H,I,⟨_,rfl⟩,q⟩
end
section
variable {X:Cx}
theorem HJ {bs:List Bool}{us:List Value}(h:Vals (bs.map V.bl) us) {i:Nat}{v:Value}(hv:us[i]?=some v):v=.bool (bs.getD i false):=by
 have hl:=h.length;rw [length_map] at hl;have hi:=(List.getElem?_eq_some_iff.mp hv).1;obtain⟨u,hu,ru⟩:=h.get (i:=i) (x:=V.bl (bs[i]'(by omega))) (by rw [getElem?_map,getElem?_eq_getElem (by omega)]; rfl);rw [hv] at hu;cases hu;have e:bs.getD i false=bs[i]'(by omega):=by simp [List.getD,show i < bs.length by omega]
 rw [e];cases ru;rfl
theorem range_any (bs:List Bool):((List.range bs.length).any λi=>bs.getD i false)=bs.any id:=by
 rw [Bool.eq_iff_iff,List.any_eq_true,List.any_eq_true];constructor
 ·rintro⟨i,hi,h⟩;have hi:=List.mem_range.mp hi;exact⟨_,List.getElem_mem hi,by simpa [List.getD,hi] using h⟩
 ·rintro⟨x,hx,h⟩;obtain⟨i,hi,rfl⟩:=List.mem_iff_getElem.mp hx;exact⟨i,List.mem_range.mpr hi,by simpa [List.getD,hi] using h⟩
theorem uj (hc:X.calm=true):fK X (.builtin "any") (λxs H Q=>∃(p:Addr) (bs:List Bool),xs=[.ref p]/\ba X.K H p (bs.map V.bl)/\Q (.bl (bs.any id)) H):=by
 intro pins s σ H xs us Q I r h;obtain⟨p,bs,rfl,hq,q⟩:=h;obtain⟨u,rfl,rx⟩:=vals1 r;cases rx;obtain⟨bF,rv,pl,hz⟩:=I.list hq;have hU:p < s.heap.objs.size:=by
  obtain⟨o,e,_⟩:=pl.isList;exact lt_size e
 have hl:=rv.length;rw [length_map] at hl;refine call_any_walk (wpAny_pyIter_list pl.isList ⟨s.heap.objs.size,_,_,_,_,_,λi=>bs.getD i false,rfl,Walks.list (A:=X.A.in1) (I.ok.hd hc) s.heap.objs.size p (Nat.ne_of_lt hU) bF.toArray,⟨⟨_,get?_push_size _ rfl,rfl,rfl⟩,?_⟩,λi v s' Q' E' hP hQ=>?_,λh' tk hk=>?_⟩)
 ·obtain⟨o,e,q2⟩:=pl.isList;exact⟨o,get?_push_of_some _ e,q2⟩
 ·have hP:bF.toArray[i]?=some v:=hP;have hP2:bF[i]?=some v:=by simpa using hP
  have ev:=HJ rv hP2;subst ev;exact wpAny_pure hQ
 ·have e:bF.toArray.size=bs.length:=by simp [hl]
  rw [e,range_any];refine⟨.bl _,H,I.kept (t':=tk) (λb o hb=>hk b o ?_ (get?_push_of_some _ hb)),rfl,q⟩;intro z;have z:b=s.heap.objs.size:=by simpa using z
  exact absurd (lt_size hb) (by rw [z]; exact Nat.lt_irrefl _)
end
open AutoSeq1 (wpAny_loadPart')
section
variable {prog:Program}{w:World}{A:Around}{E:Value->Shared->Prop}{s:Shared}
theorem F_ {es:Array DictEntry}{p:DictEntry->Bool}{v:Value}(h:(es.toList.find? p).map (·.val)=some v):∃i,es.findIdx? p=some i/\(es[i]?).map (·.val)=some v:=by
 obtain⟨l⟩:=es
 cases e:l.find? p with
 | none=>rw [show(Array.mk l).toList=l from rfl,e] at h; cases h
 | some x=>
  rw [show(Array.mk l).toList=l from rfl,e] at h;cases h;have h1:p x=true:=List.find?_some e;have hm:=List.mem_of_find?_eq_some e;have hi:(l.findIdx? p).isSome=true:=by
   rw [List.findIdx?_isSome,List.any_eq_true];exact⟨x,hm,h1⟩
  obtain⟨i,hi⟩:=Option.isSome_iff_exists.mp hi;refine⟨i,by simpa using hi,?_⟩;have h2:l[i]?=some x:=by
   have:=List.find?_eq_getElem?_findIdx (p:=p) (xs:=l);have e3:=(List.findIdx?_eq_some_iff_findIdx_eq.mp hi).2;rw [e3] at this;rw [<-this,e]
  show((Array.mk l)[i]?).map (·.val)=_;rw [List.getElem?_toArray,h2];rfl
theorem U4 {δ:Type}{R:δ->Value->Prop}{a:Addr}{D:List (Str×δ)}{k:Str}{tk:Tok}{d:δ}{Q:Value->Shared->Prop}(ht:KTD.TabOf R s.heap a D) (hd:KTD.datumAt k D=some d)
  (h:∀v,R d v->Q v {s with toks:=s.toks+1}):wpAny (model prog w) A (call (.builtin "dict.get") [.ref a,.str k tk]) Q E s:=by
 obtain⟨hm,o,es,ep,ho,ex,yh,iL⟩:=ht;obtain⟨v,hv,hR⟩:=iL.find_some hd;obtain⟨i,hi,hiv⟩:=F_ hv;refine wpAny_call_entry PySem.F.slot_dict_get ⟨o,ho,ex.1⟩ PySem.F.entry_dict_get ?_ (PySem.F.args_dict_get_2 _ _);have HK:∀(Q':Option Value->Shared->Prop) (E':Value->Shared->Prop),Q' (some v) {s with toks:=s.toks+1}->wpAny (model prog w) A.in1 (dictGet a (.str k tk)) Q' E' s:=λQ' E' hq=>by
  unfold dictGet;refine wpAny_holding (wpAny_bind (wpAny_pyHash_str (wpAny_bind (KTD.kt_dictFind_strs (s:={s with toks:=s.toks+1}) ho yh (by rw [<-Array.all_toList]; exact iL.exact) ?_))));rw [hi];refine wpAny_bind (wpAny_dictEntries (s:={s with toks:=s.toks+1}) ho yh (wpAny_pure ?_));rw [hiv];exact hq
 unfold Builtin.«dict.get»
 repeat (first | (refine HK _ _ ?_) | wp_step | (refine wpAny_loadPart' ho ?_))
 exact⟨v,rfl,h v hR⟩
end
noncomputable def nJ (K:Frag) (a:Addr) (D:List (Str×Addr)):Prop:=KTD.tabLook (λ(b:Addr) (v:Value)=>v == .ref b) (λb=>K.lookup b) a D=true
theorem nJ.of {K:Frag}{a:Addr}{D:List (Str×Addr)}{h:Heap}(t:nJ K a D) (X:K.In h):KTD.TabOf (λ(b:Addr) v=>v=.ref b) h a D:=
 KTD.tab_of_look (L:=λ(b:Addr) (v:Value)=>v == .ref b) (λd v e=>by simpa using e) (λb o e=>X b o e) t
section
variable {X:Cx}
theorem PJ {a:Addr}{D:List (Str×Addr)}(t:nJ X.K a D):MtR X "dict.get" (λx vs H Q=>∃k b,x=.ref a/\vs=[.str k]/\KTD.datumAt k D=some b/\Q (.ref b) H):=by
 intro pins s σ H x vs v us Q I rx rv h;obtain⟨k,b,rfl,rfl,hd,q⟩:=h;cases rx;obtain⟨u,rfl,tk,rfl⟩:=rv.one;refine U4 (t.of λc o e=>I.iT c o e) hd λv e=>?_
 subst e;exact⟨.ref b,H,I.tok _,rfl,q⟩
noncomputable def Rb (a:Addr) (D:List (Str×Addr)) (td ty:TE):TE:=λσ H Q=>td σ H λx H1=>x=.ref a/\ty σ H1 λy H2=>∃k b,y=.str k/\KTD.datumAt k D=some b/\Q (.ref b) H2
end
section
variable {X:Cx}
end
theorem nJ.mk {K:Frag}{a:Addr}{D:List (Str×Addr)}{es:Array DictEntry}{ep:Nat}(h0:(a == sysModules)=false) (h:K.lookup a=some ⟨.type "dict",none,.dict es ep,#[]⟩)
  (hr:KTD.rowsLook (λ(b:Addr) (v:Value)=>v == .ref b) es.toList D=true):nJ K a D:=by
 unfold nJ KTD.tabLook;show(!(a == sysModules)&&(match K.lookup a with | some o=>o.cls == .type "dict"&&o.dict.isNone&&o.slots.isEmpty&&(match o.data with | .dict es _=>KTD.rowsLook (λ(b:Addr) (v:Value)=>v == .ref b) es.toList D | _=>false) | none=>false))=true;rw [h,h0];show(true&&(((Value.type "dict" == Value.type "dict")&&true&&true)&&KTD.rowsLook (λ(b:Addr) (v:Value)=>v == .ref b) es.toList D))=true;rw [hr,beq_self_eq_true];rfl
theorem bw {hash:Int}{x:Str}{t:Tok}{u:Addr}{es:List DictEntry}{D:List (Str×Addr)}(h:KTD.rowsLook (λ(b:Addr) (v:Value)=>v == .ref b) es D=true) :
  KTD.rowsLook (λ(b:Addr) (v:Value)=>v == .ref b) (⟨hash,.str x t,.ref u⟩::es) ((x,u)::D)=true:=by
 unfold KTD.rowsLook;show(x == x&&(Value.ref u == Value.ref u)&&_)=true;rw [h,beq_self_eq_true,beq_self_eq_true];rfl
open PySem.NumText (AllDigits digitsVal)
noncomputable def nt (n:Nat):Str:=Str.ofString (toString (n:Int))
theorem ak.putD {H H3:Hp}{D:PySem.Addr}{o:HO}(h:ak H H3) (hD:H D=none):ak H (upd H3 D o):=λb u e=>by
 have n:b≠D:=λq=>by rw [q,hD] at e; cases e
 rw [au n];exact h b u e
noncomputable def strsOf:List Expr->Option (List Str)
 | []=>some []
 | .Constant (.str x) _ _::r=>(strsOf r).map (x::·)
 | _=>none
noncomputable def Zv (ws:List Str):TA:=λ_ H Q=>Q (ws.map V.str) H
theorem vT {X:Cx}:∀{es:List Expr}{ws:List Str},strsOf es=some ws->PA X es (Zv ws)
 | [],ws,e=>by
  cases e;exact af
 | e::r,ws,h=>by
  unfold strsOf at h;split at h
  ·next h1=>cases h1
  ·next x _ _ r' h1=>
   cases h1
   cases h2:strsOf r with
   | none=>
    rw [h2] at h;cases h
   | some w2=>
    rw [h2] at h;cases h;exact aa az (vT h2)
  ·cases h
theorem yg.strs {X:Cx}{i:Nat}{x:Str}{es:List Expr}{ws:List Str}{p1 p2 pos:Pos}{D:Ends}{σ:St}{H:Hp}(hN:X.N.Nodup) (hi:X.N[i]?=some x) (hx:Loc X.env.scope x) (he:strsOf es=some ws)
  (hs:swapsWith (.List es p2) (some (.Name x p1)) pos.line X.env=pure false) (hf:X.fn x=true\/X.env.scope.names.lookup x=some .local) (hl:ws.length<=1000)
  (q:∀l,H l=none->D.nx (σ.set i (some (.ref l))) (upd H l (.lst (ws.map V.str)))):yg X (.Assign [.Name x p1] (.List es p2) pos) D σ H:=by
 refine yg.of (aN hN hi hx (bP (vT he)) hs hf) ?_;refine⟨?_,λp hp=>q p hp⟩;rw [length_map];exact Nat.le_of_lt (aG hl)
noncomputable def uk (D:PySem.Addr) (H:Hp):Hp:=λb=>if b=D then none else H b
theorem Kf (D:PySem.Addr) (H:Hp):ak (uk D H) H:=λb o e=>by
 unfold uk at e;split at e
 ·cases e
 ·exact e
theorem Ga (D:PySem.Addr) (H:Hp) (o:HO):ak (uk D H) (uk D (upd H D o)):=λb u e=>by
 unfold uk at e ⊢;split at e
 ·cases e
 ·next h=>rw [if_neg h,au h]; exact e
theorem ak.uk {D:PySem.Addr}{H H':Hp}(s:ak H H'):ak (uk D H) (uk D H'):=λb u e=>by
 unfold L2.uk at e ⊢;split at e
 ·cases e
 ·next h=>rw [if_neg h]; exact s _ _ e
theorem Gb {K:Frag}{l:PySem.Addr}{xs:List V}{fr:List Nat}{te:TE}{σ:St}{D:PySem.Addr}{Q:Hp->Prop}{H:Hp}(Rel:Nat->V->Hp->Prop) (mono:∀i y H H',Rel i y H->ak H H'->Rel i y H') (hD:H D=none) (hx:ba K H l xs) (hz:xs.length<=1000)
  (he:∀(i:Nat) x (H2:Hp) (zs:List V) (R:VK),xs[i]?=some x->ak H H2->H2 D=some (.lst zs)->(∀y H3,ak H2 H3->Rel i y (uk D H3)->R y H3)->te (bA fr σ (some x)) H2 R)
  (hq:∀H2 (ys:List V),ak H H2->H2 D=some (.lst ys)->ys.length=xs.length->(∀(i:Nat) y,ys[i]?=some y->Rel i y H2)->Q H2) :
  iy (Jf K l) fr (λ_ H Q=>Q true H) te σ D Q (upd H D (.lst [])):=by
 refine⟨λi m H2=>m+i=xs.length/\ak H H2/\∃ys,H2 D=some (.lst ys)/\ys.length=i/\∀(j:Nat) y,ys[j]?=some y->Rel j y (uk D H2),⟨xs.length,rfl,.put hD,[],ae,rfl,λj y e=>by cases e⟩,?_⟩;rintro i m H2 ⟨hm,hs,ys,hd,PK,hr⟩;have IK:=hs.seq hx
 cases m with
 | zero=>
  have e:i=xs.length:=by omega
  exact .inl ⟨⟨xs,IK,by omega⟩,hq H2 ys hs hd (by omega) λj y e=>mono _ _ _ _ (hr j y e) (Kf D H2)⟩
 | succ m=>
  have hi:i < xs.length:=by omega
  refine .inr ⟨⟨xs,xs[i],IK,getElem?_eq_getElem hi⟩,λv H' y=>?_⟩;obtain⟨rfl,hv⟩:=y;have ex:=hv xs IK;refine jK (he i v _ ys _ ex hs hd λy H3 Py hy=>?_);refine⟨_,Py D _ hd,aG (by omega),m,by omega,by omega,ak.putD (hs.trans Py) hD,_,ae,by rw [length_append,PK]; rfl,λj z ez=>?_⟩
  by_cases c:j < ys.length
  ·rw [getElem?_append_left c] at ez;exact mono _ _ _ _ (hr j z ez) (Py.uk.trans (Ga D H3 _))
  ·rw [getElem?_append_right (by omega)] at ez;have hj:=(List.getElem?_eq_some_iff.mp ez).1;have e0:j - ys.length=0:=by simp at hj; omega
   rw [e0] at ez;cases ez;have:j=i:=by omega
   subst this;exact mono _ _ _ _ hy (Ga D H3 _)
section
variable {X:Cx}
end
section
variable {M:Model}{A:Around}{E:Value->Shared->Prop}{s:Shared}
end
section
variable {prog:Program}{w:World}{A:Around}{R:Result->Shared->Prop}{h:Heap}{g:Array GenState}{d:Drawn}{t:Nat}{os:OsState}
variable {nm q:Str}{C N:Addr}{bs bm bmB:List Value}{Zw:Bool}{sn:List Str}{sub:List Value}{ab:Bool}{col:Option Bool}{dd:Option Addr}{k0 k1 k2 k3 k5:Option Value}{B Bn newId nid U5 inN:String}{bmN:List Value}
end
section
variable {M:Model}{A:Around}{E:Value->Shared->Prop}{env:Env}
variable {nm q:Str}{C N:Addr}{bs bm:List Value}{Zw:Bool}{sn:List Str}{sub:List Value}{ab:Bool}{col:Option Bool}{dd:Option Addr}{k0 k1 k2 k3 k5:Option Value}{newId:String}
variable {nm2 q2:Str}{C2 N2:Addr}{bs2 bm2:List Value}{afg:Bool}{sn2:List Str}{agO:List Value}{ab2:Bool}{agP:Option Bool}{dd2:Option Addr}{j0 j1 j2 j3 j5:Option Value}{adZ:String}
end
section
variable {prog:Program}{w:World}{A:Around}{E:Value->Shared->Prop}{h:Heap}{g:Array GenState}{d:Drawn}{t:Nat}{os:OsState}
variable {nm q:Str}{C N:Addr}{bs bm bmB:List Value}{Zw:Bool}{sn:List Str}{sub:List Value}{ab:Bool}{col:Option Bool}{dd:Option Addr}{k0 k1 k2 k3 k5:Option Value}{B newId nid U5:String}
end
section
variable {K:Frag}{prog:Program}{w:World}{A:Around}{R:Result->Shared->Prop}{s:Shared}{x C Cb:Addr}
open PySem.W PySem.Builtin PySem.Builtin.ObjectAttr PySem.Builtin.Getset_descriptor in
open PySem.W PySem.Builtin PySem.Builtin.ObjectAttr PySem.Builtin.Getset_descriptor in
open PySem.W PySem.Builtin PySem.Builtin.ObjectAttr PySem.Builtin.Getset_descriptor in
open PySem.W PySem.Builtin PySem.Builtin.ObjectAttr PySem.Builtin.Getset_descriptor in
open PySem.W in
end
noncomputable def XOc (cb:Bool) (C x:Addr) (dx:Option Addr) (raw:Bool) (h:Heap):Prop:=∃vs sl a0,h.get? x=some ⟨.ref C,dx,.fields vs,sl⟩/\vs[0]?=some (.ref a0)/\4 < vs.size/\(raw=true->vs[1]?=some .none)/\(cb=true->vs[2]?=some .none)
section
variable {X:Cx}{CX:vF}{k:Nat}{f C Cb:Addr}{fd:FuncData}{ps:List Str}{sp:Sp}{iI:List V}{ds:List Value}{E:XK}{x m:Str}{p pos apos:Pos}{e o:Expr}{es:List Expr}{ta:TE}{t:TA}
theorem U6 {H:Hp}{a:Addr}{o:HO}(h:H a=some o):upd H a o=H:=by
 funext b;unfold upd;split
 ·next e=>rw [e,h]
 ·rfl
end
noncomputable def TBk (h:Heap) (H:Hp) (a:Addr):Prop:=∃o vs T oT ts,h.get? a=some o/\o.data=.fields vs/\vs[1]?=some (.ref T)/\T≠a/\h.get? T=some oT/\oT.data=.fields ts/\ts[3]?=some .none/\H T=none
section
variable {P:Program}{w:World}{K:Frag}{mg:Str->Option Value}{base:Heap}
end
section
variable {M:Model}{A:Around}{E:Value->Shared->Prop}{s:Shared}
end
section
variable {X:Cx}{k:Nat}{f C:Addr}{fd:FuncData}{ps:List Str}{sp:Sp}{iI:List V}{ds:List Value}{E:XK}
noncomputable def XP (X:Cx) (pins:List (Addr×Obj)) (σ:St) (E:XK) (e:Value) (s':Shared):Prop:=∃a C dx cb H',e=.ref a/\Inv X pins σ H' s'/\H' a=some (.ext (XOc cb C a (some dx) false))/\TBk s'.heap H' a/\E (.ref C) (some a) H'
end
section
variable {prog:Program}{w:World}{A:Around}{E:Value->Shared->Prop}{s:Shared}{env:Env}
end
section
variable {X:Cx}{k:Nat}{f C2:Addr}{fd:FuncData}{ps:List Str}{sp:Sp}{iI:List V}{ds:List Value}{x y n cn:Str}{p np pos apos Zx eC Zy:Pos}{e:Expr}{es:List Expr}{t:TA}{ts:TS}{b0:Stmt}{Rc:List Stmt}{i j:Nat}
end
section
variable {prog:Program}{w:World}{A:Around}{E:Value->Shared->Prop}{s:Shared}
theorem yN {es:Array DictEntry}{p:DictEntry->Bool}(h:(es.toList.find? p).map (·.val)=none):es.findIdx? p=none:=by
 obtain⟨l⟩:=es;have h1:l.find? p=none:=by simpa using h
 have h2:∀x∈l,p x=false:=λx hx=>by
  have:=List.find?_eq_none.mp h1 x hx;simpa using this
 simp only [List.findIdx?_toArray];exact List.findIdx?_eq_none_iff.mpr h2
theorem PL {δ:Type}{R:δ->Value->Prop}{a:Addr}{D:List (Str×δ)}{k:Str}{tk:Tok}{Q:Value->Shared->Prop}(ht:KTD.TabOf R s.heap a D) (hd:KTD.datumAt k D=none)
  (h:Q .none {s with toks:=s.toks+1}):wpAny (model prog w) A (call (.builtin "dict.get") [.ref a,.str k tk]) Q E s:=by
 obtain⟨hm,o,es,ep,ho,ex,yh,iL⟩:=ht;have hi:=yN (iL.find_none hd);refine wpAny_call_entry PySem.F.slot_dict_get ⟨o,ho,ex.1⟩ PySem.F.entry_dict_get ?_ (PySem.F.args_dict_get_2 _ _);have HK:∀(Q':Option Value->Shared->Prop) (E':Value->Shared->Prop),Q' none {s with toks:=s.toks+1}->wpAny (model prog w) A.in1 (dictGet a (.str k tk)) Q' E' s:=λQ' E' hq=>by
  unfold dictGet;refine wpAny_holding (wpAny_bind (wpAny_pyHash_str (wpAny_bind (KTD.kt_dictFind_strs (s:={s with toks:=s.toks+1}) ho yh (by rw [<-Array.all_toList]; exact iL.exact) ?_))));rw [hi];exact wpAny_pure hq
 unfold Builtin.«dict.get»
 repeat (first | (refine HK _ _ ?_) | wp_step | (refine AutoSeq1.wpAny_loadPart' ho ?_))
 exact⟨_,rfl,h⟩
end
section
variable {X:Cx}
theorem Kg {a:Addr}{D:List (Str×Addr)}(t:nJ X.K a D):MtR X "dict.get" (λx vs H Q=>∃k,x=.ref a/\vs=[.str k]/\((∃b,KTD.datumAt k D=some b/\Q (.ref b) H)\/(KTD.datumAt k D=none/\Q .bN H))):=by
 intro pins s σ H x vs v us Q I rx rv h;obtain⟨k,rfl,rfl,h⟩:=h;rcases h with ⟨b,hd,q⟩ | ⟨hd,q⟩
 ·exact PJ t pins s σ H _ _ v us Q I rx rv ⟨k,b,rfl,rfl,hd,q⟩
 ·cases rx;obtain⟨u,rfl,tk,rfl⟩:=rv.one;exact PL (t.of λc o e=>I.iT c o e) hd ⟨.bN,H,I.tok _,rfl,q⟩
noncomputable def Kh (a:Addr) (D:List (Str×Addr)) (td ty:TE):TE:=λσ H Q=>td σ H λx H1=>x=.ref a/\ty σ H1 λy H2=>∃k,y=.str k/\((∃b,KTD.datumAt k D=some b/\Q (.ref b) H2)\/(KTD.datumAt k D=none/\Q .bN H2))
theorem Ki {o e:Expr}{apos eC:Pos}{td ty:TE}{a:Addr}{D:List (Str×Addr)}(t:nJ X.K a D) (ho:PE X o td) (he:PE X e ty) (m:M1 X o "get" apos e eC):PE X (.Call (.Attribute o "get" apos) [e] [] eC) (Kh a D td ty):=by
 intro pins s σ H Q I h;refine wpAny_Call_method m.base m.bO m.line PySem.F.plainAttrs_dict PySem.F.slot_dict_get PySem.F.type_dict_get (ck (ho pins s σ H _ I h) λu s1 ⟨x,H1,I1,rx,ex,q1⟩=>?_);subst ex;obtain rfl:u=Value.ref a:=rx;obtain⟨_,o1,es,ep,PM,U7,yh,_⟩:=t.of (h:=s1.heap) λc o e=>I1.iT c o e
 refine⟨⟨o1,PM,U7.1⟩,λc ec=>?_,?_⟩
 ·cases ec;exact⟨o1,PM,U7.2.1⟩
 rw [m.trees];refine Calls.callWith_builtin rfl (Calls.evalArgs_plain (Calls.spliced_cons (ck (he pins s1 σ H1 _ I1 q1) λiv s2 ⟨y,H2,I2,ry,k,ey,q2⟩=>Calls.spliced_nil ?_)));subst ey;exact Kg t pins s2 σ H2 (.ref a) [.str k] (.ref a) [iv] Q I2 rfl (.cons ry .nil) ⟨k,rfl,rfl,q2⟩
end
section
variable {X:Cx}
theorem yg.aea {i j:Nat}{x y:Str}{es:List Expr}{ws:List Str}{xs:List V}{l:Addr}{p1 p2 p3 p4 pos:Pos}{D:Ends}{σ:St}{H:Hp}(hN:X.N.Nodup) (hi:X.N[i]?=some x) (hx:Loc X.env.scope x) (he:strsOf es=some ws)
  (hy:X.N[j]?=some y) (hv:YI X.env.scope y) (Gd:(y == ("__debug__":Str))=false) (hd2:(y == ("__classdict__":Str))=false)
  (hs:swapsWith (.BinOp (.Name y p3) .Add (.List es p2) p4) (some (.Name x p1)) pos.line X.env=pure false) (hf:X.fn x=true\/X.env.scope.names.lookup x=some .local) (hl:ws.length<=100)
  (hσ:σ[j]?=some (some (.ref l))) (hL:H l=some (.lst xs)) (Q2:xs.length<=900)
  (q:∀l2 H2,ak H H2->H2 l2=some (.lst (xs++ws.map V.str))->D.nx (σ.set i (some (.ref l2))) H2):yg X (.Assign [.Name x p1] (.BinOp (.Name y p3) .Add (.List es p2) p4) pos) D σ H:=by
 refine yg.of (aN hN hi hx (bu eS (pv j hy hv Gd hd2) (bP (vT he))) hs hf) ?_;refine⟨_,hσ,?_,λp hp=>⟨l,p,xs,ws.map V.str,rfl,rfl,ba.of (ak.put hp _ _ hL),ba.of ae,by rw [length_map,sizeLine_eq]; omega,λp2 qx=>q p2 _ ((ak.put hp).trans (.put qx)) ae⟩⟩;rw [length_map];exact Nat.le_of_lt (aG (by omega))
end
section
variable {X:Cx}
end
section
variable {P:Program}{w:World}{K:Frag}{mg:Str->Option Value}{base:Heap}
end
section
variable {X:Cx}{CX:vF}{k:Nat}{f C Cb:Addr}{fd:FuncData}{ps:List Str}{sp:Sp}{iI:List V}{ds:List Value}{E:XK}{x m:Str}{p pos apos:Pos}{e o:Expr}{es:List Expr}{ta:TE}{t:TA}
end
section
variable {prog:Program}{w:World}{A:Around}{E:Value->Shared->Prop}{s:Shared}{env:Env}
end
section
variable {P:Program}{w:World}{K:Frag}{mg:Str->Option Value}{base:Heap}
end
section
variable {prog:Program}{w:World}{A:Around}{E:Value->Shared->Prop}{s:Shared}{env:Env}
end
section
variable {X:Cx}{k:Nat}{f C2:Addr}{fd:FuncData}{ps:List Str}{sp:Sp}{iI:List V}{ds:List Value}{x y n cn:Str}{p np pos apos Zx eC Zy:Pos}{e:Expr}{es:List Expr}{t:TA}{b0:Stmt}{body Rc:List Stmt}{i j:Nat}
end
section
variable {X:Cx}{pos:Pos}
end
section
variable {X:Cx}{pins:List (Addr×Obj)}{σ:St}{H:Hp}{s:Shared}
class BM (mg:Str->Option Value) (base:Heap):Prop where
 ex:∃bm ob,mg "__builtins__"=some (.ref bm)/\bm≠builtinsNs/\bm≠mainGlobals/\base.get? bm=some ob/\ob.cls=.type "module"/\ob.dict=some builtinsNs/\ob.data=.plain
end
section
variable {P:Program}{w:World}{K:Frag}{mg:Str->Option Value}{base:Heap}
end
noncomputable def Kj (L:List (Addr×Sp)) (iI:List V) (E:XK) (tf:TE) (t:TA):TE:=λσ H Q=>tf σ H λx H1=>∃f,x=.ref f/\∃sp,(f,sp)∈L/\t σ H1 λvs H2=>sp (vs++iI) H2 Q E
noncomputable def VF (X:Cx) (CX:vF) (ds:List Value) (q:Addr×Sp):Prop:=∃(fd:FuncData) (ps:List Str) (k:Nat),keepIn X.K (.ref q.1)=true/\aU X.prog X.w X.K X.mg X.base CX k q.1 fd ps q.2/\eK k X.A/\Binds X.K fd ps ds
section
variable {X:Cx}{CX:vF}{iI:List V}{ds:List Value}{E:XK}{pos:Pos}{e fe:Expr}{es:List Expr}{tf:TE}{t:TA}{L:List (Addr×Sp)}
theorem Kk (he:PE X fe tf) (hL:∀q∈L,VF X CX ds q) (hd:Vals iI ds) (hx:Passes CX X E) (ha:PA X (e::es) t)
  (I_:starEach (e::es) X.env=(false,eval e X.env)::starEach es X.env:=by rfl) (tV:(backTo pos (starEach es X.env)).any (·.1)=false:=by rfl)
  (ht:eval (.Call fe (e::es) [] pos) X.env=(do
   let f <-eval fe X.env
   callWith pos f [] (backTo pos (starEach (e::es) X.env)) (backToKw pos (keywordEach [] X.env))):=by rfl) :
  PE X (.Call fe (e::es) [] pos) (Kj L iI E tf t):=by
 intro pins s σ H Q I h;rw [ht];refine wpAny_bind (ck (he pins s σ H _ I h) λu s1 ⟨x,H1,I1,rx,f,ex,sp,hC,q⟩=>?_);subst ex;obtain rfl:u=Value.ref f:=rx;obtain⟨fd,ps,k,kp,F,hr,hb⟩:=hL _ hC;refine PySem.W.callWith_K (first:=[]) (h₀:=X.base) I.ok.mod.Ua kp (ck (ha pos pins s1 σ H1 _ I1 q) λus s2 ⟨vs,H2,I2,r,q2⟩=>⟨I2.iT,?_⟩) I_ tV;exact ny F hr hb hd hx I2 r q2
end
theorem qC:entryFor table "dict_itemiterator.__iter__"=some Builtin.«dict_keyiterator.__iter__»:=(by kernel_rfl:entryFor table "dict_itemiterator.__iter__"=entryFor table "dict_valueiterator.__iter__").trans entry_dict_valueiterator_iter
theorem pK {prog:Program}{w:World}{A:Around}{E:Value->Shared->Prop}{s:Shared}{it d:Addr}{i n ep:Nat}{ok ov:Value}{Q:Value->Shared->Prop}(hit:IsItemIter s.heap it d i n ep ok ov) (h:Q (.ref it) s):wpAny (model prog w) A (pyIter (.ref it)) Q E s:=
 have ty:s.TypeIs (.ref it) "dict_itemiterator":=⟨_,hit,rfl⟩
 wpAny_pyIter_slot ty F.slot_dict_itemiterator_iter (wpAny_call_entry F.slot_dict_itemiterator_iter ty qC (id (wpAny_pure ⟨_,rfl,_,_,ty,F.slot_dict_itemiterator_next.lookup,h⟩)) (F.args_dict_itemiterator_iter_1 _))
noncomputable def Iti (a:Addr) (o:Obj) (kvs:List (Key×V)):It:=
 ⟨λi H=>i < kvs.length/\H a=some (.fI o (.dK kvs)),λi H x H'=>∃t kv,H t=none/\kvs[i]?=some kv/\x=.ref t/\H'=upd H t (.tup [kV kv.1,kv.2]),λi H=>kvs.length<=i/\H a=some (.fI o (.dK kvs))⟩
theorem DN {P:Program}{w:World}{K:Frag}{es:List Expr}{k:Nat}{tp:Pos}{a it:Addr}{o:Obj}{kvs:List (Key×V)}{vs:List (Key×Value)}{ep:Nat}(hd:(a == sysModules)=false) (rel:KV kvs vs)
  (dat:∀h:Heap,h.get? a=some o->h.DictAt (bp P w) a vs ep):Turn P w K (.Tuple es k tp) (Iti a o kvs) [it] it (λi h=>∃ok ov,IsItemIter h it a i vs.length ep ok ov) where
 mem:=by simp
 obj:=λi h st b hb=>by
  have e:b=it:=by simpa using hb
  subst e;obtain⟨ok,ov,he⟩:=st;exact⟨_,he,λv z=>by cases z⟩
 keep:=λi h h' st kk=>by
  obtain⟨ok,ov,he⟩:=st;exact⟨ok,ov,kk it (by simp) _ he⟩
 item:=by
  intro X hP hw hK hc i pins s σ H E I hf st hg;subst hP hw hK;obtain⟨hi,ha⟩:=hg;obtain⟨ho,_⟩:=I.bV a _ ha;have hv:i < vs.length:=by rw [<-rel.length]; exact hi
  obtain⟨ok,ov,he⟩:=st;refine wpAny_pyNext_items_item he (dat _ ho) (k:=vs[i].1) (v:=vs[i].2) (getElem?_eq_getElem hv) λkey h' hk aeb hT hsz hkp=>?_
  refine⟨_,rfl,wpAny_letOwnedTupleGo_items (s:={s with heap:=h'}) aeb λh2 he2 YX=>?_⟩;have HL:it < s.heap.objs.size:=lt_size he;have hn:H s.heap.objs.size=none:=I.fresh;have kp:∀b o,b≠it->s.heap.get? b=some o->h2.get? b=some o:=λb o h1 z=>(YX.2 b h1).trans (hkp b o h1 z)
  have PN:h2.get? s.heap.objs.size=some {cls:=.type "tuple",data:=.seq #[key,vs[i].2]}:=(YX.2 _ (Nat.ne_of_gt HL)).trans hT;have fi:=hf it (by simp);have ne:∀b o,H b=some o->b≠it:=λb o z z2=>by subst z2; rw [fi.1] at z; cases z
  have lt:∀b o,H b=some o->b≠s.heap.objs.size:=λb o z=>Nat.ne_of_lt (I.bV.lt z)
  have ek:=rel.get (getElem?_eq_getElem hi) (getElem?_eq_getElem hv);have ev:=KV.DM rel (getElem?_eq_getElem hi) (getElem?_eq_getElem hv);have rk:RelV (kV kvs[i].1) key:=by rw [ek]; exact vO hk
  have bV:kT X.prog X.w (upd H s.heap.objs.size (.tup [kV kvs[i].1,kvs[i].2])) h2:=λb o z=>by
   by_cases hb:b=s.heap.objs.size
   ·subst hb;rw [ae] at z;cases z;exact⟨by show 2<=_; decide,[key,vs[i].2],.cons rk (.cons ev .nil),⟨_,PN,rfl,_,rfl⟩⟩
   ·rw [au hb] at z;refine(I.bV b o z).Dq (λc v hc q=>?_) (λc q=>by rw [au (lt c _ q)]; exact q) λc ys q=>by rw [au (lt c _ q)]; exact q
    rcases hc with rfl | hc
    ·exact kp _ v (ne _ o z) q
    ·exact kp c v (ne c _ hc) q
  have Zz:∀b o,s.heap.get? b=some o->b≠s.heap.objs.size:=λb o z=>Nat.ne_of_lt (lt_size z)
  have U:Un (IJ X.stack) [it] H (upd H s.heap.objs.size (.tup [kV kvs[i].1,kvs[i].2])) s.heap h2:=by
   have O9:∀b,b∉[it]->b≠it:=λb hb z=>hb (by simp [z])
   refine⟨λb o z _ _ hb=>kp b o (O9 b hb) z,λb o z _ _ hb=>⟨o.slots,kp b o (O9 b hb) z⟩,λb o z n hb=>by rw [au (Zz b o z)]; exact n,λb o z hb=>?_,λb ys z=>by rw [au (lt b _ z)]; exact z,λb o u z=>by rw [au (lt b _ z)]; exact z,λb ps z=>⟨#[],by rw [au (lt b _ z),z]; simp⟩⟩;exact⟨o,kp b o (O9 b hb) z⟩
  have I2:Inv X pins σ (upd H s.heap.objs.size (.tup [kV kvs[i].1,kvs[i].2])) {s with heap:=h2}:=I.call (g':=s.gens) (t':=s.toks) (d':=s.drawn) (ch:=[it]) U bV I.bare λb hb=>by
   have f:=hf b hb;exact⟨f.2.2.2.1,f.2.1,f.2.2.2.2.1,f.2.2.2.2.2⟩
  refine⟨.ref s.heap.objs.size,_,I2,rfl,⟨s.heap.objs.size,kvs[i],hn,getElem?_eq_getElem hi,rfl,rfl⟩,⟨_,_,he2⟩,λb hb=>?_⟩;have eb:b=it:=by simpa using hb
  subst eb;rw [au (Zz _ _ he)];exact fi.1
 done:=by
  intro X hP hw hK hc i pins s σ H E I hf st hg;subst hP hw hK;obtain⟨hi,ha⟩:=hg;obtain⟨ho,_⟩:=I.bV a _ ha;obtain⟨f0,f1,f2,f3,f4,f5⟩:=hf it (by simp);obtain⟨ok,ov,he⟩:=st;have hl:=rel.length;exact wpAny_pyNext_items_end (I.ok.hd hc) he (dat _ ho) (List.getElem?_eq_none (by omega)) λh' eb=>⟨rfl,I.turned (t':=s.toks) (λb o hb e=>eb b o hb e) f0 f1 f3 f4 f5⟩
 self:=λ_ _ _ _ _ st h=>by
  obtain⟨ok,ov,he⟩:=st;exact pK he h
section
variable {X:Cx}
theorem yO:Za X "dict.items" (λx vs H Q=>∃(a:Addr) (kvs:List (Key×V)),x=.ref a/\vs=[]/\Rd H a (.dK kvs)/\∀p,H p=none->Q (.ref p) (upd H p (.ext λh=>h.IsItemsView p a))):=by
 intro pins s σ H x vs v us Q I rx rv h;obtain⟨a,kvs,rfl,rfl,ha,q⟩:=h;cases rx;cases rv;obtain⟨z,hd,vs,rel,dd⟩:=gH I.bV ha;refine call_meetsIn PySem.F.slot_dict_items dd.typeIs PySem.F.entry_dict_items (PySem.F.args_dict_items_1 _) (meets_dict_items (bp X.prog X.w) a hd) ⟨⟨vs,dd⟩,.ref s.heap.objs.size,_,I.laid (a:=s.heap.objs.size) (t':=s.toks) (λb o hb=>get?_push_of_some _ hb) (Nat.le_refl _) ?_,rfl,q _ (I.bV.fresh (Nat.le_refl _))⟩;have e:=get?_push_size s.heap (o:={cls:=.type "dict_items",data:=.fields #[.ref a]}) rfl;exact⟨⟨_,e,rfl,rfl⟩,⟨_,e⟩,λh1 h2 ⟨o,e1,c,d⟩ k=>⟨o,k o e1,c,d⟩⟩
noncomputable def DO (tl:TE):TI:=λσ H R=>tl σ H λx H1=>∃p a kvs,x=.ref p/\H1 p=some (.ext λh=>h.IsItemsView p a)/\H1 a=some (.dK kvs)/\∀o,R (Iti a o kvs) (upd H1 a (.fI o (.dK kvs)))
theorem yP {es:List Expr}{k:Nat}{tp:Pos}{l:Expr}{tl:TE}(hl:PE X l tl):PI X (.Tuple es k tp) l (DO tl):=by
 intro pins s σ H R I h;refine ck (hl pins s σ H _ I h) λv s1 ⟨x,H1,I1,r1,q1⟩=>?_
 obtain⟨p,a,kvs,e,hp,ha,q⟩:=q1;subst e;cases r1;have hv:s1.heap.IsItemsView p a:=(I1.bV p _ hp).1;obtain⟨z,hd,vs,rel,dd⟩:=jo I1.bV ha;obtain⟨o,ho,I2⟩:=I1.freeze ha;obtain⟨ep,dat⟩:=dd.dictAt;have UW:∀h:Heap,h.get? a=some o->h.DictAt (bp X.prog X.w) a vs ep:=λh e=>by
  obtain⟨o',es,h1,h2⟩:=dat;rw [ho] at h1;cases h1;exact⟨o,es,e,h2⟩
 refine wpAny_pyIter_items hv dat ?_;refine⟨s1.heap.objs.size,[s1.heap.objs.size],_,_,_,rfl,I2.kept (t':=s1.toks) λb o e=>get?_push_of_some _ e,DN hd rel UW,⟨_,_,get?_push_size _ rfl⟩,λb hb=>?_,q o⟩;have e:b=s1.heap.objs.size:=by simpa using hb
 subst e;exact I2.Jd (Nat.le_refl _) (I2.bV.fresh (Nat.le_refl _))
theorem Kl {a:Addr}{o:Obj}{kvs:List (Key×V)}{g:TG}{tb:TS}{D:Ends}{σ:St}{H:Hp}(Pv:Nat->St->Hp->Prop) (h0:Pv 0 σ H) (hl:∀i σ H,i<=kvs.length->Pv i σ H->H a=some (.fI o (.dK kvs)))
  (hs:∀i kv t σ H,kvs[i]?=some kv->Pv i σ H->H t=none->g (.ref t) σ (upd H t (.tup [kV kv.1,kv.2])) λσ2 H2=>tb {D with nx:=Pv (i+1),ct:=Pv (i+1),bk:=D.nx} σ2 H2) (hd:∀σ H,Pv kvs.length σ H->D.nx σ H):JS (Iti a o kvs) g tb D σ H:=by
 refine⟨λi m σ H=>m=kvs.length - i/\i<=kvs.length/\Pv i σ H,⟨kvs.length,by simp,Nat.zero_le _,h0⟩,?_⟩;rintro i m σ H ⟨rfl,hi,p⟩;have q:=hl i σ H hi p
 by_cases hU:i < kvs.length
 ·refine .inr ⟨⟨hU,q⟩,Pv (i+1),λσ' H' p'=>⟨kvs.length - (i+1),by omega,rfl,hU,p'⟩,λx H' y=>?_⟩;obtain⟨t,kv,ht,e,rfl,rfl⟩:=y;exact hs i kv t σ _ e p ht
 ·have e:i=kvs.length:=by omega
  subst e;exact .inl ⟨⟨Nat.le_refl _,q⟩,hd σ H p⟩
end
section
variable {prog:Program}{w:World}{A:Around}{E:Value->Shared->Prop}{s:Shared}
theorem Ge {δ:Type}{R:δ->Value->Prop}{a:Addr}{D:List (Str×δ)}{k:Str}{tk:Tok}{d:δ}{Q:Option Value->Shared->Prop}(ht:KTD.TabOf R s.heap a D) (hd:KTD.datumAt k D=some d)
  (h:∀v,R d v->Q (some v) {s with toks:=s.toks+1}):wpAny (model prog w) A (dictGet a (.str k tk)) Q E s:=by
 obtain⟨hm,o,es,ep,ho,ex,yh,iL⟩:=ht;obtain⟨v,hv,hR⟩:=iL.find_some hd;obtain⟨i,hi,hiv⟩:=F_ hv;unfold dictGet;refine wpAny_holding (wpAny_bind (wpAny_pyHash_str (wpAny_bind (KTD.kt_dictFind_strs (s:={s with toks:=s.toks+1}) ho yh (by rw [<-Array.all_toList]; exact iL.exact) ?_))));rw [hi];refine wpAny_bind (wpAny_dictEntries (s:={s with toks:=s.toks+1}) ho yh (wpAny_pure ?_));rw [hiv];exact h v hR
theorem Km {δ:Type}{R:δ->Value->Prop}{a:Addr}{D:List (Str×δ)}{k:Str}{tk:Tok}{Q:Option Value->Shared->Prop}(ht:KTD.TabOf R s.heap a D) (hd:KTD.datumAt k D=none)
  (h:Q none {s with toks:=s.toks+1}):wpAny (model prog w) A (dictGet a (.str k tk)) Q E s:=by
 obtain⟨hm,o,es,ep,ho,ex,yh,iL⟩:=ht;have hi:=yN (iL.find_none hd);unfold dictGet;refine wpAny_holding (wpAny_bind (wpAny_pyHash_str (wpAny_bind (KTD.kt_dictFind_strs (s:={s with toks:=s.toks+1}) ho yh (by rw [<-Array.all_toList]; exact iL.exact) ?_))));rw [hi];exact wpAny_pure h
theorem kd_item {δ:Type}{R:δ->Value->Prop}{a:Addr}{D:List (Str×δ)}{k:Str}{tk:Tok}{d:δ}{Q:Value->Shared->Prop}(ht:KTD.TabOf R s.heap a D) (hd:KTD.datumAt k D=some d)
  (h:∀v,R d v->Q v {s with toks:=s.toks+1}):wpAny (model prog w) A (getItem (.ref a) (.str k tk)) Q E s:=by
 have ty:s.TypeIs (.ref a) "dict":=by
  obtain⟨hm,o,es,ep,ho,ex,yh,iL⟩:=ht;exact⟨o,ho,ex.1⟩
 unfold getItem
 try with_reducible refine wpAny_holding ?_
 refine wpAny_bind (wpAny_sequenceKey ty (by decide) ?_);refine wpAny_bind (wpAny_callSpecial?_slot (name:=Str.ofString "__getitem__") ty PySem.F.slot_dict_getitem
  (wpAny_call_entry PySem.F.slot_dict_getitem ty PySem.F.entry_dict_getitem ?_ (PySem.F.args_dict_getitem_2 _ _)))
 show wpAny _ _ (dictGet a (.str k tk) >>= _) _ _ s;exact wpAny_bind (Ge ht hd λv hv=>wpAny_pure ⟨v,rfl,wpAny_pure (h v hv)⟩)
theorem PQ {δ:Type}{R:δ->Value->Prop}{a:Addr}{D:List (Str×δ)}{k:Str}{tk:Tok}{dv:Value}{Q:Value->Shared->Prop}(ht:KTD.TabOf R s.heap a D)
  (h:(∃d,KTD.datumAt k D=some d/\∀v,R d v->Q v {s with toks:=s.toks+1})\/(KTD.datumAt k D=none/\Q dv {s with toks:=s.toks+1})):wpAny (model prog w) A (call (.builtin "dict.get") [.ref a,.str k tk,dv]) Q E s:=by
 have ty:s.TypeIs (.ref a) "dict":=by
  obtain⟨hm,o,es,ep,ho,ex,yh,iL⟩:=ht;exact⟨o,ho,ex.1⟩
 refine wpAny_call_entry PySem.F.slot_dict_get ty PySem.F.entry_dict_get ?_ (PySem.F.args_dict_get_3 _ _ _);show wpAny _ _ (dictGet a (.str k tk) >>= _) _ _ s;rcases h with ⟨d,hd,h⟩ | ⟨hd,h⟩
 ·exact wpAny_bind (Ge ht hd λv hv=>wpAny_pure ⟨v,rfl,h v hv⟩)
 ·refine wpAny_bind (Km ht hd ?_);show wpAny _ _ (Builtin.Dict.missed a (.str k tk) >>= _) _ _ _;exact wpAny_bind (wpAny_missed_other ht.1 (wpAny_pure ⟨dv,rfl,h⟩))
end
section
variable {X:Cx}{o e f i:Expr}{apos eC pos:Pos}{td ty tx:TE}{a:Addr}{D:List (Str×Addr)}
theorem PR (t:nJ X.K a D) (ho:PE X o td) (hi:PE X i ty) (hs:US i):PE X (.Subscript o i pos) (Rb a D td ty):=by
 intro pins s σ H Q I h;refine F6 PySem.F.slot_dict_getitem.lookup hs (ck (ho pins s σ H _ I h) λu s1 ⟨x,H1,I1,rx,ex,q1⟩=>ck (hi pins s1 σ H1 _ I1 q1) λiv s2 ⟨y,H2,I2,ry,k,b,ey,hd,q2⟩=>?_);subst ex;obtain rfl:u=Value.ref a:=rx;subst ey;obtain⟨tk,rfl⟩:=ry;have ht:=t.of (h:=s2.heap) λc o e=>I2.iT c o e
 obtain⟨_,o1,es,ep,PM,U7,_⟩:=id ht;refine⟨⟨o1,PM,U7.1⟩,kd_item ht hd λv e=>?_⟩;subst e;exact⟨.ref b,H2,I2.tok _,rfl,q2⟩
noncomputable def Kn (a:Addr) (D:List (Str×Addr)) (td ty tx:TE):TE:=λσ H Q=>td σ H λx H1=>x=.ref a/\ty σ H1 λy H2=>tx σ H2 λz H3=>∃k,y=.str k/\((∃b,KTD.datumAt k D=some b/\Q (.ref b) H3)\/(KTD.datumAt k D=none/\Q z H3))
theorem Ko (t:nJ X.K a D) (ho:PE X o td) (he:PE X e ty) (hf:PE X f tx) (m:M2 X o "get" apos e f eC):PE X (.Call (.Attribute o "get" apos) [e,f] [] eC) (Kn a D td ty tx):=by
 intro pins s σ H Q I h;refine wpAny_Call_method m.base m.bO m.line PySem.F.plainAttrs_dict PySem.F.slot_dict_get PySem.F.type_dict_get (ck (ho pins s σ H _ I h) λu s1 ⟨x,H1,I1,rx,ex,q1⟩=>?_);subst ex;obtain rfl:u=Value.ref a:=rx;obtain⟨_,o1,es,ep,PM,U7,yh,_⟩:=t.of (h:=s1.heap) λc o e=>I1.iT c o e
 refine⟨⟨o1,PM,U7.1⟩,λc ec=>?_,?_⟩
 ·cases ec;exact⟨o1,PM,U7.2.1⟩
 rw [m.trees];refine Calls.callWith_builtin rfl (Calls.evalArgs_plain (Calls.spliced_cons (ck (he pins s1 σ H1 _ I1 q1) λiv s2 ⟨y,H2,I2,ry,q2⟩=>
  Calls.spliced_cons (ck (hf pins s2 σ H2 _ I2 q2) λfv s3 ⟨z,H3,I3,rz,k,ey,q3⟩=>Calls.spliced_nil ?_))))
 subst ey;obtain⟨tk,rfl⟩:=ry;refine PQ (t.of (h:=s3.heap) λc o e=>I3.iT c o e) ?_;rcases q3 with ⟨b,hd,q⟩ | ⟨hd,q⟩
 ·refine .inl ⟨b,hd,λv e=>?_⟩;subst e;exact⟨.ref b,H3,I3.tok _,rfl,q⟩
 ·exact .inr ⟨hd,z,H3,I3.tok _,rz,q⟩
end
section
variable {X:Cx}
noncomputable def tLT (t:TE):TT:=λσ H Q=>t σ H λx H'=>∃(a:Addr) (xs:List V),x=.ref a/\H' a=some (.lst xs)/\xs.length<=1000/\Q (!xs.isEmpty) H'
theorem U8 {e:Expr}{t:TE}(h:PE X e t) (he:∀whole,isTrue e X.env whole=(do let v <-whole; standAt e.pos; holding [v] (truthy v)):=by intro _; rfl):PT X e (tLT t):=by
 intro pins s σ H Q I hw;refine isTrue_plain (ck (h pins s σ H _ I hw) λv s1 ⟨x,H1,I1,r1,q1⟩=>?_) (he _);obtain⟨a,xs,rfl,ha,hl,q⟩:=q1;cases r1;obtain⟨_,bF,n,r,hz,e⟩:=I1.Jy ha;have hlen:=r.length;refine wpAny_truthy_list ⟨_,e,rfl,_,rfl⟩ (by rw [size_toArray]; omega) ⟨H1,(I1.tok _).tok _,?_⟩;have:(bF.toArray.isEmpty)=xs.isEmpty:=by
  cases bF with
  | nil=>cases xs with
   | nil=>rfl
   | cons=>cases hlen
  | cons=>cases xs with
   | nil=>cases hlen
   | cons=>rfl
 rw [this];exact q
end
theorem um:entryFor table "dict.update.loop"=some Builtin.«dict.update.loop»:=entryFor_of_tree (by kernel_rfl)
theorem kx:plainId "dict.update.loop"=true:=by decide +kernel
section
variable {prog:Program}{w:World}{κ:Type} [DecidableEq κ] {knd:KeyKind prog w κ}{A:Around}{R:Result->Shared->Prop}{I:Addr}{fp wr:List Addr}{G:Array GenState->Array GenState->Prop}{n:Nat}{P:Nat->Value->Prop}{St:Nat->Shared->Prop}
noncomputable def dA (ps:List (κ×Value×Value)):List (κ×Value):=ps.foldl (λacc p=>stored acc p.1 p.2.2) []
theorem qD (ps:List (κ×Value×Value)) (p:κ×Value×Value):dA (ps++[p])=stored (dA ps) p.1 p.2.2:=by
 unfold dA;rw [List.foldl_append];rfl
theorem DP (kvs:List (κ×Value)) (k:κ) (v:Value):(stored kvs k v).length<=kvs.length+1:=by
 unfold stored;split
 ·rw [length_map]; omega
 ·rw [length_append,length_singleton]; exact Nat.le_refl _
theorem jq:∀(ps:List (κ×Value×Value)) (acc:List (κ×Value)),(ps.foldl (λacc p=>stored acc p.1 p.2.2) acc).length<=acc.length+ps.length
 | [],_=>Nat.le_refl _
 | p::ps,acc=>by
  have h1:=jq ps (stored acc p.1 p.2.2);have h2:=DP acc p.1 p.2.2;rw [List.foldl_cons,length_cons];omega
theorem sT (ps:List (κ×Value×Value)):(dA ps).length<=ps.length:=by
 have:=jq ps [];rw [List.length_nil,Nat.zero_add] at this;exact this
noncomputable def nK (h:Heap) (t:Addr) (x y:Value):Prop:=∃o m,h.get? t=some o/\o.cls=.type "tuple"/\o.data=.seq #[x,y] m
theorem Kq (W:WalksS prog w A.in1 I fp wr G n P St) (d:Addr) (QZ:d∉fp) (ps:List (κ×Value×Value)) (hlen:ps.length=n) (tp:Nat->Addr) (hP:∀i v,P i v->v=.ref (tp i)) (htp:∀i,i < n->tp i≠d/\tp i∉wr)
  (hk:∀p∈ps,knd.is p.1 p.2.1=true) (hsz:n<=sizeLine) {result:Value} :
  ∀(k i:Nat) (s:Shared),n - i=k->i<=n->St i s->s.heap.DictOf knd d (dA (ps.take i))->(∀(j:Nat) p,ps[j]?=some p->nK s.heap (tp j) p.2.1 p.2.2) ->
   (∀s',Moved (d::wr) G s s'->s'.heap.DictOf knd d (dA ps)->R (.ok (.ret result)) s') ->
   codeAny (model prog w) A (.builtin "dict.update.loop" ⟨[.ref d,.ref I,rawInt i,result],[]⟩) R s:=by
 have hdw:d∉wr:=λh=>QZ (W.sub _ h)
 have sU:∀b∈wr,b∈d::wr:=λb hb=>mem_cons_of_mem _ hb
 intro k;induction k with
 | zero=>
  intro i s hki hi I_ hD hT hR;have yQ:i=n:=by omega
  subst yQ;refine codeAny_builtin um ?_;rw [Around.under_plainId kx _];show wpAny _ A.in1 (pyNext (.ref I) >>= _) _ _ s;refine wpAny_bind (W.done s _ _ I_ λs' hm=>?_);show wpAny _ A.in1 (ret result) _ _ s';refine wpAny_pure (hR s' (hm.mono sU) ?_);rw [<-hlen,take_length] at hD;obtain⟨o,es,ep,ho,rest⟩:=hD;exact⟨o,es,ep,hm.heap d _ hdw ho,rest⟩
 | succ k ih=>
  intro i s hki hi I_ hD hT hR;have hU:i < n:=by omega
  refine codeAny_builtin um ?_;rw [Around.under_plainId kx _];show wpAny _ A.in1 (pyNext (.ref I) >>= _) _ _ s;refine wpAny_bind (W.item i s _ _ hU I_ λv s' hPv aec hm=>?_);obtain rfl:=hP i v hPv;obtain⟨p,hp⟩:∃p,ps[i]?=some p:=⟨_,getElem?_eq_getElem (by omega)⟩
  have hT':∀(j:Nat) p,ps[j]?=some p->nK s'.heap (tp j) p.2.1 p.2.2:=λj p hj=>by
   obtain⟨o,m,h1,h2⟩:=hT j p hj;exact⟨o,m,hm.heap _ _ (htp j (by rw [<-hlen]; exact(List.getElem?_eq_some_iff.mp hj).1)).2 h1,h2⟩
  have hD':s'.heap.DictOf knd d (dA (ps.take i)):=by
   obtain⟨o,es,ep,ho,rest⟩:=hD;exact⟨o,es,ep,hm.heap d _ hdw ho,rest⟩
  obtain⟨ot,m,ZA,ky,ht3⟩:=hT' i p hp;have tyT:s'.TypeIs (.ref (tp i)) "tuple":=⟨_,ZA,ky⟩
  show wpAny _ A.in1 (holding [Value.ref (tp i)] ((Builtin.Dict.pairItems (.ref (tp i))).tryCatch _ >>= _) >>= _) _ _ s';refine wpAny_bind (wpAny_holding (wpAny_bind (wpAny_tryCatch ?_)));unfold Builtin.Dict.pairItems;refine wpAny_bind (wpAny_typeOf tyT ?_);rw [if_pos (by decide)];refine wpAny_bind (wpAny_seqItems ZA ht3 (wpAny_pure ?_));show wpAny _ A.in1 (holding [p.2.1,p.2.2] (dictSet d p.2.1 p.2.2)) _ _ s';refine wpAny_holding (wpAny_dictSet_pairs (hk p (mem_of_getElem? hp)) hD' (λh' Kr vK=>?_) ?_)
  ·have hD3:h'.DictOf knd d (dA (ps.take (i+1))):=by
    rw [take_add_one,hp];show h'.DictOf knd d (dA (ps.take i++[p]));rw [qD];exact Kr
   refine wpAny_pure ⟨plainId_quiet kx _,?_⟩;have:=ih (i+1) {s' with heap:=h',toks:=s'.toks+1} (by omega) hU (W.frame _ s' _ _ aec (Nat.le_succ _) λb hb o e=>?_) hD3 (λj p hj=>?_) λY4 aed aee=>?_
   ·exact this
   ·rw [vK.2 b (λh:b=d=>QZ (by rw [<-h]; exact hb))]; exact e
   ·obtain⟨o,m,h1,h2⟩:=hT' j p hj;exact⟨o,m,by rw [vK.2 _ (htp j (by rw [<-hlen]; exact(List.getElem?_eq_some_iff.mp hj).1)).1]; exact h1,h2⟩
   ·refine hR Y4 (Moved.trans W.gtrans ((hm.mono sU).then_heap (Nat.le_succ _) λb o hb e=>?_) aed) aee;rw [vK.2 b (λh:b=d=>hb (by rw [h]; exact mem_cons_self))]; exact e
  ·have:=sT (ps.take i);rw [length_take] at this;omega
end
theorem vU:typeLookup (.type "list") "keys"=pure none:=by rw [typeLookup_type,builtinLookup_eq_fast]; kernel_rfl
theorem k_ {prog:Program}{w:World}{A:Around}{E:Value->Shared->Prop}{s:Shared}{a:Addr}{o:Obj}{xs:Array Value}{k:Nat}{name:Str}{Q:Option Value->Shared->Prop}
  (hx:s.heap.get? a=some o) (hc:o.cls=.type "list") (PU:o.data=.seq xs k) (hd:o.dict=none) (ZC:typeLookup (.type "list") name=pure none) (ZD:(["__module__","__name__","__qualname__","__doc__","__annotations__"]:List Str).contains name=false) (hA:A.handled=none)
  (h:∀h' tk e,Heap.NewExcOf s.heap h' e "AttributeError"->Q none {s with heap:=h',toks:=tk}) (hsz:name.length+100<=sizeLine:=by size_fits) :
  wpAny (model prog w) A (getAttr? (.ref a) name) Q E s:=by
 obtain⟨c,dct,dat,sl⟩:=o;simp only at hc PU hd;subst hc PU hd;obtain⟨hp,g,d,tk,os⟩:=s;have hT:∀ZE,(⟨hp,g,d,ZE,os⟩:Shared).TypeIs (.ref a) "list":=λ_=>⟨_,hx,rfl⟩
 have f1:=sub_AttributeError;have f3:=PySem.F.slot_list_getattribute.lookup;have f4:=PySem.F.slot_list_getattribute.bind (.ref a);have f5:=am_list_getattr_none;unfold getAttr? getAttrBy? getAttrBy
 repeat (any_goals (first | assumption | exact hT _ | ((with_reducible show wpAny _ _ (call (Value.builtin "list.__getattribute__") _ _) _ _ _); refine call_meets PySem.F.slot_list_getattribute (hT _) am_entry_list_getattribute (PySem.F.args_list_getattribute_2 _ _) (meets_getattribute_miss_list a xs k sl name _ ZC ZD hsz) ⟨hx,hA,λh' ZE e hx'=>?_⟩) | wp_step))
 obtain⟨t',u',he⟩:=hx'.there;show wpAny _ _ (getattributeRaised _ _ _ _ _ _ _) _ _ _;unfold getattributeRaised;have tyE:Shared.TypeIs ⟨h',g,d,ZE,os⟩ (.ref e) "AttributeError":=⟨_,he,rfl⟩
 repeat (any_goals (first | assumption | wp_step))
 exact h _ _ _ hx'.of
section
variable {prog:Program}{w:World}{κ:Type} [DecidableEq κ] {knd:KeyKind prog w κ}{A:Around}{E:Value->Shared->Prop}{s:Shared}
theorem pL {l:Addr}{items:Array Value}{m:Nat}{sl:Array (Option Value)}{Q:Value->Shared->Prop}(hh:A.handled=none) (hx:s.heap.get? l=some ⟨.type "list",none,.seq items m,sl⟩) (ps:List (κ×Value×Value)) (tp:Nat->Addr)
  (hlen:ps.length=items.size) (hit:∀(i:Nat) (v:Value),items[i]?=some v->v=.ref (tp i)) (hT:∀(j:Nat) p,ps[j]?=some p->nK s.heap (tp j) p.2.1 p.2.2) (hk:∀p∈ps,knd.is p.1 p.2.1=true) (hsz:ps.length<=sizeLine)
  (h:∀h' tk,h'.DictOf knd s.heap.objs.size (dA ps)->(∀b o,b < s.heap.objs.size->s.heap.get? b=some o->h'.get? b=some o)->Q (.ref s.heap.objs.size) {s with heap:=h',toks:=tk}) :
  wpAny (model prog w) A (call (.type "dict") [.ref l]) Q E s:=by
 refine callType_codes (Q₁:=λobj s₁=>obj=.ref s.heap.objs.size/\s₁={s with heap:=s.heap.push {cls:=.type "dict",data:=.dict #[]}}) PySem.F.kt_called_dict (PySem.F.kt_typeCall_dict_1 _) PySem.F.entry_dict_init (kt_code_dict_new _ ⟨rfl,rfl⟩) ?_;rintro obj s₁ ⟨rfl,rfl⟩;have nB:(s.heap.push {cls:=.type "dict",data:=.dict #[]}).DictOf knd s.heap.objs.size []:=Heap.DictOf.new s.heap;have mZ:(s.heap.push {cls:=.type "dict",data:=.dict #[]}).get? l=some ⟨.type "list",none,.seq items m,sl⟩:=get?_push_of_some _ hx;refine⟨nB.typeIs,PySem.F.args_dict_init_2 _ _,?_⟩;unfold Builtin.«dict.__init__»;refine wpAny_bind ?_;unfold Builtin.Dict.selfAndRest;refine wpAny_bind (wpAny_notOrdered_dict nB.typeIs ?_);show wpAny _ _ (pure (s.heap.objs.size,[Value.ref l])) _ _ _;refine wpAny_pure ?_;show wpAny _ _ (Builtin.Dict.updateFrom "dict.__init__" s.heap.objs.size (.ref l) [] .none) _ _ _;unfold Builtin.Dict.updateFrom;have tyL:Shared.TypeIs {s with heap:=s.heap.push {cls:=.type "dict",data:=.dict #[]}} (.ref l) "list":=⟨_,mZ,rfl⟩
 refine wpAny_bind (wpAny_typeOf tyL ?_);rw [if_pos (by decide)];refine wpAny_bind (k_ mZ rfl rfl rfl vU (by decide) ?_ λh1 tk1 e ne=>?_)
 ·show A.in1.in1.handled=none;simp [hh]
 rw [if_pos (by decide)];refine wpAny_bind (wpAny_rule ?_);have IK:=ne.keeps _ _ mZ;have fW:h1.IsList l items:=⟨_,IK,rfl,m,rfl⟩
 refine wpAny_bind (wpAny_pyIter_list fW (wpAny_pure ⟨plainId_quiet kx _,?_⟩));have hlS:l < s.heap.objs.size:=lt_size hx;have hD1:h1.DictOf knd s.heap.objs.size []:=by
  obtain⟨o,es,ep,ho,rest⟩:=nB;exact⟨o,es,ep,ne.keeps _ _ ho,rest⟩
 have hdS:s.heap.objs.size < h1.objs.size:=by
  obtain⟨o,es,ep,ho,rest⟩:=hD1;exact lt_size ho
 have aef:l≠h1.objs.size:=Nat.ne_of_lt (Nat.lt_trans hlS hdS);have hh3:A.in1.in1.handled=none:=by simp [hh]
 refine Kq (n:=items.size) ((Walks.list hh3 h1.objs.size l aef items).toS) s.heap.objs.size ?_ ps hlen tp hit (λi hi=>?_) hk (by omega) (items.size - 0) 0 _ (by omega) (Nat.zero_le _) ⟨⟨_,get?_push_size _ rfl,rfl,rfl⟩,fW.push _⟩ (hD1.push _) (λj p hj=>?_) λs' hm hD'=>?_
 ·simp only [mem_cons,mem_singleton,not_mem_nil,or_false,not_or];exact⟨Nat.ne_of_lt hdS,Nat.ne_of_gt hlS⟩
 ·obtain⟨p,hp⟩:∃p,ps[i]?=some p:=⟨_,getElem?_eq_getElem (by omega)⟩
  obtain⟨o,mm,h2,_⟩:=hT i p hp;have hU:=lt_size h2;refine⟨Nat.ne_of_lt hU,?_⟩;simp only [mem_cons,mem_singleton,not_mem_nil,or_false];exact Nat.ne_of_lt (Nat.lt_trans hU hdS)
 ·obtain⟨o,mm,h2,h3⟩:=hT j p hj;exact⟨o,mm,get?_push_of_some _ (ne.keeps _ _ (get?_push_of_some _ h2)),h3⟩
 ·obtain⟨h',g',d',ZE,os'⟩:=s';have eg:g'=s.gens:=hm.gens;have ed:d'=s.drawn:=hm.drawn;have eo:os'=s.os:=hm.os;subst eg; subst ed; subst eo
  refine⟨rfl,h h' ZE hD' λb o hb e=>?_⟩;refine hm.heap b o ?_ (get?_push_of_some _ (ne.keeps _ _ (get?_push_of_some _ e)));simp only [mem_cons,mem_singleton,not_mem_nil,or_false,not_or];exact⟨Nat.ne_of_lt hb,Nat.ne_of_lt (Nat.lt_trans hb hdS)⟩
end
noncomputable def putAll (ju:List (Key×V)):List (Key×V):=ju.foldl (λacc p=>putK acc p.1 p.2) []
theorem Gf:∀(ju:List (Key×V)) (ps:List (Key×Value×Value)) (acc:List (Key×V)) (vP:List (Key×Value)),KV acc vP->ju.length=ps.length->(∀(j:Nat) p q,ju[j]?=some p->ps[j]?=some q->p.1=q.1/\RelV p.2 q.2.2)->KV (ju.foldl (λacc p=>putK acc p.1 p.2) acc) (ps.foldl (λacc p=>stored acc p.1 p.2.2) vP)
 | [],[],_,_,r,_,_=>r
 | [],_::_,_,_,_,h,_=>by cases h
 | _::_,[],_,_,_,h,_=>by cases h
 | p::ju,q::ps,acc,vP,r,hl,h=>by
  obtain⟨h1,h2⟩:=h 0 p q rfl rfl;rw [List.foldl_cons,List.foldl_cons];refine Gf ju ps _ _ ?_ (by simpa using hl) λj p q hp hq=>h (j+1) p q hp hq
  rw [<-h1];exact r.put p.1 h2
theorem mq:∀(ps:List (Key×V)) (acc:List (Key×V)),(ps.foldl (λacc p=>putK acc p.1 p.2) acc).length<=acc.length+ps.length
 | [],_=>Nat.le_refl _
 | p::ps,acc=>by
  have h1:=mq ps (putK acc p.1 p.2);have h2:=gp acc p.1 p.2;rw [List.foldl_cons,length_cons];omega
theorem DQ (ps:List (Key×V)):(putAll ps).length<=ps.length:=by
 have:=mq ps [];rw [List.length_nil,Nat.zero_add] at this;exact this
section
variable {X:Cx}{pins:List (Addr×Obj)}{σ:St}{H:Hp}{s:Shared}
theorem yR (I:Inv X pins σ H s):∀(ts:List Addr) (ju:List (Key×V)),ts.length=ju.length->(∀(i:Nat) t p,ts[i]?=some t->ju[i]?=some p->H t=some (.tup [kV p.1,p.2])) ->
  ∃ps:List (Key×Value×Value),ju.length=ps.length/\∀(j:Nat) t p,ts[j]?=some t->ju[j]?=some p->∃q,ps[j]?=some q/\p.1=q.1/\RelV p.2 q.2.2/\RelV (kV p.1) q.2.1/\nK s.heap t q.2.1 q.2.2
 | [],[],_,_=>⟨[],rfl,λj t p h=>by simp at h⟩
 | [],_::_,h,_=>by cases h
 | _::_,[],h,_=>by cases h
 | t::ts,p::ju,hl,h=>by
  obtain⟨ps,h1,h2⟩:=yR I ts ju (by simpa using hl) λi t p ht hp=>h (i+1) t p ht hp
  obtain⟨_,vs,r,o,ho,hc,m,hd⟩:=I.bV t _ (h 0 t p rfl rfl)
  cases r with
  | cons rk r=>
   cases r with
   | cons rv r=>
    cases r;rename_i x y;refine⟨(p.1,x,y)::ps,by simp [h1],λj t' p' ht hp=>?_⟩
    cases j with
    | zero=>
     cases ht;cases hp;exact⟨_,rfl,rfl,rv,rk,o,m,ho,hc,hd⟩
    | succ j=>exact h2 j t' p' ht hp
theorem qE (hc:X.calm=true):fK X (.type "dict") (λxs H Q=>∃(l:Addr) (ts:List Addr) (ju:List (Key×V)),xs=[.ref l]/\H l=some (.lst (ts.map V.ref))/\ts.length=ju.length/\(∀(i:Nat) t p,ts[i]?=some t->ju[i]?=some p->H t=some (.tup [kV p.1,p.2]))/\ju.length<=1000/\∀q,H q=none->Q (.ref q) (upd H q (.dK (putAll ju)))):=by
 intro pins s σ H xs us Q I r h;obtain⟨l,ts,ju,rfl,hl,hlen,hT,hz,q⟩:=h;obtain⟨u,rfl,rx⟩:=vals1 r;cases rx;obtain⟨_,bF,n,rr,hll,e⟩:=I.Jy hl;obtain⟨ps,h1,h2⟩:=yR I ts ju hlen hT;have hit:∀(i:Nat) (v:Value),bF.toArray[i]?=some v->v=.ref (ts.getD i 0):=λi v hv=>by
  rw [List.getElem?_toArray] at hv;have hi:=(List.getElem?_eq_some_iff.mp hv).1;have hit:i < ts.length:=by
   rw [length_map] at hll;omega
  obtain⟨u,hu,aeg⟩:=rr.get (i:=i) (x:=V.ref ts[i]) (by rw [getElem?_map,getElem?_eq_getElem hit]; rfl);rw [hu] at hv;cases hv;rw [List.getD_eq_getElem?_getD,getElem?_eq_getElem hit];exact aeg
 have hat:∀(j:Nat) q,ps[j]?=some q->∃t p,ts[j]?=some t/\ju[j]?=some p/\p.1=q.1/\RelV p.2 q.2.2/\RelV (kV p.1) q.2.1/\nK s.heap t q.2.1 q.2.2:=λj q hq=>by
  have hj:=(List.getElem?_eq_some_iff.mp hq).1;have ht:ts[j]?=some (ts[j]'(by omega)):=getElem?_eq_getElem _;have hp:ju[j]?=some (ju[j]'(by omega)):=getElem?_eq_getElem _;obtain⟨q',h3,h4⟩:=h2 j _ _ ht hp;rw [hq] at h3;cases h3;exact⟨_,_,ht,hp,h4⟩
 have IL:ps.length=bF.toArray.size:=by
  rw [size_toArray,<-hll,length_map];omega
 refine pL (knd:=bp X.prog X.w) (I.ok.hd hc) e ps (λi=>ts.getD i 0) IL hit (λj p hj=>?_) (λp hp=>?_) ?_ λh' tk dd kp=>?_
 ·obtain⟨t,p',ht,_,_,_,_,h5⟩:=hat j p hj;show nK s.heap (ts.getD j 0) _ _;rw [List.getD_eq_getElem?_getD,ht];exact h5
 ·obtain⟨j,hj⟩:=mem_iff_getElem?.mp hp;obtain⟨t,p',_,_,h3,_,h4,_⟩:=hat j p hj;rw [<-h3];exact jP h4
 ·have:=aG hz;omega
 ·have rel:KV (putAll ju) (dA ps):=Gf ju ps [] [] .nil h1 λj p q hp hq=>by
   obtain⟨t,p',_,O0,h3,h4,_⟩:=hat j q hq;rw [hp] at O0;cases O0;exact⟨h3,h4⟩
  refine⟨.ref s.heap.objs.size,_,I.laid (a:=s.heap.objs.size) (o:=.dK (putAll ju)) (t':=tk) (λb o hb=>kp b o (lt_size hb) hb) (Nat.le_refl _) (nG ?_ (beq_eq_false_iff_ne.mpr (Ne.symm (Nat.ne_of_lt I.big))) rel dd),rfl,q _ (I.bV.fresh (Nat.le_refl _))⟩;have h6:=aG hz;have h7:=DQ ju;omega
end
theorem PV {X:Cx}{K:Frag}(h:X.K=K) (hu:X.A.units+64 < cLine):kW X (compareOp .NotEq) (Pz K true):=by
 subst h;exact JP hu
section
variable {X:Cx}{C Cb:Addr}{x:Str}{p pos:Pos}{e:Expr}{es:List Expr}{t:TA}
end
section
variable {P:Program}{w:World}{K:Frag}{mg:Str->Option Value}{base:Heap}
end
section
variable {X:Cx}{k:Nat}{f C C2 Co:Addr}{fd:FuncData}{ps:List Str}{sp:Sp}{iI:List V}{ds:List Value}{E:XK}
variable {x n cn m:Str}{np pos apos Zx eC Zy agQ:Pos}{e o:Expr}{es:List Expr}{ta:TE}{t:TA}{ts:TS}{b0:Stmt}{Rc:List Stmt}{i j:Nat}
end
inductive U9 (K:Frag) (H:Hp):V->Value->Prop where
 | s {x:V}{t:Value}(h:Yg K H x t):U9 K H x t
 | dct {a:Addr}{kvs:List (Key×V)}(h:Rd H a (.dK kvs)):U9 K H (.ref a) (.type "dict")
section
variable {X:Cx}
theorem bR:fK X (.builtin "isinstance") (λxs H Q=>∃x n t b,xs=[x,.ty n]/\U9 X.K H x t/\PySem.W.kitOne X.K t (.type n)=some b/\Q (.bl b) H):=by
 intro pins s σ H xs us Q I r h;obtain⟨x,n,t,b,rfl,ty,e,q⟩:=h
 cases ty with
 | s h=>exact vN pins s σ H _ us Q I r ⟨x,n,t,b,rfl,h,e,q⟩
 | @dct a kvs h=>
  obtain⟨u,w',rfl,r1,r2⟩:=vals2 r;cases (show w'=Value.type n from r2);cases (show u=Value.ref a from r1);obtain⟨z,hd,vs,rel,dd⟩:=gH I.bV h;obtain⟨o,h1,h2⟩:=dd.typeIs;exact PySem.W.kia_one PySem.W.kitx_dict I.iT ⟨o,h1,h2⟩ e (λz=>nomatch z) λtk=>⟨.bl b,H,I.tok _,rfl,q⟩
end
end L2
namespace L2
open PySem PySem.Spec PyProof.Rows
set_option maxRecDepth 100000
noncomputable def qF (l:List Nat):Prop:=l.Pairwise (· < ·)
theorem qF.le {xs:Array Nat}(hr:qF xs.toList) {i k v u:Nat}(hik:i<=k) (hi:xs[i]?=some v) (hk:xs[k]?=some u):v<=u:=by
 rcases Nat.lt_or_eq_of_le hik with h | h
 ·have p:=List.pairwise_iff_getElem.mp hr;rw [<-Array.getElem?_toList] at hi hk;obtain⟨a1,a2⟩:=List.getElem?_eq_some_iff.mp hi;obtain⟨b1,b2⟩:=List.getElem?_eq_some_iff.mp hk;have:=p i k a1 b1 h;omega
 ·subst h;rw [hi] at hk;cases hk;exact Nat.le_refl _
theorem qG {xs:Array Nat}{j:Nat}(hr:qF xs.toList):∀fuel lo hi:Nat,hi - lo<=fuel->lo<=hi->hi<=xs.size->(∀i v:Nat,i < lo->xs[i]?=some v->v < j)->(∀i v:Nat,hi<=i->xs[i]?=some v->j<=v) ->
  SetTable.below.go xs j fuel lo hi<=xs.size/\(∀i v:Nat,i < SetTable.below.go xs j fuel lo hi->xs[i]?=some v->v < j)/\∀i v:Nat,SetTable.below.go xs j fuel lo hi<=i->xs[i]?=some v->j<=v
 | 0,lo,hi,h1,h2,h3,h4,h5=>by
  have e:lo=hi:=by omega
  subst e;exact⟨h3,h4,h5⟩
 | fuel+1,lo,hi,h1,h2,h3,h4,h5=>by
  unfold SetTable.below.go
  by_cases hl:lo < hi
  ·rw [if_pos hl];have hm:(lo+hi) / 2 < xs.size:=by omega
   have gm:xs[(lo+hi) / 2]?=some xs[(lo+hi) / 2]:=Array.getElem?_eq_getElem hm;have gd:xs.getD ((lo+hi) / 2) j=xs[(lo+hi) / 2]:=by rw [Array.getD_eq_getD_getElem?,gm]; rfl
   dsimp only
   by_cases hc:xs.getD ((lo+hi) / 2) j < j
   ·rw [if_pos hc];rw [gd] at hc;exact qG hr fuel _ _ (by omega) (by omega) h3 (λi v JL e=>by
     have:=hr.le (Nat.le_of_lt_succ JL) e gm
     omega) h5
   ·rw [if_neg hc];rw [gd] at hc;exact qG hr fuel _ _ (by omega) (by omega) (by omega) h4 λi v JL e=>by
     have:=hr.le JL gm e;omega
  ·rw [if_neg hl];have e:lo=hi:=by omega
   subst e;exact⟨h3,h4,h5⟩
theorem below_at {xs:Array Nat}{j:Nat}(hr:qF xs.toList):SetTable.below xs j<=xs.size/\(∀i v:Nat,i < SetTable.below xs j->xs[i]?=some v->v < j)/\∀i v:Nat,SetTable.below xs j<=i->xs[i]?=some v->j<=v:=
 qG hr xs.size 0 xs.size (by omega) (Nat.zero_le _) (Nat.le_refl _) (λi v h=>absurd h (Nat.not_lt_zero i)) λi v h e=>by
  have:=(Array.getElem?_eq_some_iff.mp e).1;omega
noncomputable def nM (t:SetTable) (j:Nat):Prop:=¬t.place[SetTable.below t.place j]?=some j
theorem Ks {t:SetTable}{j:Nat}(hr:qF t.place.toList) (hj:nM t j):qF (t.put j).1.place.toList:=by
 show qF (SetTable.insertAt t.place (SetTable.below t.place j) j).toList;rw [SetTable.toList_insertAt];obtain⟨b1,b2,b3⟩:=below_at (j:=j) hr;unfold nM at hj;generalize SetTable.below t.place j=b at b1 b2 b3 hj;have tk:∀x∈t.place.toList.take b,x < j:=λx hx=>by
  obtain⟨i,hi⟩:=mem_iff_getElem?.mp hx;rw [List.getElem?_take] at hi;split at hi
  ·rename_i hib;exact b2 i x hib (by rw [<-Array.getElem?_toList]; exact hi)
  ·cases hi
 have dr:∀x∈t.place.toList.drop b,j < x:=λx hx=>by
  obtain⟨i,hi⟩:=mem_iff_getElem?.mp hx;rw [List.getElem?_drop,Array.getElem?_toList] at hi;have h1:=b3 (b+i) x (by omega) hi;rcases Nat.lt_or_eq_of_le h1 with h | h
  ·exact h
  ·exfalso;have hb:b < t.place.size:=by
    have:=(Array.getElem?_eq_some_iff.mp hi).1;omega
   have g:t.place[b]?=some t.place[b]:=Array.getElem?_eq_getElem hb;have h2:=b3 b _ (Nat.le_refl _) g;have h3:=hr.le (Nat.le_add_right b i) g hi;have:t.place[b]=j:=by omega
   rw [this] at g;exact hj g
 refine List.pairwise_append.mpr ⟨List.Pairwise.sublist (List.take_sublist _ _) hr,pairwise_cons.mpr ⟨dr,List.Pairwise.sublist (List.drop_sublist _ _) hr⟩,λx hx y hy=>?_⟩;rcases mem_cons.mp hy with rfl | hy
 ·exact tk x hx
 ·exact Nat.lt_trans (tk x hx) (dr y hy)
theorem uo {t:SetTable}{j:Nat}(h:∀i,t.slot j≠.live i):nM t j:=λz=>by
 refine h (SetTable.below t.place j) ?_;unfold SetTable.slot;dsimp only;rw [if_pos (by rw [z]; exact beq_self_eq_true _)]
theorem qH {t:SetTable}{f:Nat->Int}{h:Int}:∀(fuel:Nat) (p:SetTable.Probe),(∀d,p.dummy=some d->nM t d)->∀j d,SetTable.probe.go t f h fuel p=some (.empty j d)->nM t (d.getD j)
 | 0,p,_,j,d,e=>by cases e
 | fuel+1,p,hp,j,d,e=>by
  unfold SetTable.probe.go at e;have adv:∀p':SetTable.Probe,(t.advance p').dummy=p'.dummy:=λp'=>by
   unfold SetTable.advance
   split <;> rfl
  cases es:t.slot p.j with
  | empty=>
   rw [es] at e;dsimp only at e;cases e
   cases ed:p.dummy with
   | none=>
    have hz:∀i,t.slot p.j≠.live i:=λi z=>by rw [es] at z; cases z
    exact uo hz
   | some d=>exact hp d ed
  | dummy=>
   rw [es] at e;refine qH fuel _ (λd hd=>?_) j d e;rw [adv] at hd;cases hd;exact uo λi z=>by rw [es] at z; cases z
  | live i=>
   rw [es] at e;dsimp only at e;split at e
   ·cases e
   ·exact qH fuel _ (λd hd=>hp d (by rw [adv] at hd; exact hd)) j d e
theorem yS {t:SetTable}{h:Int}{j:Nat}{b:Bool}(e:t.freeSlot h=some (j,b)):nM t j:=by
 unfold SetTable.freeSlot at e;split at e
 ·rename_i j' d e2;cases e;exact qH _ _ (λd hd=>by cases hd) _ _ e2
 ·cases e
theorem DR (n:Nat):qF (Array.range n).toList:=by
 rw [Array.toList_range];exact List.pairwise_lt_range
noncomputable def gr (l:Bool) (t:SetTable):Prop:=t.led=l/\qF t.place.toList
theorem gr.Gg {l:Bool}{t:SetTable}(h:gr l t) (n:Nat):gr l (t.standIn n):=⟨h.1,DR n⟩
theorem gr.off {l:Bool}{t:SetTable}(h:gr l t):gr l {t with plain:=false}:=h
theorem gr.lay {l:Bool}{t:SetTable}(h:gr l t) (es:Array (Int×Value)) (z:Int) (x:Value):gr l (layNew t es z x).2.1:=by
 unfold layNew;split
 ·rename_i j b e;have g:gr l (t.put j).1:=⟨h.1,Ks h.2 (yS e)⟩
  show gr l ((t.put j).1.orStandIn _);unfold SetTable.orStandIn;split
  ·exact g
  ·exact g.Gg _
 ·exact h.Gg _
theorem vV {α:Type}{f:Nat->Option α}:∀l:List Nat,((l.filterMap λj=>(f j).map λk=>(j,k)).map (·.1)).Sublist l
 | []=>.slnil
 | x::l=>by
  rw [List.filterMap_cons]
  cases f x with
  | none=>exact(vV l).cons _
  | some y=>exact(vV l).cons₂ _
theorem gr.ZF {l:Bool}{t:SetTable}(h:gr l t) (es:Array (Int×Value)) (n:Nat):gr l (relayAll t es n).2.1:=by
 unfold relayAll
 cases e:t.relaid (es.map (·.1)) n with
 | none=>exact h.Gg _
 | some r=>
  obtain⟨t',order⟩:=r;dsimp only;split
  ·unfold SetTable.relaid SetTable.laid at e
   cases e2:SetTable.layClean (SetTable.sizeAbove n - 1) (es.map (·.1))with
   | none=>rw [e2] at e; cases e
   | some owner=>
    rw [e2] at e;cases e;exact⟨h.1,List.Pairwise.sublist (by rw [List.toList_toArray]; exact vV _) List.pairwise_lt_range⟩
  ·exact h.Gg _
noncomputable def intOf:Value->Int
 | .int i _=>i
 | _=>0
noncomputable def iz (prog:Program) (w:World) (h:Heap) (a:Addr) (S:List Int):Prop:=
 ∃o es ep t,h.get? a=some o/\o.ExactSet/\o.data=.set es ep t/\ElemsOf (intKind prog w) es.toList/\(es.toList.map λe=>intOf e.2).Perm S/\S.Nodup/\es.size < scanBound/\t.fits es.size=true/\gr (!w.params.followText "set-order") t
noncomputable def gs (S:List Int) (k:Int):List Int:=if k∈S then S else S++[k]
section
variable {prog:Program}{w:World}{A:Around}{E:Value->Shared->Prop}{s:Shared}
theorem iz.of_same {h h':Heap}{a:Addr}{S:List Int}(g:iz prog w h a S) (k:∀o,h.get? a=some o->h'.get? a=some o):iz prog w h' a S:=by
 obtain⟨o,es,ep,t,ho,r⟩:=g;exact⟨o,es,ep,t,k o ho,r⟩
theorem iz.stored {h:Heap}{a:Addr}{o:Obj}{es vA:Array (Int×Value)}{ep:Nat}{t t':SetTable}{S:List Int}(ho:h.get? a=some o) (hex:o.ExactSet) (hd:o.data=.set es ep t) (HL:ElemsOf (intKind prog w) vA.toList) (Rf:(vA.toList.map λe=>intOf e.2).Perm S) (hnd:S.Nodup) (hb:vA.size < scanBound) (hf:t'.fits vA.size=true) (hg:gr (!w.params.followText "set-order") t') :
  (h.update a (Obj.putSet vA t')).get? a=some {o with data:=.set vA (ep+1) t'}/\iz prog w (h.update a (Obj.putSet vA t')) a S:=by
 have e1:=putSet_of vA t' hd;have e2:(h.update a (Obj.putSet vA t')).get? a=some (Obj.putSet vA t' o):=Heap.get?_update_self _ ho (by rw [e1]; rfl);rw [e1] at e2;exact⟨e2,_,vA,ep+1,t',e2,hex,rfl,HL,Rf,hnd,hb,hf,hg⟩
theorem Kt {a:Addr}{S:List Int}{k:Int}{tk:Tok}{Q:Bool->Shared->Prop}(hS:iz prog w s.heap a S) (afh:S.length+1 < scanBound)
  (h:∀h',Heap.SameBut a s.heap h'->iz prog w h' a (gs S k)->∀b,Q b {s with heap:=h'}) :
  wpAny (model prog w) A (setAddHashed a (.int k tk) ((intKind prog w).hash k)) Q E s:=by
 obtain⟨o,es,ep,t,ho,hex,hd,HL,Rf,hnd,hb,hf,hg⟩:=id hS;have yu:(intKind prog w).is k (.int k tk)=true:=intKind_is _ _ _ _;have hsz:es.size=S.length:=by
  rw [<-Rf.length_eq,length_map,Array.length_toList]
 have mem:∀e∈es.toList,(intKind prog w).is k e.2=true↔intOf e.2=k:=λe he=>by
  obtain⟨⟨k',hk',_⟩,_⟩:=HL e he;obtain⟨t',et⟩:=Value.isInt_shape hk';rw [et];show Value.isInt k (.int k' t')=true↔k'=k;constructor
  ·intro z;obtain⟨u,eu⟩:=Value.isInt_shape z;injection eu
  ·intro z;subst z;exact yu
 unfold setAddHashed setAddHashedIn;refine wpAny_holding (wpAny_bind (wpAny_setState_of ho hd hf ?_));show wpAny _ _ (if byScan (.int k tk) es=true then _ else _) _ _ s;rw [byScan_of (knd:=intKind prog w) (x:=.int k tk) rfl hb HL,if_pos rfl];unfold setAddByScan;refine wpAny_bind (wpAny_bind (wpAny_rule (wpAny_bind (wpAny_setScan_of (knd:=intKind prog w) yu ho hd hf HL ?_))))
 cases er:es.toList.findIdx? λe=>(intKind prog w).is k e.2 with
 | some j=>
  obtain⟨hj,pj,_⟩:=List.findIdx?_eq_some_iff_getElem.mp er;have hk:k∈S:=Rf.mem_iff.mp (mem_map.mpr ⟨_,List.getElem_mem hj,(mem _ (List.getElem_mem hj)).mp pj⟩);have e1:gs S k=S:=by unfold gs; rw [if_pos hk]
  refine wpAny_pure (wpAny_pure ?_);exact h s.heap (.refl a s.heap) (by rw [e1]; exact hS) _
 | none=>
  have hk:k∉S:=λz=>by
   obtain⟨e,he,ek⟩:=mem_map.mp (Rf.mem_iff.mpr z);have:=List.findIdx?_eq_none_iff.mp er e he;rw [(mem e he).mpr ek] at this;cases this
  have e1:gs S k=S++[k]:=by unfold gs; rw [if_neg hk]
  have gw:∀(b:Bool) {s₁:Shared}{R:Unit->Shared->Prop},R () s₁->wpAny (model prog w) A (match b with | true=>rule "set.scan.the-table-gave-way" | false=>pure ()) R E s₁:=λb {s₁ R} r=>by
   cases b
   ·exact wpAny_pure r
   ·exact wpAny_rule r
  have lp:=layNew_perm t es ((intKind prog w).hash k) (.int k tk);have lf:=layNew_fits t es ((intKind prog w).hash k) (.int k tk);have lg:=hg.lay es ((intKind prog w).hash k) (.int k tk);dsimp only;generalize layNew t es ((intKind prog w).hash k) (.int k tk)=r at lp lf lg ⊢;obtain⟨sJ,t1,wd,gave⟩:=r;dsimp only at lp lf lg ⊢;rw [Array.toList_push] at lp;have el1:ElemsOf (intKind prog w) sJ.toList:=(HL.push (k:=k) (x:=.int k tk) yu rfl).perm lp;have pm1:(sJ.toList.map λe=>intOf e.2).Perm (S++[k]):=by
   refine(lp.map _).trans ?_;rw [map_append];exact Rf.append_right _
  have nd1:(S++[k]).Nodup:=nodup_append.mpr ⟨hnd,by simp,λx hx y hy e=>by
   rw [mem_singleton.mp hy] at e;exact hk (e▸hx)⟩
  have sz1:sJ.size=S.length+1:=by
   rw [<-Array.length_toList,lp.length_eq,length_append,Array.length_toList,hsz];rfl
  have b1:sJ.size < scanBound:=by omega
  rw [e1] at h;refine wpAny_bind (gw _ ?_);have tail:∀t2:SetTable,t2.fits sJ.size=true->gr (!w.params.followText "set-order") t2->wpAny (model prog w) A (do
    storeSet a sJ t2
    if (!wd&&t2.tooFull)=true then do
      (match (relayAll t2 sJ (SetTable.grown sJ.size)).2.2 with | true=>rule "set.scan.the-table-gave-way" | false=>pure ())
      storeSet a (relayAll t2 sJ (SetTable.grown sJ.size)).1 (relayAll t2 sJ (SetTable.grown sJ.size)).2.1
      pure (some true)
     else pure (some true)) (λ(r:Option Bool) s'=>∃b,r=some b/\Q b s') E s:=λt2 f2 g2=>by
   refine wpAny_bind (wpAny_storeSet_of ho hd ?_ (fits_of_scanBound b1));obtain⟨g1,G1⟩:=iz.stored (prog:=prog) (w:=w) ho hex hd el1 pm1 nd1 b1 f2 g2;have sb1:=Heap.SameBut.update s.heap a (Obj.putSet sJ t2);split
   ·have rp:=relayAll_perm t2 sJ (SetTable.grown sJ.size);have rf:=relayAll_fits t2 sJ (SetTable.grown sJ.size);have rg:=g2.ZF sJ (SetTable.grown sJ.size);generalize relayAll t2 sJ (SetTable.grown sJ.size)=r at rp rf rg ⊢;obtain⟨es2,t3,gv⟩:=r;dsimp only at rp rf rg ⊢;have sz2:es2.size=sJ.size:=by rw [<-Array.length_toList,rp.length_eq,Array.length_toList]
    refine wpAny_bind (gw _ (wpAny_bind (wpAny_storeSet_of g1 rfl ?_ (fits_of_scanBound (by rw [sz2]; exact b1)))));obtain⟨_,G2⟩:=iz.stored (prog:=prog) (w:=w) g1 hex rfl (el1.perm rp) ((rp.map _).trans pm1) nd1 (by rw [sz2]; exact b1) rf rg;exact wpAny_pure ⟨true,rfl,h _ (sb1.trans (Heap.SameBut.update _ a _)) G2 true⟩
   ·exact wpAny_pure ⟨true,rfl,h _ sb1 G1 true⟩
  have fin:∀{m:Sem (Option Bool)},wpAny (model prog w) A m (λ(r:Option Bool) s'=>∃b,r=some b/\Q b s') E s->wpAny (model prog w) A m (λr s'=>wpAny (model prog w) A (match r with | some added=>pure added | none=>setAddHashedIn a (.int k tk) ((intKind prog w).hash k) 99999) Q E s') E s:=λhm=>wpAny_mono hm (λr s' hr=>by
   obtain⟨b,rfl,q⟩:=hr;exact wpAny_pure q) λ_ _ z=>z
  split
  ·refine wpAny_bind ?_;rw [hashByValue_scannable 8 (x:=.int k tk) rfl];refine wpAny_pure (fin (tail _ ?_ ?_))
   ·split
    ·exact lf
    ·exact SetTable.fits_plain_off lf
   ·split
    ·exact lg
    ·exact lg.off
  ·exact wpAny_bind (wpAny_pure (fin (tail _ lf lg)))
end
theorem Ku (S:List Int) (k:Int):(gs S k).length<=S.length+1:=by
 unfold gs;split
 ·omega
 ·rw [length_append,length_singleton];exact Nat.le_refl _
theorem kN:∀(l S:List Int),(l.foldl gs S).length<=S.length+l.length
 | [],_=>Nat.le_refl _
 | x::l,S=>by
  have h1:=kN l (gs S x);have h2:=Ku S x;rw [List.foldl_cons,length_cons];omega
theorem Kv {S:List Int}{k x:Int}:x∈gs S k↔x∈S\/x=k:=by
 unfold gs;split
 ·rename_i h;exact⟨.inl,λz=>z.elim id λe=>e▸h⟩
 ·rw [mem_append,mem_singleton]
theorem kO {x:Int}:∀(l S:List Int),x∈l.foldl gs S↔x∈S\/x∈l
 | [],S=>⟨.inl,λz=>z.elim id λh=>nomatch h⟩
 | y::l,S=>by
  rw [List.foldl_cons,kO l,Kv,mem_cons];exact⟨λz=>z.elim (λz=>z.elim .inl λz=>.inr (.inl z)) λz=>.inr (.inr z),λz=>z.elim (λz=>.inl (.inl z)) λz=>z.elim (λz=>.inl (.inr z)) .inr⟩
section
variable {prog:Program}{w:World}{A:Around}{R:Result->Shared->Prop}{I:Addr}{fp wr:List Addr}{G:Array GenState->Array GenState->Prop}{n:Nat}{P:Nat->Value->Prop}{St:Nat->Shared->Prop}
theorem HM (W:WalksS prog w A.in1 I fp wr G n P St) (Z:Addr) (hZ:Z∉fp) (ns:List Int) (hn:ns.length=n) (hv:∀i v,P i v->∃t,v=.int (ns.getD i 0) t) (hb:n+1 < scanBound) (s₀:Shared) (hR:∀s',Moved (Z::wr) G s₀ s'->iz prog w s'.heap Z (ns.foldl gs [])->R (.ok (.ret .none)) s') :
  ∀(k i:Nat) (s:Shared),n - i=k->i<=n->St i s->Moved (Z::wr) G s₀ s->iz prog w s.heap Z ((ns.take i).foldl gs [])->codeAny (model prog w) A (.builtin "set.update.loop" ⟨[.ref Z,.ref I],[]⟩) R s:=by
 have zw:Z∉wr:=λh=>hZ (W.sub _ h)
 have wz:∀b∈wr,b∈Z::wr:=λb h=>mem_cons_of_mem _ h
 intro k;induction k with
 | zero=>
  intro i s h1 h2 st mv g;obtain rfl:i=n:=by omega
  refine codeAny_builtin F.entry_set_update_loop ?_;rw [Around.under_plainId F.plain_set_update_loop _];show wpAny _ A.in1 (pyNext (.ref I) >>= _) _ _ s;refine wpAny_bind (W.done s _ _ st λs' m=>wpAny_pure (hR s' (Moved.trans W.gtrans mv (m.mono wz)) ?_));rw [<-hn,take_length] at g;exact g.of_same λo e=>m.heap Z o zw e
 | succ k ih=>
  intro i s h1 h2 st mv g;have lt:i < n:=by omega
  refine codeAny_builtin F.entry_set_update_loop ?_;rw [Around.under_plainId F.plain_set_update_loop _];show wpAny _ A.in1 (pyNext (.ref I) >>= _) _ _ s;refine wpAny_bind (W.item i s _ _ lt st λv s' pv Hq m=>?_);obtain⟨t,rfl⟩:=hv i v pv;have g':iz prog w s'.heap Z ((ns.take i).foldl gs []):=g.of_same λo e=>m.heap Z o zw e
  have ex:ns[i]?=some (ns.getD i 0):=by
   rw [List.getD_eq_getElem?_getD,getElem?_eq_getElem (by omega)];rfl
  have et:(ns.take (i+1)).foldl gs []=gs ((ns.take i).foldl gs []) (ns.getD i 0):=by
   rw [take_add_one,ex,List.foldl_append];rfl
  have room:((ns.take i).foldl gs []).length+1 < scanBound:=by
   have:=kN (ns.take i) [];rw [length_take,List.length_nil] at this;omega
  show wpAny _ A.in1 (holding [Value.int (ns.getD i 0) t] (setAdd Z (.int (ns.getD i 0) t)) >>= _) _ _ s';refine wpAny_bind (wpAny_holding ?_);unfold setAdd;refine wpAny_holding (wpAny_bind ((intKind prog w).pyHash (k:=ns.getD i 0) (intKind_is _ _ _ _) ?_));refine Kt (s:={s' with toks:=s'.toks+1}) g' room λh' sb g2 b=>?_
  rw [<-et] at g2;have m2:Moved (Z::wr) G s {s' with heap:=h',toks:=s'.toks+1}:=(m.mono wz).then_heap (Nat.le_succ _) λb o hb e=>by
   rw [sb.2 b λz=>hb (by rw [z]; exact mem_cons_self)];exact e
  refine wpAny_pure ⟨plainId_quiet F.plain_set_update_loop _,ih (i+1) _ (by omega) lt (W.frame _ s' _ _ Hq (Nat.le_succ _) λb hb o e=>?_) (Moved.trans W.gtrans mv m2) g2⟩;rw [sb.2 b λz=>hZ (by rw [<-z]; exact hb)];exact e
end
section
variable {prog:Program}{w:World}{A:Around}{E:Value->Shared->Prop}{s:Shared}
noncomputable def eP (w:World):Obj:={cls:=.type "set",dict:=none,data:=.set #[] 0 (.fresh 0 0 (!w.params.followText "set-order"))}
theorem U_ {h:Heap}{a:Addr}(e:h.get? a=some (eP w)):iz prog w h a []:=
 ⟨_,#[],0,_,e,⟨rfl,rfl,rfl⟩,rfl,(λe he=>by simp at he),.refl _,List.nodup_nil,by decide,by rfl,rfl,List.Pairwise.nil⟩
theorem Kw (x:Value) {Q:Value->Shared->Prop}(h:Q (.ref s.heap.objs.size) {s with heap:=s.heap.push (eP w)}) :
  codeAny (model prog w) A (.call (.builtin "set.__new__") ⟨[.type "set",x],[]⟩) (wants Q E) s:=by
 refine codeAny_of_tree ?_;show wpAny _ A.in1 (do checkBuiltinCall "set.__new__" ⟨[.type "set",x],[]⟩; again (.builtin "set.__new__" ⟨[.type "set",x],[]⟩)) _ _ s;refine wpAny_bind (wpAny_of_eq (F.newCall_set_1 x) (wpAny_pure ⟨plainId_quiet F.plain_set_new _,codeAny_builtin F.entry_set_new ?_⟩));rw [Around.under_plainId F.plain_set_new _];unfold Builtin.«set.__new__» Builtin.Frozenset.newClass;have hs:=sub_set_self;obtain⟨hp,g,d,tk,os⟩:=s;dsimp only
 wp_walk
 refine wpAny_askSetting (wpAny_pure ?_);simp only [newObj];exact wpAny_bind (wpAny_alloc (wpAny_pure (wpAny_pure h)))
theorem HN {l:Addr}{items:Array Value}{ns:List Int}{Q:Value->Shared->Prop}(hh:A.handled=none) (hl:s.heap.IsList l items) (hi:IntsAre items.toList ns) (hb:items.size+1 < scanBound)
  (h:∀(h':Heap) (tk:Nat),iz prog w h' s.heap.objs.size (ns.foldl gs [])->(∀b o,s.heap.get? b=some o->h'.get? b=some o)->Q (.ref s.heap.objs.size) {s with heap:=h',toks:=tk}) :
  wpAny (model prog w) A (call (.type "set") [.ref l]) Q E s:=by
 obtain⟨c,tl,mro⟩:=F.called_set.mro;have c1:=F.called_set.made;have c2:=F.called_set.sub;have c3:=F.called_set.notType;have c4:=F.called_set.canCreate;have c5:=F.typeCall_set_1 (.ref l);refine wpAny_call (codeAny_of_tree ?_);show wpAny _ _ (callAny (.type "set") _) _ _ _;refine wpAny_pure ⟨Code.quiet_builtin _ (by decide +kernel),codeAny_builtin F.entry_type_call ?_⟩;rw [Around.under_plain (weight_type_call_type "set" [.ref l] []) rfl]
 repeat (any_goals (first | assumption | wp_step))
 refine codeAny_mono (Kw (.ref l) (E:=E) (Q:=λobj s₁=>obj=.ref s.heap.objs.size/\s₁={s with heap:=s.heap.push (eP w)}) ⟨rfl,rfl⟩) λr s₁ hr=>?_
 match r,hr with
 | .ok (.ret obj),hr=>?_
 | .error e,hr=>exact hr
 obtain⟨rfl,rfl⟩:=hr;have gZ:(s.heap.push (eP w)).get? s.heap.objs.size=some (eP w):=get?_push_size _ rfl;have tZ:Shared.TypeIs {s with heap:=s.heap.push (eP w)} (.ref s.heap.objs.size) "set":=⟨_,gZ,rfl⟩
 have i1:=F.called_set.init.lookup;have i2:=F.called_set.init.bind (.ref s.heap.objs.size)
 repeat (any_goals (first | assumption | wp_step))
 refine codeAny_mono (codeAny_call_builtin (R:=wants (λr s₂=>r=.none/\∃h' tk,s₂={s with heap:=h',toks:=tk}/\iz prog w h' s.heap.objs.size (ns.foldl gs [])/\∀b o,s.heap.get? b=some o->h'.get? b=some o) E) F.called_set.init.plain F.entry_set_init (check_set_init_1 tZ ?_)) λr₂ s₂ yT=>?_
 ·obtain⟨ol,hol,UE,nl,Yi⟩:=hl;obtain⟨oc,od,oda,os⟩:=ol;dsimp only at UE Yi;subst UE Yi;have uq:(s.heap.push (eP w)).IsList l items:=⟨_,get?_push_of_some _ hol,rfl,nl,rfl⟩
  have x1:=F.sub_list_set;have x2:=F.sub_list_frozenset;have x3:(Value.type "list" == Value.type "dict")=false:=by decide
  have agR:(s.heap.push (eP w)).get? l=some {cls:=.type "list",dict:=od,data:=.seq items nl,slots:=os}:=get?_push_of_some _ hol;unfold Builtin.«set.__init__» noKeywords Builtin.Frozenset.updateFrom;generalize hPI:pyIter=PI
  wp_walk
  subst hPI;refine wpAny_pyIter_list uq (wpAny_bind (wpAny_runValue ?_));have lS:l < s.heap.objs.size:=lt_size hol;have nI:l≠(s.heap.push (eP w)).objs.size:=by
   rw [Heap.size_push];exact Nat.ne_of_lt (Nat.lt_succ_of_lt lS)
  have nZ:s.heap.objs.size∉[(s.heap.push (eP w)).objs.size,l]:=λz=>by
   rw [Heap.size_push] at z;rcases mem_cons.mp z with z | z
   ·exact Nat.ne_of_lt (Nat.lt_succ_self _) z
   ·exact Nat.ne_of_gt lS (mem_singleton.mp z)
  refine HM ((Walks.list (A:=A.in1.in1.in1) (by simpa using hh) _ l nI items).toS) s.heap.objs.size nZ ns (by rw [<-IntsAre.length hi,Array.length_toList]) (λi v e=>IntsAre.int_at hi i v (by rw [Array.getElem?_toList]; exact e)) hb _ (λs' mv g=>?_) (items.size - 0) 0 _ (by omega) (Nat.zero_le _) ⟨⟨_,get?_push_size _ rfl,rfl,rfl⟩,uq.push _⟩ (Moved.refl λ_=>rfl) (U_ (get?_push_of_some _ gZ));have mh:=mv.heap;rw [Moved.eq_with mv];refine wpAny_pure (wpAny_pure ⟨rfl,s'.heap,s'.toks,rfl,g,λb o e=>?_⟩);have hb:=lt_size e;refine mh b o (λz=>?_) (get?_push_of_some _ (get?_push_of_some _ e));rcases mem_cons.mp z with z | z
  ·exact Nat.ne_of_lt hb z
  ·rw [Heap.size_push] at z;exact Nat.ne_of_lt (Nat.lt_succ_of_lt hb) (mem_singleton.mp z)
 ·match r₂,yT with
  | .ok (.ret r),yT=>?_
  | .error e,yT=>exact yT
  obtain⟨rfl,h',tk,rfl,g,kp⟩:=yT
  repeat (any_goals (first | assumption | wp_step))
  exact h _ _ g kp
end
theorem jc:Slot "set_iterator" "__next__" "set_iterator.__next__":=
 .of (owner:="set_iterator") (n:="__next__") (by rw [typeLookup_type,builtinLookup_eq_fast]; kernel_rfl) (by decide +kernel) (by decide +kernel) (by decide +kernel) (by first | exact .inl (by decide +kernel) | exact .inr (by decide +kernel)) (by rw [isSubtype_type]; kernel_rfl)
theorem yU:entryFor table "set_iterator.__next__"=some Builtin.«set_iterator.__next__»:=entryFor_of_tree (by kernel_rfl)
theorem Kx:Manifest.owners.lookup (String.ofList "rotareti_tes".toList.reverse)=some Manifest.sig_set_iterator:=by kernel_rfl
theorem yV (x:Value):argsOk "set_iterator.__next__" ⟨[x],[]⟩:=by
 unfold argsOk;rw [signature?_of (id:="set_iterator.__next__") (n:=['_','_','t','x','e','n','_','_']) (o:="rotareti_tes".toList) (by kernel_rfl) Kx]
 kernel_rfl
theorem Gh:Slot "set_iterator" "__iter__" "set_iterator.__iter__":=
 .of (owner:="set_iterator") (n:="__iter__") (by rw [typeLookup_type,builtinLookup_eq_fast]; kernel_rfl) (by decide +kernel) (by decide +kernel) (by decide +kernel) (by first | exact .inl (by decide +kernel) | exact .inr (by decide +kernel)) (by rw [isSubtype_type]; kernel_rfl)
theorem Ky:entryFor table "set_iterator.__iter__"=some Builtin.«dict_keyiterator.__iter__»:=entryFor_alias (id':="dict_keyiterator.__iter__") (by kernel_rfl) rfl (by decide +kernel) (by kernel_rfl)
theorem Kz (x:Value):argsOk "set_iterator.__iter__" ⟨[x],[]⟩:=by
 unfold argsOk;rw [signature?_of (id:="set_iterator.__iter__") (n:=['_','_','r','e','t','i','_','_']) (o:="rotareti_tes".toList) (by kernel_rfl) Kx]
 kernel_rfl
theorem KA:entryFor table "set.__iter__"=some Builtin.«frozenset.__iter__»:=entryFor_alias (id':="frozenset.__iter__") (by kernel_rfl) rfl (by decide +kernel) (by kernel_rfl)
theorem lb {α:Type}:∀{l:List α}{i:Nat}(h:i < l.length),(l[i]::l.eraseIdx i).Perm l
 | x::l,0,h=>.refl _
 | x::l,i+1,h=>by
  have h2:i < l.length:=by simpa using h
  show(l[i]::x::l.eraseIdx i).Perm (x::l);exact(List.Perm.swap x l[i] _).trans ((lb h2).cons x)
theorem Gi {α:Type}{next:Nat->Nat}:∀(fuel k:Nat) (left:List α) (out:Array α),left.length<=fuel->(pickOrder.go next fuel k left out).toList.Perm (out.toList++left)
 | 0,k,left,out,h=>by
  have:left=[]:=List.length_eq_zero_iff.mp (by omega);subst this;rw [append_nil];exact .refl _
 | fuel+1,k,left,out,h=>by
  unfold pickOrder.go
  cases e:left[next k % left.length]? with
  | none=>
   have hl:left=[]:=by
    cases left with
    | nil=>rfl
    | cons x l=>
     have:next k % (x::l).length < (x::l).length:=Nat.mod_lt _ (by rw [length_cons]; omega);rw [getElem?_eq_getElem this] at e;cases e
   subst hl;dsimp only;rw [append_nil]
  | some x=>
   obtain⟨hi,ex⟩:=List.getElem?_eq_some_iff.mp e;dsimp only;refine(Gi fuel (k+1) _ _ ?_).trans ?_
   ·rw [List.length_eraseIdx_of_lt hi];omega
   ·rw [Array.toList_push,append_assoc];refine List.Perm.append_left _ ?_;have:=lb hi;rw [ex] at this;exact this
theorem HP {α:Type}(next:Nat->Nat) (xs:Array α):(pickOrder next xs).toList.Perm xs.toList:=by
 have:=Gi (next:=next) xs.size 0 xs.toList #[] (by rw [Array.length_toList]; exact Nat.le_refl _);exact this
section
variable {prog:Program}{w:World}{A:Around}{E:Value->Shared->Prop}{s:Shared}
theorem DS {M:Model}{src:Source}{n:Nat}{Q:Nat->Shared->Prop}(hn:n≠0) (h:∀k,k < n->Q k {s with drawn:=s.drawn.bump src}):wpAny M A (choose src n) Q E s:=λ_ _ _=>⟨hn,h _ (Nat.mod_lt _ (Nat.pos_of_ne_zero hn))⟩
theorem ur {M:Model}{α:Type}:∀(n:Nat) (xs:List α) (s:Shared) (Q:List α->Shared->Prop),xs.length=n->(∀ys d',ys.Perm xs->Q ys {s with drawn:=d'})->wpAny M A (drawOrder n xs) Q E s
 | 0,xs,s,Q,hl,h=>by
  have:xs=[]:=List.length_eq_zero_iff.mp hl;subst this;unfold drawOrder;exact wpAny_pure (h [] s.drawn (.refl _))
 | n+1,[],s,Q,hl,h=>by cases hl
 | n+1,x::xs,s,Q,hl,h=>by
  unfold drawOrder;refine wpAny_bind (DS (by rw [length_cons]; omega) λk hk=>?_);rw [getElem?_eq_getElem hk];dsimp only;refine wpAny_bind (ur n _ _ _ (by rw [List.length_eraseIdx_of_lt hk]; omega) λys d' hp=>wpAny_pure (h _ d' ?_));exact(hp.cons _).trans (lb hk)
noncomputable def Dj (first:Value) (i:Nat) (a:Addr) (n ep:Nat):Obj:={cls:=.type "set_iterator",data:=.fields #[first,.int i 0,.ref a,.int n 0,.int ep 0]}
structure Dk (h:Heap) (a:Addr) (o:Obj) (es:Array (Int×Value)) (ep:Nat) (t:SetTable):Prop where
 at_:h.get? a=some o
 ex:o.ExactSet
 dt:o.data=.set es ep t
 fit:t.fits es.size=true
theorem Dk.ty {a:Addr}{o:Obj}{es:Array (Int×Value)}{ep:Nat}{t:SetTable}(h:Dk s.heap a o es ep t):s.TypeIs (.ref a) "set":=⟨o,h.at_,h.ex.1⟩
theorem PX {a:Addr}{o:Obj}{es:Array (Int×Value)}{ep:Nat}{t:SetTable}{slot i:Nat}{Q:Option (Value×Nat)->Shared->Prop}(h:Dk s.heap a o es ep t) (hw:w.params.followText "set-order"=true) (q:Q (((pickOrder (w.params.setOrder a ep) es)[i]?).map λe=>(e.2,slot)) s) :
  wpAny (model prog w) A (setNext a slot i ep) Q E s:=by
 unfold setNext setsByText;refine wpAny_bind (wpAny_setState_of h.at_ h.dt h.fit (wpAny_bind (wpAny_bind (wpAny_askSetting (wpAny_pure ?_)))));show wpAny _ _ (if w.params.followText "set-order"=true then _ else _) _ _ s;rw [if_pos hw];show wpAny _ _ (if (ep != ep)=true then _ else _) _ _ s;rw [if_neg (by simp)];unfold setWalk setsByText;refine wpAny_bind (wpAny_bind (wpAny_setState_of h.at_ h.dt h.fit (wpAny_bind (wpAny_bind (wpAny_askSetting (wpAny_pure ?_))))));show wpAny _ _ (if w.params.followText "set-order"=true then _ else _) _ _ s;rw [if_pos hw];exact wpAny_bind (wpAny_askSetting (wpAny_pure (wpAny_pure q)))
theorem KC {a:Addr}{o:Obj}{es:Array (Int×Value)}{ep:Nat}{t:SetTable}{slot i:Nat}{Q:Option (Value×Nat)->Shared->Prop}(h:Dk s.heap a o es ep t) (hw:w.params.followText "set-order"=false) (hp:(!t.plain&&decide (es.size > 1))=false) (hl:t.led=true) (q:Q (match es[SetTable.below t.place slot]?,t.place[SetTable.below t.place slot]? with | some (_,x),some j=>some (x,j+1) | _,_=>none) s) :
  wpAny (model prog w) A (setNext a slot i ep) Q E s:=by
 unfold setNext setsByText;refine wpAny_bind (wpAny_setState_of h.at_ h.dt h.fit (wpAny_bind (wpAny_bind (wpAny_askSetting (wpAny_pure ?_)))));show wpAny _ _ (if w.params.followText "set-order"=true then _ else _) _ _ s;rw [if_neg (by rw [hw]; exact Bool.false_ne_true)];show wpAny _ _ (if (!t.plain&&decide (es.size > 1))=true then _ else _) _ _ s;rw [if_neg (by rw [hp]; exact Bool.false_ne_true)];refine wpAny_bind ?_;show wpAny _ _ (if (!t.led&&!es.isEmpty)=true then _ else _) _ _ s;rw [if_neg (by rw [hl]; simp)];exact wpAny_pure (wpAny_pure q)
theorem KD {a:Addr}{o:Obj}{es:Array (Int×Value)}{ep:Nat}{t:SetTable}{j:Nat}{e:Int×Value}{Q:Value->Shared->Prop}(h:Dk s.heap a o es ep t) (he:es[j]?=some e) (q:Q e.2 s) :
  wpAny (model prog w) A (setNextDrawn a j ep) Q E s:=by
 unfold setNextDrawn;refine wpAny_bind (wpAny_setState_of h.at_ h.dt h.fit ?_);show wpAny _ _ (if (ep != ep)=true then _ else _) _ _ s;rw [if_neg (by simp)];dsimp only;rw [he];exact wpAny_pure q
theorem KG {it a:Addr}{o:Obj}{es:Array (Int×Value)}{ep i slot:Nat}{t:SetTable}{r:Option (Value×Nat)}{Q:Option Value->Shared->Prop}(hh:A.handled=none) (hi:s.heap.get? it=some (Dj (.int slot 0) i a es.size ep)) (h:Dk s.heap a o es ep t)
  (hn:∀(A:Around) (E:Value->Shared->Prop) (Q':Option (Value×Nat)->Shared->Prop),Q' r s->wpAny (model prog w) A (setNext a slot i ep) Q' E s)
  (q1:∀x j h',r=some (x,j)->h'.get? it=some (Dj (.int j 0) (i+1) a es.size ep)->Heap.SameBut it s.heap h'->Q (some x) {s with heap:=h'})
  (q2:r=none->∀h',Heap.ExtBut it s.heap h'->Q none {s with heap:=h'}):wpAny (model prog w) A (pyNext (.ref it)) Q E s:=by
 have ty:s.TypeIs (.ref it) "set_iterator":=⟨_,hi,rfl⟩
 unfold pyNext;refine wpAny_bind (wpAny_attempt (wpAny_callSpecial?_slot (name:=Str.ofString "__next__") ty jc (wpAny_call_entry jc ty yU ?_ (yV _))));unfold Builtin.«set_iterator.__next__»;show wpAny _ _ (fieldsOf (.ref it) >>= _) _ _ s;refine wpAny_bind (wpAny_fieldsOf hi rfl ?_);show wpAny _ _ (setEntries a >>= _) _ _ s;refine wpAny_bind (wpAny_setEntries_of h.at_ h.dt h.fit ?_);rw [if_neg (by simp)];show wpAny _ _ (setNext a (slot:Int).toNat (i:Int).toNat (ep:Int).toNat >>= _) _ _ s;rw [Int.toNat_natCast,Int.toNat_natCast,Int.toNat_natCast];refine wpAny_bind (hn _ _ _ ?_)
 cases r with
 | some p=>
  obtain⟨x,j⟩:=p;show wpAny _ _ (setField (.ref it) 0 (rawInt j) >>= _) _ _ s;refine wpAny_bind (wpAny_setField_rec hi (by decide:0 < 5) λh1 e1 b1=>?_);refine wpAny_bind (wpAny_setField_rec (s:={s with heap:=h1}) e1 (by decide:1 < 5) λh2 e2 b2=>?_);refine wpAny_pure ⟨_,rfl,wpAny_pure (q1 x j h2 rfl ?_ (b1.trans b2))⟩;exact e2
 | none=>
  show wpAny _ _ (setField (.ref it) 2 .none >>= _) _ _ s;refine wpAny_bind (wpAny_setField_rec hi (by decide:2 < 5) λh1 e1 b1=>?_);refine wpAny_bind ?_;simp only [newExc,newTuple];refine wpAny_bind (wpAny_newObj_type ?_ (by size_fits));refine wpAny_bind (m:=firstArgMember _ _) (wpAny_of_eq (a:=Value.none) (by first | rfl | (simp only [firstArgMember]; rfl)) ?_);refine wpAny_newObj_type ?_ (by size_fits);simp only [raiseNew];refine wpAny_bind (wpAny_handled ?_);rw [show A.in1.handled=none from hh];refine wpAny_bind (wpAny_pure (wpAny_throw ?_));refine wpAny_bind (wpAny_isInstance (T:="StopIteration") (b:=true) ⟨_,get?_push_size _ rfl,rfl⟩ isSubtype_stop ?_);exact wpAny_pure (q2 rfl _ ((b1.extBut.push _).push _))
end
section
variable {prog:Program}{w:World}{A:Around}{E:Value->Shared->Prop}{s:Shared}
noncomputable def jd (ord:List Nat):Array Value:=(ord.map λ(i:Nat)=>rawInt i).toArray
theorem yW {it a tu:Addr}{o ot:Obj}{es:Array (Int×Value)}{ep i m:Nat}{t:SetTable}{ord:List Nat}{Q:Option Value->Shared->Prop}(hh:A.handled=none) (hi:s.heap.get? it=some (Dj (.ref tu) i a es.size ep)) (h:Dk s.heap a o es ep t)
  (ht:s.heap.get? tu=some ot) (yh:ot.data=.seq (jd ord) m) (ho:∀j∈ord,j < es.size)
  (q1:∀j x h',ord[i]?=some j->es[j]?=some x->h'.get? it=some (Dj (.ref tu) (i+1) a es.size ep)->Heap.SameBut it s.heap h'->Q (some x.2) {s with heap:=h'})
  (q2:ord[i]?=none->∀h',Heap.ExtBut it s.heap h'->Q none {s with heap:=h'}):wpAny (model prog w) A (pyNext (.ref it)) Q E s:=by
 have ty:s.TypeIs (.ref it) "set_iterator":=⟨_,hi,rfl⟩
 unfold pyNext;refine wpAny_bind (wpAny_attempt (wpAny_callSpecial?_slot (name:=Str.ofString "__next__") ty jc (wpAny_call_entry jc ty yU ?_ (yV _))));unfold Builtin.«set_iterator.__next__»;show wpAny _ _ (fieldsOf (.ref it) >>= _) _ _ s;refine wpAny_bind (wpAny_fieldsOf hi rfl ?_);show wpAny _ _ (setEntries a >>= _) _ _ s;refine wpAny_bind (wpAny_setEntries_of h.at_ h.dt h.fit ?_);rw [if_neg (by simp)];show wpAny _ _ (seqItems? (.ref tu) >>= _) _ _ s;unfold seqItems?;refine wpAny_bind (wpAny_bind (wpAny_load ht ?_));rw [yh];refine wpAny_pure ?_;dsimp only;rw [Int.toNat_natCast];have ea:(jd ord)[i]?=(ord[i]?).map λ(j:Nat)=>rawInt j:=by
  unfold jd;rw [List.getElem?_toArray,getElem?_map]
 rw [ea]
 cases eo:ord[i]? with
 | some j=>
  have hj:=ho j (mem_of_getElem? eo);show wpAny _ _ (setNextDrawn a (j:Int).toNat (ep:Int).toNat >>= _) _ _ s;rw [Int.toNat_natCast,Int.toNat_natCast];have ex:es[j]?=some es[j]:=Array.getElem?_eq_getElem hj;refine wpAny_bind (KD h ex ?_);refine wpAny_bind (wpAny_setField_rec hi (by decide:1 < 5) λh1 e1 b1=>?_);exact wpAny_pure ⟨_,rfl,wpAny_pure (q1 j _ h1 eo ex e1 b1)⟩
 | none=>
  show wpAny _ _ (setField (.ref it) 0 (rawInt 0) >>= _) _ _ s;refine wpAny_bind (wpAny_setField_rec hi (by decide:0 < 5) λh0 e0 b0=>?_);refine wpAny_bind (wpAny_setField_rec (s:={s with heap:=h0}) e0 (by decide:2 < 5) λh1 e1 b1=>?_);refine wpAny_bind ?_;simp only [newExc,newTuple];refine wpAny_bind (wpAny_newObj_type ?_ (by size_fits));refine wpAny_bind (m:=firstArgMember _ _) (wpAny_of_eq (a:=Value.none) (by first | rfl | (simp only [firstArgMember]; rfl)) ?_);refine wpAny_newObj_type ?_ (by size_fits);simp only [raiseNew];refine wpAny_bind (wpAny_handled ?_);rw [show A.in1.handled=none from hh];refine wpAny_bind (wpAny_pure (wpAny_throw ?_));refine wpAny_bind (wpAny_isInstance (T:="StopIteration") (b:=true) ⟨_,get?_push_size _ rfl,rfl⟩ isSubtype_stop ?_);exact wpAny_pure (q2 eo _ (((b0.trans b1).extBut.push _).push _))
theorem Gj {it:Addr}{f:Value}{i n ep:Nat}{a:Addr}{Q:Value->Shared->Prop}(hi:s.heap.get? it=some (Dj f i a n ep)) (q:Q (.ref it) s):wpAny (model prog w) A (pyIter (.ref it)) Q E s:=by
 have ty:s.TypeIs (.ref it) "set_iterator":=⟨_,hi,rfl⟩
 refine wpAny_pyIter_slot ty Gh (wpAny_call_entry Gh ty Ky ?_ (Kz _));show wpAny _ _ (ret (.ref it)) _ _ s;exact wpAny_pure ⟨_,rfl,"set_iterator",_,ty,jc.lookup,q⟩
theorem Gk {it:Addr}{h':Heap}(b:Heap.SameBut it s.heap h'):Moved [it] Eq s {s with heap:=h'}:=⟨λc o hc e=>b.extBut c o (λz=>hc (by rw [z]; exact mem_singleton.mpr rfl)) e,rfl,rfl,rfl,Nat.le_refl _⟩
theorem KH {it:Addr}{h':Heap}(b:Heap.ExtBut it s.heap h'):Moved [it] Eq s {s with heap:=h'}:=⟨λc o hc e=>b c o (λz=>hc (by rw [z]; exact mem_singleton.mpr rfl)) e,rfl,rfl,rfl,Nat.le_refl _⟩
theorem Dk.of {h h':Heap}{a:Addr}{o:Obj}{es:Array (Int×Value)}{ep:Nat}{t:SetTable}(x:Dk h a o es ep t) (k:∀o,h.get? a=some o->h'.get? a=some o):Dk h' a o es ep t:=⟨k _ x.at_,x.ex,x.dt,x.fit⟩
theorem KI (hh:A.handled=none) {it a:Addr}{o:Obj}{es:Array (Int×Value)}{ep:Nat}{t:SetTable}(ne:a≠it) (sl:Nat->Nat) (ord:List Value) (hl:ord.length=es.size)
  (hN:∀i,i<=es.size->∀(s:Shared) (A:Around) (E:Value->Shared->Prop) (Q':Option (Value×Nat)->Shared->Prop),Dk s.heap a o es ep t->Q' ((ord[i]?).map λx=>(x,sl (i+1))) s->wpAny (model prog w) A (setNext a (sl i) i ep) Q' E s) :
  WalksS prog w A it [it,a] [it] Eq es.size (λi v=>ord[i]?=some v) (λi s=>s.heap.get? it=some (Dj (.int (sl i) 0) i a es.size ep)/\Dk s.heap a o es ep t) where
 sub:=λb hb=>by rw [mem_singleton.mp hb]; exact mem_cons_self
 grefl:=λ_=>rfl
 gtrans:=λ_ _ _ x y=>x.trans y
 frame:=λi s h' tk st _ k=>⟨k it mem_cons_self _ st.1,st.2.of (k a (mem_cons_of_mem _ (mem_singleton.mpr rfl)))⟩
 item:=λi s Q E hi st q=>by
  refine KG hh st.1 st.2 (hN i (Nat.le_of_lt hi) s · · · st.2) (λx j h' e e1 b=>?_) λe=>?_
  ·cases eo:ord[i]? with
   | none=>rw [eo] at e; cases e
   | some y=>
    rw [eo] at e;cases e;exact q _ _ eo ⟨e1,st.2.of λo e=>b.extBut a o ne e⟩ (Gk b)
  ·rw [getElem?_eq_getElem (by omega)] at e;cases e
 done:=λs Q E st q=>by
  refine KG hh st.1 st.2 (hN es.size (Nat.le_refl _) s · · · st.2) (λx j h' e e1 b=>?_) λ_ h' b=>q _ (KH b)
  rw [List.getElem?_eq_none (by omega)] at e;cases e
 self:=λi s Q E st q=>Gj st.1 q
theorem DT (hh:A.handled=none) {it a tu:Addr}{o ot:Obj}{es:Array (Int×Value)}{ep m:Nat}{t:SetTable}(ne:a≠it) (nt:tu≠it) (ord:List Nat) (hl:ord.length=es.size) (yh:ot.data=.seq (jd ord) m) (ho:∀j∈ord,j < es.size) :
  WalksS prog w A it [it,a,tu] [it] Eq es.size (λi v=>∃j x,ord[i]?=some j/\es[j]?=some x/\v=x.2) (λi s=>s.heap.get? it=some (Dj (.ref tu) i a es.size ep)/\Dk s.heap a o es ep t/\s.heap.get? tu=some ot) where
 sub:=λb hb=>by rw [mem_singleton.mp hb]; exact mem_cons_self
 grefl:=λ_=>rfl
 gtrans:=λ_ _ _ x y=>x.trans y
 frame:=λi s h' tk st _ k=>⟨k it mem_cons_self _ st.1,st.2.1.of (k a (mem_cons_of_mem _ mem_cons_self)),k tu (mem_cons_of_mem _ (mem_cons_of_mem _ (mem_singleton.mpr rfl))) _ st.2.2⟩
 item:=λi s Q E hi st q=>by
  refine yW hh st.1 st.2.1 st.2.2 yh ho (λj x h' e1 e2 e3 b=>q _ _ ⟨j,x,e1,e2,rfl⟩ ⟨e3,st.2.1.of λo e=>b.extBut a o ne e,b.extBut tu _ nt st.2.2⟩ (Gk b)) λe=>?_
  rw [getElem?_eq_getElem (by omega)] at e;cases e
 done:=λs Q E st q=>by
  refine yW hh st.1 st.2.1 st.2.2 yh ho (λj x h' e=>?_) λ_ h' b=>q _ (KH b)
  rw [List.getElem?_eq_none (by omega)] at e;cases e
 self:=λi s Q E st q=>Gj st.1 q
theorem KJ {a:Addr}{Q:Bool->Shared->Prop}(ty:s.TypeIs (.ref a) "set") (q:Q false s):wpAny (model prog w) A (Builtin.List.listLengthHint (.ref a)) Q E s:=by
 unfold Builtin.List.listLengthHint;refine wpAny_bind (wpAny_specialOf ty PySem.F.slot_set_len.lookup ?_);generalize uk:("set.__len__":String)=id0
 wp_delta
 rw [show splitId id0=some ("set","__len__") from by subst uk; decide +kernel];subst uk;refine wpAny_bind (wpAny_isInstance (T:="set") (b:=true) ty (by rw [isSubtype_type]; kernel_rfl) ?_);refine wpAny_ite_split (λz=>absurd z (by decide)) (λ_=>?_);refine wpAny_ite_split (λ_=>?_) (λz=>absurd (by decide +kernel) z);exact wpAny_bind (wpAny_typeOf ty (wpAny_pure q))
theorem DU {a:Addr}{o:Obj}{es:Array (Int×Value)}{ep:Nat}{t:SetTable}{Q:Value->Shared->Prop}(h:Dk s.heap a o es ep t) (hz:es.size<=sizeLine)
  (q1:(!w.params.followText "set-order"&&(!t.plain&&decide (es.size > 1)))=false->Q (.ref s.heap.objs.size) {s with heap:=s.heap.push (Dj (.int 0 0) 0 a es.size ep)})
  (q2:∀(ord:List Nat) d',ord.Perm (List.range es.size)->Q (.ref (s.heap.objs.size+1)) {s with heap:=(s.heap.push (seqObj "tuple" (jd ord) 0)).push (Dj (.ref s.heap.objs.size) 0 a es.size ep),drawn:=d'}) :
  wpAny (model prog w) A (pyIter (.ref a)) Q E s:=by
 refine wpAny_pyIter_slot h.ty PySem.F.slot_set_iter (wpAny_call_entry PySem.F.slot_set_iter h.ty KA ?_ (PySem.F.args_set_iter_1 _));unfold Builtin.«frozenset.__iter__»;show wpAny _ _ (Builtin.Frozenset.sizeOf a >>= _) _ _ s;unfold Builtin.Frozenset.sizeOf setDrawn setsByText;refine wpAny_bind (wpAny_bind (wpAny_setEntries_of h.at_ h.dt h.fit (wpAny_pure ?_)));refine wpAny_bind (wpAny_bind (wpAny_setState_of h.at_ h.dt h.fit (wpAny_bind (wpAny_bind (wpAny_askSetting (wpAny_pure ?_))))));show wpAny _ _ (pure (!w.params.followText "set-order"&&(!t.plain&&decide (es.size > 1)))) _ _ s;refine wpAny_pure ?_
 cases eb:(!w.params.followText "set-order"&&(!t.plain&&decide (es.size > 1)))with
 | false=>
  rw [if_neg Bool.false_ne_true];refine wpAny_bind (wpAny_pure ?_);refine wpAny_bind (wpAny_setEpoch_of h.at_ h.dt h.fit ?_);refine wpAny_bind (wpAny_newObj_type (wpAny_pure ⟨_,rfl,"set_iterator",_,⟨_,get?_push_size _ rfl,rfl⟩,jc.lookup,?_⟩));exact q1 eb
 | true=>
  rw [if_pos rfl];refine wpAny_bind (ur es.size (List.range es.size) _ _ length_range λord d' hp=>?_);have hl:ord.length=es.size:=by rw [hp.length_eq,length_range]
  refine wpAny_bind (wpAny_newTuple ?_ (by rw [length_map,hl]; exact hz));refine wpAny_bind (wpAny_setEpoch_of (s:={s with heap:=s.heap.push _,drawn:=d'}) (get?_push_of_some _ h.at_) h.dt h.fit ?_);refine wpAny_bind (wpAny_newObj_type (wpAny_pure ⟨_,rfl,"set_iterator",_,⟨_,get?_push_size _ rfl,rfl⟩,jc.lookup,?_⟩));have:=q2 ord d' hp;rw [Heap.size_push];exact this
theorem KL {xs:Array Nat}(hr:qF xs.toList) {i j:Nat}(hi:i<=xs.size) (h1:∀k v,k < i->xs[k]?=some v->v < j) (h2:∀v,xs[i]?=some v->j<=v):SetTable.below xs j=i:=by
 obtain⟨b1,b2,b3⟩:=below_at (j:=j) hr;generalize SetTable.below xs j=b at b1 b2 b3;rcases Nat.lt_trichotomy b i with h | h | h
 ·have g:xs[b]?=some xs[b]:=Array.getElem?_eq_getElem (by omega);have e1:=b3 b _ (Nat.le_refl _) g;have e2:=h1 b _ h g;omega
 ·exact h
 ·have g:xs[i]?=some xs[i]:=Array.getElem?_eq_getElem (by omega);have e1:=b2 i _ h g;have e2:=h2 _ g;omega
noncomputable def slotAt (t:SetTable) (i:Nat):Nat:=if i=0 then 0 else(t.place[i - 1]?).getD 0+1
theorem DV {t:SetTable}(hr:qF t.place.toList) {i:Nat}(hi:i<=t.place.size):SetTable.below t.place (slotAt t i)=i:=by
 refine KL hr hi (λk v hk e=>?_) λv e=>?_
 ·unfold slotAt;rw [if_neg (by omega)];have g:t.place[i - 1]?=some t.place[i - 1]:=Array.getElem?_eq_getElem (by omega);have:=hr.le (show k<=i - 1 by omega) e g;rw [g];show v < t.place[i - 1]+1;omega
 ·unfold slotAt
  by_cases z:i=0
  ·rw [if_pos z];exact Nat.zero_le _
  ·rw [if_neg z];have hU:=(Array.getElem?_eq_some_iff.mp e).1;have g:t.place[i - 1]?=some t.place[i - 1]:=Array.getElem?_eq_getElem (by omega);rw [g];have p:=List.pairwise_iff_getElem.mp hr (i - 1) i (by rw [Array.length_toList]; omega) (by rw [Array.length_toList]; omega) (by omega);rw [Array.getElem_toList,Array.getElem_toList] at p;have:=(Array.getElem?_eq_some_iff.mp e).2;show t.place[i - 1]+1<=v;omega
theorem KN {vs:List Value}{es:List (Int×Value)}(HL:ElemsOf (intKind prog w) es) (hp:vs.Perm (es.map (·.2))):∃ks:List Int,IntsAre vs ks/\ks.Perm (es.map λe=>intOf e.2):=by
 refine⟨vs.map intOf,?_,?_⟩
 ·have hv:∀v∈vs,∃t,v=.int (intOf v) t:=λv hv=>by
   obtain⟨e,he,rfl⟩:=mem_map.mp (hp.mem_iff.mp hv);obtain⟨⟨k,hk,_⟩,_⟩:=HL e he;obtain⟨t,et⟩:=Value.isInt_shape hk;rw [et];exact⟨t,rfl⟩
  clear hp HL;induction vs with
  | nil=>exact IntsAre.nil
  | cons v vs ih=>
   obtain⟨t,e⟩:=hv v mem_cons_self;have:=ih λu hu=>hv u (mem_cons_of_mem _ hu)
   rw [List.map_cons];rw [e];exact IntsAre.cons _ _ this
 ·have:=hp.map intOf;rw [List.map_map] at this;exact this
theorem PY {R:Result->Shared->Prop}{a L:Addr}{res:Value}{c0:Nat}{Z:List Int}(hh:A.handled=none) (g:iz prog w s.heap a Z) (nL:L≠a) (hL:s.heap.get? L=some {cls:=.type "list",data:=.seq #[] c0})
  (hR:∀(s':Shared) (acc:Array Value) (c:Nat) (ks:List Int),(∀b o,b≠L->s.heap.get? b=some o->s'.heap.get? b=some o)->s'.gens=s.gens->s'.os=s.os->s'.heap.get? L=some {cls:=.type "list",dict:=none,data:=.seq acc c,slots:=#[]}->IntsAre acc.toList ks->ks.Perm Z->R (.ok (.ret res)) s') :
  wpAny (model prog w) A.in1 (Builtin.List.listExtendWith (.ref L) (.ref a) res)
   (λfin s'=>match fin with | .done f=>R (.ok f) s' | .again c'=>c'.quiet=true/\codeAny (model prog w) A c' R s') (λe s'=>R (.error e) s') s:=by
 obtain⟨o,es,ep,t,ho,hex,hd,HL,Rf,hnd,hb,hf,hg⟩:=g;have sa:Dk s.heap a o es ep t:=⟨ho,hex,hd,hf⟩
 have hz:es.size<=sizeLine:=fits_of_scanBound hb;have la:a < s.heap.objs.size:=lt_size ho;have lL:L < s.heap.objs.size:=lt_size hL;have go:∀(s1:Shared) (it:Addr) (fp:List Addr) (P:Nat->Value->Prop) (St:Nat->Shared->Prop),WalksS prog w A.in1 it fp [it] Eq es.size P St->L∉fp->L≠it->St 0 s1->(∀b u,s.heap.get? b=some u->s1.heap.get? b=some u)->s1.gens=s.gens->s1.os=s.os->(∀b u,s.heap.get? b=some u->b≠it) ->
   (∀acc:Array Value,ItemsOf P acc es.size->acc.toList.Perm (es.toList.map (·.2)))->∀bb:Bool,wpAny (model prog w) A.in1 (do
    let room <-holding [.ref it] (Builtin.List.listLengthHint (.ref a))
    if (room || bb)=true then do
     rule "list.extend.makes-room"
     Builtin.List.listTouch (.ref L)
     again (.builtin "list.extend.loop" ⟨[.ref L,.ref it,res],[]⟩)
    else again (.builtin "list.extend.loop" ⟨[.ref L,.ref it,res],[]⟩)) (λfin s'=>match fin with | .done f=>R (.ok f) s' | .again c'=>c'.quiet=true/\codeAny (model prog w) A c' R s') (λe s'=>R (.error e) s') s1:=by
  intro s1 it fp P St W Yj hLi st kp eg eo ni aeh bb;have key:∀(h:Heap) (c₁ tk:Nat),St 0 {s1 with heap:=h,toks:=tk}->(∀b u,b≠L->s.heap.get? b=some u->h.get? b=some u)->h.get? L=some {cls:=.type "list",data:=.seq #[] c₁}->codeAny (model prog w) A (.builtin "list.extend.loop" ⟨[.ref L,.ref it,res],[]⟩) R {s1 with heap:=h,toks:=tk}:=by
   intro h c₁ tk st1 k1 Va;refine codeAny_extend_loopS W hz L Yj res es.size 0 _ #[] c₁ rfl (Nat.zero_le _) st1 Va (ItemsOf.nil _) λs' acc c' mv hL' DW=>?_
   obtain⟨ks,i1,i2⟩:=KN (prog:=prog) (w:=w) HL (aeh acc DW);refine hR s' acc c' ks (λb u nb e=>mv.heap b u (λz=>?_) (k1 b u nb e)) (mv.gens.symm.trans eg) (mv.os.trans eo) hL' i1 (i2.trans Rf);rcases mem_cons.mp z with z | z
   ·exact nb z
   ·exact ni b u e (mem_singleton.mp z)
  have Va:=kp _ _ hL;refine wpAny_bind (wpAny_holding (KJ ⟨o,kp _ _ ho,hex.1⟩ ?_));refine wpAny_ite_split (λ_=>?_) λ_=>wpAny_pure ⟨plainId_quiet PySem.F.plain_extend_loop _,key s1.heap c0 s1.toks st (λb u _ e=>kp b u e) Va⟩
  refine wpAny_bind (wpAny_rule (wpAny_bind ?_));show wpAny _ _ (updateSeq L (·.push .none) >>= λ_=>updateSeq L (·.pop)) _ _ _;refine wpAny_bind (wpAny_updateSeq Va rfl ?_);have hL2:=Heap.get?_update_self (Obj.mapSeq (·.push Value.none)) Va rfl;refine wpAny_updateSeq (hz:=by seq_fits) hL2 rfl ?_;have Yk:=Heap.get?_update_self (Obj.mapSeq (·.pop)) hL2 rfl;have kB:∀b u,b≠L->s1.heap.get? b=some u->((s1.heap.update L (Obj.mapSeq (·.push Value.none))).update L (Obj.mapSeq (·.pop))).get? b=some u:=λb u nb e=>by
   rw [Heap.get?_update_other _ _ nb.symm,Heap.get?_update_other _ _ nb.symm];exact e
  refine wpAny_pure ⟨plainId_quiet PySem.F.plain_extend_loop _,key _ _ s1.toks (W.frame 0 s1 _ _ st (Nat.le_refl _) λb hb u e=>kB b u (λz=>Yj (z▸hb)) e) (λb u nb e=>kB b u nb (kp b u e)) Yk⟩
 unfold Builtin.List.listExtendWith;refine wpAny_bind (wpAny_typeOf (T:="set") sa.ty ?_);have h1:Builtin.List.listSameRef (.ref L) (.ref a)=false:=by simp [Builtin.List.listSameRef,nL]
 have h2:(Value.type "set" == Value.type "list")=false:=by decide
 have h3:(Value.type "set" == Value.type "tuple")=false:=by decide
 simp only [h1,h2,h3,Bool.or_false,Bool.false_eq_true,if_false];refine wpAny_bind (DU sa hz (λhq=>?_) λord d' hp=>?_)
 ·have ni:∀b u,s.heap.get? b=some u->b≠s.heap.objs.size:=λb u e=>Nat.ne_of_lt (lt_size e)
  have kp:∀b u,s.heap.get? b=some u->(s.heap.push (Dj (.int 0 0) 0 a es.size ep)).get? b=some u:=λb u e=>get?_push_of_some _ e
  have Yj:L∉[s.heap.objs.size,a]:=λz=>by
   rcases mem_cons.mp z with z | z
   ·exact Nat.ne_of_lt lL z
   ·exact nL (mem_singleton.mp z)
  have fin:∀(sl:Nat->Nat) (ord:List Value),ord.Perm (es.toList.map (·.2))->sl 0=0->(∀i,i<=es.size->∀(s:Shared) (A:Around) (E:Value->Shared->Prop) (Q':Option (Value×Nat)->Shared->Prop),Dk s.heap a o es ep t->Q' ((ord[i]?).map λx=>(x,sl (i+1))) s->wpAny (model prog w) A (setNext a (sl i) i ep) Q' E s)->_:=λsl ord hp h0 hN=>
   go {s with heap:=s.heap.push (Dj (.int 0 0) 0 a es.size ep)} s.heap.objs.size _ _ _ (KI (A:=A.in1) hh (Nat.ne_of_lt la) sl ord (by rw [hp.length_eq,length_map,Array.length_toList]) hN) Yj (Nat.ne_of_lt lL) ⟨by rw [h0]; exact get?_push_size _ rfl,sa.of λu e=>kp _ u e⟩ kp rfl rfl ni (λacc DW=>by
    have:acc.toList=ord:=by
     refine List.ext_getElem? λi=>?_
     rw [Array.getElem?_toList]
     cases e:acc[i]? with
     | some v=>rw [DW.2 i v e]
     | none=>
      have h1:es.size<=i:=by
       have:=Array.getElem?_eq_none_iff.mp e;rw [DW.1] at this;exact this
      rw [List.getElem?_eq_none];rw [hp.length_eq,length_map,Array.length_toList];exact h1
    rw [this];exact hp)
  cases hw:w.params.followText "set-order" with
  | true=>
   refine fin (λ_=>0) ((pickOrder (w.params.setOrder a ep) es).toList.map (·.2)) ((HP _ es).map _) rfl (λi hi s A E Q' sa' q=>PX sa' hw ?_) _;rw [getElem?_map,Array.getElem?_toList,Option.map_map] at q;exact q
  | false=>
   rw [hw] at hq;have HQ:(!t.plain&&decide (es.size > 1))=false:=by simpa using hq
   have aei:t.led=true:=by rw [hg.1,hw]; rfl
   have psz:t.place.size=es.size:=by
    have:=hf;unfold SetTable.fits at this;rw [Bool.and_eq_true] at this;exact beq_iff_eq.mp this.1
   refine fin (slotAt t) (es.toList.map (·.2)) (.refl _) rfl (λi hi s A E Q' sa' q=>KC sa' hw HQ aei ?_) _;rw [DV hg.2 (by omega)];rw [getElem?_map,Array.getElem?_toList] at q;rcases Nat.lt_or_eq_of_le hi with h | h
   ·have g1:es[i]?=some es[i]:=Array.getElem?_eq_getElem h;have g2:t.place[i]?=some t.place[i]:=Array.getElem?_eq_getElem (by omega);have g3:slotAt t (i+1)=t.place[i]+1:=by
     unfold slotAt;rw [if_neg (by omega),Nat.add_sub_cancel,g2];rfl
    rw [g1,g3] at q;rw [g1,g2];exact q
   ·have g1:es[i]?=none:=Array.getElem?_eq_none (by omega);rw [g1] at q;rw [g1];exact q
 ·have hl:ord.length=es.size:=by rw [hp.length_eq,length_range]
  have ni:∀b u,s.heap.get? b=some u->b≠s.heap.objs.size+1:=λb u e=>Nat.ne_of_lt (Nat.lt_succ_of_lt (lt_size e))
  have kp:∀b u,s.heap.get? b=some u->((s.heap.push (seqObj "tuple" (jd ord) 0)).push (Dj (.ref s.heap.objs.size) 0 a es.size ep)).get? b=some u:=λb u e=>get?_push_of_some _ (get?_push_of_some _ e)
  have Yj:L∉[s.heap.objs.size+1,a,s.heap.objs.size]:=λz=>by
   rcases mem_cons.mp z with z | z
   ·exact ni L _ hL z
   ·rcases mem_cons.mp z with z | z
    ·exact nL z
    ·exact Nat.ne_of_lt lL (mem_singleton.mp z)
  have hit:((s.heap.push (seqObj "tuple" (jd ord) 0)).push (Dj (.ref s.heap.objs.size) 0 a es.size ep)).get? (s.heap.objs.size+1)=some (Dj (.ref s.heap.objs.size) 0 a es.size ep):=by
   have:=get?_push_size (o:=Dj (.ref s.heap.objs.size) 0 a es.size ep) (s.heap.push (seqObj "tuple" (jd ord) 0)) rfl;rw [Heap.size_push] at this;exact this
  refine go {s with heap:=(s.heap.push (seqObj "tuple" (jd ord) 0)).push (Dj (.ref s.heap.objs.size) 0 a es.size ep),drawn:=d'} (s.heap.objs.size+1) _ _ _ (DT (A:=A.in1) (tu:=s.heap.objs.size) (m:=0) hh (Nat.ne_of_lt (Nat.lt_succ_of_lt la)) (Nat.ne_of_lt (Nat.lt_succ_self _)) ord hl rfl λj hj=>List.mem_range.mp (hp.mem_iff.mp hj)) Yj (ni L _ hL) ⟨hit,sa.of λu e=>kp _ u e,get?_push_of_some _ (get?_push_size _ rfl)⟩ kp rfl rfl ni (λacc DW=>?_) _;have f1:acc.toList=ord.map λj=>((es[j]?).map (·.2)).getD .none:=by
   refine List.ext_getElem? λi=>?_
   rw [Array.getElem?_toList,getElem?_map]
   cases e:acc[i]? with
   | some v=>
    obtain⟨j,x,e1,e2,rfl⟩:=DW.2 i v e;rw [e1];show _=some (((es[j]?).map (·.2)).getD .none);rw [e2];rfl
   | none=>
    have h1:es.size<=i:=by
     have:=Array.getElem?_eq_none_iff.mp e;rw [DW.1] at this;exact this
    rw [List.getElem?_eq_none (by omega)];rfl
  have f2:(List.range es.size).map (λj=>((es[j]?).map (·.2)).getD .none)=es.toList.map (·.2):=by
   refine List.ext_getElem? λi=>?_
   rw [getElem?_map,getElem?_map,Array.getElem?_toList (xs:=es)];rcases Nat.lt_or_ge i es.size with h | h
   ·rw [List.getElem?_range h,Array.getElem?_eq_getElem h];show some (((es[i]?).map (·.2)).getD .none)=_;rw [Array.getElem?_eq_getElem h];rfl
   ·rw [List.getElem?_eq_none (by rw [length_range]; exact h),Array.getElem?_eq_none h];rfl
  rw [f1,<-f2];exact hp.map _
theorem yX {a:Addr}{Z:List Int}{Q:List Value->Shared->Prop}(hh:A.handled=none) (g:iz prog w s.heap a Z)
  (h:∀(s':Shared) (vs:List Value) (ks:List Int),(∀b o,s.heap.get? b=some o->s'.heap.get? b=some o)->s.heap.objs.size < s'.heap.objs.size->s'.gens=s.gens->s'.os=s.os->IntsAre vs ks->ks.Perm Z->Q vs s') :
  wpAny (model prog w) A (collect (.ref a)) Q E s:=by
 have la:a < s.heap.objs.size:=by
  obtain⟨o,_,_,_,ho,_⟩:=g;exact lt_size ho
 unfold collect;refine wpAny_bind (wpAny_runValue (codeAny_builtin entry_proto_collect' ?_));show wpAny _ _ (do again (.builtin "list.__iadd__" ⟨[<-newList [],.ref a],[]⟩)) _ _ s;refine wpAny_bind (wpAny_newList (wpAny_pure ⟨Code.quiet_builtin _ (by decide +kernel),codeAny_builtin entry_list_iadd' ?_⟩));show wpAny _ _ (Builtin.List.listExtendWith (.ref s.heap.objs.size) (.ref a) (.ref s.heap.objs.size)) _ _ {s with heap:=s.heap.push (seqObj "list" #[] 0)};rw [Around.under_plainId (by decide +kernel)];refine PY (s:={s with heap:=s.heap.push (seqObj "list" #[] 0)}) (R:=λr s'=>match r with
  | .ok (.ret v)=>wpAny (model prog w) A (match v with
   | .ref x=>do
    let u <-load x
    match u.data with
    | .seq xs _=>pure xs.toList
    | _=>unsupported "internal:collect"
   | _=>unsupported "internal:collect") Q E s'
  | .ok _=>False
  | .error e=>E e s') hh (g.of_same λo e=>get?_push_of_some _ e) (Nat.ne_of_gt la) (get?_push_size _ rfl) λs' acc c ks kp eg eo hL ia pm=>?_
 show wpAny (model prog w) A (do
   let o <-load s.heap.objs.size
   match o.data with
   | .seq xs _=>pure xs.toList
   | _=>unsupported "internal:collect") Q E s'
 refine wpAny_bind (wpAny_load hL ?_);exact wpAny_pure (h s' acc.toList ks (λb o e=>kp b o (Nat.ne_of_lt (lt_size e)) (get?_push_of_some _ e)) (lt_size hL) eg eo ia pm)
end
theorem Vb:bootBuiltins "set"=some (.type "set"):=by decide +kernel
section
variable {X:Cx}
theorem HR (hc:X.calm=true):fK X (.type "set") (λxs H Q=>∃(p:Addr) (ns:List Int),xs=[.ref p]/\ba X.K H p (ns.map V.int)/\ns.length<=4000/\∀l,H l=none->Q (.ref l) (upd H l (.ext λh=>iz X.prog X.w h l (ns.foldl gs [])))):=by
 intro pins s σ H xs us Q I r h;obtain⟨p,ns,rfl,hq,h4,q⟩:=h;obtain⟨u,rfl,rx⟩:=vals1 r;cases rx;obtain⟨bF,rv,pl,hz⟩:=I.list hq;have hl:=rv.length;rw [length_map] at hl;refine HN (items:=bF.toArray) (I.ok.hd hc) pl.isList (by rw [List.toList_toArray]; exact intsAre_of rv) (by rw [size_toArray]; show bF.length+1 < 4096; omega) λh' tk g kp=>?_
 obtain⟨o,es,ep,t,ho,rest⟩:=id g;exact⟨.ref s.heap.objs.size,_,I.laid (t':=tk) kp (Nat.le_refl _) (show cR X.prog X.w _ h' _ (.ext λh=>iz X.prog X.w h s.heap.objs.size (ns.foldl gs [])) from⟨g,⟨o,ho⟩,λh1 h2 g1 k=>g1.of_same k⟩),rfl,q _ (I.bV.fresh (Nat.le_refl _))⟩
theorem Inv.drew {pins:List (Addr×Obj)}{σ:St}{H:Hp}{s:Shared}(I:Inv X pins σ H s) (d:_):Inv X pins σ H {s with drawn:=d}:=⟨I.ok,I.os,I.bare,I.base,I.loc,I.cell,I.free,I.gi,I.pin,I.bV,I.len⟩
theorem mr:∀(l S:List Int),S.Nodup->(l.foldl gs S).Nodup
 | [],_,h=>h
 | x::l,S,h=>by
  rw [List.foldl_cons];refine mr l _ ?_;unfold gs;split
  ·exact h
  ·rename_i hx;refine nodup_append.mpr ⟨h,by simp,λa ha b hb e=>?_⟩;rw [mem_singleton.mp hb] at e;exact hx (e▸ha)
theorem vW (hc:X.calm=true):fK X (.builtin "sorted") (λxs H Q=>∃(p:Addr) (Z:List Int),xs=[.ref p]/\H p=some (.ext λh=>iz X.prog X.w h p Z)/\Z.length < 64/\∀(l:Addr) (pJ:List Int),H l=none->pJ.Perm Z->pJ.Pairwise (·<=·)->Q (.ref l) (upd H l (.lst (pJ.map V.int)))):=by
 intro pins s σ H xs us Q I r h;obtain⟨p,Z,rfl,hp,h64,q⟩:=h;obtain⟨u,rfl,rx⟩:=vals1 r;cases rx;have g:iz X.prog X.w s.heap p Z:=(I.bV p _ hp).1;refine Calls.call_function_entry kind_sorted plain_sorted entry_sorted (args_sorted1 _) ?_;unfold Builtin.«sorted»;refine wpAny_bind (m:=checkCount "sorted" 1 1 _) (wpAny_pure ?_);refine wpAny_bind (yX (I.ok.hd hc) g λs' ws ks kp hsz eg eo hI pm=>?_);have hlen:=IntsAre.length hI;have tV:=pm.length_eq;refine wpAny_bind (wpAny_newList ?_ (by rw [sizeLine_eq]; omega));obtain⟨h',g',d',tk,os'⟩:=s';dsimp only at kp hsz eg eo;subst eg eo;have O_:(h'.push (seqObj "list" ws.toArray 0)).get? h'.objs.size=some (seqObj "list" ws.toArray 0):=get?_push_size _ rfl;refine wpAny_bind (wpAny_holding (wpAny_call_entry slot_list_sort ⟨_,O_,rfl⟩ entry_list_sort (list_sort_tree O_ hI (by omega) λout pJ a1 a2 a3=>⟨_,rfl,?_⟩) (args_list_sort _)));obtain⟨e,he⟩:=sortedHeap_at (out:=out) O_;have qx:=a2.length_eq;refine wpAny_pure ⟨_,rfl,?_⟩;refine⟨.ref h'.objs.size,_,(I.drew d').laid (t':=tk) (λb o hb=>?_) (Nat.le_of_lt hsz) (show cR X.prog X.w _ _ _ (.lst (pJ.map V.int)) from⟨by rw [length_map]; exact Nat.le_of_lt (aG (by omega)),out.toList,e,iJ a1,by simpa [seqObj] using he⟩),rfl,q _ pJ (I.bV.fresh (Nat.le_of_lt hsz)) (a2.trans pm) a3⟩;have ui:=kp b o hb;have hU:=lt_size ui;rw [sortedHeap_old (Nat.ne_of_lt hU) (by rw [Heap.size_push]; exact Nat.lt_succ_of_lt hU)];exact get?_push_of_some _ ui
end
section
variable {prog:Program}{w:World}{A:Around}{E:Value->Shared->Prop}{s:Shared}
theorem HS {Q:Int->Shared->Prop}(h:Q 4238894112 {s with toks:=s.toks+1}):wpAny (model prog w) A (pyHash .none) Q E s:=by
 unfold pyHash;have hv:[Value.none].any Value.onHeap=false:=rfl;have ty:s.TypeIs .none "NoneType":=rfl;unfold pyHashByItsType;refine wpAny_bind ?_;rw [cRoomFor,if_neg (by rw [hv]; exact Bool.false_ne_true)];refine wpAny_pure (wpAny_bind (wpAny_specialOf ty PySem.F.slot_NoneType_hash.lookup ?_));show wpAny _ _ (if (some (Value.builtin "NoneType.__hash__") == some Value.none)=true then _ else _) Q E s;rw [if_neg (by rw [beq_builtin_none]; exact Bool.false_ne_true)];refine wpAny_bind (wpAny_specialOf ty PySem.F.slot_NoneType_hash.lookup ?_);show wpAny _ _ (callSpecialIfBoundUnlessNone? .none "__hash__" _ >>= _) Q E s;refine wpAny_bind (wpAny_callSpecialIfBoundUnlessNone?_slot ty PySem.F.slot_NoneType_hash (wpAny_call_entry PySem.F.slot_NoneType_hash ty PySem.F.entry_NoneType_hash (show wpAny _ _ (do ret (<-mkInt 4238894112)) _ _ s from wpAny_ret_mkInt ?_) (PySem.F.args_NoneType_hash_1 _)));exact wpAny_pure h
theorem PZ {Q:Bool->Shared->Prop}(h:Q true s):wpAny (model prog w) A (eqBool .none .none) Q E s:=by
 unfold eqBool;refine wpAny_holding (wpAny_ite_split (λ_=>wpAny_bind (wpAny_rule (wpAny_pure h))) λz=>absurd (by decide) z)
end
noncomputable def nIs:Option Key->Value->Bool
 | some k,v=>lV k v
 | none,.none=>true
 | none,_=>false
theorem fO {v:Value}(h:nIs none v=true):v=.none:=by
 cases v <;> first | rfl | cases h
theorem qI {k:Key}(h:lV k .none=true):False:=by
 rcases bZ h with ⟨_,_,_,e⟩ | ⟨_,_,_,e⟩ <;> cases e
noncomputable def Gm (prog:Program) (w:World):PySem.KeyKind prog w (Option Key) where
 is:=nIs
 hash:=λk=>match k with | some k=>YF w k | none=>4238894112
 inj:=λv a b ha hb=>by
  cases a with
  | none=>
   cases fO ha
   cases b with
   | none=>rfl
   | some k=>exact(qI hb).elim
  | some j=>
   cases b with
   | none=>
    cases fO hb
    exact(qI ha).elim
   | some k=>rw [(bp prog w).inj v j k ha hb]
 byValue:=λk v h=>by
  cases k with
  | none=>cases fO h; rfl
  | some k=>exact(bp prog w).byValue k v h
 pyHash:=λ{A E s k v Q} hv h=>by
  cases k with
  | none=>cases fO hv; exact HS h
  | some k=>exact(bp prog w).pyHash hv h
 eqBool:=λ{A E s a b u v Q} hu hv h=>by
  cases a with
  | none=>
   cases fO hu
   cases b with
   | none=>cases fO hv; exact PZ h
   | some k=>
    rw [decide_eq_false (λz=>nomatch z)] at h;rcases bZ hv with ⟨i,t,rfl,rfl⟩ | ⟨x,t,rfl,rfl⟩
    ·exact SeqAt.EqAt.none_int i t _ _ _ _ h
    ·exact SeqAt.EqAt.none_str x t _ _ _ _ h
  | some j=>
   cases b with
   | none=>
    cases fO hv
    rw [decide_eq_false (λz=>nomatch z)] at h;rcases bZ hu with ⟨i,t,rfl,rfl⟩ | ⟨x,t,rfl,rfl⟩
    ·exact SeqAt.EqAt.int_none i t _ _ _ _ h
    ·exact SeqAt.EqAt.str_none x t _ _ _ _ h
   | some k=>
    refine(bp prog w).eqBool (a:=j) (b:=k) hu hv ?_;have:decide (some j=some k)=decide (j=k):=by
     by_cases z:j=k
     ·subst z; simp
     ·rw [decide_eq_false z,decide_eq_false λy=>z (Option.some.inj y)]
    rw [this] at h;exact h
 «strs»:=λk x t v h=>by
  cases k with
  | none=>cases fO h
  | some k=>exact(bp prog w).strs k x t v h
theorem aej {prog:Program}{w:World}{h:Heap}{a:Addr}{vs:List (Key×Value)}(d:h.DictOf (bp prog w) a vs):∃f,h.MapOf (Gm prog w) a f/\f none=none:=by
 obtain⟨o,es,ep,ho,hc,PU,hk,_⟩:=d;refine⟨findBy (Gm prog w).is es,⟨o,es,ep,ho,hc,PU,λe he=>?_,λk=>rfl⟩,?_⟩
 ·obtain⟨k,h1,h2⟩:=hk e he;exact⟨some k,h1,h2⟩
 ·unfold findBy
  cases ef:es.find? λe=>(Gm prog w).is none e.key with
  | none=>rfl
  | some e=>
   exfalso;obtain⟨k,h1,_⟩:=hk e (Array.mem_of_find?_eq_some ef);have h3:=Array.find?_some ef;have h4:=fO h3;rw [h4] at h1;exact qI h1
noncomputable def ZG (H:Hp) (a:Addr) (y:V) (b:Bool):Prop:=(∃o,fH H a y o/\b=o.isSome)\/(y=.bN/\b=false/\∃kvs,Rd H a (.dK kvs))
noncomputable def Rg (ty td:TE):TE:=λσ H Q=>ty σ H λy H1=>td σ H1 λx H2=>∃a b,x=.ref a/\ZG H2 a y b/\Q (.bl b) H2
section
variable {X:Cx}{i o:PySem.Expr}{ty td:TE}
theorem P0 (hu:X.A.units+1 < cLine) (hi:PE X i ty) (ho:PE X o td):PC X .In i o (Rg ty td):=by
 intro pins s σ H Q I h;refine ck (hi pins s σ H _ I h) λiv s1 ⟨y,H1,I1,ry,q1⟩=>ck (ho pins s1 σ H1 _ I1 q1) λu s2 ⟨x,H2,I2,rx,a,b,ex,g,q2⟩=>?_
 subst ex;obtain rfl:u=Value.ref a:=rx;rcases g with ⟨ov,g,rfl⟩ | ⟨rfl,rfl,kvs,g⟩
 ·exact Zo hu I2 g ry λs3 I3=>⟨.bl ov.isSome,H2,I3,rfl,q2⟩
 ·obtain⟨z,hd,vs,rel,dd⟩:=gH I2.bV g;obtain⟨f,hm,hf⟩:=aej dd;cases (show iv=Value.none from ry);refine wpAny_in_of (knd:=Gm X.prog X.w) (k:=none) (key:=.none) rfl hd hm ?_;rw [hf];exact⟨.bl false,H2,I2.tok _,rfl,q2⟩
theorem HU:Za X "dict.setdefault" (λx vs H Q=>∃(a:Addr) (kvs:List (Key×V)) (k:Key) (v:V),x=.ref a/\vs=[kV k,v]/\H a=some (.dK kvs)/\kvs.length < sizeLine/\((∃u,bz kvs k=some u/\Q u H)\/(bz kvs k=none/\Q v (upd H a (.dK (putK kvs k v)))))):=by
 intro pins s σ H x vs v us Q I rx rv h;obtain⟨a,kvs,k,dv,rfl,rfl,ha,hz,q⟩:=h;cases rx;obtain⟨u1,u2,rfl,r1,r2⟩:∃u1 u2,us=[u1,u2]/\RelV (kV k) u1/\RelV dv u2:=by
  cases rv with
  | cons r1 t=>
   cases t with
   | cons r2 t=>
    cases t;exact⟨_,_,rfl,r1,r2⟩
 obtain⟨z1,n1,vs,rel,dd⟩:=jo I.bV ha;have l1:=rel.length;refine call_meetsIn PySem.F.slot_dict_setdefault dd.typeIs PySem.F.entry_dict_setdefault (PySem.F.args_dict_setdefault_3 _ _ _) (kt_meets_setdefault (bp X.prog X.w) a (jP r1) n1 u2) ⟨vs,dd,by omega,λw' hw'=>?_,λhn h' DK hs=>?_⟩
 ·have ro:=rel.val k;rw [hw'] at ro
  cases e:bz kvs k with
  | none=>rw [e] at ro; exact ro.elim
  | some u=>
   rw [e] at ro;rcases q with ⟨u',e',q⟩ | ⟨e',_⟩
   ·rw [e] at e';cases e';exact⟨u,H,I.tok _,ro,q⟩
   ·rw [e] at e';cases e'
 ·have ro:=rel.val k;rw [hn] at ro
  cases e:bz kvs k with
  | some u=>rw [e] at ro; exact ro.elim
  | none=>
   rcases q with ⟨u',e',_⟩ | ⟨_,q⟩
   ·rw [e] at e';cases e'
   ·have he:∃q,h'.get? a=some q:=let ⟨q,_,_,hq,_⟩:=DK; ⟨q,hq⟩
    have hl:(putK kvs k dv).length<=sizeLine:=by have:=gp kvs k dv; omega
    exact⟨dv,_,mn I (by rw [ha]; exact True.intro) hs he (nG hl n1 (rel.put k r2) DK),r2,q⟩
end
section
variable {X:Cx}
open Classical in
end
section
open AutoSeq1 (wpAny_loadPart')
variable {prog:Program}{w:World}{A:Around}{E:Value->Shared->Prop}{s:Shared}
end
section
variable {X:Cx}
end
section
variable {X:Cx}
theorem DX (hc:X.calm=true):fK X (.type "list") (λxs H Q=>∃(p a:Addr) (kvs:List (Key×V)),xs=[.ref p]/\H p=some (.ext λh=>h.IsValuesView p a)/\Rd H a (.dK kvs)/\∀l,H l=none->Q (.ref l) (upd H l (.lst (kvs.map (·.2))))):=by
 intro pins s σ H xs us Q I r h;obtain⟨p,a,kvs,rfl,hp,hq,q⟩:=h;obtain⟨u,rfl,rx⟩:=vals1 r;cases rx;obtain⟨z,hd,vs,rel,dd⟩:=gH I.bV hq;obtain⟨ep,dat⟩:=dd.dictAt;have hv:=(I.bV p _ hp).1;refine PySem.W.kdl_call PySem.W.kdl_values (I.ok.hd hc) ⟨hv,dat⟩ (by rw [<-rel.length]; exact z) λh' tk vP c' kp e it=>?_
 have hvs:Vals (kvs.map (·.2)) vP.toList:=qA (by rw [length_map,rel.length,<-it.1,Array.length_toList]) λi x u hx hu=>by
  obtain⟨k,ek⟩:=it.2 i u (by rw [<-Array.getElem?_toList]; exact hu);rw [getElem?_map] at hx
  cases e2:kvs[i]? with
  | none=>rw [e2] at hx; cases hx
  | some y=>
   rw [e2] at hx;cases hx;exact rel.DM e2 ek
 exact⟨.ref s.heap.objs.size,_,I.laid (t':=tk) kp (Nat.le_refl _) (show cR X.prog X.w _ h' _ (.lst (kvs.map (·.2))) from⟨by rw [length_map]; exact z,vP.toList,c',hvs,by simpa using e⟩),rfl,q _ (I.bV.fresh (Nat.le_refl _))⟩
end
end L2
set_option Elab.async false
set_option linter.all false
set_option maxRecDepth 100000
set_option maxHeartbeats 4000000
namespace Vc
open PySem L2
local macro_rules | `(tactic| dsimp! [$xs,*]) => do
  let ls ← ("YQ QO YR YS tIf tB QU Yc tUn Dr tC Up rI rU Ja lY Uh FU Ui QP qk yv FY tCB tBM Y_ Jq Jr tSl QX FZ YZ Y0 YK tOr YL QN YM I0 _root_.L2.start rEq rNe Pp Pq Pt Pu Pw Y1 Pf UD List.map_cons List.map_nil length_cons List.length_nil List.replicate_succ List.replicate_zero Nat.reduceAdd Nat.reduceSub Nat.zero_add Nat.sub_self Nat.zero_le List.cons_append List.nil_append append_nil List.set_cons_zero List.set_cons_succ List.getElem?_cons_zero List.getElem?_cons_succ Option.some.injEq V.int.injEq V.bl.injEq V.ref.injEq V.ty.injEq V.str.injEq List.cons.injEq exists_eq_left' exists_eq_left exists_eq_right exists_and_left exists_const true_and and_true Bool.not_true Bool.not_false Bool.false_eq_true if_true if_false reduceCtorEq false_and and_false false_or or_false exists_false decide_true decide_false eq_self and_assoc Int.toNat_natCast tLc Q6 F5 QS QR YU U2 Rb Jm YT ipI JV Q8 Zr F7 Q9 JY J1 J2 Q_ Ra J7 Kh".splitOn " ").toArray.mapM fun s => `(Lean.Parser.Tactic.simpLemma| $(Lean.mkIdent s.toName):ident)
  `(tactic| simp only [$ls,*, $xs,*])
noncomputable def top (i:Nat):Stmt:=PySem.Challenge.pw_heapsafe_k19_whole_turns.main.body.getD i (.Pass ⟨0,0,0,0⟩)
noncomputable abbrev KO:Stmt:=top 3
noncomputable abbrev KP:Stmt:=top 4
noncomputable abbrev KQ:Stmt:=inClass (top 5) 0
noncomputable abbrev KR:Stmt:=inClass (top 5) 1
noncomputable abbrev KS:Stmt:=inClass (top 5) 2
noncomputable abbrev KU:Stmt:=inClass (top 5) 5
noncomputable abbrev KW:Stmt:=inClass (top 6) 0
noncomputable abbrev KY:Stmt:=inClass (top 6) 2
noncomputable abbrev KZ:Stmt:=inClass (top 6) 3
noncomputable abbrev K0:Stmt:=inClass (top 6) 4
noncomputable abbrev Vd:Stmt:=inClass (top 7) 0
noncomputable abbrev K1:Stmt:=top 8
noncomputable abbrev K2:Stmt:=top 9
noncomputable abbrev K3:Stmt:=top 10
noncomputable abbrev K4:Stmt:=top 12
noncomputable abbrev K5:Stmt:=top 13
noncomputable abbrev K6:Stmt:=top 14
noncomputable abbrev K7:Stmt:=top 15
noncomputable abbrev K8:Stmt:=top 16
noncomputable abbrev K9:Stmt:=inClass (top 17) 0
noncomputable abbrev K_:Stmt:=inClass (top 17) 1
noncomputable abbrev La:Stmt:=inClass (top 17) 2
noncomputable abbrev Lb:Stmt:=inClass (top 17) 3
noncomputable abbrev Lc:Stmt:=inClass (top 17) 4
noncomputable abbrev Ld:Stmt:=top 18
noncomputable abbrev Lf:Stmt:=top 19
noncomputable abbrev Lg:Stmt:=top 20
noncomputable abbrev Lh:Stmt:=top 21
noncomputable abbrev Li:Stmt:=top 22
noncomputable abbrev Lj:Stmt:=top 23
noncomputable abbrev Lk:Stmt:=top 24
noncomputable abbrev Ll:Stmt:=top 25
noncomputable abbrev Rh:Stmt:=top 36
noncomputable abbrev Lm:Stmt:=top 37
noncomputable abbrev Ln:Stmt:=top 38
noncomputable abbrev Lo:Stmt:=top 39
noncomputable abbrev Lp:Stmt:=top 40
noncomputable abbrev Lq:Stmt:=top 41
noncomputable abbrev Lr:Stmt:=top 42
noncomputable abbrev Ls:Stmt:=top 43
noncomputable abbrev Lu:Stmt:=top 44
noncomputable abbrev Lv:Stmt:=top 45
noncomputable abbrev Lw:Stmt:=top 46
noncomputable abbrev Lx:Stmt:=top 47
noncomputable abbrev Ly:Stmt:=top 48
noncomputable abbrev Lz:Stmt:=top 49
noncomputable abbrev LB:Stmt:=top 50
noncomputable abbrev LC:Stmt:=top 51
noncomputable abbrev LD:Stmt:=top 52
noncomputable abbrev Ve:Stmt:=inClass (top 54) 0
noncomputable abbrev Vf:Stmt:=inClass (top 54) 1
noncomputable abbrev Vg:Stmt:=inClass (top 54) 2
noncomputable abbrev Vh:Stmt:=inClass (top 54) 3
noncomputable abbrev Vi:Stmt:=inClass (top 54) 4
noncomputable abbrev Vj:Stmt:=inClass (top 54) 5
noncomputable abbrev Vk:Stmt:=inClass (top 54) 6
noncomputable abbrev Vm:Stmt:=inClass (top 54) 7
noncomputable abbrev Vn:Stmt:=inClass (top 54) 8
noncomputable abbrev LF:Stmt:=inClass (top 56) 0
noncomputable abbrev LG:Stmt:=inClass (top 56) 1
noncomputable abbrev LH:Stmt:=inClass (top 56) 2
noncomputable abbrev LI:Stmt:=inClass (top 56) 3
noncomputable abbrev LJ:Stmt:=inClass (top 56) 4
noncomputable abbrev LK:Stmt:=inClass (top 56) 5
noncomputable abbrev LL:Stmt:=inClass (top 56) 6
noncomputable abbrev LM:Stmt:=inClass (top 56) 7
noncomputable abbrev LN:Stmt:=inClass (top 56) 8
noncomputable abbrev LO:Stmt:=inClass (top 56) 9
noncomputable abbrev LP:Stmt:=inClass (top 56) 10
noncomputable abbrev LQ:Stmt:=inClass (top 56) 11
noncomputable abbrev LR:Stmt:=inClass (top 56) 12
noncomputable abbrev LS:Stmt:=top 58
noncomputable abbrev LU:Stmt:=top 59
noncomputable abbrev LV:Stmt:=top 60
noncomputable abbrev LW:Stmt:=top 61
noncomputable abbrev LX:Stmt:=top 62
noncomputable abbrev LY:Stmt:=top 63
noncomputable abbrev LZ:Stmt:=top 64
noncomputable abbrev L0:Stmt:=top 65
noncomputable abbrev L1:Stmt:=top 66
noncomputable abbrev L3:Stmt:=top 67
noncomputable abbrev L4:Stmt:=top 68
noncomputable abbrev L5:Stmt:=top 69
noncomputable abbrev L6:Stmt:=top 70
noncomputable abbrev L7:Stmt:=top 71
noncomputable abbrev L8:Stmt:=top 72
noncomputable abbrev L9:Stmt:=top 73
noncomputable abbrev L_:Stmt:=top 74
noncomputable abbrev yY:Stmt:=top 75
noncomputable abbrev Ma:Stmt:=top 76
noncomputable abbrev Mb:Stmt:=top 77
noncomputable abbrev mw:Stmt:=top 78
theorem di {N P:List Str}{sc:Scope}(h1:sc.kind=.function:=by rfl) (h2:sc.isCoroutine=false:=by rfl) (h3:sc.isGenerator=false:=by rfl) (h5:N.take P.length=P:=by rfl) (h:(decide N.Nodup&&(P.all (λx=>sc.names.lookup x == some .local || sc.names.lookup x == some .cell)&&sc.names.all λy=>y.2 != .free))=true:=by decide +kernel):aA N P sc:=by
 simp only [Bool.and_eq_true,List.all_eq_true,Bool.or_eq_true,decide_eq_true_eq,beq_iff_eq,bne_iff_ne] at h;exact⟨h1,h2,h3,h.1,h5,h.2.1,h.2.2⟩
theorem Vo:aA ["value"] ["value"] (ar KO):=di
theorem Vp:aA ["some"] ["some"] (ar KP):=di
theorem Vq:aA ["self","sort","some"] ["self","sort","some"] (ar KQ):=di
theorem Vr:aA ["self"] ["self"] (ar KR):=di
theorem Vs:aA ["self"] ["self"] (ar KS):=di
theorem Vt:aA ["self"] ["self"] (ar KU):=di
theorem Vu:aA ["self","some","last_words"] ["self","some","last_words"] (ar KW):=di
theorem Vv:aA ["self"] ["self"] (ar KY):=di
theorem Vw:aA ["self","at","value"] ["self","at","value"] (ar KZ):=di
theorem Vx:aA ["self","words"] ["self","words"] (ar K0):=di
theorem ZH:aA ["self","key","value"] ["self","key","value"] (ar Vd):=di
theorem Vy:aA ["fields","words"] ["fields","words"] (ar K1):=di
theorem Vz:aA ["field"] ["field"] (ar K2):=di
theorem VA:aA ["key","value"] ["key","value"] (ar K3):=di
theorem DY:aA ["heap","named","heard"] ["heap"] (ar K4):=di
theorem VB:aA ["some"] ["some"] (ar K5):=di
theorem VC:aA ["thing"] ["thing"] (ar K6):=di
theorem VD:aA ["thing"] ["thing"] (ar K7):=di
theorem VE:aA ["thing"] ["thing"] (ar K8):=di
theorem VG:aA ["self","things","some"] ["self","things","some"] (ar K9):=di
theorem Mc:aA ["self","names","how","other","name"] ["self","names","how","other"] (ar K_):=di
theorem VH:aA ["self","serial"] ["self","serial"] (ar La):=di
theorem vX:aA ["self","serial","thing","key","other"] ["self","serial"] (ar Lb):=di
theorem DZ:aA ["self","at"] ["self"] (ar Lc):=di
theorem VI:aA ["things","some"] ["things","some"] (ar Ld):=di
theorem VJ:aA ["things","some"] ["things","some"] (ar Lf):=di
theorem qJ:aA ["things","some","sort","members","blind","serial","first"] ["things","some","sort"] (ar Lg):=di
theorem VL:aA ["things","some"] ["things","some"] (ar Lh):=di
theorem VN:aA ["things","some"] ["things","some"] (ar Li):=di
theorem Md:aA ["things","kept","members"] ["things","kept"] (ar Lj):=di
theorem D0:aA ["things","serials","told","serial"] ["things","serials"] (ar Lk):=di
theorem jR:aA ["heap","things","kept","cleared","dropped","due","later","stays"] ["heap"] (ar Ll):=di
theorem VO:aA ["heap","letter","sort"] ["heap","letter","sort"] (ar Lm):=di
theorem VP:aA ["heap","deed"] ["heap","deed"] (ar Ln):=di
theorem D1:aA ["heap","deed","wanted","many"] ["heap","deed"] (ar Lo):=di
theorem VQ:aA ["heap","deed"] ["heap","deed"] (ar Lp):=di
theorem VR:aA ["heap","deed"] ["heap","deed"] (ar Lq):=di
theorem VS:aA ["heap","deed"] ["heap","deed"] (ar Lr):=di
theorem VT:aA ["heap","deed"] ["heap","deed"] (ar Ls):=di
theorem VU:aA ["heap","deed"] ["heap","deed"] (ar Lu):=di
theorem VV:aA ["heap","deed"] ["heap","deed"] (ar Lv):=di
theorem VW:aA ["heap","deed"] ["heap","deed"] (ar Lw):=di
theorem Me:aA ["heap","deed","some"] ["heap","deed"] (ar Lx):=di
theorem VX:aA ["heap","deed"] ["heap","deed"] (ar Ly):=di
theorem VY:aA ["heap","deed"] ["heap","deed"] (ar Lz):=di
theorem Mf:aA ["heap","deed","value"] ["heap","deed"] (ar LB):=di
theorem VZ:aA ["heap","deed"] ["heap","deed"] (ar LC):=di
theorem Mg:aA ["heap","deed","first"] ["heap","deed"] (ar LD):=di
theorem ZI:aA ["self"] ["self"] (ar Ve):=di
theorem ZJ:aA ["self","letter"] ["self","letter"] (ar Vf):=di
theorem ZK:aA ["self","letter","value"] ["self","letter","value"] (ar Vg):=di
theorem ZL:aA ["self","letter"] ["self","letter"] (ar Vh):=di
theorem ZM:aA ["self","letter"] ["self","letter"] (ar Vi):=di
theorem ZN:aA ["self","name"] ["self","name"] (ar Vj):=di
theorem ZO:aA ["self"] ["self"] (ar Vk):=di
theorem ZP:aA ["self","deed"] ["self","deed"] (ar Vm):=di
theorem ZQ:aA ["self","deed"] ["self","deed"] (ar Vn):=di
theorem V0:aA ["self"] ["self"] (ar LF):=di
theorem Mh:aA ["self","deed","refused"] ["self","deed"] (ar LG):=di
theorem V1:aA ["self","name"] ["self","name"] (ar LH):=di
theorem Mi:aA ["self","thing","serial"] ["self","thing"] (ar LI):=di
theorem V2:aA ["self","name","at","value"] ["self","name","at","value"] (ar LJ):=di
theorem V3:aA ["self","name","words"] ["self","name","words"] (ar LK):=di
theorem V4:aA ["self","serial"] ["self","serial"] (ar LL):=di
theorem V5:aA ["self","serial"] ["self","serial"] (ar LM):=di
theorem V6:aA ["self","serial"] ["self","serial"] (ar LN):=di
theorem V7:aA ["self"] ["self"] (ar LO):=di
theorem V8:aA ["self"] ["self"] (ar LP):=di
theorem vY:aA ["self","told","serial","thing"] ["self"] (ar LQ):=di
theorem V9:aA ["self"] ["self"] (ar LR):=di
theorem V_:aA ["_law_script","_law_k"] ["_law_script","_law_k"] (ar LS):=di
theorem Mj:aA ["_law_cell","_law_mode","_law_number"] ["_law_cell","_law_mode"] (ar LU):=di
theorem gF:aA ["_law_cell","_law_mode","_law_words","_law_letters","_law_many","_law_number","_law_word","_law_one","_law_two","_law_three","_law_at"] ["_law_cell","_law_mode"] (ar LV):=di
theorem Wa:aA ["_law_state","_law_root"] ["_law_state","_law_root"] (ar LW):=di
theorem Ml:aA ["_law_state","_law_root","_law_sort","_law_value_here"] ["_law_state","_law_root","_law_sort"] (ar LX):=di
theorem Wb:aA ["_law_state","_law_root","_law_value_here"] ["_law_state","_law_root","_law_value_here"] (ar LY):=di
theorem Mm:aA ["_law_deed","_law_word"] ["_law_deed"] (ar LZ):=di
theorem D2:aA ["_law_state","_law_deed","_law_root","_law_sort"] ["_law_state","_law_deed"] (ar L0):=di
theorem Mn:aA ["_law_state","_law_deed","_law_serial"] ["_law_state","_law_deed"] (ar L1):=di
theorem D3:aA ["_law_state","_law_deed","_law_word","_law_row"] ["_law_state","_law_deed"] (ar L3):=di
theorem vZ:aA ["_law_state","_law_deed","_law_value_here","_law_serial","_law_words"] ["_law_state","_law_deed"] (ar L4):=di
theorem lj:aA ["_law_state","_law_deed","_law_word","_law_refusal_here","_law_serial","_law_sort","_law_fields","_law_words"] ["_law_state","_law_deed"] (ar L5):=di
theorem v_:aA ["_law_state","_law_word","_law_serial","_law_sort","_law_fields","_law_words"] ["_law_state","_law_word","_law_serial"] (ar L6):=di
theorem qK:aA ["_law_state","_law_found","_law_root","_law_serial","_law_words"] ["_law_state"] (ar L7):=di
theorem gG:aA ["_law_things","_law_some","_law_there","_law_serial","_law_many","_law_sort","_law_fields","_law_words","_law_wanted","_law_value_here"] ["_law_things","_law_some"] (ar L8):=di
theorem wa:aA ["_law_things","_law_some","_law_sort","_law_found","_law_serial","_law_value_here"] ["_law_things","_law_some","_law_sort"] (ar L9):=di
theorem fP:aA ["_law_state","_law_away","_law_things","_law_kept","_law_cleared","_law_dropped","_law_due","_law_serial","_law_stays","_law_more","_law_others"] ["_law_state","_law_away"] (ar L_):=di
theorem D4:aA ["_law_found","_law_due","_law_key","_law_k"] ["_law_found","_law_due"] (ar yY):=di
theorem wb:aA ["_law_heap","_law_found","_law_serial"] ["_law_heap","_law_found"] (ar Ma):=di
theorem qL:aA ["_law_heap","_law_state","_law_things","_law_roots","_law_found","_law_due"] ["_law_heap","_law_state"] (ar Mb):=di
theorem nN:aA ["_law_script","_law_mode","_law_heap","_law_state","_law_cell","_law_deed"] ["_law_script"] (ar mw):=di
set_option genInjectivity false in
set_option genSizeOfSpec false in
structure eI where
 yZ:Addr
 y_:FuncData
 za:Addr
 zb:FuncData
 uu:Addr
 zc:FuncData
 qM:Addr
 zd:FuncData
 qN:Addr
 ze:FuncData
 uv:Addr
 zf:FuncData
 zg:Addr
 zh:FuncData
 zi:Addr
 zj:FuncData
 zk:Addr
 zl:FuncData
 zm:Addr
 zo:FuncData
 Mo:Addr
 Mp:FuncData
 zp:Addr
 zq:FuncData
 zr:Addr
 zt:FuncData
 zu:Addr
 zx:FuncData
 zy:Addr
 zz:FuncData
 zA:Addr
 zB:FuncData
 zC:Addr
 zD:FuncData
 zE:Addr
 zF:FuncData
 zG:Addr
 zH:FuncData
 zI:Addr
 zJ:FuncData
 zK:Addr
 zL:FuncData
 zM:Addr
 zN:FuncData
 zO:Addr
 zP:FuncData
 zQ:Addr
 zR:FuncData
 zS:Addr
 zT:FuncData
 zU:Addr
 zV:FuncData
 zW:Addr
 zX:FuncData
 zY:Addr
 zZ:FuncData
 z_:Addr
 Aa:FuncData
 Ab:Addr
 Ac:FuncData
 Ad:Addr
 Ae:FuncData
 Af:Addr
 Ag:FuncData
 Ah:Addr
 Ai:FuncData
 Aj:Addr
 Ak:FuncData
 Al:Addr
 Am:FuncData
 An:Addr
 Ao:FuncData
 Ap:Addr
 Aq:FuncData
 oJ:Addr
 Ar:FuncData
 jr:Addr
 As:FuncData
 oK:Addr
 Au:FuncData
 oM:Addr
 Av:FuncData
 oO:Addr
 Aw:FuncData
 oP:Addr
 Ax:FuncData
 oQ:Addr
 Ay:FuncData
 oR:Addr
 Az:FuncData
 oS:Addr
 AA:FuncData
 oU:Addr
 AB:FuncData
 oW:Addr
 AD:FuncData
 oX:Addr
 AE:FuncData
 HV:Addr
 Mq:FuncData
 HW:Addr
 Mr:FuncData
 HX:Addr
 Ms:FuncData
 HY:Addr
 Mt:FuncData
 HZ:Addr
 Mv:FuncData
 H_:Addr
 Mw:FuncData
 Ia:Addr
 Mx:FuncData
 Ib:Addr
 My:FuncData
 Ic:Addr
 Mz:FuncData
 AF:Addr
 AG:FuncData
 AH:Addr
 AI:FuncData
 AJ:Addr
 AK:FuncData
 AL:Addr
 AM:FuncData
 AN:Addr
 AO:FuncData
 AQ:Addr
 AR:FuncData
 AS:Addr
 AU:FuncData
 AV:Addr
 AW:FuncData
 AX:Addr
 AY:FuncData
 AZ:Addr
 A0:FuncData
 A1:Addr
 A2:FuncData
 A3:Addr
 A4:FuncData
 A5:Addr
 A6:FuncData
 A7:Addr
 A8:FuncData
 A9:Addr
 A_:FuncData
 Ba:Addr
 Bb:FuncData
 Bc:Addr
 Bd:FuncData
 Be:Addr
 Bf:FuncData
 Bg:Addr
 Bh:FuncData
 Bi:Addr
 Bj:FuncData
 Bk:Addr
 Bl:FuncData
 Bm:Addr
 Bo:FuncData
 Bp:Addr
 Bq:FuncData
 Br:Addr
 Bs:FuncData
 Bt:Addr
 Bu:FuncData
 Bv:Addr
 Bw:FuncData
 Bx:Addr
 By:FuncData
 Bz:Addr
 BA:FuncData
 BB:Addr
 BC:FuncData
 BD:Addr
 BE:FuncData
 qO:Addr
 uw:FuncData
 BF:Addr
 BG:FuncData
 BH:Addr
 BI:FuncData
 ux:Addr
 Ri:FuncData
 cy:Addr
 aM:Addr
 bc:Addr
 aZ:Addr
 Rj:Addr
 Yl:Addr
 Ym:Addr
 ZR:Addr
 cA:Addr
 aQ:Addr
 aV:Addr
 je:Tok
 jf:Tok
 ic:Addr
 fg:Addr
 fj:Addr
 fk:Addr
 fo:Addr
 fq:Addr
 ft:Addr
 fu:Addr
 fz:Addr
 fA:Addr
 fB:Addr
 fC:Addr
 fE:Addr
 fF:Addr
 dW:Addr
 dX:Addr
 cX:Addr
 cw:Addr
 cx:Addr
 ie:Addr
structure Txt (K:Frag) (mg:Str->Option Value) (a:eI):Prop where
 qP:cQ K "is_thing" "is_thing" KO a.yZ a.y_
 MA:Binds K a.y_ ["value"] []
 MB:mg "is_thing"=some (.ref a.yZ)
 oY:cQ K "names_in" "names_in" KP a.za a.zb
 Gn:Binds K a.zb ["some"] []
 Gp:mg "names_in"=some (.ref a.za)
 BJ:cQ K "__init__" "Thing.__init__" KQ a.uu a.zc
 MC:Binds K a.zc ["self","sort","some"] []
 MD:Mk K a.cy a.uu
 uy:cQ K "sort_of" "Thing.sort_of" KR a.qM a.zd
 uz:Binds K a.zd ["self"] []
 ME:Meth K a.cy "sort_of" a.qM
 uA:cQ K "fields" "Thing.fields" KS a.qN a.ze
 gU:Binds K a.ze ["self"] []
 qQ:Meth K a.cy "fields" a.qN
 BK:cQ K "words" "Thing.words" KU a.uv a.zf
 Rk:Binds K a.zf ["self"] []
 Wc:Meth K a.cy "words" a.uv
 Gq:cQ K "__init__" "PlainThing.__init__" KW a.zg a.zh
 MF:Binds K a.zh ["self","some","last_words"] []
 iA:Mk K a.aM a.zg
 Gr:cQ K "words" "PlainThing.words" KY a.zi a.zj
 Rl:Binds K a.zj ["self"] []
 MG:Meth K a.aM "words" a.zi
 Gs:cQ K "with_field" "PlainThing.with_field" KZ a.zk a.zl
 ZS:Binds K a.zl ["self","at","value"] []
 We:Meth K a.aM "with_field" a.zk
 Gu:cQ K "with_words" "PlainThing.with_words" K0 a.zm a.zo
 ZT:Binds K a.zo ["self","words"] []
 Wf:Meth K a.aM "with_words" a.zm
 P1:cQ K "__init__" "PairThing.__init__" Vd a.Mo a.Mp
 aek:Binds K a.Mp ["self","key","value"] []
 we:Mk K a.bc a.Mo
 BL:cQ K "plain" "plain" K1 a.zp a.zq
 ZU:Binds K a.zq ["fields","words"] []
 ZV:mg "plain"=some (.ref a.zp)
 uB:cQ K "weak" "weak" K2 a.zr a.zt
 Rm:Binds K a.zt ["field"] []
 Rn:mg "weak"=some (.ref a.zr)
 uC:cQ K "pair" "pair" K3 a.zu a.zx
 Ro:Binds K a.zx ["key","value"] []
 Rp:mg "pair"=some (.ref a.zu)
 BN:cQ K "open_things" "open_things" K4 a.zy a.zz
 ZW:Binds K a.zz ["heap"] []
 ZX:mg "open_things"=some (.ref a.zy)
 qR:cQ K "members_of" "members_of" K5 a.zA a.zB
 MH:Binds K a.zB ["some"] []
 MI:mg "members_of"=some (.ref a.zA)
 BO:cQ K "held_by" "held_by" K6 a.zC a.zD
 ZY:Binds K a.zD ["thing"] []
 ZZ:mg "held_by"=some (.ref a.zC)
 BP:cQ K "pair_key" "pair_key" K7 a.zE a.zF
 Z0:Binds K a.zF ["thing"] []
 Z1:mg "pair_key"=some (.ref a.zE)
 BQ:cQ K "pair_value" "pair_value" K8 a.zG a.zH
 Z2:Binds K a.zH ["thing"] []
 Z3:mg "pair_value"=some (.ref a.zG)
 Gv:cQ K "__init__" "Reasons.__init__" K9 a.zI a.zJ
 Z4:Binds K a.zJ ["self","things","some"] []
 D5:Mk K a.aZ a.zI
 Gw:cQ K "bring" "Reasons.bring" K_ a.zK a.zL
 Rq:Binds K a.zL ["self","names","how","other"] []
 MJ:Meth K a.aZ "bring" a.zK
 Gx:cQ K "bring_value" "Reasons.bring_value" La a.zM a.zN
 Rr:Binds K a.zN ["self","serial"] []
 MK:Meth K a.aZ "bring_value" a.zM
 Gy:cQ K "go_on_from" "Reasons.go_on_from" Lb a.zO a.zP
 Z5:Binds K a.zP ["self","serial"] []
 Wg:Meth K a.aZ "go_on_from" a.zO
 Gz:cQ K "grown" "Reasons.grown" Lc a.zQ a.zR
 Z6:Binds K a.zR ["self"] []
 Wh:Meth K a.aZ "grown" a.zQ
 BR:cQ K "why_kept" "why_kept" Ld a.zS a.zT
 Z7:Binds K a.zT ["things","some"] []
 Z8:mg "why_kept"=some (.ref a.zS)
 uD:cQ K "least_closed" "least_closed" Lf a.zU a.zV
 Rt:Binds K a.zV ["things","some"] []
 Ru:mg "least_closed"=some (.ref a.zU)
 uE:cQ K "blind_of_sort" "blind_of_sort" Lg a.zW a.zX
 Rv:Binds K a.zX ["things","some","sort"] []
 Rx:mg "blind_of_sort"=some (.ref a.zW)
 uF:cQ K "blind_weak" "blind_weak" Lh a.zY a.zZ
 Ry:Binds K a.zZ ["things","some"] []
 Rz:mg "blind_weak"=some (.ref a.zY)
 uG:cQ K "blind_pairs" "blind_pairs" Li a.z_ a.Aa
 RB:Binds K a.Aa ["things","some"] []
 RC:mg "blind_pairs"=some (.ref a.z_)
 BS:cQ K "due_beside" "due_beside" Lj a.Ab a.Ac
 Z9:Binds K a.Ac ["things","kept"] []
 Z_:mg "due_beside"=some (.ref a.Ab)
 BU:cQ K "emptied" "emptied" Lk a.Ad a.Ae
 aaa:Binds K a.Ae ["things","serials"] []
 aab:mg "emptied"=some (.ref a.Ad)
 BV:cQ K "whole_turn" "whole_turn" Ll a.Af a.Ag
 aac:Binds K a.Ag ["heap"] []
 aad:mg "whole_turn"=some (.ref a.Af)
 GA:cQ K "refuse" "refuse" Rh a.Ah a.Ai
 aae:Binds K a.Ai ["word"] []
 aaf:mg "refuse"=some (.ref a.Ah)
 BW:cQ K "has_sort" "has_sort" Lm a.Aj a.Ak
 aag:Binds K a.Ak ["heap","letter","sort"] []
 aah:mg "has_sort"=some (.ref a.Aj)
 BX:cQ K "lacks_thing" "lacks_thing" Ln a.Al a.Am
 aai:Binds K a.Am ["heap","deed"] []
 aaj:mg "lacks_thing"=some (.ref a.Al)
 BY:cQ K "lacks_field" "lacks_field" Lo a.An a.Ao
 aak:Binds K a.Ao ["heap","deed"] []
 aal:mg "lacks_field"=some (.ref a.An)
 BZ:cQ K "new_thing" "new_thing" Lp a.Ap a.Aq
 aam:Binds K a.Aq ["heap","deed"] []
 aan:mg "new_thing"=some (.ref a.Ap)
 uH:cQ K "do_num" "do_num" Lq a.oJ a.Ar
 aao:Binds K a.Ar ["heap","deed"] []
 afi:mg "do_num"=some (.ref a.oJ)
 oZ:cQ K "do_new" "do_new" Lr a.jr a.As
 aap:Binds K a.As ["heap","deed"] []
 afj:mg "do_new"=some (.ref a.jr)
 uI:cQ K "do_words" "do_words" Ls a.oK a.Au
 aaq:Binds K a.Au ["heap","deed"] []
 afk:mg "do_words"=some (.ref a.oK)
 uJ:cQ K "do_put" "do_put" Lu a.oM a.Av
 aar:Binds K a.Av ["heap","deed"] []
 afl:mg "do_put"=some (.ref a.oM)
 uK:cQ K "do_get" "do_get" Lv a.oO a.Aw
 aas:Binds K a.Aw ["heap","deed"] []
 afm:mg "do_get"=some (.ref a.oO)
 uL:cQ K "do_look" "do_look" Lw a.oP a.Ax
 aat:Binds K a.Ax ["heap","deed"] []
 afn:mg "do_look"=some (.ref a.oP)
 uM:cQ K "do_find" "do_find" Lx a.oQ a.Ay
 aau:Binds K a.Ay ["heap","deed"] []
 afo:mg "do_find"=some (.ref a.oQ)
 uN:cQ K "do_copy" "do_copy" Ly a.oR a.Az
 aav:Binds K a.Az ["heap","deed"] []
 afp:mg "do_copy"=some (.ref a.oR)
 uO:cQ K "do_drop" "do_drop" Lz a.oS a.AA
 aaw:Binds K a.AA ["heap","deed"] []
 afq:mg "do_drop"=some (.ref a.oS)
 uP:cQ K "do_tell" "do_tell" LB a.oU a.AB
 aax:Binds K a.AB ["heap","deed"] []
 afr:mg "do_tell"=some (.ref a.oU)
 uQ:cQ K "do_same" "do_same" LC a.oW a.AD
 aay:Binds K a.AD ["heap","deed"] []
 afs:mg "do_same"=some (.ref a.oW)
 uR:cQ K "do_hear" "do_hear" LD a.oX a.AE
 aaz:Binds K a.AE ["heap","deed"] []
 aft:mg "do_hear"=some (.ref a.oX)
 ML:cQ K "__init__" "DeedHeap.__init__" Ve a.HV a.Mq
 ael:Binds K a.Mq ["self"] []
 RD:Mk K a.cA a.HV
 MM:cQ K "root" "DeedHeap.root" Vf a.HW a.Mr
 qS:Binds K a.Mr ["self","letter"] []
 afu:Meth K a.cA "root" a.HW
 MN:cQ K "set_root" "DeedHeap.set_root" Vg a.HX a.Ms
 B0:Binds K a.Ms ["self","letter","value"] []
 afv:Meth K a.cA "set_root" a.HX
 MO:cQ K "name_in" "DeedHeap.name_in" Vh a.HY a.Mt
 P2:Binds K a.Mt ["self","letter"] []
 afw:Meth K a.cA "name_in" a.HY
 MP:cQ K "thing_in" "DeedHeap.thing_in" Vi a.HZ a.Mv
 P4:Binds K a.Mv ["self","letter"] []
 afx:Meth K a.cA "thing_in" a.HZ
 MQ:cQ K "looked_at" "DeedHeap.looked_at" Vj a.H_ a.Mw
 aem:Binds K a.Mw ["self","name"] []
 afy:Meth K a.cA "looked_at" a.H_
 MR:cQ K "hear_first" "DeedHeap.hear_first" Vk a.Ia a.Mx
 aen:Binds K a.Mx ["self"] []
 afz:Meth K a.cA "hear_first" a.Ia
 MS:cQ K "refusal" "DeedHeap.refusal" Vm a.Ib a.My
 aeo:Binds K a.My ["self","deed"] []
 afA:Meth K a.cA "refusal" a.Ib
 MT:cQ K "done" "DeedHeap.done" Vn a.Ic a.Mz
 aep:Binds K a.Mz ["self","deed"] []
 afB:Meth K a.cA "done" a.Ic
 GB:cQ K "__init__" "PlainHeap.__init__" LF a.AF a.AG
 aaA:Binds K a.AG ["self"] []
 wg:Mk K a.aQ a.AF
 GC:cQ K "do" "PlainHeap.do" LG a.AH a.AI
 aaB:Binds K a.AI ["self","deed"] []
 Wi:Meth K a.aQ "do" a.AH
 GD:cQ K "thing_of" "PlainHeap.thing_of" LH a.AJ a.AK
 RE:Binds K a.AK ["self","name"] []
 MU:Meth K a.aQ "thing_of" a.AJ
 GF:cQ K "take_in" "PlainHeap.take_in" LI a.AL a.AM
 aaC:Binds K a.AM ["self","thing"] []
 Wj:Meth K a.aQ "take_in" a.AL
 GG:cQ K "change_field" "PlainHeap.change_field" LJ a.AN a.AO
 aaD:Binds K a.AO ["self","name","at","value"] []
 Wk:Meth K a.aQ "change_field" a.AN
 GH:cQ K "change_words" "PlainHeap.change_words" LK a.AQ a.AR
 RF:Binds K a.AR ["self","name","words"] []
 MV:Meth K a.aQ "change_words" a.AQ
 GI:cQ K "clear" "PlainHeap.clear" LL a.AS a.AU
 aaE:Binds K a.AU ["self","serial"] []
 Wl:Meth K a.aQ "clear" a.AS
 GJ:cQ K "drop_pair" "PlainHeap.drop_pair" LM a.AV a.AW
 aaF:Binds K a.AW ["self","serial"] []
 Wm:Meth K a.aQ "drop_pair" a.AV
 GK:cQ K "make_due" "PlainHeap.make_due" LN a.AX a.AY
 aaG:Binds K a.AY ["self","serial"] []
 Wn:Meth K a.aQ "make_due" a.AX
 GL:cQ K "roots" "PlainHeap.roots" LO a.AZ a.A0
 MW:Binds K a.A0 ["self"] []
 D6:Meth K a.aQ "roots" a.AZ
 GN:cQ K "heard_row" "PlainHeap.heard_row" LP a.A1 a.A2
 MX:Binds K a.A2 ["self"] []
 D7:Meth K a.aQ "heard_row" a.A1
 GO:cQ K "things" "PlainHeap.things" LQ a.A3 a.A4
 GP:Binds K a.A4 ["self"] []
 wj:Meth K a.aQ "things" a.A3
 GQ:cQ K "last" "PlainHeap.last" LR a.A5 a.A6
 aaH:Binds K a.A6 ["self"] []
 Wo:Meth K a.aQ "last" a.A5
 B1:cQ K "_law_cell_at" "_law_cell_at" LS a.A7 a.A8
 aaI:Binds K a.A8 ["_law_script","_law_k"] []
 aaJ:mg "_law_cell_at"=some (.ref a.A7)
 B2:cQ K "_law_number_by" "_law_number_by" LU a.A9 a.A_
 aaK:Binds K a.A_ ["_law_cell","_law_mode"] []
 aaL:mg "_law_number_by"=some (.ref a.A9)
 B3:cQ K "_law_deed_by" "_law_deed_by" LV a.Ba a.Bb
 aaM:Binds K a.Bb ["_law_cell","_law_mode"] []
 aaN:mg "_law_deed_by"=some (.ref a.Ba)
 fY:cQ K "_law_value" "_law_value" LW a.Bc a.Bd
 ig:Binds K a.Bd ["_law_state","_law_root"] []
 ij:mg "_law_value"=some (.ref a.Bc)
 B4:cQ K "_law_thing" "_law_thing" LX a.Be a.Bf
 aaO:Binds K a.Bf ["_law_state","_law_root","_law_sort"] []
 aaP:mg "_law_thing"=some (.ref a.Be)
 o_:cQ K "_law_give" "_law_give" LY a.Bg a.Bh
 GR:Binds K a.Bh ["_law_state","_law_root","_law_value_here"] []
 GS:mg "_law_give"=some (.ref a.Bg)
 B5:cQ K "_law_wants" "_law_wants" LZ a.Bi a.Bj
 aaQ:Binds K a.Bj ["_law_deed"] []
 aaR:mg "_law_wants"=some (.ref a.Bi)
 uS:cQ K "_law_refusal" "_law_refusal" L0 a.Bk a.Bl
 RG:Binds K a.Bl ["_law_state","_law_deed"] []
 RH:mg "_law_refusal"=some (.ref a.Bk)
 B6:cQ K "_law_made" "_law_made" L1 a.Bm a.Bo
 aaS:Binds K a.Bo ["_law_state","_law_deed"] []
 aaT:mg "_law_made"=some (.ref a.Bm)
 B7:cQ K "_law_brought" "_law_brought" L3 a.Bp a.Bq
 aaU:Binds K a.Bq ["_law_state","_law_deed"] []
 aaV:mg "_law_brought"=some (.ref a.Bp)
 B8:cQ K "_law_answer" "_law_answer" L4 a.Br a.Bs
 aaW:Binds K a.Bs ["_law_state","_law_deed"] []
 aaX:mg "_law_answer"=some (.ref a.Br)
 B9:cQ K "_law_done" "_law_done" L5 a.Bt a.Bu
 aaY:Binds K a.Bu ["_law_state","_law_deed"] []
 aaZ:mg "_law_done"=some (.ref a.Bt)
 mx:cQ K "_law_event" "_law_event" L6 a.Bv a.Bw
 B_:Binds K a.Bw ["_law_state","_law_word","_law_serial"] []
 Ca:mg "_law_event"=some (.ref a.Bv)
 Cc:cQ K "_law_open" "_law_open" L7 a.Bx a.By
 aba:Binds K a.By ["_law_state"] []
 abb:mg "_law_open"=some (.ref a.Bx)
 uT:cQ K "_law_closing" "_law_closing" L8 a.Bz a.BA
 RI:Binds K a.BA ["_law_things","_law_some"] []
 RJ:mg "_law_closing"=some (.ref a.Bz)
 pb:cQ K "_law_blind" "_law_blind" L9 a.BB a.BC
 GU:Binds K a.BC ["_law_things","_law_some","_law_sort"] []
 GV:mg "_law_blind"=some (.ref a.BB)
 Cd:cQ K "_law_turn" "_law_turn" L_ a.BD a.BE
 abd:Binds K a.BE ["_law_state","_law_away"] []
 abe:mg "_law_turn"=some (.ref a.BD)
 uU:cQ K "_law_alike" "_law_alike" yY a.qO a.uw
 RK:Binds K a.uw ["_law_found","_law_due"] []
 RL:mg "_law_alike"=some (.ref a.qO)
 Ce:cQ K "_law_events" "_law_events" Ma a.BF a.BG
 abf:Binds K a.BG ["_law_heap","_law_found"] []
 abg:mg "_law_events"=some (.ref a.BF)
 uV:cQ K "_law_at_turn" "_law_at_turn" Mb a.BH a.BI
 RN:Binds K a.BI ["_law_heap","_law_state"] []
 RO:mg "_law_at_turn"=some (.ref a.BH)
 qT:cQ K "law" "law" mw a.ux a.Ri
 afC:mg "law"=some (.ref a.ux)
 fZ:Meth K a.aM "sort_of" a.qM
 cK:Meth K a.aM "fields" a.qN
 gu:Meth K a.bc "sort_of" a.qM
 cT:Meth K a.bc "fields" a.qN
 lq:Meth K a.bc "words" a.uv
 bq:Meth K a.aQ "root" a.HW
 bt:Meth K a.aQ "set_root" a.HX
 dq:Meth K a.aQ "name_in" a.HY
 dh:Meth K a.aQ "thing_in" a.HZ
 jg:Meth K a.aQ "looked_at" a.H_
 iM:Meth K a.aQ "hear_first" a.Ia
 jS:Meth K a.aQ "refusal" a.Ib
 my:Meth K a.aQ "done" a.Ic
 kP:JU K a.cy "__init__" a.uu
 nO:JU K a.cA "__init__" a.HV
 eQ:sQ K a.cy
 qU:mg "Thing"=some (.ref a.cy)
 eT:cJ K a.cy "called"
 fQ:cJ K a.cy "parts"
 aW:sQ K a.aM
 iB:mg "PlainThing"=some (.ref a.aM)
 du:cJ K a.aM "called"
 bS:cJ K a.aM "parts"
 bW:cJ K a.aM "last_words"
 cI:sQ K a.bc
 wm:mg "PairThing"=some (.ref a.bc)
 dy:cJ K a.bc "called"
 dD:cJ K a.bc "parts"
 bD:sQ K a.aZ
 D8:mg "Reasons"=some (.ref a.aZ)
 cL:cJ K a.aZ "by_serial"
 cN:cJ K a.aZ "rows"
 cZ:cJ K a.aZ "members"
 c_:cJ K a.aZ "waiting"
 RP:sQ K a.cA
 Cf:mg "DeedHeap"=some (.ref a.cA)
 aj:sQ K a.aQ
 wo:mg "PlainHeap"=some (.ref a.aQ)
 bH:cJ K a.aQ "root_values"
 cB:cJ K a.aQ "heard"
 aP:cJ K a.aQ "made"
 bf:mg "NOTHING"=some (.ref a.aV)
 Yn:∃o,K.lookup a.aV=some o/\o.cls=.type "tuple"/\o.dict=none
 dI:∀H:Hp,bX K H a.aV [.str "nothing"]
 qV:mg "NO_THING"=some (.str "no thing" a.je)
 qW:mg "NO_FIELD"=some (.str "no field" a.jf)
 GW:mg "WANTS"=some (.ref a.ic)
 MY:nJ K a.ic [("weak",a.fg),("pair",a.fk),("words",a.fq),("put",a.fu),("get",a.fA),("look",a.fC),("find",a.fF)]
 D9:∀H:Hp,bX K H a.fg [.ref a.fj]
 wq:∀H:Hp,bX K H a.fj [.int 2,.str "any"]
 D_:∀H:Hp,bX K H a.fk [.ref a.fo]
 wu:∀H:Hp,bX K H a.fo [.int 2,.str "any"]
 Ea:∀H:Hp,bX K H a.fq [.ref a.ft]
 wx:∀H:Hp,bX K H a.ft [.int 1,.str "plain"]
 Eb:∀H:Hp,bX K H a.fu [.ref a.fz]
 wy:∀H:Hp,bX K H a.fz [.int 1,.str "plain"]
 Ec:∀H:Hp,bX K H a.fA [.ref a.fB]
 wA:∀H:Hp,bX K H a.fB [.int 2,.str "plain"]
 Ed:∀H:Hp,bX K H a.fC [.ref a.fE]
 wB:∀H:Hp,bX K H a.fE [.int 2,.str "weak"]
 Ee:∀H:Hp,bX K H a.fF [.ref a.dW,.ref a.dX]
 wC:∀H:Hp,bX K H a.dW [.int 2,.str "pair"]
 wF:∀H:Hp,bX K H a.dX [.int 3,.str "any"]
 sV:mg "WANTS_FIELD"=some (.ref a.cX)
 qX:nJ K a.cX [("put",a.cw),("get",a.cx)]
 nP:∀H:Hp,bX K H a.cw [.int 1,.int 2]
 nQ:∀H:Hp,bX K H a.cx [.int 2,.int 3]
 GX:mg "DOERS"=some (.ref a.ie)
 MZ:nJ K a.ie [("num",a.oJ),("make",a.jr),("weak",a.jr),("pair",a.jr),("words",a.oK),("put",a.oM),("get",a.oO),("look",a.oP),("find",a.oQ),("copy",a.oR),("drop",a.oS),("tell",a.oU),("same",a.oW),("hear",a.oX)]
 GY:mg "abs"=none
 GZ:mg "any"=none
 wG:mg "bool"=none
 lu:mg "dict"=none
 uW:mg "int"=none
 bE:mg "isinstance"=none
 f_:mg "len"=none
 iC:mg "list"=none
 qb:mg "range"=none
 M0:mg "set"=none
 fR:mg "sorted"=none
 mz:mg "str"=none
 qc:mg "tuple"=none
section
variable {P:Program}{w:World}{K:Frag}{mg:Str->Option Value}{base:Heap}{a:eI}
noncomputable def Ie (d:Addr) (H H':Hp):Prop:=∀b o,b≠d->H b=some o->H' b=some o
noncomputable def Kp (S:Addr->Prop) (H H':Hp):Prop:=∀b o,¬S b->H b=some o->H' b=some o
theorem Kp.refl (S:Addr->Prop) (H:Hp):Kp S H H:=λ_ _ _ h=>h
theorem Kp.trans {S:Addr->Prop}{H H1 H2:Hp}(k:Kp S H H1) (k2:Kp S H1 H2):Kp S H H2:=λb o n h=>k2 b o n (k b o n h)
theorem Kp.mono {S S':Addr->Prop}{H H':Hp}(k:Kp S H H') (i:∀b,S b->S' b):Kp S' H H':=λb o n h=>k b o (λz=>n (i b z)) h
theorem ak.kp {S:Addr->Prop}{H H':Hp}(k:ak H H'):Kp S H H':=λb o _ h=>k b o h
theorem Kp.put {S:Addr->Prop}{H H':Hp}{l:Addr}{o:HO}(k:Kp S H H') (h:H' l=none):Kp S H (upd H' l o):=k.trans (ak.kp (ak.put h))
theorem Kp.set {S:Addr->Prop}{H H':Hp}{l:Addr}{o:HO}(k:Kp S H H') (h:S l):Kp S H (upd H' l o):=λb u n e=>by
 rw [au (λz=>n (by rw [z]; exact h))];exact k b u n e
noncomputable def Mu (H:Hp) (b:Addr):Prop:=(∃xs,H b=some (.lst xs))\/∃kvs,H b=some (.dK kvs)
theorem Mu.T9 {H:Hp}{b:Addr}(m:Mu H b) {xs:List V}(h:Rd H b (.tup xs)):False:=by
 rcases m with ⟨ys,m⟩ | ⟨ys,m⟩ <;> rcases h with h | ⟨o,h⟩ <;> (rw [m] at h; cases h)
theorem Kp.cg {K:Frag}{S:Addr->Prop}{H H':Hp}(k:Kp S H H') (mu:∀b,S b->Mu H b) {a:Addr}{xs:List V}(h:bX K H a xs):bX K H' a xs:=by
 rcases h with h | h
 ·have n:¬S a:=λz=>(mu a z).T9 h
  rcases h with h | ⟨o,h⟩
  ·exact .inl (.inl (k _ _ n h))
  ·exact .inl (.inr ⟨o,k _ _ n h⟩)
 ·exact .inr h
theorem ba.ins {K:Frag}{H:Hp}{l p C dx:Addr}{xs:List V}{fs:List (Str×V)}{o:HO}(h:ba K H l xs) (hp:H p=some (.ins C dx fs)):ba K (upd H p o) l xs:=by
 rcases h with (h | ⟨u,h⟩) | h
 ·exact .inl (.inl (by rw [au (oH h hp (by intro z; cases z))]; exact h))
 ·exact .inl (.inr ⟨u,by rw [au (oH h hp (by intro z; cases z))]; exact h⟩)
 ·exact .inr h
inductive Vl where
 | no | num (n:Int) | th (n:Int)
noncomputable def Vl.items:Vl->List V
 | .no=>[.str "nothing"]
 | .num n=>[.str "number",.int n]
 | .th n=>[.str "thing",.int n]
noncomputable def Vl.word:Vl->Str
 | .no=>"nothing"
 | .num _=>"number"
 | .th _=>"thing"
noncomputable def Vl.wH:Vl->Bool
 | .th _=>true
 | _=>false
noncomputable def Vl.nm:Vl->Option V
 | .th n=>some (.int n)
 | _=>none
theorem Vl.hd (v:Vl):ql v.items 0=some (.str v.word):=by cases v <;> rfl
theorem Vl.is:∀v:Vl,decide (v.word=("thing":Str))=v.wH
 | .no=>(by decide +kernel:decide (("nothing":Str)="thing")=false)
 | .num _=>(by decide +kernel:decide (("number":Str)="thing")=false)
 | .th _=>(by decide +kernel:decide (("thing":Str)="thing")=true)
theorem Vl.aeq (v:Vl):v.nm.isSome=v.wH:=by cases v <;> rfl
noncomputable def dJ (K:Frag) (H:Hp) (x:V) (v:Vl):Prop:=∃t,x=.ref t/\bX K H t v.items
theorem dJ.same {K:Frag}{H H':Hp}{x:V}{v:Vl}(h:dJ K H x v) (k:ak H H'):dJ K H' x v:=by
 obtain⟨t,e,h⟩:=h;exact⟨t,e,k.cg h⟩
theorem dJ.kp {K:Frag}{S:Addr->Prop}{H H':Hp}{x:V}{v:Vl}(h:dJ K H x v) (k:Kp S H H') (mu:∀b,S b->Mu H b):dJ K H' x v:=by
 obtain⟨t,e,h⟩:=h;exact⟨t,e,k.cg mu h⟩
inductive M3 (K:Frag) (vs:List V) (H:Hp) (Q:VK) (E:XK):Prop
 | mk (x v:_) (_:vs=[x]) (_:dJ K H x v) (_:Q (.bl v.wH) H):M3 K vs H Q E
theorem Ef (T:Txt K mg a):aU P w K mg base cU 1 a.yZ a.y_ ["value"] (M3 K):=by
 refine T.qP.ok Vo (λvs H Q E h=>?_) (λbY A outer s H vs Q E hr h=>?_)
 ·obtain⟨_,_,rfl,_⟩:=h;rfl
 ·obtain⟨x,v,rfl,⟨t,rfl,hv⟩,q⟩:=h;refine⟨_,(ah (aB (fL cj (av aq (pv 0) ai (λ_ _=>rfl)) az (aH _)))),?_⟩;dsimp! [];refine⟨t,_,_,_,rfl,rfl,hv,v.hd,?_⟩;dsimp! [];rw [v.is];exact q
inductive M4 (K:Frag) (vs:List V) (H:Hp) (Q:VK) (E:XK):Prop
 | mk (l:Addr) (xs:List V) (vl:List Vl) (_:vs=[.ref l]) (_:ba K H l xs) (_:xs.length<=1000) (_:vl.length=xs.length) (_:∀(i:Nat) x v,xs[i]?=some x->vl[i]?=some v->dJ K H x v) (_:∀r,H r=none->Q (.ref r) (upd H r (.lst (vl.filterMap Vl.nm)))):M4 K vs H Q E
theorem wI (T:Txt K mg a):aU P w K mg base cU 3 a.za a.zb ["some"] (M4 K):=by
 refine T.oY.ok Vp (λvs H Q E h=>?_) (λbY A outer s H vs Q E hr h=>?_)
 ·obtain⟨_,_,_,rfl,_⟩:=h;rfl
 ·obtain⟨l,xs,vl,rfl,hl,hz,hlen,hv,q⟩:=h;refine⟨_,(ah (aB (oI rfl (vL (x:="value") (ns:=[]) (fr:=[]) rfl (by decide +kernel) rfl (by decide +kernel) rfl (forall_mem_nil _) rfl rfl (forall_mem_nil _) (by decide +kernel)) (bQ (pv 0)) (λ_ _ _ _=>(av (mj (K:=K) rfl) (pv 0) ai (λ_ _=>rfl))) (λ_ _ _ _=>(.one (fJ (aD (Ef T) hr.dm rfl T.MB T.qP.kp T.MA .nil aw (aa (pv 0) af)))))))),?_⟩;dsimp! [];refine⟨⟨_,hl⟩,λD hD=>qu xs vl Vl.nm hz hlen (λys=>(ak.put hD).seq hl) ?_ ?_ (q D hD)⟩
  ·intro i x v ys R hx hb r;rw [v.aeq] at r;have:=(hv i x v hx hb).same (ak.put (o:=.lst ys) hD);dsimp! [bA];exact⟨_,v,rfl,this,_,rfl,r⟩
  ·intro i x v y ys R hx hb hy r;obtain⟨t,rfl,ht⟩:=(hv i x v hx hb).same (ak.put (o:=.lst ys) hD)
   cases v with
   | no=>cases hy
   | num n=>cases hy
   | th n=>
    cases hy;dsimp! [bA];exact⟨t,_,_,_,rfl,rfl,ht,rfl,r⟩
inductive Tg where
 | plain (fs:List Vl) (w:Option Int) | weak (f:Vl) | pair (k v:Vl)
noncomputable def Tg.fs:Tg->List Vl
 | .plain fs _=>fs
 | .weak f=>[f]
 | .pair k v=>[k,v]
noncomputable def Tg.sort:Tg->Str
 | .plain _ _=>"plain"
 | .weak _=>"weak"
 | .pair _ _=>"pair"
noncomputable def Tg.words:Tg->Option Int
 | .plain _ w=>w
 | _=>none
noncomputable def wV:Option Int->V
 | none=>.bN
 | some n=>.int n
noncomputable def ik (K:Frag) (H:Hp) (xs:List V) (vl:List Vl):Prop:=vl.length=xs.length/\∀(i:Nat) x v,xs[i]?=some x->vl[i]?=some v->dJ K H x v
theorem ik.same {K:Frag}{H H':Hp}{xs:List V}{vl:List Vl}(h:ik K H xs vl) (k:ak H H'):ik K H' xs vl:=⟨h.1,λi x v a b=>(h.2 i x v a b).same k⟩
theorem ik.kp {K:Frag}{S:Addr->Prop}{H H':Hp}{xs:List V}{vl:List Vl}(h:ik K H xs vl) (k:Kp S H H') (mu:∀b,S b->Mu H b):ik K H' xs vl:=⟨h.1,λi x v a b=>(h.2 i x v a b).kp k mu⟩
theorem ik.nil (K:Frag) (H:Hp):ik K H [] []:=⟨rfl,λi x v a _=>by simp at a⟩
theorem ik.cons {K:Frag}{H:Hp}{x:V}{v:Vl}{xs:List V}{vl:List Vl}(h:dJ K H x v) (t:ik K H xs vl):ik K H (x::xs) (v::vl):=⟨by simp [t.1],λi y u a b=>by
 cases i with
 | zero=>
  simp at a b;subst a b;exact h
 | succ i=>exact t.2 i y u (by simpa using a) (by simpa using b)⟩
noncomputable def RQ (s:Str) (d:Addr):List (Str×V):=b_ "parts" (.ref d) (b_ "called" (.str s) [])
noncomputable def RR (d:Addr) (w:Option Int):List (Str×V):=b_ "last_words" (wV w) (RQ "plain" d)
theorem aer:¬(("called":Str)="parts"):=by decide +kernel
theorem aes:¬(("called":Str)="last_words"):=by decide +kernel
theorem aet:¬(("parts":Str)="last_words"):=by decide +kernel
noncomputable def Tg.cls (a:eI):Tg->Addr
 | .plain _ _=>a.aM
 | .weak _=>a.cy
 | .pair _ _=>a.bc
noncomputable def Tg.fl (d:Addr):Tg->List (Str×V)
 | .plain _ w=>RR d w
 | .weak _=>RQ "weak" d
 | .pair _ _=>RQ "pair" d
theorem Tg.called (t:Tg) (d:Addr):(t.fl d).lookup ("called":Str)=some (.str t.sort):=by
 cases t <;> simp only [Tg.fl,RR,RQ,aO,if_neg aes,if_neg aer,if_true,Tg.sort]
theorem Tg.parts (t:Tg) (d:Addr):(t.fl d).lookup ("parts":Str)=some (.ref d):=by
 cases t <;> simp only [Tg.fl,RR,RQ,aO,if_neg aet,if_true]
theorem Tg.no (t:Tg) (d:Addr) {n:Str}(h1:¬n="called":=by decide +kernel) (h2:¬n="parts":=by decide +kernel) (h3:¬n="last_words":=by decide +kernel):(t.fl d).lookup n=none:=by
 cases t <;> simp only [Tg.fl,RR,RQ,aO,if_neg h1,if_neg h2,if_neg h3] <;> rfl
theorem M5 (d:Addr) (w:Option Int):(RR d w).lookup ("last_words":Str)=some (wV w):=by
 unfold RR;rw [aO,if_pos rfl]
structure gA (a:eI) (K:Frag) (H:Hp) (p d:Addr) (t:Tg):Prop where
 ob:∃dx,H p=some (.ins (t.cls a) dx (t.fl d))
 li:∃xs,H d=some (.lst xs)/\ik K H xs t.fs/\xs.length<=1000
theorem gA.same {a:eI}{K:Frag}{H H':Hp}{p d:Addr}{t:Tg}(h:gA a K H p d t) (k:ak H H'):gA a K H' p d t:=by
 obtain⟨⟨dx,h1⟩,xs,h2,h3,h4⟩:=h;exact⟨⟨dx,k _ _ h1⟩,xs,k _ _ h2,h3.same k,h4⟩
theorem gA.kp {a:eI}{K:Frag}{S:Addr->Prop}{H H':Hp}{p d:Addr}{t:Tg}(h:gA a K H p d t) (k:Kp S H H') (mu:∀b,S b->Mu H b) (hd:¬S d):gA a K H' p d t:=by
 obtain⟨⟨dx,h1⟩,xs,h2,h3,h4⟩:=h;refine⟨⟨dx,k _ _ (λz=>?_) h1⟩,xs,k _ _ hd h2,h3.kp k mu,h4⟩;rcases mu _ z with ⟨ys,m⟩ | ⟨ys,m⟩ <;> (rw [m] at h1; cases h1)
theorem Tg.na (T:Txt K mg a) (t:Tg):sQ K (t.cls a)/\cJ K (t.cls a) "called"/\cJ K (t.cls a) "parts":=by
 cases t
 ·exact⟨T.aW,T.du,T.bS⟩
 ·exact⟨T.eQ,T.eT,T.fQ⟩
 ·exact⟨T.cI,T.dy,T.dD⟩
theorem Tg.mem (t:Tg) (s:Sp):(t.cls a,s)∈[(a.cy,s),(a.aM,s),(a.bc,s)]:=by
 cases t
 ·exact .tail _ (.head _)
 ·exact .head _
 ·exact .tail _ (.tail _ (.head _))
inductive M6 (K:Frag) (vs:List V) (H:Hp) (Q:VK) (E:XK):Prop
 | mk (p C dx s l xs:_) (_:vs=[.ref p,.str s,.ref l]) (_:sQ K C) (_:cJ K C "called") (_:cJ K C "parts") (_:H p=some (.ins C dx [])) (_:ba K H l xs) (_:∀d H',Ie p H H'->H d=none->H' p=some (.ins C dx (RQ s d))->H' d=some (.lst xs)->Q .bN H'):M6 K vs H Q E
theorem Eg (T:Txt K mg a):aU P w K mg base cU 1 a.uu a.zc ["self","sort","some"] (M6 K):=by
 refine T.BJ.ok Vq (λvs H Q E h=>?_) (λbY A outer s H vs Q E hr h=>?_)
 ·obtain⟨_,_,_,_,_,_,rfl,_⟩:=h;rfl
 ·obtain⟨p,C,dx,s,l,xs,rfl,hC,RT,hN2,h1,hl,q⟩:=h;refine⟨_,(ag (iu (pv 0) (pv 1) rfl) (ah (iu (pv 0) (cv gL rfl T.iC ib (aa (pv 2) af)) rfl))),?_⟩;dsimp! [h1,HO.ins.injEq,hC,RT,hN2];refine⟨by decide,xs,.inl (ba.ins hl h1),λd hd=>?_⟩;have npd:p≠d:=aC ae hd;refine⟨C,dx,b_ "called" (.str s) [],by rw [au npd]; exact ae,hC,hN2,Nat.lt_of_le_of_lt (bT _ _ _) (by decide),q d _ ?_ ?_ ae ?_⟩
  ·intro b o hb e;rw [au hb,au (aC (by rw [au hb]; exact e) hd),au hb];exact e
  ·rw [au npd.symm] at hd;exact hd
  ·rw [au npd.symm];exact ae
inductive jT (a:eI) (K:Frag) (vs:List V) (H:Hp) (Q:VK) (E:XK):Prop
 | mk (p d t:_) (_:vs=[.ref p]) (_:gA a K H p d t) (_:Q (.str t.sort) H):jT a K vs H Q E
theorem nR (T:Txt K mg a):aU P w K mg base cU 1 a.qM a.zd ["self"] (jT a K):=by
 refine T.uy.ok Vr (λvs H Q E h=>?_) (λbY A outer s H vs Q E hr h=>?_)
 ·obtain⟨_,_,_,rfl,_⟩:=h;rfl
 ·obtain⟨p,d,t,rfl,⟨⟨dx,h1⟩,_⟩,q⟩:=h;obtain⟨hC,RT,hN2⟩:=t.na T;refine⟨_,(ah (aB (bM (pv 0) rfl))),?_⟩;dsimp! [h1,HO.ins.injEq,hC,RT,t.called];exact q
inductive dY (a:eI) (K:Frag) (vs:List V) (H:Hp) (Q:VK) (E:XK):Prop
 | mk (p d t:_) (_:vs=[.ref p]) (_:gA a K H p d t) (_:∀r xs,H r=none->ik K H xs t.fs->xs.length<=1000->Q (.ref r) (upd H r (.lst xs))):dY a K vs H Q E
theorem eZ (T:Txt K mg a):aU P w K mg base cU 1 a.qN a.ze ["self"] (dY a K):=by
 refine T.uA.ok Vs (λvs H Q E h=>?_) (λbY A outer s H vs Q E hr h=>?_)
 ·obtain⟨_,_,_,rfl,_⟩:=h;rfl
 ·obtain⟨p,d,t,rfl,⟨⟨dx,h1⟩,xs,h2,h3,h4⟩,q⟩:=h;obtain⟨hC,RT,hN2⟩:=t.na T;refine⟨_,(ah (aB (cv gL rfl T.iC ib (aa (bM (pv 0) rfl) af)))),?_⟩;dsimp! [h1,HO.ins.injEq,hC,hN2,t.parts];exact⟨xs,.inl (ba.of h2),λl hl=>q l xs hl h3 h4⟩
inductive nS (vs:List V) (H:Hp) (Q:VK) (E:XK):Prop
 | mk (p:_) (_:vs=[.ref p]) (_:Q .bN H):nS  vs H Q E
theorem M7 (T:Txt K mg a):aU P w K mg base cU 1 a.uv a.zf ["self"] nS:=by
 refine T.BK.ok Vt (λvs H Q E h=>?_) (λbY A outer s H vs Q E hr h=>?_)
 ·obtain⟨_,rfl,_⟩:=h;rfl
 ·obtain⟨p,rfl,q⟩:=h;refine⟨_,(ah (aB cz)),?_⟩;dsimp! [];exact q
inductive wJ (a:eI) (K:Frag) (vs:List V) (H:Hp) (Q:VK) (E:XK):Prop
 | mk (p d fs w:_) (_:vs=[.ref p]) (_:gA a K H p d (.plain fs w)) (_:Q (wV w) H):wJ a K vs H Q E
theorem M8 (T:Txt K mg a):aU P w K mg base cU 1 a.zi a.zj ["self"] (wJ a K):=by
 refine T.Gr.ok Vv (λvs H Q E h=>?_) (λbY A outer s H vs Q E hr h=>?_)
 ·obtain⟨_,_,_,_,rfl,_⟩:=h;rfl
 ·obtain⟨p,d,fs,w,rfl,⟨⟨dx,h1⟩,_⟩,q⟩:=h;have h2:H p=some (.ins a.aM dx (RR d w)):=h1;refine⟨_,(ah (aB (bM (pv 0) rfl))),?_⟩;dsimp! [h2,HO.ins.injEq,T.aW,T.bW,M5];exact q
theorem Ig (t:Tg) {p d:Addr}{H:Hp}{Q:VK}{E:XK}(h:gA a K H p d t) (q:Q (wV t.words) H):∃sp,(t.cls a,sp)∈[(a.cy,nS),(a.aM,wJ a K),(a.bc,nS)]/\sp [.ref p] H Q E:=by
 cases t with
 | plain fs w=>exact⟨_,.tail _ (.head _),p,d,fs,w,rfl,h,q⟩
 | weak f=>exact⟨_,.head _,p,rfl,q⟩
 | pair k v=>exact⟨_,.tail _ (.tail _ (.head _)),p,rfl,q⟩
inductive M9 (a:eI) (K:Frag) (vs:List V) (H:Hp) (Q:VK) (E:XK):Prop
 | mk (p dx l xs w:_) (_:vs=[.ref p,.ref l,wV w]) (_:H p=some (.ins a.aM dx [])) (_:ba K H l xs) (_:∀d H',Ie p H H'->H d=none->H' p=some (.ins a.aM dx (RR d w))->H' d=some (.lst xs)->Q .bN H'):M9 a K vs H Q E
theorem Eh (T:Txt K mg a):aU P w K mg base cU 2 a.zg a.zh ["self","some","last_words"] (M9 a K):=by
 refine T.Gq.ok Vu (λvs H Q E h=>?_) (λbY A outer s H vs Q E hr h=>?_)
 ·obtain⟨_,_,_,_,_,rfl,_⟩:=h;rfl
 ·obtain⟨p,dx,l,xs,w,rfl,h1,hl,q⟩:=h;refine⟨_,(ag (aY (vM (dc (v:=.ref a.cy) rfl T.qU rfl) T.kP (Eg T) hr.dm T.MC .nil aw (aa (pv 0) (aa az (aa (pv 1) af))))) (ah (iu (pv 0) (pv 2) rfl))),?_⟩;dsimp! [];refine⟨p,_,dx,_,l,xs,rfl,T.aW,T.du,T.bS,h1,hl,λd H' k hd hp h2=>?_⟩;have npd:d≠p:=oH h2 hp (by intro z; cases z);refine⟨_,dx,_,hp,T.aW,T.bW,?_,q d _ (λb o hb e=>?_) hd ae ?_⟩
  ·refine Nat.lt_of_le_of_lt (bT _ _ _) (Nat.lt_of_le_of_lt (Nat.succ_le_succ (bT _ _ _)) (by decide))
  ·rw [au hb];exact k b o hb e
  ·rw [au npd];exact h2
inductive RU (a:eI) (K:Frag) (vs:List V) (H:Hp) (Q:VK) (E:XK):Prop
 | mk (p dx x y:_) (_:vs=[.ref p,x,y]) (_:H p=some (.ins a.bc dx [])) (_:∀d H',Ie p H H'->H d=none->H' p=some (.ins a.bc dx (RQ "pair" d))->H' d=some (.lst [x,y])->Q .bN H'):RU a K vs H Q E
theorem dQ {H:Hp}{b l:Addr}{o:HO}(h:upd H l o b=none):H b=none:=by
 by_cases z:b=l
 ·rw [z,ae] at h;cases h
 ·rw [au z] at h;exact h
theorem abh (T:Txt K mg a):aU P w K mg base cU 2 a.Mo a.Mp ["self","key","value"] (RU a K):=by
 refine T.P1.ok ZH (λvs H Q E h=>?_) (λbY A outer s H vs Q E hr h=>?_)
 ·obtain⟨_,_,_,_,rfl,_⟩:=h;rfl
 ·obtain⟨p,dx,x,y,rfl,h1,q⟩:=h;refine⟨_,(ah (aY (vM (dc (v:=.ref a.cy) rfl T.qU rfl) T.kP (Eg T) hr.dm T.MC .nil aw (aa (pv 0) (aa az (aa (bP (aa (pv 1) (aa (pv 2) af))) af)))))),?_⟩;dsimp! [];refine⟨by decide,λl hl=>⟨p,_,dx,_,l,[x,y],rfl,T.cI,T.dy,T.dD,by rw [au (aC h1 hl)]; exact h1,ba.of ae,λd H' k hd hp h2=>?_⟩⟩;exact q d H' (λb o hb e=>k b o hb (ak.put hl b o e)) (dQ hd) hp h2
theorem iN {H H':Hp}{x dx:Addr}{o u:HO}(h1:H x=none) (h2:H dx=none) (k:Ie x (upd (upd H dx o) x u) H'):ak H H':=λb c e=>by
 have n:=aC e h1;exact k b c n (by rw [au n,au (aC e h2)]; exact e)
inductive M_ (a:eI) (K:Frag) (vs:List V) (H:Hp) (Q:VK) (E:XK):Prop
 | mk (l xs vl w:_) (_:vs=[.ref l,wV w]) (_:ba K H l xs) (_:ik K H xs vl) (_:xs.length<=1000) (_:∀p d H',ak H H'->H p=none->H d=none->gA a K H' p d (.plain vl w)->Q (.ref p) H'):M_ a K vs H Q E
theorem Wq (T:Txt K mg a):aU P w K mg base cU 4 a.zp a.zq ["fields","words"] (M_ a K):=by
 refine T.BL.ok Vy (λvs H Q E h=>?_) (λbY A outer s H vs Q E hr h=>?_)
 ·obtain⟨_,_,_,_,rfl,_⟩:=h;rfl
 ·obtain⟨l,xs,vl,w,rfl,hl,hv,hz,q⟩:=h;refine⟨_,(ah (aB (kq T.iA (Eh T) hr.dm rfl T.iB T.MF .nil aw (aa (pv 0) (aa (pv 1) af))))),?_⟩;dsimp! [];refine λx dx hx Ei ne=>⟨x,dx,l,xs,w,rfl,ae,?_,λd H' k hd hp h2=>?_⟩
  ·exact((ak.put Ei).trans (ak.put (by rw [au ne.symm]; exact hx))).seq hl
  ·have sm:=iN hx Ei k;exact⟨rfl,q x d H' sm hx (dQ (dQ hd)) ⟨⟨dx,hp⟩,xs,h2,hv.same sm,hz⟩⟩
inductive Na (a:eI) (K:Frag) (vs:List V) (H:Hp) (Q:VK) (E:XK):Prop
 | mk (x v:_) (_:vs=[x]) (_:dJ K H x v) (_:∀p d H',ak H H'->H p=none->H d=none->gA a K H' p d (.weak v)->Q (.ref p) H'):Na a K vs H Q E
theorem Nb (T:Txt K mg a):aU P w K mg base cU 3 a.zr a.zt ["field"] (Na a K):=by
 refine T.uB.ok Vz (λvs H Q E h=>?_) (λbY A outer s H vs Q E hr h=>?_)
 ·obtain⟨_,_,rfl,_⟩:=h;rfl
 ·obtain⟨y,v,rfl,hv,q⟩:=h;refine⟨_,(ah (aB (kq T.MD (Eg T) hr.dm rfl T.qU T.MC .nil aw (aa az (aa (bP (aa (pv 0) af)) af))))),?_⟩;dsimp! [];refine⟨by decide,λl hl=>λx dx hx Ei ne=>⟨x,_,dx,_,l,[y],rfl,T.eQ,T.eT,T.fQ,ae,?_,λd H' k hd hp h2=>?_⟩⟩
  ·exact((ak.put Ei).trans (ak.put (by rw [au ne.symm]; exact hx))).seq (ba.of ae)
  ·have sm:=(ak.put hl).trans (iN hx Ei k);exact⟨rfl,q x d H' sm (dQ hx) (dQ (dQ (dQ hd))) ⟨⟨dx,hp⟩,[y],h2,.cons (hv.same sm) (.nil _ _),by simp⟩⟩
inductive Nc (a:eI) (K:Frag) (vs:List V) (H:Hp) (Q:VK) (E:XK):Prop
 | mk (x y u v:_) (_:vs=[x,y]) (_:dJ K H x u) (_:dJ K H y v) (_:∀p d H',ak H H'->H p=none->H d=none->gA a K H' p d (.pair u v)->Q (.ref p) H'):Nc a K vs H Q E
theorem Nd (T:Txt K mg a):aU P w K mg base cU 4 a.zu a.zx ["key","value"] (Nc a K):=by
 refine T.uC.ok VA (λvs H Q E h=>?_) (λbY A outer s H vs Q E hr h=>?_)
 ·obtain⟨_,_,_,_,rfl,_⟩:=h;rfl
 ·obtain⟨y,z,u,v,rfl,hu,hv,q⟩:=h;refine⟨_,(ah (aB (kq T.we (abh T) hr.dm rfl T.wm T.aek .nil aw (aa (pv 0) (aa (pv 1) af))))),?_⟩;dsimp! [];refine λx dx hx Ei ne=>⟨x,dx,y,z,rfl,ae,λd H' k hd hp h2=>?_⟩
  have sm:=iN hx Ei k;exact⟨rfl,q x d H' sm hx (dQ (dQ hd)) ⟨⟨dx,hp⟩,[y,z],h2,.cons (hu.same sm) (.cons (hv.same sm) (.nil _ _)),by simp⟩⟩
noncomputable def P5 (rv hd md:Addr):List (Str×V):=b_ "made" (.ref md) (b_ "heard" (.ref hd) (b_ "root_values" (.ref rv) []))
theorem aeu:¬(("root_values":Str)="made"):=by decide +kernel
theorem aev:¬(("root_values":Str)="heard"):=by decide +kernel
theorem aew:¬(("heard":Str)="made"):=by decide +kernel
theorem Ej (rv hd md:Addr):(P5 rv hd md).lookup ("root_values":Str)=some (.ref rv):=by
 unfold P5;rw [aO,if_neg aeu,aO,if_neg aev,aO,if_pos rfl]
theorem Ek (rv hd md:Addr):(P5 rv hd md).lookup ("heard":Str)=some (.ref hd):=by
 unfold P5;rw [aO,if_neg aew,aO,if_pos rfl]
theorem fS (rv hd md:Addr):(P5 rv hd md).lookup ("made":Str)=some (.ref md):=by
 unfold P5;rw [aO,if_pos rfl]
theorem aX {rv hd md:Addr}{n:Str}(h1:¬n="made":=by decide +kernel) (h2:¬n="heard":=by decide +kernel) (h3:¬n="root_values":=by decide +kernel):(P5 rv hd md).lookup n=none:=by
 unfold P5;rw [aO,if_neg h1,aO,if_neg h2,aO,if_neg h3];rfl
structure HA where
 p:Addr
 rv:Addr
 hd:Addr
 md:Addr
noncomputable def HA.own (A:HA) (b:Addr):Prop:=b=A.rv\/b=A.hd\/b=A.md
theorem gW {α:Type} [DecidableEq α]:∀{l m:List α},l.Nodup->(∀x∈l,x∈m)->l.length<=m.length
 | [],_,_,_=>Nat.zero_le _
 | x::l,m,h,s=>by
  obtain⟨h1,h2⟩:=List.nodup_cons.mp h;have hx:=s x mem_cons_self;have:=gW (m:=m.erase x) h2 λy hy=>(List.mem_erase_of_ne (λz=>h1 (by rw [<-z]; exact hy))).mpr (s y (mem_cons_of_mem _ hy))
  rw [List.length_erase_of_mem hx] at this;have:=List.length_pos_of_mem hx;rw [length_cons];omega
noncomputable def P6:List Str:=(List.range 26).map λi=>(⟨#[97+i]⟩:Str)
structure nT (K:Frag) (H:Hp) (kvs:List (Key×V)) (g:Str->Vl):Prop where
 nd:(kvs.map (·.1)).Nodup
 ks:∀kv∈kvs,∃x∈P6,kv.1=Sum.inr x
 at_:∀x u,bz kvs (Sum.inr x)=some u->dJ K H u (g x)
 no:∀x,bz kvs (Sum.inr x)=none->g x=.no
noncomputable def dE (ps:List (Addr×Addr)):List (Key×V):=List.zipWith (λ(i:Nat) (q:Addr×Addr)=>((Sum.inl ((i:Int)+1):Key),V.ref q.1)) (List.range ps.length) ps
theorem cq (ps:List (Addr×Addr)):(dE ps).length=ps.length:=by
 unfold dE;rw [List.length_zipWith,length_range];omega
theorem jU (ps:List (Addr×Addr)) (i:Nat):(dE ps)[i]?=(ps[i]?).map λq=>((Sum.inl ((i:Int)+1):Key),V.ref q.1):=by
 unfold dE;rw [List.getElem?_zipWith]
 cases e:ps[i]? with
 | none=>
  cases e2:(List.range ps.length)[i]? <;> rfl
 | some q=>
  have hi:=(List.getElem?_eq_some_iff.mp e).1;rw [List.getElem?_range hi];rfl
theorem wK (ps:List (Addr×Addr)):(dE ps).map (·.1)=(List.range ps.length).map λ(i:Nat)=>(Sum.inl ((i:Int)+1):Key):=by
 apply List.ext_getElem?;intro i;rw [getElem?_map,jU,getElem?_map]
 by_cases hi:i < ps.length
 ·rw [getElem?_eq_getElem hi,List.getElem?_range hi];rfl
 ·rw [List.getElem?_eq_none (by omega),List.getElem?_eq_none (by rw [length_range]; omega)];rfl
theorem il {kvs:List (Key×V)}(hn:(kvs.map (·.1)).Nodup) {i:Nat}{kv:Key×V}(h:kvs[i]?=some kv):bz kvs kv.1=some kv.2:=by
 cases e:bz kvs kv.1 with
 | none=>exact absurd (mem_map.mpr ⟨kv,mem_of_getElem? h,rfl⟩) (jQ e)
 | some v=>
  unfold bz at e
  cases e2:kvs.find? λx=>decide (x.1=kv.1)with
  | none=>rw [e2] at e; cases e
  | some y=>
   rw [e2] at e;have hy0:=List.find?_some e2;have hy:y.1=kv.1:=of_decide_eq_true hy0;obtain⟨j,hj⟩:=mem_iff_getElem?.mp (List.mem_of_find?_eq_some e2);have RV:i=j:=by
    obtain⟨a1,a2⟩:=List.getElem?_eq_some_iff.mp h;obtain⟨b1,b2⟩:=List.getElem?_eq_some_iff.mp hj;have p:=List.pairwise_iff_getElem.mp hn;rcases Nat.lt_trichotomy i j with z | z | z
    ·exact absurd (by rw [List.getElem_map,List.getElem_map,a2,b2,hy]) (p i j (by rw [length_map]; exact a1) (by rw [length_map]; exact b1) z)
    ·exact z
    ·exact absurd (by rw [List.getElem_map,List.getElem_map,a2,b2,hy]) (p j i (by rw [length_map]; exact b1) (by rw [length_map]; exact a1) z)
   subst RV;rw [h] at hj;cases hj;exact e.symm▸rfl
theorem Nf (ps:List (Addr×Addr)):((dE ps).map (·.1)).Nodup:=by
 rw [wK];refine List.pairwise_map.mpr (List.Pairwise.imp (λ{x y} h e=>?_) (List.nodup_range (n:=ps.length)));have:(x:Int)+1=(y:Int)+1:=Sum.inl.inj e;exact h (by omega)
theorem ip {ps:List (Addr×Addr)}{i:Nat}{q:Addr×Addr}(h:ps[i]?=some q):bz (dE ps) (Sum.inl ((i:Int)+1))=some (V.ref q.1):=
 il (kv:=(Sum.inl ((i:Int)+1),V.ref q.1)) (Nf ps) (i:=i) (by rw [jU,h]; rfl)
theorem Ng {ps:List (Addr×Addr)}{z:Int}(h:z<=0\/(ps.length:Int) < z):bz (dE ps) (Sum.inl z)=none:=by
 cases e:bz (dE ps) (Sum.inl z)with
 | none=>rfl
 | some v=>
  have hm:=qa e;rw [wK] at hm;obtain⟨i,hi,e2⟩:=mem_map.mp hm;have:=List.mem_range.mp hi;have:(i:Int)+1=z:=Sum.inl.inj e2;omega
theorem wL {ps:List (Addr×Addr)}{i:Nat}{q q':Addr×Addr}(h:ps[i]?=some q):putK (dE ps) (Sum.inl ((i:Int)+1)) (V.ref q'.1)=dE (ps.set i q'):=by
 unfold putK;rw [eO,ip h,if_pos (show(some (V.ref q.1)).isSome=true from rfl)];apply List.ext_getElem?;intro j;rw [getElem?_map,jU,jU,getElem?_set]
 cases e:ps[j]? with
 | none=>
  by_cases RV:i=j
  ·subst RV;rw [h] at e;cases e
  ·rw [if_neg RV];rfl
 | some r=>
  by_cases RV:i=j
  ·subst RV;rw [if_pos rfl,if_pos (List.getElem?_eq_some_iff.mp e).1];show some (if (Sum.inl ((i:Int)+1):Key)=Sum.inl ((i:Int)+1)then _ else _)=_;rw [if_pos rfl];rfl
  ·rw [if_neg RV];show some (if (Sum.inl ((j:Int)+1):Key)=Sum.inl ((i:Int)+1)then _ else _)=_;rw [if_neg λy=>RV (by have:(j:Int)+1=(i:Int)+1:=Sum.inl.inj y; omega)];rfl
theorem wM (ps:List (Addr×Addr)) (q:Addr×Addr):putK (dE ps) (Sum.inl ((ps.length:Int)+1)) (V.ref q.1)=dE (ps++[q]):=by
 rw [jO _ (Ng (.inr (by omega)))];unfold dE;rw [length_append,length_singleton,List.range_succ,List.zipWith_append (by rw [length_range])];rfl
noncomputable def qd (K:Frag) (H:Hp) (xs:List V) (hs:List (Nat×Int)):Prop:=hs.length=xs.length/\∀(i:Nat) x h,xs[i]?=some x->hs[i]?=some h->∃t,x=.ref t/\bX K H t [.int (h.1:Int),.int h.2]
theorem qd.same {H H':Hp}{xs:List V}{hs:List (Nat×Int)}(h:qd K H xs hs) (k:ak H H'):qd K H' xs hs:=⟨h.1,λi x y a b=>by
 obtain⟨t,e,h⟩:=h.2 i x y a b;exact⟨t,e,k.cg h⟩⟩
theorem qd.kp {S:Addr->Prop}{H H':Hp}{xs:List V}{hs:List (Nat×Int)}(h:qd K H xs hs) (k:Kp S H H') (mu:∀b,S b->Mu H b):qd K H' xs hs:=⟨h.1,λi x y a b=>by
 obtain⟨t,e,h⟩:=h.2 i x y a b;exact⟨t,e,k.cg mu h⟩⟩
theorem nT.bO {H:Hp}{kvs:List (Key×V)}{g:Str->Vl}(h:nT K H kvs g):kvs.length<=26:=by
 have:=gW (m:=P6.map λx=>(Sum.inr x:Key)) h.nd λk hk=>by
  obtain⟨kv,lR,rfl⟩:=mem_map.mp hk;obtain⟨x,hx,e⟩:=h.ks kv lR;exact mem_map.mpr ⟨x,hx,e.symm⟩
 rw [length_map] at this;refine Nat.le_trans this ?_;unfold P6;rw [length_map,length_map,length_range];exact Nat.le_refl _
theorem Cg {kvs:List (Key×V)}{k:Key}{v:V}:(k∈kvs.map (·.1)/\(putK kvs k v).map (·.1)=kvs.map (·.1))\/(k∉kvs.map (·.1)/\(putK kvs k v).map (·.1)=kvs.map (·.1)++[k]):=by
 cases e:bz kvs k with
 | none=>exact .inr ⟨jQ e,by rw [jO _ e,map_append]; rfl⟩
 | some u=>
  refine .inl ⟨qa e,?_⟩;unfold putK;rw [eO,e,if_pos (show(some u).isSome=true from rfl),List.map_map];refine List.map_congr_left λp _=>?_
  show(if p.1=k then(p.1,v)else p).1=p.1
  split <;> rfl
theorem nT.put {H H':Hp}{kvs:List (Key×V)}{g:Str->Vl}{x:Str}{u:V}{v:Vl}(h:nT K H' kvs g) (hx:x∈P6) (hu:dJ K H' u v):nT K H' (putK kvs (Sum.inr x) u) (λy=>if y=x then v else g y):=by
 refine⟨?_,λkv lR=>?_,λy w e=>?_,λy e=>?_⟩
 ·rcases Cg (kvs:=kvs) (k:=Sum.inr x) (v:=u)with ⟨_,e⟩ | ⟨z,e⟩ <;> rw [e]
  ·exact h.nd
  ·refine nodup_append.mpr ⟨h.nd,by simp,λa ha b hb e=>?_⟩;rw [mem_singleton.mp hb] at e;exact z (e▸ha)
 ·have hm:kv.1∈(putK kvs (Sum.inr x) u).map (·.1):=mem_map.mpr ⟨kv,lR,rfl⟩;rcases Cg (kvs:=kvs) (k:=Sum.inr x) (v:=u)with ⟨_,e⟩ | ⟨z,e⟩ <;> rw [e] at hm
  ·obtain⟨kv2,h2,e2⟩:=mem_map.mp hm;obtain⟨y,hy,e⟩:=h.ks kv2 h2;exact⟨y,hy,e2.symm.trans e⟩
  ·rcases mem_append.mp hm with hm | hm
   ·obtain⟨kv2,h2,e2⟩:=mem_map.mp hm;obtain⟨y,hy,e⟩:=h.ks kv2 h2;exact⟨y,hy,e2.symm.trans e⟩
   ·exact⟨x,hx,mem_singleton.mp hm⟩
 ·rw [jN] at e
  by_cases z:y=x
  ·rw [if_pos z];rw [if_pos (by rw [z])] at e;cases e;exact hu
  ·rw [if_neg z];rw [if_neg λq=>z (Sum.inr.inj q)] at e;exact h.at_ y w e
 ·rw [jN] at e
  by_cases z:y=x
  ·rw [if_pos (by rw [z])] at e;cases e
  ·rw [if_neg z];rw [if_neg λq=>z (Sum.inr.inj q)] at e;exact h.no y e
theorem nT.same {H H':Hp}{kvs:List (Key×V)}{g:Str->Vl}(h:nT K H kvs g) (k:ak H H'):nT K H' kvs g:=⟨h.nd,h.ks,λx u e=>(h.at_ x u e).same k,h.no⟩
theorem nT.kp {S:Addr->Prop}{H H':Hp}{kvs:List (Key×V)}{g:Str->Vl}(h:nT K H kvs g) (k:Kp S H H') (mu:∀b,S b->Mu H b):nT K H' kvs g:=⟨h.nd,h.ks,λx u e=>(h.at_ x u e).kp k mu,h.no⟩
structure PH (a:eI) (K:Frag) (Pr:Addr->Prop) (H:Hp) (A:HA) (g:Str->Vl) (ts:List Tg) (hs:List (Nat×Int)):Prop where
 ob:∃dx,H A.p=some (.ins a.aQ dx (P5 A.rv A.hd A.md))
 rt:∃kvs,H A.rv=some (.dK kvs)/\nT K H kvs g
 th:∃ps:List (Addr×Addr),H A.md=some (.dK (dE ps))/\ps.length=ts.length/\(∀(i:Nat) q t,ps[i]?=some q->ts[i]?=some t->gA a K H q.1 q.2 t)/\∀q∈ps,q.2≠A.hd/\¬Pr q.2
 he:∃xs,H A.hd=some (.lst xs)/\qd K H xs hs
 ne:A.rv≠A.md
 pr:∀b,Pr b->H b≠none/\¬A.own b
 bO:ts.length<=500/\hs.length<=500
section
variable {Pr:Addr->Prop}{H H':Hp}{A:HA}{g:Str->Vl}{ts:List Tg}{hs:List (Nat×Int)}
theorem PH.same (h:PH a K Pr H A g ts hs) (k:ak H H'):PH a K Pr H' A g ts hs:=by
 obtain⟨dx,h1⟩:=h.ob;obtain⟨kvs,h2,h3⟩:=h.rt;obtain⟨ps,h4,h5,h6,h7⟩:=h.th;obtain⟨xs,h8,h9⟩:=h.he;refine⟨⟨dx,k _ _ h1⟩,⟨kvs,k _ _ h2,h3.same k⟩,⟨ps,k _ _ h4,h5,λi q t a b=>(h6 i q t a b).same k,h7⟩,⟨xs,k _ _ h8,h9.same k⟩,h.ne,λb hb=>⟨?_,(h.pr b hb).2⟩,h.bO⟩;have:=(h.pr b hb).1
 cases e:H b with
 | none=>exact absurd e this
 | some u=>rw [k _ _ e]; intro z; cases z
theorem PH.mu (h:PH a K Pr H A g ts hs):∀b,A.own b->Mu H b:=λb z=>by
 rcases z with rfl | rfl | rfl
 ·obtain⟨kvs,h2,_⟩:=h.rt;exact .inr ⟨_,h2⟩
 ·obtain⟨xs,h8,_⟩:=h.he;exact .inl ⟨_,h8⟩
 ·obtain⟨ps,h4,_⟩:=h.th;exact .inr ⟨_,h4⟩
theorem PH.kp {S:Addr->Prop}(h:PH a K Pr H A g ts hs) (k:Kp S H H') (mu:∀b,S b->Mu H b) (sp:∀b,S b->Pr b) (so:∀b,S b->H' b≠none):PH a K Pr H' A g ts hs:=by
 obtain⟨dx,h1⟩:=h.ob;obtain⟨kvs,h2,h3⟩:=h.rt;obtain⟨ps,h4,h5,h6,h7⟩:=h.th;obtain⟨xs,h8,h9⟩:=h.he;have no:∀b,A.own b->¬S b:=λb z y=>(h.pr b (sp b y)).2 z
 refine⟨⟨dx,k _ _ (λz=>?_) h1⟩,⟨kvs,k _ _ (no _ (.inl rfl)) h2,h3.kp k mu⟩,⟨ps,k _ _ (no _ (.inr (.inr rfl))) h4,h5,λi q t a b=>(h6 i q t a b).kp k mu λz=>(h7 q (mem_of_getElem? a)).2 (sp _ z),h7⟩,⟨xs,k _ _ (no _ (.inr (.inl rfl))) h8,h9.kp k mu⟩,h.ne,λb hb=>⟨?_,(h.pr b hb).2⟩,h.bO⟩
 ·rcases mu _ z with ⟨ys,m⟩ | ⟨ys,m⟩ <;> (rw [m] at h1; cases h1)
 ·by_cases z:S b
  ·exact so b z
  ·have:=(h.pr b hb).1
   cases e:H b with
   | none=>exact absurd e this
   | some u=>rw [k _ _ z e]; intro z; cases z
end
theorem PH.get {Pr:Addr->Prop}{H:Hp}{A:HA}{g:Str->Vl}{ts:List Tg}{hs:List (Nat×Int)}(T:Txt K mg a) (h:PH a K Pr H A g ts hs) (x:Str):∃o,fH H A.rv (.str x) o/\dJ K H (o.getD (.ref a.aV)) (g x):=by
 obtain⟨kvs,h2,h3⟩:=h.rt;refine⟨bz kvs (Sum.inr x),fH.k (k:=Sum.inr x) h2,?_⟩
 cases e:bz kvs (Sum.inr x)with
 | none=>rw [h3.no x e]; exact⟨_,rfl,T.dI _⟩
 | some u=>exact h3.at_ x u e
inductive G0 (a:eI) (K:Frag) (vs:List V) (H:Hp) (Q:VK) (E:XK):Prop
 | mk (Pr A g ts hs x:_) (_:vs=[.ref A.p,.str x]) (_:PH a K Pr H A g ts hs) (_:∀u,dJ K H u (g x)->Q u H):G0 a K vs H Q E
theorem jV (T:Txt K mg a):aU P w K mg base cU 1 a.HW a.Mr ["self","letter"] (G0 a K):=by
 refine T.MM.ok ZJ (λvs H Q E h=>?_) (λbY A outer s H vs Q E hr h=>?_)
 ·obtain⟨_,_,_,_,_,_,rfl,_⟩:=h;rfl
 ·obtain⟨Pr,A,g,ts,hs,x,rfl,h,q⟩:=h;refine⟨_,(ah (aB (qy (bB hr) (bM (pv 0) rfl) (pv 1) (dc (v:=.ref a.aV) rfl T.bf rfl) ⟨rfl,rfl,rfl,rfl⟩))),?_⟩;obtain⟨dx,h1⟩:=h.ob;obtain⟨kvs,h2,h3⟩:=h.rt;dsimp! [h1,HO.ins.injEq,T.aj,T.bH,Ej,T.bf];obtain⟨o,h4,h5⟩:=h.get T x;exact⟨.inl ⟨kvs,.inl h2⟩,o,h4,q _ h5⟩
inductive G3 (a:eI) (K:Frag) (vs:List V) (H:Hp) (Q:VK) (E:XK):Prop
 | mk (Pr A g ts hs:_) (_:vs=[.ref A.p]) (_:PH a K Pr H A g ts hs) (_:Q (.int (ts.length:Nat)) H):G3 a K vs H Q E
theorem Wr (T:Txt K mg a):aU P w K mg base cU 1 a.A5 a.A6 ["self"] (G3 a K):=by
 refine T.GQ.ok V9 (λvs H Q E h=>?_) (λbY A outer s H vs Q E hr h=>?_)
 ·obtain⟨_,_,_,_,_,rfl,_⟩:=h;rfl
 ·obtain⟨Pr,A,g,ts,hs,rfl,h,q⟩:=h;refine⟨_,(ah (aB (aR gP rfl T.f_ eE (aa (bM (pv 0) rfl) af)))),?_⟩;obtain⟨dx,h1⟩:=h.ob;dsimp! [h1,HO.ins.injEq,T.aj,T.aP,fS];obtain⟨ps,h4,h5,_⟩:=h.th;refine⟨_,h4,?_⟩;rw [cq,h5];exact q
inductive mB (a:eI) (K:Frag) (vs:List V) (H:Hp) (Q:VK) (E:XK):Prop
 | mk (Pr A g ts hs:_) (_:vs=[.ref A.p]) (_:PH a K Pr H A g ts hs) (_:∀r xs,H r=none->qd K H xs hs->Q (.ref r) (upd H r (.lst xs))):mB a K vs H Q E
theorem El (T:Txt K mg a):aU P w K mg base cU 1 a.A1 a.A2 ["self"] (mB a K):=by
 refine T.GN.ok V8 (λvs H Q E h=>?_) (λbY A outer s H vs Q E hr h=>?_)
 ·obtain⟨_,_,_,_,_,rfl,_⟩:=h;rfl
 ·obtain⟨Pr,A,g,ts,hs,rfl,h,q⟩:=h;refine⟨_,(ah (aB (cv gL rfl T.iC ib (aa (bM (pv 0) rfl) af)))),?_⟩;obtain⟨dx,h1⟩:=h.ob;dsimp! [h1,HO.ins.injEq,T.aj,T.cB,Ek];obtain⟨xs,h8,h9⟩:=h.he;exact⟨xs,.inl (ba.of h8),λl hl=>q l xs hl h9⟩
inductive pd (a:eI) (K:Frag) (vs:List V) (H:Hp) (Q:VK) (E:XK):Prop
 | mk (Pr A g ts hs:_) (i:Nat) (t:Tg) (_:vs=[.ref A.p,.int ((i:Int)+1)]) (_:PH a K Pr H A g ts hs) (_:ts[i]?=some t) (_:∀p d,gA a K H p d t->Q (.ref p) H):pd a K vs H Q E
theorem Nh (T:Txt K mg a):aU P w K mg base cU 1 a.AJ a.AK ["self","name"] (pd a K):=by
 refine T.GD.ok V1 (λvs H Q E h=>?_) (λbY A outer s H vs Q E hr h=>?_)
 ·obtain⟨_,_,_,_,_,_,_,rfl,_⟩:=h;rfl
 ·obtain⟨Pr,A,g,ts,hs,i,t,rfl,h,ht,q⟩:=h;refine⟨_,(ah (aB (cf (bB hr) (bM (pv 0) rfl) (pv 1) (λ_ _=>rfl)))),?_⟩;obtain⟨dx,h1⟩:=h.ob;dsimp! [h1,HO.ins.injEq,T.aj,T.aP,fS];obtain⟨ps,h4,h5,h6,_⟩:=h.th;have hi:ps[i]?=some (ps[i]'(by have:=(List.getElem?_eq_some_iff.mp ht).1; omega)):=getElem?_eq_getElem _;exact⟨_,by rw [<-ip hi]; exact fH.k (k:=Sum.inl ((i:Int)+1)) h4,q _ _ (h6 i _ t hi ht)⟩
inductive pe (a:eI) (K:Frag) (vs:List V) (H:Hp) (Q:VK) (E:XK):Prop
 | mk (Pr A g ts hs x u v:_) (_:vs=[.ref A.p,.str x,u]) (_:PH a K Pr H A g ts hs) (_:x∈P6) (_:dJ K H u v) (_:∀H',Kp A.own H H'->PH a K Pr H' A (λy=>if y=x then v else g y) ts hs->Q .bN H'):pe a K vs H Q E
theorem pf (T:Txt K mg a):aU P w K mg base cU 1 a.HX a.Ms ["self","letter","value"] (pe a K):=by
 refine T.MN.ok ZK (λvs H Q E h=>?_) (λbY A outer s H vs Q E hr h=>?_)
 ·obtain⟨_,_,_,_,_,_,_,_,rfl,_⟩:=h;rfl
 ·obtain⟨Pr,A,g,ts,hs,x,u,v,rfl,h,hx,hv,q⟩:=h;refine⟨_,(ah (cH (bB hr) (bM (pv 0) rfl) (pv 1) (pv 2) rfl)),?_⟩;obtain⟨dx,h1⟩:=h.ob;dsimp! [h1,HO.ins.injEq,T.aj,T.bH,Ej];obtain⟨kvs,h2,h3⟩:=h.rt;refine⟨_,gE.k (k:=Sum.inr x) h2 (aG (by have:=h3.bO; omega)),q _ ((Kp.refl _ _).set (.inl rfl)) ?_⟩;have k:Kp (·=A.rv) H (upd H A.rv (.dK (putK kvs (Sum.inr x) u))):=(Kp.refl _ _).set rfl;have mu:∀b,b=A.rv->Mu H b:=λb e=>.inr ⟨kvs,by rw [e]; exact h2⟩
  obtain⟨dx,h1⟩:=h.ob;obtain⟨ps,h4,h5,h6,h7⟩:=h.th;obtain⟨xs,h8,h9⟩:=h.he;have nd:∀q∈ps,q.2≠A.rv:=λq hq z=>by
   obtain⟨i,hi⟩:=mem_iff_getElem?.mp hq;obtain⟨_,_,e,_⟩:=h6 i q _ hi (getElem?_eq_getElem (by rw [<-h5]; exact(List.getElem?_eq_some_iff.mp hi).1));rw [z,h2] at e;cases e
  refine⟨⟨dx,k _ _ (λz=>by rw [z,h2] at h1; cases h1) h1⟩,⟨_,ae,(h3.kp k mu).put (H:=H) hx (hv.kp k mu)⟩,⟨ps,k _ _ h.ne.symm h4,h5,λi q t a b=>(h6 i q t a b).kp k mu (nd q (mem_of_getElem? a)),h7⟩,⟨xs,k _ _ (λz=>by rw [z,h2] at h8; cases h8) h8,h9.kp k mu⟩,h.ne,λb hb=>⟨?_,(h.pr b hb).2⟩,h.bO⟩;have:=(h.pr b hb).1
  cases e:H b with
  | none=>exact absurd e this
  | some o=>rw [k b o (λz=>(h.pr b hb).2 (.inl z)) e]; intro z; cases z
section
variable {Pr:Addr->Prop}{H H':Hp}{A:HA}{g:Str->Vl}{ts:List Tg}{hs:List (Nat×Int)}
theorem PH.things (h:PH a K Pr H A g ts hs) {G4:List (Addr×Addr)}{ts':List Tg}(hl:G4.length=ts'.length) (G5:∀(i:Nat) q t,G4[i]?=some q->ts'[i]?=some t->gA a K H q.1 q.2 t) (hn:∀q∈G4,q.2≠A.hd/\¬Pr q.2) (bO:ts'.length<=500):PH a K Pr (upd H A.md (.dK (dE G4))) A g ts' hs:=by
 obtain⟨dx,h1⟩:=h.ob;obtain⟨kvs,h2,h3⟩:=h.rt;obtain⟨ps,h4,h5,h6,h7⟩:=h.th;obtain⟨xs,h8,h9⟩:=h.he;have k:Kp (·=A.md) H (upd H A.md (.dK (dE G4))):=(Kp.refl _ _).set rfl;have mu:∀b,b=A.md->Mu H b:=λb e=>.inr ⟨dE ps,by rw [e]; exact h4⟩
 have nd:∀q∈G4,q.2≠A.md:=λq hq z=>by
  obtain⟨i,hi⟩:=mem_iff_getElem?.mp hq;obtain⟨_,_,e,_⟩:=G5 i q _ hi (getElem?_eq_getElem (by rw [<-hl]; exact(List.getElem?_eq_some_iff.mp hi).1));rw [z,h4] at e;cases e
 refine⟨⟨dx,k _ _ (λz=>by rw [z,h4] at h1; cases h1) h1⟩,⟨kvs,k _ _ h.ne h2,h3.kp k mu⟩,⟨G4,ae,hl,λi q t a b=>(G5 i q t a b).kp k mu (nd q (mem_of_getElem? a)),hn⟩,⟨xs,k _ _ (λz=>by rw [z,h4] at h8; cases h8) h8,h9.kp k mu⟩,h.ne,λb hb=>⟨?_,(h.pr b hb).2⟩,bO,h.bO.2⟩;have:=(h.pr b hb).1
 cases e:H b with
 | none=>exact absurd e this
 | some o=>rw [k b o (λz=>(h.pr b hb).2 (.inr (.inr z))) e]; intro z; cases z
theorem PH.qY (h:PH a K Pr H A g ts hs) {IM:List V}{qZ:List (Nat×Int)}(hr:qd K H IM qZ) (bO:qZ.length<=500):PH a K Pr (upd H A.hd (.lst IM)) A g ts qZ:=by
 obtain⟨dx,h1⟩:=h.ob;obtain⟨kvs,h2,h3⟩:=h.rt;obtain⟨ps,h4,h5,h6,h7⟩:=h.th;obtain⟨xs,h8,h9⟩:=h.he;have k:Kp (·=A.hd) H (upd H A.hd (.lst IM)):=(Kp.refl _ _).set rfl;have mu:∀b,b=A.hd->Mu H b:=λb e=>.inl ⟨xs,by rw [e]; exact h8⟩
 refine⟨⟨dx,k _ _ (λz=>by rw [z,h8] at h1; cases h1) h1⟩,⟨kvs,k _ _ (λz=>by rw [z,h8] at h2; cases h2) h2,h3.kp k mu⟩,⟨ps,k _ _ (λz=>by rw [z,h8] at h4; cases h4) h4,h5,λi q t a b=>(h6 i q t a b).kp k mu (h7 q (mem_of_getElem? a)).1,h7⟩,⟨IM,ae,hr.kp k mu⟩,h.ne,λb hb=>⟨?_,(h.pr b hb).2⟩,h.bO.1,bO⟩;have:=(h.pr b hb).1
 cases e:H b with
 | none=>exact absurd e this
 | some o=>rw [k b o (λz=>(h.pr b hb).2 (.inr (.inl z))) e]; intro z; cases z
theorem PH.fresh (h:PH a K Pr H A g ts hs) {d:Addr}(hd:H d=none):d≠A.hd/\¬Pr d:=⟨(λz=>by
 obtain⟨xs,h8,_⟩:=h.he;rw [<-z,hd] at h8
 cases h8),λz=>(h.pr d z).1 hd⟩
theorem PH.set (h:PH a K Pr H A g ts hs) {ps:List (Addr×Addr)}{i:Nat}{q q':Addr×Addr}{t':Tg}(IL:H A.md=some (.dK (dE ps))) (hq:ps[i]?=some q) (ht:gA a K H q'.1 q'.2 t') (hn:q'.2≠A.hd/\¬Pr q'.2):PH a K Pr (upd H A.md (.dK (putK (dE ps) (Sum.inl ((i:Int)+1)) (.ref q'.1)))) A g (ts.set i t') hs:=by
 obtain⟨Ci,h4,h5,h6,h7⟩:=h.th;have e:dE Ci=dE ps:=by
  rw [IL] at h4;exact(HO.dK.inj (Option.some.inj h4)).symm
 have el:Ci.length=ps.length:=by rw [<-cq,<-cq,e]
 have hi:=(List.getElem?_eq_some_iff.mp hq).1;have HQ:Ci[i]?=some (Ci[i]'(by omega)):=getElem?_eq_getElem _;rw [<-e,wL (q':=q') HQ];refine h.things (by rw [length_set,length_set]; exact h5) (λj r t hr ky=>?_) (λr hr=>?_) (by rw [length_set]; exact h.bO.1)
 ·rw [getElem?_set] at hr ky
  by_cases z:i=j
  ·subst z;rw [if_pos rfl,if_pos (by omega)] at hr;rw [if_pos rfl,if_pos (by omega)] at ky;cases hr;cases ky;exact ht
  ·rw [if_neg z] at hr ky;exact h6 j r t hr ky
 ·rcases List.mem_or_eq_of_mem_set hr with hr | rfl
  ·exact h7 r hr
  ·exact hn
theorem PH.new (h:PH a K Pr H A g ts hs) {ps:List (Addr×Addr)}{q':Addr×Addr}{t':Tg}(IL:H A.md=some (.dK (dE ps))) (ht:gA a K H q'.1 q'.2 t') (hn:q'.2≠A.hd/\¬Pr q'.2) (bO:ts.length < 500):PH a K Pr (upd H A.md (.dK (putK (dE ps) (Sum.inl ((ts.length:Int)+1)) (.ref q'.1)))) A g (ts++[t']) hs:=by
 obtain⟨Ci,h4,h5,h6,h7⟩:=h.th;have e:dE Ci=dE ps:=by
  rw [IL] at h4;exact(HO.dK.inj (Option.some.inj h4)).symm
 rw [<-e,<-h5,wM];refine h.things (by rw [length_append,length_append,h5]; rfl) (λj r t hr ky=>?_) (λr hr=>?_) (by rw [length_append,length_singleton]; omega)
 ·by_cases z:j < Ci.length
  ·rw [getElem?_append_left z] at hr;rw [getElem?_append_left (by omega)] at ky;exact h6 j r t hr ky
  ·have ej:j=Ci.length:=by
    have:=(List.getElem?_eq_some_iff.mp hr).1;rw [length_append,length_singleton] at this;omega
   subst ej;rw [getElem?_append_right (Nat.le_refl _),Nat.sub_self] at hr;rw [h5,getElem?_append_right (Nat.le_refl _),Nat.sub_self] at ky;cases hr;cases ky;exact ht
 ·rcases mem_append.mp hr with hr | hr
  ·exact h7 r hr
  ·rw [mem_singleton.mp hr];exact hn
end
theorem ik.set {H:Hp}{xs:List V}{vl:List Vl}{i:Nat}{x:V}{v:Vl}(h:ik K H xs vl) (hx:dJ K H x v):ik K H (xs.set i x) (vl.set i v):=⟨by simp [h.1],λj y u a b=>by
 by_cases e:i=j
 ·subst e;have hl:=(List.getElem?_eq_some_iff.mp a).1;rw [length_set] at hl;have fW:=h.1;rw [List.getElem?_set_self hl] at a;rw [List.getElem?_set_self (by omega)] at b;cases a;cases b;exact hx
 ·rw [List.getElem?_set_ne e] at a b;exact h.2 j y u a b⟩
inductive kQ (a:eI) (K:Frag) (vs:List V) (H:Hp) (Q:VK) (E:XK):Prop
 | mk (p d fs w u v:_) (n:Nat) (_:vs=[.ref p,.int (n:Nat),u]) (_:gA a K H p d (.plain fs w)) (_:n < fs.length) (_:dJ K H u v) (_:∀p' d' H',ak H H'->H p'=none->H d'=none->gA a K H' p' d' (.plain (fs.set n v) w)->Q (.ref p') H'):kQ a K vs H Q E
theorem Ws (T:Txt K mg a):aU P w K mg base cU 4 a.zk a.zl ["self","at","value"] (kQ a K):=by
 refine T.Gs.ok Vw (λvs H Q E h=>?_) (λbY A outer s H vs Q E hr h=>?_)
 ·obtain⟨_,_,_,_,_,_,_,rfl,_⟩:=h;rfl
 ·obtain⟨p,d,fs,w,u,v,n,rfl,h,hn,hv,q⟩:=h;refine⟨_,(ah (aB (kq T.iA (Eh T) hr.dm rfl T.iB T.MF .nil aw (aa (bu eS (bu eS (gk hX (bM (pv 0) rfl) iX (gK (pv 1))) (bP (aa (pv 2) af))) (gk hX (bM (pv 0) rfl) (gK (bu nj (pv 1) ai)) iX)) (aa (bM (pv 0) rfl) af))))),?_⟩;obtain⟨dx,h1⟩:=h.ob;obtain⟨xs,h2,h3,h4⟩:=h.li;have e1:=(Tg.plain fs w).parts d;have e2:(Tg.plain fs w).cls a=a.aM:=rfl;rw [e2] at h1;dsimp! [h1,HO.ins.injEq,T.aW,T.bS,e1];have hl:fs.length=xs.length:=h3.1;refine⟨d,xs,rfl,ba.of h2,λl1 uq=>⟨by simp [sizeLine_eq],λl2 fW=>?_⟩⟩;have c1:iw xs none (some (n:Int))=xs.take n:=by
   unfold iw;rw [HT.jI,HT.l_];simp
  have c2:iw xs (some ((n:Int)+1)) none=xs.drop (n+1):=by
   unfold iw;rw [HT.jI,show(n:Int)+1=((n+1:Nat):Int)by simp,HT.l_];rw [Nat.min_eq_left (by omega),List.take_of_length_le (by rw [List.length_drop]; omega)]
  rw [c1] at fW ⊢;have s1:=ak.put (o:=.lst (xs.take n)) uq;have s2:=s1.trans (ak.put (o:=.lst [u]) fW);have e3:upd (upd H l1 (.lst (xs.take n))) l2 (.lst [u]) l1=some (.lst (xs.take n)):=ak.put fW _ _ ae;refine⟨l1,l2,_,_,rfl,rfl,ba.of e3,ba.of ae,by rw [length_take,length_singleton]; exact Nat.le_of_lt (aG (by omega)),λl3 Wt=>?_⟩;have s3:=s2.trans (ak.put (o:=.lst (xs.take n++[u])) Wt);refine⟨_,_,_,s3 _ _ h1,T.aW,T.bS,_,e1,d,xs,rfl,ba.of (s3 _ _ h2),λl4 Ni=>?_⟩;rw [c2] at ⊢;have s4:=ak.put (o:=.lst (xs.drop (n+1))) Ni;refine⟨l3,l4,_,_,rfl,rfl,ba.of (s4 _ _ ae),ba.of ae,by rw [length_append,length_take,length_singleton,List.length_drop]; exact Nat.le_of_lt (aG (by omega)),λl5 IP=>?_⟩;have s5:=(s3.trans s4).trans (ak.put (o:=.lst (xs.take n++[u]++xs.drop (n+1))) IP);have h5:upd (upd (upd (upd (upd H l1 (.lst (xs.take n))) l2 (.lst [u])) l3 (.lst (xs.take n++[u]))) l4 (.lst (xs.drop (n+1)))) l5 (.lst (xs.take n++[u]++xs.drop (n+1))) l5=some (.lst (xs.take n++[u]++xs.drop (n+1))):=ae;generalize upd (upd (upd (upd (upd H l1 (.lst (xs.take n))) l2 (.lst [u])) l3 (.lst (xs.take n++[u]))) l4 (.lst (xs.drop (n+1)))) l5 (.lst (xs.take n++[u]++xs.drop (n+1)))=H5 at s5 h5;have ex:xs.take n++[u]++xs.drop (n+1)=xs.set n u:=by
   rw [List.set_eq_take_append_cons_drop,if_pos (by omega),append_assoc];rfl
  rw [ex] at h5;have mC:ik K H5 (xs.set n u) (fs.set n v):=(h3.same s5).set (hv.same s5);refine⟨_,_,_,s5 _ _ h1,T.aW,T.bW,_,M5 d w,λx Wu hx Ei ne=>⟨x,Wu,l5,xs.set n u,w,rfl,ae,?_,λd2 H' k hd hp h6=>?_⟩⟩
  ·exact((ak.put Ei).trans (ak.put (by rw [au ne.symm]; exact hx))).seq (ba.of h5)
  ·have sm:=iN hx Ei k;exact⟨rfl,q x d2 H' (s5.trans sm) (s5.free hx) (s5.free (dQ (dQ hd))) ⟨⟨Wu,hp⟩,_,h6,mC.same sm,by rw [length_set]; exact h4⟩⟩
inductive kR (a:eI) (K:Frag) (vs:List V) (H:Hp) (Q:VK) (E:XK):Prop
 | mk (p d fs w w':_) (_:vs=[.ref p,wV w']) (_:gA a K H p d (.plain fs w)) (_:∀p' d' H',ak H H'->H p'=none->H d'=none->gA a K H' p' d' (.plain fs w')->Q (.ref p') H'):kR a K vs H Q E
theorem Wv (T:Txt K mg a):aU P w K mg base cU 4 a.zm a.zo ["self","words"] (kR a K):=by
 refine T.Gu.ok Vx (λvs H Q E h=>?_) (λbY A outer s H vs Q E hr h=>?_)
 ·obtain⟨_,_,_,_,_,rfl,_⟩:=h;rfl
 ·obtain⟨p,d,fs,w,w',rfl,h,q⟩:=h;refine⟨_,(ah (aB (kq T.iA (Eh T) hr.dm rfl T.iB T.MF .nil aw (aa (bM (pv 0) rfl) (aa (pv 1) af))))),?_⟩;obtain⟨dx,h1⟩:=h.ob;obtain⟨xs,h2,h3,h4⟩:=h.li;have e1:=(Tg.plain fs w).parts d;have e2:(Tg.plain fs w).cls a=a.aM:=rfl;rw [e2] at h1;dsimp! [h1,HO.ins.injEq,T.aW,T.bS,e1];refine λx Wu hx Ei ne=>⟨x,Wu,d,xs,w',rfl,ae,?_,λd2 H' k hd hp h6=>?_⟩
  ·exact((ak.put Ei).trans (ak.put (by rw [au ne.symm]; exact hx))).seq (ba.of h2)
  ·have sm:=iN hx Ei k;exact⟨rfl,q x d2 H' sm hx (dQ (dQ hd)) ⟨⟨Wu,hp⟩,_,h6,h3.same sm,h4⟩⟩
inductive q_ (a:eI) (K:Frag) (vs:List V) (H:Hp) (Q:VK) (E:XK):Prop
 | mk (Pr A g ts hs x:_) (n:Int) (_:vs=[.ref A.p,.str x]) (_:PH a K Pr H A g ts hs) (_:g x=.th n) (_:Q (.int n) H):q_ a K vs H Q E
theorem G6 (T:Txt K mg a):aU P w K mg base cU 2 a.HY a.Mt ["self","letter"] (q_ a K):=by
 refine T.MO.ok ZL (λvs H Q E h=>?_) (λbY A outer s H vs Q E hr h=>?_)
 ·obtain⟨_,_,_,_,_,_,_,rfl,_⟩:=h;rfl
 ·obtain⟨Pr,A,g,ts,hs,x,n,rfl,h,hg,q⟩:=h;refine⟨_,(ah (aB (av aq (aS (pv 0) T.aj T.bq (jV T) hr.dm T.qS .nil aw (aa (pv 1) af)) ai (λ_ _=>rfl)))),?_⟩;obtain⟨dx,h1⟩:=h.ob;have f1:=aX (rv:=A.rv) (hd:=A.hd) (md:=A.md) (n:="root");dsimp! [h1,HO.ins.injEq,f1];refine⟨Pr,A,g,ts,hs,x,rfl,h,λu hu=>?_⟩;rw [hg] at hu;obtain⟨t,rfl,ht⟩:=hu;exact⟨t,_,_,_,rfl,rfl,ht,rfl,q⟩
inductive pk (a:eI) (K:Frag) (vs:List V) (H:Hp) (Q:VK) (E:XK):Prop
 | mk (Pr A g ts hs x:_) (i:Nat) (t:Tg) (_:vs=[.ref A.p,.str x]) (_:PH a K Pr H A g ts hs) (_:g x=.th ((i:Int)+1)) (_:ts[i]?=some t) (_:∀p d,gA a K H p d t->Q (.ref p) H):pk a K vs H Q E
theorem G7 (T:Txt K mg a):aU P w K mg base cU 3 a.HZ a.Mv ["self","letter"] (pk a K):=by
 refine T.MP.ok ZM (λvs H Q E h=>?_) (λbY A outer s H vs Q E hr h=>?_)
 ·obtain⟨_,_,_,_,_,_,_,_,rfl,_⟩:=h;rfl
 ·obtain⟨Pr,A,g,ts,hs,x,i,t,rfl,h,hg,ht,q⟩:=h;refine⟨_,(ah (aB (aS (pv 0) T.aj T.MU (Nh T) hr.dm T.RE .nil aw (aa (by exact(aS (pv 0) T.aj T.dq (G6 T) hr.dm T.P2 .nil aw (aa (pv 1) af))) af)))),?_⟩;obtain⟨dx,h1⟩:=h.ob;have f1:=aX (rv:=A.rv) (hd:=A.hd) (md:=A.md) (n:="name_in");have f2:=aX (rv:=A.rv) (hd:=A.hd) (md:=A.md) (n:="thing_of");dsimp! [h1,HO.ins.injEq,f1,f2];exact⟨Pr,A,g,ts,hs,x,_,rfl,h,hg,Pr,A,g,ts,hs,i,t,rfl,h,ht,q⟩
inductive mD (a:eI) (K:Frag) (vs:List V) (H:Hp) (Q:VK) (E:XK):Prop
 | mk (Pr A g ts hs:_) (i:Nat) (t:Tg) (v:Vl) (_:vs=[.ref A.p,.int ((i:Int)+1)]) (_:PH a K Pr H A g ts hs) (_:ts[i]?=some t) (_:t.fs[0]?=some v) (_:∀u H',ak H H'->dJ K H' u v->Q u H'):mD a K vs H Q E
theorem abi (T:Txt K mg a):aU P w K mg base cU 2 a.H_ a.Mw ["self","name"] (mD a K):=by
 refine T.MQ.ok ZN (λvs H Q E h=>?_) (λbY A outer s H vs Q E hr h=>?_)
 ·obtain⟨_,_,_,_,_,_,_,_,rfl,_⟩:=h;rfl
 ·obtain⟨Pr,A,g,ts,hs,i,t,v,rfl,h,ht,hv,q⟩:=h;refine⟨_,(ah (aB (av df (ff (L:=[(a.cy,dY a K),(a.aM,dY a K),(a.bc,dY a K)]) (aS (pv 0) T.aj T.MU (Nh T) hr.dm T.RE .nil aw (aa (pv 1) af)) (forall_mem_cons.mpr ⟨⟨_,_,_,_,T.eQ,T.qQ,eZ T,hr.mono (by decide),T.gU⟩,forall_mem_cons.mpr ⟨⟨_,_,_,_,T.aW,T.cK,eZ T,hr.mono (by decide),T.gU⟩,forall_mem_cons.mpr ⟨⟨_,_,_,_,T.cI,T.cT,eZ T,hr.mono (by decide),T.gU⟩,forall_mem_nil _⟩⟩⟩) .nil aw) ai (λ_ _=>rfl)))),?_⟩;obtain⟨dx,h1⟩:=h.ob;have f1:=aX (rv:=A.rv) (hd:=A.hd) (md:=A.md) (n:="thing_of");dsimp! [h1,HO.ins.injEq,f1];refine⟨Pr,A,g,ts,hs,i,t,rfl,h,ht,λp d hT=>?_⟩;obtain⟨O1,Em⟩:=hT.ob;refine⟨p,rfl,_,_,_,Em,t.no d,_,t.mem _,p,d,t,rfl,hT,λr xs hr mC hz=>?_⟩;have s1:=ak.put (o:=.lst xs) hr;have RW:xs[0]?=some (xs[0]'(by have:=(List.getElem?_eq_some_iff.mp hv).1; have:=mC.1; omega)):=getElem?_eq_getElem _;exact⟨r,_,_,_,rfl,rfl,ba.of ae,dk (j:=0) RW,q _ _ s1 ((mC.2 0 _ v RW hv).same s1)⟩
inductive kS (a:eI) (K:Frag) (vs:List V) (H:Hp) (Q:VK) (E:XK):Prop
 | mk (Pr A g ts hs:_) (_:vs=[.ref A.p]) (_:PH a K Pr H A g ts hs) (_:hs=[]->Q .bN H) (_:∀h qZ t H',hs=h::qZ->Kp A.own H H'->PH a K Pr H' A g ts qZ->bX K H' t [.int (h.1:Int),.int h.2]->Q (.ref t) H'):kS a K vs H Q E
theorem abj (T:Txt K mg a):aU P w K mg base cU 1 a.Ia a.Mx ["self"] (kS a K):=by
 refine T.MR.ok ZO (λvs H Q E h=>?_) (λbY A outer s H vs Q E hr h=>?_)
 ·obtain⟨_,_,_,_,_,rfl,_⟩:=h;rfl
 ·obtain⟨Pr,A,g,ts,hs,rfl,h,q1,q2⟩:=h;refine⟨_,(ah (aB (eJ (U8 (bM (pv 0) rfl)) (mf PySem.F.plainAttrs_list PySem.F.slot_list_pop PySem.F.type_list_pop yC (bM (pv 0) rfl) (aa ai af)) cz))),?_⟩;obtain⟨dx,h1⟩:=h.ob;dsimp! [h1,HO.ins.injEq,T.aj,T.cB,Ek,tLT];obtain⟨xs,h8,h9⟩:=h.he;have hl:=h9.1;refine⟨xs,h8,by have:=h.bO.2; omega,?_⟩
  cases xs with
  | nil=>
   cases hs with
   | nil=>exact bj (λz=>by cases z) λ_=>q1 rfl
   | cons=>cases hl
  | cons x xs=>
   cases hs with
   | nil=>cases hl
   | cons y hs=>
    obtain⟨t,rfl,ht⟩:=h9.2 0 x y rfl rfl;refine bj (λ_=>⟨.inl ⟨rfl,_,ba.of h8⟩,?_⟩) λz=>absurd rfl z
    refine⟨A.hd,_,0,0,_,rfl,rfl,h8,by decide,by decide,by simp [seqIndex?],rfl,?_⟩;have hr:qd K H xs hs:=⟨by simpa using hl,λi x h a b=>h9.2 (i+1) x h a b⟩
    have k:Kp (·=A.hd) H (upd H A.hd (.lst xs)):=(Kp.refl _ _).set rfl;exact q2 y hs t _ rfl ((Kp.refl _ _).set (.inr (.inl rfl))) (h.qY hr (by have:=h.bO.2; rw [length_cons] at this; omega)) (k.cg (λb e=>.inl ⟨V.ref t::xs,by rw [e]; exact h8⟩) ht)
inductive rh (a:eI) (K:Frag) (vs:List V) (H:Hp) (Q:VK) (E:XK):Prop
 | mk (Pr A g ts hs p d t:_) (_:vs=[.ref A.p,.ref p]) (_:PH a K Pr H A g ts hs) (_:gA a K H p d t) (_:d≠A.hd) (_:¬Pr d) (_:ts.length < 500) (_:∀H',Kp A.own H H'->PH a K Pr H' A g (ts++[t]) hs->Q (.int ((ts.length:Int)+1)) H'):rh a K vs H Q E
theorem Ww (T:Txt K mg a):aU P w K mg base cU 2 a.AL a.AM ["self","thing"] (rh a K):=by
 refine T.GF.ok Mi (λvs H Q E h=>?_) (λbY A outer s H vs Q E hr h=>?_)
 ·obtain⟨_,_,_,_,_,_,_,_,rfl,_⟩:=h;rfl
 ·obtain⟨Pr,A,g,ts,hs,p,d,t,rfl,h,hT,Gd,hd2,bO,q⟩:=h;refine⟨_,(ag (aN (i:=2) Mi.nd rfl (Or.inl rfl) (bu nj (dj (pv 0) T.aj T.Wo (Wr T) hr.dm T.aaH .nil aw) ai)) (ag (cH (bB hr) (bM (pv 0) rfl) (pv 2) (pv 1) rfl) (ah (aB (pv 2))))),?_⟩;obtain⟨dx,h1⟩:=h.ob;have f1:=aX (rv:=A.rv) (hd:=A.hd) (md:=A.md) (n:="last");dsimp! [h1,HO.ins.injEq,T.aj,T.aP,fS,f1];refine⟨Pr,A,g,ts,hs,rfl,h,?_⟩;obtain⟨ps,h4,h5,_⟩:=h.th;refine⟨_,rfl,_,_,_,h1,T.aj,T.aP,_,fS _ _ _,_,rfl,_,gE.k (k:=Sum.inl ((ts.length:Int)+1)) h4 (aG (by rw [cq]; omega)),?_⟩;exact q _ ((Kp.refl _ _).set (.inr (.inr rfl))) (h.new (q':=(p,d)) h4 hT ⟨Gd,hd2⟩ bO)
theorem PH.at_ {Pr:Addr->Prop}{H:Hp}{A:HA}{g:Str->Vl}{ts:List Tg}{hs:List (Nat×Int)}(h:PH a K Pr H A g ts hs) {i:Nat}{t:Tg}(ht:ts[i]?=some t):∃ps q,H A.md=some (.dK (dE ps))/\ps[i]?=some q/\gA a K H q.1 q.2 t/\fH H A.md (.int ((i:Int)+1)) (some (.ref q.1))/\ps.length=ts.length:=by
 obtain⟨ps,h4,h5,h6,_⟩:=h.th;have hi:ps[i]?=some (ps[i]'(by have:=(List.getElem?_eq_some_iff.mp ht).1; omega)):=getElem?_eq_getElem _;exact⟨ps,_,h4,hi,h6 i _ t hi ht,by rw [<-ip hi]; exact fH.k (k:=Sum.inl ((i:Int)+1)) h4,h5⟩
inductive js (a:eI) (K:Frag) (vs:List V) (H:Hp) (Q:VK) (E:XK):Prop
 | mk (Pr A g ts hs:_) (i n:Nat) (fs:List Vl) (w:Option Int) (u:V) (v:Vl) (_:vs=[.ref A.p,.int ((i:Int)+1),.int (n:Nat),u]) (_:PH a K Pr H A g ts hs) (_:ts[i]?=some (.plain fs w)) (_:n < fs.length) (_:dJ K H u v) (_:∀H',Kp A.own H H'->PH a K Pr H' A g (ts.set i (.plain (fs.set n v) w)) hs->Q .bN H'):js a K vs H Q E
theorem Wx (T:Txt K mg a):aU P w K mg base cU 5 a.AN a.AO ["self","name","at","value"] (js a K):=by
 refine T.GG.ok V2 (λvs H Q E h=>?_) (λbY A outer s H vs Q E hr h=>?_)
 ·obtain⟨_,_,_,_,_,_,_,_,_,_,_,rfl,_⟩:=h;rfl
 ·obtain⟨Pr,A,g,ts,hs,i,n,fs,w,u,v,rfl,h,ht,hn,hv,q⟩:=h;refine⟨_,(ah (cH (bB hr) (bM (pv 0) rfl) (pv 1) (aS (cf (bB hr) (bM (pv 0) rfl) (pv 1) (λ_ _=>rfl)) T.aW T.We (Ws T) hr.dm T.ZS .nil aw (aa (pv 2) (aa (pv 3) af))) rfl)),?_⟩;obtain⟨dx,h1⟩:=h.ob;obtain⟨ps,r,h4,hi,hT,hg,tV⟩:=h.at_ ht;dsimp! [h1,HO.ins.injEq,T.aj,T.aP,fS];obtain⟨O1,Em⟩:=hT.ob;refine⟨_,hg,r.1,rfl,O1,_,Em,(Tg.plain fs w).no r.2,r.1,r.2,fs,w,u,v,n,rfl,hT,hn,hv,λp' d' H2 s2 O0 yn PN=>?_⟩;have h2:=h.same s2;refine⟨_,_,_,s2 _ _ h1,T.aj,T.aP,_,fS _ _ _,_,rfl,_,gE.k (k:=Sum.inl ((i:Int)+1)) (s2 _ _ h4) (aG (by rw [cq]; have:=h.bO.1; omega)),?_⟩;exact q _ ((ak.kp s2).set (.inr (.inr rfl))) (h2.set (q':=(p',d')) (s2 _ _ h4) hi PN (h.fresh yn))
inductive jt (a:eI) (K:Frag) (vs:List V) (H:Hp) (Q:VK) (E:XK):Prop
 | mk (Pr A g ts hs:_) (i:Nat) (fs:List Vl) (w w':Option Int) (_:vs=[.ref A.p,.int ((i:Int)+1),wV w']) (_:PH a K Pr H A g ts hs) (_:ts[i]?=some (.plain fs w)) (_:∀H',Kp A.own H H'->PH a K Pr H' A g (ts.set i (.plain fs w')) hs->Q .bN H'):jt a K vs H Q E
theorem Nj (T:Txt K mg a):aU P w K mg base cU 5 a.AQ a.AR ["self","name","words"] (jt a K):=by
 refine T.GH.ok V3 (λvs H Q E h=>?_) (λbY A outer s H vs Q E hr h=>?_)
 ·obtain⟨_,_,_,_,_,_,_,_,_,rfl,_⟩:=h;rfl
 ·obtain⟨Pr,A,g,ts,hs,i,fs,w,w',rfl,h,ht,q⟩:=h;refine⟨_,(ah (cH (bB hr) (bM (pv 0) rfl) (pv 1) (aS (cf (bB hr) (bM (pv 0) rfl) (pv 1) (λ_ _=>rfl)) T.aW T.Wf (Wv T) hr.dm T.ZT .nil aw (aa (pv 2) af)) rfl)),?_⟩;obtain⟨dx,h1⟩:=h.ob;obtain⟨ps,r,h4,hi,hT,hg,tV⟩:=h.at_ ht;dsimp! [h1,HO.ins.injEq,T.aj,T.aP,fS];obtain⟨O1,Em⟩:=hT.ob;refine⟨_,hg,r.1,rfl,O1,_,Em,(Tg.plain fs w).no r.2,r.1,r.2,fs,w,w',rfl,hT,λp' d' H2 s2 O0 yn PN=>?_⟩;have h2:=h.same s2;refine⟨_,_,_,s2 _ _ h1,T.aj,T.aP,_,fS _ _ _,_,rfl,_,gE.k (k:=Sum.inl ((i:Int)+1)) (s2 _ _ h4) (aG (by rw [cq]; have:=h.bO.1; omega)),?_⟩;exact q _ ((ak.kp s2).set (.inr (.inr rfl))) (h2.set (q':=(p',d')) (s2 _ _ h4) hi PN (h.fresh yn))
inductive Cj (a:eI) (K:Frag) (vs:List V) (H:Hp) (Q:VK) (E:XK):Prop
 | mk (Pr A g ts hs:_) (i:Nat) (_:vs=[.ref A.p,.int ((i:Int)+1)]) (_:PH a K Pr H A g ts hs) (_:i < ts.length) (_:∀H',Kp A.own H H'->PH a K Pr H' A g (ts.set i (.weak .no)) hs->Q .bN H'):Cj a K vs H Q E
theorem Wy (T:Txt K mg a):aU P w K mg base cU 4 a.AS a.AU ["self","serial"] (Cj a K):=by
 refine T.GI.ok V4 (λvs H Q E h=>?_) (λbY A outer s H vs Q E hr h=>?_)
 ·obtain⟨_,_,_,_,_,_,rfl,_⟩:=h;rfl
 ·obtain⟨Pr,A,g,ts,hs,i,rfl,h,hi,q⟩:=h;refine⟨_,(ah (cH (bB hr) (bM (pv 0) rfl) (pv 1) (aD (Nb T) hr.dm rfl T.Rn T.uB.kp T.Rm .nil aw (aa (dc (v:=.ref a.aV) rfl T.bf rfl) af)) rfl)),?_⟩;obtain⟨dx,h1⟩:=h.ob;obtain⟨ps,r,h4,hr,_,_,tV⟩:=h.at_ (getElem?_eq_getElem hi);dsimp! [h1,HO.ins.injEq,T.aj,T.aP,fS,T.bf];refine⟨_,.no,rfl,⟨_,rfl,T.dI _⟩,λp' d' H2 s2 O0 yn PN=>?_⟩;have h2:=h.same s2;refine⟨_,_,_,s2 _ _ h1,T.aj,T.aP,_,fS _ _ _,_,rfl,_,gE.k (k:=Sum.inl ((i:Int)+1)) (s2 _ _ h4) (aG (by rw [cq]; have:=h.bO.1; omega)),?_⟩;exact q _ ((ak.kp s2).set (.inr (.inr rfl))) (h2.set (q':=(p',d')) (s2 _ _ h4) hr PN (h.fresh yn))
inductive mE (a:eI) (K:Frag) (vs:List V) (H:Hp) (Q:VK) (E:XK):Prop
 | mk (Pr A g ts hs:_) (i:Nat) (_:vs=[.ref A.p,.int ((i:Int)+1)]) (_:PH a K Pr H A g ts hs) (_:i < ts.length) (_:∀H',Kp A.own H H'->PH a K Pr H' A g (ts.set i (.pair .no .no)) hs->Q .bN H'):mE a K vs H Q E
theorem Wz (T:Txt K mg a):aU P w K mg base cU 5 a.AV a.AW ["self","serial"] (mE a K):=by
 refine T.GJ.ok V5 (λvs H Q E h=>?_) (λbY A outer s H vs Q E hr h=>?_)
 ·obtain⟨_,_,_,_,_,_,rfl,_⟩:=h;rfl
 ·obtain⟨Pr,A,g,ts,hs,i,rfl,h,hi,q⟩:=h;refine⟨_,(ah (cH (bB hr) (bM (pv 0) rfl) (pv 1) (aD (Nd T) hr.dm rfl T.Rp T.uC.kp T.Ro .nil aw (aa (dc (v:=.ref a.aV) rfl T.bf rfl) (aa (dc (v:=.ref a.aV) rfl T.bf rfl) af))) rfl)),?_⟩;obtain⟨dx,h1⟩:=h.ob;obtain⟨ps,r,h4,hr,_,_,tV⟩:=h.at_ (getElem?_eq_getElem hi);dsimp! [h1,HO.ins.injEq,T.aj,T.aP,fS,T.bf];refine⟨_,_,.no,.no,rfl,⟨_,rfl,T.dI _⟩,⟨_,rfl,T.dI _⟩,λp' d' H2 s2 O0 yn PN=>?_⟩;have h2:=h.same s2;refine⟨_,_,_,s2 _ _ h1,T.aj,T.aP,_,fS _ _ _,_,rfl,_,gE.k (k:=Sum.inl ((i:Int)+1)) (s2 _ _ h4) (aG (by rw [cq]; have:=h.bO.1; omega)),?_⟩;exact q _ ((ak.kp s2).set (.inr (.inr rfl))) (h2.set (q':=(p',d')) (s2 _ _ h4) hr PN (h.fresh yn))
inductive pq (a:eI) (K:Frag) (vs:List V) (H:Hp) (Q:VK) (E:XK):Prop
 | mk (Pr A g ts hs:_) (i:Nat) (fs:List Vl) (w:Int) (_:vs=[.ref A.p,.int ((i:Int)+1)]) (_:PH a K Pr H A g ts hs) (_:ts[i]?=some (.plain fs (some w))) (_:hs.length < 500) (_:∀H',Kp A.own H H'->PH a K Pr H' A g (ts.set i (.plain fs none)) (hs++[(i+1,w)])->Q .bN H'):pq a K vs H Q E
theorem WA (T:Txt K mg a):aU P w K mg base cU 6 a.AX a.AY ["self","serial"] (pq a K):=by
 refine T.GK.ok V6 (λvs H Q E h=>?_) (λbY A outer s H vs Q E hr h=>?_)
 ·obtain⟨_,_,_,_,_,_,_,_,rfl,_⟩:=h;rfl
 ·obtain⟨Pr,A,g,ts,hs,i,fs,w,rfl,h,ht,bO,q⟩:=h;refine⟨_,(ag (aY (mf PySem.F.plainAttrs_list PySem.F.slot_list_append PySem.F.type_list_append fc (bM (pv 0) rfl) (aa (bo (aa (pv 1) (aa (dj (cf (bB hr) (bM (pv 0) rfl) (pv 1) (λ_ _=>rfl)) T.aW T.MG (M8 T) hr.dm T.Rl .nil aw) af))) af))) (ah (aY (aS (pv 0) T.aj T.MV (Nj T) hr.dm T.RF .nil aw (aa (pv 1) (aa cz af)))))),?_⟩;obtain⟨dx,h1⟩:=h.ob;obtain⟨ps,r,h4,hi,hT,hg,tV⟩:=h.at_ ht;have f1:=aX (rv:=A.rv) (hd:=A.hd) (md:=A.md) (n:="change_words");dsimp! [h1,HO.ins.injEq,T.aj,T.aP,T.cB,fS,Ek,f1];obtain⟨xs,h8,h9⟩:=h.he;obtain⟨O1,Em⟩:=hT.ob;refine⟨.inl ⟨rfl,_,ba.of h8⟩,_,hg,r.1,rfl,O1,_,Em,(Tg.plain fs (some w)).no r.2,r.1,r.2,fs,some w,rfl,hT,by simp [sizeLine_eq],λtt htt=>?_⟩;have s2:=ak.put (o:=.tup [.int ((i:Int)+1),.int w]) htt;have h2:=h.same s2;have hl:=h9.1;have hr3:qd K (upd H tt (.tup [.int ((i:Int)+1),.int w])) (xs++[.ref tt]) (hs++[(i+1,w)]):=by
   refine⟨by simp [hl],λj x y a b=>?_⟩
   by_cases z:j < xs.length
   ·rw [getElem?_append_left z] at a;rw [getElem?_append_left (by omega)] at b;obtain⟨t,e,h⟩:=h9.2 j x y a b;exact⟨t,e,s2.cg h⟩
   ·have ej:j=xs.length:=by
     have:=(List.getElem?_eq_some_iff.mp a).1;rw [length_append,length_singleton] at this;omega
    subst ej;rw [getElem?_append_right (Nat.le_refl _),Nat.sub_self] at a;rw [<-hl,getElem?_append_right (Nat.le_refl _),Nat.sub_self] at b;cases a;cases b;exact⟨tt,rfl,bX.of ae⟩
  refine⟨A.hd,xs,.ref tt,rfl,rfl,s2 _ _ h8,aG (by have:=h.bO.2; omega),?_⟩;have h3:=h2.qY hr3 (by rw [length_append,length_singleton]; omega);obtain⟨dx3,h31⟩:=h3.ob;refine⟨_,_,h31,f1,Pr,A,g,ts,_,i,fs,some w,none,rfl,h3,ht,λH4 k4 h4'=>?_⟩;exact q H4 (((ak.kp s2).set (.inr (.inl rfl))).trans k4) h4'
noncomputable def vD (v:Vl):D:=.tup (v.items.map fD)
theorem dJ.nU {H:Hp}{x:V}{v:Vl}(h:dJ K H x v):gM K H x (vD v):=by
 obtain⟨t,rfl,ht⟩:=h;refine .Q5 ht λx hx=>?_
 cases v with
 | no=>
  rw [mem_singleton.mp hx];rfl
 | num n=>
  simp only [Vl.items,mem_cons,not_mem_nil,or_false] at hx;rcases hx with rfl | rfl <;> rfl
 | th n=>
  simp only [Vl.items,mem_cons,not_mem_nil,or_false] at hx;rcases hx with rfl | rfl <;> rfl
theorem lx (v:Vl):(vD v).dep=1:=by rw [vD,D.dep,ub]
theorem G8:∀vl:List Vl,fX (vl.map vD)<=1
 | []=>by rw [List.map_nil,fX]; exact Nat.zero_le _
 | v::vl=>by
  rw [List.map_cons,fX,lx];have:=G8 vl;omega
theorem ik.nU {H:Hp}{l:Addr}{xs:List V}{vl:List Vl}(h:ba K H l xs) (hv:ik K H xs vl):gM K H (.ref l) (.lst (vl.map vD)):=by
 refine .lst h (by rw [length_map]; exact hv.1.symm) λi x d hx hd=>?_
 rw [getElem?_map] at hd
 cases e:vl[i]? with
 | none=>rw [e] at hd; cases hd
 | some v=>
  rw [e] at hd;cases hd;exact(hv.2 i x v hx e).nU
inductive RX (K:Frag) (vs:List V) (H:Hp) (Q:VK) (E:XK):Prop
 | mk (p C dx:_) (_:vs=[.ref p]) (_:sQ K C) (_:cJ K C "root_values") (_:cJ K C "heard") (_:H p=some (.ins C dx [])) (_:∀rv hd H',Ie p H H'->H rv=none->H hd=none->rv≠hd->H' p=some (.ins C dx (b_ "heard" (.ref hd) (b_ "root_values" (.ref rv) [])))->H' rv=some (.dK [])->H' hd=some (.lst [])->Q .bN H'):RX K vs H Q E
theorem abk (T:Txt K mg a):aU P w K mg base cU 1 a.HV a.Mq ["self"] (RX K):=by
 refine T.ML.ok ZI (λvs H Q E h=>?_) (λbY A outer s H vs Q E hr h=>?_)
 ·obtain⟨_,_,_,rfl,_⟩:=h;rfl
 ·obtain⟨p,C,dx,rfl,hC,n1,n2,h1,q⟩:=h;refine⟨_,(ag (iu (pv 0) gq rfl) (ah (iu (pv 0) (bP af) rfl))),?_⟩;dsimp! [];refine λrv WB=>?_
  have n1':rv≠p:=(aC h1 WB).symm;have e1:upd H rv (.dK []) p=some (.ins C dx []):=by rw [au n1'.symm]; exact h1
  refine⟨C,dx,[],e1,hC,n1,by decide,λhd RY=>?_⟩;have n2':hd≠p:=λz=>by rw [z,ae] at RY; cases RY
  have WC:upd H rv (.dK []) hd=none:=by rw [au n2'] at RY; exact RY
  have n3':rv≠hd:=aC ae WC;have abl:H hd=none:=by rw [au n3'.symm] at WC; exact WC
  refine⟨C,dx,_,by rw [au n2'.symm,ae],hC,n2,Nat.lt_of_le_of_lt (bT _ _ _) (by decide),q rv hd _ (λb o hb e=>?_) WB abl n3' ae ?_ ?_⟩
  ·rw [au hb,au (aC e abl),au hb,au (aC e WB)];exact e
  ·rw [au n1',au n3',au n1',ae]
  ·rw [au n2',ae]
inductive Nk (a:eI) (K:Frag) (vs:List V) (H:Hp) (Q:VK) (E:XK):Prop
 | mk (p dx:_) (_:vs=[.ref p]) (_:H p=some (.ins a.aQ dx [])) (_:∀A H',A.p=p->Ie p H H'->H A.rv=none->H A.hd=none->H A.md=none->(∀Pr:Addr->Prop,(∀b,Pr b->H b≠none)->PH a K Pr H' A (λ_=>.no) [] [])->Q .bN H'):Nk a K vs H Q E
theorem WD (T:Txt K mg a):aU P w K mg base cU 2 a.AF a.AG ["self"] (Nk a K):=by
 refine T.GB.ok V0 (λvs H Q E h=>?_) (λbY A outer s H vs Q E hr h=>?_)
 ·obtain⟨_,_,rfl,_⟩:=h;rfl
 ·obtain⟨p,dx,rfl,h1,q⟩:=h;refine⟨_,(ag (aY (vM (dc (v:=.ref a.cA) rfl T.Cf rfl) T.nO (abk T) hr.dm T.ael .nil aw (aa (pv 0) af))) (ah (iu (pv 0) gq rfl))),?_⟩;dsimp! [];refine⟨p,_,dx,rfl,T.aj,T.bH,T.cB,h1,λrv hd H2 k2 WB RY nrh h2 e1 e2=>λmd hmd=>?_⟩;have kp:∀b o,b≠p->H b=some o->H2 b=some o:=k2;have nm1:md≠p:=(aC h2 hmd).symm;have nm2:md≠rv:=(aC e1 hmd).symm;have nm3:md≠hd:=(aC e2 hmd).symm;have nr:rv≠p:=(aC h1 WB).symm;have nh:hd≠p:=(aC h1 RY).symm;have P7:H md=none:=by
   cases e:H md with
   | none=>rfl
   | some u=>rw [kp md u nm1 e] at hmd; cases hmd
  refine⟨_,dx,_,by rw [au nm1.symm]; exact h2,T.aj,T.aP,Nat.lt_of_le_of_lt (bT _ _ _) (Nat.lt_of_le_of_lt (Nat.succ_le_succ (bT _ _ _)) (by decide)),q ⟨p,rv,hd,md⟩ _ rfl (λb o hb e=>?_) WB RY P7 λPr hPr=>?_⟩
  ·rw [au hb,au (aC e P7)];exact k2 b o hb e
  ·refine⟨⟨dx,ae⟩,⟨[],by rw [au nr,au nm2.symm]; exact e1,List.nodup_nil,(λkv h=>(nomatch h)),(λx u e=>by cases e),λ_ _=>rfl⟩,⟨[],by rw [au nm1,ae]; rfl,rfl,(λi q t h=>by simp at h),λq hq=>(nomatch hq)⟩,⟨[],by rw [au nh,au nm3.symm]; exact e2,rfl,λi x h a=>by simp at a⟩,nm2.symm,λb hb=>⟨?_,λz=>?_⟩,by decide,by decide⟩
   ·by_cases z:b=p
    ·rw [z,ae]; intro y; cases y
    ·rw [au z];have:=hPr b hb
     cases e:H b with
     | none=>exact absurd e this
     | some u=>rw [au (aC e P7),kp b u z e]; intro y; cases y
   ·rcases z with z | z | z
    ·exact hPr b hb (z▸WB)
    ·exact hPr b hb (z▸RY)
    ·exact hPr b hb (z▸P7)
theorem aex {a D:Addr}{o:Obj}{fr:List Nat}{tt:TT}{te:TE}{σ:St}{Q:Hp->Prop}{H:Hp}(kvs:List (Key×V)) (Pv:Nat->List V->Hp->Prop) (h0:Pv 0 [] H) (hl:∀i ys H,i<=kvs.length->Pv i ys H->H a=some (.fI o (.dK kvs)))
  (hs:∀i m kv t ys H,m+1+i=kvs.length->kvs[i]?=some kv->Pv i ys H->H t=none->tt (bJ fr σ (some (kV kv.1)) (some kv.2)) (upd H t (.tup [kV kv.1,kv.2])) λb H3=>if b=true then te (bJ fr σ (some (kV kv.1)) (some kv.2)) H3 (UO D Pv kvs.length (m+1) i)else UP Pv kvs.length (m+1) i H3)
  (hq:∀ys H,Pv kvs.length ys H->Q H):jb K (Iti a o kvs) fr tt te σ D Q H:=by
 refine⟨λi m H2=>m+i=kvs.length/\∃ys,Pv i ys H2,⟨kvs.length,rfl,[],h0⟩,?_⟩;rintro i m H2 ⟨hm,ys,hp⟩;have hS:=hl i ys H2 (by omega) hp
 cases m with
 | zero=>
  have e:i=kvs.length:=by omega
  subst e;exact .inl ⟨⟨Nat.le_refl _,hS⟩,hq ys H2 hp⟩
 | succ m=>
  have hi:i < kvs.length:=by omega
  refine .inr ⟨⟨hi,hS⟩,λv H' y=>?_⟩;obtain⟨t,kv,ht,e,rfl,rfl⟩:=y;exact⟨t,_,_,rfl,bX.of ae,hs i m kv t ys H2 hm e hp ht⟩
theorem jW {kvs:List (Key×V)}{k:Key}{v:V}(h:bz kvs k=some v):(k,v)∈kvs:=by
 unfold bz at h
 cases e:kvs.find? λx=>decide (x.1=k)with
 | none=>rw [e] at h; cases h
 | some y=>
  rw [e] at h;have h1:=List.find?_some e;have h2:y.1=k:=of_decide_eq_true h1;have h3:y.2=v:=Option.some.inj h;rw [<-h2,<-h3];exact List.mem_of_find?_eq_some e
theorem uX:∀(ps acc:List (Key×V)),((acc++ps).map (·.1)).Nodup->ps.foldl (λacc p=>putK acc p.1 p.2) acc=acc++ps
 | [],acc,_=>(append_nil _).symm
 | p::ps,acc,h=>by
  have hn:bz acc p.1=none:=by
   cases e:bz acc p.1 with
   | none=>rfl
   | some v=>
    rw [map_append] at h;exact absurd rfl ((nodup_append.mp h).2.2 p.1 (qa e) p.1 (by rw [List.map_cons]; exact mem_cons_self))
  rw [List.foldl_cons,jO _ hn,uX ps _ (by rw [append_assoc]; exact h),append_assoc];rfl
theorem uY {ps:List (Key×V)}(h:(ps.map (·.1)).Nodup):putAll ps=ps:=uX ps [] h
noncomputable def Vl.wN:Vl->Bool
 | .no=>true
 | _=>false
theorem Vl.Nl {v:Vl}:v.wN=true↔v=.no:=by cases v <;> simp [Vl.wN]
theorem abm (v:Vl):bI (vD v) (vD .no)=v.wN:=by
 cases v with
 | no=>exact fN _
 | num n=>
  rw [vD,vD,bI];exact gn (by rw [length_map,length_map]; show(2:Nat)≠1; decide)
 | th n=>
  rw [vD,vD,bI];exact gn (by rw [length_map,length_map]; show(2:Nat)≠1; decide)
noncomputable def keepR (g:Str->Vl) (kv:Key×V):Bool:=match kv.1 with
 | .inr x=>!(g x).wN
 | .inl _=>false
noncomputable def pw (H:Hp) (ts:List Addr) (ju:List (Key×V)):Prop:=ts.length=ju.length/\∀(i:Nat) t p,ts[i]?=some t->ju[i]?=some p->H t=some (.tup [kV p.1,p.2])
theorem pw.snoc {H:Hp}{ts:List Addr}{ju:List (Key×V)}{t:Addr}{p:Key×V}(h:pw H ts ju) (ht:H t=some (.tup [kV p.1,p.2])):pw H (ts++[t]) (ju++[p]):=⟨by rw [length_append,length_append,h.1]; rfl,λi u r a b=>by
 by_cases hi:i < ts.length
 ·rw [getElem?_append_left hi] at a;rw [getElem?_append_left (by rw [<-h.1]; exact hi)] at b;exact h.2 i u r a b
 ·have e:i=ts.length:=by
   have:=(List.getElem?_eq_some_iff.mp a).1;rw [length_append,length_singleton] at this;omega
  subst e;rw [getElem?_append_right (Nat.le_refl _),Nat.sub_self] at a;rw [h.1,getElem?_append_right (Nat.le_refl _),Nat.sub_self] at b;cases a;cases b;exact ht⟩
theorem pw.up {H H':Hp}{ts:List Addr}{ju:List (Key×V)}(h:pw H ts ju) (k:∀b ys,H b=some (.tup ys)->H' b=some (.tup ys)):pw H' ts ju:=⟨h.1,λi t p a b=>k _ _ (h.2 i t p a b)⟩
theorem nT.kept {H:Hp}{kvs:List (Key×V)}{g:Str->Vl}(h:nT K H kvs g):nT K H (kvs.filter (keepR g)) g/\∀x u,bz (kvs.filter (keepR g)) (Sum.inr x)=some u->g x≠.no:=by
 have nd:((kvs.filter (keepR g)).map (·.1)).Nodup:=List.Sublist.nodup (List.Sublist.map _ List.filter_sublist) h.nd;have at_:∀x u,bz (kvs.filter (keepR g)) (Sum.inr x)=some u->(Sum.inr x,u)∈kvs/\g x≠.no:=λx u e=>by
  obtain⟨h1,h2⟩:=List.mem_filter.mp (jW e);refine⟨h1,λz=>?_⟩;have h3:(!(g x).wN)=true:=h2;rw [z] at h3;cases h3
 refine⟨⟨nd,λkv hk=>h.ks kv (List.mem_filter.mp hk).1,λx u e=>?_,λx e=>?_⟩,λx u e=>(at_ x u e).2⟩
 ·obtain⟨i,hi⟩:=mem_iff_getElem?.mp (at_ x u e).1;exact h.at_ x u (il h.nd hi)
 ·cases e2:bz kvs (Sum.inr x)with
  | none=>exact h.no x e2
  | some u=>
   by_cases z:(g x).wN=true
   ·exact Vl.Nl.mp z
   ·refine absurd (mem_map.mpr ⟨(Sum.inr x,u),List.mem_filter.mpr ⟨jW e2,?_⟩,rfl⟩) (jQ e);show(!(g x).wN)=true;rw [Bool.eq_false_iff.mpr z];rfl
inductive Ck (a:eI) (K:Frag) (vs:List V) (H:Hp) (Q:VK) (E:XK):Prop
 | mk (Pr A g ts hs:_) (_:vs=[.ref A.p]) (_:PH a K Pr H A g ts hs) (_:∀r jh H',ak H H'->H r=none->H' r=some (.dK jh)->nT K H' jh g->(∀x u,bz jh (Sum.inr x)=some u->g x≠.no)->Q (.ref r) H'):Ck a K vs H Q E
noncomputable def IRt (A:HA) (g:Str->Vl) (kvs:List (Key×V)) (o:Obj) (D:Addr) (H:Hp) (i:Nat) (ys:List V) (H2:Hp):Prop:=H2 A.rv=some (.fI o (.dK kvs))/\Kp (·=A.rv) H H2/\H2 D=some (.lst ys)/\∃us:List Addr,ys=us.map V.ref/\pw H2 us ((kvs.take i).filter (keepR g))
theorem En (T:Txt K mg a):aU P w K mg base cU 2 a.AZ a.A0 ["self"] (Ck a K):=by
 refine T.GL.ok V7 (λvs H Q E h=>?_) (λbY A outer s H vs Q E hr h=>?_)
 ·obtain⟨_,_,_,_,_,rfl,_⟩:=h;rfl
 ·obtain⟨Pr,A,g,ts,hs,rfl,h,q⟩:=h;refine⟨_,(ah (aB (cv (qE rfl) rfl T.lu mi (aa (F8 (Kd rfl (Ke (x:="letter") (x2:="value") (ns:=[]) (fr:=[]) rfl (by decide +kernel) rfl (by decide +kernel) rfl rfl (forall_mem_nil _) rfl rfl (forall_mem_nil _) (by decide +kernel)) (yP (DF PySem.F.plainAttrs_dict PySem.F.slot_dict_items PySem.F.type_dict_items yO (bM (pv 0) rfl))) (λ_ _ _ _=>(bo (aa (pv 0) (aa (pv 1) af)))) (λ_ _ _ _=>(.one (aF (PV (K:=K) rfl hr.units) (pv 1) (dc (v:=.ref a.aV) rfl T.bf rfl) (aH _)))))) af)))),?_⟩;obtain⟨dx,h1⟩:=h.ob;obtain⟨kvs,h2,h3⟩:=h.rt;dsimp! [h1,HO.ins.injEq,T.aj,T.bH,Ej,DO,T.bf];have npv:∀p,H p=none->A.rv≠p:=λp hp=>aC h2 hp
  refine⟨.inr (.inr (.inl ⟨rfl,.inl ⟨kvs,h2⟩⟩)),kvs,.inl h2,λp hp=>⟨A.rv,ae,kvs,by rw [au (npv p hp)]; exact h2,λo D hD=>?_⟩⟩;have k0:Kp (·=A.rv) H (upd (upd H p (.ext λh=>h.IsItemsView p A.rv)) A.rv (.fI o (.dK kvs))):=((Kp.refl _ _).put hp).set rfl;have f0:upd (upd H p (.ext λh=>h.IsItemsView p A.rv)) A.rv (.fI o (.dK kvs)) A.rv=some (.fI o (.dK kvs)):=ae;generalize upd (upd H p (.ext λh=>h.IsItemsView p A.rv)) A.rv (.fI o (.dK kvs))=H1 at hD k0 f0;have nD:A.rv≠D:=aC f0 hD;have hD0:H D=none:=by
   cases e:H D with
   | none=>rfl
   | some u=>rw [k0 D u nD.symm e] at hD; cases hD
  have mu:∀b,b=A.rv->Mu H b:=λb e=>.inr ⟨kvs,by rw [e]; exact h2⟩
  refine aex kvs (IRt A g kvs o D H) ⟨by rw [au nD]; exact f0,k0.put hD,ae,[],rfl,rfl,λi t p a=>by simp at a⟩ (λi ys H2 _ h=>h.1) (λi m kv t ys H2 hm lR h ht=>?_) λys H2 h=>?_
  ·obtain⟨a1,a2,a3,us,a4,a5⟩:=h;have hv:∃x,x∈P6/\kv.1=Sum.inr x/\dJ K H kv.2 (g x):=by
    obtain⟨x,hx,e⟩:=h3.ks kv (mem_of_getElem? lR);exact⟨x,hx,e,h3.at_ x kv.2 (by rw [<-e]; exact il h3.nd lR)⟩
   obtain⟨x,hx,ex,mC⟩:=hv;have k2:=a2.put (o:=.tup [kV kv.1,kv.2]) ht;have aey:=mC.kp k2 mu;have hno:dJ K (upd H2 t (.tup [kV kv.1,kv.2])) (.ref a.aV) .no:=⟨_,rfl,T.dI _⟩
   have nrt:A.rv≠t:=aC a1 ht;have nDt:D≠t:=aC a3 ht;have hlen:us.length<=i:=by
    rw [a5.1];refine Nat.le_trans (List.length_filter_le _ _) ?_;rw [length_take];exact Nat.min_le_left _ _
   have bO:=h3.bO;have hsn:kvs.take (i+1)=kvs.take i++[kv]:=by rw [take_add_one,lR]; rfl
   have hkp:keepR g kv=!(g x).wN:=by unfold keepR; rw [ex]
   dsimp! [bJ];refine⟨_,_,aey.nU,hno.nU,by rw [lx]; decide,?_⟩;rw [abm]
   cases e:(g x).wN with
   | true=>
    refine⟨_,rfl,?_⟩;rw [if_neg (by simp)];refine⟨m,Nat.lt_succ_self m,by omega,ys,by rw [au nrt]; exact a1,k2,by rw [au nDt]; exact a3,us,a4,?_⟩;rw [hsn,filter_append,List.filter_cons_of_neg (by rw [hkp,e]; simp),List.filter_nil,append_nil];exact a5.up λb ys e=>by rw [au (aC e ht)]; exact e
   | false=>
    refine⟨_,rfl,?_⟩;rw [if_pos (by simp)];refine⟨by decide,λz hz=>?_⟩;have nrz:A.rv≠z:=aC (by rw [au nrt]; exact a1) hz;have nDz:D≠z:=aC (by rw [au nDt]; exact a3) hz;have hz2:H2 z=none:=dQ hz;have nzD:z≠D:=nDz.symm;refine⟨ys,by rw [au nDz,au nDt]; exact a3,by rw [a4,length_map]; exact aG (by omega),m,Nat.lt_succ_self m,by omega,ys++[.ref z],by rw [au nD,au nrz,au nrt]; exact a1,λb u hb e=>?_,ae,us++[z],by rw [a4,map_append]; rfl,?_⟩
    ·have e2:=k2 b u hb e;have e3:=ak.put (o:=.tup [kV kv.1,kv.2]) hz b u e2;rw [au (λy=>by rw [y,hD0] at e; cases e)];exact e3
    ·rw [hsn,filter_append,List.filter_cons_of_pos (by rw [hkp,e]; rfl),List.filter_nil];refine pw.snoc (a5.up λb ys e=>?_) (by rw [au nzD,ae]);rw [au (λy=>by rw [y,a3] at e; cases e),au (aC e hz2),au (aC e ht)];exact e
  ·obtain⟨a1,a2,a3,us,a4,a5⟩:=h;rw [take_length] at a5;have sm:ak H (upd H2 A.rv (.dK kvs)):=λb u e=>by
    by_cases z:b=A.rv
    ·rw [z,ae,<-h2,<-z,e]
    ·rw [au z];exact a2 b u z e
   have bO:(kvs.filter (keepR g)).length<=1000:=Nat.le_trans (List.length_filter_le _ _) (by have:=h3.bO; omega);obtain⟨r1,r2⟩:=h3.kept;refine .inr ⟨A.rv,kvs,_,⟨λo u z=>?_,⟨o,a1⟩,rfl⟩,D,rfl,us,by rw [au nD.symm,<-a4]; exact a3,kvs.filter (keepR g),a5.1,λi t p hi hk=>?_,bO,λr hr=>?_⟩
   ·have z2:H A.rv=some (.fI o u):=z;rw [h2] at z2;cases z2
   ·have:=a5.2 i t p hi hk;rw [au λz=>by rw [z,a1] at this; cases this];exact this
   ·rw [uY r1.nd];exact q r _ _ (sm.trans (ak.put hr)) (sm.free hr) ae (r1.same (sm.trans (ak.put hr))) r2
noncomputable def e_ (K:Frag) (H:Hp) (p l:Addr) (t:Tg):Prop:=H p=some (.tup [.str t.sort,.ref l,wV t.words])/\∃xs,H l=some (.lst xs)/\ik K H xs t.fs/\xs.length<=1000
theorem e_.same {H H':Hp}{p l:Addr}{t:Tg}(h:e_ K H p l t) (k:ak H H'):e_ K H' p l t:=by
 obtain⟨h1,xs,h2,h3,h4⟩:=h;exact⟨k _ _ h1,xs,k _ _ h2,h3.same k,h4⟩
theorem bX.upF {H:Hp}{t b:Addr}{o:Obj}{kvs:List (Key×V)}{u:HO}{xs:List V}(h:bX K H t xs) (hb:H b=some (.fI o (.dK kvs))):bX K (upd H b u) t xs:=by
 rcases h with (h | ⟨o,h⟩) | h
 ·exact .inl (.inl (by rw [au λz=>by rw [z,hb] at h; cases h]; exact h))
 ·exact .inl (.inr ⟨o,by rw [au λz=>by rw [z,hb] at h; cases h]; exact h⟩)
 ·exact .inr h
theorem ik.upF {H:Hp}{b:Addr}{o:Obj}{kvs:List (Key×V)}{u:HO}{xs:List V}{vl:List Vl}(h:ik K H xs vl) (hb:H b=some (.fI o (.dK kvs))):ik K (upd H b u) xs vl:=⟨h.1,λi x v a b=>by
 obtain⟨t,e,ht⟩:=h.2 i x v a b;exact⟨t,e,bX.upF ht hb⟩⟩
theorem e_.put {H:Hp}{p l r:Addr}{t:Tg}{kvs:List (Key×V)}{u:HO}(h:e_ K H p l t) (hr:H r=some (.dK kvs)):e_ K (upd H r u) p l t:=by
 obtain⟨h1,xs,h2,h3,h4⟩:=h;have k:Kp (·=r) H (upd H r u):=(Kp.refl _ _).set rfl;exact⟨k _ _ (λz=>by rw [z,hr] at h1; cases h1) h1,xs,k _ _ (λz=>by rw [z,hr] at h2; cases h2) h2,h3.kp k λb e=>.inr ⟨kvs,by rw [e]; exact hr⟩,h4⟩
inductive uZ (a:eI) (K:Frag) (vs:List V) (H:Hp) (Q:VK) (E:XK):Prop
 | mk (Pr A g ts hs:_) (_:vs=[.ref A.p]) (_:PH a K Pr H A g ts hs) (_:∀r (rows:List (Addr×Addr)) H',ak H H'->H r=none->H' r=some (.dK (dE rows))->rows.length=ts.length->(∀(i:Nat) q t,rows[i]?=some q->ts[i]?=some t->e_ K H' q.1 q.2 t/\H q.2=none)->(rows.map (·.2)).Nodup->Q (.ref r) H'):uZ a K vs H Q E
noncomputable def ITh {a:eI}(K:Frag) (A:HA) (ts:List Tg) (ps:List (Addr×Addr)) (o:Obj) (r:Addr) (H:Hp) (i:Nat) (σ:St) (H2:Hp):Prop:=∃v1 v2,σ=[some (.ref A.p),some (.ref r),v1,v2]/\H2 A.md=some (.fI o (.dK (dE ps)))/\Kp (·=A.md) H H2/\∃rows:List (Addr×Addr),H2 r=some (.dK (dE rows))/\rows.length=i/\(∀(i:Nat) q t,rows[i]?=some q->ts[i]?=some t->e_ K H2 q.1 q.2 t/\H q.2=none)/\(rows.map (·.2)).Nodup
theorem wO (T:Txt K mg a):aU P w K mg base cU 2 a.A3 a.A4 ["self"] (uZ a K):=by
 refine T.GO.ok vY (λvs H Q E h=>?_) (λbY A outer s H vs Q E hr h=>?_)
 ·obtain⟨_,_,_,_,_,rfl,_⟩:=h;rfl
 ·obtain⟨Pr,A,g,ts,hs,rfl,h,q⟩:=h;refine⟨_,(ag (aN (i:=1) vY.nd rfl (Or.inl rfl) gq) (ag (vR (cp PassesOwn.never rfl (yP (DF PySem.F.plainAttrs_dict PySem.F.slot_dict_items PySem.F.type_dict_items yO (bM (pv 0) rfl))) (jF (n:=2) rfl (cm (a_ (i:=2) vY.nd rfl (Or.inl rfl)) (cm (a_ (i:=3) vY.nd rfl (Or.inl rfl)) hW))) ao)) ao)),?_⟩;obtain⟨dx,h1⟩:=h.ob;obtain⟨ps,h4,h5,h6,h7⟩:=h.th;dsimp! [DO];refine λr Eo=>?_
  have s1:=ak.put (o:=.dK []) Eo;refine⟨_,dx,_,s1 _ _ h1,T.aj,T.aP,_,fS _ _ _,.inr (.inr (.inl ⟨rfl,.inl ⟨_,s1 _ _ h4⟩⟩)),A.md,rfl,dE ps,.inl (s1 _ _ h4),λp hp=>⟨A.md,ae,dE ps,ak.put hp _ _ (s1 _ _ h4),λo=>?_⟩⟩;have nr:A.md≠r:=aC h4 Eo;have k0:Kp (·=A.md) H (upd (upd (upd H r (.dK [])) p (.ext λh=>h.IsItemsView p A.md)) A.md (.fI o (.dK (dE ps)))):=(((Kp.refl _ _).put Eo).put hp).set rfl;have f0:upd (upd (upd H r (.dK [])) p (.ext λh=>h.IsItemsView p A.md)) A.md (.fI o (.dK (dE ps))) A.md=some (.fI o (.dK (dE ps))):=ae;have f1:upd (upd (upd H r (.dK [])) p (.ext λh=>h.IsItemsView p A.md)) A.md (.fI o (.dK (dE ps))) r=some (.dK []):=by rw [au nr.symm]; exact ak.put hp _ _ ae
  generalize upd (upd (upd H r (.dK [])) p (.ext λh=>h.IsItemsView p A.md)) A.md (.fI o (.dK (dE ps)))=H1 at k0 f0 f1;have mu:∀b,b=A.md->Mu H b:=λb e=>.inr ⟨dE ps,by rw [e]; exact h4⟩
  refine Kl (ITh (a:=a) K A ts ps o r H) ⟨_,_,rfl,f0,k0,[],f1,rfl,(λi q t a=>by simp at a),by simp⟩ (λi σ H2 _ h=>by obtain⟨_,_,_,h,_⟩:=h; exact h) (λi kv t σ H2 lR h ht=>?_) λσ H2 h=>?_
  ·obtain⟨v1,v2,rfl,a1,a2,rows,a3,a4,a5,a6⟩:=h;rw [jU] at lR
   cases e:ps[i]? with
   | none=>rw [e] at lR; cases lR
   | some qq=>
    rw [e] at lR;cases lR;dsimp! [];refine⟨[_,_],bX.of ae,rfl,?_⟩;dsimp! [];refine aJ.of (ah (cH (bB hr) (pv 1) (pv 2) (bo (aa (ff (L:=[(a.cy,jT a K),(a.aM,jT a K),(a.bc,jT a K)]) (pv 3) (forall_mem_cons.mpr ⟨⟨_,_,_,_,T.eQ,T.ME,nR T,hr.mono (by decide),T.uz⟩,forall_mem_cons.mpr ⟨⟨_,_,_,_,T.aW,T.fZ,nR T,hr.mono (by decide),T.uz⟩,forall_mem_cons.mpr ⟨⟨_,_,_,_,T.cI,T.gu,nR T,hr.mono (by decide),T.uz⟩,forall_mem_nil _⟩⟩⟩) .nil aw) (aa (ff (L:=[(a.cy,dY a K),(a.aM,dY a K),(a.bc,dY a K)]) (pv 3) (forall_mem_cons.mpr ⟨⟨_,_,_,_,T.eQ,T.qQ,eZ T,hr.mono (by decide),T.gU⟩,forall_mem_cons.mpr ⟨⟨_,_,_,_,T.aW,T.cK,eZ T,hr.mono (by decide),T.gU⟩,forall_mem_cons.mpr ⟨⟨_,_,_,_,T.cI,T.cT,eZ T,hr.mono (by decide),T.gU⟩,forall_mem_nil _⟩⟩⟩) .nil aw) (aa (ff (L:=[(a.cy,nS),(a.aM,wJ a K),(a.bc,nS)]) (pv 3) (forall_mem_cons.mpr ⟨⟨_,_,_,_,T.eQ,T.Wc,M7 T,hr.mono (by decide),T.Rk⟩,forall_mem_cons.mpr ⟨⟨_,_,_,_,T.aW,T.MG,M8 T,hr.mono (by decide),T.Rl⟩,forall_mem_cons.mpr ⟨⟨_,_,_,_,T.cI,T.lq,M7 T,hr.mono (by decide),T.Rk⟩,forall_mem_nil _⟩⟩⟩) .nil aw) af)))) rfl)) ?_;dsimp! [];have hi:i < ts.length:=by rw [<-h5]; exact(List.getElem?_eq_some_iff.mp e).1
    obtain⟨tg,htg⟩:∃tg,ts[i]?=some tg:=⟨_,getElem?_eq_getElem hi⟩
    have G5:=h6 i qq tg e htg;have nmd:qq.2≠A.md:=λz=>by
     obtain⟨_,_,e2,_⟩:=G5;rw [z,h4] at e2;cases e2
    have k2:=a2.put (o:=.tup [kV (Sum.inl ((i:Int)+1)),.ref qq.1]) ht;have th2:=G5.kp k2 mu nmd;have m2:upd H2 t (.tup [kV (Sum.inl ((i:Int)+1)),.ref qq.1]) A.md=some (.fI o (.dK (dE ps))):=ak.put ht _ _ a1;have r2:upd H2 t (.tup [kV (Sum.inl ((i:Int)+1)),.ref qq.1]) r=some (.dK (dE rows)):=ak.put ht _ _ a3;have Yo:∀(qt:Addr) (i0:Nat),H2 qt=none->∀(i:Nat) q t,rows[i]?=some q->ts[i]?=some t->e_ K (upd H2 qt (.tup [kV (Sum.inl ((i0:Int)+1)),.ref qq.1])) q.1 q.2 t/\H q.2=none:=λqt i0 ht i q t hq ky=>⟨(a5 i q t hq ky).1.same (ak.put ht),(a5 i q t hq ky).2⟩
    have Yo:=Yo t i ht;generalize upd H2 t (.tup [kV (Sum.inl ((i:Int)+1)),.ref qq.1])=H3 at k2 th2 m2 r2 Yo ⊢;obtain⟨dx3,o3⟩:=th2.ob;refine⟨_,dx3,_,o3,tg.no _,_,tg.mem _,qq.1,qq.2,tg,rfl,th2,_,dx3,_,o3,tg.no _,_,tg.mem _,qq.1,qq.2,tg,rfl,th2,λfl xs hfl mC hz=>?_⟩;have s3:=ak.put (o:=.lst xs) hfl;refine⟨_,dx3,_,s3 _ _ o3,tg.no _,?_⟩;refine Ig tg (th2.same s3) ⟨by decide,λp hp=>?_⟩;have s4:=s3.trans (ak.put (o:=.tup [.str tg.sort,.ref fl,wV tg.words]) hp);have e4:upd (upd H3 fl (.lst xs)) p (.tup [.str tg.sort,.ref fl,wV tg.words]) p=some (.tup [.str tg.sort,.ref fl,wV tg.words]):=ae;have e5:upd (upd H3 fl (.lst xs)) p (.tup [.str tg.sort,.ref fl,wV tg.words]) fl=some (.lst xs):=ak.put hp _ _ ae;generalize upd (upd H3 fl (.lst xs)) p (.tup [.str tg.sort,.ref fl,wV tg.words])=H4 at s4 e4 e5 ⊢;have td:e_ K H4 p fl tg:=⟨e4,xs,e5,mC.same s4,hz⟩
    have bO:=h.bO.1;have hlm:(dE rows).length<=1000:=by rw [cq]; omega
    refine⟨_,gE.k (k:=Sum.inl ((i:Int)+1)) (s4 _ _ r2) (aG hlm),_,_,rfl,?_⟩;have nrm:A.md≠r:=nr;have k4:Kp (·=r) H4 (upd H4 r (.dK (putK (dE rows) (Sum.inl ((i:Int)+1)) (.ref p)))):=(Kp.refl _ _).set rfl;have mu4:∀b,b=r->Mu H4 b:=λb e=>.inr ⟨dE rows,by rw [e]; exact s4 _ _ r2⟩
    refine⟨k4 _ _ nrm (s4 _ _ m2),λb u hb e=>k4 _ _ (λz=>?_) (s4 _ _ (k2 b u hb e)),rows++[(p,fl)],?_,by rw [length_append,a4]; rfl,λj q t hq ky=>?_,?_⟩
    ·rw [z,Eo] at e;cases e
    ·rw [ae,<-a4];exact congrArg (λz=>some (HO.dK z)) (wM rows (p,fl))
    ·by_cases z:j < rows.length
     ·rw [getElem?_append_left z] at hq;exact⟨((Yo j q t hq ky).1.same s4).put (s4 _ _ r2),(Yo j q t hq ky).2⟩
     ·have ej:j=rows.length:=by
       have:=(List.getElem?_eq_some_iff.mp hq).1;rw [length_append,length_singleton] at this;omega
      subst ej;rw [getElem?_append_right (Nat.le_refl _),Nat.sub_self] at hq;cases hq;rw [a4,htg] at ky;cases ky;refine⟨td.put (s4 _ _ r2),?_⟩
      cases e:H fl with
      | none=>rfl
      | some u=>
       have:=k2 fl u (λz=>by rw [z,m2] at hfl; cases hfl) e;rw [hfl] at this;cases this
    ·rw [map_append];refine nodup_append.mpr ⟨a6,by simp,λx hx y hy e=>?_⟩;have ey:y=fl:=by simpa using hy
     subst e;subst ey;obtain⟨q,hq,e⟩:=mem_map.mp hx;obtain⟨j,hj⟩:=mem_iff_getElem?.mp hq;have hjt:ts[j]?=some (ts[j]'(by have:=(List.getElem?_eq_some_iff.mp hj).1; omega)):=getElem?_eq_getElem _;obtain⟨⟨_,dF,b2,_⟩,_⟩:=Yo j q _ hj hjt;rw [e,hfl] at b2;cases b2
  ·obtain⟨v1,v2,rfl,a1,a2,rows,a3,a4,a5,a6⟩:=h;rw [cq] at a4;have sm:ak H (upd H2 A.md (.dK (dE ps))):=λb u e=>by
    by_cases z:b=A.md
    ·rw [z,ae,<-h4,<-z,e]
    ·rw [au z];exact a2 b u z e
   refine .inr ⟨A.md,dE ps,_,⟨λo u z=>?_,⟨o,a1⟩,rfl⟩,aJ.of (ah (aB (pv 1))) ?_⟩
   ·have z2:H A.md=some (.fI o u):=z;rw [h4] at z2;cases z2
   ·dsimp! [];refine q r rows _ sm Eo (by rw [au nr.symm]; exact a3) (a4.trans h5) (λi q t hq ht=>?_) a6;obtain⟨⟨b1,xs,b2,b3,b4⟩,b5⟩:=a5 i q t hq ht;have k5:Kp (·=A.md) H2 (upd H2 A.md (.dK (dE ps))):=(Kp.refl _ _).set rfl;refine⟨⟨k5 _ _ (λz=>by rw [z,a1] at b1; cases b1) b1,xs,k5 _ _ (λz=>by rw [z,a1] at b2; cases b2) b2,?_,b4⟩,b5⟩;exact b3.upF a1
inductive De where
 | num (x:Str) (n:Int) | make (x:Str) (n:Nat) | weak (x y:Str) | pair (x y z:Str) | words (x:Str) (n:Int) | put (x:Str) (i:Nat) (y:Str) | get (x y:Str) (i:Nat) | look (x y:Str) | find (x y z:Str) | copy (x y:Str) | drop (x:Str) | tell (x:Str) | same (x y:Str) | hear (x:Str)
noncomputable def De.word:De->Str
 | .num ..=>"num" | .make ..=>"make" | .weak ..=>"weak" | .pair ..=>"pair" | .words ..=>"words" | .put ..=>"put" | .get ..=>"get" | .look ..=>"look" | .find ..=>"find" | .copy ..=>"copy" | .drop ..=>"drop" | .tell ..=>"tell" | .same ..=>"same" | .hear ..=>"hear"
noncomputable def De.args:De->List V
 | .num x n=>[.str x,.int n] | .make x n=>[.str x,.int (n:Nat)] | .weak x y=>[.str x,.str y] | .pair x y z=>[.str x,.str y,.str z] | .words x n=>[.str x,.int n] | .put x i y=>[.str x,.int (i:Nat),.str y] | .get x y i=>[.str x,.str y,.int (i:Nat)] | .look x y=>[.str x,.str y] | .find x y z=>[.str x,.str y,.str z] | .copy x y=>[.str x,.str y] | .drop x=>[.str x] | .tell x=>[.str x] | .same x y=>[.str x,.str y] | .hear x=>[.str x]
noncomputable def De.items (d:De):List V:=.str d.word::d.args
theorem De.hd (d:De):ql d.items 0=some (.str d.word):=by cases d <;> rfl
noncomputable def De.root:De->Str
 | .num x _=>x | .make x _=>x | .weak x _=>x | .pair x _ _=>x | .words x _=>x | .put x _ _=>x | .get x _ _=>x | .look x _=>x | .find x _ _=>x | .copy x _=>x | .drop x=>x | .tell x=>x | .same x _=>x | .hear x=>x
structure Wd where
 g:Str->Vl
 ts:List Tg
 hs:List (Nat×Int)
noncomputable def Cm (n:Int):Prop:=0<=n/\n < 1000000000000000000000000000000000000000000000000000000000000
noncomputable def Vl.ok (m:Nat):Vl->Prop
 | .th s=>∃i:Nat,s=(i:Int)+1/\i < m
 | .num n=>Cm n
 | .no=>True
structure Wd.ok (W:Wd):Prop where
 g:∀x,(W.g x).ok W.ts.length
 ts:∀t∈W.ts,(∀v∈t.fs,v.ok W.ts.length)/\∀n,t.words=some n->Cm n
 hs:∀h∈W.hs,(1<=h.1/\h.1<=W.ts.length)/\Cm h.2
noncomputable def De.fits (d:De):Prop:=d.root∈P6/\match d with
 | .num _ n=>Cm n
 | .words _ n=>Cm n
 | .make _ n=>n<=100
 | _=>True
noncomputable def Wd.tg (W:Wd) (x:Str):Option (Nat×Tg):=match W.g x with
 | .th n=>(W.ts[(n - 1).toNat]?).map λt=>((n - 1).toNat,t)
 | _=>none
theorem Wd.ok.tg {W:Wd}(h:W.ok) (x:Str):(∃(i:Nat) (t:Tg),W.g x=.th ((i:Int)+1)/\W.ts[i]?=some t/\W.tg x=some (i,t))\/((W.g x).wH=false/\W.tg x=none):=by
 have h1:=h.g x;unfold Wd.tg
 cases e:W.g x with
 | no=>exact .inr ⟨rfl,rfl⟩
 | num n=>exact .inr ⟨rfl,rfl⟩
 | th n=>
  rw [e] at h1;obtain⟨i,rfl,hi⟩:=h1;have e2:((i:Int)+1 - 1).toNat=i:=by omega
  refine .inl ⟨i,W.ts[i],rfl,getElem?_eq_getElem hi,?_⟩;show(W.ts[((i:Int)+1 - 1).toNat]?).map (λt=>(((i:Int)+1 - 1).toNat,t))=_;rw [e2,getElem?_eq_getElem hi];rfl
noncomputable def Wd.has (W:Wd) (x s:Str):Bool:=match W.tg x with
 | none=>false
 | some q=>decide (s="any") || decide (q.2.sort=s)
noncomputable def De.wants:De->List (Str×Str)
 | .weak _ y=>[(y,"any")] | .pair _ y _=>[(y,"any")] | .words x _=>[(x,"plain")] | .put x _ _=>[(x,"plain")] | .get _ y _=>[(y,"plain")] | .look _ y=>[(y,"weak")] | .find _ y z=>[(y,"pair"),(z,"any")] | _=>[]
noncomputable def De.ly:De->Option (Str×Nat)
 | .put x i _=>some (x,i) | .get _ y i=>some (y,i) | _=>none
noncomputable def Wd.fs (W:Wd) (x:Str):List Vl:=match W.tg x with
 | none=>[]
 | some q=>q.2.fs
noncomputable def Wd.gI (W:Wd) (d:De):Bool:=d.wants.any λq=>!W.has q.1 q.2
noncomputable def Wd.dR (W:Wd) (d:De):Bool:=match d.ly with
 | none=>false
 | some q=>!decide (q.2 < (W.fs q.1).length)
noncomputable def Wd.en (W:Wd) (x:Str) (v:Vl):Wd:={W with g:=λy=>if y=x then v else W.g y}
noncomputable def Wd.mF (W:Wd) (n:Int):Option (Nat×Tg)->Wd
 | some (i,.plain fs _)=>⟨W.g,W.ts.set i (.plain fs (some n)),W.hs⟩
 | _=>W
noncomputable def Wd.mG (W:Wd) (n:Nat) (v:Vl):Option (Nat×Tg)->Wd
 | some (i,.plain fs w)=>⟨W.g,W.ts.set i (.plain (fs.set n v) w),W.hs⟩
 | _=>W
noncomputable def Wd.pz (W:Wd) (x:Str):List (Nat×Int)->Wd
 | []=>W.en x .no
 | h::hs=>(Wd.mk W.g W.ts hs).en x (.th (h.1:Nat))
noncomputable def Wd.step (W:Wd):De->Wd
 | .num x n=>W.en x (.num n)
 | .make x n=>(Wd.mk W.g (W.ts++[.plain (List.replicate n .no) none]) W.hs).en x (.th ((W.ts.length:Int)+1))
 | .weak x y=>(Wd.mk W.g (W.ts++[.weak (W.g y)]) W.hs).en x (.th ((W.ts.length:Int)+1))
 | .pair x y z=>(Wd.mk W.g (W.ts++[.pair (W.g y) (W.g z)]) W.hs).en x (.th ((W.ts.length:Int)+1))
 | .words x n=>W.mF n (W.tg x)
 | .put x n y=>W.mG n (W.g y) (W.tg x)
 | .get x y n=>W.en x ((W.fs y).getD n .no)
 | .look x y=>W.en x ((W.fs y).getD 0 .no)
 | .find x y z=>W.en x (if bI (vD ((W.fs y).getD 0 .no)) (vD (W.g z))=true then(W.fs y).getD 1 .no else .no)
 | .copy x y=>W.en x (W.g y)
 | .drop x=>W.en x .no
 | .tell _=>W
 | .same _ _=>W
 | .hear x=>W.pz x W.hs
noncomputable def Vl.told:Vl->Str
 | .num n=>(toString n:String)
 | v=>v.word
noncomputable def Cn:List (Nat×Int)->Str
 | []=>"none"
 | h::_=>(toString h.2:String)
noncomputable def Wd.Dl (W:Wd):De->Str
 | .tell x=>(W.g x).told
 | .same x y=>if bI (vD (W.g x)) (vD (W.g y))=true then "yes" else "no"
 | .hear _=>Cn W.hs
 | _=>"ok"
noncomputable abbrev PW (a:eI) (K:Frag) (Pr:Addr->Prop) (H:Hp) (A:HA) (W:Wd):Prop:=PH a K Pr H A W.g W.ts W.hs
structure Ih (a:eI) (K:Frag) (Pr:Addr->Prop) (H:Hp) (A:HA) (W:Wd) (t:Addr) (d:De):Prop where
 ph:PW a K Pr H A W
 ok:W.ok
 de:bX K H t d.items
inductive Ep (a:eI) (K:Frag) (vs:List V) (H:Hp) (Q:VK) (E:XK):Prop
 | mk (Pr A W x s:_) (_:vs=[.ref A.p,.str x,.str s]) (_:PW a K Pr H A W) (_:W.ok) (_:Q (.bl (W.has x s)) H):Ep a K vs H Q E
theorem WE (T:Txt K mg a):aU P w K mg base cU 4 a.Aj a.Ak ["heap","letter","sort"] (Ep a K):=by
 refine T.BW.ok VO (λvs H Q E h=>?_) (λbY A outer s H vs Q E hr h=>?_)
 ·obtain⟨_,_,_,_,_,rfl,_⟩:=h;rfl
 ·obtain⟨Pr,A,W,x,s,rfl,h,ok,q⟩:=h;refine⟨_,(ag (bh (m_ (fJ (aD (Ef T) hr.dm rfl T.MB T.qP.kp T.MA .nil aw (aa (by exact(aS (pv 0) T.aj T.bq (jV T) hr.dm T.qS .nil aw (aa (pv 1) af))) af)))) (ah (aB gj)) aL) (ah (aB (YN (fL cj (pv 2) az (aH _)) (qi (fL cj (ff (L:=[(a.cy,jT a K),(a.aM,jT a K),(a.bc,jT a K)]) (aS (pv 0) T.aj T.dh (G7 T) hr.dm T.P4 .nil aw (aa (pv 1) af)) (forall_mem_cons.mpr ⟨⟨_,_,_,_,T.eQ,T.ME,nR T,hr.mono (by decide),T.uz⟩,forall_mem_cons.mpr ⟨⟨_,_,_,_,T.aW,T.fZ,nR T,hr.mono (by decide),T.uz⟩,forall_mem_cons.mpr ⟨⟨_,_,_,_,T.cI,T.gu,nR T,hr.mono (by decide),T.uz⟩,forall_mem_nil _⟩⟩⟩) .nil aw) (pv 2) (aH _))))))),?_⟩;obtain⟨dx,h1⟩:=h.ob;have f1:=aX (rv:=A.rv) (hd:=A.hd) (md:=A.md) (n:="root");have f2:=aX (rv:=A.rv) (hd:=A.hd) (md:=A.md) (n:="thing_in");dsimp! [h1,HO.ins.injEq,f1,f2];refine⟨Pr,A,W.g,W.ts,W.hs,x,rfl,h,λu hu=>⟨u,_,rfl,hu,_,rfl,?_⟩⟩;rcases ok.tg x with ⟨i,t,e1,e2,e3⟩ | ⟨e1,e2⟩
  ·have e4:(W.g x).wH=true:=by rw [e1]; rfl
   have e5:W.has x s=(decide (s="any") || decide (t.sort=s)):=by unfold Wd.has; rw [e3]
   rw [e4];refine bj (λz=>by cases z) λ_=>bj (λz=>?_) λz=>?_
   ·rw [e5,z] at q;exact q
   ·refine⟨_,_,h1,f2,Pr,A,W.g,W.ts,W.hs,x,i,t,rfl,h,e1,e2,λp d hT=>?_⟩;obtain⟨O1,Em⟩:=hT.ob;refine⟨p,rfl,_,_,_,Em,t.no d,_,t.mem _,p,d,t,rfl,hT,rfl,?_⟩;rw [e5,Bool.eq_false_iff.mpr z,Bool.false_or] at q;rw [show decide (V.str t.sort=V.str s)=decide (t.sort=s) from by simp];exact q
  ·have e5:W.has x s=false:=by unfold Wd.has; rw [e2]
   rw [e1];refine bj (λ_=>?_) λz=>absurd rfl z
   rw [e5] at q;exact q
theorem aez {β:Type}{b D:Addr}{fr:List Nat}{te:TE}{σ:St}{Q:Hp->Prop}{H:Hp}(xs:List V) (bs:List β) (va vb f:β->V) (hz:bs.length<=1000) (hl:bs.length=xs.length) (hS:∀ys,bX K (upd H D (.lst ys)) b xs)
  (hp:∀(i:Nat) x c,xs[i]?=some x->bs[i]?=some c->∃t,x=.ref t/\∀ys,bX K (upd H D (.lst ys)) t [va c,vb c]) (he:∀(i:Nat) c ys (R:VK),bs[i]?=some c->R (f c) (upd H D (.lst ys))->te (bJ fr σ (some (va c)) (some (vb c))) (upd H D (.lst ys)) R)
  (hq:Q (upd H D (.lst (bs.map f)))):jb K (Itt K b) fr (λ_ H Q=>Q true H) te σ D Q (upd H D (.lst [])):=by
 refine⟨λi m H2=>m+i=xs.length/\H2=upd H D (.lst ((bs.take i).map f)),⟨xs.length,rfl,rfl⟩,?_⟩;rintro i m H2 ⟨hm,rfl⟩
 cases m with
 | zero=>
  have e:i=xs.length:=by omega
  subst e;refine .inl ⟨⟨xs,hS _,Nat.le_refl _⟩,?_⟩;rw [<-hl,take_length];exact hq
 | succ m=>
  have hi:i < xs.length:=by omega
  have hb:i < bs.length:=by omega
  refine .inr ⟨⟨xs,xs[i],hS _,getElem?_eq_getElem hi⟩,λv H' y=>?_⟩;obtain⟨rfl,hv⟩:=y;have hx:=hv xs (hS _);have JW:bs[i]?=some bs[i]:=getElem?_eq_getElem hb;have et:bs.take (i+1)=bs.take i++[bs[i]]:=by rw [take_add_one,JW]; rfl
  obtain⟨t,e,ht⟩:=hp i v _ hx JW;refine⟨t,_,_,e,ht _,?_⟩;show(if true=true then _ else _);rw [if_pos rfl];refine he i _ _ _ JW ⟨_,ae,?_,m,Nat.lt_succ_self m,by omega,?_⟩
  ·rw [length_map,length_take];exact aG (by omega)
  ·rw [vw,et,map_append];rfl
noncomputable def WG (K:Frag) (d:De) (b:Addr):Prop:=∃(xs:List V) (bs:List (Str×Str×Nat)),bs.map (λc=>(c.1,c.2.1))=d.wants/\bs.length=xs.length/\bs.length<=2/\(∀H:Hp,bX K H b xs)/\(∀(i:Nat) x c,xs[i]?=some x->bs[i]?=some c->∃t,x=.ref t/\∀H:Hp,bX K H t [.int ((c.2.2:Nat):Int),.str c.2.1])/\∀c∈bs,ql d.items ((c.2.2:Nat):Int)=some (.str c.1)
theorem WG.one {d:De}{b t:Addr}{x s:Str}{k:Nat}(h1:d.wants=[(x,s)]) (h2:∀H:Hp,bX K H b [.ref t]) (h3:∀H:Hp,bX K H t [.int ((k:Nat):Int),.str s]) (h4:ql d.items ((k:Nat):Int)=some (.str x)):WG K d b:=
 ⟨[.ref t],[(x,s,k)],h1.symm,rfl,Nat.le_succ 1,h2,λi y c hy hc=>by
  cases i with
  | zero=>cases hy; cases hc; exact⟨t,rfl,h3⟩
  | succ i=>simp at hy,λc hc=>by
  rw [mem_singleton.mp hc];exact h4⟩
noncomputable abbrev Nm (a:eI):List (Str×Addr):=[("weak",a.fg),("pair",a.fk),("words",a.fq),("put",a.fu),("get",a.fA),("look",a.fC),("find",a.fF)]
theorem P8 (T:Txt K mg a) (d:De):(d.wants=[]/\PyProof.Rows.KTD.datumAt d.word (Nm a)=none)\/∃b,PyProof.Rows.KTD.datumAt d.word (Nm a)=some b/\WG K d b:=by
 cases d with
 | num x n=>exact .inl ⟨rfl,by kernel_rfl⟩
 | make x n=>exact .inl ⟨rfl,by kernel_rfl⟩
 | weak x y=>exact .inr ⟨a.fg,by kernel_rfl,.one (k:=2) rfl T.D9 T.wq rfl⟩
 | pair x y z=>exact .inr ⟨a.fk,by kernel_rfl,.one (k:=2) rfl T.D_ T.wu rfl⟩
 | words x n=>exact .inr ⟨a.fq,by kernel_rfl,.one (k:=1) rfl T.Ea T.wx rfl⟩
 | put x i y=>exact .inr ⟨a.fu,by kernel_rfl,.one (k:=1) rfl T.Eb T.wy rfl⟩
 | get x y i=>exact .inr ⟨a.fA,by kernel_rfl,.one (k:=2) rfl T.Ec T.wA rfl⟩
 | look x y=>exact .inr ⟨a.fC,by kernel_rfl,.one (k:=2) rfl T.Ed T.wB rfl⟩
 | find x y z=>
  refine .inr ⟨a.fF,by kernel_rfl,[.ref a.dW,.ref a.dX],[(y,"pair",2),(z,"any",3)],rfl,rfl,Nat.le_refl _,T.Ee,λi u c hy hc=>?_,λc hc=>?_⟩
  ·match i,hy,hc with
   | 0,hy,hc=>cases hy; cases hc; exact⟨_,rfl,T.wC⟩
   | 1,hy,hc=>cases hy; cases hc; exact⟨_,rfl,T.wF⟩
   | i+2,hy,hc=>simp at hy
  ·rcases mem_cons.mp hc with rfl | hc
   ·rfl
   ·rw [mem_singleton.mp hc];rfl
 | copy x y=>exact .inl ⟨rfl,by kernel_rfl⟩
 | drop x=>exact .inl ⟨rfl,by kernel_rfl⟩
 | tell x=>exact .inl ⟨rfl,by kernel_rfl⟩
 | same x y=>exact .inl ⟨rfl,by kernel_rfl⟩
 | hear x=>exact .inl ⟨rfl,by kernel_rfl⟩
inductive Nn (a:eI) (K:Frag) (vs:List V) (H:Hp) (Q:VK) (E:XK):Prop
 | mk (Pr A W t d:_) (_:vs=[.ref A.p,.ref t]) (_:Ih a K Pr H A W t d) (_:∀H',ak H H'->Q (.bl (W.gI d)) H'):Nn a K vs H Q E
theorem WH (T:Txt K mg a):aU P w K mg base cU 6 a.Al a.Am ["heap","deed"] (Nn a K):=by
 refine T.BX.ok VP (λvs H Q E h=>?_) (λbY A outer s H vs Q E hr h=>?_)
 ·obtain⟨_,_,_,_,_,rfl,_⟩:=h;rfl
 ·obtain⟨Pr,A,W,t,d,rfl,h,q⟩:=h;refine⟨_,(ah (aB (aR (uj rfl) rfl T.GZ J5 (aa (Kd rfl (Ke (x:="at") (x2:="sort") (ns:=["heap","deed"]) (fr:=[0,1]) rfl (by decide +kernel) rfl (by decide +kernel) rfl rfl (forall_mem_cons.mpr ⟨rfl,forall_mem_cons.mpr ⟨rfl,forall_mem_nil _⟩⟩) rfl rfl (forall_mem_cons.mpr ⟨⟨rfl,rfl,.inl rfl⟩,forall_mem_cons.mpr ⟨⟨rfl,rfl,.inl rfl⟩,forall_mem_nil _⟩⟩) (by decide +kernel)) (Um (Ko T.MY (dc (v:=.ref a.ic) rfl T.GW rfl) (av aq (pv 1) ai (λ_ _=>rfl)) (bo af) ⟨rfl,rfl,rfl,rfl⟩)) (λ_ _ _ _=>(Dt (aD (WE T) hr.dm rfl T.aah T.BW.kp T.aag .nil aw (aa (pv 2) (aa (av (mj (K:=K) rfl) (pv 3) (pv 0) (λ_ _=>rfl)) (aa (pv 1) af)))))) (λ_ _ _ _=>.nil)) af)))),?_⟩;dsimp! [Kn,T.GW];refine⟨t,_,_,_,rfl,rfl,h.de,d.hd,λp hp=>⟨d.word,rfl,?_⟩⟩;have s1:=ak.put (o:=.tup []) hp;have h1:PW a K Pr (upd H p (.tup [])) A W:=h.ph.same s1;have d1:=s1.cg h.de;have e1:upd H p (.tup []) p=some (.tup []):=ae;generalize upd H p (.tup [])=H1 at s1 h1 d1 e1 ⊢;have go:∀(b D:Addr) (xs:List V) (bs:List (Str×Str×Nat)),H1 D=none->bs.map (λc=>(c.1,c.2.1))=d.wants->bs.length=xs.length->bs.length<=2->bX K H1 b xs->(∀(i:Nat) x c,xs[i]?=some x->bs[i]?=some c->∃t,x=.ref t/\∀H:Hp,bX K H t [.int ((c.2.2:Nat):Int),.str c.2.1])->(∀c∈bs,ql d.items ((c.2.2:Nat):Int)=some (.str c.1)) ->
    jb K (Itt K b) [0,1] (λ_ H Q=>Q true H) (I0 (FY (Ep a K) [] E0 (qk (Dr 2) (qk (Yc (pH K) (Dr 3) (Dr 0)) (qk (Dr 1) yv))))) [some (.ref A.p),some (.ref t)] D (λH2=>∃x:List Bool,ba K H2 D (List.map V.bl x)/\Q (V.bl (x.any id)) H2) (upd H1 D (.lst [])):=λb D xs bs hD b1 b2 b3 b4 b5 b6=>by
   refine aez xs bs (λc=>.int ((c.2.2:Nat):Int)) (λc=>.str c.2.1) (λc=>.bl (!W.has c.1 c.2.1)) (by omega) b2 (λys=>(ak.put hD).cg b4) (λi x c hx hc=>?_) (λi c ys R hc r=>?_) ⟨bs.map λc=>!W.has c.1 c.2.1,?_,?_⟩
   ·obtain⟨u,e,hu⟩:=b5 i x c hx hc;exact⟨u,e,λys=>hu _⟩
   ·dsimp! [bJ];exact⟨_,rfl,_,rfl,t,_,_,_,rfl,rfl,(ak.put hD).cg d1,b6 c (mem_of_getElem? hc),Pr,A,W,c.1,c.2.1,rfl,h1.same (ak.put hD),h.ok,_,rfl,r⟩
   ·rw [List.map_map];exact ba.of ae
   ·have e2:(bs.map λc=>!W.has c.1 c.2.1).any id=W.gI d:=by
     unfold Wd.gI;rw [<-b1,List.any_map,List.any_map];rfl
    rw [e2];exact q _ (s1.trans (ak.put hD))
  rcases P8 T d with ⟨w1,w2⟩ | ⟨b,w1,xs,bs,b1,b2,b3,b4,b5,b6⟩
  ·exact .inr ⟨w2,⟨_,bX.of e1⟩,λD hD=>go p D [] [] hD w1.symm rfl (by decide) (bX.of e1) (λi x c hx=>by simp at hx) (λc hc=>nomatch hc)⟩
  ·exact .inl ⟨b,w1,⟨_,b4 _⟩,λD hD=>go b D xs bs hD b1 b2 b3 (b4 _) b5 b6⟩
noncomputable abbrev G9 (a:eI):List (Str×Addr):=[("put",a.cw),("get",a.cx)]
theorem P9 (T:Txt K mg a) (d:De):(d.ly=none/\PyProof.Rows.KTD.datumAt d.word (G9 a)=none)\/∃(b:Addr) (k1 k2:Int) (x:Str) (i:Nat),PyProof.Rows.KTD.datumAt d.word (G9 a)=some b/\(∀H:Hp,bX K H b [.int k1,.int k2])/\d.ly=some (x,i)/\ql d.items k1=some (.str x)/\ql d.items k2=some (.int (i:Nat))/\(x,("plain":Str))∈d.wants:=by
 cases d with
 | put x i y=>exact .inr ⟨a.cw,1,2,x,i,by kernel_rfl,T.nP,rfl,rfl,rfl,mem_cons_self⟩
 | get x y i=>exact .inr ⟨a.cx,2,3,y,i,by kernel_rfl,T.nQ,rfl,rfl,rfl,mem_cons_self⟩
 | num x n=>exact .inl ⟨rfl,by kernel_rfl⟩
 | make x n=>exact .inl ⟨rfl,by kernel_rfl⟩
 | weak x y=>exact .inl ⟨rfl,by kernel_rfl⟩
 | pair x y z=>exact .inl ⟨rfl,by kernel_rfl⟩
 | words x n=>exact .inl ⟨rfl,by kernel_rfl⟩
 | look x y=>exact .inl ⟨rfl,by kernel_rfl⟩
 | find x y z=>exact .inl ⟨rfl,by kernel_rfl⟩
 | copy x y=>exact .inl ⟨rfl,by kernel_rfl⟩
 | drop x=>exact .inl ⟨rfl,by kernel_rfl⟩
 | tell x=>exact .inl ⟨rfl,by kernel_rfl⟩
 | same x y=>exact .inl ⟨rfl,by kernel_rfl⟩
 | hear x=>exact .inl ⟨rfl,by kernel_rfl⟩
theorem Wd.ok.had {W:Wd}(h:W.ok) {x s:Str}(hs:W.has x s=true):∃(i:Nat) (t:Tg),W.g x=.th ((i:Int)+1)/\W.ts[i]?=some t/\W.tg x=some (i,t)/\W.fs x=t.fs/\(s="any"\/t.sort=s):=by
 rcases h.tg x with ⟨i,t,e1,e2,e3⟩ | ⟨e1,e2⟩
 ·refine⟨i,t,e1,e2,e3,by unfold Wd.fs; rw [e3],?_⟩;unfold Wd.has at hs;rw [e3] at hs;rcases Bool.or_eq_true_iff.mp hs with z | z
  ·exact .inl (of_decide_eq_true z)
  ·exact .inr (of_decide_eq_true z)
 ·unfold Wd.has at hs;rw [e2] at hs;cases hs
theorem Wd.wanted {W:Wd}{d:De}(h:W.gI d=false) {x s:Str}(hm:(x,s)∈d.wants):W.has x s=true:=by
 cases e:W.has x s with
 | true=>rfl
 | false=>
  have:W.gI d=true:=List.any_eq_true.mpr ⟨(x,s),hm,by rw [e]; rfl⟩;rw [h] at this;cases this
inductive Np (a:eI) (K:Frag) (vs:List V) (H:Hp) (Q:VK) (E:XK):Prop
 | mk (Pr A W t d:_) (_:vs=[.ref A.p,.ref t]) (_:Ih a K Pr H A W t d) (_:W.gI d=false) (_:∀H',ak H H'->Q (.bl (W.dR d)) H'):Np a K vs H Q E
theorem WI (T:Txt K mg a):aU P w K mg base cU 4 a.An a.Ao ["heap","deed"] (Np a K):=by
 refine T.BY.ok D1 (λvs H Q E h=>?_) (λbY A outer s H vs Q E hr h=>?_)
 ·obtain⟨_,_,_,_,_,rfl,_⟩:=h;rfl
 ·obtain⟨Pr,A,W,t,d,rfl,h,hl,q⟩:=h;refine⟨_,(ag (aN (i:=2) D1.nd rfl (Or.inl rfl) (Ki T.qX (dc (v:=.ref a.cX) rfl T.sV rfl) (av aq (pv 1) ai (λ_ _=>rfl)) ⟨rfl,rfl,rfl,rfl⟩)) (ag (bh (aF nk (pv 2) cz (aH _)) (ah (aB gj)) aL) (ag (aN (i:=3) D1.nd rfl (Or.inl rfl) (aR cF rfl T.f_ eE (aa (ff (L:=[(a.cy,dY a K),(a.aM,dY a K),(a.bc,dY a K)]) (aS (pv 0) T.aj T.dh (G7 T) hr.dm T.P4 .nil aw (aa (av aq (pv 1) (av aq (pv 2) ai (λ_ _=>rfl)) (λ_ _=>rfl)) af)) (forall_mem_cons.mpr ⟨⟨_,_,_,_,T.eQ,T.qQ,eZ T,hr.mono (by decide),T.gU⟩,forall_mem_cons.mpr ⟨⟨_,_,_,_,T.aW,T.cK,eZ T,hr.mono (by decide),T.gU⟩,forall_mem_cons.mpr ⟨⟨_,_,_,_,T.cI,T.cT,eZ T,hr.mono (by decide),T.gU⟩,forall_mem_nil _⟩⟩⟩) .nil aw) af))) (ah (aB (Dt (Jn YW Jk ai (av aq (pv 1) (av aq (pv 2) ai (λ_ _=>rfl)) (λ_ _=>rfl)) (pv 3)))))))),?_⟩;dsimp! [];refine⟨t,_,_,_,rfl,rfl,h.de,d.hd,d.word,rfl,?_⟩;rcases P9 T d with ⟨w1,w2⟩ | ⟨b,k1,k2,x,i,w1,w2,w3,w4,w5,w6⟩
  ·refine .inr ⟨w2,?_⟩;have e:W.dR d=false:=by unfold Wd.dR; rw [w1]
   rw [<-e];exact q H λ_ _ e=>e
  ·have e:W.dR d=!decide (i < (W.fs x).length):=by unfold Wd.dR; rw [w3]
   obtain⟨j,g,g1,g2,g3,g4,_⟩:=h.ok.had (W.wanted hl w6);obtain⟨dx,h1⟩:=h.ph.ob;refine .inl ⟨b,w1,dx,_,h1,aX,b,_,_,_,rfl,rfl,w2 _,rfl,t,_,_,_,rfl,rfl,h.de,w4,Pr,A,W.g,W.ts,W.hs,x,j,g,rfl,h.ph,g1,g2,λp d2 hT=>?_⟩;obtain⟨O1,Em⟩:=hT.ob;refine⟨p,rfl,_,_,_,Em,g.no d2,_,g.mem _,p,d2,g,rfl,hT,λr xs hr mC hz=>?_⟩;have s1:=ak.put (o:=.lst xs) hr;refine⟨r,rfl,xs,.inl (ba.of ae),b,_,_,_,rfl,rfl,w2 _,rfl,t,_,_,_,rfl,rfl,s1.cg h.de,w5,_,rfl,?_⟩;refine bj (λ_=>⟨_,rfl,?_⟩) λz=>absurd (decide_eq_true (Int.natCast_nonneg i)) z
   have e2:(!decide ((i:Int) < (xs.length:Nat)))=W.dR d:=by
    rw [e,g4,mC.1];congr 1;exact decide_eq_decide.mpr Int.ofNat_lt
   rw [e2];exact q _ s1
noncomputable def Wd.made (W:Wd):De->Option Tg
 | .make _ n=>some (.plain (List.replicate n .no) none)
 | .weak _ y=>some (.weak (W.g y))
 | .pair _ y z=>some (.pair (W.g y) (W.g z))
 | _=>none
theorem abn:¬(("weak":Str)="make"):=by decide +kernel
theorem abo:¬(("pair":Str)="make"):=by decide +kernel
theorem Nq:¬(("pair":Str)="weak"):=by decide +kernel
noncomputable def De.isNew:De->Bool
 | .make ..=>true
 | .weak ..=>true
 | .pair ..=>true
 | _=>false
theorem bC {H:Hp}{t:Addr}{xs:List V}{i:Int}{v:V}{Q:VK}(h:bX K H t xs) (e:ql xs i=some v) (q:Q v H):pH K (.ref t) (.int i) H Q:=⟨t,xs,i,v,rfl,rfl,h,e,q⟩
theorem Dm {H:Hp}{t:Addr}{xs:List V}{i:Int}{v:V}{Q:VK}(h:ba K H t xs) (e:ql xs i=some v) (q:Q v H):Ux K (.ref t) (.int i) H Q:=⟨t,xs,i,v,rfl,rfl,h,e,q⟩
theorem De.at1 (d:De):ql d.items 1=some (.str d.root):=by cases d <;> rfl
theorem Cm.log {n:Int}(h:Cm n):n.natAbs.log2 < 1920:=by
 by_cases c:n.natAbs=0
 ·rw [c];decide
 ·refine(Nat.log2_lt c).mpr (Nat.lt_of_lt_of_le (m:=1000000000000000000000000000000000000000000000000000000000000) ?_ (by decide));obtain⟨h1,h2⟩:=h;omega
theorem ik.rep {H:Hp}{x:V}{v:Vl}(h:dJ K H x v) (n:Nat):ik K H (List.replicate n x) (List.replicate n v):=⟨by simp,λi y u a b=>by
 rw [List.getElem?_replicate] at a b
 by_cases hi:i < n
 ·rw [if_pos hi] at a b;cases a;cases b;exact h
 ·rw [if_neg hi] at a;cases a⟩
theorem ri (x:V):∀n:Nat,(List.replicate n [x]).flatten=List.replicate n x
 | 0=>rfl
 | n+1=>by rw [List.replicate_succ,List.flatten_cons,ri x n]; rfl
theorem aeA:¬(("plain":Str)="any"):=by decide +kernel
theorem aeB:¬(("weak":Str)="any"):=by decide +kernel
theorem aeC:¬(("pair":Str)="any"):=by decide +kernel
theorem abp:¬(("plain":Str)="weak"):=by decide +kernel
theorem abq:¬(("plain":Str)="pair"):=by decide +kernel
theorem Wd.ok.Cp {W:Wd}(h:W.ok) {x:Str}(hs:W.has x "plain"=true):∃(i:Nat) (fs:List Vl) (w:Option Int),W.g x=.th ((i:Int)+1)/\W.ts[i]?=some (.plain fs w)/\W.tg x=some (i,.plain fs w)/\W.fs x=fs:=by
 obtain⟨i,t,e1,e2,e3,e4,e5 | e5⟩:=h.had hs
 ·exact absurd e5 aeA
 ·cases t with
  | plain fs w=>exact⟨i,fs,w,e1,e2,e3,e4⟩
  | weak f=>exact absurd e5.symm abp
  | pair k v=>exact absurd e5.symm abq
theorem Wd.ok.abr {W:Wd}(h:W.ok) {x:Str}(hs:W.has x "weak"=true):∃(i:Nat) (f:Vl),W.g x=.th ((i:Int)+1)/\W.ts[i]?=some (.weak f)/\W.tg x=some (i,.weak f)/\W.fs x=[f]:=by
 obtain⟨i,t,e1,e2,e3,e4,e5 | e5⟩:=h.had hs
 ·exact absurd e5 aeB
 ·cases t with
  | plain fs w=>exact absurd e5 abp
  | weak f=>exact⟨i,f,e1,e2,e3,e4⟩
  | pair k v=>exact absurd e5 Nq
theorem Wd.ok.abt {W:Wd}(h:W.ok) {x:Str}(hs:W.has x "pair"=true):∃(i:Nat) (k v:Vl),W.g x=.th ((i:Int)+1)/\W.ts[i]?=some (.pair k v)/\W.tg x=some (i,.pair k v)/\W.fs x=[k,v]:=by
 obtain⟨i,t,e1,e2,e3,e4,e5 | e5⟩:=h.had hs
 ·exact absurd e5 aeC
 ·cases t with
  | plain fs w=>exact absurd e5 abq
  | weak f=>exact absurd e5.symm Nq
  | pair k v=>exact⟨i,k,v,e1,e2,e3,e4⟩
theorem Wd.u_ {W:Wd}{d:De}{tg:Tg}(h:W.made d=some tg):W.step d=(Wd.mk W.g (W.ts++[tg]) W.hs).en d.root (.th ((W.ts.length:Int)+1))/\W.Dl d="ok":=by
 cases d with
 | make x n=>cases h; exact⟨rfl,rfl⟩
 | weak x n=>cases h; exact⟨rfl,rfl⟩
 | pair x n z=>cases h; exact⟨rfl,rfl⟩
 | _=>cases h
theorem De.isNew.made {d:De}(h:d.isNew=true) (W:Wd):∃tg,W.made d=some tg:=by
 cases d with
 | make x n=>exact⟨_,rfl⟩
 | weak x n=>exact⟨_,rfl⟩
 | pair x n z=>exact⟨_,rfl⟩
 | _=>cases h
inductive Nr (a:eI) (K:Frag) (vs:List V) (H:Hp) (Q:VK) (E:XK):Prop
 | mk (Pr A W t d tg:_) (_:vs=[.ref A.p,.ref t]) (_:Ih a K Pr H A W t d) (_:d.fits) (_:W.made d=some tg) (_:∀p dl H',ak H H'->H p=none->H dl=none->gA a K H' p dl tg->Q (.ref p) H'):Nr a K vs H Q E
theorem WJ (T:Txt K mg a):aU P w K mg base cU 5 a.Ap a.Aq ["heap","deed"] (Nr a K):=by
 refine T.BZ.ok VQ (λvs H Q E h=>?_) (λbY A outer s H vs Q E hr h=>?_)
 ·obtain⟨_,_,_,_,_,_,rfl,_⟩:=h;rfl
 ·obtain⟨Pr,A,W,t,d,tg,rfl,h,hf,hm,q⟩:=h;refine⟨_,(ag (bh (aF cj (av aq (pv 1) ai (λ_ _=>rfl)) az (aH _)) (ah (aB (aD (Wq T) hr.dm rfl T.ZV T.BL.kp T.ZU .nil aw (aa (bu DG (bP (aa (dc (v:=.ref a.aV) rfl T.bf rfl) af)) (av aq (pv 1) ai (λ_ _=>rfl))) (aa cz af))))) aL) (ag (bh (aF cj (av aq (pv 1) ai (λ_ _=>rfl)) az (aH _)) (ah (aB (aD (Nb T) hr.dm rfl T.Rn T.uB.kp T.Rm .nil aw (aa (by exact(aS (pv 0) T.aj T.bq (jV T) hr.dm T.qS .nil aw (aa (av aq (pv 1) ai (λ_ _=>rfl)) af))) af)))) aL) (ah (aB (aD (Nd T) hr.dm rfl T.Rp T.uC.kp T.Ro .nil aw (aa (by exact(aS (pv 0) T.aj T.bq (jV T) hr.dm T.qS .nil aw (aa (av aq (pv 1) ai (λ_ _=>rfl)) af))) (aa (by exact(aS (pv 0) T.aj T.bq (jV T) hr.dm T.qS .nil aw (aa (av aq (pv 1) ai (λ_ _=>rfl)) af))) af))))))),?_⟩;dsimp! [T.bf];refine⟨t,_,_,_,rfl,rfl,h.de,d.hd,rfl,?_⟩
  cases d with
  | make x n=>
   cases hm;have hn:n<=100:=hf.2;refine bj (λ_=>⟨by decide,λp hp=>?_⟩) λz=>absurd (decide_eq_true rfl) z
   have s1:=ak.put (o:=.lst [.ref a.aV]) hp;refine bC (s1.cg h.de) rfl ⟨p,_,_,rfl,rfl,ae,by omega,by omega,?_,λr hr=>?_⟩
   ·rw [length_singleton,Int.toNat_natCast,Nat.one_mul];exact Nat.le_of_lt (aG (by omega))
   ·have s2:=s1.trans (ak.put (o:=.lst (List.replicate (Int.toNat (n:Nat)) [V.ref a.aV]).flatten) hr);rw [Int.toNat_natCast,ri] at s2 ⊢;have hv:dJ K (upd (upd H p (.lst [.ref a.aV])) r (.lst (List.replicate n (.ref a.aV)))) (.ref a.aV) .no:=⟨_,rfl,T.dI _⟩
    refine⟨r,_,_,none,rfl,ba.of ae,ik.rep hv n,by rw [length_replicate]; omega,λp2 dl H' s3 h2 h3 hT=>q p2 dl H' (s2.trans s3) (s2.free h2) (s2.free h3) hT⟩
  | weak x y=>
   cases hm;obtain⟨dx,h1⟩:=h.ph.ob;refine bj (λz=>absurd (V.str.inj (of_decide_eq_true z)) abn) λ_=>bC h.de rfl ⟨rfl,bj (λ_=>?_) λz=>absurd (decide_eq_true rfl) z⟩
   refine⟨dx,_,h1,aX,bC h.de rfl ⟨Pr,A,W.g,W.ts,W.hs,y,rfl,h.ph,λu hu=>⟨u,_,rfl,hu,q⟩⟩⟩
  | pair x y z=>
   cases hm;obtain⟨dx,h1⟩:=h.ph.ob;refine bj (λz=>absurd (V.str.inj (of_decide_eq_true z)) abo) λ_=>bC h.de rfl ⟨rfl,bj (λz=>absurd (V.str.inj (of_decide_eq_true z)) Nq) λ_=>?_⟩
   refine⟨dx,_,h1,aX,bC h.de rfl ⟨Pr,A,W.g,W.ts,W.hs,y,rfl,h.ph,λu hu=>⟨dx,_,h1,aX,bC h.de rfl ⟨Pr,A,W.g,W.ts,W.hs,z,rfl,h.ph,λu2 Nt=>⟨u,u2,_,_,rfl,hu,Nt,q⟩⟩⟩⟩⟩
  | _=>cases hm
inductive iq (a:eI) (K:Frag) (Pd:De->Prop) (vs:List V) (H:Hp) (Q:VK) (E:XK):Prop
 | mk (Pr A W t d:_) (_:vs=[.ref A.p,.ref t]) (_:Ih a K Pr H A W t d) (_:Pd d) (_:W.gI d=false) (_:W.dR d=false) (_:d.fits) (_:W.ts.length < 500) (_:∀H',Kp A.own H H'->PW a K Pr H' A (W.step d)->Q (.str (W.Dl d)) H'):iq a K Pd vs H Q E
theorem WK (T:Txt K mg a):aU P w K mg base cU 2 a.oJ a.Ar ["heap","deed"] (iq a K (λd=>∃x n,d=.num x n)):=by
 refine T.uH.ok VR (λvs H Q E h=>?_) (λbY A outer s H vs Q E hr h=>?_)
 ·obtain⟨_,_,_,_,_,rfl,_⟩:=h;rfl
 ·obtain⟨Pr,A,W,t,d,rfl,h,⟨x,n,rfl⟩,hl,lT,hf,bO,q⟩:=h;refine⟨_,(ag (aY (aS (pv 0) T.aj T.bt (pf T) hr.dm T.B0 .nil aw (aa (av aq (pv 1) ai (λ_ _=>rfl)) (aa (bo (aa az (aa (av aq (pv 1) ai (λ_ _=>rfl)) af))) af)))) (ah (aB az))),?_⟩;obtain⟨dx,h1⟩:=h.ph.ob;dsimp! [T.bf];refine⟨dx,_,h1,aX,bC h.de rfl (bC h.de rfl ⟨by decide,λp hp=>?_⟩)⟩;have s1:=ak.put (o:=.tup [.str "number",.int n]) hp;exact⟨Pr,A,W.g,W.ts,W.hs,x,_,.num n,rfl,h.ph.same s1,hf.1,⟨p,rfl,bX.of ae⟩,λH' k ph=>q H' ((ak.kp s1).trans k) ph⟩
theorem WL (T:Txt K mg a):aU P w K mg base cU 6 a.jr a.As ["heap","deed"] (iq a K (λd=>d.isNew=true)):=by
 refine T.oZ.ok VS (λvs H Q E h=>?_) (λbY A outer s H vs Q E hr h=>?_)
 ·obtain⟨_,_,_,_,_,rfl,_⟩:=h;rfl
 ·obtain⟨Pr,A,W,t,d,rfl,h,hd0,hl,lT,hf,bO,q⟩:=h;refine⟨_,(ag (aY (aS (pv 0) T.aj T.bt (pf T) hr.dm T.B0 .nil aw (aa (av aq (pv 1) ai (λ_ _=>rfl)) (aa (bo (aa az (aa (by exact(aS (pv 0) T.aj T.Wj (Ww T) hr.dm T.aaC .nil aw (aa (aD (WJ T) hr.dm rfl T.aan T.BZ.kp T.aam .nil aw (aa (pv 0) (aa (pv 1) af))) af))) af))) af)))) (ah (aB az))),?_⟩;obtain⟨dx,h1⟩:=h.ph.ob;dsimp! [T.bf];obtain⟨tg,hm⟩:=De.isNew.made hd0 W;obtain⟨e1,e2⟩:=Wd.u_ hm;rw [e1,e2] at q;refine⟨dx,_,h1,aX,bC h.de d.at1 ⟨dx,_,h1,aX,Pr,A,W,t,d,tg,rfl,h,hf,hm,λp dl H1 s1 hp Yi hT=>?_⟩⟩;obtain⟨f1,f2⟩:=h.ph.fresh Yi;refine⟨Pr,A,W.g,W.ts,W.hs,p,dl,tg,rfl,h.ph.same s1,hT,f1,f2,bO,λH2 k2 ph2=>⟨by decide,λr hr=>?_⟩⟩;have s3:=ak.put (o:=.tup [.str "thing",.int ((W.ts.length:Int)+1)]) hr;exact⟨Pr,A,_,_,_,d.root,_,.th ((W.ts.length:Int)+1),rfl,ph2.same s3,hf.1,⟨r,rfl,bX.of ae⟩,λH' k ph=>q H' (((ak.kp s1).trans k2).trans ((ak.kp s3).trans k)) ph⟩
theorem WM (T:Txt K mg a):aU P w K mg base cU 6 a.oK a.Au ["heap","deed"] (iq a K (λd=>∃x n,d=.words x n)):=by
 refine T.uI.ok VT (λvs H Q E h=>?_) (λbY A outer s H vs Q E hr h=>?_)
 ·obtain⟨_,_,_,_,_,rfl,_⟩:=h;rfl
 ·obtain⟨Pr,A,W,t,d,rfl,h,⟨x,n,rfl⟩,hl,lT,hf,bO,q⟩:=h;refine⟨_,(ag (aY (aS (pv 0) T.aj T.MV (Nj T) hr.dm T.RF .nil aw (aa (by exact(aS (pv 0) T.aj T.dq (G6 T) hr.dm T.P2 .nil aw (aa (av aq (pv 1) ai (λ_ _=>rfl)) af))) (aa (av aq (pv 1) ai (λ_ _=>rfl)) af)))) (ah (aB az))),?_⟩;obtain⟨dx,h1⟩:=h.ph.ob;dsimp! [T.bf];obtain⟨i,fs,w,g1,g2,g3,g4⟩:=h.ok.Cp (W.wanted hl mem_cons_self);have e:W.step (.words x n)=⟨W.g,W.ts.set i (.plain fs (some n)),W.hs⟩:=by show W.mF n (W.tg x)=_; rw [g3]; rfl
  rw [e] at q;exact⟨dx,_,h1,aX,dx,_,h1,aX,bC h.de rfl ⟨Pr,A,W.g,W.ts,W.hs,x,_,rfl,h.ph,g1,bC h.de rfl ⟨Pr,A,W.g,W.ts,W.hs,i,fs,w,some n,rfl,h.ph,g2,q⟩⟩⟩
theorem WN (T:Txt K mg a):aU P w K mg base cU 6 a.oM a.Av ["heap","deed"] (iq a K (λd=>∃x i y,d=.put x i y)):=by
 refine T.uJ.ok VU (λvs H Q E h=>?_) (λbY A outer s H vs Q E hr h=>?_)
 ·obtain⟨_,_,_,_,_,rfl,_⟩:=h;rfl
 ·obtain⟨Pr,A,W,t,d,rfl,h,⟨x,i,y,rfl⟩,hl,lT,hf,bO,q⟩:=h;refine⟨_,(ag (aY (aS (pv 0) T.aj T.Wk (Wx T) hr.dm T.aaD .nil aw (aa (by exact(aS (pv 0) T.aj T.dq (G6 T) hr.dm T.P2 .nil aw (aa (av aq (pv 1) ai (λ_ _=>rfl)) af))) (aa (av aq (pv 1) ai (λ_ _=>rfl)) (aa (by exact(aS (pv 0) T.aj T.bq (jV T) hr.dm T.qS .nil aw (aa (av aq (pv 1) ai (λ_ _=>rfl)) af))) af))))) (ah (aB az))),?_⟩;obtain⟨dx,h1⟩:=h.ph.ob;dsimp! [T.bf];obtain⟨j,fs,w,g1,g2,g3,g4⟩:=h.ok.Cp (W.wanted hl mem_cons_self);have e:W.step (.put x i y)=⟨W.g,W.ts.set j (.plain (fs.set i (W.g y)) w),W.hs⟩:=by show W.mG i (W.g y) (W.tg x)=_; rw [g3]; rfl
  rw [e] at q;have hi:i < fs.length:=by
   rw [<-g4];exact of_decide_eq_true (by simpa [Wd.dR,De.ly] using lT)
  exact⟨dx,_,h1,aX,dx,_,h1,aX,bC h.de rfl ⟨Pr,A,W.g,W.ts,W.hs,x,_,rfl,h.ph,g1,bC h.de rfl ⟨dx,_,h1,aX,bC h.de rfl ⟨Pr,A,W.g,W.ts,W.hs,y,rfl,h.ph,λu hu=>⟨Pr,A,W.g,W.ts,W.hs,j,i,fs,w,u,_,rfl,h.ph,g2,hi,hu,q⟩⟩⟩⟩⟩
theorem WO (T:Txt K mg a):aU P w K mg base cU 4 a.oO a.Aw ["heap","deed"] (iq a K (λd=>∃x y i,d=.get x y i)):=by
 refine T.uK.ok VV (λvs H Q E h=>?_) (λbY A outer s H vs Q E hr h=>?_)
 ·obtain⟨_,_,_,_,_,rfl,_⟩:=h;rfl
 ·obtain⟨Pr,A,W,t,d,rfl,h,⟨x,y,i,rfl⟩,hl,lT,hf,bO,q⟩:=h;refine⟨_,(ag (aY (aS (pv 0) T.aj T.bt (pf T) hr.dm T.B0 .nil aw (aa (av aq (pv 1) ai (λ_ _=>rfl)) (aa (av df (ff (L:=[(a.cy,dY a K),(a.aM,dY a K),(a.bc,dY a K)]) (aS (pv 0) T.aj T.dh (G7 T) hr.dm T.P4 .nil aw (aa (av aq (pv 1) ai (λ_ _=>rfl)) af)) (forall_mem_cons.mpr ⟨⟨_,_,_,_,T.eQ,T.qQ,eZ T,hr.mono (by decide),T.gU⟩,forall_mem_cons.mpr ⟨⟨_,_,_,_,T.aW,T.cK,eZ T,hr.mono (by decide),T.gU⟩,forall_mem_cons.mpr ⟨⟨_,_,_,_,T.cI,T.cT,eZ T,hr.mono (by decide),T.gU⟩,forall_mem_nil _⟩⟩⟩) .nil aw) (av aq (pv 1) ai (λ_ _=>rfl)) (λ_ _=>rfl)) af)))) (ah (aB az))),?_⟩;obtain⟨dx,h1⟩:=h.ph.ob;dsimp! [T.bf];obtain⟨j,fs,w,g1,g2,g3,g4⟩:=h.ok.Cp (W.wanted hl mem_cons_self);have hi:i < fs.length:=by
   rw [<-g4];exact of_decide_eq_true (by simpa [Wd.dR,De.ly] using lT)
  have e:W.step (.get x y i)=W.en x fs[i]:=by
   show W.en x ((W.fs y).getD i .no)=_;rw [g4,List.getD_eq_getElem?_getD,getElem?_eq_getElem hi];rfl
  rw [e] at q;refine⟨dx,_,h1,aX,bC h.de rfl ⟨dx,_,h1,aX,bC h.de rfl ⟨Pr,A,W.g,W.ts,W.hs,y,j,_,rfl,h.ph,g1,g2,λp d2 hT=>?_⟩⟩⟩;obtain⟨O1,Em⟩:=hT.ob;refine⟨p,rfl,_,_,_,Em,(Tg.plain fs w).no d2,_,(Tg.plain fs w).mem _,p,d2,_,rfl,hT,λr xs hr mC hz=>?_⟩;have s1:=ak.put (o:=.lst xs) hr;have hx:xs[i]?=some (xs[i]'(by have:=mC.1; have e3:(Tg.plain fs w).fs=fs:=rfl; rw [e3] at this; omega)):=getElem?_eq_getElem _;exact bC (s1.cg h.de) rfl (Dm (ba.of ae) (dk hx) ⟨Pr,A,W.g,W.ts,W.hs,x,_,_,rfl,h.ph.same s1,hf.1,(mC.2 i _ _ hx (getElem?_eq_getElem hi)).same s1,λH' k ph=>q H' ((ak.kp s1).trans k) ph⟩)
theorem WQ (T:Txt K mg a):aU P w K mg base cU 3 a.oP a.Ax ["heap","deed"] (iq a K (λd=>∃x y,d=.look x y)):=by
 refine T.uL.ok VW (λvs H Q E h=>?_) (λbY A outer s H vs Q E hr h=>?_)
 ·obtain⟨_,_,_,_,_,rfl,_⟩:=h;rfl
 ·obtain⟨Pr,A,W,t,d,rfl,h,⟨x,y,rfl⟩,hl,lT,hf,bO,q⟩:=h;refine⟨_,(ag (aY (aS (pv 0) T.aj T.bt (pf T) hr.dm T.B0 .nil aw (aa (av aq (pv 1) ai (λ_ _=>rfl)) (aa (by exact(aS (pv 0) T.aj T.jg (abi T) hr.dm T.aem .nil aw (aa (by exact(aS (pv 0) T.aj T.dq (G6 T) hr.dm T.P2 .nil aw (aa (av aq (pv 1) ai (λ_ _=>rfl)) af))) af))) af)))) (ah (aB az))),?_⟩;obtain⟨dx,h1⟩:=h.ph.ob;dsimp! [T.bf];obtain⟨j,f,g1,g2,g3,g4⟩:=h.ok.abr (W.wanted hl mem_cons_self);have e:W.step (.look x y)=W.en x f:=by
   show W.en x ((W.fs y).getD 0 .no)=_;rw [g4];rfl
  rw [e] at q;exact⟨dx,_,h1,aX,bC h.de rfl ⟨dx,_,h1,aX,dx,_,h1,aX,bC h.de rfl ⟨Pr,A,W.g,W.ts,W.hs,y,_,rfl,h.ph,g1,Pr,A,W.g,W.ts,W.hs,j,_,f,rfl,h.ph,g2,rfl,λu H1 s1 hu=>⟨Pr,A,W.g,W.ts,W.hs,x,_,_,rfl,h.ph.same s1,hf.1,hu,λH' k ph=>q H' ((ak.kp s1).trans k) ph⟩⟩⟩⟩
theorem WR (T:Txt K mg a):aU P w K mg base cU 4 a.oQ a.Ay ["heap","deed"] (iq a K (λd=>∃x y z,d=.find x y z)):=by
 refine T.uM.ok Me (λvs H Q E h=>?_) (λbY A outer s H vs Q E hr h=>?_)
 ·obtain⟨_,_,_,_,_,rfl,_⟩:=h;rfl
 ·obtain⟨Pr,A,W,t,d,rfl,h,⟨x,y,z,rfl⟩,hl,lT,hf,bO,q⟩:=h;refine⟨_,(ag (aN (i:=2) Me.nd rfl (Or.inl rfl) (ff (L:=[(a.cy,dY a K),(a.aM,dY a K),(a.bc,dY a K)]) (aS (pv 0) T.aj T.dh (G7 T) hr.dm T.P4 .nil aw (aa (av aq (pv 1) ai (λ_ _=>rfl)) af)) (forall_mem_cons.mpr ⟨⟨_,_,_,_,T.eQ,T.qQ,eZ T,hr.mono (by decide),T.gU⟩,forall_mem_cons.mpr ⟨⟨_,_,_,_,T.aW,T.cK,eZ T,hr.mono (by decide),T.gU⟩,forall_mem_cons.mpr ⟨⟨_,_,_,_,T.cI,T.cT,eZ T,hr.mono (by decide),T.gU⟩,forall_mem_nil _⟩⟩⟩) .nil aw)) (ag (aY (aS (pv 0) T.aj T.bt (pf T) hr.dm T.B0 .nil aw (aa (av aq (pv 1) ai (λ_ _=>rfl)) (aa (eJ (aF (jM hr.units) (av df (pv 2) ai (λ_ _=>rfl)) (aS (pv 0) T.aj T.bq (jV T) hr.dm T.qS .nil aw (aa (av aq (pv 1) ai (λ_ _=>rfl)) af)) (aH _)) (av df (pv 2) ai (λ_ _=>rfl)) (dc (v:=.ref a.aV) rfl T.bf rfl)) af)))) (ah (aB az)))),?_⟩;obtain⟨dx,h1⟩:=h.ph.ob;dsimp! [T.bf];obtain⟨j,k,v,g1,g2,g3,g4⟩:=h.ok.abt (W.wanted hl mem_cons_self);have e:W.step (.find x y z)=W.en x (if bI (vD k) (vD (W.g z))=true then v else .no):=by
   show W.en x (if bI (vD ((W.fs y).getD 0 .no)) (vD (W.g z))=true then(W.fs y).getD 1 .no else .no)=_;rw [g4];rfl
  rw [e] at q;refine⟨dx,_,h1,aX,bC h.de rfl ⟨Pr,A,W.g,W.ts,W.hs,y,j,_,rfl,h.ph,g1,g2,λp d2 hT=>?_⟩⟩;obtain⟨O1,Em⟩:=hT.ob;refine⟨p,rfl,_,_,_,Em,(Tg.pair k v).no d2,_,(Tg.pair k v).mem _,p,d2,_,rfl,hT,λr xs hr mC hz=>?_⟩;have s1:=ak.put (o:=.lst xs) hr;have fW:[k,v].length=xs.length:=mC.1;have RW:xs[0]?=some (xs[0]'(by rw [<-fW,length_cons,length_singleton]; decide)):=getElem?_eq_getElem _;have mZ:xs[1]?=some (xs[1]'(by rw [<-fW,length_cons,length_singleton]; decide)):=getElem?_eq_getElem _;refine⟨dx,_,s1 _ _ h1,aX,bC (s1.cg h.de) rfl (Dm (ba.of ae) (dk (j:=0) RW) ⟨dx,_,s1 _ _ h1,aX,bC (s1.cg h.de) rfl ⟨Pr,A,W.g,W.ts,W.hs,z,rfl,h.ph.same s1,λu hu=>?_⟩⟩)⟩;refine⟨_,_,((mC.2 0 _ _ RW rfl).same s1).nU,hu.nU,by rw [lx]; decide,_,rfl,?_⟩;refine bj (λc=>?_) λc=>?_
  ·have c2:bI (vD k) (vD (W.g z))=true:=c;rw [if_pos c2] at q;exact Dm (ba.of ae) (dk (j:=1) mZ) ⟨Pr,A,W.g,W.ts,W.hs,x,_,_,rfl,h.ph.same s1,hf.1,(mC.2 1 _ _ mZ rfl).same s1,λH' k ph=>q H' ((ak.kp s1).trans k) ph⟩
  ·have c2:¬bI (vD k) (vD (W.g z))=true:=c;rw [if_neg c2] at q;exact⟨Pr,A,W.g,W.ts,W.hs,x,_,.no,rfl,h.ph.same s1,hf.1,⟨_,rfl,T.dI _⟩,λH' k ph=>q H' ((ak.kp s1).trans k) ph⟩
theorem WS (T:Txt K mg a):aU P w K mg base cU 2 a.oR a.Az ["heap","deed"] (iq a K (λd=>∃x y,d=.copy x y)):=by
 refine T.uN.ok VX (λvs H Q E h=>?_) (λbY A outer s H vs Q E hr h=>?_)
 ·obtain⟨_,_,_,_,_,rfl,_⟩:=h;rfl
 ·obtain⟨Pr,A,W,t,d,rfl,h,⟨x,y,rfl⟩,hl,lT,hf,bO,q⟩:=h;refine⟨_,(ag (aY (aS (pv 0) T.aj T.bt (pf T) hr.dm T.B0 .nil aw (aa (av aq (pv 1) ai (λ_ _=>rfl)) (aa (by exact(aS (pv 0) T.aj T.bq (jV T) hr.dm T.qS .nil aw (aa (av aq (pv 1) ai (λ_ _=>rfl)) af))) af)))) (ah (aB az))),?_⟩;obtain⟨dx,h1⟩:=h.ph.ob;dsimp! [T.bf];exact⟨dx,_,h1,aX,bC h.de rfl ⟨dx,_,h1,aX,bC h.de rfl ⟨Pr,A,W.g,W.ts,W.hs,y,rfl,h.ph,λu hu=>⟨Pr,A,W.g,W.ts,W.hs,x,_,_,rfl,h.ph,hf.1,hu,q⟩⟩⟩⟩
theorem WT (T:Txt K mg a):aU P w K mg base cU 2 a.oS a.AA ["heap","deed"] (iq a K (λd=>∃x,d=.drop x)):=by
 refine T.uO.ok VY (λvs H Q E h=>?_) (λbY A outer s H vs Q E hr h=>?_)
 ·obtain⟨_,_,_,_,_,rfl,_⟩:=h;rfl
 ·obtain⟨Pr,A,W,t,d,rfl,h,⟨x,rfl⟩,hl,lT,hf,bO,q⟩:=h;refine⟨_,(ag (aY (aS (pv 0) T.aj T.bt (pf T) hr.dm T.B0 .nil aw (aa (av aq (pv 1) ai (λ_ _=>rfl)) (aa (dc (v:=.ref a.aV) rfl T.bf rfl) af)))) (ah (aB az))),?_⟩;obtain⟨dx,h1⟩:=h.ph.ob;dsimp! [T.bf];exact⟨dx,_,h1,aX,bC h.de rfl ⟨Pr,A,W.g,W.ts,W.hs,x,_,.no,rfl,h.ph,hf.1,⟨_,rfl,T.dI _⟩,q⟩⟩
theorem WU (T:Txt K mg a):aU P w K mg base cU 2 a.oU a.AB ["heap","deed"] (iq a K (λd=>∃x,d=.tell x)):=by
 refine T.uP.ok Mf (λvs H Q E h=>?_) (λbY A outer s H vs Q E hr h=>?_)
 ·obtain⟨_,_,_,_,_,rfl,_⟩:=h;rfl
 ·obtain⟨Pr,A,W,t,d,rfl,h,⟨x,rfl⟩,hl,lT,hf,bO,q⟩:=h;refine⟨_,(ag (aN (i:=2) Mf.nd rfl (Or.inl rfl) (aS (pv 0) T.aj T.bq (jV T) hr.dm T.qS .nil aw (aa (av aq (pv 1) ai (λ_ _=>rfl)) af))) (ah (aB (eJ (aF cj (av aq (pv 2) ai (λ_ _=>rfl)) az (aH _)) (cv ku rfl T.mz kX (aa (av aq (pv 2) ai (λ_ _=>rfl)) af)) (av aq (pv 2) ai (λ_ _=>rfl)))))),?_⟩;obtain⟨dx,h1⟩:=h.ph.ob;dsimp! [T.bf];refine⟨dx,_,h1,aX,bC h.de rfl ⟨Pr,A,W.g,W.ts,W.hs,x,rfl,h.ph,λu hu=>?_⟩⟩;have q:=q H (Kp.refl _ _) h.ph;have ok:=h.ok.g x;have e:W.Dl (.tell x)=(W.g x).told:=rfl;rw [e] at q
  cases e:W.g x with
  | no=>
   rw [e] at hu q;obtain⟨r,rfl,hr⟩:=hu;exact bC hr rfl ⟨rfl,bj (λz=>absurd (V.str.inj (of_decide_eq_true z)) (by decide +kernel)) λ_=>bC hr rfl q⟩
  | th n=>
   rw [e] at hu q;obtain⟨r,rfl,hr⟩:=hu;exact bC hr rfl ⟨rfl,bj (λz=>absurd (V.str.inj (of_decide_eq_true z)) (by decide +kernel)) λ_=>bC hr rfl q⟩
  | num n=>
   rw [e] at hu q ok;obtain⟨r,rfl,hr⟩:=hu;exact bC hr rfl ⟨rfl,bj (λ_=>bC hr rfl (.inl ⟨n,rfl,Cm.log ok,q⟩)) λz=>absurd (decide_eq_true rfl) z⟩
theorem WV (T:Txt K mg a):aU P w K mg base cU 2 a.oW a.AD ["heap","deed"] (iq a K (λd=>∃x y,d=.same x y)):=by
 refine T.uQ.ok VZ (λvs H Q E h=>?_) (λbY A outer s H vs Q E hr h=>?_)
 ·obtain⟨_,_,_,_,_,rfl,_⟩:=h;rfl
 ·obtain⟨Pr,A,W,t,d,rfl,h,⟨x,y,rfl⟩,hl,lT,hf,bO,q⟩:=h;refine⟨_,(ah (aB (eJ (aF (jM hr.units) (aS (pv 0) T.aj T.bq (jV T) hr.dm T.qS .nil aw (aa (av aq (pv 1) ai (λ_ _=>rfl)) af)) (aS (pv 0) T.aj T.bq (jV T) hr.dm T.qS .nil aw (aa (av aq (pv 1) ai (λ_ _=>rfl)) af)) (aH _)) az az))),?_⟩;obtain⟨dx,h1⟩:=h.ph.ob;dsimp! [T.bf];refine⟨dx,_,h1,aX,bC h.de rfl ⟨Pr,A,W.g,W.ts,W.hs,x,rfl,h.ph,λu hu=>⟨dx,_,h1,aX,bC h.de rfl ⟨Pr,A,W.g,W.ts,W.hs,y,rfl,h.ph,λu2 Nt=>⟨_,_,hu.nU,Nt.nU,by rw [lx]; decide,_,rfl,?_⟩⟩⟩⟩⟩;have q:=q H (Kp.refl _ _) h.ph;have e:W.Dl (.same x y)=if bI (vD (W.g x)) (vD (W.g y))=true then("yes":Str)else("no":Str):=rfl
  rw [e] at q;refine bj (λc=>?_) λc=>?_
  ·have c2:bI (vD (W.g x)) (vD (W.g y))=true:=c;rw [if_pos c2] at q;exact q
  ·have c2:¬bI (vD (W.g x)) (vD (W.g y))=true:=c;rw [if_neg c2] at q;exact q
theorem WW (T:Txt K mg a):aU P w K mg base cU 2 a.oX a.AE ["heap","deed"] (iq a K (λd=>∃x,d=.hear x)):=by
 refine T.uR.ok Mg (λvs H Q E h=>?_) (λbY A outer s H vs Q E hr h=>?_)
 ·obtain⟨_,_,_,_,_,rfl,_⟩:=h;rfl
 ·obtain⟨Pr,A,W,t,d,rfl,h,⟨x,rfl⟩,hl,lT,hf,bO,q⟩:=h;refine⟨_,(ag (aN (i:=2) Mg.nd rfl (Or.inl rfl) (dj (pv 0) T.aj T.iM (abj T) hr.dm T.aen .nil aw)) (ag (aY (aS (pv 0) T.aj T.bt (pf T) hr.dm T.B0 .nil aw (aa (av aq (pv 1) ai (λ_ _=>rfl)) (aa (eJ (aF nk (pv 2) cz (aH _)) (dc (v:=.ref a.aV) rfl T.bf rfl) (bo (aa az (aa (av aq (pv 2) ai (λ_ _=>rfl)) af)))) af)))) (ah (aB (eJ (aF nk (pv 2) cz (aH _)) az (cv ku rfl T.mz kX (aa (av aq (pv 2) ai (λ_ _=>rfl)) af))))))),?_⟩;obtain⟨dx,h1⟩:=h.ph.ob;dsimp! [T.bf];refine⟨dx,_,h1,aX,Pr,A,W.g,W.ts,W.hs,rfl,h.ph,λe=>?_,λr qZ u H1 e k1 ph1 hu=>?_⟩
  ·have e1:W.step (.hear x)=W.en x .no:=by show W.pz x W.hs=_; rw [e]; rfl
   have e2:W.Dl (.hear x)="none":=by show Cn W.hs=_; rw [e]; rfl
   rw [e1,e2] at q;exact⟨dx,_,h1,aX,bC h.de rfl (bj (λ_=>⟨Pr,A,W.g,W.ts,W.hs,x,_,.no,rfl,h.ph,hf.1,⟨_,rfl,T.dI _⟩,λH' k ph=>bj (λ_=>q H' k ph) λz=>absurd (decide_eq_true rfl) z⟩) λz=>absurd (decide_eq_true rfl) z)⟩
  ·have e1:W.step (.hear x)=(Wd.mk W.g W.ts qZ).en x (.th (r.1:Nat)):=by show W.pz x W.hs=_; rw [e]; rfl
   have e2:W.Dl (.hear x)=(toString r.2:String):=by show Cn W.hs=_; rw [e]; rfl
   rw [e1,e2] at q;have hn:=(h.ok.hs r (by rw [e]; exact mem_cons_self)).2;have hde:=k1.cg h.ph.mu h.de;obtain⟨dx1,o1⟩:=ph1.ob;refine⟨dx1,_,o1,aX,bC hde rfl (bj (λz=>by cases (of_decide_eq_true z)) λ_=>bC hu rfl ⟨by decide,λp hp=>?_⟩)⟩;have s1:=ak.put (o:=.tup [.str "thing",.int (r.1:Int)]) hp;refine⟨Pr,A,W.g,W.ts,qZ,x,_,.th (r.1:Nat),rfl,ph1.same s1,hf.1,⟨p,rfl,bX.of ae⟩,λH' k ph=>bj (λz=>by cases (of_decide_eq_true z)) λ_=>?_⟩;exact bC (k.cg (ph1.same s1).mu (s1.cg hu)) rfl (.inl ⟨_,rfl,Cm.log hn,q H' (k1.trans ((ak.kp s1).trans k)) ph⟩)
noncomputable def Wd.refuse (W:Wd) (d:De):Option Str:=if W.gI d=true then some "no thing" else if W.dR d=true then some "no field" else none
noncomputable def oV:Option Str->V
 | none=>.bN
 | some s=>.str s
inductive rj (a:eI) (K:Frag) (vs:List V) (H:Hp) (Q:VK) (E:XK):Prop
 | mk (Pr A W t d:_) (_:vs=[.ref A.p,.ref t]) (_:Ih a K Pr H A W t d) (_:∀H',ak H H'->Q (oV (W.refuse d)) H'):rj a K vs H Q E
theorem abu (T:Txt K mg a):aU P w K mg base cU 7 a.Ib a.My ["self","deed"] (rj a K):=by
 refine T.MS.ok ZP (λvs H Q E h=>?_) (λbY A outer s H vs Q E hr h=>?_)
 ·obtain⟨_,_,_,_,_,rfl,_⟩:=h;rfl
 ·obtain⟨Pr,A,W,t,d,rfl,h,q⟩:=h;refine⟨_,(ag (bh (fJ (aD (WH T) hr.dm rfl T.aaj T.BX.kp T.aai .nil aw (aa (pv 0) (aa (pv 1) af)))) (ah (aB (dc (v:=.str "no thing") rfl T.qV ⟨_,rfl⟩))) aL) (ag (bh (fJ (aD (WI T) hr.dm rfl T.aal T.BY.kp T.aak .nil aw (aa (pv 0) (aa (pv 1) af)))) (ah (aB (dc (v:=.str "no field") rfl T.qW ⟨_,rfl⟩))) aL) (ah (aB cz)))),?_⟩;dsimp! [T.qV,T.qW];refine⟨Pr,A,W,t,d,rfl,h,λH1 s1=>⟨_,rfl,bj (λc=>?_) λc=>?_⟩⟩
  ·have e:W.refuse d=some ("no thing":Str):=by unfold Wd.refuse; rw [if_pos c]
   rw [e] at q;exact q H1 s1
  ·refine⟨Pr,A,W,t,d,rfl,⟨h.ph.same s1,h.ok,s1.cg h.de⟩,Bool.eq_false_iff.mpr c,λH2 s2=>⟨_,rfl,bj (λc2=>?_) λc2=>?_⟩⟩
   ·have e:W.refuse d=some ("no field":Str):=by unfold Wd.refuse; rw [if_neg c,if_pos c2]
    rw [e] at q;exact q H2 (s1.trans s2)
   ·have e:W.refuse d=none:=by unfold Wd.refuse; rw [if_neg c,if_neg c2]
    rw [e] at q;exact q H2 (s1.trans s2)
noncomputable def P_ (a:eI) (K:Frag):Sp:=iq a K λ_=>True
theorem abv (T:Txt K mg a):aU P w K mg base cU 7 a.Ic a.Mz ["self","deed"] (P_ a K):=by
 refine T.MT.ok ZQ (λvs H Q E h=>?_) (λbY A outer s H vs Q E hr h=>?_)
 ·obtain⟨_,_,_,_,_,rfl,_⟩:=h;rfl
 ·obtain⟨Pr,A,W,t,d,rfl,h,_,hl,lT,hf,bO,q⟩:=h;refine⟨_,(ah (aB (Kk (L:=[(a.oJ,_),(a.jr,_),(a.oK,_),(a.oM,_),(a.oO,_),(a.oP,_),(a.oQ,_),(a.oR,_),(a.oS,_),(a.oU,_),(a.oW,_),(a.oX,_)]) (PR T.MZ (dc (v:=.ref a.ie) rfl T.GX rfl) (av aq (pv 1) ai (λ_ _=>rfl)) (λ_ _=>rfl)) (forall_mem_cons.mpr ⟨⟨_,_,_,T.uH.kp,WK T,hr.mono (by decide),T.aao⟩,forall_mem_cons.mpr ⟨⟨_,_,_,T.oZ.kp,WL T,hr.mono (by decide),T.aap⟩,forall_mem_cons.mpr ⟨⟨_,_,_,T.uI.kp,WM T,hr.mono (by decide),T.aaq⟩,forall_mem_cons.mpr ⟨⟨_,_,_,T.uJ.kp,WN T,hr.mono (by decide),T.aar⟩,forall_mem_cons.mpr ⟨⟨_,_,_,T.uK.kp,WO T,hr.mono (by decide),T.aas⟩,forall_mem_cons.mpr ⟨⟨_,_,_,T.uL.kp,WQ T,hr.mono (by decide),T.aat⟩,forall_mem_cons.mpr ⟨⟨_,_,_,T.uM.kp,WR T,hr.mono (by decide),T.aau⟩,forall_mem_cons.mpr ⟨⟨_,_,_,T.uN.kp,WS T,hr.mono (by decide),T.aav⟩,forall_mem_cons.mpr ⟨⟨_,_,_,T.uO.kp,WT T,hr.mono (by decide),T.aaw⟩,forall_mem_cons.mpr ⟨⟨_,_,_,T.uP.kp,WU T,hr.mono (by decide),T.aax⟩,forall_mem_cons.mpr ⟨⟨_,_,_,T.uQ.kp,WV T,hr.mono (by decide),T.aay⟩,forall_mem_cons.mpr ⟨⟨_,_,_,T.uR.kp,WW T,hr.mono (by decide),T.aaz⟩,forall_mem_nil _⟩⟩⟩⟩⟩⟩⟩⟩⟩⟩⟩⟩) .nil aw (aa (pv 0) (aa (pv 1) af))))),?_⟩;dsimp! [T.GX,Kj];refine bC h.de d.hd ⟨d.word,rfl,?_⟩
  cases d with
  | num x n=>exact⟨a.oJ,by kernel_rfl,_,.head _,Pr,A,W,t,_,rfl,h,⟨x,n,rfl⟩,hl,lT,hf,bO,q⟩
  | make x n=>exact⟨a.jr,by kernel_rfl,_,.tail _ (.head _),Pr,A,W,t,_,rfl,h,rfl,hl,lT,hf,bO,q⟩
  | weak x y=>exact⟨a.jr,by kernel_rfl,_,.tail _ (.head _),Pr,A,W,t,_,rfl,h,rfl,hl,lT,hf,bO,q⟩
  | pair x y z=>exact⟨a.jr,by kernel_rfl,_,.tail _ (.head _),Pr,A,W,t,_,rfl,h,rfl,hl,lT,hf,bO,q⟩
  | words x n=>exact⟨a.oK,by kernel_rfl,_,.tail _ (.tail _ (.head _)),Pr,A,W,t,_,rfl,h,⟨x,n,rfl⟩,hl,lT,hf,bO,q⟩
  | put x i y=>exact⟨a.oM,by kernel_rfl,_,.tail _ (.tail _ (.tail _ (.head _))),Pr,A,W,t,_,rfl,h,⟨x,i,y,rfl⟩,hl,lT,hf,bO,q⟩
  | get x y i=>exact⟨a.oO,by kernel_rfl,_,.tail _ (.tail _ (.tail _ (.tail _ (.head _)))),Pr,A,W,t,_,rfl,h,⟨x,y,i,rfl⟩,hl,lT,hf,bO,q⟩
  | look x y=>exact⟨a.oP,by kernel_rfl,_,.tail _ (.tail _ (.tail _ (.tail _ (.tail _ (.head _))))),Pr,A,W,t,_,rfl,h,⟨x,y,rfl⟩,hl,lT,hf,bO,q⟩
  | find x y z=>exact⟨a.oQ,by kernel_rfl,_,.tail _ (.tail _ (.tail _ (.tail _ (.tail _ (.tail _ (.head _)))))),Pr,A,W,t,_,rfl,h,⟨x,y,z,rfl⟩,hl,lT,hf,bO,q⟩
  | copy x y=>exact⟨a.oR,by kernel_rfl,_,.tail _ (.tail _ (.tail _ (.tail _ (.tail _ (.tail _ (.tail _ (.head _))))))),Pr,A,W,t,_,rfl,h,⟨x,y,rfl⟩,hl,lT,hf,bO,q⟩
  | drop x=>exact⟨a.oS,by kernel_rfl,_,.tail _ (.tail _ (.tail _ (.tail _ (.tail _ (.tail _ (.tail _ (.tail _ (.head _)))))))),Pr,A,W,t,_,rfl,h,⟨x,rfl⟩,hl,lT,hf,bO,q⟩
  | tell x=>exact⟨a.oU,by kernel_rfl,_,.tail _ (.tail _ (.tail _ (.tail _ (.tail _ (.tail _ (.tail _ (.tail _ (.tail _ (.head _))))))))),Pr,A,W,t,_,rfl,h,⟨x,rfl⟩,hl,lT,hf,bO,q⟩
  | same x y=>exact⟨a.oW,by kernel_rfl,_,.tail _ (.tail _ (.tail _ (.tail _ (.tail _ (.tail _ (.tail _ (.tail _ (.tail _ (.tail _ (.head _)))))))))),Pr,A,W,t,_,rfl,h,⟨x,y,rfl⟩,hl,lT,hf,bO,q⟩
  | hear x=>exact⟨a.oX,by kernel_rfl,_,.tail _ (.tail _ (.tail _ (.tail _ (.tail _ (.tail _ (.tail _ (.tail _ (.tail _ (.tail _ (.tail _ (.head _))))))))))),Pr,A,W,t,_,rfl,h,⟨x,rfl⟩,hl,lT,hf,bO,q⟩
noncomputable def WX:Sp:=λ_ _ _ _=>False
theorem WY (T:Txt K mg a):aU P w K mg base cU 1 a.Ah a.Ai ["word"] WX:=aU.no
inductive Nu (a:eI) (K:Frag) (vs:List V) (H:Hp) (Q:VK) (E:XK):Prop
 | mk (Pr A W t d:_) (_:vs=[.ref A.p,.ref t]) (_:Ih a K Pr H A W t d) (_:d.fits) (_:W.ts.length < 500) (_:W.refuse d=none) (_:∀H',Kp A.own H H'->PW a K Pr H' A (W.step d)->Q (.str (W.Dl d)) H'):Nu a K vs H Q E
theorem WZ (T:Txt K mg a):aU P w K mg base cU 8 a.AH a.AI ["self","deed"] (Nu a K):=by
 refine T.GC.ok Mh (λvs H Q E h=>?_) (λbY A outer s H vs Q E hr h=>?_)
 ·obtain⟨_,_,_,_,_,rfl,_⟩:=h;rfl
 ·obtain⟨Pr,A,W,t,d,rfl,h,hf,bO,e,q1⟩:=h;refine⟨_,(ag (aN (i:=2) Mh.nd rfl (Or.inl rfl) (aS (pv 0) T.aj T.jS (abu T) hr.dm T.aeo .nil aw (aa (pv 1) af))) (ag (bh (aF lZ (pv 2) cz (aH _)) (ah (aY (aD (WY T) hr.dm rfl T.aaf T.GA.kp T.aae .nil aw (aa (pv 2) af)))) aL) (ah (aB (aS (pv 0) T.aj T.my (abv T) hr.dm T.aep .nil aw (aa (pv 1) af)))))),?_⟩;obtain⟨dx,h1⟩:=h.ph.ob;have f1:=aX (rv:=A.rv) (hd:=A.hd) (md:=A.md) (n:="refusal");dsimp! [h1,HO.ins.injEq,f1];refine⟨Pr,A,W,t,d,rfl,h,λH1 s1=>?_⟩;have e1:W.gI d=false:=by
   cases c:W.gI d with
   | false=>rfl
   | true=>
    unfold Wd.refuse at e;rw [if_pos c] at e;cases e
  have e2:W.dR d=false:=by
   cases c:W.dR d with
   | false=>rfl
   | true=>
    unfold Wd.refuse at e;rw [if_neg (by rw [e1]; simp),if_pos c] at e;cases e
  rw [e];exact bj (λc=>by cases c) λ_=>⟨dx,_,s1 _ _ h1,aX,Pr,A,W,t,d,rfl,⟨h.ph.same s1,h.ok,s1.cg h.de⟩,trivial,e1,e2,hf,bO,λH' k ph=>q1 H' ((ak.kp s1).trans k) ph⟩
structure LA where
 st:Addr
 d0:Addr
 d1:Addr
 l2:Addr
noncomputable def LA.own (L:LA) (b:Addr):Prop:=b=L.d0\/b=L.d1\/b=L.l2
noncomputable def Ii (kvs:List (Key×V)) (g:Str->Vl):Prop:=∀x u,bz kvs (Sum.inr x)=some u->g x≠.no
structure eV (K:Frag) (Pr:Addr->Prop) (H:Hp) (L:LA) (W:Wd):Prop where
 tu:bX K H L.st [.ref L.d0,.ref L.d1,.ref L.l2]
 rt:∃kvs,H L.d0=some (.dK kvs)/\nT K H kvs W.g/\Ii kvs W.g
 th:∃rows:List (Addr×Addr),H L.d1=some (.dK (dE rows))/\rows.length=W.ts.length/\(∀(i:Nat) q t,rows[i]?=some q->W.ts[i]?=some t->e_ K H q.1 q.2 t)/\∀q∈rows,q.2≠L.l2/\¬Pr q.2
 he:∃xs,H L.l2=some (.lst xs)/\qd K H xs W.hs
 ne:L.d0≠L.d1
 pr:∀b,Pr b->H b≠none/\¬L.own b
 bO:W.ts.length<=500/\W.hs.length<=500
theorem some_of {H H':Hp}{b:Addr}(h:H b≠none) (k:∀o,H b=some o->H' b=some o):H' b≠none:=by
 cases e:H b with
 | none=>exact absurd e h
 | some u=>rw [k u e]; intro z; cases z
theorem e_.kp {S:Addr->Prop}{H H':Hp}{p l:Addr}{t:Tg}(h:e_ K H p l t) (k:Kp S H H') (mu:∀b,S b->Mu H b) (hl:¬S l):e_ K H' p l t:=by
 obtain⟨h1,xs,h2,h3,h4⟩:=h;refine⟨k _ _ (λz=>?_) h1,xs,k _ _ hl h2,h3.kp k mu,h4⟩;rcases mu _ z with ⟨ys,m⟩ | ⟨ys,m⟩ <;> (rw [m] at h1; cases h1)
section
variable {Pr:Addr->Prop}{H H':Hp}{L:LA}{W:Wd}
theorem eV.same (h:eV K Pr H L W) (k:ak H H'):eV K Pr H' L W:=by
 obtain⟨kvs,h2,h3,Nv⟩:=h.rt;obtain⟨ps,h4,h5,h6,h7⟩:=h.th;obtain⟨xs,h8,h9⟩:=h.he;exact⟨k.cg h.tu,⟨kvs,k _ _ h2,h3.same k,Nv⟩,⟨ps,k _ _ h4,h5,λi q t a b=>(h6 i q t a b).same k,h7⟩,⟨xs,k _ _ h8,h9.same k⟩,h.ne,λb hb=>⟨some_of (h.pr b hb).1 λo=>k b o,(h.pr b hb).2⟩,h.bO⟩
theorem eV.mu (h:eV K Pr H L W):∀b,L.own b->Mu H b:=λb z=>by
 rcases z with rfl | rfl | rfl
 ·obtain⟨kvs,h2,_⟩:=h.rt;exact .inr ⟨_,h2⟩
 ·obtain⟨ps,h4,_⟩:=h.th;exact .inr ⟨_,h4⟩
 ·obtain⟨xs,h8,_⟩:=h.he;exact .inl ⟨_,h8⟩
theorem eV.kp {S:Addr->Prop}(h:eV K Pr H L W) (k:Kp S H H') (mu:∀b,S b->Mu H b) (sp:∀b,S b->Pr b) (so:∀b,S b->H' b≠none):eV K Pr H' L W:=by
 obtain⟨kvs,h2,h3,Nv⟩:=h.rt;obtain⟨ps,h4,h5,h6,h7⟩:=h.th;obtain⟨xs,h8,h9⟩:=h.he;have no:∀b,L.own b->¬S b:=λb z y=>(h.pr b (sp b y)).2 z
 refine⟨k.cg mu h.tu,⟨kvs,k _ _ (no _ (.inl rfl)) h2,h3.kp k mu,Nv⟩,⟨ps,k _ _ (no _ (.inr (.inl rfl))) h4,h5,λi q t a b=>(h6 i q t a b).kp k mu λz=>(h7 q (mem_of_getElem? a)).2 (sp _ z),h7⟩,⟨xs,k _ _ (no _ (.inr (.inr rfl))) h8,h9.kp k mu⟩,h.ne,λb hb=>⟨?_,(h.pr b hb).2⟩,h.bO⟩
 by_cases z:S b
 ·exact so b z
 ·exact some_of (h.pr b hb).1 λo=>k b o z
theorem eV.roots (h:eV K Pr H L W) {jh:List (Key×V)}{g':Str->Vl}(hr:nT K H jh g') (hn:Ii jh g'):eV K Pr (upd H L.d0 (.dK jh)) L ⟨g',W.ts,W.hs⟩:=by
 obtain⟨kvs,h2,h3,Nv⟩:=h.rt;obtain⟨ps,h4,h5,h6,h7⟩:=h.th;obtain⟨xs,h8,h9⟩:=h.he;have k:Kp (·=L.d0) H (upd H L.d0 (.dK jh)):=(Kp.refl _ _).set rfl;have mu:∀b,b=L.d0->Mu H b:=λb e=>.inr ⟨kvs,by rw [e]; exact h2⟩
 refine⟨k.cg mu h.tu,⟨jh,ae,hr.kp k mu,hn⟩,⟨ps,k _ _ h.ne.symm h4,h5,λi q t a b=>(h6 i q t a b).kp k mu λz=>?_,h7⟩,⟨xs,k _ _ (λz=>by rw [z,h2] at h8; cases h8) h8,h9.kp k mu⟩,h.ne,λb hb=>⟨some_of (h.pr b hb).1 λo=>k b o λz=>(h.pr b hb).2 (.inl z),(h.pr b hb).2⟩,h.bO⟩;obtain⟨_,_,e,_⟩:=h6 i q t a b;have z2:q.2=L.d0:=z;rw [z2,h2] at e;cases e
theorem eV.things (h:eV K Pr H L W) {G4:List (Addr×Addr)}{ts':List Tg}(hl:G4.length=ts'.length) (G5:∀(i:Nat) q t,G4[i]?=some q->ts'[i]?=some t->e_ K H q.1 q.2 t) (hn:∀q∈G4,q.2≠L.l2/\¬Pr q.2) (bO:ts'.length<=500):eV K Pr (upd H L.d1 (.dK (dE G4))) L ⟨W.g,ts',W.hs⟩:=by
 obtain⟨kvs,h2,h3,Nv⟩:=h.rt;obtain⟨ps,h4,h5,h6,h7⟩:=h.th;obtain⟨xs,h8,h9⟩:=h.he;have k:Kp (·=L.d1) H (upd H L.d1 (.dK (dE G4))):=(Kp.refl _ _).set rfl;have mu:∀b,b=L.d1->Mu H b:=λb e=>.inr ⟨dE ps,by rw [e]; exact h4⟩
 refine⟨k.cg mu h.tu,⟨kvs,k _ _ h.ne h2,h3.kp k mu,Nv⟩,⟨G4,ae,hl,λi q t a b=>(G5 i q t a b).kp k mu λz=>?_,hn⟩,⟨xs,k _ _ (λz=>by rw [z,h4] at h8; cases h8) h8,h9.kp k mu⟩,h.ne,λb hb=>⟨some_of (h.pr b hb).1 λo=>k b o λz=>(h.pr b hb).2 (.inr (.inl z)),(h.pr b hb).2⟩,bO,h.bO.2⟩;obtain⟨_,_,e,_⟩:=G5 i q t a b;have z2:q.2=L.d1:=z;rw [z2,h4] at e;cases e
theorem eV.qY (h:eV K Pr H L W) {IM:List V}{qZ:List (Nat×Int)}(hr:qd K H IM qZ) (bO:qZ.length<=500):eV K Pr (upd H L.l2 (.lst IM)) L ⟨W.g,W.ts,qZ⟩:=by
 obtain⟨kvs,h2,h3,Nv⟩:=h.rt;obtain⟨ps,h4,h5,h6,h7⟩:=h.th;obtain⟨xs,h8,h9⟩:=h.he;have k:Kp (·=L.l2) H (upd H L.l2 (.lst IM)):=(Kp.refl _ _).set rfl;have mu:∀b,b=L.l2->Mu H b:=λb e=>.inl ⟨xs,by rw [e]; exact h8⟩
 exact⟨k.cg mu h.tu,⟨kvs,k _ _ (λz=>by rw [z,h8] at h2; cases h2) h2,h3.kp k mu,Nv⟩,⟨ps,k _ _ (λz=>by rw [z,h8] at h4; cases h4) h4,h5,λi q t a b=>(h6 i q t a b).kp k mu (h7 q (mem_of_getElem? a)).1,h7⟩,⟨IM,ae,hr.kp k mu⟩,h.ne,λb hb=>⟨some_of (h.pr b hb).1 λo=>k b o λz=>(h.pr b hb).2 (.inr (.inr z)),(h.pr b hb).2⟩,h.bO.1,bO⟩
theorem eV.fresh (h:eV K Pr H L W) {d:Addr}(hd:H d=none):d≠L.l2/\¬Pr d:=⟨(λz=>by
 obtain⟨xs,h8,_⟩:=h.he;rw [<-z,hd] at h8
 cases h8),λz=>(h.pr d z).1 hd⟩
theorem eV.set (h:eV K Pr H L W) {ps:List (Addr×Addr)}{i:Nat}{q q':Addr×Addr}{t':Tg}(IL:H L.d1=some (.dK (dE ps))) (hq:ps[i]?=some q) (ht:e_ K H q'.1 q'.2 t') (hn:q'.2≠L.l2/\¬Pr q'.2):eV K Pr (upd H L.d1 (.dK (putK (dE ps) (Sum.inl ((i:Int)+1)) (.ref q'.1)))) L ⟨W.g,W.ts.set i t',W.hs⟩:=by
 obtain⟨Ci,h4,h5,h6,h7⟩:=h.th;have e:dE Ci=dE ps:=by
  rw [IL] at h4;exact(HO.dK.inj (Option.some.inj h4)).symm
 have el:Ci.length=ps.length:=by rw [<-cq,<-cq,e]
 have hi:=(List.getElem?_eq_some_iff.mp hq).1;have HQ:Ci[i]?=some (Ci[i]'(by omega)):=getElem?_eq_getElem _;rw [<-e,wL (q':=q') HQ];refine h.things (by rw [length_set,length_set]; exact h5) (λj r t hr ky=>?_) (λr hr=>?_) (by rw [length_set]; exact h.bO.1)
 ·rw [getElem?_set] at hr ky
  by_cases z:i=j
  ·subst z;rw [if_pos rfl,if_pos (by omega)] at hr;rw [if_pos rfl,if_pos (by omega)] at ky;cases hr;cases ky;exact ht
  ·rw [if_neg z] at hr ky;exact h6 j r t hr ky
 ·rcases List.mem_or_eq_of_mem_set hr with hr | rfl
  ·exact h7 r hr
  ·exact hn
theorem eV.new (h:eV K Pr H L W) {ps:List (Addr×Addr)}{q':Addr×Addr}{t':Tg}(IL:H L.d1=some (.dK (dE ps))) (ht:e_ K H q'.1 q'.2 t') (hn:q'.2≠L.l2/\¬Pr q'.2) (bO:W.ts.length < 500):eV K Pr (upd H L.d1 (.dK (putK (dE ps) (Sum.inl ((W.ts.length:Int)+1)) (.ref q'.1)))) L ⟨W.g,W.ts++[t'],W.hs⟩:=by
 obtain⟨Ci,h4,h5,h6,h7⟩:=h.th;have e:dE Ci=dE ps:=by
  rw [IL] at h4;exact(HO.dK.inj (Option.some.inj h4)).symm
 rw [<-e,<-h5,wM];refine h.things (by rw [length_append,length_append,h5]; rfl) (λj r t hr ky=>?_) (λr hr=>?_) (by rw [length_append,length_singleton]; omega)
 ·by_cases z:j < Ci.length
  ·rw [getElem?_append_left z] at hr;rw [getElem?_append_left (by omega)] at ky;exact h6 j r t hr ky
  ·have ej:j=Ci.length:=by
    have:=(List.getElem?_eq_some_iff.mp hr).1;rw [length_append,length_singleton] at this;omega
   subst ej;rw [getElem?_append_right (Nat.le_refl _),Nat.sub_self] at hr;rw [h5,getElem?_append_right (Nat.le_refl _),Nat.sub_self] at ky;cases hr;cases ky;exact ht
 ·rcases mem_append.mp hr with hr | hr
  ·exact h7 r hr
  ·rw [mem_singleton.mp hr];exact hn
theorem eV.at_ (h:eV K Pr H L W) {i:Nat}{t:Tg}(ht:W.ts[i]?=some t):∃rows q,H L.d1=some (.dK (dE rows))/\rows[i]?=some q/\e_ K H q.1 q.2 t/\fH H L.d1 (.int ((i:Int)+1)) (some (.ref q.1))/\rows.length=W.ts.length/\q.2≠L.l2/\¬Pr q.2:=by
 obtain⟨ps,h4,h5,h6,h7⟩:=h.th;have hi:ps[i]?=some (ps[i]'(by have:=(List.getElem?_eq_some_iff.mp ht).1; omega)):=getElem?_eq_getElem _;exact⟨ps,_,h4,hi,h6 i _ t hi ht,by rw [<-ip hi]; exact fH.k (k:=Sum.inl ((i:Int)+1)) h4,h5,h7 _ (List.getElem_mem _)⟩
end
inductive nV (K:Frag) (vs:List V) (H:Hp) (Q:VK) (E:XK):Prop
 | mk (Pr L W x:_) (_:vs=[.ref L.st,.str x]) (_:eV K Pr H L W) (_:∀u H',ak H H'->dJ K H' u (W.g x)->Q u H'):nV K vs H Q E
theorem fT (T:Txt K mg a):aU P w K mg base cU 1 a.Bc a.Bd ["_law_state","_law_root"] (nV K):=by
 refine T.fY.ok Wa (λvs H Q E h=>?_) (λbY A outer s H vs Q E hr h=>?_)
 ·obtain⟨_,_,_,_,rfl,_⟩:=h;rfl
 ·obtain⟨Pr,L,W,x,rfl,h,q⟩:=h;refine⟨_,(ah (aB (qy (bB hr) (av aq (pv 0) ai (λ_ _=>rfl)) (pv 1) (bo (aa az af)) ⟨rfl,rfl,rfl,rfl⟩))),?_⟩;dsimp! [];obtain⟨kvs,h2,h3,_⟩:=h.rt;refine bC h.tu rfl ⟨L.d0,rfl,.inl ⟨kvs,.inl h2⟩,by decide,λp hp=>?_⟩;have s1:=ak.put (o:=.tup [V.str (Str.ofString "nothing")]) hp;refine⟨bz kvs (Sum.inr x),fH.k (k:=Sum.inr x) (s1 _ _ h2),?_⟩
  cases e:bz kvs (Sum.inr x)with
  | none=>exact q _ _ s1 (by rw [h3.no x e]; exact⟨p,rfl,bX.of ae⟩)
  | some u=>exact q _ _ s1 ((h3.at_ x u e).same s1)
noncomputable def Wd.Qa (W:Wd) (x s:Str):V:=if W.has x s=true then(match W.tg x with | some q=>.int ((q.1:Int)+1) | none=>.bN)else .bN
inductive vc (K:Frag) (vs:List V) (H:Hp) (Q:VK) (E:XK):Prop
 | mk (Pr L W x s:_) (_:vs=[.ref L.st,.str x,.str s]) (_:eV K Pr H L W) (_:W.ok) (_:∀H',ak H H'->Q (W.Qa x s) H'):vc K vs H Q E
theorem W3 (T:Txt K mg a):aU P w K mg base cU 2 a.Be a.Bf ["_law_state","_law_root","_law_sort"] (vc K):=by
 refine T.B4.ok Ml (λvs H Q E h=>?_) (λbY A outer s H vs Q E hr h=>?_)
 ·obtain⟨_,_,_,_,_,rfl,_⟩:=h;rfl
 ·obtain⟨Pr,L,W,x,s,rfl,h,ok,q⟩:=h;refine⟨_,(ag (aN (i:=3) Ml.nd rfl (Or.inl rfl) (aD (fT T) hr.dm rfl T.ij T.fY.kp T.ig .nil aw (aa (pv 0) (aa (pv 1) af)))) (ag (bh (PW.pt (lX (aF jH (av aq (pv 3) ai (λ_ _=>rfl)) az (aH _)) (kU (PW.pt (iV (aF jH (pv 2) az (aH _)) (gJ (aF jH (av aq (cf (bB hr) (av aq (pv 0) ai (λ_ _=>rfl)) (av aq (pv 3) ai (λ_ _=>rfl)) (λ_ _=>rfl)) ai (λ_ _=>rfl)) (pv 2) (aH _)))))))) (ah (aB cz)) aL) (ah (aB (av aq (pv 3) ai (λ_ _=>rfl)))))),?_⟩;dsimp! [];refine⟨Pr,L,W,x,rfl,h,λu H1 s1 hu=>?_⟩;have h1:=h.same s1;rcases ok.tg x with ⟨i,t,e1,e2,e3⟩ | ⟨e1,e2⟩
  ·rw [e1] at hu;obtain⟨r,rfl,yi⟩:=hu;have e5:W.has x s=(decide (s="any") || decide (t.sort=s)):=by unfold Wd.has; rw [e3]
   have e6:W.Qa x s=if (decide (s="any") || decide (t.sort=s))=true then .int ((i:Int)+1)else .bN:=by unfold Wd.Qa; rw [e3,e5]
   have q1:=q H1 s1;rw [e6] at q1;refine bC yi rfl ⟨rfl,bj (λz=>by simp at z) λ_=>bj (λz=>?_) λz=>?_⟩
   ·have ns:¬s="any":=by simpa using z
    obtain⟨rows,qq,r1,r2,r3,r4,_⟩:=h1.at_ e2;refine bC h1.tu rfl (bC yi rfl ⟨L.d1,rfl,_,r4,bC (bX.of r3.1) rfl ⟨rfl,bj (λz2=>?_) λz2=>?_⟩⟩)
    ·have nt:¬t.sort=s:=by simpa using z2
     rw [decide_eq_false ns,decide_eq_false nt] at q1;exact q1
    ·have nt:t.sort=s:=by simpa using z2
     rw [decide_eq_true nt,Bool.or_true] at q1;exact bC yi rfl q1
   ·have ns:s="any":=by simpa using z
    rw [decide_eq_true ns,Bool.true_or] at q1;exact bC yi rfl q1
  ·have e6:W.Qa x s=.bN:=by
    unfold Wd.Qa Wd.has;rw [e2];rfl
   have q1:=q H1 s1;rw [e6] at q1;obtain⟨r,rfl,yi⟩:=hu;refine bC yi (Vl.hd _) ⟨rfl,bj (λz=>q1) λz=>?_⟩;have c:(W.g x).word="thing":=by simpa using z
   rw [<-(W.g x).is,c] at e1;cases e1
theorem rm {kvs:List (Key×V)}{k:Key}:bz (dC kvs k) k=none:=by
 cases e:bz (dC kvs k) k with
 | none=>rfl
 | some u=>
  have h1:=(List.mem_filter.mp (jW e)).2;exact absurd rfl (of_decide_eq_true h1)
theorem ji {kvs:List (Key×V)}{k j:Key}(h:¬j=k):bz (dC kvs k) j=bz kvs j:=by
 unfold bz dC;rw [List.find?_filter];congr 2;funext p
 by_cases z:p.1=j
 ·simp [z,h]
 ·simp [z]
theorem nT.drop {H:Hp}{kvs:List (Key×V)}{g:Str->Vl}(h:nT K H kvs g) (x:Str):nT K H (dC kvs (Sum.inr x)) (λy=>if y=x then .no else g y):=by
 refine⟨qz h.nd,λkv hk=>h.ks kv (ug hk),λy u e=>?_,λy e=>?_⟩
 ·by_cases z:y=x
  ·rw [z,rm] at e;cases e
  ·rw [if_neg z];rw [ji (λc=>z (Sum.inr.inj c))] at e;exact h.at_ y u e
 ·by_cases z:y=x
  ·rw [if_pos z]
  ·rw [if_neg z];rw [ji (λc=>z (Sum.inr.inj c))] at e;exact h.no y e
inductive Cq (K:Frag) (vs:List V) (H:Hp) (Q:VK) (E:XK):Prop
 | mk (Pr L W x u v:_) (_:vs=[.ref L.st,.str x,u]) (_:eV K Pr H L W) (_:x∈P6) (_:dJ K H u v) (_:∀H',Kp L.own H H'->eV K Pr H' L (W.en x v)->Q .bN H'):Cq K vs H Q E
theorem wQ (T:Txt K mg a):aU P w K mg base cU 1 a.Bg a.Bh ["_law_state","_law_root","_law_value_here"] (Cq K):=by
 refine T.o_.ok Wb (λvs H Q E h=>?_) (λbY A outer s H vs Q E hr h=>?_)
 ·obtain⟨_,_,_,_,_,_,rfl,_⟩:=h;rfl
 ·obtain⟨Pr,L,W,x,u,v,rfl,h,hx,hu,q⟩:=h;refine⟨_,(ag (aY (J3 (av aq (pv 0) ai (λ_ _=>rfl)) (pv 1) cz ⟨rfl,rfl,rfl,rfl⟩)) (ah (bh (aF jH (av aq (pv 2) ai (λ_ _=>rfl)) az (aH _)) (ah (cH (bB hr) (av aq (pv 0) ai (λ_ _=>rfl)) (pv 1) (pv 2) rfl)) aL))),?_⟩;dsimp! [];obtain⟨kvs,h2,h3,Nv⟩:=h.rt;have mu:∀b,b=L.d0->Mu H b:=λb e=>.inr ⟨kvs,by rw [e]; exact h2⟩
  obtain⟨ru,rfl,hru⟩:=hu;have bO:=h3.bO;have Yi:(dC kvs (Sum.inr x)).length<=26:=Nat.le_trans (qv _ _) bO;have hd:=h3.drop x;have hn:Ii (dC kvs (Sum.inr x)) (λy=>if y=x then .no else W.g y):=λy u e=>by
   by_cases z:y=x
   ·rw [z,rm] at e;cases e
   ·rw [ji (λc=>z (Sum.inr.inj c))] at e;show(if y=x then Vl.no else W.g y)≠.no;rw [if_neg z];exact Nv y u e
  have go:∀H1,H1=upd H L.d0 (.dK (dC kvs (Sum.inr x)))->pH K (.ref ru) (.int 0) H1 λx_3 H1=>yr x_3 (V.str (Str.ofString "nothing"))=true/\if (!decide (x_3=V.str (Str.ofString "nothing")))=true then pH K (V.ref L.st) (V.int 0) H1 λx_4 H2=>∃a,x_4=V.ref a/\∃x_5,gE H2 a (V.str x) (.ref ru) x_5/\Q V.bN x_5 else Q V.bN H1:=λH1 e1=>by
   have l1:eV K Pr H1 L ⟨λy=>if y=x then .no else W.g y,W.ts,W.hs⟩:=by rw [e1]; exact h.roots hd hn
   have k1:Kp (·=L.d0) H H1:=by rw [e1]; exact(Kp.refl _ _).set rfl
   have k1':Kp L.own H H1:=k1.mono λb z=>.inl z
   have Zg:H1 L.d0=some (.dK (dC kvs (Sum.inr x))):=by rw [e1]; exact ae
   have yi:=k1.cg mu hru;refine bC yi (Vl.hd _) ⟨rfl,bj (λz=>?_) λz=>?_⟩
   ·have nv:v≠.no:=λc=>by rw [c] at z; simp [Vl.word] at z
    refine bC l1.tu rfl ⟨L.d0,rfl,_,gE.k (k:=Sum.inr x) Zg (aG (by omega)),q _ (k1'.set (.inl rfl)) ?_⟩;have Gd:nT K H1 (dC kvs (Sum.inr x)) (λy=>if y=x then .no else W.g y):=hd.kp k1 mu;have hp:=Gd.put (H:=H1) hx ⟨ru,rfl,yi⟩;have eg:(λy=>if y=x then v else(λy=>if y=x then Vl.no else W.g y) y)=λy=>if y=x then v else W.g y:=by
     funext y
     by_cases c:y=x
     ·rw [if_pos c,if_pos c]
     ·rw [if_neg c,if_neg c];exact if_neg c
    rw [eg] at hp;refine l1.roots hp λy u e=>?_
    show(if y=x then v else W.g y)≠.no
    by_cases c:y=x
    ·rw [if_pos c];exact nv
    ·rw [if_neg c];rw [jN,if_neg (λd=>c (Sum.inr.inj d)),ji (λd=>c (Sum.inr.inj d))] at e;exact Nv y u e
   ·have ev:v=.no:=by
     cases v with
     | no=>rfl
     | num n=>exact absurd (show(!decide (V.str ("number":Str)=V.str ("nothing":Str)))=true by decide +kernel) z
     | th n=>exact absurd (show(!decide (V.str ("thing":Str)=V.str ("nothing":Str)))=true by decide +kernel) z
    subst ev;exact q _ k1' l1
  refine bC h.tu rfl ⟨L.d0,rfl,.inl ⟨kvs,.inl h2⟩,kvs,h2,Sum.inr x,rfl,λv' e=>go _ rfl,λe=>?_⟩;refine go H ?_;rw [yM (jQ e),U6 h2]
noncomputable def RZ:List Str:=["num","make","weak","pair","words","put","get","look","find","copy","drop","tell","same","hear"]
noncomputable def De.tag:De->Nat
 | .num ..=>0 | .make ..=>1 | .weak ..=>2 | .pair ..=>3 | .words ..=>4 | .put ..=>5 | .get ..=>6 | .look ..=>7 | .find ..=>8 | .copy ..=>9 | .drop ..=>10 | .tell ..=>11 | .same ..=>12 | .hear ..=>13
theorem De.abw (d:De):d.word=RZ.getD d.tag ""/\d.tag < 14:=⟨by cases d <;> rfl,Nat.lt_of_sub_pos (by cases d <;> exact Nat.succ_pos _)⟩
theorem Qb:∀i < 14,∀j < 14,RZ.getD i ""=RZ.getD j ""->i=j:=by decide +kernel
theorem De.is (d:De) {s:Str}{k:Nat}(hk:s=RZ.getD k "") (h:k < 14):d.word=s↔d.tag=k:=by
 obtain⟨h1,h2⟩:=d.abw;rw [h1,hk];exact⟨Qb _ h2 _ h,λe=>by rw [e]⟩
theorem Ij {d:De}{s:Str}{X Y:Prop}(k:Nat) (hk:s=RZ.getD k "") (h:k < 14) (h1:(d.tag == k)=true->X) (h2:(d.tag == k)=false->Y):if decide (V.str d.word=V.str s)=true then X else Y:=
 bj (λz=>h1 (beq_iff_eq.mpr ((d.is hk h).mp (V.str.inj (of_decide_eq_true z))))) λz=>h2 (beq_eq_false_iff_ne.mpr λe=>z (decide_eq_true (congrArg V.str ((d.is hk h).mpr e))))
theorem De.inW (d:De) (ks:List Nat) (h:∀k∈ks,k < 14):QY (.str d.word) ((ks.map λk=>RZ.getD k "").map V.str)=ks.contains d.tag:=by
 rw [Bool.eq_iff_iff,List.contains_iff_mem];unfold QY;rw [List.any_eq_true];constructor
 ·rintro⟨x,hx,e⟩;obtain⟨y,hy,rfl⟩:=mem_map.mp hx;obtain⟨k,hk,rfl⟩:=mem_map.mp hy;have e2:RZ.getD k ""=d.word:=by simpa [F0] using e
  rw [(d.is e2.symm (h k hk)).mp rfl];exact hk
 ·intro z;refine⟨_,mem_map.mpr ⟨_,mem_map.mpr ⟨_,z,rfl⟩,rfl⟩,?_⟩;rw [<-d.abw.1];simp [F0]
theorem Nw {H:Hp}{p:Addr}{xs:List V}{d:De}{X Y:Hp->Prop}(ks:List Nat) (hH:H p=some (.lst xs)) (e:xs=(ks.map λk=>RZ.getD k "").map V.str) (h:∀k∈ks,k < 14) (h1:ks.contains d.tag=true->X H) (h2:ks.contains d.tag=false->Y H):Y9 K false (.str d.word) (.ref p) H (λx H'=>∃k,x=V.bl k/\if k=true then X H' else Y H'):=by
 refine⟨p,xs,rfl,.inl (ba.of hH),rfl,?_,_,rfl,?_⟩
 ·rw [e,List.all_map];exact List.all_eq_true.mpr λ_ _=>rfl
 ·rw [e,if_neg Bool.false_ne_true,d.inW ks h];exact bj h1 λz=>h2 (Bool.eq_false_iff.mpr z)
noncomputable def WtL (K:Frag) (H:Hp) (xs:List V) (ws:List (Str×Str)):Prop:=ws.length=xs.length/\∀(i:Nat) x q,xs[i]?=some x->ws[i]?=some q->∃t,x=.ref t/\bX K H t [.str q.1,.str q.2]
inductive vd (K:Frag) (vs:List V) (H:Hp) (Q:VK) (E:XK):Prop
 | mk (t d:_) (_:vs=[.ref t]) (_:bX K H t (De.items d)) (_:∀l xs H',ak H H'->H' l=some (.lst xs)->WtL K H' xs d.wants->Q (.ref l) H'):vd K vs H Q E
theorem W4 (T:Txt K mg a):aU P w K mg base cU 1 a.Bi a.Bj ["_law_deed"] (vd K):=by
 refine T.B5.ok Mm (λvs H Q E h=>?_) (λbY A outer s H vs Q E hr h=>?_)
 ·obtain⟨_,_,rfl,_⟩:=h;rfl
 ·obtain⟨t,d,rfl,h,q⟩:=h;refine⟨_,(ag (aN (i:=1) Mm.nd rfl (Or.inl rfl) (av aq (pv 0) ai (λ_ _=>rfl))) (ag (bh (aF fb (pv 1) (bP (aa az (aa az af))) (by with_unfolding_all rfl)) (ah (aB (bP (aa (bo (aa (av aq (pv 0) ai (λ_ _=>rfl)) (aa az af))) af)))) aL) (ag (bh (aF cj (pv 1) az (aH _)) (ah (aB (bP (aa (bo (aa (av aq (pv 0) ai (λ_ _=>rfl)) (aa az af))) af)))) aL) (ag (bh (aF fb (pv 1) (bP (aa az (aa az af))) (by with_unfolding_all rfl)) (ah (aB (bP (aa (bo (aa (av aq (pv 0) ai (λ_ _=>rfl)) (aa az af))) af)))) aL) (ag (bh (aF cj (pv 1) az (aH _)) (ah (aB (bP (aa (bo (aa (av aq (pv 0) ai (λ_ _=>rfl)) (aa az af))) af)))) aL) (ag (bh (aF cj (pv 1) az (aH _)) (ah (aB (bP (aa (bo (aa (av aq (pv 0) ai (λ_ _=>rfl)) (aa az af))) (aa (bo (aa (av aq (pv 0) ai (λ_ _=>rfl)) (aa az af))) af))))) aL) (ah (aB (bP af))))))))),?_⟩;dsimp! [];refine bC h d.hd ?_;have one:∀(H1:Hp) (i:Int) (x s:Str),ak H H1->d.wants=[(x,s)]->ql d.items i=some (.str x)->pH K (.ref t) (.int i) H1 λx H1=>2<=sizeLine/\∀(p:Addr),H1 p=none->1<=sizeLine/\∀(p_1:Addr),upd H1 p (.tup [x,.str s]) p_1=none->Q (.ref p_1) (upd (upd H1 p (.tup [x,.str s])) p_1 (.lst [.ref p])):=λH1 i x s s1 e1 e2=>by
   refine bC (s1.cg h) e2 ⟨by decide,λp hp=>⟨by decide,λr hr=>q r [.ref p] _ (s1.trans ((ak.put hp).trans (ak.put hr))) ae ?_⟩⟩;rw [e1];refine⟨rfl,λj y qq hy hq=>?_⟩
   cases j with
   | zero=>
    cases hy;cases hq;exact⟨p,rfl,bX.of (ak.put hr _ _ ae)⟩
   | succ j=>simp at hy
  refine⟨by decide,λp hp=>?_⟩;have s1:=ak.put (o:=.lst [V.str (Str.ofString "words"),V.str (Str.ofString "put")]) hp;refine Nw [4,5] ae rfl (by decide) (λc=>?_) λc=>⟨rfl,Ij 6 rfl (by decide) (λc2=>?_) λc2=>⟨by decide,λr hr=>?_⟩⟩
  ·cases d with
   | words x n=>exact one _ _ _ _ s1 rfl rfl
   | put x i y=>exact one _ _ _ _ s1 rfl rfl
   | _=>exact absurd c Bool.false_ne_true
  ·cases d with
   | get x y i=>exact one _ _ _ _ s1 rfl rfl
   | _=>exact absurd c2 Bool.false_ne_true
  have s2:=s1.trans (ak.put (o:=.lst [V.str (Str.ofString "weak"),V.str (Str.ofString "pair")]) hr);refine Nw [2,3] ae rfl (by decide) (λc3=>?_) λc3=>⟨rfl,Ij 7 rfl (by decide) (λc4=>?_) λc4=>⟨rfl,Ij 8 rfl (by decide) (λc5=>?_) λc5 m hm=>?_⟩⟩
  ·cases d with
   | weak x n=>exact one _ _ _ _ s2 rfl rfl
   | pair x i y=>exact one _ _ _ _ s2 rfl rfl
   | _=>exact absurd c3 Bool.false_ne_true
  ·cases d with
   | look x n=>exact one _ _ _ _ s2 rfl rfl
   | _=>exact absurd c4 Bool.false_ne_true
  ·cases d with
   | find x y z=>
    have hd2:=s2.cg h;refine bC hd2 rfl ⟨by decide,λp1 Ik=>bC ((ak.put Ik).cg hd2) rfl ⟨by decide,λp2 qx=>⟨by decide,λl hl=>q l _ _ (s2.trans ((ak.put Ik).trans ((ak.put qx).trans (ak.put hl)))) ae ⟨rfl,λj u qq hy hq=>?_⟩⟩⟩⟩
    match j,hy,hq with
    | 0,hy,hq=>
     cases hy;cases hq;exact⟨p1,rfl,bX.of (ak.put hl _ _ (ak.put qx _ _ ae))⟩
    | 1,hy,hq=>
     cases hy;cases hq;exact⟨p2,rfl,bX.of (ak.put hl _ _ ae)⟩
    | j+2,hy,hq=>simp at hy
   | _=>exact absurd c5 Bool.false_ne_true
  ·have e:d.wants=[]:=by
    cases d with
    | words x n=>exact absurd c.symm Bool.false_ne_true
    | put x i y=>exact absurd c.symm Bool.false_ne_true
    | get x y i=>exact absurd c2.symm Bool.false_ne_true
    | weak x n=>exact absurd c3.symm Bool.false_ne_true
    | pair x i y=>exact absurd c3.symm Bool.false_ne_true
    | look x n=>exact absurd c4.symm Bool.false_ne_true
    | find x y z=>exact absurd c5.symm Bool.false_ne_true
    | _=>rfl
   refine q m [] _ (s2.trans (ak.put hm)) ae ?_;rw [e];exact⟨rfl,λj u qq hy=>by simp at hy⟩
inductive pB (K:Frag) (vs:List V) (H:Hp) (Q:VK) (E:XK):Prop
 | mk (Pr L W t d:_) (_:vs=[.ref L.st,.ref t]) (_:eV K Pr H L W) (_:W.ok) (_:bX K H t (De.items d)) (_:∀H',ak H H'->Q (oV (W.refuse d)) H'):pB K vs H Q E
theorem Nx (T:Txt K mg a):aU P w K mg base cU 3 a.Bk a.Bl ["_law_state","_law_deed"] (pB K):=by
 refine T.uS.ok D2 (λvs H Q E h=>?_) (λbY A outer s H vs Q E hr h=>?_)
 ·obtain⟨_,_,_,_,_,rfl,_⟩:=h;rfl
 ·obtain⟨Pr,L,W,t,d,rfl,h,ok,hd,q⟩:=h;refine⟨_,(ag (cp PassesOwn.never rfl (bQ (aD (W4 T) hr.dm rfl T.aaR T.B5.kp T.aaQ .nil aw (aa (pv 1) af))) (jF (n:=2) rfl (cm (a_ (i:=2) D2.nd rfl (Or.inl rfl)) (cm (a_ (i:=3) D2.nd rfl (Or.inl rfl)) hW))) ao) ao),?_⟩;dsimp! [];refine⟨t,d,rfl,hd,λl xs H1 s1 hl hw=>⟨l,rfl,⟨xs,ba.of hl⟩,?_⟩⟩;have h1:=h.same s1;have Gd:=s1.cg hd;refine cV xs (λi σ' H'=>(∃v1 v2,σ'=[some (.ref L.st),some (.ref t),v1,v2])/\ak H1 H'/\∀j < i,∀qq,d.wants[j]?=some qq->W.has qq.1 qq.2=true) ⟨⟨_,_,rfl⟩,λ_ _ e=>e,λj hj=>absurd hj (Nat.not_lt_zero _)⟩ (λi σ' H' _ hh=>ba.of (hh.2.1 _ _ hl)) (λi x σ' H2 hx hh=>?_) λσ' H2 hh=>?_
  ·obtain⟨⟨v1,v2,rfl⟩,s2,ha⟩:=hh;have hi:=(List.getElem?_eq_some_iff.mp hx).1;obtain⟨qq,hq⟩:∃qq,d.wants[i]?=some qq:=⟨_,getElem?_eq_getElem (by rw [hw.1]; exact hi)⟩
   obtain⟨r,rfl,hrr⟩:=hw.2 i x qq hx hq;dsimp! [];refine⟨[_,_],s2.cg hrr,rfl,?_⟩;dsimp! [];refine aJ.of (ah (bh (aF nk (aD (W3 T) hr.dm rfl T.aaP T.B4.kp T.aaO .nil aw (aa (pv 0) (aa (pv 2) (aa (pv 3) af)))) cz (aH _)) (ah (aB az)) aL)) ?_;dsimp! [];refine⟨Pr,L,W,qq.1,qq.2,rfl,h1.same s2,ok,λH3 s3=>?_⟩
   cases e:W.has qq.1 qq.2 with
   | false=>
    have e1:W.Qa qq.1 qq.2=.bN:=by unfold Wd.Qa; rw [e]; rfl
    have e2:W.refuse d=some ("no thing":Str):=by
     have c:W.gI d=true:=List.any_eq_true.mpr ⟨qq,mem_of_getElem? hq,by rw [e]; rfl⟩;unfold Wd.refuse;rw [if_pos c]
    rw [e1];rw [e2] at q;exact bj (λ_=>q H3 (s1.trans (s2.trans s3))) λz=>absurd (decide_eq_true rfl) z
   | true=>
    obtain⟨j,g,g1,g2,g3,_⟩:=ok.had e;have e1:W.Qa qq.1 qq.2=.int ((j:Int)+1):=by unfold Wd.Qa; rw [e,g3]; rfl
    rw [e1];refine bj (λz=>by cases (of_decide_eq_true z)) λ_=>⟨⟨_,rfl⟩,s2.trans s3,λj2 hj2 q2 HQ=>?_⟩
    by_cases z:j2 < i
    ·exact ha j2 z q2 HQ
    ·have ej:j2=i:=by omega
     subst ej;rw [hq] at HQ;cases HQ;exact e
  ·obtain⟨⟨v1,v2,rfl⟩,s2,ha⟩:=hh;have hU:W.gI d=false:=by
    cases e:W.gI d with
    | false=>rfl
    | true=>
     obtain⟨qq,hm,hq⟩:=List.any_eq_true.mp e;obtain⟨j,hj⟩:=mem_iff_getElem?.mp hm;have:=ha j (by rw [<-hw.1]; exact(List.getElem?_eq_some_iff.mp hj).1) qq hj;rw [this] at hq;cases hq
   have hrf:W.refuse d=if W.dR d=true then some ("no field":Str)else none:=by unfold Wd.refuse; rw [if_neg (by rw [hU]; simp)]
   have h2:=h1.same s2;have hd2:=s2.cg Gd;have q2:∀H3,ak H2 H3->Q (oV (if W.dR d=true then some ("no field":Str)else none)) H3:=λH3 s3=>by
    rw [<-hrf];exact q H3 (s1.trans (s2.trans s3))
   refine aJ.of (ag (bh (PW.pt (iV (aF cj (av aq (pv 1) ai (λ_ _=>rfl)) az (aH _)) (gJ (aF Jl (av aq (pv 1) ai (λ_ _=>rfl)) (aR cF rfl T.f_ eE (aa (av aq (cf (bB hr) (av aq (pv 0) ai (λ_ _=>rfl)) (av aq (aD (fT T) hr.dm rfl T.ij T.fY.kp T.ig .nil aw (aa (pv 0) (aa (av aq (pv 1) ai (λ_ _=>rfl)) af))) ai (λ_ _=>rfl)) (λ_ _=>rfl)) ai (λ_ _=>rfl)) af)) (aH _))))) (ah (aB az)) aL) ao) ?_;dsimp! [];refine bC hd2 d.hd ⟨rfl,Ij 5 rfl (by decide) (λc=>?_) λc=>?_⟩
   ·cases d with
    | put x i y=>
     obtain⟨j,fs,w,g1,g2,g3,g4⟩:=ok.Cp (W.wanted hU mem_cons_self);refine bC hd2 rfl (bC h2.tu rfl (bC hd2 rfl ⟨Pr,L,W,x,rfl,h2,λu H3 s3 hu=>?_⟩));rw [g1] at hu;obtain⟨r,rfl,hrr⟩:=hu;obtain⟨rows,qq,r1,r2,⟨r3,dF,r5,r6,_⟩,r4,_⟩:=(h2.same s3).at_ g2;refine bC hrr rfl ⟨L.d1,rfl,_,r4,bC (bX.of r3) rfl ⟨qq.2,rfl,dF,.inl (ba.of r5),_,rfl,bj (λz=>?_) λz=>?_⟩⟩
     ·have e:W.dR (.put x i y)=true:=by
       show(!decide (i < (W.fs x).length))=true;have:=of_decide_eq_true z;have e6:fs.length=dF.length:=r6.1;rw [g4,decide_eq_false (by omega)];rfl
      have:=q2 H3 s3;rw [if_pos e] at this;exact this
     ·have e:W.dR (.put x i y)=false:=by
       show(!decide (i < (W.fs x).length))=false;have:¬(dF.length:Int)<=(i:Int):=λy=>z (decide_eq_true y)
       have e6:fs.length=dF.length:=r6.1;rw [g4,decide_eq_true (by omega)];rfl
      refine aJ.of (ag (bh (PW.pt (iV (aF cj (av aq (pv 1) ai (λ_ _=>rfl)) az (aH _)) (gJ (aF Jl (av aq (pv 1) ai (λ_ _=>rfl)) (aR cF rfl T.f_ eE (aa (av aq (cf (bB hr) (av aq (pv 0) ai (λ_ _=>rfl)) (av aq (aD (fT T) hr.dm rfl T.ij T.fY.kp T.ig .nil aw (aa (pv 0) (aa (av aq (pv 1) ai (λ_ _=>rfl)) af))) ai (λ_ _=>rfl)) (λ_ _=>rfl)) ai (λ_ _=>rfl)) af)) (aH _))))) (ah (aB az)) aL) (ah (aB cz))) ?_;dsimp! [];refine bC (s3.cg hd2) (De.hd _) ⟨rfl,Ij 6 rfl (by decide) (λc2=>absurd c2 Bool.false_ne_true) λ_=>?_⟩;have:=q2 H3 s3;rw [if_neg (by rw [e]; simp)] at this;exact this
    | _=>exact absurd c Bool.false_ne_true
   ·refine aJ.of (ag (bh (PW.pt (iV (aF cj (av aq (pv 1) ai (λ_ _=>rfl)) az (aH _)) (gJ (aF Jl (av aq (pv 1) ai (λ_ _=>rfl)) (aR cF rfl T.f_ eE (aa (av aq (cf (bB hr) (av aq (pv 0) ai (λ_ _=>rfl)) (av aq (aD (fT T) hr.dm rfl T.ij T.fY.kp T.ig .nil aw (aa (pv 0) (aa (av aq (pv 1) ai (λ_ _=>rfl)) af))) ai (λ_ _=>rfl)) (λ_ _=>rfl)) ai (λ_ _=>rfl)) af)) (aH _))))) (ah (aB az)) aL) (ah (aB cz))) ?_;dsimp! [];refine bC hd2 d.hd ⟨rfl,Ij 6 rfl (by decide) (λc2=>?_) λc2=>?_⟩
    ·cases d with
     | get y x i=>
      obtain⟨j,fs,w,g1,g2,g3,g4⟩:=ok.Cp (W.wanted hU mem_cons_self);refine bC hd2 rfl (bC h2.tu rfl (bC hd2 rfl ⟨Pr,L,W,x,rfl,h2,λu H3 s3 hu=>?_⟩));rw [g1] at hu;obtain⟨r,rfl,hrr⟩:=hu;obtain⟨rows,qq,r1,r2,⟨r3,dF,r5,r6,_⟩,r4,_⟩:=(h2.same s3).at_ g2;refine bC hrr rfl ⟨L.d1,rfl,_,r4,bC (bX.of r3) rfl ⟨qq.2,rfl,dF,.inl (ba.of r5),_,rfl,bj (λz=>?_) λz=>?_⟩⟩
      ·have e:W.dR (.get y x i)=true:=by
        show(!decide (i < (W.fs x).length))=true;have:=of_decide_eq_true z;have e6:fs.length=dF.length:=r6.1;rw [g4,decide_eq_false (by omega)];rfl
       have:=q2 H3 s3;rw [if_pos e] at this;exact this
      ·have e:W.dR (.get y x i)=false:=by
        show(!decide (i < (W.fs x).length))=false;have:¬(dF.length:Int)<=(i:Int):=λy=>z (decide_eq_true y)
        have e6:fs.length=dF.length:=r6.1;rw [g4,decide_eq_true (by omega)];rfl
       have:=q2 H3 s3;rw [if_neg (by rw [e]; simp)] at this;exact this
     | _=>exact absurd c2 Bool.false_ne_true
    ·have e:W.dR d=false:=by
      cases d with
      | put x i y=>exact absurd c.symm Bool.false_ne_true
      | get x y i=>exact absurd c2.symm Bool.false_ne_true
      | _=>rfl
     have:=q2 H2 λ_ _ e=>e
     rw [if_neg (by rw [e]; simp)] at this;exact this
theorem ik.snoc {H:Hp}{xs:List V}{vl:List Vl}{x:V}{v:Vl}(h:ik K H xs vl) (hx:dJ K H x v):ik K H (xs++[x]) (vl++[v]):=⟨by simp [h.1],λi y u a b=>by
 have hl:=h.1
 by_cases hi:i < xs.length
 ·rw [getElem?_append_left hi] at a;rw [getElem?_append_left (by omega)] at b;exact h.2 i y u a b
 ·have e:i=xs.length:=by
   have:=(List.getElem?_eq_some_iff.mp a).1;simp at this;omega
  subst e;rw [getElem?_append_right (Nat.le_refl _),Nat.sub_self] at a;rw [<-hl,getElem?_append_right (Nat.le_refl _),Nat.sub_self] at b;cases a;cases b;exact hx⟩
theorem aeD {n:Nat}{D:Addr}{σ:St}{Q:Hp->Prop}{H:Hp}(hD:H D=none) (hz:n<=1000) (hq:∀H2 ys,ak H H2->H2 D=some (.lst ys)->ik K H2 ys (List.replicate n .no)->Q H2):iy (QQ 0 n) [] (λ_ H Q=>Q true H) (Pf (qk (tC (V.str (Str.ofString "nothing"))) yv)) σ D Q (upd H D (.lst [])):=by
 refine⟨λi m H2=>m+i=n/\∃ys,ak H H2/\H2 D=some (.lst ys)/\ik K H2 ys (List.replicate i .no),⟨n,rfl,[],ak.put hD,ae,ik.nil _ _⟩,?_⟩;rintro i m H2 ⟨hm,ys,s2,e,hv⟩
 cases m with
 | zero=>
  have ei:i=n:=by omega
  subst ei;exact .inl ⟨Nat.le_refl _,hq H2 ys s2 e hv⟩
 | succ m=>
  refine .inr ⟨show i < n by omega,λv H' y=>?_⟩;obtain⟨rfl,rfl⟩:=y;show(if true=true then _ else _);rw [if_pos rfl];refine⟨(by show 1<=sizeLine; decide),λp hp=>?_⟩;have s3:=ak.put (o:=.tup [V.str (Str.ofString "nothing")]) hp;have e3:=s3 _ _ e;have hlen:ys.length=i:=by rw [<-hv.1,length_replicate]
  refine⟨ys,e3,aG (by omega),m,Nat.lt_succ_self m,by omega,ys++[.ref p],λb u eb=>?_,ae,?_⟩
  ·have nb:b≠D:=λz=>by rw [z,hD] at eb; cases eb
   have:=s3 b u (s2 b u eb);exact(au nb).trans this
  ·have k:Kp (·=D) (upd H' p (.tup [V.str (Str.ofString "nothing")])) (upd (upd H' p (.tup [V.str (Str.ofString "nothing")])) D (.lst (ys++[.ref p]))):=(Kp.refl _ _).set rfl;have mu:∀b,b=D->Mu (upd H' p (.tup [V.str (Str.ofString "nothing")])) b:=λb z=>.inl ⟨ys,by rw [z]; exact e3⟩
   have hn:dJ K (upd H' p (.tup [V.str (Str.ofString "nothing")])) (.ref p) .no:=⟨p,rfl,bX.of ae⟩
   have:=((hv.same s3).snoc hn).kp k mu;rw [List.replicate_succ'];exact this
theorem aeE:¬(("look":Str)="get"):=by decide +kernel
theorem aeF:¬(("look":Str)="find"):=by decide +kernel
theorem aeG:¬(("find":Str)="get"):=by decide +kernel
theorem aeH:¬(("find":Str)="look"):=by decide +kernel
inductive Cr (K:Frag) (vs:List V) (H:Hp) (Q:VK) (E:XK):Prop
 | mk (Pr L W t d tg:_) (_:vs=[.ref L.st,.ref t]) (_:eV K Pr H L W) (_:bX K H t (De.items d)) (_:W.made d=some tg) (_:d.fits) (_:W.ts.length < 500) (_:∀H',Kp L.own H H'->eV K Pr H' L (W.step d)->Q .bN H'):Cr K vs H Q E
noncomputable def JMd (K:Frag) (Pr:Addr->Prop) (L:LA) (W:Wd) (tg:Tg) (t:Addr) (H:Hp) (σ':St) (H':Hp):Prop:=σ'=[some (.ref L.st),some (.ref t),some (.int ((W.ts.length:Int)+1))]/\Kp L.own H H'/\eV K Pr H' L ⟨W.g,W.ts++[tg],W.hs⟩
theorem W5 (T:Txt K mg a):aU P w K mg base cU 3 a.Bm a.Bo ["_law_state","_law_deed"] (Cr K):=by
 refine T.B6.ok Mn (λvs H Q E h=>?_) (λbY A outer s H vs Q E hr h=>?_)
 ·obtain⟨_,_,_,_,_,_,rfl,_⟩:=h;rfl
 ·obtain⟨Pr,L,W,t,d,tg,rfl,h,hd,hm,hf,bO,q⟩:=h;refine⟨_,(ag (aN (i:=2) Mn.nd rfl (Or.inl rfl) (bu nj (aR gP rfl T.f_ eE (aa (av aq (pv 0) ai (λ_ _=>rfl)) af)) ai)) (ag kZ ao)),?_⟩;dsimp! [];obtain⟨rows,h4,h5,h6,h7⟩:=h.th;refine bC h.tu rfl ⟨L.d1,rfl,dE rows,h4,?_⟩;rw [cq,h5];obtain⟨e1,_⟩:=Wd.u_ hm;rw [e1] at q;have dn:∀(H1:Hp) (p l:Addr) (xs:List V),ak H H1->H l=none->H1 p=some (.tup [.str tg.sort,.ref l,wV tg.words])->H1 l=some (.lst xs)->ik K H1 xs tg.fs->xs.length<=1000->∃x_2,gE H1 L.d1 (.int ((W.ts.length:Int)+1)) (.ref p) x_2/\JMd K Pr L W tg t H [some (.ref L.st),some (.ref t),some (.int ((W.ts.length:Int)+1))] x_2:=λH1 p l xs s1 hl0 e1 e2 e3 e4=>by
   refine⟨_,gE.k (k:=Sum.inl ((W.ts.length:Int)+1)) (s1 _ _ h4) (aG (by rw [cq]; omega)),rfl,(ak.kp s1).set (.inr (.inl rfl)),?_⟩;exact(h.same s1).new (q':=(p,l)) (s1 _ _ h4) ⟨e1,xs,e2,e3,e4⟩ (h.fresh hl0) bO
  refine yJ (JMd K Pr L W tg t H) (yg.of (bh (aF cj (av aq (pv 1) ai (λ_ _=>rfl)) az (aH _)) (ah (cH (bB hr) (av aq (pv 0) ai (λ_ _=>rfl)) (pv 2) (bo (aa az (aa (oI rfl (vL (x:="_law_k") (ns:=[]) (fr:=[]) rfl (by decide +kernel) rfl (by decide +kernel) rfl (forall_mem_nil _) rfl rfl (forall_mem_nil _) (by decide +kernel)) (tT rfl T.qb (aa (av aq (pv 1) ai (λ_ _=>rfl)) af)) (λ_ _ _ _=>(bo (aa az af))) (λ_ _ _ _=>.nil)) (aa cz af)))) rfl)) (ah (bh (aF cj (av aq (pv 1) ai (λ_ _=>rfl)) az (aH _)) (ah (cH (bB hr) (av aq (pv 0) ai (λ_ _=>rfl)) (pv 2) (bo (aa az (aa (bP (aa (aD (fT T) hr.dm rfl T.ij T.fY.kp T.ig .nil aw (aa (pv 0) (aa (av aq (pv 1) ai (λ_ _=>rfl)) af))) af)) (aa cz af)))) rfl)) (ah (cH (bB hr) (av aq (pv 0) ai (λ_ _=>rfl)) (pv 2) (bo (aa az (aa (bP (aa (aD (fT T) hr.dm rfl T.ij T.fY.kp T.ig .nil aw (aa (pv 0) (aa (av aq (pv 1) ai (λ_ _=>rfl)) af))) (aa (aD (fT T) hr.dm rfl T.ij T.fY.kp T.ig .nil aw (aa (pv 0) (aa (av aq (pv 1) ai (λ_ _=>rfl)) af))) af))) (aa cz af)))) rfl))))) ?_) ?_
  ·dsimp! [];refine bC hd d.hd ⟨rfl,Ij 1 rfl (by decide) (λc=>?_) λc=>bC hd d.hd ⟨rfl,Ij 2 rfl (by decide) (λc2=>?_) λc2=>?_⟩⟩
   ·cases d with
    | make x n=>
     cases hm;have hn:n<=100:=hf.2;refine bC hd rfl ⟨_,rfl,by omega,by omega,λD hD=>?_⟩;rw [Int.toNat_natCast];refine aeD (K:=K) hD (by omega) λH2 ys s2 e2 hv=>⟨by decide,λp hp=>?_⟩
     have s3:=ak.put (o:=.tup [V.str (Str.ofString "plain"),V.ref D,V.bN]) hp;have hlen:ys.length=n:=by rw [<-hv.1,length_replicate]
     exact bC ((s2.trans s3).cg h.tu) rfl ⟨L.d1,rfl,dn _ p D ys (s2.trans s3) hD ae (s3 _ _ e2) (hv.same s3) (by omega)⟩
    | _=>exact absurd c Bool.false_ne_true
   ·cases d with
    | weak x y=>
     cases hm;refine bC hd rfl ⟨Pr,L,W,y,rfl,h,λu H1 s1 hu=>⟨by decide,λl hl=>⟨by decide,λp hp=>?_⟩⟩⟩;have s2:=ak.put (o:=.lst [u]) hl;have s3:=ak.put (o:=.tup [V.str (Str.ofString "weak"),V.ref l,V.bN]) hp;have s4:=s1.trans (s2.trans s3);exact bC (s4.cg h.tu) rfl ⟨L.d1,rfl,dn _ p l [u] s4 (s1.free hl) ae (s3 _ _ ae) (.cons (hu.same (s2.trans s3)) (.nil _ _)) (Nat.le_of_ble_eq_true rfl)⟩
    | _=>exact absurd c2 Bool.false_ne_true
   ·cases d with
    | pair x y z=>
     cases hm;refine bC hd rfl ⟨Pr,L,W,y,rfl,h,λu H1 s1 hu=>bC (s1.cg hd) rfl ⟨Pr,L,W,z,rfl,h.same s1,λu2 H2 s2 Nt=>⟨by decide,λl hl=>⟨by decide,λp hp=>?_⟩⟩⟩⟩;have s3:=ak.put (o:=.lst [u,u2]) hl;have s4:=ak.put (o:=.tup [V.str (Str.ofString "pair"),V.ref l,V.bN]) hp;have s5:=(s1.trans s2).trans (s3.trans s4);exact bC (s5.cg h.tu) rfl ⟨L.d1,rfl,dn _ p l [u,u2] s5 ((s1.trans s2).free hl) ae (s4 _ _ ae) (.cons (hu.same (s2.trans (s3.trans s4))) (.cons (Nt.same (s3.trans s4)) (.nil _ _))) (Nat.le_of_ble_eq_true rfl)⟩
    | make x n=>exact absurd c.symm Bool.false_ne_true
    | weak x n=>exact absurd c2.symm Bool.false_ne_true
    | _=>cases hm
  ·rintro σ' H1 ⟨rfl,k1,l1⟩;refine aJ.of (ah (aY (aD (wQ T) hr.dm rfl T.GS T.o_.kp T.GR .nil aw (aa (pv 0) (aa (av aq (pv 1) ai (λ_ _=>rfl)) (aa (bo (aa az (aa (pv 2) af))) af)))))) ?_;have Gd:=k1.cg h.mu hd;dsimp! [];refine bC Gd d.at1 ⟨by decide,λp hp=>?_⟩;have s1:=ak.put (o:=.tup [.str "thing",.int ((W.ts.length:Int)+1)]) hp;exact⟨Pr,L,_,d.root,_,.th ((W.ts.length:Int)+1),rfl,l1.same s1,hf.1,⟨p,rfl,bX.of ae⟩,λH' k l=>q H' (k1.trans ((ak.kp s1).trans k)) l⟩
noncomputable def Wd.bring (W:Wd):De->Option Vl
 | .num _ n=>some (.num n)
 | .copy _ y=>some (W.g y)
 | .drop _=>some .no
 | .get _ y n=>some ((W.fs y).getD n .no)
 | .look _ y=>some ((W.fs y).getD 0 .no)
 | .find _ y z=>some (if bI (vD ((W.fs y).getD 0 .no)) (vD (W.g z))=true then(W.fs y).getD 1 .no else .no)
 | _=>none
inductive pC (K:Frag) (vs:List V) (H:Hp) (Q:VK) (E:XK):Prop
 | mk (Pr L W t d v:_) (_:vs=[.ref L.st,.ref t]) (_:eV K Pr H L W) (_:W.ok) (_:bX K H t (De.items d)) (_:W.bring d=some v) (_:W.gI d=false) (_:W.dR d=false) (_:∀u H',ak H H'->dJ K H' u v->Q u H'):pC K vs H Q E
theorem W6 (T:Txt K mg a):aU P w K mg base cU 2 a.Bp a.Bq ["_law_state","_law_deed"] (pC K):=by
 refine T.B7.ok D3 (λvs H Q E h=>?_) (λbY A outer s H vs Q E hr h=>?_)
 ·obtain⟨_,_,_,_,_,_,rfl,_⟩:=h;rfl
 ·obtain⟨Pr,L,W,t,d,v,rfl,h,ok,hd,hv,hl,lT,q⟩:=h;refine⟨_,(ag (aN (i:=2) D3.nd rfl (Or.inl rfl) (av aq (pv 1) ai (λ_ _=>rfl))) (ag (bh (aF cj (pv 2) az (aH _)) (ah (aB (bo (aa az (aa (av aq (pv 1) ai (λ_ _=>rfl)) af))))) aL) (ag (bh (aF cj (pv 2) az (aH _)) (ah (aB (aD (fT T) hr.dm rfl T.ij T.fY.kp T.ig .nil aw (aa (pv 0) (aa (av aq (pv 1) ai (λ_ _=>rfl)) af))))) aL) (ag (bh (aF cj (pv 2) az (aH _)) (ah (aB (bo (aa az af)))) aL) ao)))),?_⟩;dsimp! [];refine bC hd d.hd ⟨rfl,Ij 0 rfl (by decide) (λc=>?_) λc=>⟨rfl,Ij 9 rfl (by decide) (λc2=>?_) λc2=>⟨rfl,Ij 10 rfl (by decide) (λc3=>?_) λc3=>?_⟩⟩⟩
  ·cases d with
   | num x n=>
    cases hv;exact bC hd rfl ⟨by decide,λp hp=>q _ _ (ak.put hp) ⟨p,rfl,bX.of ae⟩⟩
   | _=>exact absurd c Bool.false_ne_true
  ·cases d with
   | copy x y=>
    cases hv;exact bC hd rfl ⟨Pr,L,W,y,rfl,h,q⟩
   | _=>exact absurd c2 Bool.false_ne_true
  ·cases d with
   | drop x=>
    cases hv;exact⟨by decide,λp hp=>q _ _ (ak.put hp) ⟨p,rfl,bX.of ae⟩⟩
   | _=>exact absurd c3 Bool.false_ne_true
  ·refine aJ.of (ag (aN (i:=3) D3.nd rfl (Or.inl rfl) (av aq (cf (bB hr) (av aq (pv 0) ai (λ_ _=>rfl)) (av aq (aD (fT T) hr.dm rfl T.ij T.fY.kp T.ig .nil aw (aa (pv 0) (aa (av aq (pv 1) ai (λ_ _=>rfl)) af))) ai (λ_ _=>rfl)) (λ_ _=>rfl)) ai (λ_ _=>rfl))) (ag (bh (aF cj (pv 2) az (aH _)) (ah (aB (av df (pv 3) (av aq (pv 1) ai (λ_ _=>rfl)) (λ_ _=>rfl)))) aL) (ag (bh (PW.pt (lX (aF cj (pv 2) az (aH _)) (kU (aF (jM hr.units) (av df (pv 3) ai (λ_ _=>rfl)) (aD (fT T) hr.dm rfl T.ij T.fY.kp T.ig .nil aw (aa (pv 0) (aa (av aq (pv 1) ai (λ_ _=>rfl)) af))) (aH _))))) (ah (aB (av df (pv 3) (cv tU rfl T.uW vJ (aa (fL cj (pv 2) az (aH _)) af)) (λ_ _=>rfl)))) aL) (ah (aB (bo (aa az af))))))) ?_;dsimp! [];have gf:∀(y:Str) (j:Nat) (g:Tg) (R:VK),W.g y=.th ((j:Int)+1)->W.ts[j]?=some g->ql d.items 2=some (.str y)->(∀(l:Addr) (xs:List V) (H3:Hp),ak H H3->H3 l=some (.lst xs)->ik K H3 xs g.fs->R (.ref l) H3)->pH K (.ref L.st) (.int 1) H λx H1=>pH K (.ref t) (.int 2) H1 λx_1 H1=>nV K [.ref L.st,x_1] H1 (λx_2 H1=>pH K x_2 (.int 1) H1 λy H2=>∃a,x=.ref a/\∃x,fH H2 a y (some x)/\pH K x (.int 1) H2 R) E0:=λy j g R g1 g2 e2 r=>by
    refine bC h.tu rfl (bC hd e2 ⟨Pr,L,W,y,rfl,h,λu H1 s1 hu=>?_⟩);rw [g1] at hu;obtain⟨b,rfl,hb⟩:=hu;obtain⟨rows,qq,r1,r2,⟨r3,dF,r5,r6,_⟩,r4,_⟩:=(h.same s1).at_ g2;exact bC hb rfl ⟨L.d1,rfl,_,r4,bC (bX.of r3) rfl (r _ _ _ s1 r5 r6)⟩
   cases d with
   | get x y i=>
    obtain⟨j,fs,w,g1,g2,g3,g4⟩:=ok.Cp (W.wanted hl mem_cons_self);have hi:i < fs.length:=by
     rw [<-g4];exact of_decide_eq_true (by simpa [Wd.dR,De.ly] using lT)
    refine gf y j _ _ g1 g2 rfl λl xs H3 s3 e3 mC=>bj (λ_=>bC (s3.cg hd) rfl ?_) λz=>absurd (decide_eq_true rfl) z
    have fW:fs.length=xs.length:=mC.1;have hx:xs[i]?=some (xs[i]'(by omega)):=getElem?_eq_getElem _;have ev:v=fs[i]:=by
     have:some ((W.fs y).getD i .no)=some v:=hv;rw [g4,List.getD_eq_getElem?_getD,getElem?_eq_getElem hi] at this;exact(Option.some.inj this).symm
    rw [ev] at q;exact Dm (ba.of e3) (dk hx) (q _ _ s3 (mC.2 i _ _ hx (getElem?_eq_getElem hi)))
   | look x y=>
    obtain⟨j,f,g1,g2,g3,g4⟩:=ok.abr (W.wanted hl mem_cons_self);refine gf y j _ _ g1 g2 rfl λl xs H3 s3 e3 mC=>bj (λz=>absurd (of_decide_eq_true z) aeE) λ_=>bj (λ_=>?_) λz=>absurd (decide_eq_true rfl) z
    rw [if_neg (show ¬decide ((De.look x y).word=Str.ofString "find")=true from λz=>aeF (of_decide_eq_true z))];have fW:[f].length=xs.length:=mC.1;have hx:xs[0]?=some (xs[0]'(by rw [<-fW,length_singleton]; decide)):=getElem?_eq_getElem _;have ev:v=f:=by
     have:some ((W.fs y).getD 0 .no)=some v:=hv;rw [g4] at this;exact(Option.some.inj this).symm
    rw [ev] at q;exact Dm (ba.of e3) (dk (j:=0) hx) (q _ _ s3 (mC.2 0 _ _ hx rfl))
   | find x y z=>
    obtain⟨j,k,f,g1,g2,g3,g4⟩:=ok.abt (W.wanted hl mem_cons_self);refine gf y j _ _ g1 g2 rfl λl xs H3 s3 e3 mC=>bj (λz=>absurd (of_decide_eq_true z) aeG) λ_=>bj (λz=>absurd (of_decide_eq_true z) aeH) λ_=>?_
    have fW:[k,f].length=xs.length:=mC.1;have RW:xs[0]?=some (xs[0]'(by rw [<-fW,length_cons,length_singleton]; decide)):=getElem?_eq_getElem _;have mZ:xs[1]?=some (xs[1]'(by rw [<-fW,length_cons,length_singleton]; decide)):=getElem?_eq_getElem _;have ev:v=if bI (vD k) (vD (W.g z))=true then f else .no:=by
     have:some (if bI (vD ((W.fs y).getD 0 .no)) (vD (W.g z))=true then(W.fs y).getD 1 .no else .no)=some v:=hv;rw [g4] at this;exact(Option.some.inj this).symm
    rw [ev] at q;refine Dm (ba.of e3) (dk (j:=0) RW) (bC (s3.cg hd) rfl ⟨Pr,L,W,z,rfl,h.same s3,λu2 H4 s4 Nt=>⟨_,_,((mC.2 0 _ _ RW rfl).same s4).nU,Nt.nU,by rw [lx]; decide,_,rfl,bj (λc5=>?_) λc5=>⟨by decide,λp hp=>?_⟩⟩⟩)
    ·have c6:bI (vD k) (vD (W.g z))=true:=c5;rw [if_pos c6] at q;rw [if_pos (show decide ((De.find x y z).word=Str.ofString "find")=true from decide_eq_true rfl)];exact Dm (ba.of (s4 _ _ e3)) (dk (j:=1) mZ) (q _ _ (s3.trans s4) ((mC.2 1 _ _ mZ rfl).same s4))
    ·have c6:¬bI (vD k) (vD (W.g z))=true:=c5;rw [if_neg c6] at q;exact q _ _ (s3.trans (s4.trans (ak.put hp))) ⟨p,rfl,bX.of ae⟩
   | num x n=>exact absurd c.symm Bool.false_ne_true
   | copy x n=>exact absurd c2.symm Bool.false_ne_true
   | drop x=>exact absurd c3.symm Bool.false_ne_true
   | _=>cases hv
noncomputable def De.R0:De->Bool
 | .tell ..=>true
 | .same ..=>true
 | .hear ..=>true
 | _=>false
inductive rq (K:Frag) (vs:List V) (H:Hp) (Q:VK) (E:XK):Prop
 | mk (Pr L W t d:_) (_:vs=[.ref L.st,.ref t]) (_:eV K Pr H L W) (_:W.ok) (_:bX K H t (De.items d)) (_:d.R0=true) (_:d.fits) (_:∀H',Kp L.own H H'->eV K Pr H' L (W.step d)->Q (.str (W.Dl d)) H'):rq K vs H Q E
noncomputable def hD (h:Nat×Int):D:=.tup [.int (h.1:Int),.int h.2]
theorem qd.nU {H:Hp}{l:Addr}{xs:List V}{hs:List (Nat×Int)}(hl:ba K H l xs) (h:qd K H xs hs):gM K H (.ref l) (.lst (hs.map hD)):=by
 refine .lst hl (by rw [length_map]; exact h.1.symm) λi x d hx hd=>?_
 rw [getElem?_map] at hd
 cases e:hs[i]? with
 | none=>rw [e] at hd; cases hd
 | some v=>
  rw [e] at hd;cases hd;obtain⟨t,rfl,ht⟩:=h.2 i x v hx e;exact .Q5 (xs:=[.int (v.1:Int),.int v.2]) ht λx hx=>by
   simp only [mem_cons,not_mem_nil,or_false] at hx;rcases hx with rfl | rfl <;> rfl
theorem W7 (h:Nat×Int):(hD h).dep<=1:=by
 unfold hD;simp [D.dep,fX]
theorem wR:∀hs:List (Nat×Int),fX (hs.map hD)<=1
 | []=>by rw [List.map_nil,fX]; exact Nat.zero_le _
 | h::hs=>by
  rw [List.map_cons,fX];have:=wR hs;have:=W7 h;omega
theorem Ny (hs:List (Nat×Int)):(D.lst (hs.map hD)).dep<=60:=by
 rw [D.dep];have:=wR hs;omega
theorem Nz {h:Nat×Int}{hs:List (Nat×Int)}:bI (.lst ((h::hs).map hD)) (.lst [])=false:=by
 rw [bI];exact gn (by simp)
theorem W8 (T:Txt K mg a):aU P w K mg base cU 2 a.Br a.Bs ["_law_state","_law_deed"] (rq K):=by
 refine T.B8.ok vZ (λvs H Q E h=>?_) (λbY A outer s H vs Q E hr h=>?_)
 ·obtain⟨_,_,_,_,_,rfl,_⟩:=h;rfl
 ·obtain⟨Pr,L,W,t,d,rfl,h,ok,hd,hv,hf,q⟩:=h;refine⟨_,(ag (aN (i:=2) vZ.nd rfl (Or.inl rfl) (aD (fT T) hr.dm rfl T.ij T.fY.kp T.ig .nil aw (aa (pv 0) (aa (av aq (pv 1) ai (λ_ _=>rfl)) af)))) (ag (bh (aF cj (av aq (pv 1) ai (λ_ _=>rfl)) az (aH _)) (ah (aB (eJ (aF cj (av aq (pv 2) ai (λ_ _=>rfl)) az (aH _)) (cv ku rfl T.mz kX (aa (av aq (pv 2) ai (λ_ _=>rfl)) af)) (av aq (pv 2) ai (λ_ _=>rfl))))) aL) ao)),?_⟩;dsimp! [];refine bC hd d.at1 ⟨Pr,L,W,d.root,rfl,h,λu H1 s1 hu=>bC (s1.cg hd) d.hd ⟨rfl,Ij 11 rfl (by decide) (λc=>?_) λc=>?_⟩⟩
  ·cases d with
   | tell x=>
    have q:=q H1 (ak.kp s1) (h.same s1);have okx:=ok.g x;have e:W.Dl (.tell x)=(W.g x).told:=rfl;have er:W.g (De.root (.tell x))=W.g x:=rfl;rw [er] at hu;rw [e] at q
    cases e:W.g x with
    | no=>
     rw [e] at hu q;obtain⟨r,rfl,hr⟩:=hu;exact bC hr rfl ⟨rfl,bj (λz=>absurd (V.str.inj (of_decide_eq_true z)) (by decide +kernel)) λ_=>bC hr rfl q⟩
    | th n=>
     rw [e] at hu q;obtain⟨r,rfl,hr⟩:=hu;exact bC hr rfl ⟨rfl,bj (λz=>absurd (V.str.inj (of_decide_eq_true z)) (by decide +kernel)) λ_=>bC hr rfl q⟩
    | num n=>
     rw [e] at hu q okx;obtain⟨r,rfl,hr⟩:=hu;exact bC hr rfl ⟨rfl,bj (λ_=>bC hr rfl (.inl ⟨n,rfl,Cm.log okx,q⟩)) λz=>absurd (decide_eq_true rfl) z⟩
   | _=>exact absurd c Bool.false_ne_true
  ·refine aJ.of (ag (bh (aF cj (av aq (pv 1) ai (λ_ _=>rfl)) az (aH _)) (ah (aB (eJ (aF (jM hr.units) (pv 2) (aD (fT T) hr.dm rfl T.ij T.fY.kp T.ig .nil aw (aa (pv 0) (aa (av aq (pv 1) ai (λ_ _=>rfl)) af))) (aH _)) az az))) aL) ao) ?_;dsimp! [];refine bC (s1.cg hd) d.hd ⟨rfl,Ij 12 rfl (by decide) (λc2=>?_) λc2=>?_⟩
   ·cases d with
    | same x y=>
     refine bC (s1.cg hd) rfl ⟨Pr,L,W,y,rfl,h.same s1,λu2 H2 s2 Nt=>⟨_,_,(hu.same s2).nU,Nt.nU,by rw [lx]; decide,_,rfl,?_⟩⟩;have q:=q H2 (ak.kp (s1.trans s2)) (h.same (s1.trans s2));have e:W.Dl (.same x y)=if bI (vD (W.g x)) (vD (W.g y))=true then("yes":Str)else("no":Str):=rfl
     rw [e] at q;refine bj (λc=>?_) λc=>?_
     ·have c2:bI (vD (W.g x)) (vD (W.g y))=true:=c;rw [if_pos c2] at q;exact q
     ·have c2:¬bI (vD (W.g x)) (vD (W.g y))=true:=c;rw [if_neg c2] at q;exact q
    | _=>exact absurd c2 Bool.false_ne_true
   ·cases d with
    | hear x=>
     refine aJ.of (ag (bh (aF (jM hr.units) (av aq (pv 0) ai (λ_ _=>rfl)) (bP af) (aH _)) (ag (aY (aD (wQ T) hr.dm rfl T.GS T.o_.kp T.GR .nil aw (aa (pv 0) (aa (av aq (pv 1) ai (λ_ _=>rfl)) (aa (bo (aa az af)) af))))) (ah (aB az))) aL) (ag (vC (mf PySem.F.plainAttrs_list PySem.F.slot_list_pop PySem.F.type_list_pop yC (av aq (pv 0) ai (λ_ _=>rfl)) (aa ai af)) (jF (n:=2) rfl (cm (a_ (i:=3) vZ.nd rfl (Or.inl rfl)) (cm (a_ (i:=4) vZ.nd rfl (Or.inl rfl)) hW)))) (ag (aY (aD (wQ T) hr.dm rfl T.GS T.o_.kp T.GR .nil aw (aa (pv 0) (aa (av aq (pv 1) ai (λ_ _=>rfl)) (aa (bo (aa az (aa (pv 3) af))) af))))) (ah (aB (cv ku rfl T.mz kX (aa (pv 4) af))))))) ?_;dsimp! [];have h1:=h.same s1;have Gd:=s1.cg hd;obtain⟨xs,h8,h9⟩:=h1.he;refine bC h1.tu rfl λp hp=>?_
     have s2:=ak.put (o:=.lst []) hp;have h2:=h1.same s2;have h8':=s2 _ _ h8;have Yp:=h9.same s2;have qx:upd H1 p (.lst []) p=some (.lst []):=ae;have hd2:=s2.cg Gd;have Il:=s1.trans s2;generalize upd H1 p (.lst [])=H2 at s2 h2 h8' Yp qx hd2 Il ⊢;refine⟨_,_,qd.nU (ba.of h8') Yp,.Q4 (ba.of qx) (λx hx=>(nomatch hx)),Ny _,_,rfl,?_⟩
     cases e:W.hs with
     | nil=>
      have e1:W.step (.hear x)=W.en x .no:=by show W.pz x W.hs=_; rw [e]; rfl
      have e2:W.Dl (.hear x)="none":=by show Cn W.hs=_; rw [e]; rfl
      rw [e1,e2] at q;refine bj (λ_=>bC hd2 rfl ⟨by decide,λr hr=>?_⟩) λz=>absurd (by simp [bI,kY]) z
      have s3:=ak.put (o:=.tup [V.str (Str.ofString "nothing")]) hr;exact⟨Pr,L,W,x,_,.no,rfl,h2.same s3,hf.1,⟨r,rfl,bX.of ae⟩,λH' k l=>q H' ((ak.kp (Il.trans s3)).trans k) l⟩
     | cons y qZ=>
      have e1:W.step (.hear x)=(Wd.mk W.g W.ts qZ).en x (.th (y.1:Nat)):=by show W.pz x W.hs=_; rw [e]; rfl
      have e2:W.Dl (.hear x)=(toString y.2:String):=by show Cn W.hs=_; rw [e]; rfl
      rw [e1,e2] at q;have hn:=(ok.hs y (by rw [e]; exact mem_cons_self)).2;rw [e] at Yp;have fW:=Yp.1
      cases xs with
      | nil=>cases fW
      | cons x0 xs=>
       obtain⟨b,rfl,hb⟩:=Yp.2 0 x0 y rfl rfl;refine bj (λz=>?_) λ_=>bC h2.tu rfl ⟨.inl ⟨rfl,_,ba.of h8'⟩,L.l2,_,0,0,_,rfl,rfl,h8',by decide,by decide,by simp [seqIndex?],rfl,?_⟩
       ·have z2:bI (.lst ((y::qZ).map hD)) (.lst [])=true:=z;rw [Nz] at z2;cases z2
       ·have Im:qd K H2 xs qZ:=⟨by simpa using fW,λi x h a b=>Yp.2 (i+1) x h a b⟩
        have k3:Kp (·=L.l2) H2 (upd H2 L.l2 (.lst xs)):=(Kp.refl _ _).set rfl;have mu3:∀b,b=L.l2->Mu H2 b:=λc e=>.inl ⟨V.ref b::xs,by rw [e]; exact h8'⟩
        have h3:eV K Pr (upd H2 L.l2 (.lst xs)) L ⟨W.g,W.ts,qZ⟩:=h2.qY Im (by have:=h2.bO.2; rw [e,length_cons] at this; omega);have k3':Kp L.own H2 (upd H2 L.l2 (.lst xs)):=k3.mono λb z=>.inr (.inr z)
        have hb3:=k3.cg mu3 hb;have Qc:=k3.cg mu3 hd2;show ∃a,V.ref b=V.ref a/\_;refine⟨b,rfl,_,hb3,rfl,_,_,rfl,_,_,rfl,rfl,bC Qc rfl ⟨by decide,λr hr=>?_⟩⟩;have s4:=ak.put (o:=.tup [V.str (Str.ofString "thing"),.int (y.1:Int)]) hr;refine⟨Pr,L,_,x,_,.th (y.1:Nat),rfl,h3.same s4,hf.1,⟨r,rfl,bX.of ae⟩,λH' k l=>.inl ⟨_,rfl,Cm.log hn,q H' ((ak.kp Il).trans (k3'.trans ((ak.kp s4).trans k))) l⟩⟩
    | tell x=>exact absurd c.symm Bool.false_ne_true
    | same x y=>exact absurd c2.symm Bool.false_ne_true
    | _=>cases hv
noncomputable def Wd.told (W:Wd) (d:De):Str:=(W.refuse d).getD (W.Dl d)
noncomputable def Wd.after (W:Wd) (d:De):Wd:=if (W.refuse d).isSome=true then W else W.step d
inductive Cs (K:Frag) (vs:List V) (H:Hp) (Q:VK) (E:XK):Prop
 | mk (Pr L W t d:_) (_:vs=[.ref L.st,.ref t]) (_:eV K Pr H L W) (_:W.ok) (_:bX K H t (De.items d)) (_:d.fits) (_:W.ts.length < 500) (_:∀H',Kp L.own H H'->eV K Pr H' L (W.after d)->Q (.str (W.told d)) H'):Cs K vs H Q E
theorem abx:¬(("put":Str)="words"):=by decide +kernel
noncomputable def JDn (K:Frag) (Pr:Addr->Prop) (L:LA) (W:Wd) (d:De) (H:Hp) (σ':St) (H':Hp):Prop:=σ'.length=8/\Kp L.own H H'/\eV K Pr H' L (W.step d)
theorem W9 (T:Txt K mg a):aU P w K mg base cU 4 a.Bt a.Bu ["_law_state","_law_deed"] (Cs K):=by
 refine T.B9.ok lj (λvs H Q E h=>?_) (λbY A outer s H vs Q E hr h=>?_)
 ·obtain⟨_,_,_,_,_,rfl,_⟩:=h;rfl
 ·obtain⟨Pr,L,W,t,d,rfl,h,ok,hd,hf,bO,q⟩:=h;refine⟨_,(ag (aN (i:=2) lj.nd rfl (Or.inl rfl) (av aq (pv 1) ai (λ_ _=>rfl))) (ag (aN (i:=3) lj.nd rfl (Or.inl rfl) (aD (Nx T) hr.dm rfl T.RH T.uS.kp T.RG .nil aw (aa (pv 0) (aa (pv 1) af)))) (ag (bh (aF lZ (pv 3) cz (aH _)) (ah (aB (pv 3))) aL) (ag (bh (aF fb (pv 2) (bP (aa az (aa az (aa az af)))) (by with_unfolding_all rfl)) (ah (aB (aD (W8 T) hr.dm rfl T.aaX T.B8.kp T.aaW .nil aw (aa (pv 0) (aa (pv 1) af))))) aL) ao)))),?_⟩;dsimp! [];refine bC hd d.hd ⟨Pr,L,W,t,d,rfl,h,ok,hd,λH1 s1=>?_⟩
  cases e:W.refuse d with
  | some z=>
   refine bj (λ_=>?_) λc=>absurd rfl c
   have e1:W.told d=z:=by unfold Wd.told; rw [e]; rfl
   have e2:W.after d=W:=by unfold Wd.after; rw [e]; rfl
   rw [e1,e2] at q;exact q H1 (ak.kp s1) (h.same s1)
  | none=>
   refine bj (λc=>by cases c) λ_=>⟨by decide,λp hp=>?_⟩
   have e1:W.told d=W.Dl d:=by unfold Wd.told; rw [e]; rfl
   have e2:W.after d=W.step d:=by unfold Wd.after; rw [e]; rfl
   rw [e1,e2] at q;have s2:=s1.trans (ak.put (o:=.lst [V.str (Str.ofString "tell"),V.str (Str.ofString "same"),V.str (Str.ofString "hear")]) hp);refine Nw [11,12,13] ae rfl (by decide) (λc=>?_) λc=>?_
   ·have ha:d.R0=true:=by
     cases d with
     | tell x=>rfl
     | same x y=>rfl
     | hear x=>rfl
     | _=>exact absurd c Bool.false_ne_true
    exact⟨Pr,L,W,t,d,rfl,h.same s2,ok,s2.cg hd,ha,hf,λH' k l=>q H' ((ak.kp s2).trans k) l⟩
   ·have l1:W.gI d=false:=by
     cases c:W.gI d with
     | false=>rfl
     | true=>
      unfold Wd.refuse at e;rw [if_pos c] at e;cases e
    have l2:W.dR d=false:=by
     cases c:W.dR d with
     | false=>rfl
     | true=>
      unfold Wd.refuse at e;rw [if_neg (by rw [l1]; simp),if_pos c] at e;cases e
    have bV:W.Dl d="ok":=by
     cases d with
     | tell x=>exact absurd c.symm Bool.false_ne_true
     | same x y=>exact absurd c.symm Bool.false_ne_true
     | hear x=>exact absurd c.symm Bool.false_ne_true
     | _=>rfl
    rw [bV] at q;have h2:=h.same s2;have hd2:=s2.cg hd;have q2:∀H',Kp L.own (upd H1 p _) H'->eV K Pr H' L (W.step d)->Q (.str "ok") H':=λH' k l=>q H' ((ak.kp s2).trans k) l
    generalize upd H1 p (.lst [V.str (Str.ofString "tell"),V.str (Str.ofString "same"),V.str (Str.ofString "hear")])=H2 at h2 hd2 q2 ⊢;refine aJ.of (ag kZ ao) ?_;dsimp! [];refine yJ (JDn K Pr L W d H2) (yg.of (bh (aF fb (pv 2) (bP (aa az (aa az (aa az af)))) (by with_unfolding_all rfl)) (ah (aY (aD (W5 T) hr.dm rfl T.aaT T.B6.kp T.aaS .nil aw (aa (pv 0) (aa (pv 1) af))))) (ah (bh (aF fb (pv 2) (bP (aa az (aa az af))) (by with_unfolding_all rfl)) (ag (aN (i:=4) lj.nd rfl (Or.inl rfl) (av aq (aD (fT T) hr.dm rfl T.ij T.fY.kp T.ig .nil aw (aa (pv 0) (aa (av aq (pv 1) ai (λ_ _=>rfl)) af))) ai (λ_ _=>rfl))) (ag (vC (cf (bB hr) (av aq (pv 0) ai (λ_ _=>rfl)) (pv 4) (λ_ _=>rfl)) (jF (n:=3) rfl (cm (a_ (i:=5) lj.nd rfl (Or.inl rfl)) (cm (a_ (i:=6) lj.nd rfl (Or.inl rfl)) (cm (a_ (i:=7) lj.nd rfl (Or.inl rfl)) hW))))) (ah (bh (aF cj (pv 2) az (aH _)) (ah (cH (bB hr) (av aq (pv 0) ai (λ_ _=>rfl)) (pv 4) (bo (aa (pv 5) (aa (pv 6) (aa (av aq (pv 1) ai (λ_ _=>rfl)) af)))) rfl)) (ah (cH (bB hr) (av aq (pv 0) ai (λ_ _=>rfl)) (pv 4) (bo (aa (pv 5) (aa (bu eS (bu eS (gk hX (pv 6) iX (gK (av aq (pv 1) ai (λ_ _=>rfl)))) (bP (aa (aD (fT T) hr.dm rfl T.ij T.fY.kp T.ig .nil aw (aa (pv 0) (aa (av aq (pv 1) ai (λ_ _=>rfl)) af))) af))) (gk hX (pv 6) (gK (bu nj (av aq (pv 1) ai (λ_ _=>rfl)) ai)) iX)) (aa (pv 7) af)))) rfl)))))) (ah (aY (aD (wQ T) hr.dm rfl T.GS T.o_.kp T.GR .nil aw (aa (pv 0) (aa (av aq (pv 1) ai (λ_ _=>rfl)) (aa (aD (W6 T) hr.dm rfl T.aaV T.B7.kp T.aaU .nil aw (aa (pv 0) (aa (pv 1) af))) af))))))))) ?_) ?_
    ·dsimp! [];refine⟨by decide,λp3 R4=>Nw [1,2,3] ae rfl (by decide) (λc2=>?_) λc2=>⟨by decide,λp4 hp4=>?_⟩⟩
     ·have hn:d.isNew=true:=by
       cases d with
       | make x n=>rfl
       | weak x n=>rfl
       | pair x n z=>rfl
       | _=>exact absurd c2 Bool.false_ne_true
      obtain⟨tg,hm⟩:=De.isNew.made hn W;have s3:=ak.put (o:=.lst [V.str (Str.ofString "make"),V.str (Str.ofString "weak"),V.str (Str.ofString "pair")]) R4;exact⟨Pr,L,W,t,d,tg,rfl,h2.same s3,s3.cg hd2,hm,hf,bO,λH' k l=>⟨rfl,(ak.kp s3).trans k,l⟩⟩
     have s3:=(ak.put (o:=.lst [V.str (Str.ofString "make"),V.str (Str.ofString "weak"),V.str (Str.ofString "pair")]) R4).trans (ak.put (o:=.lst [V.str (Str.ofString "words"),V.str (Str.ofString "put")]) hp4);have h3:=h2.same s3;have Qc:=s3.cg hd2;refine Nw [4,5] ae rfl (by decide) (λc3=>?_) λc3=>?_
     ·generalize upd (upd H2 p3 (.lst [V.str (Str.ofString "make"),V.str (Str.ofString "weak"),V.str (Str.ofString "pair")])) p4 (.lst [V.str (Str.ofString "words"),V.str (Str.ofString "put")])=H3 at s3 h3 Qc ⊢
      cases d with
      | words x n=>
       obtain⟨j,fs,w,g1,g2,g3,g4⟩:=ok.Cp (W.wanted l1 mem_cons_self);refine bC Qc rfl ⟨Pr,L,W,x,rfl,h3,λu H4 s4 hu=>?_⟩;rw [g1] at hu;obtain⟨b,rfl,hb⟩:=hu;have h4:=h3.same s4;obtain⟨rows,qq,r1,r2,⟨r3,dF,r5,r6,r7⟩,r4,r8,r9⟩:=h4.at_ g2;refine bC hb rfl (bC h4.tu rfl ⟨L.d1,rfl,_,r4,qq.1,rfl,_,bX.of r3,rfl,_,_,rfl,_,_,rfl,_,_,rfl,rfl,?_⟩);refine bj (λ_=>bC (s4.cg Qc) rfl ⟨by decide,λp5 O2=>?_⟩) λz=>absurd (decide_eq_true rfl) z
       have s5:=ak.put (o:=.tup [.str (Tg.plain fs w).sort,.ref qq.2,.int n]) O2;have e:W.step (.words x n)=⟨W.g,W.ts.set j (.plain fs (some n)),W.hs⟩:=by show W.mF n (W.tg x)=_; rw [g3]; rfl
       have W_:=h.bO.1;refine bC (h4.same s5).tu rfl ⟨L.d1,rfl,_,gE.k (k:=Sum.inl ((j:Int)+1)) (s5 _ _ r1) (aG (by rw [cq]; omega)),rfl,(ak.kp (s3.trans (s4.trans s5))).set (.inr (.inl rfl)),?_⟩;rw [e];exact(h4.same s5).set (q':=(p5,qq.2)) (t':=.plain fs (some n)) (s5 _ _ r1) r2 ⟨ae,dF,s5 _ _ r5,r6.same s5,r7⟩ r9
      | put x i y=>
       obtain⟨j,fs,w,g1,g2,g3,g4⟩:=ok.Cp (W.wanted l1 mem_cons_self);have hi:i < fs.length:=by
        rw [<-g4];exact of_decide_eq_true (by simpa [Wd.dR,De.ly] using l2)
       refine bC Qc rfl ⟨Pr,L,W,x,rfl,h3,λu H4 s4 hu=>?_⟩;rw [g1] at hu;obtain⟨b,rfl,hb⟩:=hu;have h4:=h3.same s4;obtain⟨rows,qq,r1,r2,⟨r3,dF,r5,r6,r7⟩,r4,r8,r9⟩:=h4.at_ g2;refine bC hb rfl (bC h4.tu rfl ⟨L.d1,rfl,_,r4,qq.1,rfl,_,bX.of r3,rfl,_,_,rfl,_,_,rfl,_,_,rfl,rfl,?_⟩);have hd4:=s4.cg Qc;have hl:fs.length=dF.length:=r6.1;have c1:iw dF none (some (i:Int))=dF.take i:=by
        unfold iw;rw [HT.jI,HT.l_];simp
       have c2':iw dF (some ((i:Int)+1)) none=dF.drop (i+1):=by
        unfold iw;rw [HT.jI,show(i:Int)+1=((i+1:Nat):Int)by simp,HT.l_];rw [Nat.min_eq_left (by omega),List.take_of_length_le (by rw [List.length_drop]; omega)]
       refine bj (λz=>absurd (of_decide_eq_true z) abx) λ_=>bC hd4 rfl ⟨_,rfl,qq.2,dF,rfl,ba.of r5,λl6 O3=>?_⟩
       rw [c1];have s6:=ak.put (o:=.lst (dF.take i)) O3;have e6:upd H4 l6 (.lst (dF.take i)) l6=some (.lst (dF.take i)):=ae;generalize upd H4 l6 (.lst (dF.take i))=H6 at s6 e6 ⊢;refine bC (s6.cg hd4) rfl ⟨Pr,L,W,y,rfl,h4.same s6,λu2 H7 s7 Nt=>⟨by decide,λl8 hl8=>?_⟩⟩;have s8:=ak.put (o:=.lst [u2]) hl8;refine⟨l6,l8,_,_,rfl,rfl,ba.of (s8 _ _ (s7 _ _ e6)),ba.of ae,by rw [length_take,length_singleton]; exact Nat.le_of_lt (aG (by omega)),λl9 hl9=>?_⟩;have s9:=ak.put (o:=.lst (dF.take i++[u2])) hl9;have e9:upd (upd H7 l8 (.lst [u2])) l9 (.lst (dF.take i++[u2])) l9=some (.lst (dF.take i++[u2])):=ae;have Yq:=s7.trans (s8.trans s9);have hu9:=Nt.same (s8.trans s9);generalize upd (upd H7 l8 (.lst [u2])) l9 (.lst (dF.take i++[u2]))=H9 at Yq e9 hu9 ⊢;have s69:=s6.trans Yq;refine bC (s69.cg hd4) rfl ⟨_,rfl,qq.2,dF,rfl,ba.of (s69 _ _ r5),λl10 Xa=>?_⟩;rw [c2'];have Dh:=ak.put (o:=.lst (dF.drop (i+1))) Xa;refine⟨l9,l10,_,_,rfl,rfl,ba.of (Dh _ _ e9),ba.of ae,by rw [length_append,length_take,length_singleton,List.length_drop]; exact Nat.le_of_lt (aG (by omega)),λYr aby=>⟨by decide,λp12 abz=>?_⟩⟩;have ex:dF.take i++[u2]++dF.drop (i+1)=dF.set i u2:=by
        rw [List.set_eq_take_append_cons_drop,if_pos (by omega),append_assoc];rfl
       rw [ex] at abz ⊢;have O4:=ak.put (o:=.lst (dF.set i u2)) aby;have Il:=ak.put (o:=.tup [.str (Tg.plain fs w).sort,.ref Yr,wV (Tg.plain fs w).words]) abz;have Ys:=s69.trans (Dh.trans (O4.trans Il));have mC:=((r6.same Ys).set (i:=i) (hu9.same (Dh.trans (O4.trans Il))))
       have el:upd (upd (upd H9 l10 (.lst (dF.drop (i+1)))) Yr (.lst (dF.set i u2))) p12 (.tup [.str (Tg.plain fs w).sort,.ref Yr,wV (Tg.plain fs w).words]) Yr=some (.lst (dF.set i u2)):=Il _ _ ae;have fr:H4 Yr=none:=(s69.trans Dh).free aby;have e:W.step (.put x i y)=⟨W.g,W.ts.set j (.plain (fs.set i (W.g y)) w),W.hs⟩:=by show W.mG i (W.g y) (W.tg x)=_; rw [g3]; rfl
       have W_:=h.bO.1;refine bC (h4.same Ys).tu rfl ⟨L.d1,rfl,_,gE.k (k:=Sum.inl ((j:Int)+1)) (Ys _ _ r1) (aG (by rw [cq]; omega)),rfl,(ak.kp (s3.trans (s4.trans Ys))).set (.inr (.inl rfl)),?_⟩;rw [e];exact(h4.same Ys).set (q':=(p12,Yr)) (t':=.plain (fs.set i (W.g y)) w) (Ys _ _ r1) r2 ⟨ae,_,el,mC,by rw [length_set]; exact r7⟩ (h4.fresh fr)
      | _=>exact absurd c3 Bool.false_ne_true
     ·have hb:∃v,W.bring d=some v/\W.step d=W.en d.root v:=by
       cases d with
       | make x n=>exact absurd c2.symm Bool.false_ne_true
       | weak x n=>exact absurd c2.symm Bool.false_ne_true
       | pair x n z=>exact absurd c2.symm Bool.false_ne_true
       | words x n=>exact absurd c3.symm Bool.false_ne_true
       | put x n z=>exact absurd c3.symm Bool.false_ne_true
       | tell x=>exact absurd c.symm Bool.false_ne_true
       | same x y=>exact absurd c.symm Bool.false_ne_true
       | hear x=>exact absurd c.symm Bool.false_ne_true
       | _=>exact⟨_,rfl,rfl⟩
      obtain⟨v,hb1,ui⟩:=hb;refine bC Qc d.at1 ⟨Pr,L,W,t,d,v,rfl,h3,ok,Qc,hb1,l1,l2,λu H4 s4 hu=>⟨Pr,L,W,d.root,u,v,rfl,h3.same s4,hf.1,hu,λH' k l=>⟨rfl,(ak.kp (s3.trans s4)).trans k,?_⟩⟩⟩;rw [ui];exact l
    ·rintro σ' H3 ⟨hs,k3,l3⟩;refine aJ.of (ah (aB az)) ?_;dsimp! [];exact q2 H3 k3 l3
noncomputable def Tg.cleared:Tg->Tg
 | .plain fs w=>.plain (fs.map λ_=>.no) w
 | .weak _=>.weak .no
 | .pair _ _=>.pair .no .no
theorem Tg.abA (t:Tg):t.cleared.fs=List.replicate t.fs.length .no:=by
 cases t with
 | plain fs w=>
  show(fs.map λ_=>Vl.no)=_;rw [List.map_const'];rfl
 | weak f=>rfl
 | pair k v=>rfl
theorem Tg.Qd (t:Tg):t.cleared.sort=t.sort:=by cases t <;> rfl
theorem Tg.NA (t:Tg):t.cleared.words=t.words:=by cases t <;> rfl
theorem abB {xs:List V}{b D:Addr}{σ:St}{Q:Hp->Prop}{H:Hp}(hD:H D=none) (hb:H b=some (.lst xs)) (hz:xs.length<=1000) (hq:∀H2 ys,ak H H2->H2 D=some (.lst ys)->ik K H2 ys (List.replicate xs.length .no)->Q H2):iy (Jf K b) [] (λ_ H Q=>Q true H) (Pf (qk (tC (V.str (Str.ofString "nothing"))) yv)) σ D Q (upd H D (.lst [])):=by
 refine⟨λi m H2=>m+i=xs.length/\∃ys,ak H H2/\H2 D=some (.lst ys)/\ik K H2 ys (List.replicate i .no),⟨xs.length,rfl,[],ak.put hD,ae,ik.nil _ _⟩,?_⟩;rintro i m H2 ⟨hm,ys,s2,e,hv⟩
 cases m with
 | zero=>
  have ei:i=xs.length:=by omega
  subst ei;exact .inl ⟨⟨xs,ba.of (s2 _ _ hb),Nat.le_refl _⟩,hq H2 ys s2 e hv⟩
 | succ m=>
  refine .inr ⟨⟨xs,xs[i]'(by omega),ba.of (s2 _ _ hb),getElem?_eq_getElem _⟩,λv H' y=>?_⟩;obtain⟨rfl,_⟩:=y;show(if true=true then _ else _);rw [if_pos rfl];refine⟨(by show 1<=sizeLine; decide),λp hp=>?_⟩;have s3:=ak.put (o:=.tup [V.str (Str.ofString "nothing")]) hp;have e3:=s3 _ _ e;have hlen:ys.length=i:=by rw [<-hv.1,length_replicate]
  refine⟨ys,e3,aG (by omega),m,Nat.lt_succ_self m,by omega,ys++[.ref p],λb u eb=>?_,ae,?_⟩
  ·have nb:b≠D:=λz=>by rw [z,hD] at eb; cases eb
   have:=s3 b u (s2 b u eb);exact(au nb).trans this
  ·have k:Kp (·=D) (upd H' p (.tup [V.str (Str.ofString "nothing")])) (upd (upd H' p (.tup [V.str (Str.ofString "nothing")])) D (.lst (ys++[.ref p]))):=(Kp.refl _ _).set rfl;have mu:∀b,b=D->Mu (upd H' p (.tup [V.str (Str.ofString "nothing")])) b:=λb z=>.inl ⟨ys,by rw [z]; exact e3⟩
   have hn:dJ K (upd H' p (.tup [V.str (Str.ofString "nothing")])) (.ref p) .no:=⟨p,rfl,bX.of ae⟩
   have:=(ik.snoc (hv.same s3) hn).kp k mu;rw [List.replicate_succ'];exact this
theorem qd.snoc {H:Hp}{xs:List V}{hs:List (Nat×Int)}{t:Addr}{h0:Nat×Int}(h:qd K H xs hs) (ht:bX K H t [.int (h0.1:Int),.int h0.2]):qd K H (xs++[.ref t]) (hs++[h0]):=⟨by simp [h.1],λi x y a b=>by
 have hl:=h.1
 by_cases hi:i < xs.length
 ·rw [getElem?_append_left hi] at a;rw [getElem?_append_left (by omega)] at b;exact h.2 i x y a b
 ·have e:i=xs.length:=by
   have:=(List.getElem?_eq_some_iff.mp a).1;rw [length_append,length_singleton] at this;omega
  subst e;rw [getElem?_append_right (Nat.le_refl _),Nat.sub_self] at a;rw [<-hl,getElem?_append_right (Nat.le_refl _),Nat.sub_self] at b;cases a;cases b;exact⟨t,rfl,ht⟩⟩
inductive ve (K:Frag) (vs:List V) (H:Hp) (Q:VK) (E:XK):Prop
 | mk (Pr L W:_) (i:Nat) (t:Tg) (wd:Str) (_:vs=[.ref L.st,.str wd,.int ((i:Int)+1)]) (_:eV K Pr H L W) (_:W.ts[i]?=some t) (_:W.hs.length < 500) (_:(wd="due"/\∃fs n,t=.plain fs (some n)/\∀H',Kp L.own H H'->eV K Pr H' L ⟨W.g,W.ts.set i (.plain fs none),W.hs++[(i+1,n)]⟩->Q .bN H')\/(wd≠"due"/\∀H',Kp L.own H H'->eV K Pr H' L ⟨W.g,W.ts.set i t.cleared,W.hs⟩->Q .bN H')):ve K vs H Q E
theorem rA (T:Txt K mg a):aU P w K mg base cU 2 a.Bv a.Bw ["_law_state","_law_word","_law_serial"] (ve K):=by
 refine T.mx.ok v_ (λvs H Q E h=>?_) (λbY A outer s H vs Q E hr h=>?_)
 ·obtain⟨_,_,_,_,_,_,rfl,_⟩:=h;rfl
 ·obtain⟨Pr,L,W,i,t,wd,rfl,h,ht,bO,q⟩:=h;refine⟨_,(ag (vC (cf (bB hr) (av aq (pv 0) ai (λ_ _=>rfl)) (pv 2) (λ_ _=>rfl)) (jF (n:=3) rfl (cm (a_ (i:=3) v_.nd rfl (Or.inl rfl)) (cm (a_ (i:=4) v_.nd rfl (Or.inl rfl)) (cm (a_ (i:=5) v_.nd rfl (Or.inl rfl)) hW))))) (ah (bh (aF cj (pv 1) az (aH _)) (ag (aY (mf PySem.F.plainAttrs_list PySem.F.slot_list_append PySem.F.type_list_append fc (av aq (pv 0) ai (λ_ _=>rfl)) (aa (bo (aa (pv 2) (aa (pv 5) af))) af))) (ah (cH (bB hr) (av aq (pv 0) ai (λ_ _=>rfl)) (pv 2) (bo (aa (pv 3) (aa (pv 4) (aa cz af)))) rfl))) (ah (cH (bB hr) (av aq (pv 0) ai (λ_ _=>rfl)) (pv 2) (bo (aa (pv 3) (aa (oI rfl (vL (x:="_law_value_here") (ns:=[]) (fr:=[]) rfl (by decide +kernel) rfl (by decide +kernel) rfl (forall_mem_nil _) rfl rfl (forall_mem_nil _) (by decide +kernel)) (bQ (pv 4)) (λ_ _ _ _=>(bo (aa az af))) (λ_ _ _ _=>.nil)) (aa (pv 5) af)))) rfl))))),?_⟩;dsimp! [];obtain⟨rows,qq,r1,r2,⟨r3,dF,r5,r6,r7⟩,r4,r8,r9⟩:=h.at_ ht;refine bC h.tu rfl ⟨L.d1,rfl,_,r4,qq.1,rfl,_,bX.of r3,rfl,_,_,rfl,_,_,rfl,_,_,rfl,rfl,bj (λz=>?_) λz=>?_⟩
  ·rcases q with ⟨_,fs,n,rfl,q⟩ | ⟨c,_⟩
   ·obtain⟨xs,h8,h9⟩:=h.he;refine bC h.tu rfl ⟨.inl ⟨rfl,_,ba.of h8⟩,by decide,λp hp=>?_⟩;have s1:=ak.put (o:=.tup [.int ((i:Int)+1),.int n]) hp;refine⟨L.l2,xs,_,rfl,rfl,s1 _ _ h8,aG (by have:=h9.1; omega),by decide,λr hr=>?_⟩;have l1:=(h.same s1).qY ((h9.same s1).snoc (h0:=(i+1,n)) (bX.of ae)) (by rw [length_append,length_singleton]; omega);have k1:Kp L.own (upd H p (.tup [.int ((i:Int)+1),.int n])) (upd (upd H p (.tup [.int ((i:Int)+1),.int n])) L.l2 (.lst (xs++[.ref p]))):=(Kp.refl _ _).set (.inr (.inr rfl));have s2:=ak.put (o:=.tup [.str (Tg.plain fs (some n)).sort,.ref qq.2,V.bN]) hr;have l2:=l1.same s2;have IL:(upd (upd H p (.tup [.int ((i:Int)+1),.int n])) L.l2 (.lst (xs++[.ref p]))) L.d1=some (.dK (dE rows)):=by
     rw [au (λz=>by rw [z,h8] at r1; cases r1)];exact s1 _ _ r1
    have HQ:(upd (upd H p (.tup [.int ((i:Int)+1),.int n])) L.l2 (.lst (xs++[.ref p]))) qq.2=some (.lst dF):=by
     rw [au r9.1];exact s1 _ _ r5
    have W_:=h.bO.1;refine bC l2.tu rfl ⟨L.d1,rfl,_,gE.k (k:=Sum.inl ((i:Int)+1)) (s2 _ _ IL) (aG (by rw [cq]; omega)),q _ ((ak.kp s1).trans ((k1.trans (ak.kp s2)).set (.inr (.inl rfl)))) ?_⟩;have hv6:ik K (upd (upd H p (.tup [.int ((i:Int)+1),.int n])) L.l2 (.lst (xs++[.ref p]))) dF fs:=(r6.same s1).kp ((Kp.refl (·=L.l2) _).set rfl) λb e=>.inl ⟨xs,by rw [e]; exact s1 _ _ h8⟩
    exact l2.set (q':=(r,qq.2)) (t':=.plain fs none) (s2 _ _ IL) r2 ⟨ae,dF,s2 _ _ HQ,hv6.same s2,r7⟩ ⟨r9.1,r9.2⟩
   ·exact absurd (of_decide_eq_true z) c
  ·rcases q with ⟨c,_⟩ | ⟨_,q⟩
   ·exact absurd (decide_eq_true c) z
   ·refine⟨qq.2,rfl,⟨_,ba.of r5⟩,λD hD=>abB (K:=K) hD r5 r7 λH2 ys s2 e2 hv=>⟨by decide,λp hp=>?_⟩⟩;have s3:=ak.put (o:=.tup [.str t.sort,.ref D,wV t.words]) hp;have s4:=s2.trans s3;have W_:=h.bO.1;refine bC ((h.same s4).tu) rfl ⟨L.d1,rfl,_,gE.k (k:=Sum.inl ((i:Int)+1)) (s4 _ _ r1) (aG (by rw [cq]; omega)),q _ ((ak.kp s4).set (.inr (.inl rfl))) ?_⟩;refine(h.same s4).set (q':=(p,D)) (s4 _ _ r1) r2 ⟨by rw [Tg.Qd,Tg.NA]; exact ae,ys,s3 _ _ e2,?_,by rw [<-hv.1,length_replicate]; exact r7⟩ (h.fresh hD);rw [Tg.abA,r6.1];exact hv.same s3
inductive Sm:D->Prop where
 | bN:Sm .bN
 | bl (b:Bool):Sm (.bl b)
 | int (i:Int):Sm (.int i)
 | str (x:Str):Sm (.str x)
 | lst {ds:List D}(h:ds.length<=1000) (hs:∀d∈ds,Sm d):Sm (.lst ds)
 | tup {ds:List D}(h:ds.length<=1000) (hs:∀d∈ds,Sm d):Sm (.tup ds)
noncomputable def Xb (K:Frag) (n:Nat) (H:Hp) (x y:V):Prop:=∃ax ay ka kb,x=.ref ax/\y=.ref ay/\H ax=some (.dK ka)/\H ay=some (.dK kb)/\ax≠ay/\ka.length=kb.length/\∀kv∈kb,∃u d,bz ka kv.1=some u/\bz kb kv.1=some kv.2/\gM K H u d/\gM K H kv.2 d/\d.dep+1<=n/\Sm d
noncomputable def rB (K:Frag):Nat->Sp
 | 0=>λ_ _ _ _=>False
 | n+1=>λvs H Q _=>∃x y,vs=[x,y]/\((∃d:D,gM K H x d/\gM K H y d/\d.dep<=n/\Sm d)\/False)/\n<=20/\Q (.bl true) H
theorem G_:∀{ds:List D}{i:Nat}{d:D},ds[i]?=some d->d.dep<=fX ds
 | [],i,d,h=>by simp at h
 | e::ds,0,d,h=>by
  cases h;rw [fX];omega
 | e::ds,i+1,d,h=>by
  have:=G_ (ds:=ds) (i:=i) (d:=d) (by simpa using h);rw [fX];omega
theorem Ct (T:Txt K mg a):∀n,aU P w K mg base cU n a.qO a.uw ["_law_found","_law_due"] (rB K n)
 | 0=>aU.no
 | n+1=>by
  have ih:=Ct T n;refine T.uU.ok D4 (λvs H Q E h=>?_) (λbY A outer s H vs Q E hr h=>?_)
  ·obtain⟨_,_,rfl,_⟩:=h;rfl
  ·obtain⟨x,y,rfl,⟨d,hx,hy,hd,hsm⟩ | hdc,hn,q⟩:=h
   rotate_left
   ·exact hdc.elim
   refine⟨_,(ag (bh (PW.pt (lX (fJ (aR bR rfl T.bE bG (aa (pv 1) (aa (dZ (v:=.ty "bool") rfl T.wG F2 rfl) af)))) (lX (aF nk (pv 1) cz (aH _)) (kU (fJ (aR bR rfl T.bE bG (aa (pv 1) (aa (dZ (v:=.ty "str") rfl T.mz kX rfl) af)))))))) (ah (aB (ng (fL (jM hr.units) (pv 0) (pv 1) (aH _)) (qi (fL cj (aR bR rfl T.bE bG (aa (pv 0) (aa (dZ (v:=.ty "str") rfl T.mz kX rfl) af))) (aR bR rfl T.bE bG (aa (pv 1) (aa (dZ (v:=.ty "str") rfl T.mz kX rfl) af))) (aH _)))))) aL) (ag (bh (fJ (aR bR rfl T.bE bG (aa (pv 1) (aa (dZ (v:=.ty "int") rfl T.uW vJ rfl) af)))) (ah (aB (ng (aR bR rfl T.bE bG (aa (pv 0) (aa (dZ (v:=.ty "int") rfl T.uW vJ rfl) af))) (ng (Dt (aR bR rfl T.bE bG (aa (pv 0) (aa (dZ (v:=.ty "bool") rfl T.wG F2 rfl) af)))) (qi (fL (jM hr.units) (pv 0) (pv 1) (aH _))))))) aL) (ag (bh (PW.pt (lX (aF jH (aR bR rfl T.bE bG (aa (pv 1) (aa (dZ (v:=.ty "tuple") rfl T.qc yE rfl) af))) (aR bR rfl T.bE bG (aa (pv 0) (aa (dZ (v:=.ty "tuple") rfl T.qc yE rfl) af))) (aH _)) (kU (aF jH (aR bR rfl T.bE bG (aa (pv 1) (aa (dZ (v:=.ty "list") rfl T.iC ib rfl) af))) (aR bR rfl T.bE bG (aa (pv 0) (aa (dZ (v:=.ty "list") rfl T.iC ib rfl) af))) (aH _))))) (ah (aB gj)) aL) (ag (bh (fJ (aR bR rfl T.bE bG (aa (pv 1) (aa (dZ (v:=.ty "dict") rfl T.lu mi rfl) af)))) (ag (bh (PW.pt (lX (m_ (fJ (aR bR rfl T.bE bG (aa (pv 0) (aa (dZ (v:=.ty "dict") rfl T.lu mi rfl) af))))) (kU (aF jH (aR gP rfl T.f_ eE (aa (pv 0) af)) (aR gP rfl T.f_ eE (aa (pv 1) af)) (aH _))))) (ah (aB gj)) aL) (ag (vR (cp PassesOwn.never rfl (vQ (pv 1)) (a_ (i:=2) D4.nd rfl (Or.inl rfl)) ao)) ao)) aL) ao)))),?_⟩;have tx:U9 K H x (.type (UX d)):=.s hx.ty;have ty:U9 K H y (.type (UX d)):=.s hy.ty;dsimp! [];have k1:=HE K d "bool" (.inl rfl);have k2:=HE K d "str" (.inr (.inl rfl));have k3:=HE K d "int" (.inr (.inr (.inl rfl)));have k4:=HE K d "tuple" (.inr (.inr (.inr (.inl rfl))));have k5:=HE K d "list" (.inr (.inr (.inr (.inr (.inl rfl)))));have k6:=HE K d "dict" (.inr (.inr (.inr (.inr (.inr rfl)))));have eqs:Pz K false x y H λx_3 H1=>∃c,x_3=V.bl c/\if c=true then ∃x_4,U9 K H1 x x_4/\∃x,PySem.W.kitOne K x_4 (Value.type "str")=some x/\∃x_5,U9 K H1 y x_5/\∃x_6,PySem.W.kitOne K x_5 (Value.type "str")=some x_6/\Q (V.bl (decide (x=x_6))) H1 else Q (V.bl false) H1:=by
    refine⟨d,d,hx,hy,by omega,?_⟩;rw [if_neg Bool.false_ne_true,fN];refine⟨true,rfl,jK ⟨_,tx,_,k2,_,ty,_,k2,?_⟩⟩;rw [decide_eq_true rfl];exact q
   have nn:∀t,UX d=t->t≠"NoneType"->y≠V.bN:=λt e h z=>by
    subst z;cases hy;exact h e.symm
   refine⟨_,ty,_,k1,?_⟩;have rest:∀(ax ay:Addr) (xs ys:List V) (ds:List D),x=.ref ax->y=.ref ay->(ba K H ax xs\/bX K H ax xs)->(ba K H ay ys\/bX K H ay ys)->xs.length=ds.length->ys.length=ds.length->(∀(i:Nat) x d,xs[i]?=some x->ds[i]?=some d->gM K H x d)->(∀(i:Nat) x d,ys[i]?=some x->ds[i]?=some d->gM K H x d)->fX ds+1<=n->ds.length<=1000->(∀d∈ds,Sm d)->aJ (yx cU P w K mg base ["_law_found","_law_due","_law_key","_law_k"] "_law_alike" (ar yY) a.qO bY A outer s H E).YO ((d_ yY).drop 4) {nx:=λ_ H'=>Q V.bN H',rt:=Q} [some x,some y,none,none] H:=by
    intro ax ay xs ys ds ex ey R5 hys l1 l2 i1 i2 hdp hsz hsm;subst ex ey;refine aJ.of (ag (bh (aF jH (aR cF rfl T.f_ eE (aa (pv 0) af)) (aR cF rfl T.f_ eE (aa (pv 1) af)) (aH _)) (ah (aB gj)) aL) (ag (cp PassesOwn.never rfl (tT rfl T.qb (aa (aR cF rfl T.f_ eE (aa (pv 1) af)) af)) (a_ (i:=3) D4.nd rfl (Or.inl rfl)) ao) ao)) ?_;dsimp! [];refine⟨xs,R5,ys,hys,?_⟩;rw [decide_eq_true (show((xs.length:Nat):Int)=(ys.length:Nat)by rw [l1,l2])];refine ee ⟨ys,hys,by omega,by omega,JT (λi σ H'=>H'=H/\∃o3:Option V,σ=[some (.ref ax),some (.ref ay),none,o3]) ⟨rfl,none,rfl⟩ ?_ ?_⟩
    ·rintro i σ H' hi ⟨rfl,o3,rfl⟩;have uk:i < ds.length:=by omega
     have gx:xs[i]?=some xs[i]:=getElem?_eq_getElem (by omega);have gy:ys[i]?=some ys[i]:=getElem?_eq_getElem (by omega);have gd:ds[i]?=some ds[i]:=getElem?_eq_getElem uk;have hdi:=G_ gd;refine gN ?_;refine aJ.of (ah (bh (m_ (fJ (aD ih (hr.mono (Nat.le_refl _)) rfl T.RL T.uU.kp T.RK .nil aw (aa (av J9 (pv 0) (pv 3) (λ_ _=>rfl)) (aa (av J9 (pv 1) (pv 3) (λ_ _=>rfl)) af))))) (ah (aB gj)) aL)) ?_;dsimp! [Int.zero_add];obtain⟨n',rfl⟩:∃n',n=n'+1:=⟨n - 1,by omega⟩
     have fin:rB K (n'+1) [xs[i],ys[i]] H' (λx H1=>∃c,x=V.bl c/\if (!c)=true then Q (V.bl false) H1 else H1=H'/\∃o3,some (V.int (i:Int))=o3) E0:=⟨_,_,rfl,.inl ⟨ds[i],i1 i _ _ gx gd,i2 i _ _ gy gd,by omega,hsm _ (List.getElem_mem uk)⟩,by omega,true,rfl,ee ⟨rfl,_,rfl⟩⟩
     have ix:∀(ad:Addr) (zs:List V) (z:V) (R:VK),(ba K H' ad zs\/bX K H' ad zs)->zs[i]?=some z->R z H'->Zu K (.ref ad) (.int (i:Int)) H' R:=λad zs z R hz gz r=>by
      rcases hz with hz | hz
      ·exact .inl ⟨ad,zs,_,z,rfl,rfl,hz,dk gz,r⟩
      ·exact .inr ⟨ad,zs,_,z,rfl,rfl,hz,dk gz,r⟩
     exact ix _ _ _ _ R5 gx (ix _ _ _ _ hys gy fin)
    ·rintro σ H' ⟨rfl,o3,rfl⟩;refine aJ.of (ah (aB gj)) ?_;dsimp! [];exact q
   cases d with
   | bl b=>exact jK eqs
   | bN=>
    cases hy;exact ee (jK eqs)
   | str z=>
    rw [decide_eq_false (nn "str" rfl (by decide))];exact ee (ee ⟨_,ty,_,k2,jK eqs⟩)
   | int z=>
    rw [decide_eq_false (nn "int" rfl (by decide))];refine ee (ee ⟨_,ty,_,k2,ee ⟨_,ty,_,k3,jK ⟨_,tx,_,k3,jK ⟨_,tx,_,k1,jK ⟨_,_,hx,hy,by omega,?_⟩⟩⟩⟩⟩);rw [if_neg Bool.false_ne_true,fN];exact q
   | lst ds=>
    rw [decide_eq_false (nn "list" rfl (by decide))];refine ee (ee ⟨_,ty,_,k2,ee ⟨_,ty,_,k3,ee ⟨_,ty,_,k4,_,tx,_,k4,?_⟩⟩⟩);rw [decide_eq_true rfl];refine ee ⟨_,ty,_,k5,_,tx,_,k5,?_⟩;rw [decide_eq_true rfl];refine ee ⟨_,ty,_,k6,ee ?_⟩;rw [D.dep] at hd
    cases hsm with
    | lst IQ sL=>
    cases hx with
    | lst h1 l1 i1=>
     cases hy with
     | lst h2 l2 i2=>exact rest _ _ _ _ ds rfl rfl (.inl h1) (.inl h2) l1 l2 i1 i2 hd IQ sL
   | tup ds=>
    rw [decide_eq_false (nn "tuple" rfl (by decide))];refine ee (ee ⟨_,ty,_,k2,ee ⟨_,ty,_,k3,ee ⟨_,ty,_,k4,_,tx,_,k4,?_⟩⟩⟩);rw [decide_eq_true rfl];refine ee ⟨_,ty,_,k5,_,tx,_,k5,?_⟩;rw [decide_eq_true rfl];refine ee ⟨_,ty,_,k6,ee ?_⟩;rw [D.dep] at hd
    cases hsm with
    | tup IQ sL=>
    cases hx with
    | tup h1 l1 i1=>
     cases hy with
     | tup h2 l2 i2=>exact rest _ _ _ _ ds rfl rfl (.inr h1) (.inr h2) l1 l2 i1 i2 hd IQ sL
noncomputable def Xc (K:Frag):Sp:=rB K 6
theorem Xd (T:Txt K mg a):aU P w K mg base cU 6 a.qO a.uw ["_law_found","_law_due"] (Xc K):=Ct T 6
theorem Io (ns:List Int):∀x∈ns.map V.int,h_ x=true:=λx hx=>by
 obtain⟨z,_,rfl⟩:=mem_map.mp hx;rfl
noncomputable def aE (l:List Nat):List V:=(l.map λ(p:Nat)=>(p:Int)).map V.int
theorem aI (l:List Nat):(aE l).length=l.length:=by
 unfold aE;rw [length_map,length_map]
theorem Cu {k:Nat}{l:List Nat}:QY (V.int (k:Int)) (aE l)=decide (k∈l):=by
 rw [Bool.eq_iff_iff,decide_eq_true_iff];unfold QY aE;rw [List.any_eq_true];constructor
 ·rintro⟨x,hx,e⟩;obtain⟨y,hy,rfl⟩:=mem_map.mp hx;obtain⟨z,hz,rfl⟩:=mem_map.mp hy;have:(z:Int)=(k:Int):=by simpa [F0] using e
  have e2:z=k:=by omega
  rw [<-e2];exact hz
 ·intro h;exact⟨_,mem_map.mpr ⟨_,mem_map.mpr ⟨k,h,rfl⟩,rfl⟩,by simp [F0]⟩
theorem lz (l:List Nat):(aE l).all h_=true:=by
 rw [List.all_eq_true];exact λx hx=>Io _ x hx
noncomputable def kC:Vl->Option Nat
 | .th n=>some n.toNat
 | _=>none
theorem mH {m:Nat}:∀{vl:List Vl},(∀v∈vl,v.ok m)->vl.filterMap Vl.nm=aE (vl.filterMap kC)
 | [],_=>rfl
 | v::vl,h=>by
  have ih:=mH λu hu=>h u (mem_cons_of_mem _ hu)
  cases v with
  | no=>exact ih
  | num z=>exact ih
  | th z=>
   obtain⟨i,e,_⟩:=h _ mem_cons_self;show V.int z::vl.filterMap Vl.nm=V.int ((z.toNat:Nat):Int)::aE (vl.filterMap kC);rw [ih,Int.toNat_of_nonneg (by omega)]
noncomputable def eR:Tg->List Nat
 | .plain fs _=>fs.filterMap kC
 | _=>[]
noncomputable def fU:Tg->Option Nat
 | .pair k _=>kC k
 | _=>none
noncomputable def valN:Tg->List Nat
 | .pair _ v=>[v].filterMap kC
 | _=>[]
noncomputable def wU (ts:List Tg):Prop:=∀t∈ts,∀v∈t.fs,v.ok ts.length
theorem rC {m:Nat}{vl:List Vl}(h:∀v∈vl,v.ok m) {j:Nat}(hj:j∈vl.filterMap kC):1<=j/\j<=m:=by
 obtain⟨v,hv,e⟩:=List.mem_filterMap.mp hj
 cases v with
 | no=>cases e
 | num z=>cases e
 | th z=>
  cases e;obtain⟨i,e,_⟩:=h _ hv;omega
noncomputable def iU (ts:List Tg) (k:Nat) (t:Tg):Prop:=∃i,k=i+1/\ts[i]?=some t
theorem iU.mem {ts:List Tg}{k:Nat}{t:Tg}(h:iU ts k t):t∈ts:=by
 obtain⟨i,_,e⟩:=h;exact mem_of_getElem? e
theorem iU.one {ts:List Tg}{k:Nat}{t u:Tg}(h:iU ts k t) (h2:iU ts k u):t=u:=by
 obtain⟨i,rfl,e⟩:=h;obtain⟨j,e2,e3⟩:=h2;have:i=j:=by omega
 subst this;rw [e] at e3;exact Option.some.inj e3
theorem iU.of {ts:List Tg}{k:Nat}(h:1<=k/\k<=ts.length):∃t,iU ts k t:=⟨ts[k - 1]'(by omega),k - 1,by omega,getElem?_eq_getElem _⟩
theorem wU.held {ts:List Tg}(h:wU ts) {t:Tg}(ht:t∈ts) {j:Nat}(hj:j∈eR t):1<=j/\j<=ts.length:=by
 cases t with
 | plain fs w=>exact rC (h _ ht) hj
 | weak f=>cases hj
 | pair k v=>cases hj
theorem wU.val {ts:List Tg}(h:wU ts) {t:Tg}(ht:t∈ts) {j:Nat}(hj:j∈valN t):1<=j/\j<=ts.length:=by
 cases t with
 | plain fs w=>cases hj
 | weak f=>cases hj
 | pair k v=>exact rC (vl:=[v]) (λu hu=>h _ ht u (mem_cons_of_mem _ hu)) hj
structure Yt (ts:List Tg) (S:Nat->Prop):Prop where
 held:∀k t,iU ts k t->S k->∀j∈eR t,S j
 pair:∀k t m,iU ts k t->S k->fU t=some m->S m->∀j∈valN t,S j
noncomputable def sW (ts:List Tg) (S0:List Nat) (x:Nat):Prop:=∀S:Nat->Prop,Yt ts S->(∀k∈S0,S k)->S x
theorem sW.clo (ts:List Tg) (S0:List Nat):Yt ts (sW ts S0):=⟨λk t h hk j hj S c h0=>c.held k t h (hk S c h0) j hj,λk t m h hk hm hs j hj S c h0=>c.pair k t m h (hk S c h0) hm (hs S c h0) j hj⟩
theorem sW.Yu {ts:List Tg}{S0:List Nat}{x:Nat}(h:x∈S0):sW ts S0 x:=λ_ _ h0=>h0 x h
theorem sW.le {ts:List Tg}{S0:List Nat}(ok:wU ts) (h0:∀k∈S0,1<=k/\k<=ts.length) {x:Nat}(h:sW ts S0 x):1<=x/\x<=ts.length:=
 h (λx=>1<=x/\x<=ts.length) ⟨λk t h _ j hj=>ok.held h.mem hj,λk t m h _ _ _ j hj=>ok.val h.mem hj⟩ h0
noncomputable def da (n:Nat):List Nat:=(List.range n).map (·+1)
theorem dG {n x:Nat}:x∈da n↔1<=x/\x<=n:=by
 unfold da;rw [mem_map];constructor
 ·rintro⟨i,hi,rfl⟩;have:=List.mem_range.mp hi;omega
 ·rintro⟨h1,h2⟩;exact⟨x - 1,List.mem_range.mpr (by omega),by omega⟩
theorem kz (n:Nat):(da n).Pairwise (· < ·):=List.pairwise_map.mpr (List.pairwise_lt_range.imp λh=>by omega)
open Classical in
noncomputable def cls (ts:List Tg) (S0:List Nat):List Nat:=(da ts.length).filter λx=>decide (sW ts S0 x)
theorem nW (ts:List Tg) (S0:List Nat):(cls ts S0).Pairwise (· < ·):=(kz _).filter _
theorem Ha {ts:List Tg}{S0:List Nat}(ok:wU ts) (h0:∀k∈S0,1<=k/\k<=ts.length) {x:Nat}:x∈cls ts S0↔sW ts S0 x:=by
 unfold cls;rw [List.mem_filter,@decide_eq_true_iff _ (Classical.propDecidable _),dG];exact⟨λh=>h.2,λh=>⟨h.le ok h0,h⟩⟩
theorem jX {ts:List Tg}{S0:List Nat}{x:Nat}(h:x∈cls ts S0):1<=x/\x<=ts.length:=dG.mp (List.mem_filter.mp h).1
theorem Hb (ts:List Tg) (S0:List Nat):(cls ts S0).length<=ts.length:=by
 have:=List.length_filter_le (λx=>@decide _ (Classical.propDecidable (sW ts S0 x))) (da ts.length);unfold da at this;rw [length_map,length_range] at this;exact this
theorem wW:∀{l m:List Int},l.Pairwise (· < ·)->m.Pairwise (· < ·)->(∀x,x∈l↔x∈m)->l=m
 | [],[],_,_,_=>rfl
 | [],y::m,_,_,h=>absurd ((h y).mpr mem_cons_self) not_mem_nil
 | x::l,[],_,_,h=>absurd ((h x).mp mem_cons_self) not_mem_nil
 | x::l,y::m,hl,hm,h=>by
  obtain⟨l1,l2⟩:=pairwise_cons.mp hl;obtain⟨m1,m2⟩:=pairwise_cons.mp hm;have e:x=y:=by
   rcases mem_cons.mp ((h x).mp mem_cons_self)with e | e
   ·exact e
   ·rcases mem_cons.mp ((h y).mpr mem_cons_self)with e2 | e2
    ·exact e2.symm
    ·have h1:=m1 x e;have h2:=l1 y e2;omega
  subst e;rw [wW l2 m2 λz=>⟨λhz=>?_,λhz=>?_⟩]
  ·rcases mem_cons.mp ((h z).mp (mem_cons_of_mem _ hz))with e | e
   ·have:=l1 z hz;omega
   ·exact e
  ·rcases mem_cons.mp ((h z).mpr (mem_cons_of_mem _ hz))with e | e
   ·have:=m1 z hz;omega
   ·exact e
theorem rD:∀{l:List Int},l.Pairwise (·<=·)->l.Nodup->l.Pairwise (· < ·)
 | [],_,_=>.nil
 | x::l,h,n=>by
  obtain⟨h1,h2⟩:=pairwise_cons.mp h;obtain⟨n1,n2⟩:=List.nodup_cons.mp n;refine pairwise_cons.mpr ⟨λy hy=>?_,rD h2 n2⟩;have:=h1 y hy;have:x≠y:=λe=>n1 (e▸hy)
  omega
theorem Cv {L:List Nat}(h:L.Pairwise (· < ·)):(L.map λ(p:Nat)=>(p:Int)).Pairwise (· < ·):=List.pairwise_map.mpr (h.imp λh=>by omega)
theorem iO {L:List Nat}{x:Int}:(x∈L.map λ(p:Nat)=>(p:Int))↔∃k∈L,(k:Int)=x:=mem_map
theorem gX {ns:List Int}{U:List Nat}(hp:ns.Perm (U.map λ(p:Nat)=>(p:Int))) (hs:ns.Pairwise (·<=·)) (nd:U.Nodup) {L:List Nat}(hL:L.Pairwise (· < ·)) (hm:∀x,x∈U↔x∈L):ns=L.map λ(p:Nat)=>(p:Int):=by
 have n1:ns.Nodup:=hp.nodup_iff.mpr (List.pairwise_map.mpr (nd.imp λh e=>h (by omega)));refine wW (rD hs n1) (Cv hL) λx=>?_
 rw [hp.mem_iff,iO,iO];exact⟨λ⟨k,h,e⟩=>⟨k,(hm k).mp h,e⟩,λ⟨k,h,e⟩=>⟨k,(hm k).mpr h,e⟩⟩
noncomputable def pM (K:Frag) (H:Hp) (d:Addr) (ts:List Tg):Prop:=∃rows:List (Addr×Addr),H d=some (.dK (dE rows))/\rows.length=ts.length/\∀(i:Nat) q t,rows[i]?=some q->ts[i]?=some t->e_ K H q.1 q.2 t
theorem pM.same {H H':Hp}{d:Addr}{ts:List Tg}(h:pM K H d ts) (k:ak H H'):pM K H' d ts:=by
 obtain⟨rows,h1,h2,h3⟩:=h;exact⟨rows,k _ _ h1,h2,λi q t a b=>(h3 i q t a b).same k⟩
theorem pM.get {H:Hp}{d:Addr}{ts:List Tg}(h:pM K H d ts) {k:Nat}{t:Tg}(hk:iU ts k t):∃p l,e_ K H p l t/\fH H d (.int (k:Nat)) (some (.ref p)):=by
 obtain⟨rows,h1,h2,h3⟩:=h;obtain⟨i,rfl,e⟩:=hk;have hi:rows[i]?=some (rows[i]'(by have:=(List.getElem?_eq_some_iff.mp e).1; omega)):=getElem?_eq_getElem _;refine⟨_,_,h3 i _ t hi e,?_⟩;have:=ip hi;rw [<-this];exact fH.k (k:=Sum.inl ((i:Int)+1)) h1
theorem pM.DM {H H':Hp}{d:Addr}{ts:List Tg}(h:pM K H d ts) (s:ak H H') {k:Nat}{t:Tg}(hk:iU ts k t):∃p l,e_ K H p l t/\fH H' d (.int (k:Nat)) (some (.ref p)):=by
 obtain⟨rows,h1,h2,h3⟩:=h;obtain⟨i,rfl,e⟩:=hk;have hi:rows[i]?=some (rows[i]'(by have:=(List.getElem?_eq_some_iff.mp e).1; omega)):=getElem?_eq_getElem _;refine⟨_,_,h3 i _ t hi e,?_⟩;have:=ip hi;rw [<-this];exact fH.k (k:=Sum.inl ((i:Int)+1)) (s _ _ h1)
noncomputable def eB (S:List Nat):List (Key×V):=S.map λ(k:Nat)=>((Sum.inl (k:Int):Key),V.bl true)
theorem fV (S:List Nat):(eB S).length=S.length:=by
 unfold eB;rw [length_map]
theorem Cw (S:List Nat):(eB S).map (·.1)=S.map λ(k:Nat)=>(Sum.inl (k:Int):Key):=by
 unfold eB;rw [List.map_map];rfl
theorem Qf {S:List Nat}(h:S.Nodup):((eB S).map (·.1)).Nodup:=by
 rw [Cw];exact List.pairwise_map.mpr (h.imp λh e=>h (by have:_=_:=Sum.inl.inj e; omega))
theorem mI {S:List Nat}{k:Nat}:bz (eB S) (Sum.inl (k:Int))=if k∈S then some (.bl true)else none:=by
 cases e:bz (eB S) (Sum.inl (k:Int))with
 | none=>
  rw [if_neg];intro hk;refine jQ e ?_;rw [Cw];exact mem_map.mpr ⟨k,hk,rfl⟩
 | some u=>
  have h1:=jW e;unfold eB at h1;obtain⟨j,hj,ej⟩:=mem_map.mp h1;have e1:(j:Int)=(k:Int):=Sum.inl.inj (congrArg Prod.fst ej);have e2:V.bl true=u:=congrArg Prod.snd ej;have e3:j=k:=by omega
  rw [e3] at hj;rw [if_pos hj,e2]
noncomputable def mJ (H:Hp) (d:Addr) (S:List Nat):Prop:=H d=some (.dK (eB S))
theorem mJ.ask {H:Hp}{d:Addr}{S:List Nat}(h:mJ H d S) (k:Nat):fH H d (.int (k:Nat)) (if k∈S then some (.bl true)else none):=by
 rw [<-mI];exact fH.k (k:=Sum.inl (k:Int)) h
theorem mK {p:Prop} [Decidable p] {v:V}:(if p then some v else none).isSome=decide p:=by
 by_cases z:p
 ·rw [if_pos z,decide_eq_true z]; rfl
 ·rw [if_neg z,decide_eq_false z]; rfl
noncomputable def oN:Option Nat->V
 | some k=>.int (k:Nat)
 | none=>.bN
noncomputable def inS (o:Option Nat) (S:List Nat):Bool:=match o with
 | some k=>decide (k∈S)
 | none=>false
theorem mJ.aeI {H:Hp}{d:Addr}{S:List Nat}(h:mJ H d S) (o:Option Nat):ZG H d (oN o) (inS o S):=by
 cases o with
 | none=>exact .inr ⟨rfl,rfl,_,.inl h⟩
 | some k=>exact .inl ⟨_,h.ask k,by rw [mK]; rfl⟩
theorem cu {S:List Nat}{i:Nat}{x:V}(h:(aE S)[i]?=some x):∃k,S[i]?=some k/\x=.int (k:Nat):=by
 unfold aE at h;rw [getElem?_map,getElem?_map] at h
 cases e:S[i]? with
 | none=>rw [e] at h; cases h
 | some k=>rw [e] at h; cases h; exact⟨k,rfl,rfl⟩
theorem wX:∀{ys:List V},(∀(i:Nat) y,ys[i]?=some y->∃t,y=.ref t)->∃xs:List Addr,ys=xs.map V.ref/\True
 | [],_=>⟨[],rfl,trivial⟩
 | y::ys,h=>by
  obtain⟨t,rfl⟩:=h 0 y rfl;obtain⟨xs,rfl,_⟩:=wX (ys:=ys) λi z e=>h (i+1) z (by simpa using e)
  exact⟨t::xs,rfl,trivial⟩
theorem R6:¬(("weak":Str)="plain"):=by decide +kernel
theorem R7:¬(("pair":Str)="plain"):=by decide +kernel
theorem abC:¬(("plain":Str)="pair"):=by decide +kernel
theorem R8:¬(("weak":Str)="pair"):=by decide +kernel
theorem Hc {p:Prop} [Decidable p] (h:¬p):(!decide p)=true:=by rw [decide_eq_false h]; rfl
inductive NB (K:Frag) (vs:List V) (H:Hp) (Q:VK) (E:XK):Prop
 | mk (l:Addr) (S:List Nat) (_:vs=[.ref l]) (_:ba K H l (aE S)) (_:S.Nodup) (_:S.length<=500) (_:∀r H',ak H H'->H r=none->mJ H' r S->Q (.ref r) H'):NB K vs H Q E
theorem Er (T:Txt K mg a):aU P w K mg base cU 2 a.zA a.zB ["some"] (NB K):=by
 refine T.qR.ok VB (λvs H Q E h=>?_) (λbY A outer s H vs Q E hr h=>?_)
 ·obtain⟨_,_,rfl,_⟩:=h;rfl
 ·obtain⟨l,S,rfl,hl,nd,bO,q⟩:=h;refine⟨_,(ah (aB (cv (qE rfl) rfl T.lu mi (aa (oI rfl (vL (x:="serial") (ns:=[]) (fr:=[]) rfl (by decide +kernel) rfl (by decide +kernel) rfl (forall_mem_nil _) rfl rfl (forall_mem_nil _) (by decide +kernel)) (bQ (pv 0)) (λ_ _ _ _=>(bo (aa (pv 0) (aa gj af)))) (λ_ _ _ _=>.nil)) af)))),?_⟩;dsimp! [];refine⟨⟨_,hl⟩,λD hD=>?_⟩;refine Gb (λi y H=>∃t k,S[i]?=some k/\y=.ref t/\H t=some (.tup [.int (k:Nat),.bl true])) (λi y H H' h s=>?_) hD hl (by rw [aI]; omega) (λi x H2 zs R hx s2 Kr r=>?_) λH2 ys s2 Kr PK hr=>?_
  ·obtain⟨t,k,e1,e2,e3⟩:=h;exact⟨t,k,e1,e2,s _ _ e3⟩
  ·obtain⟨k,hk,rfl⟩:=cu hx;dsimp! [bA];refine⟨by decide,λt ht=>r _ _ (ak.put ht) ⟨t,k,hk,rfl,?_⟩⟩;unfold uk;rw [if_neg (aC Kr ht).symm];exact ae
  ·obtain⟨xs,ex,hx⟩:=wX (ys:=ys) λi y e=>by
    obtain⟨t,k,_,e2,_⟩:=hr i y e;exact⟨t,e2⟩
   rw [ex] at Kr hr PK;rw [length_map,aI] at PK;refine⟨xs,Kr,eB S,by rw [fV]; exact PK,λi t p ht hp=>?_,by rw [fV]; omega,λr Eo=>?_⟩
   ·obtain⟨t',k,e1,e2,e3⟩:=hr i (.ref t) (by rw [getElem?_map,ht]; rfl);cases e2;unfold eB at hp;rw [getElem?_map,e1] at hp;cases hp;exact e3
   ·rw [uY (Qf nd)];exact q r _ (s2.trans (ak.put Eo)) (s2.free Eo) ae
inductive NC (K:Frag) (vs:List V) (H:Hp) (Q:VK) (E:XK):Prop
 | mk (p l:Addr) (t:Tg) (m:Nat) (_:vs=[.ref p]) (_:e_ K H p l t) (_:∀v∈t.fs,v.ok m) (_:∀r,H r=none->Q (.ref r) (upd H r (.lst (aE (eR t))))):NC K vs H Q E
theorem Xe (T:Txt K mg a):aU P w K mg base cU 4 a.zC a.zD ["thing"] (NC K):=by
 refine T.BO.ok VC (λvs H Q E h=>?_) (λbY A outer s H vs Q E hr h=>?_)
 ·obtain⟨_,_,_,_,rfl,_⟩:=h;rfl
 ·obtain⟨p,l,t,m,rfl,h,ok,q⟩:=h;refine⟨_,(ah (aB (eJ (aF cj (av aq (pv 0) ai (λ_ _=>rfl)) az (aH _)) (aD (wI T) hr.dm rfl T.Gp T.oY.kp T.Gn .nil aw (aa (av aq (pv 0) ai (λ_ _=>rfl)) af)) (bP af)))),?_⟩;dsimp! [];obtain⟨h1,xs,h2,h3,h4⟩:=h;refine bC (bX.of h1) rfl ⟨rfl,?_⟩
  cases t with
  | plain fs w=>
   refine bj (λ_=>bC (bX.of h1) rfl ⟨l,xs,fs,rfl,ba.of h2,h4,h3.1,h3.2,λr hr=>?_⟩) λz=>absurd (decide_eq_true rfl) z
   rw [mH (m:=m) (vl:=fs) ok];exact q r hr
  | weak f=>exact bj (λz=>absurd (V.str.inj (of_decide_eq_true z)) R6) λ_ r hr=>q r hr
  | pair k v=>exact bj (λz=>absurd (V.str.inj (of_decide_eq_true z)) R7) λ_ r hr=>q r hr
inductive ND (K:Frag) (vs:List V) (H:Hp) (Q:VK) (E:XK):Prop
 | mk (p l:Addr) (t:Tg) (m:Nat) (_:vs=[.ref p]) (_:e_ K H p l t) (_:∀v∈t.fs,v.ok m) (_:Q (oN (fU t)) H):ND K vs H Q E
theorem Xf (T:Txt K mg a):aU P w K mg base cU 2 a.zE a.zF ["thing"] (ND K):=by
 refine T.BP.ok VD (λvs H Q E h=>?_) (λbY A outer s H vs Q E hr h=>?_)
 ·obtain⟨_,_,_,_,rfl,_⟩:=h;rfl
 ·obtain⟨p,l,t,m,rfl,h,ok,q⟩:=h;refine⟨_,(ag (bh (PW.pt (lX (aF jH (av aq (pv 0) ai (λ_ _=>rfl)) az (aH _)) (kU (m_ (fJ (aD (Ef T) hr.dm rfl T.MB T.qP.kp T.MA .nil aw (aa (av df (av aq (pv 0) ai (λ_ _=>rfl)) ai (λ_ _=>rfl)) af))))))) (ah (aB cz)) aL) (ah (aB (av aq (av df (av aq (pv 0) ai (λ_ _=>rfl)) ai (λ_ _=>rfl)) ai (λ_ _=>rfl))))),?_⟩;dsimp! [];obtain⟨h1,xs,h2,h3,h4⟩:=h;refine bC (bX.of h1) rfl ⟨rfl,?_⟩
  cases t with
  | plain fs w=>exact bj (λ_=>q) λz=>absurd (Hc λy=>abC (V.str.inj y)) z
  | weak f=>exact bj (λ_=>q) λz=>absurd (Hc λy=>R8 (V.str.inj y)) z
  | pair k v=>
   have hl:xs.length=2:=h3.1.symm;obtain⟨x0,x1,rfl⟩:∃x0 x1,xs=[x0,x1]:=by
    match xs,hl with
    | [x,y],_=>exact⟨x,y,rfl⟩
   have hk:=h3.2 0 x0 k rfl rfl;obtain⟨tk,rfl,Uv⟩:=id hk;refine bj (λz=>by simp [Tg.sort] at z) λ_=>bC (bX.of h1) rfl (Dm (ba.of h2) rfl ⟨_,k,rfl,hk,_,rfl,?_⟩)
   cases k with
   | no=>exact bj (λ_=>q) λz=>by simp [Vl.wH] at z
   | num n=>exact bj (λ_=>q) λz=>by simp [Vl.wH] at z
   | th n=>
    obtain⟨i,e,_⟩:=ok (.th n) mem_cons_self;refine bj (λz=>by simp [Vl.wH] at z) λ_=>bC (bX.of h1) rfl (Dm (ba.of h2) rfl (bC Uv rfl ?_))
    have e2:oN (fU (.pair (.th n) v))=.int n:=by
     show V.int ((n.toNat:Nat):Int)=.int n;rw [Int.toNat_of_nonneg (by omega)]
    rw [e2] at q;exact q
inductive NF (K:Frag) (vs:List V) (H:Hp) (Q:VK) (E:XK):Prop
 | mk (p l:Addr) (k v:Vl) (m:Nat) (_:vs=[.ref p]) (_:e_ K H p l (.pair k v)) (_:v.ok m) (_:∀r H',ak H H'->H r=none->H' r=some (.lst (aE (valN (.pair k v))))->Q (.ref r) H'):NF K vs H Q E
theorem Xg (T:Txt K mg a):aU P w K mg base cU 4 a.zG a.zH ["thing"] (NF K):=by
 refine T.BQ.ok VE (λvs H Q E h=>?_) (λbY A outer s H vs Q E hr h=>?_)
 ·obtain⟨_,_,_,_,_,rfl,_⟩:=h;rfl
 ·obtain⟨p,l,k,v,m,rfl,h,ok,q⟩:=h;refine⟨_,(ah (aB (aD (wI T) hr.dm rfl T.Gp T.oY.kp T.Gn .nil aw (aa (gk hX (av aq (pv 0) ai (λ_ _=>rfl)) (gK ai) iX) af)))),?_⟩;dsimp! [];obtain⟨h1,xs,h2,h3,h4⟩:=h;have hl:xs.length=2:=h3.1.symm;obtain⟨x0,x1,rfl⟩:∃x0 x1,xs=[x0,x1]:=by
   match xs,hl with
   | [x,y],_=>exact⟨x,y,rfl⟩
  have hv:=h3.2 1 x1 v rfl rfl;refine bC (bX.of h1) rfl ⟨l,_,rfl,ba.of h2,λl2 fW=>?_⟩;have s2:=ak.put (o:=.lst (iw [x0,x1] (some 1) none)) fW;have ec:iw [x0,x1] (some 1) none=[x1]:=by
   unfold iw;rfl
  rw [ec] at s2 ⊢;refine⟨l2,[x1],[v],rfl,ba.of ae,Nat.le_of_ble_eq_true rfl,rfl,λi x u hx hu=>?_,λr hr=>?_⟩
  ·cases i with
   | zero=>
    cases hx;cases hu;exact hv.same s2
   | succ i=>simp at hx
  ·rw [mH (m:=m) λu hu=>by rw [mem_singleton.mp hu]; exact ok];exact q r _ (s2.trans (ak.put hr)) (s2.free hr) ae
noncomputable def gY (t:Tg) (S:List Nat):List Nat:=match fU t with
 | some m=>if m∈S then valN t else eR t
 | none=>eR t
theorem vf {t:Tg}{m:Nat}(h:fU t=some m):∃k v,t=.pair k v:=by
 cases t with
 | plain fs w=>cases h
 | weak f=>cases h
 | pair k v=>exact⟨k,v,rfl⟩
theorem NG {ts:List Tg}(ok:wU ts) {t:Tg}(ht:t∈ts) {S:List Nat}{j:Nat}(hj:j∈gY t S):1<=j/\j<=ts.length:=by
 unfold gY at hj;split at hj
 ·split at hj
  ·exact ok.val ht hj
  ·exact ok.held ht hj
 ·exact ok.held ht hj
theorem NH {ts:List Tg}{S:List Nat}:Yt ts (·∈S)↔∀k t,iU ts k t->k∈S->∀j∈gY t S,j∈S:=by
 constructor
 ·intro c k t h hk j hj;unfold gY at hj;split at hj
  ·rename_i m e;split at hj
   ·rename_i hm;exact c.pair k t m h hk e hm j hj
   ·exact c.held k t h hk j hj
  ·exact c.held k t h hk j hj
 ·intro c;refine⟨λk t h hk j hj=>?_,λk t m h hk e hm j hj=>c k t h hk j ?_⟩
  ·cases t with
   | plain fs w=>exact c k _ h hk j hj
   | weak f=>cases hj
   | pair kk vv=>cases hj
  ·unfold gY;rw [e];dsimp only;rw [if_pos hm];exact hj
noncomputable def jY (ts:List Tg) (S:List Nat) (s:Str) (k:Nat):Bool:=match ts[k - 1]? with
 | some t=>decide (t.sort=s)&&(t.fs.take 1 |>.filterMap kC).any λj=>decide (j∉S)
 | none=>false
noncomputable def pN (ts:List Tg) (S:List Nat) (s:Str):List Nat:=S.filter (jY ts S s)
noncomputable def IBl (d l:Addr) (z:Str) (ts:List Tg) (S:List Nat) (mb b:Addr) (H0:Hp) (i:Nat) (σ:St) (H:Hp):Prop:=(∃o3 o4,σ=[some (.ref d),some (.ref l),some (.str z),some (.ref mb),some (.ref b),o3,o4])/\ak H0 H/\mJ H mb S/\H b=some (.lst (aE ((S.take i).filter (jY ts S z))))
inductive mL (K:Frag) (s:Option Str) (vs:List V) (H:Hp) (Q:VK) (E:XK):Prop
 | mk (d l:Addr) (ts:List Tg) (S:List Nat) (z:Str) (_:match s with | some y=>vs=[.ref d,.ref l]/\z=y | none=>vs=[.ref d,.ref l,.str z]) (_:pM K H d ts) (_:wU ts) (_:ts.length<=63) (_:H l=some (.lst (aE S))) (_:S.Nodup) (_:∀k∈S,1<=k/\k<=ts.length) (_:∀r H',ak H H'->H r=none->H' r=some (.lst (aE (pN ts S z)))->Q (.ref r) H'):mL K s vs H Q E
theorem NI (T:Txt K mg a):aU P w K mg base cU 5 a.zW a.zX ["things","some","sort"] (mL K none):=by
 refine T.uE.ok qJ (λvs H Q E h=>?_) (λbY A outer s H vs Q E hr h=>?_)
 ·obtain⟨_,_,_,_,_,rfl,_⟩:=h;rfl
 ·obtain⟨d,l,ts,S,z,rfl,h,ok,bO,hl,nd,hS,q⟩:=h;refine⟨_,(ag (aN (i:=3) qJ.nd rfl (Or.inr rfl) (aD (Er T) hr.dm rfl T.MI T.qR.kp T.MH .nil aw (aa (pv 1) af))) (ag (aN (i:=4) qJ.nd rfl (Or.inl rfl) (bP af)) (ag (cp PassesOwn.never rfl (bQ (pv 1)) (a_ (i:=5) qJ.nd rfl (Or.inl rfl)) ao) ao))),?_⟩;dsimp! [];have lS:S.length<=63:=Nat.le_trans (gW (m:=da ts.length) nd λk hk=>dG.mpr (hS k hk)) (by unfold da; rw [length_map,length_range]; exact bO);refine⟨l,S,rfl,ba.of hl,nd,by omega,λmb H1 s1 Yv IQ=>λb hb=>⟨⟨_,ba.of ((s1.trans (ak.put hb)) _ _ hl)⟩,?_⟩⟩;have Xh:H b=none:=s1.free hb;refine cV (aE S) (IBl d l z ts S mb b H) ⟨⟨none,none,rfl⟩,s1.trans (ak.put hb),ak.put hb _ _ IQ,ae⟩ (λi σ' H' _ hh=>ba.of (hh.2.1 _ _ hl)) (λi x σ' H2 hx hh=>?_) λσ' H2 hh=>?_
  ·obtain⟨k,hk,rfl⟩:=cu hx;obtain⟨⟨o3,o4,rfl⟩,s2,sL,ui⟩:=hh;obtain⟨t,ht⟩:=iU.of (hS k (mem_of_getElem? hk));obtain⟨j,ek,et⟩:=id ht;refine gN ?_;refine aJ.of (ag (aN (i:=6) qJ.nd rfl (Or.inl rfl) (aD (wI T) hr.dm rfl T.Gp T.oY.kp T.Gn .nil aw (aa (gk hX (av aq (cf (bB hr) (pv 0) (pv 5) (λ_ _=>rfl)) ai (λ_ _=>rfl)) iX (gK ai)) af))) (ah (bh (PW.pt (iV (aF cj (av aq (cf (bB hr) (pv 0) (pv 5) (λ_ _=>rfl)) ai (λ_ _=>rfl)) (pv 2) (aH _)) (gJ (fJ (aR (uj rfl) rfl T.GZ J5 (aa (oI rfl (vL (x:="name") (ns:=["members"]) (fr:=[3]) rfl (by decide +kernel) rfl (by decide +kernel) rfl (forall_mem_cons.mpr ⟨rfl,forall_mem_nil _⟩) rfl rfl (forall_mem_cons.mpr ⟨⟨rfl,rfl,.inl rfl⟩,forall_mem_nil _⟩) (by decide +kernel)) (bQ (pv 6)) (λ_ _ _ _=>(IZ (nH (bB hr) (pv 0) (pv 1)))) (λ_ _ _ _=>.nil)) af)))))) (ah (aY (mf PySem.F.plainAttrs_list PySem.F.slot_list_append PySem.F.type_list_append fc (pv 4) (aa (pv 5) af)))) aL))) ?_;dsimp! [];obtain⟨p,lf,hp,hg⟩:=(h.same s2).get ht;obtain⟨h1,xs,h2,h3,h4⟩:=id hp;have hlx:t.fs.length=xs.length:=h3.1;refine⟨_,hg,bC (bX.of h1) rfl ⟨lf,xs,rfl,ba.of h2,λl2 fW=>?_⟩⟩;have ec:iw xs none (some 1)=xs.take 1:=by
    unfold iw;rw [HT.jI,show(1:Int)=((1:Nat):Int) from rfl,HT.l_];simp
   rw [ec];have s3:=ak.put (o:=.lst (xs.take 1)) fW;refine⟨l2,xs.take 1,t.fs.take 1,rfl,ba.of ae,by rw [length_take]; omega,by rw [length_take,length_take,hlx],λi x v a1 a2=>?_,λr hr=>?_⟩
   ·rw [List.getElem?_take] at a1 a2;split at a1
    ·rename_i c;rw [if_pos c] at a2;exact(h3.2 i x v a1 a2).same s3
    ·cases a1
   have okf:∀v∈t.fs.take 1,v.ok ts.length:=λv hv=>ok t ht.mem v (List.mem_of_mem_take hv)
   rw [mH okf];have hWl:((t.fs.take 1).filterMap kC).length<=1:=Nat.le_trans (List.length_filterMap_le _ _) (by rw [length_take]; omega);have eW:jY ts S z k=(decide (t.sort=z)&&((t.fs.take 1).filterMap kC).any λj=>decide (j∉S)):=by
    unfold jY;rw [ek,Nat.add_sub_cancel,et]
   generalize (t.fs.take 1).filterMap kC=W at hWl eW;have s4:=s3.trans (ak.put (o:=.lst (aE W)) hr);have hr4:upd (upd H2 l2 (.lst (xs.take 1))) r (.lst (aE W)) r=some (.lst (aE W)):=ae;generalize upd (upd H2 l2 (.lst (xs.take 1))) r (.lst (aE W))=H4 at s4 hr4;have Dp:mJ H4 mb S:=s4 _ _ sL;have hb4:=s4 _ _ ui;have IS:=s2.trans s4;obtain⟨p',lf',O0,hg'⟩:=(h.same IS).get ht;have sX:S.take (i+1)=S.take i++[k]:=by
    rw [take_add_one,hk];rfl
   have no:∀H5,ak H4 H5->jY ts S z k=false->IBl d l z ts S mb b H (i+1) [some (V.ref d),some (V.ref l),some (V.str z),some (V.ref mb),some (V.ref b),some (V.int k),some (V.ref r)] H5:=λH5 s5 e=>by
    refine⟨⟨_,_,rfl⟩,IS.trans s5,s5 _ _ Dp,?_⟩;rw [sX,filter_append,List.filter_cons_of_neg (by rw [e]; exact Bool.false_ne_true),List.filter_nil,append_nil];exact s5 _ _ hb4
   refine⟨_,hg',bC (bX.of O0.1) rfl ⟨rfl,bj (λc=>?_) λc=>no _ (.refl _) ?_⟩⟩
   ·have c2:t.sort=z:=V.str.inj (of_decide_eq_true c);rw [decide_eq_true c2,Bool.true_and] at eW;refine⟨r,rfl,⟨_,ba.of hr4⟩,λD hD=>qu (aE W) W (λj=>some (.bl (decide (j∉S)))) (by rw [aI]; omega) (aI _).symm (λys=>(ak.put hD).seq (ba.of hr4)) (λi x b ys R hx hb r=>r) (λi x b y ys R hx hb hy r=>?_) ?_⟩
    ·obtain⟨j,hj,rfl⟩:=cu hx;rw [hb] at hj;cases hj;cases hy;dsimp! [bA,Option.join_some];refine⟨_,(show mJ _ mb S from ak.put hD _ _ Dp).ask b,?_⟩;rw [mK,<-decide_not];exact r
    ·have e1:W.filterMap (λj=>some (V.bl (decide (j∉S))))=(W.map λj=>decide (j∉S)).map V.bl:=by
      rw [List.map_map,List.filterMap_eq_map'];rfl
     have e2:(W.map λj=>decide (j∉S)).any id=W.any λj=>decide (j∉S):=by
      rw [List.any_map];rfl
     rw [e1];refine⟨_,ba.of ae,?_⟩;rw [e2,<-eW];have s5:ak H4 (upd H4 D (.lst ((W.map λj=>decide (j∉S)).map V.bl))):=ak.put hD;generalize upd H4 D (.lst ((W.map λj=>decide (j∉S)).map V.bl))=H5 at s5
     cases eb:jY ts S z k with
     | false=>exact ee (no H5 s5 eb)
     | true=>
      have hb5:=s5 _ _ hb4;have ll:(aE ((S.take i).filter (jY ts S z))).length<=63:=by
       rw [aI];have h1:=List.length_filter_le (jY ts S z) (S.take i);rw [length_take] at h1;omega
      refine jK ⟨.inl ⟨rfl,_,ba.of hb5⟩,b,_,_,rfl,rfl,hb5,aG (by omega),⟨_,_,rfl⟩,.putD (IS.trans s5) Xh,?_,?_⟩
      ·show upd H5 b _ mb=_;have abD:H2 mb=some (.dK (eB S)):=sL;rw [au λe=>by rw [e,ui] at abD; cases abD];exact s5 _ _ Dp
      ·rw [ae,sX,filter_append,List.filter_cons_of_pos eb,List.filter_nil];unfold aE;rw [map_append,map_append];rfl
   ·rw [eW,decide_eq_false λy=>c (decide_eq_true (by rw [y])),Bool.false_and]
  ·obtain⟨⟨o3,o4,rfl⟩,s2,sL,ui⟩:=hh;refine aJ.of (ah (aB (pv 4))) ?_;dsimp! [];rw [aI,take_length] at ui;exact q b H2 s2 Xh ui
theorem NJ (T:Txt K mg a):aU P w K mg base cU 6 a.zY a.zZ ["things","some"] (mL K (some "weak")):=by
 refine T.uF.ok VL (λvs H Q E h=>?_) (λbY A outer s H vs Q E hr h=>?_)
 ·obtain⟨_,_,_,_,_,⟨rfl,_⟩,_⟩:=h;rfl
 ·obtain⟨d,l,ts,S,z,⟨rfl,rfl⟩,h1,h2,h3,h4,h5,h6,h⟩:=h;refine⟨_,(ah (aB (aD (NI T) hr.dm rfl T.Rx T.uE.kp T.Rv .nil aw (aa (pv 0) (aa (pv 1) (aa az af)))))),?_⟩;dsimp! [];exact⟨d,l,ts,S,_,rfl,h1,h2,h3,h4,h5,h6,h⟩
theorem NK (T:Txt K mg a):aU P w K mg base cU 6 a.z_ a.Aa ["things","some"] (mL K (some "pair")):=by
 refine T.uG.ok VN (λvs H Q E h=>?_) (λbY A outer s H vs Q E hr h=>?_)
 ·obtain⟨_,_,_,_,_,⟨rfl,_⟩,_⟩:=h;rfl
 ·obtain⟨d,l,ts,S,z,⟨rfl,rfl⟩,h1,h2,h3,h4,h5,h6,h⟩:=h;refine⟨_,(ah (aB (aD (NI T) hr.dm rfl T.Rx T.uE.kp T.Rv .nil aw (aa (pv 0) (aa (pv 1) (aa az af)))))),?_⟩;dsimp! [];exact⟨d,l,ts,S,_,rfl,h1,h2,h3,h4,h5,h6,h⟩
theorem aeJ {K:Frag}{a D:Addr}{fr:List Nat}{tt:TT}{te:TE}{σ:St}{Q:Hp->Prop}{H:Hp}(xs:List V) (Pv:Nat->List V->Hp->Prop) (h0:Pv 0 [] H) (hl:∀i ys H,i<=xs.length->Pv i ys H->ba K H a xs)
  (hs:∀i m x ys H,m+1+i=xs.length->xs[i]?=some x->Pv i ys H->∃t va vb,x=.ref t/\bX K H t [va,vb]/\tt (bJ fr σ (some va) (some vb)) H λb H3=>if b=true then te (bJ fr σ (some va) (some vb)) H3 (UO D Pv xs.length (m+1) i)else UP Pv xs.length (m+1) i H3)
  (hq:∀ys H,Pv xs.length ys H->Q H):jb K (Jf K a) fr tt te σ D Q H:=by
 refine⟨λi m H2=>m+i=xs.length/\∃ys,Pv i ys H2,⟨xs.length,rfl,[],h0⟩,?_⟩;rintro i m H2 ⟨hm,ys,hp⟩;have hS:=hl i ys H2 (by omega) hp
 cases m with
 | zero=>
  have e:i=xs.length:=by omega
  subst e;exact .inl ⟨⟨xs,hS,Nat.le_refl _⟩,hq ys H2 hp⟩
 | succ m=>
  have hi:i < xs.length:=by omega
  refine .inr ⟨⟨xs,xs[i],hS,getElem?_eq_getElem hi⟩,λv H' y=>?_⟩;obtain⟨rfl,hv⟩:=y;exact hs i m v ys H' hm (hv xs hS) hp
noncomputable def Opn (g:Str->Vl) (hs:List (Nat×Int)) (x:Nat):Prop:=(∃r,g r=.th (x:Int))\/∃h∈hs,h.1=x
open Classical in
noncomputable def O5 (g:Str->Vl) (hs:List (Nat×Int)) (n:Nat):List Nat:=(da n).filter λx=>decide (Opn g hs x)
theorem wY (g:Str->Vl) (hs:List (Nat×Int)) (n:Nat):(O5 g hs n).Pairwise (· < ·):=(kz _).filter _
theorem NL {g:Str->Vl}{hs:List (Nat×Int)}{n x:Nat}(h:x∈O5 g hs n):1<=x/\x<=n:=dG.mp (List.mem_filter.mp h).1
theorem Opn.le {W:Wd}(ok:W.ok) {x:Nat}(h:Opn W.g W.hs x):1<=x/\x<=W.ts.length:=by
 rcases h with ⟨r,e⟩ | ⟨p,hp,rfl⟩
 ·have:=ok.g r;rw [e] at this;obtain⟨i,e2,_⟩:=this;omega
 ·exact(ok.hs p hp).1
theorem wZ {W:Wd}(ok:W.ok) {x:Nat}:x∈O5 W.g W.hs W.ts.length↔Opn W.g W.hs x:=by
 unfold O5;rw [List.mem_filter,@decide_eq_true_iff _ (Classical.propDecidable _),dG];exact⟨λh=>h.2,λh=>⟨h.le ok,h⟩⟩
noncomputable def hV:Key->Str
 | .inr x=>x
 | .inl _=>""
theorem pD {H:Hp}{kvs:List (Key×V)}{W:Wd}(h:nT K H kvs W.g) (ok:W.ok) {x:Nat}:x∈(kvs.map λkv=>W.g (hV kv.1)).filterMap kC↔∃r,W.g r=.th (x:Int):=by
 rw [List.mem_filterMap];constructor
 ·rintro⟨v,hv,e⟩;obtain⟨kv,_,rfl⟩:=mem_map.mp hv;have hk:=ok.g (hV kv.1);refine⟨hV kv.1,?_⟩
  cases e2:W.g (hV kv.1)with
  | no=>rw [e2] at e; cases e
  | num z=>rw [e2] at e; cases e
  | th z=>
   rw [e2] at e hk;cases e;obtain⟨i,e3,_⟩:=hk;rw [Int.toNat_of_nonneg (by omega)]
 ·rintro⟨r,e⟩
  cases e2:bz kvs (Sum.inr r)with
  | none=>
   rw [h.no r e2] at e;cases e
  | some u=>exact⟨_,mem_map.mpr ⟨_,jW e2,rfl⟩,by show kC (W.g r)=_; rw [e]; show some (((x:Int)).toNat)=_; rw [Int.toNat_natCast]⟩
inductive NM (a:eI) (K:Frag) (vs:List V) (H:Hp) (Q:VK) (E:XK):Prop
 | mk (Pr A W:_) (_:vs=[.ref A.p]) (_:PW a K Pr H A W) (_:W.ok) (_:W.ts.length<=63) (_:∀r H',ak H H'->H r=none->H' r=some (.lst (aE (O5 W.g W.hs W.ts.length)))->Q (.ref r) H'):NM a K vs H Q E
theorem Xi (T:Txt K mg a):aU P w K mg base cU 5 a.zy a.zz ["heap"] (NM a K):=by
 refine T.BN.ok DY (λvs H Q E h=>?_) (λbY A outer s H vs Q E hr h=>?_)
 ·obtain⟨_,_,_,rfl,_⟩:=h;rfl
 ·obtain⟨Pr,A,W,rfl,h,ok,bO,q⟩:=h;refine⟨_,(ag (aN (i:=1) DY.nd rfl (Or.inl rfl) (aD (wI T) hr.dm rfl T.Gp T.oY.kp T.Gn .nil aw (aa (cv (DX rfl) rfl T.iC ib (aa (DF PySem.F.plainAttrs_dict PySem.F.slot_dict_values PySem.F.type_dict_values HF (dj (pv 0) T.aj T.D6 (En T) hr.dm T.MW .nil aw)) af)) af))) (ag (U3 (j:=2) rfl DY.nd rfl rfl (Ke (x:="serial") (x2:="words") (ns:=[]) (fr:=[]) rfl (by decide +kernel) rfl (by decide +kernel) rfl rfl (forall_mem_nil _) rfl rfl (forall_mem_nil _) (by decide +kernel)) (bQ (dj (pv 0) T.aj T.D7 (El T) hr.dm T.MX .nil aw)) (λ_ _ _ _=>(pv 0)) (λ_ _ _ _=>.nil)) (ah (aB (aR (vW rfl) rfl T.fR gc (aa (cv (HR rfl) rfl T.M0 Vb (aa (bu eS (pv 1) (pv 2)) af)) af)))))),?_⟩;obtain⟨dx,h1⟩:=h.ob;dsimp! [h1,HO.ins.injEq];refine⟨aX,Pr,A,W.g,W.ts,W.hs,rfl,h,λr kvs H1 s1 Eo yi NN _=>?_⟩;refine⟨.inr (.inr (.inl ⟨rfl,.inl ⟨_,yi⟩⟩)),r,rfl,kvs,.inl yi,λp hp=>⟨r,ae,kvs,.inl (ak.put hp _ _ yi),λl hl=>?_⟩⟩;have kf:=NN.bO;have s2:=s1.trans ((ak.put (o:=.ext λh=>h.IsValuesView p r) hp).trans (ak.put (o:=.lst (kvs.map (·.2))) hl));have rt2:=NN.same ((ak.put (o:=.ext λh=>h.IsValuesView p r) hp).trans (ak.put (o:=.lst (kvs.map (·.2))) hl));have fW:upd (upd H1 p (.ext λh=>h.IsValuesView p r)) l (.lst (kvs.map (·.2))) l=some (.lst (kvs.map (·.2))):=ae;generalize upd (upd H1 p (.ext λh=>h.IsValuesView p r)) l (.lst (kvs.map (·.2)))=H2 at s2 fW rt2;refine⟨l,_,kvs.map λkv=>W.g (hV kv.1),rfl,ba.of fW,by rw [length_map]; omega,by rw [length_map,length_map],λi x v hx hv=>?_,λnl hnl=>?_⟩
  ·rw [getElem?_map] at hx hv
   cases e:kvs[i]? with
   | none=>rw [e] at hx; cases hx
   | some kv=>
    rw [e] at hx hv;cases hx;cases hv;obtain⟨y,_,ey⟩:=NN.ks kv (mem_of_getElem? e);have:hV kv.1=y:=by rw [ey]; rfl
    show dJ K H2 kv.2 (W.g (hV kv.1));rw [this];exact rt2.at_ y kv.2 (by rw [<-ey]; exact il NN.nd e)
  have okv:∀v∈kvs.map (λkv=>W.g (hV kv.1)),v.ok W.ts.length:=λv hv=>by
   obtain⟨kv,_,rfl⟩:=mem_map.mp hv;exact ok.g _
  rw [mH okv];have RT:=λx=>pD (x:=x) NN ok
  have lN:((kvs.map λkv=>W.g (hV kv.1)).filterMap kC).length<=26:=Nat.le_trans (List.length_filterMap_le _ _) (by rw [length_map]; exact kf);generalize (kvs.map λkv=>W.g (hV kv.1)).filterMap kC=N1 at RT lN;have s3:=s2.trans (ak.put (o:=.lst (aE N1)) hnl);have hn3:upd H2 nl (.lst (aE N1)) nl=some (.lst (aE N1)):=ae;generalize upd H2 nl (.lst (aE N1))=H3 at s3 hn3;refine⟨dx,_,s3 _ _ h1,aX,Pr,A,W.g,W.ts,W.hs,rfl,h.same s3,λr2 xs Im hh=>⟨r2,rfl,⟨_,ba.of ae⟩,λD hD=>?_⟩⟩;have s4:=s3.trans (ak.put (o:=.lst xs) Im);have hn4:=ak.put (o:=.lst xs) Im _ _ hn3;have hh4:=hh.same (ak.put (o:=.lst xs) Im);have hx4:upd H3 r2 (.lst xs) r2=some (.lst xs):=ae;generalize upd H3 r2 (.lst xs)=H4 at s4 hn4 hh4 hx4 hD;have fh:=h.bO.2;refine aeJ xs (λi ys H9=>ak H4 H9/\H9 D=some (.lst ys)/\ys=aE ((W.hs.take i).map (·.1))) ⟨.put hD,ae,rfl⟩ (λi ys H9 _ z=>ba.of (z.1 _ _ hx4)) (λi m x ys H9 hm hxi hh9=>?_) λys H9 hh9=>?_
  ·obtain⟨s9,hD9,rfl⟩:=hh9;have hi:=(List.getElem?_eq_some_iff.mp hxi).1;have hhi:W.hs[i]?=some (W.hs[i]'(by have:=hh.1; omega)):=getElem?_eq_getElem _;obtain⟨t,rfl,ht⟩:=hh4.2 i x _ hxi hhi;refine⟨t,_,_,rfl,s9.cg ht,jK ?_⟩;dsimp! [bJ];refine UO.mk hm hD9 (by rw [aI,length_map,length_take]; omega) ⟨.putD s9 hD,ae,?_⟩;rw [take_add_one,hhi,map_append];unfold aE;rw [map_append,map_append];rfl
  ·obtain⟨s9,hD9,rfl⟩:=hh9;rw [<-hh4.1,take_length] at hD9;have s09:=s4.trans s9;have lh:(W.hs.map (·.1)).length<=500:=by rw [length_map]; exact fh
   refine⟨nl,D,_,_,rfl,rfl,ba.of (s9 _ _ hn4),ba.of hD9,by rw [aI,aI,sizeLine_eq]; omega,λp2 qx=>⟨p2,rfl,(N1++W.hs.map (·.1)).map λ(k:Nat)=>(k:Int),?_,by rw [length_map,length_append]; omega,λl5 IP=>?_⟩⟩
   ·have e:aE N1++aE (W.hs.map (·.1))=((N1++W.hs.map (·.1)).map λ(k:Nat)=>(k:Int)).map V.int:=by
     unfold aE;rw [map_append,map_append]
    rw [<-e];exact ba.of ae
   ·have mem:∀x:Int,x∈((N1++W.hs.map (·.1)).map λ(k:Nat)=>(k:Int)).foldl gs []↔∃k,Opn W.g W.hs k/\(k:Int)=x:=λx=>by
     rw [kO,iO];constructor
     ·rintro(h | ⟨k,hk,e⟩)
      ·cases h
      ·refine⟨k,?_,e⟩;rcases mem_append.mp hk with hk | hk
       ·exact .inl ((RT k).mp hk)
       ·obtain⟨y,hy,ey⟩:=mem_map.mp hk;exact .inr ⟨y,hy,ey⟩
     ·rintro⟨k,hk,e⟩;refine .inr ⟨k,mem_append.mpr ?_,e⟩;rcases hk with hk | ⟨y,hy,ey⟩
      ·exact .inl ((RT k).mpr hk)
      ·exact .inr (mem_map.mpr ⟨y,hy,ey⟩)
    have nd:=mr ((N1++W.hs.map (·.1)).map λ(k:Nat)=>(k:Int)) [] List.nodup_nil;have s5:∀o,ak H (upd (upd H9 p2 (.lst (aE N1++aE (W.hs.map (·.1))))) l5 o):=λo=>s09.trans ((ak.put qx).trans (ak.put IP))
    refine⟨_,ae,?_,λl6 ns O3 pm ps=>q l6 _ ((s5 _).trans (ak.put O3)) ((s5 _).free O3) ?_⟩
    ·have:=gW (m:=(da W.ts.length).map λ(k:Nat)=>(k:Int)) nd λx hx=>by
      obtain⟨k,hk,e⟩:=(mem x).mp hx;exact iO.mpr ⟨k,dG.mpr (hk.le ok),e⟩
     unfold da at this;rw [length_map,length_map,length_range] at this;omega
    ·have e:ns=(O5 W.g W.hs W.ts.length).map λ(k:Nat)=>(k:Int):=wW (rD ps (pm.nodup_iff.mpr nd)) (Cv (wY _ _ _)) λx=>by
      rw [pm.mem_iff,mem,iO];exact⟨λ⟨k,hk,e⟩=>⟨k,(wZ ok).mpr hk,e⟩,λ⟨k,hk,e⟩=>⟨k,(wZ ok).mp hk,e⟩⟩
     rw [e];exact ae
structure Rw where
 k:Nat
 how:Str
 o:Option Nat
noncomputable def dH (R:List Rw):List Nat:=R.map (·.k)
theorem g_ (R:List Rw) (r:Rw):dH (R++[r])=dH R++[r.k]:=by
 unfold dH;rw [map_append];rfl
noncomputable def sY (how:Str) (o:Nat) (R:List Rw) (k:Nat):List Rw:=if k∈dH R then R else R++[⟨k,how,some o⟩]
noncomputable def dO (R:List Rw) (N:List Nat) (how:Str) (o:Nat):List Rw:=N.foldl (sY how o) R
structure aeK (ts:List Tg) (S0:List Nat) (pre:List Rw) (r:Rw):Prop where
 no:r.k∉S0
 by_:∃o t,r.o=some o/\o∈dH pre/\iU ts o t/\((r.how="held"/\r.k∈eR t)\/(r.how="pair"/\∃m,fU t=some m/\m∈dH pre/\r.k∈valN t))
structure RM (ts:List Tg) (S0:List Nat) (R:List Rw) (wl:Nat->List Nat) (n:Nat):Prop where
 nd:(dH R).Nodup
 Yu:R.take S0.length=S0.map λs=>(⟨s,"begin",none⟩:Rw)
 bl:S0.length<=R.length
 jus:∀(i:Nat) r,S0.length<=i->R[i]?=some r->aeK ts S0 (R.take i) r
 lst:∀r∈R,sW ts S0 r.k
 hld:∀(i:Nat) r t,i < n->R[i]?=some r->iU ts r.k t->∀j∈eR t,j∈dH R
 wai:∀(i:Nat) r t m,i < n->R[i]?=some r->iU ts r.k t->fU t=some m->(∀j∈valN t,j∈dH R)\/(m∉dH (R.take n)/\r.k∈wl m)
 wlo:∀m s,s∈wl m->s∈dH R/\∃t,iU ts s t/\fU t=some m
 le:n<=R.length
theorem RM.sub {ts:List Tg}{S0:List Nat}{R:List Rw}{wl:Nat->List Nat}{n:Nat}(h:RM ts S0 R wl n):∀k∈S0,k∈dH R:=λk hk=>by
 have:k∈dH (R.take S0.length):=by
  rw [h.Yu];unfold dH;rw [List.map_map];exact mem_map.mpr ⟨k,hk,rfl⟩
 unfold dH at this ⊢;obtain⟨r,hr,e⟩:=mem_map.mp this;exact mem_map.mpr ⟨r,List.mem_of_mem_take hr,e⟩
theorem RM.start {ts:List Tg}{S0:List Nat}(nd:S0.Nodup):RM ts S0 (S0.map λs=>(⟨s,"begin",none⟩:Rw)) (λ_=>[]) 0:=by
 have es:dH (S0.map λs=>(⟨s,"begin",none⟩:Rw))=S0:=by
  unfold dH;rw [List.map_map];exact List.map_id' _
 refine⟨by rw [es]; exact nd,by rw [List.take_of_length_le (by rw [length_map]; exact Nat.le_refl _)],by rw [length_map]; exact Nat.le_refl _,λi r h1 h2=>?_,λr hr=>?_,(λi r t h=>absurd h (Nat.not_lt_zero _)),(λi r t m h=>absurd h (Nat.not_lt_zero _)),(λm s h=>nomatch h),Nat.zero_le _⟩
 ·have:=(List.getElem?_eq_some_iff.mp h2).1;rw [length_map] at this;omega
 ·obtain⟨s,hs,rfl⟩:=mem_map.mp hr;exact .Yu hs
noncomputable def May (ts:List Tg) (R:List Rw) (how:Str) (o k:Nat):Prop:=o∈dH R/\∃t,iU ts o t/\((how="held"/\k∈eR t)\/(how="pair"/\∃m,fU t=some m/\m∈dH R/\k∈valN t))
theorem eX {R R':List Rw}(h:R <+: R') {k:Nat}(hk:k∈dH R):k∈dH R':=by
 obtain⟨m,rfl⟩:=h;unfold dH at hk ⊢;rw [map_append];exact mem_append_left _ hk
theorem May.up {ts:List Tg}{R R':List Rw}{how:Str}{o k:Nat}(h:May ts R how o k) (p:R <+: R'):May ts R' how o k:=by
 obtain⟨h1,t,h2,h3⟩:=h;refine⟨eX p h1,t,h2,?_⟩;rcases h3 with h3 | ⟨e,m,h4,h5,h6⟩
 ·exact .inl h3
 ·exact .inr ⟨e,m,h4,eX p h5,h6⟩
theorem RM.add {ts:List Tg}{S0:List Nat}{R:List Rw}{wl:Nat->List Nat}{n:Nat}(h:RM ts S0 R wl n) {how:Str}{o k:Nat}(m:May ts R how o k):RM ts S0 (sY how o R k) wl n:=by
 unfold sY
 by_cases hk:k∈dH R
 ·rw [if_pos hk];exact h
 ·rw [if_neg hk];have up:∀j,j∈dH R->j∈dH (R++[⟨k,how,some o⟩]):=λj hj=>by rw [g_]; exact mem_append_left _ hj
  have at_:∀(i:Nat) r,i < n->(R++[⟨k,how,some o⟩])[i]?=some r->R[i]?=some r:=λi r hi e=>by
   rw [getElem?_append_left (by have:=h.le; omega)] at e;exact e
  have lk:sW ts S0 k:=by
   obtain⟨h1,t,h2,h3⟩:=m;have c:=sW.clo ts S0;have mem:∀j,j∈dH R->sW ts S0 j:=λj hj=>by
    obtain⟨r,hr,rfl⟩:=mem_map.mp hj;exact h.lst r hr
   rcases h3 with ⟨_,h4⟩ | ⟨_,m,h4,h5,h6⟩
   ·exact c.held o t h2 (mem o h1) k h4
   ·exact c.pair o t m h2 (mem o h1) h4 (mem m h5) k h6
  refine⟨?_,?_,?_,λi r h1 h2=>?_,λr hr=>?_,λi r t hi e ht j hj=>up j (h.hld i r t hi (at_ i r hi e) ht j hj),λi r t q hi e ht hq=>?_,λq s hs=>⟨up s (h.wlo q s hs).1,(h.wlo q s hs).2⟩,by rw [length_append]; have:=h.le; omega⟩
  ·rw [g_];refine nodup_append.mpr ⟨h.nd,by simp,λx hx y hy e=>?_⟩;rw [mem_singleton.mp hy] at e;have e2:x=k:=e;exact hk (e2▸hx)
  ·rw [List.take_append_of_le_length h.bl];exact h.Yu
  ·rw [length_append];have:=h.bl;omega
  ·by_cases hi:i < R.length
   ·rw [getElem?_append_left hi] at h2;rw [List.take_append_of_le_length (Nat.le_of_lt hi)];exact h.jus i r h1 h2
   ·have e:i=R.length:=by
     have:=(List.getElem?_eq_some_iff.mp h2).1;rw [length_append,length_singleton] at this;omega
    subst e;rw [getElem?_append_right (Nat.le_refl _),Nat.sub_self] at h2;cases h2;rw [List.take_append_of_le_length (Nat.le_refl _),take_length];refine⟨λz=>hk (h.sub k z),?_⟩;obtain⟨h1,t,h2,h3⟩:=m;exact⟨o,t,rfl,h1,h2,h3⟩
  ·rcases mem_append.mp hr with hr | hr
   ·exact h.lst r hr
   ·rw [mem_singleton.mp hr];exact lk
  ·rw [List.take_append_of_le_length h.le];rcases h.wai i r t q hi (at_ i r hi e) ht hq with z | z
   ·exact .inl λj hj=>up j (z j hj)
   ·exact .inr z
theorem Cy (how:Str) (o:Nat) (R:List Rw) (k:Nat):R <+: sY how o R k:=by
 unfold sY;split
 ·exact List.prefix_refl _
 ·exact List.prefix_append _ _
theorem NO (how:Str) (o:Nat) (R:List Rw) (k:Nat):k∈dH (sY how o R k):=by
 unfold sY;split
 ·assumption
 ·rw [g_];exact mem_append_right _ (mem_singleton.mpr rfl)
theorem gg (how:Str) (o:Nat):∀(N:List Nat) (R:List Rw),R <+: dO R N how o
 | [],R=>List.prefix_refl _
 | k::N,R=>(Cy how o R k).trans (gg how o N _)
theorem jj (how:Str) (o:Nat):∀(N:List Nat) (R:List Rw) (k:Nat),k∈N->k∈dH (dO R N how o)
 | j::N,R,k,h=>by
  rcases mem_cons.mp h with rfl | h
  ·exact eX (gg how o N _) (NO how o R k)
  ·exact jj how o N _ k h
theorem RM.bring {ts:List Tg}{S0:List Nat}{wl:Nat->List Nat}{n:Nat}{how:Str}{o:Nat}:∀(N:List Nat) {R:List Rw},RM ts S0 R wl n->(∀k∈N,May ts R how o k)->RM ts S0 (dO R N how o) wl n
 | [],_,h,_=>h
 | k::N,R,h,m=>RM.bring N (h.add (m k mem_cons_self)) λj hj=>(m j (mem_cons_of_mem _ hj)).up (Cy how o R k)
theorem RM.done {ts:List Tg}{S0:List Nat}{R:List Rw}{wl:Nat->List Nat}(h:RM ts S0 R wl R.length) {x:Nat}:x∈dH R↔sW ts S0 x:=by
 constructor
 ·intro hx;obtain⟨r,hr,rfl⟩:=mem_map.mp hx;exact h.lst r hr
 ·intro hx;refine hx (·∈dH R) ⟨λk t ht hk j hj=>?_,λk t m ht hk e hm j hj=>?_⟩ h.sub
  ·obtain⟨r,hr,rfl⟩:=mem_map.mp hk;obtain⟨i,hi⟩:=mem_iff_getElem?.mp hr;exact h.hld i r t (List.getElem?_eq_some_iff.mp hi).1 hi ht j hj
  ·obtain⟨r,hr,rfl⟩:=mem_map.mp hk;obtain⟨i,hi⟩:=mem_iff_getElem?.mp hr;rcases h.wai i r t m (List.getElem?_eq_some_iff.mp hi).1 hi ht e with z | ⟨z,_⟩
   ·exact z j hj
   ·rw [take_length] at z;exact absurd hm z
structure RA where
 p:Addr
 bs:Addr
 ro:Addr
 mb:Addr
 wt:Addr
noncomputable def NP (A:RA):List (Str×V):=b_ "waiting" (.ref A.wt) (b_ "members" (.ref A.mb) (b_ "rows" (.ref A.ro) (b_ "by_serial" (.ref A.bs) [])))
theorem aeL:¬(("by_serial":Str)="rows"):=by decide +kernel
theorem aeM:¬(("by_serial":Str)="members"):=by decide +kernel
theorem aeN:¬(("by_serial":Str)="waiting"):=by decide +kernel
theorem abE:¬(("rows":Str)="members"):=by decide +kernel
theorem abF:¬(("rows":Str)="waiting"):=by decide +kernel
theorem aeO:¬(("members":Str)="waiting"):=by decide +kernel
theorem NQ (A:RA):(NP A).lookup ("by_serial":Str)=some (.ref A.bs):=by
 unfold NP;rw [aO,if_neg aeN,aO,if_neg aeM,aO,if_neg aeL,aO,if_pos rfl]
theorem w_ (A:RA):(NP A).lookup ("rows":Str)=some (.ref A.ro):=by
 unfold NP;rw [aO,if_neg abF,aO,if_neg abE,aO,if_pos rfl]
theorem NR (A:RA):(NP A).lookup ("members":Str)=some (.ref A.mb):=by
 unfold NP;rw [aO,if_neg aeO,aO,if_pos rfl]
theorem NS (A:RA):(NP A).lookup ("waiting":Str)=some (.ref A.wt):=by
 unfold NP;rw [aO,if_pos rfl]
theorem nX {A:RA}{n:Str}(h1:¬n="waiting":=by decide +kernel) (h2:¬n="members":=by decide +kernel) (h3:¬n="rows":=by decide +kernel) (h4:¬n="by_serial":=by decide +kernel):(NP A).lookup n=none:=by
 unfold NP;rw [aO,if_neg h1,aO,if_neg h2,aO,if_neg h3,aO,if_neg h4];rfl
noncomputable def Rw.items (r:Rw):List V:=[.int (r.k:Nat),.str r.how,oN r.o]
noncomputable def RwL (H:Hp) (l:Addr) (R:List Rw):Prop:=∃xs:List Addr,H l=some (.lst (xs.map V.ref))/\xs.length=R.length/\∀(i:Nat) x r,xs[i]?=some x->R[i]?=some r->H x=some (.tup r.items)
structure RS (a:eI) (K:Frag) (H0 H:Hp) (A:RA) (ts:List Tg) (R:List Rw) (kvs:List (Key×V)) (wl:Nat->List Nat) (n:Nat):Prop where
 ob:∃dx,H A.p=some (.ins a.aZ dx (NP A))
 sm:ak H0 H
 tb:pM K H0 A.bs ts
 ok:wU ts
 bO:ts.length<=63
 rs:RwL H A.ro R
 rn:(dH R).Nodup
 rl:∀k∈dH R,1<=k/\k<=ts.length
 mb:mJ H A.mb (dH R)
 wt:H A.wt=some (.dK kvs)
 wk:∀k u,bz kvs k=some u->∃(m:Nat) (b:Addr),k=Sum.inl (m:Int)/\u=.ref b/\H b=some (.lst (aE (wl m)))/\H0 b=none/\b≠A.ro
 wn:∀m:Nat,bz kvs (Sum.inl (m:Int))=none->wl m=[]
 wi:∀k k' b,bz kvs k=some (.ref b)->bz kvs k'=some (.ref b)->k=k'
 wc:kvs.length<=n/\(∀m,(wl m).length<=n)/\n<=100
 fr:H0 A.ro=none
 fm:H0 A.mb=none
 fw:H0 A.wt=none
 ne:A.mb≠A.wt
section
variable {H0 H H':Hp}{A:RA}{ts:List Tg}{R:List Rw}{kvs:List (Key×V)}{wl:Nat->List Nat}{n:Nat}
theorem RS.len (h:RS a K H0 H A ts R kvs wl n):R.length<=63:=by
 have h1:=gW (m:=da ts.length) h.rn λk hk=>dG.mpr (h.rl k hk)
 unfold dH da at h1;rw [length_map,length_map,length_range] at h1;have:=h.bO;omega
theorem RS.same (h:RS a K H0 H A ts R kvs wl n) (k:ak H H'):RS a K H0 H' A ts R kvs wl n:=by
 obtain⟨dx,h1⟩:=h.ob;obtain⟨xs,h2,h3,h4⟩:=h.rs;exact⟨⟨dx,k _ _ h1⟩,h.sm.trans k,h.tb,h.ok,h.bO,⟨xs,k _ _ h2,h3,λi x r a b=>k _ _ (h4 i x r a b)⟩,h.rn,h.rl,k _ _ h.mb,k _ _ h.wt,λq u e=>by
  obtain⟨m,b,e1,e2,e3,e4⟩:=h.wk q u e;exact⟨m,b,e1,e2,k _ _ e3,e4⟩,h.wn,h.wi,h.wc,h.fr,h.fm,h.fw,h.ne⟩
theorem RS.tb2 (h:RS a K H0 H A ts R kvs wl n):pM K H A.bs ts:=h.tb.same h.sm
theorem RS.add (h:RS a K H0 H A ts R kvs wl n) {k:Nat}(hk:k∉dH R) (hle:1<=k/\k<=ts.length) {how:Str}{o:Nat}{xs:List Addr}{t:Addr}(R5:H A.ro=some (.lst (xs.map V.ref))) (Q2:xs.length=R.length) (hxr:∀(i:Nat) x r,xs[i]?=some x->R[i]?=some r->H x=some (.tup r.items)) (ht:upd H A.mb (.dK (putK (eB (dH R)) (Sum.inl (k:Int)) (.bl true))) t=none) :
  RS a K H0 (upd (upd (upd H A.mb (.dK (putK (eB (dH R)) (Sum.inl (k:Int)) (.bl true)))) t (.tup [.int (k:Nat),.str how,.int (o:Nat)])) A.ro (.lst (xs.map V.ref++[.ref t]))) A ts (R++[⟨k,how,some o⟩]) kvs wl n /\
  ∀b u,b≠A.ro->b≠A.mb->H b=some u->upd (upd (upd H A.mb (.dK (putK (eB (dH R)) (Sum.inl (k:Int)) (.bl true)))) t (.tup [.int (k:Nat),.str how,.int (o:Nat)])) A.ro (.lst (xs.map V.ref++[.ref t])) b=some u:=by
 have hm:H A.mb=some (.dK (eB (dH R))):=h.mb;have nmr:A.mb≠A.ro:=λe=>by rw [e,R5] at hm; cases hm
 have ntm:t≠A.mb:=λe=>by rw [e,ae] at ht; cases ht
 have ht0:H t=none:=by rw [au ntm] at ht; exact ht
 have ntr:t≠A.ro:=λe=>by rw [e,R5] at ht0; cases ht0
 have kp:∀b u,b≠A.ro->b≠A.mb->H b=some u->upd (upd (upd H A.mb (.dK (putK (eB (dH R)) (Sum.inl (k:Int)) (.bl true)))) t (.tup [.int (k:Nat),.str how,.int (o:Nat)])) A.ro (.lst (xs.map V.ref++[.ref t])) b=some u:=λb u b1 b2 e=>by
  rw [au b1,au (aC e ht0),au b2];exact e
 obtain⟨dx,h1⟩:=h.ob;have ep:putK (eB (dH R)) (Sum.inl (k:Int)) (.bl true)=eB (dH R++[k]):=by
  rw [jO _ (by rw [mI,if_neg hk])];unfold eB;rw [map_append];rfl
 refine⟨⟨⟨dx,kp _ _ (λe=>by rw [e,R5] at h1; cases h1) (λe=>by rw [e,hm] at h1; cases h1) h1⟩,.putD (.putD (.putD h.sm h.fm) (h.sm.free ht0)) h.fr,h.tb,h.ok,h.bO,⟨xs++[t],by rw [ae,map_append]; rfl,by rw [length_append,length_append,Q2]; rfl,λi x r hx hr=>?_⟩,?_,λj hj=>?_,?_,kp _ _ (λe=>by have:=h.wt; rw [e,R5] at this; cases this) h.ne.symm h.wt,λq u e=>?_,h.wn,h.wi,h.wc,h.fr,h.fm,h.fw,h.ne⟩,kp⟩
 ·by_cases hi:i < xs.length
  ·rw [getElem?_append_left hi] at hx;rw [getElem?_append_left (by rw [<-Q2]; exact hi)] at hr;have e:=hxr i x r hx hr;exact kp _ _ (λz=>by rw [z,R5] at e; cases e) (λz=>by rw [z,hm] at e; cases e) e
  ·have e:i=xs.length:=by
    have:=(List.getElem?_eq_some_iff.mp hx).1;rw [length_append,length_singleton] at this;omega
   subst e;rw [getElem?_append_right (Nat.le_refl _),Nat.sub_self] at hx;rw [Q2,getElem?_append_right (Nat.le_refl _),Nat.sub_self] at hr;cases hx;cases hr;rw [au ntr,ae];rfl
 ·rw [g_];refine nodup_append.mpr ⟨h.rn,by simp,λx hx y hy e=>?_⟩;rw [mem_singleton.mp hy] at e;have e2:x=k:=e;exact hk (e2▸hx)
 ·rw [g_] at hj;rcases mem_append.mp hj with hj | hj
  ·exact h.rl j hj
  ·rw [mem_singleton.mp hj];exact hle
 ·unfold mJ;rw [au nmr,au ntm.symm,ae,ep,g_]
 ·obtain⟨m,b,e1,e2,e3,e4,e5⟩:=h.wk q u e;exact⟨m,b,e1,e2,kp _ _ e5 (λz=>by rw [z,hm] at e3; cases e3) e3,e4,e5⟩
end
inductive Cz (a:eI) (K:Frag) (vs:List V) (H:Hp) (Q:VK) (E:XK):Prop
 | mk (H0 A ts R kvs wl n:_) (l:Addr) (N:List Nat) (how:Str) (o:Nat) (_:vs=[.ref A.p,.ref l,.str how,.int (o:Nat)]) (_:RS a K H0 H A ts R kvs wl n) (_:H l=some (.lst (aE N))) (_:l≠A.ro) (_:∀k∈N,1<=k/\k<=ts.length) (_:∀H',RS a K H0 H' A ts (dO R N how o) kvs wl n->(∀b u,b≠A.ro->b≠A.mb->H b=some u->H' b=some u)->Q .bN H'):Cz a K vs H Q E
noncomputable def IBr (a:eI) (K:Frag) (H0:Hp) (A:RA) (ts:List Tg) (R:List Rw) (kvs:List (Key×V)) (wl:Nat->List Nat) (n:Nat) (l:Addr) (N:List Nat) (how:Str) (o:Nat) (H1:Hp) (i:Nat) (σ:St) (H:Hp):Prop:=(∃v4,σ=[some (.ref A.p),some (.ref l),some (.str how),some (.int (o:Nat)),v4])/\RS a K H0 H A ts (dO R (N.take i) how o) kvs wl n/\∀b u,b≠A.ro->b≠A.mb->H1 b=some u->H b=some u
theorem NT (T:Txt K mg a):aU P w K mg base cU 1 a.zK a.zL ["self","names","how","other"] (Cz a K):=by
 refine T.Gw.ok Mc (λvs H Q E h=>?_) (λbY A outer s H vs Q E hr h=>?_)
 ·obtain⟨_,_,_,_,_,_,_,_,_,_,_,rfl,_⟩:=h;rfl
 ·obtain⟨H0,A,ts,R,kvs,wl,n,l,N,how,o,rfl,h,hl,nl,hN,q⟩:=h;refine⟨_,(ah (cp PassesOwn.never rfl (bQ (pv 1)) (a_ (i:=4) Mc.nd rfl (Or.inl rfl)) ao)),?_⟩;dsimp! [];have nlm:l≠A.mb:=λe=>by
   have:=h.mb;unfold mJ at this;rw [<-e,hl] at this;cases this
  refine⟨⟨_,ba.of hl⟩,cV (aE N) (IBr a K H0 A ts R kvs wl n l N how o H) ⟨⟨_,rfl⟩,h,λ_ _ _ _ e=>e⟩ (λi σ' H' _ hh=>ba.of (hh.2.2 _ _ nl nlm hl)) (λi x σ' H2 hx hh=>?_) λσ' H2 hh=>?_⟩
  ·obtain⟨k,hk,rfl⟩:=cu hx;obtain⟨⟨v4,rfl⟩,h2,k2⟩:=hh;refine gN ?_;refine aJ.of (ah (bh (Ds (nH (bB hr) (pv 4) (bM (pv 0) rfl))) (ag (cH (bB hr) (bM (pv 0) rfl) (pv 4) gj rfl) (ah (aY (mf PySem.F.plainAttrs_list PySem.F.slot_list_append PySem.F.type_list_append fc (bM (pv 0) rfl) (aa (bo (aa (pv 4) (aa (pv 2) (aa (pv 3) af)))) af))))) aL)) ?_;obtain⟨dx,h1⟩:=h2.ob;dsimp! [h1,HO.ins.injEq,T.bD,T.cZ,NR];have sX:dO R (N.take (i+1)) how o=sY how o (dO R (N.take i) how o) k:=by
    unfold dO;rw [take_add_one,hk,List.foldl_append];rfl
   generalize dO R (N.take i) how o=R1 at h2 sX;have hRl:=h2.len;refine⟨_,h2.mb.ask k,?_⟩;rw [mK]
   by_cases yQ:k∈dH R1
   ·rw [decide_eq_true yQ];refine ee ⟨⟨_,rfl⟩,?_,k2⟩;rw [sX];unfold sY;rw [if_pos yQ];exact h2
   ·rw [decide_eq_false yQ];obtain⟨xs,mZ,IK,NU⟩:=h2.rs;have sL:H2 A.mb=some (.dK (eB (dH R1))):=h2.mb;have np:A.p≠A.mb:=λe=>by rw [e,sL] at h1; cases h1
    have nmr:A.ro≠A.mb:=λe=>by rw [e,sL] at mZ; cases mZ
    have lm:(eB (dH R1)).length<=63:=by
     rw [fV];unfold dH;rw [length_map];exact hRl
    refine jK ⟨_,gE.k (k:=Sum.inl (k:Int)) sL (aG (by omega)),_,dx,_,by rw [au np]; exact h1,T.bD,T.cN,_,w_ A,.inl ⟨rfl,_,ba.of (by rw [au nmr]; exact mZ)⟩,by decide,λt ht=>?_⟩;obtain⟨h3,k3⟩:=h2.add (how:=how) (o:=o) yQ (hN k (mem_of_getElem? hk)) mZ IK NU ht;have ntr:A.ro≠t:=aC (by rw [au nmr]; exact mZ) ht;refine⟨A.ro,_,_,rfl,rfl,by rw [au ntr,au nmr]; exact mZ,aG (by rw [length_map]; omega),⟨_,rfl⟩,?_,λb u b1 b2 e=>k3 b u b1 b2 (k2 b u b1 b2 e)⟩;rw [sX];unfold sY;rw [if_neg yQ];exact h3
  ·obtain⟨⟨v4,rfl⟩,h2,k2⟩:=hh;rw [aI,take_length] at h2;exact q H2 h2 k2
theorem RM.next {ts:List Tg}{S0:List Nat}{R:List Rw}{wl NV:Nat->List Nat}{n:Nat}(h:RM ts S0 R wl n) {r:Rw}{t:Tg}(hr:R[n]?=some r) (ht:iU ts r.k t) (hh:∀j∈eR t,j∈dH R) (sU:∀m s,s∈wl m->s∈NV m) (nB:∀m s,s∈NV m->s∈wl m\/(s=r.k/\fU t=some m))
  (Ip:∀m,fU t=some m->(∀j∈valN t,j∈dH R)\/(m∉dH (R.take (n+1))/\r.k∈NV m)) (abG:∀s u,s∈wl r.k->iU ts s u->∀j∈valN u,j∈dH R):RM ts S0 R NV (n+1):=by
 have hU:=(List.getElem?_eq_some_iff.mp hr).1;refine⟨h.nd,h.Yu,h.bl,h.jus,h.lst,λi q u hi e hu=>?_,λi q u m hi e hu hm=>?_,λm s hs=>?_,hU⟩
 ·rcases Nat.lt_or_eq_of_le (Nat.le_of_lt_succ hi)with z | z
  ·exact h.hld i q u z e hu
  ·subst z;rw [hr] at e;cases e
   cases ht.one hu
   exact hh
 ·rcases Nat.lt_or_eq_of_le (Nat.le_of_lt_succ hi)with z | z
  ·rcases h.wai i q u m z e hu hm with y | ⟨y1,y2⟩
   ·exact .inl y
   ·by_cases c:m=r.k
    ·rw [c] at y2;exact .inl (abG _ u y2 hu)
    ·refine .inr ⟨λw=>?_,sU m _ y2⟩;rw [take_add_one,hr] at w;have w2:m∈dH (R.take n++[r]):=w;rw [g_] at w2;rcases mem_append.mp w2 with w2 | w2
     ·exact y1 w2
     ·exact c (mem_singleton.mp w2)
  ·subst z;rw [hr] at e;cases e
   cases ht.one hu
   exact Ip m hm
 ·rcases nB m s hs with z | ⟨rfl,z⟩
  ·exact h.wlo m s z
  ·exact⟨mem_map.mpr ⟨r,mem_of_getElem? hr,rfl⟩,t,ht,z⟩
inductive jZ (a:eI) (K:Frag) (vs:List V) (H:Hp) (Q:VK) (E:XK):Prop
 | mk (H0 A ts R kvs wl n:_) (s:Nat) (k v:Vl) (_:vs=[.ref A.p,.int (s:Nat)]) (_:RS a K H0 H A ts R kvs wl n) (_:iU ts s (.pair k v)) (_:∀H',RS a K H0 H' A ts (dO R (valN (.pair k v)) "pair" s) kvs wl n->(∀b u,b≠A.ro->b≠A.mb->H b=some u->H' b=some u)->Q .bN H'):jZ a K vs H Q E
theorem NW (T:Txt K mg a):aU P w K mg base cU 5 a.zM a.zN ["self","serial"] (jZ a K):=by
 refine T.Gx.ok VH (λvs H Q E h=>?_) (λbY A outer s H vs Q E hr h=>?_)
 ·obtain⟨_,_,_,_,_,_,_,_,_,_,rfl,_⟩:=h;rfl
 ·obtain⟨H0,A,ts,R,kvs,wl,n,s,k,v,rfl,h,hs,q⟩:=h;refine⟨_,(ah (aY (aS (pv 0) T.bD T.MJ (NT T) hr.dm T.Rq .nil aw (aa (aD (Xg T) hr.dm rfl T.Z3 T.BQ.kp T.Z2 .nil aw (aa (cf (bB hr) (bM (pv 0) rfl) (pv 1) (λ_ _=>rfl)) af)) (aa az (aa (pv 1) af)))))),?_⟩;obtain⟨dx,h1⟩:=h.ob;have f1:=nX (A:=A) (n:="bring");dsimp! [h1,HO.ins.injEq,T.bD,T.cL,NQ,f1];obtain⟨p,lf,hp,hg⟩:=h.tb2.get hs;obtain⟨xs,mZ,_,_⟩:=h.rs;refine⟨_,hg,p,lf,k,v,ts.length,rfl,hp,h.ok _ hs.mem v (mem_cons_of_mem _ mem_cons_self),λr H1 s1 yi Im=>⟨H0,A,ts,R,kvs,wl,n,r,_,_,s,rfl,h.same s1,Im,(aC mZ yi).symm,λj hj=>h.ok.val hs.mem hj,λH' h' k'=>q H' h' λb u b1 b2 e=>k' b u b1 b2 (s1 _ _ e)⟩⟩
theorem RS.wait {H0 H H':Hp}{A:RA}{ts:List Tg}{R:List Rw}{kvs jh:List (Key×V)}{wl:Nat->List Nat}{n:Nat}(h:RS a K H0 H A ts R kvs wl n) (hn:n < 100) {m s:Nat}{b:Addr}(sm:ak H0 H') (kp:∀c u,c≠b->c≠A.wt->H c=some u->H' c=some u) (hbw:b≠A.ro) (hbl:H b=none\/∃ys,H b=some (.lst ys)) (Xh:H0 b=none) (hb:H' b=some (.lst (aE (wl m++[s])))) (hw:H' A.wt=some (.dK jh))
  (e1:bz jh (Sum.inl (m:Int))=some (.ref b)) (e2:∀k,k≠Sum.inl (m:Int)->bz jh k=bz kvs k) (e3:∀k,bz kvs k=some (.ref b)->k=Sum.inl (m:Int)) (e4:jh.length<=n+1) :
  RS a K H0 H' A ts R jh (λj=>if j=m then wl m++[s] else wl j) (n+1):=by
 obtain⟨dx,h1⟩:=h.ob;obtain⟨xs,h2,h3,h4⟩:=h.rs;have hm:H A.mb=some (.dK (eB (dH R))):=h.mb;have Qg:=h.wt;have nb:∀c u,H c=some u->(∀ys,u≠.lst ys)->c≠b:=λc u e no z=>by
  rw [z] at e;rcases hbl with y | ⟨ys,y⟩
  ·rw [y] at e;cases e
  ·rw [y] at e;cases e;exact no ys rfl
 have nr:A.ro≠A.wt:=λz=>by rw [z,Qg] at h2; cases h2
 refine⟨⟨dx,kp _ _ (nb _ _ h1 λys z=>by cases z) (λz=>by rw [z,Qg] at h1; cases h1) h1⟩,sm,h.tb,h.ok,h.bO,⟨xs,kp _ _ hbw.symm nr h2,h3,λi x r c d=>?_⟩,h.rn,h.rl,kp _ _ (nb _ _ hm λys z=>by cases z) h.ne hm,hw,λk u e=>?_,λj e=>?_,λk k' c c1 c2=>?_,⟨e4,λj=>?_,by omega⟩,h.fr,h.fm,h.fw,h.ne⟩
 ·have e:=h4 i x r c d;exact kp _ _ (nb _ _ e λys z=>by cases z) (λz=>by rw [z,Qg] at e; cases e) e
 ·by_cases z:k=Sum.inl (m:Int)
  ·rw [z,e1] at e;cases e;exact⟨m,b,z,rfl,by rw [if_pos rfl]; exact hb,Xh,hbw⟩
  ·rw [e2 k z] at e;obtain⟨j,c,f1,f2,f3,f4,f5⟩:=h.wk k u e;have njm:j≠m:=λy=>z (by rw [f1,y])
   refine⟨j,c,f1,f2,?_,f4,f5⟩;rw [if_neg njm];refine kp _ _ (λy=>?_) (λy=>by rw [y,Qg] at f3; cases f3) f3;rw [f2,y] at e;exact z (e3 k e)
 ·by_cases z:j=m
  ·rw [z,e1] at e;cases e
  ·rw [if_neg z];rw [e2 _ λy=>z (by have:(j:Int)=(m:Int):=Sum.inl.inj y; omega)] at e;exact h.wn j e
 ·by_cases z:k=Sum.inl (m:Int)
  ·by_cases z':k'=Sum.inl (m:Int)
   ·rw [z,z']
   ·rw [z,e1] at c1;cases c1;rw [e2 k' z'] at c2;exact absurd (e3 k' c2) z'
  ·by_cases z':k'=Sum.inl (m:Int)
   ·rw [z',e1] at c2;cases c2;rw [e2 k z] at c1;exact absurd (e3 k c1) z
   ·rw [e2 k z] at c1;rw [e2 k' z'] at c2;exact h.wi k k' c c1 c2
 ·have:=h.wc.2.1 j;have h2:=h.wc.2.1 m;show(if j=m then wl m++[s] else wl j).length<=n+1;split
  ·rw [length_append,length_singleton];omega
  ·omega
theorem RS.up {H0 H:Hp}{A:RA}{ts:List Tg}{R:List Rw}{kvs:List (Key×V)}{wl:Nat->List Nat}{n:Nat}(h:RS a K H0 H A ts R kvs wl n) (hn:n < 100):RS a K H0 H A ts R kvs wl (n+1):=
 ⟨h.ob,h.sm,h.tb,h.ok,h.bO,h.rs,h.rn,h.rl,h.mb,h.wt,h.wk,h.wn,h.wi,⟨Nat.le_succ_of_le h.wc.1,λm=>Nat.le_succ_of_le (h.wc.2.1 m),by omega⟩,h.fr,h.fm,h.fw,h.ne⟩
theorem Xj {R R':List Rw}(h:R <+: R') {i:Nat}{r:Rw}(e:R[i]?=some r):R'[i]?=some r:=by
 obtain⟨m,rfl⟩:=h;rw [getElem?_append_left (List.getElem?_eq_some_iff.mp e).1];exact e
theorem pre_take {R R':List Rw}(h:R <+: R') {i:Nat}(hi:i<=R.length):R'.take i=R.take i:=by
 obtain⟨m,rfl⟩:=h;rw [List.take_append_of_le_length hi]
noncomputable def valOf (ts:List Tg) (o:Nat):List Nat:=match ts[o - 1]? with
 | some t=>valN t
 | none=>[]
theorem rE {ts:List Tg}{o:Nat}{t:Tg}(h:iU ts o t):valOf ts o=valN t:=by
 obtain⟨i,rfl,e⟩:=h;unfold valOf;rw [Nat.add_sub_cancel,e]
noncomputable def iP (ts:List Tg) (R:List Rw) (os:List Nat):List Rw:=os.foldl (λR o=>dO R (valOf ts o) "pair" o) R
theorem nY (ts:List Tg):∀(os:List Nat) (R:List Rw),R <+: iP ts R os
 | [],_=>List.prefix_refl _
 | o::os,R=>(gg "pair" o (valOf ts o) R).trans (nY ts os _)
theorem vg (ts:List Tg):∀(os:List Nat) (R:List Rw) (o:Nat),o∈os->∀j∈valOf ts o,j∈dH (iP ts R os)
 | p::os,R,o,h,j,hj=>by
  rcases mem_cons.mp h with rfl | h
  ·exact eX (nY ts os _) (jj "pair" o _ R j hj)
  ·exact vg ts os _ o h j hj
theorem RM.iP {ts:List Tg}{S0:List Nat}{wl:Nat->List Nat}{n s:Nat}:∀(os:List Nat) {R:List Rw},RM ts S0 R wl n->s∈dH R->(∀o∈os,o∈dH R/\∃t,iU ts o t/\fU t=some s)->RM ts S0 (iP ts R os) wl n
 | [],_,h,_,_=>h
 | o::os,R,h,hs,ho=>by
  have h1:RM ts S0 (dO R (valOf ts o) "pair" o) wl n:=RM.bring _ h λk hk=>by
   obtain⟨a1,t,a2,a3⟩:=ho o mem_cons_self;rw [rE a2] at hk;exact⟨a1,t,a2,.inr ⟨rfl,s,a3,hs,hk⟩⟩
  have p:=gg "pair" o (valOf ts o) R;exact RM.iP os h1 (eX p hs) λo' Dg=>⟨eX p (ho o' (mem_cons_of_mem _ Dg)).1,(ho o' (mem_cons_of_mem _ Dg)).2⟩
inductive CA (a:eI) (K:Frag) (vs:List V) (H:Hp) (Q:VK) (E:XK):Prop
 | mk (H0 A ts S0 R kvs wl n:_) (r:Rw) (_:vs=[.ref A.p,.int (r.k:Nat)]) (_:RS a K H0 H A ts R kvs wl n) (_:RM ts S0 R wl n) (_:R[n]?=some r) (_:∀H' R' jh NV,RS a K H0 H' A ts R' jh NV (n+1)->RM ts S0 R' NV (n+1)->Q .bN H'):CA a K vs H Q E
noncomputable def JGo (a:eI) (K:Frag) (H0:Hp) (A:RA) (ts:List Tg) (S0:List Nat) (R1:List Rw) (wl:Nat->List Nat) (n:Nat) (r:Rw) (t:Tg) (p:Addr) (σ:St) (H:Hp):Prop:=σ=[some (.ref A.p),some (.int (r.k:Nat)),some (.ref p),some (oN (fU t)),none]/\∃R2 rF sZ,RS a K H0 H A ts R2 rF sZ (n+1)/\RM ts S0 R2 wl n/\R1 <+: R2/\(∀m s,s∈wl m->s∈sZ m)/\(∀m s,s∈sZ m->s∈wl m\/(s=r.k/\fU t=some m/\m∉dH R1))/\∀m,fU t=some m->(∀j∈valN t,j∈dH R2)\/(m∉dH R1/\r.k∈sZ m)
noncomputable def IGo (a:eI) (K:Frag) (H0:Hp) (A:RA) (ts:List Tg) (R2:List Rw) (rF:List (Key×V)) (sZ:Nat->List Nat) (n:Nat) (r:Rw) (t:Tg) (p la:Addr) (i:Nat) (σ:St) (H:Hp):Prop:=(∃v4,σ=[some (.ref A.p),some (.int (r.k:Nat)),some (.ref p),some (oN (fU t)),v4])/\RS a K H0 H A ts (iP ts R2 ((sZ r.k).take i)) rF sZ (n+1)/\H la=some (.lst (aE (sZ r.k)))
theorem Xk (T:Txt K mg a):aU P w K mg base cU 6 a.zO a.zP ["self","serial"] (CA a K):=by
 refine T.Gy.ok vX (λvs H Q E h=>?_) (λbY A outer s H vs Q E hr h=>?_)
 ·obtain⟨_,_,_,_,_,_,_,_,_,rfl,_⟩:=h;rfl
 ·obtain⟨H0,A,ts,S0,R,kvs,wl,n,r,rfl,h,hm,Eo,q⟩:=h;refine⟨_,(ag (aN (i:=2) vX.nd rfl (Or.inl rfl) (cf (bB hr) (bM (pv 0) rfl) (pv 1) (λ_ _=>rfl))) ao),?_⟩;obtain⟨dx,h1⟩:=h.ob;dsimp! [h1,HO.ins.injEq,T.bD,T.cL,NQ];have hrm:r.k∈dH R:=mem_map.mpr ⟨r,mem_of_getElem? Eo,rfl⟩;obtain⟨t,ht⟩:=iU.of (h.rl r.k hrm);obtain⟨p,lf,hp,hg⟩:=h.tb.DM h.sm ht;obtain⟨xs,mZ,_,_⟩:=h.rs;refine⟨_,hg,?_⟩;refine aJ.of (ag (aY (aS (pv 0) T.bD T.MJ (NT T) hr.dm T.Rq .nil aw (aa (aD (Xe T) hr.dm rfl T.ZZ T.BO.kp T.ZY .nil aw (aa (pv 2) af)) (aa az (aa (pv 1) af))))) ao) ?_;have f1:=nX (A:=A) (n:="bring");dsimp! [h1,HO.ins.injEq,f1];refine⟨p,lf,t,ts.length,rfl,hp.same h.sm,h.ok t ht.mem,λl1 uq=>⟨H0,A,ts,R,kvs,wl,n,l1,eR t,_,r.k,rfl,h.same (ak.put uq),ae,(aC mZ uq).symm,λk hk=>h.ok.held ht.mem hk,λH3 h3 k3=>?_⟩⟩;have m3:RM ts S0 (dO R (eR t) "held" r.k) wl n:=RM.bring _ hm λk hk=>⟨hrm,t,ht,.inl ⟨rfl,hk⟩⟩
  have p3:R <+: dO R (eR t) "held" r.k:=gg _ _ _ _;have g3:∀j∈eR t,j∈dH (dO R (eR t) "held" r.k):=λj hj=>jj _ _ _ _ j hj
  generalize dO R (eR t) "held" r.k=R1 at h3 m3 p3 g3;clear k3 uq hg;refine aJ.of (ag (aN (i:=3) vX.nd rfl (Or.inl rfl) (aD (Xf T) hr.dm rfl T.Z1 T.BP.kp T.Z0 .nil aw (aa (pv 2) af))) ao) ?_;dsimp! [];refine⟨p,lf,t,ts.length,rfl,hp.same h3.sm,h.ok t ht.mem,?_⟩;refine aJ.of (ag kZ ao) ?_;dsimp! [];refine yJ (JGo a K H0 A ts S0 R1 wl n r t p) (yg.of (bh (Ds (P0 (bB hr) (pv 3) (bM (pv 0) rfl))) (ah (aY (aS (pv 0) T.bD T.MK (NW T) hr.dm T.Rr .nil aw (aa (pv 1) af)))) (ah (bh (aF lZ (pv 3) cz (aH _)) (ah (aY (mf PySem.F.plainAttrs_list PySem.F.slot_list_append PySem.F.type_list_append fc (mf PySem.F.plainAttrs_dict PySem.F.slot_dict_setdefault PySem.F.type_dict_setdefault HU (bM (pv 0) rfl) (aa (pv 3) (aa (bP af) af))) (aa (pv 1) af)))) aL))) ?_) ?_
  ·obtain⟨dx3,h13⟩:=h3.ob;have f2:=nX (A:=A) (n:="bring_value");dsimp! [h13,HO.ins.injEq,T.bD,T.cZ,T.c_,NR,NS,Rg,f2];have hU:=(List.getElem?_eq_some_iff.mp Eo).1;have hlen:=h.len;have hn:n < 100:=by omega
   have hb:=h3.mb.aeI (fU t);generalize eb:inS (fU t) (dH R1)=b at hb;refine⟨b,hb,?_⟩;have Qh:=eX p3 hrm
   cases b with
   | true=>
    cases ek:fU t with
    | none=>rw [ek] at eb; cases eb
    | some m=>
     rw [ek] at eb;have IQ:m∈dH R1:=of_decide_eq_true eb;obtain⟨kk,vv,rfl⟩:=vf ek;refine jK ⟨H0,A,ts,R1,kvs,wl,n,r.k,kk,vv,rfl,h3,ht,λH' h' k'=>⟨by rw [ek],_,kvs,wl,h'.up hn,RM.bring _ m3 (λk hk=>⟨Qh,_,ht,.inr ⟨rfl,m,ek,IQ,hk⟩⟩),gg _ _ _ _,(λ_ _ z=>z),(λ_ _ z=>.inl z),λ_ _=>.inl λj hj=>jj _ _ _ _ j hj⟩⟩
   | false=>
    refine ee ?_
    cases ek:fU t with
    | none=>exact bj (λz=>by simp [oN] at z) λ_=>⟨by rw [ek],R1,kvs,wl,h3.up hn,m3,List.prefix_refl _,(λ_ _ z=>z),(λ_ _ z=>.inl z),λm e=>by rw [ek] at e; cases e⟩
    | some m=>
     rw [ek] at eb;have IQ:m∉dH R1:=of_decide_eq_false eb;refine bj (λ_=>⟨.inr (.inr (.inl ⟨rfl,.inl ⟨_,h3.wt⟩⟩)),λb hb=>⟨kvs,Sum.inl (m:Int),rfl,ak.put hb _ _ h3.wt,aG (by have:=h3.wc; omega),?_⟩⟩) λz=>absurd (by simp [oN]) z
     have s5:ak H3 (upd H3 b (.lst [])):=ak.put hb;have h5:=h3.same s5;have hwl:=h3.wc.2.1 m;have sU:∀(j s:Nat),s∈wl j->s∈(if j=m then wl m++[r.k] else wl j):=λj s hs=>by
      split
      ·rename_i e;rw [e] at hs;exact mem_append_left _ hs
      ·exact hs
     have nB:∀(j s:Nat),s∈(if j=m then wl m++[r.k] else wl j)->s∈wl j\/(s=r.k/\fU t=some j/\j∉dH R1):=λj s hs=>by
      split at hs
      ·rename_i e;subst e;rcases mem_append.mp hs with hs | hs
       ·exact .inl hs
       ·exact .inr ⟨mem_singleton.mp hs,ek,IQ⟩
      ·exact .inl hs
     have Ip:∀j,fU t=some j->(∀x∈valN t,x∈dH R1)\/(j∉dH R1/\r.k∈(if j=m then wl m++[r.k] else wl j)):=λj e=>by
      rw [ek] at e;cases e;refine .inr ⟨IQ,?_⟩;rw [if_pos rfl];exact mem_append_right _ (mem_singleton.mpr rfl)
     have ea:∀ys:List Nat,aE ys++[V.int (r.k:Int)]=aE (ys++[r.k]):=λys=>by
      unfold aE;rw [map_append,map_append];rfl
     cases ev:bz kvs (Sum.inl (m:Int))with
     | some u=>
      obtain⟨m',b',e1,e2,e3,e4,e5⟩:=h3.wk _ u ev;have em:m'=m:=by
       have:(m:Int)=(m':Int):=Sum.inl.inj e1;omega
      subst em e2;have e6:=s5 _ _ e3;refine .inl ⟨_,rfl,.inl ⟨rfl,_,ba.of e6⟩,b',_,_,rfl,rfl,e6,aG (by rw [aI]; omega),?_⟩;rw [ea];refine⟨by rw [ek],R1,kvs,_,h5.wait hn (s:=r.k) (.putD h5.sm e4) (λc u c1 c2 e=>by rw [au c1]; exact e) e5 (.inr ⟨_,e6⟩) e4 ae ?_ ev (λk _=>rfl) (λk hk=>h3.wi k _ b' hk ev) (Nat.le_succ_of_le h3.wc.1),m3,List.prefix_refl _,sU,nB,Ip⟩;rw [au λz=>by have:=h5.wt; rw [z,e6] at this; cases this];exact h5.wt
     | none=>
      have Xh:H0 b=none:=h3.sm.free hb;have nbw:b≠A.wt:=(aC h3.wt hb).symm;obtain⟨xs3,NU,_,_⟩:=h3.rs;have nbr:b≠A.ro:=(aC NU hb).symm;have hb6:upd (upd H3 b (.lst [])) A.wt (.dK (putK kvs (Sum.inl (m:Int)) (.ref b))) b=some (.lst []):=by rw [au nbw,ae]
      refine .inr ⟨rfl,.inl ⟨rfl,_,ba.of hb6⟩,b,_,_,rfl,rfl,hb6,by rw [sizeLine_eq]; decide,?_⟩;have ew:=h3.wn m ev;have el:aE (wl m++[r.k])=[V.int (r.k:Int)]:=by rw [ew]; rfl
      refine⟨by rw [ek],R1,putK kvs (Sum.inl (m:Int)) (.ref b),_,h5.wait hn (s:=r.k) (.putD (.putD h5.sm h.fw) Xh) (λc u c1 c2 e=>by rw [au c1,au c2]; exact e) nbr (.inr ⟨_,ae⟩) Xh (by rw [ae,el]; rfl) ?_ ?_ (λk hk=>?_) (λk hk=>?_) ?_,m3,List.prefix_refl _,sU,nB,Ip⟩
      ·rw [au nbw.symm,ae]
      ·rw [jN,if_pos rfl]
      ·rw [jN,if_neg hk]
      ·obtain⟨m',b',f1,f2,f3,_⟩:=h3.wk k _ hk;cases f2;rw [hb] at f3;cases f3
      ·have:=gp kvs (Sum.inl (m:Int)) (V.ref b);have:=h3.wc.1;omega
  ·rintro σ2 H4 ⟨rfl,R2,rF,sZ,h4,m4,p4,sU,nB,Ip⟩;refine aJ.of (ah (cp PassesOwn.never rfl (bQ (qy (bB hr) (bM (pv 0) rfl) (pv 1) (bP af) ⟨rfl,rfl,rfl,rfl⟩)) (a_ (i:=4) vX.nd rfl (Or.inl rfl)) ao)) ?_;obtain⟨dx4,h14⟩:=h4.ob;dsimp! [h14,HO.ins.injEq,T.bD,T.c_,NS];have Qh:=eX p3 hrm;have R9:∀s,s∈sZ r.k->s∈wl r.k:=λs hs=>(nB r.k s hs).elim id λz=>absurd Qh z.2.2
   refine⟨.inl ⟨rF,.inl h4.wt⟩,λb hb=>⟨bz rF (Sum.inl (r.k:Int)),fH.k (k:=Sum.inl (r.k:Int)) (ak.put hb _ _ h4.wt),?_⟩⟩;have s5:ak H4 (upd H4 b (.lst [])):=ak.put hb;have h5:=h4.same s5;obtain⟨xs4,hx4,_,_⟩:=h4.rs;have Dp:H4 A.mb=some (.dK (eB (dH R2))):=h4.mb;obtain⟨la,ela,Qi,nl1⟩:∃la,(bz rF (Sum.inl (r.k:Int))).getD (.ref b)=.ref la/\upd H4 b (.lst []) la=some (.lst (aE (sZ r.k)))/\la≠A.ro:=by
    cases ev:bz rF (Sum.inl (r.k:Int))with
    | none=>exact⟨b,rfl,by rw [ae,h4.wn _ ev]; rfl,(aC hx4 hb).symm⟩
    | some u=>
     obtain⟨m',b',e1,e2,e3,_,e5⟩:=h4.wk _ u ev;have em:m'=r.k:=by
      have:(r.k:Int)=(m':Int):=Sum.inl.inj e1;omega
     rw [em] at e3;exact⟨b',by rw [e2]; rfl,s5 _ _ e3,e5⟩
   generalize upd H4 b (.lst [])=H5 at s5 h5 Qi;have nl2:la≠A.mb:=λz=>by
    have:=s5 _ _ Dp;rw [<-z,Qi] at this;cases this
   refine⟨la,ela,⟨_,ba.of Qi⟩,cV (aE (sZ r.k)) (IGo a K H0 A ts R2 rF sZ n r t p la) ⟨⟨_,rfl⟩,h5,Qi⟩ (λi σ' H' _ hh=>ba.of hh.2.2) (λi x σ' H6 hx hh=>?_) λσ' H6 hh=>?_⟩
   ·obtain⟨o,ho,rfl⟩:=cu hx;obtain⟨⟨v4,rfl⟩,h6,aeP⟩:=hh;refine gN ?_;refine aJ.of (ah (aY (aS (pv 0) T.bD T.MK (NW T) hr.dm T.Rr .nil aw (aa (pv 4) af)))) ?_;obtain⟨dx6,h16⟩:=h6.ob;have f2:=nX (A:=A) (n:="bring_value");dsimp! [h16,HO.ins.injEq,f2];obtain⟨_,u,hu,eu⟩:=m4.wlo r.k o (R9 o (mem_of_getElem? ho));obtain⟨kk,vv,rfl⟩:=vf eu;refine⟨H0,A,ts,_,rF,sZ,n+1,o,kk,vv,rfl,h6,hu,λH' h' k'=>⟨⟨_,rfl⟩,?_,k' _ _ nl1 nl2 aeP⟩⟩;have e:iP ts R2 ((sZ r.k).take (i+1))=dO (iP ts R2 ((sZ r.k).take i)) (valN (.pair kk vv)) "pair" o:=by
     unfold iP;rw [take_add_one,ho,List.foldl_append];show dO _ (valOf ts o) "pair" o=_;rw [rE hu]
    rw [e];exact h'
   ·obtain⟨⟨v4,rfl⟩,h6,_⟩:=hh;rw [aI,take_length] at h6;have p6:=nY ts (sZ r.k) R2;have m6:RM ts S0 (iP ts R2 (sZ r.k)) wl n:=m4.iP (s:=r.k) _ (eX p4 Qh) λo ho=>m4.wlo r.k o (R9 o ho)
    have w6:∀s u,s∈wl r.k->iU ts s u->∀j∈valN u,j∈dH (iP ts R2 (sZ r.k)):=λs u hs hu j hj=>vg ts _ R2 s (sU _ _ hs) j (by rw [rE hu]; exact hj)
    generalize iP ts R2 (sZ r.k)=R3 at h6 p6 m6 w6;have pp:R <+: R3:=p3.trans (p4.trans p6);have hU:=(List.getElem?_eq_some_iff.mp Eo).1;refine q H6 R3 rF sZ h6 (m6.next (Xj pp Eo) ht (λj hj=>eX (p4.trans p6) (g3 j hj)) sU (λm s hs=>(nB m s hs).imp id λz=>⟨z.1,z.2.1⟩) (λm e=>?_) w6);rcases Ip m e with z | ⟨z1,z2⟩
    ·exact .inl λj hj=>eX p6 (z j hj)
    ·refine .inr ⟨λy=>z1 (eX p3 ?_),z2⟩;rw [pre_take pp hU] at y;unfold dH at y ⊢;obtain⟨q,hq,e⟩:=mem_map.mp y;exact mem_map.mpr ⟨q,List.mem_of_mem_take hq,e⟩
inductive NX (a:eI) (K:Frag) (vs:List V) (H:Hp) (Q:VK) (E:XK):Prop
 | mk (p d l dx:Addr) (S:List Nat) (_:vs=[.ref p,.ref d,.ref l]) (_:H p=some (.ins a.aZ dx [])) (_:H l=some (.lst (aE S))) (_:S.Nodup) (_:S.length<=63) (_:∀(A:RA) H',A.p=p->A.bs=d->(∀(H0:Hp) ts,(∀b u,H0 b=some u->b≠p/\H b=some u)->pM K H0 d ts->wU ts->ts.length<=63->(∀k∈S,1<=k/\k<=ts.length)->RS a K H0 H' A ts (S.map λs=>(⟨s,"begin",none⟩:Rw)) [] (λ_=>[]) 0)->Q .bN H'):NX a K vs H Q E
theorem Xl (T:Txt K mg a):aU P w K mg base cU 4 a.zI a.zJ ["self","things","some"] (NX a K):=by
 refine T.Gv.ok VG (λvs H Q E h=>?_) (λbY A outer s H vs Q E hr h=>?_)
 ·obtain⟨_,_,_,_,_,rfl,_⟩:=h;rfl
 ·obtain⟨p,d,l,dx,S,rfl,h1,hl,nd,bO,q⟩:=h;refine⟨_,(ag (iu (pv 0) (pv 1) rfl) (ag (iu (pv 0) (oI rfl (vL (x:="serial") (ns:=[]) (fr:=[]) rfl (by decide +kernel) rfl (by decide +kernel) rfl (forall_mem_nil _) rfl rfl (forall_mem_nil _) (by decide +kernel)) (bQ (pv 2)) (λ_ _ _ _=>(bo (aa (pv 0) (aa az (aa cz af))))) (λ_ _ _ _=>.nil)) rfl) (ag (iu (pv 0) (aD (Er T) hr.dm rfl T.MI T.qR.kp T.MH .nil aw (aa (pv 2) af)) rfl) (ah (iu (pv 0) gq rfl))))),?_⟩;dsimp! [];refine⟨_,dx,[],h1,T.bD,T.cL,by decide,?_⟩;have nl:l≠p:=λe=>by rw [e,h1] at hl; cases hl
  have uq:upd H p (.ins a.aZ dx (b_ "by_serial" (.ref d) [])) l=some (.lst (aE S)):=by rw [au nl]; exact hl
  have Ik:upd H p (.ins a.aZ dx (b_ "by_serial" (.ref d) [])) p=some (.ins a.aZ dx (b_ "by_serial" (.ref d) [])):=ae;have k1:∀b u,b≠p->H b=some u->upd H p (.ins a.aZ dx (b_ "by_serial" (.ref d) [])) b=some u:=λb u nb e=>by rw [au nb]; exact e
  generalize upd H p (.ins a.aZ dx (b_ "by_serial" (.ref d) []))=H1 at uq Ik k1 ⊢;refine⟨⟨_,ba.of uq⟩,λD hD=>?_⟩;have npD:p≠D:=aC Ik hD;refine Gb (λi y H=>∃t k,S[i]?=some k/\y=.ref t/\H t=some (.tup [.int (k:Nat),.str "begin",.bN])) (λi y H H' h s=>?_) hD (ba.of uq) (by rw [aI]; omega) (λi x H2 zs R hx s2 Kr r=>?_) λH2 ys s2 Kr PK hr=>?_
  ·obtain⟨t,k,e1,e2,e3⟩:=h;exact⟨t,k,e1,e2,s _ _ e3⟩
  ·obtain⟨k,hk,rfl⟩:=cu hx;dsimp! [bA];refine⟨by decide,λt ht=>r _ _ (ak.put ht) ⟨t,k,hk,rfl,?_⟩⟩;unfold uk;rw [if_neg (aC Kr ht).symm];exact ae
  ·obtain⟨xs,ex,_⟩:=wX (ys:=ys) λi y e=>by
    obtain⟨t,k,_,e2,_⟩:=hr i y e;exact⟨t,e2⟩
   rw [ex] at Kr hr PK;rw [length_map,aI] at PK;have qx:=s2 _ _ Ik;refine⟨_,dx,_,qx,T.bD,T.cN,Nat.lt_of_le_of_lt (bT _ _ _) (by decide),?_⟩;have k2:∀b u,b≠p->H2 b=some u->upd H2 p (.ins a.aZ dx (b_ "rows" (.ref D) (b_ "by_serial" (.ref d) []))) b=some u:=λb u nb e=>by rw [au nb]; exact e
   have R4:upd H2 p (.ins a.aZ dx (b_ "rows" (.ref D) (b_ "by_serial" (.ref d) []))) p=some (.ins a.aZ dx (b_ "rows" (.ref D) (b_ "by_serial" (.ref d) []))):=ae;generalize upd H2 p (.ins a.aZ dx (b_ "rows" (.ref D) (b_ "by_serial" (.ref d) [])))=H3 at k2 R4 ⊢;refine⟨l,S,rfl,ba.of (k2 _ _ nl (s2 _ _ uq)),nd,by omega,λmb H4 s4 Yv Dp=>?_⟩;have hp4:=s4 _ _ R4;have npm:mb≠p:=(aC R4 Yv).symm;refine⟨_,dx,_,hp4,T.bD,T.cZ,Nat.lt_of_le_of_lt (bT _ _ _) (Nat.lt_of_le_of_lt (Nat.succ_le_succ (bT _ _ _)) (by decide)),?_⟩;have k4:∀b u,b≠p->H4 b=some u->upd H4 p (.ins a.aZ dx (b_ "members" (.ref mb) (b_ "rows" (.ref D) (b_ "by_serial" (.ref d) [])))) b=some u:=λb u nb e=>by rw [au nb]; exact e
   have O2:upd H4 p (.ins a.aZ dx (b_ "members" (.ref mb) (b_ "rows" (.ref D) (b_ "by_serial" (.ref d) [])))) p=some (.ins a.aZ dx (b_ "members" (.ref mb) (b_ "rows" (.ref D) (b_ "by_serial" (.ref d) [])))):=ae;generalize upd H4 p (.ins a.aZ dx (b_ "members" (.ref mb) (b_ "rows" (.ref D) (b_ "by_serial" (.ref d) []))))=H5 at k4 O2 ⊢;intro wt Qg;have npw:p≠wt:=aC O2 Qg;refine⟨_,dx,_,by rw [au npw]; exact O2,T.bD,T.c_,Nat.lt_of_le_of_lt (bT _ _ _) (Nat.lt_of_le_of_lt (Nat.succ_le_succ (bT _ _ _)) (Nat.lt_of_le_of_lt (Nat.succ_le_succ (Nat.succ_le_succ (bT _ _ _))) (by decide))),?_⟩;refine q ⟨p,d,D,mb,wt⟩ _ rfl rfl λH0 ts sub tb ok fw hS=>?_
   have k6:∀b u,b≠p->H5 b=some u->upd (upd H5 wt (.dK [])) p (.ins a.aZ dx (b_ "waiting" (.ref wt) (b_ "members" (.ref mb) (b_ "rows" (.ref D) (b_ "by_serial" (.ref d) []))))) b=some u:=λb u nb e=>by
    rw [au nb,au (aC e Qg)];exact e
   have k15:∀b u,b≠p->H1 b=some u->H5 b=some u:=λb u nb e=>k4 b u nb (s4 _ _ (k2 b u nb (s2 _ _ e)))
   have k25:∀b u,b≠p->H2 b=some u->H5 b=some u:=λb u nb e=>k4 b u nb (s4 _ _ (k2 b u nb e))
   have sm:ak H0 (upd (upd H5 wt (.dK [])) p (.ins a.aZ dx (b_ "waiting" (.ref wt) (b_ "members" (.ref mb) (b_ "rows" (.ref D) (b_ "by_serial" (.ref d) [])))))):=λb u e=>by
    obtain⟨nb,e1⟩:=sub b u e;exact k6 b u nb (k15 b u nb (k1 b u nb e1))
   have fre:∀b,b≠p->H1 b=none->H0 b=none:=λb nb e=>by
    cases e0:H0 b with
    | none=>rfl
    | some u=>rw [k1 b u nb (sub b u e0).2] at e; cases e
   have es:dH (S.map λs=>(⟨s,"begin",none⟩:Rw))=S:=by
    unfold dH;rw [List.map_map];exact List.map_id' _
   have hD0:=fre D npD.symm hD;have hm0:H0 mb=none:=by
    cases e0:H0 mb with
    | none=>rfl
    | some u=>
     have:=k2 mb u npm (s2 _ _ (k1 mb u npm (sub mb u e0).2));rw [Yv] at this;cases this
   have hw0:H0 wt=none:=by
    cases e0:H0 wt with
    | none=>rfl
    | some u=>
     have:=k15 wt u npw.symm (k1 wt u npw.symm (sub wt u e0).2);rw [Qg] at this;cases this
   have R_:H5 mb=some (.dK (eB S)):=k4 mb _ npm Dp;refine⟨⟨dx,ae⟩,sm,tb,ok,fw,⟨xs,k6 _ _ npD.symm (k25 _ _ npD.symm Kr),by rw [length_map]; exact PK,λi x r hx Im=>?_⟩,by rw [es]; exact nd,by rw [es]; exact hS,?_,by rw [au npw.symm,ae],(λk u e=>by cases e),(λ_ _=>rfl),(λk k' b e=>by cases e),⟨Nat.le_refl _,(λ_=>Nat.le_refl _),Nat.zero_le _⟩,hD0,hm0,hw0,aC R_ Qg⟩
   ·obtain⟨t,k,e1,e2,e3⟩:=hr i (.ref x) (by rw [getElem?_map,hx]; rfl);cases e2;rw [getElem?_map,e1] at Im;cases Im;have nxp:x≠p:=λe=>by rw [e,qx] at e3; cases e3
    exact k6 _ _ nxp (k25 _ _ nxp e3)
   ·rw [es];exact k6 _ _ npm R_
inductive CB (a:eI) (K:Frag) (vs:List V) (H:Hp) (Q:VK) (E:XK):Prop
 | mk (H0 A ts S0 R kvs wl n:_) (_:vs=[.ref A.p]) (_:RS a K H0 H A ts R kvs wl n) (_:RM ts S0 R wl n) (_:n=0) (_:∀r H' R' NV,ak H0 H'->H0 r=none->RwL H' r R'->RM ts S0 R' NV R'.length->R'.length<=63->(∀k∈dH R',1<=k/\k<=ts.length)->Q (.ref r) H'):CB a K vs H Q E
noncomputable def IGr (a:eI) (K:Frag) (H0:Hp) (A:RA) (ts:List Tg) (S0:List Nat) (m:Nat) (σ:St) (H:Hp):Prop:=∃n R kvs wl,σ=[some (.ref A.p),some (.int (n:Nat))]/\RS a K H0 H A ts R kvs wl n/\RM ts S0 R wl n/\m=63 - n
theorem Xm (T:Txt K mg a):aU P w K mg base cU 7 a.zQ a.zR ["self"] (CB a K):=by
 refine T.Gz.ok DZ (λvs H Q E h=>?_) (λbY A outer s H vs Q E hr h=>?_)
 ·obtain⟨_,_,_,_,_,_,_,_,rfl,_⟩:=h;rfl
 ·obtain⟨H0,A,ts,S0,R,kvs,wl,n,rfl,h,hm,rfl,q⟩:=h;refine⟨_,(ag (aN (i:=1) DZ.nd rfl (Or.inl rfl) ai) (ag (uc PassesOwn.never ao) ao)),?_⟩;dsimp! [];refine ww2 (IGr a K H0 A ts S0) (λσ H=>∃n R kvs wl,σ=[some (.ref A.p),some (.int (n:Nat))]/\RS a K H0 H A ts R kvs wl n/\RM ts S0 R wl R.length) 63 ⟨0,R,kvs,wl,rfl,h,hm,rfl⟩ ?_ ?_
  ·rintro m σ H2 ⟨n,R1,Xn,wl1,rfl,h2,m2,rfl⟩;refine kM.of (aF Jk (pv 1) (aR cF rfl T.f_ eE (aa (bM (pv 0) rfl) af)) (aH _)) ?_;obtain⟨dx,h1⟩:=h2.ob;dsimp! [h1,HO.ins.injEq,T.bD,T.cN,w_];obtain⟨xs,mZ,IK,NU⟩:=h2.rs;have hlen:=h2.len;refine⟨_,.inl (ba.of mZ),bj (λz=>?_) λz=>?_⟩
   ·have hU:n < R1.length:=by
     have:=of_decide_eq_true z;rw [length_map] at this;omega
    refine aJ.of (ag (aY (aS (pv 0) T.bD T.Wg (Xk T) hr.dm T.Z5 .nil aw (aa (av aq (av df (bM (pv 0) rfl) (pv 1) (λ_ _=>rfl)) ai (λ_ _=>rfl)) af))) (ah (Uj (i:=1) DZ.nd rfl (Or.inl rfl) ai Uk))) ?_;have f1:=nX (A:=A) (n:="go_on_from");dsimp! [h1,HO.ins.injEq,T.bD,T.cN,w_,f1];have er:R1[n]?=some R1[n]:=getElem?_eq_getElem hU;have ex:xs[n]?=some (xs[n]'(by omega)):=getElem?_eq_getElem _;have ht:=NU n _ _ ex er;refine Dm (ba.of mZ) (dk (by rw [getElem?_map,ex]; rfl)) (bC (bX.of ht) rfl ⟨H0,A,ts,S0,R1,Xn,wl1,n,_,rfl,h2,m2,er,λH' R' jh NV h' m'=>?_⟩);have:=h'.len;have:=m'.le;exact⟨62 - n,by omega,n+1,R',jh,NV,rfl,h',m',by omega⟩
   ·have hge:R1.length<=n:=by
     refine Nat.le_of_not_lt λy=>z (decide_eq_true ?_)
     rw [length_map];omega
    have e:n=R1.length:=Nat.le_antisymm m2.le hge;rw [e] at m2;exact⟨n,rfl,R1,Xn,wl1,h2,m2⟩
  ·rintro σ H2 ⟨n,R1,Xn,wl1,rfl,h2,m2⟩;refine aJ.of (ah (aB (cv gL rfl T.iC ib (aa (bM (pv 0) rfl) af)))) ?_;obtain⟨dx,h1⟩:=h2.ob;dsimp! [h1,HO.ins.injEq,T.bD,T.cN,w_];obtain⟨xs,mZ,IK,NU⟩:=h2.rs;exact⟨_,.inl (ba.of mZ),λl hl=>q l _ R1 wl1 (h2.sm.trans (ak.put hl)) (h2.sm.free hl) ⟨xs,ae,IK,λi x r a b=>ak.put hl _ _ (NU i x r a b)⟩ m2 h2.len h2.rl⟩
inductive NY (K:Frag) (vs:List V) (H:Hp) (Q:VK) (E:XK):Prop
 | mk (d l:Addr) (ts:List Tg) (S:List Nat) (_:vs=[.ref d,.ref l]) (_:pM K H d ts) (_:wU ts) (_:ts.length<=63) (_:H l=some (.lst (aE S))) (_:S.Nodup) (_:∀k∈S,1<=k/\k<=ts.length) (_:∀r H' R wl,ak H H'->H r=none->RwL H' r R->RM ts S R wl R.length->R.length<=63->(∀k∈dH R,1<=k/\k<=ts.length)->Q (.ref r) H'):NY K vs H Q E
theorem Xo (T:Txt K mg a):aU P w K mg base cU 8 a.zS a.zT ["things","some"] (NY K):=by
 refine T.BR.ok VI (λvs H Q E h=>?_) (λbY A outer s H vs Q E hr h=>?_)
 ·obtain⟨_,_,_,_,rfl,_⟩:=h;rfl
 ·obtain⟨d,l,ts,S,rfl,h,ok,bO,hl,nd,hS,q⟩:=h;refine⟨_,(ah (aB (dj (kq T.D5 (Xl T) hr.dm rfl T.D8 T.Z4 .nil aw (aa (pv 0) (aa (pv 1) af))) T.bD T.Wh (Xm T) hr.dm T.Z6 .nil aw))),?_⟩;dsimp! [];have lS:S.length<=63:=Nat.le_trans (gW (m:=da ts.length) nd λk hk=>dG.mpr (hS k hk)) (by unfold da; rw [length_map,length_range]; exact bO);intro x dx hx Ei ne;have sub:∀b u,H b=some u->b≠x/\upd (upd H dx (.own x)) x (.ins a.aZ dx []) b=some u:=λb u e=>by
   have n1:=aC e hx;exact⟨n1,by rw [au n1,au (aC e Ei)]; exact e⟩
  refine⟨x,d,l,dx,S,rfl,ae,(sub _ _ hl).2,nd,lS,λA H2 e1 e2 hRS=>?_⟩;have rs:=hRS H ts sub h ok bO hS;obtain⟨Wu,ho⟩:=rs.ob;subst e1;exact⟨rfl,Wu,_,ho,nX,H,A,ts,S,_,[],_,0,rfl,rs,RM.start nd,rfl,λr H' R wl s' Zj hR hm hlen hle=>q r H' R wl s' Zj hR hm hlen hle⟩
inductive NZ (K:Frag) (vs:List V) (H:Hp) (Q:VK) (E:XK):Prop
 | mk (d l:Addr) (ts:List Tg) (S:List Nat) (_:vs=[.ref d,.ref l]) (_:pM K H d ts) (_:wU ts) (_:ts.length<=63) (_:H l=some (.lst (aE S))) (_:S.Nodup) (_:∀k∈S,1<=k/\k<=ts.length) (_:∀r H',ak H H'->H r=none->H' r=some (.lst (aE (cls ts S)))->Q (.ref r) H'):NZ K vs H Q E
theorem N0 (T:Txt K mg a):aU P w K mg base cU 10 a.zU a.zV ["things","some"] (NZ K):=by
 refine T.uD.ok VJ (λvs H Q E h=>?_) (λbY A outer s H vs Q E hr h=>?_)
 ·obtain⟨_,_,_,_,rfl,_⟩:=h;rfl
 ·obtain⟨d,l,ts,S,rfl,h,ok,bO,hl,nd,hS,q⟩:=h;refine⟨_,(ah (aB (aR i_ rfl T.fR gc (aa (oI rfl (vL (x:="row") (ns:=[]) (fr:=[]) rfl (by decide +kernel) rfl (by decide +kernel) rfl (forall_mem_nil _) rfl rfl (forall_mem_nil _) (by decide +kernel)) (bQ (aD (Xo T) hr.dm rfl T.Z8 T.BR.kp T.Z7 .nil aw (aa (pv 0) (aa (pv 1) af)))) (λ_ _ _ _=>(av (mj (K:=K) rfl) (pv 0) ai (λ_ _=>rfl))) (λ_ _ _ _=>.nil)) af)))),?_⟩;dsimp! [];refine⟨d,l,ts,S,rfl,h,ok,bO,hl,nd,hS,λr H1 R wl s1 yi ⟨xs,mZ,IK,NU⟩ hm hlen hle=>?_⟩;refine⟨r,rfl,⟨_,ba.of mZ⟩,λD hD=>qu (xs.map V.ref) R (λr=>some (.int (r.k:Nat))) (by rw [length_map]; omega) (by rw [length_map,IK]) (λys=>(ak.put hD).seq (ba.of mZ)) (λi x b ys R hx hb r=>r) (λi x b y ys R2 hx hb hy r=>?_) ?_⟩
  ·rw [getElem?_map] at hx
   cases e:xs[i]? with
   | none=>rw [e] at hx; cases hx
   | some t=>
    rw [e] at hx;cases hx;cases hy;have ht:=NU i t b e hb;dsimp! [bA];exact bC (bX.of (ak.put hD _ _ ht)) rfl r
  ·have e1:R.filterMap (λr=>some (V.int ((r.k:Nat):Int)))=aE (dH R):=by
    rw [List.filterMap_eq_map'];unfold aE dH;rw [List.map_map,List.map_map];rfl
   rw [e1];refine⟨(dH R).map λ(k:Nat)=>(k:Int),ba.of ae,by rw [length_map]; unfold dH; rw [length_map]; omega,λl2 ns fW pm ps=>?_⟩;have e2:=gX pm ps hm.nd (nW ts S) λx=>by rw [hm.done,Ha ok hS]
   rw [e2];exact q l2 _ (s1.trans ((ak.put hD).trans (ak.put fW))) ((s1.trans (ak.put hD)).free fW) ae
noncomputable def n_ (U:List Nat) (k:Nat):List Nat:=if k∈U then U else U++[k]
theorem mM (U:List Nat) (k:Nat):putK (eB U) (Sum.inl (k:Int)) (.bl true)=eB (n_ U k):=by
 unfold n_
 by_cases h:k∈U
 ·rw [if_pos h];unfold putK;rw [eO,mI,if_pos h,if_pos (show(some (V.bl true)).isSome=true from rfl)];unfold eB;rw [List.map_map];refine List.map_congr_left λj _=>?_
  show(if (Sum.inl (j:Int):Key)=Sum.inl (k:Int)then((Sum.inl (j:Int):Key),V.bl true)else _)=_
  split <;> rfl
 ·rw [if_neg h,jO _ (by rw [mI,if_neg h])];unfold eB;rw [map_append];rfl
theorem Hd {U:List Nat}{k:Nat}(h:U.Nodup):(n_ U k).Nodup:=by
 unfold n_;split
 ·exact h
 ·rename_i hk;refine nodup_append.mpr ⟨h,by simp,λx hx y hy e=>?_⟩;rw [mem_singleton.mp hy] at e;exact hk (e▸hx)
theorem mN {U:List Nat}{k x:Nat}:x∈n_ U k↔x∈U\/x=k:=by
 unfold n_;split
 ·rename_i h;exact⟨.inl,λz=>z.elim id λe=>e▸h⟩
 ·rw [mem_append,mem_singleton]
theorem CC (U:List Nat) (k:Nat):U <+: n_ U k:=by
 unfold n_;split
 ·exact List.prefix_refl _
 ·exact List.prefix_append _ _
theorem dz {U:List Nat}{n:Nat}(nd:U.Nodup) (h:∀k∈U,1<=k/\k<=n):U.length<=n:=by
 have:=gW (m:=da n) nd λk hk=>dG.mpr (h k hk)
 unfold da at this;rw [length_map,length_range] at this;exact this
theorem vh (U:List Nat):gT (eB U)=aE U:=by
 unfold gT eB aE;rw [List.map_map,List.map_map];rfl
theorem rG {H:Hp}{d:Addr}{U L:List Nat}{n:Nat}{Q:VK}(h:mJ H d U) (nd:U.Nodup) (le:∀k∈U,1<=k/\k<=n) (hn:n<=63) (hL:L.Pairwise (· < ·)) (hm:∀x,x∈U↔x∈L) (q:∀r,H r=none->Q (.ref r) (upd H r (.lst (aE L)))) :
  ∃x,Rd H d (.dK x)/\∃x_1:List Int,gT x=x_1.map V.int/\x_1.length < 64/\∀(l:Addr) (pJ:List Int),H l=none->pJ.Perm x_1->pJ.Pairwise (λx1 x2=>x1<=x2)->Q (.ref l) (upd H l (.lst (pJ.map V.int))):=by
 have hl:=dz nd le;refine⟨_,.inl h,U.map λ(k:Nat)=>(k:Int),vh U,by rw [length_map]; omega,λl ns hl pm ps=>?_⟩;rw [gX pm ps nd hL hm];exact q l hl
noncomputable def iQ (N U:List Nat):List Nat:=N.foldl n_ U
theorem jk:∀(N:List Nat) {U:List Nat},U.Nodup->(iQ N U).Nodup
 | [],_,h=>h
 | k::N,_,h=>jk N (Hd h)
theorem gB {x:Nat}:∀(N U:List Nat),x∈iQ N U↔x∈U\/x∈N
 | [],U=>⟨.inl,λz=>z.elim id λh=>nomatch h⟩
 | k::N,U=>by
  show x∈iQ N (n_ U k)↔_;rw [gB N,mN,mem_cons,or_assoc]
theorem oa (N U:List Nat) (k:Nat):iQ (N++[k]) U=n_ (iQ N U) k:=by
 unfold iQ;rw [List.foldl_append];rfl
theorem rH:∀(N U:List Nat),U <+: iQ N U
 | [],_=>List.prefix_refl _
 | k::N,U=>(CC U k).trans (rH N _)
noncomputable def IOp (L:LA) (g:Str->Vl) (kvs:List (Key×V)) (o:Obj) (f:Addr) (H0:Hp) (i:Nat) (σ:St) (H:Hp):Prop:=(∃v2 v3 v4,σ=[some (.ref L.st),some (.ref f),v2,v3,v4])/\H L.d0=some (.fI o (.dK kvs))/\(∀b u,b≠L.d0->H0 b=some u->H b=some u)/\mJ H f (iQ (((kvs.take i).map λkv=>g (hV kv.1)).filterMap kC) [])
noncomputable def IOq (L:LA) (N:List Nat) (hs:List (Nat×Int)) (f:Addr) (H0:Hp) (i:Nat) (σ:St) (H:Hp):Prop:=(∃v2 v3 v4,σ=[some (.ref L.st),some (.ref f),v2,v3,v4])/\ak H0 H/\mJ H f (iQ ((hs.take i).map (·.1)) (iQ N []))
inductive CD (K:Frag) (vs:List V) (H:Hp) (Q:VK) (E:XK):Prop
 | mk (Pr L W:_) (_:vs=[.ref L.st]) (_:eV K Pr H L W) (_:W.ok) (_:W.ts.length<=63) (_:∀r H',ak H H'->H r=none->H' r=some (.lst (aE (O5 W.g W.hs W.ts.length)))->Q (.ref r) H'):CD K vs H Q E
theorem Xp (T:Txt K mg a):aU P w K mg base cU 1 a.Bx a.By ["_law_state"] (CD K):=by
 refine T.Cc.ok qK (λvs H Q E h=>?_) (λbY A outer s H vs Q E hr h=>?_)
 ·obtain⟨_,_,_,rfl,_⟩:=h;rfl
 ·obtain⟨Pr,L,W,rfl,h,ok,bO,q⟩:=h;refine⟨_,(ag (aN (i:=1) qK.nd rfl (Or.inl rfl) gq) (ag (vR (cp PassesOwn.never rfl (vQ (av aq (pv 0) ai (λ_ _=>rfl))) (a_ (i:=2) qK.nd rfl (Or.inl rfl)) ao)) ao)),?_⟩;dsimp! [];intro f hf;obtain⟨kvs,hk,Xq,_⟩:=h.rt;have s1:ak H (upd H f (.dK [])):=ak.put hf;have hf1:upd H f (.dK []) f=some (.dK []):=ae;generalize upd H f (.dK [])=H1 at s1 hf1;have hk1:=s1 _ _ hk;have nfd:f≠L.d0:=(aC hk hf).symm;refine bC (s1.cg h.tu) rfl ⟨L.d0,rfl,kvs,hk1,λo=>?_⟩;have mu:∀b,b=L.d0->Mu H b:=λb e=>.inr ⟨kvs,by rw [e]; exact hk⟩
  have kf:=Xq.bO;refine PF (IOp L W.g kvs o f H) ⟨⟨_,_,_,rfl⟩,ae,λb u nb e=>by rw [au nb]; exact s1 _ _ e,by unfold mJ; rw [au nfd]; exact hf1⟩ (λi σ' H' _ hh=>hh.2.1) (λi kv σ' H2 lR hh=>?_) λσ' H2 hh=>?_
  ·obtain⟨⟨v2,v3,v4,rfl⟩,hz,k2,sL⟩:=hh;obtain⟨x,hx,ex⟩:=Xq.ks kv (mem_of_getElem? lR);have HK:bz kvs kv.1=some kv.2:=il Xq.nd lR;have kk:Kp (·=L.d0) H H2:=k2;have hv2:dJ K H2 kv.2 (W.g x):=(Xq.at_ x kv.2 (by rw [<-ex]; exact HK)).kp kk mu;have hS2:=kk.cg mu h.tu;have rd2:Rd H2 L.d0 (.dK kvs):=.inr ⟨o,hz⟩;have dg:fH H2 L.d0 (kV kv.1) (some kv.2):=by
    rw [<-HK];exact .inl ⟨kvs,kv.1,rd2,rfl,rfl⟩
   have sX:kvs.take (i+1)=kvs.take i++[kv]:=by rw [take_add_one,lR]; rfl
   have hi:=(List.getElem?_eq_some_iff.mp lR).1;have es:hV kv.1=x:=by rw [ex]; rfl
   have hgx:=ok.g x;obtain⟨tv,etv,Qj⟩:=hv2;refine gN ?_;refine aJ.of (ah (bh (aF cj (av aq (cf (bB hr) (av aq (pv 0) ai (λ_ _=>rfl)) (pv 2) (λ_ _=>rfl)) ai (λ_ _=>rfl)) az (aH _)) (ah (cH (bB hr) (pv 1) (av aq (cf (bB hr) (av aq (pv 0) ai (λ_ _=>rfl)) (pv 2) (λ_ _=>rfl)) ai (λ_ _=>rfl)) gj rfl)) aL)) ?_;dsimp! [];rw [etv] at dg;refine bC hS2 rfl ⟨L.d0,rfl,_,dg,bC Qj (W.g x).hd ⟨rfl,?_⟩⟩;have no:(W.g x).wH=false->IOp L W.g kvs o f H (i+1) [some (V.ref L.st),some (V.ref f),some (kV kv.1),v3,v4] H2:=λe=>by
    refine⟨⟨_,_,_,rfl⟩,hz,k2,?_⟩;have:(((kvs.take (i+1)).map λkv=>W.g (hV kv.1)).filterMap kC)=(((kvs.take i).map λkv=>W.g (hV kv.1)).filterMap kC):=by
     rw [sX,map_append,List.filterMap_append];have:([kv].map λkv=>W.g (hV kv.1)).filterMap kC=[]:=by
      show [W.g (hV kv.1)].filterMap kC=[]
      rw [es]
      cases eg:W.g x with
      | no=>rfl
      | num z=>rfl
      | th z=>rw [eg] at e; cases e
     rw [this,append_nil]
    rw [this];exact sL
   cases eg:W.g x with
   | no=>
    rw [eg] at no;exact bj (λz=>absurd (V.str.inj (of_decide_eq_true z)) (by show ¬(("nothing":Str)="thing"); decide +kernel)) λ_=>no rfl
   | num z=>
    rw [eg] at no;exact bj (λz=>absurd (V.str.inj (of_decide_eq_true z)) (by show ¬(("number":Str)="thing"); decide +kernel)) λ_=>no rfl
   | th z=>
    rw [eg] at Qj hgx;obtain⟨i0,ez,hi0⟩:=hgx;obtain⟨y,ey⟩:∃y:Nat,z=(y:Int):=⟨z.toNat,by omega⟩
    subst ey;have lU:(iQ (((kvs.take i).map λkv=>W.g (hV kv.1)).filterMap kC) []).length<=63:=by
     refine Nat.le_trans (dz (n:=W.ts.length) (jk _ List.nodup_nil) λk hk=>?_) bO;rcases (gB _ _).mp hk with hk | hk
     ·cases hk
     ·exact rC (λv hv=>by
       obtain⟨q,_,rfl⟩:=mem_map.mp hv;exact ok.g _) hk
    refine bj (λ_=>bC hS2 rfl ⟨L.d0,rfl,_,dg,bC Qj rfl ⟨_,gE.k (k:=Sum.inl (y:Int)) sL (aG (by rw [fV]; omega)),⟨_,_,_,rfl⟩,by rw [au nfd.symm]; exact hz,λb u nb e=>?_,?_⟩⟩) λz=>absurd (decide_eq_true rfl) z
    ·rw [au (aC e hf)];exact k2 b u nb e
    ·unfold mJ;rw [ae,mM,sX,map_append,List.filterMap_append];have:([kv].map λkv=>W.g (hV kv.1)).filterMap kC=[y]:=by
      show [W.g (hV kv.1)].filterMap kC=[y]
      rw [es,eg];show [((y:Int)).toNat]=[y]
      rw [Int.toNat_natCast]
     rw [this,oa]
  ·obtain⟨⟨v2,v3,v4,rfl⟩,hz,k2,sL⟩:=hh;rw [take_length] at sL;refine .inr ⟨L.d0,kvs,_,⟨λo u z=>?_,⟨o,hz⟩,rfl⟩,aJ.of (ag (cp PassesOwn.never rfl (bQ (av aq (pv 0) ai (λ_ _=>rfl))) (jF (n:=2) rfl (cm (a_ (i:=3) qK.nd rfl (Or.inl rfl)) (cm (a_ (i:=4) qK.nd rfl (Or.inl rfl)) hW))) ao) ao) ?_⟩
   ·have z2:H L.d0=some (.fI o u):=z;rw [hk] at z2;cases z2
   dsimp! [];have s3:ak H (upd H2 L.d0 (.dK kvs)):=λb u e=>by
    by_cases z:b=L.d0
    ·rw [z,ae,<-hk,<-z,e]
    ·rw [au z];exact k2 b u z e
   have IT:mJ (upd H2 L.d0 (.dK kvs)) f (iQ ((kvs.map λkv=>W.g (hV kv.1)).filterMap kC) []):=by
    unfold mJ;rw [au nfd];exact sL
   generalize upd H2 L.d0 (.dK kvs)=H3 at s3 IT;have hN:=λx=>pD (x:=x) Xq ok
   have abH:∀k∈(kvs.map λkv=>W.g (hV kv.1)).filterMap kC,1<=k/\k<=W.ts.length:=λk hk=>rC (λv hv=>by
    obtain⟨q,_,rfl⟩:=mem_map.mp hv;exact ok.g _) hk
   generalize (kvs.map λkv=>W.g (hV kv.1)).filterMap kC=N at IT hN abH;obtain⟨xs,hx,hh⟩:=h.he;have NU:=s3 _ _ hx;have hle:∀(i:Nat) k,k∈iQ ((W.hs.take i).map (·.1)) (iQ N [])->1<=k/\k<=W.ts.length:=λi k hk=>by
    rcases (gB _ _).mp hk with hk | hk
    ·rcases (gB _ _).mp hk with hk | hk
     ·cases hk
     ·exact abH k hk
    ·obtain⟨y,hy,rfl⟩:=mem_map.mp hk;exact(ok.hs y (List.mem_of_mem_take hy)).1
   refine bC (s3.cg h.tu) rfl ⟨L.l2,rfl,⟨_,ba.of NU⟩,cV xs (IOq L N W.hs f H) ⟨⟨_,_,_,rfl⟩,s3,IT⟩ (λi σ' H' _ z=>ba.of (z.2.1 _ _ hx)) (λi x σ' H4 hxi z=>?_) λσ' H4 z=>?_⟩
   ·obtain⟨⟨v2,v3,v4,rfl⟩,s4,Dp⟩:=z;have hi:=(List.getElem?_eq_some_iff.mp hxi).1;have hhi:W.hs[i]?=some (W.hs[i]'(by have:=hh.1; omega)):=getElem?_eq_getElem _;obtain⟨t,rfl,ht⟩:=hh.2 i x _ hxi hhi;dsimp! [];refine⟨[_,_],s4.cg ht,rfl,?_⟩;dsimp! [];refine aJ.of (ah (cH (bB hr) (pv 1) (pv 3) gj rfl)) ?_;dsimp! [];have lU:=dz (jk _ (jk N List.nodup_nil)) (hle i);refine⟨_,gE.k (k:=Sum.inl ((W.hs[i]'(by have:=hh.1; omega)).1:Int)) Dp (aG (by rw [fV]; omega)),⟨_,_,_,rfl⟩,.putD s4 hf,?_⟩;unfold mJ;rw [ae,mM,take_add_one,hhi,map_append];show _=some (HO.dK (eB (iQ ((W.hs.take i).map (·.1)++[(W.hs[i]'(by have:=hh.1; omega)).1]) _)));rw [oa]
   ·obtain⟨⟨v2,v3,v4,rfl⟩,s4,Dp⟩:=z;rw [<-hh.1] at Dp;have abI:=hle W.hs.length;rw [take_length] at Dp abI;refine aJ.of (ah (aB (aR (ja rfl) rfl T.fR gc (aa (pv 1) af)))) ?_;dsimp! [];refine rG Dp (jk _ (jk N List.nodup_nil)) abI bO (wY W.g W.hs W.ts.length) (λx=>?_) λr hr=>q r _ (s4.trans (ak.put hr)) (s4.free hr) ae
    rw [wZ ok,gB,gB,hN];constructor
    ·rintro((y | y) | y)
     ·cases y
     ·exact .inl y
     ·obtain⟨p,hp,e⟩:=mem_map.mp y;exact .inr ⟨p,hp,e⟩
    ·rintro(y | ⟨p,hp,e⟩)
     ·exact .inl (.inr y)
     ·exact .inr (mem_map.mpr ⟨p,hp,e⟩)
structure CW (ts:List Tg) (S0 U0 U:List Nat):Prop where
 nd:U.Nodup
 le:∀k∈U,1<=k/\k<=ts.length
 has:∀k∈S0,k∈U
 lst:∀k∈U,sW ts S0 k
 pre:U0 <+: U
theorem N3 {ts:List Tg}{S0 U:List Nat}(h:∀k∈U,sW ts S0 k) {k:Nat}{t:Tg}(ht:iU ts k t) (hk:k∈U) {j:Nat}(hj:j∈gY t U):sW ts S0 j:=by
 have c:=sW.clo ts S0;unfold gY at hj;split at hj
 ·rename_i m e;split at hj
  ·rename_i hm;exact c.pair k t m ht (h k hk) e (h m hm) j hj
  ·exact c.held k t ht (h k hk) j hj
 ·exact c.held k t ht (h k hk) j hj
theorem CW.ins {ts:List Tg}{S0 U0:List Nat}(ok:wU ts):∀(N:List Nat) {U:List Nat},CW ts S0 U0 U->(∀j∈N,sW ts S0 j/\1<=j/\j<=ts.length)->CW ts S0 U0 (iQ N U)
 | [],_,h,_=>h
 | k::N,U,h,hN=>by
  refine CW.ins ok N (U:=n_ U k) ⟨Hd h.nd,λx hx=>?_,λx hx=>mN.mpr (.inl (h.has x hx)),λx hx=>?_,h.pre.trans (CC U k)⟩ λj hj=>hN j (mem_cons_of_mem _ hj)
  ·rcases mN.mp hx with hx | rfl
   ·exact h.le x hx
   ·exact(hN x mem_cons_self).2
  ·rcases mN.mp hx with hx | rfl
   ·exact h.lst x hx
   ·exact(hN x mem_cons_self).1
theorem CW.re {ts:List Tg}{S0 U0 U:List Nat}(h:CW ts S0 U0 U):CW ts S0 U U:=⟨h.nd,h.le,h.has,h.lst,List.prefix_refl _⟩
noncomputable def IWh (d l:Addr) (ts:List Tg) (S:List Nat) (th:Addr) (H0:Hp) (m:Nat) (σ:St) (H:Hp):Prop:=∃(o3 o5 o6 o7 o8 o9:Option V) (many:Int) (U:List Nat),σ=[some (.ref d),some (.ref l),some (.ref th),o3,some (.int many),o5,o6,o7,o8,o9]/\ak H0 H/\mJ H th U/\CW ts S U U/\(many=-1\/(many=(U.length:Int)/\Yt ts (·∈U))\/(0<=many/\many < (U.length:Int)))/\m=(ts.length - U.length)+(if many=(U.length:Int)then 0 else 1)
noncomputable def IWi (d l:Addr) (ts:List Tg) (S U0:List Nat) (th l2:Addr) (H0:Hp) (i:Nat) (σ:St) (H:Hp):Prop:=∃(o3 o5 o6 o7 o8 o9:Option V) (U:List Nat),σ=[some (.ref d),some (.ref l),some (.ref th),o3,some (.int (U0.length:Nat)),o5,o6,o7,o8,o9]/\ak H0 H/\H l2=some (.lst (aE U0))/\mJ H th U/\CW ts S U0 U/\(U.length=U0.length->∀j:Nat,j < i->∀k t,U0[j]?=some k->iU ts k t->∀x∈gY t U0,x∈U0)
noncomputable def JWi (d l:Addr) (ts:List Tg) (U0 U:List Nat) (th:Addr) (k:Nat) (t:Tg) (lf:Addr) (o9:Option V) (K:Frag) (H4:Hp) (σ:St) (H:Hp):Prop:=∃(lw:Addr) (xs:List V) (vl:List Vl),σ=[some (.ref d),some (.ref l),some (.ref th),some (.int (k:Nat)),some (.int (U0.length:Nat)),some (.str t.sort),some (.ref lf),some (wV t.words),some (.ref lw),o9]/\ak H4 H/\H lw=some (.lst xs)/\ik K H xs vl/\vl.filterMap kC=gY t U/\(∀v∈vl,v∈t.fs)/\xs.length<=1000
noncomputable def IWj (d l:Addr) (ts:List Tg) (U0:List Nat) (th:Addr) (k:Nat) (t:Tg) (lf lw:Addr) (ws:List V) (vl:List Vl) (l2:Addr) (U1:List Nat) (K:Frag) (H0:Hp) (j:Nat) (σ:St) (H:Hp):Prop:=(∃q9,σ=[some (.ref d),some (.ref l),some (.ref th),some (.int (k:Nat)),some (.int (U0.length:Nat)),some (.str t.sort),some (.ref lf),some (wV t.words),some (.ref lw),q9])/\ak H0 H/\H l2=some (.lst (aE U0))/\H lw=some (.lst ws)/\ik K H ws vl/\mJ H th (iQ ((vl.take j).filterMap kC) U1)
noncomputable def ICl (d l:Addr) (S:List Nat) (th:Addr) (H0:Hp) (i:Nat) (σ:St) (H:Hp):Prop:=(∃o3 o4 o5 o6 o7 o8 o9,σ=[some (.ref d),some (.ref l),some (.ref th),o3,o4,o5,o6,o7,o8,o9])/\ak H0 H/\mJ H th (S.take i)
inductive pE (K:Frag) (vs:List V) (H:Hp) (Q:VK) (E:XK):Prop
 | mk (d l:Addr) (ts:List Tg) (S:List Nat) (_:vs=[.ref d,.ref l]) (_:pM K H d ts) (_:wU ts) (_:ts.length<=63) (_:H l=some (.lst (aE S))) (_:S.Nodup) (_:∀k∈S,1<=k/\k<=ts.length) (_:∀r H',ak H H'->H r=none->H' r=some (.lst (aE (cls ts S)))->Q (.ref r) H'):pE K vs H Q E
theorem N4 (T:Txt K mg a):aU P w K mg base cU 1 a.Bz a.BA ["_law_things","_law_some"] (pE K):=by
 refine T.uT.ok gG (λvs H Q E h=>?_) (λbY A outer s H vs Q E hr h=>?_)
 ·obtain⟨_,_,_,_,rfl,_⟩:=h;rfl
 ·obtain⟨d,l,ts,S,rfl,h,ok,bO,hl,nd,hS,q⟩:=h;refine⟨_,(ag (aN (i:=2) gG.nd rfl (Or.inl rfl) gq) (ag (cp PassesOwn.never rfl (bQ (pv 1)) (a_ (i:=3) gG.nd rfl (Or.inl rfl)) ao) ao)),?_⟩;dsimp! [];intro th G5;have lS:=dz nd hS;refine⟨⟨_,ba.of (ak.put G5 _ _ hl)⟩,?_⟩;refine cV (aE S) (ICl d l S th H) ⟨⟨_,_,_,_,_,_,_,rfl⟩,ak.put G5,ae⟩ (λi σ' H' _ hh=>ba.of (hh.2.1 _ _ hl)) (λi x σ' H2 hx hh=>?_) λσ' H2 hh=>?_
  ·obtain⟨k,hk,rfl⟩:=cu hx;obtain⟨⟨_,_,_,_,_,_,_,rfl⟩,s2,sL⟩:=hh;refine gN ?_;refine aJ.of (ah (cH (bB hr) (pv 2) (pv 3) gj rfl)) ?_;dsimp! [];have hki:=(List.getElem?_eq_some_iff.mp hk).1;have sX:S.take (i+1)=S.take i++[k]:=by
    rw [take_add_one,hk];rfl
   refine⟨_,gE.k (k:=Sum.inl (k:Int)) sL (aG (by rw [fV,length_take]; omega)),⟨_,_,_,_,_,_,_,rfl⟩,.putD s2 G5,?_⟩;unfold mJ;rw [ae,mM];have hn:k∉S.take i:=λz=>by
    have n2:(S.take (i+1)).Nodup:=List.Pairwise.sublist (List.take_sublist _ _) nd;rw [sX] at n2;exact(nodup_append.mp n2).2.2 k z k (mem_singleton.mpr rfl) rfl
   unfold n_;rw [if_neg hn,sX]
  ·obtain⟨⟨_,_,_,_,_,_,_,rfl⟩,s2,sL⟩:=hh;rw [aI,take_length] at sL;refine aJ.of (ag (aN (i:=4) gG.nd rfl (Or.inl rfl) (YV Uu ai)) (ag (uc PassesOwn.never ao) ao)) ?_;dsimp! [];have c0:CW ts S S S:=⟨nd,hS,λ_ z=>z,λk hk=>.Yu hk,List.prefix_refl _⟩
   refine ww2 (IWh d l ts S th H) (λσ H2=>∃o3 o4 o5 o6 o7 o8 o9 U,σ=[some (.ref d),some (.ref l),some (.ref th),o3,o4,o5,o6,o7,o8,o9]/\ak H H2/\mJ H2 th U/\CW ts S U U/\Yt ts (·∈U)) _ ⟨_,_,_,_,_,_,-1,S,rfl,s2,sL,c0,.inl rfl,rfl⟩ ?_ ?_
   ·rintro m σ H3 ⟨o3,o5,o6,o7,o8,o9,many,U,rfl,s3,IT,c3,hc3,rfl⟩;refine kM.of (aF jH (pv 4) (aR gP rfl T.f_ eE (aa (pv 2) af)) (aH _)) ?_;dsimp! [];have lU:=dz c3.nd c3.le;refine⟨_,IT,?_⟩;rw [fV];refine bj (λz=>?_) λz=>?_
    ·have UL:many≠(U.length:Int):=by
      intro e;rw [e] at z;simp at z
     refine aJ.of (ag (aN (i:=4) gG.nd rfl (Or.inl rfl) (aR gP rfl T.f_ eE (aa (pv 2) af))) (ah (cp PassesOwn.never rfl (bQ (cv (DL rfl) rfl T.iC ib (aa (pv 2) af))) (a_ (i:=3) gG.nd rfl (Or.inl rfl)) ao))) ?_;dsimp! [];refine⟨_,IT,?_⟩;refine⟨_,.inl IT,λl2 fW=>?_⟩;rw [vh,fV];have s4:=s3.trans (ak.put (o:=.lst (aE U)) fW);have Dp:mJ (upd H3 l2 (.lst (aE U))) th U:=ak.put fW _ _ IT;have Ni:upd H3 l2 (.lst (aE U)) l2=some (.lst (aE U)):=ae;have nlt:l2≠th:=(aC IT fW).symm;have agS:H l2=none:=s3.free fW;generalize upd H3 l2 (.lst (aE U))=H4 at s4 Dp Ni;refine⟨⟨_,ba.of Ni⟩,cV (aE U) (IWi d l ts S U th l2 H) ⟨_,_,_,_,_,_,U,rfl,s4,Ni,Dp,c3,λ_ j hj=>absurd hj (Nat.not_lt_zero j)⟩ (λi σ' H' _ hh=>by
      obtain⟨_,_,_,_,_,_,_,_,_,e,_⟩:=hh;exact ba.of e) (λi x σ' H5 hx hh=>?_) λσ' H5 hh=>?_⟩
     ·obtain⟨k,hk,rfl⟩:=cu hx;obtain⟨p3,p5,p6,p7,p8,p9,U1,rfl,s5,IP,R_,c5,hc5⟩:=hh;have hkU:=mem_of_getElem? hk;obtain⟨t,ht⟩:=iU.of (c3.le k hkU);have lU1:=dz c5.nd c5.le;refine gN ?_;refine aJ.of (ag (vC (cf (bB hr) (pv 0) (pv 3) (λ_ _=>rfl)) (jF (n:=3) rfl (cm (a_ (i:=5) gG.nd rfl (Or.inl rfl)) (cm (a_ (i:=6) gG.nd rfl (Or.inl rfl)) (cm (a_ (i:=7) gG.nd rfl (Or.inl rfl)) hW))))) (ag kZ ao)) ?_;dsimp! [];obtain⟨p,lf,hp,hg⟩:=h.DM s5 ht;have O2:=hp.same s5;obtain⟨h1,xs,h2,h3,h4⟩:=id O2;refine⟨_,hg,p,rfl,_,bX.of h1,rfl,_,_,rfl,_,_,rfl,_,_,rfl,rfl,?_⟩;refine yJ (JWi d l ts U U1 th k t lf p9 K H5) (yg.of (bh (aF cj (pv 5) az (aH _)) (ah (aN (i:=8) gG.nd rfl (Or.inl rfl) (pv 6))) (ah (aN (i:=8) gG.nd rfl (Or.inl rfl) (bu DG (gk hX (pv 6) (gK ai) iX) (cv tU rfl T.uW vJ (aa (ng (fL cj (pv 5) az (aH _)) (ng (fL cj (av aq (av df (pv 6) ai (λ_ _=>rfl)) ai (λ_ _=>rfl)) az (aH _)) (qi (IZ (UT (bB hr) (av aq (av df (pv 6) ai (λ_ _=>rfl)) ai (λ_ _=>rfl)) (pv 2)))))) af)))))) ?_) ?_
      ·dsimp! [];have nil:∀(x:Addr) (zs:List V) H6,ak H5 H6->H6 x=some (.lst zs)->gY t U1=[]->Zc (.ref x) (.int 0) H6 λx H1=>JWi d l ts U U1 th k t lf p9 K H5 [some (V.ref d),some (V.ref l),some (V.ref th),some (V.int k),some (V.int (U.length:Nat)),some (V.str t.sort),some (V.ref lf),some (wV t.words),some x,p9] H1:=λx zs H6 s6 e6 ew=>by
        refine⟨x,0,zs,rfl,rfl,e6,by decide,by decide,Nat.zero_le _,λr hr=>?_⟩;exact⟨r,[],[],rfl,s6.trans (ak.put hr),by rw [ae]; simp,⟨rfl,λi x v a=>by simp at a⟩,by rw [ew]; rfl,(λv hv=>nomatch hv),by simp⟩
       have ec:∀y1 y2:V,iw [y1,y2] (some 1) none=[y2]:=λ_ _=>by
        unfold iw;rfl
       cases t with
       | plain fs w=>exact bj (λ_=>⟨lf,xs,fs,rfl,.refl _,h2,h3,rfl,(λv hv=>hv),h4⟩) λz=>absurd (decide_eq_true rfl) z
       | weak f=>exact bj (λz=>absurd (of_decide_eq_true z) R6) λ_=>⟨lf,xs,rfl,ba.of h2,λr hr=>bj (λz=>absurd (of_decide_eq_true z) R8) λ_=>nil r _ _ (ak.put hr) ae rfl⟩
       | pair kk vv=>
        have fW:xs.length=2:=h3.1.symm;obtain⟨x0,x1,rfl⟩:∃x0 x1,xs=[x0,x1]:=by
         match xs,fW with
         | [x,y],_=>exact⟨x,y,rfl⟩
        have hkk:=h3.2 0 x0 kk rfl rfl;have hvv:=h3.2 1 x1 vv rfl rfl;refine bj (λz=>absurd (of_decide_eq_true z) R7) λ_=>⟨lf,_,rfl,ba.of h2,λr hr=>bj (λ_=>?_) λz=>absurd (decide_eq_true rfl) z⟩
        rw [ec];have s6:ak H5 (upd H5 r (.lst [x1])):=ak.put hr;have Sa:upd H5 r (.lst [x1]) r=some (.lst [x1]):=ae;generalize upd H5 r (.lst [x1])=H6 at s6 Sa;obtain⟨tk,rfl,Uv⟩:=hkk.same s6;refine Dm (ba.of (s6 _ _ h2)) (dk (j:=0) rfl) (bC Uv kk.hd ⟨rfl,?_⟩)
        cases kk with
        | no=>exact bj (λz=>absurd (V.str.inj (of_decide_eq_true z)) (by show ¬(("nothing":Str)="thing"); decide +kernel)) λ_=>nil r _ _ s6 Sa rfl
        | num m=>exact bj (λz=>absurd (V.str.inj (of_decide_eq_true z)) (by show ¬(("number":Str)="thing"); decide +kernel)) λ_=>nil r _ _ s6 Sa rfl
        | th m=>
         obtain⟨i0,ez,hi0⟩:=ok _ ht.mem (.th m) mem_cons_self;obtain⟨y,ey⟩:∃y:Nat,m=(y:Int):=⟨m.toNat,by omega⟩
         subst ey;have hm6:mJ H6 th U1:=s6 _ _ R_;have ek:fU (.pair (.th (y:Int)) vv)=some y:=by
          show some ((y:Int)).toNat=some y;rw [Int.toNat_natCast]
         refine bj (λ_=>Dm (ba.of (s6 _ _ h2)) (dk (j:=0) rfl) (bC Uv rfl ⟨_,hm6.ask y,?_⟩)) λz=>absurd (decide_eq_true rfl) z
         rw [mK]
         by_cases yQ:y∈U1
         ·rw [decide_eq_true yQ,if_pos rfl];refine⟨r,1,_,rfl,rfl,Sa,by decide,by decide,by rw [sizeLine_eq]; exact Nat.le_of_ble_eq_true rfl,λr2 Im=>⟨r2,[x1],[vv],rfl,s6.trans (ak.put Im),by rw [ae]; simp,⟨rfl,λi x v a1 a2=>?_⟩,?_,λv hv=>?_,by simp⟩⟩
          ·cases i with
           | zero=>
            cases a1;cases a2;exact hvv.same (s6.trans (ak.put Im))
           | succ i=>simp at a1
          ·unfold gY;rw [ek];dsimp only;rw [if_pos yQ];rfl
          ·rw [mem_singleton.mp hv];exact mem_cons_of_mem _ mem_cons_self
         ·rw [decide_eq_false yQ,if_neg Bool.false_ne_true];refine nil r _ _ s6 Sa ?_;unfold gY;rw [ek];dsimp only;rw [if_neg yQ];rfl
      ·rintro σ6 H6 ⟨lw,ws,vl,rfl,s6,hw6,Qk,ew6,abJ,lw6⟩;refine aJ.of (ah (cp PassesOwn.never rfl (bQ (pv 8)) (a_ (i:=9) gG.nd rfl (Or.inl rfl)) ao)) ?_;dsimp! [];have Ql:=s5.trans s6;have nlw:lw≠th:=λe=>by
        have:H6 th=some (.dK (eB U1)):=s6 _ _ R_;rw [<-e,hw6] at this;cases this
       refine⟨⟨_,ba.of hw6⟩,cV ws (IWj d l ts U th k t lf lw ws vl l2 U1 K H) ⟨⟨_,rfl⟩,Ql,s6 _ _ IP,hw6,Qk,s6 _ _ R_⟩ (λj σ' H' _ hh=>ba.of hh.2.2.2.1) (λj x σ' H7 hx hh=>?_) λσ' H7 hh=>?_⟩
       ·obtain⟨⟨q9,rfl⟩,s7,Qm,hw7,Qn,Yw⟩:=hh;have hj:=(List.getElem?_eq_some_iff.mp hx).1;have hvj:vl[j]?=some (vl[j]'(by have:=Qk.1; omega)):=getElem?_eq_getElem _;obtain⟨v,ev⟩:∃v,vl[j]'(by have:=Qk.1; omega)=v:=⟨_,rfl⟩
        rw [ev] at hvj;obtain⟨tv,rfl,Qj⟩:=Qn.2 j x v hx hvj;have okv:=ok t ht.mem v (abJ v (mem_of_getElem? hvj));have sX:vl.take (j+1)=vl.take j++[v]:=by
         rw [take_add_one,hvj];rfl
        refine gN ?_;refine aJ.of (ah (bh (aF cj (av aq (pv 9) ai (λ_ _=>rfl)) az (aH _)) (ah (cH (bB hr) (pv 2) (av aq (pv 9) ai (λ_ _=>rfl)) gj rfl)) aL)) ?_;dsimp! [];refine bC Qj v.hd ⟨rfl,?_⟩;have no:[v].filterMap kC=[]->IWj d l ts U th k t lf lw ws vl l2 U1 K H (j+1) [some (V.ref d),some (V.ref l),some (V.ref th),some (V.int k),some (V.int (U.length:Nat)),some (V.str t.sort),some (V.ref lf),some (wV t.words),some (V.ref lw),some (V.ref tv)] H7:=λe=>by
         refine⟨⟨_,rfl⟩,s7,Qm,hw7,Qn,?_⟩;rw [sX,List.filterMap_append,e,append_nil];exact Yw
        cases v with
        | no=>exact bj (λz=>absurd (V.str.inj (of_decide_eq_true z)) (by show ¬(("nothing":Str)="thing"); decide +kernel)) λ_=>no rfl
        | num m=>exact bj (λz=>absurd (V.str.inj (of_decide_eq_true z)) (by show ¬(("number":Str)="thing"); decide +kernel)) λ_=>no rfl
        | th m=>
         obtain⟨i0,ez,hi0⟩:=okv;obtain⟨y,ey⟩:∃y:Nat,m=(y:Int):=⟨m.toNat,by omega⟩
         subst ey;have lI:(iQ ((vl.take j).filterMap kC) U1).length<=63:=by
          refine Nat.le_trans (dz (n:=ts.length) (jk _ c5.nd) λx hx=>?_) bO;rcases (gB _ _).mp hx with hx | hx
          ·exact c5.le x hx
          ·exact rC (λv hv=>ok t ht.mem v (abJ v (List.mem_of_mem_take hv))) hx
         have agT:∀b u,H b=some u->b≠th:=λb u e=>aC e G5
         refine bj (λ_=>bC Qj rfl ⟨_,gE.k (k:=Sum.inl (y:Int)) Yw (aG (by rw [fV]; omega)),⟨_,rfl⟩,.putD s7 G5,?_,?_,?_,?_⟩) λz=>absurd (decide_eq_true rfl) z
         ·rw [au nlt];exact Qm
         ·rw [au nlw];exact hw7
         ·exact Qn.kp (S:=(·=th)) ((Kp.refl _ _).set rfl) λb e=>by
           subst e;exact .inr ⟨_,Yw⟩
         ·unfold mJ;rw [ae,mM,sX,List.filterMap_append];have:[Vl.th (y:Int)].filterMap kC=[y]:=by
           show [((y:Int)).toNat]=[y]
           rw [Int.toNat_natCast]
          rw [this,oa]
       ·obtain⟨⟨q9,rfl⟩,s7,Qm,hw7,Qn,Yw⟩:=hh;rw [<-Qk.1,take_length,ew6] at Yw;have aeQ:k∈U1:=c5.pre.subset hkU;have c7:CW ts S U (iQ (gY t U1) U1):=c5.ins ok _ λj hj=>⟨N3 c5.lst ht aeQ hj,NG ok ht.mem hj⟩
        refine⟨_,_,_,_,_,_,_,rfl,s7,Qm,Yw,c7,λe j hj k2 t2 Yx ky x hx=>?_⟩;have p1:=(rH (gY t U1) U1).length_le;have p2:=c5.pre.length_le;have e1:U=U1:=List.IsPrefix.eq_of_length c5.pre (by omega);rcases Nat.lt_or_ge j i with h1 | h1
        ·exact hc5 (by omega) j h1 k2 t2 Yx ky x hx
        ·have:j=i:=by omega
         subst this;rw [hk] at Yx;cases Yx
         cases ht.one ky
         have e2:U1=iQ (gY t U1) U1:=List.IsPrefix.eq_of_length (rH _ _) (by omega);rw [e1,e2];rw [e1] at hx;exact(gB _ _).mpr (.inr hx)
     ·obtain⟨p3,p5,p6,p7,p8,p9,U1,rfl,s5,IP,R_,c5,hc5⟩:=hh;have lU1:=dz c5.nd c5.le;have hle:=c5.pre.length_le;refine⟨(ts.length - U1.length)+(if ((U.length:Nat):Int)=(U1.length:Int)then 0 else 1),?_,_,_,_,_,_,_,_,U1,rfl,s5,R_,c5.re,?_,rfl⟩
      ·rw [if_neg UL]
       split <;> omega
      ·by_cases e:U1.length=U.length
       ·have eU:U1=U:=(List.IsPrefix.eq_of_length c5.pre e.symm).symm;subst eU;refine .inr (.inl ⟨rfl,NH.mpr λk t ht hk=>?_⟩);obtain⟨j,hj⟩:=mem_iff_getElem?.mp hk;exact hc5 rfl j (by rw [aI]; exact(List.getElem?_eq_some_iff.mp hj).1) k t hj ht
       ·exact .inr (.inr ⟨by omega,by omega⟩)
    ·have he:many=(U.length:Int):=by
      refine Classical.byContradiction λe=>z ?_
      simp [e]
     have cl:Yt ts (·∈U):=by
      rcases hc3 with y | ⟨_,y⟩ | ⟨_,y⟩
      ·omega
      ·exact y
      ·omega
     exact⟨s3,U,IT,c3,cl⟩
   ·rintro σ H3 ⟨o3,o4,o5,o6,o7,o8,o9,U,rfl,s3,IT,c3,cl3⟩;refine aJ.of (ah (aB (aR (ja rfl) rfl T.fR gc (aa (pv 2) af)))) ?_;dsimp! [];refine rG IT c3.nd c3.le bO (nW ts S) (λx=>?_) λr hr=>q r _ (s3.trans (ak.put hr)) (s3.free hr) ae
    rw [Ha ok hS];exact⟨c3.lst x,λz=>z _ cl3 c3.has⟩
noncomputable def ILb (d l:Addr) (z:Str) (ts:List Tg) (S:List Nat) (b:Addr) (H0:Hp) (i:Nat) (σ:St) (H:Hp):Prop:=(∃o3 o4,σ=[some (.ref d),some (.ref l),some (.str z),some (.ref b),o3,o4])/\ak H0 H/\H b=some (.lst (aE ((S.take i).filter (jY ts S z))))
inductive vi (K:Frag) (vs:List V) (H:Hp) (Q:VK) (E:XK):Prop
 | mk (d l:Addr) (ts:List Tg) (S:List Nat) (z:Str) (_:vs=[.ref d,.ref l,.str z]) (_:z="weak"\/z="pair") (_:pM K H d ts) (_:wU ts) (_:ts.length<=63) (_:H l=some (.lst (aE S))) (_:S.Nodup) (_:∀k∈S,1<=k/\k<=ts.length) (_:∀r H',ak H H'->H r=none->H' r=some (.lst (aE (pN ts S z)))->Q (.ref r) H'):vi K vs H Q E
theorem xa (T:Txt K mg a):aU P w K mg base cU 1 a.BB a.BC ["_law_things","_law_some","_law_sort"] (vi K):=by
 refine T.pb.ok wa (λvs H Q E h=>?_) (λbY A outer s H vs Q E hr h=>?_)
 ·obtain⟨_,_,_,_,_,rfl,_⟩:=h;rfl
 ·obtain⟨d,l,ts,S,z,rfl,hz,h,ok,bO,hl,nd,hS,q⟩:=h;refine⟨_,(ag (aN (i:=3) wa.nd rfl (Or.inl rfl) (bP af)) (ag (cp PassesOwn.never rfl (bQ (pv 1)) (a_ (i:=4) wa.nd rfl (Or.inl rfl)) ao) ao)),?_⟩;dsimp! [];intro b hb;refine⟨⟨_,ba.of (ak.put hb _ _ hl)⟩,?_⟩;have lS:=dz nd hS;refine cV (aE S) (ILb d l z ts S b H) ⟨⟨none,none,rfl⟩,ak.put hb,ae⟩ (λi σ' H' _ hh=>ba.of (hh.2.1 _ _ hl)) (λi x σ' H2 hx hh=>?_) λσ' H2 hh=>?_
  ·obtain⟨k,hk,rfl⟩:=cu hx;obtain⟨⟨o3,o4,rfl⟩,s2,ui⟩:=hh;obtain⟨t,ht⟩:=iU.of (hS k (mem_of_getElem? hk));obtain⟨j,ek,et⟩:=id ht;refine gN ?_;refine aJ.of (ag (aN (i:=5) wa.nd rfl (Or.inl rfl) (eJ (aF cj (av aq (cf (bB hr) (pv 0) (pv 4) (λ_ _=>rfl)) ai (λ_ _=>rfl)) (pv 2) (aH _)) (av df (av aq (cf (bB hr) (pv 0) (pv 4) (λ_ _=>rfl)) ai (λ_ _=>rfl)) ai (λ_ _=>rfl)) (bo (aa az af)))) (ah (bh (PW.pt (iV (aF cj (av aq (pv 5) ai (λ_ _=>rfl)) az (aH _)) (gJ (aF me (av aq (pv 5) ai (λ_ _=>rfl)) (pv 1) (by with_unfolding_all rfl))))) (ah (aY (mf PySem.F.plainAttrs_list PySem.F.slot_list_append PySem.F.type_list_append fc (pv 3) (aa (pv 4) af)))) aL))) ?_;dsimp! [];obtain⟨p,lf,hp,hg⟩:=h.DM s2 ht;have qx:=hp.same s2;obtain⟨h1,xs,h2,h3,h4⟩:=id qx;have eW:jY ts S z k=(decide (t.sort=z)&&((t.fs.take 1).filterMap kC).any λj=>decide (j∉S)):=by
    unfold jY;rw [ek,Nat.add_sub_cancel,et]
   have sX:S.take (i+1)=S.take i++[k]:=by
    rw [take_add_one,hk];rfl
   have no:∀(v:V) H5,ak H2 H5->jY ts S z k=false->ILb d l z ts S b H (i+1) [some (V.ref d),some (V.ref l),some (V.str z),some (V.ref b),some (V.int k),some v] H5:=λv H5 s5 e=>by
    refine⟨⟨_,_,rfl⟩,s2.trans s5,?_⟩;rw [sX,filter_append,List.filter_cons_of_neg (by rw [e]; exact Bool.false_ne_true),List.filter_nil,append_nil];exact s5 _ _ ui
   refine⟨_,hg,bC (bX.of h1) rfl ⟨rfl,bj (λc=>?_) λc=>?_⟩⟩
   ·have c2:t.sort=z:=V.str.inj (of_decide_eq_true c);rw [decide_eq_true c2,Bool.true_and] at eW;obtain⟨v,vs,ef⟩:∃v vs,t.fs=v::vs:=by
     cases t with
     | plain fs w=>
      have c3:("plain":Str)=z:=c2;rcases hz with y | y
      ·exact absurd (c3.trans y) (by decide +kernel)
      ·exact absurd (c3.trans y) (by decide +kernel)
     | weak f=>exact⟨f,[],rfl⟩
     | pair k v=>exact⟨k,[v],rfl⟩
    rw [ef] at h3;obtain⟨x0,IM,rfl⟩:∃x0 IM,xs=x0::IM:=by
     have:=h3.1
     match xs,this with
     | x::y,_=>exact⟨x,y,rfl⟩
    have hv:=h3.2 0 x0 v rfl rfl;obtain⟨tv,rfl,Qj⟩:=hv;have okv:=ok t ht.mem v (by rw [ef]; exact mem_cons_self);have eN:((t.fs.take 1).filterMap kC)=[v].filterMap kC:=by rw [ef]; rfl
    rw [eN] at eW;refine⟨_,hg,bC (bX.of h1) rfl (Dm (ba.of h2) (dk (j:=0) rfl) (bC Qj v.hd ⟨rfl,?_⟩))⟩
    cases v with
    | no=>exact bj (λz=>absurd (V.str.inj (of_decide_eq_true z)) (by show ¬(("nothing":Str)="thing"); decide +kernel)) λ_=>no _ _ (.refl _) eW
    | num m=>exact bj (λz=>absurd (V.str.inj (of_decide_eq_true z)) (by show ¬(("number":Str)="thing"); decide +kernel)) λ_=>no _ _ (.refl _) eW
    | th m=>
     obtain⟨i0,ez,hi0⟩:=okv;obtain⟨y,ey⟩:∃y:Nat,m=(y:Int):=⟨m.toNat,by omega⟩
     subst ey;have eW2:jY ts S z k=decide (y∉S):=by
      rw [eW];show([((y:Int)).toNat].any λj=>decide (j∉S))=_;rw [Int.toNat_natCast,List.any_cons,List.any_nil,Bool.or_false]
     refine bj (λ_=>bC Qj rfl ⟨l,_,rfl,.inl (ba.of (s2 _ _ hl)),rfl,lz S,_,rfl,?_⟩) λz=>absurd (decide_eq_true rfl) z
     rw [if_pos rfl,Cu]
     by_cases yQ:y∈S
     ·rw [decide_eq_true yQ];exact ee (no _ _ (.refl _) (by rw [eW2,decide_eq_false λz=>z yQ]))
     ·rw [decide_eq_false yQ];have ll:(aE ((S.take i).filter (jY ts S z))).length<=63:=by
       rw [aI];have h1:=List.length_filter_le (jY ts S z) (S.take i);rw [length_take] at h1;omega
      refine jK ⟨.inl ⟨rfl,_,ba.of ui⟩,b,_,_,rfl,rfl,ui,aG (by omega),⟨_,_,rfl⟩,.putD s2 hb,?_⟩;rw [ae,sX,filter_append,List.filter_cons_of_pos (by rw [eW2,decide_eq_true yQ]),List.filter_nil];unfold aE;rw [map_append,map_append];rfl
   ·refine⟨by rw [sizeLine_eq]; decide,λp3 R4=>bC (bX.of ae) rfl ⟨rfl,bj (λz=>absurd (V.str.inj (of_decide_eq_true z)) (by show ¬(("nothing":Str)="thing"); decide +kernel)) λ_=>no _ _ (ak.put R4) ?_⟩⟩;rw [eW,decide_eq_false λy=>c (decide_eq_true (by rw [y])),Bool.false_and]
  ·obtain⟨⟨o3,o4,rfl⟩,s2,ui⟩:=hh;refine aJ.of (ah (aB (pv 3))) ?_;dsimp! [];rw [aI,take_length] at ui;exact q b H2 s2 hb ui
section
variable {X:Cx}
theorem Es:fK X (.type "dict") (λxs H Q=>∃(p:Addr) (kvs:List (Key×V)),xs=[.ref p]/\Rd H p (.dK kvs)/\∀q,H q=none->Q (.ref q) (upd H q (.dK kvs))):=by
 intro pins s σ H xs us Q I r h;obtain⟨p,kvs,rfl,hq,q⟩:=h;obtain⟨u,rfl,rx⟩:=vals1 r;cases rx;exact J4 I hq λl s' hl I'=>⟨.ref l,_,I',rfl,q l hl⟩
end
theorem s_ {X:Cx}{K:Frag}(h:X.K=K):kW X (compareOp .NotIn) (Y9 K true):=by
 subst h;exact me
theorem N5 {X:Cx}{K:Frag}(h:X.K=K):kW X (binaryOp .Add) (Q0 K):=by
 subst h;exact eS
noncomputable def jv:Tg->Tg
 | .weak _=>.weak .no
 | .pair _ _=>.pair .no .no
 | t=>t
noncomputable def lA:Tg->Tg
 | .plain fs _=>.plain fs none
 | t=>t
theorem He (t:Tg):jv (lA t)=lA (jv t):=by cases t <;> rfl
theorem Hf (t:Tg):jv (jv t)=jv t:=by cases t <;> rfl
theorem Qo (t:Tg):lA (lA t)=lA t:=by cases t <;> rfl
noncomputable def jB (C D:List Nat) (k:Nat) (t:Tg):Tg:=if k∈D then lA (if k∈C then jv t else t)else(if k∈C then jv t else t)
theorem Qp (C D:List Nat) (k:Nat) (t:Tg):jv (jB C D k t)=jB (C++[k]) D k t:=by
 unfold jB;rw [if_pos (show k∈C++[k] from mem_append_right _ (mem_singleton.mpr rfl))]
 by_cases h1:k∈D <;> by_cases h2:k∈C
 ·rw [if_pos h1,if_pos h1,if_pos h2,He,Hf]
 ·rw [if_pos h1,if_pos h1,if_neg h2,He]
 ·rw [if_neg h1,if_neg h1,if_pos h2,Hf]
 ·rw [if_neg h1,if_neg h1,if_neg h2]
theorem Qq (C D:List Nat) (k:Nat) (t:Tg):lA (jB C D k t)=jB C (D++[k]) k t:=by
 unfold jB;rw [if_pos (show k∈D++[k] from mem_append_right _ (mem_singleton.mpr rfl))]
 by_cases h1:k∈D
 ·rw [if_pos h1,Qo]
 ·rw [if_neg h1]
theorem vj {C C' D D':List Nat}{k:Nat}(h1:k∈C↔k∈C') (h2:k∈D↔k∈D') (t:Tg):jB C D k t=jB C' D' k t:=by
 unfold jB
 by_cases a:k∈C <;> by_cases b:k∈D
 ·rw [if_pos a,if_pos (h1.mp a),if_pos b,if_pos (h2.mp b)]
 ·rw [if_pos a,if_pos (h1.mp a),if_neg b,if_neg λz=>b (h2.mpr z)]
 ·rw [if_neg a,if_neg λz=>a (h1.mpr z),if_pos b,if_pos (h2.mp b)]
 ·rw [if_neg a,if_neg λz=>a (h1.mpr z),if_neg b,if_neg λz=>b (h2.mpr z)]
noncomputable def bg (ts:List Tg) (C D:List Nat):List Tg:=ts.mapIdx λi t=>jB C D (i+1) t
theorem bK (ts:List Tg) (C D:List Nat) (i:Nat):(bg ts C D)[i]?=(ts[i]?).map (jB C D (i+1)):=by
 unfold bg;rw [List.getElem?_mapIdx]
theorem cE (ts:List Tg) (C D:List Nat):(bg ts C D).length=ts.length:=by
 unfold bg;rw [List.length_mapIdx]
theorem oe (ts:List Tg):bg ts [] []=ts:=by
 apply List.ext_getElem?;intro i;rw [bK]
 cases ts[i]? with
 | none=>rfl
 | some t=>rfl
theorem CF {ts:List Tg}{C C' D D':List Nat}(h1:∀k,k∈C↔k∈C') (h2:∀k,k∈D↔k∈D'):bg ts C D=bg ts C' D':=by
 apply List.ext_getElem?;intro i;rw [bK,bK]
 cases ts[i]? with
 | none=>rfl
 | some t=>exact congrArg some (vj (h1 _) (h2 _) t)
theorem og {ts:List Tg}{C D C' D':List Nat}{i:Nat}{t u:Tg}(ht:ts[i]?=some t) (hu:u=jB C' D' (i+1) t) (h1:∀k,k≠i+1->(k∈C↔k∈C')) (h2:∀k,k≠i+1->(k∈D↔k∈D')):(bg ts C D).set i u=bg ts C' D':=by
 apply List.ext_getElem?;intro j;rw [getElem?_set,cE];have hU:=(List.getElem?_eq_some_iff.mp ht).1
 by_cases e:i=j
 ·subst e;rw [if_pos rfl,if_pos hU,bK,ht,hu];rfl
 ·rw [if_neg e,bK,bK]
  cases ts[j]? with
  | none=>rfl
  | some t=>exact congrArg some (vj (h1 _ (by omega)) (h2 _ (by omega)) t)
theorem gQ {ts:List Tg}{C D:List Nat}{i:Nat}{t:Tg}(ht:(bg ts C D)[i]?=some t):(bg ts C D).set i (jv t)=bg ts (C++[i+1]) D:=by
 rw [bK] at ht
 cases e:ts[i]? with
 | none=>rw [e] at ht; cases ht
 | some t0=>
  rw [e] at ht;cases ht;exact og e (Qp C D _ t0) (λk hk=>⟨λz=>mem_append_left _ z,λz=>(mem_append.mp z).elim id λy=>absurd (mem_singleton.mp y) hk⟩) λk _=>Iff.rfl
theorem vk {ts:List Tg}{C D:List Nat}{i:Nat}{t:Tg}(ht:(bg ts C D)[i]?=some t):(bg ts C D).set i (lA t)=bg ts C (D++[i+1]):=by
 rw [bK] at ht
 cases e:ts[i]? with
 | none=>rw [e] at ht; cases ht
 | some t0=>
  rw [e] at ht;cases ht;exact og e (Qq C D _ t0) (λk _=>Iff.rfl) λk hk=>⟨λz=>mem_append_left _ z,λz=>(mem_append.mp z).elim id λy=>absurd (mem_singleton.mp y) hk⟩
theorem xb (t:Tg):(lA t).fs=t.fs/\(lA t).sort=t.sort/\eR (lA t)=eR t/\fU (lA t)=fU t/\valN (lA t)=valN t:=by
 cases t <;> exact⟨rfl,rfl,rfl,rfl,rfl⟩
theorem vm {ts ts':List Tg}{S S':List Nat}(hl:ts.length=ts'.length) (h:∀(i:Nat) t t',ts[i]?=some t->ts'[i]?=some t'->eR t=eR t'/\fU t=fU t'/\valN t=valN t') (hS:∀k,k∈S↔k∈S') {x:Nat}(hx:sW ts S x):sW ts' S' x:=λP c h0=>hx P ⟨λk t ht hk j hj=>by
  obtain⟨i,rfl,e⟩:=ht;have e2:ts'[i]?=some (ts'[i]'(by have:=(List.getElem?_eq_some_iff.mp e).1; omega)):=getElem?_eq_getElem _;obtain⟨a1,a2,a3⟩:=h i t _ e e2;exact c.held _ _ ⟨i,rfl,e2⟩ hk j (by rw [<-a1]; exact hj),λk t m ht hk hm hs j hj=>by
  obtain⟨i,rfl,e⟩:=ht;have e2:ts'[i]?=some (ts'[i]'(by have:=(List.getElem?_eq_some_iff.mp e).1; omega)):=getElem?_eq_getElem _;obtain⟨a1,a2,a3⟩:=h i t _ e e2;exact c.pair _ _ m ⟨i,rfl,e2⟩ hk (by rw [<-a2]; exact hm) hs j (by rw [<-a3]; exact hj)⟩ λk hk=>h0 k ((hS k).mp hk)
theorem vn {ts ts':List Tg}{S S':List Nat}(hl:ts.length=ts'.length) (h:∀(i:Nat) t t',ts[i]?=some t->ts'[i]?=some t'->eR t=eR t'/\fU t=fU t'/\valN t=valN t') (hS:∀k,k∈S↔k∈S'):cls ts S=cls ts' S':=by
 unfold cls;rw [hl];congr 1;funext x;rw [decide_eq_decide];exact⟨vm hl h hS,vm hl.symm (λi t t' a b=>let ⟨p,q,r⟩:=h i t' t b a; ⟨p.symm,q.symm,r.symm⟩) λk=>(hS k).symm⟩
theorem Qr (ts:List Tg) (C D:List Nat) {S S':List Nat}(hS:∀k,k∈S↔k∈S'):cls (bg ts C D) S=cls (bg ts C []) S':=by
 refine vn (by rw [cE,cE]) (λi t t' a b=>?_) hS;rw [bK] at a b
 cases e:ts[i]? with
 | none=>rw [e] at a; cases a
 | some t0=>
  rw [e] at a b;cases a;cases b;unfold jB;rw [if_neg (show ¬i+1∈([]:List Nat) from not_mem_nil)]
  by_cases z:i+1∈D
  ·rw [if_pos z];exact(xb _).2.2
  ·rw [if_neg z];exact⟨rfl,rfl,rfl⟩
theorem Hg (ts:List Tg) (C D S:List Nat) (z:Str):pN (bg ts C D) S z=pN (bg ts C []) S z:=by
 unfold pN;refine List.filter_congr λk _=>?_
 unfold jY;rw [bK,bK]
 cases ts[k - 1]? with
 | none=>rfl
 | some t=>
  show(decide ((jB C D (k - 1+1) t).sort=z)&&_)=(decide ((jB C [] (k - 1+1) t).sort=z)&&_)
  have:(jB C D (k - 1+1) t).sort=(jB C [] (k - 1+1) t).sort/\(jB C D (k - 1+1) t).fs=(jB C [] (k - 1+1) t).fs:=by
   unfold jB;rw [if_neg (show ¬k - 1+1∈([]:List Nat) from not_mem_nil)]
   by_cases z:k - 1+1∈D
   ·rw [if_pos z];exact⟨(xb _).2.1,(xb _).1⟩
   ·rw [if_neg z];exact⟨rfl,rfl⟩
  rw [this.1,this.2]
theorem Xr {m:Nat}{t:Tg}(h:∀v∈t.fs,v.ok m):∀v∈(jv t).fs,v.ok m:=by
 cases t with
 | plain fs w=>exact h
 | weak f=>
  intro v hv;rw [mem_singleton.mp hv];trivial
 | pair k u=>
  intro v hv;rcases mem_cons.mp hv with rfl | hv
  ·trivial
  ·rw [mem_singleton.mp hv];trivial
theorem Xs {m:Nat}{t:Tg}(C D:List Nat) (k:Nat) (h:∀v∈t.fs,v.ok m):∀v∈(jB C D k t).fs,v.ok m:=by
 unfold jB;have h1:∀v∈(if k∈C then jv t else t).fs,v.ok m:=by
  split
  ·exact Xr h
  ·exact h
 split
 ·rw [(xb _).1];exact h1
 ·exact h1
theorem rJ {ts:List Tg}(ok:wU ts) (C D:List Nat):wU (bg ts C D):=λt ht v hv=>by
 obtain⟨i,hi⟩:=mem_iff_getElem?.mp ht;rw [bK] at hi
 cases e:ts[i]? with
 | none=>rw [e] at hi; cases hi
 | some t0=>
  rw [e] at hi;cases hi;rw [cE];exact Xs C D _ (ok t0 (mem_of_getElem? e)) v hv
noncomputable def fG (ts:List Tg) (S:List Nat) (k:Nat):Bool:=decide (k∉S)&&match ts[k - 1]? with
 | some t=>t.words.isSome
 | none=>false
noncomputable def iD (ts:List Tg) (S:List Nat):List Nat:=(da ts.length).filter (fG ts S)
theorem ir (ts:List Tg) (S:List Nat):(iD ts S).Pairwise (· < ·):=(kz _).filter _
theorem mO {ts:List Tg}{S:List Nat}{k:Nat}(h:k∈iD ts S):1<=k/\k<=ts.length:=dG.mp (List.mem_filter.mp h).1
theorem Hh {ts:List Tg}{S:List Nat}{k:Nat}(h:k∈iD ts S):k∉S:=by
 have:=(List.mem_filter.mp h).2;unfold fG at this;rw [Bool.and_eq_true] at this;exact of_decide_eq_true this.1
theorem qe {ts:List Tg}{S:List Nat}{k:Nat}(h:k∈iD ts S):∃i fs n,k=i+1/\ts[i]?=some (.plain fs (some n)):=by
 have h1:=mO h;have h2:=(List.mem_filter.mp h).2;unfold fG at h2;rw [Bool.and_eq_true] at h2
 cases e:ts[k - 1]? with
 | none=>rw [e] at h2; cases h2.2
 | some t=>
  rw [e] at h2
  cases t with
  | weak f=>cases h2.2
  | pair a b=>cases h2.2
  | plain fs w=>
   cases w with
   | none=>cases h2.2
   | some n=>exact⟨k - 1,fs,n,by omega,e⟩
theorem Iq {H H':Hp}{r:Addr}{kvs:List (Key×V)}{o:Obj}(e:H r=some (.dK kvs)) (k:ak (upd H r (.fI o (.dK kvs))) H'):ak H (upd H' r (.dK kvs)):=λb u h=>by
 by_cases z:b=r
 ·subst z;rw [e] at h;rw [ae];exact h
 ·rw [au z];exact k _ _ (by rw [au z]; exact h)
theorem pM.set {H:Hp}{d p l:Addr}{ts:List Tg}{rows:List (Addr×Addr)}(h1:H d=some (.dK (dE rows))) (h2:rows.length=ts.length) (h3:∀(i:Nat) q t,rows[i]?=some q->ts[i]?=some t->e_ K H q.1 q.2 t) {i:Nat}{t:Tg}(hi:i < ts.length) (ht:e_ K H p l t):pM K (upd H d (.dK (putK (dE rows) (Sum.inl ((i:Int)+1)) (.ref p)))) d (ts.set i t):=by
 have e:rows[i]?=some (rows[i]'(by omega)):=getElem?_eq_getElem _;have e2:=wL (q':=(p,l)) e;dsimp only at e2;rw [e2];refine⟨rows.set i (p,l),ae,by rw [length_set,length_set]; exact h2,λj q u a b=>?_⟩;rw [getElem?_set] at a b
 by_cases z:i=j
 ·subst z;rw [if_pos rfl,if_pos (by omega)] at a b;cases a;cases b;exact ht.put h1
 ·rw [if_neg z] at a b;exact(h3 j q u a b).put h1
theorem Xt {t:Tg}(h:t.sort≠"plain"):(jv t).fs=List.replicate t.fs.length .no/\(jv t).sort=t.sort/\(jv t).words=none/\t.fs.length<=2:=by
 cases t with
 | plain fs w=>exact absurd rfl h
 | weak f=>exact⟨rfl,rfl,rfl,by show 1<=2; decide⟩
 | pair k v=>exact⟨rfl,rfl,rfl,by show 2<=2; decide⟩
noncomputable def IEm (K:Frag) (d l q:Addr) (ts:List Tg) (C:List Nat) (H0:Hp) (i:Nat) (σ:St) (H:Hp):Prop:=(∃o,σ=[some (.ref d),some (.ref l),some (.ref q),o])/\ak H0 H/\pM K H q (bg ts (C.take i) [])
theorem xc {n i k:Nat}(h:(da n)[i]?=some k):k=i+1:=by
 unfold da at h;rw [getElem?_map] at h
 cases e:(List.range n)[i]? with
 | none=>rw [e] at h; cases h
 | some m=>
  rw [e] at h;have h1:=(List.getElem?_eq_some_iff.mp e)
  obtain⟨a1,a2⟩:=h1;rw [List.getElem_range] at a2;have:=Option.some.inj h;simp only at this;omega
inductive N6 (K:Frag) (vs:List V) (H:Hp) (Q:VK) (E:XK):Prop
 | mk (d l:Addr) (ts:List Tg) (S:List Nat) (_:vs=[.ref d,.ref l]) (_:pM K H d ts) (_:ts.length<=63) (_:H l=some (.lst (aE S))) (_:S.Nodup) (_:∀k∈S,1<=k/\k<=ts.length) (_:∀r H',ak H H'->H r=none->H' r=some (.lst (aE (iD ts S)))->Q (.ref r) H'):N6 K vs H Q E
theorem Xu (T:Txt K mg a):aU P w K mg base cU 4 a.Ab a.Ac ["things","kept"] (N6 K):=by
 refine T.BS.ok Md (λvs H Q E h=>?_) (λbY A outer s H vs Q E hr h=>?_)
 ·obtain⟨_,_,_,_,rfl,_⟩:=h;rfl
 ·obtain⟨d,l,ts,S,rfl,h,bO,hl,nd,hS,q⟩:=h;refine⟨_,(ag (aN (i:=2) Md.nd rfl (Or.inr rfl) (aD (Er T) hr.dm rfl T.MI T.qR.kp T.MH .nil aw (aa (pv 1) af))) (ah (aB (aR i_ rfl T.fR gc (aa (F8 (oI rfl (vL (x:="serial") (ns:=["members","things"]) (fr:=[2,0]) rfl (by decide +kernel) rfl (by decide +kernel) rfl (forall_mem_cons.mpr ⟨rfl,forall_mem_cons.mpr ⟨rfl,forall_mem_nil _⟩⟩) rfl rfl (forall_mem_cons.mpr ⟨⟨rfl,rfl,.inl rfl⟩,forall_mem_cons.mpr ⟨⟨rfl,rfl,.inl rfl⟩,forall_mem_nil _⟩⟩) (by decide +kernel)) (vQ (pv 0)) (λ_ _ _ _=>(pv 0)) (λ_ _ _ _=>(.one (PW.pt (iV (Ds (nH (bB hr) (pv 0) (pv 1))) (gJ (aF lZ (av (mj (K:=K) rfl) (cf (bB hr) (pv 2) (pv 0) (λ_ _=>rfl)) ai (λ_ _=>rfl)) cz (aH _))))))))) af))))),?_⟩;dsimp! [];have lS:=dz nd hS;refine⟨l,S,rfl,ba.of hl,nd,by omega,λmb H1 s1 Yv IQ=>?_⟩;obtain⟨rows,h1,h2,h3⟩:=h;have Gd:=s1 _ _ h1;refine⟨_,Gd,λo D hD=>?_⟩;have Yd:d≠D:=λz=>by
   rw [z,ae] at hD;cases hD
  have hmm:H1 mb=some (.dK (eB S)):=IQ;have nmd:mb≠d:=λz=>by
   rw [z,h1] at Yv;cases Yv
  have kF:∀b u,b≠d->H1 b=some u->∀ys,upd (upd H1 d (.fI o (.dK (dE rows)))) D (.lst ys) b=some u:=λb u nb e ys=>by
   have e2:upd H1 d (.fI o (.dK (dE rows))) b=some u:=by
    rw [au nb];exact e
   rw [au (aC e2 hD)];exact e2
  refine J8 (da ts.length) (λk=>if fG ts S k=true then some (V.int (k:Nat))else none) (by rw [cq]; omega) (by rw [cq,h2]; unfold da; rw [length_map,length_range]) (λys=>by rw [au Yd,ae]) ?_ ?_ ?_
  ·intro j kv k ys R' hx hb Qs;rw [jU] at hx
   cases er:rows[j]? with
   | none=>rw [er] at hx; cases hx
   | some q2=>
    rw [er] at hx;cases hx;have ek:=xc hb;subst ek;have hj:=(List.getElem?_eq_some_iff.mp er).1;have et:ts[j]?=some (ts[j]'(by omega)):=getElem?_eq_getElem _;generalize ts[j]'(by omega)=t at et;have hp:=h3 j _ _ er et;have hg:fH (upd (upd H1 d (.fI o (.dK (dE rows)))) D (.lst ys)) d (.int ((j+1:Nat):Int)) (some (.ref q2.1)):=.inl ⟨_,Sum.inl ((j:Int)+1),.inr ⟨o,by rw [au Yd,ae]⟩,rfl,(ip er).symm⟩;have ht:upd (upd H1 d (.fI o (.dK (dE rows)))) D (.lst ys) q2.1=some (.tup [.str t.sort,.ref q2.2,wV t.words]):=kF _ _ (λz=>by have:=hp.1; rw [z,h1] at this; cases this) (s1 _ _ hp.1) ys;have hmD:mJ (upd (upd H1 d (.fI o (.dK (dE rows)))) D (.lst ys)) mb S:=kF _ _ nmd hmm ys;have ekv:kV (Sum.inl ((j:Int)+1))=V.int ((j+1:Nat):Int):=rfl;have eD:fG ts S (j+1)=(decide (j+1∉S)&&t.words.isSome):=by
     unfold fG;rw [Nat.add_sub_cancel,et]
    generalize upd (upd H1 d (.fI o (.dK (dE rows)))) D (.lst ys)=H2 at hg ht hmD Qs ⊢;dsimp! [bA,Option.join_some,ekv];refine⟨_,hmD.ask (j+1),?_⟩;rw [mK,<-decide_not];rw [eD] at Qs
    cases ec:decide (j+1∉S)with
    | false=>
     rw [ec] at Qs;exact ee Qs
    | true=>
     rw [ec] at Qs;refine jK ⟨_,hg,bC (bX.of ht) rfl ?_⟩
     cases ew:t.words <;> (rw [ew] at Qs; exact Qs)
  ·intro j kv k y ys R' hx hb hy Qs;rw [jU] at hx
   cases er:rows[j]? with
   | none=>rw [er] at hx; cases hx
   | some q2=>
    rw [er] at hx;cases hx;have ek:=xc hb;subst ek;have ekv:kV (Sum.inl ((j:Int)+1))=V.int ((j+1:Nat):Int):=rfl;have ey:V.int ((j+1:Nat):Int)=y:=by
     split at hy
     ·exact Option.some.inj hy
     ·cases hy
    dsimp! [bA,Option.join_some,ekv];rw [ey];exact Qs
  have eF:(da ts.length).filterMap (λk=>if fG ts S k=true then some (V.int (k:Nat))else none)=aE (iD ts S):=by
   unfold iD aE;rw [List.map_map,<-List.filterMap_eq_filter,List.map_filterMap];congr 1;funext k;show _=Option.map _ (Option.guard _ k);unfold Option.guard;dsimp only
   by_cases z:fG ts S k=true
   ·rw [if_pos z,if_pos z];rfl
   ·rw [if_neg z,if_neg z];rfl
  rw [eF];refine .inr ⟨d,_,_,⟨λo' u' z=>?_,⟨o,by rw [au Yd,ae]⟩,rfl⟩,?_⟩
  ·have z2:H d=some (HO.fI o' u'):=z;rw [h1] at z2;cases z2
  have s6:=Iq Gd (ak.put (o:=.lst (aE (iD ts S))) hD);have Qt:upd (upd (upd H1 d (.fI o (.dK (dE rows)))) D (.lst (aE (iD ts S)))) d (.dK (dE rows)) D=some (.lst (aE (iD ts S))):=by
   rw [au Yd.symm,ae]
  generalize upd (upd (upd H1 d (.fI o (.dK (dE rows)))) D (.lst (aE (iD ts S)))) d (.dK (dE rows))=H6 at s6 Qt;have Yi:(iD ts S).length<=ts.length:=by
   have:=List.length_filter_le (fG ts S) (da ts.length);unfold da at this;rw [length_map,length_range] at this;exact this
  refine⟨D,rfl,(iD ts S).map λ(k:Nat)=>(k:Int),ba.of Qt,by rw [length_map]; omega,λl2 ns fW pm ps=>?_⟩;rw [gX pm ps ((ir ts S).imp λh=>Nat.ne_of_lt h) (ir ts S) λx=>Iff.rfl];exact q l2 _ (s1.trans (s6.trans (ak.put fW))) ((s1.trans s6).free fW) ae
inductive N7 (K:Frag) (vs:List V) (H:Hp) (Q:VK) (E:XK):Prop
 | mk (d l:Addr) (ts:List Tg) (C:List Nat) (_:vs=[.ref d,.ref l]) (_:pM K H d ts) (_:ts.length<=63) (_:H l=some (.lst (aE C))) (_:∀k∈C,∃t,iU ts k t/\t.sort≠"plain") (_:C.length<=500) (_:∀r H',ak H H'->H r=none->pM K H' r (bg ts C [])->Q (.ref r) H'):N7 K vs H Q E
theorem Xv (T:Txt K mg a):aU P w K mg base cU 1 a.Ad a.Ae ["things","serials"] (N7 K):=by
 refine T.BU.ok D0 (λvs H Q E h=>?_) (λbY A outer s H vs Q E hr h=>?_)
 ·obtain⟨_,_,_,_,rfl,_⟩:=h;rfl
 ·obtain⟨d,l,ts,C,rfl,h,bO,hl,hC,lC,q⟩:=h;refine⟨_,(ag (aN (i:=2) D0.nd rfl (Or.inl rfl) (cv Es rfl T.lu mi (aa (pv 0) af))) (ag (cp PassesOwn.never rfl (bQ (pv 1)) (a_ (i:=3) D0.nd rfl (Or.inl rfl)) ao) ao)),?_⟩;dsimp! [];obtain⟨rows,h1,h2,h3⟩:=id h;refine⟨_,.inl h1,λq0 hq0=>⟨⟨_,ba.of (ak.put hq0 _ _ hl)⟩,?_⟩⟩;refine cV (aE C) (IEm K d l q0 ts C H) ⟨⟨none,rfl⟩,ak.put hq0,?_⟩ (λi σ' H' _ hh=>ba.of (hh.2.1 _ _ hl)) (λi x σ' H2 hx hh=>?_) λσ' H2 hh=>?_
  ·rw [List.take_zero,oe];exact⟨rows,ae,h2,λi q t a b=>(h3 i q t a b).same (ak.put hq0)⟩
  ·obtain⟨k,hk,rfl⟩:=cu hx;obtain⟨⟨o,rfl⟩,s2,tb⟩:=hh;obtain⟨t,ht,nt⟩:=hC k (mem_of_getElem? hk);refine gN ?_;refine aJ.of (ah (cH (bB hr) (pv 2) (pv 3) (bo (aa (av aq (cf (bB hr) (pv 0) (pv 3) (λ_ _=>rfl)) ai (λ_ _=>rfl)) (aa (bu DG (bP (aa (dc (v:=.ref a.aV) rfl T.bf rfl) af)) (aR cF rfl T.f_ eE (aa (av aq (cf (bB hr) (pv 0) (pv 3) (λ_ _=>rfl)) ai (λ_ _=>rfl)) af))) (aa cz af)))) rfl)) ?_;dsimp! [];obtain⟨p,lf,hp,hg⟩:=(h.same s2).get ht;obtain⟨e1,e2,e3,e4⟩:=Xt nt;refine⟨_,hg,bC (bX.of hp.1) rfl ⟨by decide,λp1 Ik=>?_⟩⟩;have s3:ak H2 (upd H2 p1 (.lst [V.ref a.aV])):=ak.put Ik;obtain⟨p',lf',O0,hg'⟩:=(h.same (s2.trans s3)).get ht;obtain⟨hq1,ys,HQ,hq3,hq4⟩:=id O0;have hly:t.fs.length=ys.length:=hq3.1;refine⟨_,hg',bC (bX.of hq1) rfl ⟨_,rfl,ys,.inl (ba.of HQ),p1,_,_,rfl,rfl,ae,by omega,by omega,?_,λl2 fW=>⟨by decide,λp2 qx=>?_⟩⟩⟩
   ·rw [length_singleton,Int.toNat_natCast,Nat.one_mul];exact Nat.le_of_lt (aG (by omega))
   ·rw [Int.toNat_natCast,ri] at qx ⊢;have s4:=s3.trans ((ak.put (o:=.lst (List.replicate ys.length (V.ref a.aV))) fW).trans (ak.put (o:=.tup [.str t.sort,.ref l2,.bN]) qx));have hv:∀H,dJ K H (.ref a.aV) .no:=λH=>⟨_,rfl,T.dI _⟩
    have t5:e_ K (upd (upd (upd H2 p1 (.lst [V.ref a.aV])) l2 (.lst (List.replicate ys.length (V.ref a.aV)))) p2 (.tup [.str t.sort,.ref l2,.bN])) p2 l2 (jv t):=by
     refine⟨by rw [ae,e2,e3]; rfl,_,ak.put qx _ _ ae,?_,by rw [length_replicate]; omega⟩;rw [e1,hly];exact ik.rep (hv _) _
    generalize upd (upd (upd H2 p1 (.lst [V.ref a.aV])) l2 (.lst (List.replicate ys.length (V.ref a.aV)))) p2 (.tup [.str t.sort,.ref l2,.bN])=H5 at s4 t5;obtain⟨afD,r1,r2,r3⟩:=tb.same s4;obtain⟨j,rfl,et⟩:=id ht;have hj:=(List.getElem?_eq_some_iff.mp et).1;have r2':=r2;rw [cE] at r2';refine⟨_,gE.k (k:=Sum.inl ((j+1:Nat):Int)) r1 (aG (by rw [cq]; omega)),⟨_,rfl⟩,.putD (s2.trans s4) hq0,?_⟩;have r5:=pM.set r1 r2 r3 (by rw [cE]; exact hj) t5;rw [og (C':=C.take i++[j+1]) (D':=[]) et (by unfold jB; rw [if_neg (show ¬j+1∈([]:List Nat) from not_mem_nil),if_pos (mem_append_right _ (mem_singleton.mpr rfl))]) (λk hk=>⟨λz=>mem_append_left _ z,λz=>(mem_append.mp z).elim id λy=>absurd (mem_singleton.mp y) hk⟩) λk _=>Iff.rfl] at r5;rw [take_add_one,hk];exact r5
  ·obtain⟨⟨o,rfl⟩,s2,tb⟩:=hh;refine aJ.of (ah (aB (pv 2))) ?_;dsimp! [];rw [aI,take_length] at tb;exact q q0 H2 s2 hq0 tb
structure Xw where
 kept:List Nat
 dP:List Nat
 eG:List Nat
 due:List Nat
 oh:List Nat
 jl:List Nat
 kB:List Nat
noncomputable def aT (W:Wd):Xw:=
 let kept:=cls W.ts (O5 W.g W.hs W.ts.length)
 let dP:=pN W.ts kept "weak"
 let eG:=pN W.ts kept "pair"
 let due:=iD W.ts kept
 let later:=bg W.ts (dP++eG) []
 let oh:=cls later (kept++due)
 ⟨kept,dP,eG,due,oh,pN later oh "weak",pN later oh "pair"⟩
noncomputable def j_ (F:Addr->Prop) (H:Hp) (p:Addr) (N:Xw):Prop:=∃a1 a2 a3 a4 a5 a6 a7,H p=some (.tup [.ref a1,.ref a2,.ref a3,.ref a4,.ref a5,.ref a6,.ref a7])/\(H a1=some (.lst (aE N.kept))/\H a2=some (.lst (aE N.dP))/\H a3=some (.lst (aE N.eG))/\H a4=some (.lst (aE N.due))/\H a5=some (.lst (aE N.oh))/\H a6=some (.lst (aE N.jl))/\H a7=some (.lst (aE N.kB)))/\F p/\F a1/\F a2/\F a3/\F a4/\F a5/\F a6/\F a7
theorem j_.kp {F S:Addr->Prop}{H H':Hp}{p:Addr}{N:Xw}(h:j_ F H p N) (k:Kp S H H') (n:∀b,F b->¬S b):j_ F H' p N:=by
 obtain⟨a1,a2,a3,a4,a5,a6,a7,e,⟨e1,e2,e3,e4,e5,e6,e7⟩,f,f1,f2,f3,f4,f5,f6,f7⟩:=h;exact⟨a1,a2,a3,a4,a5,a6,a7,k _ _ (n _ f) e,⟨k _ _ (n _ f1) e1,k _ _ (n _ f2) e2,k _ _ (n _ f3) e3,k _ _ (n _ f4) e4,k _ _ (n _ f5) e5,k _ _ (n _ f6) e6,k _ _ (n _ f7) e7⟩,f,f1,f2,f3,f4,f5,f6,f7⟩
theorem j_.same {F:Addr->Prop}{H H':Hp}{p:Addr}{N:Xw}(h:j_ F H p N) (k:ak H H'):j_ F H' p N:=h.kp (S:=λ_=>False) (ak.kp k) λ_ _ z=>z
theorem kc {ts:List Tg}{S:List Nat}{z:Str}{k:Nat}(h:k∈pN ts S z) (hS:∀k∈S,1<=k/\k<=ts.length):k∈S/\∃t,iU ts k t/\t.sort=z:=by
 obtain⟨h1,h2⟩:=List.mem_filter.mp h;refine⟨h1,?_⟩;obtain⟨t,ht⟩:=iU.of (hS k h1);obtain⟨i,rfl,e⟩:=id ht;unfold jY at h2;rw [Nat.add_sub_cancel,e,Bool.and_eq_true] at h2;exact⟨t,ht,of_decide_eq_true h2.1⟩
theorem kA {ts:List Tg}{S:List Nat}{z:Str}:(pN ts S z).length<=S.length:=List.length_filter_le _ _
noncomputable def srt (n:Nat) (S:List Nat):List Nat:=(da n).filter λk=>decide (k∈S)
theorem N8 (n:Nat) (S:List Nat):(srt n S).Pairwise (· < ·):=(kz _).filter _
theorem xf {n:Nat}{S:List Nat}(h:∀k∈S,1<=k/\k<=n) (k:Nat):k∈srt n S↔k∈S:=by
 unfold srt;rw [List.mem_filter,decide_eq_true_iff,dG];exact⟨λh=>h.2,λz=>⟨h k z,z⟩⟩
theorem gR (l m:List Nat):aE (l++m)=aE l++aE m:=by
 unfold aE;rw [map_append,map_append]
inductive N9 (a:eI) (K:Frag) (vs:List V) (H:Hp) (Q:VK) (E:XK):Prop
 | mk (Pr A W:_) (_:vs=[.ref A.p]) (_:PW a K Pr H A W) (_:W.ok) (_:W.ts.length<=63) (_:∀r H',ak H H'->j_ (λb=>H b=none) H' r (aT W)->Q (.ref r) H'):N9 a K vs H Q E
theorem Xx (T:Txt K mg a):aU P w K mg base cU 11 a.Af a.Ag ["heap"] (N9 a K):=by
 refine T.BV.ok jR (λvs H Q E h=>?_) (λbY A outer s H vs Q E hr h=>?_)
 ·obtain⟨_,_,_,rfl,_⟩:=h;rfl
 ·obtain⟨Pr,A,W,rfl,h,ok,bO,q⟩:=h;refine⟨_,(ag (aN (i:=1) jR.nd rfl (Or.inl rfl) (dj (pv 0) T.aj T.wj (wO T) hr.dm T.GP .nil aw)) ao),?_⟩;obtain⟨dx,h1⟩:=h.ob;dsimp! [h1,HO.ins.injEq];refine⟨aX,Pr,A,W.g,W.ts,W.hs,rfl,h,λr rows H1 s1 Eo yi hrl Xq _=>?_⟩;have tb1:pM K H1 r W.ts:=⟨rows,yi,hrl,λi q t a b=>(Xq i q t a b).1⟩
  have tok:wU W.ts:=λt ht=>(ok.ts t ht).1
  have kd:∀{l:List Nat},l.Pairwise (· < ·)->l.Nodup:=λh=>h.imp λh=>Nat.ne_of_lt h
  refine aJ.of (ag (aN (i:=2) jR.nd rfl (Or.inl rfl) (aD (N0 T) hr.dm rfl T.Ru T.uD.kp T.Rt .nil aw (aa (pv 1) (aa (aD (Xi T) hr.dm rfl T.ZX T.BN.kp T.ZW .nil aw (aa (pv 0) af)) af)))) ao) ?_;dsimp! [];refine⟨Pr,A,W,rfl,h.same s1,ok,bO,λl1 H2 s2 uq e1=>⟨r,l1,W.ts,_,rfl,tb1.same s2,tok,bO,e1,kd (wY _ _ _),(λk hk=>NL hk),λl2 H3 s3 fW e2=>?_⟩⟩;have f2:=(s1.trans s2).free fW;have tb3:=tb1.same (s2.trans s3);have Et:=s1.trans (s2.trans s3);have eN:∃N,N=aT W:=⟨_,rfl⟩
  obtain⟨N,eN⟩:=eN;have n1:N.kept=cls W.ts (O5 W.g W.hs W.ts.length):=by rw [eN]; rfl
  have n2:N.dP=pN W.ts N.kept "weak":=by rw [eN]; rfl
  have n3:N.eG=pN W.ts N.kept "pair":=by rw [eN]; rfl
  have n4:N.due=iD W.ts N.kept:=by rw [eN]; rfl
  have n5:N.oh=cls (bg W.ts (N.dP++N.eG) []) (N.kept++N.due):=by rw [eN]; rfl
  have n6:N.jl=pN (bg W.ts (N.dP++N.eG) []) N.oh "weak":=by rw [eN]; rfl
  have n7:N.kB=pN (bg W.ts (N.dP++N.eG) []) N.oh "pair":=by rw [eN]; rfl
  rw [<-eN] at q;clear eN;rw [<-n1] at e2;have kn:N.kept.Nodup:=by rw [n1]; exact kd (nW _ _)
  have kl:∀k∈N.kept,1<=k/\k<=W.ts.length:=λk hk=>jX (by rw [n1] at hk; exact hk)
  refine aJ.of (ag (aN (i:=3) jR.nd rfl (Or.inl rfl) (aD (NJ T) hr.dm rfl T.Rz T.uF.kp T.Ry .nil aw (aa (pv 1) (aa (pv 2) af)))) ao) ?_;dsimp! [];refine⟨r,l2,W.ts,N.kept,_,⟨rfl,rfl⟩,tb3,tok,bO,e2,kn,kl,λl3 H4 s4 Wt e3=>?_⟩;have f3:=Et.free Wt;rw [<-n2] at e3;refine aJ.of (ag (aN (i:=4) jR.nd rfl (Or.inl rfl) (aD (NK T) hr.dm rfl T.RC T.uG.kp T.RB .nil aw (aa (pv 1) (aa (pv 2) af)))) ao) ?_;dsimp! [];refine⟨r,l2,W.ts,N.kept,_,⟨rfl,rfl⟩,tb3.same s4,tok,bO,s4 _ _ e2,kn,kl,λl4 H5 s5 Ni e4=>?_⟩;have f4:=(Et.trans s4).free Ni;rw [<-n3] at e4;refine aJ.of (ag (aN (i:=5) jR.nd rfl (Or.inl rfl) (aD (Xu T) hr.dm rfl T.Z_ T.BS.kp T.Z9 .nil aw (aa (pv 1) (aa (pv 2) af)))) ao) ?_;dsimp! [];refine⟨r,l2,W.ts,N.kept,rfl,tb3.same (s4.trans s5),bO,s5 _ _ (s4 _ _ e2),kn,kl,λl5 H6 s6 IP e5=>?_⟩;have f5:=(Et.trans (s4.trans s5)).free IP;rw [<-n4] at e5;have tb6:=tb3.same (s4.trans (s5.trans s6));have s16:=Et.trans (s4.trans (s5.trans s6));have Sb:=s6 _ _ (s5 _ _ e3);have Yy:=s6 _ _ e4;have e26:=s6 _ _ (s5 _ _ (s4 _ _ e2));clear s4 s5 s6 Wt Ni IP fW Et tb3 e3 e4 e2 s2 s3 e1 uq;have dn:N.due.Nodup:=by rw [n4]; exact kd (ir _ _)
  have dl:∀k∈N.due,1<=k/\k<=W.ts.length:=λk hk=>mO (by rw [n4] at hk; exact hk)
  have lk:=dz kn kl;have ld:=dz dn dl;have lc:N.dP.length<=63:=by rw [n2]; exact Nat.le_trans kA (by omega)
  have lr:N.eG.length<=63:=by rw [n3]; exact Nat.le_trans kA (by omega)
  refine aJ.of (ag (aN (i:=6) jR.nd rfl (Or.inl rfl) (aD (Xv T) hr.dm rfl T.aab T.BU.kp T.aaa .nil aw (aa (pv 1) (aa (bu eS (pv 3) (pv 4)) af)))) ao) ?_;dsimp! [];refine⟨l3,l4,_,_,rfl,rfl,ba.of Sb,ba.of Yy,?_,λc1 IU=>?_⟩
  ·rw [aI,aI];exact Nat.le_of_lt (aG (by omega))
  rw [<-gR];have s7:ak H6 (upd H6 c1 (.lst (aE (N.dP++N.eG)))):=ak.put IU;refine⟨r,c1,W.ts,N.dP++N.eG,rfl,tb6.same s7,bO,ae,λk hk=>?_,by rw [length_append]; omega,λld H8 s8 hld tb8=>?_⟩
  ·rcases mem_append.mp hk with z | z
   ·rw [n2] at z;obtain⟨_,t,a1,a2⟩:=kc z kl;exact⟨t,a1,by rw [a2]; decide +kernel⟩
   ·rw [n3] at z;obtain⟨_,t,a1,a2⟩:=kc z kl;exact⟨t,a1,by rw [a2]; decide +kernel⟩
  have Yz:=s7.trans s8;have e28:=Yz _ _ e26;have e38:=Yz _ _ Sb;have e48:=Yz _ _ Yy;have e58:=Yz _ _ e5;have Xy:=s16.trans Yz;clear Yz s7 s8 IU hld e26 Sb Yy e5 s16 tb6;refine aJ.of (ag (aN (i:=7) jR.nd rfl (Or.inl rfl) (aD (N0 T) hr.dm rfl T.Ru T.uD.kp T.Rt .nil aw (aa (pv 6) (aa (aR i_ rfl T.fR gc (aa (bu eS (pv 2) (pv 5)) af)) af)))) ao) ?_;dsimp! [];refine⟨l2,l5,_,_,rfl,rfl,ba.of e28,ba.of e58,?_,λc2 JD=>?_⟩
  ·rw [aI,aI];exact Nat.le_of_lt (aG (by omega))
  rw [<-gR];have hkd:(N.kept++N.due).Nodup:=nodup_append.mpr ⟨kn,dn,λx hx y hy e=>Hh (by rw [n4] at hy; exact hy) (by rw [<-e]; exact hx)⟩;have Xz:∀k∈N.kept++N.due,1<=k/\k<=W.ts.length:=λk hk=>(mem_append.mp hk).elim (kl k) (dl k)
  have lkd:=dz hkd Xz;have s9:ak H8 (upd H8 c2 (.lst (aE (N.kept++N.due)))):=ak.put JD;refine⟨c2,rfl,(N.kept++N.due).map λ(k:Nat)=>(k:Int),ba.of ae,by rw [length_map]; omega,λc3 ns hc3 pm ps=>?_⟩;have e9:=gX pm ps hkd (N8 W.ts.length (N.kept++N.due)) λx=>(xf Xz x).symm
  rw [e9];have Dh:=s9.trans (ak.put (o:=.lst (aE (srt W.ts.length (N.kept++N.due)))) hc3);have XA:=rJ tok (N.dP++N.eG) [];have Qu:(bg W.ts (N.dP++N.eG) []).length=W.ts.length:=cE _ _ _;refine⟨ld,c3,_,srt W.ts.length (N.kept++N.due),rfl,tb8.same Dh,XA,by rw [Qu]; exact bO,ae,kd (N8 _ _),λk hk=>by rw [Qu]; exact Xz k ((xf Xz k).mp hk),λl6 H9 O4 O3 e6=>?_⟩;have XB:=Dh.trans O4;have f6:=(Xy.trans Dh).free O3;rw [vn (ts':=bg W.ts (N.dP++N.eG) []) (S':=N.kept++N.due) rfl (λi t t' x y=>by rw [x] at y; cases y; exact⟨rfl,rfl,rfl⟩) (xf Xz),<-n5] at e6;have tb9:=tb8.same XB;have e29:=XB _ _ e28;have e39:=XB _ _ e38;have e49:=XB _ _ e48;have e59:=XB _ _ e58;have s19:=Xy.trans XB;clear XB s9 Dh O4 JD hc3 O3 e28 e38 e48 e58 Xy tb8 pm ps e9;have sn:N.oh.Nodup:=by rw [n5]; exact kd (nW _ _)
  have sl:∀k∈N.oh,1<=k/\k<=(bg W.ts (N.dP++N.eG) []).length:=λk hk=>jX (by rw [n5] at hk; exact hk)
  refine aJ.of (ah (aB (bo (aa (pv 2) (aa (pv 3) (aa (pv 4) (aa (pv 5) (aa (pv 7) (aa (aD (NJ T) hr.dm rfl T.Rz T.uF.kp T.Ry .nil aw (aa (pv 6) (aa (pv 7) af))) (aa (aD (NK T) hr.dm rfl T.RC T.uG.kp T.RB .nil aw (aa (pv 6) (aa (pv 7) af))) af)))))))))) ?_;dsimp! [];refine⟨ld,l6,_,N.oh,_,⟨rfl,rfl⟩,tb9,XA,by rw [Qu]; exact bO,e6,sn,sl,λl7 UI Il Qm e7=>?_⟩;refine⟨ld,l6,_,N.oh,_,⟨rfl,rfl⟩,tb9.same Il,XA,by rw [Qu]; exact bO,Il _ _ e6,sn,sl,λl8 H11 Et hl8 e8=>⟨by decide,λp hp=>?_⟩⟩;rw [<-n6] at e7;rw [<-n7] at e8;have CG:=ak.put (o:=.tup [.ref l2,.ref l3,.ref l4,.ref l5,.ref l6,.ref l7,.ref l8]) hp;have IV:=Il.trans (Et.trans CG);exact q p _ (s19.trans IV) ⟨l2,l3,l4,l5,l6,l7,l8,ae,⟨IV _ _ e29,IV _ _ e39,IV _ _ e49,IV _ _ e59,IV _ _ e6,CG _ _ (Et _ _ e7),CG _ _ e8⟩,((s19.trans Il).trans Et).free hp,f2,f3,f4,f5,f6,s19.free Qm,(s19.trans Il).free hl8⟩
theorem Mu.some {H:Hp}{b:Addr}(m:Mu H b):H b≠none:=by
 rcases m with ⟨x,m⟩ | ⟨x,m⟩ <;> (rw [m]; intro z; cases z)
theorem N_:("weak":Str)≠"due":=by decide +kernel
theorem Oa:("pair":Str)≠"due":=by decide +kernel
inductive mP (vs:List V) (H:Hp) (Q:VK) (E:XK):Prop
 | mk (c m:Int) (_:vs=[.int c,.int m]) (_:∀n:Int,0<=n->Q (.int n) H):mP  vs H Q E
theorem XC (T:Txt K mg a):aU P w K mg base cU 1 a.A9 a.A_ ["_law_cell","_law_mode"] mP:=by
 refine T.B2.ok Mj (λvs H Q E h=>?_) (λbY A outer s H vs Q E hr h=>?_)
 ·obtain⟨_,_,rfl,_⟩:=h;rfl
 ·obtain⟨c,m,rfl,q⟩:=h;refine⟨_,(ag (bh (aF cj (bu eY (pv 1) ai) ai (aH _)) (ah (aB (aR yt rfl T.GY JC (aa (pv 0) af)))) aL) (ag (aN (i:=2) Mj.nd rfl (Or.inl rfl) (bu eY (bu nj (bu Dw (pv 0) ai) ai) ai)) (ah (aB (bu eY (bu Dw (pv 2) ai) ai))))),?_⟩;dsimp! [];refine⟨by decide,bj (λ_=>q _ ?_) λ_=>⟨.inr ⟨by decide,by decide⟩,by decide,.inr ⟨by decide,by decide⟩,by decide,q _ (Int.emod_nonneg _ (by decide))⟩⟩
  split <;> omega
noncomputable def hG:List Str:=["make","put","get","drop","weak","pair","put","look","find","copy","words","hear","make"]
noncomputable def lB:List Str:=["tell","same","num","put"]
theorem qf (n z:Int) (h:0 < z):∃d:Nat,n % z=(d:Int)/\(d:Int) < z:=
 ⟨(n % z).toNat,by have:=Int.emod_nonneg n (Int.ne_of_gt h); omega,by have:=Int.emod_nonneg n (Int.ne_of_gt h); have:=Int.emod_lt_of_pos n h; omega⟩
theorem Qv:∀j < 26,(Str.ofString "abcdefghijklmnopqrstuvwxyz").cps.toList[j]?=some (97+j):=by decide +kernel
theorem Eu:∀wd∈hG++lB,¬wd="make"->¬wd∈(["num","words"]:List Str)->¬wd="put"->¬wd="get"->¬wd∈(["pair","find"]:List Str)->¬wd∈(["weak","look","copy","same"]:List Str)->wd="drop"\/wd="hear"\/wd="tell":=by decide +kernel
theorem Ob (w:Str) (ss:List Str):QY (.str w) (ss.map V.str)=decide (w∈ss):=by
 rw [Bool.eq_iff_iff,decide_eq_true_iff];unfold QY;rw [List.any_eq_true];constructor
 ·rintro⟨x,hx,e⟩;obtain⟨y,hy,rfl⟩:=mem_map.mp hx;have e2:y=w:=by simpa [F0] using e
  rw [<-e2];exact hy
 ·intro z;exact⟨_,mem_map.mpr ⟨_,z,rfl⟩,by simp [F0]⟩
theorem XD {H:Hp}{p:Addr}{ss:List Str}{w:Str}{X Y:Hp->Prop}(hH:H p=some (.lst (ss.map V.str))) (h1:w∈ss->X H) (h2:¬w∈ss->Y H):Y9 K false (.str w) (.ref p) H (λx H'=>∃k,x=V.bl k/\if k=true then X H' else Y H'):=by
 refine⟨p,_,rfl,.inl (ba.of hH),rfl,?_,_,rfl,?_⟩
 ·rw [List.all_map];exact List.all_eq_true.mpr λ_ _=>rfl
 ·rw [if_neg Bool.false_ne_true,Ob];exact bj (λz=>h1 (of_decide_eq_true z)) λz=>h2 λy=>z (decide_eq_true y)
inductive rK (vs:List V) (H:Hp) (Q:VK) (E:XK):Prop
 | mk (c m:Int) (_:vs=[.int c,.int m]) (_:0<=m) (_:∀(t:Addr) (d:De) H',ak H H'->H' t=some (.tup d.items)->d.fits->Q (.ref t) H'):rK  vs H Q E
theorem XE (T:Txt K mg a):aU P w K mg base cU 2 a.Ba a.Bb ["_law_cell","_law_mode"] rK:=by
 refine T.B3.ok gF (λvs H Q E h=>?_) (λbY A outer s H vs Q E hr h=>?_)
 ·obtain⟨_,_,rfl,_⟩:=h;rfl
 ·obtain⟨c,m,rfl,hm,q⟩:=h;refine⟨_,@ag _ _ _ _ _ kZ ao,?_⟩;dsimp! [];refine yg.strs (i:=2) (ws:=hG) gF.nd rfl (.inl rfl) rfl rfl (.inl rfl) (by decide) λl hl=>?_
  have h1:upd H l (HO.lst (hG.map V.str)) l=some (.lst (hG.map V.str)):=ae;have s1:ak H (upd H l (HO.lst (hG.map V.str))):=.put hl;generalize upd H l (HO.lst (hG.map V.str))=H1 at h1 s1;refine aJ.of (@ag _ _ _ _ _ kZ ao) ?_;dsimp! [];refine yg.aea (i:=2) (j:=2) (ws:=lB) gF.nd rfl (.inl rfl) rfl rfl (.inl rfl) rfl rfl rfl (.inl rfl) (by decide) rfl h1 (by decide) λl2 H2 s2 h2=>?_
  have YA:=s1.trans s2;refine aJ.of (ag (aN (i:=3) gF.nd rfl (Or.inl rfl) az) ao) ?_;dsimp! [];refine aJ.of (ag (aN (i:=4) gF.nd rfl (Or.inl rfl) (av df (@bP _ _ _ _ (@aa _ _ _ _ _ ai (@aa _ _ _ _ _ ai (@aa _ _ _ _ _ ai (@aa _ _ _ _ _ ai af rfl) rfl) rfl) rfl)) (bu eY (bu cY (pv 1) ai) ai) (λ_ _=>rfl))) ao) ?_;dsimp! [];have abK:∃M:Nat,(M=4\/M=6\/M=26)/\ql [V.int 4,V.int 4,V.int 6,V.int 26] (m / 2 % 4)=some (.int (M:Int)):=by
   obtain⟨d,e,hd⟩:=qf (m / 2) 4 (by decide);rw [e];have:d=0\/d=1\/d=2\/d=3:=by omega
   rcases this with rfl | rfl | rfl | rfl
   ·exact⟨4,.inl rfl,rfl⟩
   ·exact⟨4,.inl rfl,rfl⟩
   ·exact⟨6,.inr (.inl rfl),rfl⟩
   ·exact⟨26,.inr (.inr rfl),rfl⟩
  obtain⟨M,hM,eM⟩:=abK;have hM0:0 < M/\M<=26:=by omega
  refine⟨by decide,λp hp=>⟨.small (by decide) (by decide),by decide,Dm (ba.of ae) eM ?_⟩⟩;have s3:=YA.trans (ak.put (o:=.lst [V.int 4,V.int 4,V.int 6,V.int 26]) hp);have h3:upd H2 p (.lst [V.int 4,V.int 4,V.int 6,V.int 26]) l2=some (.lst (hG.map V.str++lB.map V.str)):=ak.put hp _ _ h2;generalize upd H2 p (.lst [V.int 4,V.int 4,V.int 6,V.int 26])=H3 at s3 h3 ⊢;refine aJ.of (ag (aN (i:=5) gF.nd rfl (Or.inl rfl) (aD (XC T) hr.dm rfl T.aaL T.B2.kp T.aaK .nil aw (aa (pv 0) (aa (pv 1) af)))) ao) ?_;dsimp! [];refine⟨c,m,rfl,λn hn=>?_⟩;refine aJ.of (ag (aN (i:=6) gF.nd rfl (Or.inl rfl) (av df (pv 2) (bu eY (pv 5) ai) (λ_ _=>rfl))) ao) ?_;dsimp! [];have hw:∃wd∈hG++lB,ql (hG.map V.str++lB.map V.str) (n % 17)=some (.str wd):=by
   obtain⟨d,e,hd⟩:=qf n 17 (by decide);rw [e,<-map_append];have hd2:d < (hG++lB).length:=by
    have:(hG++lB).length=17:=rfl;omega
   exact⟨_,List.getElem_mem hd2,dk (by rw [getElem?_map,getElem?_eq_getElem hd2]; rfl)⟩
  obtain⟨wd,hwd,ewd⟩:=hw;refine⟨by decide,Dm (ba.of h3) ewd ?_⟩;have lt:∀(z:Int) (R:VK),(∀j:Nat,j < 26->R (.str (⟨#[97+j]⟩:Str)) H3)->Y8 (.str (Str.ofString "abcdefghijklmnopqrstuvwxyz")) (.int (z % (M:Int))) H3 R:=λz R r=>by
   obtain⟨d,e,hd⟩:=qf z (M:Int) (by omega);rw [e];exact⟨_,_,_,rfl,rfl,by decide +kernel,dk (Qv d (by omega)),r d (by omega)⟩
  have dM:F3 (M:Int):=.small (by omega) (by omega);refine aJ.of (ag (aN (i:=7) gF.nd rfl (Or.inl rfl) (av DD (pv 3) (bu eY (bu cY (pv 5) ai) (pv 4)) (λ_ _=>rfl))) ao) ?_;dsimp! [];refine⟨.small (by decide) (by decide),by omega,lt _ _ λj1 Hi=>?_⟩;refine aJ.of (ag (aN (i:=8) gF.nd rfl (Or.inl rfl) (av DD (pv 3) (bu eY (bu cY (bu cY (pv 5) ai) (pv 4)) (pv 4)) (λ_ _=>rfl))) ao) ?_;dsimp! [];refine⟨.small (by decide) (by decide),dM,by omega,lt _ _ λj2 hj2=>?_⟩;refine aJ.of (ag (aN (i:=9) gF.nd rfl (Or.inl rfl) (av DD (pv 3) (bu eY (bu cY (bu cY (bu cY (pv 5) ai) (pv 4)) (pv 4)) (pv 4)) (λ_ _=>rfl))) ao) ?_;dsimp! [];refine⟨.small (by decide) (by decide),dM,dM,by omega,lt _ _ λj3 hj3=>?_⟩;refine aJ.of (ag (aN (i:=5) gF.nd rfl (Or.inl rfl) (bu cY (bu cY (bu cY (bu cY (pv 5) ai) (pv 4)) (pv 4)) (pv 4))) ao) ?_;dsimp! [];refine⟨.small (by decide) (by decide),dM,dM,dM,?_⟩;have hN:0<=n / 17 / (M:Int) / (M:Int) / (M:Int):=Int.ediv_nonneg (Int.ediv_nonneg (Int.ediv_nonneg (Int.ediv_nonneg hn (by decide)) (by omega)) (by omega)) (by omega);generalize n / 17 / (M:Int) / (M:Int) / (M:Int)=N at hN ⊢;refine aJ.of (ag (aN (i:=10) gF.nd rfl (Or.inl rfl) (bu nj (bu eY (pv 5) ai) (bu Dw (bu cY (bu eY (bu cY (pv 5) ai) ai) ai) (bu eY (bu cY (pv 5) ai) ai)))) ao) ?_;dsimp! [];have hA:∃A:Nat,N % 3+N / 3 % 4 / 3*(N / 12 % 6)=(A:Int)/\A<=7:=by
   have z:N / 3 % 4 / 3=0\/N / 3 % 4 / 3=1:=by omega
   refine⟨(N % 3+N / 3 % 4 / 3*(N / 12 % 6)).toNat,?_,?_⟩ <;> rcases z with z | z <;> rw [z] <;> omega
  obtain⟨A,eA,hA⟩:=hA;refine⟨by decide,.small (by decide) (by decide),by decide,.small (by decide) (by decide),.small (by decide) (by decide),by decide,.inl ⟨by omega,by omega⟩,?_⟩;rw [eA];have ab:∀j:Nat,j < 26->(⟨#[97+j]⟩:Str)∈P6:=λj hj=>mem_map.mpr ⟨j,List.mem_range.mpr hj,rfl⟩
  have fin:∀(t:Addr) (d:De) (H':Hp),ak H3 H'->H' t=some (.tup d.items)->d.fits->Q (.ref t) H':=λt d H' s e f=>q t d H' (s3.trans s) e f
  refine aJ.of (ag (bh (aF cj (pv 6) az (aH _)) (ah (aB (bo (aa (pv 6) (aa (pv 7) (aa (pv 10) af)))))) aL) ao) ?_;dsimp! [];refine bj (λz=>⟨by decide,λt ht=>fin t (.make _ A) _ (ak.put ht) (by rw [of_decide_eq_true z]; exact ae) ⟨ab j1 Hi,by show A<=100; omega⟩⟩) λz1=>?_
  refine aJ.of (ag (bh (aF fb (pv 6) (bP (aa az (aa az af))) (by with_unfolding_all rfl)) (ah (aB (bo (aa (pv 6) (aa (pv 7) (aa (av df (bP (aa (bu eY (pv 5) ai) (aa (bu eY (pv 5) (bu Ut ai ai)) af))) (bu eY (bu cY (pv 5) ai) ai) (λ_ _=>rfl)) af)))))) aL) ao) ?_;dsimp! [];refine⟨by decide,λp1 Ik=>XD (ss:=["num","words"]) ae (λc1=>?_) λc1=>?_⟩
  ·refine⟨by decide,⟨by decide,by decide,by decide⟩,by decide,by decide,λp2 qx=>⟨.small (by decide) (by decide),by decide,?_⟩⟩;have hv:∃v:Int,Cm v/\ql [V.int (N % 5),V.int (N % 10 ^ Int.toNat 60)] (N / 5 % 2)=some (.int v):=by
    obtain⟨d,e,hd⟩:=qf (N / 5) 2 (by decide);rw [e];have:d=0\/d=1:=by omega
    rcases this with rfl | rfl
    ·exact⟨N % 5,⟨Int.emod_nonneg _ (by decide),Int.lt_trans (Int.emod_lt_of_pos _ (by decide)) (by decide)⟩,rfl⟩
    ·exact⟨N % 10 ^ Int.toNat 60,⟨Int.emod_nonneg _ (by decide),Int.lt_of_lt_of_le (Int.emod_lt_of_pos _ (by decide)) (by decide)⟩,rfl⟩
   obtain⟨v,hv,ev⟩:=hv;refine Dm (ba.of ae) ev ⟨by decide,λt ht=>?_⟩;have s5:=(ak.put Ik).trans ((ak.put qx).trans (ak.put (o:=.tup [V.str wd,V.str {cps:=#[97+j1]},.int v]) ht));rcases mem_cons.mp c1 with rfl | c1
   ·exact fin t (.num _ v) _ s5 ae ⟨ab j1 Hi,hv⟩
   ·rw [mem_singleton.mp c1] at s5 ⊢;exact fin t (.words _ v) _ s5 ae ⟨ab j1 Hi,hv⟩
  have s4:=ak.put (o:=.lst [V.str (Str.ofString "num"),V.str (Str.ofString "words")]) Ik;have pO:∀(t:Addr) (d:De) (H':Hp),ak (upd H3 p1 (.lst [V.str (Str.ofString "num"),V.str (Str.ofString "words")])) H'->H' t=some (.tup d.items)->d.fits->Q (.ref t) H':=λt d H' s e f=>fin t d H' (s4.trans s) e f
  generalize upd H3 p1 (.lst [V.str (Str.ofString "num"),V.str (Str.ofString "words")])=H4 at pO ⊢;refine aJ.of (ag (bh (aF cj (pv 6) az (aH _)) (ah (aB (bo (aa (pv 6) (aa (pv 7) (aa (pv 10) (aa (pv 8) af))))))) aL) ao) ?_;dsimp! [];refine bj (λz=>⟨by decide,λt ht=>pO t (.put _ A _) _ (ak.put ht) (by rw [of_decide_eq_true z]; exact ae) ⟨ab j1 Hi,trivial⟩⟩) λz2=>?_
  refine aJ.of (ag (bh (aF cj (pv 6) az (aH _)) (ah (aB (bo (aa (pv 6) (aa (pv 7) (aa (pv 8) (aa (pv 10) af))))))) aL) ao) ?_;dsimp! [];refine bj (λz=>⟨by decide,λt ht=>pO t (.get _ _ A) _ (ak.put ht) (by rw [of_decide_eq_true z]; exact ae) ⟨ab j1 Hi,trivial⟩⟩) λz3=>?_
  refine aJ.of (ag (bh (aF fb (pv 6) (bP (aa az (aa az af))) (by with_unfolding_all rfl)) (ah (aB (bo (aa (pv 6) (aa (pv 7) (aa (pv 8) (aa (pv 9) af))))))) aL) ao) ?_;dsimp! [];refine⟨by decide,λp5 O2=>XD (ss:=["pair","find"]) ae (λc2=>⟨by decide,λt ht=>?_⟩) λc2=>?_⟩
  ·have s5:=(ak.put O2).trans (ak.put (o:=.tup [V.str wd,V.str {cps:=#[97+j1]},V.str {cps:=#[97+j2]},V.str {cps:=#[97+j3]}]) ht);rcases mem_cons.mp c2 with rfl | c2
   ·exact pO t (.pair _ _ _) _ s5 ae ⟨ab j1 Hi,trivial⟩
   ·rw [mem_singleton.mp c2] at s5 ⊢;exact pO t (.find _ _ _) _ s5 ae ⟨ab j1 Hi,trivial⟩
  refine aJ.of (ag (bh (aF fb (pv 6) (@bP _ _ _ _ (@aa _ _ _ _ _ az (@aa _ _ _ _ _ az (@aa _ _ _ _ _ az (@aa _ _ _ _ _ az af rfl) rfl) rfl) rfl)) (by with_unfolding_all rfl)) (ah (aB (bo (aa (pv 6) (aa (pv 7) (aa (pv 8) af)))))) aL) (ah (aB (bo (aa (pv 6) (aa (pv 7) af)))))) ?_;dsimp! [];have s6:=ak.put (o:=.lst [V.str (Str.ofString "pair"),V.str (Str.ofString "find")]) O2;refine⟨by decide,λp6 hp6=>XD (ss:=["weak","look","copy","same"]) ae (λc3=>⟨by decide,λt ht=>?_⟩) λc3=>⟨by decide,λt ht=>?_⟩⟩
  ·have s7:=s6.trans ((ak.put hp6).trans (ak.put (o:=.tup [V.str wd,V.str {cps:=#[97+j1]},V.str {cps:=#[97+j2]}]) ht));rcases mem_cons.mp c3 with rfl | c3
   ·exact pO t (.weak _ _) _ s7 ae ⟨ab j1 Hi,trivial⟩
   ·rcases mem_cons.mp c3 with rfl | c3
    ·exact pO t (.look _ _) _ s7 ae ⟨ab j1 Hi,trivial⟩
    ·rcases mem_cons.mp c3 with rfl | c3
     ·exact pO t (.copy _ _) _ s7 ae ⟨ab j1 Hi,trivial⟩
     ·rw [mem_singleton.mp c3] at s7 ⊢;exact pO t (.same _ _) _ s7 ae ⟨ab j1 Hi,trivial⟩
  ·have s7:=s6.trans ((ak.put hp6).trans (ak.put (o:=.tup [V.str wd,V.str {cps:=#[97+j1]}]) ht));have abL:=Eu wd hwd (λe=>z1 (decide_eq_true e)) c1 (λe=>z2 (decide_eq_true e)) (λe=>z3 (decide_eq_true e)) c2 c3;rcases abL with rfl | rfl | rfl
   ·exact pO t (.drop _) _ s7 ae ⟨ab j1 Hi,trivial⟩
   ·exact pO t (.hear _) _ s7 ae ⟨ab j1 Hi,trivial⟩
   ·exact pO t (.tell _) _ s7 ae ⟨ab j1 Hi,trivial⟩
inductive Oc (K:Frag) (vs:List V) (H:Hp) (Q:VK) (E:XK):Prop
 | mk (p:Addr) (ns:List Int) (k:Int) (_:vs=[.ref p,.int k]) (_:ba K H p (ns.map V.int)) (_:0<=k) (_:∀z,Q (.int z) H):Oc K vs H Q E
theorem XF (T:Txt K mg a):aU P w K mg base cU 1 a.A7 a.A8 ["_law_script","_law_k"] (Oc K):=by
 refine T.B1.ok V_ (λvs H Q E h=>?_) (λbY A outer s H vs Q E hr h=>?_)
 ·obtain⟨_,_,_,rfl,_⟩:=h;rfl
 ·obtain⟨p,ns,k,rfl,hS,hk,q⟩:=h;refine⟨_,(ag (bh (aF Jk (pv 1) (aR cF rfl T.f_ eE (aa (pv 0) af)) (aH _)) (ah (aB (av df (pv 0) (pv 1) (λ_ _=>rfl)))) aL) (ah (aB ai))),?_⟩;dsimp! [];refine⟨_,.inl hS,bj (λh=>?_) λ_=>q 0⟩;have hU:k.toNat < ns.length:=by
   have:=of_decide_eq_true h;rw [length_map] at this;omega
  have e:k=((k.toNat:Nat):Int):=by omega
  have hx:(ns.map V.int)[k.toNat]?=some (V.int ns[k.toNat]):=by simp [hU]
  exact⟨p,_,k,_,rfl,rfl,hS,(congrArg (ql _) e).trans (dk hx),q _⟩
theorem Vl.ok.mono {v:Vl}{m n:Nat}(h:v.ok m) (hl:m<=n):v.ok n:=by
 cases v with
 | no=>trivial
 | num k=>exact h
 | th s=>
  obtain⟨i,e,hi⟩:=h;exact⟨i,e,Nat.lt_of_lt_of_le hi hl⟩
theorem Wd.ok.en {W:Wd}(h:W.ok) {x:Str}{v:Vl}(hv:v.ok W.ts.length):(W.en x v).ok:=⟨λy=>by
 show(if y=x then v else W.g y).ok W.ts.length
 by_cases c:y=x
 ·rw [if_pos c];exact hv
 ·rw [if_neg c];exact h.g y,h.ts,h.hs⟩
theorem Wd.ok.new {W:Wd}(h:W.ok) {t:Tg}(h1:∀v∈t.fs,v.ok W.ts.length) (h2:∀n,t.words=some n->Cm n):(Wd.mk W.g (W.ts++[t]) W.hs).ok:=by
 have hl:(W.ts++[t]).length=W.ts.length+1:=by rw [length_append]; rfl
 refine⟨λy=>?_,λg hg=>?_,λr hr=>?_⟩
 ·show(W.g y).ok (W.ts++[t]).length;rw [hl];exact(h.g y).mono (Nat.le_succ _)
 ·show(∀v∈g.fs,v.ok (W.ts++[t]).length)/\_;rw [hl];rcases mem_append.mp hg with hg | hg
  ·exact⟨λv hv=>((h.ts g hg).1 v hv).mono (Nat.le_succ _),(h.ts g hg).2⟩
  ·rw [mem_singleton.mp hg];exact⟨λv hv=>(h1 v hv).mono (Nat.le_succ _),h2⟩
 ·show(1<=r.1/\r.1<=(W.ts++[t]).length)/\_;rw [hl];obtain⟨⟨a,b⟩,c⟩:=h.hs r hr;exact⟨⟨a,Nat.le_succ_of_le b⟩,c⟩
theorem Wd.ok.aeR {W:Wd}(h:W.ok) {i:Nat}{t:Tg}(h1:∀v∈t.fs,v.ok W.ts.length) (h2:∀n,t.words=some n->Cm n):(Wd.mk W.g (W.ts.set i t) W.hs).ok:=by
 refine⟨λy=>?_,λg hg=>?_,λr hr=>?_⟩
 ·show(W.g y).ok (W.ts.set i t).length;rw [length_set];exact h.g y
 ·show(∀v∈g.fs,v.ok (W.ts.set i t).length)/\_;rw [length_set];rcases List.mem_or_eq_of_mem_set hg with hg | rfl
  ·exact h.ts g hg
  ·exact⟨h1,h2⟩
 ·show(1<=r.1/\r.1<=(W.ts.set i t).length)/\_;rw [length_set];exact h.hs r hr
theorem Wd.ok.fsD {W:Wd}(h:W.ok) (y:Str) (n:Nat):((W.fs y).getD n .no).ok W.ts.length:=by
 rw [List.getD_eq_getElem?_getD]
 cases e:(W.fs y)[n]? with
 | none=>trivial
 | some v=>
  have hm:=mem_of_getElem? e;rcases h.tg y with ⟨i,t,e1,e2,e3⟩ | ⟨e1,e2⟩
  ·have e4:W.fs y=t.fs:=by unfold Wd.fs; rw [e3]
   rw [e4] at hm;exact(h.ts t (mem_of_getElem? e2)).1 v hm
  ·have e4:W.fs y=[]:=by unfold Wd.fs; rw [e2]
   rw [e4] at hm;exact nomatch hm
theorem Wd.ok.step {W:Wd}{d:De}(h:W.ok) (hf:d.fits):(W.step d).ok/\(W.step d).ts.length<=W.ts.length+1/\(W.step d).hs.length<=W.hs.length:=by
 have nw:∀(x:Str) (t:Tg),(∀v∈t.fs,v.ok W.ts.length)->(∀n,t.words=some n->Cm n)->((Wd.mk W.g (W.ts++[t]) W.hs).en x (.th ((W.ts.length:Int)+1))).ok/\(W.ts++[t]).length<=W.ts.length+1/\W.hs.length<=W.hs.length:=λx t a b=>⟨(h.new a b).en ⟨W.ts.length,rfl,by show W.ts.length < (W.ts++[t]).length; rw [length_append]; exact Nat.lt_succ_self _⟩,by rw [length_append]; exact Nat.le_refl _,Nat.le_refl _⟩
 have sr:∀(x:Str) (v:Vl),v.ok W.ts.length->(W.en x v).ok/\W.ts.length<=W.ts.length+1/\W.hs.length<=W.hs.length:=λx v hv=>⟨h.en hv,Nat.le_succ _,Nat.le_refl _⟩
 have st:∀(i:Nat) (t:Tg),(∀v∈t.fs,v.ok W.ts.length)->(∀n,t.words=some n->Cm n)->(Wd.mk W.g (W.ts.set i t) W.hs).ok/\(W.ts.set i t).length<=W.ts.length+1/\W.hs.length<=W.hs.length:=λi t a b=>⟨h.aeR a b,by rw [length_set]; exact Nat.le_succ _,Nat.le_refl _⟩
 have id':W.ok/\W.ts.length<=W.ts.length+1/\W.hs.length<=W.hs.length:=⟨h,Nat.le_succ _,Nat.le_refl _⟩
 cases d with
 | num x n=>exact sr x _ hf.2
 | make x n=>exact nw x _ (λv hv=>by rw [(List.mem_replicate.mp hv).2]; trivial) (λn e=>by cases e)
 | weak x y=>exact nw x _ (λv hv=>by rw [mem_singleton.mp hv]; exact h.g y) (λn e=>by cases e)
 | pair x y z=>
  refine nw x _ (λv hv=>?_) (λn e=>by cases e);rcases mem_cons.mp hv with rfl | hv
  ·exact h.g y
  ·rw [mem_singleton.mp hv];exact h.g z
 | words x n=>
  show(W.mF n (W.tg x)).ok/\_;rcases h.tg x with ⟨i,t,e1,e2,e3⟩ | ⟨e1,e2⟩
  ·have ho:=h.ts t (mem_of_getElem? e2);have es:W.step (.words x n)=W.mF n (some (i,t)):=by show W.mF n (W.tg x)=_; rw [e3]
   rw [es,e3]
   cases t with
   | plain fs w=>exact st i (.plain fs (some n)) ho.1 (λm e=>by cases e; exact hf.2)
   | weak f=>exact id'
   | pair k v=>exact id'
  ·have es:W.step (.words x n)=W.mF n none:=by show W.mF n (W.tg x)=_; rw [e2]
   rw [es,e2];exact id'
 | put x n y=>
  show(W.mG n (W.g y) (W.tg x)).ok/\_;rcases h.tg x with ⟨i,t,e1,e2,e3⟩ | ⟨e1,e2⟩
  ·have ho:=h.ts t (mem_of_getElem? e2);have es:W.step (.put x n y)=W.mG n (W.g y) (some (i,t)):=by show W.mG n (W.g y) (W.tg x)=_; rw [e3]
   rw [es,e3]
   cases t with
   | plain fs w=>
    refine st i (.plain (fs.set n (W.g y)) w) (λv hv=>?_) ho.2;rcases List.mem_or_eq_of_mem_set hv with hv | rfl
    ·exact ho.1 v hv
    ·exact h.g y
   | weak f=>exact id'
   | pair k v=>exact id'
  ·have es:W.step (.put x n y)=W.mG n (W.g y) none:=by show W.mG n (W.g y) (W.tg x)=_; rw [e2]
   rw [es,e2];exact id'
 | get x y n=>exact sr x _ (h.fsD y n)
 | look x y=>exact sr x _ (h.fsD y 0)
 | find x y z=>
  refine sr x _ ?_;split
  ·exact h.fsD y 1
  ·trivial
 | copy x y=>exact sr x _ (h.g y)
 | drop x=>exact sr x _ trivial
 | tell x=>exact id'
 | same x y=>exact id'
 | hear x=>
  cases e:W.hs with
  | nil=>
   have es:W.step (.hear x)=W.en x .no:=by show W.pz x W.hs=_; rw [e]; rfl
   rw [es];exact⟨h.en trivial,Nat.le_succ _,by show W.hs.length<=_; rw [e]; exact Nat.le_refl _⟩
  | cons r qZ=>
   have es:W.step (.hear x)=(Wd.mk W.g W.ts qZ).en x (.th (r.1:Nat)):=by show W.pz x W.hs=_; rw [e]; rfl
   rw [es];obtain⟨⟨r1,r2⟩,_⟩:=h.hs r (by rw [e]; exact mem_cons_self);have ok':(Wd.mk W.g W.ts qZ).ok:=⟨h.g,h.ts,λq hq=>h.hs q (by rw [e]; exact mem_cons_of_mem _ hq)⟩
   refine⟨ok'.en ⟨r.1 - 1,by omega,by show r.1 - 1 < W.ts.length; omega⟩,Nat.le_succ _,?_⟩;show qZ.length<=(r::qZ).length;exact Nat.le_succ _
theorem Wd.ok.after {W:Wd}{d:De}(h:W.ok) (hf:d.fits):(W.after d).ok/\(W.after d).ts.length<=W.ts.length+1/\(W.after d).hs.length<=W.hs.length:=by
 unfold Wd.after;split
 ·exact⟨h,Nat.le_succ _,Nat.le_refl _⟩
 ·exact h.step hf
theorem PH.more {Pr Pr':Addr->Prop}{H H':Hp}{A:HA}{g:Str->Vl}{ts:List Tg}{hs:List (Nat×Int)}(h:PH a K Pr H A g ts hs) (s:ak H H') (n:∀b,Pr' b->(Pr b\/H b=none)/\H' b≠none):PH a K Pr' H' A g ts hs:=by
 have h':=h.same s;obtain⟨ps,h4,h5,h6,h7⟩:=h'.th;obtain⟨ps0,g4,g5,g6,g7⟩:=h.th;have ow:∀b,A.own b->H b≠none:=λb hb=>(h.mu b hb).some
 refine⟨h'.ob,h'.rt,⟨ps0,s _ _ g4,g5,λi q t a b=>(g6 i q t a b).same s,λq hq=>⟨(g7 q hq).1,λz=>?_⟩⟩,h'.he,h'.ne,λb hb=>⟨(n b hb).2,λz=>?_⟩,h'.bO⟩
 ·rcases (n _ z).1 with c | c
  ·exact(g7 q hq).2 c
  ·obtain⟨i,hi⟩:=mem_iff_getElem?.mp hq;obtain⟨_,_,e,_⟩:=g6 i q _ hi (getElem?_eq_getElem (by rw [<-g5]; exact(List.getElem?_eq_some_iff.mp hi).1));rw [c] at e;cases e
 ·rcases (n b hb).1 with c | c
  ·exact(h.pr b c).2 z
  ·exact ow b z c
noncomputable def W0:Wd:=⟨λ_=>.no,[],[]⟩
theorem abM:W0.ok:=⟨(λ_=>trivial),(λt ht=>nomatch ht),λr hr=>nomatch hr⟩
theorem eV.start {H:Hp}{d0 d1 l2 st:Addr}{Pr:Addr->Prop}(h0:H d0=none) (h1:upd H d0 (.dK []) d1=none) (h2:upd (upd H d0 (.dK [])) d1 (.dK []) l2=none) (h3:upd (upd (upd H d0 (.dK [])) d1 (.dK [])) l2 (.lst []) st=none) (hP:∀b,Pr b->H b≠none) :
  ∃H',upd (upd (upd (upd H d0 (.dK [])) d1 (.dK [])) l2 (.lst [])) st (.tup [.ref d0,.ref d1,.ref l2])=H'/\ak H H'/\eV K Pr H' ⟨st,d0,d1,l2⟩ W0/\∀b,LA.own ⟨st,d0,d1,l2⟩ b->H b=none:=by
 have s0:=ak.put (o:=.dK []) h0;have s1:=ak.put (o:=.dK []) h1;have s2:=ak.put (o:=.lst []) h2;have s3:=ak.put (o:=.tup [.ref d0,.ref d1,.ref l2]) h3;have e0:=s3 _ _ (s2 _ _ (s1 _ _ (ae (H:=H) (a:=d0) (o:=.dK []))));have e1:=s3 _ _ (s2 _ _ (ae (H:=upd H d0 (.dK [])) (a:=d1) (o:=.dK [])));have e2:=s3 _ _ (ae (H:=upd (upd H d0 (.dK [])) d1 (.dK [])) (a:=l2) (o:=.lst []));have e3:=ae (H:=upd (upd (upd H d0 (.dK [])) d1 (.dK [])) l2 (.lst [])) (a:=st) (o:=.tup [.ref d0,.ref d1,.ref l2]);have sm:=s0.trans (s1.trans (s2.trans s3));have n01:d0≠d1:=aC ae h1;have fr:∀b,LA.own ⟨st,d0,d1,l2⟩ b->H b=none:=λb z=>by
  rcases z with rfl | rfl | rfl
  ·exact h0
  ·exact s0.free h1
  ·exact(s0.trans s1).free h2
 generalize upd (upd (upd (upd H d0 (.dK [])) d1 (.dK [])) l2 (.lst [])) st (.tup [.ref d0,.ref d1,.ref l2])=H' at e0 e1 e2 e3 sm;refine⟨H',rfl,sm,⟨bX.of e3,⟨[],e0,⟨List.nodup_nil,(λkv h=>(nomatch h)),(λx u e=>by cases e),λ_ _=>rfl⟩,λx u e=>by cases e⟩,⟨[],e1,rfl,(λi q t h=>by simp at h),λq hq=>(nomatch hq)⟩,⟨[],e2,rfl,λi x h a=>by simp at a⟩,n01,λb hb=>⟨some_of (hP b hb) λo e=>sm b o e,λz=>hP b hb (fr b z)⟩,by decide,by decide⟩,fr⟩
theorem gC (C D:List Nat) (k:Nat) (t:Tg):(jB C D k t).sort=t.sort:=by
 unfold jB
 split <;> split <;> cases t <;> rfl
theorem xg {t:Tg}(h:t.sort≠"plain"):t.cleared=jv t:=by
 cases t with
 | plain fs w=>exact absurd rfl h
 | weak f=>rfl
 | pair k v=>rfl
noncomputable def XG (ts:List Tg) (k:Nat):Int:=match ts[k - 1]? with
 | some t=>t.words.getD 0
 | none=>0
noncomputable def p_ (ts:List Tg) (l:List Nat):List (Nat×Int):=l.map λk=>(k,XG ts k)
theorem mQ (ts:List Tg) (l:List Nat):(p_ ts l).length=l.length:=by
 unfold p_;rw [length_map]
noncomputable def hJ (W:Wd):Wd:=⟨W.g,bg W.ts ((aT W).dP++(aT W).eG++(aT W).jl++(aT W).kB) (aT W).due,W.hs++p_ W.ts (aT W).due⟩
theorem Od {C D:List Nat}{k:Nat}{fs:List Vl}{w:Option Int}(h:k∉D):jB C D k (.plain fs w)=.plain fs w:=by
 unfold jB;rw [if_neg h]
 split <;> rfl
theorem Oe (rows:List (Addr×Addr)):gT (dE rows)=aE (da rows.length):=by
 have h:=wK rows;unfold gT aE da;have e:(dE rows).map (λkv=>kV kv.1)=((dE rows).map (·.1)).map kV:=by rw [List.map_map]; rfl
 rw [e,h,List.map_map,List.map_map,List.map_map];refine List.map_congr_left λi _=>?_
 show V.int ((i:Int)+1)=V.int (((i+1:Nat)):Int);rw [Int.natCast_succ]
noncomputable def PDu (H5:Hp) (D:Addr) (ts:List Tg) (S:List Nat) (i:Nat) (ys:List V) (H2:Hp):Prop:=ak H5 H2/\H2 D=some (.lst ys)/\ys=aE (((da ts.length).take i).filter (fG ts S))
inductive CH (K:Frag) (vs:List V) (H:Hp) (Q:VK) (E:XK):Prop
 | mk (Pr L W:_) (la:Addr) (_:vs=[.ref L.st,.ref la]) (_:H la=some (.lst [])) (_:¬L.own la) (_:eV K Pr H L W) (_:W.ok) (_:W.ts.length<=63) (_:W.hs.length<=63) (_:∀r H',Kp L.own H H'->eV K Pr H' L (hJ W)->j_ (λb=>H b=none) H' r (aT W)->Q (.ref r) H'):CH K vs H Q E
noncomputable def IEv (K:Frag) (Pr:Addr->Prop) (L:LA) (g:Str->Vl) (ts:List Tg) (C D:List Nat) (hs:List (Nat×Int)) (S:List Nat) (σf:Option V->St) (H0:Hp) (i:Nat) (σ:St) (H:Hp):Prop:=(∃o,σ=σf o)/\Kp L.own H0 H/\eV K Pr H L ⟨g,bg ts (C++S.take i) D,hs⟩
noncomputable def IEd (K:Frag) (Pr:Addr->Prop) (L:LA) (g:Str->Vl) (ts:List Tg) (C:List Nat) (hs:List (Nat×Int)) (S:List Nat) (σf:Option V->St) (H0:Hp) (i:Nat) (σ:St) (H:Hp):Prop:=(∃o,σ=σf o)/\Kp L.own H0 H/\eV K Pr H L ⟨g,bg ts C (S.take i),hs++p_ ts (S.take i)⟩
theorem XH (T:Txt K mg a):aU P w K mg base cU 4 a.BD a.BE ["_law_state","_law_away"] (CH K):=by
 refine T.Cd.ok fP (λvs H Q E h=>?_) (λbY A outer s H vs Q E hr h=>?_)
 ·obtain⟨_,_,_,_,rfl,_⟩:=h;rfl
 ·obtain⟨Pr,L,W,la,rfl,Qi,nla,h,ok,bO,Qw,q⟩:=h;refine⟨_,(ag (aN (i:=2) fP.nd rfl (Or.inr rfl) (av aq (pv 0) ai (λ_ _=>rfl))) ao),?_⟩;dsimp! [];have tok:wU W.ts:=λt ht=>(ok.ts t ht).1
  have kd:∀{l:List Nat},l.Pairwise (· < ·)->l.Nodup:=λh=>h.imp λh=>Nat.ne_of_lt h
  have tb:pM K H L.d1 W.ts:=by
   obtain⟨rows,h4,h5,h6,_⟩:=h.th;exact⟨rows,h4,h5,h6⟩
  have lD:∀b,H b=none->¬L.own b:=λb e z=>(h.mu b z).some e
  refine bC h.tu rfl ?_;refine aJ.of (ag (aN (i:=3) fP.nd rfl (Or.inr rfl) (aD (N4 T) hr.dm rfl T.RJ T.uT.kp T.RI .nil aw (aa (pv 2) (aa (aD (Xp T) hr.dm rfl T.abb T.Cc.kp T.aba .nil aw (aa (pv 0) af)) af)))) ao) ?_;dsimp! [];refine⟨Pr,L,W,rfl,h,ok,bO,λo1 H1 s1 PM e1=>⟨L.d1,o1,W.ts,_,rfl,tb.same s1,tok,bO,e1,kd (wY _ _ _),(λk hk=>NL hk),λl1 H2 s2 uq e2=>?_⟩⟩;have eN:∃N,N=aT W:=⟨_,rfl⟩
  obtain⟨N,eN⟩:=eN;have n1:N.kept=cls W.ts (O5 W.g W.hs W.ts.length):=by rw [eN]; rfl
  have n2:N.dP=pN W.ts N.kept "weak":=by rw [eN]; rfl
  have n3:N.eG=pN W.ts N.kept "pair":=by rw [eN]; rfl
  have n4:N.due=iD W.ts N.kept:=by rw [eN]; rfl
  have n5:N.oh=cls (bg W.ts (N.dP++N.eG) []) (N.kept++N.due):=by rw [eN]; rfl
  have n6:N.jl=pN (bg W.ts (N.dP++N.eG) []) N.oh "weak":=by rw [eN]; rfl
  have n7:N.kB=pN (bg W.ts (N.dP++N.eG) []) N.oh "pair":=by rw [eN]; rfl
  unfold hJ at q;rw [<-eN] at q;clear eN;rw [<-n1] at e2;have kn:N.kept.Nodup:=by rw [n1]; exact kd (nW _ _)
  have kl:∀k∈N.kept,1<=k/\k<=W.ts.length:=λk hk=>jX (by rw [n1] at hk; exact hk)
  have f1:=s1.free uq;have YA:=s1.trans s2;refine aJ.of (ag (aN (i:=4) fP.nd rfl (Or.inl rfl) (aD (xa T) hr.dm rfl T.GV T.pb.kp T.GU .nil aw (aa (pv 2) (aa (pv 3) (aa az af))))) ao) ?_;dsimp! [];refine⟨L.d1,l1,W.ts,N.kept,"weak",rfl,.inl rfl,tb.same YA,tok,bO,e2,kn,kl,λl2 H3 s3 fW e3=>?_⟩;rw [<-n2] at e3;have f2:=YA.free fW;have Sd:=YA.trans s3;refine aJ.of (ag (aN (i:=5) fP.nd rfl (Or.inl rfl) (aD (xa T) hr.dm rfl T.GV T.pb.kp T.GU .nil aw (aa (pv 2) (aa (pv 3) (aa az af))))) ao) ?_;dsimp! [];refine⟨L.d1,l1,W.ts,N.kept,"pair",rfl,.inr rfl,tb.same Sd,tok,bO,s3 _ _ e2,kn,kl,λl3 H4 s4 Wt e4=>?_⟩;rw [<-n3] at e4;have f3:=Sd.free Wt;have IS:=Sd.trans s4;have e24:=s4 _ _ (s3 _ _ e2);have e34:=s4 _ _ e3;clear s1 s2 s3 s4 e1 PM uq fW Wt YA Sd e2 e3;refine aJ.of (ag (Zl (j:=6) rfl fP.nd rfl rfl (vL (x:="_law_serial") (ns:=["_law_kept","_law_away","_law_things"]) (fr:=[3,1,2]) rfl (by decide +kernel) rfl (by decide +kernel) rfl (forall_mem_cons.mpr ⟨rfl,forall_mem_cons.mpr ⟨rfl,forall_mem_cons.mpr ⟨rfl,forall_mem_nil _⟩⟩⟩) rfl rfl (forall_mem_cons.mpr ⟨⟨rfl,rfl,.inl rfl⟩,forall_mem_cons.mpr ⟨⟨rfl,rfl,.inl rfl⟩,forall_mem_cons.mpr ⟨⟨rfl,rfl,.inl rfl⟩,forall_mem_nil _⟩⟩⟩) (by decide +kernel)) (bQ (aR (ja rfl) rfl T.fR gc (aa (pv 2) af))) (λ_ _ _ _=>(pv 0)) (λ_ _ _ _=>(.one (PW.pt (iV (aF (s_ (K:=K) rfl) (pv 0) (bu (N5 (K:=K) rfl) (pv 1) (pv 2)) (by with_unfolding_all rfl)) (gJ (aF lZ (av (mj (K:=K) rfl) (cf (bB hr) (pv 3) (pv 0) (λ_ _=>rfl)) ai (λ_ _=>rfl)) cz (aH _)))))))) ao) ?_;dsimp! [];have Qx:∃kvs,Rd H4 L.d1 (.dK kvs)/\gT kvs=((da W.ts.length).map λ(k:Nat)=>(k:Int)).map V.int:=by
   obtain⟨rows,h4,h5,_⟩:=tb.same IS;exact⟨_,.inl h4,by rw [Oe,h5]; rfl⟩
  obtain⟨kvs,Qx,yu⟩:=Qx;refine⟨kvs,Qx,_,yu,by rw [length_map]; unfold da; rw [length_map,length_range]; omega,λls pJ hls pm ps=>?_⟩;rw [gX pm ps (kd (kz _)) (kz _) λx=>Iff.rfl];have s5:ak H4 (upd H4 ls (.lst (aE (da W.ts.length)))):=ak.put hls;have e5:upd H4 ls (.lst (aE (da W.ts.length))) ls=some (.lst (aE (da W.ts.length))):=ae;show(∃xs,ba K (upd H4 ls (.lst (aE (da W.ts.length)))) ls xs)/\∀D,upd H4 ls (.lst (aE (da W.ts.length))) D=none->iy _ _ _ _ _ _ _ (upd (upd H4 ls (.lst (aE (da W.ts.length)))) D (.lst []));generalize upd H4 ls (.lst (aE (da W.ts.length)))=H5 at s5 e5 ⊢;refine⟨⟨_,ba.of e5⟩,λD hD=>?_⟩;have Se:=IS.trans s5;have lk:=dz kn kl;have aeS:(da W.ts.length).length=W.ts.length:=by
   unfold da;rw [length_map,length_range]
  refine lcl (aE (da W.ts.length)) (PDu H5 D W.ts N.kept) ⟨.put hD,ae,rfl⟩ (λi ys H2 _ z=>ba.of (z.1 _ _ e5)) ?_ ?_
  ·rintro i m x ys H6 hm hx ⟨s6,Qt,rfl⟩;obtain⟨k,hk,rfl⟩:=cu hx;have ek:=xc hk;subst ek;have hi:=(List.getElem?_eq_some_iff.mp hk).1;rw [aeS] at hi;have et:W.ts[i]?=some (W.ts[i]'hi):=getElem?_eq_getElem _;generalize W.ts[i]'hi=t at et;have sX:((da W.ts.length).take (i+1)).filter (fG W.ts N.kept)=((da W.ts.length).take i).filter (fG W.ts N.kept)++(if fG W.ts N.kept (i+1)=true then [i+1] else []):=by
    rw [take_add_one,hk,filter_append];congr 1;show List.filter _ [i+1]=_;rw [List.filter_cons,List.filter_nil]
   have fl:(((da W.ts.length).take i).filter (fG W.ts N.kept)).length<=63:=by
    have h5:=List.length_filter_le (fG W.ts N.kept) ((da W.ts.length).take i);rw [length_take] at h5;omega
   have eD:fG W.ts N.kept (i+1)=(decide (i+1∉N.kept)&&t.words.isSome):=by
    unfold fG;rw [Nat.add_sub_cancel,et]
   dsimp! [bA,Option.join_some];refine⟨l1,la,_,_,rfl,rfl,ba.of (s6 _ _ (s5 _ _ e24)),ba.of (s6 _ _ (s5 _ _ (IS _ _ Qi))),?_,λc hc=>?_⟩
   ·rw [aI];exact Nat.le_of_lt (aG (by show _+0<=_; omega))
   rw [append_nil];have s7:ak H6 (upd H6 c (.lst (aE N.kept))):=ak.put hc;have e7:upd H6 c (.lst (aE N.kept)) c=some (.lst (aE N.kept)):=ae;have hD7:=s7 _ _ Qt;generalize upd H6 c (.lst (aE N.kept))=H7 at s7 e7 hD7;refine⟨c,_,rfl,.inl (ba.of e7),rfl,lz _,?_⟩;dsimp only;have s67:=s6.trans s7;obtain⟨p,lf,hp,hg⟩:=(tb.same (Se.trans s67)).get (k:=i+1) ⟨i,rfl,et⟩;rw [aI] at hm;have no:fG W.ts N.kept (i+1)=false->UP (PDu H5 D W.ts N.kept) (aE (da W.ts.length)).length (m+1) i H7:=λz=>by
    rw [aI];refine UP.mk hm ⟨s67,hD7,?_⟩;rw [sX,z,if_neg Bool.false_ne_true,append_nil]
   refine⟨_,rfl,?_⟩;rw [if_pos rfl,Cu,<-decide_not]
   cases ec:decide (i+1∉N.kept)with
   | false=>
    rw [ec] at eD;exact ee (no eD)
   | true=>
    rw [ec,Bool.true_and] at eD;refine jK ⟨_,hg,bC (bX.of hp.1) rfl ?_⟩
    cases ew:t.words with
    | none=>
     rw [ew] at eD;exact ee (no eD)
    | some n=>
     rw [ew] at eD;refine jK ?_;rw [aI];refine UO.mk hm hD7 (by rw [aI]; omega) ⟨s67.putD hD,ae,?_⟩;rw [sX,eD,Option.isSome_some,if_pos rfl,gR];rfl
  ·rintro ys H6 ⟨s6,Qt,rfl⟩;rw [aI,take_length] at Qt;have e5d:(da W.ts.length).filter (fG W.ts N.kept)=N.due:=n4.symm;rw [e5d] at Qt;have f4:=Se.free hD;have Ql:=Se.trans s6;have e26:=s6 _ _ (s5 _ _ e24);have Sb:=s6 _ _ (s5 _ _ e34);have Yy:=s6 _ _ (s5 _ _ e4);have h6:=h.same Ql;have kp6:Kp L.own H H6:=ak.kp Ql;clear Se s6 s5 e24 e34 e4 hls pm ps e5 hD Qx yu IS;have cC:∀k∈N.dP,∃t,iU W.ts k t/\t.sort≠"plain":=λk z=>by
    rw [n2] at z;obtain⟨_,t,a1,a2⟩:=kc z kl;exact⟨t,a1,by rw [a2]; decide +kernel⟩
   have cD:∀k∈N.eG,∃t,iU W.ts k t/\t.sort≠"plain":=λk z=>by
    rw [n3] at z;obtain⟨_,t,a1,a2⟩:=kc z kl;exact⟨t,a1,by rw [a2]; decide +kernel⟩
   have h6':eV K Pr H6 L ⟨W.g,bg W.ts [] [],W.hs⟩:=by
    rw [oe];exact h6
   refine aJ.of (ag (cp PassesOwn.never rfl (bQ (pv 4)) (a_ (i:=7) fP.nd rfl (Or.inl rfl)) ao) ao) ?_;dsimp! [];refine⟨⟨_,ba.of Sb⟩,cV (aE N.dP) (IEv K Pr L W.g W.ts ([]) [] W.hs N.dP (λo=>[some (V.ref L.st),some (V.ref la),some (V.ref L.d1),some (V.ref l1),some (V.ref l2),some (V.ref l3),some (V.ref D),o,none,none,none]) H6) ⟨⟨_,rfl⟩,Kp.refl _ _,by rw [List.take_zero,append_nil]; exact h6'⟩ (λi σ' H' _ hh=>ba.of (hh.2.1 _ _ (lD _ f2) Sb)) (λi x σ' H7 hx hh=>?_) λσ' UI hh=>?_⟩
   ·obtain⟨k,hk,rfl⟩:=cu hx;obtain⟨⟨o,rfl⟩,k7,Of⟩:=hh;obtain⟨t,ht,st⟩:=cC k (mem_of_getElem? hk);obtain⟨j,rfl,et⟩:=ht;refine gN ?_;refine aJ.of (ah (aY (aD (rA T) hr.dm rfl T.Ca T.mx.kp T.B_ .nil aw (aa (pv 0) (aa az (aa (pv 7) af)))))) ?_;dsimp! [];have rL:(bg W.ts ([]++N.dP.take i) [])[j]?=some (jB ([]++N.dP.take i) [] (j+1) t):=by
     rw [bK,et];rfl
    refine⟨Pr,L,⟨W.g,_,_⟩,j,_,"weak",rfl,Of,rL,by show W.hs.length < 500; omega,.inr ⟨N_,λH8 k8 sM=>⟨⟨_,rfl⟩,k7.trans k8,?_⟩⟩⟩;dsimp only at sM;rw [xg (by rw [gC]; exact st),gQ rL,append_assoc] at sM;rw [take_add_one,hk];exact sM
   obtain⟨⟨o,rfl⟩,k7,rM⟩:=hh;rw [aI,take_length] at rM;rw [List.nil_append] at rM;have abN:=kp6.trans k7;have e2a:=k7 _ _ (lD _ f1) e26;have e3a:=k7 _ _ (lD _ f2) Sb;have e4a:=k7 _ _ (lD _ f3) Yy;have e5a:=k7 _ _ (lD _ f4) Qt;clear k7 e26 Sb Yy Qt kp6 h6 h6' Ql;refine aJ.of (ag (cp PassesOwn.never rfl (bQ (pv 5)) (a_ (i:=7) fP.nd rfl (Or.inl rfl)) ao) ao) ?_;dsimp! [];refine⟨⟨_,ba.of e4a⟩,cV (aE N.eG) (IEv K Pr L W.g W.ts (N.dP) [] W.hs N.eG (λo=>[some (V.ref L.st),some (V.ref la),some (V.ref L.d1),some (V.ref l1),some (V.ref l2),some (V.ref l3),some (V.ref D),o,none,none,none]) UI) ⟨⟨_,rfl⟩,Kp.refl _ _,by rw [List.take_zero,append_nil]; exact rM⟩ (λi σ' H' _ hh=>ba.of (hh.2.1 _ _ (lD _ f3) e4a)) (λi x σ' H7 hx hh=>?_) λσ' H11 hh=>?_⟩
   ·obtain⟨k,hk,rfl⟩:=cu hx;obtain⟨⟨o,rfl⟩,k7,Of⟩:=hh;obtain⟨t,ht,st⟩:=cD k (mem_of_getElem? hk);obtain⟨j,rfl,et⟩:=ht;refine gN ?_;refine aJ.of (ah (aY (aD (rA T) hr.dm rfl T.Ca T.mx.kp T.B_ .nil aw (aa (pv 0) (aa az (aa (pv 7) af)))))) ?_;dsimp! [];have rL:(bg W.ts (N.dP++N.eG.take i) [])[j]?=some (jB (N.dP++N.eG.take i) [] (j+1) t):=by
     rw [bK,et];rfl
    refine⟨Pr,L,⟨W.g,_,_⟩,j,_,"pair",rfl,Of,rL,by show W.hs.length < 500; omega,.inr ⟨Oa,λH8 k8 sM=>⟨⟨_,rfl⟩,k7.trans k8,?_⟩⟩⟩;dsimp only at sM;rw [xg (by rw [gC]; exact st),gQ rL,append_assoc] at sM;rw [take_add_one,hk];exact sM
   obtain⟨⟨o,rfl⟩,k7,rN⟩:=hh;rw [aI,take_length] at rN;have abO:=abN.trans k7;have e2b:=k7 _ _ (lD _ f1) e2a;have e3b:=k7 _ _ (lD _ f2) e3a;have e4b:=k7 _ _ (lD _ f3) e4a;have e5b:=k7 _ _ (lD _ f4) e5a;clear k7 e2a e3a e4a e5a abN rM;have dn:N.due.Nodup:=by rw [n4]; exact kd (ir _ _)
   have dl:∀k∈N.due,1<=k/\k<=W.ts.length:=λk hk=>mO (by rw [n4] at hk; exact hk)
   have ld:=dz dn dl;refine aJ.of (ag (cp PassesOwn.never rfl (bQ (pv 6)) (a_ (i:=7) fP.nd rfl (Or.inl rfl)) ao) ao) ?_;dsimp! [];refine⟨⟨_,ba.of e5b⟩,cV (aE N.due) (IEd K Pr L W.g W.ts (N.dP++N.eG) W.hs N.due (λo=>[some (V.ref L.st),some (V.ref la),some (V.ref L.d1),some (V.ref l1),some (V.ref l2),some (V.ref l3),some (V.ref D),o,none,none,none]) H11) ⟨⟨_,rfl⟩,Kp.refl _ _,by rw [List.take_zero]; unfold p_; rw [List.map_nil,append_nil]; exact rN⟩ (λi σ' H' _ hh=>ba.of (hh.2.1 _ _ (lD _ f4) e5b)) (λi x σ' H7 hx hh=>?_) λσ' H12 hh=>?_⟩
   ·obtain⟨k,hk,rfl⟩:=cu hx;obtain⟨⟨o,rfl⟩,k7,Of⟩:=hh;have hkm:=mem_of_getElem? hk;rw [n4] at hkm;obtain⟨j,fs,n,rfl,et⟩:=qe hkm;refine gN ?_;refine aJ.of (ah (aY (aD (rA T) hr.dm rfl T.Ca T.mx.kp T.B_ .nil aw (aa (pv 0) (aa az (aa (pv 7) af)))))) ?_;dsimp! [];have njt:j+1∉N.due.take i:=λz=>by
     obtain⟨i2,h2⟩:=mem_iff_getElem?.mp z;rw [List.getElem?_take] at h2;split at h2
     ·rename_i c;have h3:=(List.getElem?_eq_some_iff.mp h2)
      have h4:=(List.getElem?_eq_some_iff.mp hk)
      obtain⟨c3,d3⟩:=h3;obtain⟨c4,d4⟩:=h4;exact(List.pairwise_iff_getElem.mp dn) i2 i c3 c4 c (d3.trans d4.symm)
     ·cases h2
    have rL:(bg W.ts (N.dP++N.eG) (N.due.take i))[j]?=some (.plain fs (some n)):=by
     rw [bK,et];exact congrArg some (Od njt)
    have ltk:(N.due.take i).length<=63:=by
     rw [length_take];omega
    refine⟨Pr,L,⟨W.g,_,_⟩,j,_,"due",rfl,Of,rL,by show(W.hs++p_ W.ts (N.due.take i)).length < 500; rw [length_append,mQ]; omega,.inl ⟨rfl,fs,n,rfl,λH8 k8 sM=>⟨⟨_,rfl⟩,k7.trans k8,?_⟩⟩⟩;dsimp only at sM;have e9:=vk rL;have e8:lA (.plain fs (some n))=.plain fs none:=rfl;rw [e8] at e9;rw [e9] at sM;have e10:p_ W.ts (N.due.take i++[j+1])=p_ W.ts (N.due.take i)++[(j+1,n)]:=by
     unfold p_;rw [map_append];congr 1;show [(j+1,XG W.ts (j+1))]=_;unfold XG;rw [Nat.add_sub_cancel,et];rfl
    rw [take_add_one,hk];show eV K Pr H8 L ⟨W.g,bg W.ts (N.dP++N.eG) (N.due.take i++[j+1]),W.hs++p_ W.ts (N.due.take i++[j+1])⟩;rw [e10,<-append_assoc];exact sM
   obtain⟨⟨o,rfl⟩,k7,Ir⟩:=hh;rw [aI,take_length] at Ir;have XI:=abO.trans k7;have e2c:=k7 _ _ (lD _ f1) e2b;have e3c:=k7 _ _ (lD _ f2) e3b;have e4c:=k7 _ _ (lD _ f3) e4b;have e5c:=k7 _ _ (lD _ f4) e5b;clear k7 e2b e3b e4b e5b abO rN;have hkd:(N.kept++N.due).Nodup:=nodup_append.mpr ⟨kn,dn,λx hx y hy e=>Hh (by rw [n4] at hy; exact hy) (by rw [<-e]; exact hx)⟩;have Xz:∀k∈N.kept++N.due,1<=k/\k<=W.ts.length:=λk hk=>(mem_append.mp hk).elim (kl k) (dl k)
   have Qu:(bg W.ts (N.dP++N.eG) N.due).length=W.ts.length:=cE _ _ _;have XA:=rJ tok (N.dP++N.eG) N.due;have XJ:pM K H12 L.d1 (bg W.ts (N.dP++N.eG) N.due):=by
    obtain⟨rows,h4,h5,h6,_⟩:=Ir.th;exact⟨rows,h4,h5,h6⟩
   refine aJ.of (ag (aN (i:=8) fP.nd rfl (Or.inl rfl) (aD (N4 T) hr.dm rfl T.RJ T.uT.kp T.RI .nil aw (aa (av aq (pv 0) ai (λ_ _=>rfl)) (aa (bu eS (pv 3) (pv 6)) af)))) ao) ?_;dsimp! [];refine bC Ir.tu rfl ⟨l1,D,_,_,rfl,rfl,ba.of e2c,ba.of e5c,?_,λc hc=>?_⟩
   ·rw [aI,aI];exact Nat.le_of_lt (aG (by omega))
   rw [<-gR];have Et:ak H12 (upd H12 c (.lst (aE (N.kept++N.due)))):=ak.put hc;refine⟨L.d1,c,_,N.kept++N.due,rfl,XJ.same Et,XA,by rw [Qu]; exact bO,ae,hkd,λk hk=>by rw [Qu]; exact Xz k hk,λl5 H13 CG IP e6=>?_⟩;rw [Qr W.ts (N.dP++N.eG) N.due (S':=N.kept++N.due) λ_=>Iff.rfl,<-n5] at e6;have pF:=Et.trans CG;have e2d:=pF _ _ e2c;have e3d:=pF _ _ e3c;have e4d:=pF _ _ e4c;have e5d:=pF _ _ e5c;have XM:=XJ.same pF;have Qy:=Ir.same pF;have XN:=XI.trans (ak.kp pF);have noL:∀{H1:Hp}{W1:Wd},Kp L.own H H1->eV K Pr H1 L W1->∀b,H1 b=none->H b=none:=λ{H1 W1} k1 Va b e=>by
    cases e0:H b with
    | none=>rfl
    | some u=>
     by_cases z:L.own b
     ·exact absurd e (Va.mu b z).some
     ·rw [k1 b u z e0] at e;cases e
   have f5:H l5=none:=noL (XI.trans (ak.kp Et)) (Ir.same Et) _ IP;clear Et CG hc IP pF e2c e3c e4c e5c XJ Ir XI;have sn:N.oh.Nodup:=by rw [n5]; exact kd (nW _ _)
   have sl:∀k∈N.oh,1<=k/\k<=(bg W.ts (N.dP++N.eG) N.due).length:=λk hk=>by
    rw [n5] at hk;have:=jX hk;rw [cE] at this ⊢;exact this
   refine aJ.of (ag (aN (i:=9) fP.nd rfl (Or.inl rfl) (aD (xa T) hr.dm rfl T.GV T.pb.kp T.GU .nil aw (aa (av aq (pv 0) ai (λ_ _=>rfl)) (aa (pv 8) (aa az af))))) ao) ?_;dsimp! [];refine bC Qy.tu rfl ⟨L.d1,l5,_,N.oh,"weak",rfl,.inl rfl,XM,XA,by rw [Qu]; exact bO,e6,sn,sl,λl6 H14 CG O3 e7=>?_⟩;rw [Hg,<-n6] at e7;have f6:H l6=none:=noL XN Qy _ O3;refine aJ.of (ag (aN (i:=10) fP.nd rfl (Or.inl rfl) (aD (xa T) hr.dm rfl T.GV T.pb.kp T.GU .nil aw (aa (av aq (pv 0) ai (λ_ _=>rfl)) (aa (pv 8) (aa az af))))) ao) ?_;dsimp! [];have Qz:=Qy.same CG;have XO:=XN.trans (ak.kp CG);refine bC Qz.tu rfl ⟨L.d1,l5,_,N.oh,"pair",rfl,.inr rfl,XM.same CG,XA,by rw [Qu]; exact bO,CG _ _ e6,sn,sl,λl7 H15 IV Qm e8=>?_⟩;rw [Hg,<-n7] at e8;have f7:H l7=none:=noL XO Qz _ Qm;have vo:=CG.trans IV;have e2e:=vo _ _ e2d;have e3e:=vo _ _ e3d;have e4e:=vo _ _ e4d;have e5e:=vo _ _ e5d;have e6e:=vo _ _ e6;have e7e:=IV _ _ e7;have abP:=Qz.same IV;have abQ:=XO.trans (ak.kp IV);clear CG IV vo e2d e3d e4d e5d e6 e7 Qy Qz XN XO O3 Qm XM;have sl0:∀k∈N.oh,1<=k/\k<=(bg W.ts (N.dP++N.eG) []).length:=λk hk=>jX (by rw [n5] at hk; exact hk)
   have back:∀{z:Str}{k:Nat},z≠"plain"->k∈pN (bg W.ts (N.dP++N.eG) []) N.oh z->∃t,iU W.ts k t/\t.sort≠"plain":=λ{z k} nz hk=>by
    obtain⟨_,t,⟨i,rfl,e⟩,a2⟩:=kc hk sl0;rw [bK] at e
    cases e0:W.ts[i]? with
    | none=>rw [e0] at e; cases e
    | some t0=>
     rw [e0] at e;cases e;rw [gC] at a2;exact⟨t0,⟨i,rfl,e0⟩,by rw [a2]; exact nz⟩
   have cM:∀k∈N.jl,∃t,iU W.ts k t/\t.sort≠"plain":=λk z=>back (z:="weak") (by decide +kernel) (by rw [n6] at z; exact z)
   have cO:∀k∈N.kB,∃t,iU W.ts k t/\t.sort≠"plain":=λk z=>back (z:="pair") (by decide +kernel) (by rw [n7] at z; exact z)
   refine aJ.of (ag (cp PassesOwn.never rfl (bQ (pv 9)) (a_ (i:=7) fP.nd rfl (Or.inl rfl)) ao) ao) ?_;dsimp! [];refine⟨⟨_,ba.of e7e⟩,cV (aE N.jl) (IEv K Pr L W.g W.ts (N.dP++N.eG) N.due (W.hs++p_ W.ts N.due) N.jl (λo=>[some (V.ref L.st),some (V.ref la),some (V.ref L.d1),some (V.ref l1),some (V.ref l2),some (V.ref l3),some (V.ref D),o,some (V.ref l5),some (V.ref l6),some (V.ref l7)]) H15) ⟨⟨_,rfl⟩,Kp.refl _ _,by rw [List.take_zero,append_nil]; exact abP⟩ (λi σ' H' _ hh=>ba.of (hh.2.1 _ _ (lD _ f6) e7e)) (λi x σ' H7 hx hh=>?_) λσ' H16 hh=>?_⟩
   ·obtain⟨k,hk,rfl⟩:=cu hx;obtain⟨⟨o,rfl⟩,k7,Of⟩:=hh;obtain⟨t,ht,st⟩:=cM k (mem_of_getElem? hk);obtain⟨j,rfl,et⟩:=ht;refine gN ?_;refine aJ.of (ah (aY (aD (rA T) hr.dm rfl T.Ca T.mx.kp T.B_ .nil aw (aa (pv 0) (aa az (aa (pv 7) af)))))) ?_;dsimp! [];have rL:(bg W.ts (N.dP++N.eG++N.jl.take i) N.due)[j]?=some (jB (N.dP++N.eG++N.jl.take i) N.due (j+1) t):=by
     rw [bK,et];rfl
    refine⟨Pr,L,⟨W.g,_,_⟩,j,_,"weak",rfl,Of,rL,by show(W.hs++p_ W.ts N.due).length < 500; rw [length_append,mQ]; omega,.inr ⟨N_,λH8 k8 sM=>⟨⟨_,rfl⟩,k7.trans k8,?_⟩⟩⟩;dsimp only at sM;rw [xg (by rw [gC]; exact st),gQ rL,append_assoc (N.dP++N.eG)] at sM;rw [take_add_one,hk];exact sM
   obtain⟨⟨o,rfl⟩,k7,abR⟩:=hh;rw [aI,take_length] at abR;have aeT:=abQ.trans k7;have e2f:=k7 _ _ (lD _ f1) e2e;have e3f:=k7 _ _ (lD _ f2) e3e;have e4f:=k7 _ _ (lD _ f3) e4e;have e5f:=k7 _ _ (lD _ f4) e5e;have e6f:=k7 _ _ (lD _ f5) e6e;have e7f:=k7 _ _ (lD _ f6) e7e;have e8f:=k7 _ _ (lD _ f7) e8;clear k7 e2e e3e e4e e5e e6e e7e e8 abP abQ;refine aJ.of (ag (cp PassesOwn.never rfl (bQ (pv 10)) (a_ (i:=7) fP.nd rfl (Or.inl rfl)) ao) ao) ?_;dsimp! [];refine⟨⟨_,ba.of e8f⟩,cV (aE N.kB) (IEv K Pr L W.g W.ts (N.dP++N.eG++N.jl) N.due (W.hs++p_ W.ts N.due) N.kB (λo=>[some (V.ref L.st),some (V.ref la),some (V.ref L.d1),some (V.ref l1),some (V.ref l2),some (V.ref l3),some (V.ref D),o,some (V.ref l5),some (V.ref l6),some (V.ref l7)]) H16) ⟨⟨_,rfl⟩,Kp.refl _ _,by rw [List.take_zero,append_nil]; exact abR⟩ (λi σ' H' _ hh=>ba.of (hh.2.1 _ _ (lD _ f7) e8f)) (λi x σ' H7 hx hh=>?_) λσ' H17 hh=>?_⟩
   ·obtain⟨k,hk,rfl⟩:=cu hx;obtain⟨⟨o,rfl⟩,k7,Of⟩:=hh;obtain⟨t,ht,st⟩:=cO k (mem_of_getElem? hk);obtain⟨j,rfl,et⟩:=ht;refine gN ?_;refine aJ.of (ah (aY (aD (rA T) hr.dm rfl T.Ca T.mx.kp T.B_ .nil aw (aa (pv 0) (aa az (aa (pv 7) af)))))) ?_;dsimp! [];have rL:(bg W.ts (N.dP++N.eG++N.jl++N.kB.take i) N.due)[j]?=some (jB (N.dP++N.eG++N.jl++N.kB.take i) N.due (j+1) t):=by
     rw [bK,et];rfl
    refine⟨Pr,L,⟨W.g,_,_⟩,j,_,"pair",rfl,Of,rL,by show(W.hs++p_ W.ts N.due).length < 500; rw [length_append,mQ]; omega,.inr ⟨Oa,λH8 k8 sM=>⟨⟨_,rfl⟩,k7.trans k8,?_⟩⟩⟩;dsimp only at sM;rw [xg (by rw [gC]; exact st),gQ rL,append_assoc (N.dP++N.eG++N.jl)] at sM;rw [take_add_one,hk];exact sM
   obtain⟨⟨o,rfl⟩,k7,XQ⟩:=hh;rw [aI,take_length] at XQ;refine aJ.of (ah (aB (bo (aa (pv 3) (aa (pv 4) (aa (pv 5) (aa (pv 6) (aa (pv 8) (aa (pv 9) (aa (pv 10) af)))))))))) ?_;dsimp! [];have abS:=aeT.trans k7;refine⟨by decide,λr hr=>?_⟩;have Xy:=ak.put (o:=.tup [.ref l1,.ref l2,.ref l3,.ref D,.ref l5,.ref l6,.ref l7]) hr;have k8:=k7.trans (ak.kp Xy);exact q r _ (abS.trans (ak.kp Xy)) (XQ.same Xy) ⟨l1,l2,l3,D,l5,l6,l7,ae,⟨k8 _ _ (lD _ f1) e2f,k8 _ _ (lD _ f2) e3f,k8 _ _ (lD _ f3) e4f,k8 _ _ (lD _ f4) e5f,k8 _ _ (lD _ f5) e6f,k8 _ _ (lD _ f6) e7f,k8 _ _ (lD _ f7) e8f⟩,noL abS XQ _ hr,f1,f2,f3,f4,f5,f6,f7⟩
theorem Og {t:Tg}(h:t.sort="weak"):jv t=.weak .no:=by
 cases t with
 | plain fs w=>exact absurd (show("plain":Str)="weak" from h) (by decide +kernel)
 | weak f=>rfl
 | pair k v=>exact absurd (show("pair":Str)="weak" from h) (by decide +kernel)
theorem Oh {t:Tg}(h:t.sort="pair"):jv t=.pair .no .no:=by
 cases t with
 | plain fs w=>exact absurd (show("plain":Str)="pair" from h) (by decide +kernel)
 | weak f=>exact absurd (show("weak":Str)="pair" from h) (by decide +kernel)
 | pair k v=>rfl
theorem CI {ts:List Tg}{C S:List Nat}{z:Str}{k:Nat}(hS:∀k∈S,1<=k/\k<=ts.length) (hk:k∈pN (bg ts C []) S z):∃t,iU ts k t/\t.sort=z:=by
 obtain⟨_,t,⟨i,rfl,e⟩,a2⟩:=kc hk (λk hk=>by rw [cE]; exact hS k hk);rw [bK] at e
 cases e0:ts[i]? with
 | none=>rw [e0] at e; cases e
 | some t0=>
  rw [e0] at e;cases e;rw [gC] at a2;exact⟨t0,⟨i,rfl,e0⟩,a2⟩
theorem Oi (W:Wd) {k:Nat}(h:k∈(aT W).oh):1<=k/\k<=W.ts.length:=by
 have h2:k∈cls (bg W.ts ((aT W).dP++(aT W).eG) []) ((aT W).kept++(aT W).due):=h;have:=jX h2;rw [cE] at this;exact this
theorem Iu (W:Wd) {k:Nat}(h:k∈(aT W).dP++(aT W).jl):∃t,iU W.ts k t/\t.sort="weak":=by
 rcases mem_append.mp h with h | h
 ·have h2:k∈pN W.ts (aT W).kept "weak":=h;exact(kc h2 λk hk=>jX (show k∈cls _ _ from hk)).2
 ·have h2:k∈pN (bg W.ts ((aT W).dP++(aT W).eG) []) (aT W).oh "weak":=h;exact CI (λk hk=>Oi W hk) h2
theorem Iv (W:Wd) {k:Nat}(h:k∈(aT W).eG++(aT W).kB):∃t,iU W.ts k t/\t.sort="pair":=by
 rcases mem_append.mp h with h | h
 ·have h2:k∈pN W.ts (aT W).kept "pair":=h;exact(kc h2 λk hk=>jX (show k∈cls _ _ from hk)).2
 ·have h2:k∈pN (bg W.ts ((aT W).dP++(aT W).eG) []) (aT W).oh "pair":=h;exact CI (λk hk=>Oi W hk) h2
theorem CJ (W:Wd):(aT W).kept.length<=W.ts.length/\(aT W).dP.length<=W.ts.length/\(aT W).eG.length<=W.ts.length/\(aT W).due.length<=W.ts.length/\(aT W).oh.length<=W.ts.length/\(aT W).jl.length<=W.ts.length/\(aT W).kB.length<=W.ts.length:=by
 have h1:(aT W).kept.length<=W.ts.length:=Hb _ _;have h2:(aT W).oh.length<=W.ts.length:=Nat.le_trans (Hb _ _) (Nat.le_of_eq (cE _ _ _));refine⟨h1,Nat.le_trans kA h1,Nat.le_trans kA h1,?_,h2,Nat.le_trans kA h2,Nat.le_trans kA h2⟩;exact dz ((ir _ _).imp λh=>Nat.ne_of_lt h) λk hk=>mO hk
theorem Oj {l:List Nat}(dn:l.Nodup) {i k:Nat}(hk:l[i]?=some k):k∉l.take i:=λz=>by
 obtain⟨i2,h2⟩:=mem_iff_getElem?.mp z;rw [List.getElem?_take] at h2;split at h2
 ·rename_i c;obtain⟨c3,d3⟩:=List.getElem?_eq_some_iff.mp h2;obtain⟨c4,d4⟩:=List.getElem?_eq_some_iff.mp hk;exact(List.pairwise_iff_getElem.mp dn) i2 i c3 c4 c (d3.trans d4.symm)
 ·cases h2
theorem Ol {ts:List Tg}{l:List Nat}{j:Nat}{fs:List Vl}{n:Int}(et:ts[j]?=some (.plain fs (some n))):p_ ts (l++[j+1])=p_ ts l++[(j+1,n)]:=by
 unfold p_;rw [map_append];congr 1;show [(j+1,XG ts (j+1))]=_;unfold XG;rw [Nat.add_sub_cancel,et];rfl
inductive rO (a:eI) (K:Frag) (vs:List V) (H:Hp) (Q:VK) (E:XK):Prop
 | mk (Pr A W F:_) (r:Addr) (_:vs=[.ref A.p,.ref r]) (_:PW a K Pr H A W) (_:j_ F H r (aT W)) (_:∀b,F b->¬A.own b) (_:W.ts.length<=63) (_:W.hs.length<=63) (_:∀H',Kp A.own H H'->PW a K Pr H' A (hJ W)->Q .bN H'):rO a K vs H Q E
noncomputable def IHv (a:eI) (K:Frag) (Pr:Addr->Prop) (A:HA) (g:Str->Vl) (ts:List Tg) (C:List Nat) (hs:List (Nat×Int)) (S:List Nat) (r l:Addr) (H0:Hp) (i:Nat) (σ:St) (H:Hp):Prop:=(∃o,σ=[some (.ref A.p),some (.ref r),o])/\Kp A.own H0 H/\PH a K Pr H A g (bg ts (C++S.take i) []) hs/\H l=some (.lst (aE S))
noncomputable def IHd (a:eI) (K:Frag) (Pr:Addr->Prop) (A:HA) (g:Str->Vl) (ts:List Tg) (C:List Nat) (hs:List (Nat×Int)) (S:List Nat) (r l:Addr) (H0:Hp) (i:Nat) (σ:St) (H:Hp):Prop:=(∃o,σ=[some (.ref A.p),some (.ref r),o])/\Kp A.own H0 H/\PH a K Pr H A g (bg ts C (S.take i)) (hs++p_ ts (S.take i))/\H l=some (.lst (aE S))
theorem XR (T:Txt K mg a):aU P w K mg base cU 7 a.BF a.BG ["_law_heap","_law_found"] (rO a K):=by
 refine T.Ce.ok wb (λvs H Q E h=>?_) (λbY A outer s H vs Q E hr h=>?_)
 ·obtain⟨_,_,_,_,_,rfl,_⟩:=h;rfl
 ·obtain⟨Pr,A,W,F,r,rfl,h,⟨a1,a2,a3,a4,a5,a6,a7,e,⟨e1,e2,e3,e4,e5,e6,e7⟩,f,f1,f2,f3,f4,f5,f6,f7⟩,nF,bO,Qw,q⟩:=h;refine⟨_,(ag (cp PassesOwn.never rfl (bQ (bu eS (av aq (pv 1) ai (λ_ _=>rfl)) (av aq (pv 1) ai (λ_ _=>rfl)))) (a_ (i:=2) wb.nd rfl (Or.inl rfl)) ao) ao),?_⟩;obtain⟨l1,l2,l3,l4,l5,l6,l7⟩:=CJ W;have cW:=λk=>Iu W (k:=k)
  have cP:=λk=>Iv W (k:=k)
  have dN:(aT W).due=iD W.ts (aT W).kept:=rfl;unfold hJ at q;generalize aT W=N at *
  have dn:N.due.Nodup:=by rw [dN]; exact(ir _ _).imp λh=>Nat.ne_of_lt h
  dsimp! [];refine bC (bX.of e) rfl (bC (bX.of e) rfl ⟨a2,a6,_,_,rfl,rfl,ba.of e2,ba.of e6,?_,λc hc=>?_⟩)
  ·rw [aI,aI];exact Nat.le_of_lt (aG (by omega))
  rw [<-gR];have s1:ak H (upd H c (.lst (aE (N.dP++N.jl)))):=ak.put hc;have IU:upd H c (.lst (aE (N.dP++N.jl))) c=some (.lst (aE (N.dP++N.jl))):=ae;have nc:¬A.own c:=λz=>(h.mu c z).some hc
  have h1:PH a K Pr (upd H c (.lst (aE (N.dP++N.jl)))) A W.g (bg W.ts [] []) W.hs:=by
   rw [oe];exact h.same s1
  generalize upd H c (.lst (aE (N.dP++N.jl)))=H1 at s1 IU h1;refine⟨c,rfl,⟨_,ba.of IU⟩,cV (aE (N.dP++N.jl)) (IHv a K Pr A W.g W.ts [] W.hs (N.dP++N.jl) r c H1) ⟨⟨_,rfl⟩,Kp.refl _ _,by rw [List.take_zero,append_nil]; exact h1,IU⟩ (λi σ' H' _ hh=>ba.of hh.2.2.2) (λi x σ' H2 hx hh=>?_) λσ' H2 hh=>?_⟩
  ·obtain⟨k,hk,rfl⟩:=cu hx;obtain⟨⟨o,rfl⟩,k2,h2,JD⟩:=hh;obtain⟨t,⟨j,rfl,et⟩,st⟩:=cW k (mem_of_getElem? hk);have rL:(bg W.ts ([]++(N.dP++N.jl).take i) [])[j]?=some (jB ([]++(N.dP++N.jl).take i) [] (j+1) t):=by
    rw [bK,et];rfl
   have hj:=(List.getElem?_eq_some_iff.mp rL).1;have e8:=gQ rL;rw [Og (by rw [gC]; exact st),append_assoc] at e8;refine gN ?_;refine aJ.of (ah (aY (aS (pv 0) T.aj T.Wl (Wy T) hr.dm T.aaE .nil aw (aa (pv 2) af)))) ?_;obtain⟨dx,o1⟩:=h2.ob;dsimp! [o1,HO.ins.injEq];refine⟨aX,Pr,A,W.g,_,W.hs,j,rfl,h2,hj,λH3 k3 h3=>⟨⟨_,rfl⟩,k2.trans k3,?_,k3 _ _ nc JD⟩⟩;rw [take_add_one,hk];rw [e8] at h3;exact h3
  obtain⟨⟨o,rfl⟩,k2,h2,_⟩:=hh;rw [aI,take_length,List.nil_append] at h2;have kp2:Kp A.own H H2:=(ak.kp s1).trans k2;have er:=kp2 _ _ (nF _ f) e;have e32:=kp2 _ _ (nF _ f3) e3;have e42:=kp2 _ _ (nF _ f4) e4;have e72:=kp2 _ _ (nF _ f7) e7;clear k2 IU h1 s1 nc hc;refine aJ.of (ag (cp PassesOwn.never rfl (bQ (bu eS (av aq (pv 1) ai (λ_ _=>rfl)) (av aq (pv 1) ai (λ_ _=>rfl)))) (a_ (i:=2) wb.nd rfl (Or.inl rfl)) ao) ao) ?_;dsimp! [];refine bC (bX.of er) rfl (bC (bX.of er) rfl ⟨a3,a7,_,_,rfl,rfl,ba.of e32,ba.of e72,?_,λc hc=>?_⟩)
  ·rw [aI,aI];exact Nat.le_of_lt (aG (by omega))
  rw [<-gR];have s1:ak H2 (upd H2 c (.lst (aE (N.eG++N.kB)))):=ak.put hc;have IU:upd H2 c (.lst (aE (N.eG++N.kB))) c=some (.lst (aE (N.eG++N.kB))):=ae;have nc:¬A.own c:=λz=>(h2.mu c z).some hc
  have h1:=h2.same s1;generalize upd H2 c (.lst (aE (N.eG++N.kB)))=H1 at s1 IU h1;refine⟨c,rfl,⟨_,ba.of IU⟩,cV (aE (N.eG++N.kB)) (IHv a K Pr A W.g W.ts (N.dP++N.jl) W.hs (N.eG++N.kB) r c H1) ⟨⟨_,rfl⟩,Kp.refl _ _,by rw [List.take_zero,append_nil]; exact h1,IU⟩ (λi σ' H' _ hh=>ba.of hh.2.2.2) (λi x σ' H4 hx hh=>?_) λσ' H4 hh=>?_⟩
  ·obtain⟨k,hk,rfl⟩:=cu hx;obtain⟨⟨o,rfl⟩,k2,h2,JD⟩:=hh;obtain⟨t,⟨j,rfl,et⟩,st⟩:=cP k (mem_of_getElem? hk);have rL:(bg W.ts (N.dP++N.jl++(N.eG++N.kB).take i) [])[j]?=some (jB (N.dP++N.jl++(N.eG++N.kB).take i) [] (j+1) t):=by
    rw [bK,et];rfl
   have hj:=(List.getElem?_eq_some_iff.mp rL).1;have e8:=gQ rL;rw [Oh (by rw [gC]; exact st),append_assoc (N.dP++N.jl)] at e8;refine gN ?_;refine aJ.of (ah (aY (aS (pv 0) T.aj T.Wm (Wz T) hr.dm T.aaF .nil aw (aa (pv 2) af)))) ?_;obtain⟨dx,o1⟩:=h2.ob;dsimp! [o1,HO.ins.injEq];refine⟨aX,Pr,A,W.g,_,W.hs,j,rfl,h2,hj,λH3 k3 h3=>⟨⟨_,rfl⟩,k2.trans k3,?_,k3 _ _ nc JD⟩⟩;rw [take_add_one,hk];rw [e8] at h3;exact h3
  obtain⟨⟨o,rfl⟩,k2,h4,_⟩:=hh;rw [aI,take_length] at h4;have k24:Kp A.own H2 H4:=(ak.kp s1).trans k2;have kp4:=kp2.trans k24;have er4:=k24 _ _ (nF _ f) er;have e44:=k24 _ _ (nF _ f4) e42;clear k2 IU h1 s1 nc hc h2;refine aJ.of (ah (cp PassesOwn.never rfl (bQ (av aq (pv 1) ai (λ_ _=>rfl))) (a_ (i:=2) wb.nd rfl (Or.inl rfl)) ao)) ?_;dsimp! [];refine bC (bX.of er4) rfl ⟨a4,rfl,⟨_,ba.of e44⟩,cV (aE N.due) (IHd a K Pr A W.g W.ts (N.dP++N.jl++(N.eG++N.kB)) W.hs N.due r a4 H4) ⟨⟨_,rfl⟩,Kp.refl _ _,by rw [List.take_zero]; unfold p_; rw [List.map_nil,append_nil]; exact h4,e44⟩ (λi σ' H' _ hh=>ba.of hh.2.2.2) (λi x σ' H5 hx hh=>?_) λσ' H5 hh=>?_⟩
  ·obtain⟨k,hk,rfl⟩:=cu hx;obtain⟨⟨o,rfl⟩,k2,h2,JD⟩:=hh;have hkm:=mem_of_getElem? hk;rw [dN] at hkm;obtain⟨j,fs,n,rfl,et⟩:=qe hkm;have rL:(bg W.ts (N.dP++N.jl++(N.eG++N.kB)) (N.due.take i))[j]?=some (.plain fs (some n)):=by
    rw [bK,et];exact congrArg some (Od (Oj dn hk))
   have ltk:(N.due.take i).length<=63:=by
    rw [length_take];omega
   refine gN ?_;refine aJ.of (ah (aY (aS (pv 0) T.aj T.Wn (WA T) hr.dm T.aaG .nil aw (aa (pv 2) af)))) ?_;obtain⟨dx,o1⟩:=h2.ob;dsimp! [o1,HO.ins.injEq];refine⟨aX,Pr,A,W.g,_,_,j,fs,n,rfl,h2,rL,by rw [length_append,mQ]; omega,λH3 k3 h3=>⟨⟨_,rfl⟩,k2.trans k3,?_,k3 _ _ (nF _ f4) JD⟩⟩;have e9:=vk rL;have e8:lA (.plain fs (some n))=.plain fs none:=rfl;rw [e8] at e9;rw [e9] at h3;rw [take_add_one,hk];show PH a K Pr H3 A W.g (bg W.ts (N.dP++N.jl++(N.eG++N.kB)) (N.due.take i++[j+1])) (W.hs++p_ W.ts (N.due.take i++[j+1]));rw [Ol et,<-append_assoc W.hs];exact h3
  obtain⟨⟨o,rfl⟩,k2,h5,_⟩:=hh;rw [aI,take_length] at h5;refine q H5 (kp4.trans k2) ?_;show PH a K Pr H5 A W.g (bg W.ts (N.dP++N.eG++N.jl++N.kB) N.due) (W.hs++p_ W.ts N.due);rw [CF (C':=N.dP++N.jl++(N.eG++N.kB)) (D':=N.due) (λk=>?_) λ_=>Iff.rfl]
  ·exact h5
  ·simp only [mem_append];constructor
   ·rintro(((z | z) | z) | z)
    ·exact .inl (.inl z)
    ·exact .inr (.inl z)
    ·exact .inl (.inr z)
    ·exact .inr (.inr z)
   ·rintro((z | z) | (z | z))
    ·exact .inl (.inl (.inl z))
    ·exact .inl (.inr z)
    ·exact .inl (.inl (.inr z))
    ·exact .inr z
theorem abT (S:List Nat):∀x∈aE S,h_ x=true:=λx hx=>List.all_eq_true.mp (lz S) x hx
noncomputable def nD (S:List Nat):D:=.lst ((aE S).map fD)
theorem rP {H:Hp}{l:Addr}{S:List Nat}(h:H l=some (.lst (aE S))):gM K H (.ref l) (nD S):=.Q4 (ba.of h) (abT S)
theorem XS (A:List Nat):(nD A).dep=1:=by rw [nD,D.dep,ub]
theorem abU {A:List Nat}(h:A.length<=1000):Sm (nD A):=by
 refine .lst (by rw [length_map,aI]; exact h) λd hd=>?_
 obtain⟨v,hv,rfl⟩:=mem_map.mp hd;unfold aE at hv;obtain⟨z,_,rfl⟩:=mem_map.mp hv;exact .int z
noncomputable def wD:Option Int->D
 | none=>.bN
 | some n=>.int n
noncomputable def YB (t:Tg):D:=.tup [.str t.sort,.lst (t.fs.map vD),wD t.words]
theorem e_.nU {H:Hp}{p l:Addr}{t:Tg}(h:e_ K H p l t):gM K H (.ref p) (YB t):=by
 obtain⟨h1,xs,h2,h3,_⟩:=h;refine .tup (bX.of h1) rfl λi x d hx hd=>?_
 match i,hx,hd with
 | 0,hx,hd=>
  cases hx;cases hd;exact .str _
 | 1,hx,hd=>
  cases hx;cases hd;exact ik.nU (ba.of h2) h3
 | 2,hx,hd=>
  cases hx;cases hd
  cases t.words with
  | none=>exact .bN
  | some n=>exact .int n
 | i+3,hx,hd=>simp at hx
theorem XT (w:Option Int):(wD w).dep=0:=by cases w <;> rfl
theorem QA (t:Tg):(YB t).dep<=3:=by
 have h1:=G8 t.fs;have h2:=XT t.words;have e:(YB t).dep=max 0 (max (fX (t.fs.map vD)+1) (max (wD t.words).dep 0))+1:=by
  unfold YB;simp only [D.dep,fX]
 omega
theorem CK (x:Str) (n:Int):Sm (.tup [.str x,.int n]):=.tup (Nat.le_of_ble_eq_true rfl) λd hd=>by
 rcases mem_cons.mp hd with rfl | hd
 ·exact .str _
 ·rw [mem_singleton.mp hd];exact .int _
theorem Sf (v:Vl):Sm (vD v):=by
 cases v with
 | no=>
  refine .tup (by decide) λd hd=>?_
  rw [mem_singleton.mp hd];exact .str _
 | num n=>exact CK _ _
 | th n=>exact CK _ _
theorem XU {t:Tg}(h:t.fs.length<=1000):Sm (YB t):=.tup (Nat.le_of_ble_eq_true rfl) λd hd=>by
 rcases mem_cons.mp hd with rfl | hd
 ·exact .str _
 ·rcases mem_cons.mp hd with rfl | hd
  ·exact .lst (by rw [length_map]; exact h) λd hd=>by
    obtain⟨v,_,rfl⟩:=mem_map.mp hd;exact Sf v
  ·rw [mem_singleton.mp hd]
   cases t.words with
   | none=>exact .bN
   | some n=>exact .int n
theorem CL (hs:List (Nat×Int)):(D.lst (hs.map hD)).dep<=5:=by
 have:=wR hs;rw [D.dep];omega
theorem CM {H:Hp}{ra rb:Addr}{ka kb:List (Key×V)}{g:Str->Vl}(ha:H ra=some (.dK ka)) (hb:H rb=some (.dK kb)) (ne:ra≠rb) (h1:nT K H ka g) (h2:nT K H kb g) (n1:Ii ka g) (n2:Ii kb g):Xb K 5 H (.ref ra) (.ref rb):=by
 have sub:∀{k1 k2:List (Key×V)},nT K H k1 g->nT K H k2 g->Ii k1 g->∀k∈k1.map (·.1),k∈k2.map (·.1):=λ{k1 k2} a b n k hk=>by
  obtain⟨kv,lR,rfl⟩:=mem_map.mp hk;obtain⟨x,hx,e⟩:=a.ks kv lR;obtain⟨i,hi⟩:=mem_iff_getElem?.mp lR;have hv:=il a.nd hi;rw [e] at hv ⊢
  cases e2:bz k2 (Sum.inr x)with
  | none=>exact absurd (b.no x e2) (n x _ hv)
  | some u=>exact qa e2
 have hl:ka.length=kb.length:=by
  have l1:=gW h1.nd (sub h1 h2 n1);have l2:=gW h2.nd (sub h2 h1 n2);rw [length_map,length_map] at l1 l2;omega
 refine⟨ra,rb,ka,kb,rfl,rfl,ha,hb,ne,hl,λkv lR=>?_⟩;obtain⟨x,hx,e⟩:=h2.ks kv lR;obtain⟨i,hi⟩:=mem_iff_getElem?.mp lR;have hv:=il h2.nd hi
 cases e2:bz ka (Sum.inr x)with
 | none=>
  have:=h1.no x e2;rw [e] at hv;exact absurd this (n2 x _ hv)
 | some u=>
  have hv2:=hv;rw [e] at hv2;exact⟨u,vD (g x),by rw [e]; exact e2,hv,(h1.at_ x u e2).nU,(h2.at_ x _ hv2).nU,by rw [lx]; decide,Sf _⟩
theorem mR {H:Hp}{ra rb:Addr}{p1 p2:List (Addr×Addr)}{ts:List Tg}(ha:H ra=some (.dK (dE p1))) (hb:H rb=some (.dK (dE p2))) (ne:ra≠rb) (l1:p1.length=ts.length) (l2:p2.length=ts.length)
  (h1:∀(i:Nat) q t,p1[i]?=some q->ts[i]?=some t->e_ K H q.1 q.2 t) (h2:∀(i:Nat) q t,p2[i]?=some q->ts[i]?=some t->e_ K H q.1 q.2 t):Xb K 5 H (.ref ra) (.ref rb):=by
 refine⟨ra,rb,_,_,rfl,rfl,ha,hb,ne,by rw [cq,cq,l1,l2],λkv lR=>?_⟩;obtain⟨i,hi⟩:=mem_iff_getElem?.mp lR;have hv:=il (Nf p2) hi;rw [jU] at hi
 cases e:p2[i]? with
 | none=>rw [e] at hi; cases hi
 | some q2=>
  rw [e] at hi;cases hi;have hil:i < ts.length:=by rw [<-l2]; exact(List.getElem?_eq_some_iff.mp e).1
  have e1:p1[i]?=some (p1[i]'(by omega)):=getElem?_eq_getElem _;have et:ts[i]?=some ts[i]:=getElem?_eq_getElem hil;have t1:=h1 i _ _ e1 et;have t2:=h2 i _ _ e et;obtain⟨_,xs,_,t3,t4⟩:=id t2;exact⟨_,YB ts[i],ip e1,hv,t1.nU,t2.nU,by have:=QA ts[i]; omega,XU (by rw [t3.1]; exact t4)⟩
theorem Xb.eqM {H:Hp}{x y:V}{n:Nat}(h:Xb K n H y x) (hn:n<=60) {neg:Bool}{Q:VK}(q:Q (.bl (!neg)) H):UY K neg x y H Q:=by
 obtain⟨ax,ay,ka,kb,rfl,rfl,ha,hb,ne,hl,f⟩:=h;exact⟨ay,ax,kb,ka,rfl,rfl,hb,ha,hl.symm,λkv lR=>let ⟨u,d,e1,_,i1,i2,dp,_⟩:=f kv lR; ⟨u,d,e1,i2,i1,by omega⟩,q⟩
noncomputable def Om (N:Xw):D:=.tup [nD N.kept,nD N.dP,nD N.eG,nD N.due,nD N.oh,nD N.jl,nD N.kB]
theorem j_.nU {F:Addr->Prop}{H:Hp}{p:Addr}{N:Xw}(h:j_ F H p N):gM K H (.ref p) (Om N):=by
 obtain⟨a1,a2,a3,a4,a5,a6,a7,e,⟨e1,e2,e3,e4,e5,e6,e7⟩,_⟩:=h;refine .tup (bX.of e) rfl λi x d hx hd=>?_
 match i,hx,hd with
 | 0,hx,hd=>cases hx; cases hd; exact rP e1
 | 1,hx,hd=>cases hx; cases hd; exact rP e2
 | 2,hx,hd=>cases hx; cases hd; exact rP e3
 | 3,hx,hd=>cases hx; cases hd; exact rP e4
 | 4,hx,hd=>cases hx; cases hd; exact rP e5
 | 5,hx,hd=>cases hx; cases hd; exact rP e6
 | 6,hx,hd=>cases hx; cases hd; exact rP e7
 | i+7,hx,hd=>simp at hx
theorem Oo (N:Xw):(Om N).dep<=2:=by
 unfold Om;simp only [D.dep,fX,XS];decide
theorem QB {W:Wd}(bO:W.ts.length<=63):Sm (Om (aT W)):=by
 obtain⟨l1,l2,l3,l4,l5,l6,l7⟩:=CJ W;refine .tup (Nat.le_of_ble_eq_true rfl) λd hd=>?_
 simp only [mem_cons,not_mem_nil,or_false] at hd;rcases hd with rfl | rfl | rfl | rfl | rfl | rfl | rfl <;> exact abU (by omega)
inductive rQ (a:eI) (K:Frag) (vs:List V) (H:Hp) (Q:VK) (E:XK):Prop
 | mk (Pr A YC L W:_) (_:vs=[.ref A.p,.ref L.st]) (_:PW a K Pr H A W) (_:eV K YC H L W) (_:W.ok) (_:W.ts.length<=63) (_:W.hs.length<=63) (_:∀b,L.own b->Pr b) (_:∀b,A.own b->YC b) (_:∀H',Kp (λb=>A.own b\/L.own b) H H'->PW a K Pr H' A (hJ W)->eV K YC H' L (hJ W)->Q (.bl true) H'):rQ a K vs H Q E
theorem Oq (T:Txt K mg a):aU P w K mg base cU 12 a.BH a.BI ["_law_heap","_law_state"] (rQ a K):=by
 refine T.uV.ok qL (λvs H Q E h=>?_) (λbY A outer s H vs Q E hr h=>?_)
 ·obtain⟨_,_,_,_,_,rfl,_⟩:=h;rfl
 ·obtain⟨Pr,A,YC,L,W,rfl,h,hL,ok,bO,Qw,pa,pl,q⟩:=h;refine⟨_,(ag (aN (i:=2) qL.nd rfl (Or.inl rfl) (dj (pv 0) T.aj T.wj (wO T) hr.dm T.GP .nil aw)) ao),?_⟩;obtain⟨dx,h1⟩:=h.ob;dsimp! [h1,HO.ins.injEq];refine⟨aX,Pr,A,W.g,W.ts,W.hs,rfl,h,λr1 p1 H1 s1 agU Ot uq ZA _=>?_⟩;have o1:=s1 _ _ h1;have g1:=h.same s1;refine aJ.of (ag (aN (i:=3) qL.nd rfl (Or.inl rfl) (dj (pv 0) T.aj T.D6 (En T) hr.dm T.MW .nil aw)) ao) ?_;dsimp! [o1,HO.ins.injEq];refine⟨aX,Pr,A,W.g,W.ts,W.hs,rfl,g1,λr2 k2 H2 s2 agV XW abV abW=>?_⟩;have g2:=g1.same s2;refine aJ.of (ag (aN (i:=4) qL.nd rfl (Or.inl rfl) (aD (Xx T) hr.dm rfl T.aad T.BV.kp T.aac .nil aw (aa (pv 0) af))) ao) ?_;dsimp! [];refine⟨Pr,A,W,rfl,g2,ok,bO,λr3 H3 s3 tr3=>?_⟩;have g3:=g2.same s3;have Sd:=s1.trans (s2.trans s3);have o3:=Sd _ _ h1;refine aJ.of (ag (bh (PW.pt (lX (aF (J_ hr.units) (dj (pv 0) T.aj T.wj (wO T) hr.dm T.GP .nil aw) (pv 2) (aH _)) (lX (aF (J_ hr.units) (dj (pv 0) T.aj T.D6 (En T) hr.dm T.MW .nil aw) (pv 3) (aH _)) (kU (aF (JP hr.units) (dj (pv 0) T.aj T.D7 (El T) hr.dm T.MX .nil aw) (av aq (pv 1) ai (λ_ _=>rfl)) (aH _)))))) (ah (aB gj)) aL) ao) ?_;dsimp! [o3,HO.ins.injEq];refine⟨aX,Pr,A,W.g,W.ts,W.hs,rfl,g3,λr4 p4 H4 s4 XX abX Ni ht4 _=>?_⟩;have CG:=s2.trans (s3.trans s4);have ne1:r1≠r4:=λz=>by
   rw [<-z,(s2.trans s3) _ _ Ot] at XX;cases XX
  refine Xb.eqM (n:=5) (mR (CG _ _ Ot) abX ne1 uq Ni (λi q t a b=>(ZA i q t a b).1.same CG) λi q t a b=>(ht4 i q t a b).1) (by decide) ⟨_,rfl,ee ?_⟩;have IS:=Sd.trans s4;have g4:=g3.same s4;refine⟨dx,_,IS _ _ h1,aX,Pr,A,W.g,W.ts,W.hs,rfl,g4,λr5 k5 H5 s5 XY abY abZ aca=>?_⟩;have s25:=s3.trans (s4.trans s5);have ne2:r2≠r5:=λz=>by
   rw [<-z,(s3.trans s4) _ _ XW] at XY;cases XY
  refine Xb.eqM (n:=5) (CM (s25 _ _ XW) abY ne2 (abV.same s25) abZ abW aca) (by decide) ⟨_,rfl,ee ?_⟩;have Se:=IS.trans s5;have g5:=g4.same s5;refine⟨dx,_,Se _ _ h1,aX,Pr,A,W.g,W.ts,W.hs,rfl,g5,λr6 xs6 Sa hx6=>?_⟩;have s6:=ak.put (o:=.lst xs6) Sa;have Ql:=Se.trans s6;have YD:=hL.same Ql;obtain⟨ys6,y6,z6⟩:=YD.he;refine bC YD.tu rfl ⟨_,_,qd.nU (ba.of ae) (hx6.same s6),qd.nU (ba.of y6) z6,by have:=CL W.hs; omega,?_⟩;rw [if_pos rfl,fN];refine⟨_,rfl,ee ?_⟩;have g6:=g5.same s6;have s26:=s25.trans s6;have hL2:=hL.same (s1.trans s2);have tr6:=tr3.same (s4.trans (s5.trans s6));generalize upd H5 r6 (.lst xs6)=H6 at Ql YD g6 tr6;clear s26 s6 y6 z6 hx6 Sa Se g5 abZ aca abY XY s25 ne2 s5 IS g4 abX XX ht4 Ni CG ne1 s4 Sd o3 s3 abV abW XW ZA Ot o1 g3;refine aJ.of (ag (aN (i:=5) qL.nd rfl (Or.inl rfl) (aD (XH T) hr.dm rfl T.abe T.Cd.kp T.abd .nil aw (aa (pv 1) (aa (bP af) af)))) ao) ?_;dsimp! [];intro la Qi;have s7:ak H6 (upd H6 la (.lst [])):=ak.put Qi;have nla:¬L.own la:=λz=>(YD.mu la z).some Qi
  refine⟨YC,L,W,la,rfl,ae,nla,YD.same s7,ok,bO,Qw,λr8 H8 k8 sM tr8=>?_⟩;have k68:Kp L.own H6 H8:=(ak.kp s7).trans k8;have g8:PW a K Pr H8 A W:=(g6.same s7).kp k8 (YD.same s7).mu pa λb hb=>(sM.mu b hb).some
  have nL2:∀b,H2 b=none->¬L.own b:=λb e z=>(hL2.mu b z).some e
  have nA2:∀b,H2 b=none->¬A.own b:=λb e z=>(g2.mu b z).some e
  have acb:=tr6.kp k68 nL2;refine aJ.of (ag (bh (m_ (fJ (aD (Xd T) hr.dm rfl T.RL T.uU.kp T.RK .nil aw (aa (pv 4) (aa (pv 5) af))))) (ah (aB gj)) aL) ao) ?_;dsimp! [];refine⟨_,_,rfl,.inl ⟨Om (aT W),acb.nU,tr8.nU,Nat.le_trans (Oo _) (by decide),QB bO⟩,by decide,true,rfl,ee ?_⟩;refine aJ.of (ag (aY (aD (XR T) hr.dm rfl T.abg T.Ce.kp T.abf .nil aw (aa (pv 0) (aa (pv 4) af)))) ao) ?_;dsimp! [];refine⟨Pr,A,W,_,r3,rfl,g8,acb,nA2,bO,Qw,λH9 k9 g9=>?_⟩;have hL9:eV K YC H9 L (hJ W):=sM.kp k9 g8.mu pl λb hb=>(g9.mu b hb).some
  have k09:Kp (λb=>A.own b\/L.own b) H H9:=λb u nb e=>k9 b u (λz=>nb (.inl z)) (k68 b u (λz=>nb (.inr z)) (Ql b u e))
  refine aJ.of (ah (aB (ng (fL (UZ hr.units) (dj (pv 0) T.aj T.wj (wO T) hr.dm T.GP .nil aw) (av aq (pv 1) ai (λ_ _=>rfl)) (aH _)) (qi (fL (jM hr.units) (dj (pv 0) T.aj T.D7 (El T) hr.dm T.MX .nil aw) (av aq (pv 1) ai (λ_ _=>rfl)) (aH _)))))) ?_;obtain⟨dx9,o9⟩:=g9.ob;dsimp! [o9,HO.ins.injEq];refine⟨aX,Pr,A,_,_,_,rfl,g9,λr10 p10 UI Dh Sg acd Xa aeU _=>?_⟩;have rM:=hL9.same Dh;obtain⟨ps,h4,h5,h6,_⟩:=rM.th;obtain⟨_,o4,_⟩:=hL9.th;have ne3:L.d1≠r10:=λz=>by
   rw [<-z,o4] at Sg;cases Sg
  refine bC rM.tu rfl (Xb.eqM (n:=5) (mR h4 acd ne3 h5 Xa h6 λi q t a b=>(aeU i q t a b).1) (by decide) ⟨_,rfl,jK ?_⟩);have g10:=g9.same Dh;refine⟨dx9,_,Dh _ _ o9,aX,Pr,A,_,_,_,rfl,g10,λr11 aeV Ot aeW=>?_⟩;have O4:=ak.put (o:=.lst aeV) Ot;have rN:=rM.same O4;obtain⟨agW,y11,z11⟩:=rN.he;refine bC rN.tu rfl ⟨_,_,qd.nU (ba.of ae) (aeW.same O4),qd.nU (ba.of y11) z11,Nat.le_trans (CL _) (by decide),?_⟩;rw [if_neg Bool.false_ne_true,fN];exact q _ (k09.trans (ak.kp (Dh.trans O4))) (g10.same O4) rN
theorem vp (C D:List Nat) (k:Nat) (t:Tg):(jB C D k t).words=none\/((jB C D k t).words=t.words/\k∉D):=by
 unfold jB
 by_cases z:k∈D
 ·rw [if_pos z];refine .inl ?_
  split <;> cases t <;> rfl
 ·rw [if_neg z];split
  ·cases t
   ·exact .inr ⟨rfl,z⟩
   ·exact .inl rfl
   ·exact .inl rfl
  ·exact .inr ⟨rfl,z⟩
noncomputable def kD (ts:List Tg):List Nat:=iD ts []
theorem lE {ts:List Tg}{k:Nat}:k∈kD ts↔∃i t,k=i+1/\ts[i]?=some t/\t.words.isSome=true:=by
 unfold kD iD;rw [List.mem_filter,dG];unfold fG;rw [decide_eq_true (show ¬k∈([]:List Nat) from not_mem_nil),Bool.true_and];constructor
 ·rintro⟨h1,h2⟩
  cases e:ts[k - 1]? with
  | none=>rw [e] at h2; cases h2
  | some t=>
   rw [e] at h2;exact⟨k - 1,t,by omega,e,h2⟩
 ·rintro⟨i,t,rfl,e,h⟩;have:=(List.getElem?_eq_some_iff.mp e).1;rw [Nat.add_sub_cancel,e];exact⟨by omega,h⟩
theorem Sh (ts:List Tg):(kD ts).Nodup:=(ir _ _).imp λh=>Nat.ne_of_lt h
theorem QC (W:Wd):(kD (hJ W).ts).length+(hJ W).hs.length<=(kD W.ts).length+W.hs.length:=by
 have e1:(hJ W).hs.length=W.hs.length+(aT W).due.length:=by
  show(W.hs++p_ W.ts (aT W).due).length=_;rw [length_append,mQ]
 have e2:(hJ W).ts=bg W.ts ((aT W).dP++(aT W).eG++(aT W).jl++(aT W).kB) (aT W).due:=rfl;have e3:(aT W).due=iD W.ts (aT W).kept:=rfl;rw [e1,e2];generalize (aT W).dP++(aT W).eG++(aT W).jl++(aT W).kB=C;have key:∀k,k∈kD (bg W.ts C (aT W).due)->k∈kD W.ts/\k∉(aT W).due:=λk hk=>by
  obtain⟨i,t,rfl,e,h⟩:=lE.mp hk;rw [bK] at e
  cases e0:W.ts[i]? with
  | none=>rw [e0] at e; cases e
  | some t0=>
   rw [e0] at e;cases e;rcases vp C (aT W).due (i+1) t0 with z | ⟨z,nd⟩
   ·rw [z] at h;cases h
   ·rw [z] at h;exact⟨lE.mpr ⟨i,t0,rfl,e0,h⟩,nd⟩
 have:=gW (l:=kD (bg W.ts C (aT W).due)++(aT W).due) (m:=kD W.ts) (nodup_append.mpr ⟨Sh _,by rw [e3]; exact(ir _ _).imp λh=>Nat.ne_of_lt h,λx hx y hy e=>(key x hx).2 (by rw [e]; exact hy)⟩) λk hk=>by
  rcases mem_append.mp hk with hk | hk
  ·exact(key k hk).1
  ·rw [e3] at hk;obtain⟨i,fs,n,rfl,e⟩:=qe hk;exact lE.mpr ⟨i,_,rfl,e,rfl⟩
 rw [length_append] at this;omega
theorem Ou {W:Wd}(ok:W.ok):(hJ W).ok:=by
 have e2:(hJ W).ts=bg W.ts ((aT W).dP++(aT W).eG++(aT W).jl++(aT W).kB) (aT W).due:=rfl;have el:(hJ W).ts.length=W.ts.length:=by rw [e2,cE]
 refine⟨λx=>?_,λt ht=>⟨?_,?_⟩,λh hh=>?_⟩
 ·rw [el];exact ok.g x
 ·rw [el];have:=rJ (ts:=W.ts) (λt ht=>(ok.ts t ht).1) ((aT W).dP++(aT W).eG++(aT W).jl++(aT W).kB) (aT W).due t ht;rw [cE] at this;exact this
 ·intro n hn;obtain⟨i,hi⟩:=mem_iff_getElem?.mp ht;rw [e2,bK] at hi
  cases e0:W.ts[i]? with
  | none=>rw [e0] at hi; cases hi
  | some t0=>
   rw [e0] at hi;cases hi;rcases vp ((aT W).dP++(aT W).eG++(aT W).jl++(aT W).kB) (aT W).due (i+1) t0 with z | ⟨z,_⟩
   ·rw [z] at hn;cases hn
   ·rw [z] at hn;exact(ok.ts t0 (mem_of_getElem? e0)).2 n hn
 ·have hh2:h∈W.hs++p_ W.ts (aT W).due:=hh;rw [el];rcases mem_append.mp hh2 with hh2 | hh2
  ·exact ok.hs h hh2
  ·obtain⟨k,hk,rfl⟩:=mem_map.mp hh2;have Yx:k∈iD W.ts (aT W).kept:=hk;refine⟨mO Yx,?_⟩;obtain⟨i,fs,n,rfl,e⟩:=qe Yx;have:=(ok.ts _ (mem_of_getElem? e)).2 n rfl;show Cm (XG W.ts (i+1));unfold XG;rw [Nat.add_sub_cancel,e];exact this
theorem rR {ts ts':List Tg}{k0:Nat}(h:∀k∈kD ts',k=k0\/k∈kD ts):(kD ts').length<=(kD ts).length+1:=
 gW (l:=kD ts') (m:=k0::kD ts) (Sh _) λk hk=>by
  rcases h k hk with rfl | z
  ·exact mem_cons_self
  ·exact mem_cons_of_mem _ z
theorem xh {ts:List Tg}{t:Tg}{k:Nat}(h:k∈kD (ts++[t])):k=ts.length+1\/k∈kD ts:=by
 obtain⟨i,u,rfl,e,hu⟩:=lE.mp h
 by_cases z:i < ts.length
 ·rw [getElem?_append_left z] at e;exact .inr (lE.mpr ⟨i,u,rfl,e,hu⟩)
 ·have:=(List.getElem?_eq_some_iff.mp e).1;rw [length_append,length_singleton] at this;exact .inl (by omega)
theorem Ov {ts:List Tg}{t:Tg}{j k:Nat}(h:k∈kD (ts.set j t)):k=j+1\/k∈kD ts:=by
 obtain⟨i,u,rfl,e,hu⟩:=lE.mp h
 by_cases z:j=i
 ·exact .inl (by omega)
 ·rw [getElem?_set,if_neg z] at e;exact .inr (lE.mpr ⟨i,u,rfl,e,hu⟩)
theorem QD (W:Wd) (d:De):(kD (W.step d).ts).length<=(kD W.ts).length+1:=by
 have same:(kD W.ts).length<=(kD W.ts).length+1:=Nat.le_succ _
 cases d with
 | num x n=>exact same
 | make x n=>exact rR (k0:=W.ts.length+1) λk hk=>xh (show k∈kD (W.ts++[_]) from hk)
 | weak x y=>exact rR (k0:=W.ts.length+1) λk hk=>xh (show k∈kD (W.ts++[_]) from hk)
 | pair x y z=>exact rR (k0:=W.ts.length+1) λk hk=>xh (show k∈kD (W.ts++[_]) from hk)
 | words x n=>
  show(kD (W.mF n (W.tg x)).ts).length<=_
  cases W.tg x with
  | none=>exact same
  | some q=>
   obtain⟨i,t⟩:=q
   cases t with
   | plain fs w=>exact rR (k0:=i+1) λk hk=>Ov (show k∈kD (W.ts.set i _) from hk)
   | weak f=>exact same
   | pair a b=>exact same
 | put x n y=>
  show(kD (W.mG n (W.g y) (W.tg x)).ts).length<=_
  cases W.tg x with
  | none=>exact same
  | some q=>
   obtain⟨i,t⟩:=q
   cases t with
   | plain fs w=>exact rR (k0:=i+1) λk hk=>Ov (show k∈kD (W.ts.set i _) from hk)
   | weak f=>exact same
   | pair a b=>exact same
 | get x y n=>exact same
 | look x y=>exact same
 | find x y z=>exact same
 | copy x y=>exact same
 | drop x=>exact same
 | tell x=>exact same
 | same x y=>exact same
 | hear x=>
  show(kD (W.pz x W.hs).ts).length<=_
  cases W.hs <;> exact same
inductive rS (K:Frag) (vs:List V) (H:Hp) (Q:VK) (E:XK):Prop
 | mk (a:Addr) (ns:List Int) (_:vs=[.ref a]) (_:ba K H a (ns.map V.int)) (_:ns.length<=63) (_:∀H',Q (.bl true) H'):rS K vs H Q E
noncomputable def ILw (a:eI) (K:Frag) (A:HA) (L:LA) (sc lc:Addr) (mode:Int) (cells:List Int) (i:Nat) (σ:St) (H:Hp):Prop:=(∃v5 v6,σ=[some (.ref sc),some (.int mode),some (.ref A.p),some (.ref L.st),v5,v6])/\∃W,PW a K L.own H A W/\eV K A.own H L W/\W.ok/\W.ts.length<=i/\(kD W.ts).length+W.hs.length<=i/\H lc=some (.lst (cells.map V.int))
noncomputable def JLw (a:eI) (K:Frag) (A:HA) (L:LA) (sc lc:Addr) (mode:Int) (cells:List Int) (c:Int) (v6:Option V) (i:Nat) (σ:St) (H:Hp):Prop:=σ=[some (.ref sc),some (.int mode),some (.ref A.p),some (.ref L.st),some (.int c),v6]/\∃W,PW a K L.own H A W/\eV K A.own H L W/\W.ok/\W.ts.length<=i/\(kD W.ts).length+W.hs.length<=i/\H lc=some (.lst (cells.map V.int))
theorem XZ (T:Txt K mg a):aU P w K mg base cU 13 a.ux a.Ri ["_law_script"] (rS K):=by
 refine T.qT.ok nN (λvs H Q E h=>?_) (λbY A outer s H vs Q E hr h=>?_)
 ·obtain⟨_,_,rfl,_⟩:=h;rfl
 ·obtain⟨sc,ns,rfl,hS,vI,q⟩:=h;refine⟨_,(ag (aN (i:=1) nN.nd rfl (Or.inl rfl) (aR yt rfl T.GY JC (aa (aD (XF T) hr.dm rfl T.aaJ T.B1.kp T.aaI .nil aw (aa (pv 0) (aa ai af))) af))) (ag (aN (i:=2) nN.nd rfl (Or.inl rfl) (Js T.wg (WD T) hr.dm rfl T.wo T.aaA .nil aw)) (ag (aN (i:=3) nN.nd rfl (Or.inl rfl) (bo (aa gq (aa gq (aa (bP af) af))))) ao))),?_⟩;dsimp! [];refine⟨sc,ns,0,rfl,hS,by decide,λfirst=>⟨first,rfl,λp1 dx1 Ik aeX ne1=>⟨p1,dx1,rfl,ae,λA H1 eA kpA a1 a2 a3 hPA=>⟨rfl,?_⟩⟩⟩⟩;have hm:0<=(if first < 0 then -first else first):=by split <;> omega
  generalize (if first < 0 then -first else first)=mode at hm ⊢;have sA:ak H H1:=iN Ik aeX kpA;have pA1:PH a K (λ_=>False) H1 A (λ_=>.no) [] []:=hPA _ λb z=>z.elim
  have hS1:=sA.seq hS;subst eA;clear hPA kpA;refine λd0 h0 d1 h1 l2 h2=>⟨by decide,λst h3=>?_⟩
  obtain⟨H3,e3,s3,Yk,Jh⟩:=eV.start (K:=K) (Pr:=A.own) h0 h1 h2 h3 λb hb=>(pA1.mu b hb).some
  rw [e3];clear e3 h0 h1 h2 h3;have pA3:PW a K (LA.own ⟨st,d0,d1,l2⟩) H3 A W0:=pA1.more s3 λb hb=>⟨.inr (Jh b hb),(Yk.mu b hb).some⟩
  have hS3:=s3.seq hS1;have eL:(⟨st,d0,d1,l2⟩:LA).st=st:=rfl;generalize (⟨st,d0,d1,l2⟩:LA)=L at Yk pA3 eL Jh;subst eL;refine aJ.of (ag (cp PassesOwn.never rfl (bQ (gk hX (pv 0) (gK ai) (gK ai))) (a_ (i:=4) nN.nd rfl (Or.inl rfl)) ao) ao) ?_;dsimp! [];have X0:∃cells:List Int,iw (ns.map V.int) (some 1) (some 34)=cells.map V.int/\cells.length<=63:=by
   unfold iw;rw [<-List.map_drop,<-List.map_take];refine⟨_,rfl,?_⟩;rw [length_take,List.length_drop];omega
  obtain⟨cells,ec,UE⟩:=X0;refine⟨sc,_,rfl,hS3,λlc hlc=>?_⟩;rw [ec];have s5:=ak.put (o:=.lst (cells.map V.int)) hlc;have X1:upd H3 lc (.lst (cells.map V.int)) lc=some (.lst (cells.map V.int)):=ae;generalize upd H3 lc (.lst (cells.map V.int))=H5 at s5 X1;have nA:¬A.own lc:=λz=>(pA3.mu lc z).some hlc
  have nL:¬L.own lc:=λz=>(Yk.mu lc z).some hlc
  refine⟨lc,rfl,⟨_,ba.of X1⟩,cV (cells.map V.int) (ILw a K A L sc lc mode cells) ⟨⟨_,_,rfl⟩,W0,pA3.same s5,Yk.same s5,abM,Nat.le_refl _,by decide,X1⟩ (λi σ' H' _ hh=>?_) (λi x σ' H6 hx hh=>?_) λσ' H6 hh=>?_⟩
  ·obtain⟨_,W,_,_,_,_,_,e⟩:=hh;exact ba.of e
  ·obtain⟨⟨v5,v6,rfl⟩,W,pA,hL,ok,l1,l2,e6⟩:=hh;rw [getElem?_map] at hx
   cases ec:cells[i]? with
   | none=>rw [ec] at hx; cases hx
   | some c=>
    rw [ec] at hx;cases hx;have hi:i < cells.length:=(List.getElem?_eq_some_iff.mp ec).1;refine gN ?_;refine aJ.of (ag kZ ao) ?_;dsimp! [];refine yJ (JLw a K A L sc lc mode cells c v6 i) (yg.of (bh (PW.pt (iV (aF cj (bu eY (pv 4) ai) ai (aH _)) (gJ (m_ (fJ (aD (Oq T) hr.dm rfl T.RO T.uV.kp T.RN .nil aw (aa (pv 2) (aa (pv 3) af)))))))) (ah (aB gj)) aL) ?_) ?_
    ·dsimp! [];refine⟨by decide,bj (λ_=>⟨L.own,A,A.own,L,W,rfl,pA,hL,ok,by omega,by omega,λb z=>z,λb z=>z,λH7 k7 pA7 Of=>⟨true,rfl,ee ⟨rfl,hJ W,pA7,Of,Ou ok,?_,?_,k7 _ _ (λz=>z.elim nA nL) e6⟩⟩⟩) λ_=>⟨rfl,W,pA,hL,ok,l1,l2,e6⟩⟩
     ·show(bg W.ts _ _).length<=i;rw [cE];exact l1
     ·have:=QC W;omega
    ·clear pA hL ok l1 l2 e6;rintro σ2 H7 ⟨rfl,W2,pA,hL,ok,l1,l2,e7⟩;refine aJ.of (ag (aN (i:=5) nN.nd rfl (Or.inl rfl) (aD (XE T) hr.dm rfl T.aaN T.B3.kp T.aaM .nil aw (aa (pv 4) (aa (pv 1) af)))) ao) ?_;dsimp! [];refine⟨c,mode,rfl,hm,λt d H8 s8 et fd=>?_⟩;refine aJ.of (ah (bh (aF nk (aD (Nx T) hr.dm rfl T.RH T.uS.kp T.RG .nil aw (aa (pv 3) (aa (pv 5) af))) cz (aH _)) (ah (bh (aF jH (aS (pv 2) T.aj T.Wi (WZ T) hr.dm T.aaB .nil aw (aa (pv 5) af)) (aD (W9 T) hr.dm rfl T.aaZ T.B9.kp T.aaY .nil aw (aa (pv 3) (aa (pv 5) af))) (aH _)) (ah (aB gj)) aL)) aL)) ?_;dsimp! [];refine⟨A.own,L,W2,t,d,rfl,hL.same s8,ok,bX.of et,λH9 s9=>?_⟩;have Yq:=s8.trans s9;have pA9:=pA.same Yq;have hL9:=hL.same Yq;have e9:=Yq _ _ e7
     cases er:W2.refuse d with
     | some z=>exact bj (λy=>by cases y) λ_=>⟨⟨_,_,rfl⟩,W2,pA9,hL9,ok,by omega,by omega,e9⟩
     | none=>
      refine bj (λ_=>?_) λy=>absurd rfl y
      obtain⟨dx,o9⟩:=pA9.ob;refine⟨dx,_,o9,aX,L.own,A,W2,t,d,rfl,⟨pA9,ok,bX.of (s9 _ _ et)⟩,fd,by omega,er,λUI k10 ace=>?_⟩;have rM:eV K A.own UI L W2:=hL9.kp k10 pA9.mu (λb z=>z) λb z=>(ace.mu b z).some
      refine⟨A.own,L,W2,t,d,rfl,rM,ok,k10.cg pA9.mu (bX.of (s9 _ _ et)),fd,by omega,λH11 k11 rN=>?_⟩;have aeY:PW a K L.own H11 A (W2.step d):=ace.kp k11 rM.mu (λb z=>z) λb z=>(rN.mu b z).some
      have ea:W2.after d=W2.step d:=by unfold Wd.after; rw [er]; rfl
      have et2:W2.told d=W2.Dl d:=by unfold Wd.told; rw [er]; rfl
      obtain⟨acf,m1,m2⟩:=ok.after fd;rw [ea] at rN acf m1 m2;have m3:=QD W2 d;rw [et2];refine⟨rfl,bj (λz=>by simp at z) λ_=>⟨⟨_,_,rfl⟩,W2.step d,aeY,rN,acf,by omega,by omega,k11 _ _ nL (k10 _ _ nA e9)⟩⟩
  ·obtain⟨⟨v5,v6,rfl⟩,W,pA,hL,ok,l1,l2,e6⟩:=hh;refine aJ.of (ah (aB (aD (Oq T) hr.dm rfl T.RO T.uV.kp T.RN .nil aw (aa (pv 2) (aa (pv 3) af))))) ?_;dsimp! [];rw [length_map] at l1 l2;exact⟨L.own,A,A.own,L,W,rfl,pA,hL,ok,by omega,by omega,λb z=>z,λb z=>z,λH' _ _ _=>q H'⟩
end
theorem aeZ {P:List Value->Prop}(h:∀x0,P [x0]):∀us:List Value,us.length=1->P us
 | [x0],_=>h x0
theorem afa {P:List Value->Prop}(h:∀x0 x1,P [x0,x1]):∀us:List Value,us.length=2->P us
 | [x0,x1],_=>h x0 x1
theorem afb {P:List Value->Prop}(h:∀x0 x1 x2,P [x0,x1,x2]):∀us:List Value,us.length=3->P us
 | [x0,x1,x2],_=>h x0 x1 x2
theorem afc {P:List Value->Prop}(h:∀x0 x1 x2 x3,P [x0,x1,x2,x3]):∀us:List Value,us.length=4->P us
 | [x0,x1,x2,x3],_=>h x0 x1 x2 x3
noncomputable def FnB (K:Frag) (x qual:Str) (st:Stmt) (f:Addr):Prop:=keepIn K (.ref f)=true/\∃fd,cQ K x qual st f fd
noncomputable def MeB (K:Frag) (x qual:Str) (st:Stmt) (f:Addr):Prop:=PySem.W.isFn K (.ref f)=true/\FnB K x qual st f
theorem fnB {K:Frag}{x qual:Str}{st:Stmt}{f:Addr}{oc:Value}{od an:Option Addr}{OY:Array (Option Value)}{kV doc pm bY ct:Value}(l:K.lookup f=some ⟨oc,od,.func (fnOf x qual (fM st) (d_ st) (ar st) .none kV doc pm an bY ct),OY⟩) (c:PySem.W.codeIn K bY qual=true) (k:keepIn K (.ref f)=true):FnB K x qual st f:=⟨k,_,JB l c k⟩
noncomputable def gh (K:Frag) (x:Str) (st:Stmt) (f:Addr):Prop:=nsIn K mainGlobals x=some (some (.ref f))/\FnB K x x st f
noncomputable def jC (K:Frag) (C:Addr) (x qual:Str) (st:Stmt) (f:Addr):Prop:=findIn K (.ref C) x=some (some (.ref f))/\MeB K x qual st f
theorem qg {K:Frag}{x qual:Str}{st:Stmt}{f:Addr}{fd:FuncData}{p0:Str}(F:cQ K x qual st f fd) (h:∀(kV doc pm:Value) (an:Option Addr) (bY ct x0:Value),bindArgs (fnOf x qual (fM st) (d_ st) (ar st) .none kV doc pm an bY ct) ⟨[x0],[]⟩=pure ([p0].zip [x0]):=by exact λ_ _ _ _ _ _ _=>rfl):Binds K fd [p0] []:=F.binds λa b c d e i=>aeZ (h a b c d e i)
theorem gD {K:Frag}{x qual:Str}{st:Stmt}{f:Addr}{fd:FuncData}{p0 p1:Str}(F:cQ K x qual st f fd) (h:∀(kV doc pm:Value) (an:Option Addr) (bY ct x0 x1:Value),bindArgs (fnOf x qual (fM st) (d_ st) (ar st) .none kV doc pm an bY ct) ⟨[x0,x1],[]⟩=pure ([p0,p1].zip [x0,x1]):=by exact λ_ _ _ _ _ _ _ _=>rfl):Binds K fd [p0,p1] []:=F.binds λa b c d e i=>afa (h a b c d e i)
theorem Iw {K:Frag}{x qual:Str}{st:Stmt}{f:Addr}{fd:FuncData}{p0 p1 p2:Str}(F:cQ K x qual st f fd) (h:∀(kV doc pm:Value) (an:Option Addr) (bY ct x0 x1 x2:Value),bindArgs (fnOf x qual (fM st) (d_ st) (ar st) .none kV doc pm an bY ct) ⟨[x0,x1,x2],[]⟩=pure ([p0,p1,p2].zip [x0,x1,x2]):=by exact λ_ _ _ _ _ _ _ _ _=>rfl):Binds K fd [p0,p1,p2] []:=F.binds λa b c d e i=>afb (h a b c d e i)
theorem bi4 {K:Frag}{x qual:Str}{st:Stmt}{f:Addr}{fd:FuncData}{p0 p1 p2 p3:Str}(F:cQ K x qual st f fd) (h:∀(kV doc pm:Value) (an:Option Addr) (bY ct x0 x1 x2 x3:Value),bindArgs (fnOf x qual (fM st) (d_ st) (ar st) .none kV doc pm an bY ct) ⟨[x0,x1,x2,x3],[]⟩=pure ([p0,p1,p2,p3].zip [x0,x1,x2,x3]):=by exact λ_ _ _ _ _ _ _ _ _ _=>rfl):Binds K fd [p0,p1,p2,p3] []:=F.binds λa b c d e i=>afc (h a b c d e i)
theorem all_mk {l:PySem.W.OpenLaw}{w:World}{K:Frag}{h:Heap}{mg:Str->Option Value}{fa:Addr}(X:K.In h) (G:h.Ns mainGlobals mg) (hfa:mg "law"=some (.ref fa))
  {qP oY BJ uy uA BK Gq Gr Gs Gu P1 BL uB uC BN qR BO BP BQ Gv Gw Gx Gy Gz BR uD uE uF uG BS BU BV GA BW BX BY BZ uH oZ uI uJ uK uL uM uN uO uP uQ uR ML MM MN MO MP MQ MR MS MT GB GC GD GF GG GH GI GJ GK GL GN GO GQ B1 B2 B3 fY B4 o_ B5 uS B6 B7 B8 B9 mx Cc uT pb Cd uU Ce uV qT dw br bU cc pG vq vt CN bx aK:Addr}
  {je jf xi:Tok}
  {aV ic cX ie:Addr}
  {fg fk fq fu fA fC fF fj fo ft fz fB fE dW dX:Addr}{Ew Ex Ey Ez EA EB EC xj xk xl xm xn xo xp xq:Array (Option Value)}{ED EE EF EG EH EI EJ xr xt xu xv xw xx xy xA:Nat}{Ow:Nat}{EK EL EM EN EO ER ES:Int}{ET EU EV EW EX EY EZ:Tok}{rT rV rW rX rY rZ r_ sd se sf sg sh si sj sk sq:Tok}
  {cw cx:Addr}{oi oj:Array (Option Value)}{om oo:Nat}{su:Nat}{oq ou:Int}{ox oy:Tok}{lF lG lH lJ:Tok}
  {Ox:Nat}{E1 E2 E3 E4 E5 E6 E7 E8 E9 E_ CO CP CQ CS:Int}{Fb Fc Fd Fe Ff Fg Fh Fi Fj Fl CT CU CV CY:Tok}
  {Fm:Nat}{Fn:Array (Option Value)}
  {X2 Oy:Option Addr}
  {X3:Array (Option Value)}
  {X4 Oz OA OB Fo OC:Value}
  (OD:nsIn K mainGlobals "Thing"=some (some (.ref dw)))
  (tj:nsIn K mainGlobals "PlainThing"=some (some (.ref br)))
  (xB:nsIn K mainGlobals "PairThing"=some (some (.ref bU)))
  (Fp:nsIn K mainGlobals "Reasons"=some (some (.ref cc)))
  (QE:nsIn K mainGlobals "HeapError"=some (some (.ref pG)))
  (X5:nsIn K mainGlobals "NoThing"=some (some (.ref vq)))
  (X6:nsIn K mainGlobals "NoField"=some (some (.ref vt)))
  (YE:nsIn K mainGlobals "NoRoom"=some (some (.ref CN)))
  (CZ:nsIn K mainGlobals "DeedHeap"=some (some (.ref bx)))
  (xC:nsIn K mainGlobals "PlainHeap"=some (some (.ref aK)))
  (Fq:gh K "is_thing" KO qP)
  (Fs:gh K "names_in" KP oY)
  (xD:jC K dw "__init__" "Thing.__init__" KQ BJ)
  (pP:jC K dw "sort_of" "Thing.sort_of" KR uy)
  (sv:jC K dw "fields" "Thing.fields" KS uA)
  (tm:jC K dw "words" "Thing.words" KU BK)
  (mS:jC K br "__init__" "PlainThing.__init__" KW Gq)
  (lK:jC K br "words" "PlainThing.words" KY Gr)
  (iR:jC K br "with_field" "PlainThing.with_field" KZ Gs)
  (iS:jC K br "with_words" "PlainThing.with_words" K0 Gu)
  (oz:jC K bU "__init__" "PairThing.__init__" Vd P1)
  (QF:gh K "plain" K1 BL)
  (X7:gh K "weak" K2 uB)
  (X8:gh K "pair" K3 uC)
  (tq:gh K "open_things" K4 BN)
  (xE:gh K "members_of" K5 qR)
  (Iy:gh K "held_by" K6 BO)
  (Ft:gh K "pair_key" K7 BP)
  (xF:gh K "pair_value" K8 BQ)
  (sx:jC K cc "__init__" "Reasons.__init__" K9 Gv)
  (pQ:jC K cc "bring" "Reasons.bring" K_ Gw)
  (jw:jC K cc "bring_value" "Reasons.bring_value" La Gx)
  (ke:jC K cc "go_on_from" "Reasons.go_on_from" Lb Gy)
  (pR:jC K cc "grown" "Reasons.grown" Lc Gz)
  (Fu:gh K "why_kept" Ld BR)
  (sy:gh K "least_closed" Lf uD)
  (pS:gh K "blind_of_sort" Lg uE)
  (xG:gh K "blind_weak" Lh uF)
  (tw:gh K "blind_pairs" Li uG)
  (xH:gh K "due_beside" Lj BS)
  (Iz:gh K "emptied" Lk BU)
  (xI:gh K "whole_turn" Ll BV)
  (OE:gh K "refuse" Rh GA)
  (Fv:gh K "has_sort" Lm BW)
  (tD:gh K "lacks_thing" Ln BX)
  (tE:gh K "lacks_field" Lo BY)
  (C0:gh K "new_thing" Lp BZ)
  (OF:gh K "do_num" Lq uH)
  (OG:gh K "do_new" Lr oZ)
  (Fw:gh K "do_words" Ls uI)
  (OH:gh K "do_put" Lu uJ)
  (OI:gh K "do_get" Lv uK)
  (IA:gh K "do_look" Lw uL)
  (IB:gh K "do_find" Lx uM)
  (IC:gh K "do_copy" Ly uN)
  (ID:gh K "do_drop" Lz uO)
  (IE:gh K "do_tell" LB uP)
  (IF:gh K "do_same" LC uQ)
  (IG:gh K "do_hear" LD uR)
  (pT:jC K bx "__init__" "DeedHeap.__init__" Ve ML)
  (pU:jC K bx "root" "DeedHeap.root" Vf MM)
  (kE:jC K bx "set_root" "DeedHeap.set_root" Vg MN)
  (lM:jC K bx "name_in" "DeedHeap.name_in" Vh MO)
  (kG:jC K bx "thing_in" "DeedHeap.thing_in" Vi MP)
  (kg:jC K bx "looked_at" "DeedHeap.looked_at" Vj MQ)
  (jx:jC K bx "hear_first" "DeedHeap.hear_first" Vk MR)
  (lO:jC K bx "refusal" "DeedHeap.refusal" Vm MS)
  (pV:jC K bx "done" "DeedHeap.done" Vn MT)
  (oA:jC K aK "__init__" "PlainHeap.__init__" LF GB)
  (sC:jC K aK "do" "PlainHeap.do" LG GC)
  (kh:jC K aK "thing_of" "PlainHeap.thing_of" LH GD)
  (kH:jC K aK "take_in" "PlainHeap.take_in" LI GF)
  (iE:jC K aK "change_field" "PlainHeap.change_field" LJ GG)
  (iF:jC K aK "change_words" "PlainHeap.change_words" LK GH)
  (mT:jC K aK "clear" "PlainHeap.clear" LL GI)
  (jy:jC K aK "drop_pair" "PlainHeap.drop_pair" LM GJ)
  (ki:jC K aK "make_due" "PlainHeap.make_due" LN GK)
  (mU:jC K aK "roots" "PlainHeap.roots" LO GL)
  (jz:jC K aK "heard_row" "PlainHeap.heard_row" LP GN)
  (lP:jC K aK "things" "PlainHeap.things" LQ GO)
  (oB:jC K aK "last" "PlainHeap.last" LR GQ)
  (tF:gh K "_law_cell_at" LS B1)
  (pW:gh K "_law_number_by" LU B2)
  (tG:gh K "_law_deed_by" LV B3)
  (C1:gh K "_law_value" LW fY)
  (C3:gh K "_law_thing" LX B4)
  (Fx:gh K "_law_give" LY o_)
  (C4:gh K "_law_wants" LZ B5)
  (tH:gh K "_law_refusal" L0 uS)
  (Fy:gh K "_law_made" L1 B6)
  (tI:gh K "_law_brought" L3 B7)
  (xJ:gh K "_law_answer" L4 B8)
  (Fz:gh K "_law_done" L5 B9)
  (C5:gh K "_law_event" L6 mx)
  (FA:gh K "_law_open" L7 Cc)
  (tJ:gh K "_law_closing" L8 uT)
  (C6:gh K "_law_blind" L9 pb)
  (FC:gh K "_law_turn" L_ Cd)
  (C7:gh K "_law_alike" yY uU)
  (xK:gh K "_law_events" Ma Ce)
  (tK:gh K "_law_at_turn" Mb uV)
  (ux:nsIn K mainGlobals "law"=some (some (.ref qT)))
  (acg:K.lookup qT=some ⟨X4,X2,.func (fnOf "law" "law" (fM mw) (d_ mw) (ar mw) .none Oz OA OB Oy Fo OC),X3⟩)
  (X9:PySem.W.codeIn K Fo "law"=true)
  (ach:keepIn K (.ref qT)=true)
  (OJ:PySem.W.plainGet K dw Str.empty=true)
  (OK:PySem.W.hasDictIn K dw=true)
  (OL:PySem.W.plainOver K dw=true)
  (OM:findIn K (.ref dw) "__setattr__"=some (some (.builtin "object.__setattr__")))
  (ON:PySem.W.makesIn K dw=true)
  (OO:keepIn K (.ref dw)=true)
  (eT:findIn K (.ref dw) "called"=some none)
  (fQ:findIn K (.ref dw) "parts"=some none)
  (tL:PySem.W.plainGet K br Str.empty=true)
  (tM:PySem.W.hasDictIn K br=true)
  (tN:PySem.W.plainOver K br=true)
  (tO:findIn K (.ref br) "__setattr__"=some (some (.builtin "object.__setattr__")))
  (tP:PySem.W.makesIn K br=true)
  (tQ:keepIn K (.ref br)=true)
  (du:findIn K (.ref br) "called"=some none)
  (bS:findIn K (.ref br) "parts"=some none)
  (bW:findIn K (.ref br) "last_words"=some none)
  (xM:PySem.W.plainGet K bU Str.empty=true)
  (xN:PySem.W.hasDictIn K bU=true)
  (xO:PySem.W.plainOver K bU=true)
  (xP:findIn K (.ref bU) "__setattr__"=some (some (.builtin "object.__setattr__")))
  (xQ:PySem.W.makesIn K bU=true)
  (xR:keepIn K (.ref bU)=true)
  (dy:findIn K (.ref bU) "called"=some none)
  (dD:findIn K (.ref bU) "parts"=some none)
  (FD:PySem.W.plainGet K cc Str.empty=true)
  (FE:PySem.W.hasDictIn K cc=true)
  (FF:PySem.W.plainOver K cc=true)
  (FG:findIn K (.ref cc) "__setattr__"=some (some (.builtin "object.__setattr__")))
  (FH:PySem.W.makesIn K cc=true)
  (FI:keepIn K (.ref cc)=true)
  (cL:findIn K (.ref cc) "by_serial"=some none)
  (cN:findIn K (.ref cc) "rows"=some none)
  (cZ:findIn K (.ref cc) "members"=some none)
  (c_:findIn K (.ref cc) "waiting"=some none)
  (C8:PySem.W.plainGet K bx Str.empty=true)
  (C9:PySem.W.hasDictIn K bx=true)
  (C_:PySem.W.plainOver K bx=true)
  (Dc:findIn K (.ref bx) "__setattr__"=some (some (.builtin "object.__setattr__")))
  (Dd:PySem.W.makesIn K bx=true)
  (Df:keepIn K (.ref bx)=true)
  (xS:PySem.W.plainGet K aK Str.empty=true)
  (xT:PySem.W.hasDictIn K aK=true)
  (xU:PySem.W.plainOver K aK=true)
  (xV:findIn K (.ref aK) "__setattr__"=some (some (.builtin "object.__setattr__")))
  (xW:PySem.W.makesIn K aK=true)
  (xX:keepIn K (.ref aK)=true)
  (bH:findIn K (.ref aK) "root_values"=some none)
  (cB:findIn K (.ref aK) "heard"=some none)
  (aP:findIn K (.ref aK) "made"=some none)
  (IH:nsIn K mainGlobals "NOTHING"=some (some (.ref aV)))
  (sD:K.lookup aV=some ⟨.type "tuple",none,.seq #[.str "nothing" xi] Fm,Fn⟩)
  (FJ:nsIn K mainGlobals "NO_THING"=some (some (.str "no thing" je)))
  (FK:nsIn K mainGlobals "NO_FIELD"=some (some (.str "no field" jf)))
  (QG:nsIn K mainGlobals "WANTS"=some (some (.ref ic)))
  (OP:(ic == sysModules)=false)
  (OQ:K.lookup ic=some ⟨.type "dict",none,.dict #[⟨EK,.str "weak" ET,.ref fg⟩,⟨EL,.str "pair" EU,.ref fk⟩,⟨EM,.str "words" EV,.ref fq⟩,⟨EN,.str "put" EW,.ref fu⟩,⟨EO,.str "get" EX,.ref fA⟩,⟨ER,.str "look" EY,.ref fC⟩,⟨ES,.str "find" EZ,.ref fF⟩] Ow,#[]⟩)
  (FL:K.lookup fg=some ⟨.type "tuple",none,.seq #[.ref fj] ED,Ew⟩)
  (xY:K.lookup fj=some ⟨.type "tuple",none,.seq #[.int 2 rT,.str "any" rV] xr,xj⟩)
  (FN:K.lookup fk=some ⟨.type "tuple",none,.seq #[.ref fo] EE,Ex⟩)
  (xZ:K.lookup fo=some ⟨.type "tuple",none,.seq #[.int 2 rW,.str "any" rX] xt,xk⟩)
  (FO:K.lookup fq=some ⟨.type "tuple",none,.seq #[.ref ft] EF,Ey⟩)
  (x_:K.lookup ft=some ⟨.type "tuple",none,.seq #[.int 1 rY,.str "plain" rZ] xu,xl⟩)
  (FP:K.lookup fu=some ⟨.type "tuple",none,.seq #[.ref fz] EG,Ez⟩)
  (ya:K.lookup fz=some ⟨.type "tuple",none,.seq #[.int 1 r_,.str "plain" sd] xv,xm⟩)
  (FQ:K.lookup fA=some ⟨.type "tuple",none,.seq #[.ref fB] EH,EA⟩)
  (yb:K.lookup fB=some ⟨.type "tuple",none,.seq #[.int 2 se,.str "plain" sf] xw,xn⟩)
  (FR:K.lookup fC=some ⟨.type "tuple",none,.seq #[.ref fE] EI,EB⟩)
  (yc:K.lookup fE=some ⟨.type "tuple",none,.seq #[.int 2 sg,.str "weak" sh] xx,xo⟩)
  (FT:K.lookup fF=some ⟨.type "tuple",none,.seq #[.ref dW,.ref dX] EJ,EC⟩)
  (yd:K.lookup dW=some ⟨.type "tuple",none,.seq #[.int 2 si,.str "pair" sj] xy,xp⟩)
  (ye:K.lookup dX=some ⟨.type "tuple",none,.seq #[.int 3 sk,.str "any" sq] xA,xq⟩)
  (tR:nsIn K mainGlobals "WANTS_FIELD"=some (some (.ref cX)))
  (sE:(cX == sysModules)=false)
  (sF:K.lookup cX=some ⟨.type "dict",none,.dict #[⟨oq,.str "put" ox,.ref cw⟩,⟨ou,.str "get" oy,.ref cx⟩] su,#[]⟩)
  (oC:K.lookup cw=some ⟨.type "tuple",none,.seq #[.int 1 lF,.int 2 lG] om,oi⟩)
  (oE:K.lookup cx=some ⟨.type "tuple",none,.seq #[.int 2 lH,.int 3 lJ] oo,oj⟩)
  (QH:nsIn K mainGlobals "DOERS"=some (some (.ref ie)))
  (OR:(ie == sysModules)=false)
  (OS:K.lookup ie=some ⟨.type "dict",none,.dict #[⟨E1,.str "num" Fb,.ref uH⟩,⟨E2,.str "make" Fc,.ref oZ⟩,⟨E3,.str "weak" Fd,.ref oZ⟩,⟨E4,.str "pair" Fe,.ref oZ⟩,⟨E5,.str "words" Ff,.ref uI⟩,⟨E6,.str "put" Fg,.ref uJ⟩,⟨E7,.str "get" Fh,.ref uK⟩,⟨E8,.str "look" Fi,.ref uL⟩,⟨E9,.str "find" Fj,.ref uM⟩,⟨E_,.str "copy" Fl,.ref uN⟩,⟨CO,.str "drop" CT,.ref uO⟩,⟨CP,.str "tell" CU,.ref uP⟩,⟨CQ,.str "same" CV,.ref uQ⟩,⟨CS,.str "hear" CY,.ref uR⟩] Ox,#[]⟩)
  (kj:findIn K (.ref br) "sort_of"=some (some (.ref uy)))
  (kI:findIn K (.ref br) "fields"=some (some (.ref uA)))
  (kJ:findIn K (.ref bU) "sort_of"=some (some (.ref uy)))
  (lQ:findIn K (.ref bU) "fields"=some (some (.ref uA)))
  (mV:findIn K (.ref bU) "words"=some (some (.ref BK)))
  (oF:findIn K (.ref aK) "root"=some (some (.ref MM)))
  (km:findIn K (.ref aK) "set_root"=some (some (.ref MN)))
  (kK:findIn K (.ref aK) "name_in"=some (some (.ref MO)))
  (ko:findIn K (.ref aK) "thing_in"=some (some (.ref MP)))
  (jA:findIn K (.ref aK) "looked_at"=some (some (.ref MQ)))
  (jm:findIn K (.ref aK) "hear_first"=some (some (.ref MR)))
  (kL:findIn K (.ref aK) "refusal"=some (some (.ref MS)))
  (oG:findIn K (.ref aK) "done"=some (some (.ref MT)))
  (sG:PySem.W.specialIn K (.ref dw) "__getattribute__"=some (some (.builtin "type.__getattribute__")))
  (sH:PySem.W.readsIn K dw (.type "type")=true)
  (sI:PySem.W.findCls K (.ref dw) (.type "type") "__init__"=some (.val (.ref BJ)))
  (mW:PySem.W.specialIn K (.ref bx) "__getattribute__"=some (some (.builtin "type.__getattribute__")))
  (mX:PySem.W.readsIn K bx (.type "type")=true)
  (mY:PySem.W.findCls K (.ref bx) (.type "type") "__init__"=some (.val (.ref ML)))
  (GY:nsIn K mainGlobals "abs"=some none)
  (GZ:nsIn K mainGlobals "any"=some none)
  (wG:nsIn K mainGlobals "bool"=some none)
  (lu:nsIn K mainGlobals "dict"=some none)
  (uW:nsIn K mainGlobals "int"=some none)
  (bE:nsIn K mainGlobals "isinstance"=some none)
  (f_:nsIn K mainGlobals "len"=some none)
  (iC:nsIn K mainGlobals "list"=some none)
  (qb:nsIn K mainGlobals "range"=some none)
  (M0:nsIn K mainGlobals "set"=some none)
  (fR:nsIn K mainGlobals "sorted"=some none)
  (mz:nsIn K mainGlobals "str"=some none)
  (qc:nsIn K mainGlobals "tuple"=some none)
  : ∃fd:FuncData,(∀(s:Shared) (v:Value),BindsTo s fd ⟨[v],[]⟩ [("_law_script",v)])/\∀base:Heap,K.In base->base.Ns mainGlobals mg->aU l.prog w K mg base cU 13 fa fd ["_law_script"] (rS K):=by
 have e:qT=fa:=by
  have e:=hfa.symm.trans (mg_of X G ux);cases e;rfl
 subst e;obtain⟨yZ,afE,y_,Si⟩:=Fq;obtain⟨za,afF,zb,Sj⟩:=Fs;obtain⟨uu,aci,acj,zc,Sk⟩:=xD;obtain⟨qM,OT,OU,zd,Sl⟩:=pP;obtain⟨qN,OV,OW,ze,Sn⟩:=sv;obtain⟨uv,So,Sq,zf,Sr⟩:=tm;obtain⟨zg,ack,afG,zh,Ss⟩:=mS;obtain⟨zi,acm,acn,zj,Su⟩:=lK;obtain⟨zk,aco,acp,zl,Sv⟩:=iR;obtain⟨zm,acq,acr,zo,Sw⟩:=iS;obtain⟨Mo,afd,agX,Mp,acs⟩:=oz;obtain⟨zp,afH,zq,Sx⟩:=QF;obtain⟨zr,afI,zt,Sy⟩:=X7;obtain⟨zu,afJ,zx,Sz⟩:=X8;obtain⟨zy,afK,zz,SA⟩:=tq;obtain⟨zA,afL,zB,SD⟩:=xE;obtain⟨zC,afM,zD,SE⟩:=Iy;obtain⟨zE,afN,zF,SF⟩:=Ft;obtain⟨zG,afO,zH,SG⟩:=xF;obtain⟨zI,acu,afP,zJ,SH⟩:=sx;obtain⟨zK,acv,acw,zL,SI⟩:=pQ;obtain⟨zM,acx,acy,zN,SJ⟩:=jw;obtain⟨zO,acz,acA,zP,SK⟩:=ke;obtain⟨zQ,acB,acC,zR,SM⟩:=pR;obtain⟨zS,afQ,zT,SN⟩:=Fu;obtain⟨zU,afR,zV,SO⟩:=sy;obtain⟨zW,afS,zX,SQ⟩:=pS;obtain⟨zY,afT,zZ,SR⟩:=xG;obtain⟨z_,afU,Aa,SS⟩:=tw;obtain⟨Ab,afV,Ac,SU⟩:=xH;obtain⟨Ad,afW,Ae,SV⟩:=Iz;obtain⟨Af,afX,Ag,SW⟩:=xI;obtain⟨Ah,afY,Ai,SX⟩:=OE;obtain⟨Aj,afZ,Ak,SY⟩:=Fv;obtain⟨Al,aga,Am,S1⟩:=tD;obtain⟨An,agb,Ao,S2⟩:=tE;obtain⟨Ap,agc,Aq,S3⟩:=C0;obtain⟨oJ,agd,Ar,S4⟩:=OF;obtain⟨jr,age,As,S5⟩:=OG;obtain⟨oK,agf,Au,S6⟩:=Fw;obtain⟨oM,agg,Av,S7⟩:=OH;obtain⟨oO,agh,Aw,S8⟩:=OI;obtain⟨oP,agi,Ax,S9⟩:=IA;obtain⟨oQ,agj,Ay,S_⟩:=IB;obtain⟨oR,agk,Az,Ta⟩:=IC;obtain⟨oS,agl,AA,Tb⟩:=ID;obtain⟨oU,agm,AB,Tc⟩:=IE;obtain⟨oW,agn,AD,Td⟩:=IF;obtain⟨oX,ago,AE,Te⟩:=IG;obtain⟨HV,afe,aff,Mq,acD⟩:=pT;obtain⟨HW,acE,acF,Mr,acG⟩:=pU;obtain⟨HX,acH,acI,Ms,acJ⟩:=kE;obtain⟨HY,acK,acL,Mt,acM⟩:=lM;obtain⟨HZ,acN,acO,Mv,acP⟩:=kG;obtain⟨H_,acQ,acR,Mw,acS⟩:=kg;obtain⟨Ia,acT,acU,Mx,acV⟩:=jx;obtain⟨Ib,acW,acX,My,acY⟩:=lO;obtain⟨Ic,acZ,ada,Mz,adb⟩:=pV;obtain⟨AF,ade,agp,AG,Tf⟩:=oA;obtain⟨AH,adf,adg,AI,Th⟩:=sC;obtain⟨AJ,adh,adi,AK,Ti⟩:=kh;obtain⟨AL,adj,adk,AM,Tj⟩:=kH;obtain⟨AN,adl,adm,AO,Tn⟩:=iE;obtain⟨AQ,adn,ado,AR,To⟩:=iF;obtain⟨AS,adp,adq,AU,Tp⟩:=mT;obtain⟨AV,ads,adt,AW,Tq⟩:=jy;obtain⟨AX,adu,adw,AY,Tr⟩:=ki;obtain⟨AZ,adx,ady,A0,Ts⟩:=mU;obtain⟨A1,adz,adA,A2,Tt⟩:=jz;obtain⟨A3,adB,adC,A4,Tu⟩:=lP;obtain⟨A5,adD,adE,A6,Tv⟩:=oB;obtain⟨A7,agq,A8,Tw⟩:=tF;obtain⟨A9,agr,A_,Tx⟩:=pW;obtain⟨Ba,ags,Bb,Tz⟩:=tG;obtain⟨Bc,agt,Bd,TB⟩:=C1;obtain⟨Be,agu,Bf,TC⟩:=C3;obtain⟨Bg,agv,Bh,TF⟩:=Fx;obtain⟨Bi,agw,Bj,TH⟩:=C4;obtain⟨Bk,agx,Bl,TJ⟩:=tH;obtain⟨Bm,agy,Bo,TK⟩:=Fy;obtain⟨Bp,agz,Bq,TL⟩:=tI;obtain⟨Br,agA,Bs,TM⟩:=xJ;obtain⟨Bt,agB,Bu,TN⟩:=Fz;obtain⟨Bv,agC,Bw,TQ⟩:=C5;obtain⟨Bx,agD,By,TR⟩:=FA;obtain⟨Bz,agE,BA,TU⟩:=tJ;obtain⟨BB,agF,BC,TV⟩:=C6;obtain⟨BD,agG,BE,TX⟩:=FC;obtain⟨qO,agH,uw,TY⟩:=C7;obtain⟨BF,agI,BG,TZ⟩:=xK;obtain⟨BH,agJ,BI,T1⟩:=tK;have adF:=JB (st:=mw) acg X9 ach;have T:Txt K mg ⟨qP,y_,oY,zb,BJ,zc,uy,zd,uA,ze,BK,zf,Gq,zh,Gr,zj,Gs,zl,Gu,zo,P1,Mp,BL,zq,uB,zt,uC,zx,BN,zz,qR,zB,BO,zD,BP,zF,BQ,zH,Gv,zJ,Gw,zL,Gx,zN,Gy,zP,Gz,zR,BR,zT,uD,zV,uE,zX,uF,zZ,uG,Aa,BS,Ac,BU,Ae,BV,Ag,GA,Ai,BW,Ak,BX,Am,BY,Ao,BZ,Aq,uH,Ar,oZ,As,uI,Au,uJ,Av,uK,Aw,uL,Ax,uM,Ay,uN,Az,uO,AA,uP,AB,uQ,AD,uR,AE,ML,Mq,MM,Mr,MN,Ms,MO,Mt,MP,Mv,MQ,Mw,MR,Mx,MS,My,MT,Mz,GB,AG,GC,AI,GD,AK,GF,AM,GG,AO,GH,AR,GI,AU,GJ,AW,GK,AY,GL,A0,GN,A2,GO,A4,GQ,A6,B1,A8,B2,A_,B3,Bb,fY,Bd,B4,Bf,o_,Bh,B5,Bj,uS,Bl,B6,Bo,B7,Bq,B8,Bs,B9,Bu,mx,Bw,Cc,By,uT,BA,pb,BC,Cd,BE,uU,uw,Ce,BG,uV,BI,qT,fnOf "law" "law" (fM mw) (d_ mw) (ar mw) .none Oz OA OB Oy Fo OC,dw,br,bU,cc,pG,vq,vt,CN,bx,aK,aV,je,jf,ic,fg,fj,fk,fo,fq,ft,fu,fz,fA,fB,fC,fE,fF,dW,dX,cX,cw,cx,ie⟩:=
  ⟨Si,
  qg Si,
  mg_of X G yZ,
  Sj,
  qg Sj,
  mg_of X G za,
  Sk,
  Iw Sk,
  ⟨ON,uu,aci,OO⟩,
  Sl,
  qg Sl,
  ⟨qM,OT,OU⟩,
  Sn,
  qg Sn,
  ⟨qN,OV,OW⟩,
  Sr,
  qg Sr,
  ⟨uv,So,Sq⟩,
  Ss,
  Iw Ss,
  ⟨tP,zg,ack,tQ⟩,
  Su,
  qg Su,
  ⟨zi,acm,acn⟩,
  Sv,
  Iw Sv,
  ⟨zk,aco,acp⟩,
  Sw,
  gD Sw,
  ⟨zm,acq,acr⟩,
  acs,
  Iw acs,
  ⟨xQ,Mo,afd,xR⟩,
  Sx,
  gD Sx,
  mg_of X G zp,
  Sy,
  qg Sy,
  mg_of X G zr,
  Sz,
  gD Sz,
  mg_of X G zu,
  SA,
  qg SA,
  mg_of X G zy,
  SD,
  qg SD,
  mg_of X G zA,
  SE,
  qg SE,
  mg_of X G zC,
  SF,
  qg SF,
  mg_of X G zE,
  SG,
  qg SG,
  mg_of X G zG,
  SH,
  Iw SH,
  ⟨FH,zI,acu,FI⟩,
  SI,
  bi4 SI,
  ⟨zK,acv,acw⟩,
  SJ,
  gD SJ,
  ⟨zM,acx,acy⟩,
  SK,
  gD SK,
  ⟨zO,acz,acA⟩,
  SM,
  qg SM,
  ⟨zQ,acB,acC⟩,
  SN,
  gD SN,
  mg_of X G zS,
  SO,
  gD SO,
  mg_of X G zU,
  SQ,
  Iw SQ,
  mg_of X G zW,
  SR,
  gD SR,
  mg_of X G zY,
  SS,
  gD SS,
  mg_of X G z_,
  SU,
  gD SU,
  mg_of X G Ab,
  SV,
  gD SV,
  mg_of X G Ad,
  SW,
  qg SW,
  mg_of X G Af,
  SX,
  qg SX,
  mg_of X G Ah,
  SY,
  Iw SY,
  mg_of X G Aj,
  S1,
  gD S1,
  mg_of X G Al,
  S2,
  gD S2,
  mg_of X G An,
  S3,
  gD S3,
  mg_of X G Ap,
  S4,
  gD S4,
  mg_of X G oJ,
  S5,
  gD S5,
  mg_of X G jr,
  S6,
  gD S6,
  mg_of X G oK,
  S7,
  gD S7,
  mg_of X G oM,
  S8,
  gD S8,
  mg_of X G oO,
  S9,
  gD S9,
  mg_of X G oP,
  S_,
  gD S_,
  mg_of X G oQ,
  Ta,
  gD Ta,
  mg_of X G oR,
  Tb,
  gD Tb,
  mg_of X G oS,
  Tc,
  gD Tc,
  mg_of X G oU,
  Td,
  gD Td,
  mg_of X G oW,
  Te,
  gD Te,
  mg_of X G oX,
  acD,
  qg acD,
  ⟨Dd,HV,afe,Df⟩,
  acG,
  gD acG,
  ⟨HW,acE,acF⟩,
  acJ,
  Iw acJ,
  ⟨HX,acH,acI⟩,
  acM,
  gD acM,
  ⟨HY,acK,acL⟩,
  acP,
  gD acP,
  ⟨HZ,acN,acO⟩,
  acS,
  gD acS,
  ⟨H_,acQ,acR⟩,
  acV,
  qg acV,
  ⟨Ia,acT,acU⟩,
  acY,
  gD acY,
  ⟨Ib,acW,acX⟩,
  adb,
  gD adb,
  ⟨Ic,acZ,ada⟩,
  Tf,
  qg Tf,
  ⟨xW,AF,ade,xX⟩,
  Th,
  gD Th,
  ⟨AH,adf,adg⟩,
  Ti,
  gD Ti,
  ⟨AJ,adh,adi⟩,
  Tj,
  gD Tj,
  ⟨AL,adj,adk⟩,
  Tn,
  bi4 Tn,
  ⟨AN,adl,adm⟩,
  To,
  Iw To,
  ⟨AQ,adn,ado⟩,
  Tp,
  gD Tp,
  ⟨AS,adp,adq⟩,
  Tq,
  gD Tq,
  ⟨AV,ads,adt⟩,
  Tr,
  gD Tr,
  ⟨AX,adu,adw⟩,
  Ts,
  qg Ts,
  ⟨AZ,adx,ady⟩,
  Tt,
  qg Tt,
  ⟨A1,adz,adA⟩,
  Tu,
  qg Tu,
  ⟨A3,adB,adC⟩,
  Tv,
  qg Tv,
  ⟨A5,adD,adE⟩,
  Tw,
  gD Tw,
  mg_of X G A7,
  Tx,
  gD Tx,
  mg_of X G A9,
  Tz,
  gD Tz,
  mg_of X G Ba,
  TB,
  gD TB,
  mg_of X G Bc,
  TC,
  Iw TC,
  mg_of X G Be,
  TF,
  Iw TF,
  mg_of X G Bg,
  TH,
  qg TH,
  mg_of X G Bi,
  TJ,
  gD TJ,
  mg_of X G Bk,
  TK,
  gD TK,
  mg_of X G Bm,
  TL,
  gD TL,
  mg_of X G Bp,
  TM,
  gD TM,
  mg_of X G Br,
  TN,
  gD TN,
  mg_of X G Bt,
  TQ,
  Iw TQ,
  mg_of X G Bv,
  TR,
  qg TR,
  mg_of X G Bx,
  TU,
  gD TU,
  mg_of X G Bz,
  TV,
  Iw TV,
  mg_of X G BB,
  TX,
  gD TX,
  mg_of X G BD,
  TY,
  gD TY,
  mg_of X G qO,
  TZ,
  gD TZ,
  mg_of X G BF,
  T1,
  gD T1,
  mg_of X G BH,
  adF,
  mg_of X G ux,
  ⟨kj,OT,OU⟩,
  ⟨kI,OV,OW⟩,
  ⟨kJ,OT,OU⟩,
  ⟨lQ,OV,OW⟩,
  ⟨mV,So,Sq⟩,
  ⟨oF,acE,acF⟩,
  ⟨km,acH,acI⟩,
  ⟨kK,acK,acL⟩,
  ⟨ko,acN,acO⟩,
  ⟨jA,acQ,acR⟩,
  ⟨jm,acT,acU⟩,
  ⟨kL,acW,acX⟩,
  ⟨oG,acZ,ada⟩,
  ⟨sG,sH,sI,acj⟩,
  ⟨mW,mX,mY,aff⟩,
  ⟨OJ,OK,OL,OM⟩,
  mg_of X G OD,
  eT,
  fQ,
  ⟨tL,tM,tN,tO⟩,
  mg_of X G tj,
  du,
  bS,
  bW,
  ⟨xM,xN,xO,xP⟩,
  mg_of X G xB,
  dy,
  dD,
  ⟨FD,FE,FF,FG⟩,
  mg_of X G Fp,
  cL,
  cN,
  cZ,
  c_,
  ⟨C8,C9,C_,Dc⟩,
  mg_of X G CZ,
  ⟨xS,xT,xU,xV⟩,
  mg_of X G xC,
  bH,
  cB,
  aP,
  mg_of X G IH,
  ⟨_,sD,rfl,rfl⟩,
  λH=>.inr ⟨_,_,_,sD,rfl,rfl,(by show 1<=sizeLine; decide),(.cons ⟨_,rfl⟩ Paired.nil)⟩,
  mg_of X G FJ,
  mg_of X G FK,
  mg_of X G QG,
  .mk OP OQ (bw (bw (bw (bw (bw (bw (bw rfl))))))),
  λH=>.inr ⟨_,_,_,FL,rfl,rfl,(by show 1<=sizeLine; decide),(.cons rfl Paired.nil)⟩,
  λH=>.inr ⟨_,_,_,xY,rfl,rfl,(by show 2<=sizeLine; decide),(.cons ⟨_,rfl⟩ (.cons ⟨_,rfl⟩ Paired.nil))⟩,
  λH=>.inr ⟨_,_,_,FN,rfl,rfl,(by show 1<=sizeLine; decide),(.cons rfl Paired.nil)⟩,
  λH=>.inr ⟨_,_,_,xZ,rfl,rfl,(by show 2<=sizeLine; decide),(.cons ⟨_,rfl⟩ (.cons ⟨_,rfl⟩ Paired.nil))⟩,
  λH=>.inr ⟨_,_,_,FO,rfl,rfl,(by show 1<=sizeLine; decide),(.cons rfl Paired.nil)⟩,
  λH=>.inr ⟨_,_,_,x_,rfl,rfl,(by show 2<=sizeLine; decide),(.cons ⟨_,rfl⟩ (.cons ⟨_,rfl⟩ Paired.nil))⟩,
  λH=>.inr ⟨_,_,_,FP,rfl,rfl,(by show 1<=sizeLine; decide),(.cons rfl Paired.nil)⟩,
  λH=>.inr ⟨_,_,_,ya,rfl,rfl,(by show 2<=sizeLine; decide),(.cons ⟨_,rfl⟩ (.cons ⟨_,rfl⟩ Paired.nil))⟩,
  λH=>.inr ⟨_,_,_,FQ,rfl,rfl,(by show 1<=sizeLine; decide),(.cons rfl Paired.nil)⟩,
  λH=>.inr ⟨_,_,_,yb,rfl,rfl,(by show 2<=sizeLine; decide),(.cons ⟨_,rfl⟩ (.cons ⟨_,rfl⟩ Paired.nil))⟩,
  λH=>.inr ⟨_,_,_,FR,rfl,rfl,(by show 1<=sizeLine; decide),(.cons rfl Paired.nil)⟩,
  λH=>.inr ⟨_,_,_,yc,rfl,rfl,(by show 2<=sizeLine; decide),(.cons ⟨_,rfl⟩ (.cons ⟨_,rfl⟩ Paired.nil))⟩,
  λH=>.inr ⟨_,_,_,FT,rfl,rfl,(by show 2<=sizeLine; decide),(.cons rfl (.cons rfl Paired.nil))⟩,
  λH=>.inr ⟨_,_,_,yd,rfl,rfl,(by show 2<=sizeLine; decide),(.cons ⟨_,rfl⟩ (.cons ⟨_,rfl⟩ Paired.nil))⟩,
  λH=>.inr ⟨_,_,_,ye,rfl,rfl,(by show 2<=sizeLine; decide),(.cons ⟨_,rfl⟩ (.cons ⟨_,rfl⟩ Paired.nil))⟩,
  mg_of X G tR,
  .mk sE sF (bw (bw rfl)),
  λH=>.inr ⟨_,_,_,oC,rfl,rfl,(by show 2<=sizeLine; decide),(.cons ⟨_,rfl⟩ (.cons ⟨_,rfl⟩ Paired.nil))⟩,
  λH=>.inr ⟨_,_,_,oE,rfl,rfl,(by show 2<=sizeLine; decide),(.cons ⟨_,rfl⟩ (.cons ⟨_,rfl⟩ Paired.nil))⟩,
  mg_of X G QH,
  .mk OR OS (bw (bw (bw (bw (bw (bw (bw (bw (bw (bw (bw (bw (bw (bw rfl)))))))))))))),
  PySem.W.mg_none_of X G GY,
  PySem.W.mg_none_of X G GZ,
  PySem.W.mg_none_of X G wG,
  PySem.W.mg_none_of X G lu,
  PySem.W.mg_none_of X G uW,
  PySem.W.mg_none_of X G bE,
  PySem.W.mg_none_of X G f_,
  PySem.W.mg_none_of X G iC,
  PySem.W.mg_none_of X G qb,
  PySem.W.mg_none_of X G M0,
  PySem.W.mg_none_of X G fR,
  PySem.W.mg_none_of X G mz,
  PySem.W.mg_none_of X G qc⟩
 exact⟨_,λs v=>.of_eq rfl,λbase _ _=>XZ T⟩
theorem walk {l:PySem.W.OpenLaw}{q:Program}{loose:List Str}{XP:(Str->Option Value)->Heap->Prop}{YP:World->Heap->Prop}{d:DefRec}{K:Params->Frag}(hn:l.most=some 63) (QZ:d.params.defaults=[])
  (hY:∀(w:World) (h:Heap),YP w h->(K w.params).In h)
  (F:∀(w:World) (mg:Str->Option Value) (fa:Addr) (h:Heap),(K w.params).In h->h.Ns mainGlobals mg->mg d.name=some (.ref fa) ->
   ∃fd:FuncData,(∀(s:Shared) (u:Value),BindsTo s fd ⟨[u],[]⟩ [("_law_script",u)])/\∀base:Heap,(K w.params).In base->base.Ns mainGlobals mg->aU l.prog w (K w.params) mg base cU 13 fa fd ["_law_script"] (rS (K w.params))) :
  PySem.W.WalkO q loose XP YP l.row.toRowW d [] (λf vs=>PySem.call f vs):=
 L2.Pn (n:=63) (k:=13) (x:="_law_script") (CX:=λ_=>cU) (sp:=λw=>rS (K w.params)) hn (by decide) QZ ⟨rfl,by decide,by decide⟩ hY F (λ_ _ a ns hl _ hS=>⟨a,ns,rfl,hS,hl,λ_=>rfl⟩) λ_ _ _ _ _ z=>z
end Vc
namespace PySem.W.Fast
def tw10009701692997982845:=Nat
def tw10033843438206138551:=Nat
def tw10119618727921048978:=Nat
def tw10248403252706895062:=Nat
def tw10268987510713720361:=Nat
def tw10319182711756084443:=Nat
def tw10341865081868300727:=Nat
def tw10367195136362067731:=Nat
def tw10404708648600170897:=Nat
def tw10419127744651047038:=Nat
def tw10497381124793393562:=Nat
def tw10521825682989927243:=Nat
def tw10568154685268996306:=Nat
def tw10580958370843782109:=Nat
def tw10604903318695146430:=Nat
def tw10618703206589312896:=Nat
def tw10779187240346360659:=Nat
def tw10819504238709139459:=Nat
def tw10836199566021633329:=Nat
def tw10860691381231487770:=Nat
def tw10946930436877686221:=Nat
def tw11163531959112384735:=Nat
def tw11170986683056896822:=Nat
def tw11288915786556816788:=Nat
def tw11290282576992580609:=Nat
def tw11370721093841265113:=Nat
def tw11391478703146293849:=Nat
def tw11399902748585101143:=Nat
def tw11400982308234953281:=Nat
def tw115336205726561059:=Nat
def tw1153999927092865097:=Nat
def tw11558305253940394312:=Nat
def tw11563384947102282407:=Nat
def tw11565096043442265152:=Nat
def tw11589652458517462490:=Nat
def tw11608719431931852649:=Nat
def tw11760812685605163715:=Nat
def tw11767885593659675585:=Nat
def tw11808850904779189910:=Nat
def tw1182560234243839487:=Nat
def tw11830704442632368086:=Nat
def tw11850191680409081499:=Nat
def tw1191070935991948081:=Nat
def tw1205050739760789157:=Nat
def tw12162208608229329992:=Nat
def tw12201126798386218176:=Nat
def tw12210490989400346966:=Nat
def tw12294442981016942954:=Nat
def tw12307409289699948587:=Nat
def tw12323413401337178696:=Nat
def tw12447612990978891395:=Nat
def tw1258567071955034475:=Nat
def tw12591798150511246529:=Nat
def tw12651443360307928981:=Nat
def tw12741937771792144493:=Nat
def tw12783659036406133538:=Nat
def tw12846362985889976093:=Nat
def tw12874460095893125392:=Nat
def tw12896706327671607232:=Nat
def tw12905605924991060070:=Nat
def tw12931165650848806891:=Nat
def tw12947660299486049617:=Nat
def tw12971021354501287351:=Nat
def tw13052950018775439236:=Nat
def tw13059568046546265125:=Nat
def tw13113211423463974026:=Nat
def tw13153737826699178339:=Nat
def tw13210722222799991130:=Nat
def tw13326195625570344012:=Nat
def tw13366229052539040163:=Nat
def tw13373854600978730178:=Nat
def tw13395987729453279248:=Nat
def tw13535612048496560451:=Nat
def tw13569322440021921244:=Nat
def tw13592005591185033496:=Nat
def tw13641765487800033202:=Nat
def tw13659134852434423969:=Nat
def tw13747802723044211240:=Nat
def tw13763911882038619940:=Nat
def tw13777497589825189279:=Nat
def tw1378403329207999147:=Nat
def tw13785452247782038996:=Nat
def tw13791713859035194200:=Nat
def tw13817138291848750581:=Nat
def tw13836543520344254805:=Nat
def tw1389501521804605227:=Nat
def tw13926417749888438538:=Nat
def tw1395434490273314246:=Nat
def tw13980995342440868455:=Nat
def tw14012085691129078771:=Nat
def tw14019091756611876991:=Nat
def tw14158401632283310130:=Nat
def tw14285071928733447916:=Nat
def tw14306793749554797623:=Nat
def tw14331642263233586973:=Nat
def tw1434319486948604764:=Nat
def tw14354076118562637914:=Nat
def tw1444730636549526648:=Nat
def tw14468238546668000923:=Nat
def tw14478117023875105942:=Nat
def tw14502098112828114728:=Nat
def tw14518983605432786487:=Nat
def tw14651660436253541800:=Nat
def tw14688283906286952023:=Nat
def tw14695670081477813118:=Nat
def tw14717051160109853746:=Nat
def tw1476965020726761331:=Nat
def tw14782683358144249899:=Nat
def tw14787554149993874622:=Nat
def tw14826081139118486015:=Nat
def tw14864216169734899900:=Nat
def tw14881800045491337079:=Nat
def tw15056037209520621673:=Nat
def tw15138254568743615152:=Nat
def tw15144266117816865461:=Nat
def tw15280882428585674550:=Nat
def tw15286001159775208570:=Nat
def tw15286743819939854285:=Nat
def tw15297399213373716840:=Nat
def tw1531580582754943105:=Nat
def tw15407752284623975722:=Nat
def tw15501172944529392092:=Nat
def tw1551870399437862175:=Nat
def tw15554635382366874526:=Nat
def tw15561392284165740855:=Nat
def tw15602444422116976394:=Nat
def tw15674721225894474109:=Nat
def tw15711674390500643272:=Nat
def tw15804407704163326059:=Nat
def tw15815167953328316221:=Nat
def tw15935651918227600057:=Nat
def tw16003153984678053906:=Nat
def tw16060999045967293359:=Nat
def tw16138324721535736270:=Nat
def tw16144177448379380085:=Nat
def tw16181985060125079751:=Nat
def tw16252610167405852401:=Nat
def tw16336493391315537483:=Nat
def tw16344824263699502523:=Nat
def tw16400900865636686975:=Nat
def tw16417175183584431544:=Nat
def tw1646319363006696260:=Nat
def tw16533152715559006338:=Nat
def tw16648091821306527841:=Nat
def tw1674821619636926764:=Nat
def tw16763063603224574677:=Nat
def tw16780078023149939580:=Nat
def tw16833811600168186964:=Nat
def tw16895371294005250739:=Nat
def tw16923465360242717603:=Nat
def tw16987841199440413655:=Nat
def tw17023592393983103873:=Nat
def tw1710058890117520845:=Nat
def tw17158926632730826786:=Nat
def tw172230469170174709:=Nat
def tw17238920723961993133:=Nat
def tw17263652948756500135:=Nat
def tw17308863843391281466:=Nat
def tw17342045883173750245:=Nat
def tw17347122521164841992:=Nat
def tw17350275083094861652:=Nat
def tw17366549732229495243:=Nat
def tw17385780601006171075:=Nat
def tw1739741699400257431:=Nat
def tw17428406090495859636:=Nat
def tw17430690387454161557:=Nat
def tw17492387554663351565:=Nat
def tw17494535715191787672:=Nat
def tw17502689355305601273:=Nat
def tw17534450666170120638:=Nat
def tw17558362796723423173:=Nat
def tw17571398705505201871:=Nat
def tw17576102332032232633:=Nat
def tw17648347609019742271:=Nat
def tw17740246228711707586:=Nat
def tw17852333386193444860:=Nat
def tw17854197084638395479:=Nat
def tw17918727601482473593:=Nat
def tw17982591821023742537:=Nat
def tw18010084925087243524:=Nat
def tw18012129080055536438:=Nat
def tw18036616901027731606:=Nat
def tw18042621015946604980:=Nat
def tw18061268809562247849:=Nat
def tw18115931861245362196:=Nat
def tw18154882186620511256:=Nat
def tw18170557491530343942:=Nat
def tw18214319615199512593:=Nat
def tw18315055478054986869:=Nat
def tw18318040712486780764:=Nat
def tw18346977631361967947:=Nat
def tw18424996055244256791:=Nat
def tw1903754479814675064:=Nat
def tw1909164563157307149:=Nat
def tw1919734953171811773:=Nat
def tw1931001850361118551:=Nat
def tw1945364601261015960:=Nat
def tw1975072411795530639:=Nat
def tw2070046302120549446:=Nat
def tw2098772570796407233:=Nat
def tw2099317012737961059:=Nat
def tw2127621946185788784:=Nat
def tw2147041332006866169:=Nat
def tw2238786240831131471:=Nat
def tw2269616850438011936:=Nat
def tw2318905708263500662:=Nat
def tw2385617671009040652:=Nat
def tw2555242829206007989:=Nat
def tw257957884245936325:=Nat
def tw2639175106278370005:=Nat
def tw2657812012082740373:=Nat
def tw2682150017460079932:=Nat
def tw272224092285351305:=Nat
def tw2791820320349952294:=Nat
def tw2848649468860255149:=Nat
def tw2914580530754979564:=Nat
def tw2949896736234183053:=Nat
def tw2963016320272203307:=Nat
def tw2988637094372329757:=Nat
def tw3015309121069487707:=Nat
def tw3047097051147405700:=Nat
def tw306700069803769629:=Nat
def tw3104668501347067460:=Nat
def tw3161327338760873316:=Nat
def tw3176646414030161903:=Nat
def tw3184485049493405361:=Nat
def tw3200755691841461075:=Nat
def tw3215697902384237321:=Nat
def tw3215940892598212628:=Nat
def tw3232469243485033281:=Nat
def tw323987176998024824:=Nat
def tw3277520625874372199:=Nat
def tw3298673432383199918:=Nat
def tw3332629260734780786:=Nat
def tw3334937156584197147:=Nat
def tw3348487342218692903:=Nat
def tw3360513486559326223:=Nat
def tw3376088359360465836:=Nat
def tw3394557562860812365:=Nat
def tw3415156304304679927:=Nat
def tw3447939985032321404:=Nat
def tw3534320254396386027:=Nat
def tw3552093304951448032:=Nat
def tw3563395333695515636:=Nat
def tw3581146543961430222:=Nat
def tw3689079181059340843:=Nat
def tw3762512867919106092:=Nat
def tw37750200946912607:=Nat
def tw382366355553861118:=Nat
def tw3894200378041068943:=Nat
def tw393556619232432868:=Nat
def tw3973460049704602033:=Nat
def tw3979978402955282023:=Nat
def tw398043687998344720:=Nat
def tw4064244871537571474:=Nat
def tw4080842939986550437:=Nat
def tw4106679197131472676:=Nat
def tw4155113340096948531:=Nat
def tw4164688741709835508:=Nat
def tw4169018539230515045:=Nat
def tw4175693412351846606:=Nat
def tw4178468415794776656:=Nat
def tw4251724965315059782:=Nat
def tw4272169285981934738:=Nat
def tw4272220750306982001:=Nat
def tw4286211653242041713:=Nat
def tw4319518976119444449:=Nat
def tw4333148522073264187:=Nat
def tw4345952311796786112:=Nat
def tw4350327292245472039:=Nat
def tw437090346893776097:=Nat
def tw4400478023994494172:=Nat
def tw44618517366677808:=Nat
def tw4476805297566175955:=Nat
def tw4479745908797192644:=Nat
def tw4603280401967038678:=Nat
def tw4676396940826374047:=Nat
def tw4761477671222987316:=Nat
def tw4785564953024210965:=Nat
def tw479909046823784582:=Nat
def tw4905044284508144845:=Nat
def tw491084256564706953:=Nat
def tw4913853045092609215:=Nat
def tw5134478730415363491:=Nat
def tw5210657843276668589:=Nat
def tw5323992462729312236:=Nat
def tw5356053883767773778:=Nat
def tw5374651604060876332:=Nat
def tw5405071959832882921:=Nat
def tw5506012157571083164:=Nat
def tw5511743150846676737:=Nat
def tw5539597766058240974:=Nat
def tw5583226587067112503:=Nat
def tw5632232976483745344:=Nat
def tw5664957717591954391:=Nat
def tw576142670822250389:=Nat
def tw5847715308354106543:=Nat
def tw5855201030911991827:=Nat
def tw5890941531680832185:=Nat
def tw5901218951311709343:=Nat
def tw5949658445080186761:=Nat
def tw598180362133547814:=Nat
def tw5994053551918594443:=Nat
def tw6050332253181234189:=Nat
def tw6080870361277168659:=Nat
def tw6157723083964066075:=Nat
def tw6188438340091473034:=Nat
def tw6220716147069402768:=Nat
def tw6231727786904839263:=Nat
def tw6235856888887796838:=Nat
def tw627238361524865910:=Nat
def tw6289242555350489785:=Nat
def tw6310657542636872622:=Nat
def tw6327099357553894635:=Nat
def tw6354249411045616058:=Nat
def tw6413578463120134513:=Nat
def tw6428106773999936545:=Nat
def tw6516104607396708423:=Nat
def tw6620882926503451856:=Nat
def tw6621905879583081077:=Nat
def tw6654082068301985172:=Nat
def tw667152509271974902:=Nat
def tw6714594118507870743:=Nat
def tw6723735551541630110:=Nat
def tw6790087563537001755:=Nat
def tw6806555527790265190:=Nat
def tw6864182745522622482:=Nat
def tw690320502355332567:=Nat
def tw6912185662953062263:=Nat
def tw6938947380744640608:=Nat
def tw6981090308107715090:=Nat
def tw7043389345436957306:=Nat
def tw7052103058961892855:=Nat
def tw7078791918205311717:=Nat
def tw7090257511426201702:=Nat
def tw7143904630436862596:=Nat
def tw7182901928697510484:=Nat
def tw723182867591338:=Nat
def tw7238555584651460904:=Nat
def tw7305503794051815947:=Nat
def tw7325995826273051599:=Nat
def tw7375014816769630331:=Nat
def tw738085985100612869:=Nat
def tw7561188935896867287:=Nat
def tw7575333634907859587:=Nat
def tw7638114521885909730:=Nat
def tw763873479486958421:=Nat
def tw7655597714362416290:=Nat
def tw7729605411955211177:=Nat
def tw7746448732770275092:=Nat
def tw7787969542404771652:=Nat
def tw7814927057045342394:=Nat
def tw7826974470750125957:=Nat
def tw7938201773113810242:=Nat
def tw8009464007045639055:=Nat
def tw8154141547242180850:=Nat
def tw8272567062485252600:=Nat
def tw8295270251803261852:=Nat
def tw8322788812072008153:=Nat
def tw8461483818166594031:=Nat
def tw8485883163637810467:=Nat
def tw8513088110695932935:=Nat
def tw8525279826839223528:=Nat
def tw8612328651902161491:=Nat
def tw8614416379019769311:=Nat
def tw8631047681950879970:=Nat
def tw871184031716003389:=Nat
def tw8769555032665933052:=Nat
def tw8797559663412984052:=Nat
def tw8798028408907509041:=Nat
def tw8801254842567021078:=Nat
def tw8874073051698417506:=Nat
def tw8894097896177187630:=Nat
def tw8916351432096472582:=Nat
def tw8921837405642514109:=Nat
def tw8981007451918969736:=Nat
def tw9003107180789662786:=Nat
def tw9012790783615389768:=Nat
def tw9019016957710037245:=Nat
def tw9035452971063023307:=Nat
def tw9106832721748982937:=Nat
def tw9132434479570272923:=Nat
def tw915608947330483949:=Nat
def tw9162256078410801531:=Nat
def tw9170085605078980736:=Nat
def tw9188995556460891506:=Nat
def tw9192873456782567547:=Nat
def tw9205944195420055868:=Nat
def tw9326835586494391141:=Nat
def tw9383991765363588287:=Nat
def tw9385686408377533551:=Nat
def tw9509501252601031167:=Nat
def tw9521447538471902378:=Nat
def tw9521830359808819176:=Nat
def tw9530870359160843922:=Nat
def tw9547001360318361037:=Nat
def tw9577476230261502627:=Nat
def tw9629984193091035301:=Nat
def tw9650318018770010738:=Nat
def tw9655985413193605596:=Nat
def tw9661557497249719906:=Nat
def tw9724354556771075531:=Nat
def tw9944652302901065328:=Nat
end PySem.W.Fast
namespace Vc
end Vc
open PySem PySem.W PyProof.Rows
set_option maxRecDepth 100000 in
set_option maxHeartbeats 0 in
theorem PySem.Challenge.cw_heapsafe_k19_whole_turns_holds : PySem.Challenge.rw_heapsafe_k19_whole_turns.Holds := by
 w_on; o_law; k_head; (case hw=>w_witness2)
 k_fill
 refine Vc.walk (l:=PySem.Challenge.rw_heapsafe_k19_whole_turns) rfl rfl (λw h Y=>PySem.W.kIn_of Y) ?F
 case F=>
  intro w mg fa h KX G Ze;refine' Vc.all_mk KX G Ze ?_ ?_ ?_ ?_ ?_ ?_ ?_ ?_ ?_ ?_ ?_ ?_ ?_ ?_ ?_ ?_ ?_ ?_ ?_ ?_ ?_ ?_ ?_ ?_ ?_ ?_ ?_ ?_ ?_ ?_ ?_ ?_ ?_ ?_ ?_ ?_ ?_ ?_ ?_ ?_ ?_ ?_ ?_ ?_ ?_ ?_ ?_ ?_ ?_ ?_ ?_ ?_ ?_ ?_ ?_ ?_ ?_ ?_ ?_ ?_ ?_ ?_ ?_ ?_ ?_ ?_ ?_ ?_ ?_ ?_ ?_ ?_ ?_ ?_ ?_ ?_ ?_ ?_ ?_ ?_ ?_ ?_ ?_ ?_ ?_ ?_ ?_ ?_ ?_ ?_ ?_ ?_ ?_ ?_ ?_ ?_ ?_ ?_ ?_ ?_ ?_ ?_ ?_ ?_ ?_ ?_ ?_ ?_ ?_ ?_ ?_ ?_ ?_ ?_ ?_ ?_ ?_ ?_ ?_ ?_ ?_ ?_ ?_ ?_ ?_ ?_ ?_ ?_ ?_ ?_ ?_ ?_ ?_ ?_ ?_ ?_ ?_ ?_ ?_ ?_ ?_ ?_ ?_ ?_ ?_ ?_ ?_ ?_ ?_ ?_ ?_ ?_ ?_ ?_ ?_ ?_ ?_ ?_ ?_ ?_ ?_ ?_ ?_ ?_ ?_ ?_ ?_ ?_ ?_ ?_ ?_ ?_ ?_ ?_ ?_ ?_ ?_ ?_ ?_ ?_ ?_ ?_ ?_ ?_ ?_ ?_ ?_ ?_ ?_ ?_ ?_ ?_ ?_ ?_ ?_ ?_ ?_ ?_ ?_ ?_ ?_ ?_ ?_ ?_ ?_ ?_ ?_ ?_ ?_ ?_ ?_ ?_ ?_ ?_ ?_ ?_ ?_
  all_goals try first | exact⟨by k_is,Vc.fnB (by k_is) (by k_is) (by k_is)⟩ | exact⟨by k_is,by k_is,Vc.fnB (by k_is) (by k_is) (by k_is)⟩ | k_is | decide
