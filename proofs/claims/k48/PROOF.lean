import PyProof.Rows.All
import Wide.All
import OpenK.AllK
import Wide.FinOn
import Lean
import PyProof.EqAt
import PyProof.EqKinds
import PyProof.TupleCall
import PySem.Challenge.RW_heapsafe_k48_whole_drained_behind_fences
set_option Elab.async false
set_option linter.all false
set_option maxRecDepth 100000
namespace L2
open PySem PySem.Spec PyProof.Rows
noncomputable abbrev Key:=Sum Int Str
noncomputable def nN:Key→Value→Bool
 | .inl k,v=>Value.isInt k v
 | .inr x,v=>Value.isStrOf x v
noncomputable def adT (w:World):Key→Int
 | .inl k=>hashInt k
 | .inr x=>hashStr w x
theorem bY:∀{k:Key}{v:Value},nN k v=true→(∃i t,k=Sum.inl i∧v=Value.int i t)∨(∃x t,k=Sum.inr x∧v=Value.str x t)
 | .inl i,v,h=>by
  obtain⟨t,e⟩:=Value.isInt_shape (k:=i) (v:=v) h
  exact .inl ⟨i,t,rfl,e⟩
 | .inr x,v,h=>by
  obtain⟨t,e⟩:=Value.isStrOf_shape (x:=x) (v:=v) h
  exact .inr ⟨x,t,rfl,e⟩
theorem CJ (i:Int) (t:Tok):nN (.inl i) (.int i t)=true:=by simp [nN,Value.isInt]
theorem CK (x:Str) (t:Tok):nN (.inr x) (.str x t)=true:=by simp [nN,Value.isStrOf]
theorem Sf (a b:Int):decide ((Sum.inl a:Key)=Sum.inl b)=(a == b):=by
 by_cases e:a=b
 ·subst e; simp
 ·have h:¬(Sum.inl a:Key)=Sum.inl b:=fun q=>e (Sum.inl.inj q)
  rw [decide_eq_false h]
  exact(beq_eq_false_iff_ne.mpr e).symm
theorem Sg (a b:Str):decide ((Sum.inr a:Key)=Sum.inr b)=decide (a=b):=by
 by_cases e:a=b
 ·subst e; simp
 ·have h:¬(Sum.inr a:Key)=Sum.inr b:=fun q=>e (Sum.inr.inj q)
  rw [decide_eq_false h,decide_eq_false e]
theorem Sh (a:Int) (b:Str):decide ((Sum.inl a:Key)=Sum.inr b)=false:=decide_eq_false (fun q=>nomatch q)
theorem Sj (a:Str) (b:Int):decide ((Sum.inr a:Key)=Sum.inl b)=false:=decide_eq_false (fun q=>nomatch q)
noncomputable def bx (prog:Program) (w:World):PySem.KeyKind prog w Key where
 is:=nN
 hash:=adT w
 inj:=fun v a b ha hb=>by
  rcases bY ha with ⟨i,t,rfl,rfl⟩ | ⟨x,t,rfl,rfl⟩
  ·rcases bY hb with ⟨j,u,rfl,e⟩ | ⟨y,u,rfl,e⟩
   ·injection e with e1 _; rw [e1]
   ·exact nomatch e
  ·rcases bY hb with ⟨j,u,rfl,e⟩ | ⟨y,u,rfl,e⟩
   ·exact nomatch e
   ·injection e with e1 _; rw [e1]
 byValue:=fun k v h=>by
  rcases bY h with ⟨i,t,rfl,rfl⟩ | ⟨x,t,rfl,rfl⟩ <;> rfl
 pyHash:=fun hv h=>by
  rcases bY hv with ⟨i,t,rfl,rfl⟩ | ⟨x,t,rfl,rfl⟩
  ·exact wpAny_pyHash_int h
  ·exact wpAny_pyHash_str h
 eqBool:=fun hu hv h=>by
  rcases bY hu with ⟨i,t,rfl,rfl⟩ | ⟨x,t,rfl,rfl⟩
  ·rcases bY hv with ⟨j,u,rfl,rfl⟩ | ⟨y,u,rfl,rfl⟩
   ·rw [Sf] at h; exact wpAny_eqBool_int h
   ·rw [Sh] at h; exact SeqAt.EqAt.int_str i t y u _ _ _ _ h
  ·rcases bY hv with ⟨j,u,rfl,rfl⟩ | ⟨y,u,rfl,rfl⟩
   ·rw [Sj] at h; exact SeqAt.EqAt.str_int x t j u _ _ _ _ h
   ·rw [Sg] at h; exact wpAny_eqBool_str h
 «strs»:=fun k x t v h=>by
  rcases bY h with ⟨i,u,rfl,e⟩ | ⟨y,u,rfl,e⟩
  ·exact nomatch e
  ·injection e with e1 _
   subst e1
   cases v <;> rfl
theorem u9 (prog:Program) (w:World) (i:Int) (t:Tok):(bx prog w).is (.inl i) (.int i t)=true:=CJ i t
theorem u_ (prog:Program) (w:World) (x:Str) (t:Tok):(bx prog w).is (.inr x) (.str x t)=true:=CK x t
end L2
namespace L2
open PySem PySem.Spec PyProof.Rows
inductive V where
 | aP | bl (b:Bool) | int (i:Int) | str (x:Str) | Ec (b:Array UInt8) | XH (b:UInt64) | ref (a:Addr) | ty (n:String)
 deriving DecidableEq
noncomputable def RelV:V→Value→Prop
 | .aP,u=>u=Value.none
 | .bl b,u=>u=Value.bool b
 | .int i,u=>∃t,u=Value.int i t
 | .str x,u=>∃t,u=Value.str x t
 | .Ec b,u=>∃t,u=Value.bytes b t
 | .XH b,u=>∃t,u=Value.float b t
 | .ref a,u=>u=Value.ref a
 | .ty n,u=>u=Value.type n
noncomputable abbrev Vals:List V→List Value→Prop:=Paired RelV
theorem Vals.length {xs:List V}{us:List Value}(r:Vals xs us):xs.length=us.length:=Paired.length r
theorem Vals.get:∀{xs:List V}{us:List Value}{i:Nat}{x:V},Vals xs us→xs[i]?=some x→∃u,us[i]?=some u∧RelV x u
 | _,_,_,_,.nil,e=>by simp at e
 | _,_,0,_,.cons r _,e=>by simp at e; subst e; exact⟨_,rfl,r⟩
 | _,_,i+1,x,.cons _ t,e=>by
  obtain⟨u,h1,h2⟩:=Vals.get (i:=i) (x:=x) t (by simpa using e)
  exact⟨u,by simpa using h1,h2⟩
theorem Vals.set {x:V}{u:Value}(r:RelV x u):∀{xs:List V}{us:List Value}(i:Nat),Vals xs us→Vals (xs.set i x) (us.set i u)
 | _,_,_,.nil=>.nil
 | _,_,0,.cons _ t=>.cons r t
 | _,_,i+1,.cons q t=>.cons q (Vals.set r i t)
theorem Vals.append:∀{xs ys:List V}{us ws:List Value},Vals xs us→Vals ys ws→Vals (xs++ys) (us++ws)
 | _,_,_,_,.nil,s=>s
 | _,_,_,_,.cons r t,s=>.cons r (Vals.append t s)
theorem Vals.take:∀{xs:List V}{us:List Value}(n:Nat),Vals xs us→Vals (xs.take n) (us.take n)
 | _,_,0,_=>.nil
 | _,_,_+1,.nil=>.nil
 | _,_,n+1,.cons r t=>.cons r (Vals.take n t)
theorem Vals.drop:∀{xs:List V}{us:List Value}(n:Nat),Vals xs us→Vals (xs.drop n) (us.drop n)
 | _,_,0,r=>r
 | _,_,_+1,.nil=>.nil
 | _,_,n+1,.cons _ t=>Vals.drop n t
noncomputable def fQ:Option V→Option Value→Prop
 | some v,some u=>RelV v u
 | none,none=>True
 | _,_=>False
noncomputable def KV {κ:Type}:List (κ×V)→List (κ×Value)→Prop:=Paired fun(p:κ×V) (q:κ×Value)=>p.1=q.1∧RelV p.2 q.2
noncomputable def kV:Key→V
 | .inl i=>.int i
 | .inr x=>.str x
inductive HO where
 
 | lst (xs:List V)
 
 | tup (xs:List V)
 
 | dK (kvs:List (Key×V)) | dT (kvs:List (List Key×V))
 
 | set (S:Int→Bool) (n:Nat)
 
 | ins (C dx:Addr) (fs:List (Str×V))
 
 | own (x:Addr)
 
 | xd (fs:List (Str×V))
 
 | met (f x:Addr)
 
 | rng (lo hi:Int)
 
 | d7 (o:Obj) (u:HO)
 
 | iW (ps:Array Value)
 
 | ext (φ:Heap→Prop)
noncomputable abbrev Hp:=Addr→Option HO
noncomputable def upd (H:Hp) (a:Addr) (o:HO):Hp:=fun b=>if b=a then some o else H b
theorem ae {H:Hp}{a:Addr}{o:HO}:upd H a o a=some o:=by unfold upd; rw [if_pos rfl]
theorem ah {H:Hp}{a b:Addr}{o:HO}(h:b≠a):upd H a o b=H b:=by unfold upd; rw [if_neg h]
theorem ny {H:Hp}{a:Addr}{o u:HO}:upd (upd H a o) a u=upd H a u:=by
 funext b; unfold upd; split <;> rfl
theorem cL {H:Hp}{a b:Addr}{o u:HO}(h:H a=some o) (h':H b=some u) (d:o≠u):a≠b:=by
 intro e; subst e; rw [h] at h'; exact d (Option.some.inj h')
theorem aq {H:Hp}{a b:Addr}{o:HO}(h:H a=some o) (h':H b=none):a≠b:=by
 intro e; subst e; rw [h] at h'; cases h'
section
variable (P:Program) (w:World)
noncomputable def cG (H:Hp) (h:Heap) (a:Addr):HO→Prop
 | .lst xs=>xs.length≤sizeLine∧∃(aO:List Value) (n:Nat),Vals xs aO∧h.get? a=some {cls:=.type "list",data:=.seq aO.toArray n}
 | .tup xs=>xs.length≤sizeLine∧∃aO:List Value,Vals xs aO∧IsTup h a aO.toArray
 | .dK kvs=>kvs.length≤sizeLine∧(a == sysModules)=false∧∃vs,KV kvs vs∧h.DictOf (bx P w) a vs
 | .dT kvs=>kvs.length≤sizeLine∧(a == sysModules)=false∧∃xs:List (List Key×Addr×Value),
   Paired (fun(p:List Key×V) (q:List Key×Addr×Value)=>p.1=q.1∧H q.2.1=some (.tup (p.1.map kV))∧RelV p.2 q.2.2) kvs xs ∧
   ∃o es ep,h.get? a=some o∧o.ExactDict∧o.data=.dict es ep∧es.toList=xs.map (entryOfKey (tupleKind (bx P w)))∧(xs.map (·.1)).Nodup
 | .set S n=>h.SetOf (intKind P w) a S n
 | .ins C dx fs=>H dx=some (.own a)∧fs.length≤1000∧dx≠a∧h.get? a=some (PySem.W.instObj C dx) ∧
   ∃mA,h.Ns1 dx mA∧(∀f,fQ (fs.lookup f) (mA f))∧PySem.Within mA (fs.map (·.1))
 | .own _=>∃o,h.get? a=some o
 | .xd fs=>∃mA,h.Ns1 a mA∧∀f,fQ (fs.lookup f) (mA f)
 | .rng lo hi=>∃t u v,h.get? a=some {cls:=.type "range",data:=.fields #[.int lo t,.int hi u,.int 1 v]}
 | .d7 o u=>h.get? a=some o∧cG H h a u
 | .iW ps=>h.get? a=some {cls:=.none,data:=.fields ps}
 | .met f x=>h.get? a=some (PySem.W.methodObj (.ref f) (.ref x))
 | .ext φ=>φ h∧(∃o,h.get? a=some o)∧∀h1 h2:Heap,φ h1→(∀o,h1.get? a=some o→h2.get? a=some o)→φ h2
noncomputable def js (H:Hp) (h:Heap):Prop:=∀a o,H a=some o→cG P w H h a o
end
section
variable {P:Program}{w:World}{H H':Hp}{h h':Heap}{a:Addr}{o:HO}
theorem cG.lt (x:cG P w H h a o):a < h.objs.size:=by
 cases o with
 | lst xs=>obtain⟨_,_,_,_,e⟩:=x; exact Heap.lt_size e
 | tup xs=>obtain⟨_,_,_,p⟩:=x; exact p.lt
 | dK kvs=>obtain⟨_,_,_,_,o,_,_,e,_⟩:=x; exact Heap.lt_size e
 | dT kvs=>obtain⟨_,_,_,_,o,_,_,e,_⟩:=x; exact Heap.lt_size e
 | set S n=>obtain⟨o,_,_,_,e,_⟩:=x; exact Heap.lt_size e
 | ins C dx fs=>obtain⟨_,_,_,e,_⟩:=x; exact Heap.lt_size e
 | own y=>obtain⟨_,e⟩:=x; exact Heap.lt_size e
 | xd fs=>obtain⟨_,⟨_,_,_,e,_⟩,_⟩:=x; exact Heap.lt_size e
 | rng lo hi=>obtain⟨_,_,_,e⟩:=x; exact Heap.lt_size e
 | d7 ob u=>obtain⟨e,_⟩:=x; exact Heap.lt_size e
 | iW ps=>exact Heap.lt_size (show h.get? a=some _ from x)
 | met f y=>exact Heap.lt_size (show h.get? a=some _ from x)
 | ext φ=>obtain⟨_,⟨_,e⟩,_⟩:=x; exact Heap.lt_size e
theorem Paired.Sk {α β:Type}{F G:α→β→Prop}:∀{l₁:List α}{l₂:List β},Paired F l₁ l₂→(∀a b,F a b→G a b)→Paired G l₁ l₂
 | _,_,.nil,_=>.nil
 | _,_,.cons r t,f=>.cons (f _ _ r) (Paired.Sk t f)
theorem cG.jU (x:cG P w H h a o) (k:∀b u,(b=a∨H b=some (.own a))→h.get? b=some u→h'.get? b=some u)
  (ho:∀b,H b=some (.own a)→H' b=some (.own a)) (ht:∀b xs,H b=some (.tup xs)→H' b=some (.tup xs)):cG P w H' h' a o:=by
 induction o with
 | lst xs=>obtain⟨z,aO,n,r,e⟩:=x; exact⟨z,aO,n,r,k _ _ (.inl rfl) e⟩
 | tup xs=>obtain⟨z,aO,r,ob,e,c⟩:=x; exact⟨z,aO,r,ob,k _ _ (.inl rfl) e,c⟩
 | dK kvs=>obtain⟨z,y,vs,r,ob,es,ep,e,c⟩:=x; exact⟨z,y,vs,r,ob,es,ep,k _ _ (.inl rfl) e,c⟩
 | dT kvs=>
  obtain⟨z,y,xs,r,ob,es,ep,e,c⟩:=x
  exact⟨z,y,xs,Paired.Sk r fun p q z=>⟨z.1,ht _ _ z.2.1,z.2.2⟩,ob,es,ep,k _ _ (.inl rfl) e,c⟩
 | set S n=>obtain⟨ob,es,ep,t,e,c⟩:=x; exact⟨ob,es,ep,t,k _ _ (.inl rfl) e,c⟩
 | ins C dx fs=>
  obtain⟨d,z,ne,e,mA,⟨od,es,ep,e2,c⟩,r⟩:=x
  exact⟨ho _ d,z,ne,k _ _ (.inl rfl) e,mA,⟨od,es,ep,k _ _ (.inr d) e2,c⟩,r⟩
 | own y=>obtain⟨ob,e⟩:=x; exact⟨ob,k _ _ (.inl rfl) e⟩
 | xd fs=>obtain⟨mA,⟨od,es,ep,e,c⟩,r⟩:=x; exact⟨mA,⟨od,es,ep,k _ _ (.inl rfl) e,c⟩,r⟩
 | rng lo hi=>obtain⟨t,u,v,e⟩:=x; exact⟨t,u,v,k _ _ (.inl rfl) e⟩
 | d7 ob u ih=>obtain⟨e,q⟩:=x; exact⟨k _ _ (.inl rfl) e,ih q⟩
 | iW ps=>
  have e:h.get? a=some {cls:=.none,data:=.fields ps}:=x
  show h'.get? a=some {cls:=.none,data:=.fields ps}
  exact k a _ (.inl rfl) e
 | met f y=>
  have e:h.get? a=some (PySem.W.methodObj (.ref f) (.ref y)):=x
  show h'.get? a=some (PySem.W.methodObj (.ref f) (.ref y))
  exact k a _ (.inl rfl) e
 | ext φ=>obtain⟨p,⟨o,e⟩,st⟩:=x; exact⟨st _ _ p fun o q=>k _ _ (.inl rfl) q,⟨o,k _ _ (.inl rfl) e⟩,st⟩
theorem js.lt (x:js P w H h) (e:H a=some o):a < h.objs.size:=(x a o e).lt
theorem js.fresh (x:js P w H h) (e:h.objs.size≤a):H a=none:=by
 cases q:H a with
 | none=>rfl
 | some u=>exact absurd (Nat.lt_of_lt_of_le (x.lt q) e) (Nat.lt_irrefl _)
theorem js.kept (x:js P w H h) (k:∀b u,h.get? b=some u→h'.get? b=some u):js P w H h':=fun a o e=>
 (x a o e).jU (fun b u _ q=>k b u q) (fun _ q=>q) fun _ _ q=>q
theorem js.laid (x:js P w H h) (k:∀b u,h.get? b=some u→h'.get? b=some u) (hp:h.objs.size≤a) (new:cG P w (upd H a o) h' a o):js P w (upd H a o) h':=fun b u e=>by
 have hn:=x.fresh hp
 by_cases hb:b=a
 ·subst hb; rw [ae] at e; cases e; exact new
 ·rw [ah hb] at e
  exact(x b u e).jU (fun c v _ q=>k c v q) (fun c q=>by rw [ah (aq q hn)]; exact q) fun c xs q=>by rw [ah (aq q hn)]; exact q
end
noncomputable def Rd (H:Hp) (a:Addr) (u:HO):Prop:=H a=some u∨∃o,H a=some (.d7 o u)
theorem Rd.ok {P:Program}{w:World}{H:Hp}{h:Heap}{a:Addr}{u:HO}(r:Rd H a u) (x:js P w H h):cG P w H h a u:=by
 rcases r with r | ⟨o,r⟩
 ·exact x a u r
 ·obtain⟨_,q⟩:=x a _ r
  exact q
noncomputable def X9:Option HO→Prop
 | some (.lst _)=>True
 | some (.dK _)=>True
 | some (.dT _)=>True
 | some (.set _ _)=>True
 | some (.ins _ _ _)=>True
 | some (.ext _)=>True
 | _=>False
section
variable {P:Program}{w:World}{H:Hp}{h h':Heap}{x e:Addr}{o':HO}
theorem js.write (ok:js P w H h) (mu:X9 (H x)) (he:e=x∨H e=some (.own x)) (k:∀b u,b≠e→h.get? b=some u→h'.get? b=some u) (XI:∃u,h'.get? e=some u)
  (new:cG P w (upd H x o') h' x o'):js P w (upd H x o') h':=fun b u q=>by
 have gH:∀c y,H c=some (.own y)→c≠x:=fun c y r z=>by subst z; rw [r] at mu; exact mu
 have vc:∀c xs,H c=some (.tup xs)→c≠x:=fun c xs r z=>by subst z; rw [r] at mu; exact mu
 by_cases hb:b=x
 ·subst hb; rw [ae] at q; cases q; exact new
 ·rw [ah hb] at q
  by_cases Sl:b=e
  ·have q':H b=some (.own x):=by
    rcases he with z | z
    ·exact absurd (Sl.trans z) hb
    ·rw [Sl]; exact z
   rw [q] at q'; cases q'
   obtain⟨v,hv⟩:=XI
   exact⟨v,by rw [Sl]; exact hv⟩
  ·refine(ok b u q).jU (fun c v hc r=>k c v ?_ r) (fun c r=>by rw [ah (gH c b r)]; exact r) fun c xs r=>by rw [ah (vc c xs r)]; exact r
   rcases hc with rfl | hc
   ·exact Sl
   ·rintro rfl
    rcases he with z | z
    ·exact gH c b hc z
    ·rw [hc] at z; cases z; exact hb rfl
end
structure Un (fs ex:List Addr) (H H':Hp) (h h':Heap):Prop where
 keep:∀b o,h.get? b=some o→H b=none→b∉fs→b∉ex→h'.get? b=some o
 slot:∀b o,h.get? b=some o→H b=none→b∈fs→b∉ex→∃sl,h'.get? b=some {o with slots:=sl}
 free:∀b o,h.get? b=some o→H b=none→b∉ex→H' b=none
 there:∀b o,h.get? b=some o→b∉ex→∃o',h'.get? b=some o'
 qa:∀b xs,H b=some (.tup xs)→H' b=some (.tup xs)
 nO:∀b o u,H b=some (.d7 o u)→H' b=some (.d7 o u)
 nQ:∀b ps,H b=some (.iW ps)→∃more,H' b=some (.iW (ps++more))
section
variable {fs fs' ex ex':List Addr}{H H1 H2:Hp}{h h1 h2 h':Heap}{a x e:Addr}{o:HO}
theorem Un.any (u:Un fs ex H H1 h h1) {b:Addr}{ob:Obj}(q:h.get? b=some ob) (n:H b=none) (hx:b∉ex):∃sl,h1.get? b=some {ob with slots:=sl}:=by
 by_cases hb:b∈fs
 ·exact u.slot b ob q n hb hx
 ·exact⟨ob.slots,u.keep b ob q n hb hx⟩
theorem Un.kept (k:∀b u,h.get? b=some u→h'.get? b=some u):Un fs ex H H h h':=
 ⟨fun b ob q _ _ _=>k b ob q,fun b ob q _ _ _=>⟨ob.slots,k b ob q⟩,fun _ _ _ n _=>n,fun b ob q _=>⟨ob,k b ob q⟩,fun _ _ q=>q,fun _ _ _ q=>q,fun _ ps q=>⟨#[],by rw [q]; simp⟩⟩
theorem Un.refl:Un fs ex H H h h:=Un.kept fun _ _ q=>q
theorem Un.laid (k:∀b u,h.get? b=some u→h'.get? b=some u) (hp:h.objs.size≤a) (hn:H a=none):Un fs ex H (upd H a o) h h' where
 keep:=fun b u q _ _ _=>k b u q
 slot:=fun b u q _ _ _=>⟨u.slots,k b u q⟩
 free:=fun b u q n _=>by rw [ah (Nat.ne_of_lt (Nat.lt_of_lt_of_le (Heap.lt_size q) hp))]; exact n
 there:=fun b u q _=>⟨u,k b u q⟩
 qa:=fun b xs q=>by rw [ah (aq q hn)]; exact q
 nO:=fun b u xs q=>by rw [ah (aq q hn)]; exact q
 nQ:=fun b ps q=>⟨#[],by rw [ah (aq q hn),q]; simp⟩
theorem Un.write (mu:X9 (H x)) (he:e=x∨H e=some (.own x)) (k:∀b u,b≠e→h.get? b=some u→h'.get? b=some u) (XI:∃u,h'.get? e=some u):Un fs ex H (upd H x o) h h':=by
 have hx:∀b,H b=none→b≠x:=fun b n z=>by subst z; rw [n] at mu; exact mu
 have hb:∀b,H b=none→b≠e:=fun b n z=>by
  subst z
  rcases he with r | r
  ·exact hx b n r
  ·rw [n] at r; cases r
 have hm:∀b u,H b=some u→¬X9 (some u)→b≠x:=fun b u q nm z=>by subst z; rw [q] at mu; exact nm mu
 refine⟨fun b u q n _ _=>k b u (hb b n) q,fun b u q n _ _=>⟨u.slots,k b u (hb b n) q⟩,fun b u q n _=>by rw [ah (hx b n)]; exact n,fun b u q _=>?_,
  fun b xs q=>by rw [ah (hm b _ q fun z=>z)]; exact q,fun b u xs q=>by rw [ah (hm b _ q fun z=>z)]; exact q,fun b ps q=>⟨#[],by rw [ah (hm b _ q fun z=>z),q]; simp⟩⟩
 by_cases Sl:b=e
 ·subst Sl; exact XI
 ·exact⟨u,k b u Sl q⟩
end
noncomputable def trk (h:Heap) (H:Hp):List Addr:=(List.range h.objs.size).filter fun a=>(H a).isSome
noncomputable def qb (h:Heap) (H:Hp):Heap:=PySem.W.hideAll h (trk h H)
theorem CL (h:Heap) (H:Hp):(qb h H).objs.size=h.objs.size:=PySem.W.hideAll_size _ _
theorem Ep {h:Heap}{H:Hp}{b:Addr}{o:Obj}(e:h.get? b=some o) (n:H b=none):(qb h H).get? b=some o:=
 PySem.W.hideAll_get _ e fun hm=>by
  have q:(H b).isSome=true:=(List.mem_filter.mp hm).2
  rw [n] at q; simp at q
theorem Lc {h:Heap}{H:Hp}{b:Addr}{o:Obj}(e:(qb h H).get? b=some o):h.get? b=some o∧H b=none:=by
 have e':h.get? b=some o:=PySem.W.of_hideAll (trk h H) e
 refine⟨e',?_⟩
 cases q:H b with
 | none=>rfl
 | some x=>
  have hm:b∈trk h H:=List.mem_filter.mpr ⟨List.mem_range.mpr (Heap.lt_size e'),by simp [q]⟩
  have z:(qb h H).get? b=none:=PySem.W.hideAll_none (trk h H) hm
  rw [z] at e; cases e
noncomputable def Ld (g h:Heap) (L:Addr):List (Addr×Obj):=(List.range h.objs.size).filterMap fun a=>if a=L∨(g.get? a).isSome=true then none else(h.get? a).map fun o=>(a,o)
noncomputable def rest (g h:Heap) (L d:Addr):List (Addr×Obj):=(Ld g h L).filter fun p=>decide (p.1≠d)
end L2
namespace L2
open PySem PySem.Spec PyProof.Rows
structure Mod (K:PySem.W.Frag) (mg:Str→Option Value) (base:Heap):Prop where
 Sm:K.In base
 glob:base.Ns mainGlobals mg
 blt:∃mb,base.Ns builtinsNs mb∧∀x:Str,x≠"__name__"→mb x=bootBuiltins x
 nolimit:base.NoLimit
structure Cx where
 prog:Program
 w:World
 K:PySem.W.Frag
 mg:Str→Option Value
 base:Heap
 A:Around
 N:List Str
 s₀:Shared
 H₀:Hp
 env:Env
 outer:List Env
 stack:List Env
 ex:List Addr
 fn:Str→Bool
 calm:Bool
 pn:List (Addr×Obj)
 xe:Value→Shared→Prop
noncomputable def BV (l:List Env):List Addr:=l.filterMap (·.frame)
noncomputable abbrev Cx.fs (X:Cx):List Addr:=BV X.outer
noncomputable def Vis (sc:Scope) (x:Str):Prop:=sc.names.lookup x=some .local∨sc.names.lookup x=some .cell∨sc.names.lookup x=some .free
noncomputable def Loc (sc:Scope) (x:Str):Prop:=sc.names.lookup x=some .local∨sc.names.lookup x=some .cell
noncomputable def Look (env:Env) (h:Heap) (m:Str→Option Value) (x:Str) (u:Value):Prop:=
 (env.kindOf x=some .local∧m x=some u)∨((env.kindOf x=some .cell∨env.kindOf x=some .free)∧∃c,env.cells.lookup x=some c∧h.IsCell c (some u))
structure Cx.Ok (X:Cx):Prop where
 mod:Mod X.K X.mg X.base
 kind:X.env.scope.kind=.function
 glob:X.env.globals=mainGlobals
 blt:X.env.builtins=builtinsNs
 above:X.s₀.heap.objs.size≤X.env.locals
 inj:∀x y c,X.env.cells.lookup x=some c→X.env.cells.lookup y=some c→x=y
 has:∀x,(X.env.kindOf x=some .cell∨X.env.kindOf x=some .free)→∃c,X.env.cells.lookup x=some c
 XJ:∀x c,X.fn x=true→X.env.cells.lookup x=some c→X.s₀.heap.objs.size≤c
 hd:X.calm=true→X.A.handled=none
 frames:X.A.frames=some X.stack
 X_:X.stack=X.outer∨(X.stack=X.env::X.outer∧X.env.frame=some X.env.locals)
 Ya:∀b∈X.ex,b≠X.env.locals∧∀x c,X.env.cells.lookup x=some c→c≠b
 bs:∀b o,X.base.get? b=some o→X.s₀.heap.get? b=some o∧X.H₀ b=none
 Er:X.base.objs.size≤X.s₀.heap.objs.size
 CM:∀b o,X.base.get? b=some o→b∉X.ex
 CN:∀b∈X.ex,b∉X.fs
 la:X.s₀.heap.FunFrames X.base X.outer
 Om:∀b∈X.fs,X.H₀ b=none
structure Inv (X:Cx) (pins:List (Addr×Obj)) (σ:List (Option V)) (H:Hp) (s:Shared):Prop where
 ok:X.Ok
 os:s.os=X.s₀.os
 bare:AllBare s.gens
 base:Un X.fs X.ex X.H₀ H X.s₀.heap s.heap
 loc:∃m,s.heap.Ns X.env.locals m∧∀(i:Nat) (x:Str) (v:V),X.N[i]?=some x→σ[i]?=some (some v)→Vis X.env.scope x→∃u,RelV v u∧Look X.env s.heap m x u
 cell:∀x c,X.env.cells.lookup x=some c→∃v,s.heap.IsCell c v
 free:H X.env.locals=none
 eN:∀x c,X.env.cells.lookup x=some c→H c=none
 pin:∀p∈X.pn++pins,s.heap.get? p.1=some p.2∧H p.1=none∧p.1≠X.env.locals∧p.1∉X.fs∧∀v,p.2.data≠.cell v
 bK:js X.prog X.w H s.heap
 len:σ.length=X.N.length
section
variable {X:Cx}{pins:List (Addr×Obj)}{σ:List (Option V)}{H H':Hp}{s:Shared}{h':Heap}
theorem Cx.Ok.adU (ok:X.Ok) {b:Addr}{o:Obj}(e:X.base.get? b=some o):b∉X.fs:=fun hb=>by
 have:=(ok.la.mem hb).1
 rw [e] at this; cases this
theorem Inv.bs (I:Inv X pins σ H s):∀b o,X.base.get? b=some o→s.heap.get? b=some o∧H b=none:=fun b o e=>
 ⟨I.base.keep b o (I.ok.bs b o e).1 (I.ok.bs b o e).2 (I.ok.adU e) (I.ok.CM b o e),I.base.free b o (I.ok.bs b o e).1 (I.ok.bs b o e).2 (I.ok.CM b o e)⟩
theorem Inv.bk (I:Inv X pins σ H s):∀b o,X.base.get? b=some o→s.heap.get? b=some o:=fun b o e=>(I.bs b o e).1
theorem Inv.mod (I:Inv X pins σ H s):Mod X.K X.mg X.base:=I.ok.mod
theorem Inv.qV (I:Inv X pins σ H s):X.K.In s.heap:=I.ok.mod.Sm.keeps I.bk
theorem Inv.nolimit (I:Inv X pins σ H s):s.heap.NoLimit:=I.ok.mod.nolimit.keeps I.bk
theorem Inv.lt (I:Inv X pins σ H s):X.env.locals < s.heap.objs.size:=let ⟨_,hn,_⟩:=I.loc; hn.lt
theorem Inv.sz (I:Inv X pins σ H s):X.s₀.heap.objs.size≤s.heap.objs.size:=Nat.le_trans I.ok.above (Nat.le_of_lt I.lt)
theorem Inv.Sn (I:Inv X pins σ H s) {a:Addr}(h:s.heap.objs.size≤a):a∉X.fs:=fun hb=>by
 obtain⟨_,o,ho,_⟩:=I.ok.la.mem hb
 exact absurd (Nat.lt_of_lt_of_le (Heap.lt_size ho) (Nat.le_trans I.sz h)) (Nat.lt_irrefl _)
theorem Inv.So (I:Inv X pins σ H s):∀x c,X.env.cells.lookup x=some c→c≠X.env.locals:=fun x c e z=>by
 obtain⟨v,o,ho,hd⟩:=I.cell x c e
 obtain⟨m,⟨o',es,ep,Lf,XM,_⟩,_⟩:=I.loc
 rw [z,Lf] at ho; cases ho; rw [XM] at hd; cases hd
theorem Inv.la (I:Inv X pins σ H s):s.heap.FunFrames X.base X.outer:=by
 have all:∀(l:List Env),(∀b∈BV l,b∈X.fs)→X.s₀.heap.FunFrames X.base l→s.heap.FunFrames X.base l:=by
  intro l
  induction l with
  | nil=>intro _ _; trivial
  | cons env r ih=>
   intro hs hl
   obtain⟨hk,⟨L,o,hf,hn,ho,hd⟩,hr⟩:=hl
   have hL:L∈X.fs:=hs L (by unfold BV; rw [List.filterMap_cons,hf]; exact List.mem_cons_self)
   obtain⟨sl,e⟩:=I.base.slot L o ho (I.ok.Om L hL) hL fun z=>I.ok.CN L z hL
   exact⟨hk,⟨L,_,hf,hn,e,hd⟩,ih (fun b hb=>hs b (by unfold BV; rw [List.filterMap_cons,hf]; exact List.mem_cons_of_mem _ hb)) hr⟩
 exact all X.outer (fun _ hb=>hb) I.ok.la
theorem Inv.stack (I:Inv X pins σ H s):s.heap.FunFrames X.base X.stack:=by
 rcases I.ok.X_ with e | ⟨e,hf⟩
 ·rw [e]; exact I.la
 ·rw [e]
  obtain⟨m,hn,_⟩:=I.loc
  refine .cons (by rw [I.ok.kind]; decide) hf hn ?_ I.la
  exact Heap.get?_none_of_le (Nat.le_trans I.ok.Er I.ok.above)
theorem Inv.zU (I:Inv X pins σ H s):∀b∈BV X.stack,b∈X.env.locals::X.fs:=fun b hb=>by
 rcases I.ok.X_ with e | ⟨e,hf⟩
 ·rw [e] at hb; exact List.mem_cons_of_mem _ hb
 ·rw [e] at hb
  unfold BV at hb
  rw [List.filterMap_cons,hf] at hb
  exact hb
theorem Inv.tj (I:Inv X pins σ H s):∀b∈BV X.stack,H b=none:=fun b hb=>by
 rcases List.mem_cons.mp (I.zU b hb)with e | hb
 ·rw [e]; exact I.free
 ·obtain⟨_,o,ho,_⟩:=I.ok.la.mem hb
  exact I.base.free b o ho (I.ok.Om b hb) fun z=>I.ok.CN b z hb
theorem Inv.step {g':Array GenState}{t':Nat}{d':Drawn}{ch:List Addr}(I:Inv X pins σ H s)
  (KR:∀b∈ch,(b∈X.ex∨X.s₀.heap.objs.size≤b)∧b≠X.env.locals∧(∀x c,X.env.cells.lookup x=some c→c≠b)∧∀p∈X.pn++pins,p.1≠b)
  (keep:∀b o,b≠X.env.locals→b∉X.fs→b∉ch→s.heap.get? b=some o→H b=none→h'.get? b=some o)
  (slot:∀b o,b≠X.env.locals→b∈X.fs→b∉ch→s.heap.get? b=some o→H b=none→∃sl,h'.get? b=some {o with slots:=sl}) (free:∀b o,b∉ch→s.heap.get? b=some o→H b=none→H' b=none)
  (there:∀b o,b∉ch→s.heap.get? b=some o→∃o',h'.get? b=some o')
  (qa:∀b xs,H b=some (.tup xs)→H' b=some (.tup xs)) (nO:∀b o u,H b=some (.d7 o u)→H' b=some (.d7 o u)) (nQ:∀b ps,H b=some (.iW ps)→∃more,H' b=some (.iW (ps++more)))
  (ns:∀m,s.heap.Ns X.env.locals m→h'.Ns X.env.locals m) (bK:js X.prog X.w H' h') (hg:AllBare g') :
  Inv X pins σ H' {s with heap:=h',gens:=g',drawn:=d',toks:=t'}:=by
 have neL:∀b o,X.s₀.heap.get? b=some o→b≠X.env.locals:=fun b o e=>Nat.ne_of_lt (Nat.lt_of_lt_of_le (Heap.lt_size e) I.ok.above)
 have neC:∀b o,X.s₀.heap.get? b=some o→b∉X.ex→b∉ch:=fun b o e hx hb=>by
  rcases (KR b hb).1 with z | z
  ·exact hx z
  ·exact absurd (Nat.lt_of_lt_of_le (Heap.lt_size e) z) (Nat.lt_irrefl _)
 have cellK:∀x c,X.env.cells.lookup x=some c→∀v,s.heap.IsCell c v→h'.IsCell c v:=fun x c e v ⟨o,ho,hd⟩=>by
  have Ed:c∉ch:=fun z=>(KR c z).2.2.1 x c e rfl
  by_cases hc:c∈X.fs
  ·obtain⟨sl,q⟩:=slot c o (I.So x c e) hc Ed ho (I.eN x c e)
   exact⟨_,q,hd⟩
  ·exact⟨o,keep c o (I.So x c e) hc Ed ho (I.eN x c e),hd⟩
 refine⟨I.ok,I.os,hg,⟨fun b o e n hb hx=>?_,fun b o e n hb hx=>?_,fun b o e n hx=>?_,fun b o e hx=>?_,fun b xs e=>qa b xs (I.base.qa b xs e),fun b o xs e=>nO b o xs (I.base.nO b o xs e),fun b ps e=>?_⟩,?_,fun x c e=>?_,?_,fun x c e=>?_,fun p hp=>?_,bK,I.len⟩
 ·exact keep b o (neL b o e) hb (neC b o e hx) (I.base.keep b o e n hb hx) (I.base.free b o e n hx)
 ·obtain⟨sl,e1⟩:=I.base.slot b o e n hb hx
  obtain⟨sl',e2⟩:=slot b _ (neL b o e) hb (neC b o e hx) e1 (I.base.free b o e n hx)
  exact⟨sl',e2⟩
 ·obtain⟨o',e1⟩:=I.base.there b o e hx
  exact free b o' (neC b o e hx) e1 (I.base.free b o e n hx)
 ·obtain⟨o',e1⟩:=I.base.there b o e hx
  exact there b o' (neC b o e hx) e1
 ·obtain⟨m1,e1⟩:=I.base.nQ b ps e
  obtain⟨m2,e2⟩:=nQ b _ e1
  exact⟨m1++m2,by rw [e2,Array.append_assoc]⟩
 ·obtain⟨m,hn,hl⟩:=I.loc
  refine⟨m,ns m hn,fun i x v e1 e2 e3=>?_⟩
  obtain⟨u,r,l⟩:=hl i x v e1 e2 e3
  refine⟨u,r,?_⟩
  rcases l with l | ⟨k,c,e,z⟩
  ·exact .inl l
  ·exact .inr ⟨k,c,e,cellK x c e _ z⟩
 ·obtain⟨v,z⟩:=I.cell x c e
  exact⟨v,cellK x c e v z⟩
 ·obtain⟨m,⟨o,_,_,ho,_⟩,_⟩:=I.loc
  exact free _ o (fun z=>(KR _ z).2.1 rfl) ho I.free
 ·obtain⟨v,o,ho,hd⟩:=I.cell x c e
  exact free c o (fun z=>(KR c z).2.2.1 x c e rfl) ho (I.eN x c e)
 ·obtain⟨e,n,ne,nf,d⟩:=I.pin p hp
  have Ed:p.1∉ch:=fun z=>(KR p.1 z).2.2.2 p hp rfl
  exact⟨keep p.1 p.2 ne nf Ed e n,free p.1 p.2 Ed e n,ne,nf,d⟩
theorem Inv.un {t':Nat}(I:Inv X pins σ H s) (u:Un X.fs [] H H' s.heap h') (bK:js X.prog X.w H' h'):Inv X pins σ H' {s with heap:=h',toks:=t'}:=by
 obtain⟨m,⟨o,es,ep,ho,r⟩,_⟩:=id I.loc
 obtain⟨sl,hL⟩:=u.any ho I.free (by simp)
 exact I.step (g':=s.gens) (d':=s.drawn) (ch:=[]) (fun _ z=>nomatch z) (fun b o _ hb _ e n=>u.keep b o e n hb (by simp)) (fun b o _ hb _ e n=>u.slot b o e n hb (by simp)) (fun b o _ e n=>u.free b o e n (by simp)) (fun b o _ e=>u.there b o e (by simp)) u.qa u.nO u.nQ (fun m' hm=>by
  obtain⟨o',Ee,XN,Lf,r'⟩:=hm
  rw [ho] at Lf; cases Lf
  exact⟨_,Ee,XN,hL,r'⟩) bK I.bare
theorem Inv.call {g':Array GenState}{t':Nat}{d':Drawn}{ch:List Addr}(I:Inv X pins σ H s) (u:Un (BV X.stack) ch H H' s.heap h') (bK:js X.prog X.w H' h') (hg:AllBare g')
  (KR:∀b∈ch,(b∈X.ex∨X.s₀.heap.objs.size≤b)∧b≠X.env.locals∧(∀x c,X.env.cells.lookup x=some c→c≠b)∧∀p∈X.pn++pins,p.1≠b) :
  Inv X pins σ H' {s with heap:=h',gens:=g',drawn:=d',toks:=t'}:=by
 obtain⟨m,⟨o,es,ep,ho,r⟩,_⟩:=id I.loc
 obtain⟨sl,hL⟩:=u.any ho I.free fun z=>(KR _ z).2.1 rfl
 exact I.step (ch:=ch) KR (fun b o hL hb hc e n=>u.keep b o e n (fun z=>(List.mem_cons.mp (I.zU b z)).elim hL hb) hc) (fun b o _ _ hc e n=>u.any e n hc) (fun b o hc e n=>u.free b o e n hc) (fun b o hc e=>u.there b o e hc) u.qa u.nO u.nQ (fun m' hm=>by
  obtain⟨o',Ee,XN,Lf,r'⟩:=hm
  rw [ho] at Lf; cases Lf
  exact⟨_,Ee,XN,hL,r'⟩) bK hg
theorem Inv.turned {t':Nat}{it:Addr}(I:Inv X pins σ H s) (k:∀b o,b≠it→s.heap.get? b=some o→h'.get? b=some o) (hn:H it=none) (hL:it≠X.env.locals)
  (h1:it∈X.ex∨X.s₀.heap.objs.size≤it) (h2:∀x c,X.env.cells.lookup x=some c→c≠it) (h3:∀p∈X.pn++pins,p.1≠it):Inv X pins σ H {s with heap:=h',toks:=t'}:=by
 have nit:∀b u,H b=some u→b≠it:=fun b u e z=>by rw [z,hn] at e; cases e
 refine I.step (g':=s.gens) (d':=s.drawn) (ch:=[it]) (fun b hb=>?_) (fun b o _ _ hc e _=>k b o (fun z=>hc (by simp [z])) e) (fun b o _ _ hc e _=>⟨o.slots,k b o (fun z=>hc (by simp [z])) e⟩) (fun _ _ _ _ n=>n)
  (fun b o hc e=>⟨o,k b o (fun z=>hc (by simp [z])) e⟩) (fun _ _ e=>e) (fun _ _ _ e=>e) (fun b ps e=>⟨#[],by rw [e]; simp⟩) (fun m hm=>?_) (fun b u e=>?_) I.bare
 ·have e:b=it:=by simpa using hb
  subst e
  exact⟨h1,hL,h2,h3⟩
 ·obtain⟨o,es,ep,ho,r⟩:=hm
  exact⟨o,es,ep,k _ o (Ne.symm hL) ho,r⟩
 ·refine(I.bK b u e).jU (fun c v hc q=>k c v ?_ q) (fun _ q=>q) fun _ _ q=>q
  rcases hc with z | z
  ·rw [z]; exact nit b u e
  ·exact nit c _ z
theorem Inv.tok (I:Inv X pins σ H s) (t:Nat):Inv X pins σ H {s with toks:=t}:=I.un (h':=s.heap) (t':=t) Un.refl I.bK
theorem Inv.kept {t':Nat}(I:Inv X pins σ H s) (k:∀b u,s.heap.get? b=some u→h'.get? b=some u):Inv X pins σ H {s with heap:=h',toks:=t'}:=I.un (Un.kept k) (I.bK.kept k)
theorem Inv.laid {a:Addr}{o:HO}{t':Nat}(I:Inv X pins σ H s) (k:∀b u,s.heap.get? b=some u→h'.get? b=some u) (hp:s.heap.objs.size≤a) (new:cG X.prog X.w (upd H a o) h' a o) :
  Inv X pins σ (upd H a o) {s with heap:=h',toks:=t'}:=I.un (Un.laid k hp (I.bK.fresh hp)) (I.bK.laid k hp new)
theorem Inv.write {x e:Addr}{o:HO}{t':Nat}(I:Inv X pins σ H s) (mu:X9 (H x)) (he:e=x∨H e=some (.own x)) (k:∀b u,b≠e→s.heap.get? b=some u→h'.get? b=some u) (XI:∃u,h'.get? e=some u)
  (new:cG X.prog X.w (upd H x o) h' x o):Inv X pins σ (upd H x o) {s with heap:=h',toks:=t'}:=I.un (Un.write mu he k XI) (I.bK.write mu he k XI new)
theorem Inv.f_ {qW:List (Addr×Obj)}(I:Inv X pins σ H s) (h:∀p∈qW,s.heap.get? p.1=some p.2∧H p.1=none∧p.1≠X.env.locals∧p.1∉X.fs∧∀v,p.2.data≠.cell v):Inv X qW σ H s:=
 ⟨I.ok,I.os,I.bare,I.base,I.loc,I.cell,I.free,I.eN,fun p hp=>(List.mem_append.mp hp).elim (fun z=>I.pin p (List.mem_append_left _ z)) (h p),I.bK,I.len⟩
theorem vd {N:List Str}(hN:N.Nodup) {i j:Nat}{x:Str}(a:N[i]?=some x) (b:N[j]?=some x):i=j:=by
 obtain⟨h1,e1⟩:=List.getElem?_eq_some_iff.mp a
 obtain⟨h2,e2⟩:=List.getElem?_eq_some_iff.mp b
 exact(List.getElem_inj hN).mp (e1.trans e2.symm)
theorem CO {M:Model}{A:Around}{E:Value→Shared→Prop}{i:Nat}{x:Str}{v:V}{u:Value}{Q:Unit→Shared→Prop}(I:Inv X pins σ H s) (hN:X.N.Nodup) (hi:X.N[i]?=some x) (hx:Loc X.env.scope x) (r:RelV v u)
  (h:∀s',Inv X pins (σ.set i (some v)) H s'→(∃a,Heap.SameBut a s.heap s'.heap∧(a=X.env.locals∨X.env.cells.lookup x=some a))→Q () s') (hf:X.fn x=true∨X.env.scope.names.lookup x=some .local:=by first | exact .inl rfl | exact .inr rfl | assumption):wpAny M A (storeName X.env x u) Q E s:=by
 obtain⟨m,hn,hl⟩:=id I.loc
 have Es:(X.env.scope.kind == .class || (X.env.scope.kind == .module&&X.env.locals != X.env.globals))=false:=by rw [I.ok.kind]; rfl
 have Yb:i < σ.length:=by rw [I.len]; exact(List.getElem?_eq_some_iff.mp hi).1
 have So:=I.So
 have tracked:∀{a:Addr}{h':Heap},(∃o,s.heap.get? a=some o∧H a=none)→Heap.SameBut a s.heap h'→js X.prog X.w H h':=fun {a h'} ha hs b ob e=>by
  obtain⟨_,_,Oo⟩:=ha
  refine(I.bK b ob e).jU (fun c w' hc q=>(hs.2 c ?_).trans q) (fun _ q=>q) fun _ _ q=>q
  rintro rfl
  rcases hc with rfl | hc
  ·rw [Oo] at e; cases e
  ·rw [Oo] at hc; cases hc
 rcases hx with hk | hk
 ·refine wpAny_storeName_local hk hn (fun h' hn' hs=>?_) Es
  obtain⟨oL,_,_,Et,_⟩:=id hn
  refine h _ ⟨I.ok,I.os,I.bare,⟨fun b o e n hb hx=>?_,fun b o e n hb hx=>?_,I.base.free,fun b o e hx=>?_,I.base.qa,I.base.nO,I.base.nQ⟩,⟨_,hn',fun j y v' e1 e2 e3=>?_⟩,fun y c e=>?_,I.free,I.eN,fun p hp=>?_,tracked ⟨oL,Et,I.free⟩ hs,by simpa using I.len⟩ ⟨_,hs,.inl rfl⟩
  ·exact(hs.2 b (Nat.ne_of_lt (Nat.lt_of_lt_of_le (Heap.lt_size e) I.ok.above))).trans (I.base.keep b o e n hb hx)
  ·obtain⟨sl,e1⟩:=I.base.slot b o e n hb hx
   exact⟨sl,(hs.2 b (Nat.ne_of_lt (Nat.lt_of_lt_of_le (Heap.lt_size e) I.ok.above))).trans e1⟩
  ·obtain⟨o',e1⟩:=I.base.there b o e hx
   exact⟨o',(hs.2 b (Nat.ne_of_lt (Nat.lt_of_lt_of_le (Heap.lt_size e) I.ok.above))).trans e1⟩
  ·by_cases hj:j=i
   ·subst hj
    rw [hi] at e1; cases e1
    rw [List.getElem?_set_self Yb] at e2
    cases e2
    exact⟨u,r,.inl ⟨hk,by simp⟩⟩
   ·rw [List.getElem?_set_ne (Ne.symm hj)] at e2
    obtain⟨u',r',q⟩:=hl j y v' e1 e2 e3
    refine⟨u',r',?_⟩
    rcases q with ⟨k,e⟩ | ⟨k,c,e,z⟩
    ·refine .inl ⟨k,?_⟩
     have:y≠x:=fun e=>hj (vd hN e1 (e▸hi))
     simp [this,e]
    ·exact .inr ⟨k,c,e,z.sameBut hs (So y c e)⟩
  ·obtain⟨w',z⟩:=I.cell y c e
   exact⟨w',z.sameBut hs (So y c e)⟩
  ·obtain⟨e,n,ne,nf,d⟩:=I.pin p hp
   exact⟨(hs.2 p.1 ne).trans e,n,ne,nf,d⟩
 ·have KS:X.fn x=true:=by
   rcases hf with z | z
   ·exact z
   ·rw [z] at hk; cases hk
  obtain⟨c,hc⟩:=I.ok.has x (.inl hk)
  obtain⟨w',z⟩:=I.cell x c hc
  refine wpAny_storeName_cell I.ok.kind hk hc z (fun h' Sq hs=>?_)
  obtain⟨oc,hoc,adV⟩:=id z
  refine h {s with heap:=h'} ⟨I.ok,I.os,I.bare,⟨fun b o e n hb hx=>?_,fun b o e n hb hx=>?_,I.base.free,fun b o e hx=>?_,I.base.qa,I.base.nO,I.base.nQ⟩,⟨m,hn.sameBut hs (Ne.symm (So x c hc)),fun j y v' e1 e2 e3=>?_⟩,fun y c' e=>?_,I.free,I.eN,fun p hp=>?_,tracked ⟨oc,hoc,I.eN x c hc⟩ hs,by simpa using I.len⟩ ⟨c,hs,.inr hc⟩
  ·exact(hs.2 b (Nat.ne_of_lt (Nat.lt_of_lt_of_le (Heap.lt_size e) (I.ok.XJ x c KS hc)))).trans (I.base.keep b o e n hb hx)
  ·obtain⟨sl,e1⟩:=I.base.slot b o e n hb hx
   exact⟨sl,(hs.2 b (Nat.ne_of_lt (Nat.lt_of_lt_of_le (Heap.lt_size e) (I.ok.XJ x c KS hc)))).trans e1⟩
  ·obtain⟨o',e1⟩:=I.base.there b o e hx
   exact⟨o',(hs.2 b (Nat.ne_of_lt (Nat.lt_of_lt_of_le (Heap.lt_size e) (I.ok.XJ x c KS hc)))).trans e1⟩
  ·by_cases hj:j=i
   ·subst hj
    rw [hi] at e1; cases e1
    rw [List.getElem?_set_self Yb] at e2
    cases e2
    exact⟨u,r,.inr ⟨.inl hk,c,hc,Sq⟩⟩
   ·rw [List.getElem?_set_ne (Ne.symm hj)] at e2
    obtain⟨u',r',q⟩:=hl j y v' e1 e2 e3
    refine⟨u',r',?_⟩
    rcases q with q | ⟨k,c',e,z'⟩
    ·exact .inl q
    ·refine .inr ⟨k,c',e,z'.sameBut hs ?_⟩
     rintro rfl
     exact hj (vd hN e1 (I.ok.inj _ _ _ e hc▸hi))
  ·by_cases Oq:c'=c
   ·subst Oq; exact⟨_,Sq⟩
   ·obtain⟨w2,z2⟩:=I.cell y c' e
    exact⟨w2,z2.sameBut hs Oq⟩
  ·obtain⟨e,n,ne,nf,d⟩:=I.pin p hp
   refine⟨(hs.2 p.1 ?_).trans e,n,ne,nf,d⟩
   intro q
   rw [q,hoc] at e
   have q':oc=p.2:=Option.some.inj e
   exact d w' (by rw [←q']; exact adV)
theorem nR {M:Model}{A:Around}{E:Value→Shared→Prop}{i:Nat}{x:Str}{v:V}{u:Value}{Q:Unit→Shared→Prop}(I:Inv X pins σ H s) (hN:X.N.Nodup) (hi:X.N[i]?=some x) (hx:Loc X.env.scope x) (r:RelV v u)
  (h:∀s',Inv X pins (σ.set i (some v)) H s'→Q () s') (hf:X.fn x=true∨X.env.scope.names.lookup x=some .local:=by first | exact .inl rfl | exact .inr rfl | assumption):wpAny M A (storeName X.env x u) Q E s:=
 CO I hN hi hx r (fun s' I' _=>h s' I') hf
theorem Inv.Yc {s':Shared}{ch:List Addr}(I:Inv X pins σ H s) (ho:s'.os=s.os) (u:Un (BV X.stack) ch H H' s.heap s'.heap) (bK:js X.prog X.w H' s'.heap) (hg:AllBare s'.gens)
  (KR:∀b∈ch,(b∈X.ex∨X.s₀.heap.objs.size≤b)∧b≠X.env.locals∧(∀x c,X.env.cells.lookup x=some c→c≠b)∧∀p∈X.pn++pins,p.1≠b):Inv X pins σ H' s':=by
 obtain⟨h',g',d',t',o'⟩:=s'
 have e:o'=s.os:=ho
 subst e
 exact I.call (g':=g') (t':=t') (d':=d') u bK hg KR
end
noncomputable abbrev XK:=Value→Option Addr→Hp→Prop
noncomputable abbrev St:=List (Option V)
noncomputable abbrev VK:=V→Hp→Prop
noncomputable abbrev TE:=St→Hp→VK→Prop
noncomputable abbrev TT:=St→Hp→(Bool→Hp→Prop)→Prop
noncomputable abbrev TA:=St→Hp→(List V→Hp→Prop)→Prop
structure Ends where
 nx:St→Hp→Prop
 rt:VK
 bk:St→Hp→Prop:=fun _ _=>False
 ct:St→Hp→Prop:=fun _ _=>False
noncomputable abbrev TS:=Ends→St→Hp→Prop
noncomputable def EP (X:Cx) (pins:List (Addr×Obj)) (σ:St) (Q:VK) (u:Value) (s':Shared):Prop:=∃v H',Inv X pins σ H' s'∧RelV v u∧Q v H'
noncomputable def TP (X:Cx) (pins:List (Addr×Obj)) (σ:St) (Q:Bool→Hp→Prop) (b:Bool) (s':Shared):Prop:=∃H',Inv X pins σ H' s'∧Q b H'
noncomputable def AP (X:Cx) (pins:List (Addr×Obj)) (σ:St) (Q:List V→Hp→Prop) (us:List Value) (s':Shared):Prop:=∃vs H',Inv X pins σ H' s'∧Vals vs us∧Q vs H'
noncomputable def SP (X:Cx) (pins:List (Addr×Obj)) (D:Ends) (f:Flow) (s':Shared):Prop:=
 match f with
 | .next=>∃σ' H',Inv X pins σ' H' s'∧D.nx σ' H'
 | .brk=>∃σ' H',Inv X pins σ' H' s'∧D.bk σ' H'
 | .cont=>∃σ' H',Inv X pins σ' H' s'∧D.ct σ' H'
 | .ret u=>∃v σ' H',Inv X pins σ' H' s'∧RelV v u∧D.rt v H'
noncomputable def PE (X:Cx) (e:Expr) (t:TE):Prop:=
 ∀(pins:List (Addr×Obj)) (s:Shared) (σ:St) (H:Hp) (Q:VK),Inv X pins σ H s→t σ H Q→wpAny (model X.prog X.w) X.A (eval e X.env) (EP X pins σ Q) X.xe s
noncomputable def PT (X:Cx) (e:Expr) (t:TT):Prop:=
 ∀(pins:List (Addr×Obj)) (s:Shared) (σ:St) (H:Hp) (Q:Bool→Hp→Prop),Inv X pins σ H s→t σ H Q→wpAny (model X.prog X.w) X.A (isTrue e X.env (eval e X.env)) (TP X pins σ Q) X.xe s
noncomputable def PW (X:Cx) (e:Expr) (t:TT):Prop:=
 ∀(whole:Sem Value) (pins:List (Addr×Obj)) (s:Shared) (σ:St) (H:Hp) (Q:Bool→Hp→Prop),Inv X pins σ H s→t σ H Q→wpAny (model X.prog X.w) X.A (isTrue e X.env whole) (TP X pins σ Q) X.xe s
theorem PW.pt {X:Cx}{e:Expr}{t:TT}(h:PW X e t):PT X e t:=h _
noncomputable def PA (X:Cx) (es:List Expr) (t:TA):Prop:=
 ∀(pos:Pos) (pins:List (Addr×Obj)) (s:Shared) (σ:St) (H:Hp) (Q:List V→Hp→Prop),Inv X pins σ H s→t σ H Q→wpAny (model X.prog X.w) X.A (spliced (backTo pos (starEach es X.env))) (AP X pins σ Q) X.xe s
noncomputable def PS (X:Cx) (st:Stmt) (t:TS):Prop:=
 ∀(pins:List (Addr×Obj)) (s:Shared) (σ:St) (H:Hp) (D:Ends),Inv X pins σ H s→t D σ H→wpAny (model X.prog X.w) X.A (exec st X.env) (SP X pins D) X.xe s
noncomputable def tu (X:Cx) (st:List Stmt) (t:TS):Prop:=
 ∀(pins:List (Addr×Obj)) (s:Shared) (σ:St) (H:Hp) (D:Ends),Inv X pins σ H s→t D σ H→wpAny (model X.prog X.w) X.A (execs st X.env) (SP X pins D) X.xe s
theorem bR {α:Type}{t:Sem α}{Q Q':α→Shared→Prop}{M:Model}{A:Around}{E:Value→Shared→Prop}{s:Shared}(h:wpAny M A t Q E s) (hQ:∀a s,Q a s→Q' a s):wpAny M A t Q' E s:=wpAny_mono h hQ fun _ _ x=>x
end L2
namespace L2
open PySem PySem.Spec PyProof.Rows
section
variable {X:Cx}
theorem bin {a b:Expr}{ta tb:TE}(ha:PE X a ta) (hb:PE X b tb) {pins:List (Addr×Obj)}{s:Shared}{σ:St}{H:Hp}{R:V→V→Hp→Prop}(I:Inv X pins σ H s) (h:ta σ H fun x H1=>tb σ H1 fun y H2=>R x y H2)
  {α:Type}{Q:α→Shared→Prop}{f:Value→Value→Sem α}
  (hf:∀v u s2 x y H2,Inv X pins σ H2 s2→RelV x v→RelV y u→R x y H2→wpAny (model X.prog X.w) X.A (f v u) Q X.xe s2) :
  wpAny (model X.prog X.w) X.A (eval a X.env) (fun v s₁=>wpAny (model X.prog X.w) X.A (eval b X.env) (fun u s₂=>wpAny (model X.prog X.w) X.A (f v u) Q X.xe s₂) X.xe s₁) X.xe s:=by
 refine bR (ha pins s σ H _ I h) fun v s1 ⟨x,H1,I1,r1,q1⟩=>?_
 refine bR (hb pins s1 σ H1 _ I1 q1) fun u s2 ⟨y,H2,I2,r2,q2⟩=>?_
 exact hf v u s2 x y H2 I2 r1 r2 q2
noncomputable def Sr (i:Nat):TE:=fun σ H Q=>∃v,σ[i]?=some (some v)∧Q v H
noncomputable def tC (v:V):TE:=fun _ H Q=>Q v H
theorem Ss {i:Nat}{x:Str}{pos:Pos}(hN:X.N[i]?=some x) (hv:Vis X.env.scope x) (hd:(x == ("__debug__":Str))=false:=by decide) (ve:(x == ("__classdict__":Str))=false:=by decide):PE X (.Name x pos) (Sr i):=by
 intro pins s σ H Q I h
 obtain⟨v,e,h⟩:=h
 obtain⟨m,hn,hl⟩:=I.loc
 obtain⟨u,r,l⟩:=hl i x v hN e hv
 have fin:EP X pins σ Q u s:=⟨v,H,I,r,h⟩
 rcases l with ⟨hk,hm⟩ | ⟨hk,c,hc,l7⟩
 ·exact wpAny_Name (wpAny_loadName_local I.ok.kind hk hn hm fin) hd
 ·rcases hk with hk | hk
  ·exact wpAny_Name (wpAny_loadName_cell I.ok.kind hk hc l7 fin) hd
  ·exact wpAny_Name (wpAny_loadName_free I.ok.kind hk hc l7 fin ve) hd
theorem ak {i j pos}:PE X (.Constant (.int i) j pos) (tC (.int i)):=fun _ _ _ H _ I h=>wpAny_Constant_int ⟨.int i,H,I.tok _,⟨_,rfl⟩,h⟩
theorem dQ {b j pos}:PE X (.Constant (.bool b) j pos) (tC (.bl b)):=fun _ _ _ H _ I h=>Constant_bool ⟨.bl b,H,I,rfl,h⟩
theorem cM {j pos}:PE X (.Constant .none j pos) (tC .aP):=fun _ _ _ H _ I h=>Constant_none ⟨.aP,H,I,rfl,h⟩
theorem aX {x j pos}:PE X (.Constant (.str x) j pos) (tC (.str x)):=fun _ _ _ H _ I h=>Calls.Constant_str ⟨.str x,H,I.tok _,⟨_,rfl⟩,h⟩
noncomputable def Gl (X:Cx) (x:Str):Prop:=X.env.kindOf x=some .globalImplicit
theorem tw {E:Value→Shared→Prop}{pins:List (Addr×Obj)}{s:Shared}{σ:St}{H:Hp}{x:Str}{u:Value}{pos:Pos}{Q:Value→Shared→Prop}(I:Inv X pins σ H s) (hg:Gl X x) (hm:X.mg x=some u) (h:Q u s)
  (hd:(x == ("__debug__":Str))=false:=by decide):wpAny (model X.prog X.w) X.A (eval (.Name x pos) X.env) Q E s:=
 Calls.Name_function_global I.ok.kind hg (Calls.loadGlobal_global (by rw [I.ok.glob]; exact I.mod.glob.keeps I.bk) hm h) hd
theorem lg {E:Value→Shared→Prop}{pins:List (Addr×Obj)}{s:Shared}{σ:St}{H:Hp}{x:Str}{u:Value}{pos:Pos}{Q:Value→Shared→Prop}(I:Inv X pins σ H s) (hg:Gl X x) (hm:X.mg x=none) (hv:bootBuiltins x=some u) (h:Q u s)
  (hn:x≠"__name__":=by decide) (hd:(x == ("__debug__":Str))=false:=by decide):wpAny (model X.prog X.w) X.A (eval (.Name x pos) X.env) Q E s:=by
 obtain⟨mb,h1,h2⟩:=I.mod.blt
 exact Calls.Name_function_global I.ok.kind hg (Calls.loadGlobal_builtin (by rw [I.ok.glob]; exact I.mod.glob.keeps I.bk) hm (by rw [I.ok.blt]; exact h1.keeps I.bk) ((h2 x hn).trans hv) h) hd
theorem c9 {x:Str}{v:V}{u:Value}{pos:Pos}(hg:Gl X x) (hm:X.mg x=some u) (r:RelV v u) (hd:(x == ("__debug__":Str))=false:=by decide):PE X (.Name x pos) (tC v):=
 fun _ _ _ H _ I h=>tw I hg hm ⟨v,H,I,r,h⟩ hd
variable {a b:Expr}{ta tb:TE}{pos:Pos}
noncomputable def PC (X:Cx) (op:CmpOp) (a b:Expr) (t:TE):Prop:=
 ∀(pins:List (Addr×Obj)) (s:Shared) (σ:St) (H:Hp) (Q:VK),Inv X pins σ H s→t σ H Q →
  wpAny (model X.prog X.w) X.A (eval a X.env) (fun v s₁=>wpAny (model X.prog X.w) X.A (eval b X.env) (fun u s₂=>wpAny (model X.prog X.w) X.A (compareOp op v u) (EP X pins σ Q) X.xe s₂) X.xe s₁) X.xe s
theorem vg (b:Expr) {op:CmpOp}(h:op≠.In) (h2:op≠.NotIn):behindInMarks op b=false:=by
 have e1:(op == CmpOp.In)=false:=by cases op <;> first | rfl | exact absurd rfl h
 have e2:(op == CmpOp.NotIn)=false:=by cases op <;> first | rfl | exact absurd rfl h2
 cases b <;> simp [behindInMarks,e1,e2]
noncomputable def tB (t:TE):TT:=fun σ H Q=>t σ H fun x H1=>∃c,x=.bl c∧Q c H1
theorem Eu {op:CmpOp}{t:TE}(h:PC X op a b t) (h1:behindInMarks op b=false:=by first | exact vg _ (by decide) (by decide) | rfl):PE X (.Compare a [op] [b] pos) t:=fun pins s σ H Q I hw=>wpAny_Compare1 (h pins s σ H Q I hw) h1
theorem jt {op:CmpOp}{t:TE}(h:PC X op a b t) (h1:behindInMarks op b=false:=by first | exact vg _ (by decide) (by decide) | rfl):PT X (.Compare a [op] [b] pos) (tB t):=by
 intro pins s σ H Q I hw
 refine wpAny_isTrue_Compare1 (bR (h pins s σ H _ I hw) fun v s1 h1=>bR h1 fun u s2 h2=>bR h2 fun c s3 ⟨x,H1,I1,r1,q1⟩=>?_) h1
 obtain⟨d,rfl,q⟩:=q1
 cases r1
 exact wpAny_truthy_bool ⟨H1,I1,q⟩
theorem dH {e:Expr}{t:TE}(h:PE X e t) (he:∀whole,isTrue e X.env whole=(do let v ←whole; standAt e.pos; holding [v] (truthy v)):=by intro _; rfl):PT X e (tB t):=by
 intro pins s σ H Q I hw
 refine isTrue_plain (bR (h pins s σ H _ I hw) fun v s1 ⟨x,H1,I1,r1,q1⟩=>?_) (he _)
 obtain⟨d,rfl,q⟩:=q1
 cases r1
 exact wpAny_truthy_bool ⟨H1,I1,q⟩
variable {tA tB':TT}{rest:List Expr}
noncomputable def Yd (t u:TT):TT:=fun σ H Q=>t σ H fun c H1=>if c=true then u σ H1 Q else Q false H1
noncomputable def tOr (t u:TT):TT:=fun σ H Q=>t σ H fun c H1=>if c=true then Q true H1 else u σ H1 Q
noncomputable def Ye (t:TT):TT:=fun σ H Q=>t σ H fun c H1=>Q (!c) H1
theorem eD (ha:PT X a tA):PW X (.BoolOp .And [a] pos) tA:=by
 intro wh pins s σ H Q I h
 refine isTrue_and (bR (ha pins s σ H Q I h) fun c s1 e=>?_)
 cases c with
 | true=>exact isTrue_and_nil e
 | false=>exact e
theorem Ew (ha:PT X a tA):PW X (.BoolOp .Or [a] pos) tA:=by
 intro wh pins s σ H Q I h
 refine isTrue_or (bR (ha pins s σ H Q I h) fun c s1 e=>?_)
 cases c with
 | false=>exact isTrue_or_nil e
 | true=>exact e
theorem dI (ha:PT X a tA) (hb:PW X (.BoolOp .And (b::rest) pos) tB'):PW X (.BoolOp .And (a::b::rest) pos) (Yd tA tB'):=by
 intro wh pins s σ H Q I h
 refine isTrue_and (bR (ha pins s σ H _ I h) fun c s1 ⟨H1,I1,q1⟩=>?_)
 cases c with
 | true=>exact hb wh pins s1 σ H1 Q I1 q1
 | false=>exact⟨H1,I1,q1⟩
theorem Ex (ha:PT X a tA) (hb:PW X (.BoolOp .Or (b::rest) pos) tB'):PW X (.BoolOp .Or (a::b::rest) pos) (tOr tA tB'):=by
 intro wh pins s σ H Q I h
 refine isTrue_or (bR (ha pins s σ H _ I h) fun c s1 ⟨H1,I1,q1⟩=>?_)
 cases c with
 | true=>exact⟨H1,I1,q1⟩
 | false=>exact hb wh pins s1 σ H1 Q I1 q1
theorem zV (ha:PT X a tA):PT X (.UnaryOp .Not a pos) (Ye tA):=by
 intro pins s σ H Q I h
 exact isTrue_not (ha pins s σ H (fun c H1=>Q (!c) H1) I h)
noncomputable def Ot (ta tb:TE):TE:=fun σ H Q=>ta σ H fun x H1=>∃c,x=.bl c∧if c=true then tb σ H1 Q else Q (.bl false) H1
noncomputable def adW (ta tb:TE):TE:=fun σ H Q=>ta σ H fun x H1=>∃c,x=.bl c∧if c=true then Q (.bl true) H1 else tb σ H1 Q
noncomputable def Yf (ta:TE):TE:=fun σ H Q=>ta σ H fun x H1=>∃c,x=.bl c∧Q (.bl (!c)) H1
theorem zW {op} {t:TE}(h:PE X a t):PE X (.BoolOp op [a] pos) t:=fun pins s σ H Q I hw=>BoolOp_one (h pins s σ H Q I hw)
theorem tD (ha:PE X a ta) (hb:PE X (.BoolOp .And (b::rest) pos) tb):PE X (.BoolOp .And (a::b::rest) pos) (Ot ta tb):=by
 intro pins s σ H Q I h
 refine BoolOp_and (bR (ha pins s σ H _ I h) fun v s1 ⟨x,H1,I1,r1,q1⟩=>?_)
 obtain⟨c,rfl,q1⟩:=q1
 cases r1
 refine wpAny_truthy_bool ?_
 cases c with
 | true=>exact hb pins s1 σ H1 Q I1 q1
 | false=>exact⟨.bl false,H1,I1,rfl,q1⟩
noncomputable def tIf (t:TT) (ta tb:TE):TE:=fun σ H Q=>t σ H fun c H1=>if c=true then ta σ H1 Q else tb σ H1 Q
theorem dy {c:Expr}(hc:PT X c tA) (ha:PE X a ta) (hb:PE X b tb):PE X (.IfExp c a b pos) (tIf tA ta tb):=by
 intro pins s σ H Q I h
 refine wpAny_IfExp (bR (hc pins s σ H _ I h) fun d s1 ⟨H1,I1,q1⟩=>?_)
 cases d with
 | true=>exact ha pins s1 σ H1 Q I1 q1
 | false=>exact hb pins s1 σ H1 Q I1 q1
end
end L2
namespace L2
open PySem PySem.Spec PyProof.Rows
noncomputable def bc (K:PySem.W.Frag) (H:Hp) (a:Addr) (xs:List V):Prop:=
 Rd H a (.lst xs) ∨
  ∃(o:Obj) (aO:Array Value) (n:Nat),K.lookup a=some o∧o.cls=.type "list"∧o.dict=none∧o.data=.seq aO n∧aO.size≤sizeLine∧Vals xs aO.toList
noncomputable def bU (K:PySem.W.Frag) (H:Hp) (a:Addr) (xs:List V):Prop:=
 Rd H a (.tup xs) ∨
  ∃(o:Obj) (aO:Array Value) (n:Nat),K.lookup a=some o∧o.cls=.type "tuple"∧o.data=.seq aO n∧aO.size≤sizeLine∧Vals xs aO.toList
noncomputable def adX:Value→Option V
 | .none=>some .aP
 | .bool b=>some (.bl b)
 | .int i _=>some (.int i)
 | .str x _=>some (.str x)
 | .bytes b _=>some (.Ec b)
 | .float b _=>some (.XH b)
 | .ref a=>some (.ref a)
 | .type n=>some (.ty n)
 | _=>none
theorem RelV.abs {x:V}{u:Value}(r:RelV x u):adX u=some x:=by
 cases x with
 | aP=>cases r; rfl
 | bl _=>cases r; rfl
 | int _=>obtain⟨t,rfl⟩:=r; rfl
 | str _=>obtain⟨t,rfl⟩:=r; rfl
 | Ec _=>obtain⟨t,rfl⟩:=r; rfl
 | XH _=>obtain⟨t,rfl⟩:=r; rfl
 | ref _=>cases r; rfl
 | ty _=>cases r; rfl
theorem RelV.inj {x y:V}{u:Value}(r:RelV x u) (q:RelV y u):x=y:=Option.some.inj (r.abs.symm.trans q.abs)
theorem Vals.inj:∀{xs ys:List V}{us:List Value},Vals xs us→Vals ys us→xs=ys
 | _,_,_,.nil,.nil=>rfl
 | _,_,_,.cons r t,.cons r' t'=>by rw [r.inj r',Vals.inj t t']
section
variable {X:Cx}{pins:List (Addr×Obj)}{σ:St}{H:Hp}{s:Shared}{a:Addr}{xs ys:List V}
theorem bc.of {K:PySem.W.Frag}(h:H a=some (.lst xs)):bc K H a xs:=.inl (.inl h)
theorem bU.of {K:PySem.W.Frag}(h:H a=some (.tup xs)):bU K H a xs:=.inl (.inl h)
theorem Inv.list (I:Inv X pins σ H s) (h:bc X.K H a xs):∃aO:List Value,Vals xs aO∧PlainL s.heap a aO.toArray∧xs.length≤sizeLine:=by
 rcases h with h | ⟨o,aO,n,hk,hc,hd,hs,hz,r⟩
 ·obtain⟨z,aO,n,r,e⟩:=h.ok I.bK
  exact⟨aO,r,⟨_,n,e,rfl,rfl,rfl⟩,z⟩
 ·refine⟨aO.toList,r,⟨o,n,I.qV a o hk,hc,hd,by simpa using hs⟩,?_⟩
  have e:=r.length
  simp only [Array.length_toList] at e
  omega
theorem Inv.tuple (I:Inv X pins σ H s) (h:bU X.K H a xs):∃aO:List Value,Vals xs aO∧IsTup s.heap a aO.toArray∧xs.length≤sizeLine:=by
 rcases h with h | ⟨o,aO,n,hk,hc,hs,hz,r⟩
 ·obtain⟨z,aO,r,p⟩:=h.ok I.bK
  exact⟨aO,r,p,z⟩
 ·refine⟨aO.toList,r,⟨o,I.qV a o hk,hc,n,by simpa using hs⟩,?_⟩
  have e:=r.length
  simp only [Array.length_toList] at e
  omega
theorem Inv.nS (I:Inv X pins σ H s) (h:bc X.K H a xs) (h':bc X.K H a ys):xs=ys:=by
 obtain⟨aO,r,⟨o,n,e,_,_,d⟩,_⟩:=I.list h
 obtain⟨its',r',⟨o',n',e',_,_,d'⟩,_⟩:=I.list h'
 rw [e] at e'; cases e'
 rw [d] at d'
 injection d' with d1 _
 have:aO=its':=by simpa using congrArg Array.toList d1
 subst this
 exact r.inj r'
theorem Inv.CP (I:Inv X pins σ H s) (h:bU X.K H a xs) (h':bU X.K H a ys):xs=ys:=by
 obtain⟨aO,r,⟨o,e,_,n,d⟩,_⟩:=I.tuple h
 obtain⟨its',r',⟨o',e',_,n',d'⟩,_⟩:=I.tuple h'
 rw [e] at e'; cases e'
 rw [d] at d'
 injection d' with d1 _
 have:aO=its':=by simpa using congrArg Array.toList d1
 subst this
 exact r.inj r'
end
noncomputable abbrev Cx.qc (X:Cx) (E:Value→Shared→Prop):Cx:={X with xe:=E}
noncomputable abbrev Cx.XQ (X:Cx):Cx:=X.qc fun _ _=>False
theorem Cx.Ok.qc {X:Cx}(ok:X.Ok) (E:Value→Shared→Prop):(X.qc E).Ok:=
 ⟨ok.mod,ok.kind,ok.glob,ok.blt,ok.above,ok.inj,ok.has,ok.XJ,ok.hd,ok.frames,ok.X_,ok.Ya,ok.bs,ok.Er,ok.CM,ok.CN,ok.la,ok.Om⟩
theorem Cx.Ok.gX {X:Cx}{E:Value→Shared→Prop}(ok:(X.qc E).Ok):X.Ok:=
 ⟨ok.mod,ok.kind,ok.glob,ok.blt,ok.above,ok.inj,ok.has,ok.XJ,ok.hd,ok.frames,ok.X_,ok.Ya,ok.bs,ok.Er,ok.CM,ok.CN,ok.la,ok.Om⟩
section
variable {X:Cx}{pins:List (Addr×Obj)}{σ:St}{H:Hp}{s:Shared}{E:Value→Shared→Prop}
theorem Inv.qc (I:Inv X pins σ H s) (E:Value→Shared→Prop):Inv (X.qc E) pins σ H s:=⟨I.ok.qc E,I.os,I.bare,I.base,I.loc,I.cell,I.free,I.eN,I.pin,I.bK,I.len⟩
theorem Inv.gX (I:Inv (X.qc E) pins σ H s):Inv X pins σ H s:=⟨I.ok.gX,I.os,I.bare,I.base,I.loc,I.cell,I.free,I.eN,I.pin,I.bK,I.len⟩
theorem SP.gX {D:Ends}{f:Flow}{s':Shared}(h:SP (X.qc E) pins D f s'):SP X pins D f s':=by
 cases f with
 | next=>obtain⟨σ',H',I,q⟩:=h; exact⟨σ',H',I.gX,q⟩
 | brk=>obtain⟨σ',H',I,q⟩:=h; exact⟨σ',H',I.gX,q⟩
 | cont=>obtain⟨σ',H',I,q⟩:=h; exact⟨σ',H',I.gX,q⟩
 | ret u=>obtain⟨v,σ',H',I,r,q⟩:=h; exact⟨v,σ',H',I.gX,r,q⟩
theorem tu.XQ {st:List Stmt}{t:TS}(h:tu X.XQ st t):tu X st t:=fun pins s σ H D I hw=>
 wpAny_mono (h pins s σ H D (I.qc _) hw) (fun _ _ q=>q.gX) fun _ _ z=>False.elim z
end
section
variable {X:Cx}{st:Stmt}{rest:List Stmt}{t u:TS}{e:Expr}{te:TE}{pos:Pos}
noncomputable def Ou:TS:=fun D σ H=>D.nx σ H
noncomputable def Yg (t u:TS):TS:=fun D σ H=>t {D with nx:=u D} σ H
theorem aT:tu X [] Ou:=fun _ _ σ H _ I h=>wpAny_execs_nil ⟨σ,H,I,h⟩
theorem aj (h1:PS X st t) (h2:tu X rest u):tu X (st::rest) (Yg t u):=by
 intro pins s σ H D I h
 refine wpAny_execs_cons (bR (h1 pins s σ H {D with nx:=u D} I h) fun f s1 q=>?_)
 cases f with
 | next=>
  obtain⟨σ',H',I',q⟩:=q
  exact h2 pins s1 σ' H' D I' q
 | ret v=>exact q
 | brk=>exact q
 | cont=>exact q
theorem af (h1:PS X st t):tu X [st] t:=by
 intro pins s σ H D I h
 refine wpAny_execs_cons (bR (h1 pins s σ H D I h) fun f s1 q=>?_)
 cases f with
 | next=>exact wpAny_execs_nil q
 | ret v=>exact q
 | brk=>exact q
 | cont=>exact q
theorem Inv.quiet {pins:List (Addr×Obj)}{σ:St}{H:Hp}{s:Shared}(I:Inv X pins σ H s):interactive X.env=false:=by simp [interactive,I.ok.kind]
noncomputable def Ov (te:TE):TS:=fun D σ H=>te σ H fun _ H1=>D.nx σ H1
theorem aQ (he:PE X e te) (hs:swapsWith e none pos.line X.env=pure false:=by rfl):PS X (.Expr e pos) (Ov te):=by
 intro pins s σ H D I h
 exact wpAny_Expr_any (bR (he pins s σ H _ I h) fun v s1 ⟨x,H1,I1,r1,q1⟩=>⟨σ,H1,I1,q1⟩) I.quiet hs
noncomputable def Yh (te:TE):TS:=fun D σ H=>te σ H D.rt
theorem aw (he:PE X e te):PS X (.Return (some e) pos) (Yh te):=by
 intro pins s σ H D I h
 exact wpAny_Return_some (bR (he pins s σ H _ I h) fun v s1 ⟨x,H1,I1,r1,q1⟩=>⟨x,σ,H1,I1,r1,q1⟩)
noncomputable def Ow:TS:=fun D _ H=>D.rt .aP H
theorem Lg:PS X (.Return none pos) Ow:=fun _ _ σ H _ I h=>wpAny_Return_none ⟨.aP,σ,H,I,rfl,h⟩
noncomputable def Yi (c:TT) (t u:TS):TS:=fun D σ H=>c σ H fun b H1=>if b=true then t D σ H1 else u D σ H1
theorem bF {c:Expr}{a b:List Stmt}{tc:TT}(hc:PT X c tc) (ha:tu X a t) (hb:tu X b u):PS X (.If c a b pos) (Yi tc t u):=by
 intro pins s σ H D I h
 refine wpAny_If (bR (hc pins s σ H _ I h) fun d s1 ⟨H1,I1,q1⟩=>?_)
 cases d with
 | true=>exact ha pins s1 σ H1 D I1 q1
 | false=>exact hb pins s1 σ H1 D I1 q1
noncomputable def Su:TS:=fun _ _ _=>False
end
noncomputable abbrev TG:=V→St→Hp→(St→Hp→Prop)→Prop
noncomputable abbrev Lh:=List V→St→Hp→(St→Hp→Prop)→Prop
noncomputable def PG (X:Cx) (target:Expr) (t:TG):Prop:=
 ∀(pins:List (Addr×Obj)) (s:Shared) (σ:St) (H:Hp) (v:V) (u:Value) (Q:St→Hp→Prop),Inv X pins σ H s→RelV v u→t v σ H Q →
  wpAny (model X.prog X.w) X.A (assign target X.env u) (fun _ s'=>∃σ' H',Inv X pins σ' H' s'∧Q σ' H') X.xe s
noncomputable def Yj (X:Cx) (ts:List Expr) (t:Lh):Prop:=
 ∀(pins:List (Addr×Obj)) (s:Shared) (σ:St) (H:Hp) (vs:List V) (us:List Value) (Q:St→Hp→Prop),Inv X pins σ H s→Vals vs us→t vs σ H Q →
  wpAny (model X.prog X.w) X.A (assignInOrder ((assignEach ts X.env).map (·.2)) us) (fun _ s'=>∃σ' H',Inv X pins σ' H' s'∧Q σ' H') X.xe s
noncomputable abbrev Sv:=V→V→V→Hp→(Hp→Prop)→Prop
noncomputable def Yk (X:Cx) (t:Sv):Prop:=
 ∀(pins:List (Addr×Obj)) (s:Shared) (σ:St) (H:Hp) (o i v:V) (ov iv u:Value) (Q:Hp→Prop),Inv X pins σ H s→RelV o ov→RelV i iv→RelV v u→t o i v H Q →
  wpAny (model X.prog X.w) X.A (setItem ov iv u) (fun _ s'=>∃H',Inv X pins σ H' s'∧Q H') X.xe s
noncomputable abbrev TIp:=V→V→Hp→VK→Prop
section
variable {X:Cx}{pos:Pos}
noncomputable def qX (i:Nat):TG:=fun v σ H Q=>Q (σ.set i (some v)) H
theorem aJ {i:Nat}{x:Str}(hN:X.N.Nodup) (hi:X.N[i]?=some x) (hx:Loc X.env.scope x) (hf:X.fn x=true∨X.env.scope.names.lookup x=some .local:=by first | exact .inl rfl | exact .inr rfl | assumption):PG X (.Name x pos) (qX i):=by
 intro pins s σ H v u Q I r h
 exact wpAny_assign_Name (nR I hN hi hx r (fun s' I'=>⟨_,H,I',h⟩) hf)
noncomputable def Yl:Lh:=fun vs σ H Q=>vs=[]∧Q σ H
noncomputable def Ox (t:TG) (u:Lh):Lh:=fun vs σ H Q=>∃v r,vs=v::r∧t v σ H fun σ' H'=>u r σ' H' Q
theorem gb:Yj X [] Yl:=by
 intro pins s σ H vs us Q I r h
 obtain⟨e,h⟩:=h
 subst e
 cases r
 exact assignInOrder_nil ⟨σ,H,I,h⟩
theorem aZ {e:Expr}{es:List Expr}{t:TG}{u:Lh}(h1:PG X e t) (h2:Yj X es u)
  (hs:(assignEach (e::es) X.env).map (·.2)=assign e X.env::(assignEach es X.env).map (·.2):=by rfl):Yj X (e::es) (Ox t u):=by
 intro pins s σ H vs us Q I r h
 obtain⟨v,vr,e1,h⟩:=h
 subst e1
 cases r with
 | cons r rr=>
  rw [hs]
  refine assignInOrder_cons (bR (h1 pins s σ H _ _ _ I r h) fun _ s1 ⟨σ1,H1,I1,q1⟩=>?_)
  exact h2 pins s1 σ1 H1 _ _ Q I1 rr q1
noncomputable def Ym (K:PySem.W.Frag) (n:Nat) (t:Lh):TG:=fun v σ H Q=>∃a xs,v=.ref a∧bU K H a xs∧xs.length=n∧t xs σ H Q
theorem zX {es:List Expr}{k:Nat}{t:Lh}{n:Nat}(hc:X.calm=true) (h:Yj X es t)
  (hn:(assignEach es X.env).length=n:=by rfl) (k_:(assignEach es X.env).findIdx? (·.1)=none:=by rfl):PG X (.Tuple es k pos) (Ym X.K n t):=by
 intro pins s σ H v u Q I r hw
 obtain⟨a,xs,e1,hq,hl,hw⟩:=hw
 subst e1
 cases r
 obtain⟨aO,rv,ht,hz⟩:=I.tuple hq
 refine assign_Tuple_tuple (I.ok.hd hc) ht (by simp [hn,←hl,rv.length]) k_ fun h' hx=>?_
 have I1:Inv X pins σ H {s with heap:=h'}:=I.kept (t':=s.toks) fun b o e=>hx b o (Nat.ne_of_lt (Heap.lt_size e)) e
 exact h pins _ σ H xs _ Q I1 (by simpa using rv) hw
noncomputable def Yn (to ti:TE) (t:Sv):TG:=fun v σ H Q=>to σ H fun o H1=>ti σ H1 fun i H2=>t o i v H2 fun H3=>Q σ H3
theorem zY {o i:Expr}{to ti:TE}{t:Sv}(ho:PE X o to) (hi:PE X i ti) (hs:Yk X t)
  (ha:∀v,assign (.Subscript o i pos) X.env v=(do
   let ov ←holding [v] (eval o X.env)
   let iv ←holding [v,ov] (eval i X.env)
   standAt pos
   holding [v,ov,iv] (setItem ov iv v)
   release [v,ov,iv] []):=by intro _; rfl):PG X (.Subscript o i pos) (Yn to ti t):=by
 intro pins s σ H v u Q I r h
 rw [ha]
 refine wpAny_bind (wpAny_holding (bR (ho pins s σ H _ I h) fun ov s1 ⟨x,H1,I1,r1,q1⟩=>?_))
 refine wpAny_bind (wpAny_holding (bR (hi pins s1 σ H1 _ I1 q1) fun iv s2 ⟨y,H2,I2,r2,q2⟩=>?_))
 refine wpAny_bind (wpAny_standAt (wpAny_bind (wpAny_holding (bR (hs pins s2 σ H2 x y v ov iv u _ I2 r1 r2 r q2) fun _ s3 ⟨H3,I3,q3⟩=>?_))))
 exact wpAny_release ⟨σ,H3,I3,q3⟩
noncomputable def Li (te:TE) (g:TG):TS:=fun D σ H=>te σ H fun x H1=>g x σ H1 D.nx
theorem gY {tg e:Expr}{te:TE}{g:TG}(he:PE X e te) (hg:PG X tg g) (hs:swapsWithSole [tg] e pos.line X.env=pure false:=by rfl) (hw:swappedStores [tg] e X.env=pure none:=by rfl)
  (h1:(assignEach [tg] X.env).map (·.2)=[assign tg X.env]:=by rfl):PS X (.Assign [tg] e pos) (Li te g):=by
 intro pins s σ H D I h
 refine wpAny_Assign_stores (bR (he pins s σ H _ I h) fun v s1 ⟨x,H1,I1,r1,q1⟩=>?_) hs hw
 rw [h1]
 exact bR (hg pins s1 σ H1 x v _ I1 r1 q1) fun _ s2 q=>q
theorem aR {i:Nat}{x:Str}{e:Expr}{te:TE}{pos':Pos}(hN:X.N.Nodup) (hi:X.N[i]?=some x) (hx:Loc X.env.scope x) (he:PE X e te) (hs:swapsWith e (some (.Name x pos')) pos.line X.env=pure false:=by rfl) (hf:X.fn x=true∨X.env.scope.names.lookup x=some .local:=by first | exact .inl rfl | exact .inr rfl | assumption) :
  PS X (.Assign [.Name x pos'] e pos) (Li te (qX i)):=by
 intro pins s σ H D I h
 refine wpAny_Assign_Name (bR (he pins s σ H _ I h) fun v s1 ⟨y,H1,I1,r1,q1⟩=>?_) hs
 exact nR I1 hN hi hx r1 (fun s2 I2=>⟨_,H1,I2,q1⟩) hf
noncomputable def adY (i:Nat) (te:TE) (ti:TIp):TS:=fun D σ H=>∃x,σ[i]?=some (some x)∧te σ H fun y H1=>ti x y H1 fun z H2=>D.nx (σ.set i (some z)) H2
noncomputable def ipI (f:Int→Int→Int):TIp:=fun x y H Q=>∃i j,x=.int i∧y=.int j∧Q (.int (f i j)) H
end
section
variable {X:Cx}{pos:Pos}
noncomputable def Ey (c:TT) (tb:TS):TS:=fun D σ H=>∃W:Nat→St→Hp→Prop,(∃m,W m σ H)∧∀m σ H,W m σ H →
 c σ H fun b H1=>if b=true then ∃N:St→Hp→Prop,(∀σ' H',N σ' H'→∃m',m' < m∧W m' σ' H')∧tb {D with nx:=N,ct:=N,bk:=D.nx} σ H1 else D.nx σ H1
theorem Ez {c:Expr}{body:List Stmt}{tc:TT}{tb:TS}(hp:PassesOwn (model X.prog X.w) X.A X.env X.xe) (hc:PT X c tc) (hb:tu X body tb):PS X (.While c body [] pos) (Ey tc tb):=by
 intro pins s σ H D I h
 obtain⟨W,⟨m0,w0⟩,turn⟩:=h
 refine wpAny_While (codeAny_whileLoop (fun n s'=>∃σ' H',Inv X pins σ' H' s'∧W n σ' H') ?_ m0 ⟨σ,H,I,w0⟩)
 rintro n s1 ⟨σ1,H1,I1,w1⟩
 refine wpAny_passesOwn hp (bR (hc pins s1 σ1 H1 _ I1 (turn n σ1 H1 w1)) fun b s2 ⟨H2,I2,q2⟩=>?_)
 cases b with
 | true=>
  obtain⟨N,hN,q2⟩:=q2
  rw [if_pos rfl]
  refine wpAny_passesOwn hp (bR (hb pins s2 σ1 H2 _ I2 q2) fun f s3 q3=>?_)
  cases f with
  | next=>
   obtain⟨σ3,H3,I3,n3⟩:=q3
   obtain⟨m',hm,w3⟩:=hN σ3 H3 n3
   exact⟨m',hm,σ3,H3,I3,w3⟩
  | cont=>
   obtain⟨σ3,H3,I3,n3⟩:=q3
   obtain⟨m',hm,w3⟩:=hN σ3 H3 n3
   exact⟨m',hm,σ3,H3,I3,w3⟩
  | brk=>exact q3
  | ret v=>exact q3
 | false=>
  rw [if_neg Bool.false_ne_true]
  exact wpAny_execs_nil ⟨σ1,H2,I2,q2⟩
end
structure It where
 go:Nat→Hp→Prop
 Oy:Nat→Hp→V→Hp→Prop
 stop:Nat→Hp→Prop
noncomputable def lh (X:Cx) (pins:List (Addr×Obj)) (H:Hp) (b:Addr):Prop:=
 H b=none∧b≠X.env.locals∧b∉X.fs∧(b∈X.ex∨X.s₀.heap.objs.size≤b)∧(∀x c,X.env.cells.lookup x=some c→c≠b)∧∀p∈X.pn++pins,p.1≠b
theorem Inv.EA {X:Cx}{pins:List (Addr×Obj)}{σ:St}{H H':Hp}{s:Shared}{b:Addr}(I:Inv X pins σ H s) (hb:s.heap.objs.size≤b) (hn:H' b=none):lh X pins H' b:=by
 refine⟨hn,Nat.ne_of_gt (Nat.lt_of_lt_of_le I.lt hb),I.Sn hb,.inr (Nat.le_trans I.sz hb),fun x c e z=>?_,fun p hp z=>?_⟩
 ·obtain⟨v,q⟩:=I.cell x c e
  exact absurd (Nat.lt_of_lt_of_le q.lt (by rw [z]; exact hb)) (Nat.lt_irrefl _)
 ·exact absurd (Nat.lt_of_lt_of_le (Heap.lt_size (I.pin p hp).1) (by rw [z]; exact hb)) (Nat.lt_irrefl _)
structure Turn (P:Program) (w:World) (K:PySem.W.Frag) (tg:Expr) (J:It) (fp:List Addr) (it:Addr) (tn:Nat→Heap→Prop):Prop where
 mem:it∈fp
 obj:∀i h,tn i h→∀b∈fp,∃o,h.get? b=some o∧∀v,o.data≠.cell v
 keep:∀i h h',tn i h→(∀b∈fp,∀o,h.get? b=some o→h'.get? b=some o)→tn i h'
 item:∀(X:Cx),X.prog=P→X.w=w→X.K=K→X.calm=true→∀(i:Nat) (pins:List (Addr×Obj)) (s:Shared) (σ:St) (H:Hp) (E:Value→Shared→Prop),Inv X pins σ H s→(∀b∈fp,lh X pins H b)→tn i s.heap→J.go i H →
  wpAny (model P w) X.A (pyNext (.ref it)) (fun r s1=>∃u,r=some u ∧
   wpAny (model P w) X.A (letOwnedTupleGo tg (.ref it) u) (fun _ s2=>∃x H',Inv X pins σ H' s2∧RelV x u∧J.Oy i H x H'∧tn (i+1) s2.heap∧∀b∈fp,H' b=none) E s1) E s
 done:∀(X:Cx),X.prog=P→X.w=w→X.K=K→X.calm=true→∀(i:Nat) (pins:List (Addr×Obj)) (s:Shared) (σ:St) (H:Hp) (E:Value→Shared→Prop),Inv X pins σ H s→(∀b∈fp,lh X pins H b)→tn i s.heap→J.stop i H →
  wpAny (model P w) X.A (pyNext (.ref it)) (fun r s1=>r=none∧Inv X pins σ H s1) E s
 self:∀(A:Around) (i:Nat) (s:Shared) (Q:Value→Shared→Prop) (E:Value→Shared→Prop),tn i s.heap→Q (.ref it) s→wpAny (model P w) A (pyIter (.ref it)) Q E s
noncomputable abbrev TI:=St→Hp→(It→Hp→Prop)→Prop
noncomputable def PIE (X:Cx) (pins:List (Addr×Obj)) (σ:St) (tg:Expr) (R:It→Hp→Prop) (itv:Value) (s2:Shared):Prop:=
 ∃(it:Addr) (fp:List Addr) (tn:Nat→Heap→Prop) (J:It) (H':Hp),itv=.ref it∧Inv X pins σ H' s2∧Turn X.prog X.w X.K tg J fp it tn∧tn 0 s2.heap∧(∀b∈fp,lh X pins H' b)∧R J H'
noncomputable def PI (X:Cx) (tg iter:Expr) (wi:TI):Prop:=
 ∀(pins:List (Addr×Obj)) (s:Shared) (σ:St) (H:Hp) (R:It→Hp→Prop),Inv X pins σ H s→wi σ H R →
  wpAny (model X.prog X.w) X.A (eval iter X.env) (fun v s1=>wpAny (model X.prog X.w) X.A (pyIter v) (PIE X pins σ tg R) X.xe s1) X.xe s
theorem Oz {M:Model}{A:Around}{E:Value→Shared→Prop}{s:Shared}{tg:Expr}{it:Addr}{u:Value}{o:Obj}{n:String}{vs:Array Value}{Q:Unit→Shared→Prop}(ho:s.heap.get? it=some o) (hc:o.cls=.type n) (hd:o.data=.fields vs)
    (hn:["enumerate","zip","dict_itemiterator","dict_reverseitemiterator","odict_iterator","itertools.zip_longest","itertools.pairwise"].contains n=false) (hQ:Q () s):wpAny M A (letOwnedTupleGo tg (.ref it) u) Q E s:=by
  unfold letOwnedTupleGo
  cases tg <;> first
    | exact wpAny_pure hQ
    | (cases u <;> first
        | exact wpAny_pure hQ
        | (refine wpAny_bind (wpAny_load ho ?_)
           rw [hc,hd]
           show wpAny M A (if (["enumerate","zip","dict_itemiterator","dict_reverseitemiterator","odict_iterator","itertools.zip_longest","itertools.pairwise"].contains n&&vs[0]? == some (rawInt _))=true then _ else _) Q E s
           rw [if_neg (by intro h; rw [hn,Bool.false_and] at h; cases h)]
           exact wpAny_pure hQ))
noncomputable def OA (K:PySem.W.Frag) (a:Addr):It:=
 ⟨fun i H=>∃xs x,bc K H a xs∧xs[i]?=some x,fun i H x H'=>H'=H∧∀xs,bc K H a xs→xs[i]?=some x,fun i H=>∃xs,bc K H a xs∧xs.length≤i⟩
noncomputable def Itt (K:PySem.W.Frag) (a:Addr):It:=
 ⟨fun i H=>∃xs x,bU K H a xs∧xs[i]?=some x,fun i H x H'=>H'=H∧∀xs,bU K H a xs→xs[i]?=some x,fun i H=>∃xs,bU K H a xs∧xs.length≤i⟩
noncomputable def Lj (lo:Int) (n:Nat):It:=⟨fun i _=>i < n,fun i H x H'=>H'=H∧x=.int (lo+i),fun i _=>n≤i⟩
theorem CQ {P:Program}{w:World}{K:PySem.W.Frag}{tg:Expr}(a it:Addr):Turn P w K tg (OA K a) [it] it (fun i h=>h.IsListIter it a i) where
 mem:=by simp
 obj:=fun i h st b hb=>by
  have e:b=it:=by simpa using hb
  subst e
  obtain⟨o,e,c,d⟩:=st
  exact⟨o,e,fun v z=>by rw [d] at z; cases z⟩
 keep:=fun i h h' st k=>st.at fun o e=>k it (by simp) o e
 item:=by
  intro X hP hw hK hc i pins s σ H E I hf st hg
  subst hP hw hK
  obtain⟨xs,x,hq,hx⟩:=hg
  obtain⟨aO,rv,p,hz⟩:=I.list hq
  obtain⟨u,hu,ru⟩:=rv.get hx
  obtain⟨f0,f1,f2,f3,f4,f5⟩:=hf it (by simp)
  refine wpAny_pyNext_list_item st p.isList (x:=u) (by simpa using hu) fun h' KU sb=>?_
  have I1:Inv X pins σ H {s with heap:=h'}:=I.turned (t':=s.toks) (fun b o hb e=>(sb.2 b hb).trans e) f0 f1 f3 f4 f5
  obtain⟨o,e,c,d⟩:=id KU
  exact⟨u,rfl,Oz (s:={s with heap:=h'}) e c d (by decide) ⟨x,H,I1,ru,⟨rfl,fun ys hy=>by rw [I.nS hy hq]; exact hx⟩,KU,fun b hb=>(hf b hb).1⟩⟩
 done:=by
  intro X hP hw hK hc i pins s σ H E I hf st hg
  subst hP hw hK
  obtain⟨xs,hq,hx⟩:=hg
  obtain⟨aO,rv,p,hz⟩:=I.list hq
  obtain⟨f0,f1,f2,f3,f4,f5⟩:=hf it (by simp)
  have hl:=rv.length
  exact wpAny_pyNext_list_end (I.ok.hd hc) st p.isList (by simp; omega) fun h' eb=>⟨rfl,I.turned (t':=s.toks) (fun b o hb e=>eb b o hb e) f0 f1 f3 f4 f5⟩
 self:=fun _ _ _ _ _ st h=>wpAny_pyIter_listiter st h
theorem zZ {P:Program}{w:World}{K:PySem.W.Frag}{tg:Expr}(it:Addr) (lo:Int) (n:Nat):Turn P w K tg (Lj lo n) [it] it (fun i h=>IsRangeIter h it (lo+(i:Nat)*1) ((n:Int) - (i:Nat)) 1) where
 mem:=by simp
 obj:=fun i h st b hb=>by
  have e:b=it:=by simpa using hb
  subst e
  exact⟨_,st,fun v z=>by
   have z':Data.fields _=Data.cell v:=z
   cases z'⟩
 keep:=fun i h h' st k=>k it (by simp) _ st
 item:=by
  intro X hP hw hK hc i pins s σ H E I hf st hg
  subst hP hw hK
  obtain⟨f0,f1,f2,f3,f4,f5⟩:=hf it (by simp)
  have W:=Walks.range (prog:=X.prog) (w:=X.w) (I.ok.hd hc) it lo 1 n
  refine W.item i s _ _ hg st fun v h' tk hv KU kk=>?_
  obtain⟨t,rfl⟩:=hv
  have I1:Inv X pins σ H {s with heap:=h',toks:=tk}:=I.turned (fun b o hb e=>kk b o (by simpa using hb) e) f0 f1 f3 f4 f5
  refine⟨_,rfl,Oz (s:={s with heap:=h',toks:=tk}) (n:="range_iterator") KU rfl rfl (by decide) ⟨.int (lo+i),H,I1,⟨t,?_⟩,⟨rfl,rfl⟩,KU,fun b hb=>(hf b hb).1⟩⟩
  rw [Int.mul_one]
 done:=by
  intro X hP hw hK hc i pins s σ H E I hf st hg
  subst hP hw hK
  obtain⟨f0,f1,f2,f3,f4,f5⟩:=hf it (by simp)
  exact wpAny_pyNext_range_end (I.ok.hd hc) st (by have:n≤i:=hg; omega) fun h' eb=>⟨rfl,I.turned (t':=s.toks) (fun b o hb e=>eb b o hb e) f0 f1 f3 f4 f5⟩
 self:=fun _ _ _ _ _ st h=>wpAny_pyIter_rangeiter st h
end L2
namespace L2
open PySem PySem.Spec PyProof.Rows
section
variable {X:Cx}{tg:Expr}
noncomputable def OB (K:PySem.W.Frag) (tl:TE):TI:=fun σ H R=>tl σ H fun x H1=>∃a,x=.ref a∧(∃xs,bc K H1 a xs)∧R (OA K a) H1
noncomputable def adZ (K:PySem.W.Frag) (tl:TE):TI:=fun σ H R=>tl σ H fun x H1=>∃a,x=.ref a∧(∃xs,bU K H1 a xs)∧R (Itt K a) H1
theorem dn {l:Expr}{tl:TE}(hl:PE X l tl):PI X tg l (OB X.K tl):=by
 intro pins s σ H R I h
 refine bR (hl pins s σ H _ I h) fun v s1 ⟨x,H1,I1,r1,q1⟩=>?_
 obtain⟨a,e,⟨xs,hq⟩,q⟩:=q1
 subst e
 cases r1
 obtain⟨aO,rv,p,hz⟩:=I1.list hq
 refine wpAny_pyIter_list p.isList ?_
 refine⟨s1.heap.objs.size,[s1.heap.objs.size],_,_,H1,rfl,I1.kept (t':=s1.toks) fun b o e=>Heap.get?_push_of_some _ e,CQ a _,⟨_,Heap.get?_push_size _ rfl,rfl,rfl⟩,fun b hb=>?_,q⟩
 have e:b=s1.heap.objs.size:=by simpa using hb
 subst e
 exact I1.EA (Nat.le_refl _) (I1.bK.fresh (Nat.le_refl _))
theorem vh {pins:List (Addr×Obj)}{σ:St}{H:Hp}{s:Shared}{R:It→Hp→Prop}{E:Value→Shared→Prop}{lo hi:Int}{t u v:Tok}{tk:Nat}(I:Inv X pins σ H s) (h1:-(2 ^ 62)≤lo) (h2:lo < 2 ^ 62) (h3:-(2 ^ 62)≤hi) (h4:hi < 2 ^ 62)
  (q:R (Lj lo (hi - lo).toNat) H):wpAny (model X.prog X.w) X.A (pyIter (.ref s.heap.objs.size)) (PIE X pins σ tg R) E {s with heap:=s.heap.push {cls:=.type "range",data:=.fields #[.int lo t,.int hi u,.int 1 v]},toks:=tk}:=by
 refine wpAny_pyIter_range (IsRange.new ..) (small_one h1 h2 h3 h4) ?_
 have I1:Inv X pins σ H {s with heap:=s.heap.push {cls:=.type "range",data:=.fields #[.int lo t,.int hi u,.int 1 v]},toks:=tk}:=I.kept fun b o e=>Heap.get?_push_of_some _ e
 refine⟨(s.heap.push {cls:=.type "range",data:=.fields #[.int lo t,.int hi u,.int 1 v]}).objs.size,[(s.heap.push {cls:=.type "range",data:=.fields #[.int lo t,.int hi u,.int 1 v]}).objs.size],_,_,H,rfl,
  I1.kept (t':=tk) fun b o e=>Heap.get?_push_of_some _ e,zZ _ lo (hi - lo).toNat,?_,fun b hb=>?_,q⟩
 ·have e1:lo+((0:Nat):Int)*1=lo:=by simp
  have e2:(((hi - lo).toNat:Nat):Int) - ((0:Nat):Int)=Builtin.Range.rangeSize lo hi 1:=by rw [rangeSize_one]; split <;> omega
  show IsRangeIter _ _ (lo+((0:Nat):Int)*1) ((((hi - lo).toNat:Nat):Int) - ((0:Nat):Int)) 1
  rw [e1,e2]
  exact Heap.get?_push_size _ rfl
 ·have e:b=(s.heap.push {cls:=.type "range",data:=.fields #[.int lo t,.int hi u,.int 1 v]}).objs.size:=by simpa using hb
  subst e
  exact I1.EA (Nat.le_refl _) (I1.bK.fresh (Nat.le_refl _))
noncomputable def OC (ta:TA):TI:=fun σ H R=>ta σ H fun vs H1=>∃j:Int,vs=[.int j]∧-(2 ^ 62)≤j∧j < 2 ^ 62∧R (Lj 0 j.toNat) H1
noncomputable def OD (ta:TA):TI:=fun σ H R=>ta σ H fun vs H1=>∃i j:Int,vs=[.int i,.int j]∧(-(2 ^ 62)≤i∧i < 2 ^ 62∧-(2 ^ 62)≤j∧j < 2 ^ 62)∧R (Lj i (j - i).toNat) H1
theorem iQ {a:Expr}{ta:TA}{p pos:Pos}(hg:Gl X "range") (hm:X.mg "range"=none) (ha:PA X [a] ta) (hs:starEach [a] X.env=[(false,eval a X.env)]:=by rfl):PI X tg (.Call (.Name "range" p) [a] [] pos) (OC ta):=by
 intro pins s σ H R I h
 refine Call_ (lg I hg hm boot_range (PyProof.Rows.callWith_type1 (bR (ha pos pins s σ H _ I h) fun us s1 ⟨vs,H1,I1,r1,q1⟩=>?_) hs rfl))
 obtain⟨j,e,q1,q2,q⟩:=q1
 subst e
 cases r1 with
 | cons r rr=>
  cases rr
  obtain⟨t,rfl⟩:=r
  exact call_range_1 (vh I1 (by omega) (by omega) q1 q2 (by simpa using q))
theorem qY {a b:Expr}{ta:TA}{p pos:Pos}(hg:Gl X "range") (hm:X.mg "range"=none) (ha:PA X [a,b] ta) (hs:starEach [a,b] X.env=[(false,eval a X.env),(false,eval b X.env)]:=by rfl) (CS:starEach [b] X.env=[(false,eval b X.env)]:=by rfl) :
  PI X tg (.Call (.Name "range" p) [a,b] [] pos) (OD ta):=by
 intro pins s σ H R I h
 refine Call_ (lg I hg hm boot_range (PyProof.Rows.callWith_type1 (bR (ha pos pins s σ H _ I h) fun us s1 ⟨vs,H1,I1,r1,q1⟩=>?_) (by rw [hs,CS]) (by rw [CS]; rfl)))
 obtain⟨i,j,e,⟨q1,q2,q3,q4⟩,q⟩:=q1
 subst e
 cases r1 with
 | cons r rr=>
  cases rr with
  | cons r' rr=>
   cases rr
   obtain⟨t,rfl⟩:=r
   obtain⟨t',rfl⟩:=r'
   exact call_range_2 (vh I1 q1 q2 q3 q4 q)
noncomputable def aea (wi:TI) (g:TG) (tb:TS):TS:=fun D σ H=>wi σ H fun J H1=>∃W:Nat→Nat→St→Hp→Prop,(∃m,W 0 m σ H1)∧∀i m σ H,W i m σ H →
 (J.stop i H∧D.nx σ H)∨(J.go i H∧∃N:St→Hp→Prop,(∀σ' H',N σ' H'→∃m',m' < m∧W (i+1) m' σ' H')∧∀x H',J.Oy i H x H'→g x σ H' fun σ2 H2=>tb {D with nx:=N,ct:=N,bk:=D.nx} σ2 H2)
noncomputable def lj (fp:List Addr) (h:Heap):List (Addr×Obj):=fp.filterMap fun b=>(h.get? b).map fun o=>(b,o)
theorem gc {fp:List Addr}{h:Heap}{b:Addr}{o:Obj}(hb:b∈fp) (e:h.get? b=some o):(b,o)∈lj fp h:=List.mem_filterMap.mpr ⟨b,hb,by rw [e]; rfl⟩
theorem CT {fp:List Addr}{h:Heap}{p:Addr×Obj}(hp:p∈lj fp h):p.1∈fp∧h.get? p.1=some p.2:=by
 obtain⟨b,hb,e⟩:=List.mem_filterMap.mp hp
 cases q:h.get? b with
 | none=>rw [q] at e; cases e
 | some o=>
  rw [q] at e
  have e':(b,o)=p:=Option.some.inj e
  subst e'
  exact⟨hb,q⟩
theorem Inv.pinned {pins:List (Addr×Obj)}{σ:St}{H:Hp}{s:Shared}{fp:List Addr}(I:Inv X pins σ H s) (hf:∀b∈fp,lh X pins H b) (ho:∀b∈fp,∃o,s.heap.get? b=some o∧∀v,o.data≠.cell v):Inv X (pins++lj fp s.heap) σ H s:=
 I.f_ fun p hp=>(List.mem_append.mp hp).elim (fun z=>I.pin p (List.mem_append_right _ z)) fun z=>by
  obtain⟨hb,e⟩:=CT z
  obtain⟨f0,f1,f2,_⟩:=hf p.1 hb
  obtain⟨o,e',d⟩:=ho p.1 hb
  rw [e] at e'; cases e'
  exact⟨e,f0,f1,f2,d⟩
theorem Inv.gZ {pins pl:List (Addr×Obj)}{σ:St}{H:Hp}{s:Shared}(I:Inv X (pins++pl) σ H s):Inv X pins σ H s:=I.f_ fun p hp=>I.pin p (List.mem_append_right _ (List.mem_append_left _ hp))
theorem Sw {iter:Expr}{body:List Stmt}{wi:TI}{g:TG}{tb:TS}{pos:Pos}(hp:PassesOwn (model X.prog X.w) X.A X.env X.xe) (hc:X.calm=true) (hi:PI X tg iter wi) (hg:PG X tg g) (hb:tu X body tb)
  (hs:∀x,foldedSetIterable iter X.env x=pure x:=by intro _; rfl):PS X (.For tg iter body [] pos) (aea wi g tb):=by
 intro pins s σ H D I h
 refine wpAny_For (bR (hi pins s σ H _ I h) fun v s1 h1=>bR h1 fun itv s2 h2=>?_) hs
 obtain⟨it,fp,tn,J,H2,e,I2,T,OE,f2,W,⟨m0,w0⟩,turn⟩:=h2
 subst e
 have bN:∀{H':Hp},(∀b∈fp,H' b=none)→∀b∈fp,lh X pins H' b:=fun hn b hb=>⟨hn b hb,(f2 b hb).2⟩
 refine codeAny_forLoop_any (fun n s'=>∃i σ' H',Inv X pins σ' H' s'∧tn i s'.heap∧(∀b∈fp,H' b=none)∧W i n σ' H') ?_ m0 ⟨0,σ,H2,I2,OE,fun b hb=>(f2 b hb).1,w0⟩
 rintro n s3 ⟨i,σ3,H3,I3,Yo,Yp,w3⟩
 rcases turn i n σ3 H3 w3 with ⟨stop,qn⟩ | ⟨go,N,hN,step⟩
 ·refine wpAny_passesOwn hp (bR (T.done X rfl rfl rfl hc i pins s3 σ3 H3 X.xe I3 (bN Yp) Yo stop) fun r s4 ⟨hr,I4⟩=>?_)
  subst hr
  exact wpAny_execs_nil ⟨σ3,H3,I4,qn⟩
 ·refine wpAny_passesOwn hp (bR (T.item X rfl rfl rfl hc i pins s3 σ3 H3 X.xe I3 (bN Yp) Yo go) fun r s4 ⟨u,hr,h4⟩=>?_)
  subst hr
  refine wpAny_passesOwn hp (bR h4 fun _ s5 ⟨x,H5,I5,r5,y5,Lk,fr5⟩=>?_)
  have I5':=I5.pinned (bN fr5) (T.obj _ _ Lk)
  refine wpAny_passesOwn hp (bR (hg _ s5 σ3 H5 x u _ I5' r5 (step x H5 y5)) fun _ s6 ⟨σ6,H6,I6,q6⟩=>?_)
  refine wpAny_passesOwn hp (bR (hb _ s6 σ6 H6 _ I6 q6) fun f s7 q7=>?_)
  have again:∀{σ7:St}{H7:Hp},Inv X (pins++lj fp s5.heap) σ7 H7 s7→N σ7 H7→∃m,m < n∧∃i σ' H',Inv X pins σ' H' s7∧tn i s7.heap∧(∀b∈fp,H' b=none)∧W i m σ' H':=fun {σ7 H7} I7 n7=>by
   obtain⟨m',hm,w7⟩:=hN σ7 H7 n7
   refine⟨m',hm,i+1,σ7,H7,I7.gZ,T.keep _ _ _ Lk fun b hb o e=>(I7.pin (b,o) (List.mem_append_right _ (List.mem_append_right _ (gc hb e)))).1,fun b hb=>?_,w7⟩
   obtain⟨o,e,d⟩:=T.obj _ _ Lk b hb
   exact(I7.pin (b,o) (List.mem_append_right _ (List.mem_append_right _ (gc hb e)))).2.1
  cases f with
  | next=>obtain⟨σ7,H7,I7,n7⟩:=q7; exact again I7 n7
  | cont=>obtain⟨σ7,H7,I7,n7⟩:=q7; exact again I7 n7
  | brk=>obtain⟨σ7,H7,I7,q7⟩:=q7; exact⟨σ7,H7,I7.gZ,q7⟩
  | ret v=>obtain⟨x7,σ7,H7,I7,r7,q7⟩:=q7; exact⟨x7,σ7,H7,I7.gZ,r7,q7⟩
end
theorem EB {K:PySem.W.Frag}{a:Addr}{xs:List V}{g:TG}{tb:TS}{D:Ends}{σ:St}{H:Hp}(Pv:Nat→St→Hp→Prop) (h0:Pv 0 σ H) (hl:∀i σ H,i≤xs.length→Pv i σ H→bc K H a xs)
  (hs:∀i x σ H,xs[i]?=some x→Pv i σ H→g x σ H fun σ2 H2=>tb {D with nx:=Pv (i+1),ct:=Pv (i+1),bk:=D.nx} σ2 H2) (hd:∀σ H,Pv xs.length σ H→D.nx σ H) :
  ∃W:Nat→Nat→St→Hp→Prop,(∃m,W 0 m σ H)∧∀i m σ H,W i m σ H →
   ((OA K a).stop i H∧D.nx σ H)∨((OA K a).go i H∧∃N:St→Hp→Prop,(∀σ' H',N σ' H'→∃m',m' < m∧W (i+1) m' σ' H')∧∀x H',(OA K a).Oy i H x H'→g x σ H' fun σ2 H2=>tb {D with nx:=N,ct:=N,bk:=D.nx} σ2 H2):=by
 refine⟨fun i m σ H=>m=xs.length - i∧i≤xs.length∧Pv i σ H,⟨xs.length,by simp,Nat.zero_le _,h0⟩,?_⟩
 rintro i m σ H ⟨rfl,hi,p⟩
 have q:=hl i σ H hi p
 by_cases fg:i < xs.length
 ·refine .inr ⟨⟨xs,xs[i],q,by simp [fg]⟩,Pv (i+1),fun σ' H' p'=>⟨xs.length - (i+1),by omega,rfl,fg,p'⟩,fun x H' y=>?_⟩
  obtain⟨e,y⟩:=y
  subst e
  exact hs i x σ _ (y xs q) p
 ·have e:i=xs.length:=by omega
  subst e
  exact .inl ⟨⟨xs,q,Nat.le_refl _⟩,hd σ H p⟩
theorem CU {lo:Int}{n:Nat}{g:TG}{tb:TS}{D:Ends}{σ:St}{H:Hp}(Pv:Nat→St→Hp→Prop) (h0:Pv 0 σ H)
  (hs:∀i σ H,i < n→Pv i σ H→g (.int (lo+i)) σ H fun σ2 H2=>tb {D with nx:=Pv (i+1),ct:=Pv (i+1),bk:=D.nx} σ2 H2) (hd:∀σ H,Pv n σ H→D.nx σ H) :
  ∃W:Nat→Nat→St→Hp→Prop,(∃m,W 0 m σ H)∧∀i m σ H,W i m σ H →
   ((Lj lo n).stop i H∧D.nx σ H)∨((Lj lo n).go i H∧∃N:St→Hp→Prop,(∀σ' H',N σ' H'→∃m',m' < m∧W (i+1) m' σ' H')∧∀x H',(Lj lo n).Oy i H x H'→g x σ H' fun σ2 H2=>tb {D with nx:=N,ct:=N,bk:=D.nx} σ2 H2):=by
 refine⟨fun i m σ H=>m=n - i∧i≤n∧Pv i σ H,⟨n,by simp,Nat.zero_le _,h0⟩,?_⟩
 rintro i m σ H ⟨rfl,hi,p⟩
 by_cases fg:i < n
 ·refine .inr ⟨fg,Pv (i+1),fun σ' H' p'=>⟨n - (i+1),by omega,rfl,fg,p'⟩,fun x H' y=>?_⟩
  obtain⟨e,y⟩:=y
  subst e y
  exact hs i σ _ fg p
 ·have e:i=n:=by omega
  subst e
  exact .inl ⟨Nat.le_refl _,hd σ H p⟩
end L2
namespace L2
open PySem PySem.Spec PyProof.Rows
noncomputable abbrev R2:=V→V→Hp→VK→Prop
noncomputable def lr (X:Cx) (f:Value→Value→Sem Value) (r:R2):Prop:=
 ∀(pins:List (Addr×Obj)) (s:Shared) (σ:St) (H:Hp) (x y:V) (v u:Value) (Q:VK),Inv X pins σ H s→RelV x v→RelV y u→r x y H Q →
  wpAny (model X.prog X.w) X.A (f v u) (EP X pins σ Q) X.xe s
noncomputable def UnR (X:Cx) (f:Value→Sem Value) (r:V→Hp→VK→Prop):Prop:=
 ∀(pins:List (Addr×Obj)) (s:Shared) (σ:St) (H:Hp) (x:V) (v:Value) (Q:VK),Inv X pins σ H s→RelV x v→r x H Q →
  wpAny (model X.prog X.w) X.A (f v) (EP X pins σ Q) X.xe s
noncomputable def jV (X:Cx) (f:Value) (r:List V→Hp→VK→Prop):Prop:=
 ∀(pins:List (Addr×Obj)) (s:Shared) (σ:St) (H:Hp) (xs:List V) (us:List Value) (Q:VK),Inv X pins σ H s→Vals xs us→r xs H Q →
  wpAny (model X.prog X.w) X.A (call f us) (EP X pins σ Q) X.xe s
noncomputable def Yq (r:R2) (ta tb:TE):TE:=fun σ H Q=>ta σ H fun x H1=>tb σ H1 fun y H2=>r x y H2 Q
noncomputable def tUn (r:V→Hp→VK→Prop) (ta:TE):TE:=fun σ H Q=>ta σ H fun x H1=>r x H1 Q
noncomputable def rI (C:Int→Int→Prop) (g:Int→Int→V):R2:=fun x y H Q=>∃i j,x=.int i∧y=.int j∧C i j∧Q (g i j) H
noncomputable def KW (g:Int→Int→V):R2:=fun x y H Q=>∃i j,x=.int i∧y=.int j∧Q (g i j) H
noncomputable def rU (g:Int→V):V→Hp→VK→Prop:=fun x H Q=>∃i,x=.int i∧Q (g i) H
section
variable {X:Cx}{a b c:Expr}{ta tb tc:TE}{pos:Pos}
theorem Sx (ha:PE X a ta) (hb:PE X b tb) {pins:List (Addr×Obj)}{s:Shared}{σ:St}{H:Hp}{R:V→V→Hp→Prop}(I:Inv X pins σ H s)
  (h:ta σ H fun x H1=>tb σ H1 fun y H2=>R x y H2) {Q:Value→Shared→Prop}{f:Value→Value→Sem Value}
  (hf:∀v u s2 x y H2,Inv X pins σ H2 s2→RelV x v→RelV y u→R x y H2→wpAny (model X.prog X.w) X.A (f v u) Q X.xe s2) :
  wpAny (model X.prog X.w) X.A (eval a X.env) (fun v s₁=>wpAny (model X.prog X.w) X.A (eval b X.env) (fun u s₂=>wpAny (model X.prog X.w) X.A (f v u) Q X.xe s₂) X.xe s₁) X.xe s:=by
 refine bR (ha pins s σ H _ I h) fun v s1 ⟨x,H1,I1,r1,q1⟩=>?_
 refine bR (hb pins s1 σ H1 _ I1 q1) fun u s2 ⟨y,H2,I2,r2,q2⟩=>?_
 exact hf v u s2 x y H2 I2 r1 r2 q2
theorem bt {op:Operator}{r:R2}(ho:lr X (binaryOp op) r) (ha:PE X a ta) (hb:PE X b tb):PE X (.BinOp a op b pos) (Yq r ta tb):=by
 intro pins s σ H Q I h
 exact wpAny_BinOp (Sx ha hb I h fun v u s2 x y H2 I2 rx ry q=>ho pins s2 σ H2 x y v u Q I2 rx ry q)
theorem OF {op:UnaryOp}{r:V→Hp→VK→Prop}(ho:UnR X (unaryOp op) r) (ha:PE X a ta):PE X (.UnaryOp op a pos) (tUn r ta):=by
 intro pins s σ H Q I h
 exact UnaryOp_ (bR (ha pins s σ H _ I h) fun v s1 ⟨x,H1,I1,r1,q1⟩=>ho pins s1 σ H1 x v Q I1 r1 q1)
theorem Yr {f:Value→Value→Sem Value}{C:Int→Int→Prop}{g:Int→Int→Int}
  (rule:∀(i j:Int) (t u:Tok) (s:Shared) (Q:Value→Shared→Prop) (E:Value→Shared→Prop),C i j→Q (.int (g i j) s.toks) {s with toks:=s.toks+1}→wpAny (model X.prog X.w) X.A (f (.int i t) (.int j u)) Q E s) :
  lr X f (rI C fun i j=>.int (g i j)):=by
 intro pins s σ H x y v u Q I rx ry h
 obtain⟨i,j,rfl,rfl,hc,q⟩:=h
 obtain⟨t,rfl⟩:=rx
 obtain⟨t',rfl⟩:=ry
 exact rule i j t t' s _ _ hc ⟨.int (g i j),H,I.tok _,⟨_,rfl⟩,q⟩
theorem Ll {f:Value→Value→Sem Value}{g:Int→Int→Int}
  (rule:∀(i j:Int) (t u:Tok) (s:Shared) (Q:Value→Shared→Prop) (E:Value→Shared→Prop),Q (.int (g i j) s.toks) {s with toks:=s.toks+1}→wpAny (model X.prog X.w) X.A (f (.int i t) (.int j u)) Q E s) :
  lr X f (KW fun i j=>.int (g i j)):=by
 intro pins s σ H x y v u Q I rx ry h
 obtain⟨i,j,rfl,rfl,q⟩:=h
 obtain⟨t,rfl⟩:=rx
 obtain⟨t',rfl⟩:=ry
 exact rule i j t t' s _ _ ⟨.int (g i j),H,I.tok _,⟨_,rfl⟩,q⟩
theorem Sy {f:Value→Value→Sem Value}{g:Int→Int→Bool}
  (rule:∀(i j:Int) (t u:Tok) (s:Shared) (Q:Value→Shared→Prop) (E:Value→Shared→Prop),Q (.bool (g i j)) s→wpAny (model X.prog X.w) X.A (f (.int i t) (.int j u)) Q E s) :
  lr X f (KW fun i j=>.bl (g i j)):=by
 intro pins s σ H x y v u Q I rx ry h
 obtain⟨i,j,rfl,rfl,q⟩:=h
 obtain⟨t,rfl⟩:=rx
 obtain⟨t',rfl⟩:=ry
 exact rule i j t t' s _ _ ⟨.bl (g i j),H,I,rfl,q⟩
noncomputable def Sz (i j:Int):Prop:=(-(2 ^ 64) < i∧i < 2 ^ 64)∨(-(2 ^ 64) < j∧j < 2 ^ 64)
theorem Sz.ok {i j:Int}(h:Sz i j):IntMulOk i j:=by
 rcases h with ⟨h1,h2⟩ | ⟨h1,h2⟩
 ·exact .of_left (intBits_le_64 h1 h2)
 ·exact .of_right (intBits_le_64 h1 h2)
theorem z0 (k:Nat):(0:Int)≤2 ^ k:=by
 rw [two_pow_cast]
 exact Int.natCast_nonneg _
theorem d8:lr X (binaryOp .Add) (KW fun i j=>.int (i+j)):=Ll fun _ _ _ _ _ _ _ q=>add_int q
theorem EC:lr X (binaryOp .Sub) (KW fun i j=>.int (i - j)):=Ll fun _ _ _ _ _ _ _ q=>sub_int q
theorem tE:lr X (binaryOp .Mult) (rI Sz fun i j=>.int (i*j)):=Yr fun _ _ _ _ _ _ _ hc q=>mul_int q hc.ok
theorem lu:lr X (binaryOp .Mod) (rI (fun _ j=>0 < j) fun i j=>.int (i % j)):=Yr fun i j _ _ _ _ _ hc q=>by
 have h1:(0:Int) < j:=hc
 exact mod_int' (by omega) (by rw [Int.fmod_eq_emod_of_nonneg i (by omega)]; exact q)
theorem SA:lr X (binaryOp .RShift) (rI (fun _ j=>0≤j) fun i j=>.int (i / 2 ^ j.toNat)):=Yr fun i j _ _ _ _ _ hc q=>
 rshift_int hc (by rw [Int.fdiv_eq_ediv_of_nonneg i (z0 _)]; exact q)
theorem tF:lr X (binaryOp .BitAnd) (KW fun i j=>.int (Builtin.bitAnd i j)):=Ll fun _ _ _ _ _ _ _ q=>and_int q
theorem OG:lr X (binaryOp .BitOr) (KW fun i j=>.int (Builtin.bitOr i j)):=Ll fun _ _ _ _ _ _ _ q=>or_int q
theorem unI {f:Value→Sem Value}{g:Int→Int}
  (rule:∀(i:Int) (t:Tok) (s:Shared) (Q:Value→Shared→Prop) (E:Value→Shared→Prop),Q (.int (g i) s.toks) {s with toks:=s.toks+1}→wpAny (model X.prog X.w) X.A (f (.int i t)) Q E s) :
  UnR X f (rU fun i=>.int (g i)):=by
 intro pins s σ H x v Q I rx h
 obtain⟨i,rfl,q⟩:=h
 obtain⟨t,rfl⟩:=rx
 exact rule i t s _ _ ⟨.int (g i),H,I.tok _,⟨_,rfl⟩,q⟩
theorem ED:UnR X (unaryOp .USub) (rU fun i=>.int (-i)):=unI fun _ _ _ _ _ q=>neg_int q
end
noncomputable def vi:V→V→Bool
 | .aP,.aP=>true | .aP,.int _=>true | .int _,.aP=>true | .aP,.bl _=>true | .bl _,.aP=>true | .aP,.str _=>true | .str _,.aP=>true
 | .int _,.int _=>true | .bl _,.bl _=>true | .str _,.str _=>true | .Ec _,.Ec _=>true
 | .int _,.str _=>true | .str _,.int _=>true | .bl _,.str _=>true | .str _,.bl _=>true
 | _,_=>false
noncomputable def rEq:R2:=fun x y H Q=>vi x y=true∧Q (.bl (decide (x=y))) H
noncomputable def rNe:R2:=fun x y H Q=>vi x y=true∧Q (.bl (!decide (x=y))) H
theorem BW {i j:Int}:decide (V.int i=V.int j)=(i == j):=by
 rw [Bool.eq_iff_iff]
 simp
theorem EE {i j:Bool}:decide (V.bl i=V.bl j)=(i == j):=by
 rw [Bool.eq_iff_iff]
 simp
theorem BX {i j:Str}:decide (V.str i=V.str j)=(i == j):=by
 rw [Bool.eq_iff_iff]
 simp
theorem BY {i j:Array UInt8}:decide (V.Ec i=V.Ec j)=(i.toList == j.toList):=by
 rw [Bool.eq_iff_iff]
 cases i
 cases j
 simp
section
variable {X:Cx}{a b c:Expr}{ta tb tc:TE}{pos:Pos}
theorem bf {pins:List (Addr×Obj)}{σ:St}{H:Hp}{s:Shared}{Q:VK}{k k':Bool}(I:Inv X pins σ H s) (q:Q (.bl k) H) (e:k=k'):EP X pins σ Q (.bool k') s:=by
 subst e
 exact⟨.bl k,H,I,rfl,q⟩
theorem cA:lr X (compareOp .Eq) rEq:=by
 intro pins s σ H x y v u Q I rx ry h
 obtain⟨hs,q⟩:=h
 cases x with
 | aP=>
  cases rx
  cases y with
  | aP=>cases ry; exact PySem.EqNone.eq_none_none (bf I q (by simp))
  | bl j=>cases ry; exact PySem.EqNone.eq_none_bool (bf I q (by simp))
  | int j=>obtain⟨t',rfl⟩:=ry; exact PySem.EqNone.eq_none_int (bf I q (by simp))
  | str j=>obtain⟨t',rfl⟩:=ry; exact PySem.EqNone.eq_none_str (bf I q (by simp))
  | _=>exact absurd (show false=true from hs) Bool.false_ne_true
 | bl i=>
  cases rx
  cases y with
  | aP=>cases ry; exact PySem.EqNone.eq_bool_none (bf I q (by simp))
  | bl j=>cases ry; exact eq_bool (bf I q EE)
  | str j=>obtain⟨t',rfl⟩:=ry; exact PySem.EqMixed.eq_bool_str (bf I q (by simp))
  | _=>exact absurd (show false=true from hs) Bool.false_ne_true
 | int i=>
  obtain⟨t,rfl⟩:=rx
  cases y with
  | aP=>cases ry; exact PySem.EqNone.eq_int_none (bf I q (by simp))
  | int j=>obtain⟨t',rfl⟩:=ry; exact eq_int (bf I q BW)
  | str j=>obtain⟨t',rfl⟩:=ry; exact PySem.EqMixed.eq_int_str (bf I q (by simp))
  | _=>exact absurd (show false=true from hs) Bool.false_ne_true
 | str i=>
  obtain⟨t,rfl⟩:=rx
  cases y with
  | aP=>cases ry; exact PySem.EqNone.eq_str_none (bf I q (by simp))
  | bl j=>cases ry; exact PySem.EqMixed.eq_str_bool (bf I q (by simp))
  | int j=>obtain⟨t',rfl⟩:=ry; exact PySem.EqMixed.eq_str_int (bf I q (by simp))
  | str j=>obtain⟨t',rfl⟩:=ry; exact eq_str (bf I q BX)
  | _=>exact absurd (show false=true from hs) Bool.false_ne_true
 | Ec i=>
  obtain⟨t,rfl⟩:=rx
  cases y with
  | Ec j=>obtain⟨t',rfl⟩:=ry; exact PySem.W.eq_bytes (bf I q BY)
  | _=>exact absurd (show false=true from hs) Bool.false_ne_true
 | _=>cases y <;> exact absurd (show false=true from hs) Bool.false_ne_true
theorem qZ:lr X (compareOp .NotEq) rNe:=by
 intro pins s σ H x y v u Q I rx ry h
 obtain⟨hs,q⟩:=h
 cases x with
 | aP=>
  cases rx
  cases y with
  | aP=>cases ry; exact PySem.EqNone.ne_none_none (bf I q (by simp))
  | bl j=>cases ry; exact PySem.EqNone.ne_none_bool (bf I q (by simp))
  | int j=>obtain⟨t',rfl⟩:=ry; exact PySem.EqNone.ne_none_int (bf I q (by simp))
  | str j=>obtain⟨t',rfl⟩:=ry; exact PySem.EqNone.ne_none_str (bf I q (by simp))
  | _=>exact absurd (show false=true from hs) Bool.false_ne_true
 | bl i=>
  cases rx
  cases y with
  | aP=>cases ry; exact PySem.EqNone.ne_bool_none (bf I q (by simp))
  | bl j=>cases ry; exact ne_bool (bf I q (congrArg not EE))
  | str j=>obtain⟨t',rfl⟩:=ry; exact PySem.EqMixed.ne_bool_str (bf I q (by simp))
  | _=>exact absurd (show false=true from hs) Bool.false_ne_true
 | int i=>
  obtain⟨t,rfl⟩:=rx
  cases y with
  | aP=>cases ry; exact PySem.EqNone.ne_int_none (bf I q (by simp))
  | int j=>obtain⟨t',rfl⟩:=ry; exact ne_int (bf I q (congrArg not BW))
  | str j=>obtain⟨t',rfl⟩:=ry; exact PySem.EqMixed.ne_int_str (bf I q (by simp))
  | _=>exact absurd (show false=true from hs) Bool.false_ne_true
 | str i=>
  obtain⟨t,rfl⟩:=rx
  cases y with
  | aP=>cases ry; exact PySem.EqNone.ne_str_none (bf I q (by simp))
  | bl j=>cases ry; exact PySem.EqMixed.ne_str_bool (bf I q (by simp))
  | int j=>obtain⟨t',rfl⟩:=ry; exact PySem.EqMixed.ne_str_int (bf I q (by simp))
  | str j=>obtain⟨t',rfl⟩:=ry; exact ne_str (bf I q (congrArg not BX))
  | _=>exact absurd (show false=true from hs) Bool.false_ne_true
 | Ec i=>
  obtain⟨t,rfl⟩:=rx
  cases y with
  | Ec j=>obtain⟨t',rfl⟩:=ry; exact PySem.W.ne_bytes (bf I q (congrArg not BY))
  | _=>exact absurd (show false=true from hs) Bool.false_ne_true
 | _=>cases y <;> exact absurd (show false=true from hs) Bool.false_ne_true
theorem q_:lr X (compareOp .Lt) (KW fun i j=>.bl (decide (i < j))):=Sy fun _ _ _ _ _ _ _ q=>lt_int q
theorem EF:lr X (compareOp .Gt) (KW fun i j=>.bl (decide (j < i))):=Sy fun _ _ _ _ _ _ _ q=>gt_int q
theorem OH:lr X (compareOp .GtE) (KW fun i j=>.bl (decide (j≤i))):=Sy fun _ _ _ _ _ _ _ q=>ge_int q
theorem z4:lr X (compareOp .Is) (fun x y H Q=>y=.aP∧Q (.bl (decide (x=.aP))) H):=by
 intro pins s σ H x y v u Q I rx ry h
 obtain⟨rfl,q⟩:=h
 cases ry
 refine is_none_gen (bf I q ?_)
 cases x <;> first
  | (cases rx; rfl)
  | (obtain⟨t,rfl⟩:=rx; rfl)
theorem fh:lr X (compareOp .IsNot) (fun x y H Q=>y=.aP∧Q (.bl (!decide (x=.aP))) H):=by
 intro pins s σ H x y v u Q I rx ry h
 obtain⟨rfl,q⟩:=h
 cases ry
 refine isnot_none_gen (bf I q ?_)
 cases x <;> first
  | (cases rx; rfl)
  | (obtain⟨t,rfl⟩:=rx; rfl)
theorem aE (b:Expr) {op:CmpOp}(h:op≠.In:=by decide) (h2:op≠.NotIn:=by decide):behindInMarks op b=false:=by
 have e1:(op == CmpOp.In)=false:=by cases op <;> first | rfl | exact absurd rfl h
 have e2:(op == CmpOp.NotIn)=false:=by cases op <;> first | rfl | exact absurd rfl h2
 cases b <;> simp [behindInMarks,e1,e2]
theorem eE {op:CmpOp}{r:R2}(ho:lr X (compareOp op) r) (ha:PE X a ta) (hb:PE X b tb) (hm:behindInMarks op b=false):PE X (.Compare a [op] [b] pos) (Yq r ta tb):=by
 intro pins s σ H Q I h
 exact wpAny_Compare1 (Sx ha hb I h fun v u s2 x y H2 I2 rx ry q=>ho pins s2 σ H2 x y v u Q I2 rx ry q) hm
noncomputable def OI (t:TE):TT:=fun σ H Q=>t σ H fun x H'=>∃k,x=.bl k∧Q k H'
theorem aA {op:CmpOp}{r:R2}(ho:lr X (compareOp op) r) (ha:PE X a ta) (hb:PE X b tb) (hm:behindInMarks op b=false):PT X (.Compare a [op] [b] pos) (OI (Yq r ta tb)):=by
 intro pins s σ H Q I h
 refine wpAny_isTrue_Compare1 (bR (ha pins s σ H _ I h) fun v s1 ⟨x,H1,I1,r1,q1⟩=>bR (hb pins s1 σ H1 _ I1 q1) fun u s2 ⟨y,H2,I2,r2,q2⟩=>
  bR (ho pins s2 σ H2 x y v u _ I2 r1 r2 q2) fun c s3 ⟨z,H3,I3,r3,k,e,q3⟩=>?_) hm
 subst e
 cases r3
 exact wpAny_truthy_bool ⟨H3,I3,q3⟩
noncomputable def SD (r r':R2) (ta tb tc:TE):TE:=fun σ H Q=>ta σ H fun x H1=>tb σ H1 fun y H2=>r x y H2 fun z H3=>∃k,z=.bl k ∧
 (if k=true then tc σ H3 fun w' H4=>r' y w' H4 Q else Q (.bl false) H3)
theorem tG:(sizeLine:Nat) < 2 ^ 63:=by rw [sizeLine_eq]; decide
theorem vals1 {x:V}{us:List Value}(r:Vals [x] us):∃u,us=[u]∧RelV x u:=by
 cases r with
 | cons r1 r2=>cases r2; exact⟨_,rfl,r1⟩
theorem vj:jV X (.builtin "abs") (fun xs H Q=>∃i,xs=[.int i]∧Q (.int (if i < 0 then -i else i)) H):=by
 intro pins s σ H xs us Q I r h
 obtain⟨i,rfl,q⟩:=h
 obtain⟨u,rfl,t,rfl⟩:=vals1 r
 exact call_abs_int fun u tk=>⟨.int (if i < 0 then -i else i),H,I.tok _,⟨_,rfl⟩,q⟩
theorem CV:jV X (.type "int") (fun xs H Q=>(∃i,xs=[.int i]∧Q (.int i) H)∨∃k,xs=[.bl k]∧Q (.int (if k then 1 else 0)) H):=by
 intro pins s σ H xs us Q I r h
 rcases h with ⟨i,rfl,q⟩ | ⟨k,rfl,q⟩
 ·obtain⟨u,rfl,t,rfl⟩:=vals1 r
  exact call_int_int ⟨.int i,H,I,⟨_,rfl⟩,q⟩
 ·obtain⟨u,rfl,r1⟩:=vals1 r
  cases r1
  exact call_int_bool ⟨.int (if k then 1 else 0),H,I.tok _,⟨_,rfl⟩,q⟩
end
end L2
namespace L2
open PySem PySem.Spec PyProof.Rows
structure z5 (h:Heap) (x dx C:Addr) (mA:Str→Option Value):Prop where
 obj:h.get? x=some (PySem.W.instObj C dx)
 ns:h.Ns1 dx mA
 ne:dx≠x
theorem CW {h:Heap}{dx:Addr}{mA:Str→Option Value}(n:h.Ns1 dx mA):∃od,h.get? dx=some od∧∀name,PySem.W.lookIn name od=some (mA name):=by
 obtain⟨o,es,ep,ho,hd,hk,_,hm⟩:=n
 refine⟨o,ho,fun name=>?_⟩
 have e:=hm name
 unfold nsFind findBy at e
 rw [←Array.find?_toList] at e
 unfold PySem.W.lookIn
 rw [hd]
 dsimp only
 split
 ·rename_i y q
  rw [q] at e
  exact congrArg some e
 ·rename_i q
  rw [q] at e
  have a:es.toList.any (·.refKey)=false:=by
   rw [List.any_eq_false]
   intro y hy
   obtain⟨z,t,aeb⟩:=hk y (Array.mem_toList_iff.mp hy)
   simp [DictEntry.refKey,aeb]
  have a':¬es.toList.any (·.refKey)=true:=by rw [a]; exact Bool.false_ne_true
  rw [if_neg a']
  exact congrArg some e
theorem z5.look {h:Heap}{x dx C:Addr}{mA:Str→Option Value}(I:z5 h x dx C mA):∃od,PySem.W.InstAt h x (PySem.W.instObj C dx) C (some od)∧∀name,PySem.W.lookIn name od=some (mA name):=
 let ⟨od,ho,hl⟩:=CW I.ns
 ⟨od,⟨I.obj,rfl,rfl,ho⟩,hl⟩
section
variable {prog:Program}{w:World}{A:Around}{E:Value→Shared→Prop}{s:Shared}{K:PySem.W.Frag}{x dx C f:Addr}{mA:Str→Option Value}{name:Str}{v:Value}
theorem get_map {expr:Bool}{Q:Value→Shared→Prop}(X:K.In s.heap) (I:z5 s.heap x dx C mA) (hg:PySem.W.plainGet K C name=true) (hh:PySem.W.hasDictIn K C=true)
  (ha:PySem.W.findIn K (.ref C) name=some none) (hv:mA name=some v) (hv':PySem.W.handedIn v=true) (h:Q v {s with toks:=s.toks+1}) :
  wpAny (model prog w) A (getAttr (.ref x) name expr) Q E s:=by
 obtain⟨od,J,hl⟩:=I.look
 exact PySem.W.get_value X J (PySem.W.plainGet_of hg).1 (PySem.W.findObj_own hh ha rfl (by rw [hl,hv])) hv' h
theorem EG {pl:Sem Bool}{Q:Value×List Value→Shared→Prop}(X:K.In s.heap) (I:z5 s.heap x dx C mA) (hg:PySem.W.plainGet K C name=true)
  (hf:PySem.W.findIn K (.ref C) name=some (some (.ref f))) (ht:PySem.W.isFn K (.ref f)=true) (hv:mA name=none) (h:Q (.ref f,[.ref x]) s) :
  wpAny (model prog w) A (getMethod (.ref x) name pl) Q E s:=by
 obtain⟨od,J,hl⟩:=I.look
 exact PySem.W.method_fn X J (PySem.W.plainGet_of hg).1 (PySem.W.plainGet_of hg).2 hf (beq_iff_eq.mp ht) (by show(PySem.W.lookIn name od).map (·.isSome)=some false; rw [hl,hv]; rfl) h
theorem Lm {ns:List Str}{Q:Unit→Shared→Prop}(X:K.In s.heap) (I:z5 s.heap x dx C mA)
  (hs:PySem.W.findIn K (.ref C) "__setattr__"=some (some (.builtin "object.__setattr__"))) (hp:PySem.W.plainOver K C=true) (ht:PySem.W.takerIn K C name=some none) (hh:PySem.W.hasDictIn K C=true)
  (hw:PySem.Within mA ns) (hsz:ns.length≤sizeLine)
  (h:∀h',z5 h' x dx C (fun y=>if y=name then some v else mA y)→Heap.SameBut dx s.heap h'→Q () {s with heap:=h',toks:=s.toks+2}) :
  wpAny (model prog w) A (setAttr (.ref x) name v) Q E s:=by
 obtain⟨od,J,hl⟩:=I.look
 refine PySem.W.set_plain X J hs (PySem.W.osa_open (s:={s with toks:=s.toks+1}) (r:=none) X J hp ht fun b=>?_)
 obtain⟨cd,hc,XM⟩:=PySem.W.any_some hh
 have hx:s.heap.get? x=some ⟨.ref C,some dx,.plain,#[]⟩:=I.obj
 refine wpAny_bind (wpAny_pure (wpAny_bind (wpAny_bind (wpAny_loadPart hx (wpAny_bind (PySem.W.Looks.here (s:={s with toks:=s.toks+1}) (PySem.W.looks_clsIn X hc) ?_))))))
 rw [XM]
 refine wpAny_pure (a:=some dx) (wpAny_bind (wpAny_pure (wpAny_bind ?_)))
 refine wpAny_nsSet1 (s:={s with toks:=s.toks+1}) I.ns fun h' zP CS=>?_
 obtain⟨oD,esD,epD,hoD,hdD,hcD⟩:=zP.count (PySem.Within.cons name v hw)
 refine wpAny_bind (wpAny_lookBehind hoD (by rw [hdD]; exact pastItsLine_dict (Nat.le_trans hcD (by rw [List.length_cons]; omega))) ?_)
 exact wpAny_pure (h _ ⟨(CS.2 _ (Ne.symm I.ne)).trans I.obj,zP,I.ne⟩ CS)
theorem EH {R:Result→Shared→Prop}{vs:List Value}{kw:List (Str×Value)}(X:K.In s.heap) (hm:PySem.W.makesIn K C=true)
  (hi:PySem.W.findIn K (.ref C) "__init__"=some (some (.ref f))) (hf:PySem.W.typeIn K (.ref f)=some (.type "function"))
  (h:codeAny (model prog w) (A.under (.builtin "type.__call__" ⟨.ref C::vs,kw⟩)) (.call (.ref f) ⟨.ref (s.heap.objs.size+1)::vs,kw⟩) (PySem.W.InitBack (s.heap.objs.size+1) R)
   {s with heap:=(s.heap.push PySem.W.emptyDict).push (PySem.W.instObj C s.heap.objs.size)}) :
  codeAny (model prog w) A (.call (.ref C) ⟨vs,kw⟩) R s:=by
 obtain⟨hh,g,d,t,os⟩:=s
 exact PySem.W.make_core (PySem.W.makes_of X hm) (PySem.W.looks_findIn X hi) (fun self=>PySem.W.bind_fn X self hf) (.inl rfl) h
end
noncomputable def cP (f:Str) (v:V):List (Str×V)→List (Str×V)
 | []=>[(f,v)]
 | (g,x)::r=>if g=f then(g,v)::r else(g,x)::cP f v r
theorem aF (f g:Str) (v:V):∀fs:List (Str×V),(cP f v fs).lookup g=if g=f then some v else fs.lookup g
 | []=>by
  show List.lookup g [(f,v)]=_
  by_cases h:g=f
  ·have hb:(g == f)=true:=beq_iff_eq.mpr h
   simp only [List.lookup,hb,if_pos h]
  ·have hb:(g == f)=false:=beq_eq_false_iff_ne.mpr h
   simp only [List.lookup,hb,if_neg h]
 | (k,x)::r=>by
  have ih:=aF f g v r
  rw [show cP f v ((k,x)::r)=(if k=f then(k,v)::r else(k,x)::cP f v r) from rfl]
  by_cases hk:k=f
  ·rw [if_pos hk]
   by_cases h:g=k
   ·have hb:(g == k)=true:=beq_iff_eq.mpr h
    simp only [List.lookup,hb,if_pos (h.trans hk)]
   ·have hb:(g == k)=false:=beq_eq_false_iff_ne.mpr h
    simp only [List.lookup,hb,if_neg (fun e:g=f=>h (e.trans hk.symm))]
  ·rw [if_neg hk]
   by_cases h:g=k
   ·have hb:(g == k)=true:=beq_iff_eq.mpr h
    simp only [List.lookup,hb,if_neg (fun e:g=f=>hk (h.symm.trans e))]
   ·have hb:(g == k)=false:=beq_eq_false_iff_ne.mpr h
    simp only [List.lookup,hb]
    exact ih
theorem lx (f:Str) (v:V):∀fs:List (Str×V),f∈(cP f v fs).map (·.1)∧∀g,g∈fs.map (·.1)→g∈(cP f v fs).map (·.1)
 | []=>⟨by simp [cP],fun g h=>by simp at h⟩
 | (k,x)::r=>by
  obtain⟨i1,i2⟩:=lx f v r
  rw [show cP f v ((k,x)::r)=(if k=f then(k,v)::r else(k,x)::cP f v r) from rfl]
  by_cases hk:k=f
  ·rw [if_pos hk]
   subst hk
   exact⟨by simp,fun g h=>by simpa using h⟩
  ·rw [if_neg hk]
   refine⟨?_,fun g h=>?_⟩
   ·rw [List.map_cons]
    exact List.mem_cons_of_mem _ i1
   ·rw [List.map_cons] at h ⊢
    rcases List.mem_cons.mp h with e | e
    ·exact List.mem_cons.mpr (.inl e)
    ·exact List.mem_cons_of_mem _ (i2 g e)
theorem bZ (f:Str) (v:V):∀fs:List (Str×V),(cP f v fs).length≤fs.length+1
 | []=>by simp [cP]
 | (k,x)::r=>by
  have ih:=bZ f v r
  rw [show cP f v ((k,x)::r)=(if k=f then(k,v)::r else(k,x)::cP f v r) from rfl]
  by_cases hk:k=f
  ·rw [if_pos hk,List.length_cons,List.length_cons]; omega
  ·rw [if_neg hk,List.length_cons,List.length_cons]; omega
theorem fQ.some_of {v:V}{o:Option Value}(r:fQ (some v) o):∃u,o=some u∧RelV v u:=by
 cases o with
 | none=>exact(show False from r).elim
 | some u=>exact⟨u,rfl,r⟩
theorem fQ.none_of {o:Option Value}(r:fQ none o):o=none:=by
 cases o with
 | none=>rfl
 | some u=>exact(show False from r).elim
theorem CY {v:V}{u:Value}(r:RelV v u):PySem.W.handedIn u=true:=by
 cases v with
 | aP=>cases (show u=Value.none from r); rfl
 | bl b=>cases (show u=Value.bool b from r); rfl
 | int i=>obtain⟨t,e⟩:=(show ∃t,u=Value.int i t from r); cases e; rfl
 | str x=>obtain⟨t,e⟩:=(show ∃t,u=Value.str x t from r); cases e; rfl
 | Ec b=>obtain⟨t,e⟩:=(show ∃t,u=Value.bytes b t from r); cases e; rfl
 | XH b=>obtain⟨t,e⟩:=(show ∃t,u=Value.float b t from r); cases e; rfl
 | ref a=>cases (show u=Value.ref a from r); rfl
 | ty n=>cases (show u=Value.type n from r); rfl
section
variable {P:Program}{w:World}{H H':Hp}{h h':Heap}{a C dx:Addr}{fs fs':List (Str×V)}
theorem tH (bK:js P w H h) (e:H a=some (.ins C dx fs)):∃mA,z5 h a dx C mA∧(∀f,fQ (fs.lookup f) (mA f))∧PySem.Within mA (fs.map (·.1))∧fs.length≤1000∧H dx=some (.own a):=by
 obtain⟨d,z,ne,ob,mA,n,r,q⟩:=(show cG P w H h a (.ins C dx fs) from bK a _ e)
 exact⟨mA,⟨ob,n,ne⟩,r,q,z,d⟩
end
structure nz (K:PySem.W.Frag) (C:Addr):Prop where
 pg:PySem.W.plainGet K C Str.empty=true
 hd:PySem.W.hasDictIn K C=true
 po:PySem.W.plainOver K C=true
 sa:PySem.W.findIn K (.ref C) "__setattr__"=some (some (.builtin "object.__setattr__"))
theorem nz.get {K:PySem.W.Frag}{C:Addr}(c:nz K C) (f:Str):PySem.W.plainGet K C f=true:=c.pg
noncomputable def bL (K:PySem.W.Frag) (C:Addr) (f:Str):Prop:=PySem.W.findIn K (.ref C) f=some none
theorem bL.Ys {K:PySem.W.Frag}{C:Addr}{f:Str}(n:bL K C f):PySem.W.takerIn K C f=some none:=by
 unfold PySem.W.takerIn
 rw [show PySem.W.findIn K (.ref C) f=some none from n]
 rfl
structure Con (K:PySem.W.Frag) (C:Addr) (f:Str) (v:V) (u:Value):Prop where
 at_:PySem.W.findIn K (.ref C) f=some (some u)
 rel:RelV v u
 get:PySem.W.specialIn K u "__get__"=some none
 cp:PySem.W.copiedNames.contains f=false
structure Meth (K:PySem.W.Frag) (C:Addr) (m:Str) (f:Addr):Prop where
 at_:PySem.W.findIn K (.ref C) m=some (some (.ref f))
 fn:PySem.W.isFn K (.ref f)=true
 kp:PySem.W.keepIn K (.ref f)=true
section
variable {X:Cx}{pins:List (Addr×Obj)}{σ:St}{H:Hp}{s:Shared}{a C dx:Addr}{fs:List (Str×V)}{f:Str}{v:V}{A:Around}{E:Value→Shared→Prop}
theorem z7 {b:Bool}{Q:Value→Shared→Prop}(I:Inv X pins σ H s) (e:H a=some (.ins C dx fs)) (c:nz X.K C) (n:bL X.K C f) (l:fs.lookup f=some v)
  (h:∀u s',Inv X pins σ H s'→RelV v u→Q u s'):wpAny (model X.prog X.w) A (getAttr (.ref a) f b) Q E s:=by
 obtain⟨mA,O,r,_,_,_⟩:=tH I.bK e
 obtain⟨u,hu,ru⟩:=fQ.some_of (v:=v) (o:=mA f) (by rw [←l]; exact r f)
 exact get_map I.qV O (c.get f) c.hd n hu (CY ru) (h u _ (I.tok _) ru)
theorem eO {m:Str}{g:Addr}{pl:Sem Bool}{Q:Value×List Value→Shared→Prop}(I:Inv X pins σ H s) (e:H a=some (.ins C dx fs)) (c:nz X.K C) (k:Meth X.K C m g) (l:fs.lookup m=none)
  (h:Q (.ref g,[.ref a]) s):wpAny (model X.prog X.w) A (getMethod (.ref a) m pl) Q E s:=by
 obtain⟨mA,O,r,_,_,_⟩:=tH I.bK e
 have hn:mA m=none:=fQ.none_of (by rw [←l]; exact r m)
 exact EG I.qV O (c.get m) k.at_ k.fn hn h
theorem z8 {y:V}{u:Value}{Q:Unit→Shared→Prop}(I:Inv X pins σ H s) (e:H a=some (.ins C dx fs)) (c:nz X.K C) (n:bL X.K C f) (hl:fs.length < 1000) (ry:RelV y u)
  (h:∀s',Inv X pins σ (upd H a (.ins C dx (cP f y fs))) s'→Q () s'):wpAny (model X.prog X.w) A (setAttr (.ref a) f u) Q E s:=by
 obtain⟨mA,O,r,wi,_,ho⟩:=tH I.bK e
 have hz:(fs.map (·.1)).length≤sizeLine:=by rw [List.length_map,sizeLine_eq]; omega
 refine Lm I.qV O c.sa c.po n.Ys c.hd wi hz fun h' O' sb=>h _ ?_
 have hd:∃o,h'.get? dx=some o:=let ⟨o,_,_,e',_⟩:=O'.ns; ⟨o,e'⟩
 refine I.write (x:=a) (e:=dx) (by rw [e]; exact True.intro) (.inr ho) (fun b q hb z=>(sb.2 b hb).trans z) hd ?_
 refine⟨by rw [ah O.ne]; exact ho,?_,O.ne,O'.obj,_,O'.ns,fun g=>?_,fun g hg=>?_⟩
 ·have:=bZ f y fs; omega
 ·show fQ ((cP f y fs).lookup g) (if g=f then some u else mA g)
  rw [aF]
  by_cases q:g=f
  ·rw [if_pos q,if_pos q]; exact ry
  ·rw [if_neg q,if_neg q]; exact r g
 ·by_cases q:g=f
  ·rw [q]; exact(lx f y fs).1
  ·refine(lx f y fs).2 g (wi g fun z=>hg ?_)
   show(if g=f then some u else mA g)=none
   rw [if_neg q]; exact z
theorem Inv.made (I:Inv X pins σ H s):Inv X pins σ (upd (upd H s.heap.objs.size (.own (s.heap.objs.size+1))) (s.heap.objs.size+1) (.ins C s.heap.objs.size []))
  {s with heap:=(s.heap.push PySem.W.emptyDict).push (PySem.W.instObj C s.heap.objs.size)}:=by
 have e1:(s.heap.push PySem.W.emptyDict).get? s.heap.objs.size=some PySem.W.emptyDict:=Heap.get?_push_size s.heap rfl
 have e2:((s.heap.push PySem.W.emptyDict).push (PySem.W.instObj C s.heap.objs.size)).get? (s.heap.objs.size+1)=some (PySem.W.instObj C s.heap.objs.size):=by
  have:=Heap.get?_push_size (s.heap.push PySem.W.emptyDict) (o:=PySem.W.instObj C s.heap.objs.size) rfl
  rwa [Heap.size_push] at this
 have e3:(s.heap.push PySem.W.emptyDict).Ns s.heap.objs.size (fun _=>none):=⟨PySem.W.emptyDict,#[],_,e1,rfl,(fun e he=>absurd he (by simp)),fun _=>rfl⟩
 have I1:=I.laid (a:=s.heap.objs.size) (o:=.own (s.heap.objs.size+1)) (h':=s.heap.push PySem.W.emptyDict) (t':=s.toks) (fun b u q=>Heap.get?_push_of_some _ q) (Nat.le_refl _) ⟨_,e1⟩
 refine I1.laid (a:=s.heap.objs.size+1) (o:=.ins C s.heap.objs.size []) (t':=s.toks) (fun b u q=>Heap.get?_push_of_some _ q) (Nat.le_of_eq (Heap.size_push _ _)) ?_
 have ne:s.heap.objs.size≠s.heap.objs.size+1:=Nat.ne_of_lt (Nat.lt_succ_self _)
 refine⟨by rw [ah ne,ae],Nat.zero_le _,ne,e2,fun _=>none,(Heap.Ns1.of_empty e3).at fun o q=>Heap.get?_push_of_some _ q,fun _=>True.intro,fun y hy=>absurd rfl hy⟩
theorem Ln {prog:Program}{w:World}{env:Env}{e:Expr}{f:Str}{pos:Pos}{s:Shared}{Q:Value→Shared→Prop}(hb:attributeBase e f env (eval e env)=eval e env)
  (h:wpAny (model prog w) A (eval e env) (fun o s₁=>wpAny (model prog w) A (getAttr o f true) Q E s₁) E s):wpAny (model prog w) A (eval (.Attribute e f pos) env) Q E s:=
 Attribute_any_ h (by rw [arm_eval_Attribute,hb])
end
noncomputable def SE (K:PySem.W.Frag) (ta:TE) (f:Str):TE:=fun σ H Q=>ta σ H fun x H1=>∃a C dx fs v,x=.ref a∧H1 a=some (.ins C dx fs)∧nz K C∧bL K C f∧fs.lookup f=some v∧Q v H1
noncomputable def Yt (K:PySem.W.Frag) (ta tv:TE) (f:Str):TS:=fun D σ H=>tv σ H fun y H1=>ta σ H1 fun x H2=>∃a C dx fs,x=.ref a∧H2 a=some (.ins C dx fs)∧nz K C∧bL K C f∧fs.length < 1000 ∧
 D.nx σ (upd H2 a (.ins C dx (cP f y fs)))
section
variable {X:Cx}{o e value:Expr}{f:Str}{pos pos' SF:Pos}{ta tv:TE}
theorem aY (he:PE X e ta) (hb:attributeBase e f X.env (eval e X.env)=eval e X.env):PE X (.Attribute e f pos) (SE X.K ta f):=by
 intro pins s σ H Q I h
 refine Ln hb (bR (he pins s σ H _ I h) fun u s1 ⟨x,H1,I1,rx,a,C,dx,fs,v,ex,ea,c,n,l,q⟩=>?_)
 subst ex
 obtain rfl:u=Value.ref a:=rx
 exact z7 I1 ea c n l fun u' s2 I2 ru=>⟨v,H1,I2,ru,q⟩
theorem eQ (ha:PE X o ta) (hv:PE X value tv) (hs:swapsWith value (some (.Attribute o f pos')) pos.line X.env=pure false):PS X (.Assign [.Attribute o f pos'] value pos) (Yt X.K ta tv f):=by
 intro pins s σ H D I h
 refine plainObj_wpAny_Assign_Attribute (bR (hv pins s σ H _ I h) fun u s1 ⟨y,H1,I1,ry,q⟩=>bR (ha pins s1 σ H1 _ I1 q) fun ov s2 ⟨x,H2,I2,rx,a,C,dx,fs,ex,ea,c,n,l,q2⟩=>?_) hs
 subst ex
 obtain rfl:ov=Value.ref a:=rx
 exact z8 I2 ea c n l ry fun s3 I3=>⟨σ,_,I3,q2⟩
theorem OJ {pl:Sem Bool}{m:Str}{apos:Pos}{args:List Expr}{pins:List (Addr×Obj)}{s:Shared}{σ:St}{H:Hp}{Q:Value→Shared→Prop}{te:TE}(he:PE X e te) (I:Inv X pins σ H s)
  (h:te σ H fun x H1=>∃a C dx fs g,x=.ref a∧H1 a=some (.ins C dx fs)∧nz X.K C∧Meth X.K C m g∧fs.lookup m=none ∧
   ∀s1,Inv X pins σ H1 s1→wpAny (model X.prog X.w) X.A (callWith pos (.ref g) [.ref a] (backTo pos (starEach args X.env)) (backToKw pos (keywordEach [] X.env))) Q X.xe s1)
  (ht:eval (.Call (.Attribute e m apos) args [] pos) X.env=(do
   let ov ←eval e X.env
   standAt apos.atName
   let (f,first) ←holding [ov] (getMethod ov m pl)
   callWith pos f first (backTo pos (starEach args X.env)) (backToKw pos (keywordEach [] X.env)))) :
  wpAny (model X.prog X.w) X.A (eval (.Call (.Attribute e m apos) args [] pos) X.env) Q X.xe s:=by
 refine PySem.W.methodCall_KW (pl:=pl) (bR (he pins s σ H _ I h) fun u s1 ⟨x,H1,I1,rx,a,C,dx,fs,g,ex,ea,c,k,l,q⟩=>?_) ht
 subst ex
 obtain rfl:u=Value.ref a:=rx
 exact eO I1 ea c k l (q s1 I1)
end
section
variable {X:Cx}{pins:List (Addr×Obj)}{σ:St}{H:Hp}{s:Shared}{A:Around}{E:Value→Shared→Prop}{Q:Value→Shared→Prop}{c:Value}{b:Bool}
inductive mF (K:PySem.W.Frag) (H:Hp):V→Value→Prop where
 | aP:mF K H .aP (.type "NoneType")
 | bl (x:Bool):mF K H (.bl x) (.type "bool")
 | int (i:Int):mF K H (.int i) (.type "int")
 | str (x:Str):mF K H (.str x) (.type "str")
 | XH (x:UInt64):mF K H (.XH x) (.type "float")
 | lst {a:Addr}{xs:List V}(e:H a=some (.lst xs)):mF K H (.ref a) (.type "list")
 | d7 {a:Addr}{o:Obj}{xs:List V}(e:H a=some (.d7 o (.lst xs))):mF K H (.ref a) (.type "list")
 | tup {a:Addr}{xs:List V}(e:H a=some (.tup xs)):mF K H (.ref a) (.type "tuple")
 | dK {a:Addr}{kvs:List (Key×V)}(e:H a=some (.dK kvs)):mF K H (.ref a) (.type "dict")
 | dT {a:Addr}{kvs:List (List Key×V)}(e:H a=some (.dT kvs)):mF K H (.ref a) (.type "dict")
 | ins {a C dx:Addr}{fs:List (Str×V)}(e:H a=some (.ins C dx fs)) (cl:nz K C) (ha:PySem.W.findIn K (.ref C) "__class__"=some (some (.builtin "object.__class__")))
   (hn:PySem.W.specialIn K (.builtin "object.__class__") "__get__"=some (some (.builtin "getset_descriptor.__get__"))) (htk:PySem.W.takesIn K (.builtin "object.__class__")=some true)
   (hm:PySem.W.mroIn K C (.type "object")=some true):mF K H (.ref a) (.ref C)
end
end L2
namespace L2
open PySem PySem.Spec PyProof.Rows
structure c7 (k:Nat) (A:Around):Prop where
 hd:A.handled=none
 dp:A.depth+3*k+5 < recursionLimit
 un:A.units+16*k+200 < cLine
theorem c7.mono {j k:Nat}{A:Around}(r:c7 k A) (h:j≤k):c7 j A:=⟨r.hd,by have:=r.dp; omega,by have:=r.un; omega⟩
theorem c7.deeper {k:Nat}{A:Around}(r:c7 (k+1) A) (env:Env):c7 k (A.deeper env):=
 ⟨r.hd,by have:=r.dp; show A.depth+1+3*k+5 < _; omega,by have:=r.un; show A.units+3+16*k+200 < _; omega⟩
theorem c7.in1 {k:Nat}{A:Around}(r:c7 (k+1) A):c7 k A.in1:=
 ⟨r.hd,by have:=r.dp; show A.depth+3*k+5 < _; omega,by have:=r.un; show A.units+1+16*k+200 < _; omega⟩
theorem z9 {A:Around}{C:Addr}{us:List Value}{kw:List (Str×Value)}:(A.under (.builtin "type.__call__" ⟨.ref C::us,kw⟩)).depth=A.depth+1:=by
 first | rfl | simp [Around.under,Code.weight,Code.isCreation,Code.isGuard,Code.isCaller,Code.frames,Code.isFrame,guardIds]
theorem z_ {A:Around}{C:Addr}{us:List Value}{kw:List (Str×Value)}:(A.under (.builtin "type.__call__" ⟨.ref C::us,kw⟩)).units=A.units+1:=by
 first | rfl | simp [Around.under,Code.cUnits,Code.frames,Code.isFrame]
theorem c7.make {k:Nat}{A:Around}(r:c7 (k+1) A) (C:Addr) (us:List Value) (kw:List (Str×Value)):c7 k (A.under (.builtin "type.__call__" ⟨.ref C::us,kw⟩)):=
 ⟨r.hd,by have:=r.dp; rw [z9]; omega,by have:=r.un; rw [z_]; omega⟩
theorem c7.depth {k:Nat}{A:Around}(r:c7 k A):A.depth < recursionLimit:=by have:=r.dp; omega
theorem c7.units {k:Nat}{A:Around}(r:c7 k A):A.units+64 < cLine:=by have:=r.un; omega
noncomputable def CZ:TA:=fun _ H Q=>Q [] H
noncomputable def BZ (ta:TE) (tr:TA):TA:=fun σ H Q=>ta σ H fun x H1=>tr σ H1 fun xs H2=>Q (x::xs) H2
section
variable {X:Cx}{e:Expr}{es:List Expr}{te:TE}{t:TA}{pos:Pos}
theorem ag:PA X [] CZ:=fun _ _ _ _ H Q I h=>Calls.spliced_nil ⟨[],H,I,.nil,h⟩
theorem aa (ha:PE X e te) (hr:PA X es t) (hs:starEach (e::es) X.env=(false,eval e X.env)::starEach es X.env:=by rfl):PA X (e::es) (BZ te t):=by
 intro pos pins s σ H Q I h
 rw [hs]
 show wpAny _ _ (spliced ((false,eval e X.env)::backTo pos (starEach es X.env))) _ _ s
 refine Calls.spliced_cons (bR (ha pins s σ H _ I h) fun u s1 ⟨x,H1,I1,r1,q1⟩=>?_)
 exact bR (hr pos pins s1 σ H1 _ I1 q1) fun us s2 ⟨xs,H2,I2,r2,q2⟩=>⟨x::xs,H2,I2,.cons r1 r2,q2⟩
noncomputable def Yu (t:TA):TE:=fun σ H Q=>t σ H fun xs H1=>xs.length≤sizeLine∧∀p,H1 p=none→Q (.ref p) (upd H1 p (.tup xs))
noncomputable def Yv (t:TA):TE:=fun σ H Q=>t σ H fun xs H1=>xs.length≤sizeLine∧∀p,H1 p=none→Q (.ref p) (upd H1 p (.lst xs))
theorem dA {x1} (h:PA X es t):PE X (.Tuple es x1 pos) (Yu t):=by
 intro pins s σ H Q I hq
 refine wpAny_Tuple_spliced (bR (h pos pins s σ H _ I hq) fun us s1 ⟨xs,H1,I1,r,z,q⟩=>⟨by rw [←r.length]; exact z,?_⟩)
 have hf:H1 s1.heap.objs.size=none:=I1.bK.fresh (Nat.le_refl _)
 refine⟨.ref s1.heap.objs.size,upd H1 s1.heap.objs.size (.tup xs),I1.laid (t':=s1.toks) (fun b u e=>Heap.get?_push_of_some _ e) (Nat.le_refl _) ?_,rfl,q _ hf⟩
 exact⟨z,us,r,⟨_,Heap.get?_push_size _ rfl,rfl,_,rfl⟩⟩
theorem cE (h:PA X es t):PE X (.List es pos) (Yv t):=by
 intro pins s σ H Q I hq
 refine wpAny_List_spliced (bR (h pos pins s σ H _ I hq) fun us s1 ⟨xs,H1,I1,r,z,q⟩=>⟨by rw [←r.length]; exact z,?_⟩)
 have hf:H1 s1.heap.objs.size=none:=I1.bK.fresh (Nat.le_refl _)
 refine⟨.ref s1.heap.objs.size,upd H1 s1.heap.objs.size (.lst xs),I1.laid (t':=s1.toks) (fun b u e=>Heap.get?_push_of_some _ e) (Nat.le_refl _) ?_,rfl,q _ hf⟩
 exact⟨z,us,0,r,Heap.get?_push_size _ rfl⟩
end
noncomputable abbrev Sp:=List V→Hp→VK→XK→Prop
noncomputable abbrev vk:=List Env→Hp→Shared→XK→Value→Shared→Prop
structure vm (P:Program) (w:World) (K:PySem.W.Frag) (mg:Str→Option Value) (base:Heap) (A:Around) (outer:List Env) (s:Shared) (H:Hp):Prop where
 frames:A.frames=some outer
 mod:Mod K mg base
 bs:∀b o,base.get? b=some o→s.heap.get? b=some o∧H b=none
 Er:base.objs.size≤s.heap.objs.size
 la:s.heap.FunFrames base outer
 Om:∀b∈BV outer,H b=none
 bK:js P w H s.heap
 bare:AllBare s.gens
noncomputable def CE (outer:List Env) (P:Program) (w:World) (H:Hp) (s:Shared) (Q:VK) (u:Value) (s':Shared):Prop:=
 ∃v H',s'.os=s.os∧AllBare s'.gens∧Un (BV outer) [] H H' s.heap s'.heap∧js P w H' s'.heap∧RelV v u∧Q v H'
noncomputable def CR (CX:vk) (outer:List Env) (P:Program) (w:World) (H:Hp) (s:Shared) (Q:VK) (E:XK) (r:Result) (s':Shared):Prop:=
 match r with
 | .ok (.ret u)=>CE outer P w H s Q u s'
 | .ok _=>False
 | .error e=>CX outer H s E e s'
structure aN (P:Program) (w:World) (K:PySem.W.Frag) (mg:Str→Option Value) (base:Heap) (CX:vk) (k:Nat) (f:Addr) (fd:FuncData) (ps:List Str) (sp:Sp):Prop where
 len:∀vs H Q E,sp vs H Q E→vs.length=ps.length
 run:∀(A:Around) (outer:List Env) (s:Shared) (H:Hp) (args:Args) (us:List Value) (vs:List V) (Q:VK) (E:XK),c7 k A→vm P w K mg base A outer s H→BindsTo s fd args (ps.zip us)→Vals vs us→sp vs H Q E →
  codeAny (model P w) A (.call (.ref f) args) (CR CX outer P w H s Q E) s
theorem vm.make {P:Program}{w:World}{K:PySem.W.Frag}{mg:Str→Option Value}{base:Heap}{A:Around}{outer:List Env}{s:Shared}{H:Hp}(e:vm P w K mg base A outer s H) (C:Addr) (us:List Value) (kw:List (Str×Value)) :
  vm P w K mg base (A.under (.builtin "type.__call__" ⟨.ref C::us,kw⟩)) outer s H:=⟨by first | exact e.frames | (simpa [Around.under,Code.envs,Code.isFrame,pushEnvs] using e.frames),e.mod,e.bs,e.Er,e.la,e.Om,e.bK,e.bare⟩
section
variable {X:Cx}{pins:List (Addr×Obj)}{σ:St}{H:Hp}{s s':Shared}
theorem Inv.Yw (I:Inv X pins σ H s):vm X.prog X.w X.K X.mg X.base X.A X.stack s H:=
 ⟨I.ok.frames,I.ok.mod,I.bs,Nat.le_trans I.ok.Er I.sz,I.stack,I.tj,I.bK,I.bare⟩
theorem Inv.after {Q:VK}{u:Value}(I:Inv X pins σ H s) (h:CE X.stack X.prog X.w H s Q u s'):EP X pins σ Q u s':=by
 obtain⟨v,H',os,bare,un,bK,r,q⟩:=h
 obtain⟨hh,g,d,t,os'⟩:=s'
 obtain rfl:os'=s.os:=os
 exact⟨v,H',I.call (h':=hh) (g':=g) (d':=d) (t':=t) (ch:=[]) un bK bare (fun b z=>absurd z (by simp)),r,q⟩
end
noncomputable def EI (sp:Sp) (fR:List V) (E:XK) (t:TA):TE:=fun σ H Q=>t σ H fun vs H1=>sp (vs++fR) H1 Q E
noncomputable def EJ (C:Addr) (m:Str) (sp:Sp) (fR:List V) (E:XK) (ta:TE) (t:TA):TE:=fun σ H Q=>ta σ H fun x H1=>∃a dx fs,x=.ref a∧H1 a=some (.ins C dx fs)∧fs.lookup m=none ∧
 t σ H1 fun vs H2=>sp (x::(vs++fR)) H2 Q E
noncomputable def OK (C:Addr) (sp:Sp) (fR:List V) (E:XK) (t:TA):TE:=fun σ H Q=>t σ H fun vs H1=>∀x dx,H1 x=none→H1 dx=none→dx≠x →
 sp (.ref x::(vs++fR)) (upd (upd H1 dx (.own x)) x (.ins C dx [])) (fun v H2=>v=.aP∧Q (.ref x) H2) E
noncomputable def Binds (K:PySem.W.Frag) (fd:FuncData) (ps:List Str) (ds:List Value):Prop:=
 ∀(s:Shared) (us:List Value),K.In s.heap→(us++ds).length=ps.length→BindsTo s fd ⟨us,[]⟩ (ps.zip (us++ds))
theorem Binds.all {K:PySem.W.Frag}{fd:FuncData}{ps:List Str}(h:∀us:List Value,us.length=ps.length→bindArgs fd ⟨us,[]⟩=pure (ps.zip us)):Binds K fd ps []:=fun s us _ hl=>by
 rw [List.append_nil] at hl ⊢
 exact .of_eq (h us hl)
noncomputable def Passes (CX:vk) (X:Cx) (E:XK):Prop:=∀(pins:List (Addr×Obj)) (σ:St) (H:Hp) (s:Shared) (e:Value) (s':Shared),Inv X pins σ H s→CX X.stack H s E e s'→X.xe e s'
section
variable {X:Cx}{CX:vk}{k:Nat}{f C:Addr}{fd:FuncData}{ps:List Str}{sp:Sp}{fR:List V}{ds:List Value}{E:XK}{x m:Str}{p pos apos:Pos}{e o:Expr}{es:List Expr}{ta:TE}{t:TA}
theorem ly {pins:List (Addr×Obj)}{σ:St}{H:Hp}{s:Shared}{Q:VK}{us:List Value}{vs:List V}(F:aN X.prog X.w X.K X.mg X.base CX k f fd ps sp) (hr:c7 k X.A) (hb:Binds X.K fd ps ds) (hd:Vals fR ds) (hx:Passes CX X E)
  (I:Inv X pins σ H s) (r:Vals vs us) (h:sp (vs++fR) H Q E):wpAny (model X.prog X.w) X.A (call (.ref f) us) (EP X pins σ Q) X.xe s:=by
 have r2:Vals (vs++fR) (us++ds):=r.append hd
 have hl:(us++ds).length=ps.length:=by rw [←r2.length]; exact F.len _ _ _ _ h
 refine wpAny_call (codeAny_mono (F.run X.A X.stack s H ⟨us,[]⟩ (us++ds) (vs++fR) Q E hr I.Yw (hb s us I.qV hl) r2 h) fun r s' hq=>?_)
 cases r with
 | error e=>exact hx pins σ H s e s' I hq
 | ok fl=>
  cases fl with
  | ret u=>exact I.after hq
  | next=>exact False.elim hq
  | brk=>exact False.elim hq
  | cont=>exact False.elim hq
theorem aH (F:aN X.prog X.w X.K X.mg X.base CX k f fd ps sp) (hr:c7 k X.A) (hg:Gl X x) (hm:X.mg x=some (.ref f)) (hk:PySem.W.keepIn X.K (.ref f)=true) (hb:Binds X.K fd ps ds) (hd:Vals fR ds) (hx:Passes CX X E)
  (ha:PA X (e::es) t) (SG:(x == ("__debug__":Str))=false:=by decide) (he:starEach (e::es) X.env=(false,eval e X.env)::starEach es X.env:=by rfl) (nU:(backTo pos (starEach es X.env)).any (·.1)=false:=by rfl) :
  PE X (.Call (.Name x p) (e::es) [] pos) (EI sp fR E t):=by
 intro pins s σ H Q I h
 refine wpAny_Call_Name_kw (tw I hg hm ?_ SG)
 refine PySem.W.callWith_K (h₀:=X.base) I.ok.mod.Sm hk (bR (ha pos pins s σ H _ I h) fun us s1 ⟨vs,H1,I1,r,q⟩=>⟨I1.qV,?_⟩) he nU
 exact ly F hr hb hd hx I1 r q
theorem aI {pl:Sem Bool}(he:PE X o ta) (c:nz X.K C) (hm:Meth X.K C m f) (F:aN X.prog X.w X.K X.mg X.base CX k f fd ps sp) (hr:c7 k X.A) (hb:Binds X.K fd ps ds) (hd:Vals fR ds) (hx:Passes CX X E) (ha:PA X (e::es) t)
  (k_:starEach (e::es) X.env=(false,eval e X.env)::starEach es X.env:=by rfl) (nU:(backTo pos (starEach es X.env)).any (·.1)=false:=by rfl)
  (ht:eval (.Call (.Attribute o m apos) (e::es) [] pos) X.env=(do
   let ov ←eval o X.env
   standAt apos.atName
   let (f,first) ←holding [ov] (getMethod ov m pl)
   callWith pos f first (backTo pos (starEach (e::es) X.env)) (backToKw pos (keywordEach [] X.env))):=by rfl) :
  PE X (.Call (.Attribute o m apos) (e::es) [] pos) (EJ C m sp fR E ta t):=by
 intro pins s σ H Q I h
 refine PySem.W.methodCall_KW (pl:=pl) (bR (he pins s σ H _ I h) fun u s1 ⟨x,H1,I1,rx,a,dx,fs,ex,ea,l,q⟩=>?_) ht
 subst ex
 obtain rfl:u=Value.ref a:=rx
 refine eO I1 ea c hm l ?_
 refine PySem.W.callWith_K (first:=[.ref a]) (h₀:=X.base) I.ok.mod.Sm hm.kp (bR (ha pos pins s1 σ H1 _ I1 q) fun us s2 ⟨vs,H2,I2,r,q2⟩=>⟨I2.qV,?_⟩) k_ nU
 exact ly (us:=.ref a::us) (vs:=.ref a::vs) F hr hb hd hx I2 (.cons rfl r) q2
theorem c4 {pl:Sem Bool}(he:PE X o ta) (c:nz X.K C) (hm:Meth X.K C m f) (F:aN X.prog X.w X.K X.mg X.base CX k f fd ps sp) (hr:c7 k X.A) (hb:Binds X.K fd ps ds) (hd:Vals fR ds) (hx:Passes CX X E)
  (ht:eval (.Call (.Attribute o m apos) [] [] pos) X.env=(do
   let ov ←eval o X.env
   standAt apos.atName
   let (f,first) ←holding [ov] (getMethod ov m pl)
   callWith pos f first (backTo pos (starEach [] X.env)) (backToKw pos (keywordEach [] X.env))):=by rfl) :
  PE X (.Call (.Attribute o m apos) [] [] pos) (EJ C m sp fR E ta CZ):=by
 intro pins s σ H Q I h
 refine PySem.W.methodCall_KW (pl:=pl) (bR (he pins s σ H _ I h) fun u s1 ⟨x,H1,I1,rx,a,dx,fs,ex,ea,l,q⟩=>?_) ht
 subst ex
 obtain rfl:u=Value.ref a:=rx
 refine eO I1 ea c hm l ?_
 exact PySem.W.callWith_K0 (first:=[.ref a]) I1.qV hm.kp (ly (us:=[.ref a]) (vs:=[.ref a]) F hr hb hd hx I1 (.cons rfl .nil) q)
structure Mk (K:PySem.W.Frag) (C f:Addr):Prop where
 makes:PySem.W.makesIn K C=true
 init:PySem.W.findIn K (.ref C) "__init__"=some (some (.ref f))
 fn:PySem.W.isFn K (.ref f)=true
 kp:PySem.W.keepIn K (.ref C)=true
theorem EK {pins:List (Addr×Obj)}{σ:St}{H:Hp}{s:Shared}{Q:VK}{us:List Value}{vs:List V}(M:Mk X.K C f) (F:aN X.prog X.w X.K X.mg X.base CX k f fd ps sp) (hr:c7 (k+1) X.A) (hb:Binds X.K fd ps ds) (hd:Vals fR ds)
  (hx:Passes CX X E) (I:Inv X pins σ H s) (r:Vals vs us)
  (h:∀x dx,H x=none→H dx=none→dx≠x→sp (.ref x::(vs++fR)) (upd (upd H dx (.own x)) x (.ins C dx [])) (fun v H2=>v=.aP∧Q (.ref x) H2) E) :
  wpAny (model X.prog X.w) X.A (call (.ref C) us) (EP X pins σ Q) X.xe s:=by
 have hq:=h (s.heap.objs.size+1) s.heap.objs.size (I.bK.fresh (Nat.le_succ _)) (I.bK.fresh (Nat.le_refl _)) (Nat.ne_of_lt (Nat.lt_succ_self _))
 have I2:=Inv.made (C:=C) I
 have r2:Vals (V.ref (s.heap.objs.size+1)::(vs++fR)) (Value.ref (s.heap.objs.size+1)::(us++ds)):=.cons rfl (r.append hd)
 have hl:(Value.ref (s.heap.objs.size+1)::us++ds).length=ps.length:=by
  have e:=r2.length
  rw [F.len _ _ _ _ hq] at e
  exact e.symm
 refine wpAny_call (EH (f:=f) I.qV M.makes M.init (beq_iff_eq.mp M.fn) (codeAny_mono (F.run _ X.stack _ _ ⟨Value.ref (s.heap.objs.size+1)::us,[]⟩ (Value.ref (s.heap.objs.size+1)::(us++ds)) _ _ E (hr.make C us [])
  (I2.Yw.make C us []) (hb _ (Value.ref (s.heap.objs.size+1)::us) I2.qV hl) r2 hq) fun r s' SH=>?_))
 cases r with
 | error e=>exact hx pins σ _ _ e s' I2 SH
 | ok fl=>
  cases fl with
  | ret u=>
   obtain⟨v,H',I3,rv,ev,q3⟩:=I2.after SH
   subst ev
   exact⟨rv,⟨V.ref (s.heap.objs.size+1),H',I3,rfl,q3⟩⟩
  | next=>exact False.elim SH
  | brk=>exact False.elim SH
  | cont=>exact False.elim SH
theorem dZ (M:Mk X.K C f) (F:aN X.prog X.w X.K X.mg X.base CX k f fd ps sp) (hr:c7 (k+1) X.A) (hg:Gl X x) (hm:X.mg x=some (.ref C)) (hb:Binds X.K fd ps ds) (hd:Vals fR ds) (hx:Passes CX X E)
  (ha:PA X (e::es) t) (SG:(x == ("__debug__":Str))=false:=by decide) (he:starEach (e::es) X.env=(false,eval e X.env)::starEach es X.env:=by rfl) (nU:(backTo pos (starEach es X.env)).any (·.1)=false:=by rfl) :
  PE X (.Call (.Name x p) (e::es) [] pos) (OK C sp fR E t):=by
 intro pins s σ H Q I h
 refine wpAny_Call_Name_kw (tw I hg hm ?_ SG)
 refine PySem.W.callWith_K (h₀:=X.base) I.ok.mod.Sm M.kp (bR (ha pos pins s σ H _ I h) fun us s1 ⟨vs,H1,I1,r,q⟩=>⟨I1.qV,?_⟩) he nU
 exact EK M F hr hb hd hx I1 r q
end
section
variable {X:Cx}{CX:vk}{k:Nat}{f C:Addr}{fd:FuncData}{ps ks:List Str}{sp:Sp}{E:XK}{x m:Str}{p pos apos agA:Pos}{e o:Expr}{es:List Expr}{SI:List Keyword}{te ta:TE}{t tk:TA}{nm:Option Str}
structure aec (K:PySem.W.Frag) (fd:FuncData) (ps ks:List Str) (g:List Value→List Value→List Value) (gV:List V→List V→List V):Prop where
 to:∀(s:Shared) (us ws:List Value),K.In s.heap→(g us ws).length=ps.length→BindsTo s fd ⟨us,ks.zip ws⟩ (ps.zip (g us ws))
 rel:∀{vs:List V}{us:List Value}{zs:List V}{ws:List Value},Vals vs us→Vals zs ws→Vals (gV vs zs) (g us ws)
variable {g:List Value→List Value→List Value}{gV:List V→List V→List V}
end
structure ao (N P:List Str) (sc:Scope):Prop where
 kind:sc.kind=.function
 co:sc.isCoroutine=false
 gen:sc.isGenerator=false
 nd:N.Nodup
 pre:N.take P.length=P
 par:∀x∈P,sc.names.lookup x=some .local∨sc.names.lookup x=some .cell
 SJ:∀y∈sc.names,y.2≠.free
theorem rb {kindOf:Str→Option NameKind}{x:Str}:∀{binds:List (Str×Value)}{m:Str→Option Value},(∀v,(x,v)∉binds)→bindL kindOf binds m x=m x
 | [],_,_=>rfl
 | (n,v)::r,m,h=>by
  unfold bindL
  rw [rb fun w hw=>h w (List.mem_cons_of_mem _ hw)]
  split
  ·have:x≠n:=by rintro rfl; exact h v List.mem_cons_self
   simp [this]
  ·rfl
theorem rg {kindOf:Str→Option NameKind}{x:Str}:∀{binds:List (Str×Value)}{m:Str→Option Value},(∀v,(x,v)∉binds)→bindC kindOf binds m x=m x
 | [],_,_=>rfl
 | (n,v)::r,m,h=>by
  unfold bindC
  rw [rg fun w hw=>h w (List.mem_cons_of_mem _ hw)]
  split
  ·rfl
  ·have:x≠n:=by rintro rfl; exact h v List.mem_cons_self
   simp [this]
theorem rh {kindOf:Str→Option NameKind}{x:Str}{v:Value}:∀{P:List Str}{vs:List Value}{i:Nat}{m:Str→Option Value},P.Nodup→P[i]?=some x→vs[i]?=some v→kindOf x=some .local →
  bindL kindOf (P.zip vs) m x=some v
 | [],_,_,_,_,h,_,_=>by simp at h
 | _::_,[],_,_,_,_,h,_=>by simp at h
 | p::P,w::vs,0,m,nd,h1,h2,hk=>by
  simp at h1 h2; subst h1; subst h2
  show bindL kindOf ((p,w)::P.zip vs) m p=_
  unfold bindL
  rw [rb fun v hv=>(List.nodup_cons.mp nd).1 (List.of_mem_zip hv).1,if_pos hk]
  simp
 | p::P,w::vs,i+1,m,nd,h1,h2,hk=>by
  show bindL kindOf ((p,w)::P.zip vs) m x=_
  unfold bindL
  exact rh (i:=i) (List.nodup_cons.mp nd).2 (by simpa using h1) (by simpa using h2) hk
theorem rj {kindOf:Str→Option NameKind}{x:Str}{v:Value}:∀{P:List Str}{vs:List Value}{i:Nat}{m:Str→Option Value},P.Nodup→P[i]?=some x→vs[i]?=some v→kindOf x≠some .local →
  bindC kindOf (P.zip vs) m x=some v
 | [],_,_,_,_,h,_,_=>by simp at h
 | _::_,[],_,_,_,_,h,_=>by simp at h
 | p::P,w::vs,0,m,nd,h1,h2,hk=>by
  simp at h1 h2; subst h1; subst h2
  show bindC kindOf ((p,w)::P.zip vs) m p=_
  unfold bindC
  rw [rg fun v hv=>(List.nodup_cons.mp nd).1 (List.of_mem_zip hv).1,if_neg hk]
  simp
 | p::P,w::vs,i+1,m,nd,h1,h2,hk=>by
  show bindC kindOf ((p,w)::P.zip vs) m x=_
  unfold bindC
  exact rj (i:=i) (List.nodup_cons.mp nd).2 (by simpa using h1) (by simpa using h2) hk
noncomputable def start (N:List Str) (vs:List V):St:=vs.map some++List.replicate (N.length - vs.length) none
noncomputable def vo (CX:vk) (P:Program) (w:World) (K:PySem.W.Frag) (mg:Str→Option Value) (base:Heap) (N:List Str) (qual:Str) (scope:Scope) (f:Addr) (cd:Value) (A:Around) (outer:List Env) (s:Shared) (H:Hp) (E:XK):Cx where
 prog:=P
 w:=w
 K:=K
 mg:=mg
 base:=base
 A:=A.deeper (envOfC qual scope s.heap.objs.size f cd)
 N:=N
 s₀:=s
 H₀:=H
 env:=envOfC qual scope s.heap.objs.size f cd
 outer:=outer
 stack:=envOfC qual scope s.heap.objs.size f cd::outer
 ex:=[]
 calm:=true
 fn:=fun _=>true
 pn:=[]
 xe:=fun e s'=>wpAny (model P w) (A.deeper (envOfC qual scope s.heap.objs.size f cd)) (leaving (envOfC qual scope s.heap.objs.size f cd) e) (fun _ s''=>CX outer H s E e s'') (fun e' s''=>CX outer H s E e' s'') s'
theorem vq {sc:Scope}{n:Nat}{x:Str}(h:sc.names.lookup x=some .cell):∃c,(cellsFrom n sc.names []).lookup x=some c:=by
 have q:=PySem.W.cellsFrom_some sc.names n [] (.inl h)
 exact Option.isSome_iff_exists.mp q
theorem C0 {CX:vk}{P:Program}{w:World}{K:PySem.W.Frag}{mg:Str→Option Value}{base:Heap}{N ps:List Str}{qual:Str}{scope:Scope}{f:Addr}{cd:Value}{A:Around}{outer:List Env}{s s1:Shared}{H:Hp}{E:XK}{us:List Value}{vs:List V}
  (S:ao N ps scope) (hd:A.handled=none) (e0:vm P w K mg base A outer s H) (hl:vs.length=ps.length) (r:Vals vs us)
  (x:InCallC s s.heap.objs.size (bindL (envOfC qual scope s.heap.objs.size f cd).kindOf (ps.zip us) fun _=>none) (cellsFrom (s.heap.objs.size+1) scope.names []) (bindC (envOfC qual scope s.heap.objs.size f cd).kindOf (ps.zip us) fun _=>none) s1) :
  Inv (vo CX P w K mg base N qual scope f cd A outer s H E) [] (start N vs) H s1:=by
 have nU:ps.length≤N.length:=by have:=congrArg List.length S.pre; rw [List.length_take] at this; omega
 obtain⟨h1,tk,rfl,hk⟩:=x.done
 have noA:∀b:Addr,b∉(vo CX P w K mg base N qual scope f cd A outer s H E).ex:=fun b z=>absurd (show b∈([]:List Addr) from z) (by simp)
 refine⟨⟨e0.mod,S.kind,rfl,rfl,Nat.le_refl _,fun y z c h1 h2=>?_,fun y hy=>?_,fun y c _ h=>?_,fun _=>hd,Around.frames_deeper e0.frames,.inr ⟨rfl,rfl⟩,fun b z=>absurd z (noA b),e0.bs,e0.Er,fun b _ _=>noA b,fun b z=>absurd z (noA b),e0.la,e0.Om⟩,
  rfl,e0.bare,Un.kept hk,⟨_,x.toInCall.ns,fun i y v h1 h2 h3=>?_⟩,fun y c h=>⟨_,x.cell y c h⟩,e0.bK.fresh (Nat.le_refl _),fun y c h=>?_,fun p hp=>absurd (show p∈([]:List (Addr×Obj)) from hp) (by simp),e0.bK.kept hk,?_⟩
 ·exact name_of_addr x.apart (PySem.mem_of_lookup h1) (PySem.mem_of_lookup h2)
 ·have hy:scope.names.lookup y=some .cell∨scope.names.lookup y=some .free:=hy
  rcases hy with hy | hy
  ·exact vq hy
  ·exact absurd rfl (S.SJ _ (PySem.mem_of_lookup hy))
 ·exact Nat.le_of_lt (x.above y c (PySem.mem_of_lookup h))
 ·have hi:i < vs.length:=by
   unfold start at h2
   by_cases hi:i < vs.length
   ·exact hi
   ·rw [List.getElem?_append_right (by simpa using hi)] at h2
    rw [List.getElem?_replicate] at h2
    split at h2 <;> cases h2
  have ha:vs[i]?=some v:=by
   unfold start at h2
   rw [List.getElem?_append_left (by simpa using hi),List.getElem?_map] at h2
   cases e:vs[i]? with
   | none=>rw [e] at h2; cases h2
   | some a=>rw [e] at h2; cases h2; rfl
  obtain⟨u,hu,rv⟩:=r.get ha
  have hp:ps[i]?=some y:=by
   rw [←S.pre,List.getElem?_take_of_lt (by omega)]; exact h1
  have ndP:ps.Nodup:=by rw [←S.pre]; exact S.nd.sublist (List.take_sublist _ _)
  refine⟨u,rv,?_⟩
  rcases S.par y (List.mem_of_getElem? hp)with k | k
  ·exact .inl ⟨k,rh ndP hp hu k⟩
  ·obtain⟨c,e⟩:=vq (n:=s.heap.objs.size+1) k
   refine .inr ⟨.inl k,c,e,?_⟩
   have q:=x.cell y c e
   rw [rj ndP hp hu (by show scope.names.lookup y≠_; rw [k]; decide)] at q
   exact q
 ·exact e0.bK.fresh (Nat.le_of_lt (x.above y c (PySem.mem_of_lookup h)))
 ·unfold start
  show _=N.length
  rw [List.length_append,List.length_map,List.length_replicate]
  omega
theorem OL {CX:vk}{P:Program}{w:World}{K:PySem.W.Frag}{mg:Str→Option Value}{base:Heap}{k:Nat}{f:Addr}{name qual:Str}{params:Arguments}{body:List Stmt}{scope:Scope}{dV kV doc pm bI ct oc:Value}{an od:Option Addr}
  {EL:Array (Option Value)}{N ps:List Str}{sp:Sp}(lk:K.lookup f=some ⟨oc,od,.func (PySem.W.fnOf name qual params body scope dV kV doc pm an bI ct),EL⟩) (ve:PySem.W.codeIn K bI qual=true) (S:ao N ps scope)
  (len:∀vs H Q E,sp vs H Q E→vs.length=ps.length)
  (vt:∀(A:Around) (outer:List Env) (s:Shared) (H:Hp) (vs:List V) (Q:VK) (E:XK),c7 k (A.deeper (envOfC qual scope s.heap.objs.size f bI))→sp vs H Q E →
   ∃t,tu (vo CX P w K mg base N qual scope f bI A outer s H E) body t∧t {nx:=fun _ H'=>Q .aP H',rt:=Q} (start N vs) H) :
  aN P w K mg base CX (k+1) f (PySem.W.fnOf name qual params body scope dV kV doc pm an bI ct) ps sp:=by
 refine⟨len,fun A outer s H args us vs Q E hr e0 hb r KY=>?_⟩
 have hl:=len _ _ _ _ KY
 have KX:K.In s.heap:=e0.mod.Sm.keeps fun b o e=>(e0.bs b o e).1
 have lim:s.heap.NoLimit:=e0.mod.nolimit.keeps fun b o e=>(e0.bs b o e).1
 have Yx:∀y∈ps.zip us,scope.names.lookup y.1=some .local∨(scope.names.lookup y.1=some .cell∧((cellsFrom (s.heap.objs.size+1) scope.names []).lookup y.1).isSome=true):=fun⟨n,v⟩ hy=>by
  rcases S.par n (List.of_mem_zip hy).1 with q | q
  ·exact .inl q
  ·exact .inr ⟨q,PySem.W.cellsFrom_some _ _ _ (.inl q)⟩
 refine codeAny_call_function hr.depth (KX _ _ lk) rfl S.co S.gen rfl (PySem.W.codeRec_of KX ve) (hb _ _ _ _ ?_)
 refine wpAny_newFunctionEnv_cells S.kind Yx fun env he s1 x=>?_
 subst he
 refine⟨lim.keeps x.toInCall.keep,codeAny_func ?_⟩
 obtain⟨t,ht,hq⟩:=vt A outer s H vs Q E (hr.deeper _) KY
 have I:Inv (vo CX P w K mg base N qual scope f bI A outer s H E) [] (start N vs) H s1:=C0 S hr.hd e0 hl r x
 refine wpAny_mono (ht [] s1 (start N vs) H _ I hq) (fun fl s' hs=>?_) fun e s' hs=>hs
 have fin:∀{σ':St}{H':Hp}{v:V}{u:Value},Inv (vo CX P w K mg base N qual scope f bI A outer s H E) [] σ' H' s'→RelV v u→Q v H'→CE outer P w H s Q u s':=
  fun {σ' H' v u} J rv q=>⟨v,H',J.os,J.bare,J.base,J.bK,rv,q⟩
 cases fl with
 | ret u=>
  obtain⟨v,σ',H',J,rv,q⟩:=hs
  exact fin J rv q
 | next=>
  obtain⟨σ',H',J,q⟩:=hs
  exact fin (v:=V.aP) (u:=Value.none) J rfl q
 | brk=>
  obtain⟨_,_,_,q⟩:=hs
  exact False.elim q
 | cont=>
  obtain⟨_,_,_,q⟩:=hs
  exact False.elim q
end L2
namespace L2
open PySem PySem.Spec PyProof.Rows
section
variable {X:Cx}{x:Str}{p pos:Pos}{e:Expr}{es:List Expr}{t:TA}{id T:String}{r:List V→Hp→VK→Prop}
noncomputable def tCB (r:List V→Hp→VK→Prop) (t:TA):TE:=fun σ H Q=>t σ H fun vs H1=>r vs H1 Q
theorem bJ (hc:jV X (.builtin id) r) (hg:Gl X x) (hm:X.mg x=none) (hv:bootBuiltins x=some (.builtin id)) (ha:PA X (e::es) t) (hn:x≠"__name__":=by decide) (SG:(x == ("__debug__":Str))=false:=by decide)
  (he:starEach (e::es) X.env=(false,eval e X.env)::starEach es X.env:=by rfl) (nU:(backTo pos (starEach es X.env)).any (·.1)=false:=by rfl):PE X (.Call (.Name x p) (e::es) [] pos) (tCB r t):=by
 intro pins s σ H Q I h
 refine wpAny_Call_Name_kw (lg I hg hm hv ?_ hn SG)
 exact PyProof.Rows.callWith_builtin1 (bR (ha pos pins s σ H _ I h) fun us s1 ⟨vs,H1,I1,r1,q1⟩=>hc pins s1 σ H1 vs us Q I1 r1 q1) he nU
theorem eL (hc:jV X (.type T) r) (hg:Gl X x) (hm:X.mg x=none) (hv:bootBuiltins x=some (.type T)) (ha:PA X (e::es) t) (hn:x≠"__name__":=by decide) (SG:(x == ("__debug__":Str))=false:=by decide)
  (he:starEach (e::es) X.env=(false,eval e X.env)::starEach es X.env:=by rfl) (nU:(backTo pos (starEach es X.env)).any (·.1)=false:=by rfl):PE X (.Call (.Name x p) (e::es) [] pos) (tCB r t):=by
 intro pins s σ H Q I h
 refine wpAny_Call_Name_kw (lg I hg hm hv ?_ hn SG)
 exact PyProof.Rows.callWith_type1 (bR (ha pos pins s σ H _ I h) fun us s1 ⟨vs,H1,I1,r1,q1⟩=>hc pins s1 σ H1 vs us Q I1 r1 q1) he nU
end
end L2
namespace HT
open PySem PyProof.Rows
section
open PySem.SeqAt
open PySem.AutoSeq1 (wpAny_loadPart')
open PySem.MeetsSeq PySem.MeetsSeq2 PySem.MeetsSeq3
end
section
variable {prog:Program}{w:World}{A:Around}{E:Value→Shared→Prop}{s:Shared}
noncomputable def vv (n d:Nat):Option Int→Nat
 | none=>d
 | some v=>if v < 0 then(v+(n:Int)).toNat else min v.toNat n
theorem EM (n d:Nat):vv n d none=d:=rfl
theorem tI (n d k:Nat):vv n d (some (k:Int))=min k n:=by
 show(if (k:Int) < 0 then((k:Int)+(n:Int)).toNat else min (k:Int).toNat n)=min k n
 rw [if_neg (by omega),Int.toNat_natCast]
end
end HT
namespace L2
open PySem PySem.Spec PyProof.Rows
noncomputable abbrev TO:=St→Hp→(Option Int→Hp→Prop)→Prop
noncomputable def PO (X:Cx) (e:Option Expr) (t:TO):Prop:=
 ∀(pins:List (Addr×Obj)) (s:Shared) (σ:St) (H:Hp) (Q:Option Int→Hp→Prop),Inv X pins σ H s→t σ H Q →
  wpAny (model X.prog X.w) X.A (evalPart e X.env) (fun u s'=>∃o H',Inv X pins σ H' s'∧IsPart u o∧Q o H') X.xe s
noncomputable def B0:TO:=fun _ H Q=>Q none H
noncomputable def OM (t:TE):TO:=fun σ H Q=>t σ H fun x H1=>∃i,x=.int i∧Q (some i) H1
theorem intsAre_of {ns:List Int}:∀{us:List Value},Vals (ns.map V.int) us→IntsAre us ns:=by
 induction ns with
 | nil=>intro us r; rw [List.map_nil] at r; cases r; exact .nil
 | cons n ns ih=>
  intro us r
  rw [List.map_cons] at r
  cases r with
  | cons r1 r2=>
   obtain⟨t,e⟩:=r1
   subst e
   exact .cons n t (ih r2)
section
variable {X:Cx}{e:Expr}{te:TE}{lo hi:Option Expr}{tl th:TO}{pos p2:Pos}
theorem B1:PO X none B0:=by
 intro pins s σ H Q I h
 rw [evalPart_none]
 exact wpAny_pure ⟨none,H,I,.none,h⟩
theorem nA (h:PE X e te):PO X (some e) (OM te):=by
 intro pins s σ H Q I hw
 rw [evalPart_some]
 refine bR (h pins s σ H _ I hw) fun u s1 ⟨x,H1,I1,r1,q1⟩=>?_
 obtain⟨i,rfl,q⟩:=q1
 obtain⟨t,rfl⟩:=r1
 exact⟨some i,H1,I1,.int i t,q⟩
noncomputable def SlR (X:Cx) (r:V→Option Int→Option Int→Hp→VK→Prop):Prop:=
 ∀(pins:List (Addr×Obj)) (s:Shared) (σ:St) (H:Hp) (x:V) (v vl vu:Value) (lo hi:Option Int) (sl:Addr) (Q:VK),Inv X pins σ H s→RelV x v→s.heap.IsSliceOf sl vl vu .none→IsPart vl lo→IsPart vu hi→r x lo hi H Q →
  ∃T id,typeLookup (.type T) "__getitem__"=pure (some (.builtin id))∧s.TypeIs v T∧wpAny (model X.prog X.w) X.A (getItem v (.ref sl)) (EP X pins σ Q) X.xe s
noncomputable def tSl (r:V→Option Int→Option Int→Hp→VK→Prop) (te:TE) (tl th:TO):TE:=fun σ H Q=>te σ H fun x H1=>tl σ H1 fun l H2=>th σ H2 fun u H3=>r x l u H3 Q
theorem nV {r:V→Option Int→Option Int→Hp→VK→Prop}(hr:SlR X r) (he:PE X e te) (hl:PO X lo tl) (hu:PO X hi th):PE X (.Subscript e (.Slice lo hi none p2) pos) (tSl r te tl th):=by
 intro pins s σ H Q I h
 refine Subscript_ (bR (he pins s σ H _ I h) fun v s1 ⟨x,H1,I1,r1,q1⟩=>?_)
 refine wpAny_Slice (bR (hl pins s1 σ H1 _ I1 q1) fun vl s2 ⟨l,H2,I2,pl,q2⟩=>bR (hu pins s2 σ H2 _ I2 q2) fun vu s3 ⟨u,H3,I3,pu,q3⟩=>?_)
 rw [evalPart_none]
 refine wpAny_pure ?_
 have I4:Inv X pins σ H3 {s3 with heap:=s3.heap.push {cls:=.type "slice",data:=.fields #[vl,vu,.none]}}:=I3.kept (t':=s3.toks) fun b ob q=>Heap.get?_push_of_some _ q
 obtain⟨T,id,hT,ht,hg⟩:=hr pins {s3 with heap:=s3.heap.push {cls:=.type "slice",data:=.fields #[vl,vu,.none]}} σ H3 x v vl vu l u s3.heap.objs.size Q I4 r1 (Heap.IsSliceOf.new ..) pl pu q3
 show wpAny (model X.prog X.w) X.A (subscriptTail e (.Slice lo hi none p2) v (.ref s3.heap.objs.size)) (EP X pins σ Q) X.xe {s3 with heap:=s3.heap.push {cls:=.type "slice",data:=.fields #[vl,vu,.none]}}
 exact tail_any (ops:=[.ref s3.heap.objs.size,v]) ht hT hg (by with_unfolding_all rfl)
noncomputable def tJ (xs:List V) (lo hi:Option Int):List V:=(xs.drop (HT.vv xs.length 0 lo)).take (HT.vv xs.length xs.length hi - HT.vv xs.length 0 lo)
theorem l8 (xs:List V) (lo hi:Option Int):(tJ xs lo hi).length≤xs.length:=by
 unfold tJ
 rw [List.length_take,List.length_drop]
 omega
end
end L2
namespace L2
open PySem PySem.Spec PyProof.Rows
noncomputable def KZ (n:Nat) (i:Int):Option Nat:=if 0≤i then(if i < n then some i.toNat else none)else if -(n:Int)≤i then some (i+n).toNat else none
noncomputable def K0 {α:Type}(xs:List α) (i:Int):Option α:=(KZ xs.length i).bind fun j=>xs[j]?
theorem B2 {n:Nat}{i:Int}{j:Nat}(h:KZ n i=some j):seqIndex? i n=some j∧j < n∧-(n:Int)≤i∧i < n:=by
 unfold KZ at h
 by_cases h0:0≤i
 ·rw [if_pos h0] at h
  by_cases h1:i < n
  ·rw [if_pos h1] at h
   have e:i.toNat=j:=Option.some.inj h
   exact⟨by rw [seqIndex_of h0 h1,e],by omega,by omega,h1⟩
  ·rw [if_neg h1] at h; cases h
 ·rw [if_neg h0] at h
  by_cases h1:-(n:Int)≤i
  ·rw [if_pos h1] at h
   have e:(i+n).toNat=j:=Option.some.inj h
   exact⟨by rw [seqIndex_neg (by omega) h1,e],by omega,h1,by omega⟩
  ·rw [if_neg h1] at h; cases h
theorem B3 {α:Type}{xs:List α}{i:Int}{v:α}(h:K0 xs i=some v):∃j,seqIndex? i xs.length=some j∧xs[j]?=some v∧j < xs.length∧-(xs.length:Int)≤i∧i < xs.length:=by
 unfold K0 at h
 cases e:KZ xs.length i with
 | none=>rw [e] at h; cases h
 | some j=>
  rw [e] at h
  obtain⟨h1,h2,h3,h4⟩:=B2 e
  exact⟨j,h1,h,h2,h3,h4⟩
theorem b9 {α:Type}{xs:List α}{j:Nat}{v:α}(h:xs[j]?=some v):K0 xs (j:Int)=some v:=by
 have hj:j < xs.length:=(List.getElem?_eq_some_iff.mp h).1
 have e:KZ xs.length (j:Int)=some j:=by
  unfold KZ
  rw [if_pos (by omega),if_pos (by omega)]; simp
 unfold K0; rw [e]; exact h
noncomputable def Lo (b:Expr):Prop:=∀o i,subscripted b false o i=operate [o,i] (getItem o i)
noncomputable def Yy (X:Cx) (r:R2):Prop:=
 ∀(value slice:Expr) (pins:List (Addr×Obj)) (s:Shared) (σ:St) (H:Hp) (x y:V) (v u:Value) (Q:VK),Inv X pins σ H s→RelV x v→RelV y u→r x y H Q →
  subscripted slice false v u=operate [v,u] (getItem v u)→wpAny (model X.prog X.w) X.A (subscriptTail value slice v u) (EP X pins σ Q) X.xe s
noncomputable def MtR (X:Cx) (id:String) (r:V→List V→Hp→VK→Prop):Prop:=
 ∀(pins:List (Addr×Obj)) (s:Shared) (σ:St) (H:Hp) (x:V) (xs:List V) (v:Value) (us:List Value) (Q:VK),Inv X pins σ H s→RelV x v→Vals xs us→r x xs H Q →
  wpAny (model X.prog X.w) X.A (call (.builtin id) (v::us)) (EP X pins σ Q) X.xe s
section
variable {X:Cx}{a b:Expr}{ta tb:TE}{pos:Pos}
theorem aC {r:R2}(hr:Yy X r) (ha:PE X a ta) (hb:PE X b tb) (hs:Lo b):PE X (.Subscript a b pos) (Yq r ta tb):=by
 intro pins s σ H Q I h
 exact Subscript_ (Sx ha hb I h fun v u s2 x y H2 I2 rx ry q=>hr a b pins s2 σ H2 x y v u Q I2 rx ry q (hs _ _))
noncomputable def Yz (K:PySem.W.Frag):R2:=fun x y H Q=>∃p xs i v,x=.ref p∧y=.int i∧bc K H p xs∧K0 xs i=some v∧Q v H
noncomputable def EN (K:PySem.W.Frag):R2:=fun x y H Q=>∃p xs i v,x=.ref p∧y=.int i∧bU K H p xs∧K0 xs i=some v∧Q v H
theorem bS:Yy X (Yz X.K):=by
 intro value slice pins s σ H x y v u Q I rx ry h hs
 obtain⟨p,xs,i,z,rfl,rfl,hq,he,q⟩:=h
 cases rx
 obtain⟨t,rfl⟩:=ry
 obtain⟨aO,r,pl,hz⟩:=I.list hq
 obtain⟨j,h1,h2,h3,h4,h5⟩:=B3 he
 obtain⟨w,ew,tK⟩:=r.get h2
 have hl:=r.length
 have hn:=tG
 have fin:EP X pins σ Q w s:=⟨z,H,I,tK,q⟩
 by_cases h0:0≤i
 ·have hj:i.toNat=j:=by
   rw [seqIndex_of h0 h5] at h1
   exact Option.some.inj h1
  exact item_listR pl.isList h0 (by omega) (by rw [hj]; simpa using ew) fin hs
 ·have hj:(i+(aO.toArray.size:Int)).toNat=j:=by
   rw [seqIndex_neg (by omega) h4] at h1
   rw [List.size_toArray,←hl]
   exact Option.some.inj h1
  exact subscriptTail_builtinR (x:=w) pl.isList.typeIs slot_list_getitem.lookup
   (wpAny_getItem_list_neg (Q:=fun r s'=>r=w∧EP X pins σ Q r s') pl.isList (by omega) (by rw [List.size_toArray] <;> omega) (by omega) (by rw [hj]; simpa using ew) ⟨rfl,fin⟩) hs
theorem aB:Yy X (EN X.K):=by
 intro value slice pins s σ H x y v u Q I rx ry h hs
 obtain⟨p,xs,i,z,rfl,rfl,hq,he,q⟩:=h
 cases rx
 obtain⟨t,rfl⟩:=ry
 obtain⟨aO,r,pl,hz⟩:=I.tuple hq
 obtain⟨j,h1,h2,h3,h4,h5⟩:=B3 he
 obtain⟨w,ew,tK⟩:=r.get h2
 have hl:=r.length
 have hn:=tG
 have fin:EP X pins σ Q w s:=⟨z,H,I,tK,q⟩
 exact subscriptTail_builtinR (x:=w) pl.typeIs slot_tuple_getitem.lookup
  (getItem_tuple (j:=j) (Q:=fun r s'=>r=w∧EP X pins σ Q r s') pl (by omega) (by omega) (by rw [List.size_toArray,←hl]; exact h1) (by simpa using ew) ⟨rfl,fin⟩) hs
theorem Aa (aO:List Value) (n j:Nat) (u:Value):Obj.mapSeq (·.setIfInBounds j u) {cls:=.type "list",data:=.seq aO.toArray n}={cls:=.type "list",data:=.seq (aO.set j u).toArray n}:=by
 simp [Obj.mapSeq]
theorem Inv.lst {pins:List (Addr×Obj)}{σ:St}{H:Hp}{s:Shared}{p:Addr}{xs:List V}(I:Inv X pins σ H s) (h:H p=some (.lst xs)) :
  ∃(aO:List Value) (n:Nat),Vals xs aO∧s.heap.get? p=some {cls:=.type "list",data:=.seq aO.toArray n}∧xs.length≤sizeLine:=by
 obtain⟨z,aO,n,r,e⟩:=I.bK p _ h
 exact⟨aO,n,r,e,z⟩
theorem Inv.SK {pins:List (Addr×Obj)}{σ:St}{H:Hp}{s:Shared}{p:Addr}{xs ys:List V}{aO its':List Value}{n n':Nat}{f:Obj→Obj}(I:Inv X pins σ H s) (h:H p=some (.lst xs))
  (ho:s.heap.get? p=some {cls:=.type "list",data:=.seq aO.toArray n}) (hf:f {cls:=.type "list",data:=.seq aO.toArray n}={cls:=.type "list",data:=.seq its'.toArray n'}) (r:Vals ys its') (hz:ys.length≤sizeLine) (t:Nat) :
  Inv X pins σ (upd H p (.lst ys)) {s with heap:=s.heap.update p f,toks:=t}:=by
 have e:(s.heap.update p f).get? p=some {cls:=.type "list",data:=.seq its'.toArray n'}:=by
  rw [Heap.get?_update_self f ho (by rw [hf] <;> rfl),hf]
 refine I.write (x:=p) (e:=p) (by rw [h]; trivial) (.inl rfl) (fun b u hb q=>(Heap.get?_update_other _ _ (Ne.symm hb)).trans q) ⟨_,e⟩ ?_
 exact⟨hz,its',n',r,e⟩
noncomputable def YA:V→V→V→Hp→(Hp→Prop)→Prop:=fun o i v H Q=>∃p xs k j,o=.ref p∧i=.int k∧H p=some (.lst xs)∧KZ xs.length k=some j∧Q (upd H p (.lst (xs.set j v)))
theorem set_list:Yk X YA:=by
 intro pins s σ H o i v ov iv u Q I ro ri rv h
 obtain⟨p,xs,k,j,rfl,rfl,hp,hj,q⟩:=h
 cases ro
 obtain⟨t,rfl⟩:=ri
 obtain⟨aO,n,r,ho,hz⟩:=I.lst hp
 obtain⟨h1,h2,h3,h4⟩:=B2 hj
 have hl:=r.length
 have hn:=tG
 have I':Inv X pins σ (upd H p (.lst (xs.set j v))) {s with heap:=s.heap.update p (Obj.mapSeq (·.setIfInBounds j u))}:=
  I.SK hp ho (Aa aO n j u) (r.set rv j) (by rw [List.length_set]; exact hz) s.toks
 by_cases h0:0≤k
 ·have hk:k.toNat=j:=by
   rw [seqIndex_of h0 h4] at h1
   exact Option.some.inj h1
  exact PySem.W.ki_setAt ho h0 (by omega) (by rw [List.size_toArray,←hl]; exact h4) (by rw [hk]; exact⟨_,I',q⟩)
 ·have hk:(k+(aO.toArray.size:Int)).toNat=j:=by
   rw [seqIndex_neg (by omega) h3] at h1
   rw [List.size_toArray,←hl]
   exact Option.some.inj h1
  exact PySem.W.ki_setBack ho (by omega) (by rw [List.size_toArray,←hl]; exact h3) (by omega) (by rw [hk]; exact⟨_,I',q⟩)
theorem tL (lo hi:Option Int) (n:Nat):(sliceBounds lo hi none n).1=((HT.vv n 0 lo:Nat):Int)∧(sliceBounds lo hi none n).2.1=((HT.vv n n hi:Nat):Int)∧(sliceBounds lo hi none n).2.2=1:=by
 refine⟨?_,?_,rfl⟩
 ·cases lo with
  | none=>simp [sliceBounds,HT.vv]
  | some i=>
   simp only [sliceBounds,HT.vv,Option.getD_none,show(1:Int) > 0 by decide,if_true]
   by_cases h:i < 0
   ·simp only [h,if_true] <;> omega
   ·simp only [h,if_false] <;> omega
 ·cases hi with
  | none=>simp [sliceBounds,HT.vv]
  | some i=>
   simp only [sliceBounds,HT.vv,Option.getD_none,show(1:Int) > 0 by decide,if_true]
   by_cases h:i < 0
   ·simp only [h,if_true] <;> omega
   ·simp only [h,if_false] <;> omega
theorem qd (aO:List Value) (lo hi:Option Int):slicePick aO.toArray lo hi none=((aO.drop (HT.vv aO.length 0 lo)).take (HT.vv aO.length aO.length hi - HT.vv aO.length 0 lo)).toArray:=by
 obtain⟨h1,h2,h3⟩:=tL lo hi aO.toArray.size
 unfold slicePick
 rw [h1,h2,h3]
 simp only [sliceRange_one,pick_run,List.size_toArray] <;> rfl
noncomputable def aed (K:PySem.W.Frag):V→Option Int→Option Int→Hp→VK→Prop:=fun x lo hi H Q=>∃a xs,x=.ref a∧bc K H a xs∧∀p,H p=none→Q (.ref p) (upd H p (.lst (tJ xs lo hi)))
theorem tM:SlR X (aed X.K):=by
 intro pins s σ H x v vl vu lo hi sl Q I rx hs pl pu h
 obtain⟨a,xs,rfl,hx,q⟩:=h
 cases rx
 obtain⟨aO,r,ht,hz⟩:=I.list hx
 have hlen:=r.length
 refine⟨"list",_,slot_list_getitem.lookup,ht.isList.typeIs,?_⟩
 refine wpAny_getItem_list_slice ht.isList hs pl pu .none (by simp) ?_ (by rw [List.size_toArray] <;> omega)
 rw [qd,←hlen]
 refine⟨.ref s.heap.objs.size,_,I.laid (t':=s.toks) (o:=.lst (tJ xs lo hi)) (fun b ob q=>Heap.get?_push_of_some _ q) (Nat.le_refl _) ?_,rfl,q _ (I.bK.fresh (Nat.le_refl _))⟩
 exact⟨Nat.le_trans (l8 xs lo hi) hz,_,0,(r.drop (HT.vv xs.length 0 lo)).take (HT.vv xs.length xs.length hi - HT.vv xs.length 0 lo),Heap.get?_push_size _ rfl⟩
noncomputable def fS:V→Bool
 | .aP=>true
 | .bl _=>true
 | .int _=>true
 | .str _=>true
 | _=>false
noncomputable def K1:V→V→Bool
 | .aP,.aP=>true
 | .bl a,.bl b=>a == b
 | .bl a,.int b=>(if a then 1 else 0) == b
 | .int a,.bl b=>a == (if b then 1 else 0)
 | .int a,.int b=>a == b
 | .str a,.str b=>a == b
 | _,_=>false
theorem SM {A:Around}{s:Shared}{y x:V}{u v:Value}(ry:RelV y u) (rx:RelV x v) (fy:fS y=true) (fx:fS x=true):SeqAt.EqAt A s u v (K1 y x):=by
 cases y with
 | aP=>
  cases ry
  cases x with
  | aP=>cases rx; exact SeqAt.EqAt.same _
  | bl b=>cases rx; exact SeqAt.EqAt.none_bool b
  | int b=>obtain⟨t,rfl⟩:=rx; exact SeqAt.EqAt.none_int b t
  | str b=>obtain⟨t,rfl⟩:=rx; exact SeqAt.EqAt.none_str b t
  | _=>exact absurd (show false=true from fx) Bool.false_ne_true
 | bl a=>
  cases ry
  cases x with
  | aP=>cases rx; exact SeqAt.EqAt.bool_none a
  | bl b=>cases rx; exact SeqAt.EqAt.bool_bool a b
  | int b=>obtain⟨t,rfl⟩:=rx; exact SeqAt.EqAt.bool_int a b t
  | str b=>obtain⟨t,rfl⟩:=rx; exact SeqAt.EqAt.bool_str a b t
  | _=>exact absurd (show false=true from fx) Bool.false_ne_true
 | int a=>
  obtain⟨t',rfl⟩:=ry
  cases x with
  | aP=>cases rx; exact SeqAt.EqAt.int_none a t'
  | bl b=>cases rx; exact SeqAt.EqAt.int_bool a t' b
  | int b=>obtain⟨t,rfl⟩:=rx; exact SeqAt.EqAt.int_int a t' b t
  | str b=>obtain⟨t,rfl⟩:=rx; exact SeqAt.EqAt.int_str a t' b t
  | _=>exact absurd (show false=true from fx) Bool.false_ne_true
 | str a=>
  obtain⟨t',rfl⟩:=ry
  cases x with
  | aP=>cases rx; exact SeqAt.EqAt.str_none a t'
  | bl b=>cases rx; exact SeqAt.EqAt.str_bool a t' b
  | int b=>obtain⟨t,rfl⟩:=rx; exact SeqAt.EqAt.str_int a t' b t
  | str b=>obtain⟨t,rfl⟩:=rx; exact SeqAt.EqAt.str_str a t' b t
  | _=>exact absurd (show false=true from fx) Bool.false_ne_true
 | _=>exact absurd (show false=true from fy) Bool.false_ne_true
noncomputable def Lp (x:V) (u:Value):Bool:=match u with
 | .none=>K1 .aP x
 | .bool b=>K1 (.bl b) x
 | .int i _=>K1 (.int i) x
 | .str z _=>K1 (.str z) x
 | _=>false
theorem EO {x y:V}{u:Value}(r:RelV y u) (f:fS y=true):Lp x u=K1 y x:=by
 cases y with
 | aP=>cases r; rfl
 | bl b=>cases r; rfl
 | int i=>obtain⟨t,rfl⟩:=r; rfl
 | str z=>obtain⟨t,rfl⟩:=r; rfl
 | _=>exact absurd (show false=true from f) Bool.false_ne_true
theorem tN {x:V}:∀{xs:List V}{us:List Value},Vals xs us→xs.all fS=true→us.any (Lp x)=xs.any fun y=>K1 y x
 | _,_,.nil,_=>rfl
 | y::xs,u::us,.cons r t,f=>by
  rw [List.all_cons,Bool.and_eq_true] at f
  rw [List.any_cons,List.any_cons,EO r f.1,tN t f.2]
theorem nW {A:Around}{s:Shared}{x:V}{v:Value}(rx:RelV x v) (fx:fS x=true):∀{xs:List V}{us:List Value},Vals xs us→xs.all fS=true→∀u∈us,SeqAt.EqAt A s u v (Lp x u)
 | _,_,.nil,_=>fun u hu=>by cases hu
 | y::xs,u::us,.cons r t,f=>fun u' hu=>by
  rw [List.all_cons,Bool.and_eq_true] at f
  rcases List.mem_cons.mp hu with rfl | hu
  ·rw [EO r f.1]; exact SM r rx f.1 fx
  ·exact nW rx fx t f.2 u' hu
noncomputable def inV (x:V) (xs:List V):Bool:=xs.any fun y=>K1 y x
noncomputable def rIn (K:PySem.W.Frag) (neg:Bool):R2:=fun x y H Q=>∃p xs,y=.ref p∧(bc K H p xs∨bU K H p xs)∧fS x=true∧xs.all fS=true∧Q (.bl (if neg then !inV x xs else inV x xs)) H
theorem tO:lr X (compareOp .NotIn) (rIn X.K true):=by
 intro pins s σ H x y v u Q I rx ry h
 obtain⟨p,xs,rfl,hq,fx,fs,q⟩:=h
 cases ry
 rcases hq with hq | hq
 ·obtain⟨aO,r,pl,hz⟩:=I.list hq
  refine SeqAt.notIn_listAt (Lp x) pl.isList (fun w hw=>nW rx fx r fs w (by simpa using hw)) ⟨.bl _,H,I,rfl,?_⟩
  rw [show aO.toArray.any (Lp x)=aO.any (Lp x)by simp,tN r fs]
  exact q
 ·obtain⟨aO,r,pl,hz⟩:=I.tuple hq
  refine SeqAt.notIn_tupleAt (Lp x) pl (fun w hw=>nW rx fx r fs w (by simpa using hw)) ⟨.bl _,H,I,rfl,?_⟩
  rw [show aO.toArray.any (Lp x)=aO.any (Lp x)by simp,tN r fs]
  exact q
theorem cB:jV X (.builtin "len") (fun xs H Q=>∃p ys,xs=[.ref p]∧(bc X.K H p ys∨bU X.K H p ys)∧Q (.int ys.length) H):=by
 intro pins s σ H xs us Q I r h
 obtain⟨p,ys,rfl,hq,q⟩:=h
 obtain⟨u,rfl,rx⟩:=vals1 r
 cases rx
 have hn:=tG
 rcases hq with hq | hq
 ·obtain⟨aO,r',pl,hz⟩:=I.list hq
  have hlen:=r'.length
  exact Calls.call_len_list pl.isList (by simp only [List.size_toArray] <;> omega) ⟨.int ys.length,H,I.tok _,⟨s.toks+1,by rw [List.size_toArray,hlen]⟩,q⟩
 ·obtain⟨aO,r',pl,hz⟩:=I.tuple hq
  have hlen:=r'.length
  exact len_tuple pl (by simp only [List.size_toArray] <;> omega) ⟨.int ys.length,H,I.tok _,⟨s.toks+1,by rw [List.size_toArray,hlen]⟩,q⟩
theorem jW:jV X (.type "list") (fun xs H Q=>∃p ys,xs=[.ref p]∧(bc X.K H p ys∨bU X.K H p ys)∧∀l,H l=none→Q (.ref l) (upd H l (.lst ys))):=by
 intro pins s σ H xs us Q I r h
 obtain⟨p,ys,rfl,hq,q⟩:=h
 obtain⟨u,rfl,rx⟩:=vals1 r
 cases rx
 have fin:∀(aO:List Value),Vals ys aO→ys.length≤sizeLine→∀(h':Heap) (c':Nat),(∀b o',s.heap.get? b=some o'→h'.get? b=some o') →
   h'.get? s.heap.objs.size=some {cls:=.type "list",dict:=none,data:=.seq aO.toArray c',slots:=#[]}→EP X pins σ Q (.ref s.heap.objs.size) {s with heap:=h'}:=fun aO r' hz h' c' kp e=>
  ⟨.ref s.heap.objs.size,_,I.laid (t':=s.toks) kp (Nat.le_refl _) (show cG X.prog X.w _ h' _ (.lst ys) from⟨hz,aO,c',r',e⟩),rfl,q _ (I.bK.fresh (Nat.le_refl _))⟩
 rcases hq with hq | hq
 ·obtain⟨aO,r',pl,hz⟩:=I.list hq
  have hlen:=r'.length
  obtain⟨o,ho,hc,n,hd⟩:=pl.isList
  exact call_list_seq p (.inl rfl) ho hc hd (fun h' c' kp e=>fin aO r' hz h' c' kp e) (by simp only [List.size_toArray] <;> omega)
 ·obtain⟨aO,r',pl,hz⟩:=I.tuple hq
  have hlen:=r'.length
  obtain⟨o,ho,hc,n,hd⟩:=pl
  exact call_list_seq p (.inr rfl) ho hc hd (fun h' c' kp e=>fin aO r' hz h' c' kp e) (by simp only [List.size_toArray] <;> omega)
noncomputable def tyV (K:PySem.W.Frag) (T:String) (x:V) (H:Hp):Prop:=match x with
 | .str _=>T="str"
 | .int _=>T="int"
 | .ref p=>(T="list"∧∃xs,bc K H p xs)∨(T="tuple"∧∃o,K.lookup p=some o∧o.cls=.type "tuple"∧o.dict=none) ∨
   (T="dict"∧((∃kvs,H p=some (.dK kvs))∨∃kvs,H p=some (.dT kvs)))∨(T="set"∧∃S n,H p=some (.set S n))
 | _=>False
theorem SN {pins:List (Addr×Obj)}{σ:St}{H:Hp}{s:Shared}{T:String}{x:V}{v:Value}(I:Inv X pins σ H s) (r:RelV x v) (ty:tyV X.K T x H) :
  s.TypeIs v T∧∀a,v=.ref a→∃ob,s.heap.get? a=some ob∧ob.dict=none:=by
 cases x with
 | str z=>
  obtain⟨t,rfl⟩:=r
  cases (show T="str" from ty)
  exact⟨typeIs_str s z t,fun _ e=>nomatch e⟩
 | int i=>
  obtain⟨t,rfl⟩:=r
  cases (show T="int" from ty)
  exact⟨typeIs_int s i t,fun _ e=>nomatch e⟩
 | ref p=>
  cases r
  rcases ty with ⟨rfl,xs,hq⟩ | ⟨rfl,o,hk,hc,hd⟩ | ⟨rfl,hk⟩ | ⟨rfl,S,n,hk⟩
  ·obtain⟨aO,_,pl,_⟩:=I.list hq
   refine⟨pl.isList.typeIs,fun a e=>?_⟩
   cases e
   obtain⟨o,n,e,c,hd,_⟩:=pl
   exact⟨o,e,hd⟩
  ·refine⟨⟨o,I.qV p o hk,hc⟩,fun a e=>?_⟩
   cases e
   exact⟨o,I.qV _ o hk,hd⟩
  ·have z:∃o,s.heap.get? p=some o∧o.ExactDict:=by
    rcases hk with ⟨kvs,hk⟩ | ⟨kvs,hk⟩
    ·obtain⟨_,_,_,_,o,_,_,e,ex,_⟩:=I.bK p _ hk
     exact⟨o,e,ex⟩
    ·obtain⟨_,_,_,_,o,_,_,e,ex,_⟩:=I.bK p _ hk
     exact⟨o,e,ex⟩
   obtain⟨o,e,ex⟩:=z
   refine⟨⟨o,e,ex.1⟩,fun a e2=>?_⟩
   cases e2
   exact⟨o,e,ex.2.1⟩
  ·obtain⟨o,_,_,_,e,ex,_⟩:=I.bK p _ hk
   refine⟨⟨o,e,ex.1⟩,fun a e2=>?_⟩
   cases e2
   exact⟨o,e,ex.2.1⟩
 | _=>exact False.elim ty
noncomputable def aee (K:PySem.W.Frag) (T:String) (r:V→List V→Hp→VK→Prop) (to:TE):TE:=fun σ H Q=>to σ H fun x H1=>tyV K T x H1∧r x [] H1 Q
noncomputable def tBM (K:PySem.W.Frag) (T:String) (r:V→List V→Hp→VK→Prop) (to:TE) (t:TA):TE:=fun σ H Q=>to σ H fun x H1=>tyV K T x H1∧t σ H1 fun xs H2=>r x xs H2 Q
variable {o e:Expr}{es:List Expr}{to:TE}{t:TA}{name:Str}{apos dO:Pos}{T id:String}{r:V→List V→Hp→VK→Prop}
theorem ER (pa:PlainAttrs T) (slot:Slot T name id) (hty:typeOf (.builtin id)=pure (.type "method_descriptor")) (hm:MtR X id r) (ho:PE X o to) (ha:PA X (e::es) t)
  (YB:attributeBase o name X.env (eval o X.env)=eval o X.env:=by rfl)
  (aef:((backTo dO (starEach (e::es) X.env)).all (fun x=>!x.1)&&(backToKw dO (keywordEach [] X.env)).all (fun x=>x.1.isSome)
   && decide ((e::es).length+([]:List Keyword).length+(if ([]:List Keyword).isEmpty then 0 else 1) < 30))=true:=by rfl)
  (YC:(apos.endLine == dO.line)=true:=by rfl) (hs:starEach (e::es) X.env=(false,eval e X.env)::starEach es X.env:=by rfl) (SO:(backTo dO (starEach es X.env)).any (·.1)=false:=by rfl) :
  PE X (.Call (.Attribute o name apos) (e::es) [] dO) (tBM X.K T r to t):=by
 intro pins s σ H Q I h
 refine wpAny_Call_method_late YB aef YC rfl (bR (ho pins s σ H _ I h) fun v s1 ⟨x,H1,I1,r1,ty,q1⟩=>?_)
 obtain⟨h1,h2⟩:=SN I1 r1 ty
 refine⟨T,id,pa,slot,hty,h1,h2,?_⟩
 have hA:=ha dO pins s1 σ H1 _ I1 q1
 rw [hs] at hA ⊢
 refine Calls.callWith_builtin (by show(false || (backTo dO (starEach es X.env)).any (·.1))=false; rw [SO] <;> rfl) (Calls.evalArgs_plain ?_)
 exact bR hA fun us s2 ⟨vs,H2,I2,r2,q2⟩=>hm pins s2 σ H2 x vs v us Q I2 r1 r2 q2
end
end L2
namespace L2
open PySem PySem.Spec PyProof.Rows
noncomputable def MtM (X:Cx) (id:String) (r:V→List V→Hp→VK→Prop):Prop:=
 ∀(pins:List (Addr×Obj)) (s:Shared) (σ:St) (H:Hp) (x:V) (xs:List V) (v:Value) (us:List Value) (Q:VK),Inv X pins σ H s→RelV x v→Vals xs us→r x xs H Q →
  wpAny (model X.prog X.w) X.A (call (.builtin id) (v::us)) (EP X pins σ Q) X.xe s
theorem Vals.one:∀{x:V}{us:List Value},Vals [x] us→∃u,us=[u]∧RelV x u
 | _,_,.cons r .nil=>⟨_,rfl,r⟩
theorem Vals.rep {xs:List V}{us:List Value}(h:Vals xs us):∀k:Nat,Vals (List.replicate k xs).flatten (List.replicate k us).flatten
 | 0=>.nil
 | k+1=>by
  rw [List.replicate_succ,List.replicate_succ,List.flatten_cons,List.flatten_cons]
  exact Vals.append h (Vals.rep h k)
theorem foldl_rep (aO:List Value):∀(k:Nat) (acc:List Value),
  List.foldl (fun x1 x2=>x1++x2) acc.toArray (List.replicate k aO.toArray)=(acc++(List.replicate k aO).flatten).toArray
 | 0,acc=>by simp
 | k+1,acc=>by
  have e:acc.toArray++aO.toArray=(acc++aO).toArray:=by simp
  have e2:(acc++aO)++(List.replicate k aO).flatten=acc++(List.replicate (k+1) aO).flatten:=by
   rw [List.replicate_succ,List.flatten_cons,List.append_assoc]
  rw [←e2,←foldl_rep aO k (acc++aO),←e,List.replicate_succ,List.foldl_cons]
section
variable {X:Cx}{pins:List (Addr×Obj)}{σ:St}{H:Hp}{s:Shared}{l b:Addr}{xs ys zs:List V}
theorem Inv.YD {aO its':List Value}{n:Nat}{f:Array Value→Array Value}{t':Nat}(I:Inv X pins σ H s) (hH:H l=some (.lst xs))
  (e:s.heap.get? l=some {cls:=.type "list",data:=.seq aO.toArray n}) (hf:f aO.toArray=its'.toArray) (hv:Vals ys its') (hz:ys.length≤sizeLine) :
  Inv X pins σ (upd H l (.lst ys)) {s with heap:=s.heap.update l (Obj.mapSeq f),toks:=t'}:=by
 have q:=PySem.IsL.update e f
 rw [hf] at q
 refine I.write (x:=l) (e:=l) (by rw [hH]; exact trivial) (.inl rfl) (fun b' u hb hu=>(Heap.get?_update_other s.heap (Obj.mapSeq f) (Ne.symm hb)).trans hu) ⟨_,q⟩ ?_
 exact⟨hz,its',_,hv,q⟩
theorem Inv.SQ {aO:List Value}{t':Nat}(I:Inv X pins σ H s) (hv:Vals ys aO) (hz:ys.length≤sizeLine) :
  Inv X pins σ (upd H s.heap.objs.size (.lst ys)) {s with heap:=s.heap.push {cls:=.type "list",data:=.seq aO.toArray},toks:=t'}:=
 I.laid (fun _ _ q=>Heap.get?_push_of_some _ q) (Nat.le_refl _) ⟨hz,aO,0,hv,Heap.get?_push_size _ rfl⟩
theorem Inv.fresh (I:Inv X pins σ H s):H s.heap.objs.size=none:=I.bK.fresh (Nat.le_refl _)
theorem Inv.Lq (I:Inv X pins σ H s) (hH:H l=some (.lst xs)):xs.length≤sizeLine∧∃(aO:List Value) (n:Nat),Vals xs aO∧xs.length=aO.length∧s.heap.get? l=some {cls:=.type "list",data:=.seq aO.toArray n}:=by
 obtain⟨z,aO,n,r,e⟩:=I.bK l _ hH
 exact⟨z,aO,n,r,r.length,e⟩
theorem vw {n:Nat}(h:n≤sizeLine):Builtin.List.listTooLong n=false:=by
 unfold Builtin.List.listTooLong
 exact decide_eq_false (by omega)
end
section
variable {X:Cx}
noncomputable def Lr:V→List V→Hp→VK→Prop:=fun x vs H Q=>∃l xs y,x=.ref l∧vs=[y]∧H l=some (.lst xs)∧xs.length < sizeLine∧Q .aP (upd H l (.lst (xs++[y])))
theorem rk:MtM X "list.append" Lr:=by
 intro pins s σ H x vs v us Q I rx rv h
 obtain⟨l,xs,y,rfl,rfl,hH,hz,q⟩:=h
 cases rx
 obtain⟨u,rfl,ru⟩:=rv.one
 obtain⟨z,aO,n,r,hl,e⟩:=I.Lq hH
 refine call_meets F.slot_list_append ⟨_,e,rfl⟩ F.entry_list_append (F.args_list_append_2 _ _) (PySem.list_append l aO.toArray n u (by rw [List.size_toArray]; omega)) ⟨e,?_⟩
 refine⟨.aP,_,I.YD (its':=aO++[u]) hH e (by simp) (r.append (.cons ru .nil)) ?_,rfl,q⟩
 rw [List.length_append,List.length_singleton]
 omega
noncomputable def Ls:V→List V→Hp→VK→Prop:=fun x vs H Q=>∃l b xs zs,x=.ref l∧vs=[.ref b]∧H l=some (.lst xs)∧H b=some (.lst zs)∧xs.length+zs.length≤sizeLine∧Q .aP (upd H l (.lst (xs++zs)))
theorem C1:MtM X "list.extend" Ls:=by
 intro pins s σ H x vs v us Q I rx rv h
 obtain⟨l,b,xs,zs,rfl,rfl,hH,hB,hz,q⟩:=h
 cases rx
 obtain⟨u,rfl,ru⟩:=rv.one
 cases ru
 obtain⟨z,aO,n,r,hl,e⟩:=I.Lq hH
 obtain⟨z2,bG,n2,r2,g5,e2⟩:=I.Lq hB
 have hsz:aO.toArray.size+bG.toArray.size≤sizeLine:=by rw [List.size_toArray,List.size_toArray]; omega
 have ES:¬(!aO.toArray.isEmpty&&Builtin.List.listTooLong (aO.toArray.size+bG.toArray.size))=true:=by
  rw [vw hsz,Bool.and_false]
  exact Bool.false_ne_true
 refine call_meets F.slot_list_extend ⟨_,e,rfl⟩ F.entry_list_extend (F.args_list_extend_2 _ _)
  (AutoSeq1.list_extend_list_list_0 l aO.toArray n b bG.toArray n2 ES (by rw [List.size_toArray]; omega) (by omega)) ⟨e,e2,?_⟩
 refine⟨.aP,_,I.YD (its':=aO++bG) hH e (by simp) (r.append r2) ?_,rfl,q⟩
 rw [List.length_append]
 omega
noncomputable def YE:R2:=fun x y H Q=>∃l k xs,x=.ref l∧y=.int k∧H l=some (.lst xs)∧-(2 ^ 63)≤k∧k < 2 ^ 63∧xs.length*k.toNat≤sizeLine ∧
 ∀p,H p=none→Q (.ref p) (upd H p (.lst (List.replicate k.toNat xs).flatten))
theorem len_rep {α:Type}(xs:List α) (k:Nat):(List.replicate k xs).flatten.length=k*xs.length:=by
 induction k with
 | zero=>simp
 | succ k ih=>rw [List.replicate_succ,List.flatten_cons,List.length_append,ih,Nat.succ_mul,Nat.add_comm]
theorem tP:lr X (binaryOp .Mult) YE:=by
 intro pins s σ H x y v u Q I rx ry h
 obtain⟨l,k,xs,rfl,rfl,hH,h1,h2,hz,q⟩:=h
 cases rx
 obtain⟨t,rfl⟩:=ry
 obtain⟨z,aO,n,r,hl,e⟩:=I.Lq hH
 have hlen:aO.toArray.size*k.toNat≤sizeLine:=by rw [List.size_toArray,←hl]; exact hz
 have aeg:¬aO.toArray.size*k.toNat > (2 ^ 63 - 1) / 8:=by
  have:(sizeLine:Nat)≤(2 ^ 63 - 1) / 8:=by decide
  omega
 have aeh:¬(!Builtin.List.listFitsIndex k)=true:=by
  rw [fitsIndex_both h1 h2]
  exact Bool.false_ne_true
 have ES:¬Builtin.List.listTooLong (aO.toArray.size*k.toNat)=true:=by
  rw [vw hlen]
  exact Bool.false_ne_true
 have aei:List.foldl (fun x1 x2=>x1++x2) #[] (List.replicate (if aO.toArray.isEmpty=true then 0 else k.toNat) aO.toArray)=(List.replicate k.toNat aO).flatten.toArray:=by
  have f0:∀m:Nat,List.foldl (fun x1 x2=>x1++x2) #[] (List.replicate m aO.toArray)=(List.replicate m aO).flatten.toArray:=fun m=>by
   have:=foldl_rep aO m []
   rw [List.nil_append] at this
   exact this
  rw [f0]
  cases aO with
  | nil=>simp
  | cons a r'=>rw [if_neg (by simp)]
 refine wpAny_binaryOp_repeat_ref (T:="list") (U:="int") (by decide) ⟨_,e,rfl⟩ (fun s'=>typeIs_int s' k t) noFill_list_mul F.fills_int_mul F.slot_int_rmul repeat_list F.slot_int_index.lookup
  (call_meets F.slot_int_rmul (typeIs_int s k t) F.entry_int_rmul (F.args_int_rmul_2 _ _) (int___rmul___int_list k t l aO.toArray n)
   ⟨e,rfl,⟨_,e,rfl⟩,call_meets F.slot_list_mul ⟨_,e,rfl⟩ F.entry_list_mul (F.args_list_mul_2 _ _) (AutoListH.list___mul___list_int_3 l aO.toArray n k t aeh aeg ES) ⟨e,?_⟩⟩)
 rw [aei]
 exact⟨.ref _,_,I.SQ (t':=s.toks) (r.rep k.toNat) (by rw [len_rep,Nat.mul_comm]; exact hz),rfl,q _ I.fresh⟩
end
section
variable {prog:Program}{w:World}{A:Around}{E:Value→Shared→Prop}{s:Shared}
set_option maxRecDepth 100000 in
end
section
variable {X:Cx}
end
end L2
namespace SR
open PySem PySem.W PySem.Calls PyProof.Rows
theorem mG {P:Params}{h:Heap}:∀(ns:List Int) (vs:List Value),WellAll P h vs (ns.map WData.int)→IntsAre vs ns:=by
 intro ns
 induction ns with
 | nil=>
  intro vs w
  rw [List.map_nil] at w
  cases w
  exact .nil
 | cons n ns ih=>
  intro vs w
  rw [List.map_cons] at w
  cases w with
  | cons a b=>
   cases a
   exact .cons _ _ (ih _ b)
theorem C3 {l:OpenLaw}{n:Nat}(hn:l.most=some n) {P:Params}{h:Heap}{args:List WData}{vals:List Value}
  (mH:l.row.toRowW.claim.pre args=true) (ET:WellAll P h vals args) :
  ∃a vs ns,vals=[Value.ref a]∧args=[WData.list (ns.map WData.int)]∧h.get? a=some {cls:=.type "list",data:=.seq vs.toArray}∧IntsAre vs ns∧ns.length≤n:=by
 have hsh:WShape.hasAll [] args [.list .int]=true:=(pre_splitW mH).1
 have hc:l.pre.holds [] {args:=args}=true:=(pre_splitW mH).2
 obtain⟨d,r,rfl,h1,h2⟩:=hasAllW_cons hsh
 obtain rfl:=hasAllW_nil h2
 obtain⟨xs,rfl,h3⟩:=hasW_list h1
 obtain⟨ns,rfl⟩:=items_int h3
 have hlen:ns.length≤n:=by
  unfold OpenLaw.pre at hc
  have h4:(WTm.not (.lt (.lit (.int (n:Int))) (.len (.arg 0)))).holds [] {args:=[.list (ns.map .int)]}=true:=by
   have h4:=(holds_andW hc).1
   rw [hn] at h4
   exact h4
  have h5:=condW_of h4 (w_not (w_lt w_lit (w_len_list (w_arg rfl))))
  rw [List.length_map] at h5
  refine Nat.le_of_not_lt fun q=>?_
  have q':(n:Int) < ((ns.length:Nat):Int):=by omega
  first
   | (rw [decide_eq_true q'] at h5; exact absurd h5 (by decide))
   | (simp at h5; omega)
 cases ET with
 | cons w1 w2=>
  cases w2
  cases w1 with
  | list ho EU=>exact⟨_,_,ns,rfl,rfl,ho,mG ns _ EU,hlen⟩
theorem C4 (l:OpenLaw) (args:List WData):l.row.toRowW.claim.post args (.bool true) args=true:=
 postW_of (r:=l.row.toRowW) (X:=(true == true))
  (show WShape.has [] (.bool true) .bool=true by first | rfl | decide | simp [WShape.has,WShape.arms,WShape.armsAll])
  (show(WTm.eq .res (.lit (.bool true))).value [] {args:=args,res:=some (.bool true),after:=args}=some (.bool (true == true)) from w_eq_bool (w_res rfl) w_lit) rfl
theorem vz {l:OpenLaw}{n:Nat}{q:Program}{loose:List Str}{XP:(Str→Option Value)→Heap→Prop}{YP:World→Heap→Prop}{d:DefRec}
  (hn:l.most=some n) (YF:d.params.defaults=[])
  (call:∀(w:World) (s₀ s₁:Shared) (mg mb:Str→Option Value) (fa:Addr) (o:Obj) (pm cd doc:Value) (a:Addr) (vs:List Value) (ns:List Int),
   Ground q loose [] XP w s₀ mg mb s₁.heap→YP w s₁.heap →
   s₁.heap.get? fa=some o→o.data=.func (docDef d.name d.params d.body d.scope pm cd doc)→s₁.heap.CodeRec cd d.name→mg d.name=some (.ref fa) →
   s₁.heap.get? a=some {cls:=.type "list",data:=.seq vs.toArray}→IntsAre vs ns→ns.length≤n→s₁.gens=#[] →
   codeAny (model l.prog w) callerA (.call (.ref fa) ⟨[.ref a],[]⟩) (fun r s'=>r=.ok (.ret (.bool true))∧OldK s₁.heap s'.heap∧s'.os=s₁.os∧AllBare s'.gens) s₁) :
  WalkO q loose XP YP l.row.toRowW d [] (fun f vs=>PySem.call f vs):=by
 intro w s₀ s₁ mg mb G Y fa o pm cd doc dV kV ho hd ve hD YG hg args vals as mH agB hrd ET hlo
 obtain rfl:dV=.none:=Dflts.none hD YF
 obtain rfl:kV=.none:=Dflts.noKw hD
 obtain⟨a,vs,ns,rfl,rfl,SS,hints,hlen⟩:=C3 hn mH ET
 refine enter_call (codeAny_mono (call w s₀ s₁ mg mb fa o pm cd doc a vs ns G Y ho (fd_plain hd) ve YG SS hints hlen hg) fun r s' hq=>?_)
 obtain⟨rfl,h2,h3,h4⟩:=hq
 exact⟨.inl ⟨.bool true,.bool true,[],rfl,fun _=>rfl,.bool true,C4 l _,fun _=>⟨List.Pairwise.nil,fun _ hm=>(nomatch hm)⟩⟩,h2,h3,h4⟩
section
variable {prog:Program}{w:World}{A:Around}{E:Value→Shared→Prop}{s:Shared}{K:Frag}
noncomputable def lz (h:Heap):Heap:={h with objs:=#[]}
theorem dU (h:Heap) (b:Addr):(lz h).get? b=none:=by
 cases e:(lz h).get? b with
 | none=>rfl
 | some o=>exact absurd (Heap.lt_size e) (Nat.not_lt_zero _)
noncomputable def ledger (h:Heap) (L d:Addr):List (Addr×Obj):=(List.range h.objs.size).filterMap fun a=>if a=L∨a=d then none else(h.get? a).map fun o=>(a,o)
theorem ju {h:Heap}{L d a:Addr}{o:Obj}:(a,o)∈ledger h L d↔a≠L∧a≠d∧h.get? a=some o:=by
 unfold ledger
 rw [List.mem_filterMap]
 constructor
 ·rintro⟨b,_,e⟩
  split at e
  ·cases e
  ·rename_i hb
   obtain⟨o',ho,e'⟩:=Option.map_eq_some_iff.mp e
   cases e'
   exact⟨fun q=>hb (.inl q),fun q=>hb (.inr q),ho⟩
 ·rintro⟨n1,n2,ho⟩
  refine⟨a,List.mem_range.mpr (Heap.lt_size ho),?_⟩
  rw [if_neg (show ¬(a=L∨a=d) from fun q=>q.elim n1 n2),ho] <;> rfl
theorem vA {h:Heap}{L d:Addr}{od:Obj}(tQ:d≠L) (ho:h.get? d=some od):News (lz h) L h ([]++(d,od)::ledger h L d):=by
 rintro⟨a,o⟩ hp
 rcases List.mem_cons.mp hp with e | hp
 ·cases e
  exact⟨ho,tQ,dU _ _⟩
 ·obtain⟨n1,n2,e⟩:=ju.mp hp
  exact⟨e,n1,dU _ _⟩
theorem EV {h:Heap}{L:Addr}{m:Str→Option Value}(n:h.Ns L m):Fr (lz h) L h m:=
 ⟨n,fun b o e=>(by rw [dU] at e; cases e),Nat.zero_le _⟩
theorem set_field {x C dx L:Addr}{ox:Obj}{m:Str→Option Value}{es Ee:List DictEntry}{n n':Nat}{name:Str}{v:Value}{Q:Unit→Shared→Prop}
  (X:K.In s.heap) (I:PySem.W.InstAt s.heap x ox C (some (dictOf es n))) (hd:ox.dict=some dx) (hL:s.heap.Ns L m) (tQ:dx≠L)
  (hs:findIn K (.ref C) "__setattr__"=some (some (.builtin "object.__setattr__"))) (hp:plainOver K C=true) (ht:takerIn K C name=some none) (hh:hasDictIn K C=true) (hl:(getL name es).isSome=true)
  (e:(putL name (PyData.keyHash w.params name) (.str name (s.toks+1)) v es,putN name es n)=(Ee,n')) (hz:Ee.length≤1000)
  (h:∀h':Heap,h'.Ns L m→h'.get? dx=some (dictOf Ee n')→(∀b o,b≠dx→b≠L→s.heap.get? b=some o→h'.get? b=some o)→Q () {s with heap:=h',toks:=s.toks+2}) :
  wpAny (model prog w) A (setAttr (.ref x) name v) Q E s:=by
 obtain⟨e1,e2⟩:=Prod.mk.inj e
 have C5:s.heap.get? dx=some (dictOf es n):=by
  have:=I.dict
  rw [hd] at this
  exact this
 refine set_plain X I hs (osa_dict (s:={s with toks:=s.toks+1}) (h₀:=lz s.heap) (L:=L) (m:=m) (od:=dictOf es n) (od':=dictOf Ee n') (es:=Ee) (n:=n') (pre:=[]) (post:=ledger s.heap L dx)
  (EV hL) (vA tQ C5) X I hd hp ht hh hl (fun _ q=>nomatch q) (fun⟨_,_⟩ q=>(ju.mp q).2.1) (by rw [putName_dict,e1,e2]) rfl hz fun h' F' N'=>?_)
 exact h h' F'.ns (N'.get (List.Mem.head _)) fun b o n1 n2 ho=>N'.get (List.Mem.tail _ (ju.mpr ⟨n2,n1,ho⟩))
end
end SR
namespace L2
open PySem PySem.Spec PyProof.Rows
theorem iR:∀{vs:List Value}{ns:List Int},IntsAre vs ns→Vals (ns.map V.int) vs
 | _,_,.nil=>.nil
 | _,_,.cons n t h=>.cons ⟨t,rfl⟩ (iR h)
end L2
namespace L2
open PySem PySem.Spec PyProof.Rows
end L2
namespace L2
open PySem PySem.Spec PyProof.Rows
noncomputable def inClass (s:Stmt) (j:Nat):Stmt:=match s with
 | .ClassDef _ _ _ body _ _ _ _ _ _ _=>body.getD j (.Pass ⟨0,0,0,0⟩)
 | _=>.Pass ⟨0,0,0,0⟩
noncomputable def eF (s:Stmt):Arguments:=match s with
 | .FunctionDef _ a _ _ _ _ _ _ _ _=>a
 | _=>{posonlyargs:=[],args:=[],vararg:=none,kwonlyargs:=[],kw_defaults:=[],kwarg:=none,defaults:=[]}
noncomputable def dJ (s:Stmt):List Stmt:=match s with
 | .FunctionDef _ _ b _ _ _ _ _ _ _=>b
 | _=>[]
noncomputable def ai (s:Stmt):Scope:=match s with
 | .FunctionDef _ _ _ _ _ _ sc _ _ _=>sc
 | _=>{kind:=.function,names:=[],isGenerator:=false,isCoroutine:=false}
noncomputable abbrev cx:vk:=fun _ _ _ _ _ _=>False
noncomputable abbrev E0:XK:=fun _ _ _=>False
theorem ar {X:Cx}:Passes cx X E0:=fun _ _ _ _ _ _ _ h=>h.elim
structure cw (K:PySem.W.Frag) (x qual:Str) (st:Stmt) (f:Addr) (fd:FuncData):Prop where
 ex:∃(oc:Value) (od:Option Addr) (kV doc pm:Value) (an:Option Addr) (bI ct:Value) (EL:Array (Option Value)),
  fd=PySem.W.fnOf x qual (eF st) (dJ st) (ai st) .none kV doc pm an bI ct∧K.lookup f=some ⟨oc,od,.func fd,EL⟩∧PySem.W.codeIn K bI qual=true
 kp:PySem.W.keepIn K (.ref f)=true
section
variable {P:Program}{w:World}{K:PySem.W.Frag}{mg:Str→Option Value}{base:Heap}
theorem cw.ok {x qual:Str}{st:Stmt}{f:Addr}{fd:FuncData}{N ps:List Str}{k:Nat}{sp:Sp}(F:cw K x qual st f fd) (S:ao N ps (ai st)) (len:∀vs H Q E,sp vs H Q E→vs.length=ps.length)
  (vt:∀(bI:Value) (A:Around) (outer:List Env) (s:Shared) (H:Hp) (vs:List V) (Q:VK) (E:XK),c7 k (A.deeper (envOfC qual (ai st) s.heap.objs.size f bI))→sp vs H Q E →
   ∃t,tu (vo cx P w K mg base N qual (ai st) f bI A outer s H E).XQ (dJ st) t∧t {nx:=fun _ H'=>Q .aP H',rt:=Q} (start N vs) H):aN P w K mg base cx (k+1) f fd ps sp:=by
 obtain⟨oc,od,kV,doc,pm,an,bI,ct,EL,rfl,lk,ve⟩:=F.ex
 refine OL lk ve S len fun A outer s H vs Q E hr KY=>?_
 obtain⟨t,h,q⟩:=vt bI A outer s H vs Q E hr KY
 exact⟨t,h.XQ,q⟩
theorem cw.binds {x qual:Str}{st:Stmt}{f:Addr}{fd:FuncData}{ps:List Str}(F:cw K x qual st f fd)
  (h:∀(kV doc pm:Value) (an:Option Addr) (bI ct:Value) (us:List Value),us.length=ps.length→bindArgs (PySem.W.fnOf x qual (eF st) (dJ st) (ai st) .none kV doc pm an bI ct) ⟨us,[]⟩=pure (ps.zip us)):Binds K fd ps []:=by
 obtain⟨oc,od,kV,doc,pm,an,bI,ct,EL,rfl,lk,ve⟩:=F.ex
 exact .all (h kV doc pm an bI ct)
theorem Ab {x qual:Str}{st:Stmt}{f:Addr}{oc:Value}{od an:Option Addr}{EL:Array (Option Value)}{kV doc pm bI ct:Value}(l:K.lookup f=some ⟨oc,od,.func (PySem.W.fnOf x qual (eF st) (dJ st) (ai st) .none kV doc pm an bI ct),EL⟩)
  (c:PySem.W.codeIn K bI qual=true) (k:PySem.W.keepIn K (.ref f)=true):cw K x qual st f (PySem.W.fnOf x qual (eF st) (dJ st) (ai st) .none kV doc pm an bI ct):=⟨⟨oc,od,kV,doc,pm,an,bI,ct,EL,rfl,l,c⟩,k⟩
end
theorem bO {A:Around}{k:Nat}(hr:c7 k A):A.units+1 < cLine:=Nat.lt_of_le_of_lt (Nat.add_le_add_left (by decide:1≤64) _) hr.units
theorem bb {n:Nat}(h:n≤1000):n < sizeLine:=Nat.lt_of_le_of_lt h (by decide)
section
variable {X:Cx}
theorem pv (i:Nat) {x:Str}{pos:Pos}(hN:X.N[i]?=some x:=by rfl) (hv:Vis X.env.scope x:=by first | exact Or.inl rfl | exact Or.inr (Or.inl rfl) | exact Or.inr (Or.inr rfl)) (hd:(x == ("__debug__":Str))=false:=by decide)
  (ve:(x == ("__classdict__":Str))=false:=by decide):PE X (.Name x pos) (Sr i):=Ss hN hv hd ve
end
theorem cX {A B:Prop}(h:B):if false=true then A else B:=by
 rw [if_neg Bool.false_ne_true]
 exact h
theorem fB {A B:Prop}(h:A):if true=true then A else B:=by
 rw [if_pos rfl]
 exact h
theorem cQ {c A B:Prop} [Decidable c] (h1:c→A) (h2:¬c→B):if c then A else B:=by
 by_cases h:c
 ·rw [if_pos h]
  exact h1 h
 ·rw [if_neg h]
  exact h2 h
noncomputable def au (H H':Hp):Prop:=∀b o,H b=some o→H' b=some o
theorem au.refl (H:Hp):au H H:=fun _ _ h=>h
theorem au.trans {H H1 H2:Hp}(a:au H H1) (b:au H1 H2):au H H2:=fun c o h=>b c o (a c o h)
theorem au.free {H H':Hp}(e:au H H') {l:Addr}(h:H' l=Option.none):H l=Option.none:=by
 cases q:H l with
 | none=>rfl
 | some o=>
  rw [e l o q] at h
  cases h
theorem au.seq {K:PySem.W.Frag}{H H':Hp}{a:Addr}{xs:List V}(e:au H H') (h:bc K H a xs):bc K H' a xs:=by
 rcases h with (h | ⟨o,h⟩) | h
 ·exact .inl (.inl (e _ _ h))
 ·exact .inl (.inr ⟨o,e _ _ h⟩)
 ·exact .inr h
end L2
set_option maxHeartbeats 4000000
namespace L2
open PySem PySem.Spec PyProof.Rows
theorem EW:bootBuiltins "abs"=some (.builtin "abs"):=by decide +kernel
theorem dW:bootBuiltins "len"=some (.builtin "len"):=by decide +kernel
theorem SU:bootBuiltins "int"=some (.type "int"):=by decide +kernel
theorem jX:bootBuiltins "list"=some (.type "list"):=by decide +kernel
section
variable {X:Cx}{pos:Pos}
noncomputable def EX (j:Int):Prop:=0 < j∧(j < 1073741824∨j.natAbs.log2 < 9000)
theorem EX.small {j:Int}(h:0 < j) (h2:j < 1073741824):EX j:=⟨h,.inl h2⟩
theorem g6:lr X (binaryOp .FloorDiv) (rI (fun _ j=>EX j) fun i j=>.int (i / j)):=Yr fun i j _ _ _ _ _ hc q=>by
 have h1:(0:Int) < j:=hc.1
 refine floordiv_int (by omega) (by rw [Int.fdiv_eq_ediv_of_nonneg i (by omega)]; exact q) (.inl ?_)
 rcases hc.2 with h2 | h2
 ·exact PyProof.noPylong_small (by omega)
 ·exact PyProof.noPylong_of_log2 h2
noncomputable def YH (i j:Int):Prop:=0≤j∧j≤1000∧i.natAbs < 2 ^ 1000
theorem Lu:lr X (binaryOp .LShift) (rI YH fun i j=>.int (i*2 ^ j.toNat)):=Yr fun i j _ _ _ _ _ hc q=>by
 obtain⟨h1,h2,h3⟩:=hc
 refine lshift_int h1 ?_ q
 have h4:Builtin.Int.intBits i≤1000:=intBits_le_iff.mpr h3
 have h5:(2:Int) ^ 27=134217728:=by decide
 omega
noncomputable def EY (K:PySem.W.Frag):R2:=fun x y H Q=>∃l b xs zs,x=.ref l∧y=.ref b∧bc K H l xs∧bc K H b zs∧xs.length+zs.length≤sizeLine∧∀p,H p=none→Q (.ref p) (upd H p (.lst (xs++zs)))
theorem B4:lr X (binaryOp .Add) (EY X.K):=by
 intro pins s σ H x y v u Q I rx ry h
 obtain⟨l,b,xs,zs,rfl,rfl,hH,hB,hz,q⟩:=h
 cases rx
 cases ry
 obtain⟨aO,r,hl,z⟩:=I.list hH
 obtain⟨bG,r2,g5,z2⟩:=I.list hB
 obtain⟨⟨cls,dd,data,sl⟩,n,ho,hc,hdd,hd⟩:=hl
 obtain⟨⟨agC,dd2,data2,sl2⟩,n2,Ef,hc2,agD,hd2⟩:=g5
 simp only at hc hd hc2 hd2
 subst hc hd hc2 hd2
 have l1:=r.length
 have l2:=r2.length
 have ea:aO.toArray++bG.toArray=(aO++bG).toArray:=by simp
 refine concat_meets ⟨_,ho,rfl⟩ ⟨_,Ef,rfl⟩ noFill_list_add seq_list_add PySem.F.slot_list_add PySem.F.entry_list_add (PySem.F.args_list_add_2 _ _) (list_addW l b aO.toArray bG.toArray n n2 dd dd2 sl sl2 (by rw [List.size_toArray,List.size_toArray]; omega)) ⟨ho,Ef,?_⟩
 rw [ea]
 exact⟨.ref _,_,I.SQ (t':=s.toks) (r.append r2) (by rw [List.length_append]; omega),rfl,q _ I.fresh⟩
noncomputable def YI (K:PySem.W.Frag) (n:Nat) (t:Lh):TG:=fun v σ H Q=>∃a xs,v=.ref a∧bc K H a xs∧xs.length=n∧t xs σ H Q
theorem tR {es:List Expr}{k:Nat}{t:Lh}{n:Nat}(hc:X.calm=true) (h:Yj X es t)
  (hn:(assignEach es X.env).length=n:=by rfl) (k_:(assignEach es X.env).findIdx? (·.1)=none:=by rfl):PG X (.Tuple es k pos) (YI X.K n t):=by
 intro pins s σ H v u Q I r hw
 obtain⟨a,xs,e1,hq,hl,hw⟩:=hw
 subst e1
 cases r
 obtain⟨aO,rv,ht,hz⟩:=I.list hq
 have YJ:s.heap.IsList a aO.toArray:=by
  obtain⟨o,m,e,h1,_,h2⟩:=ht
  exact⟨o,e,h1,m,h2⟩
 rw [assign_Tuple]
 refine wpAny_bind (wpAny_standAt ?_)
 unfold unpack
 have e2:(assignEach es X.env).length=aO.toArray.size:=by rw [hn,←hl,rv.length]; simp
 rw [e2,k_]
 refine wpAny_bind (wpAny_holding (PySem.W.kun_itemsOf (I.ok.hd hc) YJ fun h' hx=>?_))
 have I1:Inv X pins σ H {s with heap:=h'}:=I.kept (t':=s.toks) fun b o e=>hx b o (Nat.ne_of_lt (Heap.lt_size e)) e
 exact h pins _ σ H xs _ Q I1 (by simpa using rv) hw
end
theorem nX (x:Int):Builtin.bitAnd x 4=x / 4 % 2*4:=PySem.W.kbt_bit x 2
theorem nY (x:Int):Builtin.bitAnd x 8=x / 8 % 2*8:=PySem.W.kbt_bit x 3
theorem Lv (x:Int):Builtin.bitAnd x 3=x % 4:=PySem.W.kbt_mask x 2
theorem Lw (x:Int):Builtin.bitOr x 4=x+4 - x / 4 % 2*4:=by rw [bitOr_and,nX]
theorem Lx (x:Int):Builtin.bitOr x 8=x+8 - x / 8 % 2*8:=by rw [bitOr_and,nY]
theorem C6 (a d:Nat) (h:d < 16):d &&& (a*16)=0:=by
 have e1:d &&& 15=d % 16:=Nat.and_two_pow_sub_one_eq_mod d 4
 have e2:(a*16) &&& 15=(a*16) % 16:=Nat.and_two_pow_sub_one_eq_mod (a*16) 4
 have e3:d % 16=d:=Nat.mod_eq_of_lt h
 have e4:(a*16) % 16=0:=by omega
 have f1:d &&& 15=d:=e1.trans e3
 have f2:(d &&& 15) &&& (a*16)=d &&& ((a*16) &&& 15):=by rw [Nat.and_assoc,Nat.and_comm 15 (a*16)]
 rw [f1,e2,e4,Nat.and_zero] at f2
 exact f2
theorem EZ {k s:Int}(h0:0≤k) (h1:k < 16) (hs:0≤s):Builtin.bitOr k (s*16)=k+s*16:=by
 have e:k.toNat &&& (s*16).toNat=0:=by
  have q:(s*16).toNat=s.toNat*16:=by omega
  rw [q]
  exact C6 _ _ (by omega)
 rw [bitOr_and,bitAnd_pp h0 (by omega),e]
 exact Int.sub_zero _
end L2
namespace L2
open PySem PySem.Spec PyProof.Rows
section
variable {X:Cx}
end
end L2
namespace L2
open PySem PySem.Spec PyProof.Rows
end L2
namespace L2
open PySem PySem.Spec PyProof.Rows
theorem SV (CX:vk) (P:Program) (w:World) (K:PySem.W.Frag) (mg:Str→Option Value) (base:Heap) (N:List Str) (qual:Str) (scope:Scope) (f:Addr) (cd:Value) (A:Around) (outer:List Env) (s:Shared) (H:Hp) (E:XK) :
  (vo CX P w K mg base N qual scope f cd A outer s H E).K=K:=rfl
end L2
namespace L2
open PySem PySem.Spec PyProof.Rows
end L2
namespace L2
open PySem PySem.Spec PyProof.Rows
theorem au.put {H:Hp}{b:Addr}{o:HO}(h:H b=none):au H (upd H b o):=fun c u e=>by
 rw [ah (aq e h)]
 exact e
end L2
namespace L2
theorem Ly (i j:Int):vi (.int i) (.int j)=true:=rfl
theorem Lz (i j:Bool):vi (.bl i) (.bl j)=true:=rfl
theorem LA (i j:PySem.Str):vi (.str i) (.str j)=true:=rfl
theorem LC (i:Int):vi (.int i) .aP=true:=rfl
theorem LD (i:Int):vi .aP (.int i)=true:=rfl
end L2
namespace L2
open PySem PySem.Spec PyProof.Rows
noncomputable def eG (X:Cx) (N:List Str) (scope:Scope) (cl:List (Str×Addr)) (C:Addr) (s:Shared) (H:Hp) (fp:List Addr):Cx:=
 {X with N:=N,s₀:=s,H₀:=H,env:=compEnvC scope cl C X.env,outer:=X.stack,stack:=X.stack,ex:=fp,fn:=fun _=>false,pn:=[],xe:=fun _ _=>False}
noncomputable def aV (fr:List Nat) (σ:St) (v:Option V):St:=v::fr.map fun j=>(σ[j]?).join
structure Ac (X:Cx) (x:Str) (ns:List Str) (fr:List Nat) (scope:Scope) (cl:List (Str×Addr)):Prop where
 C7:closureFor scope X.env=pure cl
 nZ:∀y∈scope.names,y.2≠.cell
 kind:scope.kind=.function
 own:∀y∈scope.names,y.2=.local→scope.names.lookup y.1=some .local
 var:scope.names.lookup x=some .local
 sub:∀z c,cl.lookup z=some c→X.env.cells.lookup z=some c
 has:∀z,((relabel scope X.env).names.lookup z=some .cell∨(relabel scope X.env).names.lookup z=some .free)→∃c,cl.lookup z=some c
 len:ns.length=fr.length
 E4:∀(k:Nat) z j,ns[k]?=some z→fr[k]?=some j→X.N[j]?=some z∧X.env.scope.names.lookup z=some .cell∧((relabel scope X.env).names.lookup z=some .cell∨(relabel scope X.env).names.lookup z=some .free)
 nd:(x::ns).Nodup
inductive C8 (P:Expr→TT→Prop):List Expr→TT→Prop where
 | nil:C8 P [] fun _ H Q=>Q true H
 | one {c:Expr}{t:TT}(h:P c t):C8 P [c] t
noncomputable def jv (J:It) (fr:List Nat) (tt:TT) (te:TE) (σ:St) (D:Addr) (Q:Hp→Prop) (H:Hp):Prop:=
 ∃W:Nat→Nat→Hp→Prop,(∃m,W 0 m H)∧∀i m H2,W i m H2→(J.stop i H2∧Q H2)∨(J.go i H2∧∀v H',J.Oy i H2 v H'→tt (aV fr σ (some v)) H' fun b H3=>
  if b=true then te (aV fr σ (some v)) H3 fun y H4=>∃ys,H4 D=some (.lst ys)∧ys.length < sizeLine∧∃m',m' < m∧W (i+1) m' (upd H4 D (.lst (ys++[y])))else ∃m',m' < m∧W (i+1) m' H3)
theorem E6 {A B:Prop}(h:if true=true then A else B):A:=by
 rw [if_pos rfl] at h
 exact h
section
variable {X:Cx}{pins:List (Addr×Obj)}{σ:St}{H:Hp}{s:Shared}{x:Str}{ns:List Str}{fr:List Nat}{scope:Scope}{cl:List (Str×Addr)}{fp:List Addr}
theorem ON (I:Inv X pins σ H s) (L:Ac X x ns fr scope cl) (hf:∀b∈fp,lh X pins H b) (ho:∀b∈fp,b < s.heap.objs.size):(eG X (x::ns) scope cl s.heap.objs.size s H fp).Ok where
 mod:=I.ok.mod
 kind:=L.kind
 glob:=I.ok.glob
 blt:=I.ok.blt
 above:=Nat.le_refl _
 inj:=fun a b c h1 h2=>I.ok.inj a b c (L.sub a c h1) (L.sub b c h2)
 has:=fun z h=>L.has z h
 XJ:=fun _ _ h=>nomatch h
 hd:=I.ok.hd
 frames:=I.ok.frames
 X_:=.inl rfl
 Ya:=fun b hb=>⟨Nat.ne_of_lt (ho b hb),fun z c h=>(hf b hb).2.2.2.2.1 z c (L.sub z c h)⟩
 bs:=I.bs
 Er:=Nat.le_trans I.ok.Er I.sz
 CM:=fun b o e hb=>by
  rcases (hf b hb).2.2.2.1 with h | h
  ·exact I.ok.CM b o e h
  ·exact absurd (Nat.lt_of_lt_of_le (Heap.lt_size e) (Nat.le_trans I.ok.Er h)) (Nat.lt_irrefl _)
 CN:=fun b hb hs=>by
  rcases List.mem_cons.mp (I.zU b hs)with h | h
  ·exact(hf b hb).2.1 h
  ·exact(hf b hb).2.2.1 h
 la:=I.stack
 Om:=I.tj
theorem LF {fr:List Nat}{σ:St}{v:Option V}{k:Nat}{u:V}(h:(aV fr σ v)[k+1]?=some (some u)):∃j,fr[k]?=some j∧σ[j]?=some (some u):=by
 unfold aV at h
 rw [List.getElem?_cons_succ,List.getElem?_map] at h
 cases e:fr[k]? with
 | none=>rw [e] at h; cases h
 | some j=>
  rw [e] at h
  refine⟨j,rfl,?_⟩
  cases e2:σ[j]? with
  | none=>simp [e2] at h
  | some o=>simp [e2] at h; rw [h]
theorem E8 {h':Heap}{t':Nat}(I:Inv X pins σ H s) (L:Ac X x ns fr scope cl) (hf:∀b∈fp,lh X pins H b) (ho:∀b∈fp,b < s.heap.objs.size)
  (hn:h'.Ns s.heap.objs.size fun _=>none) (hk:∀b o,s.heap.get? b=some o→h'.get? b=some o) :
  Inv (eG X (x::ns) scope cl s.heap.objs.size s H fp) [] (aV fr σ none) H {s with heap:=h',toks:=t'} where
 ok:=ON I L hf ho
 os:=rfl
 bare:=I.bare
 base:=Un.kept hk
 loc:=by
  refine⟨_,hn,fun i z v e1 e2 e3=>?_⟩
  cases i with
  | zero=>cases e2
  | succ k=>
   have SW:ns[k]?=some z:=e1
   obtain⟨j,ej,ev⟩:=LF e2
   obtain⟨hN,hc,hy⟩:=L.E4 k z j SW ej
   obtain⟨m,hm,hl⟩:=I.loc
   obtain⟨u,r,l⟩:=hl j z v hN ev (.inr (.inl hc))
   refine⟨u,r,.inr ⟨hy,?_⟩⟩
   rcases l with ⟨l,_⟩ | ⟨_,c,tS,⟨o,Ef,hd⟩⟩
   ·have:X.env.scope.names.lookup z=some .local:=l
    rw [hc] at this
    cases this
   ·obtain⟨c',Sq⟩:=L.has z hy
    have e:=L.sub z c' Sq
    rw [tS] at e
    cases e
    exact⟨c,Sq,o,hk c o Ef,hd⟩
 cell:=fun z c e=>by
  obtain⟨v,o,Ef,hd⟩:=I.cell z c (L.sub z c e)
  exact⟨v,o,hk c o Ef,hd⟩
 free:=I.fresh
 eN:=fun z c e=>I.eN z c (L.sub z c e)
 pin:=fun p hp=>nomatch hp
 bK:=I.bK.kept hk
 len:=by
  show(aV fr σ none).length=(x::ns).length
  unfold aV
  rw [List.length_cons,List.length_map,List.length_cons,L.len]
theorem E9 {elt iter:Expr}{px:Pos}{ifs:List Expr}{pos:Pos}{J:It}{it D:Addr}{tn:Nat→Heap→Prop}{tt:TT}{te:TE}{Qe:Hp→Prop}{R:Result→Shared→Prop}{s4:Shared}
  (hc:X.calm=true) (L:Ac X x ns fr scope cl) (T:Turn X.prog X.w X.K (.Name x px) J fp it tn) (hf:∀b∈fp,lh X pins H b) (ho:∀b∈fp,b < s.heap.objs.size) (I:Inv X pins σ H s)
  (hE:PE (eG X (x::ns) scope cl s.heap.objs.size s H fp) elt te) (hT:C8 (PT (eG X (x::ns) scope cl s.heap.objs.size s H fp)) ifs tt) (hw:jv J fr tt te σ D Qe H)
  (I4:Inv (eG X (x::ns) scope cl s.heap.objs.size s H fp) [] (aV fr σ none) H s4) (st4:tn 0 s4.heap)
  (hR:∀(s':Shared) (H':Hp) (v:Option V),Inv (eG X (x::ns) scope cl s.heap.objs.size s H fp) [] (aV fr σ v) H' s'→Qe H'→R (.ok .next) s') :
  codeAny (model X.prog X.w) X.A (.compStart (.ListComp elt [⟨.Name x px,iter,ifs,0⟩] scope pos) 0 (.ref it) (.ref D) (compEnvC scope cl s.heap.objs.size X.env)) R s4:=by
 obtain⟨W,⟨m0,w0⟩,turn⟩:=hw
 have okY:=ON I L hf ho
 have hxl:Loc (eG X (x::ns) scope cl s.heap.objs.size s H fp).env.scope x:=.inl (lookup_relabel_local L.var)
 have bN:∀{H':Hp},(∀b∈fp,H' b=none)→∀b∈fp,lh (eG X (x::ns) scope cl s.heap.objs.size s H fp) [] H' b:=fun hn b hb=>
  ⟨hn b hb,(okY.Ya b hb).1,okY.CN b hb,.inl hb,(okY.Ya b hb).2,fun p hp=>nomatch hp⟩
 have fr0:∀b∈fp,H b=none:=fun b hb=>(hf b hb).1
 have loop:codeAny (model X.prog X.w) X.A (.compLoop (.ListComp elt [⟨.Name x px,iter,ifs,0⟩] scope pos) 0 (.ref it) (.ref D) (compEnvC scope cl s.heap.objs.size X.env)) R s4:=by
  refine codeAny_loop rfl (fun n s'=>∃i v H',Inv (eG X (x::ns) scope cl s.heap.objs.size s H fp) [] (aV fr σ v) H' s'∧tn i s'.heap∧(∀b∈fp,H' b=none)∧W i n H') (fun n s3 hI=>?_) m0 ⟨0,none,H,I4,st4,fr0,w0⟩
  obtain⟨i,v0,H3,I3,Yo,Yp,w3⟩:=hI
  show wpAny _ X.A ((compTurn (.ListComp elt [⟨.Name x px,iter,ifs,0⟩] scope pos) 0 (.ref it) (.ref D) (compEnvC scope cl s.heap.objs.size X.env)).onRaise (fun y=>do noteFrame y (compEnvC scope cl s.heap.objs.size X.env); theTreesLotGoes y)) _ _ s3
  refine wpAny_noted ?_
  rw [compTurn_list]
  have low:∀{α:Type}{t:Sem α}{Q Q':α→Shared→Prop}{E:Value→Shared→Prop}{s5:Shared},wpAny (model X.prog X.w) X.A t Q (fun _ _=>False) s5→(∀a s6,Q a s6→Q' a s6)→wpAny (model X.prog X.w) X.A t Q' E s5:=
   fun h hq=>wpAny_mono h hq fun _ _ z=>z.elim
  rcases turn i n H3 w3 with ⟨stop,q⟩ | ⟨go,step⟩
  ·refine wpAny_bind (wpAny_standAt (wpAny_bind (low (T.done (eG X (x::ns) scope cl s.heap.objs.size s H fp) rfl rfl rfl hc i [] s3 _ H3 (fun _ _=>False) I3 (bN Yp) Yo stop) fun r s5 hr=>?_)))
   obtain⟨hr,I5⟩:=hr
   subst hr
   exact wpAny_pure (hR s5 H3 v0 I5 q)
  ·refine wpAny_bind (wpAny_standAt (wpAny_bind (low (T.item (eG X (x::ns) scope cl s.heap.objs.size s H fp) rfl rfl rfl hc i [] s3 _ H3 (fun _ _=>False) I3 (bN Yp) Yo go) fun r s5 hr=>?_)))
   obtain⟨u,hr,h5⟩:=hr
   subst hr
   refine wpAny_bind (low h5 fun _ s6 h6=>?_)
   obtain⟨y,H6,I6,r6,y6,st6,fr6⟩:=h6
   have I6':=I6.pinned (bN fr6) (T.obj _ _ st6)
   have hg:PG (eG X (x::ns) scope cl s.heap.objs.size s H fp) (.Name x px) (qX 0):=aJ (i:=0) L.nd rfl hxl (.inr (lookup_relabel_local L.var))
   refine wpAny_bind (low (hg _ s6 _ H6 y u (fun σ' H'=>σ'=aV fr σ (some y)∧H'=H6) I6' r6 ⟨rfl,rfl⟩) fun _ s7 h7=>?_)
   obtain⟨σ7,H7,I7,e7,e7'⟩:=h7
   subst e7 e7'
   have back:∀{H8:Hp}{s8:Shared},Inv (eG X (x::ns) scope cl s.heap.objs.size s H fp) ([]++lj fp s6.heap) (aV fr σ (some y)) H8 s8→(∃m',m' < n∧W (i+1) m' H8) →
     ∃m,m < n∧∃i v H',Inv (eG X (x::ns) scope cl s.heap.objs.size s H fp) [] (aV fr σ v) H' s8∧tn i s8.heap∧(∀b∈fp,H' b=none)∧W i m H':=fun {H8 s8} I8 hm=>by
    obtain⟨m',hm,w8⟩:=hm
    refine⟨m',hm,i+1,some y,H8,I8.gZ,T.keep _ _ _ st6 fun b hb o e=>(I8.pin (b,o) (List.mem_append_right _ (List.mem_append_right _ (gc hb e)))).1,fun b hb=>?_,w8⟩
    obtain⟨o,e,d⟩:=T.obj _ _ st6 b hb
    exact(I8.pin (b,o) (List.mem_append_right _ (List.mem_append_right _ (gc hb e)))).2.1
   have OO:=step y _ y6
   have emit:∀{H8:Hp}{s8:Shared},Inv (eG X (x::ns) scope cl s.heap.objs.size s H fp) ([]++lj fp s6.heap) (aV fr σ (some y)) H8 s8 →
     te (aV fr σ (some y)) H8 (fun y H4=>∃ys,H4 D=some (.lst ys)∧ys.length < sizeLine∧∃m',m' < n∧W (i+1) m' (upd H4 D (.lst (ys++[y])))) →
     wpAny (model X.prog X.w) X.A (do let _ ←call (.builtin "list.append") [.ref D,←eval elt (compEnvC scope cl s.heap.objs.size X.env)]) (fun _ s9=>∃m,m < n∧∃i v H',Inv (eG X (x::ns) scope cl s.heap.objs.size s H fp) [] (aV fr σ v) H' s9∧tn i s9.heap∧(∀b∈fp,H' b=none)∧W i m H') (fun _ _=>False) s8:=fun {H8 s8} I8 h8=>by
    refine wpAny_bind (bR (hE _ s8 _ H8 _ I8 h8) fun v9 s9 h9=>?_)
    obtain⟨z,H9,I9,r9,ys,hD,hlen,hm⟩:=h9
    refine wpAny_bind (bR (rk (X:=eG X (x::ns) scope cl s.heap.objs.size s H fp) _ s9 _ H9 (.ref D) [z] (.ref D) [v9] (fun _ H'=>∃m',m' < n∧W (i+1) m' H') I9 rfl (.cons r9 .nil) ⟨D,ys,z,rfl,rfl,hD,hlen,hm⟩) fun v10 s10 h10=>?_)
    obtain⟨_,H10,I10,_,aej⟩:=h10
    exact wpAny_pure (back I10 aej)
   cases hT with
   | nil=>
    refine wpAny_bind (wpAny_tests_nil ?_)
    refine wpAny_bind (low (emit I7 (E6 OO)) fun _ s9 h9=>wpAny_pure ⟨rfl,h9⟩)
   | one hP=>
    refine wpAny_bind (wpAny_tests_one (low (hP _ s7 _ _ _ I7 OO) fun b s8 h8=>?_))
    obtain⟨H8,I8,q8⟩:=h8
    cases b with
    | false=>
     have q9:∃m',m' < n∧W (i+1) m' H8:=q8
     exact wpAny_pure ⟨rfl,back I8 q9⟩
    | true=>
     exact wpAny_bind (low (emit I8 q8) fun _ s9 h9=>wpAny_pure ⟨rfl,h9⟩)
 exact codeAny_compStart_list loop (T.self X.A 0 _ _ _ st4 loop)
theorem E_ {s':Shared}{H':Hp}{σ':St}(I:Inv X pins σ H s) (hf:∀b∈fp,lh X pins H b) (I':Inv (eG X (x::ns) scope cl s.heap.objs.size s H fp) [] σ' H' s'):Inv X pins σ H' s':=
 I.Yc (ch:=fp) I'.os I'.base I'.bK I'.bare fun b hb=>⟨(hf b hb).2.2.2.1,(hf b hb).2.1,(hf b hb).2.2.2.2.1,(hf b hb).2.2.2.2.2⟩
theorem Fb {elt iter:Expr}{px:Pos}{ifs:List Expr}{pos:Pos}{J:It}{it:Addr}{tn:Nat→Heap→Prop}{tt:TT}{te:TE}{Qe:Addr→Hp→Prop}{R:Value→Addr→Result→Shared→Prop}{E:Value→Shared→Prop}
  (hc:X.calm=true) (L:Ac X x ns fr scope cl) (T:Turn X.prog X.w X.K (.Name x px) J fp it tn) (hf:∀b∈fp,lh X pins H b) (I:Inv X pins σ H s) (st:tn 0 s.heap)
  (hE:∀C s H,PE (eG X (x::ns) scope cl C s H fp) elt te) (hT:∀C s H,C8 (PT (eG X (x::ns) scope cl C s H fp)) ifs tt) (hw:∀D,H D=none→jv J fr tt te σ D (Qe D) (upd H D (.lst [])))
  (hR:∀(D C:Addr) (s':Shared) (H':Hp),Inv X pins σ H' s'→Qe D H'→(∃m o,s'.heap.get? C=some o∧(∀v,o.data≠.cell v)∧∀h':Heap,h'.get? C=some o→h'.Ns C m)→H' C=none→C≠X.env.locals→C∉X.fs→X.s₀.heap.objs.size≤C →
   (∀z c,X.env.cells.lookup z=some c→c≠C)→(∀p∈X.pn++pins,p.1≠C)→R (.ref D) C (.ok .next) s') :
  wpAny (model X.prog X.w) X.A (newList []) (fun acc s₃=>wpAny (model X.prog X.w) X.A (newFunctionEnv scope X.env.globals cl [] X.env.qual none .none (some X.env)) (fun YK s₄=>
   codeAny (model X.prog X.w) X.A (.compStart (.ListComp elt [⟨.Name x px,iter,ifs,0⟩] scope pos) 0 (.ref it) acc {YK with scope:=relabel scope X.env}) (R acc YK.locals) s₄) E s₃) E s:=by
 have ho:∀b∈fp,b < s.heap.objs.size:=fun b hb=>by
  obtain⟨o,e,_⟩:=T.obj _ _ st b hb
  exact Heap.lt_size e
 have I3:Inv X pins σ (upd H s.heap.objs.size (.lst [])) {s with heap:=s.heap.push {cls:=.type "list",dict:=none,data:=.seq ([]:List Value).toArray}}:=I.SQ (t':=s.toks) (.nil) (Nat.zero_le _)
 refine wpAny_newObj_type (wpAny_newFunctionEnv L.nZ (by intro y hy; simp at hy) (fun h1 Ad Eg=>?_) L.kind)
 dsimp only at Ad Eg ⊢
 generalize hs3:({s with heap:=s.heap.push {cls:=.type "list",dict:=none,data:=.seq ([]:List Value).toArray}}:Shared)=s3 at I3
 have eh:s.heap.push {cls:=.type "list",dict:=none,data:=.seq ([]:List Value).toArray}=s3.heap:=by rw [←hs3]
 rw [eh] at Ad Eg ⊢
 have hz:s3.heap.objs.size=s.heap.objs.size+1:=by rw [←eh,Heap.size_push]
 have hk:∀b o,s3.heap.get? b=some o→h1.get? b=some o:=fun b o e=>Eg.extBut b o (Nat.ne_of_lt (Heap.lt_size e)) (Heap.get?_push_of_some _ e)
 have hf3:∀b∈fp,lh X pins (upd H s.heap.objs.size (.lst [])) b:=fun b hb=>⟨by rw [ah (Nat.ne_of_lt (ho b hb))]; exact(hf b hb).1,(hf b hb).2⟩
 have XR:∀b∈fp,b < s3.heap.objs.size:=fun b hb=>by rw [hz]; exact Nat.lt_succ_of_lt (ho b hb)
 have es:∀tk,({s with heap:=h1,toks:=tk}:Shared)={s3 with heap:=h1,toks:=tk}:=fun tk=>by rw [←hs3]
 rw [es]
 have I4:=E8 (t':=s.toks+([]:List (Str×Value)).length) I3 L hf3 XR Ad hk
 refine E9 hc L T hf3 XR I3 (hE _ _ _) (hT _ _ _) (hw _ I.fresh) I4 ?_ fun s' H' v I' q=>?_
 ·refine T.keep _ _ _ st fun b hb o e=>hk b o ?_
  rw [←eh]
  exact Heap.get?_push_of_some _ e
 ·have IX:=E_ I3 hf3 I'
  obtain⟨m,⟨o,Ee,ep,Lf,XM,XS⟩,_⟩:=I'.loc
  refine hR _ _ s' H' IX q ⟨m,o,Lf,fun v z=>?_,fun h' e=>⟨o,Ee,ep,e,XM,XS⟩⟩ I'.free (Nat.ne_of_gt I3.lt) (I3.Sn (Nat.le_refl _)) I3.sz (fun z c e=>?_) fun p hp=>?_
  ·rw [XM] at z
   cases z
  ·obtain⟨v,o2,e2,_⟩:=I3.cell z c e
   exact Nat.ne_of_lt (Heap.lt_size e2)
  ·exact Nat.ne_of_lt (Heap.lt_size (I3.pin p hp).1)
noncomputable def tLc (wi:TI) (fr:List Nat) (tt:TT) (te:TE):TE:=fun σ H Q=>wi σ H fun J H1=>∀D,H1 D=none→jv J fr tt te σ D (fun H2=>Q (.ref D) H2) (upd H1 D (.lst []))
theorem Fc {elt iter:Expr}{px pos:Pos}{ifs:List Expr}{wi:TI}{tt:TT}{te:TE}(hc:X.calm=true) (L:Ac X x ns fr scope cl) (hi:PI X (.Name x px) iter wi)
  (hE:∀C s H fp,PE (eG X (x::ns) scope cl C s H fp) elt te) (hT:∀C s H fp,C8 (PT (eG X (x::ns) scope cl C s H fp)) ifs tt)
  (hs:∀v,foldedSetIterable iter X.env v=pure v:=by intro _; rfl):PE X (.ListComp elt [⟨.Name x px,iter,ifs,0⟩] scope pos) (tLc wi fr tt te):=by
 intro pins s σ H Q I h
 rw [eval_ListComp]
 refine wpAny_comprehension_free (use:=none) rfl hs L.C7 L.kind L.own (bR (hi pins s σ H _ I h) fun v s1 h1=>bR h1 fun itv s2 h2=>?_)
 obtain⟨it,fp,tn,J,H2,e,I2,T,OE,f2,q⟩:=h2
 subst e
 refine Fb (R:=fun acc C=>compPost (model X.prog X.w) X.A X.xe none (EP X pins σ Q) acc C) hc L T f2 I2 OE (fun C s H=>hE C s H fp) (fun C s H=>hT C s H fp) q ?_
 intro D C s' H' I' q' Ad hn hl hfs hz l7 SX
 obtain⟨m,o,e,hd,hk⟩:=Ad
 refine⟨m,hk _ e,fun h' Eg=>?_⟩
 exact⟨.ref D,H',I'.turned (t':=s'.toks) (fun b o hb e=>Eg.extBut b o hb e) hn hl (.inr hz) l7 SX,rfl,q'⟩
theorem Fd {elt iter:Expr}{y:Str}{j:Nat}{px py pos YL:Pos}{ifs:List Expr}{wi:TI}{tt:TT}{te:TE}(hc:X.calm=true) (hN:X.N.Nodup) (hj:X.N[j]?=some y) (hy:X.env.scope.names.lookup y=some .local) (L:Ac X x ns fr scope cl) (hi:PI X (.Name x px) iter wi)
  (hE:∀C s H fp,PE (eG X (x::ns) scope cl C s H fp) elt te) (hT:∀C s H fp,C8 (PT (eG X (x::ns) scope cl C s H fp)) ifs tt)
  (hsw:swapsWith (.ListComp elt [⟨.Name x px,iter,ifs,0⟩] scope pos) (some (.Name y py)) YL.line X.env=pure true:=by rfl)
  (hs:∀v,foldedSetIterable iter X.env v=pure v:=by intro _; rfl):PS X (.Assign [.Name y py] (.ListComp elt [⟨.Name x px,iter,ifs,0⟩] scope pos) YL) (Li (tLc wi fr tt te) (qX j)):=by
 intro pins s σ H Dn I h
 rw [exec_Assign_Name_used _ _ _ _ hsw]
 refine wpAny_bind (wpAny_standAt (wpAny_bind ?_))
 show wpAny _ X.A (do let _ ←comprehension (.ListComp elt [⟨.Name x px,iter,ifs,0⟩] scope pos) scope X.env _ (newList []) false (eval iter X.env) (some (assign (.Name y py) X.env))) _ _ s
 refine wpAny_bind (bR (wpAny_comprehension_free (use:=some (assign (.Name y py) X.env)) (Q:=fun _ s'=>SP X pins Dn .next s') rfl hs L.C7 L.kind L.own (bR (hi pins s σ H _ I h) fun v s1 h1=>bR h1 fun itv s2 h2=>?_)) fun _ s' q=>wpAny_pure (wpAny_pure q))
 obtain⟨it,fp,tn,J,H2,e,I2,T,OE,f2,q⟩:=h2
 subst e
 refine Fb (R:=fun acc C=>compPost (model X.prog X.w) X.A X.xe (some (assign (.Name y py) X.env)) (fun _ s'=>SP X pins Dn .next s') acc C) hc L T f2 I2 OE (fun C s H=>hE C s H fp) (fun C s H=>hT C s H fp) q ?_
 intro D C s' H' I' q' Ad hn hl hfs hz l7 SX
 obtain⟨m,o,e,hd,hk⟩:=Ad
 have I'':Inv X (pins++[(C,o)]) σ H' s':=I'.f_ fun p hp=>by
  rcases List.mem_append.mp hp with h | h
  ·exact I'.pin p (List.mem_append_right _ h)
  ·have ep:p=(C,o):=by simpa using h
   subst ep
   exact⟨e,hn,hl,hfs,hd⟩
 refine wpAny_assign_Name (nR I'' hN hj (.inl hy) (show RelV (.ref D) (.ref D) from rfl) (fun s2 I2=>?_) (.inr hy))
 obtain⟨e2,n2,_⟩:=I2.pin (C,o) (List.mem_append_right _ (List.mem_append_right _ (List.mem_singleton.mpr rfl)))
 refine⟨m,hk _ e2,fun h' Eg=>?_⟩
 exact⟨σ.set j (some (.ref D)),H',I2.gZ.turned (t':=s2.toks) (fun b o hb e=>Eg.extBut b o hb e) hn hl (.inr hz) l7 SX,q'⟩
end
section
variable {X:Cx}{x:Str}{ns:List Str}{fr:List Nat}{scope:Scope}{cl:List (Str×Addr)}
theorem Ae {α:Type}{z:Str}{c:α}:∀{l:List (Str×α)},l.lookup z=some c→(z,c)∈l
 | [],h=>by simp at h
 | (y,d)::l,h=>by
  rw [List.lookup_cons] at h
  cases e:z == y with
  | true=>
   rw [e] at h
   have e2:z=y:=by simpa using e
   cases h
   rw [e2]
   exact List.mem_cons_self
  | false=>
   rw [e] at h
   exact List.mem_cons_of_mem _ (Ae h)
theorem C9 (C7:closureFor scope X.env=pure cl) (nZ:scope.names.all (fun y=>y.2 != .cell)=true) (kind:scope.kind=.function)
  (own:scope.names.all (fun y=>y.2 != .local || scope.names.lookup y.1 == some .local)=true) (var:scope.names.lookup x=some .local) (sub:∀p∈cl,X.env.cells.lookup p.1=some p.2)
  (has:(relabel scope X.env).names.all (fun y=>!(y.2 == .cell || y.2 == .free) || (cl.lookup y.1).isSome)=true) (len:ns.length=fr.length)
  (fr_:∀p∈ns.zip fr,X.N[p.2]?=some p.1∧X.env.scope.names.lookup p.1=some .cell∧((relabel scope X.env).names.lookup p.1=some .cell∨(relabel scope X.env).names.lookup p.1=some .free)) (nd:(x::ns).Nodup):Ac X x ns fr scope cl where
 C7:=C7
 nZ:=fun y hy=>by simpa using List.all_eq_true.mp nZ y hy
 kind:=kind
 own:=fun y hy h=>by
  have:=List.all_eq_true.mp own y hy
  rw [h] at this
  simpa using this
 var:=var
 sub:=fun z c h=>sub _ (Ae h)
 has:=fun z h=>by
  have k:∀t,(relabel scope X.env).names.lookup z=some t→(t=.cell∨t=.free)→∃c,cl.lookup z=some c:=fun t ht hk=>by
   have:=List.all_eq_true.mp has _ (Ae ht)
   rcases hk with rfl | rfl <;> simpa [Option.isSome_iff_exists] using this
  rcases h with h | h
  ·exact k _ h (.inl rfl)
  ·exact k _ h (.inr rfl)
 len:=len
 E4:=fun k z j h1 h2=>fr_ (z,j) (List.mem_of_getElem? (i:=k) (by rw [List.getElem?_zip_eq_some]; exact⟨h1,h2⟩))
 nd:=nd
end
end L2
namespace L2
end L2
namespace L2
open PySem PySem.Spec PyProof.Rows
theorem Fe {X:Cx}{K:PySem.W.Frag}(h:X.K=K):Yy X (Yz K):=by
 subst h
 exact bS
theorem LG {X:Cx}{K:PySem.W.Frag}(h:X.K=K):Yy X (EN K):=by
 subst h
 exact aB
theorem nB {X:Cx}{K:PySem.W.Frag}{e:Expr}{f:Str}{pos:Pos}{ta:TE}(h:X.K=K) (he:PE X e ta) (hb:attributeBase e f X.env (eval e X.env)=eval e X.env):PE X (.Attribute e f pos) (SE K ta f):=by
 subst h
 exact aY he hb
end L2
namespace L2
open PySem PySem.Spec PyProof.Rows
open AutoSeq1 (wpAny_loadPart')
section
variable {prog:Program}{w:World}{A:Around}{E:Value→Shared→Prop}{s:Shared}
noncomputable abbrev Ff (p:Int) (t:Tok):List (Str×Value):=[("start",.int p t)]
theorem LH (l:Value) (p:Int) (t:Tok):checkTypeCall "enumerate" ⟨[l],Ff p t⟩=pure ():=by kernel_rfl
theorem LI (l:Value) (p:Int) (t:Tok):checkBuiltinCall "enumerate.__new__" ⟨[.type "enumerate",l],Ff p t⟩=pure ():=by kernel_rfl
theorem LJ (o l:Value) (p:Int) (t:Tok):argsOk "object.__init__" ⟨[o,l],Ff p t⟩:=by
 first | exact⟨rfl⟩ | decide | (unfold argsOk; kernel_rfl) | trivial
theorem SY (l:Addr) (xs:Array Value) (n:Nat) (dct:Option Addr) (sl:Array (Option Value)) (p:Int) (t:Tok) (hp:(!Builtin.SmallTypes.fitsIndex p)=false) :
  Meets (Builtin.«enumerate.__new__» ⟨[.type "enumerate",.ref l],Ff p t⟩) (fun _ R s=>s.heap.get? l=some {cls:=.type "list",dict:=dct,data:=.seq xs n,slots:=sl} ∧
   R (.ok (.ret (.ref (s.heap.push {cls:=.type "list_iterator",data:=.fields #[.ref l,.int 0 0]}).objs.size)))
    {s with heap:=(s.heap.push {cls:=.type "list_iterator",data:=.fields #[.ref l,.int 0 0]}).push {cls:=.type "enumerate",data:=.fields #[.none,.bool false,.ref s.heap.objs.size,rawInt p,.none,.none]}}):=
 .of_wp fun prog w A R s h=>by
  obtain⟨YM,g,d,tk,os⟩:=s
  obtain⟨hl,h⟩:=h
  have sub:=sub_enumerate
  have isl:Heap.IsList (Shared.heap ⟨YM,g,d,tk,os⟩) l xs:=⟨_,hl,rfl,n,rfl⟩
  wp_walk using wpAny_loadPart' hl
  refine wpAny_stack_any fun st=>wpAny_pure ?_
  split
  ·rename_i c _ _ _ _ _
   cases (c == Value.type "enumerate") <;> (wp_walk using wpAny_loadPart' hl,wpAny_pyIter_list isl; exact⟨_,rfl,h⟩)
  ·wp_walk using wpAny_loadPart' hl,wpAny_pyIter_list isl
   exact⟨_,rfl,h⟩
theorem LK {T ni ii:String}{Bn Bi:Builtin}{as:List Value}{kw:List (Str×Value)}{S:PySem.Spec}{Q Q1:Value→Shared→Prop}(ft:TypeCalled T ni ii) (c1:checkTypeCall T ⟨as,kw⟩=pure ())
  (c2:checkBuiltinCall ni ⟨.type T::as,kw⟩=pure ()) (en:entryFor table ni=some Bn) (ei:entryFor table ii=some Bi) (g:Meets (Bn ⟨.type T::as,kw⟩) S) (h:S A.in1 (wants Q1 E) s)
  (nx:∀o s1,Q1 o s1→s1.TypeIs o T∧argsOk ii ⟨o::as,kw⟩∧∃Si,Meets (Bi ⟨o::as,kw⟩) Si∧Si A.in1 (wants (fun r s2=>r=.none∧Q o s2) E) s1):wpAny (model prog w) A (call (.type T) as kw) Q E s:=by
 obtain⟨c,tl,mr⟩:=ft.mro
 have made:=ft.made; have sub:=ft.sub; have nt:=ft.notType; have cc:=ft.canCreate
 refine wpAny_call (codeAny_of_tree ?_); show wpAny _ _ (callAny (.type T) _) _ _ _
 refine wpAny_pure ⟨Code.quiet_builtin _ (by decide +kernel),codeAny_builtin F.entry_type_call ?_⟩; rw [Around.under_plain (weight_type_call_type T as kw) (units_type_call_type T as kw)]
 repeat (any_goals (first | assumption | wp_step))
 refine codeAny_mono (codeAny_call_builtin ft.plain en (wpAny_of_eq c2 (g prog w A.in1 _ s h))) fun r s1 hr=>?_
 cases r with
 | error e=>exact hr
 | ok fl=>
  cases fl with
  | ret o=>
   obtain⟨hT,ok,Si,gi,hs⟩:=nx _ _ hr
   have li:=ft.init.lookup; have bi:=ft.init.bind o
   repeat (any_goals (first | assumption | wp_step))
   refine codeAny_mono (codeAny_call_builtin ft.init.plain ei (ft.init.check _ _ _ _ _ _ _ _ hT ok (gi prog w A.in1 _ s1 hs))) fun r2 s2 f9=>?_
   cases r2 with
   | error e=>exact f9
   | ok fl2=>
    cases fl2 with
    | ret r=>
     obtain⟨rfl,hq⟩:=f9
     repeat (any_goals (first | assumption | wp_step))
    | _=>exact f9.elim
  | _=>exact hr.elim
theorem S0 {T ni:String}{o a:Value}{as:List Value}{kw:List (Str×Value)}(hl:typeLookup (.type T) "__init__"=pure (some (.builtin "object.__init__"))) (hm:Bind.madeBy (.type T)=pure (some ni)) (tQ:(some ni != some "object.__new__")=true) :
  Meets (Builtin.«object.__init__» ⟨o::a::as,kw⟩) (fun _ R s=>s.TypeIs o T∧R (.ok (.ret .none)) s):=by
 refine Meets.of_wp fun prog w A R s hs=>?_
 obtain⟨hT,hq⟩:=hs
 repeat (any_goals (first | assumption | wp_step))
 exact⟨_,rfl,hq⟩
theorem LL {l:Addr}{xs:Array Value}{p:Int}{t:Tok}{Q:Value→Shared→Prop}(hL:s.heap.IsList l xs) (hp:(!Builtin.SmallTypes.fitsIndex p)=false)
  (h:∀h',IsEnum h' (s.heap.objs.size+1) s.heap.objs.size p .none→h'.IsListIter s.heap.objs.size l 0→h'.objs.size=s.heap.objs.size+2→(∀b o,s.heap.get? b=some o→h'.get? b=some o)→Q (.ref (s.heap.objs.size+1)) {s with heap:=h'}) :
  wpAny (model prog w) A (call (.type "enumerate") [.ref l] (Ff p t)) Q E s:=by
 obtain⟨⟨c,dct,dt,sl⟩,hl,hc,n,hd⟩:=hL
 replace hc:c=.type "list":=hc
 replace hd:dt=.seq xs n:=hd
 subst hc hd
 refine LK (Q1:=fun o s1=>s1.TypeIs o "enumerate"∧Q o s1) F.called_enumerate (LH _ _ _) (LI _ _ _) F.entry_enumerate_new F.entry_object_init (SY l xs n dct sl p t hp) ⟨hl,?_⟩ fun o s1 hq=>
  ⟨hq.1,LJ _ _ _ _,_,S0 F.called_enumerate.init.lookup F.called_enumerate.made (by decide),hq.1,rfl,hq.2⟩
 have hz:(s.heap.push {cls:=.type "list_iterator",data:=.fields #[.ref l,.int 0 0]}).objs.size=s.heap.objs.size+1:=Heap.size_push ..
 show _∧_; rw [hz]
 have he:=Heap.get?_push_size (s.heap.push {cls:=.type "list_iterator",data:=.fields #[.ref l,.int 0 0]}) (o:={cls:=.type "enumerate",data:=.fields #[.none,.bool false,.ref s.heap.objs.size,rawInt p,.none,.none]}) rfl
 rw [hz] at he
 exact⟨⟨_,he,rfl⟩,h _ he ⟨_,Heap.get?_push_of_some _ (Heap.get?_push_size _ rfl),rfl,rfl⟩ (by rw [Heap.size_push,hz]) fun b o x=>Heap.get?_push_of_some _ (Heap.get?_push_of_some _ x)⟩
theorem vB {it:Addr}{fp:List Addr}{n:Nat}{P:Nat→Value→Prop}{St:Nat→Heap→Prop}(p:Nat) (D:Draws prog w A it fp n P St) :
  Draws prog w A it fp (p+n) (fun j v=>∃i,j=p+i∧P i v) (fun j h=>∃i,j=p+i∧St i h) where
 live:=fun j h ⟨i,_,st⟩=>D.live i h st
 frame:=fun j h h' ⟨i,e,st⟩ k=>⟨i,e,D.frame i h h' st k⟩
 item:=fun j s Q E hj ⟨i,e,st⟩ hQ=>D.item i s Q E (by omega) st fun x h' tk hP KU hs=>hQ x h' tk ⟨i,e,hP⟩ ⟨i+1,by omega,KU⟩ hs
 done:=fun s Q E ⟨i,e,st⟩ hE=>by
  have ei:i=n:=by omega
  subst ei
  exact D.done s Q E st hE
end
noncomputable def OP (K:PySem.W.Frag) (l:Addr) (p:Nat):It:=
 ⟨fun i H=>∃xs x,bc K H l xs∧xs[i]?=some x,fun i H x H'=>∃t v,H t=none∧x=.ref t∧(∀xs,bc K H l xs→xs[i]?=some v)∧H'=upd H t (.tup [.int ((p+i:Nat):Int),v]),fun i H=>∃xs,bc K H l xs∧xs.length=i⟩
theorem C_ {P:Program}{w:World}{K:PySem.W.Frag}{es:List Expr}{k:Nat}{tp:Pos}(l e it:Addr) (p:Nat) (hei:e≠it) (hle:l≠e) (hli:l≠it) :
  Turn P w K (.Tuple es k tp) (OP K l p) [e,it] e (fun i h=>(∃old,IsEnum h e it ((p+i:Nat):Int) old)∧h.IsListIter it l i) where
 mem:=by simp
 obj:=fun i h st b hb=>by
  obtain⟨⟨old,he⟩,o,ho,hc,hd⟩:=st
  rcases List.mem_cons.mp hb with rfl | hb
  ·exact⟨_,he,fun v z=>by cases z⟩
  ·have eb:b=it:=by simpa using hb
   subst eb
   exact⟨o,ho,fun v z=>by rw [hd] at z; cases z⟩
 keep:=fun i h h' st kk=>by
  obtain⟨⟨old,he⟩,hit⟩:=st
  exact⟨⟨old,kk e (by simp) _ he⟩,hit.at fun o z=>kk it (by simp) o z⟩
 item:=by
  intro X hP hw hK hc i pins s σ H E I hf st hg
  subst hP hw hK
  obtain⟨xs,x,hq,hx⟩:=hg
  obtain⟨aO,rv,pl,hz⟩:=I.list hq
  obtain⟨u,hu,ru⟩:=rv.get hx
  obtain⟨⟨old,he⟩,hit⟩:=st
  have hlen:=rv.length
  have hi:i < aO.toArray.size:=by
   have:=(List.getElem?_eq_some_iff.mp hu).1
   simpa using this
  refine wpAny_pyNext_enum_itemD (vB p (Draws.list (prog:=X.prog) (w:=X.w) (A:=X.A.in1) (I.ok.hd hc) it l hli aO.toArray)) he ⟨i,rfl,hit,pl.isList⟩ (by omega) hei
   (by simp only [List.mem_cons,List.not_mem_nil,or_false]; rintro(z | z); exact hei z; exact hle z.symm) fun y h' tk hy ho k_ hT hsz hk=>?_
  obtain⟨i',ei,hy⟩:=hy
  have ei':i'=i:=by omega
  subst ei'
  have eu:y=u:=by
   have h1:aO.toArray[i']?=some y:=hy
   rw [List.getElem?_toArray,hu] at h1
   exact(Option.some.inj h1).symm
  subst eu
  refine⟨_,rfl,wpAny_letOwnedTupleGo_enum (s:={s with heap:=h',toks:=tk+1}) ho fun h2 zQ CS=>?_⟩
  have hel:e < s.heap.objs.size:=Heap.lt_size he
  have hn:H s.heap.objs.size=none:=I.fresh
  have kp:∀b o,b≠e→b≠it→s.heap.get? b=some o→h2.get? b=some o:=fun b o h1 h3 z=>(CS.2 b h1).trans (hk b o h1 h3 z)
  have OQ:h2.get? s.heap.objs.size=some {cls:=.type "tuple",data:=.seq #[.int ((p+i':Nat):Int) tk,y]}:=(CS.2 _ (Nat.ne_of_gt hel)).trans hT
  have fe:=hf e (by simp)
  have fi:=hf it (by simp)
  have ne:∀b o,H b=some o→b≠e∧b≠it:=fun b o z=>⟨fun z2=>(by subst z2; rw [fe.1] at z; cases z),fun z2=>(by subst z2; rw [fi.1] at z; cases z)⟩
  have lt:∀b o,H b=some o→b≠s.heap.objs.size:=fun b o z=>Nat.ne_of_lt (I.bK.lt z)
  have bK:js X.prog X.w (upd H s.heap.objs.size (.tup [.int ((p+i':Nat):Int),x])) h2:=fun b o z=>by
   by_cases hb:b=s.heap.objs.size
   ·subst hb
    rw [ae] at z
    cases z
    exact⟨by show 2≤_; decide,[.int ((p+i':Nat):Int) tk,y],.cons ⟨tk,rfl⟩ (.cons ru .nil),⟨_,OQ,rfl,_,rfl⟩⟩
   ·rw [ah hb] at z
    refine(I.bK b o z).jU (fun c v hc q=>?_) (fun c q=>by rw [ah (lt c _ q)]; exact q) fun c ys q=>by rw [ah (lt c _ q)]; exact q
    rcases hc with rfl | hc
    ·exact kp _ v (ne _ o z).1 (ne _ o z).2 q
    ·exact kp c v (ne c _ hc).1 (ne c _ hc).2 q
  have YN:∀b o,s.heap.get? b=some o→b≠s.heap.objs.size:=fun b o z=>Nat.ne_of_lt (Heap.lt_size z)
  have U:Un (BV X.stack) [e,it] H (upd H s.heap.objs.size (.tup [.int ((p+i':Nat):Int),x])) s.heap h2:=by
   have Ed:∀b,b∉[e,it]→b≠e∧b≠it:=fun b hb=>⟨fun z=>hb (by simp [z]),fun z=>hb (by simp [z])⟩
   refine⟨fun b o z _ _ hb=>kp b o (Ed b hb).1 (Ed b hb).2 z,fun b o z _ _ hb=>⟨o.slots,kp b o (Ed b hb).1 (Ed b hb).2 z⟩,fun b o z n hb=>by rw [ah (YN b o z)]; exact n,fun b o z hb=>?_,fun b ys z=>by rw [ah (lt b _ z)]; exact z,fun b o u z=>by rw [ah (lt b _ z)]; exact z,fun b ps z=>⟨#[],by rw [ah (lt b _ z),z]; simp⟩⟩
   exact⟨o,kp b o (Ed b hb).1 (Ed b hb).2 z⟩
  have I2:Inv X pins σ (upd H s.heap.objs.size (.tup [.int ((p+i':Nat):Int),x])) {s with heap:=h2,toks:=tk+1}:=I.call (g':=s.gens) (t':=tk+1) (d':=s.drawn) (ch:=[e,it]) U bK I.bare fun b hb=>by
   have f:=hf b hb
   exact⟨f.2.2.2.1,f.2.1,f.2.2.2.2.1,f.2.2.2.2.2⟩
  obtain⟨i2,ei2,aek,_⟩:=k_
  have ei3:i2=i'+1:=by omega
  subst ei3
  refine⟨.ref s.heap.objs.size,_,I2,rfl,⟨s.heap.objs.size,x,hn,rfl,fun ys hy=>by rw [I.nS hy hq]; exact hx,rfl⟩,⟨⟨y,?_⟩,aek.at fun o z=>(CS.2 it hei.symm).trans z⟩,fun b hb=>?_⟩
  ·have ec:(((p+i':Nat):Int)+1)=((p+(i'+1):Nat):Int):=by omega
   rw [←ec]
   exact zQ
  ·have f:=(hf b hb).1
   obtain⟨ob,zb,_⟩:∃o,s.heap.get? b=some o∧True:=by
    rcases List.mem_cons.mp hb with rfl | hb
    ·exact⟨_,he,trivial⟩
    ·have eb:b=it:=by simpa using hb
     subst eb
     obtain⟨o,Ef,_⟩:=hit
     exact⟨o,Ef,trivial⟩
   rw [ah (YN b ob zb)]
   exact f
 done:=by
  intro X hP hw hK hc i pins s σ H E I hf st hg
  subst hP hw hK
  obtain⟨xs,hq,hx⟩:=hg
  obtain⟨aO,rv,pl,hz⟩:=I.list hq
  obtain⟨⟨old,he⟩,hit⟩:=st
  have hlen:=rv.length
  have fi:=hf it (by simp)
  have ei:i=aO.toArray.size:=by simp; omega
  subst ei
  exact wpAny_pyNext_enum_endD (vB p (Draws.list (prog:=X.prog) (w:=X.w) (A:=X.A.in1) (I.ok.hd hc) it l hli aO.toArray)) he ⟨aO.toArray.size,rfl,hit,pl.isList⟩
   fun h' eb=>⟨rfl,I.turned (t':=s.toks) (fun b o hb z=>eb b o hb z) fi.1 fi.2.1 fi.2.2.2.1 fi.2.2.2.2.1 fi.2.2.2.2.2⟩
 self:=fun _ _ _ _ _ st h=>by
  obtain⟨⟨old,he⟩,_⟩:=st
  exact wpAny_pyIter_enum he h
theorem tT:bootBuiltins "enumerate"=some (.type "enumerate"):=by decide +kernel
section
variable {M:Model}{A:Around}{E:Value→Shared→Prop}{s:Shared}{env:Env}
theorem LM {pos:Pos}{T:String}{e:Expr}{SI:List Keyword}{Q:Value→Shared→Prop}
  (h:wpAny M A (spliced (backTo pos (starEach [e] env))) (fun vs s1=>wpAny M A (evalAll ((backToKw pos (keywordEach SI env)).map (·.2)))
   (fun kvs s2=>wpAny M A (call (.type T) vs (((backToKw pos (keywordEach SI env)).filterMap (·.1)).zip kvs)) Q E s2) E s1) E s)
  (he:starEach [e] env=[(false,eval e env)]) (EU:(backToKw pos (keywordEach SI env)).all (·.1.isSome)=true:=by rfl)
  (hkw:(backToKw pos (keywordEach SI env)).any (·.1.isNone)=false:=by rfl) :
  wpAny M A (callWith pos (.type T) [] (backTo pos (starEach [e] env)) (backToKw pos (keywordEach SI env))) Q E s:=by
 rw [he] at h ⊢
 have hp:(backTo pos [(false,eval e env)]).any (·.1)=false:=rfl
 unfold callWith
 have h2:wpAny M A (evalArgs (.type T) true (backTo pos [(false,eval e env)]) (backToKw pos (keywordEach SI env))) (fun a s1=>wpAny M A (call (.type T) ([]++a.pos) a.kw) Q E s1) E s:=evalArgs_kwB EU h
 refine wpAny_bind (wpAny_holding (bR h2 fun a s3 h3=>wpAny_bind (wpAny_standAt ?_)))
 simp only [hp,hkw,Bool.or_false]
 refine wpAny_bind (wpAny_pure ?_)
 exact wpAny_bind (bR h3 fun r s4 hr=>wpAny_bind (wpAny_holding (wpAny_point (wpAny_pure hr))))
end
section
variable {X:Cx}
noncomputable def OR (K:PySem.W.Frag) (tl tp:TE):TI:=fun σ H R=>tl σ H fun x H1=>tp σ H1 fun y H2=>∃(a:Addr) (p:Nat),x=.ref a∧y=.int p∧(∃xs,bc K H2 a xs)∧p < 2 ^ 62∧R (OP K a p) H2
theorem LN {p:Nat}(h:p < 2 ^ 62):(!Builtin.SmallTypes.fitsIndex (p:Int))=false:=by
 have h1:(p:Int) < 2 ^ 62:=by exact_mod_cast h
 unfold Builtin.SmallTypes.fitsIndex
 simp
 omega
theorem LO {l st:Expr}{tl tp:TE}{es:List Expr}{k:Nat}{SF p kp pos:Pos}(hg:Gl X "enumerate") (hm:X.mg "enumerate"=none) (hl:PE X l tl) (k_:PE X st tp)
  (he:starEach [l] X.env=[(false,eval l X.env)]:=by rfl):PI X (.Tuple es k SF) (.Call (.Name "enumerate" p) [l] [⟨some "start",st,kp⟩] pos) (OR X.K tl tp):=by
 intro pins s σ H R I h
 refine wpAny_Call_Name_kw (lg I hg hm tT (LM ?_ he))
 have hA:PA X [l] (BZ tl CZ):=aa hl ag he
 refine bR (hA pos pins s σ H (fun vs H1=>match vs with
  | [x]=>tp σ H1 fun y H2=>∃(a:Addr) (p:Nat),x=.ref a∧y=.int p∧(∃xs,bc X.K H2 a xs)∧p < 2 ^ 62∧R (OP X.K a p) H2
  | _=>False) I h) fun us s1 ⟨vs,H1,I1,r1,q1⟩=>?_
 match vs,r1,q1 with
 | [x],.cons (b:=u) ra .nil,q1=>
  refine kws_cons (bR (k_ pins s1 σ H1 _ I1 q1) fun v s2 ⟨y,H2,I2,r2,q2⟩=>kws_nil ?_)
  obtain⟨a,p,e1,e2,⟨xs,hq⟩,hp,qq⟩:=q2
  subst e1 e2
  cases ra
  obtain⟨t,rfl⟩:=r2
  obtain⟨aO,rv,pl,hz⟩:=I2.list hq
  have fg:a < s2.heap.objs.size:=by
   obtain⟨o,e,_⟩:=pl.isList
   exact Heap.lt_size e
  refine LL pl.isList (LN hp) fun h' hen hit hsz hk=>wpAny_pyIter_enum hen ?_
  refine⟨s2.heap.objs.size+1,[s2.heap.objs.size+1,s2.heap.objs.size],_,_,H2,rfl,I2.kept (t':=s2.toks) hk,C_ a _ _ p (Nat.succ_ne_self _) (Nat.ne_of_lt (Nat.lt_succ_of_lt fg)) (Nat.ne_of_lt fg),⟨⟨.none,hen⟩,hit⟩,fun b hb=>?_,qq⟩
  rcases List.mem_cons.mp hb with rfl | hb
  ·exact I2.EA (Nat.le_succ _) (I2.bK.fresh (Nat.le_succ _))
  ·have eb:b=s2.heap.objs.size:=by simpa using hb
   subst eb
   exact I2.EA (Nat.le_refl _) (I2.bK.fresh (Nat.le_refl _))
theorem Fg {K:PySem.W.Frag}{a:Addr}{p:Nat}{xs:List V}{g:TG}{tb:TS}{D:Ends}{σ:St}{H:Hp}(Pv:Nat→St→Hp→Prop) (h0:Pv 0 σ H) (hl:∀i σ H,i≤xs.length→Pv i σ H→bc K H a xs)
  (hs:∀i x t σ H,xs[i]?=some x→Pv i σ H→H t=none→g (.ref t) σ (upd H t (.tup [.int ((p+i:Nat):Int),x])) fun σ2 H2=>tb {D with nx:=Pv (i+1),ct:=Pv (i+1),bk:=D.nx} σ2 H2) (hd:∀σ H,Pv xs.length σ H→D.nx σ H) :
  ∃W:Nat→Nat→St→Hp→Prop,(∃m,W 0 m σ H)∧∀i m σ H,W i m σ H →
   ((OP K a p).stop i H∧D.nx σ H)∨((OP K a p).go i H∧∃N:St→Hp→Prop,(∀σ' H',N σ' H'→∃m',m' < m∧W (i+1) m' σ' H')∧∀x H',(OP K a p).Oy i H x H'→g x σ H' fun σ2 H2=>tb {D with nx:=N,ct:=N,bk:=D.nx} σ2 H2):=by
 refine⟨fun i m σ H=>m+i=xs.length∧Pv i σ H,⟨xs.length,rfl,h0⟩,?_⟩
 rintro i m σ H ⟨hm,pv⟩
 have q:=hl i σ H (by omega) pv
 cases m with
 | zero=>
  have ei:i=xs.length:=by omega
  subst ei
  exact .inl ⟨⟨xs,q,rfl⟩,hd σ H pv⟩
 | succ m=>
  have fg:i < xs.length:=by omega
  refine .inr ⟨⟨xs,xs[i],q,by simp [fg]⟩,Pv (i+1),fun σ' H' p'=>⟨m,by omega,by omega,p'⟩,fun x H' y=>?_⟩
  obtain⟨t,v,hn,rfl,hv,rfl⟩:=y
  exact hs i v t σ H (hv xs q) pv hn
end
end L2
namespace L2
open PySem PySem.Spec PyProof.Rows
inductive D where
 | aP | bl (b:Bool) | int (i:Int) | str (x:Str) | lst (ds:List D) | tup (ds:List D)
mutual
noncomputable def br:D→D→Bool
 | .aP,.aP=>true
 | .bl a,.bl b=>a == b
 | .bl a,.int b=>(if a then 1 else 0) == b
 | .int a,.bl b=>a == (if b then 1 else 0)
 | .int a,.int b=>a == b
 | .str a,.str b=>a == b
 | .lst a,.lst b=>gI a b
 | .tup a,.tup b=>gI a b
 | _,_=>false
noncomputable def gI:List D→List D→Bool
 | [],[]=>true
 | a::x,b::y=>br a b&&gI x y
 | _,_=>false
end
mutual
noncomputable def D.dep:D→Nat
 | .lst a=>jY a+1
 | .tup a=>jY a+1
 | _=>0
noncomputable def jY:List D→Nat
 | []=>0
 | a::x=>max a.dep (jY x)
end
mutual
theorem n0:∀d:D,br d d=true
 | .aP=>by simp [br]
 | .bl b=>by simp [br]
 | .int i=>by simp [br]
 | .str x=>by simp [br]
 | .lst ds=>by rw [br]; exact lA ds
 | .tup ds=>by rw [br]; exact lA ds
theorem lA:∀ds:List D,gI ds ds=true
 | []=>by simp [gI]
 | d::ds=>by rw [gI,n0 d,lA ds]; rfl
end
theorem gf:∀{ds:List D}{i:Nat}{d:D},ds[i]?=some d→d.dep≤jY ds
 | [],_,_,h=>by simp at h
 | e::ds,0,d,h=>by
  simp at h
  subst h
  rw [jY]
  exact Nat.le_max_left _ _
 | e::ds,i+1,d,h=>by
  rw [jY]
  exact Nat.le_trans (gf (i:=i) (by simpa using h)) (Nat.le_max_right _ _)
theorem g7:∀{ds es:List D},ds.length≠es.length→gI ds es=false
 | [],[],h=>absurd rfl h
 | [],_::_,_=>by simp [gI]
 | _::_,[],_=>by simp [gI]
 | d::ds,e::es,h=>by rw [gI,g7 (by simpa using h),Bool.and_false]
theorem g8:∀{ds es:List D},ds.length=es.length→gI ds es=(List.range ds.length).all fun j=>br (ds.getD j .aP) (es.getD j .aP)
 | [],[],_=>by simp [gI]
 | [],_::_,h=>by simp at h
 | _::_,[],h=>by simp at h
 | d::ds,e::es,h=>by
  rw [gI,g8 (by simpa using h),List.length_cons,List.range_succ_eq_map,List.all_cons,List.all_map]
  rfl
inductive jl (K:PySem.W.Frag) (H:Hp):V→D→Prop where
 | aP:jl K H .aP .aP
 | bl (b:Bool):jl K H (.bl b) (.bl b)
 | int (i:Int):jl K H (.int i) (.int i)
 | str (x:Str):jl K H (.str x) (.str x)
 | lst {a:Addr}{xs:List V}{ds:List D}(h:bc K H a xs) (hl:xs.length=ds.length) (hi:∀(i:Nat) (x:V) (d:D),xs[i]?=some x→ds[i]?=some d→jl K H x d):jl K H (.ref a) (.lst ds)
 | tup {a:Addr}{xs:List V}{ds:List D}(h:bU K H a xs) (hl:xs.length=ds.length) (hi:∀(i:Nat) (x:V) (d:D),xs[i]?=some x→ds[i]?=some d→jl K H x d):jl K H (.ref a) (.tup ds)
section
variable {X:Cx}{pins:List (Addr×Obj)}{s:Shared}{σ:St}{H:Hp}
theorem Inv.vC (I:Inv X pins σ H s) {a:Addr}{xs ys:List V}(h:bc X.K H a xs) (h':bU X.K H a ys):False:=by
 obtain⟨aO,_,p,_⟩:=I.list h
 obtain⟨bG,_,q,_⟩:=I.tuple h'
 obtain⟨o,e,c,_⟩:=p.isList
 obtain⟨o2,e2,c2,_⟩:=q
 rw [e] at e2
 cases e2
 rw [c] at c2
 injection c2 with h3
 exact absurd h3 (by decide)
theorem OS {xs:List V}{ds es:List D}(hl:xs.length=ds.length) (g5:xs.length=es.length) (h:∀(i:Nat) x d e,xs[i]?=some x→ds[i]?=some d→es[i]?=some e→d=e):ds=es:=by
 refine List.ext_getElem (by omega) fun i h1 h2=>?_
 exact h i _ _ _ (List.getElem?_eq_getElem (by omega)) (List.getElem?_eq_getElem h1) (List.getElem?_eq_getElem h2)
theorem jl.one (I:Inv X pins σ H s) {x:V}{d:D}(h:jl X.K H x d):∀{e:D},jl X.K H x e→d=e:=by
 induction h with
 | aP=>intro e h; cases h; rfl
 | bl b=>intro e h; cases h; rfl
 | int b=>intro e h; cases h; rfl
 | str b=>intro e h; cases h; rfl
 | lst q hl hi ih=>
  intro e h
  cases h with
  | lst q2 g5 S4=>
   cases I.nS q q2
   rw [OS hl g5 fun i x d e h1 h2 h3=>ih i x d h1 h2 (S4 i x e h1 h3)]
  | tup q2 g5 S4=>exact(I.vC q q2).elim
 | tup q hl hi ih=>
  intro e h
  cases h with
  | tup q2 g5 S4=>
   cases I.CP q q2
   rw [OS hl g5 fun i x d e h1 h2 h3=>ih i x d h1 h2 (S4 i x e h1 h3)]
  | lst q2 g5 S4=>exact(I.vC q2 q).elim
theorem B5 {ds:List D}{i:Nat}(h:i < ds.length):ds[i]?=some (ds.getD i .aP):=by simp [List.getD,h]
theorem iS {xs ys:List V}{ds es:List D}{aO bG:List Value}{A:Around}(r1:Vals xs aO) (r2:Vals ys bG) (hl:xs.length=ds.length) (g5:ys.length=es.length)
  (ih:∀(i:Nat) x d,xs[i]?=some x→ds[i]?=some d→∀{y:V}{e:D}{u v:Value},jl X.K H y e→RelV x u→RelV y v→SeqAt.EqAt A s u v (br d e)) (S4:∀(i:Nat) y e,ys[i]?=some y→es[i]?=some e→jl X.K H y e) :
  ∀j (h1:j < aO.toArray.size) (h2:j < bG.toArray.size),SeqAt.EqAt A s aO.toArray[j] bG.toArray[j] (br (ds.getD j .aP) (es.getD j .aP)):=by
 intro j h1 h2
 have l1:=r1.length
 have l2:=r2.length
 have j1:j < xs.length:=by simp at h1; omega
 have j2:j < ys.length:=by simp at h2; omega
 obtain⟨u1,e1,q1⟩:=r1.get (List.getElem?_eq_getElem j1)
 obtain⟨u2,e2,q2⟩:=r2.get (List.getElem?_eq_getElem j2)
 have i1:aO.toArray[j]=u1:=by
  obtain⟨_,e⟩:=List.getElem?_eq_some_iff.mp e1
  simpa using e
 have i2:bG.toArray[j]=u2:=by
  obtain⟨_,e⟩:=List.getElem?_eq_some_iff.mp e2
  simpa using e
 rw [i1,i2]
 exact ih j _ _ (List.getElem?_eq_getElem j1) (B5 (by omega)) (S4 j _ _ (List.getElem?_eq_getElem j2) (B5 (by omega))) q1 q2
theorem Fh {ds es:List D}:(((List.range (min ds.length es.length)).all fun j=>br (ds.getD j .aP) (es.getD j .aP))&&(ds.length == es.length))=gI ds es:=by
 by_cases h:ds.length=es.length
 ·rw [g8 h,h]
  simp
 ·rw [g7 h]
  have:(ds.length == es.length)=false:=by simpa using h
  rw [this,Bool.and_false]
theorem tU (I:Inv X pins σ H s) {x:V}{d:D}(h:jl X.K H x d):∀{A:Around},A.units+d.dep < cLine→∀{y:V}{e:D}{u v:Value},jl X.K H y e→RelV x u→RelV y v→SeqAt.EqAt A s u v (br d e):=by
 induction h with
 | aP=>
  intro A hu y e u v h2 r1 r2
  cases r1
  have bh:A.units < cLine:=Nat.lt_of_le_of_lt (Nat.le_add_right _ _) hu
  cases h2 with
  | aP=>
   cases r2
   first | exact SeqAt.EqAt.same _ | (rw [br] <;> first | exact SeqAt.EqAt.same _ | nofun)
  | bl b2=>
   cases r2
   first | exact SeqAt.EqAt.none_bool b2 | (rw [br] <;> first | exact SeqAt.EqAt.none_bool b2 | nofun)
  | int b2=>
   obtain⟨t2,rfl⟩:=r2
   first | exact SeqAt.EqAt.none_int b2 t2 | (rw [br] <;> first | exact SeqAt.EqAt.none_int b2 t2 | nofun)
  | str b2=>
   obtain⟨t2,rfl⟩:=r2
   first | exact SeqAt.EqAt.none_str b2 t2 | (rw [br] <;> first | exact SeqAt.EqAt.none_str b2 t2 | nofun)
  | @lst a2 g9 fT q2 l2 i2=>
   cases r2
   obtain⟨bG,v2,p2,z2⟩:=I.list q2
   first | exact SeqAt.EqAt.none_list p2.isList bh | (rw [br] <;> first | exact SeqAt.EqAt.none_list p2.isList bh | nofun)
  | @tup a2 g9 fT q2 l2 i2=>
   cases r2
   obtain⟨bG,v2,p2,z2⟩:=I.tuple q2
   first | exact SeqAt.EqAt.none_tuple p2 bh | (rw [br] <;> first | exact SeqAt.EqAt.none_tuple p2 bh | nofun)
 | bl b1=>
  intro A hu y e u v h2 r1 r2
  cases r1
  have bh:A.units < cLine:=Nat.lt_of_le_of_lt (Nat.le_add_right _ _) hu
  cases h2 with
  | aP=>
   cases r2
   first | exact SeqAt.EqAt.bool_none b1 | (rw [br] <;> first | exact SeqAt.EqAt.bool_none b1 | nofun)
  | bl b2=>
   cases r2
   first | exact SeqAt.EqAt.bool_bool b1 b2 | (rw [br] <;> first | exact SeqAt.EqAt.bool_bool b1 b2 | nofun)
  | int b2=>
   obtain⟨t2,rfl⟩:=r2
   first | exact SeqAt.EqAt.bool_int b1 b2 t2 | (rw [br] <;> first | exact SeqAt.EqAt.bool_int b1 b2 t2 | nofun)
  | str b2=>
   obtain⟨t2,rfl⟩:=r2
   first | exact SeqAt.EqAt.bool_str b1 b2 t2 | (rw [br] <;> first | exact SeqAt.EqAt.bool_str b1 b2 t2 | nofun)
  | @lst a2 g9 fT q2 l2 i2=>
   cases r2
   obtain⟨bG,v2,p2,z2⟩:=I.list q2
   first | exact SeqAt.EqAt.bool_list b1 p2.isList bh | (rw [br] <;> first | exact SeqAt.EqAt.bool_list b1 p2.isList bh | nofun)
  | @tup a2 g9 fT q2 l2 i2=>
   cases r2
   obtain⟨bG,v2,p2,z2⟩:=I.tuple q2
   first | exact SeqAt.EqAt.bool_tuple b1 p2 bh | (rw [br] <;> first | exact SeqAt.EqAt.bool_tuple b1 p2 bh | nofun)
 | int b1=>
  intro A hu y e u v h2 r1 r2
  obtain⟨t1,rfl⟩:=r1
  have bh:A.units < cLine:=Nat.lt_of_le_of_lt (Nat.le_add_right _ _) hu
  cases h2 with
  | aP=>
   cases r2
   first | exact SeqAt.EqAt.int_none b1 t1 | (rw [br] <;> first | exact SeqAt.EqAt.int_none b1 t1 | nofun)
  | bl b2=>
   cases r2
   first | exact SeqAt.EqAt.int_bool b1 t1 b2 | (rw [br] <;> first | exact SeqAt.EqAt.int_bool b1 t1 b2 | nofun)
  | int b2=>
   obtain⟨t2,rfl⟩:=r2
   first | exact SeqAt.EqAt.int_int b1 t1 b2 t2 | (rw [br] <;> first | exact SeqAt.EqAt.int_int b1 t1 b2 t2 | nofun)
  | str b2=>
   obtain⟨t2,rfl⟩:=r2
   first | exact SeqAt.EqAt.int_str b1 t1 b2 t2 | (rw [br] <;> first | exact SeqAt.EqAt.int_str b1 t1 b2 t2 | nofun)
  | @lst a2 g9 fT q2 l2 i2=>
   cases r2
   obtain⟨bG,v2,p2,z2⟩:=I.list q2
   first | exact SeqAt.EqAt.int_list b1 t1 p2.isList bh | (rw [br] <;> first | exact SeqAt.EqAt.int_list b1 t1 p2.isList bh | nofun)
  | @tup a2 g9 fT q2 l2 i2=>
   cases r2
   obtain⟨bG,v2,p2,z2⟩:=I.tuple q2
   first | exact SeqAt.EqAt.int_tuple b1 t1 p2 bh | (rw [br] <;> first | exact SeqAt.EqAt.int_tuple b1 t1 p2 bh | nofun)
 | str b1=>
  intro A hu y e u v h2 r1 r2
  obtain⟨t1,rfl⟩:=r1
  have bh:A.units < cLine:=Nat.lt_of_le_of_lt (Nat.le_add_right _ _) hu
  cases h2 with
  | aP=>
   cases r2
   first | exact SeqAt.EqAt.str_none b1 t1 | (rw [br] <;> first | exact SeqAt.EqAt.str_none b1 t1 | nofun)
  | bl b2=>
   cases r2
   first | exact SeqAt.EqAt.str_bool b1 t1 b2 | (rw [br] <;> first | exact SeqAt.EqAt.str_bool b1 t1 b2 | nofun)
  | int b2=>
   obtain⟨t2,rfl⟩:=r2
   first | exact SeqAt.EqAt.str_int b1 t1 b2 t2 | (rw [br] <;> first | exact SeqAt.EqAt.str_int b1 t1 b2 t2 | nofun)
  | str b2=>
   obtain⟨t2,rfl⟩:=r2
   first | exact SeqAt.EqAt.str_str b1 t1 b2 t2 | (rw [br] <;> first | exact SeqAt.EqAt.str_str b1 t1 b2 t2 | nofun)
  | @lst a2 g9 fT q2 l2 i2=>
   cases r2
   obtain⟨bG,v2,p2,z2⟩:=I.list q2
   first | exact SeqAt.EqAt.str_list b1 t1 p2.isList bh | (rw [br] <;> first | exact SeqAt.EqAt.str_list b1 t1 p2.isList bh | nofun)
  | @tup a2 g9 fT q2 l2 i2=>
   cases r2
   obtain⟨bG,v2,p2,z2⟩:=I.tuple q2
   first | exact SeqAt.EqAt.str_tuple b1 t1 p2 bh | (rw [br] <;> first | exact SeqAt.EqAt.str_tuple b1 t1 p2 bh | nofun)
 | @lst a1 XT n6 q1 l1 i1 ih=>
  intro A hu y e u v h2 r1 r2
  cases r1
  have bh:A.units < cLine:=Nat.lt_of_le_of_lt (Nat.le_add_right _ _) hu
  obtain⟨jZ,v1,p1,z1⟩:=I.list q1
  have n1:jZ.toArray.size=n6.length:=by rw [List.size_toArray,←v1.length,l1]
  have Fi:∀(i:Nat) (d:D),n6[i]?=some d→A.in1.units+d.dep < cLine:=fun i d h=>by
   have e1:=gf h
   have e2:A.units+(jY n6+1) < cLine:=by simpa only [D.dep] using hu
   show A.units+1+d.dep < cLine
   omega
  cases h2 with
  | aP=>
   cases r2
   first | exact SeqAt.EqAt.list_none p1.isList bh | (rw [br] <;> first | exact SeqAt.EqAt.list_none p1.isList bh | nofun)
  | bl b2=>
   cases r2
   first | exact SeqAt.EqAt.list_bool b2 p1.isList bh | (rw [br] <;> first | exact SeqAt.EqAt.list_bool b2 p1.isList bh | nofun)
  | int b2=>
   obtain⟨t2,rfl⟩:=r2
   first | exact SeqAt.EqAt.list_int b2 t2 p1.isList bh | (rw [br] <;> first | exact SeqAt.EqAt.list_int b2 t2 p1.isList bh | nofun)
  | str b2=>
   obtain⟨t2,rfl⟩:=r2
   first | exact SeqAt.EqAt.list_str b2 t2 p1.isList bh | (rw [br] <;> first | exact SeqAt.EqAt.list_str b2 t2 p1.isList bh | nofun)
  | @lst a2 g9 fT q2 l2 i2=>
   cases r2
   obtain⟨bG,v2,p2,z2⟩:=I.list q2
   have n2:bG.toArray.size=fT.length:=by rw [List.size_toArray,←v2.length,l2]
   have it:=iS (X:=X) (A:=A.in1) v1 v2 l1 l2 (fun i x d ha hb=>ih i x d ha hb (Fi i d hb)) i2
   by_cases tQ:a1=a2
   ·subst tQ
    cases (jl.lst q1 l1 i1).one I (jl.lst q2 l2 i2)
    rw [n0]
    exact SeqAt.EqAt.same _
   refine SeqAt.EqAt.of_refs tQ ?_
   rw [br]
   by_cases hlen:jZ.toArray.size=bG.toArray.size
   ·rw [g8 (by omega),←n1]
    exact SeqAt.RcAt.lists p1.isList p2.isList hlen bh it
   ·rw [g7 (by omega)]
    exact SeqAt.RcAt.lists_lengths p1.isList p2.isList (by simpa using hlen) bh
  | @tup a2 g9 fT q2 l2 i2=>
   cases r2
   obtain⟨bG,v2,p2,z2⟩:=I.tuple q2
   first | exact SeqAt.EqAt.list_tuple p1.isList p2 bh | (rw [br] <;> first | exact SeqAt.EqAt.list_tuple p1.isList p2 bh | nofun)
 | @tup a1 XT n6 q1 l1 i1 ih=>
  intro A hu y e u v h2 r1 r2
  cases r1
  have bh:A.units < cLine:=Nat.lt_of_le_of_lt (Nat.le_add_right _ _) hu
  obtain⟨jZ,v1,p1,z1⟩:=I.tuple q1
  have n1:jZ.toArray.size=n6.length:=by rw [List.size_toArray,←v1.length,l1]
  have Fi:∀(i:Nat) (d:D),n6[i]?=some d→A.in1.units+d.dep < cLine:=fun i d h=>by
   have e1:=gf h
   have e2:A.units+(jY n6+1) < cLine:=by simpa only [D.dep] using hu
   show A.units+1+d.dep < cLine
   omega
  cases h2 with
  | aP=>
   cases r2
   first | exact SeqAt.EqAt.tuple_none p1 bh | (rw [br] <;> first | exact SeqAt.EqAt.tuple_none p1 bh | nofun)
  | bl b2=>
   cases r2
   first | exact SeqAt.EqAt.tuple_bool b2 p1 bh | (rw [br] <;> first | exact SeqAt.EqAt.tuple_bool b2 p1 bh | nofun)
  | int b2=>
   obtain⟨t2,rfl⟩:=r2
   first | exact SeqAt.EqAt.tuple_int b2 t2 p1 bh | (rw [br] <;> first | exact SeqAt.EqAt.tuple_int b2 t2 p1 bh | nofun)
  | str b2=>
   obtain⟨t2,rfl⟩:=r2
   first | exact SeqAt.EqAt.tuple_str b2 t2 p1 bh | (rw [br] <;> first | exact SeqAt.EqAt.tuple_str b2 t2 p1 bh | nofun)
  | @lst a2 g9 fT q2 l2 i2=>
   cases r2
   obtain⟨bG,v2,p2,z2⟩:=I.list q2
   first | exact SeqAt.EqAt.tuple_list p1 p2.isList bh | (rw [br] <;> first | exact SeqAt.EqAt.tuple_list p1 p2.isList bh | nofun)
  | @tup a2 g9 fT q2 l2 i2=>
   cases r2
   obtain⟨bG,v2,p2,z2⟩:=I.tuple q2
   have n2:bG.toArray.size=fT.length:=by rw [List.size_toArray,←v2.length,l2]
   have it:=iS (X:=X) (A:=A.in1) v1 v2 l1 l2 (fun i x d ha hb=>ih i x d ha hb (Fi i d hb)) i2
   by_cases tQ:a1=a2
   ·subst tQ
    cases (jl.tup q1 l1 i1).one I (jl.tup q2 l2 i2)
    rw [n0]
    exact SeqAt.EqAt.same _
   refine SeqAt.EqAt.of_refs tQ ?_
   rw [br]
   rw [←Fh,←n1,←n2]
   exact SeqAt.RcAt.tuples p1 p2 bh it
theorem S5 (I:Inv X pins σ H s) {A:Around}{x y:V}{d e:D}{u v:Value}(h:jl X.K H x d) (h2:jl X.K H y e) (hu:A.units+d.dep < cLine) (r1:RelV x u) (r2:RelV y v):SeqAt.RcAt A s u v (br d e):=by
 cases h with
 | aP=>
  cases r1
  have bh:A.units < cLine:=Nat.lt_of_le_of_lt (Nat.le_add_right _ _) hu
  cases h2 with
  | aP=>
   cases r2
   first | exact SeqAt.RcAt.none_none | (rw [br] <;> first | exact SeqAt.RcAt.none_none | nofun)
  | bl b2=>
   cases r2
   first | exact SeqAt.RcAt.none_bool b2 | (rw [br] <;> first | exact SeqAt.RcAt.none_bool b2 | nofun)
  | int b2=>
   obtain⟨t2,rfl⟩:=r2
   first | exact SeqAt.RcAt.none_int b2 t2 | (rw [br] <;> first | exact SeqAt.RcAt.none_int b2 t2 | nofun)
  | str b2=>
   obtain⟨t2,rfl⟩:=r2
   first | exact SeqAt.RcAt.none_str b2 t2 | (rw [br] <;> first | exact SeqAt.RcAt.none_str b2 t2 | nofun)
  | @lst a2 g9 fT q2 l2 i2=>
   cases r2
   obtain⟨bG,v2,p2,z2⟩:=I.list q2
   first | exact SeqAt.RcAt.none_list p2.isList bh | (rw [br] <;> first | exact SeqAt.RcAt.none_list p2.isList bh | nofun)
  | @tup a2 g9 fT q2 l2 i2=>
   cases r2
   obtain⟨bG,v2,p2,z2⟩:=I.tuple q2
   first | exact SeqAt.RcAt.none_tuple p2 bh | (rw [br] <;> first | exact SeqAt.RcAt.none_tuple p2 bh | nofun)
 | bl b1=>
  cases r1
  have bh:A.units < cLine:=Nat.lt_of_le_of_lt (Nat.le_add_right _ _) hu
  cases h2 with
  | aP=>
   cases r2
   first | exact SeqAt.RcAt.bool_none b1 | (rw [br] <;> first | exact SeqAt.RcAt.bool_none b1 | nofun)
  | bl b2=>
   cases r2
   first | exact SeqAt.RcAt.bool_bool b1 b2 | (rw [br] <;> first | exact SeqAt.RcAt.bool_bool b1 b2 | nofun)
  | int b2=>
   obtain⟨t2,rfl⟩:=r2
   first | exact SeqAt.RcAt.bool_int b1 b2 t2 | (rw [br] <;> first | exact SeqAt.RcAt.bool_int b1 b2 t2 | nofun)
  | str b2=>
   obtain⟨t2,rfl⟩:=r2
   first | exact SeqAt.RcAt.bool_str b1 b2 t2 | (rw [br] <;> first | exact SeqAt.RcAt.bool_str b1 b2 t2 | nofun)
  | @lst a2 g9 fT q2 l2 i2=>
   cases r2
   obtain⟨bG,v2,p2,z2⟩:=I.list q2
   first | exact SeqAt.RcAt.bool_list b1 p2.isList bh | (rw [br] <;> first | exact SeqAt.RcAt.bool_list b1 p2.isList bh | nofun)
  | @tup a2 g9 fT q2 l2 i2=>
   cases r2
   obtain⟨bG,v2,p2,z2⟩:=I.tuple q2
   first | exact SeqAt.RcAt.bool_tuple b1 p2 bh | (rw [br] <;> first | exact SeqAt.RcAt.bool_tuple b1 p2 bh | nofun)
 | int b1=>
  obtain⟨t1,rfl⟩:=r1
  have bh:A.units < cLine:=Nat.lt_of_le_of_lt (Nat.le_add_right _ _) hu
  cases h2 with
  | aP=>
   cases r2
   first | exact SeqAt.RcAt.int_none b1 t1 | (rw [br] <;> first | exact SeqAt.RcAt.int_none b1 t1 | nofun)
  | bl b2=>
   cases r2
   first | exact SeqAt.RcAt.int_bool b1 t1 b2 | (rw [br] <;> first | exact SeqAt.RcAt.int_bool b1 t1 b2 | nofun)
  | int b2=>
   obtain⟨t2,rfl⟩:=r2
   first | exact SeqAt.RcAt.int_int b1 t1 b2 t2 | (rw [br] <;> first | exact SeqAt.RcAt.int_int b1 t1 b2 t2 | nofun)
  | str b2=>
   obtain⟨t2,rfl⟩:=r2
   first | exact SeqAt.RcAt.int_str b1 t1 b2 t2 | (rw [br] <;> first | exact SeqAt.RcAt.int_str b1 t1 b2 t2 | nofun)
  | @lst a2 g9 fT q2 l2 i2=>
   cases r2
   obtain⟨bG,v2,p2,z2⟩:=I.list q2
   first | exact SeqAt.RcAt.int_list b1 t1 p2.isList bh | (rw [br] <;> first | exact SeqAt.RcAt.int_list b1 t1 p2.isList bh | nofun)
  | @tup a2 g9 fT q2 l2 i2=>
   cases r2
   obtain⟨bG,v2,p2,z2⟩:=I.tuple q2
   first | exact SeqAt.RcAt.int_tuple b1 t1 p2 bh | (rw [br] <;> first | exact SeqAt.RcAt.int_tuple b1 t1 p2 bh | nofun)
 | str b1=>
  obtain⟨t1,rfl⟩:=r1
  have bh:A.units < cLine:=Nat.lt_of_le_of_lt (Nat.le_add_right _ _) hu
  cases h2 with
  | aP=>
   cases r2
   first | exact SeqAt.RcAt.str_none b1 t1 | (rw [br] <;> first | exact SeqAt.RcAt.str_none b1 t1 | nofun)
  | bl b2=>
   cases r2
   first | exact SeqAt.RcAt.str_bool b1 t1 b2 | (rw [br] <;> first | exact SeqAt.RcAt.str_bool b1 t1 b2 | nofun)
  | int b2=>
   obtain⟨t2,rfl⟩:=r2
   first | exact SeqAt.RcAt.str_int b1 t1 b2 t2 | (rw [br] <;> first | exact SeqAt.RcAt.str_int b1 t1 b2 t2 | nofun)
  | str b2=>
   obtain⟨t2,rfl⟩:=r2
   first | exact SeqAt.RcAt.str_str b1 t1 b2 t2 | (rw [br] <;> first | exact SeqAt.RcAt.str_str b1 t1 b2 t2 | nofun)
  | @lst a2 g9 fT q2 l2 i2=>
   cases r2
   obtain⟨bG,v2,p2,z2⟩:=I.list q2
   first | exact SeqAt.RcAt.str_list b1 t1 p2.isList bh | (rw [br] <;> first | exact SeqAt.RcAt.str_list b1 t1 p2.isList bh | nofun)
  | @tup a2 g9 fT q2 l2 i2=>
   cases r2
   obtain⟨bG,v2,p2,z2⟩:=I.tuple q2
   first | exact SeqAt.RcAt.str_tuple b1 t1 p2 bh | (rw [br] <;> first | exact SeqAt.RcAt.str_tuple b1 t1 p2 bh | nofun)
 | @lst a1 XT n6 q1 l1 i1=>
  cases r1
  have bh:A.units < cLine:=Nat.lt_of_le_of_lt (Nat.le_add_right _ _) hu
  obtain⟨jZ,v1,p1,z1⟩:=I.list q1
  have n1:jZ.toArray.size=n6.length:=by rw [List.size_toArray,←v1.length,l1]
  have Fi:∀(i:Nat) (d:D),n6[i]?=some d→A.in1.units+d.dep < cLine:=fun i d h=>by
   have e1:=gf h
   have e2:A.units+(jY n6+1) < cLine:=by simpa only [D.dep] using hu
   show A.units+1+d.dep < cLine
   omega
  cases h2 with
  | aP=>
   cases r2
   first | exact SeqAt.RcAt.list_none p1.isList bh | (rw [br] <;> first | exact SeqAt.RcAt.list_none p1.isList bh | nofun)
  | bl b2=>
   cases r2
   first | exact SeqAt.RcAt.list_bool b2 p1.isList bh | (rw [br] <;> first | exact SeqAt.RcAt.list_bool b2 p1.isList bh | nofun)
  | int b2=>
   obtain⟨t2,rfl⟩:=r2
   first | exact SeqAt.RcAt.list_int b2 t2 p1.isList bh | (rw [br] <;> first | exact SeqAt.RcAt.list_int b2 t2 p1.isList bh | nofun)
  | str b2=>
   obtain⟨t2,rfl⟩:=r2
   first | exact SeqAt.RcAt.list_str b2 t2 p1.isList bh | (rw [br] <;> first | exact SeqAt.RcAt.list_str b2 t2 p1.isList bh | nofun)
  | @lst a2 g9 fT q2 l2 i2=>
   cases r2
   obtain⟨bG,v2,p2,z2⟩:=I.list q2
   have n2:bG.toArray.size=fT.length:=by rw [List.size_toArray,←v2.length,l2]
   have it:=iS (X:=X) (A:=A.in1) v1 v2 l1 l2 (fun i x d ha hb=>tU I (i1 i x d ha hb) (Fi i d hb)) i2
   rw [br]
   by_cases hlen:jZ.toArray.size=bG.toArray.size
   ·rw [g8 (by omega),←n1]
    exact SeqAt.RcAt.lists p1.isList p2.isList hlen bh it
   ·rw [g7 (by omega)]
    exact SeqAt.RcAt.lists_lengths p1.isList p2.isList (by simpa using hlen) bh
  | @tup a2 g9 fT q2 l2 i2=>
   cases r2
   obtain⟨bG,v2,p2,z2⟩:=I.tuple q2
   first | exact SeqAt.RcAt.list_tuple p1.isList p2 bh | (rw [br] <;> first | exact SeqAt.RcAt.list_tuple p1.isList p2 bh | nofun)
 | @tup a1 XT n6 q1 l1 i1=>
  cases r1
  have bh:A.units < cLine:=Nat.lt_of_le_of_lt (Nat.le_add_right _ _) hu
  obtain⟨jZ,v1,p1,z1⟩:=I.tuple q1
  have n1:jZ.toArray.size=n6.length:=by rw [List.size_toArray,←v1.length,l1]
  have Fi:∀(i:Nat) (d:D),n6[i]?=some d→A.in1.units+d.dep < cLine:=fun i d h=>by
   have e1:=gf h
   have e2:A.units+(jY n6+1) < cLine:=by simpa only [D.dep] using hu
   show A.units+1+d.dep < cLine
   omega
  cases h2 with
  | aP=>
   cases r2
   first | exact SeqAt.RcAt.tuple_none p1 bh | (rw [br] <;> first | exact SeqAt.RcAt.tuple_none p1 bh | nofun)
  | bl b2=>
   cases r2
   first | exact SeqAt.RcAt.tuple_bool b2 p1 bh | (rw [br] <;> first | exact SeqAt.RcAt.tuple_bool b2 p1 bh | nofun)
  | int b2=>
   obtain⟨t2,rfl⟩:=r2
   first | exact SeqAt.RcAt.tuple_int b2 t2 p1 bh | (rw [br] <;> first | exact SeqAt.RcAt.tuple_int b2 t2 p1 bh | nofun)
  | str b2=>
   obtain⟨t2,rfl⟩:=r2
   first | exact SeqAt.RcAt.tuple_str b2 t2 p1 bh | (rw [br] <;> first | exact SeqAt.RcAt.tuple_str b2 t2 p1 bh | nofun)
  | @lst a2 g9 fT q2 l2 i2=>
   cases r2
   obtain⟨bG,v2,p2,z2⟩:=I.list q2
   first | exact SeqAt.RcAt.tuple_list p1 p2.isList bh | (rw [br] <;> first | exact SeqAt.RcAt.tuple_list p1 p2.isList bh | nofun)
  | @tup a2 g9 fT q2 l2 i2=>
   cases r2
   obtain⟨bG,v2,p2,z2⟩:=I.tuple q2
   have n2:bG.toArray.size=fT.length:=by rw [List.size_toArray,←v2.length,l2]
   have it:=iS (X:=X) (A:=A.in1) v1 v2 l1 l2 (fun i x d ha hb=>tU I (i1 i x d ha hb) (Fi i d hb)) i2
   rw [br]
   rw [←Fh,←n1,←n2]
   exact SeqAt.RcAt.tuples p1 p2 bh it
theorem Fj (I:Inv X pins σ H s) {A:Around}{x y:V}{d e:D}{u v:Value}(h:jl X.K H x d) (h2:jl X.K H y e) (hu:A.units+d.dep < cLine) (r1:RelV x u) (r2:RelV y v):SeqAt.RcNeAt A s u v (!br d e):=by
 cases h with
 | aP=>
  cases r1
  have bh:A.units < cLine:=Nat.lt_of_le_of_lt (Nat.le_add_right _ _) hu
  cases h2 with
  | aP=>
   cases r2
   first | exact SeqAt.RcNeAt.none_none | (rw [br] <;> first | exact SeqAt.RcNeAt.none_none | nofun)
  | bl b2=>
   cases r2
   first | exact SeqAt.RcNeAt.none_bool b2 | (rw [br] <;> first | exact SeqAt.RcNeAt.none_bool b2 | nofun)
  | int b2=>
   obtain⟨t2,rfl⟩:=r2
   first | exact SeqAt.RcNeAt.none_int b2 t2 | (rw [br] <;> first | exact SeqAt.RcNeAt.none_int b2 t2 | nofun)
  | str b2=>
   obtain⟨t2,rfl⟩:=r2
   first | exact SeqAt.RcNeAt.none_str b2 t2 | (rw [br] <;> first | exact SeqAt.RcNeAt.none_str b2 t2 | nofun)
  | @lst a2 g9 fT q2 l2 i2=>
   cases r2
   obtain⟨bG,v2,p2,z2⟩:=I.list q2
   first | exact SeqAt.RcNeAt.none_list p2.isList bh | (rw [br] <;> first | exact SeqAt.RcNeAt.none_list p2.isList bh | nofun)
  | @tup a2 g9 fT q2 l2 i2=>
   cases r2
   obtain⟨bG,v2,p2,z2⟩:=I.tuple q2
   first | exact SeqAt.RcNeAt.none_tuple p2 bh | (rw [br] <;> first | exact SeqAt.RcNeAt.none_tuple p2 bh | nofun)
 | bl b1=>
  cases r1
  have bh:A.units < cLine:=Nat.lt_of_le_of_lt (Nat.le_add_right _ _) hu
  cases h2 with
  | aP=>
   cases r2
   first | exact SeqAt.RcNeAt.bool_none b1 | (rw [br] <;> first | exact SeqAt.RcNeAt.bool_none b1 | nofun)
  | bl b2=>
   cases r2
   first | exact SeqAt.RcNeAt.bool_bool b1 b2 | (rw [br] <;> first | exact SeqAt.RcNeAt.bool_bool b1 b2 | nofun)
  | int b2=>
   obtain⟨t2,rfl⟩:=r2
   first | exact SeqAt.RcNeAt.bool_int b1 b2 t2 | (rw [br] <;> first | exact SeqAt.RcNeAt.bool_int b1 b2 t2 | nofun)
  | str b2=>
   obtain⟨t2,rfl⟩:=r2
   first | exact SeqAt.RcNeAt.bool_str b1 b2 t2 | (rw [br] <;> first | exact SeqAt.RcNeAt.bool_str b1 b2 t2 | nofun)
  | @lst a2 g9 fT q2 l2 i2=>
   cases r2
   obtain⟨bG,v2,p2,z2⟩:=I.list q2
   first | exact SeqAt.RcNeAt.bool_list b1 p2.isList bh | (rw [br] <;> first | exact SeqAt.RcNeAt.bool_list b1 p2.isList bh | nofun)
  | @tup a2 g9 fT q2 l2 i2=>
   cases r2
   obtain⟨bG,v2,p2,z2⟩:=I.tuple q2
   first | exact SeqAt.RcNeAt.bool_tuple b1 p2 bh | (rw [br] <;> first | exact SeqAt.RcNeAt.bool_tuple b1 p2 bh | nofun)
 | int b1=>
  obtain⟨t1,rfl⟩:=r1
  have bh:A.units < cLine:=Nat.lt_of_le_of_lt (Nat.le_add_right _ _) hu
  cases h2 with
  | aP=>
   cases r2
   first | exact SeqAt.RcNeAt.int_none b1 t1 | (rw [br] <;> first | exact SeqAt.RcNeAt.int_none b1 t1 | nofun)
  | bl b2=>
   cases r2
   first | exact SeqAt.RcNeAt.int_bool b1 t1 b2 | (rw [br] <;> first | exact SeqAt.RcNeAt.int_bool b1 t1 b2 | nofun)
  | int b2=>
   obtain⟨t2,rfl⟩:=r2
   first | exact SeqAt.RcNeAt.int_int b1 t1 b2 t2 | (rw [br] <;> first | exact SeqAt.RcNeAt.int_int b1 t1 b2 t2 | nofun)
  | str b2=>
   obtain⟨t2,rfl⟩:=r2
   first | exact SeqAt.RcNeAt.int_str b1 t1 b2 t2 | (rw [br] <;> first | exact SeqAt.RcNeAt.int_str b1 t1 b2 t2 | nofun)
  | @lst a2 g9 fT q2 l2 i2=>
   cases r2
   obtain⟨bG,v2,p2,z2⟩:=I.list q2
   first | exact SeqAt.RcNeAt.int_list b1 t1 p2.isList bh | (rw [br] <;> first | exact SeqAt.RcNeAt.int_list b1 t1 p2.isList bh | nofun)
  | @tup a2 g9 fT q2 l2 i2=>
   cases r2
   obtain⟨bG,v2,p2,z2⟩:=I.tuple q2
   first | exact SeqAt.RcNeAt.int_tuple b1 t1 p2 bh | (rw [br] <;> first | exact SeqAt.RcNeAt.int_tuple b1 t1 p2 bh | nofun)
 | str b1=>
  obtain⟨t1,rfl⟩:=r1
  have bh:A.units < cLine:=Nat.lt_of_le_of_lt (Nat.le_add_right _ _) hu
  cases h2 with
  | aP=>
   cases r2
   first | exact SeqAt.RcNeAt.str_none b1 t1 | (rw [br] <;> first | exact SeqAt.RcNeAt.str_none b1 t1 | nofun)
  | bl b2=>
   cases r2
   first | exact SeqAt.RcNeAt.str_bool b1 t1 b2 | (rw [br] <;> first | exact SeqAt.RcNeAt.str_bool b1 t1 b2 | nofun)
  | int b2=>
   obtain⟨t2,rfl⟩:=r2
   first | exact SeqAt.RcNeAt.str_int b1 t1 b2 t2 | (rw [br] <;> first | exact SeqAt.RcNeAt.str_int b1 t1 b2 t2 | nofun)
  | str b2=>
   obtain⟨t2,rfl⟩:=r2
   first | exact SeqAt.RcNeAt.str_str b1 t1 b2 t2 | (rw [br] <;> first | exact SeqAt.RcNeAt.str_str b1 t1 b2 t2 | nofun)
  | @lst a2 g9 fT q2 l2 i2=>
   cases r2
   obtain⟨bG,v2,p2,z2⟩:=I.list q2
   first | exact SeqAt.RcNeAt.str_list b1 t1 p2.isList bh | (rw [br] <;> first | exact SeqAt.RcNeAt.str_list b1 t1 p2.isList bh | nofun)
  | @tup a2 g9 fT q2 l2 i2=>
   cases r2
   obtain⟨bG,v2,p2,z2⟩:=I.tuple q2
   first | exact SeqAt.RcNeAt.str_tuple b1 t1 p2 bh | (rw [br] <;> first | exact SeqAt.RcNeAt.str_tuple b1 t1 p2 bh | nofun)
 | @lst a1 XT n6 q1 l1 i1=>
  cases r1
  have bh:A.units < cLine:=Nat.lt_of_le_of_lt (Nat.le_add_right _ _) hu
  obtain⟨jZ,v1,p1,z1⟩:=I.list q1
  have n1:jZ.toArray.size=n6.length:=by rw [List.size_toArray,←v1.length,l1]
  have Fi:∀(i:Nat) (d:D),n6[i]?=some d→A.in1.units+d.dep < cLine:=fun i d h=>by
   have e1:=gf h
   have e2:A.units+(jY n6+1) < cLine:=by simpa only [D.dep] using hu
   show A.units+1+d.dep < cLine
   omega
  cases h2 with
  | aP=>
   cases r2
   first | exact SeqAt.RcNeAt.list_none p1.isList bh | (rw [br] <;> first | exact SeqAt.RcNeAt.list_none p1.isList bh | nofun)
  | bl b2=>
   cases r2
   first | exact SeqAt.RcNeAt.list_bool b2 p1.isList bh | (rw [br] <;> first | exact SeqAt.RcNeAt.list_bool b2 p1.isList bh | nofun)
  | int b2=>
   obtain⟨t2,rfl⟩:=r2
   first | exact SeqAt.RcNeAt.list_int b2 t2 p1.isList bh | (rw [br] <;> first | exact SeqAt.RcNeAt.list_int b2 t2 p1.isList bh | nofun)
  | str b2=>
   obtain⟨t2,rfl⟩:=r2
   first | exact SeqAt.RcNeAt.list_str b2 t2 p1.isList bh | (rw [br] <;> first | exact SeqAt.RcNeAt.list_str b2 t2 p1.isList bh | nofun)
  | @lst a2 g9 fT q2 l2 i2=>
   cases r2
   obtain⟨bG,v2,p2,z2⟩:=I.list q2
   have n2:bG.toArray.size=fT.length:=by rw [List.size_toArray,←v2.length,l2]
   have it:=iS (X:=X) (A:=A.in1) v1 v2 l1 l2 (fun i x d ha hb=>tU I (i1 i x d ha hb) (Fi i d hb)) i2
   rw [br]
   by_cases hlen:jZ.toArray.size=bG.toArray.size
   ·rw [g8 (by omega),←n1]
    exact SeqAt.RcNeAt.lists p1.isList p2.isList hlen bh it
   ·rw [g7 (by omega)]
    exact SeqAt.RcNeAt.lists_lengths p1.isList p2.isList (by simpa using hlen) bh
  | @tup a2 g9 fT q2 l2 i2=>
   cases r2
   obtain⟨bG,v2,p2,z2⟩:=I.tuple q2
   first | exact SeqAt.RcNeAt.list_tuple p1.isList p2 bh | (rw [br] <;> first | exact SeqAt.RcNeAt.list_tuple p1.isList p2 bh | nofun)
 | @tup a1 XT n6 q1 l1 i1=>
  cases r1
  have bh:A.units < cLine:=Nat.lt_of_le_of_lt (Nat.le_add_right _ _) hu
  obtain⟨jZ,v1,p1,z1⟩:=I.tuple q1
  have n1:jZ.toArray.size=n6.length:=by rw [List.size_toArray,←v1.length,l1]
  have Fi:∀(i:Nat) (d:D),n6[i]?=some d→A.in1.units+d.dep < cLine:=fun i d h=>by
   have e1:=gf h
   have e2:A.units+(jY n6+1) < cLine:=by simpa only [D.dep] using hu
   show A.units+1+d.dep < cLine
   omega
  cases h2 with
  | aP=>
   cases r2
   first | exact SeqAt.RcNeAt.tuple_none p1 bh | (rw [br] <;> first | exact SeqAt.RcNeAt.tuple_none p1 bh | nofun)
  | bl b2=>
   cases r2
   first | exact SeqAt.RcNeAt.tuple_bool b2 p1 bh | (rw [br] <;> first | exact SeqAt.RcNeAt.tuple_bool b2 p1 bh | nofun)
  | int b2=>
   obtain⟨t2,rfl⟩:=r2
   first | exact SeqAt.RcNeAt.tuple_int b2 t2 p1 bh | (rw [br] <;> first | exact SeqAt.RcNeAt.tuple_int b2 t2 p1 bh | nofun)
  | str b2=>
   obtain⟨t2,rfl⟩:=r2
   first | exact SeqAt.RcNeAt.tuple_str b2 t2 p1 bh | (rw [br] <;> first | exact SeqAt.RcNeAt.tuple_str b2 t2 p1 bh | nofun)
  | @lst a2 g9 fT q2 l2 i2=>
   cases r2
   obtain⟨bG,v2,p2,z2⟩:=I.list q2
   first | exact SeqAt.RcNeAt.tuple_list p1 p2.isList bh | (rw [br] <;> first | exact SeqAt.RcNeAt.tuple_list p1 p2.isList bh | nofun)
  | @tup a2 g9 fT q2 l2 i2=>
   cases r2
   obtain⟨bG,v2,p2,z2⟩:=I.tuple q2
   have n2:bG.toArray.size=fT.length:=by rw [List.size_toArray,←v2.length,l2]
   have it:=iS (X:=X) (A:=A.in1) v1 v2 l1 l2 (fun i x d ha hb=>tU I (i1 i x d ha hb) (Fi i d hb)) i2
   rw [br]
   rw [←Fh,←n1,←n2]
   exact SeqAt.RcNeAt.tuples p1 p2 bh it
noncomputable def YO (K:PySem.W.Frag) (neg:Bool):R2:=fun x y H Q=>∃d e,jl K H x d∧jl K H y e∧d.dep≤60∧Q (.bl (if neg=true then !br d e else br d e)) H
theorem S6 (hu:X.A.units+64 < cLine):lr X (compareOp .Eq) (YO X.K false):=by
 intro pins s σ H x y v u Q I rx ry h
 obtain⟨d,e,h1,h2,hd,q⟩:=h
 exact S5 I h1 h2 (by omega) rx ry _ _ _ _ (bf I q rfl)
theorem Fl (hu:X.A.units+64 < cLine):lr X (compareOp .NotEq) (YO X.K true):=by
 intro pins s σ H x y v u Q I rx ry h
 obtain⟨d,e,h1,h2,hd,q⟩:=h
 exact Fj I h1 h2 (by omega) rx ry _ _ _ _ (bf I q rfl)
noncomputable def fD:V→D
 | .aP=>.aP
 | .bl b=>.bl b
 | .int i=>.int i
 | .str x=>.str x
 | _=>.aP
theorem jl.flat {K:PySem.W.Frag}{x:V}(h:fS x=true):jl K H x (fD x):=by
 cases x with
 | aP=>exact .aP
 | bl b=>exact .bl b
 | int i=>exact .int i
 | str z=>exact .str z
 | _=>exact absurd (show false=true from h) Bool.false_ne_true
theorem jl.B6 {K:PySem.W.Frag}{a:Addr}{xs:List V}(h:bc K H a xs) (hf:∀x∈xs,fS x=true):jl K H (.ref a) (.lst (xs.map fD)):=by
 refine .lst h (by simp) fun i x d h1 h2=>?_
 rw [List.getElem?_map,h1] at h2
 cases h2
 exact .flat (hf x (List.mem_of_getElem? h1))
theorem jl.YQ {K:PySem.W.Frag}{a:Addr}{xs:List V}(h:bU K H a xs) (hf:∀x∈xs,fS x=true):jl K H (.ref a) (.tup (xs.map fD)):=by
 refine .tup h (by simp) fun i x d h1 h2=>?_
 rw [List.getElem?_map,h1] at h2
 cases h2
 exact .flat (hf x (List.mem_of_getElem? h1))
theorem Fm (x:V):(fD x).dep=0:=by cases x <;> rfl
theorem rl (xs:List V):jY (xs.map fD)=0:=by
 induction xs with
 | nil=>rfl
 | cons x xs ih=>rw [List.map_cons,jY,Fm,ih]; rfl
end
end L2
namespace L2
open PySem PySem.Spec PyProof.Rows
structure Ends.Le (D D':Ends):Prop where
 nx:∀σ H,D.nx σ H→D'.nx σ H
 rt:∀v H,D.rt v H→D'.rt v H
 bk:∀σ H,D.bk σ H→D'.bk σ H
 ct:∀σ H,D.ct σ H→D'.ct σ H
theorem Ends.Le.refl (D:Ends):D.Le D:=⟨fun _ _ h=>h,fun _ _ h=>h,fun _ _ h=>h,fun _ _ h=>h⟩
noncomputable def bA (X:Cx) (S7:List Stmt):TS:=fun D σ H=>∃t D',tu X S7 t∧t D' σ H∧D'.Le D
theorem az {X:Cx}{S7:List Stmt}:tu X S7 (bA X S7):=fun pins s σ H D I h=>by
 obtain⟨t,D',h1,h2,le⟩:=h
 refine bR (h1 pins s σ H D' I h2) fun f s' h=>?_
 cases f with
 | next=>obtain⟨a,b,c,d⟩:=h; exact⟨a,b,c,le.nx _ _ d⟩
 | brk=>obtain⟨a,b,c,d⟩:=h; exact⟨a,b,c,le.bk _ _ d⟩
 | cont=>obtain⟨a,b,c,d⟩:=h; exact⟨a,b,c,le.ct _ _ d⟩
 | ret u=>obtain⟨v,a,b,c,r,d⟩:=h; exact⟨v,a,b,c,r,le.rt _ _ d⟩
theorem bA.of {X:Cx}{S7:List Stmt}{D:Ends}{σ:St}{H:Hp}{t:TS}(h:tu X S7 t) (q:t D σ H):bA X S7 D σ H:=⟨t,D,h,q,.refl D⟩
noncomputable def g_ (X:Cx) (e:Expr):TT:=fun σ H Q=>∃t Q',PT X e t∧t σ H Q'∧∀b H1,Q' b H1→Q b H1
theorem Fn {X:Cx}{e:Expr}:PT X e (g_ X e):=fun pins s σ H Q I h=>by
 obtain⟨t,Q',h1,h2,le⟩:=h
 refine bR (h1 pins s σ H Q' I h2) fun b s' h=>?_
 obtain⟨H1,i,q⟩:=h
 exact⟨H1,i,le _ _ q⟩
theorem g_.of {X:Cx}{e:Expr}{σ:St}{H:Hp}{Q:Bool→Hp→Prop}{t:TT}(h:PT X e t) (q:t σ H Q):g_ X e σ H Q:=⟨t,Q,h,q,fun _ _ h=>h⟩
noncomputable def Fo (J:It) (g:TG) (tb:TS) (D:Ends) (σ:St) (H:Hp):Prop:=∃W:Nat→Nat→St→Hp→Prop,(∃m,W 0 m σ H)∧∀i m σ H,W i m σ H →
 (J.stop i H∧D.nx σ H)∨(J.go i H∧∃N:St→Hp→Prop,(∀σ' H',N σ' H'→∃m',m' < m∧W (i+1) m' σ' H')∧∀x H',J.Oy i H x H'→g x σ H' fun σ2 H2=>tb {D with nx:=N,ct:=N,bk:=D.nx} σ2 H2)
noncomputable def OT (wi:TI) (g:TG) (tb:TS):TS:=fun D σ H=>wi σ H fun J H1=>Fo J g tb D σ H1
theorem b_ {X:Cx}{tg iter:Expr}{body:List Stmt}{wi:TI}{g:TG}{tb:TS}{pos:Pos}(hp:PassesOwn (model X.prog X.w) X.A X.env X.xe) (hc:X.calm=true) (hi:PI X tg iter wi) (hg:PG X tg g) (hb:tu X body tb)
  (hs:∀x,foldedSetIterable iter X.env x=pure x:=by intro _; rfl):PS X (.For tg iter body [] pos) (OT wi g tb):=Sw hp hc hi hg hb hs
section
variable {K:PySem.W.Frag}{a:Addr}{p:Nat}{xs:List V}{lo:Int}{n:Nat}{g:TG}{tb:TS}{D:Ends}{σ:St}{H:Hp}
theorem d0 (xs:List V) (Pv:Nat→St→Hp→Prop) (h0:Pv 0 σ H) (hl:∀i σ H,i≤xs.length→Pv i σ H→bc K H a xs)
  (hs:∀i x σ H,xs[i]?=some x→Pv i σ H→g x σ H fun σ2 H2=>tb {D with nx:=Pv (i+1),ct:=Pv (i+1),bk:=D.nx} σ2 H2) (hd:∀σ H,Pv xs.length σ H→D.nx σ H):Fo (OA K a) g tb D σ H:=EB Pv h0 hl hs hd
theorem j4 (Pv:Nat→St→Hp→Prop) (h0:Pv 0 σ H) (hs:∀i σ H,i < n→Pv i σ H→g (.int (lo+i)) σ H fun σ2 H2=>tb {D with nx:=Pv (i+1),ct:=Pv (i+1),bk:=D.nx} σ2 H2) (hd:∀σ H,Pv n σ H→D.nx σ H):Fo (Lj lo n) g tb D σ H:=CU Pv h0 hs hd
theorem LP (xs:List V) (Pv:Nat→St→Hp→Prop) (h0:Pv 0 σ H) (hl:∀i σ H,i≤xs.length→Pv i σ H→bc K H a xs)
  (hs:∀i x t σ H,xs[i]?=some x→Pv i σ H→H t=none→g (.ref t) σ (upd H t (.tup [.int ((p+i:Nat):Int),x])) fun σ2 H2=>tb {D with nx:=Pv (i+1),ct:=Pv (i+1),bk:=D.nx} σ2 H2) (hd:∀σ H,Pv xs.length σ H→D.nx σ H):Fo (OP K a p) g tb D σ H:=Fg Pv h0 hl hs hd
end
noncomputable def Af (c:TT) (tb:TS) (D:Ends) (σ:St) (H:Hp):Prop:=Ey c tb D σ H
noncomputable def B7 (c:TT) (tb:TS):TS:=fun D σ H=>Af c tb D σ H
theorem lB {X:Cx}{c:Expr}{body:List Stmt}{tb:TS}{pos:Pos}(hp:PassesOwn (model X.prog X.w) X.A X.env X.xe) (hb:tu X body tb):PS X (.While c body [] pos) (B7 (g_ X c) tb):=Ez hp Fn hb
theorem ww {X:Cx}{c:Expr}{tb:TS}{D:Ends}{σ:St}{H:Hp}(Pv:Nat→St→Hp→Prop) (m0:Nat) (h0:Pv m0 σ H)
  (hs:∀m σ H,Pv m σ H→g_ X c σ H fun b H1=>if b=true then tb {D with nx:=fun σ' H'=>∃m',m' < m∧Pv m' σ' H',ct:=fun σ' H'=>∃m',m' < m∧Pv m' σ' H',bk:=D.nx} σ H1 else D.nx σ H1):Af (g_ X c) tb D σ H:=by
 refine⟨Pv,⟨m0,h0⟩,fun m σ H h=>?_⟩
 obtain⟨t,Q',h1,h2,le⟩:=hs m σ H h
 refine⟨t,Q',h1,h2,fun b H1 q=>?_⟩
 have q:=le b H1 q
 cases b with
 | true=>exact⟨_,fun _ _ h=>h,q⟩
 | false=>exact q
theorem ww2 {X:Cx}{c:Expr}{tb:TS}{D:Ends}{σ:St}{H:Hp}(Pv:Nat→St→Hp→Prop) (Pe:St→Hp→Prop) (m0:Nat) (h0:Pv m0 σ H)
  (hs:∀m σ H,Pv m σ H→g_ X c σ H fun b H1=>if b=true then tb {D with nx:=fun σ' H'=>∃m',m' < m∧Pv m' σ' H',ct:=fun σ' H'=>∃m',m' < m∧Pv m' σ' H',bk:=D.nx} σ H1 else Pe σ H1)
  (hd:∀σ H,Pe σ H→D.nx σ H):Af (g_ X c) tb D σ H:=by
 refine ww Pv m0 h0 fun m σ H h=>?_
 obtain⟨t,Q',h1,h2,le⟩:=hs m σ H h
 refine⟨t,Q',h1,h2,fun b H1 q=>?_⟩
 have q:=le b H1 q
 cases b with
 | true=>exact q
 | false=>exact hd σ H1 q
noncomputable def Eh (X:Cx) (st:Stmt):TS:=fun D σ H=>∃t D',PS X st t∧t D' σ H∧D'.Le D
theorem jw {X:Cx}{st:Stmt}:PS X st (Eh X st):=fun pins s σ H D I h=>by
 obtain⟨t,D',h1,h2,le⟩:=h
 refine bR (h1 pins s σ H D' I h2) fun f s' h=>?_
 cases f with
 | next=>obtain⟨a,b,c,d⟩:=h; exact⟨a,b,c,le.nx _ _ d⟩
 | brk=>obtain⟨a,b,c,d⟩:=h; exact⟨a,b,c,le.bk _ _ d⟩
 | cont=>obtain⟨a,b,c,d⟩:=h; exact⟨a,b,c,le.ct _ _ d⟩
 | ret u=>obtain⟨v,a,b,c,r,d⟩:=h; exact⟨v,a,b,c,r,le.rt _ _ d⟩
theorem Eh.of {X:Cx}{st:Stmt}{D:Ends}{σ:St}{H:Hp}{t:TS}(h:PS X st t) (q:t D σ H):Eh X st D σ H:=⟨t,D,h,q,.refl D⟩
theorem n9 {X:Cx}{st:Stmt}{D:Ends}{σ:St}{H:Hp}(M:St→Hp→Prop) (h:Eh X st {D with nx:=M} σ H) (q:∀σ H,M σ H→D.nx σ H):Eh X st D σ H:=by
 obtain⟨t,D',h1,h2,le⟩:=h
 exact⟨t,D',h1,h2,fun σ H z=>q σ H (le.nx σ H z),le.rt,le.bk,le.ct⟩
end L2
namespace L2
open PySem PySem.Spec PyProof.Rows
structure OU (K:PySem.W.Frag) (C:Addr) (m:Str) (f:Addr):Prop where
 sp:PySem.W.specialIn K (.ref C) "__getattribute__"=some (some (.builtin "type.__getattribute__"))
 rd:PySem.W.readsIn K C (.type "type")=true
 fd:PySem.W.findCls K (.ref C) (.type "type") m=some (.val (.ref f))
 kp:PySem.W.keepIn K (.ref f)=true
structure Tyc (K:PySem.W.Frag) (C:Addr):Prop where
 ha:PySem.W.findIn K (.ref C) "__class__"=some (some (.builtin "object.__class__"))
 hn:PySem.W.specialIn K (.builtin "object.__class__") "__get__"=some (some (.builtin "getset_descriptor.__get__"))
 htk:PySem.W.takesIn K (.builtin "object.__class__")=some true
 hm:PySem.W.mroIn K C (.type "object")=some true
noncomputable def Ag (L:List (Addr×Sp)) (m:Str) (fR:List V) (E:XK) (ta:TE) (t:TA):TE:=fun σ H Q=>ta σ H fun x H1=>∃a C dx fs,x=.ref a∧H1 a=some (.ins C dx fs)∧fs.lookup m=none∧∃sp,(C,sp)∈L ∧
 t σ H1 fun vs H2=>sp (x::(vs++fR)) H2 Q E
noncomputable def VM (X:Cx) (CX:vk) (m:Str) (ds:List Value) (q:Addr×Sp):Prop:=∃(f:Addr) (fd:FuncData) (ps:List Str) (k:Nat),nz X.K q.1∧Meth X.K q.1 m f∧aN X.prog X.w X.K X.mg X.base CX k f fd ps q.2∧c7 k X.A∧Binds X.K fd ps ds
section
variable {X:Cx}{CX:vk}{k:Nat}{f C:Addr}{fd:FuncData}{ps:List Str}{sp:Sp}{fR:List V}{ds:List Value}{E:XK}{x m:Str}{p pos apos:Pos}{e o:Expr}{es:List Expr}{ta:TE}{t:TA}{L:List (Addr×Sp)}
theorem B8 {pl:Sem Bool}(he:PE X o (tC (.ref C))) (hm:OU X.K C m f) (F:aN X.prog X.w X.K X.mg X.base CX k f fd ps sp) (hr:c7 k X.A) (hb:Binds X.K fd ps ds) (hd:Vals fR ds) (hx:Passes CX X E) (ha:PA X (e::es) t)
  (k_:starEach (e::es) X.env=(false,eval e X.env)::starEach es X.env:=by rfl) (nU:(backTo pos (starEach es X.env)).any (·.1)=false:=by rfl)
  (ht:eval (.Call (.Attribute o m apos) (e::es) [] pos) X.env=(do
   let ov ←eval o X.env
   standAt apos.atName
   let (f,first) ←holding [ov] (getMethod ov m pl)
   callWith pos f first (backTo pos (starEach (e::es) X.env)) (backToKw pos (keywordEach [] X.env))):=by rfl) :
  PE X (.Call (.Attribute o m apos) (e::es) [] pos) (EI sp fR E t):=by
 intro pins s σ H Q I h
 refine PySem.W.methodCall_KW (pl:=pl) (bR (he pins s σ H (fun v H1=>v=.ref C∧H1=H) I ⟨rfl,rfl⟩) fun u s1 ⟨x,H1,I1,rx,ex,eH⟩=>?_) ht
 subst ex
 subst eH
 obtain rfl:u=Value.ref C:=rx
 refine PySem.W.method_cls I1.qV hm.sp (PySem.W.cls_value I1.qV hm.rd hm.fd rfl ?_)
 refine PySem.W.callWith_K (first:=[]) (h₀:=X.base) I.ok.mod.Sm hm.kp (bR (ha pos pins _ σ _ _ (I1.tok _) h) fun us s2 ⟨vs,H2,I2,r,q2⟩=>⟨I2.qV,?_⟩) k_ nU
 exact ly F hr hb hd hx I2 r q2
theorem Fp {pl:Sem Bool}(he:PE X o ta) (hL:∀q∈L,VM X CX m ds q) (hd:Vals fR ds) (hx:Passes CX X E) (ha:PA X (e::es) t)
  (k_:starEach (e::es) X.env=(false,eval e X.env)::starEach es X.env:=by rfl) (nU:(backTo pos (starEach es X.env)).any (·.1)=false:=by rfl)
  (ht:eval (.Call (.Attribute o m apos) (e::es) [] pos) X.env=(do
   let ov ←eval o X.env
   standAt apos.atName
   let (f,first) ←holding [ov] (getMethod ov m pl)
   callWith pos f first (backTo pos (starEach (e::es) X.env)) (backToKw pos (keywordEach [] X.env))):=by rfl) :
  PE X (.Call (.Attribute o m apos) (e::es) [] pos) (Ag L m fR E ta t):=by
 intro pins s σ H Q I h
 refine PySem.W.methodCall_KW (pl:=pl) (bR (he pins s σ H _ I h) fun u s1 ⟨x,H1,I1,rx,a,C,dx,fs,ex,ea,l,sp,hC,q⟩=>?_) ht
 subst ex
 obtain rfl:u=Value.ref a:=rx
 obtain⟨f,fd,ps,k,c,hm,F,hr,hb⟩:=hL _ hC
 refine eO I1 ea c hm l ?_
 refine PySem.W.callWith_K (first:=[.ref a]) (h₀:=X.base) I.ok.mod.Sm hm.kp (bR (ha pos pins s1 σ H1 _ I1 q) fun us s2 ⟨vs,H2,I2,r,q2⟩=>⟨I2.qV,?_⟩) k_ nU
 exact ly (us:=.ref a::us) (vs:=.ref a::vs) F hr hb hd hx I2 (.cons rfl r) q2
theorem cR {pl:Sem Bool}(he:PE X o ta) (hL:∀q∈L,VM X CX m ds q) (hd:Vals fR ds) (hx:Passes CX X E)
  (ht:eval (.Call (.Attribute o m apos) [] [] pos) X.env=(do
   let ov ←eval o X.env
   standAt apos.atName
   let (f,first) ←holding [ov] (getMethod ov m pl)
   callWith pos f first (backTo pos (starEach [] X.env)) (backToKw pos (keywordEach [] X.env))):=by rfl) :
  PE X (.Call (.Attribute o m apos) [] [] pos) (Ag L m fR E ta CZ):=by
 intro pins s σ H Q I h
 refine PySem.W.methodCall_KW (pl:=pl) (bR (he pins s σ H _ I h) fun u s1 ⟨x,H1,I1,rx,a,C,dx,fs,ex,ea,l,sp,hC,q⟩=>?_) ht
 subst ex
 obtain rfl:u=Value.ref a:=rx
 obtain⟨f,fd,ps,k,c,hm,F,hr,hb⟩:=hL _ hC
 refine eO I1 ea c hm l ?_
 exact PySem.W.callWith_K0 (first:=[.ref a]) I1.qV hm.kp (ly (us:=[.ref a]) (vs:=[.ref a]) F hr hb hd hx I1 (.cons rfl .nil) q)
end
theorem au.S8 {K:PySem.W.Frag}{H H':Hp}(k:au H H') {a:Addr}{xs:List V}(h:bU K H a xs):bU K H' a xs:=by
 rcases h with (h | ⟨o,h⟩) | h
 ·exact .inl (.inl (k _ _ h))
 ·exact .inl (.inr ⟨o,k _ _ h⟩)
 ·exact .inr h
theorem gN {i:Nat}{v:V}{σ:St}{H:Hp}{Q:St→Hp→Prop}(h:Q (σ.set i (some v)) H):qX i v σ H Q:=h
section
variable {K:PySem.W.Frag}{a D:Addr}{fr:List Nat}{tt:TT}{te:TE}{σ:St}{Q:Hp→Prop}{H:Hp}
noncomputable def OV (D:Addr) (Pv:Nat→List V→Hp→Prop) (n m i:Nat):VK:=fun y H4=>∃ys,H4 D=some (.lst ys)∧ys.length < sizeLine∧∃m',m' < m∧(m'+(i+1)=n∧∃zs,Pv (i+1) zs (upd H4 D (.lst (ys++[y]))))
noncomputable def YR (Pv:Nat→List V→Hp→Prop) (n m i:Nat) (H3:Hp):Prop:=∃m',m' < m∧(m'+(i+1)=n∧∃zs,Pv (i+1) zs H3)
theorem OV.mk {Pv:Nat→List V→Hp→Prop}{n m i:Nat}{y:V}{H4:Hp}{ys:List V}(hm:m+1+i=n) (h:H4 D=some (.lst ys)) (hz:ys.length≤1000) (p:Pv (i+1) (ys++[y]) (upd H4 D (.lst (ys++[y])))):OV D Pv n (m+1) i y H4:=
 ⟨ys,h,bb hz,m,by omega,by omega,_,p⟩
theorem YR.mk {Pv:Nat→List V→Hp→Prop}{n m i:Nat}{H3:Hp}{ys:List V}(hm:m+1+i=n) (p:Pv (i+1) ys H3):YR Pv n (m+1) i H3:=⟨m,by omega,by omega,_,p⟩
theorem lcl (xs:List V) (Pv:Nat→List V→Hp→Prop) (h0:Pv 0 [] H) (hl:∀i ys H,i≤xs.length→Pv i ys H→bc K H a xs)
  (hs:∀i m x ys H,m+1+i=xs.length→xs[i]?=some x→Pv i ys H→tt (aV fr σ (some x)) H fun b H3=>if b=true then te (aV fr σ (some x)) H3 (OV D Pv xs.length (m+1) i)else YR Pv xs.length (m+1) i H3)
  (hq:∀ys H,Pv xs.length ys H→Q H):jv (OA K a) fr tt te σ D Q H:=by
 refine⟨fun i m H2=>m+i=xs.length∧∃ys,Pv i ys H2,⟨xs.length,rfl,[],h0⟩,?_⟩
 rintro i m H2 ⟨hm,ys,hp⟩
 have hS:=hl i ys H2 (by omega) hp
 cases m with
 | zero=>
  have e:i=xs.length:=by omega
  subst e
  exact .inl ⟨⟨xs,hS,Nat.le_refl _⟩,hq ys H2 hp⟩
 | succ m=>
  have hi:i < xs.length:=by omega
  refine .inr ⟨⟨xs,xs[i],hS,List.getElem?_eq_getElem hi⟩,fun v H' y=>?_⟩
  obtain⟨rfl,hv⟩:=y
  exact hs i m v ys H' hm (hv xs hS) hp
theorem lcr {lo:Int}{n:Nat}(Pv:Nat→List V→Hp→Prop) (h0:Pv 0 [] H)
  (hs:∀i m ys H,m+1+i=n→i < n→Pv i ys H→tt (aV fr σ (some (.int (lo+i)))) H fun b H3=>if b=true then te (aV fr σ (some (.int (lo+i)))) H3 (OV D Pv n (m+1) i)else YR Pv n (m+1) i H3)
  (hq:∀ys H,Pv n ys H→Q H):jv (Lj lo n) fr tt te σ D Q H:=by
 refine⟨fun i m H2=>m+i=n∧∃ys,Pv i ys H2,⟨n,rfl,[],h0⟩,?_⟩
 rintro i m H2 ⟨hm,ys,hp⟩
 cases m with
 | zero=>
  have e:i=n:=by omega
  subst e
  exact .inl ⟨Nat.le_refl _,hq ys H2 hp⟩
 | succ m=>
  have hi:i < n:=by omega
  refine .inr ⟨hi,fun v H' y=>?_⟩
  obtain⟨rfl,rfl⟩:=y
  exact hs i m ys H' hm hi hp
theorem Fq {β:Type}(xs:List V) (bs:List β) (g:β→Option V) (hz:xs.length≤1000) (hl:bs.length=xs.length) (hS:∀ys,bc K (upd H D (.lst ys)) a xs)
  (ht:∀(i:Nat) x b ys (R:Bool→Hp→Prop),xs[i]?=some x→bs[i]?=some b→R (g b).isSome (upd H D (.lst ys))→tt (aV fr σ (some x)) (upd H D (.lst ys)) R)
  (he:∀(i:Nat) x b y ys (R:VK),xs[i]?=some x→bs[i]?=some b→g b=some y→R y (upd H D (.lst ys))→te (aV fr σ (some x)) (upd H D (.lst ys)) R)
  (hq:Q (upd H D (.lst (bs.filterMap g)))):jv (OA K a) fr tt te σ D Q (upd H D (.lst [])):=by
 refine⟨fun i m H2=>m+i=xs.length∧H2=upd H D (.lst ((bs.take i).filterMap g)),⟨xs.length,rfl,rfl⟩,?_⟩
 rintro i m H2 ⟨hm,rfl⟩
 cases m with
 | zero=>
  have e:i=xs.length:=by omega
  subst e
  refine .inl ⟨⟨xs,hS _,Nat.le_refl _⟩,?_⟩
  rw [←hl,List.take_length]
  exact hq
 | succ m=>
  have hi:i < xs.length:=by omega
  have hb:i < bs.length:=by omega
  refine .inr ⟨⟨xs,xs[i],hS _,List.getElem?_eq_getElem hi⟩,fun v H' y=>?_⟩
  obtain⟨rfl,hv⟩:=y
  have hx:=hv xs (hS _)
  have S9:bs[i]?=some bs[i]:=List.getElem?_eq_getElem hb
  have et:bs.take (i+1)=bs.take i++[bs[i]]:=by rw [List.take_add_one,S9]; rfl
  have ll:((bs.take i).filterMap g).length≤1000:=by
   have h1:=List.length_filterMap_le g (bs.take i)
   have h2:=List.length_take_le i bs
   omega
  have l2:((bs.take i).filterMap g).length < 1000:=by
   have h1:=List.length_filterMap_le g (bs.take i)
   have h2:=List.length_take_le i bs
   omega
  refine ht i v _ _ _ hx S9 ?_
  cases eg:g bs[i] with
  | none=>
   rw [Option.isSome_none,if_neg Bool.false_ne_true]
   refine⟨m,by omega,by omega,?_⟩
   rw [et,List.filterMap_append]
   simp [eg]
  | some y=>
   rw [Option.isSome_some,if_pos rfl]
   refine he i v _ y _ _ hx S9 eg ⟨_,ae,bb (by omega),m,by omega,by omega,?_⟩
   rw [ny,et,List.filterMap_append]
   simp [eg]
end
end L2
namespace L2
open PySem PySem.Spec PyProof.Rows
inductive TyS (K:PySem.W.Frag) (H:Hp):V→Value→Prop where
 | ty {x:V}{t:Value}(h:mF K H x t):TyS K H x t
 | lst {a:Addr}{xs:List V}(h:bc K H a xs):TyS K H (.ref a) (.type "list")
 | tup {a:Addr}{xs:List V}(h:bU K H a xs):TyS K H (.ref a) (.type "tuple")
end L2
namespace L2
open PySem PySem.Spec PyProof.Rows
section
variable {κ:Type} [DecidableEq κ]
noncomputable def aM (kvs:List (κ×V)) (k:κ):Option V:=(kvs.find? fun kv=>decide (kv.1=k)).map (·.2)
noncomputable def putK (kvs:List (κ×V)) (k:κ) (v:V):List (κ×V):=
 if (kvs.any fun kv=>decide (kv.1=k))=true then kvs.map (fun kv=>if kv.1=k then(kv.1,v)else kv)else kvs++[(k,v)]
noncomputable def fj (kvs:List (κ×V)) (k:κ):List (κ×V):=kvs.filter fun kv=>decide (kv.1≠k)
theorem dc {p:κ×V}{r:List (κ×V)}{k:κ}(e:p.1=k):aM (p::r) k=some p.2:=by simp [aM,List.find?_cons,e]
theorem de {p:κ×V}{r:List (κ×V)}{k:κ}(e:¬p.1=k):aM (p::r) k=aM r k:=by simp [aM,List.find?_cons,e]
theorem df (k:κ):∀kvs:List (κ×V),(kvs.any fun kv=>decide (kv.1=k))=(aM kvs k).isSome
 | []=>rfl
 | p::r=>by
  rw [List.any_cons]
  by_cases e:p.1=k
  ·simp only [dc e,decide_eq_true e,Bool.true_or,Option.isSome_some]
  ·rw [de e,decide_eq_false e,Bool.false_or]; exact df k r
theorem vE (k j:κ) (y:V):∀kvs:List (κ×V),aM (kvs.map fun kv=>if kv.1=k then(kv.1,y)else kv) j=(aM kvs j).map fun x=>if j=k then y else x
 | []=>rfl
 | p::r=>by
  have ih:=vE k j y r
  rw [List.map_cons]
  by_cases h:p.1=k
  ·rw [if_pos h]
   by_cases e:p.1=j
   ·rw [dc (p:=(p.1,y)) e,dc e,Option.map_some,if_pos (e.symm.trans h)]
   ·rw [de (p:=(p.1,y)) e,de e,ih]
  ·rw [if_neg h]
   by_cases e:p.1=j
   ·rw [dc (p:=p) e,dc e,Option.map_some,if_neg (fun z=>h (e.trans z))]
   ·rw [de (p:=p) e,de e,ih]
theorem rm (k j:κ) (y:V):∀kvs:List (κ×V),aM kvs k=none→aM (kvs++[(k,y)]) j=if j=k then some y else aM kvs j
 | [],_=>by
  by_cases e:k=j
  ·rw [if_pos e.symm]; exact dc (p:=(k,y)) e
  ·rw [if_neg (fun z=>e z.symm)]; exact de (p:=(k,y)) e
 | p::r,hn=>by
  rw [List.cons_append]
  have hk:¬p.1=k:=fun z=>by rw [dc z] at hn; cases hn
  rw [de hk] at hn
  have ih:=rm k j y r hn
  by_cases e:p.1=j
  ·rw [dc e,dc e,if_neg (fun z=>hk (e.trans z))]
  ·rw [de e,de e,ih]
theorem j6 (kvs:List (κ×V)) (k j:κ) (y:V):aM (putK kvs k y) j=if j=k then some y else aM kvs j:=by
 unfold putK
 by_cases a:(kvs.any fun kv=>decide (kv.1=k))=true
 ·rw [if_pos a,vE]
  rw [df] at a
  by_cases e:j=k
  ·obtain⟨x,hx⟩:=Option.isSome_iff_exists.mp a
   rw [if_pos e,e,hx,Option.map_some,if_pos rfl]
  ·rw [if_neg e]
   cases aM kvs j with
   | none=>rfl
   | some x=>rw [Option.map_some,if_neg e]
 ·rw [if_neg a]
  refine rm k j y kvs ?_
  rw [df] at a
  cases q:aM kvs k with
  | none=>rfl
  | some x=>rw [q] at a; exact(a rfl).elim
theorem l9 (kvs:List (κ×V)) (k:κ) (v:V):(putK kvs k v).length≤kvs.length+1:=by
 unfold putK
 split
 ·rw [List.length_map]; omega
 ·rw [List.length_append,List.length_cons,List.length_nil]; omega
theorem hV {kvs:List (κ×V)}{k:κ}(v:V) (h:aM kvs k=none):putK kvs k v=kvs++[(k,v)]:=by
 unfold putK
 rw [df,h]
 exact if_neg (by decide)
theorem fQ.eM {o:Option V}{u:Option Value}(r:fQ o u):o.isSome=u.isSome:=by
 cases o with
 | none=>cases u with
  | none=>rfl
  | some _=>exact(show False from r).elim
 | some _=>cases u with
  | none=>exact(show False from r).elim
  | some _=>rfl
theorem fQ.getD {o:Option V}{u:Option Value}{d:V}{d':Value}(r:fQ o u) (rd:RelV d d'):RelV (o.getD d) (u.getD d'):=by
 cases o with
 | none=>cases u with
  | none=>exact rd
  | some _=>exact(show False from r).elim
 | some _=>cases u with
  | none=>exact(show False from r).elim
  | some _=>exact r
theorem KV.val {kvs:List (κ×V)}{vs:List (κ×Value)}(r:KV kvs vs) (k:κ):fQ (aM kvs k) (valueAt vs k):=by
 unfold KV at r
 induction r with
 | nil=>exact True.intro
 | @cons p q ps qs h t ih=>
  obtain⟨h1,h2⟩:=h
  by_cases e:p.1=k
  ·have e':q.1=k:=h1.symm.trans e
   have b:valueAt (q::qs) k=some q.2:=by simp [valueAt,List.find?_cons,e']
   rw [dc e,b]; exact h2
  ·have e':¬q.1=k:=fun z=>e (h1.trans z)
   have b:valueAt (q::qs) k=valueAt qs k:=by simp [valueAt,List.find?_cons,e']
   rw [de e,b]; exact ih
theorem KV.any {kvs:List (κ×V)}{vs:List (κ×Value)}(r:KV kvs vs) (k:κ):(kvs.any fun kv=>decide (kv.1=k))=vs.any fun kv=>decide (kv.1=k):=by
 unfold KV at r
 induction r with
 | nil=>rfl
 | cons h t ih=>rw [List.any_cons,List.any_cons,ih,h.1]
theorem KV.iX {kvs:List (κ×V)}{vs:List (κ×Value)}(r:KV kvs vs) (k:κ) {y:V}{u:Value}(ry:RelV y u) :
  KV (kvs.map fun kv=>if kv.1=k then(kv.1,y)else kv) (vs.map fun kv=>if kv.1=k then(kv.1,u)else kv):=by
 unfold KV at r ⊢
 induction r with
 | nil=>exact .nil
 | @cons p q ps qs h t ih=>
  rw [List.map_cons,List.map_cons]
  refine .cons ?_ ih
  obtain⟨h1,h2⟩:=h
  by_cases e:p.1=k
  ·rw [if_pos e,if_pos (h1.symm.trans e)]; exact⟨h1,ry⟩
  ·rw [if_neg e,if_neg (fun z=>e (h1.trans z))]; exact⟨h1,h2⟩
theorem KV.put {kvs:List (κ×V)}{vs:List (κ×Value)}(r:KV kvs vs) (k:κ) {y:V}{u:Value}(ry:RelV y u):KV (putK kvs k y) (stored vs k u):=by
 unfold putK stored
 rw [r.any k]
 by_cases e:(vs.any fun kv=>decide (kv.1=k))=true
 ·rw [if_pos e,if_pos e]; exact r.iX k ry
 ·rw [if_neg e,if_neg e]; exact Paired.snoc r ⟨rfl,ry⟩
theorem KV.drop {kvs:List (κ×V)}{vs:List (κ×Value)}(r:KV kvs vs) (k:κ):KV (fj kvs k) (without vs k):=by
 unfold KV at r ⊢
 unfold fj without
 induction r with
 | nil=>exact .nil
 | @cons p q ps qs h t ih=>
  obtain⟨h1,h2⟩:=h
  rw [List.filter_cons,List.filter_cons]
  by_cases e:p.1=k
  ·have a:¬decide (p.1≠k)=true:=by simp [e]
   have b:¬decide (q.1≠k)=true:=by simp [h1.symm.trans e]
   rw [if_neg a,if_neg b]; exact ih
  ·have e':¬q.1=k:=fun z=>e (h1.trans z)
   have a:decide (p.1≠k)=true:=by simp [e]
   have b:decide (q.1≠k)=true:=by simp [e']
   rw [if_pos a,if_pos b]; exact .cons ⟨h1,h2⟩ ih
theorem KV.length {kvs:List (κ×V)}{vs:List (κ×Value)}(r:KV kvs vs):kvs.length=vs.length:=Paired.length r
theorem vF (kvs:List (κ×V)) (k:κ):(fj kvs k).length≤kvs.length:=List.length_filter_le _ _
end
theorem jm {P:Program}{w:World}{k:Key}{u:Value}(r:RelV (kV k) u):(bx P w).is k u=true:=by
 cases k with
 | inl i=>obtain⟨t,e⟩:=(show ∃t,u=Value.int i t from r); subst e; exact u9 P w i t
 | inr x=>obtain⟨t,e⟩:=(show ∃t,u=Value.str x t from r); subst e; exact u_ P w x t
theorem rn {P:Program}{w:World}:∀{ks:List Key}{us:List Value},Vals (ks.map kV) us→ItemsAre (bx P w) ks us
 | [],_,r=>by rw [List.map_nil] at r; cases r; exact .nil
 | k::ks,_,r=>by
  rw [List.map_cons] at r
  cases r with
  | cons h t=>exact .cons (jm h) (rn t)
noncomputable abbrev KT (H:Hp):List (List Key×V)→List (List Key×Addr×Value)→Prop:=Paired fun p q=>p.1=q.1∧H q.2.1=some (.tup (p.1.map kV))∧RelV p.2 q.2.2
theorem KT.val {H:Hp}{kvs:List (List Key×V)}{xs:List (List Key×Addr×Value)}(r:KT H kvs xs) (k:List Key):fQ (aM kvs k) ((atKey xs k).map (·.2)):=by
 induction r with
 | nil=>exact True.intro
 | @cons p q ps qs h t ih=>
  obtain⟨h1,_,h2⟩:=h
  by_cases e:p.1=k
  ·have e':q.1=k:=h1.symm.trans e
   have b:atKey (q::qs) k=some q.2:=by simp [atKey,List.find?_cons,e']
   rw [dc e,b]; exact h2
  ·have e':¬q.1=k:=fun z=>e (h1.trans z)
   have b:atKey (q::qs) k=atKey qs k:=by simp [atKey,List.find?_cons,e']
   rw [de e,b]; exact ih
theorem KT.iX {H:Hp}{kvs:List (List Key×V)}{xs:List (List Key×Addr×Value)}(r:KT H kvs xs) (k:List Key) {y:V}{u:Value}(ry:RelV y u) :
  KT H (kvs.map fun kv=>if kv.1=k then(kv.1,y)else kv) (xs.map (putAt k u)):=by
 induction r with
 | nil=>exact .nil
 | @cons p q ps qs h t ih=>
  rw [List.map_cons,List.map_cons]
  refine .cons ?_ ih
  obtain⟨h1,h2,h3⟩:=h
  unfold putAt
  by_cases e:p.1=k
  ·rw [if_pos e,if_pos (h1.symm.trans e)]; exact⟨h1,h2,ry⟩
  ·rw [if_neg e,if_neg (fun z=>e (h1.trans z))]; exact⟨h1,h2,h3⟩
theorem KT.put {H:Hp}{kvs:List (List Key×V)}{xs:List (List Key×Addr×Value)}(r:KT H kvs xs) (k:List Key) {b:Addr}{y:V}{u:Value}(hb:H b=some (.tup (k.map kV))) (ry:RelV y u) :
  KT H (putK kvs k y) (storedH xs k b u):=by
 have e:(kvs.any fun kv=>decide (kv.1=k))=(atKey xs k).isSome:=by
  rw [df,(r.val k).eM,Option.isSome_map]
 unfold putK storedH
 rw [e]
 by_cases q:(atKey xs k).isSome=true
 ·rw [if_pos q,if_pos q]; exact r.iX k ry
 ·rw [if_neg q,if_neg q]; exact Paired.snoc r ⟨rfl,hb,ry⟩
theorem KT.keeps {H H':Hp}{kvs:List (List Key×V)}{xs:List (List Key×Addr×Value)}(r:KT H kvs xs) (ht:∀b ys,H b=some (.tup ys)→H' b=some (.tup ys)):KT H' kvs xs:=
 Paired.Sk r fun _ _ z=>⟨z.1,ht _ _ z.2.1,z.2.2⟩
section
variable {P:Program}{w:World}{H:Hp}{h:Heap}{a:Addr}
theorem OW {u:HO}(ok:js P w H h) (e:Rd H a u):cG P w H h a u:=e.ok ok
theorem hW {kvs:List (Key×V)}(ok:js P w H h) (e:Rd H a (.dK kvs)):kvs.length≤sizeLine∧(a == sysModules)=false∧∃vs,KV kvs vs∧h.DictOf (bx P w) a vs:=
 show cG P w H h a (.dK kvs) from OW ok e
theorem rp {kvs:List (Key×V)}(ok:js P w H h) (e:H a=some (.dK kvs)):kvs.length≤sizeLine∧(a == sysModules)=false∧∃vs,KV kvs vs∧h.DictOf (bx P w) a vs:=hW ok (.inl e)
theorem jx {ks:List Key}(ok:js P w H h) (e:H a=some (.tup (ks.map kV))):(tupleKind (bx P w)).is h ks a:=by
 obtain⟨_,aO,r,o,h1,h2,n,h3⟩:=(show cG P w H h a (.tup (ks.map kV)) from ok a _ e)
 exact⟨o,aO.toArray,n,h1,h2,h3,by simpa using rn r⟩
theorem l_ {kvs:List (List Key×V)}(ok:js P w H h) (e:Rd H a (.dT kvs)):kvs.length≤sizeLine∧(a == sysModules)=false ∧
  ∃xs,KT H kvs xs∧h.DictOfH (tupleKind (bx P w)) a xs:=by
 obtain⟨z,y,xs,r,o,es,ep,h1,h2,h3,h4,h5⟩:=(show cG P w H h a (.dT kvs) from OW ok e)
 refine⟨z,y,xs,r,o,es,ep,h1,h2,h3,h4,fun x hx=>?_,h5⟩
 have all:∀{l:List (List Key×V)}{m:List (List Key×Addr×Value)},KT H l m→∀x∈m,(tupleKind (bx P w)).is h x.1 x.2.1:=by
  intro l m q
  induction q with
  | nil=>intro x hx; exact nomatch hx
  | @cons p q ps qs hq t ih=>
   intro x hx
   rcases List.mem_cons.mp hx with e | hx
   ·subst e
    exact jx ok (by rw [←hq.1]; exact hq.2.1)
   ·exact ih x hx
 exact all r x hx
theorem YS {kvs:List (List Key×V)}(ok:js P w H h) (e:H a=some (.dT kvs)):kvs.length≤sizeLine∧(a == sysModules)=false ∧
  ∃xs,KT H kvs xs∧h.DictOfH (tupleKind (bx P w)) a xs:=l_ ok (.inl e)
end
noncomputable def c8 (H:Hp) (a:Addr) (y:V) (r:Option V):Prop:=
 (∃kvs k,Rd H a (.dK kvs)∧y=kV k∧r=aM kvs k)∨∃kvs k b,Rd H a (.dT kvs)∧y=.ref b∧H b=some (.tup (k.map kV))∧r=aM kvs k
noncomputable def lC (H:Hp) (a:Addr) (y v:V) (H':Hp):Prop:=
 (∃kvs k,H a=some (.dK kvs)∧y=kV k∧kvs.length < sizeLine∧H'=upd H a (.dK (putK kvs k v))) ∨
 ∃kvs k b,H a=some (.dT kvs)∧y=.ref b∧H b=some (.tup (k.map kV))∧kvs.length < sizeLine∧H'=upd H a (.dT (putK kvs k v))
theorem c8.k {H:Hp}{a:Addr}{kvs:List (Key×V)}{k:Key}(e:H a=some (.dK kvs)):c8 H a (kV k) (aM kvs k):=.inl ⟨kvs,k,.inl e,rfl,rfl⟩
theorem lC.k {H:Hp}{a:Addr}{kvs:List (Key×V)}{k:Key}{v:V}(e:H a=some (.dK kvs)) (hl:kvs.length < sizeLine):lC H a (kV k) v (upd H a (.dK (putK kvs k v))):=.inl ⟨kvs,k,e,rfl,hl,rfl⟩
section
variable {X:Cx}{pins:List (Addr×Obj)}{σ:St}{H:Hp}{s:Shared}{a:Addr}{y v:V}{u r:Value}{o:Option V}{A:Around}{E:Value→Shared→Prop}
theorem Inv.big (I:Inv X pins σ H s):sysModules < s.heap.objs.size:=by
 have h:mainGlobals < s.heap.objs.size:=(I.mod.glob.keeps I.bk).lt
 exact Nat.lt_trans (by decide) h
theorem Dc {Q:Value→Shared→Prop}(hu:A.units+1 < cLine) (I:Inv X pins σ H s) (g:c8 H a y (some v)) (ry:RelV y u) (h:∀w' s',Inv X pins σ H s'→RelV v w'→Q w' s') :
  wpAny (model X.prog X.w) A (getItem (.ref a) u) Q E s:=by
 rcases g with ⟨kvs,k,e,ey,l⟩ | ⟨kvs,k,b,e,ey,eb,l⟩
 ·subst ey
  obtain⟨z,hd,vs,rel,dd⟩:=hW I.bK e
  obtain⟨w',hw,tK⟩:=fQ.some_of (v:=v) (o:=valueAt vs k) (by rw [l]; exact rel.val k)
  exact wpAny_getItem_of (jm ry) dd.mapOf hw (h w' _ (I.tok _) tK)
 ·subst ey
  cases (show u=Value.ref b from ry)
  obtain⟨z,hd,xs,rel,dd⟩:=l_ I.bK e
  obtain⟨w',hw,tK⟩:=fQ.some_of (v:=v) (o:=(atKey xs k).map (·.2)) (by rw [l]; exact rel.val k)
  obtain⟨p,hp,tV⟩:=Option.map_eq_some_iff.mp hw
  refine wpAny_getItem_heap (tupleKind_room_in1 hu) (jx I.bK eb) dd hp ?_
  rw [tV]
  exact h w' _ (I.tok _) tK
theorem ael {Q:Value→Shared→Prop}(hu:A.units+1 < cLine) (I:Inv X pins σ H s) (g:c8 H a y o) (ry:RelV y u) (h:∀s',Inv X pins σ H s'→Q (.bool o.isSome) s') :
  wpAny (model X.prog X.w) A (compareOp .In u (.ref a)) Q E s:=by
 rcases g with ⟨kvs,k,e,ey,l⟩ | ⟨kvs,k,b,e,ey,eb,l⟩
 ·subst ey
  obtain⟨z,hd,vs,rel,dd⟩:=hW I.bK e
  refine wpAny_in_of (jm ry) hd dd.mapOf ?_
  rw [←(rel.val k).eM,←l]
  exact h _ (I.tok _)
 ·subst ey
  cases (show u=Value.ref b from ry)
  obtain⟨z,hd,xs,rel,dd⟩:=l_ I.bK e
  refine wpAny_in_heap (tupleKind_room_in1 hu) (jx I.bK eb) hd dd ?_
  have q:=(rel.val k).eM
  rw [Option.isSome_map] at q
  rw [←q,←l]
  exact h _ (I.tok _)
theorem LQ {Q:Value→Shared→Prop}(hu:A.units+1 < cLine) (I:Inv X pins σ H s) (g:c8 H a y o) (ry:RelV y u) (h:∀s',Inv X pins σ H s'→Q (.bool (!o.isSome)) s') :
  wpAny (model X.prog X.w) A (compareOp .NotIn u (.ref a)) Q E s:=by
 rcases g with ⟨kvs,k,e,ey,l⟩ | ⟨kvs,k,b,e,ey,eb,l⟩
 ·subst ey
  obtain⟨z,hd,vs,rel,dd⟩:=hW I.bK e
  refine wpAny_notIn_of (jm ry) hd dd.mapOf ?_
  rw [←(rel.val k).eM,←l]
  exact h _ (I.tok _)
 ·subst ey
  cases (show u=Value.ref b from ry)
  obtain⟨z,hd,xs,rel,dd⟩:=l_ I.bK e
  refine wpAny_notIn_heap (tupleKind_room_in1 hu) (jx I.bK eb) hd dd ?_
  have q:=(rel.val k).eM
  rw [Option.isSome_map] at q
  rw [←q,←l]
  exact h _ (I.tok _)
theorem nC {h':Heap}{t':Nat}{ob:HO}(I:Inv X pins σ H s) (mu:X9 (H a)) (hs:Heap.SameBut a s.heap h') (he:∃q,h'.get? a=some q) (new:cG X.prog X.w (upd H a ob) h' a ob) :
  Inv X pins σ (upd H a ob) {s with heap:=h',toks:=t'}:=
 I.write (x:=a) (e:=a) mu (.inl rfl) (fun b q hb z=>(hs.2 b hb).trans z) he new
theorem Ah {P:Program}{w:World}{H':Hp}{h':Heap}{kvs:List (Key×V)}{vs:List (Key×Value)}(z:kvs.length≤sizeLine) (hd:(a == sysModules)=false) (rel:KV kvs vs) (dd:h'.DictOf (bx P w) a vs) :
  cG P w H' h' a (.dK kvs):=⟨z,hd,vs,rel,dd⟩
theorem Dd {H':Hp}{Q:Unit→Shared→Prop}(hu:A.units+1 < cLine) (I:Inv X pins σ H s) (g:lC H a y v H') (ry:RelV y u) (rv:RelV v r) (h:∀s',Inv X pins σ H' s'→Q () s') :
  wpAny (model X.prog X.w) A (setItem (.ref a) u r) Q E s:=by
 rcases g with ⟨kvs,k,e,ey,l,eH⟩ | ⟨kvs,k,b,e,ey,eb,l,eH⟩
 ·subst ey eH
  obtain⟨z,hd,vs,rel,dd⟩:=rp I.bK e
  have hz:vs.length≤sizeLine:=by rw [←rel.length]; exact z
  have hl:(putK kvs k v).length≤sizeLine:=by have:=l9 kvs k v; omega
  refine wpAny_setItem_pairs (hsz:=hz) (jm ry) dd fun h' K2 hs=>h _ ?_
  have he:∃q,h'.get? a=some q:=let ⟨q,_,_,hq,_⟩:=K2; ⟨q,hq⟩
  exact nC I (by rw [e]; exact True.intro) hs he (Ah hl hd (rel.put k rv) K2)
 ·subst ey eH
  cases (show u=Value.ref b from ry)
  obtain⟨z,hd,xs,rel,dd⟩:=YS I.bK e
  have hz:xs.length≤sizeLine:=by rw [←Paired.length rel]; exact z
  have hl:(putK kvs k v).length≤sizeLine:=by have:=l9 kvs k v; omega
  refine wpAny_setItem_heap (hsz:=hz) (tupleKind_room_in1 hu) (jx I.bK eb) dd fun h' K2 hs=>h _ ?_
  obtain⟨q,es,ep,hq,h2,h3,h4,_,h5⟩:=K2
  refine nC I (by rw [e]; exact True.intro) hs ⟨q,hq⟩ ⟨hl,hd,_,(rel.put k eb rv).keeps fun c ys ec=>?_,q,es,ep,hq,h2,h3,h4,h5⟩
  rw [ah (cL ec e (fun z=>nomatch z))]
  exact ec
end
section
variable {X:Cx}{pins:List (Addr×Obj)}{σ:St}{H:Hp}{s:Shared}{a:Addr}{kvs:List (Key×V)}{k:Key}{u:Value}{A:Around}{E:Value→Shared→Prop}
theorem XU {Q:Unit→Shared→Prop}(I:Inv X pins σ H s) (e:H a=some (.dK kvs)) (ry:RelV (kV k) u) (l:(aM kvs k).isSome=true) (h:∀s',Inv X pins σ (upd H a (.dK (fj kvs k))) s'→Q () s') :
  wpAny (model X.prog X.w) A (delItem (.ref a) u) Q E s:=by
 obtain⟨z,hd,vs,rel,dd⟩:=rp I.bK e
 refine wpAny_delItem_slot dd.typeIs (by decide) PySem.F.slot_dict_delitem
  (call_meetsIn PySem.F.slot_dict_delitem dd.typeIs PySem.F.entry_dict_delitem (PySem.F.args_dict_delitem_2 _ _) (meets_dict_delitem_pairs (bx X.prog X.w) a (jm ry)) ⟨vs,dd,by rw [←rel.length]; exact z,by rw [←(rel.val k).eM]; exact l,fun h' K2 hs=>h _ ?_⟩)
 have he:∃q,h'.get? a=some q:=let ⟨q,_,_,hq,_⟩:=K2; ⟨q,hq⟩
 exact nC I (by rw [e]; exact True.intro) hs he (Ah (Nat.le_trans (vF kvs k) z) hd (rel.drop k) K2)
theorem OX {v:V}{more:List Value}{Q:Value→Shared→Prop}(I:Inv X pins σ H s) (e:H a=some (.dK kvs)) (ry:RelV (kV k) u) (l:aM kvs k=some v) (hm:more=[]∨∃x,more=[x])
  (h:∀w' s',Inv X pins σ (upd H a (.dK (fj kvs k))) s'→RelV v w'→Q w' s'):wpAny (model X.prog X.w) A (call (.builtin "dict.pop") (.ref a::u::more)) Q E s:=by
 obtain⟨z,hd,vs,rel,dd⟩:=rp I.bK e
 obtain⟨w',hw,tK⟩:=fQ.some_of (v:=v) (o:=valueAt vs k) (by rw [←l]; exact rel.val k)
 have hp:(keyPart u).isSome=true:=by
  cases k with
  | inl i=>obtain⟨t,q⟩:=(show ∃t,u=Value.int i t from ry); subst q; rfl
  | inr x=>obtain⟨t,q⟩:=(show ∃t,u=Value.str x t from ry); subst q; rfl
 have ha:argsOk "dict.pop" ⟨.ref a::u::more,[]⟩:=by
  rcases hm with q | ⟨x,q⟩
  ·subst q; exact PySem.F.args_dict_pop_2 _ _
  ·subst q; exact PySem.F.args_dict_pop_3 _ _ _
 refine call_meetsIn PySem.F.slot_dict_pop dd.typeIs PySem.F.entry_dict_pop ha (meets_dict_pop_there (bx X.prog X.w) a (jm ry) more hm hp)
  ⟨vs,w',dd,by rw [←rel.length]; exact z,hw,fun h' K2 hs=>h w' _ ?_ tK⟩
 have he:∃q,h'.get? a=some q:=let ⟨q,_,_,hq,_⟩:=K2; ⟨q,hq⟩
 exact nC I (by rw [e]; exact True.intro) hs he (Ah (Nat.le_trans (vF kvs k) z) hd (rel.drop k) K2)
theorem S_ {r:Value}{Q:Value→Shared→Prop}(I:Inv X pins σ H s) (e:H a=some (.dK kvs)) (ry:RelV (kV k) u) (l:aM kvs k=none) (h:∀s',Inv X pins σ H s'→Q r s') :
  wpAny (model X.prog X.w) A (call (.builtin "dict.pop") [.ref a,u,r]) Q E s:=by
 obtain⟨z,hd,vs,rel,dd⟩:=rp I.bK e
 have hn:valueAt vs k=none:=fQ.none_of (by rw [←l]; exact rel.val k)
 have hp:(keyPart u).isSome=true:=by
  cases k with
  | inl i=>obtain⟨t,q⟩:=(show ∃t,u=Value.int i t from ry); subst q; rfl
  | inr x=>obtain⟨t,q⟩:=(show ∃t,u=Value.str x t from ry); subst q; rfl
 exact call_meetsIn PySem.F.slot_dict_pop dd.typeIs PySem.F.entry_dict_pop (PySem.F.args_dict_pop_3 _ _ _) (meets_dict_pop_default (bx X.prog X.w) a (jm ry) hd hp r) ⟨vs,dd,hn,h _ (I.tok _)⟩
theorem YU {Q:Value→Shared→Prop}(I:Inv X pins σ H s) (e:Rd H a (.dK kvs)) (h:∀t s',Inv X pins σ H s'→Q (.int kvs.length t) s'):wpAny (model X.prog X.w) A (call (.builtin "len") [.ref a]) Q E s:=by
 obtain⟨z,hd,vs,rel,dd⟩:=hW I.bK e
 refine call_len_dict hd dd (by rw [←rel.length]; rw [sizeLine_eq] at z; omega) ?_
 rw [←rel.length]
 exact h _ _ (I.tok _)
end
noncomputable def YV (i:Expr):Prop:=∀ov iv,subscripted i false ov iv=operate [ov,iv] (getItem ov iv)
theorem LR {prog:Program}{w:World}{A:Around}{E:Value→Shared→Prop}{s:Shared}{env:Env}{value slice:Expr}{pos:Pos}{T id:String}{Q:Value→Shared→Prop}
  (hl:typeLookup (.type T) "__getitem__"=pure (some (.builtin id))) (hs:YV slice)
  (h:wpAny (model prog w) A (eval value env) (fun o s₁=>wpAny (model prog w) A (eval slice env) (fun i s₂=>s₂.TypeIs o T∧wpAny (model prog w) A (getItem o i) Q E s₂) E s₁) E s) :
  wpAny (model prog w) A (eval (.Subscript value slice pos) env) Q E s:=by
 refine Subscript_ (wpAny_mono h (fun o s₁ h₁=>wpAny_mono h₁ (fun i s₂ h₂=>?_) fun _ _ x=>x) fun _ _ x=>x)
 obtain⟨hT,h₂⟩:=h₂
 unfold subscriptTail
 refine wpAny_bind ?_
 rw [getitemInPython_of_ne hT.not_modules]
 refine wpAny_bind (wpAny_specialOf hT hl ?_)
 have fin:wpAny (model prog w) A (subscripted slice false o i) (fun r s₃=>wpAny (model prog w) A (letTemporaryGo value o r >>= fun _=>pure r) Q E s₃) E s₂:=by
  rw [hs o i]
  exact wpAny_operating (wpAny_mono h₂ (fun r s₃ h₃=>wpAny_bind (wpAny_letTemporaryGo (wpAny_pure h₃))) fun _ _ x=>x)
 first
  | exact wpAny_pure (wpAny_bind fin)
  | exact wpAny_bind (wpAny_pure (wpAny_bind fin))
  | exact wpAny_bind fin
theorem vG {X:Cx}{pins:List (Addr×Obj)}{σ:St}{H:Hp}{s:Shared}{a:Addr}{y:V}{o:Option V}(I:Inv X pins σ H s) (g:c8 H a y o):s.TypeIs (.ref a) "dict":=by
 rcases g with ⟨kvs,k,e,_,_⟩ | ⟨kvs,k,b,e,_,_,_⟩
 ·obtain⟨_,_,vs,_,dd⟩:=hW I.bK e
  exact dd.typeIs
 ·obtain⟨_,_,xs,_,dd⟩:=l_ I.bK e
  exact dd.typeIs
noncomputable def OY (td ty:TE):TE:=fun σ H Q=>td σ H fun x H1=>ty σ H1 fun y H2=>∃a v,x=.ref a∧c8 H2 a y (some v)∧Q v H2
noncomputable def YW (ty td:TE):TE:=fun σ H Q=>ty σ H fun y H1=>td σ H1 fun x H2=>∃a o,x=.ref a∧c8 H2 a y o∧Q (.bl o.isSome) H2
noncomputable def B9 (ty td:TE):TE:=fun σ H Q=>ty σ H fun y H1=>td σ H1 fun x H2=>∃a o,x=.ref a∧c8 H2 a y o∧Q (.bl (!o.isSome)) H2
noncomputable def OZ (td ty tv:TE):TS:=fun D σ H=>tv σ H fun v H1=>td σ H1 fun x H2=>ty σ H2 fun y H3=>∃a H4,x=.ref a∧lC H3 a y v H4∧D.nx σ H4
section
variable {X:Cx}{o i e value:Expr}{pos pos' SF:Pos}{td ty tv:TE}
theorem cJ (hu:X.A.units+1 < cLine) (ho:PE X o td) (hi:PE X i ty) (hs:YV i):PE X (.Subscript o i pos) (OY td ty):=by
 intro pins s σ H Q I h
 refine LR PySem.F.slot_dict_getitem.lookup hs (bR (ho pins s σ H _ I h) fun u s1 ⟨x,H1,I1,rx,q1⟩=>bR (hi pins s1 σ H1 _ I1 q1) fun iv s2 ⟨y,H2,I2,ry,a,v,ex,g,q2⟩=>?_)
 subst ex
 obtain rfl:u=Value.ref a:=rx
 exact⟨vG I2 g,Dc hu I2 g ry fun w' s3 I3 tK=>⟨v,H2,I3,tK,q2⟩⟩
theorem hZ (hu:X.A.units+1 < cLine) (hi:PE X i ty) (ho:PE X o td):PC X .In i o (YW ty td):=by
 intro pins s σ H Q I h
 refine bR (hi pins s σ H _ I h) fun iv s1 ⟨y,H1,I1,ry,q1⟩=>bR (ho pins s1 σ H1 _ I1 q1) fun u s2 ⟨x,H2,I2,rx,a,ov,ex,g,q2⟩=>?_
 subst ex
 obtain rfl:u=Value.ref a:=rx
 exact ael hu I2 g ry fun s3 I3=>⟨.bl ov.isSome,H2,I3,rfl,q2⟩
theorem De (hu:X.A.units+1 < cLine) (hi:PE X i ty) (ho:PE X o td):PC X .NotIn i o (B9 ty td):=by
 intro pins s σ H Q I h
 refine bR (hi pins s σ H _ I h) fun iv s1 ⟨y,H1,I1,ry,q1⟩=>bR (ho pins s1 σ H1 _ I1 q1) fun u s2 ⟨x,H2,I2,rx,a,ov,ex,g,q2⟩=>?_
 subst ex
 obtain rfl:u=Value.ref a:=rx
 exact LQ hu I2 g ry fun s3 I3=>⟨.bl (!ov.isSome),H2,I3,rfl,q2⟩
theorem fk (hu:X.A.units+1 < cLine) (ho:PE X o td) (hi:PE X i ty) (hv:PE X value tv) (hs:swapsWith value (some (.Subscript o i pos')) pos.line X.env=pure false) :
  PS X (.Assign [.Subscript o i pos'] value pos) (OZ td ty tv):=by
 intro pins s σ H D I h
 refine wpAny_Assign_Subscript (bR (hv pins s σ H _ I h) fun r s1 ⟨v,H1,I1,rv,q1⟩=>bR (ho pins s1 σ H1 _ I1 q1) fun u s2 ⟨x,H2,I2,rx,q2⟩=>bR (hi pins s2 σ H2 _ I2 q2) fun iv s3 ⟨y,H3,I3,ry,a,H4,ex,g,q3⟩=>?_) hs
 subst ex
 obtain rfl:u=Value.ref a:=rx
 exact Dd hu I3 g ry rv fun s4 I4=>⟨σ,H4,I4,q3⟩
end
theorem Fs {P:Program}{w:World}{H:Hp}(h:Heap) (hb:sysModules < h.objs.size):cG P w H (h.push {cls:=.type "dict",data:=.dict #[]}) h.objs.size (.dK []):=
 ⟨Nat.zero_le _,beq_eq_false_iff_ne.mpr (Ne.symm (Nat.ne_of_lt hb)),[],.nil,Heap.DictOf.new h⟩
noncomputable def Ft:TE:=fun _ H Q=>∀p,H p=none→Q (.ref p) (upd H p (.dK []))
section
variable {X:Cx}{pos:Pos}
theorem eS:PE X (.Dict [] [] pos) Ft:=fun pins s σ H Q I h=>
 wpAny_Dict_empty ⟨.ref s.heap.objs.size,_,I.laid (a:=s.heap.objs.size) (o:=.dK []) (t':=s.toks) (fun _ _ q=>Heap.get?_push_of_some _ q) (Nat.le_refl _) (Fs s.heap I.big),rfl,h _ (I.bK.fresh (Nat.le_refl _))⟩
end
noncomputable def Ai:List (TE×TE)→St→Hp→(List (V×V)→Hp→Prop)→Prop
 | [],_,H,Q=>Q [] H
 | (tk,tv)::r,σ,H,Q=>tk σ H fun x H1=>tv σ H1 fun y H2=>Ai r σ H2 fun ps H3=>Q ((x,y)::ps) H3
noncomputable def Ta (kvs more:List (Key×V)):List (Key×V):=more.foldl (fun acc kv=>putK acc kv.1 kv.2) kvs
noncomputable def YX (trs:List (TE×TE)):TE:=fun σ H Q=>∀p,H p=none→Ai trs σ (upd H p (.dK [])) fun ps H2=>H2 p=some (.dK [])∧∃kvs:List (Key×V),ps=kvs.map (fun kv=>(kV kv.1,kv.2))∧kvs.length≤15∧Q (.ref p) (upd H2 p (.dK (Ta [] kvs)))
structure M1 (X:Cx) (o:Expr) (m:Str) (apos:Pos) (e:Expr) (dO:Pos):Prop where
 base:attributeBase o m X.env (eval o X.env)=eval o X.env
 Ei:((backTo dO (starEach [e] X.env)).all (fun x=>!x.1)&&(backToKw dO (keywordEach [] X.env)).all (fun x=>x.1.isSome)
  && decide (([e]:List Expr).length+([]:List Keyword).length+(if ([]:List Keyword).isEmpty then 0 else 1) < 30))=true
 line:(apos.endLine == dO.line)=true
 trees:backTo dO (starEach [e] X.env)=[(false,eval e X.env)]
structure M2 (X:Cx) (o:Expr) (m:Str) (apos:Pos) (e f:Expr) (dO:Pos):Prop where
 base:attributeBase o m X.env (eval o X.env)=eval o X.env
 Ei:((backTo dO (starEach [e,f] X.env)).all (fun x=>!x.1)&&(backToKw dO (keywordEach [] X.env)).all (fun x=>x.1.isSome)
  && decide (([e,f]:List Expr).length+([]:List Keyword).length+(if ([]:List Keyword).isEmpty then 0 else 1) < 30))=true
 line:(apos.endLine == dO.line)=true
 trees:backTo dO (starEach [e,f] X.env)=[(false,eval e X.env),(false,eval f X.env)]
noncomputable def vH (H:Hp) (a:Addr):Prop:=(∃kvs,Rd H a (.dK kvs))∨∃kvs,Rd H a (.dT kvs)
theorem tW {X:Cx}{pins:List (Addr×Obj)}{σ:St}{H:Hp}{s:Shared}{a:Addr}(I:Inv X pins σ H s) (d:vH H a) :
  s.TypeIs (.ref a) "dict"∧(∀b,Value.ref a=.ref b→∃ob,s.heap.get? b=some ob∧ob.dict=none)∧(a == sysModules)=false:=by
 rcases d with ⟨kvs,e⟩ | ⟨kvs,e⟩
 ·obtain⟨_,hd,vs,_,dd⟩:=hW I.bK e
  refine⟨dd.typeIs,fun b q=>?_,hd⟩
  cases q
  obtain⟨ob,_,_,h1,h2,_⟩:=dd
  exact⟨ob,h1,h2.2.1⟩
 ·obtain⟨_,hd,xs,_,dd⟩:=l_ I.bK e
  refine⟨dd.typeIs,fun b q=>?_,hd⟩
  cases q
  obtain⟨ob,_,_,h1,h2,_⟩:=dd
  exact⟨ob,h1,h2.2.1⟩
section
variable {X:Cx}{pins:List (Addr×Obj)}{σ:St}{H:Hp}{s:Shared}{a:Addr}{y d:V}{u r:Value}{o:Option V}{A:Around}{E:Value→Shared→Prop}
theorem Tc {Q:Value→Shared→Prop}(hu:A.units+1 < cLine) (I:Inv X pins σ H s) (g:c8 H a y o) (ry:RelV y u) (h:∀w' s',Inv X pins σ H s'→RelV (o.getD .aP) w'→Q w' s') :
  wpAny (model X.prog X.w) A (call (.builtin "dict.get") [.ref a,u]) Q E s:=by
 rcases g with ⟨kvs,k,e,ey,l⟩ | ⟨kvs,k,b,e,ey,eb,l⟩
 ·subst ey
  obtain⟨z,hd,vs,rel,dd⟩:=hW I.bK e
  refine call_meetsIn PySem.F.slot_dict_get dd.typeIs PySem.F.entry_dict_get (PySem.F.args_dict_get_2 _ _) (meets_dict_get (bx X.prog X.w) a (jm ry) hd) ⟨_,dd.mapOf,h _ _ (I.tok _) ?_⟩
  rw [l]
  exact(rel.val k).getD rfl
 ·subst ey
  cases (show u=Value.ref b from ry)
  obtain⟨z,hd,xs,rel,dd⟩:=l_ I.bK e
  refine call_meetsIn PySem.F.slot_dict_get dd.typeIs PySem.F.entry_dict_get (PySem.F.args_dict_get_2 _ _) (meetsH_dict_get (tupleKind (bx X.prog X.w)) a b hd) ⟨tupleKind_room_in1 hu,k,xs,jx I.bK eb,dd,h _ _ (I.tok _) ?_⟩
  rw [l]
  exact(rel.val k).getD rfl
theorem Td {Q:Value→Shared→Prop}(hu:A.units+1 < cLine) (I:Inv X pins σ H s) (g:c8 H a y o) (ry:RelV y u) (rd:RelV d r) (h:∀w' s',Inv X pins σ H s'→RelV (o.getD d) w'→Q w' s') :
  wpAny (model X.prog X.w) A (call (.builtin "dict.get") [.ref a,u,r]) Q E s:=by
 rcases g with ⟨kvs,k,e,ey,l⟩ | ⟨kvs,k,b,e,ey,eb,l⟩
 ·subst ey
  obtain⟨z,hd,vs,rel,dd⟩:=hW I.bK e
  refine call_meetsIn PySem.F.slot_dict_get dd.typeIs PySem.F.entry_dict_get (PySem.F.args_dict_get_3 _ _ _) (meets_dict_get_default (bx X.prog X.w) a (jm ry) hd r) ⟨_,dd.mapOf,h _ _ (I.tok _) ?_⟩
  rw [l]
  exact(rel.val k).getD rd
 ·subst ey
  cases (show u=Value.ref b from ry)
  obtain⟨z,hd,xs,rel,dd⟩:=l_ I.bK e
  refine call_meetsIn PySem.F.slot_dict_get dd.typeIs PySem.F.entry_dict_get (PySem.F.args_dict_get_3 _ _ _) (meetsH_dict_get_default (tupleKind (bx X.prog X.w)) a b hd r) ⟨tupleKind_room_in1 hu,k,xs,jx I.bK eb,dd,h _ _ (I.tok _) ?_⟩
  rw [l]
  exact(rel.val k).getD rd
end
noncomputable def Fu (td ty:TE):TE:=fun σ H Q=>td σ H fun x H1=>∃a,x=.ref a∧vH H1 a∧ty σ H1 fun y H2=>∃o,c8 H2 a y o∧Q (o.getD .aP) H2
noncomputable def Fv (td ty tx:TE):TE:=fun σ H Q=>td σ H fun x H1=>∃a,x=.ref a∧vH H1 a∧ty σ H1 fun y H2=>tx σ H2 fun z H3=>∃o,c8 H3 a y o∧Q (o.getD z) H3
noncomputable def Fw (td ty:TE):TE:=fun σ H Q=>td σ H fun x H1=>∃a,x=.ref a∧vH H1 a∧ty σ H1 fun y H2=>∃kvs k v,H2 a=some (.dK kvs)∧y=kV k∧aM kvs k=some v∧Q v (upd H2 a (.dK (fj kvs k)))
noncomputable def Fx (td ty tx:TE):TE:=fun σ H Q=>td σ H fun x H1=>∃a,x=.ref a∧vH H1 a∧ty σ H1 fun y H2=>tx σ H2 fun z H3=>∃kvs k,H3 a=some (.dK kvs)∧y=kV k ∧
 (∀v,aM kvs k=some v→Q v (upd H3 a (.dK (fj kvs k))))∧(aM kvs k=none→Q z H3)
section
variable {X:Cx}{o e f:Expr}{apos dO:Pos}{td ty tx:TE}
theorem Fy (hu:X.A.units+1 < cLine) (ho:PE X o td) (he:PE X e ty) (m:M1 X o "get" apos e dO):PE X (.Call (.Attribute o "get" apos) [e] [] dO) (Fu td ty):=by
 intro pins s σ H Q I h
 refine wpAny_Call_method m.base m.Ei m.line PySem.F.plainAttrs_dict PySem.F.slot_dict_get PySem.F.type_dict_get (bR (ho pins s σ H _ I h) fun u s1 ⟨x,H1,I1,rx,a,ex,d,q1⟩=>?_)
 subst ex
 obtain rfl:u=Value.ref a:=rx
 obtain⟨t1,t2,_⟩:=tW I1 d
 refine⟨t1,t2,?_⟩
 rw [m.trees]
 refine Calls.callWith_builtin rfl (Calls.evalArgs_plain (Calls.spliced_cons (bR (he pins s1 σ H1 _ I1 q1) fun iv s2 ⟨y,H2,I2,ry,ov,g,q2⟩=>Calls.spliced_nil ?_)))
 exact Tc hu I2 g ry fun w' s3 I3 tK=>⟨_,H2,I3,tK,q2⟩
theorem Fz (hu:X.A.units+1 < cLine) (ho:PE X o td) (he:PE X e ty) (hf:PE X f tx) (m:M2 X o "get" apos e f dO):PE X (.Call (.Attribute o "get" apos) [e,f] [] dO) (Fv td ty tx):=by
 intro pins s σ H Q I h
 refine wpAny_Call_method m.base m.Ei m.line PySem.F.plainAttrs_dict PySem.F.slot_dict_get PySem.F.type_dict_get (bR (ho pins s σ H _ I h) fun u s1 ⟨x,H1,I1,rx,a,ex,d,q1⟩=>?_)
 subst ex
 obtain rfl:u=Value.ref a:=rx
 obtain⟨t1,t2,_⟩:=tW I1 d
 refine⟨t1,t2,?_⟩
 rw [m.trees]
 refine Calls.callWith_builtin rfl (Calls.evalArgs_plain (Calls.spliced_cons (bR (he pins s1 σ H1 _ I1 q1) fun iv s2 ⟨y,H2,I2,ry,q2⟩=>
  Calls.spliced_cons (bR (hf pins s2 σ H2 _ I2 q2) fun fv s3 ⟨z,H3,I3,rz,ov,g,q3⟩=>Calls.spliced_nil ?_))))
 exact Td hu I3 g ry rz fun w' s4 I4 tK=>⟨_,H3,I4,tK,q3⟩
theorem FA (ho:PE X o td) (he:PE X e ty) (m:M1 X o "pop" apos e dO):PE X (.Call (.Attribute o "pop" apos) [e] [] dO) (Fw td ty):=by
 intro pins s σ H Q I h
 refine wpAny_Call_method m.base m.Ei m.line PySem.F.plainAttrs_dict PySem.F.slot_dict_pop PySem.F.type_dict_pop (bR (ho pins s σ H _ I h) fun u s1 ⟨x,H1,I1,rx,a,ex,d,q1⟩=>?_)
 subst ex
 obtain rfl:u=Value.ref a:=rx
 obtain⟨t1,t2,_⟩:=tW I1 d
 refine⟨t1,t2,?_⟩
 rw [m.trees]
 refine Calls.callWith_builtin rfl (Calls.evalArgs_plain (Calls.spliced_cons (bR (he pins s1 σ H1 _ I1 q1) fun iv s2 ⟨y,H2,I2,ry,kvs,k,v,ea,ey,l,q2⟩=>Calls.spliced_nil ?_)))
 subst ey
 exact OX I2 ea ry l (.inl rfl) fun w' s3 I3 tK=>⟨v,_,I3,tK,q2⟩
theorem vI (ho:PE X o td) (he:PE X e ty) (hf:PE X f tx) (m:M2 X o "pop" apos e f dO):PE X (.Call (.Attribute o "pop" apos) [e,f] [] dO) (Fx td ty tx):=by
 intro pins s σ H Q I h
 refine wpAny_Call_method m.base m.Ei m.line PySem.F.plainAttrs_dict PySem.F.slot_dict_pop PySem.F.type_dict_pop (bR (ho pins s σ H _ I h) fun u s1 ⟨x,H1,I1,rx,a,ex,d,q1⟩=>?_)
 subst ex
 obtain rfl:u=Value.ref a:=rx
 obtain⟨t1,t2,_⟩:=tW I1 d
 refine⟨t1,t2,?_⟩
 rw [m.trees]
 refine Calls.callWith_builtin rfl (Calls.evalArgs_plain (Calls.spliced_cons (bR (he pins s1 σ H1 _ I1 q1) fun iv s2 ⟨y,H2,I2,ry,q2⟩=>
  Calls.spliced_cons (bR (hf pins s2 σ H2 _ I2 q2) fun fv s3 ⟨z,H3,I3,rz,kvs,k,ea,ey,q3,q4⟩=>Calls.spliced_nil ?_))))
 subst ey
 cases l:aM kvs k with
 | some v=>exact OX I3 ea ry l (.inr ⟨fv,rfl⟩) fun w' s4 I4 tK=>⟨v,_,I4,tK,q3 v l⟩
 | none=>exact S_ I3 ea ry l fun s4 I4=>⟨z,H3,I4,rz,q4 l⟩
end
section
variable {X:Cx}{pins:List (Addr×Obj)}{σ:St}{H:Hp}{s:Shared}{a:Addr}{kvs:List (Key×V)}{A:Around}{E:Value→Shared→Prop}
end
section
variable {X:Cx}{pins:List (Addr×Obj)}{σ:St}{H:Hp}{s:Shared}{a:Addr}{y:V}{u:Value}{A:Around}{E:Value→Shared→Prop}
end
end L2
namespace L2
open PySem PySem.Spec PyProof.Rows
section
variable {X:Cx}
theorem fU:jV X (.builtin "len") (fun xs H Q=>∃a kvs,xs=[V.ref a]∧H a=some (.dK kvs)∧Q (.int kvs.length) H):=by
 intro pins s σ H xs us Q I r h
 obtain⟨a,kvs,rfl,ha,q⟩:=h
 obtain⟨u,rfl,ru⟩:=vals1 r
 cases ru
 exact YU I (.inl ha) fun t s' I'=>⟨.int kvs.length,H,I',⟨t,rfl⟩,q⟩
end
section
variable {κ:Type} [DecidableEq κ]
theorem h_ {kvs:List (κ×V)}{k:κ}(h:aM kvs k=none):¬k∈kvs.map (·.1):=by
 intro m
 obtain⟨p,hp,e⟩:=List.mem_map.mp m
 have q:(kvs.any fun kv=>decide (kv.1=k))=true:=List.any_eq_true.mpr ⟨p,hp,decide_eq_true e⟩
 rw [df,h] at q
 exact absurd q (by simp)
theorem nD {kvs:List (κ×V)}{k:κ}{v:V}(h:aM kvs k=some v):k∈kvs.map (·.1):=by
 have q:(kvs.any fun kv=>decide (kv.1=k))=true:=by
  rw [df,h]
  all_goals rfl
 obtain⟨p,hp,e⟩:=List.any_eq_true.mp q
 exact List.mem_map.mpr ⟨p,hp,of_decide_eq_true e⟩
theorem gg:∀{l:List κ}{k:κ},l.Nodup→¬k∈l→(l++[k]).Nodup
 | [],k,_,_=>by simp
 | a::r,k,h,hk=>by
  obtain⟨h1,h2⟩:=List.nodup_cons.mp h
  show(a::(r++[k])).Nodup
  refine List.nodup_cons.mpr ⟨fun m=>?_,gg h2 fun m=>hk (List.mem_cons.mpr (Or.inr m))⟩
  rcases List.mem_append.mp m with q | q
  ·exact h1 q
  ·exact hk (List.mem_cons.mpr (Or.inl (List.mem_singleton.mp q).symm))
end
end L2
namespace L2
open PySem PySem.Spec PyProof.Rows
theorem iT:bootBuiltins "sorted"=some (.builtin "sorted"):=by decide +kernel
theorem vJ:∀{xs:List V}{us:List Value},xs.length=us.length→(∀(i:Nat) x u,xs[i]?=some x→us[i]?=some u→RelV x u)→Vals xs us
 | [],[],_,_=>.nil
 | [],_::_,h,_=>by simp at h
 | _::_,[],h,_=>by simp at h
 | x::xs,u::us,h,k=>.cons (k 0 x u rfl rfl) (vJ (by simpa using h) fun i y v a b=>k (i+1) y v (by simpa using a) (by simpa using b))
theorem B_ {k:Key}{v:Value}(h:nN k v=true):RelV (kV k) v:=by
 rcases bY h with ⟨i,t,rfl,rfl⟩ | ⟨x,t,rfl,rfl⟩ <;> exact⟨t,rfl⟩
theorem KV.get:∀{kvs:List (Key×V)}{vs:List (Key×Value)}{i:Nat}{p:Key×V}{q:Key×Value},KV kvs vs→kvs[i]?=some p→vs[i]?=some q→p.1=q.1
 | _,_,_,_,_,.nil,h,_=>by simp at h
 | _,_,0,_,_,.cons r _,h,h'=>by
  simp at h h'
  subst h h'
  exact r.1
 | _,_,i+1,_,_,.cons _ t,h,h'=>KV.get (i:=i) t (by simpa using h) (by simpa using h')
noncomputable def eA (kvs:List (Key×V)):List V:=kvs.map fun kv=>kV kv.1
theorem rq {P:Program}{w:World}{kvs:List (Key×V)}{vs:List (Key×Value)}{us:List Value}(rel:KV kvs vs) (hl:us.length=vs.length) (h:∀(j:Nat) v,us[j]?=some v→∃k x,vs[j]?=some (k,x)∧(bx P w).is k v=true):Vals (eA kvs) us:=by
 refine vJ (by rw [eA,List.length_map,rel.length,hl]) fun i x u hx hu=>?_
 obtain⟨k,z,h1,h2⟩:=h i u hu
 rw [eA,List.getElem?_map] at hx
 cases e:kvs[i]? with
 | none=>rw [e] at hx; cases hx
 | some p=>
  rw [e] at hx
  cases hx
  have:=rel.get e h1
  dsimp only at this ⊢
  rw [this]
  exact B_ h2
section
variable {X:Cx}
theorem jy (hc:X.calm=true):jV X (.type "list") (fun xs H Q=>∃p kvs,xs=[.ref p]∧Rd H p (.dK kvs)∧∀l,H l=none→Q (.ref l) (upd H l (.lst (eA kvs)))):=by
 intro pins s σ H xs us Q I r h
 obtain⟨p,kvs,rfl,hq,q⟩:=h
 obtain⟨u,rfl,rx⟩:=vals1 r
 cases rx
 obtain⟨z,hd,vs,rel,dd⟩:=hW I.bK hq
 obtain⟨ep,dat⟩:=dd.dictAt
 refine PySem.W.kdl_call (PySem.W.kdl_dict hd) (I.ok.hd hc) dat (by rw [←rel.length]; exact z) fun h' tk YY c' kp e it=>?_
 have hv:Vals (eA kvs) YY.toList:=rq (P:=X.prog) (w:=X.w) rel (by rw [Array.length_toList]; exact it.1) fun j v hj=>it.2 j v (by rw [←Array.getElem?_toList]; exact hj)
 exact⟨.ref s.heap.objs.size,_,I.laid (t':=tk) kp (Nat.le_refl _) (show cG X.prog X.w _ h' _ (.lst (eA kvs)) from⟨by rw [eA,List.length_map]; exact z,YY.toList,c',hv,by simpa using e⟩),rfl,q _ (I.bK.fresh (Nat.le_refl _))⟩
end
section
variable {X:Cx}{pins:List (Addr×Obj)}{σ:St}{H:Hp}{s:Shared}{a:Addr}{kvs:List (Key×V)}{o:Obj}
theorem Inv.freeze (I:Inv X pins σ H s) (e:H a=some (.dK kvs)):∃o,s.heap.get? a=some o∧Inv X pins σ (upd H a (.d7 o (.dK kvs))) s:=by
 obtain⟨z,hd,vs,rel,dd⟩:=rp I.bK e
 obtain⟨o,es,ep,ho,hr⟩:=id dd
 have this:Inv X pins σ (upd H a (.d7 o (.dK kvs))) {s with heap:=s.heap,toks:=s.toks}:=I.write (x:=a) (e:=a) (by rw [e]; exact True.intro) (.inl rfl) (fun b q _ h=>h) ⟨o,ho⟩ (show cG X.prog X.w _ s.heap a (.d7 o (.dK kvs)) from⟨ho,z,hd,vs,rel,dd⟩)
 exact⟨o,ho,this⟩
theorem Inv.aem (I:Inv X pins σ H s) (e:H a=some (.d7 o (.dK kvs))) (h0:∀o u,X.H₀ a≠some (.d7 o u)):Inv X pins σ (upd H a (.dK kvs)) s where
 ok:=I.ok
 os:=I.os
 bare:=I.bare
 base:={
  keep:=I.base.keep
  slot:=I.base.slot
  free:=fun b q h1 h2 h3=>by
   have:=I.base.free b q h1 h2 h3
   rw [ah (aq e this).symm]
   exact this
  there:=I.base.there
  qa:=fun b xs h=>by
   have:=I.base.qa b xs h
   rw [ah (cL this e (fun z=>nomatch z))]
   exact this
  nO:=fun b q u h=>by
   have n:b≠a:=fun z=>by
    subst z
    exact h0 _ _ h
   rw [ah n]
   exact I.base.nO b q u h
  nQ:=fun b ps h=>by
   obtain⟨more,h2⟩:=I.base.nQ b ps h
   refine⟨more,?_⟩
   rw [ah (cL h2 e (fun z=>nomatch z))]
   exact h2}
 loc:=I.loc
 cell:=I.cell
 free:=by rw [ah (aq e I.free).symm]; exact I.free
 eN:=fun x c h=>by rw [ah (aq e (I.eN x c h)).symm]; exact I.eN x c h
 pin:=fun p hp=>by
  obtain⟨h1,h2,h3⟩:=I.pin p hp
  exact⟨h1,by rw [ah (aq e h2).symm]; exact h2,h3⟩
 bK:=fun b q h=>by
  by_cases hb:b=a
  ·subst hb
   rw [ae] at h
   cases h
   obtain⟨_,h2⟩:=I.bK b _ e
   exact h2
  ·rw [ah hb] at h
   refine(I.bK b q h).jU (fun _ _ _ r=>r) (fun c r=>?_) fun c xs r=>?_
   ·rw [ah (cL r e (fun z=>nomatch z))]
    exact r
   ·rw [ah (cL r e (fun z=>nomatch z))]
    exact r
 len:=I.len
noncomputable def LS (H₀:Hp) (a:Addr) (kvs:List (Key×V)) (H H':Hp):Prop:=(∀o u,H₀ a≠some (.d7 o u))∧(∃o,H a=some (.d7 o (.dK kvs)))∧H'=upd H a (.dK kvs)
theorem Inv.O0 (I:Inv X pins σ H s) {H':Hp}(t:LS X.H₀ a kvs H H'):Inv X pins σ H' s:=by
 obtain⟨h0,⟨o,e⟩,rfl⟩:=t
 exact I.aem e h0
end
noncomputable def Itd (a:Addr) (o:Obj) (kvs:List (Key×V)):It:=
 ⟨fun i H=>i < kvs.length∧H a=some (.d7 o (.dK kvs)),fun i H x H'=>H'=H∧∃kv,kvs[i]?=some kv∧x=kV kv.1,fun i H=>kvs.length≤i∧H a=some (.d7 o (.dK kvs))⟩
theorem Df {P:Program}{w:World}{K:PySem.W.Frag}{tg:Expr}{a it:Addr}{o:Obj}{kvs:List (Key×V)}{vs:List (Key×Value)}{ep:Nat}(hd:(a == sysModules)=false) (rel:KV kvs vs)
  (dat:∀h:Heap,h.get? a=some o→h.DictAt (bx P w) a vs ep):Turn P w K tg (Itd a o kvs) [it] it (fun i h=>h.IsKeyIter it a i vs.length ep) where
 mem:=by simp
 obj:=fun i h st b hb=>by
  have e:b=it:=by simpa using hb
  subst e
  obtain⟨o,e,c,d⟩:=st
  exact⟨o,e,fun v z=>by rw [d] at z; cases z⟩
 keep:=fun i h h' st k=>st.at fun o e=>k it (by simp) o e
 item:=by
  intro X hP hw hK hc i pins s σ H E I hf st hg
  subst hP hw hK
  obtain⟨hi,ha⟩:=hg
  obtain⟨ho,_⟩:=I.bK a _ ha
  have hv:i < vs.length:=by rw [←rel.length]; exact hi
  obtain⟨f0,f1,f2,f3,f4,f5⟩:=hf it (by simp)
  refine wpAny_pyNext_dict_item st (dat _ ho) (k:=vs[i].1) (v:=vs[i].2) (List.getElem?_eq_getElem hv) fun key h' hk KU sb=>?_
  have I1:Inv X pins σ H {s with heap:=h'}:=I.turned (t':=s.toks) (fun b o hb e=>(sb.2 b hb).trans e) f0 f1 f3 f4 f5
  have ek:=rel.get (List.getElem?_eq_getElem hi) (List.getElem?_eq_getElem hv)
  refine⟨key,rfl,letGo_keyiter KU ⟨kV kvs[i].1,H,I1,?_,⟨rfl,kvs[i],List.getElem?_eq_getElem hi,rfl⟩,KU,fun b hb=>(hf b hb).1⟩⟩
  rw [ek]
  exact B_ hk
 done:=by
  intro X hP hw hK hc i pins s σ H E I hf st hg
  subst hP hw hK
  obtain⟨hi,ha⟩:=hg
  obtain⟨ho,_⟩:=I.bK a _ ha
  obtain⟨f0,f1,f2,f3,f4,f5⟩:=hf it (by simp)
  have hl:=rel.length
  exact wpAny_pyNext_dict_end (I.ok.hd hc) st (dat _ ho) (List.getElem?_eq_none (by omega)) fun h' eb=>⟨rfl,I.turned (t':=s.toks) (fun b o hb e=>eb b o hb e) f0 f1 f3 f4 f5⟩
 self:=fun _ _ _ _ _ st h=>wpAny_pyIter_keyiter st h
noncomputable def O1 (tl:TE):TI:=fun σ H R=>tl σ H fun x H1=>∃a kvs,x=.ref a∧H1 a=some (.dK kvs)∧∀o,R (Itd a o kvs) (upd H1 a (.d7 o (.dK kvs)))
theorem nE {X:Cx}{tg l:Expr}{tl:TE}(hl:PE X l tl):PI X tg l (O1 tl):=by
 intro pins s σ H R I h
 refine bR (hl pins s σ H _ I h) fun v s1 ⟨x,H1,I1,r1,q1⟩=>?_
 obtain⟨a,kvs,e,ha,q⟩:=q1
 subst e
 cases r1
 obtain⟨z,hd,vs,rel,dd⟩:=rp I1.bK ha
 obtain⟨o,ho,I2⟩:=I1.freeze ha
 obtain⟨ep,dat⟩:=dd.dictAt
 have aen:∀h:Heap,h.get? a=some o→h.DictAt (bx X.prog X.w) a vs ep:=fun h e=>by
  obtain⟨o',es,h1,h2⟩:=dat
  rw [ho] at h1
  cases h1
  exact⟨o,es,e,h2⟩
 refine wpAny_pyIter_dict hd dat ?_
 refine⟨s1.heap.objs.size,[s1.heap.objs.size],_,_,_,rfl,I2.kept (t':=s1.toks) fun b o e=>Heap.get?_push_of_some _ e,Df hd rel aen,⟨_,Heap.get?_push_size _ rfl,rfl,rfl⟩,fun b hb=>?_,q o⟩
 have e:b=s1.heap.objs.size:=by simpa using hb
 subst e
 exact I2.EA (Nat.le_refl _) (I2.bK.fresh (Nat.le_refl _))
noncomputable def YZ (H₀:Hp) (D:Ends):Ends:={nx:=fun σ H=>D.nx σ H∨∃a kvs H',LS H₀ a kvs H H'∧D.nx σ H',rt:=fun v H=>D.rt v H∨∃a kvs H',LS H₀ a kvs H H'∧D.rt v H',bk:=D.bk,ct:=D.ct}
noncomputable def O2 (H₀:Hp) (t:TS):TS:=fun D σ H=>t (YZ H₀ D) σ H
theorem nF {X:Cx}{st:Stmt}{t:TS}(h:PS X st t):PS X st (O2 X.H₀ t):=fun pins s σ H D I q=>by
 refine bR (h pins s σ H _ I q) fun f s' h=>?_
 cases f with
 | next=>
  obtain⟨σ',H',i,d⟩:=h
  rcases d with d | ⟨a,kvs,H2,th,d⟩
  ·exact⟨σ',H',i,d⟩
  ·exact⟨σ',H2,i.O0 th,d⟩
 | brk=>exact h
 | cont=>exact h
 | ret u=>
  obtain⟨v,σ',H',i,r,d⟩:=h
  rcases d with d | ⟨a,kvs,H2,th,d⟩
  ·exact⟨v,σ',H',i,r,d⟩
  ·exact⟨v,σ',H2,i.O0 th,r,d⟩
theorem tX {a:Addr}{o:Obj}{kvs:List (Key×V)}{g:TG}{tb:TS}{D:Ends}{σ:St}{H:Hp}(Pv:Nat→St→Hp→Prop) (h0:Pv 0 σ H) (hl:∀i σ H,i≤kvs.length→Pv i σ H→H a=some (.d7 o (.dK kvs)))
  (hs:∀i kv σ H,kvs[i]?=some kv→Pv i σ H→g (kV kv.1) σ H fun σ2 H2=>tb {D with nx:=Pv (i+1),ct:=Pv (i+1),bk:=D.nx} σ2 H2) (hd:∀σ H,Pv kvs.length σ H→D.nx σ H):Fo (Itd a o kvs) g tb D σ H:=by
 refine⟨fun i m σ H=>m=kvs.length - i∧i≤kvs.length∧Pv i σ H,⟨kvs.length,by simp,Nat.zero_le _,h0⟩,?_⟩
 rintro i m σ H ⟨rfl,hi,p⟩
 have q:=hl i σ H hi p
 by_cases fg:i < kvs.length
 ·refine .inr ⟨⟨fg,q⟩,Pv (i+1),fun σ' H' p'=>⟨kvs.length - (i+1),by omega,rfl,fg,p'⟩,fun x H' y=>?_⟩
  obtain⟨rfl,kv,e,rfl⟩:=y
  exact hs i kv σ _ e p
 ·have e:i=kvs.length:=by omega
  subst e
  exact .inl ⟨⟨Nat.le_refl _,q⟩,hd σ H p⟩
end L2
namespace L2
open PySem PySem.Spec PyProof.Rows
section
variable {prog:Program}{w:World}{A:Around}{E:Value→Shared→Prop}{s:Shared}
theorem tY {d:Addr}{kvs:List (Key×Value)}{ep:Nat}{Q:List Value→Shared→Prop}(hh:A.handled=none) (lo:(d == sysModules)=false) (dat:s.heap.DictAt (bx prog w) d kvs ep) (hn:kvs.length≤sizeLine)
  (h:∀h' tk (vs:List Value),(∀b o,s.heap.get? b=some o→h'.get? b=some o)→s.heap.objs.size < h'.objs.size→vs.length=kvs.length→(∀(j:Nat) v,vs[j]?=some v→∃k x,kvs[j]?=some (k,x)∧(bx prog w).is k v=true)→Q vs {s with heap:=h',toks:=tk}) :
  wpAny (model prog w) A (collect (.ref d)) Q E s:=by
 unfold collect
 refine wpAny_bind (wpAny_runValue (codeAny_builtin entry_proto_collect' ?_))
 show wpAny _ _ (do again (.builtin "list.__iadd__" ⟨[←newList [],.ref d],[]⟩)) _ _ s
 refine wpAny_bind (wpAny_newList (wpAny_pure ⟨Code.quiet_builtin _ (by decide +kernel),codeAny_builtin entry_list_iadd' ?_⟩))
 show wpAny _ _ (Builtin.List.listExtendWith (.ref s.heap.objs.size) (.ref d) (.ref s.heap.objs.size)) _ _ {s with heap:=s.heap.push (seqObj "list" #[] 0)}
 rw [Around.under_plainId (by decide +kernel)]
 have fg:=dat.lt_size
 refine PySem.W.kdl_extend (s:={s with heap:=s.heap.push (seqObj "list" #[] 0)}) (R:=fun r s'=>match r with
  | .ok (.ret v)=>wpAny (model prog w) A (match v with
   | .ref a=>do
    let o ←load a
    match o.data with
    | .seq xs _=>pure xs.toList
    | _=>unsupported "internal:collect"
   | _=>unsupported "internal:collect") Q E s'
  | .ok _=>False
  | .error e=>E e s') (PySem.W.kdl_dict (kvs:=kvs) (ep:=ep) lo) hh (dat.push _) s.heap.objs.size (Nat.ne_of_gt fg) (Nat.ne_of_gt fg) (.ref s.heap.objs.size) 0 (Heap.get?_push_size _ rfl) (fun h' tk acc c kp hS it=>?_) hn
 show wpAny (model prog w) A (do
   let o ←load s.heap.objs.size
   match o.data with
   | .seq xs _=>pure xs.toList
   | _=>unsupported "internal:collect") Q E {s with heap:=h',toks:=tk}
 refine wpAny_bind (wpAny_load hS ?_)
 exact wpAny_pure (h h' tk acc.toList (fun b o e=>kp b o (Nat.ne_of_lt (Heap.lt_size e)) (Heap.get?_push_of_some _ e)) (Heap.lt_size hS) (by rw [Array.length_toList]; exact it.1) fun j v e=>it.2 j v (by rw [←Array.getElem?_toList]; exact e))
end
section
variable {X:Cx}
theorem gh (hc:X.calm=true):jV X (.builtin "sorted") (fun xs H Q=>∃(p:Addr) (kvs:List (Key×V)) (ns:List Int),xs=[.ref p]∧Rd H p (.dK kvs)∧eA kvs=ns.map V.int∧ns.length < 64∧∀(l:Addr) (dR:List Int),H l=none→dR.Perm ns→dR.Pairwise (·≤·)→Q (.ref l) (upd H l (.lst (dR.map V.int)))):=by
 intro pins s σ H xs us Q I r h
 obtain⟨p,kvs,ns,rfl,hq,hk,LU,q⟩:=h
 obtain⟨u,rfl,rx⟩:=vals1 r
 cases rx
 obtain⟨z,hd,vs,rel,dd⟩:=hW I.bK hq
 obtain⟨ep,dat⟩:=dd.dictAt
 have hl:=rel.length
 have g5:kvs.length=ns.length:=by
  have:=congrArg List.length hk
  simpa [eA] using this
 refine Calls.call_function_entry kind_sorted plain_sorted entry_sorted (args_sorted1 _) ?_
 unfold Builtin.«sorted»
 refine wpAny_bind (m:=checkCount "sorted" 1 1 _) (wpAny_pure ?_)
 refine wpAny_bind (tY (I.ok.hd hc) hd dat (by rw [←hl]; exact z) fun h' tk ws kp hsz hlen hws=>?_)
 refine wpAny_bind (wpAny_newList ?_)
 have hv:Vals (ns.map V.int) ws:=by
  rw [←hk]
  exact rq (P:=X.prog) (w:=X.w) rel hlen hws
 have hI:IntsAre ws ns:=intsAre_of hv
 have Et:(h'.push (seqObj "list" ws.toArray 0)).get? h'.objs.size=some (seqObj "list" ws.toArray 0):=Heap.get?_push_size _ rfl
 refine wpAny_bind (wpAny_holding (wpAny_call_entry slot_list_sort ⟨_,Et,rfl⟩ entry_list_sort (list_sort_tree Et hI (by omega) fun out dR a1 a2 a3=>⟨_,rfl,?_⟩) (args_list_sort _)))
 obtain⟨e,he⟩:=sortedHeap_at (out:=out) Et
 have hp:=a2.length_eq
 refine wpAny_pure ⟨_,rfl,?_⟩
 refine⟨.ref h'.objs.size,_,I.laid (t':=tk) (fun b o hb=>?_) (Nat.le_of_lt hsz) (show cG X.prog X.w _ _ _ (.lst (dR.map V.int)) from⟨by rw [List.length_map]; exact Nat.le_of_lt (bb (by omega)),out.toList,e,iR a1,by simpa [seqObj] using he⟩),rfl,q _ dR (I.bK.fresh (Nat.le_of_lt hsz)) a2 a3⟩
 have Aj:=kp b o hb
 have fg:=Heap.lt_size Aj
 rw [sortedHeap_old (Nat.ne_of_lt fg) (by rw [Heap.size_push]; exact Nat.lt_succ_of_lt fg)]
 exact Heap.get?_push_of_some _ Aj
end
section
variable {X:Cx}
theorem Dg:MtR X "tuple.index" (fun x vs H Q=>∃(p:Addr) (xs:List Str) (z:Str) (j:Nat),x=.ref p∧vs=[.str z]∧bU X.K H p (xs.map V.str)∧xs[j]?=some z∧(∀(i:Nat) y,i < j→xs[i]?=some y→y≠z)∧Q (.int (j:Nat)) H):=by
 intro pins s σ H x vs v us Q I rx rv h
 obtain⟨p,xs,z,j,rfl,rfl,hq,hj,hn,q⟩:=h
 cases rx
 obtain⟨u,rfl,ru⟩:=rv.one
 obtain⟨t,rfl⟩:=ru
 obtain⟨aO,r,pl,hz⟩:=I.tuple hq
 obtain⟨o,ho,hc,n,hd⟩:=id pl
 refine wpAny_call_entry PySem.F.slot_tuple_index ⟨o,ho,hc⟩ PySem.F.entry_tuple_index ?_ (PySem.F.args_tuple_index_2 _ _)
 unfold Builtin.«tuple.index»
 refine wpAny_bind (wpAny_pure ?_)
 dsimp only
 refine wpAny_bind (wpAny_tupleItemsOf ho hd ?_)
 refine wpAny_bind (wpAny_pure ?_)
 refine wpAny_bind (wpAny_pure ?_)
 refine wpAny_bind ?_
 rw [Std.Legacy.Range.forIn_eq_forIn_range']
 have hlen:aO.length=xs.length:=by
  have:=r.length
  rw [List.length_map] at this
  exact this.symm
 have hjl:=(List.getElem?_eq_some_iff.mp hj).1
 have hsz:(List.range' [:min aO.toArray.size aO.toArray.size].start [:min aO.toArray.size aO.toArray.size].size [:min aO.toArray.size aO.toArray.size].step)=List.range' 0 xs.length:=by
  simp [Std.Legacy.Range.size,hlen]
 rw [hsz]
 refine wpAny_forIn_list _ (fun rest b s'=>s'=s∧b=(none,())∧∃i,rest=List.range' i (xs.length - i)∧i≤j) _ ?_ ?_ _ _ ⟨rfl,rfl,0,rfl,Nat.zero_le _⟩
 ·rintro x rest b s' ⟨rfl,rfl,i,hr,hi⟩
  have Ak:i < xs.length:=by omega
  obtain⟨rfl,Y0⟩:x=i∧rest=List.range' (i+1) (xs.length - (i+1)):=by
   have e:xs.length - i=(xs.length - (i+1))+1:=by omega
   rw [e,List.range'_succ] at hr
   injection hr with h1 h2
   exact⟨h1,h2⟩
  obtain⟨u,hu,ru⟩:=r.get (i:=x) (x:=V.str xs[x]) (by simp [Ak])
  obtain⟨t2,rfl⟩:=ru
  have hu2:aO.toArray[x]?=some (Value.str xs[x] t2):=by simpa using hu
  rw [hu2]
  dsimp only
  refine wpAny_bind (wpAny_eqBool_str ?_)
  by_cases hx:x=j
  ·subst hx
   have ez:xs[x]=z:=by
    have:=List.getElem?_eq_getElem Ak
    rw [hj] at this
    exact(Option.some.inj this).symm
   rw [ez,decide_eq_true rfl,if_pos rfl]
   unfold retInt
   refine wpAny_bind (wpAny_bind (wpAny_mkInt ?_))
   refine wpAny_pure (wpAny_pure ?_)
   exact wpAny_pure ⟨_,rfl,.int x,H,I.tok _,⟨_,rfl⟩,q⟩
  ·have tQ:=hn x xs[x] (by omega) (List.getElem?_eq_getElem Ak)
   rw [decide_eq_false tQ,if_neg Bool.false_ne_true]
   exact wpAny_pure ⟨rfl,rfl,x+1,Y0,by omega⟩
 ·rintro b s' ⟨rfl,rfl,i,hr,hi⟩
  have:=congrArg List.length hr
  simp at this
  omega
end
end L2
namespace L2
open PySem PySem.Spec PyProof.Rows
section
variable {X:Cx}
end
end L2
namespace L2
open PySem PySem.Spec PyProof.Rows
noncomputable def Y1 (H₀:Hp) (Q:VK):VK:=fun v H=>Q v H∨∃a kvs H',LS H₀ a kvs H H'∧Q v H'
noncomputable def Te (H₀:Hp) (t:TE):TE:=fun σ H Q=>t σ H (Y1 H₀ Q)
section
variable {a D:Addr}{o:Obj}{kvs:List (Key×V)}{fr:List Nat}{tt:TT}{te:TE}{σ:St}{H:Hp}{Q:Hp→Prop}
theorem FC {β:Type}(bs:List β) (g:β→Option V) (hz:kvs.length≤1000) (hl:bs.length=kvs.length) (hS:∀ys,upd H D (.lst ys) a=some (.d7 o (.dK kvs)))
  (ht:∀(i:Nat) kv b ys (R:Bool→Hp→Prop),kvs[i]?=some kv→bs[i]?=some b→R (g b).isSome (upd H D (.lst ys))→tt (aV fr σ (some (kV kv.1))) (upd H D (.lst ys)) R)
  (he:∀(i:Nat) kv b y ys (R:VK),kvs[i]?=some kv→bs[i]?=some b→g b=some y→R y (upd H D (.lst ys))→te (aV fr σ (some (kV kv.1))) (upd H D (.lst ys)) R)
  (hq:Q (upd H D (.lst (bs.filterMap g)))):jv (Itd a o kvs) fr tt te σ D Q (upd H D (.lst [])):=by
 refine⟨fun i m H2=>m+i=kvs.length∧H2=upd H D (.lst ((bs.take i).filterMap g)),⟨kvs.length,rfl,rfl⟩,?_⟩
 rintro i m H2 ⟨hm,rfl⟩
 cases m with
 | zero=>
  have e:i=kvs.length:=by omega
  subst e
  refine .inl ⟨⟨Nat.le_refl _,hS _⟩,?_⟩
  rw [←hl,List.take_length]
  exact hq
 | succ m=>
  have hi:i < kvs.length:=by omega
  have hb:i < bs.length:=by omega
  refine .inr ⟨⟨hi,hS _⟩,fun v H' y=>?_⟩
  obtain⟨rfl,kv,hx,rfl⟩:=y
  have S9:bs[i]?=some bs[i]:=List.getElem?_eq_getElem hb
  have et:bs.take (i+1)=bs.take i++[bs[i]]:=by rw [List.take_add_one,S9]; rfl
  have l2:((bs.take i).filterMap g).length < 1000:=by
   have h1:=List.length_filterMap_le g (bs.take i)
   have h2:=List.length_take_le i bs
   omega
  refine ht i kv _ _ _ hx S9 ?_
  cases eg:g bs[i] with
  | none=>
   rw [Option.isSome_none,if_neg Bool.false_ne_true]
   refine⟨m,by omega,by omega,?_⟩
   rw [et,List.filterMap_append]
   simp [eg]
  | some y=>
   rw [Option.isSome_some,if_pos rfl]
   refine he i kv _ y _ _ hx S9 eg ⟨_,ae,bb (by omega),m,by omega,by omega,?_⟩
   rw [ny,et,List.filterMap_append]
   simp [eg]
end
end L2
namespace L2
open PySem PySem.Spec PyProof.Rows
section
variable {X:Cx}
end
end L2
namespace L2
open PySem PySem.Spec PyProof.Rows
section
variable {X:Cx}
end
end L2
namespace L2
open PySem PySem.Spec PyProof.Rows
end L2
namespace L2
open PySem PySem.Spec PyProof.Rows
open AutoSeq1 (wpAny_loadPart')
section
variable {X:Cx}
end
section
variable {prog:Program}{w:World}{A:Around}{E:Value→Shared→Prop}{s:Shared}
end
section
variable {X:Cx}
end
section
variable {prog:Program}{w:World}{A:Around}{E:Value→Shared→Prop}{s:Shared}
end
section
variable {X:Cx}
noncomputable def Tf (K:PySem.W.Frag) (tl:TE):TI:=fun σ H R=>tl σ H fun x H1=>∃a:Addr,x=.ref a∧(∃xs,bc K H1 a xs)∧R (OP K a 0) H1
end
end L2
namespace L2
open PySem PySem.Spec PyProof.Rows
noncomputable def vK (fr:List Nat) (σ:St) (v v2:Option V):St:=v::v2::fr.map fun j=>(σ[j]?).join
structure afM (X:Cx) (x x2:Str) (ns:List Str) (fr:List Nat) (scope:Scope) (cl:List (Str×Addr)):Prop where
 C7:closureFor scope X.env=pure cl
 nZ:∀y∈scope.names,y.2≠.cell
 kind:scope.kind=.function
 own:∀y∈scope.names,y.2=.local→scope.names.lookup y.1=some .local
 var:scope.names.lookup x=some .local
 agE:scope.names.lookup x2=some .local
 sub:∀z c,cl.lookup z=some c→X.env.cells.lookup z=some c
 has:∀z,((relabel scope X.env).names.lookup z=some .cell∨(relabel scope X.env).names.lookup z=some .free)→∃c,cl.lookup z=some c
 len:ns.length=fr.length
 E4:∀(k:Nat) z j,ns[k]?=some z→fr[k]?=some j→X.N[j]?=some z∧X.env.scope.names.lookup z=some .cell∧((relabel scope X.env).names.lookup z=some .cell∨(relabel scope X.env).names.lookup z=some .free)
 nd:(x::x2::ns).Nodup
noncomputable def LV (K:PySem.W.Frag) (J:It) (fr:List Nat) (tt:TT) (te:TE) (σ:St) (D:Addr) (Q:Hp→Prop) (H:Hp):Prop:=
 ∃W:Nat→Nat→Hp→Prop,(∃m,W 0 m H)∧∀i m H2,W i m H2→(J.stop i H2∧Q H2)∨(J.go i H2∧∀v H',J.Oy i H2 v H'→∃t va vb,v=.ref t∧bU K H' t [va,vb]∧tt (vK fr σ (some va) (some vb)) H' fun b H3=>
  if b=true then te (vK fr σ (some va) (some vb)) H3 fun y H4=>∃ys,H4 D=some (.lst ys)∧ys.length < sizeLine∧∃m',m' < m∧W (i+1) m' (upd H4 D (.lst (ys++[y])))else ∃m',m' < m∧W (i+1) m' H3)
section
variable {X:Cx}{pins:List (Addr×Obj)}{σ:St}{H:Hp}{s:Shared}{x x2:Str}{ns:List Str}{fr:List Nat}{scope:Scope}{cl:List (Str×Addr)}{fp:List Addr}
noncomputable def aeo (K:PySem.W.Frag) (wi:TI) (fr:List Nat) (tt:TT) (te:TE):TE:=fun σ H Q=>wi σ H fun J H1=>∀D,H1 D=none→LV K J fr tt te σ D (fun H2=>Q (.ref D) H2) (upd H1 D (.lst []))
end
section
variable {X:Cx}{x x2:Str}{ns:List Str}{fr:List Nat}{scope:Scope}{cl:List (Str×Addr)}
end
end L2
namespace L2
open PySem PySem.Spec PyProof.Rows
open AutoSeq1 (wpAny_loadPart')
section
variable {prog:Program}{w:World}{A:Around}{E:Value→Shared→Prop}{s:Shared}
end
end L2
namespace L2
open PySem PySem.Spec PyProof.Rows
open AutoSeq1 (wpAny_loadPart')
section
variable {prog:Program}{w:World}{A:Around}{E:Value→Shared→Prop}{s:Shared}
end
end L2
namespace L2
open PySem PySem.Spec PyProof.Rows
open AutoSeq1 (wpAny_loadPart')
section
variable {prog:Program}{w:World}{A:Around}{E:Value→Shared→Prop}{s:Shared}
end
end L2
namespace L2
open PySem PySem.Spec PyProof.Rows
noncomputable def Itz (K:PySem.W.Frag) (l1 l2:Addr):It:=
  ⟨fun i H=>∃xs ys x y,bc K H l1 xs∧bU K H l2 ys∧xs[i]?=some x∧ys[i]?=some y,
   fun i H v H'=>∃t x y,H t=none∧v=.ref t∧(∀xs,bc K H l1 xs→xs[i]?=some x)∧(∀ys,bU K H l2 ys→ys[i]?=some y)∧H'=upd H t (.tup [x,y]),
   fun i H=>∃xs,bc K H l1 xs∧xs.length=i⟩
section
variable {X:Cx}
noncomputable def aep (K:PySem.W.Frag) (tl tp:TE):TI:=fun σ H R=>tl σ H fun x H1=>tp σ H1 fun y H2=>∃a b:Addr,x=.ref a∧y=.ref b∧(∃xs,bc K H2 a xs)∧(∃ys,bU K H2 b ys)∧R (Itz K a b) H2
end
end L2
namespace L2
open PySem PySem.Spec PyProof.Rows
section
variable {X:Cx}
end
section
variable {X:Cx}
end
end L2
namespace L2
open PySem PySem.Spec PyProof.Rows
open AutoSeq1 (wpAny_loadPart')
section
variable {prog:Program}{w:World}{A:Around}{E:Value→Shared→Prop}{s:Shared}
end
section
variable {X:Cx}
noncomputable def Y2 (a:Addr) (D:List (Str×Addr)) (td ty:TE):TE:=fun σ H Q=>td σ H fun x H1=>x=.ref a∧ty σ H1 fun y H2=>∃k b,y=.str k∧KTD.datumAt k D=some b∧Q (.ref b) H2
end
noncomputable def Its (z:Str):It:=⟨fun i _=>i < z.cps.size,fun i H v H'=>(∃c,z.cps[i]?=some c∧v=.str ⟨#[c]⟩)∧H'=H,fun i _=>z.cps.size≤i⟩
section
variable {X:Cx}
noncomputable def aeq (tl:TE):TI:=fun σ H R=>tl σ H fun x H1=>∃z,x=.str z∧(z.cps.all fun x=>decide (x < 128))=true∧R (Its z) H1
end
end L2
namespace L2
open PySem PySem.Spec PyProof.Rows
open PySem.NumText (AllDigits digitsVal)
noncomputable def nt (n:Nat):Str:=Str.ofString (toString (n:Int))
end L2
namespace L2
open PySem PySem.Spec PyProof.Rows
theorem au.putD {H H3:Hp}{D:PySem.Addr}{o:HO}(h:au H H3) (hD:H D=none):au H (upd H3 D o):=fun b u e=>by
 have n:b≠D:=fun q=>by rw [q,hD] at e; cases e
 rw [ah n]
 exact h b u e
end L2
namespace L2
open PySem PySem.Spec PyProof.Rows
section
variable {X:Cx}
noncomputable def tFs (c:Str) (te:TE):TE:=fun σ H Q=>c.length≤sizeLine∧te σ H fun v H1=>∃n:Int,v=.int n∧n.natAbs.log2 < 1920∧(c++(Str.ofString (toString n))).length≤sizeLine∧Q (.str (c++Str.ofString (toString n))) H1
end
end L2
namespace L2
open PySem PySem.Spec PyProof.Rows
section
variable {M:Model}{A:Around}{E:Value→Shared→Prop}{s:Shared}
structure Lft (l:List Env) (e:Addr) (oe:Obj) (T0:Option Addr) (h h':Heap):Prop where
 keep:∀b o,h.get? b=some o→b∉BV l→b≠e→some b≠T0→h'.get? b=some o
 slot:∀b o,h.get? b=some o→b∈BV l→∃sl,h'.get? b=some {o with slots:=sl}
 there:∀b o,h.get? b=some o→∃o',h'.get? b=some o'
 at_:∃T oT ts,h.objs.size≤T∧h'.get? e=some (Obj.mapFields (·.setIfInBounds 1 (.ref T)) oe)∧h'.get? T=some oT∧oT.data=.fields ts∧ts[3]?=some .none
end
end L2
namespace L2
open PySem PySem.Spec PyProof.Rows
section
variable {prog:Program}{w:World}{A:Around}{R:Result→Shared→Prop}{h:Heap}{g:Array GenState}{d:Drawn}{t:Nat}{os:OsState}
variable {nm q:Str}{C N:Addr}{bs bm bmB:List Value}{Y3:Bool}{sn:List Str}{sub:List Value}{ab:Bool}{col:Option Bool}{dd:Option Addr}{k0 k1 k2 k3 k5:Option Value}{B Bn newId nid Th inN:String}{bmN:List Value}
end
noncomputable abbrev bmV:List Value:=[.type "ValueError",.type "Exception",.type "BaseException",.type "object"]
section
variable {M:Model}{A:Around}{E:Value→Shared→Prop}{env:Env}
variable {nm q:Str}{C N:Addr}{bs bm:List Value}{Y3:Bool}{sn:List Str}{sub:List Value}{ab:Bool}{col:Option Bool}{dd:Option Addr}{k0 k1 k2 k3 k5:Option Value}{newId:String}
variable {nm2 q2:Str}{C2 N2:Addr}{bs2 bm2:List Value}{afN:Bool}{sn2:List Str}{agF:List Value}{ab2:Bool}{agG:Option Bool}{dd2:Option Addr}{j0 j1 j2 j3 j5:Option Value}{aer:String}
end
section
variable {prog:Program}{w:World}{A:Around}{E:Value→Shared→Prop}{h:Heap}{g:Array GenState}{d:Drawn}{t:Nat}{os:OsState}
variable {nm q:Str}{C N:Addr}{bs bm bmB:List Value}{Y3:Bool}{sn:List Str}{sub:List Value}{ab:Bool}{col:Option Bool}{dd:Option Addr}{k0 k1 k2 k3 k5:Option Value}{B newId nid Th:String}
end
end L2
namespace L2
open PySem PySem.Spec PyProof.Rows
section
variable {K:PySem.W.Frag}{prog:Program}{w:World}{A:Around}{R:Result→Shared→Prop}{s:Shared}{x C Cb:Addr}
open PySem.W PySem.Builtin PySem.Builtin.ObjectAttr PySem.Builtin.Getset_descriptor in
open PySem.W PySem.Builtin PySem.Builtin.ObjectAttr PySem.Builtin.Getset_descriptor in
open PySem.W PySem.Builtin PySem.Builtin.ObjectAttr PySem.Builtin.Getset_descriptor in
open PySem.W PySem.Builtin PySem.Builtin.ObjectAttr PySem.Builtin.Getset_descriptor in
open PySem.W in
end
end L2
namespace L2
open PySem PySem.Spec PyProof.Rows
structure Dh (K:PySem.W.Frag) (C Cb:Addr):Prop where
 lk:∃nm qn N bs sn sub ab col dd k0 k1 k2 k3 k5,K.lookup C=some (excClassObj nm qn C N bs (.ref Cb::bmV) true sn sub ab col dd k0 k1 k2 k3 k5 "ValueError.__new__")
 lb:∃nm qn N bs hd sn sub ab col dd k0 k1 k2 k3 k5,K.lookup Cb=some (excClassObj nm qn Cb N bs bmV hd sn sub ab col dd k0 k1 k2 k3 k5 "ValueError.__new__")
 xb:PySem.W.excIn K Cb bmV "ValueError.__new__"=true
 sa:PySem.W.findIn K (.ref C) "__setattr__"=some (some (.builtin "object.__setattr__"))
 ga:PySem.W.findIn K (.ref C) "__getattribute__"=some (some (.builtin "BaseException.__getattribute__"))
 gn:PySem.W.findIn K (.ref C) "__getattr__"=some none
 cl:PySem.W.findIn K (.ref C) "__class__"=some (some (.builtin "object.__class__"))
 cg:PySem.W.specialIn K (.builtin "object.__class__") "__get__"=some (some (.builtin "getset_descriptor.__get__"))
 ct:PySem.W.takesIn K (.builtin "object.__class__")=some true
 mo:PySem.W.mroIn K C (.type "object")=some true
 kp:PySem.W.keepIn K (.ref C)=true
noncomputable def XOc (cb:Bool) (C x:Addr) (dx:Option Addr) (raw:Bool) (h:Heap):Prop:=∃vs sl a0,h.get? x=some ⟨.ref C,dx,.fields vs,sl⟩∧vs[0]?=some (.ref a0)∧4 < vs.size∧(raw=true→vs[1]?=some .none)∧(cb=true→vs[2]?=some .none)
noncomputable abbrev XO (C x:Addr) (dx:Option Addr) (raw:Bool):Heap→Prop:=XOc true C x dx raw
section
variable {X:Cx}{CX:vk}{k:Nat}{f C Cb:Addr}{fd:FuncData}{ps:List Str}{sp:Sp}{fR:List V}{ds:List Value}{E:XK}{x m:Str}{p pos apos:Pos}{e o:Expr}{es:List Expr}{ta:TE}{t:TA}
noncomputable def Ti (C:Addr) (sp:Sp) (fR:List V) (E:XK) (t:TA):TE:=fun σ H Q=>t σ H fun vs H1=>vs.length≤1000∧∀x,H1 x=none→sp (.ref x::(vs++fR)) (upd H1 x (.ext (XO C x none true))) (fun v H2=>v=.aP∧Q (.ref x) H2) E
noncomputable def Y4 (K:PySem.W.Frag) (ta tv:TE) (f:Str):TS:=fun D σ H=>tv σ H fun y H1=>ta σ H1 fun x H2=>∃a C Cb,x=.ref a∧H2 a=some (.ext (XO C a none true))∧Dh K C Cb∧PySem.W.takerIn K C f=some none ∧
 ∀dx,H2 dx=none→D.nx σ (upd (upd H2 a (.ext (XO C a (some dx) true))) dx (.xd [(f,y)]))
structure afO (K:PySem.W.Frag) (Cb:Addr):Prop where
 sp:PySem.W.specialIn K (.ref Cb) "__getattribute__"=some (some (.builtin "type.__getattribute__"))
 rd:PySem.W.readsIn K Cb (.type "type")=true
 fd:PySem.W.findCls K (.ref Cb) (.type "type") "__init__"=some (.val (.builtin "ValueError.__init__"))
noncomputable def Tj (K:PySem.W.Frag) (t:TA):TE:=fun σ H Q=>t σ H fun vs H1=>∃a C Cb z dx,vs=[.ref a,.str z]∧H1 a=some (.ext (XO C a dx true))∧Dh K C Cb∧Q .aP H1
end
end L2
namespace L2
open PySem PySem.Spec PyProof.Rows
noncomputable def TBk (h:Heap) (H:Hp) (a:Addr):Prop:=∃o vs T oT ts,h.get? a=some o∧o.data=.fields vs∧vs[1]?=some (.ref T)∧T≠a∧h.get? T=some oT∧oT.data=.fields ts∧ts[3]?=some .none∧H T=none
section
variable {P:Program}{w:World}{K:PySem.W.Frag}{mg:Str→Option Value}{base:Heap}
noncomputable def Tn (K:PySem.W.Frag) (E:XK) (te:TE):TS:=fun _ σ H=>te σ H fun v H1=>∃a C Cb dx,v=.ref a∧Dh K C Cb∧H1 a=some (.ext (XO C a (some dx) true))∧E (.ref C) (some a) (upd H1 a (.ext (XO C a (some dx) false)))
end
end L2
namespace L2
open PySem PySem.Spec PyProof.Rows
section
variable {M:Model}{A:Around}{E:Value→Shared→Prop}{s:Shared}
end
section
variable {X:Cx}{k:Nat}{f C:Addr}{fd:FuncData}{ps:List Str}{sp:Sp}{fR:List V}{ds:List Value}{E:XK}
noncomputable def XP (X:Cx) (pins:List (Addr×Obj)) (σ:St) (E:XK) (e:Value) (s':Shared):Prop:=∃a C dx cb H',e=.ref a∧Inv X pins σ H' s'∧H' a=some (.ext (XOc cb C a (some dx) false))∧TBk s'.heap H' a∧E (.ref C) (some a) H'
end
end L2
namespace L2
open PySem PySem.Spec PyProof.Rows
section
variable {prog:Program}{w:World}{A:Around}{E:Value→Shared→Prop}{s:Shared}{env:Env}
end
section
variable {X:Cx}{k:Nat}{f C2:Addr}{fd:FuncData}{ps:List Str}{sp:Sp}{fR:List V}{ds:List Value}{x y n cn:Str}{p np pos apos Al dO aes:Pos}{e:Expr}{es:List Expr}{t:TA}{ts:TS}{b0:Stmt}{Y5:List Stmt}{i j:Nat}
noncomputable def aet (K:PySem.W.Frag) (C2:Addr) (i j:Nat) (sp:Sp) (fR:List V) (t:TA) (ts:TS):TS:=fun D σ H=>t σ H fun vs H1=>sp (vs++fR) H1 (fun v H2=>D.nx (σ.set i (some v)) H2)
 (fun cls a H2=>∃b C Cb,cls=.ref C∧a=some b∧Dh K C Cb∧(C2=C∨C2=Cb)∧ts {nx:=fun σ' H'=>D.nx (σ'.set j none) H',rt:=D.rt} (σ.set j (some (.ref b))) H2)
noncomputable def Y6 (K:PySem.W.Frag) (C2:Addr) (i:Nat) (sp:Sp) (fR:List V) (t:TA) (ts:TS):TS:=fun D σ H=>t σ H fun vs H1=>sp (vs++fR) H1 (fun v H2=>D.nx (σ.set i (some v)) H2)
 (fun cls a H2=>∃b C Cb,cls=.ref C∧a=some b∧Dh K C Cb∧(C2=C∨C2=Cb)∧ts D σ H2)
noncomputable def Y7 (K:PySem.W.Frag) (ta:TE) (g:Str):TE:=fun σ H Q=>ta σ H fun x H1=>∃a C Cb dx fs raw i,x=.ref a∧H1 a=some (.ext (XO C a (some dx) raw))∧H1 dx=some (.xd fs)∧Dh K C Cb∧PySem.W.findIn K (.ref C) g=some none∧fs.lookup g=some (.int i)∧Q (.int i) H1
end
section
variable {prog:Program}{w:World}{A:Around}{E:Value→Shared→Prop}{s:Shared}
end
section
variable {X:Cx}
noncomputable def To (a:Addr) (D:List (Str×Addr)) (td ty:TE):TE:=fun σ H Q=>td σ H fun x H1=>x=.ref a∧ty σ H1 fun y H2=>∃k,y=.str k∧((∃b,KTD.datumAt k D=some b∧Q (.ref b) H2)∨(KTD.datumAt k D=none∧Q .aP H2))
noncomputable def aeu (c c2:Str) (te:TE):TE:=fun σ H Q=>c.length≤sizeLine∧te σ H fun v H1=>∃n:Int,v=.int n∧n.natAbs.log2 < 1920∧(c++(Str.ofString (toString n))).length≤sizeLine∧(c++(Str.ofString (toString n))++c2).length≤sizeLine∧Q (.str (c++Str.ofString (toString n)++c2)) H1
end
end L2
namespace L2
open PySem PySem.Spec PyProof.Rows
section
variable {X:Cx}
end
end L2
namespace L2
open PySem PySem.Spec PyProof.Rows
section
variable {X:Cx}
inductive vL:List (Option Expr)→List Expr→List (Key×V)→Prop
 | nil:vL [] [] []
 | int {x n u1 p1 u2 p2 ks vs r}:vL ks vs r→vL (some (.Constant (.str x) u1 p1)::ks) (.Constant (.int n) u2 p2::vs) ((.inr x,.int n)::r)
 | str {x y u1 p1 u2 p2 ks vs r}:vL ks vs r→vL (some (.Constant (.str x) u1 p1)::ks) (.Constant (.str y) u2 p2::vs) ((.inr x,.str y)::r)
end
end L2
namespace L2
open PySem PySem.Spec PyProof.Rows
noncomputable abbrev Y8 (A:Around):Around:={A with handled:=none}
structure afP (P:Program) (w:World) (K:PySem.W.Frag) (mg:Str→Option Value) (base:Heap) (CX:vk) (k:Nat) (f:Addr) (fd:FuncData) (ps:List Str) (sp:Sp):Prop where
 len:∀vs H Q E,sp vs H Q E→vs.length=ps.length
 run:∀(A:Around) (outer:List Env) (s:Shared) (H:Hp) (args:Args) (us:List Value) (vs:List V) (Q:VK) (E:XK),c7 k (Y8 A)→vm P w K mg base A outer s H→BindsTo s fd args (ps.zip us)→Vals vs us→sp vs H Q E →
  codeAny (model P w) A (.call (.ref f) args) (CR CX outer P w H s Q E) s
section
variable {P:Program}{w:World}{K:PySem.W.Frag}{mg:Str→Option Value}{base:Heap}
end
section
variable {X:Cx}{CX:vk}{k:Nat}{f C Cb:Addr}{fd:FuncData}{ps:List Str}{sp:Sp}{fR:List V}{ds:List Value}{E:XK}{x m:Str}{p pos apos:Pos}{e o:Expr}{es:List Expr}{ta:TE}{t:TA}
end
section
variable {prog:Program}{w:World}{A:Around}{E:Value→Shared→Prop}{s:Shared}{env:Env}
end
section
variable {P:Program}{w:World}{K:PySem.W.Frag}{mg:Str→Option Value}{base:Heap}
end
section
variable {prog:Program}{w:World}{A:Around}{E:Value→Shared→Prop}{s:Shared}{env:Env}
end
section
variable {X:Cx}{k:Nat}{f C2:Addr}{fd:FuncData}{ps:List Str}{sp:Sp}{fR:List V}{ds:List Value}{x y n cn:Str}{p np pos apos Al dO aes:Pos}{e:Expr}{es:List Expr}{t:TA}{b0:Stmt}{body Y5:List Stmt}{i j:Nat}
end
section
variable {X:Cx}{pos:Pos}
end
end L2
namespace L2
open PySem PySem.Spec PyProof.Rows
theorem Tp {h:Heap}{L:Addr}{m m':Str→Option Value}(a:h.Ns L m) (b:h.Ns L m'):m=m':=by
 obtain⟨o,es,ep,e,d,k,f⟩:=a
 obtain⟨o',Ee,XN,e',d',k',f'⟩:=b
 rw [e] at e'
 cases e'
 rw [d] at d'
 cases d'
 funext x
 rw [←f,←f']
noncomputable def led (h:Heap) (T:List Addr):List (Addr×Obj):=(List.range h.objs.size).filterMap fun a=>if a∈T then none else(h.get? a).map fun o=>(a,o)
theorem nG {h:Heap}{T:List Addr}{a:Addr}{o:Obj}:(a,o)∈led h T↔a∉T∧h.get? a=some o:=by
 unfold led
 rw [List.mem_filterMap]
 constructor
 ·rintro⟨b,_,e⟩
  split at e
  ·cases e
  ·next hb=>
   obtain⟨o',ho,e'⟩:=Option.map_eq_some_iff.mp e
   cases e'
   exact⟨hb,ho⟩
 ·rintro⟨n,ho⟩
  refine⟨a,List.mem_range.mpr (Heap.lt_size ho),?_⟩
  rw [if_neg n,ho]
  rfl
section
variable {X:Cx}{pins:List (Addr×Obj)}{σ:St}{H:Hp}{s:Shared}
structure Ca (X:Cx) (pins:List (Addr×Obj)) (b:Addr):Prop where
 sz:X.s₀.heap.objs.size≤b
 loc:b≠X.env.locals
 cell:∀x c,X.env.cells.lookup x=some c→c≠b
 pin:∀p∈X.pn++pins,p.1≠b
 fs:b∉X.fs
theorem Inv.FD {b:Addr}(I:Inv X pins σ H s) (h:s.heap.objs.size≤b):Ca X pins b where
 sz:=Nat.le_trans I.sz h
 loc:=Nat.ne_of_gt (Nat.lt_of_lt_of_le I.lt h)
 cell:=fun x c e=>by
  obtain⟨v,o,ho,_⟩:=I.cell x c e
  exact Nat.ne_of_lt (Nat.lt_of_lt_of_le (Heap.lt_size ho) h)
 pin:=fun p hp=>Nat.ne_of_lt (Nat.lt_of_lt_of_le (Heap.lt_size (I.pin p hp).1) h)
 fs:=I.Sn h
theorem Inv.adopt {T:List Addr}{a:Addr}{o:HO}{h':Heap}{t':Nat}(I:Inv X pins σ H s) (hT:∀b∈T,Ca X pins b∧H b=none) (ha:a∈T)
  (k:∀b u,b∉T→b≠X.env.locals→s.heap.get? b=some u→h'.get? b=some u) (hL:∀m,s.heap.Ns X.env.locals m→h'.Ns X.env.locals m)
  (new:cG X.prog X.w (upd H a o) h' a o):Inv X pins σ (upd H a o) {s with heap:=h',toks:=t'}:=by
 have nT:∀b u,H b=some u→b∉T:=fun b u e z=>by rw [(hT b z).2] at e; cases e
 have na:∀b u,H b=some u→b≠a:=fun b u e z=>nT b u e (z▸ha)
 have nL:∀b u,H b=some u→b≠X.env.locals:=fun b u e z=>by rw [z,I.free] at e; cases e
 obtain⟨m,hn,_⟩:=id I.loc
 refine I.step (g':=s.gens) (d':=s.drawn) (ch:=T) (fun b hb=>⟨.inr (hT b hb).1.sz,(hT b hb).1.loc,(hT b hb).1.cell,(hT b hb).1.pin⟩) (fun b u h1 _ h2 e _=>k b u h2 h1 e) (fun b u h1 _ h2 e _=>⟨u.slots,k b u h2 h1 e⟩)
  (fun b u h2 e n=>by rw [ah (fun z:b=a=>h2 (by rw [z]; exact ha))]; exact n) (fun b u h2 e=>?_) (fun b xs e=>by rw [ah (na b _ e)]; exact e) (fun b u xs e=>by rw [ah (na b _ e)]; exact e) (fun b ps e=>⟨#[],by rw [ah (na b _ e),e]; simp⟩) hL (fun b u e=>?_) I.bare
 ·by_cases z:b=X.env.locals
  ·subst z
   obtain⟨o',_,_,ho,_⟩:=hL m hn
   exact⟨o',ho⟩
  ·exact⟨u,k b u h2 z e⟩
 ·by_cases z:b=a
  ·subst z
   rw [ae] at e
   cases e
   exact new
  ·rw [ah z] at e
   refine(I.bK b u e).jU (fun c v hc q=>?_) (fun c q=>by rw [ah (na c _ q)]; exact q) fun c xs q=>by rw [ah (na c _ q)]; exact q
   rcases hc with rfl | hc
   ·exact k c v (nT _ _ e) (nL _ _ e) q
   ·exact k c v (nT _ _ hc) (nL _ _ hc) q
theorem FE {aO out:List Value}{ns:List Int}{g:Int→Int}(hi:IntsAre aO ns) (ko:KskOut false (ns.map g) aO out):∃dR:List Int,IntsAre out dR∧dR.Perm ns∧dR.Pairwise (fun x y=>g x≤g y):=by
 obtain⟨ps,hp,rfl,hs⟩:=ko
 have Tq:∀p∈(ns.map g).zip aO,p.1=g (numOf p.2)∧p.2∈aO:=by
  rw [←hi.nums,List.map_map,List.zip_map_left]
  intro p hp
  obtain⟨⟨u,v⟩,hq,rfl⟩:=List.mem_map.mp hp
  obtain⟨h1,h2⟩:=mem_zip_self hq
  have h1:u=v:=h1
  have h2:u∈aO:=h2
  subst h1
  exact⟨rfl,h2⟩
 refine⟨(ps.map Prod.snd).map numOf,intsAre_map _ fun v hv=>?_,?_,?_⟩
 ·obtain⟨p,LW,rfl⟩:=List.mem_map.mp hv
  exact hi.all _ (Tq p (hp.mem_iff.mp LW)).2
 ·have h1:=(hp.map Prod.snd).map numOf
  have hl:=hi.length
  rw [List.map_snd_zip (by rw [List.length_map]; omega),hi.nums] at h1
  exact h1
 ·rw [List.pairwise_map,List.pairwise_map]
  refine hs.imp_of_mem fun {p q} LW SH hr=>?_
  have XS:p.1≤q.1:=by simpa using hr
  rw [(Tq p (hp.mem_iff.mp LW)).1,(Tq q (hp.mem_iff.mp SH)).1] at XS
  exact XS
theorem FF {l f:Addr}{ns:List Int}{g:Int→Int}{Q:VK}{E:Value→Shared→Prop}{fp:List (Addr×Obj)}(I:Inv X (fp++pins) σ H s) (hl:bc X.K H l (ns.map V.int)) (LU:ns.length < 64)
  (turn:∀(n:Int) (t:Tok) (qW:List (Addr×Obj)) (s':Shared),n∈ns→Inv X (qW++(fp++pins)) σ H s'→wpAny (model X.prog X.w) X.A.in1.in1 (call (.ref f) [.int n t]) (EP X (qW++(fp++pins)) σ (fun v H2=>v=.int (g n)∧H2=H)) (fun _ _=>False) s')
  (q:∀(D:Addr) (dR:List Int),H D=none→dR.Perm ns→dR.Pairwise (fun x y=>g x≤g y)→Q (.ref D) (upd H D (.lst (dR.map V.int)))) :
  wpAny (model X.prog X.w) X.A (call (.builtin "sorted") [.ref l] [(Str.ofString "key",.ref f)]) (EP X pins σ Q) E s:=by
 obtain⟨aO,rv,pl,hz⟩:=I.list hl
 have hI:=intsAre_of rv
 have hlen:=hI.length
 have aev:aO.length < 64:=by omega
 refine call_function_entry_kw kind_sorted plain_sorted entry_sorted (ksk_s1 _ _) ?_
 unfold Builtin.«sorted»
 refine wpAny_bind (m:=checkCount "sorted" 1 1 _) (wpAny_pure ?_)
 refine wpAny_bind (collect_list pl.isList ?_ (by rw [sizeLine_eq]; omega))
 refine wpAny_bind (wpAny_newList ?_ (by rw [sizeLine_eq]; omega))
 have hsz:((s.heap.push (seqObj "list" #[] 0)).update s.heap.objs.size (Obj.mapSeq (·++aO.toArray))).objs.size=s.heap.objs.size+1:=by
  rw [Heap.size_update,size_push']
 have Et:(((s.heap.push (seqObj "list" #[] 0)).update s.heap.objs.size (Obj.mapSeq (·++aO.toArray))).push (seqObj "list" aO.toArray 0)).get? (s.heap.objs.size+1)=some (seqObj "list" aO.toArray 0):=by
  rw [←hsz]; exact Heap.get?_push_size _ rfl
 have keep:∀b o,s.heap.get? b=some o→(((s.heap.push (seqObj "list" #[] 0)).update s.heap.objs.size (Obj.mapSeq (·++aO.toArray))).push (seqObj "list" aO.toArray 0)).get? b=some o:=fun b o q=>by
  have fg:b < s.heap.objs.size:=Heap.lt_size q
  rw [Heap.get?_push_ne _ _ _ (by rw [hsz]; exact Nat.ne_of_lt (Nat.lt_succ_of_lt fg)),Heap.get?_update_ne _ _ _ _ (Nat.ne_of_lt fg),Heap.get?_push_ne _ _ _ (Nat.ne_of_lt fg)]
  exact q
 have sz1:(((s.heap.push (seqObj "list" #[] 0)).update s.heap.objs.size (Obj.mapSeq (·++aO.toArray))).push (seqObj "list" aO.toArray 0)).objs.size=s.heap.objs.size+2:=by
  rw [size_push',hsz]
 show wpAny _ _ _ _ _ {s with heap:=((s.heap.push (seqObj "list" #[] 0)).update s.heap.objs.size (Obj.mapSeq (·++aO.toArray))).push (seqObj "list" aO.toArray 0)}
 rw [hsz]
 have Y9:H (s.heap.objs.size+1)=none:=I.bK.fresh (Nat.le_succ _)
 have lD:=I.FD (b:=s.heap.objs.size+1) (Nat.le_succ _)
 have I1:=I.kept (t':=s.toks) keep
 generalize ((s.heap.push (seqObj "list" #[] 0)).update s.heap.objs.size (Obj.mapSeq (·++aO.toArray))).push (seqObj "list" aO.toArray 0)=hA at Et sz1 I1
 refine wpAny_bind (wpAny_holding (wpAny_call_entry_kw slot_list_sort ⟨_,Et,rfl⟩ entry_list_sort ?body (ksk_l1 _ _)))
 case body=>
  show wpAny (model X.prog X.w) X.A.in1.in1 (Builtin.«list.sort» ⟨[.ref (s.heap.objs.size+1)],[(Str.ofString "key",.ref f)]⟩) _ _ _
  rw [ksk_t1]
  unfold ksk_tree
  refine wpAny_bind (listItems_at Et rfl ?_)
  refine wpAny_bind (listUpdate_at Et rfl ?_ (by rw [List.size_toArray,sizeLine_eq]; omega) (Nat.zero_le _))
  have s1:=Heap.SameBut.update hA (s.heap.objs.size+1) (Obj.mapSeq fun _=>(#[]:Array Value))
  obtain⟨e1,ho1⟩:∃e1,(hA.update (s.heap.objs.size+1) (Obj.mapSeq fun _=>(#[]:Array Value))).get? (s.heap.objs.size+1)=some (seqObj "list" #[] e1):=⟨_,get?_update_seq Et fun _=>#[]⟩
  have I2:=I1.turned (t':=s.toks) (it:=s.heap.objs.size+1) (h':=hA.update (s.heap.objs.size+1) (Obj.mapSeq fun _=>(#[]:Array Value))) (fun b o n e=>(s1.2 b n).trans e) Y9 lD.loc (.inr lD.sz) lD.cell lD.pin
  have sz2:(hA.update (s.heap.objs.size+1) (Obj.mapSeq fun _=>(#[]:Array Value))).objs.size=s.heap.objs.size+2:=by rw [Heap.size_update,sz1]
  generalize hA.update (s.heap.objs.size+1) (Obj.mapSeq fun _=>(#[]:Array Value))=hB at ho1 I2 sz2
  refine wpAny_bind (seqEpoch_at ho1 rfl ?_)
  refine wpAny_bind (wpAny_newTuple ?_ (by show aO.length≤_; rw [sizeLine_eq]; omega))
  refine wpAny_bind (wpAny_newList ?_ (Nat.zero_le _))
  refine wpAny_holding ?_
  have hkS:(hB.push (seqObj "tuple" aO.toArray 0)).objs.size=s.heap.objs.size+3:=by rw [size_push',sz2]
  have k3:∀b o,hB.get? b=some o→((hB.push (seqObj "tuple" aO.toArray 0)).push (seqObj "list" #[] 0)).get? b=some o:=fun b o e=>Heap.get?_push_of_some _ (Heap.get?_push_of_some _ e)
  have XR:((hB.push (seqObj "tuple" aO.toArray 0)).push (seqObj "list" #[] 0)).get? (s.heap.objs.size+3)=some (seqObj "list" #[] 0):=by
   rw [←hkS]
   exact Heap.get?_push_size _ rfl
  have I3:=I2.kept (t':=s.toks) k3
  have Ef:=k3 _ _ ho1
  have hnk:H (s.heap.objs.size+3)=none:=I.bK.fresh (by omega)
  have lE:=I.FD (b:=s.heap.objs.size+3) (by omega)
  show wpAny (model X.prog X.w) X.A.in1.in1 (ksk_rest _ _ _ _ _ (.ref (hB.push (seqObj "tuple" aO.toArray 0)).objs.size)) _ _ {s with heap:=(hB.push (seqObj "tuple" aO.toArray 0)).push (seqObj "list" #[] 0)}
  rw [hkS]
  generalize (hB.push (seqObj "tuple" aO.toArray 0)).push (seqObj "list" #[] 0)=hC at I3 Ef XR
  have hka:s.heap.objs.size+3≠s.heap.objs.size+1:=by omega
  generalize s.heap.objs.size+3=kS at XR hnk lE hka
  generalize s.heap.objs.size+1=a at Ef Y9 lD hka
  have Y_:∀{s':Shared}{kA:Array Value}{e:Nat},Inv X (fp++pins) σ H s'→s'.heap.get? kS=some (seqObj "list" kA e)→s'.heap.get? a=some (seqObj "list" #[] e1)→Inv X ([(kS,seqObj "list" kA e),(a,seqObj "list" #[] e1)]++(fp++pins)) σ H s':=fun {s' kA e} J h1 h2=>by
   refine J.f_ fun p hp=>?_
   rcases List.mem_append.mp hp with hp | hp
   ·rcases List.mem_cons.mp hp with rfl | hp
    ·exact⟨h1,hnk,lE.loc,lE.fs,fun v z=>by cases z⟩
    ·rw [List.mem_singleton.mp hp]
     exact⟨h2,Y9,lD.loc,lD.fs,fun v z=>by cases z⟩
   ·exact J.pin p (List.mem_append_right _ hp)
  have O3:∀{s':Shared}{kA:Array Value}{e:Nat},Inv X ([(kS,seqObj "list" kA e),(a,seqObj "list" #[] e1)]++(fp++pins)) σ H s'→Inv X (fp++pins) σ H s'∧s'.heap.get? kS=some (seqObj "list" kA e)∧s'.heap.get? a=some (seqObj "list" #[] e1):=fun {s' kA e} J=>
   ⟨J.f_ fun p hp=>J.pin p (List.mem_append_right _ (List.mem_append_right _ hp)),(J.pin (kS,seqObj "list" kA e) (List.mem_append_right _ (by simp))).1,(J.pin (a,seqObj "list" #[] e1) (List.mem_append_right _ (by simp))).1⟩
  unfold ksk_rest
  refine wpAny_bind (wpAny_rule ?_)
  first
   | rw [List.forIn_toArray]
   | (rw [←Array.forIn_toList]; simp only [List.toList_toArray])
   | rw [←Array.forIn_toList]
  refine wpAny_bind (ksk_fold (fun i s'=>∃kA e,Inv X ([(kS,seqObj "list" kA e),(a,seqObj "list" #[] e1)]++(fp++pins)) σ H s'∧IntsAre kA.toList ((ns.map g).take i)) aO 0 _ ⟨#[],0,Y_ I3 XR Ef,by simpa using IntsAre.nil⟩ ?step ?done)
  case step=>
   rintro j x s' hx ⟨kA,e,J,hk⟩
   simp only [Nat.zero_add] at hk ⊢
   have hj:j < aO.length:=(List.getElem?_eq_some_iff.mp hx).1
   obtain⟨n,t,rfl,hn⟩:=hI.at j x hx
   have hz:kA.size≤aO.length:=by
    have h1:=hk.length
    rw [Array.length_toList,List.length_take,List.length_map] at h1
    omega
   refine wpAny_bind (wpAny_attempt (wpAny_mono (turn n t _ s' (List.mem_of_getElem? hn) J) (fun v s2 he=>?_) fun _ _ hF=>hF.elim))
   obtain⟨v',H2,J2,rv,ev,eH⟩:=he
   subst ev
   subst eH
   obtain⟨t2,rfl⟩:=rv
   try dsimp only
   obtain⟨J3,nk,na⟩:=O3 J2
   have s1:=Heap.SameBut.update s2.heap kS (Obj.mapSeq (·.push (.int (g n) t2)))
   obtain⟨c2,hc2⟩:∃c2,(s2.heap.update kS (Obj.mapSeq (·.push (.int (g n) t2)))).get? kS=some (seqObj "list" (kA.push (.int (g n) t2)) c2):=⟨_,get?_update_seq nk (·.push (.int (g n) t2))⟩
   have ek:(ns.map g).take (j+1)=(ns.map g).take j++[g n]:=by rw [List.take_add_one,List.getElem?_map,hn]; rfl
   have ea:(kA.push (Value.int (g n) t2)).toList=kA.toList++[Value.int (g n) t2]:=by simp
   refine wpAny_bind (listUpdate_at nk rfl ?_ (by rw [sizeLine_eq]; omega) (Nat.le_trans (Nat.le_of_eq (Array.size_push ..)) (by rw [sizeLine_eq]; omega)))
   refine wpAny_pure ⟨rfl,kA.push (.int (g n) t2),c2,Y_ (J3.turned (t':=s2.toks) (it:=kS) (fun b o n e=>(s1.2 b n).trans e) hnk lE.loc (.inr lE.sz) lE.cell lE.pin) hc2 ((s1.2 a hka.symm).trans na),by rw [ea,ek]; exact ksk_snoc hk⟩
  case done=>
   rintro s' ⟨kA,e,J,hk⟩
   have hk':IntsAre kA.toList (ns.map g):=by
    have e3:(ns.map g).take (0+aO.length)=ns.map g:=List.take_of_length_le (by rw [List.length_map]; omega)
    rw [e3] at hk
    exact hk
   obtain⟨J3,nk,na⟩:=O3 J
   try dsimp only
   refine wpAny_bind (listItems_at nk rfl ?_)
   obtain⟨m,hn,_⟩:=id J3.loc
   refine ksk_end_ (e:=e) (e1:=e1) (h₀:=SR.lz s'.heap) (L:=X.env.locals) (m:=m) (news:=led s'.heap [X.env.locals,kS,a]) (SR.EV hn) (fun p hp=>?_) hka (fun p hp=>?_) (fun p hp=>?_) hk' (by rw [List.length_map,hlen]) aev fun h' tk out c F3 N3 ko=>⟨_,rfl,?_⟩
   ·rcases List.mem_append.mp hp with hp | hp
    ·obtain⟨b,o⟩:=p
     obtain⟨n1,n2⟩:=nG.mp hp
     exact⟨n2,fun z=>n1 (by simp [show b=_ from z]),SR.dU _ _⟩
    ·rcases List.mem_cons.mp hp with rfl | hp
     ·exact⟨nk,lE.loc,SR.dU _ _⟩
     ·rw [List.mem_singleton.mp hp]
      exact⟨na,lD.loc,SR.dU _ _⟩
   ·obtain⟨b,o⟩:=p
    exact fun z=>(nG.mp hp).1 (by simp [show b=_ from z])
   ·obtain⟨b,o⟩:=p
    exact fun z=>(nG.mp hp).1 (by simp [show b=_ from z])
   obtain⟨dR,o1,o2,o3⟩:=FE hI ko
   have hlo:=o2.length_eq
   have J4:Inv X pins σ H s':=J3.f_ fun p hp=>J3.pin p (List.mem_append_right _ (List.mem_append_right _ hp))
   have Za:Ca X pins a:=⟨lD.sz,lD.loc,lD.cell,fun p hp=>lD.pin p ((List.mem_append.mp hp).elim (fun z=>List.mem_append_left _ z) fun z=>List.mem_append_right _ (List.mem_append_right _ z)),lD.fs⟩
   have Zb:Ca X pins kS:=⟨lE.sz,lE.loc,lE.cell,fun p hp=>lE.pin p ((List.mem_append.mp hp).elim (fun z=>List.mem_append_left _ z) fun z=>List.mem_append_right _ (List.mem_append_right _ z)),lE.fs⟩
   have J5:=J4.adopt (T:=[kS,a]) (a:=a) (o:=.lst (dR.map V.int)) (h':=h') (t':=tk) (fun b hb=>by
    rcases List.mem_cons.mp hb with rfl | hb
    ·exact⟨Zb,hnk⟩
    ·rw [List.mem_singleton.mp hb]
     exact⟨Za,Y9⟩) (by simp) (fun b u n1 n2 e=>(N3 (b,u) (List.mem_cons_of_mem _ (nG.mpr ⟨by simp only [List.mem_cons,List.not_mem_nil,or_false,not_or] at n1 ⊢; exact⟨n2,n1⟩,e⟩))).1) (fun m' XW=>by rw [Tp XW hn]; exact F3.ns)
    ⟨by rw [List.length_map,sizeLine_eq]; omega,out.toList,c,iR o1,by rw [Array.toArray_toList]; exact(N3 _ (List.mem_cons_self ..)).1⟩
   exact wpAny_pure ⟨_,rfl,.ref a,_,J5,rfl,q a dR Y9 o2 o3⟩
structure FG (scope:Scope) (p fv:Str):Prop where
 kind:scope.kind=.function
 co:scope.isCoroutine=false
 gen:scope.isGenerator=false
 par:scope.names.lookup p=some .local
 free:scope.names.lookup fv=some .free
 only:∀x∈scope.names,x.2=.free→x.1=fv
 cell:∀x∈scope.names,x.2≠.cell
 ne:p≠fv
noncomputable def FH (X:Cx) (p fv:Str) (env:Env) (s:Shared) (H:Hp):Cx:={X with A:=X.A.in1.in1.deeper env,N:=[p,fv],s₀:=s,H₀:=H,env:=env,outer:=X.stack,stack:=env::X.stack,ex:=[],fn:=fun _=>false,pn:=[],xe:=fun _ _=>False}
theorem LX {p fv qual:Str}{scope:Scope}{f cv:Addr}{cd:Value}{i:Nat}{v vf:V}{u:Value}{h1:Heap}{tk:Nat}(I:Inv X pins σ H s) (S:FG scope p fv) (hi:X.N[i]?=some fv) (hσ:σ[i]?=some (some vf)) (hk:X.env.scope.names.lookup fv=some .cell) (hc:X.env.cells.lookup fv=some cv) (ru:RelV v u)
  (Ad:h1.Ns s.heap.objs.size (fun x=>[(p,u)].reverse.lookup x)) (Eg:Heap.SameBut s.heap.objs.size (s.heap.push {cls:=.type "frame",data:=.dict #[]}) h1) :
  Inv (FH X p fv (PySem.W.envX qual scope s.heap.objs.size f cd [(fv,cv)]) s H) [] [some v,some vf] H {s with heap:=h1,toks:=tk}:=by
 have all:∀b o,s.heap.get? b=some o→h1.get? b=some o:=fun b o e=>(Eg.2 b (Nat.ne_of_lt (Heap.lt_size e))).trans (Heap.get?_push_of_some _ e)
 have one:∀x c,List.lookup x [(fv,cv)]=some c→x=fv∧c=cv:=fun x c e=>by
  rw [List.lookup_cons] at e
  split at e
  ·next z=>exact⟨by simpa using z,by cases e; rfl⟩
  ·cases e
 have onl:∀x,scope.names.lookup x=some .free→x=fv:=fun x e=>S.only _ (PySem.mem_of_lookup e) rfl
 have ncl:∀x,scope.names.lookup x≠some .cell:=fun x e=>S.cell _ (PySem.mem_of_lookup e) rfl
 obtain⟨m,hm,hl⟩:=I.loc
 obtain⟨uf,rf,l⟩:=hl i fv vf hi hσ (.inr (.inl hk))
 have l7:s.heap.IsCell cv (some uf):=by
  rcases l with ⟨z,_⟩ | ⟨_,c,e,z⟩
  ·rw [show X.env.kindOf fv=some .cell from hk] at z
   cases z
  ·rw [hc] at e
   cases e
   exact z
 have FI:h1.IsCell cv (some uf):=by
  obtain⟨o,ho,hd⟩:=l7
  exact⟨o,all _ _ ho,hd⟩
 refine⟨⟨I.ok.mod,S.kind,rfl,rfl,Nat.le_refl _,fun x y c e1 e2=>by rw [(one x c e1).1,(one y c e2).1],fun x hx=>?_,(fun x c z=>by cases z),I.ok.hd,Around.frames_deeper I.ok.frames,.inr ⟨rfl,rfl⟩,(fun b z=>nomatch z),I.bs,Nat.le_trans I.ok.Er I.sz,(fun b o e z=>nomatch z),(fun b z=>nomatch z),I.stack,I.tj⟩,
  rfl,I.bare,Un.kept all,⟨_,Ad,fun j x w e1 e2 e3=>?_⟩,fun x c e=>?_,I.bK.fresh (Nat.le_refl _),fun x c e=>?_,(fun q z=>nomatch z),I.bK.kept all,rfl⟩
 ·rcases hx with hx | hx
  ·exact absurd hx (ncl x)
  ·rw [onl x hx]
   exact⟨cv,by show List.lookup fv [(fv,cv)]=_; simp [List.lookup]⟩
 ·match j,e1,e2 with
  | 0,e1,e2=>
   cases e1
   cases e2
   exact⟨u,ru,.inl ⟨S.par,by show List.lookup p [(p,u)]=_; simp [List.lookup]⟩⟩
  | 1,e1,e2=>
   cases e1
   cases e2
   exact⟨uf,rf,.inr ⟨.inr S.free,cv,by show List.lookup fv [(fv,cv)]=_; simp [List.lookup],FI⟩⟩
 ·obtain⟨rfl,rfl⟩:=one x c e
  exact⟨_,FI⟩
 ·obtain⟨rfl,rfl⟩:=one x c e
  exact I.eN _ _ hc
theorem FJ {p fv name qual:Str}{params:Arguments}{body:Expr}{scope:Scope}{pm vM:Value}{f cv c':Addr}{i k:Nat}{v vf:V}{u:Value}{tb:TE}{Q:VK}(I:Inv X pins σ H s) (hr:c7 (k+2) X.A) (S:FG scope p fv) (hi:X.N[i]?=some fv) (hσ:σ[i]?=some (some vf)) (hk:X.env.scope.names.lookup fv=some .cell) (hc:X.env.cells.lookup fv=some cv)
  (ho:s.heap.get? f=some (PySem.W.kla_obj name qual params body scope [(fv,cv)] pm c' vM)) (ve:s.heap.CodeRec (.ref c') qual) (vN:bindArgs (PySem.W.kla_fn name qual params body scope [(fv,cv)] pm (.ref c') vM) ⟨[u],[]⟩=pure [(p,u)]) (ru:RelV v u)
  (hb:PE (FH X p fv (PySem.W.envX qual scope s.heap.objs.size f (.ref c') [(fv,cv)]) s H) body tb) (h:tb [some v,some vf] H Q) :
  wpAny (model X.prog X.w) X.A.in1.in1 (call (.ref f) [u]) (EP X pins σ Q) (fun _ _=>False) s:=by
 refine wpAny_call (PySem.W.kla_callFunE (by have:=hr.in1.in1; exact this.depth) ho rfl S.co S.gen rfl ve ?_)
 rw [vN]
 refine wpAny_pure (wpAny_newFunctionEnv S.cell (fun y hy=>by rw [List.mem_singleton.mp hy]; exact S.par) (fun h1 Ad Eg=>⟨?_,?_⟩) S.kind)
 ·exact I.nolimit.keeps fun b o e=>(Eg.2 b (Nat.ne_of_lt (Heap.lt_size e))).trans (Heap.get?_push_of_some _ e)
 have J:=LX (qual:=qual) (f:=f) (cd:=.ref c') (tk:=s.toks+[(p,u)].length) I S hi hσ hk hc ru Ad Eg
 refine PySem.W.kla_codeExpr (wpAny_mono (hb [] _ _ H _ J h) (fun w s2 ⟨x,H2,J2,rx,q⟩=>?_) fun _ _ z=>z.elim)
 exact I.after ⟨x,H2,J2.os,J2.bare,J2.base,J2.bK,rx,q⟩
class BM (mg:Str→Option Value) (base:Heap):Prop where
 ex:∃bm ob,mg "__builtins__"=some (.ref bm)∧bm≠builtinsNs∧bm≠mainGlobals∧base.get? bm=some ob∧ob.cls=.type "module"∧ob.dict=some builtinsNs∧ob.data=.plain
noncomputable def d5 (P:Addr) (H H':Hp):Prop:=∀b o,b≠P→H b=some o→H' b=some o
theorem d5.refl (P:Addr) (H:Hp):d5 P H H:=fun _ _ _ e=>e
theorem d5.trans {P:Addr}{H H' H2:Hp}(a:d5 P H H') (b:d5 P H' H2):d5 P H H2:=fun c o n e=>b c o n (a c o n e)
theorem d5.of {P:Addr}{H H':Hp}(s:au H H'):d5 P H H':=fun b o _ e=>s b o e
noncomputable def Tb (P:Addr) (dX:Pos) (lq:Str) (H:Hp):Prop:=H P=some (.iW #[])∨∃c',H P=some (.iW #[rawInt dX.line,rawInt dX.col,.ref c'])∧H c'=some (.ext fun h=>h.CodeRec (.ref c') lq)
theorem Tb.iW {P:Addr}{dX:Pos}{lq:Str}{H:Hp}(t:Tb P dX lq H):∃ps,H P=some (.iW ps):=by
 rcases t with t | ⟨c',t,_⟩
 ·exact⟨_,t⟩
 ·exact⟨_,t⟩
theorem Tb.same {P:Addr}{dX:Pos}{lq:Str}{H H':Hp}(t:Tb P dX lq H) (s:au H H'):Tb P dX lq H':=by
 rcases t with t | ⟨c',t,u⟩
 ·exact .inl (s _ _ t)
 ·exact .inr ⟨c',s _ _ t,s _ _ u⟩
theorem d5.seq {P:Addr}{K:PySem.W.Frag}{H H':Hp}{a:Addr}{xs:List V}{ps:Array Value}(s:d5 P H H') (t:H P=some (.iW ps)) (h:bc K H a xs):bc K H' a xs:=by
 rcases h with h | h
 ·refine .inl ?_
  rcases h with h | ⟨o,h⟩
  ·exact .inl (s _ _ (fun z=>by rw [z,t] at h; cases h) h)
  ·exact .inr ⟨o,s _ _ (fun z=>by rw [z,t] at h; cases h) h⟩
 ·exact .inr h
theorem Am {P:Program}{w:World}{H:Hp}{h:Heap}{c':Addr}{lq:Str}(e:h.CodeRec (.ref c') lq):cG P w H h c' (.ext fun h=>h.CodeRec (.ref c') lq):=by
 refine⟨e,?_,fun h1 h2 z k=>?_⟩
 ·obtain⟨c,oc,vs,tq,e1,e2,_⟩:=e
  cases e1
  exact⟨_,e2⟩
 ·obtain⟨c,oc,vs,tq,e1,e2,r⟩:=z
  cases e1
  exact⟨_,oc,vs,tq,rfl,k _ e2,r⟩
theorem Tr {P c cv:Addr}{fv name qual:Str}{params:Arguments}{body:Expr}{scope:Scope}{dX:Pos}{fl:Nat}{Q:Value→Shared→Prop}{E:Value→Shared→Prop} [B:BM X.mg X.base] (I:Inv X pins σ H s) (Cc:X.env.code=.ref c) (C:PySem.W.codeHdIn X.K c P=true) (tb:Tb P dX qual H) (tS:closureFor scope X.env=pure [(fv,cv)])
  (h:∀f c' vM H' s',Inv X ([(f,PySem.W.kla_obj name qual params body scope [(fv,cv)] ((X.mg "__name__").getD .none) c' vM)]++pins) σ H' s'→d5 P H H'→Tb P dX qual H'→H' c'=some (.ext fun h=>h.CodeRec (.ref c') qual)→Q (.ref f) s') :
  wpAny (model X.prog X.w) X.A (makeFunction name qual params (.expr body) scope X.env [] [] [] dX fl) Q E s:=by
 obtain⟨ps,eP⟩:=tb.iW
 have hP:s.heap.get? P=some (PySem.W.tabObj ps):=I.bK P _ eP
 have CH:PySem.W.CodeHd s.heap c P:=PySem.W.codeHd_of_K I.qV C
 have nP:∀b o,X.base.get? b=some o→b≠P:=fun b o e z=>by
  have:=(I.bs b o e).2
  rw [z,eP] at this
  cases this
 have hg:s.heap.Ns mainGlobals X.mg:=I.mod.glob.keeps I.bk
 have hgP:mainGlobals≠P:=by
  obtain⟨o,_,_,e,_⟩:=I.mod.glob
  exact nP _ _ e
 obtain⟨bm,ob,b1,b2,b3,b4,b5⟩:=B.ex
 have hb:s.heap.BuiltinsAt X.mg P:=⟨bm,ob,b1,b2,b3,nP _ _ b4,I.bk _ _ b4,b5⟩
 have Zc:∀{h2:Heap}{f:Addr}{o:Obj}{H':Hp}{tk:Nat},Inv X pins σ H' {s with heap:=h2,toks:=tk}→h2.get? f=some o→H' f=none→s.heap.objs.size≤f→(∀v,o.data≠.cell v)→Inv X ([(f,o)]++pins) σ H' {s with heap:=h2,toks:=tk}:=fun {h2 f o H' tk} J e n hf hd=>by
  have nw:=I.FD hf
  refine J.f_ fun p hp=>?_
  rcases List.mem_append.mp hp with hp | hp
  ·rw [List.mem_singleton.mp hp]
   exact⟨e,n,nw.loc,nw.fs,hd⟩
  ·exact J.pin p (List.mem_append_right _ hp)
 rcases tb with t | ⟨c',t,u⟩
 ·rw [t] at eP
  cases eP
  refine PySem.W.kla_makeFunction (mg:=X.mg) tS I.ok.glob hg Cc CH hP trivial rfl hgP hb fun c' vM h' tk hx hge fg aew htb=>?_
  have hcn:H c'=none:=I.bK.fresh hge
  have KS:H h'.objs.size=none:=I.bK.fresh (Nat.le_of_lt (Nat.lt_of_le_of_lt hge fg))
  have ncP:c'≠P:=fun z=>by rw [z,t] at hcn; cases hcn
  have nfP:h'.objs.size≠P:=fun z=>by rw [z,t] at KS; cases KS
  have k:∀b o,b≠P→s.heap.get? b=some o→(h'.push (PySem.W.kla_obj name qual params body scope [(fv,cv)] ((X.mg "__name__").getD .none) c' vM)).get? b=some o:=fun b o n e=>Heap.get?_push_of_some _ (hx b o n e)
  have old:∀b o,s.heap.get? b=some o→b≠c':=fun b o e=>Nat.ne_of_lt (Nat.lt_of_lt_of_le (Heap.lt_size e) hge)
  have nn:∀b,H b=none→b≠P:=fun b e z=>by rw [z,t] at e; cases e
  have nc:∀b o,H b=some o→b≠c':=fun b o e z=>by rw [z,hcn] at e; cases e
  have np:∀b o,H b=some o→(∀ps,o≠.iW ps)→b≠P:=fun b o e n z=>by rw [z,t] at e; cases e; exact n _ rfl
  have hP2:(h'.push (PySem.W.kla_obj name qual params body scope [(fv,cv)] ((X.mg "__name__").getD .none) c' vM)).get? P=some (PySem.W.tabObj #[rawInt dX.line,rawInt dX.col,.ref c']):=Heap.get?_push_of_some _ (by simpa using htb)
  have Zd:(h'.push (PySem.W.kla_obj name qual params body scope [(fv,cv)] ((X.mg "__name__").getD .none) c' vM)).CodeRec (.ref c') qual:=by
   obtain⟨c2,oc,vs,tq,e1,e2,r⟩:=aew
   exact⟨c2,oc,vs,tq,e1,Heap.get?_push_of_some _ e2,r⟩
  have J:Inv X pins σ (upd (upd H P (.iW #[rawInt dX.line,rawInt dX.col,.ref c'])) c' (.ext fun h=>h.CodeRec (.ref c') qual)) {s with heap:=h'.push (PySem.W.kla_obj name qual params body scope [(fv,cv)] ((X.mg "__name__").getD .none) c' vM),toks:=tk}:=by
   refine I.un ⟨fun b o e n _ _=>k b o (nn b n) e,fun b o e n _ _=>⟨o.slots,k b o (nn b n) e⟩,fun b o e n _=>by rw [ah (old b o e),ah (nn b n)]; exact n,fun b o e _=>?_,fun b xs e=>by rw [ah (nc b _ e),ah (np b _ e (fun _ z=>by cases z))]; exact e,fun b o xs e=>by rw [ah (nc b _ e),ah (np b _ e (fun _ z=>by cases z))]; exact e,fun b ps e=>?_⟩ fun b o e=>?_
   ·by_cases z:b=P
    ·subst z
     exact⟨_,hP2⟩
    ·exact⟨o,k b o z e⟩
   ·by_cases z:b=P
    ·subst z
     rw [t] at e
     cases e
     exact⟨#[rawInt dX.line,rawInt dX.col,.ref c'],by rw [ah ncP.symm,ae]; simp⟩
    ·exact⟨#[],by rw [ah (nc b _ e),ah z,e]; simp⟩
   ·by_cases z1:b=c'
    ·subst z1
     rw [ae] at e
     cases e
     exact Am Zd
    ·rw [ah z1] at e
     by_cases z2:b=P
     ·subst z2
      rw [ae] at e
      cases e
      exact hP2
     ·rw [ah z2] at e
      refine(I.bK b o e).jU (fun d v hd r=>k d v ?_ r) (fun d r=>by rw [ah (nc d _ r),ah (np d _ r (fun _ z=>by cases z))]; exact r) fun d xs r=>by rw [ah (nc d _ r),ah (np d _ r (fun _ z=>by cases z))]; exact r
      rcases hd with rfl | hd
      ·exact z2
      ·exact np d _ hd (fun _ z=>by cases z)
  have hf':upd (upd H P (.iW #[rawInt dX.line,rawInt dX.col,.ref c'])) c' (.ext fun h=>h.CodeRec (.ref c') qual) h'.objs.size=none:=by rw [ah (Nat.ne_of_gt fg),ah nfP]; exact KS
  exact h _ c' vM _ _ (Zc J (Heap.get?_push_size _ rfl) hf' (Nat.le_of_lt (Nat.lt_of_le_of_lt hge fg)) (fun v z=>by cases z)) (fun b o n e=>by rw [ah (nc b _ e),ah n]; exact e) (.inr ⟨c',by rw [ah ncP.symm,ae],ae⟩) ae
 ·rw [t] at eP
  cases eP
  have hcu:s.heap.CodeRec (.ref c') qual:=(show cG X.prog X.w H s.heap c' (.ext fun h=>h.CodeRec (.ref c') qual) from I.bK c' _ u).1
  refine PySem.W.kla_makeFunctionHit (mg:=X.mg) tS I.ok.glob hg Cc CH hP ?_ (cv:=.ref c') ?_ hb fun vM h' tk hk hsz=>?_
  ·simp [TriplesOk,rawInt]
  ·simp [codeAmong,rawInt]
  ·have J:=I.kept (t':=tk) (h':=h'.push (PySem.W.kla_obj name qual params body scope [(fv,cv)] ((X.mg "__name__").getD .none) c' vM)) fun b o e=>Heap.get?_push_of_some _ (hk b o e)
   exact h _ c' vM H _ (Zc J (Heap.get?_push_size _ rfl) (I.bK.fresh hsz) hsz (fun v z=>by cases z)) (.refl _ _) (.inr ⟨c',t,u⟩) u
noncomputable def vO (K:PySem.W.Frag) (P:Addr) (dX:Pos) (lq:Str) (i:Nat) (tb tl:TE):TE:=fun σ H Q=>tl σ H fun x H1=>∃(a:Addr) (ns:List Int) (vf:V) (g:Int→Int),x=.ref a∧bc K H1 a (ns.map V.int)∧ns.length < 64∧σ[i]?=some (some vf)∧Tb P dX lq H1 ∧
 (∀H2,d5 P H1 H2→∀n∈ns,tb [some (.int n),some vf] H2 fun v H3=>v=.int (g n)∧H3=H2) ∧
 ∀(D:Addr) (H2:Hp) (dR:List Int),H1 D=none→d5 P H1 H2→Tb P dX lq H2→H2 D=some (.lst (dR.map V.int))→dR.Perm ns→dR.Pairwise (fun x y=>g x≤g y)→Q (.ref D) H2
theorem An {l body:Expr}{tl tb:TE}{p fv:Str}{np kp dX pos:Pos}{params:Arguments}{scope:Scope}{P c cv:Addr}{i k:Nat} [B:BM X.mg X.base] (hg:Gl X "sorted") (hm:X.mg "sorted"=none) (hl:PE X l tl) (hr:c7 (k+2) X.A) (S:FG scope p fv) (hi:X.N[i]?=some fv) (hk:X.env.scope.names.lookup fv=some .cell) (hc:X.env.cells.lookup fv=some cv)
  (Cc:X.env.code=.ref c) (C:PySem.W.codeHdIn X.K c P=true) (tS:closureFor scope X.env=pure [(fv,cv)]) (aex:defaultsOf params X.env=([],[]))
  (vN:∀(pm cd vM u:Value),bindArgs (PySem.W.kla_fn "<lambda>" (X.env.qual++"<lambda>") params body scope [(fv,cv)] pm cd vM) ⟨[u],[]⟩=pure [(p,u)])
  (hb:∀(s:Shared) (f c':Addr) (H2:Hp),PE (FH X p fv (PySem.W.envX (X.env.qual++"<lambda>") scope s.heap.objs.size f (.ref c') [(fv,cv)]) s H2) body tb)
  (he:starEach [l] X.env=[(false,eval l X.env)]:=by rfl) :
  PE X (.Call (.Name "sorted" np) [l] [⟨some "key",.Lambda params body scope dX,kp⟩] pos) (vO X.K P dX (X.env.qual++"<lambda>") i tb tl):=by
 intro pins s σ H Q I h
 refine wpAny_Call_Name_kw (lg I hg hm iT (callWith_kw ?_ (by rw [he]; rfl) (by rw [he]; rfl) rfl rfl))
 have hA:PA X [l] (BZ tl CZ):=aa hl ag he
 refine bR (hA pos pins s σ H (fun vs H1=>match vs with
  | [x]=>∃(a:Addr) (ns:List Int) (vf:V) (g:Int→Int),x=.ref a∧bc X.K H1 a (ns.map V.int)∧ns.length < 64∧σ[i]?=some (some vf)∧Tb P dX (X.env.qual++"<lambda>") H1 ∧
   (∀H2,d5 P H1 H2→∀n∈ns,tb [some (.int n),some vf] H2 fun v H3=>v=.int (g n)∧H3=H2) ∧
   ∀(D:Addr) (H2:Hp) (dR:List Int),H1 D=none→d5 P H1 H2→Tb P dX (X.env.qual++"<lambda>") H2→H2 D=some (.lst (dR.map V.int))→dR.Perm ns→dR.Pairwise (fun x y=>g x≤g y)→Q (.ref D) H2
  | _=>False) I h) fun us s1 ⟨vs,H1,I1,r1,q1⟩=>?_
 match vs,r1,q1 with
 | [x],.cons (b:=u) ra .nil,q1=>
  obtain⟨a,ns,vf,g,ex,hL,LU,hσ,ht,hbt,hq⟩:=q1
  subst ex
  obtain rfl:u=Value.ref a:=ra
  refine kws_cons (PySem.W.kla_eval aex (Tr I1 Cc C ht tS fun f c' vM H2 s2 J hS ht2 Sq=>kws_nil ?_))
  obtain⟨ps,eP⟩:=ht.iW
  show wpAny (model X.prog X.w) X.A (call (.builtin "sorted") [.ref a] [(Str.ofString "key",.ref f)]) _ _ _
  refine FF (g:=g) J (hS.seq eP hL) LU (fun n t qW s' hn J'=>?_) fun D dR hD h1 h2=>?_
  ·have hcr:s'.heap.CodeRec (.ref c') (X.env.qual++"<lambda>"):=(show cG X.prog X.w H2 s'.heap c' (.ext fun h=>h.CodeRec (.ref c') (X.env.qual++"<lambda>")) from J'.bK c' _ Sq).1
   exact FJ (v:=.int n) J' hr S hi hσ hk hc (J'.pin (f,PySem.W.kla_obj "<lambda>" (X.env.qual++"<lambda>") params body scope [(fv,cv)] ((X.mg "__name__").getD .none) c' vM) (by simp)).1 hcr (vN _ _ _ _) ⟨t,rfl⟩ (hb s' f c' H2) (hbt H2 hS n hn)
  ·have sD:=au.put (o:=.lst (dR.map V.int)) hD
   refine hq D _ dR ?_ (hS.trans (.of sD)) (ht2.same sD) ae h1 h2
   cases e:H1 D with
   | none=>rfl
   | some o=>
    by_cases z:D=P
    ·obtain⟨ps2,e2⟩:=ht2.iW
     rw [z,e2] at hD
     cases hD
    ·rw [hS D o z e] at hD
     cases hD
end
section
variable {P:Program}{w:World}{K:PySem.W.Frag}{mg:Str→Option Value}{base:Heap}
theorem cw.okC {x qual:Str}{st:Stmt}{f:Addr}{fd:FuncData}{N ps:List Str}{k:Nat}{sp:Sp}(F:cw K x qual st f fd) (S:ao N ps (ai st)) (len:∀vs H Q E,sp vs H Q E→vs.length=ps.length)
  (vt:∀(bI:Value) (A:Around) (outer:List Env) (s:Shared) (H:Hp) (vs:List V) (Q:VK) (E:XK),fd.code=bI→c7 k (A.deeper (envOfC qual (ai st) s.heap.objs.size f bI))→sp vs H Q E →
   ∃t,tu (vo cx P w K mg base N qual (ai st) f bI A outer s H E).XQ (dJ st) t∧t {nx:=fun _ H'=>Q .aP H',rt:=Q} (start N vs) H):aN P w K mg base cx (k+1) f fd ps sp:=by
 obtain⟨oc,od,kV,doc,pm,an,bI,ct,EL,rfl,lk,ve⟩:=F.ex
 refine OL lk ve S len fun A outer s H vs Q E hr KY=>?_
 obtain⟨t,h,q⟩:=vt bI A outer s H vs Q E rfl hr KY
 exact⟨t,h.XQ,q⟩
end
noncomputable def FK (ts:List Addr) (H:Hp):Prop:=(∀b,H b=none∨(∃o xs,H b=some (.d7 o (.lst xs)))∨(b∈ts∧H b=some (.iW #[])))∧∀b∈ts,H b=some (.iW #[])
theorem Di {P:Program}{w:World}{K:PySem.W.Frag}{mg mb:Str→Option Value}{CX:vk}{k:Nat}{fa a:Addr}{fd:FuncData}{x:Str}{sp:Sp}{s₁:Shared}{vs:List Value}{ns:List Int}{ts:List Addr}
  (KX:K.In s₁.heap) (Ad:s₁.heap.Ns mainGlobals mg) (hb:s₁.heap.Ns builtinsNs mb) (hbb:∀x:Str,x≠"__name__"→mb x=bootBuiltins x) (aey:s₁.heap.NoLimit) (hg:s₁.gens=#[])
  (Ej:∀b∈ts,s₁.heap.get? b=some (PySem.W.tabObj #[])) (Ze:∀b∈ts,K.lookup b=none) (hct:∀b∈ts,∃c,s₁.heap.TableAt c b #[]) (k_:∀b∈ts,b≠cStatics)
  (hB:∃bm ob,mg "__builtins__"=some (.ref bm)∧bm≠builtinsNs∧bm≠mainGlobals∧s₁.heap.get? bm=some ob∧ob.cls=.type "module"∧ob.dict=some builtinsNs∧ob.data=.plain)
  (ha:s₁.heap.get? a=some {cls:=.type "list",data:=.seq vs.toArray}) (hi:IntsAre vs ns) (hl:ns.length≤sizeLine) (hr:c7 k callerA)
  (F:∀base:Heap,K.In base→base.Ns mainGlobals mg→BM mg base→aN P w K mg base CX k fa fd [x] sp) (vN:∀(s:Shared) (u:Value),BindsTo s fd ⟨[u],[]⟩ [(x,u)])
  (KY:∀H:Hp,FK ts H→bc K H a (ns.map V.int)→sp [.ref a] H (fun v _=>v=.bl true) fun _ _ _=>False)
  (hCX:∀H e s',CX [] H s₁ (fun _ _ _=>False) e s'→False) :
  codeAny (model P w) callerA (.call (.ref fa) ⟨[.ref a],[]⟩) (fun r s'=>r=.ok (.ret (.bool true))∧OldK s₁.heap s'.heap∧s'.os=s₁.os∧AllBare s'.gens) s₁:=by
 have rv:=iR hi
 have aez:=hi.length
 have nat:∀b∈ts,b≠a:=fun b hb z=>by
  have:=Ej b hb
  rw [z,ha] at this
  cases this
 have core:∀H:Hp,FK ts H→bc K H a (ns.map V.int)→js P w H s₁.heap→(∀b,H b≠none→b=a∨b∈ts)→(H a≠none→K.lookup a=none) →
   codeAny (model P w) callerA (.call (.ref fa) ⟨[.ref a],[]⟩) (fun r s'=>r=.ok (.ret (.bool true))∧OldK s₁.heap s'.heap∧s'.os=s₁.os∧AllBare s'.gens) s₁:=by
  intro H hO hS bK hA hK
  have tZ:∀{b:Addr}{o:Obj},s₁.heap.get? b=some o→H b=none→(qb s₁.heap H).get? b=some o:=fun e n=>Ep e n
  have free:∀{b:Addr}{o:Obj},s₁.heap.get? b=some o→(∀xs n,o.data≠.seq xs n)→(∀xs,o.data≠.fields xs)→H b=none:=fun {b o} e d1 d2=>by
   cases q:H b with
   | none=>rfl
   | some u=>
    rcases hA b (by rw [q]; simp)with z | z
    ·subst z
     rw [ha] at e
     cases e
     exact absurd rfl (d1 _ _)
    ·rw [Ej b z] at e
     cases e
     exact absurd rfl (d2 _)
  have nsK:∀{b:Addr}{m:Str→Option Value},s₁.heap.Ns b m→(qb s₁.heap H).Ns b m:=fun {b m} ⟨o,es,ep,e,d,r⟩=>⟨o,es,ep,tZ e (free e (fun _ _ z=>by rw [d] at z; cases z) (fun _ z=>by rw [d] at z; cases z)),d,r⟩
  have hKb:K.In (qb s₁.heap H):=fun b o e=>tZ (KX b o e) (by
   cases q:H b with
   | none=>rfl
   | some u=>
    rcases hA b (by rw [q]; simp)with z | z
    ·subst z
     rw [hK (by rw [q]; simp)] at e
     cases e
    ·rw [Ze b z] at e
     cases e)
  have hM:Mod K mg (qb s₁.heap H):=⟨hKb,nsK Ad,⟨mb,nsK hb,hbb⟩,let ⟨mc,h1,h2⟩:=aey; ⟨mc,nsK h1,h2⟩⟩
  have hBM:BM mg (qb s₁.heap H):=by
   obtain⟨bm,ob,b1,b2,b3,b4,b5,b6,b7⟩:=hB
   exact⟨bm,ob,b1,b2,b3,tZ b4 (free b4 (fun _ _ z=>by rw [b7] at z; cases z) (fun _ z=>by rw [b7] at z; cases z)),b5,b6,b7⟩
  have e0:vm P w K mg (qb s₁.heap H) callerA [] s₁ H:=⟨rfl,hM,fun b o e=>Lc e,Nat.le_of_eq (CL _ _),trivial,fun b hb=>absurd (show b∈([]:List Addr) from hb) (by simp),bK,.of_eq hg⟩
  refine codeAny_mono ((F _ hKb (nsK Ad) hBM).run callerA [] s₁ H ⟨[.ref a],[]⟩ [.ref a] [.ref a] _ _ hr e0 (vN s₁ (.ref a)) (.cons rfl .nil) (KY H hO hS)) fun r s' h=>?_
  cases r with
  | error e=>exact(hCX H e s' h).elim
  | ok fl=>
   cases fl with
   | next=>exact False.elim h
   | brk=>exact False.elim h
   | cont=>exact False.elim h
   | ret u=>
    obtain⟨v,H',os,bare,un,Zf,r',q⟩:=h
    have q':v=.bl true:=q
    subst q'
    obtain rfl:u=Value.bool true:=r'
    have one:∀b o,s₁.heap.get? b=some o→b∉ts→s'.heap.get? b=some o:=fun b o e nt=>by
     cases q:H b with
     | none=>exact un.keep b o e q (by intro z; exact absurd (show b∈([]:List Addr) from z) (by simp)) (by simp)
     | some u=>
      rcases hO.1 b with z | ⟨ob,xs,z⟩ | ⟨z,_⟩
      ·rw [q] at z
       cases z
      ·have z2:=un.nO b ob _ z
       obtain⟨e1,_⟩:=bK b _ z
       obtain⟨e2,_⟩:=Zf b _ z2
       rw [e] at e1
       cases e1
       exact e2
      ·exact absurd z nt
    have two:∀b∈ts,∃more,s'.heap.get? b=some (PySem.W.tabObj (#[]++more)):=fun b hb=>by
     obtain⟨more,z⟩:=un.nQ b _ (hO.2 b hb)
     exact⟨more,Zf b _ z⟩
    refine⟨rfl,⟨fun b o e=>?_,fun b o e=>?_⟩,os,bare⟩
    ·by_cases nt:b∈ts
     ·obtain⟨more,z⟩:=two b nt
      have e2:=Ej b nt
      rw [e] at e2
      cases e2
      obtain⟨c,tc⟩:=hct b nt
      exact .inr (.inl ⟨tc.isCodeTable,rfl,#[],more,rfl,z⟩)
     ·exact .inl (one b o e nt)
    ·by_cases nt:b∈ts
     ·obtain⟨more,z⟩:=two b nt
      exact⟨_,z⟩
     ·exact⟨o,one b o e nt⟩
 cases hk:K.lookup a with
 | some o=>
  have e:=KX a o hk
  rw [ha] at e
  cases e
  refine core (fun b=>if b∈ts then some (.iW #[])else none) ⟨fun b=>?_,fun b hb=>if_pos hb⟩ (.inr ⟨_,vs.toArray,_,hk,rfl,rfl,rfl,by rw [List.size_toArray,aez]; exact hl,by simpa using rv⟩) (fun b u z=>?_) (fun b z=>?_) fun z=>absurd (if_neg (fun h=>nat a h rfl)) z
  ·by_cases hb:b∈ts
   ·exact .inr (.inr ⟨hb,if_pos hb⟩)
   ·exact .inl (if_neg hb)
  ·by_cases hb:b∈ts
   ·have z':=(if_pos hb).symm.trans z
    cases z'
    exact Ej b hb
   ·have z':=(if_neg hb).symm.trans z
    cases z'
  ·by_cases hb:b∈ts
   ·exact .inr hb
   ·exact absurd (if_neg hb) z
 | none=>
  refine core (fun b=>if b=a then some (.d7 {cls:=.type "list",data:=.seq vs.toArray} (.lst (ns.map V.int)))else if b∈ts then some (.iW #[])else none) ⟨fun b=>?_,fun b hb=>?_⟩ (.inl (.inr ⟨{cls:=.type "list",data:=.seq vs.toArray},if_pos rfl⟩)) (fun b u z=>?_) (fun b z=>?_) fun _=>hk
  ·by_cases hb:b=a
   ·exact .inr (.inl ⟨_,_,if_pos hb⟩)
   ·by_cases Aj:b∈ts
    ·exact .inr (.inr ⟨Aj,(if_neg hb).trans (if_pos Aj)⟩)
    ·exact .inl ((if_neg hb).trans (if_neg Aj))
  ·exact(if_neg (nat b hb)).trans (if_pos hb)
  ·have z:(if b=a then some (HO.d7 {cls:=.type "list",data:=.seq vs.toArray} (.lst (ns.map V.int)))else if b∈ts then some (.iW #[])else none)=some u:=z
   by_cases hb:b=a
   ·rw [if_pos hb] at z
    cases z
    subst hb
    exact⟨ha,by rw [List.length_map]; exact hl,vs,_,rv,ha⟩
   ·rw [if_neg hb] at z
    by_cases Aj:b∈ts
    ·rw [if_pos Aj] at z
     cases z
     exact Ej b Aj
    ·rw [if_neg Aj] at z
     cases z
  ·by_cases hb:b=a
   ·exact .inl hb
   ·by_cases Aj:b∈ts
    ·exact .inr Aj
    ·exact absurd ((if_neg hb).trans (if_neg Aj)) z
theorem FL {l:PySem.W.OpenLaw}{n k:Nat}{q:Program}{loose:List Str}{XP:(Str→Option Value)→Heap→Prop}{YP:World→Heap→Prop}{d:DefRec}{K:Params→PySem.W.Frag}{CX:vk}{sp:PySem.W.Frag→Sp}{x:Str}{ts:List Addr}
  (hn:l.most=some n) (zP:n≤sizeLine) (YF:d.params.defaults=[]) (hr:c7 k callerA)
  (hY:∀(w:World) (h:Heap),YP w h→(K w.params).In h) (hY2:∀(w:World) (h:Heap),YP w h→∀b∈ts,h.get? b=some (PySem.W.tabObj #[]))
  (Ze:∀(w:World),∀b∈ts,(K w.params).lookup b=none) (k_:∀b∈ts,b≠cStatics)
  (F:∀(w:World) (mg:Str→Option Value) (fa:Addr) (h:Heap),(K w.params).In h→h.Ns mainGlobals mg→mg d.name=some (.ref fa) →
   ∃fd:FuncData,(∀(s:Shared) (u:Value),BindsTo s fd ⟨[u],[]⟩ [(x,u)])∧(∀b∈ts,∃c,PySem.W.codeHdIn (K w.params) c b=true) ∧
    ∀base:Heap,(K w.params).In base→base.Ns mainGlobals mg→BM mg base→aN l.prog w (K w.params) mg base CX k fa fd [x] (sp (K w.params)))
  (KY:∀(K:PySem.W.Frag) (H:Hp) (a:Addr) (ns:List Int),ns.length≤n→FK ts H→bc K H a (ns.map V.int)→sp K [.ref a] H (fun v _=>v=.bl true) fun _ _ _=>False)
  (hCX:∀(H:Hp) (s:Shared) (e:Value) (s':Shared),CX [] H s (fun _ _ _=>False) e s'→False) :
  PySem.W.WalkO q loose XP YP l.row.toRowW d [] (fun f vs=>PySem.call f vs):=by
 refine SR.vz hn YF fun w s₀ s₁ mg mb fa o pm cd doc a vs ns G Y ho hd ve YG SS hints hlen hg=>?_
 have KX:=hY w _ Y
 have YT:=hY2 w _ Y
 obtain⟨fd,hb,u7,hF⟩:=F w mg fa _ KX G.T.g YG
 have hB:∃bm ob,mg "__builtins__"=some (.ref bm)∧bm≠builtinsNs∧bm≠mainGlobals∧s₁.heap.get? bm=some ob∧ob.cls=.type "module"∧ob.dict=some builtinsNs∧ob.data=.plain:=by
  obtain⟨bm,ob,b1,b2,b3,b4,b5,b6⟩:=G.T.bmain
  refine⟨bm,ob,b1,b2,fun z=>?_,b3,b4,b5,b6⟩
  obtain⟨o2,es,ep,e,hd2,_⟩:=G.T.g
  rw [z,e] at b3
  cases b3
  rw [hd2] at b6
  cases b6
 exact Di (ts:=ts) KX G.T.g G.T.b G.T.builtins G.T.nolimit hg YT (Ze w) (fun b hb=>(u7 b hb).elim fun c hc=>⟨c,(PySem.W.codeHd_of_K KX hc).tab (YT b hb)⟩) k_ hB SS hints (Nat.le_trans hlen zP) hr hF hb (fun H hO hS=>KY _ H a ns hlen hO hS) fun H e s'=>hCX H s₁ e s'
end L2
set_option Elab.async false
set_option linter.all false
set_option maxRecDepth 100000
set_option maxHeartbeats 4000000
namespace cf
open PySem L2
local macro_rules | `(tactic| dsimp! [$xs,*]) => do
  let ls ← ("Yg Ou Yh Ow Yi tIf tB OI Yq tUn Sr tC KW rI rU Li qX Yl Ox YI Ym Yn Ov BZ CZ EI tCB tBM aee EJ OK tSl OM B0 SE Yt Yd tOr Ye Ot adW Yf _root_.L2.start rEq rNe Ly Lz LA LC LD Yv Yu SV List.map_cons List.map_nil List.length_cons List.length_nil List.replicate_succ List.replicate_zero Nat.reduceAdd Nat.reduceSub Nat.zero_add Nat.sub_self Nat.zero_le List.cons_append List.nil_append List.append_nil List.set_cons_zero List.set_cons_succ List.getElem?_cons_zero List.getElem?_cons_succ Option.some.injEq V.int.injEq V.bl.injEq V.ref.injEq V.ty.injEq V.str.injEq List.cons.injEq exists_eq_left' exists_eq_left exists_eq_right exists_and_left exists_const true_and and_true Bool.not_true Bool.not_false Bool.false_eq_true if_true if_false reduceCtorEq false_and and_false false_or or_false exists_false decide_true decide_false eq_self and_assoc Int.toNat_natCast tLc OT B7 OC OD OB adZ OR Tf aep aeq aeo Y2 Su SD adY ipI Ag OY YW B9 OZ Ft Fu Fv Fw Fx O1 O2 Te tFs aeu To Ti Tj Y4 Tn aet Y6 Y7 YX Ai vO".splitOn " ").toArray.mapM fun s => `(Lean.Parser.Tactic.simpLemma| $(Lean.mkIdent s.toName):ident)
  `(tactic| simp only [$ls,*, $xs,*])
noncomputable def top (i:Nat):Stmt:=PySem.Challenge.pw_heapsafe_k48_whole_drained_behind_fences.main.body.getD i (.Pass ⟨0,0,0,0⟩)
noncomputable abbrev FN:Stmt:=top 3
noncomputable abbrev FO:Stmt:=top 4
noncomputable abbrev FP:Stmt:=inClass (top 5) 0
noncomputable abbrev FQ:Stmt:=inClass (top 5) 1
noncomputable abbrev FR:Stmt:=inClass (top 5) 2
noncomputable abbrev FT:Stmt:=inClass (top 5) 3
noncomputable abbrev FU:Stmt:=inClass (top 5) 4
noncomputable abbrev FV:Stmt:=inClass (top 5) 5
noncomputable abbrev FW:Stmt:=inClass (top 6) 0
noncomputable abbrev FX:Stmt:=inClass (top 6) 1
noncomputable abbrev FY:Stmt:=inClass (top 6) 2
noncomputable abbrev FZ:Stmt:=inClass (top 7) 0
noncomputable abbrev F0:Stmt:=inClass (top 7) 1
noncomputable abbrev F1:Stmt:=top 8
noncomputable abbrev F2:Stmt:=top 9
noncomputable abbrev F4:Stmt:=top 10
noncomputable abbrev Ts:Stmt:=inClass (top 12) 0
noncomputable abbrev Zg:Stmt:=inClass (top 12) 1
noncomputable abbrev Tt:Stmt:=inClass (top 12) 2
noncomputable abbrev Tu:Stmt:=inClass (top 12) 3
noncomputable abbrev Tv:Stmt:=inClass (top 12) 4
noncomputable abbrev F5:Stmt:=inClass (top 13) 0
noncomputable abbrev F6:Stmt:=inClass (top 13) 1
noncomputable abbrev F7:Stmt:=inClass (top 14) 0
noncomputable abbrev F8:Stmt:=inClass (top 14) 1
noncomputable abbrev F9:Stmt:=inClass (top 14) 2
noncomputable abbrev F_:Stmt:=top 15
noncomputable abbrev Ga:Stmt:=inClass (top 17) 0
noncomputable abbrev Gb:Stmt:=inClass (top 17) 1
noncomputable abbrev Gd:Stmt:=inClass (top 17) 2
noncomputable abbrev Tw:Stmt:=inClass (top 17) 3
noncomputable abbrev Ge:Stmt:=inClass (top 17) 4
noncomputable abbrev Tx:Stmt:=inClass (top 17) 5
noncomputable abbrev Tz:Stmt:=inClass (top 17) 6
noncomputable abbrev j7:Stmt:=inClass (top 17) 7
noncomputable abbrev Gf:Stmt:=inClass (top 17) 8
noncomputable abbrev Gg:Stmt:=inClass (top 17) 9
noncomputable abbrev TB:Stmt:=inClass (top 17) 10
noncomputable abbrev TC:Stmt:=inClass (top 17) 11
noncomputable abbrev Gh:Stmt:=top 23
noncomputable abbrev Gi:Stmt:=top 24
noncomputable abbrev Gj:Stmt:=top 25
noncomputable abbrev Gk:Stmt:=top 26
noncomputable abbrev Gm:Stmt:=top 27
noncomputable abbrev Gn:Stmt:=top 28
noncomputable abbrev Gp:Stmt:=top 29
noncomputable abbrev Gq:Stmt:=top 30
noncomputable abbrev Gr:Stmt:=inClass (top 32) 0
noncomputable abbrev Gs:Stmt:=inClass (top 32) 1
noncomputable abbrev Gu:Stmt:=inClass (top 32) 2
noncomputable abbrev Gv:Stmt:=inClass (top 32) 3
noncomputable abbrev Gw:Stmt:=inClass (top 32) 5
noncomputable abbrev Gx:Stmt:=inClass (top 32) 6
noncomputable abbrev Gy:Stmt:=inClass (top 32) 7
noncomputable abbrev Gz:Stmt:=top 37
noncomputable abbrev GA:Stmt:=top 38
noncomputable abbrev GB:Stmt:=top 39
noncomputable abbrev GC:Stmt:=top 40
noncomputable abbrev GD:Stmt:=inClass (top 41) 0
noncomputable abbrev GF:Stmt:=inClass (top 41) 1
noncomputable abbrev GG:Stmt:=inClass (top 41) 2
noncomputable abbrev GH:Stmt:=inClass (top 41) 3
noncomputable abbrev GI:Stmt:=inClass (top 41) 4
noncomputable abbrev GJ:Stmt:=inClass (top 41) 5
noncomputable abbrev GK:Stmt:=inClass (top 41) 6
noncomputable abbrev GL:Stmt:=inClass (top 41) 7
noncomputable abbrev GN:Stmt:=inClass (top 41) 8
noncomputable abbrev GO:Stmt:=inClass (top 41) 9
noncomputable abbrev GP:Stmt:=inClass (top 41) 10
noncomputable abbrev GQ:Stmt:=inClass (top 41) 11
noncomputable abbrev GR:Stmt:=inClass (top 41) 15
noncomputable abbrev GS:Stmt:=inClass (top 41) 16
noncomputable abbrev GU:Stmt:=top 43
noncomputable abbrev GV:Stmt:=top 44
noncomputable abbrev GW:Stmt:=top 45
noncomputable abbrev GX:Stmt:=top 46
noncomputable abbrev GY:Stmt:=top 47
noncomputable abbrev GZ:Stmt:=top 48
noncomputable abbrev G0:Stmt:=top 49
noncomputable abbrev G3:Stmt:=top 50
noncomputable abbrev G4:Stmt:=top 51
noncomputable abbrev G5:Stmt:=top 52
noncomputable abbrev G6:Stmt:=top 53
noncomputable abbrev G8:Stmt:=top 54
noncomputable abbrev j8:Stmt:=top 55
theorem cK {N P:List Str}{sc:Scope}(h1:sc.kind=.function:=by rfl) (h2:sc.isCoroutine=false:=by rfl) (h3:sc.isGenerator=false:=by rfl) (h5:N.take P.length=P:=by rfl) (h:(decide N.Nodup&&(P.all (fun x=>sc.names.lookup x == some .local || sc.names.lookup x == some .cell)&&sc.names.all fun y=>y.2 != .free))=true:=by decide +kernel):ao N P sc:=by
 simp only [Bool.and_eq_true,List.all_eq_true,Bool.or_eq_true,decide_eq_true_eq,beq_iff_eq,bne_iff_ne] at h
 exact⟨h1,h2,h3,h.1,h5,h.2.1,h.2.2⟩
theorem TF:ao ["value"] ["value"] (ai FN):=cK
theorem TH:ao ["some"] ["some"] (ai FO):=cK
theorem TJ:ao ["self","sort","some"] ["self","sort","some"] (ai FP):=cK
theorem TK:ao ["self"] ["self"] (ai FQ):=cK
theorem TL:ao ["self"] ["self"] (ai FR):=cK
theorem TN:ao ["self"] ["self"] (ai FT):=cK
theorem TQ:ao ["self"] ["self"] (ai FU):=cK
theorem TR:ao ["self"] ["self"] (ai FV):=cK
theorem TU:ao ["self","some","last_words"] ["self","some","last_words"] (ai FW):=cK
theorem TV:ao ["self"] ["self"] (ai FX):=cK
theorem TX:ao ["self"] ["self"] (ai FY):=cK
theorem TY:ao ["self","key","value"] ["self","key","value"] (ai FZ):=cK
theorem TZ:ao ["self"] ["self"] (ai F0):=cK
theorem T4:ao ["fields","words"] ["fields","words"] (ai F1):=cK
theorem T5:ao ["field"] ["field"] (ai F2):=cK
theorem T6:ao ["key","value"] ["key","value"] (ai F4):=cK
theorem Zh:ao ["self","word"] ["self","word"] (ai Ts):=cK
theorem Zi:ao ["self"] ["self"] (ai Tt):=cK
theorem Zj:ao ["self"] ["self"] (ai Tu):=cK
theorem Zk:ao ["self"] ["self"] (ai Tv):=cK
theorem T7:ao ["self"] ["self"] (ai F5):=cK
theorem T8:ao ["self","was","becomes"] ["self","was","becomes"] (ai F6):=cK
theorem T9:ao ["self"] ["self"] (ai F7):=cK
theorem T_:ao ["self"] ["self"] (ai F8):=cK
theorem Ua:ao ["self","was","becomes"] ["self","was","becomes"] (ai F9):=cK
theorem Ub:ao ["word"] ["word"] (ai F_):=cK
theorem Uc:ao ["self","memory"] ["self","memory"] (ai Ga):=cK
theorem Ud:ao ["self","place"] ["self","place"] (ai Gb):=cK
theorem G9:ao ["self","places","place"] ["self","places"] (ai Gd):=cK
theorem Zl:ao ["self"] ["self"] (ai Tw):=cK
theorem G_:ao ["self","place"] ["self"] (ai Ge):=cK
theorem O4:ao ["self","pairs"] ["self"] (ai Tx):=cK
theorem Zm:ao ["self"] ["self"] (ai Tz):=cK
theorem Ha:ao ["self","places"] ["self"] (ai j7):=cK
theorem Hb:ao ["self","pairs","place"] ["self","pairs"] (ai Gf):=cK
theorem Ao:ao ["self","place","key","value"] ["self","place"] (ai Gg):=cK
theorem Zn:ao ["self"] ["self"] (ai TB):=cK
theorem Zo:ao ["self","place"] ["self","place"] (ai TC):=cK
theorem Hc:ao ["kind","marked","words","size","bare"] ["kind","marked","words","size"] (ai Gh):=cK
theorem Ue:ao ["number"] ["number"] (ai Gi):=cK
theorem Ug:ao ["number"] ["number"] (ai Gj):=cK
theorem Uh:ao ["number"] ["number"] (ai Gk):=cK
theorem Ui:ao ["number"] ["number"] (ai Gm):=cK
theorem Uj:ao ["number","marked"] ["number","marked"] (ai Gn):=cK
theorem Uk:ao ["number","words"] ["number","words"] (ai Gp):=cK
theorem Ul:ao ["number","bit","is_set"] ["number","bit","is_set"] (ai Gq):=cK
theorem Um:ao ["self","many","cells"] ["self","many","cells"] (ai Gr):=cK
theorem Ap:ao ["self","length","room","place"] ["self","length"] (ai Gs):=cK
theorem n_:ao ["self","room","length","first","free","place"] ["self","room","length"] (ai Gu):=cK
theorem Aq:ao ["self","place","some","at","value"] ["self","place","some"] (ai Gv):=cK
theorem Uo:ao ["self","place"] ["self","place"] (ai Gw):=cK
theorem Up:ao ["self","place","value"] ["self","place","value"] (ai Gx):=cK
theorem Uq:ao ["self","place"] ["self","place"] (ai Gy):=cK
theorem Ur:ao ["sort"] ["sort"] (ai Gz):=cK
theorem Us:ao ["thing"] ["thing"] (ai GA):=cK
theorem Ut:ao ["words"] ["words"] (ai GB):=cK
theorem t4:ao ["thing","serial","marked","words","head","between"] ["thing","serial","marked"] (ai GC):=cK
theorem Uu:ao ["self","many","cells"] ["self","many","cells"] (ai GD):=cK
theorem Hd:ao ["self","thing","serial","marked","place"] ["self","thing","serial","marked"] (ai GF):=cK
theorem Uv:ao ["self","place","some"] ["self","place","some"] (ai GG):=cK
theorem Uw:ao ["self","place"] ["self","place"] (ai GH):=cK
theorem Ar:ao ["self","place","sort","some"] ["self","place"] (ai GI):=cK
theorem Ux:ao ["self","place"] ["self","place"] (ai GJ):=cK
theorem Uy:ao ["self","place"] ["self","place"] (ai GK):=cK
theorem Uz:ao ["self","place"] ["self","place"] (ai GL):=cK
theorem UA:ao ["self","place"] ["self","place"] (ai GN):=cK
theorem UB:ao ["self","place"] ["self","place"] (ai GO):=cK
theorem UC:ao ["self","place","marked"] ["self","place","marked"] (ai GP):=cK
theorem UD:ao ["self","place","at","value"] ["self","place","at","value"] (ai GQ):=cK
theorem As:ao ["self","told","room"] ["self"] (ai GR):=cK
theorem UE:ao ["self","room"] ["self","room"] (ai GS):=cK
theorem UG:ao ["_law_script","_law_k"] ["_law_script","_law_k"] (ai GU):=cK
theorem oa:ao ["_law_cell","_law_sizes","_law_found","_law_number","_law_size"] ["_law_cell","_law_sizes"] (ai GV):=cK
theorem He:ao ["_law_cell","_law_free","_law_number"] ["_law_cell","_law_free"] (ai GW):=cK
theorem UH:ao ["_law_state","_law_slot","_law_value"] ["_law_state","_law_slot","_law_value"] (ai GX):=cK
theorem Hf:ao ["_law_state","_law_thing","_law_shape","_law_slot","_law_marked","_law_place"] ["_law_state","_law_thing","_law_shape","_law_slot","_law_marked"] (ai GY):=cK
theorem eT:ao ["_law_state","_law_parts","_law_marked","_law_way","_law_one","_law_two","_law_three","_law_at","_law_nothing","_law_key","_law_value"] ["_law_state","_law_parts","_law_marked"] (ai GZ):=cK
theorem jz:ao ["_law_state","_law_parts","_law_way","_law_one","_law_two","_law_three","_law_at","_law_shape"] ["_law_state","_law_parts"] (ai G0):=cK
theorem fE:ao ["_law_state","_law_parts","_law_fence","_law_marking","_law_way","_law_one","_law_two","_law_three","_law_at","_law_place","_law_value","_law_other"] ["_law_state","_law_parts","_law_fence","_law_marking"] (ai G3):=cK
theorem jA:ao ["_law_state","_law_parts","_law_fence","_law_marking","_law_way","_law_one","_law_two","_law_three","_law_at","_law_value"] ["_law_state","_law_parts","_law_fence","_law_marking"] (ai G4):=cK
theorem eV:ao ["_law_things","_law_some","_law_there","_law_place","_law_many","_law_sort","_law_fields","_law_wanted","_law_value"] ["_law_things","_law_some"] (ai G5):=cK
theorem Au:ao ["_law_state","_law_marking","_law_marked","_law_slot"] ["_law_state","_law_marking"] (ai G6):=cK
theorem Hg:ao ["_law_state","_law_ever","_law_slot"] ["_law_state","_law_ever"] (ai G8):=cK
theorem du:ao ["_law_script","_law_first","_law_state","_law_fence","_law_marking","_law_ever","_law_begun","_law_cells","_law_k","_law_slot","_law_now","_law_place"] ["_law_script"] (ai j8):=cK
set_option genInjectivity false in
set_option genSizeOfSpec false in
structure da where
 vP:Addr
 vQ:FuncData
 vR:Addr
 vS:FuncData
 rA:Addr
 vT:FuncData
 og:Addr
 vU:FuncData
 oh:Addr
 vV:FuncData
 rB:Addr
 vW:FuncData
 rC:Addr
 vX:FuncData
 rD:Addr
 vY:FuncData
 vZ:Addr
 v5:FuncData
 v7:Addr
 v8:FuncData
 v_:Addr
 wa:FuncData
 wb:Addr
 wc:FuncData
 wd:Addr
 we:FuncData
 wg:Addr
 wj:FuncData
 wk:Addr
 wm:FuncData
 wo:Addr
 wq:FuncData
 Av:Addr
 Hh:FuncData
 Dj:Addr
 LY:FuncData
 Dk:Addr
 Hi:FuncData
 Dl:Addr
 Hj:FuncData
 Dm:Addr
 Hk:FuncData
 wu:Addr
 wy:FuncData
 wz:Addr
 wA:FuncData
 wB:Addr
 wC:FuncData
 wD:Addr
 wF:FuncData
 wG:Addr
 wH:FuncData
 wI:Addr
 wJ:FuncData
 wK:Addr
 wL:FuncData
 wM:Addr
 wN:FuncData
 wO:Addr
 wQ:FuncData
 Hl:Addr
 Hm:FuncData
 wR:Addr
 wU:FuncData
 Hn:Addr
 Ho:FuncData
 Hq:Addr
 Hr:FuncData
 wW:Addr
 Cd:FuncData
 wX:Addr
 wY:FuncData
 wZ:Addr
 w4:FuncData
 Hs:Addr
 Ht:FuncData
 Hu:Addr
 Hv:FuncData
 w_:Addr
 xa:FuncData
 xc:Addr
 xf:FuncData
 xg:Addr
 xh:FuncData
 xi:Addr
 xj:FuncData
 xk:Addr
 xl:FuncData
 xm:Addr
 xn:FuncData
 xo:Addr
 xp:FuncData
 xq:Addr
 xr:FuncData
 xt:Addr
 xu:FuncData
 xv:Addr
 xw:FuncData
 xx:Addr
 xy:FuncData
 xA:Addr
 xB:FuncData
 xC:Addr
 xD:FuncData
 xE:Addr
 xF:FuncData
 xG:Addr
 xH:FuncData
 xI:Addr
 xJ:FuncData
 xK:Addr
 xM:FuncData
 xN:Addr
 xO:FuncData
 xP:Addr
 xQ:FuncData
 xR:Addr
 xS:FuncData
 xT:Addr
 xU:FuncData
 xV:Addr
 xW:FuncData
 xX:Addr
 xY:FuncData
 xZ:Addr
 x5:FuncData
 x6:Addr
 x8:FuncData
 x9:Addr
 x_:FuncData
 ya:Addr
 yb:FuncData
 yc:Addr
 yd:FuncData
 ye:Addr
 yf:FuncData
 yg:Addr
 yh:FuncData
 yi:Addr
 yj:FuncData
 yk:Addr
 yl:FuncData
 ym:Addr
 yn:FuncData
 yo:Addr
 yp:FuncData
 yq:Addr
 yr:FuncData
 yt:Addr
 yu:FuncData
 yv:Addr
 yw:FuncData
 yx:Addr
 yy:FuncData
 yz:Addr
 yA:FuncData
 yB:Addr
 yC:FuncData
 yD:Addr
 yE:FuncData
 yF:Addr
 yG:FuncData
 yH:Addr
 yI:FuncData
 yJ:Addr
 yK:FuncData
 yL:Addr
 yM:FuncData
 rE:Addr
 O5:FuncData
 bj:Addr
 ay:Addr
 aD:Addr
 gj:Addr
 a6:Addr
 a7:Addr
 a8:Addr
 bM:Addr
 aU:Addr
 dC:Addr
 fo:Tok
 gp:Tok
 fq:Tok
 fu:Tok
 eI:Addr
 fw:Tok
 gq:Tok
 jB:Addr
 cz:Addr
structure Txt (K:PySem.W.Frag) (mg:Str→Option Value) (a:da):Prop where
 Hw:a.Cd.code=.ref a.jB
 t5:PySem.W.codeHdIn K a.jB a.cz=true
 oi:cw K "is_thing" "is_thing" FN a.vP a.vQ
 O6:Binds K a.vQ ["value"] []
 O7:mg "is_thing"=some (.ref a.vP)
 ia:cw K "names_in" "names_in" FO a.vR a.vS
 rF:Binds K a.vS ["some"] []
 rG:mg "names_in"=some (.ref a.vR)
 oj:cw K "__init__" "Thing.__init__" FP a.rA a.vT
 Ce:Binds K a.vT ["self","sort","some"] []
 yN:Mk K a.bj a.rA
 ma:cw K "sort_of" "Thing.sort_of" FQ a.og a.vU
 jn:Binds K a.vU ["self"] []
 t6:Meth K a.bj "sort_of" a.og
 md:cw K "fields" "Thing.fields" FR a.oh a.vV
 om:Binds K a.vV ["self"] []
 Aw:Meth K a.bj "fields" a.oh
 oo:cw K "holds" "Thing.holds" FT a.rB a.vW
 Hx:Binds K a.vW ["self"] []
 Hy:Meth K a.bj "holds" a.rB
 oq:cw K "waits" "Thing.waits" FU a.rC a.vX
 Hz:Binds K a.vX ["self"] []
 HA:Meth K a.bj "waits" a.rC
 ot:cw K "words" "Thing.words" FV a.rD a.vY
 HB:Binds K a.vY ["self"] []
 HC:Meth K a.bj "words" a.rD
 rH:cw K "__init__" "PlainThing.__init__" FW a.vZ a.v5
 O8:Binds K a.v5 ["self","some","last_words"] []
 jo:Mk K a.ay a.vZ
 rJ:cw K "holds" "PlainThing.holds" FX a.v7 a.v8
 O9:Binds K a.v8 ["self"] []
 HD:Meth K a.ay "holds" a.v7
 rK:cw K "words" "PlainThing.words" FY a.v_ a.wa
 O_:Binds K a.wa ["self"] []
 HE:Meth K a.ay "words" a.v_
 rL:cw K "__init__" "PairThing.__init__" FZ a.wb a.wc
 Pa:Binds K a.wc ["self","key","value"] []
 j9:Mk K a.aD a.wb
 rM:cw K "waits" "PairThing.waits" F0 a.wd a.we
 Pb:Binds K a.we ["self"] []
 HG:Meth K a.aD "waits" a.wd
 me:cw K "plain" "plain" F1 a.wg a.wj
 HH:Binds K a.wj ["fields","words"] []
 HI:mg "plain"=some (.ref a.wg)
 mf:cw K "weak" "weak" F2 a.wk a.wm
 HJ:Binds K a.wm ["field"] []
 HK:mg "weak"=some (.ref a.wk)
 mh:cw K "pair" "pair" F4 a.wo a.wq
 HL:Binds K a.wq ["key","value"] []
 HM:mg "pair"=some (.ref a.wo)
 yO:cw K "__init__" "Fence.__init__" Ts a.Av a.Hh
 HN:Binds K a.Hh ["self","word"] []
 HP:Mk K a.gj a.Av
 Ax:cw K "word" "Fence.word" Zg a.Dj a.LY
 aeA:Binds K a.LY ["self"] []
 Zp:Meth K a.gj "word" a.Dj
 Ay:cw K "marks_new" "Fence.marks_new" Tt a.Dk a.Hi
 Zq:Binds K a.Hi ["self"] []
 Zr:Meth K a.gj "marks_new" a.Dk
 Az:cw K "shades_look" "Fence.shades_look" Tu a.Dl a.Hj
 Zs:Binds K a.Hj ["self"] []
 Zt:Meth K a.gj "shades_look" a.Dl
 AA:cw K "shades_open" "Fence.shades_open" Tv a.Dm a.Hk
 Zu:Binds K a.Hk ["self"] []
 Zv:Meth K a.gj "shades_open" a.Dm
 rN:cw K "shades_open" "NewFence.shades_open" F5 a.wu a.wy
 Pc:Binds K a.wy ["self"] []
 HQ:Meth K a.a6 "shades_open" a.wu
 rO:cw K "put_shades" "NewFence.put_shades" F6 a.wz a.wA
 Pd:Binds K a.wA ["self","was","becomes"] []
 HR:Meth K a.a6 "put_shades" a.wz
 rP:cw K "marks_new" "OldFence.marks_new" F7 a.wB a.wC
 Pf:Binds K a.wC ["self"] []
 HS:Meth K a.a7 "marks_new" a.wB
 rQ:cw K "shades_look" "OldFence.shades_look" F8 a.wD a.wF
 Pg:Binds K a.wF ["self"] []
 HU:Meth K a.a7 "shades_look" a.wD
 rR:cw K "put_shades" "OldFence.put_shades" F9 a.wG a.wH
 Ph:Binds K a.wH ["self","was","becomes"] []
 HV:Meth K a.a7 "put_shades" a.wG
 ou:cw K "fence_of" "fence_of" F_ a.wI a.wJ
 Pj:Binds K a.wJ ["word"] []
 Pk:mg "fence_of"=some (.ref a.wI)
 rS:cw K "__init__" "Marking.__init__" Ga a.wK a.wL
 Pl:Binds K a.wL ["self","memory"] []
 ow:Mk K a.a8 a.wK
 rT:cw K "shade" "Marking.shade" Gb a.wM a.wN
 rV:Binds K a.wN ["self","place"] []
 lF:Meth K a.a8 "shade" a.wM
 rW:cw K "shade_all" "Marking.shade_all" Gd a.wO a.wQ
 HW:Binds K a.wQ ["self","places"] []
 AB:Meth K a.a8 "shade_all" a.wO
 Dp:cw K "has_grey" "Marking.has_grey" Tw a.Hl a.Hm
 UI:Binds K a.Hm ["self"] []
 HX:Meth K a.a8 "has_grey" a.Hl
 rX:cw K "step" "Marking.step" Ge a.wR a.wU
 HY:Binds K a.wU ["self"] []
 AD:Meth K a.a8 "step" a.wR
 Dq:cw K "drain" "Marking.drain" Tx a.Hn a.Ho
 Zw:Binds K a.Ho ["self"] []
 Pm:Meth K a.a8 "drain" a.Hn
 Dr:cw K "empty_row" "Marking.empty_row" Tz a.Hq a.Hr
 UJ:Binds K a.Hr ["self"] []
 HZ:Meth K a.a8 "empty_row" a.Hq
 mi:cw K "pairs_by_serial" "Marking.pairs_by_serial" j7 a.wW a.Cd
 Pn:Binds K a.Cd ["self"] []
 H_:Meth K a.a8 "pairs_by_serial" a.wW
 rY:cw K "shade_values" "Marking.shade_values" Gf a.wX a.wY
 Ia:Binds K a.wY ["self","pairs"] []
 AE:Meth K a.a8 "shade_values" a.wX
 rZ:cw K "shade_value" "Marking.shade_value" Gg a.wZ a.w4
 Po:Binds K a.w4 ["self","place"] []
 Ib:Meth K a.a8 "shade_value" a.wZ
 Ds:cw K "grey" "Marking.grey" TB a.Hs a.Ht
 LZ:Binds K a.Ht ["self"] []
 Cf:Meth K a.a8 "grey" a.Hs
 Dt:cw K "colour_of" "Marking.colour_of" TC a.Hu a.Hv
 Zx:Binds K a.Hv ["self","place"] []
 Pp:Meth K a.a8 "colour_of" a.Hu
 oy:cw K "header" "header" Gh a.w_ a.xa
 Pq:Binds K a.xa ["kind","marked","words","size"] []
 Pt:mg "header"=some (.ref a.w_)
 oz:cw K "kind_in" "kind_in" Gi a.xc a.xf
 Pu:Binds K a.xf ["number"] []
 Pw:mg "kind_in"=some (.ref a.xc)
 oA:cw K "size_in" "size_in" Gj a.xg a.xh
 Px:Binds K a.xh ["number"] []
 Py:mg "size_in"=some (.ref a.xg)
 oB:cw K "is_marked" "is_marked" Gk a.xi a.xj
 Pz:Binds K a.xj ["number"] []
 PD:mg "is_marked"=some (.ref a.xi)
 oC:cw K "has_words" "has_words" Gm a.xk a.xl
 PF:Binds K a.xl ["number"] []
 PH:mg "has_words"=some (.ref a.xk)
 mj:cw K "with_mark" "with_mark" Gn a.xm a.xn
 Ic:Binds K a.xn ["number","marked"] []
 Ie:mg "with_mark"=some (.ref a.xm)
 oE:cw K "with_words" "with_words" Gp a.xo a.xp
 PJ:Binds K a.xp ["number","words"] []
 PK:mg "with_words"=some (.ref a.xo)
 ml:cw K "with_bit" "with_bit" Gq a.xq a.xr
 Ig:Binds K a.xr ["number","bit","is_set"] []
 Ih:mg "with_bit"=some (.ref a.xq)
 r8:cw K "__init__" "Rooms.__init__" Gr a.xt a.xu
 PL:Binds K a.xu ["self","many","cells"] []
 yP:Mk K a.bM a.xt
 r_:cw K "gap" "Rooms.gap" Gs a.xv a.xw
 PM:Binds K a.xw ["self","length"] []
 Ii:Meth K a.bM "gap" a.xv
 se:cw K "gap_in" "Rooms.gap_in" Gu a.xx a.xy
 PN:Binds K a.xy ["self","room","length"] []
 Ij:Meth K a.bM "gap_in" a.xx
 sg:cw K "fill_in" "Rooms.fill_in" Gv a.xA a.xB
 PQ:Binds K a.xB ["self","place","some"] []
 Ik:Meth K a.bM "fill_in" a.xA
 si:cw K "read" "Rooms.read" Gw a.xC a.xD
 yQ:Binds K a.xD ["self","place"] []
 oF:Meth K a.bM "read" a.xC
 sj:cw K "write" "Rooms.write" Gx a.xE a.xF
 Il:Binds K a.xF ["self","place","value"] []
 AF:Meth K a.bM "write" a.xE
 sk:cw K "room_of" "Rooms.room_of" Gy a.xG a.xH
 Im:Binds K a.xH ["self","place"] []
 AG:Meth K a.bM "room_of" a.xG
 j_:cw K "first_field" "first_field" Gz a.xI a.xJ
 Ci:Binds K a.xJ ["sort"] []
 Cj:mg "first_field"=some (.ref a.xI)
 mq:cw K "size_of" "size_of" GA a.xK a.xM
 Io:Binds K a.xM ["thing"] []
 Ip:mg "size_of"=some (.ref a.xK)
 oG:cw K "words_cell" "words_cell" GB a.xN a.xO
 PR:Binds K a.xO ["words"] []
 PU:mg "words_cell"=some (.ref a.xN)
 oH:cw K "cells_of" "cells_of" GC a.xP a.xQ
 PV:Binds K a.xQ ["thing","serial","marked"] []
 PX:mg "cells_of"=some (.ref a.xP)
 so:cw K "__init__" "Memory.__init__" GD a.xR a.xS
 PY:Binds K a.xS ["self","many","cells"] []
 sr:Mk K a.aU a.xR
 su:cw K "put_in" "Memory.put_in" GF a.xT a.xU
 PZ:Binds K a.xU ["self","thing","serial","marked"] []
 Iq:Meth K a.aU "put_in" a.xT
 sv:cw K "fill_from" "Memory.fill_from" GG a.xV a.xW
 P0:Binds K a.xW ["self","place","some"] []
 Ir:Meth K a.aU "fill_from" a.xV
 sx:cw K "head_at" "Memory.head_at" GH a.xX a.xY
 sy:Binds K a.xY ["self","place"] []
 lG:Meth K a.aU "head_at" a.xX
 sA:cw K "thing_at" "Memory.thing_at" GI a.xZ a.x5
 Iu:Binds K a.x5 ["self","place"] []
 AH:Meth K a.aU "thing_at" a.xZ
 sC:cw K "words_at" "Memory.words_at" GJ a.x6 a.x8
 P1:Binds K a.x8 ["self","place"] []
 Iv:Meth K a.aU "words_at" a.x6
 sE:cw K "serial_at" "Memory.serial_at" GK a.x9 a.x_
 P2:Binds K a.x_ ["self","place"] []
 Iw:Meth K a.aU "serial_at" a.x9
 sF:cw K "size_at" "Memory.size_at" GL a.ya a.yb
 P4:Binds K a.yb ["self","place"] []
 Iy:Meth K a.aU "size_at" a.ya
 sH:cw K "sort_at" "Memory.sort_at" GN a.yc a.yd
 Ck:Binds K a.yd ["self","place"] []
 t7:Meth K a.aU "sort_at" a.yc
 sI:cw K "marked_at" "Memory.marked_at" GO a.ye a.yf
 sJ:Binds K a.yf ["self","place"] []
 lH:Meth K a.aU "marked_at" a.ye
 sL:cw K "set_mark" "Memory.set_mark" GP a.yg a.yh
 P5:Binds K a.yh ["self","place","marked"] []
 Iz:Meth K a.aU "set_mark" a.yg
 sM:cw K "set_field" "Memory.set_field" GQ a.yi a.yj
 P6:Binds K a.yj ["self","place","at","value"] []
 IA:Meth K a.aU "set_field" a.yi
 sN:cw K "places" "Memory.places" GR a.yk a.yl
 P7:Binds K a.yl ["self"] []
 IB:Meth K a.aU "places" a.yk
 sO:cw K "places_in" "Memory.places_in" GS a.ym a.yn
 P8:Binds K a.yn ["self","room"] []
 IC:Meth K a.aU "places_in" a.ym
 oI:cw K "_law_cell_at" "_law_cell_at" GU a.yo a.yp
 P9:Binds K a.yp ["_law_script","_law_k"] []
 P_:mg "_law_cell_at"=some (.ref a.yo)
 oJ:cw K "_law_cut" "_law_cut" GV a.yq a.yr
 Qa:Binds K a.yr ["_law_cell","_law_sizes"] []
 Qb:mg "_law_cut"=some (.ref a.yq)
 oK:cw K "_law_cell_by" "_law_cell_by" GW a.yt a.yu
 Qc:Binds K a.yu ["_law_cell","_law_free"] []
 Qd:mg "_law_cell_by"=some (.ref a.yt)
 oM:cw K "_law_give" "_law_give" GX a.yv a.yw
 Qf:Binds K a.yw ["_law_state","_law_slot","_law_value"] []
 Qg:mg "_law_give"=some (.ref a.yv)
 ka:cw K "_law_made" "_law_made" GY a.yx a.yy
 Cm:Binds K a.yy ["_law_state","_law_thing","_law_shape","_law_slot","_law_marked"] []
 Cn:mg "_law_made"=some (.ref a.yx)
 oN:cw K "_law_new" "_law_new" GZ a.yz a.yA
 Qh:Binds K a.yA ["_law_state","_law_parts","_law_marked"] []
 Qi:mg "_law_new"=some (.ref a.yz)
 oO:cw K "_law_brought" "_law_brought" G0 a.yB a.yC
 Qj:Binds K a.yC ["_law_state","_law_parts"] []
 Qk:mg "_law_brought"=some (.ref a.yB)
 oP:cw K "_law_put" "_law_put" G3 a.yD a.yE
 Ql:Binds K a.yE ["_law_state","_law_parts","_law_fence","_law_marking"] []
 Qm:mg "_law_put"=some (.ref a.yD)
 oQ:cw K "_law_deed" "_law_deed" G4 a.yF a.yG
 Qn:Binds K a.yG ["_law_state","_law_parts","_law_fence","_law_marking"] []
 Qo:mg "_law_deed"=some (.ref a.yF)
 mw:cw K "_law_closing" "_law_closing" G5 a.yH a.yI
 ID:Binds K a.yI ["_law_things","_law_some"] []
 IE:mg "_law_closing"=some (.ref a.yH)
 oR:cw K "_law_all_held" "_law_all_held" G6 a.yJ a.yK
 Qp:Binds K a.yK ["_law_state","_law_marking"] []
 Qq:mg "_law_all_held"=some (.ref a.yJ)
 mx:cw K "_law_more" "_law_more" G8 a.yL a.yM
 IF:Binds K a.yM ["_law_state","_law_ever"] []
 IG:mg "_law_more"=some (.ref a.yL)
 my:cw K "law" "law" j8 a.rE a.O5
 Zy:mg "law"=some (.ref a.rE)
 cj:Meth K a.ay "sort_of" a.og
 dg:Meth K a.ay "fields" a.oh
 eB:Meth K a.ay "waits" a.rC
 cC:Meth K a.aD "sort_of" a.og
 dv:Meth K a.aD "fields" a.oh
 eW:Meth K a.aD "holds" a.rB
 eX:Meth K a.aD "words" a.rD
 ib:Mk K a.a6 a.Av
 lI:Meth K a.a6 "word" a.Dj
 dS:Meth K a.a6 "marks_new" a.Dk
 dD:Meth K a.a6 "shades_look" a.Dl
 ic:Mk K a.a7 a.Av
 lJ:Meth K a.a7 "word" a.Dj
 dE:Meth K a.a7 "shades_open" a.Dm
 fF:OU K a.bj "__init__" a.rA
 dh:nz K a.bj
 kb:mg "Thing"=some (.ref a.bj)
 c5:bL K a.bj "called"
 dj:bL K a.bj "parts"
 aW:nz K a.ay
 jq:mg "PlainThing"=some (.ref a.ay)
 bP:bL K a.ay "called"
 bH:bL K a.ay "parts"
 bu:bL K a.ay "last_words"
 bp:nz K a.aD
 kd:mg "PairThing"=some (.ref a.aD)
 bV:bL K a.aD "called"
 bB:bL K a.aD "parts"
 IH:nz K a.gj
 II:mg "Fence"=some (.ref a.gj)
 dF:nz K a.a6
 ie:mg "NewFence"=some (.ref a.a6)
 cY:bL K a.a6 "called"
 dG:nz K a.a7
 ig:mg "OldFence"=some (.ref a.a7)
 cZ:bL K a.a7 "called"
 av:nz K a.a8
 oS:mg "Marking"=some (.ref a.a8)
 aG:bL K a.a8 "memory"
 aK:bL K a.a8 "grey_places"
 bw:nz K a.bM
 yR:mg "Rooms"=some (.ref a.bM)
 dz:bL K a.bM "many"
 cS:bL K a.bM "cells"
 bz:bL K a.bM "inside"
 ax:nz K a.aU
 sP:mg "Memory"=some (.ref a.aU)
 aL:bL K a.aU "rooms"
 bq:bL K a.aU "begins"
 sQ:mg "NOTHING"=some (.ref a.dC)
 Du:∃o,K.lookup a.dC=some o∧o.cls=.type "tuple"∧o.dict=none
 sR:∀H:Hp,bU K H a.dC [.str "nothing"]
 mz:mg "KIND_BITS"=some (.int 3 a.fo)
 jC:mg "MARK_BIT"=some (.int 4 a.gp)
 ik:mg "WORDS_BIT"=some (.int 8 a.fq)
 il:mg "SIZE_FROM"=some (.int 4 a.fu)
 t8:mg "SORTS"=some (.ref a.eI)
 Co:∃o,K.lookup a.eI=some o∧o.cls=.type "tuple"∧o.dict=none
 t9:∀H:Hp,bU K H a.eI [.str "plain",.str "weak",.str "pair"]
 mB:mg "SERIAL_AT"=some (.int 1 a.fw)
 oU:mg "WORDS_AT"=some (.int 2 a.gq)
 yS:mg "abs"=none
 fz:mg "enumerate"=none
 Cp:mg "int"=none
 eC:mg "len"=none
 ip:mg "list"=none
 eJ:mg "range"=none
 eY:mg "sorted"=none
noncomputable def c_ (xs:List V) (p L:Nat):Prop:=∀j,j < L→xs[p+j]?=some V.aP
noncomputable def Fits (xs:List V) (c L p:Nat):Prop:=p+L≤xs.length∧p / c=(p+L - 1) / c∧c_ xs p L
noncomputable def yT (xs:List V) (c L:Nat):Option Nat→Prop
 | none=>∀p,¬Fits xs c L p
 | some p=>Fits xs c L p∧∀q,q < p→¬Fits xs c L q
theorem sS {xs:List V}{c L p r:Nat}(hc:0 < c) (hL:0 < L) (h:Fits xs c L p) (hr:p / c=r):r*c≤p∧p+L≤r*c+c:=by
 obtain⟨_,e,_⟩:=h
 have h1:c*(p / c)≤p:=Nat.mul_div_le p c
 have h2:p+L - 1 < c*((p+L - 1) / c+1):=Nat.lt_mul_div_succ _ hc
 rw [←e,hr,Nat.mul_add,Nat.mul_one] at h2
 rw [hr] at h1
 rw [Nat.mul_comm r c]
 constructor <;> omega
theorem Dv {xs:List V}{c L p r m:Nat}(hc:0 < c) (hL:0 < L) (hx:xs.length=m*c) (hr:r < m) (h1:r*c≤p) (h2:p+L≤r*c+c) (h:c_ xs p L):Fits xs c L p:=by
 have e1:p / c=r:=by
  apply Nat.div_eq_of_lt_le <;> (try rw [Nat.succ_mul]) <;> omega
 have e2:(p+L - 1) / c=r:=by
  apply Nat.div_eq_of_lt_le <;> (try rw [Nat.succ_mul]) <;> omega
 refine⟨?_,by rw [e1,e2],h⟩
 have:(r+1)*c≤m*c:=Nat.mul_le_mul_right c hr
 rw [Nat.succ_mul] at this
 omega
structure iq (xs:List V) (b i f L:Nat):Prop where
 le:f≤i
 lt:f < L
 free:∀j,j < f→xs[b+i - 1 - j]?=some V.aP
 stop:f < i→∃v,xs[b+i - 1 - f]?=some v∧v≠V.aP
 no:∀p,b≤p→p+L≤b+i→¬c_ xs p L
theorem iq.zero {xs:List V}{b L:Nat}(hL:0 < L):iq xs b 0 0 L:=
 ⟨Nat.le_refl _,hL,fun j h=>absurd h (Nat.not_lt_zero _),fun h=>absurd h (Nat.lt_irrefl _),fun p h1 h2 _=>by omega⟩
theorem iq.Dw {xs:List V}{b i f L:Nat}(h:iq xs b i f L) (hx:xs[b+i]?=some V.aP) (tQ:f+1≠L):iq xs b (i+1) (f+1) L where
 le:=by have:=h.le; omega
 lt:=by have:=h.lt; omega
 free:=fun j hj=>by
  cases j with
  | zero=>simpa using hx
  | succ k=>
   have e:b+(i+1) - 1 - (k+1)=b+i - 1 - k:=by omega
   rw [e]
   exact h.free k (by omega)
 stop:=fun hf=>by
  have e:b+(i+1) - 1 - (f+1)=b+i - 1 - f:=by omega
  rw [e]
  exact h.stop (by omega)
 no:=fun p h1 h2 ha=>by
  by_cases hp:p+L≤b+i
  ·exact h.no p h1 hp ha
  ·have hle:=h.le
   have fg:=h.lt
   have hf:f < i:=by omega
   obtain⟨v,hv,hn⟩:=h.stop hf
   have:=ha (b+i - 1 - f - p) (by omega)
   have e:p+(b+i - 1 - f - p)=b+i - 1 - f:=by omega
   rw [e,hv] at this
   exact hn (Option.some.inj this)
theorem iq.Dx {xs:List V}{b i f L:Nat}{v:V}(h:iq xs b i f L) (hx:xs[b+i]?=some v) (hv:v≠V.aP):iq xs b (i+1) 0 L where
 le:=Nat.zero_le _
 lt:=by have:=h.lt; omega
 free:=fun j hj=>absurd hj (Nat.not_lt_zero _)
 stop:=fun _=>⟨v,by simpa using hx,hv⟩
 no:=fun p h1 h2 ha=>by
  by_cases hp:p+L≤b+i
  ·exact h.no p h1 hp ha
  ·have fg:=h.lt
   have:=ha (b+i - p) (by omega)
   have e:p+(b+i - p)=b+i:=by omega
   rw [e,hx] at this
   exact hv (Option.some.inj this)
theorem iq.found {xs:List V}{b i f L:Nat}(h:iq xs b i f L) (hx:xs[b+i]?=some V.aP) (he:f+1=L):b≤b+i+1 - L∧c_ xs (b+i+1 - L) L∧∀p,b≤p→p < b+i+1 - L→¬c_ xs p L:=by
 have hle:=h.le
 refine⟨by omega,fun j hj=>?_,fun p h1 h2=>h.no p h1 (by omega)⟩
 by_cases hj2:j=f
 ·have e:b+i+1 - L+j=b+i:=by omega
  rw [e]
  exact hx
 ·have:=h.free (f - 1 - j) (by omega)
  have e:b+i - 1 - (f - 1 - j)=b+i+1 - L+j:=by omega
  rw [e] at this
  exact this
noncomputable def cF:List V→Nat→List V→List V
 | xs,_,[]=>xs
 | xs,p,y::ys=>cF (xs.set p y) (p+1) ys
theorem d4:∀(ys xs:List V) (p:Nat),(cF xs p ys).length=xs.length
 | [],_,_=>rfl
 | y::ys,xs,p=>by rw [cF,d4 ys,List.length_set]
theorem mC (y:V):∀(ys xs:List V) (p:Nat),(cF xs p ys).set (p+ys.length) y=cF xs p (ys++[y])
 | [],_,_=>rfl
 | z::ys,xs,p=>by
  rw [List.cons_append,cF,cF,←mC y ys,List.length_cons]
  congr 1
  omega
theorem yU {ys xs:List V}{p i:Nat}{y:V}(h:ys[i]?=some y):(cF xs p (ys.take i)).set (p+i) y=cF xs p (ys.take (i+1)):=by
 obtain⟨fg,e⟩:=List.getElem?_eq_some_iff.mp h
 have hl:(ys.take i).length=i:=by rw [List.length_take]; omega
 have:=mC y (ys.take i) xs p
 rw [hl] at this
 rw [this,List.take_succ_eq_append_getElem fg,e]
theorem Dy {xs:List V}{c m L i q:Nat}(hc:0 < c) (hL:0 < L) (hx:xs.length=m*c) (hi:i < m) (inv:∀r,r < i→∀p,r*c≤p→p+L≤r*c+c→¬c_ xs p L)
  (h1:i*c≤q) (h2:q+L≤i*c+c) (ha:c_ xs q L) (least:∀p,i*c≤p→p < q→¬c_ xs p L):yT xs c L (some q):=by
 refine⟨Dv hc hL hx hi h1 h2 ha,fun p hp hf=>?_⟩
 obtain⟨a1,a2⟩:=sS hc hL hf rfl
 by_cases hr:p / c < i
 ·exact inv _ hr p a1 a2 hf.2.2
 ·have:i*c≤p / c*c:=Nat.mul_le_mul_right c (by omega)
  exact least p (by omega) hp hf.2.2
theorem IJ {xs:List V}{c m L:Nat}(hc:0 < c) (hL:0 < L) (hx:xs.length=m*c) (inv:∀r,r < m→∀p,r*c≤p→p+L≤r*c+c→¬c_ xs p L):yT xs c L none:=by
 intro p hf
 obtain⟨a1,a2⟩:=sS hc hL hf rfl
 refine inv (p / c) ?_ p a1 a2 hf.2.2
 have h1:=hf.1
 rw [hx] at h1
 rw [Nat.div_lt_iff_lt_mul hc]
 omega
theorem gr:∀(ys xs:List V) (p j:Nat),(j < p∨p+ys.length≤j)→(cF xs p ys)[j]?=xs[j]?
 | [],_,_,_,_=>rfl
 | y::ys,xs,p,j,h=>by
  rw [List.length_cons] at h
  rw [cF,gr ys _ _ j (by omega),List.getElem?_set_ne (by omega)]
theorem sT:∀(ys xs:List V) (p i:Nat) (v:V),p+ys.length≤xs.length→ys[i]?=some v→(cF xs p ys)[p+i]?=some v
 | [],_,_,_,_,_,h=>by simp at h
 | y::ys,xs,p,0,v,hl,h=>by
  simp at h
  subst h
  rw [List.length_cons] at hl
  rw [cF,gr ys _ _ _ (.inl (by omega)),Nat.add_zero,List.getElem?_set_self (by omega)]
 | y::ys,xs,p,i+1,v,hl,h=>by
  rw [List.length_cons] at hl
  have:=sT ys (xs.set p y) (p+1) i v (by rw [List.length_set]; omega) (by simpa using h)
  rw [cF,show p+(i+1)=p+1+i by omega]
  exact this
structure Lay (xs:List V) (c:Nat) (es:List (Nat×List V)):Prop where
 one:∀b∈es,0 < b.2.length∧b.1 / c=(b.1+b.2.length - 1) / c
 at_:∀b∈es,∀(i:Nat) v,b.2[i]?=some v→v≠.aP∧xs[b.1+i]?=some v
 full:∀(j:Nat) v,xs[j]?=some v→v≠.aP→∃b∈es,b.1≤j∧j < b.1+b.2.length
 Qr:es.Pairwise fun b d=>b.1+b.2.length≤d.1∨d.1+d.2.length≤b.1
theorem Lay.nil (n c:Nat):Lay (List.replicate n V.aP) c [] where
 one:=fun b hb=>(nomatch hb)
 at_:=fun b hb=>(nomatch hb)
 full:=fun j v h hv=>absurd (List.eq_of_mem_replicate (List.mem_of_getElem? h)) hv
 Qr:=.nil
theorem Lay.le {xs:List V}{c:Nat}{es:List (Nat×List V)}(L:Lay xs c es) {b:Nat×List V}(hb:b∈es):b.1+b.2.length≤xs.length:=by
 have h0:=(L.one b hb).1
 have:=(L.at_ b hb (b.2.length - 1) _ (List.getElem?_eq_getElem (by omega))).2
 have:=(List.getElem?_eq_some_iff.mp this).1
 omega
theorem Lay.apart {xs:List V}{c:Nat}{es:List (Nat×List V)}(L:Lay xs c es) {b:Nat×List V}(hb:b∈es) {g n:Nat}(h:c_ xs g n) (hn:0 < n):b.1+b.2.length≤g∨g+n≤b.1:=by
 have h0:=(L.one b hb).1
 by_cases h1:b.1+b.2.length≤g
 ·exact .inl h1
 ·by_cases h2:g+n≤b.1
  ·exact .inr h2
  ·exfalso
   have key:∀i j,i < b.2.length→j < n→b.1+i=g+j→False:=fun i j hi hj e=>by
    obtain⟨hv,hx⟩:=L.at_ b hb i _ (List.getElem?_eq_getElem hi)
    have:=h j hj
    rw [←e,hx] at this
    exact hv (Option.some.inj this)
   by_cases h3:b.1≤g
   ·exact key (g - b.1) 0 (by omega) hn (by omega)
   ·exact key 0 (b.1 - g) h0 (by omega) (by omega)
theorem Lay.put {xs:List V}{c:Nat}{es:List (Nat×List V)}(L:Lay xs c es) {g:Nat}{ys:List V}(F:Fits xs c ys.length g) (h0:0 < ys.length) (hn:∀v∈ys,v≠.aP):Lay (cF xs g ys) c (es++[(g,ys)]) where
 one:=fun b hb=>by
  rcases List.mem_append.mp hb with h | h
  ·exact L.one b h
  ·rw [List.mem_singleton.mp h]
   exact⟨h0,F.2.1⟩
 at_:=fun b hb i v hv=>by
  rcases List.mem_append.mp hb with h | h
  ·obtain⟨h1,h2⟩:=L.at_ b h i v hv
   refine⟨h1,?_⟩
   have hi:=(List.getElem?_eq_some_iff.mp hv).1
   rw [gr]
   ·exact h2
   ·rcases L.apart h F.2.2 h0 with z | z
    ·exact .inl (by omega)
    ·exact .inr (by omega)
  ·rw [List.mem_singleton.mp h] at hv ⊢
   exact⟨hn v (List.mem_of_getElem? hv),sT ys xs g i v F.1 hv⟩
 full:=fun j v hj hv=>by
  by_cases h:j < g∨g+ys.length≤j
  ·rw [gr _ _ _ _ h] at hj
   obtain⟨b,hb,h1⟩:=L.full j v hj hv
   exact⟨b,List.mem_append_left _ hb,h1⟩
  ·exact⟨(g,ys),List.mem_append_right _ (List.mem_singleton.mpr rfl),by dsimp only; omega,by dsimp only; omega⟩
 Qr:=by
  rw [List.pairwise_append]
  refine⟨L.Qr,by simp,fun b hb d hd=>?_⟩
  rw [List.mem_singleton.mp hd]
  exact L.apart hb F.2.2 h0
theorem Lay.same {xs:List V}{c:Nat}{es:List (Nat×List V)}(L:Lay xs c es) {b d:Nat×List V}(hb:b∈es) (hd:d∈es) (e:b.1=d.1):b=d:=by
 have h:=L.Qr
 have hb0:=(L.one b hb).1
 have hd0:=(L.one d hd).1
 have:es.Pairwise fun x y=>x∈es→y∈es→x.1=y.1→x=y:=h.imp_of_mem (fun {x y} hx hy hxy _ _ e=>by
  have h1:=(L.one x hx).1
  have h2:=(L.one y hy).1
  omega)
 by_cases z:b=d
 ·exact z
 ·exfalso
  rcases List.mem_iff_getElem.mp hb with ⟨i,hi,ei⟩
  rcases List.mem_iff_getElem.mp hd with ⟨j,hj,ej⟩
  rcases Nat.lt_trichotomy i j with q | q | q
  ·have:=List.pairwise_iff_getElem.mp h i j hi hj q
   rw [ei,ej] at this
   omega
  ·subst q
   exact z (ei.symm.trans ej)
  ·have:=List.pairwise_iff_getElem.mp h j i hj hi q
   rw [ei,ej] at this
   omega
theorem Lay.set {xs:List V}{c:Nat}{es:List (Nat×List V)}(L:Lay xs c es) {b:Nat×List V}(hb:b∈es) {i:Nat}{v:V}(hi:i < b.2.length) (hv:v≠.aP) :
  Lay (xs.set (b.1+i) v) c (es.map fun d=>if d.1=b.1 then(d.1,d.2.set i v)else d):=by
 have hl:=L.le hb
 have len:∀d:Nat×List V,(if d.1=b.1 then(d.1,d.2.set i v)else d).1=d.1∧(if d.1=b.1 then(d.1,d.2.set i v)else d).2.length=d.2.length:=fun d=>by
  split
  ·exact⟨rfl,List.length_set⟩
  ·exact⟨rfl,rfl⟩
 refine⟨fun d hd=>?_,fun d hd k u hu=>?_,fun j u hj hu=>?_,?_⟩
 ·obtain⟨e,he,rfl⟩:=List.mem_map.mp hd
  rw [(len e).1,(len e).2]
  exact L.one e he
 ·obtain⟨e,he,rfl⟩:=List.mem_map.mp hd
  by_cases z:e.1=b.1
  ·have:=L.same he hb z
   subst this
   rw [if_pos rfl] at hu ⊢
   dsimp only at hu ⊢
   by_cases y:i=k
   ·subst y
    rw [List.getElem?_set_self hi] at hu
    cases hu
    exact⟨hv,by rw [List.getElem?_set_self (by omega)]⟩
   ·rw [List.getElem?_set_ne y] at hu
    rw [List.getElem?_set_ne (by omega)]
    exact L.at_ e he k u hu
  ·rw [if_neg z] at hu ⊢
   obtain⟨h1,h2⟩:=L.at_ e he k u hu
   refine⟨h1,?_⟩
   rw [List.getElem?_set_ne,h2]
   intro q
   have hk:=(List.getElem?_eq_some_iff.mp hu).1
   rcases List.mem_iff_getElem.mp hb with ⟨m,hm,em⟩
   rcases List.mem_iff_getElem.mp he with ⟨j,hj,ej⟩
   rcases Nat.lt_trichotomy m j with w | w | w
   ·have:=List.pairwise_iff_getElem.mp L.Qr m j hm hj w
    rw [em,ej] at this
    omega
   ·subst w
    rw [em] at ej
    exact z (by rw [ej])
   ·have:=List.pairwise_iff_getElem.mp L.Qr j m hj hm w
    rw [em,ej] at this
    omega
 ·by_cases y:b.1+i=j
  ·refine⟨_,List.mem_map.mpr ⟨b,hb,rfl⟩,?_⟩
   rw [(len b).1,(len b).2]
   omega
  ·rw [List.getElem?_set_ne y] at hj
   obtain⟨d,hd,h1⟩:=L.full j u hj hu
   refine⟨_,List.mem_map.mpr ⟨d,hd,rfl⟩,?_⟩
   rw [(len d).1,(len d).2]
   exact h1
 ·rw [List.pairwise_map]
  refine L.Qr.imp fun {x y} h=>?_
  rw [(len x).1,(len x).2,(len y).1,(len y).2]
  exact h
section
variable {P:Program}{w:World}{K:PySem.W.Frag}{mg:Str→Option Value}{base:Heap}{a:da}
noncomputable def oV (n b:Int) (z:Bool):Int:=if z=true then Builtin.bitOr n b else n - Builtin.bitAnd n b
noncomputable def hd (k:Int) (m w:Bool) (z:Int):Int:=k+16*z+(if m=true then 4 else 0)+(if w=true then 8 else 0)
theorem Qs (n:Int) (z:Bool):oV n 4 z=n - n / 4 % 2*4+(if z=true then 4 else 0):=by
 unfold oV
 cases z
 ·rw [if_neg Bool.false_ne_true,if_neg Bool.false_ne_true,nX]; omega
 ·rw [if_pos rfl,if_pos rfl,Lw]; omega
theorem Zz (n:Int) (z:Bool):oV n 8 z=n - n / 8 % 2*8+(if z=true then 8 else 0):=by
 unfold oV
 cases z
 ·rw [if_neg Bool.false_ne_true,if_neg Bool.false_ne_true,nY]; omega
 ·rw [if_pos rfl,if_pos rfl,Lx]; omega
theorem L0 {k z:Int}(m w:Bool) (h0:0≤k) (h1:k < 3) (hz:0≤z):oV (oV (Builtin.bitOr k (z*16)) 4 m) 8 w=hd k m w z:=by
 rw [EZ h0 (by omega) hz,Zz,Qs]
 unfold hd
 cases m <;> cases w <;> simp only [if_true,Bool.false_eq_true,if_false] <;> omega
theorem L1 {k z:Int}{m w:Bool}(h0:0≤k) (h1:k < 3):hd k m w z % 4=k:=by
 unfold hd
 cases m <;> cases w <;> simp only [if_true,Bool.false_eq_true,if_false] <;> omega
theorem L3 {k z:Int}{m w:Bool}(h0:0≤k) (h1:k < 3):hd k m w z / 16=z:=by
 unfold hd
 cases m <;> cases w <;> simp only [if_true,Bool.false_eq_true,if_false] <;> omega
theorem L4 {k z:Int}{m w:Bool}(h0:0≤k) (h1:k < 3):decide (hd k m w z / 4 % 2=1)=m:=by
 unfold hd
 cases m <;> cases w <;> simp only [if_true,Bool.false_eq_true,if_false,decide_eq_true_eq,decide_eq_false_iff_not] <;> omega
theorem IK {k z:Int}{m w:Bool}(h0:0≤k) (h1:k < 3):decide (hd k m w z / 8 % 2=1)=w:=by
 unfold hd
 cases m <;> cases w <;> simp only [if_true,Bool.false_eq_true,if_false,decide_eq_true_eq,decide_eq_false_iff_not] <;> omega
theorem UK {k z:Int}(m w y:Bool) (h0:0≤k) (h1:k < 3):oV (hd k m w z) 4 y=hd k y w z:=by
 rw [Qs]
 unfold hd
 cases m <;> cases w <;> cases y <;> simp only [if_true,Bool.false_eq_true,if_false] <;> omega
theorem L5 (n:Int):(!decide (V.int (Builtin.bitAnd n 4)=V.int 0))=decide (n / 4 % 2=1):=by
 rw [nX]
 by_cases h:n / 4 % 2=1
 ·rw [h]; rfl
 ·have e:n / 4 % 2=0:=by omega
  rw [e]; rfl
theorem L6 (n:Int):(!decide (V.int (Builtin.bitAnd n 8)=V.int 0))=decide (n / 8 % 2=1):=by
 rw [nY]
 by_cases h:n / 8 % 2=1
 ·rw [h]; rfl
 ·have e:n / 8 % 2=0:=by omega
  rw [e]; rfl
theorem UL {z:Int}(h0:0≤z) (h:z < 10 ^ 60):z.natAbs < 2 ^ 1000:=by
 have e:z.natAbs < 10 ^ 60:=by
  have e2:(z.natAbs:Int) < ((10 ^ 60:Nat):Int):=by rw [Int.natAbs_of_nonneg h0]; exact h
  exact Int.ofNat_lt.mp e2
 exact Nat.lt_trans e (by decide +kernel)
noncomputable def UM:Sp:=fun vs H Q _=>∃n b z,vs=[.int n,.int b,.bl z]∧Q (.int (oV n b z)) H
theorem IL (T:Txt K mg a):aN P w K mg base cx 1 a.xq a.xr ["number","bit","is_set"] UM:=by
 refine T.ml.ok Ul (fun vs H Q E h=>?_) (fun bI A outer s H vs Q E hr h=>?_)
 ·obtain⟨_,_,_,rfl,_⟩:=h
  rfl
 ·obtain⟨n,b,z,rfl,q⟩:=h
  refine⟨_,(af (aw (dy (dH (pv 2)) (bt OG (pv 0) (pv 1)) (bt EC (pv 0) (bt tF (pv 0) (pv 1)))))),?_⟩
  dsimp! []
  unfold oV at q
  cases z with
  | true=>simpa using q
  | false=>simpa using q
noncomputable def UN:Sp:=fun vs H Q _=>∃n z,vs=[.int n,.bl z]∧Q (.int (oV n 4 z)) H
theorem IM (T:Txt K mg a):aN P w K mg base cx 2 a.xm a.xn ["number","marked"] UN:=by
 refine T.mj.ok Uj (fun vs H Q E h=>?_) (fun bI A outer s H vs Q E hr h=>?_)
 ·obtain⟨_,_,rfl,_⟩:=h
  rfl
 ·obtain⟨n,z,rfl,q⟩:=h
  refine⟨_,(af (aw (aH (IL T) (hr.mono (by decide)) rfl T.Ih T.ml.kp T.Ig .nil ar (aa (pv 0) (aa (c9 (v:=.int 4) rfl T.jC ⟨_,rfl⟩) (aa (pv 1) ag)))))),?_⟩
  dsimp! []
  exact⟨_,_,_,rfl,q⟩
noncomputable def UO:Sp:=fun vs H Q _=>∃n z,vs=[.int n,.bl z]∧Q (.int (oV n 8 z)) H
theorem UP (T:Txt K mg a):aN P w K mg base cx 2 a.xo a.xp ["number","words"] UO:=by
 refine T.oE.ok Uk (fun vs H Q E h=>?_) (fun bI A outer s H vs Q E hr h=>?_)
 ·obtain⟨_,_,rfl,_⟩:=h
  rfl
 ·obtain⟨n,z,rfl,q⟩:=h
  refine⟨_,(af (aw (aH (IL T) (hr.mono (by decide)) rfl T.Ih T.ml.kp T.Ig .nil ar (aa (pv 0) (aa (c9 (v:=.int 8) rfl T.ik ⟨_,rfl⟩) (aa (pv 1) ag)))))),?_⟩
  dsimp! []
  exact⟨_,_,_,rfl,q⟩
noncomputable def UQ:Sp:=fun vs H Q _=>∃k m w z,vs=[.int k,.bl m,.bl w,.int z]∧(0≤k∧k < 3)∧0≤z∧z < 10 ^ 60∧Q (.int (hd k m w z)) H
theorem UR (T:Txt K mg a):aN P w K mg base cx 3 a.w_ a.xa ["kind","marked","words","size"] UQ:=by
 refine T.oy.ok Hc (fun vs H Q E h=>?_) (fun bI A outer s H vs Q E hr h=>?_)
 ·obtain⟨_,_,_,_,rfl,_⟩:=h
  rfl
 ·obtain⟨k,m,w,z,rfl,⟨h0,h1⟩,hz,hz2,q⟩:=h
  refine⟨_,(aj (aR (i:=4) Hc.nd rfl (Or.inl rfl) (bt OG (pv 0) (bt Lu (pv 3) (c9 (v:=.int 4) rfl T.il ⟨_,rfl⟩)))) (af (aw (aH (UP T) (hr.mono (by decide)) rfl T.PK T.oE.kp T.PJ .nil ar (aa (aH (IM T) (hr.mono (by decide)) rfl T.Ie T.mj.kp T.Ic .nil ar (aa (pv 4) (aa (pv 1) ag))) (aa (pv 2) ag)))))),?_⟩
  dsimp! []
  have e16:(2:Int) ^ (4:Int).toNat=16:=by decide
  refine⟨⟨by decide,by decide,UL hz hz2⟩,?_⟩
  rw [e16]
  refine⟨_,_,rfl,_,_,rfl,?_⟩
  rw [L0 m w h0 h1 hz]
  exact q
noncomputable def US:Sp:=fun vs H Q _=>∃n,vs=[.int n]∧Q (.int (n % 4)) H
theorem UT (T:Txt K mg a):aN P w K mg base cx 1 a.xc a.xf ["number"] US:=by
 refine T.oz.ok Ue (fun vs H Q E h=>?_) (fun bI A outer s H vs Q E hr h=>?_)
 ·obtain⟨_,rfl,_⟩:=h
  rfl
 ·obtain⟨n,rfl,q⟩:=h
  refine⟨_,(af (aw (bt tF (pv 0) (c9 (v:=.int 3) rfl T.mz ⟨_,rfl⟩)))),?_⟩
  dsimp! []
  rw [Lv]
  exact q
noncomputable def UU:Sp:=fun vs H Q _=>∃n,vs=[.int n]∧Q (.int (n / 16)) H
theorem UW (T:Txt K mg a):aN P w K mg base cx 1 a.xg a.xh ["number"] UU:=by
 refine T.oA.ok Ug (fun vs H Q E h=>?_) (fun bI A outer s H vs Q E hr h=>?_)
 ·obtain⟨_,rfl,_⟩:=h
  rfl
 ·obtain⟨n,rfl,q⟩:=h
  refine⟨_,(af (aw (bt SA (pv 0) (c9 (v:=.int 4) rfl T.il ⟨_,rfl⟩)))),?_⟩
  dsimp! []
  have e16:(2:Int) ^ (4:Int).toNat=16:=by decide
  rw [e16]
  exact⟨by decide,q⟩
noncomputable def UX:Sp:=fun vs H Q _=>∃n,vs=[.int n]∧Q (.bl (decide (n / 4 % 2=1))) H
theorem UY (T:Txt K mg a):aN P w K mg base cx 1 a.xi a.xj ["number"] UX:=by
 refine T.oB.ok Uh (fun vs H Q E h=>?_) (fun bI A outer s H vs Q E hr h=>?_)
 ·obtain⟨_,rfl,_⟩:=h
  rfl
 ·obtain⟨n,rfl,q⟩:=h
  refine⟨_,(af (aw (eE qZ (bt tF (pv 0) (c9 (v:=.int 4) rfl T.jC ⟨_,rfl⟩)) ak (aE _)))),?_⟩
  rw [←L5] at q
  exact⟨_,rfl,_,_,rfl,rfl,rfl,q⟩
noncomputable def UZ:Sp:=fun vs H Q _=>∃n,vs=[.int n]∧Q (.bl (decide (n / 8 % 2=1))) H
theorem U0 (T:Txt K mg a):aN P w K mg base cx 1 a.xk a.xl ["number"] UZ:=by
 refine T.oC.ok Ui (fun vs H Q E h=>?_) (fun bI A outer s H vs Q E hr h=>?_)
 ·obtain⟨_,rfl,_⟩:=h
  rfl
 ·obtain⟨n,rfl,q⟩:=h
  refine⟨_,(af (aw (eE qZ (bt tF (pv 0) (c9 (v:=.int 8) rfl T.ik ⟨_,rfl⟩)) ak (aE _)))),?_⟩
  rw [←L6] at q
  exact⟨_,rfl,_,_,rfl,rfl,rfl,q⟩
noncomputable def iY (m c:Int) (d:Addr):List (Str×V):=cP "inside" (.ref d) (cP "cells" (.int c) (cP "many" (.int m) []))
theorem aeB:¬(("many":Str)="cells"):=by decide +kernel
theorem aeC:¬(("many":Str)="inside"):=by decide +kernel
theorem aeD:¬(("cells":Str)="inside"):=by decide +kernel
theorem Dz (m c:Int) (d:Addr):(iY m c d).lookup ("many":Str)=some (.int m):=by
 unfold iY
 rw [aF,if_neg aeC,aF,if_neg aeB,aF,if_pos rfl]
theorem oW (m c:Int) (d:Addr):(iY m c d).lookup ("cells":Str)=some (.int c):=by
 unfold iY
 rw [aF,if_neg aeD,aF,if_pos rfl]
theorem fA (m c:Int) (d:Addr):(iY m c d).lookup ("inside":Str)=some (.ref d):=by
 unfold iY
 rw [aF,if_pos rfl]
theorem L7 (m c:Int) (d:Addr) {n:Str}(h1:¬n="inside") (h2:¬n="cells") (h3:¬n="many"):(iY m c d).lookup n=none:=by
 unfold iY
 rw [aF,if_neg h1,aF,if_neg h2,aF,if_neg h3]
 all_goals rfl
structure cD (C:Addr) (H:Hp) (p d:Addr) (m c:Nat) (xs:List V):Prop where
 ob:∃dx,H p=some (.ins C dx (iY m c d))
 li:H d=some (.lst xs)
 len:xs.length=m*c
 m0:0 < m
 c0:0 < c
 sm:m*c≤1000
theorem cD.ne {C:Addr}{H:Hp}{p d:Addr}{m c:Nat}{xs:List V}(R:cD C H p d m c xs):p≠d:=by
 obtain⟨dx,h⟩:=R.ob
 exact cL h R.li (by intro z; cases z)
theorem cD.keep {C:Addr}{H H':Hp}{p d:Addr}{m c:Nat}{xs ys:List V}(R:cD C H p d m c xs) (k:∀b o,b≠d→H b=some o→H' b=some o) (h:H' d=some (.lst ys)) (hl:ys.length=xs.length):cD C H' p d m c ys where
 ob:=by
  obtain⟨dx,e⟩:=R.ob
  exact⟨dx,k p _ R.ne e⟩
 li:=h
 len:=hl.trans R.len
 m0:=R.m0
 c0:=R.c0
 sm:=R.sm
theorem cD.same {C:Addr}{H H':Hp}{p d:Addr}{m c:Nat}{xs:List V}(R:cD C H p d m c xs) (k:au H H'):cD C H' p d m c xs:=R.keep (fun b o _ e=>k b o e) (k d _ R.li) rfl
noncomputable def U1:Option Nat→V
 | none=>.aP
 | some q=>.int q
theorem lK {m c:Int}{d:Addr}{n:Str}(h1:¬n="inside":=by decide +kernel) (h2:¬n="cells":=by decide +kernel) (h3:¬n="many":=by decide +kernel):(iY m c d).lookup n=none:=L7 m c d h1 h2 h3
theorem U2 (m c:Int) (d:Addr):(iY m c d).lookup ("gap":Str)=none:=lK
theorem DA (m c:Int) (d:Addr):(iY m c d).lookup ("gap_in":Str)=none:=lK
theorem AI (m c:Int) (d:Addr):(iY m c d).lookup ("fill_in":Str)=none:=lK
theorem ke (m c:Int) (d:Addr):(iY m c d).lookup ("read":Str)=none:=lK
theorem yV (m c:Int) (d:Addr):(iY m c d).lookup ("write":Str)=none:=lK
theorem oX (m c:Int) (d:Addr):(iY m c d).lookup ("room_of":Str)=none:=lK
noncomputable def U3 (C:Addr):Sp:=fun vs H Q _=>∃p d m c xs r L,vs=[.ref p,.int (r:Nat),.int (L:Nat)]∧cD C H p d m c xs∧r < m∧0 < L ∧
 ((∀p,r*c≤p→p+L≤r*c+c→¬c_ xs p L)→Q .aP H) ∧
 (∀q:Nat,r*c≤q→q+L≤r*c+c→c_ xs q L→(∀p,r*c≤p→p < q→¬c_ xs p L)→Q (.int q) H)
theorem U4 (T:Txt K mg a):aN P w K mg base cx 1 a.xx a.xy ["self","room","length"] (U3 a.bM):=by
 refine T.se.ok n_ (fun vs H Q E h=>?_) (fun bI A outer s H vs Q E hr h=>?_)
 ·obtain⟨_,_,_,_,_,_,_,rfl,_⟩:=h
  rfl
 ·obtain⟨p,d,m,c,xs,r,L,rfl,R,hrm,hL,k1,k2⟩:=h
  obtain⟨dx,h1⟩:=R.ob
  have hle:(r+1)*c≤m*c:=Nat.mul_le_mul_right c hrm
  rw [Nat.succ_mul] at hle
  have Ek:=R.sm
  have hlen:=R.len
  have t_:m≤1000:=Nat.le_trans (Nat.le_mul_of_pos_right m R.c0) Ek
  have aeE:c≤1000:=Nat.le_trans (Nat.le_mul_of_pos_left c R.m0) Ek
  have erc:(r:Int)*(c:Int)=((r*c:Nat):Int):=by simp
  refine⟨_,(aj (aR (i:=3) n_.nd rfl (Or.inl rfl) (bt tE (pv 1) (aY (pv 0) rfl))) (aj (aR (i:=4) n_.nd rfl (Or.inl rfl) ak) (aj (b_ PassesOwn.never rfl (qY rfl T.eJ (aa (pv 3) (aa (bt d8 (pv 3) (aY (pv 0) rfl)) ag))) (aJ (i:=5) n_.nd rfl (Or.inl rfl)) az) az))),?_⟩
  dsimp! [h1,HO.ins.injEq,T.bw,T.cS,oW,erc]
  have e2:((((r*c:Nat):Int)+(c:Int)) - ((r*c:Nat):Int)).toNat=c:=by omega
  rw [e2]
  refine⟨.inl ⟨by omega,by omega⟩,by omega,by omega,by omega,by omega,j4 (fun i σ H2=>H2=H∧∃(f:Nat) (o5:Option V),σ=[some (.ref p),some (.int r),some (.int L),some (.int ((r*c:Nat):Int)),some (.int f),o5]∧iq xs (r*c) i f L)
   ⟨rfl,0,none,rfl,.zero hL⟩ ?_ ?_⟩
  ·rintro i σ H2 hi ⟨rfl,f,o5,rfl,RA⟩
   have hx:r*c+i < xs.length:=by omega
   have ht:K0 xs (((r*c:Nat):Int)+(i:Int))=some xs[r*c+i]:=by
    have:=b9 (xs:=xs) (List.getElem?_eq_getElem hx)
    simpa using this
   refine bA.of (aj (aR (i:=4) n_.nd rfl (Or.inl rfl) (dy (aA z4 (aC bS (aY (pv 0) rfl) (pv 5) (fun _ _=>rfl)) cM (aE _)) (bt d8 (pv 4) ak) ak)) (af (bF (aA cA (pv 4) (pv 2) (aE _)) (af (aw (bt d8 (bt EC (pv 5) (pv 2)) ak))) aT))) ?_
   dsimp! [h1,HO.ins.injEq,T.bw,T.bz,fA]
   refine⟨d,xs,_,_,rfl,rfl,bc.of R.li,ht,?_⟩
   have hgx:xs[r*c+i]?=some xs[r*c+i]:=List.getElem?_eq_getElem hx
   generalize xs[r*c+i]=v at hgx
   by_cases hv:v=.aP
   ·subst hv
    dsimp! []
    have agH:=RA.le
    refine cQ (fun h=>?_) fun h=>?_
    ·have El:f+1=L:=by
      have:=of_decide_eq_true h
      omega
     obtain⟨b1,b2,b3⟩:=RA.found hgx El
     have e:((r*c:Nat):Int)+(i:Int) - (L:Int)+1=((r*c+i+1 - L:Nat):Int):=by omega
     rw [e]
     exact k2 _ b1 (by omega) b2 b3
    ·exact⟨f+1,by simp,RA.Dw hgx fun z=>h (decide_eq_true (by omega))⟩
   ·dsimp! [hv]
    refine cQ (fun h=>?_) fun h=>?_
    ·have:=of_decide_eq_true h
     omega
    ·exact⟨0,rfl,RA.Dx hgx hv⟩
  ·rintro σ H2 ⟨rfl,f,o5,rfl,RA⟩
   refine bA.of (af (aw cM)) ?_
   dsimp! []
   exact k1 RA.no
noncomputable def U5 (C:Addr):Sp:=fun vs H Q _=>∃p d m c xs L,vs=[.ref p,.int (L:Nat)]∧cD C H p d m c xs∧0 < L∧∀r,yT xs c L r→Q (U1 r) H
theorem U6 (T:Txt K mg a):aN P w K mg base cx 2 a.xv a.xw ["self","length"] (U5 a.bM):=by
 refine T.r_.ok Ap (fun vs H Q E h=>?_) (fun bI A outer s H vs Q E hr h=>?_)
 ·obtain⟨_,_,_,_,_,_,rfl,_⟩:=h
  rfl
 ·obtain⟨p,d,m,c,xs,L,rfl,R,hL,k⟩:=h
  obtain⟨dx,h1⟩:=R.ob
  have Ek:=R.sm
  have t_:m≤1000:=Nat.le_trans (Nat.le_mul_of_pos_right m R.c0) Ek
  refine⟨_,(aj (b_ PassesOwn.never rfl (iQ rfl T.eJ (aa (aY (pv 0) rfl) ag)) (aJ (i:=2) Ap.nd rfl (Or.inl rfl)) az) az),?_⟩
  dsimp! [h1,HO.ins.injEq,T.bw,T.dz,Dz]
  refine⟨by omega,by omega,j4 (fun i σ H2=>H2=H∧∃(o2 o3:Option V),σ=[some (.ref p),some (.int L),o2,o3]∧∀r,r < i→∀q,r*c≤q→q+L≤r*c+c→¬c_ xs q L)
   ⟨rfl,none,none,rfl,fun r h=>absurd h (Nat.not_lt_zero _)⟩ ?_ ?_⟩
  ·rintro i σ H2 hi ⟨rfl,o2,o3,rfl,inv⟩
   have him:i < m:=by omega
   refine bA.of (aj (aR (i:=3) Ap.nd rfl (Or.inl rfl) (aI (pv 0) T.bw T.Ij (U4 T) (hr.mono (by decide)) T.PN .nil ar (aa (pv 2) (aa (pv 1) ag)))) (af (bF (aA fh (pv 3) cM (aE _)) (af (aw (pv 3))) aT))) ?_
   dsimp! [h1,HO.ins.injEq,DA]
   refine⟨p,d,m,c,xs,i,L,by simp,R,him,hL,fun hn=>?_,fun q q1 q2 q3 q4=>?_⟩
   ·dsimp! []
    refine fun r f9=>?_
    rcases Nat.lt_succ_iff_lt_or_eq.mp f9 with h | h
    ·exact inv r h
    ·subst h
     exact hn
   ·dsimp! []
    exact k (some q) (Dy R.c0 hL R.len him inv q1 q2 q3 q4)
  ·rintro σ H2 ⟨rfl,o2,o3,rfl,inv⟩
   refine bA.of (af (aw cM)) ?_
   dsimp! []
   exact k none (IJ R.c0 hL R.len (fun r f9=>inv r (by omega)))
noncomputable def U7 (C:Addr):Sp:=fun vs H Q _=>∃p d m c xs i v,vs=[.ref p,.int (i:Nat)]∧cD C H p d m c xs∧xs[i]?=some v∧Q v H
theorem ua (T:Txt K mg a):aN P w K mg base cx 1 a.xC a.xD ["self","place"] (U7 a.bM):=by
 refine T.si.ok Uo (fun vs H Q E h=>?_) (fun bI A outer s H vs Q E hr h=>?_)
 ·obtain⟨_,_,_,_,_,_,_,rfl,_⟩:=h
  rfl
 ·obtain⟨p,d,m,c,xs,i,v,rfl,R,hv,q⟩:=h
  obtain⟨dx,h1⟩:=R.ob
  refine⟨_,(af (aw (aC bS (aY (pv 0) rfl) (pv 1) (fun _ _=>rfl)))),?_⟩
  dsimp! [h1,HO.ins.injEq,T.bw,T.bz,fA]
  exact⟨d,xs,_,v,rfl,rfl,bc.of R.li,b9 hv,q⟩
theorem ub {n i:Nat}(h:i < n):KZ n (i:Int)=some i:=by
 unfold KZ
 rw [if_pos (by omega),if_pos (by omega)]
 simp
noncomputable def eK (d:Addr) (H H':Hp):Prop:=∀b o,b≠d→H b=some o→H' b=some o
theorem eK.refl (d:Addr) (H:Hp):eK d H H:=fun _ _ _ h=>h
theorem eK.put {d l:Addr}{H H':Hp}{o:HO}(k:eK d H H') (h:H' l=none):eK d H (upd H' l o):=fun b u hb e=>by
 have:=k b u hb e
 rw [ah (aq this h)]
 exact this
theorem eK.set {d:Addr}{H H':Hp}{o:HO}(k:eK d H H'):eK d H (upd H' d o):=fun b u hb e=>by
 rw [ah hb]
 exact k b u hb e
noncomputable def U8 (K:PySem.W.Frag) (C:Addr):Sp:=fun vs H Q _=>∃p d m c xs i l ys,vs=[.ref p,.int (i:Nat),.ref l]∧cD C H p d m c xs∧H l=some (.lst ys)∧l≠d∧i+ys.length≤xs.length ∧
 ∀H',eK d H H'→H' d=some (.lst (cF xs i ys))→Q .aP H'
theorem U9 (T:Txt K mg a):aN P w K mg base cx 1 a.xA a.xB ["self","place","some"] (U8 K a.bM):=by
 refine T.sg.ok Aq (fun vs H Q E h=>?_) (fun bI A outer s H vs Q E hr h=>?_)
 ·obtain⟨_,_,_,_,_,_,_,_,rfl,_⟩:=h
  rfl
 ·obtain⟨p,d,m,c,xs,i,l,ys,rfl,R,hl,hld,nH,k⟩:=h
  have Ek:=R.sm
  have hlen:=R.len
  refine⟨_,(af (b_ PassesOwn.never rfl (LO rfl T.fz (pv 2) (pv 1)) (zX (n:=2) rfl (aZ (aJ (i:=3) Aq.nd rfl (Or.inl rfl)) (aZ (aJ (i:=4) Aq.nd rfl (Or.inl rfl)) gb))) az)),?_⟩
  dsimp! []
  refine⟨i,rfl,⟨ys,bc.of hl⟩,by omega,LP ys (fun j σ H2=>∃(o3 o4:Option V),σ=[some (.ref p),some (.int i),some (.ref l),o3,o4]∧eK d H H2∧H2 d=some (.lst (cF xs i (ys.take j))))
   ⟨none,none,rfl,.refl d H,R.li⟩ ?_ ?_ ?_⟩
  ·rintro j σ H2 hj ⟨o3,o4,rfl,kp,hd⟩
   exact bc.of (kp l _ hld hl)
  ·rintro j x t σ H2 hx ⟨o3,o4,rfl,kp,hd⟩ ht
   have hjl:=(List.getElem?_eq_some_iff.mp hx).1
   have nd:d≠t:=aq hd ht
   have R2:=R.keep (kp.put (o:=.tup [.int ((i+j:Nat):Int),x]) ht) (by rw [ah nd]; exact hd) (d4 _ _ _)
   obtain⟨dx,h1⟩:=R2.ob
   refine⟨t,_,rfl,bU.of ae,rfl,?_⟩
   dsimp! []
   refine bA.of (af (gY (pv 4) (zY (aY (pv 0) rfl) (pv 3) set_list))) ?_
   dsimp! [h1,HO.ins.injEq,T.bw,T.bz,fA]
   have e3:KZ (cF xs i (ys.take j)).length ((i+j:Nat):Int)=some (i+j):=ub (by rw [d4]; omega)
   refine⟨d,_,_,_,rfl,rfl,R2.li,e3,(kp.put ht).set,?_⟩
   rw [ae,yU hx]
  ·rintro σ H2 ⟨o3,o4,rfl,kp,hd⟩
   dsimp! []
   refine k H2 kp ?_
   rw [hd,List.take_of_length_le (Nat.le_refl _)]
noncomputable def U_ (C:Addr):Sp:=fun vs H Q _=>∃p d m c xs i v,vs=[.ref p,.int (i:Nat),v]∧cD C H p d m c xs∧i < xs.length∧Q .aP (upd H d (.lst (xs.set i v)))
theorem IP (T:Txt K mg a):aN P w K mg base cx 1 a.xE a.xF ["self","place","value"] (U_ a.bM):=by
 refine T.sj.ok Up (fun vs H Q E h=>?_) (fun bI A outer s H vs Q E hr h=>?_)
 ·obtain⟨_,_,_,_,_,_,_,rfl,_⟩:=h
  rfl
 ·obtain⟨p,d,m,c,xs,i,v,rfl,R,hv,q⟩:=h
  obtain⟨dx,h1⟩:=R.ob
  refine⟨_,(af (gY (pv 2) (zY (aY (pv 0) rfl) (pv 1) set_list))),?_⟩
  dsimp! [h1,HO.ins.injEq,T.bw,T.bz,fA]
  exact⟨d,xs,_,i,rfl,rfl,R.li,ub hv,q⟩
theorem aeF (f:Str) (v:V):(cP f v []).length < 1000:=Nat.lt_of_le_of_lt (bZ f v []) (by decide)
theorem ZA (f g:Str) (v u:V):(cP g u (cP f v [])).length < 1000:=Nat.lt_of_le_of_lt (bZ g u _) (Nat.lt_of_le_of_lt (Nat.succ_le_succ (bZ f v [])) (by decide))
theorem len0:([]:List (Str×V)).length < 1000:=by decide
theorem L8 (n:Nat):(List.replicate n [V.aP]).flatten=List.replicate n V.aP:=by
 induction n with
 | zero=>rfl
 | succ n ih=>rw [List.replicate_succ,List.replicate_succ,List.flatten_cons,ih]; rfl
noncomputable def Va (C:Addr):Sp:=fun vs H Q _=>∃p dx m c,vs=[.ref p,.int (m:Nat),.int (c:Nat)]∧H p=some (.ins C dx [])∧0 < m∧0 < c∧m*c≤1000 ∧
 ∀H' d,cD C H' p d m c (List.replicate (m*c) .aP)→(∀b o,b≠p→H b=some o→H' b=some o)→H d=none→Q .aP H'
theorem Vb (T:Txt K mg a):aN P w K mg base cx 1 a.xt a.xu ["self","many","cells"] (Va a.bM):=by
 refine T.r8.ok Um (fun vs H Q E h=>?_) (fun bI A outer s H vs Q E hr h=>?_)
 ·obtain⟨_,_,_,_,rfl,_⟩:=h
  rfl
 ·obtain⟨p,dx,m,c,rfl,hp,hm,hc,XX,k⟩:=h
  refine⟨_,(aj (eQ (pv 0) (pv 1) rfl) (aj (eQ (pv 0) (pv 2) rfl) (af (eQ (pv 0) (bt tP (cE (aa cM ag)) (bt tE (pv 1) (pv 2))) rfl)))),?_⟩
  have t_:m≤1000:=Nat.le_trans (Nat.le_mul_of_pos_right m hc) XX
  have emc:(m:Int)*(c:Int)=((m*c:Nat):Int):=by simp
  dsimp! [hp,ae,HO.ins.injEq,T.bw,T.dz,T.cS,T.bz,len0,aeF,ZA,emc,ny]
  refine⟨by decide,by decide,fun l hl=>⟨.inl ⟨by omega,by omega⟩,l,_,[.aP],rfl,rfl,ae,by omega,by omega,by rw [Int.toNat_natCast,List.length_singleton,Nat.one_mul]; exact Nat.le_of_lt (bb XX),fun d hd=>?_⟩⟩
  have npl:p≠l:=aq ae hl
  have IQ:p≠d:=aq (by rw [ah npl]; exact ae) hd
  have nld:l≠d:=aq ae hd
  rw [Int.toNat_natCast,L8]
  refine⟨_,_,_,by rw [ah IQ,ah npl,ae],T.bw,T.bz,ZA _ _ _ _,k _ d ⟨⟨dx,ae⟩,by rw [ah IQ.symm,ae],by simp,hm,hc,XX⟩ (fun b o hb e=>?_) ?_⟩
  ·have Qt:b≠l:=fun z=>by
    subst z
    rw [ah hb] at hl
    rw [hl] at e
    cases e
   have hbd:b≠d:=fun z=>by
    subst z
    rw [ah Qt,ah hb] at hd
    rw [hd] at e
    cases e
   rw [ah hb,ah hbd,ah Qt,ah hb]
   exact e
  ·rw [ah nld.symm,ah IQ.symm] at hd
   exact hd
noncomputable def Kp (S:Addr→Prop) (H H':Hp):Prop:=∀b o,¬S b→H b=some o→H' b=some o
theorem Kp.refl (S:Addr→Prop) (H:Hp):Kp S H H:=fun _ _ _ h=>h
theorem Kp.trans {S:Addr→Prop}{H H1 H2:Hp}(k:Kp S H H1) (k2:Kp S H1 H2):Kp S H H2:=fun b o n h=>k2 b o n (k b o n h)
theorem Kp.mono {S S':Addr→Prop}{H H':Hp}(k:Kp S H H') (i:∀b,S b→S' b):Kp S' H H':=fun b o n h=>k b o (fun z=>n (i b z)) h
theorem au.kp {S:Addr→Prop}{H H':Hp}(k:au H H'):Kp S H H':=fun b o _ h=>k b o h
theorem Kp.set {S:Addr→Prop}{H H':Hp}{l:Addr}{o:HO}(k:Kp S H H') (h:S l):Kp S H (upd H' l o):=fun b u n e=>by
 rw [ah (fun z=>n (by rw [z]; exact h))]
 exact k b u n e
theorem eK.kp {S:Addr→Prop}{d:Addr}{H H':Hp}(k:eK d H H') (h:S d):Kp S H H':=fun b o n e=>k b o (fun z=>n (by rw [z]; exact h)) e
noncomputable def Mu (H:Hp) (b:Addr):Prop:=(∃xs,H b=some (.lst xs))∨∃kvs,H b=some (.dK kvs)
theorem Mu.vc {H:Hp}{b:Addr}(m:Mu H b) {xs:List V}(h:Rd H b (.tup xs)):False:=by
 rcases m with ⟨ys,m⟩ | ⟨ys,m⟩ <;> rcases h with h | ⟨o,h⟩ <;> (rw [m] at h; cases h)
theorem Kp.S8 {K:PySem.W.Frag}{S:Addr→Prop}{H H':Hp}(k:Kp S H H') (mu:∀b,S b→Mu H b) {a:Addr}{xs:List V}(h:bU K H a xs):bU K H' a xs:=by
 rcases h with h | h
 ·have n:¬S a:=fun z=>(mu a z).vc h
  rcases h with h | ⟨o,h⟩
  ·exact .inl (.inl (k _ _ n h))
  ·exact .inl (.inr ⟨o,k _ _ n h⟩)
 ·exact .inr h
theorem bc.ins {K:PySem.W.Frag}{H:Hp}{l p C dx:Addr}{xs:List V}{fs:List (Str×V)}{o:HO}(h:bc K H l xs) (hp:H p=some (.ins C dx fs)):bc K (upd H p o) l xs:=by
 rcases h with (h | ⟨u,h⟩) | h
 ·exact .inl (.inl (by rw [ah (cL h hp (by intro z; cases z))]; exact h))
 ·exact .inl (.inr ⟨u,by rw [ah (cL h hp (by intro z; cases z))]; exact h⟩)
 ·exact .inr h
inductive Vl where
 | no | num (n:Int) | th (n:Int)
noncomputable def Vl.items:Vl→List V
 | .no=>[.str "nothing"]
 | .num n=>[.str "number",.int n]
 | .th n=>[.str "thing",.int n]
noncomputable def Vl.word:Vl→Str
 | .no=>"nothing"
 | .num _=>"number"
 | .th _=>"thing"
noncomputable def Vl.Vc:Vl→Bool
 | .th _=>true
 | _=>false
noncomputable def Vl.nm:Vl→Option V
 | .th n=>some (.int n)
 | _=>none
theorem Vl.hd (v:Vl):K0 v.items 0=some (.str v.word):=by cases v <;> rfl
theorem Vl.is:∀v:Vl,decide (v.word=("thing":Str))=v.Vc
 | .no=>(by decide +kernel:decide (("nothing":Str)="thing")=false)
 | .num _=>(by decide +kernel:decide (("number":Str)="thing")=false)
 | .th _=>(by decide +kernel:decide (("thing":Str)="thing")=true)
theorem Vl.aeG (v:Vl):v.nm.isSome=v.Vc:=by cases v <;> rfl
noncomputable def cI (K:PySem.W.Frag) (H:Hp) (x:V) (v:Vl):Prop:=∃t,x=.ref t∧bU K H t v.items
theorem cI.same {K:PySem.W.Frag}{H H':Hp}{x:V}{v:Vl}(h:cI K H x v) (k:au H H'):cI K H' x v:=by
 obtain⟨t,e,h⟩:=h
 exact⟨t,e,k.S8 h⟩
theorem cI.kp {K:PySem.W.Frag}{S:Addr→Prop}{H H':Hp}{x:V}{v:Vl}(h:cI K H x v) (k:Kp S H H') (mu:∀b,S b→Mu H b):cI K H' x v:=by
 obtain⟨t,e,h⟩:=h
 exact⟨t,e,k.S8 mu h⟩
noncomputable def Vd (K:PySem.W.Frag):Sp:=fun vs H Q _=>∃x v,vs=[x]∧cI K H x v∧Q (.bl v.Vc) H
theorem Ve (T:Txt K mg a):aN P w K mg base cx 1 a.vP a.vQ ["value"] (Vd K):=by
 refine T.oi.ok TF (fun vs H Q E h=>?_) (fun bI A outer s H vs Q E hr h=>?_)
 ·obtain⟨_,_,rfl,_⟩:=h
  rfl
 ·obtain⟨x,v,rfl,⟨t,rfl,hv⟩,q⟩:=h
  refine⟨_,(af (aw (eE cA (aC aB (pv 0) ak (fun _ _=>rfl)) aX (aE _)))),?_⟩
  dsimp! []
  refine⟨t,_,_,_,rfl,rfl,hv,v.hd,?_⟩
  dsimp! []
  rw [v.is]
  exact q
noncomputable def IS (K:PySem.W.Frag):Sp:=fun vs H Q _=>∃(l:Addr) (xs:List V) (vl:List Vl),vs=[.ref l]∧bc K H l xs∧xs.length≤1000∧vl.length=xs.length∧(∀(i:Nat) x v,xs[i]?=some x→vl[i]?=some v→cI K H x v) ∧
 ∀r,H r=none→Q (.ref r) (upd H r (.lst (vl.filterMap Vl.nm)))
theorem oY (T:Txt K mg a):aN P w K mg base cx 3 a.vR a.vS ["some"] (IS K):=by
 refine T.ia.ok TH (fun vs H Q E h=>?_) (fun bI A outer s H vs Q E hr h=>?_)
 ·obtain⟨_,_,_,rfl,_⟩:=h
  rfl
 ·obtain⟨l,xs,vl,rfl,hl,hz,hlen,hv,q⟩:=h
  refine⟨_,(af (aw (Fc rfl (C9 (x:="value") (ns:=[]) (fr:=[]) rfl (by decide +kernel) rfl (by decide +kernel) rfl (List.forall_mem_nil _) rfl rfl (List.forall_mem_nil _) (by decide +kernel)) (dn (pv 0)) (fun _ _ _ _=>(aC (LG (K:=K) rfl) (pv 0) ak (fun _ _=>rfl))) (fun _ _ _ _=>(.one (dH (aH (Ve T) (hr.mono (by decide)) rfl T.O7 T.oi.kp T.O6 .nil ar (aa (pv 0) ag)))))))),?_⟩
  dsimp! []
  refine⟨⟨_,hl⟩,fun D hD=>Fq xs vl Vl.nm hz hlen (fun ys=>(au.put hD).seq hl) ?_ ?_ (q D hD)⟩
  ·intro i x v ys R hx hb r
   rw [v.aeG] at r
   have:=(hv i x v hx hb).same (au.put (o:=.lst ys) hD)
   dsimp! [aV]
   exact⟨_,v,rfl,this,_,rfl,r⟩
  ·intro i x v y ys R hx hb hy r
   obtain⟨t,rfl,ht⟩:=(hv i x v hx hb).same (au.put (o:=.lst ys) hD)
   cases v with
   | no=>cases hy
   | num n=>cases hy
   | th n=>
    cases hy
    dsimp! [aV]
    exact⟨t,_,_,_,rfl,rfl,ht,rfl,r⟩
inductive Tg where
 | plain (fs:List Vl) (w:Option Int) | weak (f:Vl) | pair (k v:Vl)
noncomputable def Tg.fs:Tg→List Vl
 | .plain fs _=>fs
 | .weak f=>[f]
 | .pair k v=>[k,v]
noncomputable def Tg.sort:Tg→Str
 | .plain _ _=>"plain"
 | .weak _=>"weak"
 | .pair _ _=>"pair"
noncomputable def Tg.words:Tg→Option Int
 | .plain _ w=>w
 | _=>none
noncomputable def wV:Option Int→V
 | none=>.aP
 | some n=>.int n
noncomputable def iZ (K:PySem.W.Frag) (H:Hp) (xs:List V) (vl:List Vl):Prop:=vl.length=xs.length∧∀(i:Nat) x v,xs[i]?=some x→vl[i]?=some v→cI K H x v
theorem iZ.same {K:PySem.W.Frag}{H H':Hp}{xs:List V}{vl:List Vl}(h:iZ K H xs vl) (k:au H H'):iZ K H' xs vl:=⟨h.1,fun i x v a b=>(h.2 i x v a b).same k⟩
theorem iZ.kp {K:PySem.W.Frag}{S:Addr→Prop}{H H':Hp}{xs:List V}{vl:List Vl}(h:iZ K H xs vl) (k:Kp S H H') (mu:∀b,S b→Mu H b):iZ K H' xs vl:=⟨h.1,fun i x v a b=>(h.2 i x v a b).kp k mu⟩
theorem iZ.nil (K:PySem.W.Frag) (H:Hp):iZ K H [] []:=⟨rfl,fun i x v a _=>by simp at a⟩
theorem iZ.cons {K:PySem.W.Frag}{H:Hp}{x:V}{v:Vl}{xs:List V}{vl:List Vl}(h:cI K H x v) (t:iZ K H xs vl):iZ K H (x::xs) (v::vl):=⟨by simp [t.1],fun i y u a b=>by
 cases i with
 | zero=>
  simp at a b
  subst a b
  exact h
 | succ i=>exact t.2 i y u (by simpa using a) (by simpa using b)⟩
noncomputable def K3 (s:Str) (d:Addr):List (Str×V):=cP "parts" (.ref d) (cP "called" (.str s) [])
noncomputable def K4 (d:Addr) (w:Option Int):List (Str×V):=cP "last_words" (wV w) (K3 "plain" d)
theorem aeH:¬(("called":Str)="parts"):=by decide +kernel
theorem aeI:¬(("called":Str)="last_words"):=by decide +kernel
theorem aeJ:¬(("parts":Str)="last_words"):=by decide +kernel
noncomputable def Tg.cls (a:da):Tg→Addr
 | .plain _ _=>a.ay
 | .weak _=>a.bj
 | .pair _ _=>a.aD
noncomputable def Tg.fl (d:Addr):Tg→List (Str×V)
 | .plain _ w=>K4 d w
 | .weak _=>K3 "weak" d
 | .pair _ _=>K3 "pair" d
theorem Tg.called (t:Tg) (d:Addr):(t.fl d).lookup ("called":Str)=some (.str t.sort):=by
 cases t <;> simp only [Tg.fl,K4,K3,aF,if_neg aeI,if_neg aeH,if_true,Tg.sort]
theorem Tg.parts (t:Tg) (d:Addr):(t.fl d).lookup ("parts":Str)=some (.ref d):=by
 cases t <;> simp only [Tg.fl,K4,K3,aF,if_neg aeJ,if_true]
theorem Tg.no (t:Tg) (d:Addr) {n:Str}(h1:¬n="called":=by decide +kernel) (h2:¬n="parts":=by decide +kernel) (h3:¬n="last_words":=by decide +kernel):(t.fl d).lookup n=none:=by
 cases t <;> simp only [Tg.fl,K4,K3,aF,if_neg h1,if_neg h2,if_neg h3] <;> rfl
theorem Vf (d:Addr) (w:Option Int):(K4 d w).lookup ("last_words":Str)=some (wV w):=by
 unfold K4
 rw [aF,if_pos rfl]
structure fG (a:da) (K:PySem.W.Frag) (H:Hp) (p d:Addr) (t:Tg):Prop where
 ob:∃dx,H p=some (.ins (t.cls a) dx (t.fl d))
 li:∃xs,H d=some (.lst xs)∧iZ K H xs t.fs∧xs.length≤1000
theorem fG.same {a:da}{K:PySem.W.Frag}{H H':Hp}{p d:Addr}{t:Tg}(h:fG a K H p d t) (k:au H H'):fG a K H' p d t:=by
 obtain⟨⟨dx,h1⟩,xs,h2,h3,h4⟩:=h
 exact⟨⟨dx,k _ _ h1⟩,xs,k _ _ h2,h3.same k,h4⟩
theorem Tg.na (T:Txt K mg a) (t:Tg):nz K (t.cls a)∧bL K (t.cls a) "called"∧bL K (t.cls a) "parts":=by
 cases t
 ·exact⟨T.aW,T.bP,T.bH⟩
 ·exact⟨T.dh,T.c5,T.dj⟩
 ·exact⟨T.bp,T.bV,T.bB⟩
theorem Tg.mem (t:Tg) (s:Sp):(t.cls a,s)∈[(a.bj,s),(a.ay,s),(a.aD,s)]:=by
 cases t
 ·exact .tail _ (.head _)
 ·exact .head _
 ·exact .tail _ (.tail _ (.head _))
noncomputable def Vg (K:PySem.W.Frag):Sp:=fun vs H Q _=>∃p C dx s l xs,vs=[.ref p,.str s,.ref l]∧nz K C∧bL K C "called"∧bL K C "parts"∧H p=some (.ins C dx [])∧bc K H l xs ∧
 ∀d H',eK p H H'→H d=none→H' p=some (.ins C dx (K3 s d))→H' d=some (.lst xs)→Q .aP H'
theorem AJ (T:Txt K mg a):aN P w K mg base cx 1 a.rA a.vT ["self","sort","some"] (Vg K):=by
 refine T.oj.ok TJ (fun vs H Q E h=>?_) (fun bI A outer s H vs Q E hr h=>?_)
 ·obtain⟨_,_,_,_,_,_,rfl,_⟩:=h
  rfl
 ·obtain⟨p,C,dx,s,l,xs,rfl,hC,hN1,ZC,h1,hl,q⟩:=h
  refine⟨_,(aj (eQ (pv 0) (pv 1) rfl) (af (eQ (pv 0) (eL jW rfl T.ip jX (aa (pv 2) ag)) rfl))),?_⟩
  dsimp! [h1,HO.ins.injEq,hC,hN1,ZC]
  refine⟨by decide,xs,.inl (bc.ins hl h1),fun d hd=>?_⟩
  have IQ:p≠d:=aq ae hd
  refine⟨C,dx,cP "called" (.str s) [],by rw [ah IQ]; exact ae,hC,ZC,Nat.lt_of_le_of_lt (bZ _ _ _) (by decide),q d _ ?_ ?_ ae ?_⟩
  ·intro b o hb e
   rw [ah hb,ah (aq (by rw [ah hb]; exact e) hd),ah hb]
   exact e
  ·rw [ah IQ.symm] at hd
   exact hd
  ·rw [ah IQ.symm]
   exact ae
noncomputable def fH (a:da) (K:PySem.W.Frag):Sp:=fun vs H Q _=>∃p d t,vs=[.ref p]∧fG a K H p d t∧Q (.str t.sort) H
theorem gs (T:Txt K mg a):aN P w K mg base cx 1 a.og a.vU ["self"] (fH a K):=by
 refine T.ma.ok TK (fun vs H Q E h=>?_) (fun bI A outer s H vs Q E hr h=>?_)
 ·obtain⟨_,_,_,rfl,_⟩:=h
  rfl
 ·obtain⟨p,d,t,rfl,⟨⟨dx,h1⟩,_⟩,q⟩:=h
  obtain⟨hC,hN1,ZC⟩:=t.na T
  refine⟨_,(af (aw (aY (pv 0) rfl))),?_⟩
  dsimp! [h1,HO.ins.injEq,hC,hN1,t.called]
  exact q
noncomputable def fI (a:da) (K:PySem.W.Frag):Sp:=fun vs H Q _=>∃p d t,vs=[.ref p]∧fG a K H p d t∧∀r xs,H r=none→iZ K H xs t.fs→xs.length≤1000→Q (.ref r) (upd H r (.lst xs))
theorem lL (T:Txt K mg a):aN P w K mg base cx 1 a.oh a.vV ["self"] (fI a K):=by
 refine T.md.ok TL (fun vs H Q E h=>?_) (fun bI A outer s H vs Q E hr h=>?_)
 ·obtain⟨_,_,_,rfl,_⟩:=h
  rfl
 ·obtain⟨p,d,t,rfl,⟨⟨dx,h1⟩,xs,h2,h3,h4⟩,q⟩:=h
  obtain⟨hC,hN1,ZC⟩:=t.na T
  refine⟨_,(af (aw (eL jW rfl T.ip jX (aa (aY (pv 0) rfl) ag)))),?_⟩
  dsimp! [h1,HO.ins.injEq,hC,ZC,t.parts]
  exact⟨xs,.inl (bc.of h2),fun l hl=>q l xs hl h3 h4⟩
noncomputable def oZ:Sp:=fun vs H Q _=>∃p,vs=[.ref p]∧Q .aP H
theorem IT (T:Txt K mg a):aN P w K mg base cx 1 a.rD a.vY ["self"] oZ:=by
 refine T.ot.ok TR (fun vs H Q E h=>?_) (fun bI A outer s H vs Q E hr h=>?_)
 ·obtain⟨_,rfl,_⟩:=h
  rfl
 ·obtain⟨p,rfl,q⟩:=h
  refine⟨_,(af (aw cM)),?_⟩
  dsimp! []
  exact q
noncomputable def AK (a:da) (K:PySem.W.Frag):Sp:=fun vs H Q _=>∃p d fs w,vs=[.ref p]∧fG a K H p d (.plain fs w)∧Q (wV w) H
theorem Vh (T:Txt K mg a):aN P w K mg base cx 1 a.v_ a.wa ["self"] (AK a K):=by
 refine T.rK.ok TX (fun vs H Q E h=>?_) (fun bI A outer s H vs Q E hr h=>?_)
 ·obtain⟨_,_,_,_,rfl,_⟩:=h
  rfl
 ·obtain⟨p,d,fs,w,rfl,⟨⟨dx,h1⟩,_⟩,q⟩:=h
  have h2:H p=some (.ins a.ay dx (K4 d w)):=h1
  refine⟨_,(af (aw (aY (pv 0) rfl))),?_⟩
  dsimp! [h2,HO.ins.injEq,T.aW,T.bu,Vf]
  exact q
theorem DB (t:Tg) {p d:Addr}{H:Hp}{Q:VK}{E:XK}(h:fG a K H p d t) (q:Q (wV t.words) H):∃sp,(t.cls a,sp)∈[(a.bj,oZ),(a.ay,AK a K),(a.aD,oZ)]∧sp [.ref p] H Q E:=by
 cases t with
 | plain fs w=>exact⟨_,.tail _ (.head _),p,d,fs,w,rfl,h,q⟩
 | weak f=>exact⟨_,.head _,p,rfl,q⟩
 | pair k v=>exact⟨_,.tail _ (.tail _ (.head _)),p,rfl,q⟩
noncomputable def Vi (a:da) (K:PySem.W.Frag):Sp:=fun vs H Q _=>∃p dx l xs w,vs=[.ref p,.ref l,wV w]∧H p=some (.ins a.ay dx [])∧bc K H l xs ∧
 ∀d H',eK p H H'→H d=none→H' p=some (.ins a.ay dx (K4 d w))→H' d=some (.lst xs)→Q .aP H'
theorem Vj (T:Txt K mg a):aN P w K mg base cx 6 a.vZ a.v5 ["self","some","last_words"] (Vi a K):=by
 refine T.rH.ok TU (fun vs H Q E h=>?_) (fun bI A outer s H vs Q E hr h=>?_)
 ·obtain⟨_,_,_,_,_,rfl,_⟩:=h
  rfl
 ·obtain⟨p,dx,l,xs,w,rfl,h1,hl,q⟩:=h
  refine⟨_,(aj (aQ (B8 (c9 (v:=.ref a.bj) rfl T.kb rfl) T.fF (AJ T) (hr.mono (by decide)) T.Ce .nil ar (aa (pv 0) (aa aX (aa (pv 1) ag))))) (af (eQ (pv 0) (pv 2) rfl))),?_⟩
  dsimp! []
  refine⟨p,_,dx,_,l,xs,rfl,T.aW,T.bP,T.bH,h1,hl,fun d H' k hd hp h2=>?_⟩
  have IQ:d≠p:=cL h2 hp (by intro z; cases z)
  refine⟨_,dx,_,hp,T.aW,T.bu,?_,q d _ (fun b o hb e=>?_) hd ae ?_⟩
  ·refine Nat.lt_of_le_of_lt (bZ _ _ _) (Nat.lt_of_le_of_lt (Nat.succ_le_succ (bZ _ _ _)) (by decide))
  ·rw [ah hb]
   exact k b o hb e
  ·rw [ah IQ]
   exact h2
noncomputable def Vk (a:da) (K:PySem.W.Frag):Sp:=fun vs H Q _=>∃p dx x y,vs=[.ref p,x,y]∧H p=some (.ins a.aD dx []) ∧
 ∀d H',eK p H H'→H d=none→H' p=some (.ins a.aD dx (K3 "pair" d))→H' d=some (.lst [x,y])→Q .aP H'
theorem ck {H:Hp}{b l:Addr}{o:HO}(h:upd H l o b=none):H b=none:=by
 by_cases z:b=l
 ·rw [z,ae] at h
  cases h
 ·rw [ah z] at h
  exact h
theorem Vm (T:Txt K mg a):aN P w K mg base cx 5 a.wb a.wc ["self","key","value"] (Vk a K):=by
 refine T.rL.ok TY (fun vs H Q E h=>?_) (fun bI A outer s H vs Q E hr h=>?_)
 ·obtain⟨_,_,_,_,rfl,_⟩:=h
  rfl
 ·obtain⟨p,dx,x,y,rfl,h1,q⟩:=h
  refine⟨_,(af (aQ (B8 (c9 (v:=.ref a.bj) rfl T.kb rfl) T.fF (AJ T) (hr.mono (by decide)) T.Ce .nil ar (aa (pv 0) (aa aX (aa (cE (aa (pv 1) (aa (pv 2) ag))) ag)))))),?_⟩
  dsimp! []
  refine⟨by decide,fun l hl=>⟨p,_,dx,_,l,[x,y],rfl,T.bp,T.bV,T.bB,by rw [ah (aq h1 hl)]; exact h1,bc.of ae,fun d H' k hd hp h2=>?_⟩⟩
  exact q d H' (fun b o hb e=>k b o hb (au.put hl b o e)) (ck hd) hp h2
theorem ir {H H':Hp}{x dx:Addr}{o u:HO}(h1:H x=none) (h2:H dx=none) (k:eK x (upd (upd H dx o) x u) H'):au H H':=fun b c e=>by
 have n:=aq e h1
 exact k b c n (by rw [ah n,ah (aq e h2)]; exact e)
noncomputable def Vn (a:da) (K:PySem.W.Frag):Sp:=fun vs H Q _=>∃l xs vl w,vs=[.ref l,wV w]∧bc K H l xs∧iZ K H xs vl∧xs.length≤1000 ∧
 ∀p d H',au H H'→H p=none→H d=none→fG a K H' p d (.plain vl w)→Q (.ref p) H'
theorem IU (T:Txt K mg a):aN P w K mg base cx 8 a.wg a.wj ["fields","words"] (Vn a K):=by
 refine T.me.ok T4 (fun vs H Q E h=>?_) (fun bI A outer s H vs Q E hr h=>?_)
 ·obtain⟨_,_,_,_,rfl,_⟩:=h
  rfl
 ·obtain⟨l,xs,vl,w,rfl,hl,hv,hz,q⟩:=h
  refine⟨_,(af (aw (dZ T.jo (Vj T) (hr.mono (by decide)) rfl T.jq T.O8 .nil ar (aa (pv 0) (aa (pv 1) ag))))),?_⟩
  dsimp! []
  refine fun x dx hx C5 ne=>⟨x,dx,l,xs,w,rfl,ae,?_,fun d H' k hd hp h2=>?_⟩
  ·exact((au.put C5).trans (au.put (by rw [ah ne.symm]; exact hx))).seq hl
  ·have sm:=ir hx C5 k
   exact⟨rfl,q x d H' sm hx (ck (ck hd)) ⟨⟨dx,hp⟩,xs,h2,hv.same sm,hz⟩⟩
noncomputable def Vo (a:da) (K:PySem.W.Frag):Sp:=fun vs H Q _=>∃x v,vs=[x]∧cI K H x v∧∀p d H',au H H'→H p=none→H d=none→fG a K H' p d (.weak v)→Q (.ref p) H'
theorem IV (T:Txt K mg a):aN P w K mg base cx 3 a.wk a.wm ["field"] (Vo a K):=by
 refine T.mf.ok T5 (fun vs H Q E h=>?_) (fun bI A outer s H vs Q E hr h=>?_)
 ·obtain⟨_,_,rfl,_⟩:=h
  rfl
 ·obtain⟨y,v,rfl,hv,q⟩:=h
  refine⟨_,(af (aw (dZ T.yN (AJ T) (hr.mono (by decide)) rfl T.kb T.Ce .nil ar (aa aX (aa (cE (aa (pv 0) ag)) ag))))),?_⟩
  dsimp! []
  refine⟨by decide,fun l hl=>fun x dx hx C5 ne=>⟨x,_,dx,_,l,[y],rfl,T.dh,T.c5,T.dj,ae,?_,fun d H' k hd hp h2=>?_⟩⟩
  ·exact((au.put C5).trans (au.put (by rw [ah ne.symm]; exact hx))).seq (bc.of ae)
  ·have sm:=(au.put hl).trans (ir hx C5 k)
   exact⟨rfl,q x d H' sm (ck hx) (ck (ck (ck hd))) ⟨⟨dx,hp⟩,[y],h2,.cons (hv.same sm) (.nil _ _),by simp⟩⟩
noncomputable def IW (a:da) (K:PySem.W.Frag):Sp:=fun vs H Q _=>∃x y u v,vs=[x,y]∧cI K H x u∧cI K H y v∧∀p d H',au H H'→H p=none→H d=none→fG a K H' p d (.pair u v)→Q (.ref p) H'
theorem IY (T:Txt K mg a):aN P w K mg base cx 7 a.wo a.wq ["key","value"] (IW a K):=by
 refine T.mh.ok T6 (fun vs H Q E h=>?_) (fun bI A outer s H vs Q E hr h=>?_)
 ·obtain⟨_,_,_,_,rfl,_⟩:=h
  rfl
 ·obtain⟨y,z,u,v,rfl,hu,hv,q⟩:=h
  refine⟨_,(af (aw (dZ T.j9 (Vm T) (hr.mono (by decide)) rfl T.kd T.Pa .nil ar (aa (pv 0) (aa (pv 1) ag))))),?_⟩
  dsimp! []
  refine fun x dx hx C5 ne=>⟨x,dx,y,z,rfl,ae,fun d H' k hd hp h2=>?_⟩
  have sm:=ir hx C5 k
  exact⟨rfl,q x d H' sm hx (ck (ck hd)) ⟨⟨dx,hp⟩,[y,z],h2,.cons (hu.same sm) (.cons (hv.same sm) (.nil _ _)),by simp⟩⟩
structure MA where
 p:Addr
 pr:Addr
 d:Addr
 lb:Addr
 bs:List Addr
 m:Nat
 c:Nat
noncomputable def Qu (pr lb:Addr):List (Str×V):=cP "begins" (.ref lb) (cP "rooms" (.ref pr) [])
theorem aeK:¬(("rooms":Str)="begins"):=by decide +kernel
theorem cT (pr lb:Addr):(Qu pr lb).lookup ("rooms":Str)=some (.ref pr):=by
 unfold Qu
 rw [aF,if_neg aeK,aF,if_pos rfl]
theorem eZ (pr lb:Addr):(Qu pr lb).lookup ("begins":Str)=some (.ref lb):=by
 unfold Qu
 rw [aF,if_pos rfl]
theorem bT {pr lb:Addr}{n:Str}(h1:¬n="begins":=by decide +kernel) (h2:¬n="rooms":=by decide +kernel):(Qu pr lb).lookup n=none:=by
 unfold Qu
 rw [aF,if_neg h1,aF,if_neg h2]
 all_goals rfl
noncomputable def iu (es:List (Nat×List V)) (c r:Nat):List (Key×V):=(es.filter fun b=>decide (b.1 / c=r)).map fun b=>((Sum.inl (b.1:Int):Key),V.bl true)
theorem yW {es:List (Nat×List V)}{c r p:Nat}:(aM (iu es c r) (Sum.inl (p:Int))).isSome=true↔∃b∈es,b.1=p∧p / c=r:=by
 rw [←df,List.any_eq_true]
 constructor
 ·rintro⟨x,hx,hk⟩
  obtain⟨b,hb,rfl⟩:=List.mem_map.mp hx
  obtain⟨h1,h2⟩:=List.mem_filter.mp hb
  have e:(b.1:Int)=(p:Int):=Sum.inl.inj (of_decide_eq_true hk)
  have e2:b.1=p:=by omega
  exact⟨b,h1,e2,by rw [←e2]; exact of_decide_eq_true h2⟩
 ·rintro⟨b,hb,rfl,hr⟩
  exact⟨_,List.mem_map.mpr ⟨b,List.mem_filter.mpr ⟨hb,decide_eq_true hr⟩,rfl⟩,decide_eq_true rfl⟩
theorem L9 {es:List (Nat×List V)}{c r p:Nat}(h:¬∃b∈es,b.1=p∧p / c=r):aM (iu es c r) (Sum.inl (p:Int))=none:=by
 cases e:aM (iu es c r) (Sum.inl (p:Int))with
 | none=>rfl
 | some v=>exact absurd (yW.mp (by rw [e]; rfl)) h
theorem IZ {es:List (Nat×List V)}{c r g:Nat}{cs:List V}:iu (es++[(g,cs)]) c r=if g / c=r then iu es c r++[(Sum.inl (g:Int),V.bl true)] else iu es c r:=by
 unfold iu
 rw [List.filter_append,List.map_append]
 by_cases h:g / c=r
 ·rw [if_pos h]
  simp [h]
 ·rw [if_neg h]
  simp [h]
theorem I0 {es:List (Nat×List V)}{c r:Nat}:(iu es c r).length≤es.length:=by
 unfold iu
 rw [List.length_map]
 exact List.length_filter_le _ _
noncomputable def MA.own (M:MA) (b:Addr):Prop:=b=M.d∨b∈M.bs
structure cy (a:da) (H:Hp) (M:MA) (xs:List V) (es:List (Nat×List V)):Prop where
 ob:∃dx,H M.p=some (.ins a.aU dx (Qu M.pr M.lb))
 R:cD a.bM H M.pr M.d M.m M.c xs
 li:H M.lb=some (.lst (M.bs.map V.ref))
 nl:M.lb≠M.d
 bl:M.bs.length=M.m
 bd:∀(r:Nat) b,M.bs[r]?=some b→H b=some (.dK (iu es M.c r))
 bi:M.bs.Nodup
 lay:Lay xs M.c es
 Ei:es.length≤1000
theorem cy.mu {a:da}{H:Hp}{M:MA}{xs:List V}{es:List (Nat×List V)}(h:cy a H M xs es) (b:Addr) (hb:M.own b):Mu H b:=by
 rcases hb with rfl | hb
 ·exact .inl ⟨_,h.R.li⟩
 ·obtain⟨r,hr⟩:=List.mem_iff_getElem?.mp hb
  exact .inr ⟨_,h.bd r b hr⟩
theorem cy.same {a:da}{H H':Hp}{M:MA}{xs:List V}{es:List (Nat×List V)}(h:cy a H M xs es) (k:au H H'):cy a H' M xs es where
 ob:=by
  obtain⟨dx,e⟩:=h.ob
  exact⟨dx,k _ _ e⟩
 R:=h.R.same k
 li:=k _ _ h.li
 nl:=h.nl
 bl:=h.bl
 bd:=fun r b e=>k _ _ (h.bd r b e)
 bi:=h.bi
 lay:=h.lay
 Ei:=h.Ei
theorem cy.off {a:da}{S:Addr→Prop}{H H':Hp}{M:MA}{xs:List V}{es:List (Nat×List V)}(h:cy a H M xs es) (k:Kp S H H') (n1:¬S M.p) (n2:¬S M.pr) (n3:¬S M.lb) (n4:∀b,M.own b→¬S b):cy a H' M xs es where
 ob:=by
  obtain⟨dx,e⟩:=h.ob
  exact⟨dx,k _ _ n1 e⟩
 R:=by
  obtain⟨dx,e⟩:=h.R.ob
  exact⟨⟨dx,k _ _ n2 e⟩,k _ _ (n4 _ (.inl rfl)) h.R.li,h.R.len,h.R.m0,h.R.c0,h.R.sm⟩
 li:=k _ _ n3 h.li
 nl:=h.nl
 bl:=h.bl
 bd:=fun r b e=>k _ _ (n4 b (.inr (List.mem_of_getElem? e))) (h.bd r b e)
 bi:=h.bi
 lay:=h.lay
 Ei:=h.Ei
structure En where
 t:Tg
 dq:Int
 cH:Bool
noncomputable def Tg.kn:Tg→Nat
 | .plain _ _=>0
 | .weak _=>1
 | .pair _ _=>2
noncomputable def Tg.kind (t:Tg):Int:=(t.kn:Int)
noncomputable def Tg.first:Tg→Nat
 | .plain _ _=>3
 | _=>2
theorem Tg.f2 (t:Tg):2≤t.first∧t.first≤3:=by cases t <;> (constructor <;> simp [Tg.first])
noncomputable def Tg.size (t:Tg):Nat:=t.first+t.fs.length
noncomputable def wVl:Option Int→Vl
 | none=>.no
 | some n=>.num n
structure Cells (K:PySem.W.Frag) (H:Hp) (cs:List V) (e:En):Prop where
 ex:∃mid fx,cs=.int (hd e.t.kind e.cH e.t.words.isSome (e.t.size:Nat))::.int e.dq::(mid++fx)∧iZ K H fx e.t.fs∧mid.length+2=e.t.first∧∀x∈mid,cI K H x (wVl e.t.words)
theorem Cells.len {K:PySem.W.Frag}{H:Hp}{cs:List V}{e:En}(h:Cells K H cs e):cs.length=e.t.size:=by
 obtain⟨mid,fx,rfl,h2,h3,_⟩:=h.ex
 have:=h2.1
 simp only [List.length_cons,List.length_append,Tg.size]
 omega
theorem Cells.pos {K:PySem.W.Frag}{H:Hp}{cs:List V}{e:En}(h:Cells K H cs e):0 < cs.length:=by
 rw [h.len]
 unfold Tg.size
 cases e.t <;> simp [Tg.first] <;> omega
theorem Cells.nn {K:PySem.W.Frag}{H:Hp}{cs:List V}{e:En}(h:Cells K H cs e):∀v∈cs,v≠.aP:=by
 obtain⟨mid,fx,rfl,h2,h3,h4⟩:=h.ex
 intro v hv
 rcases List.mem_cons.mp hv with rfl | hv
 ·exact fun z=>nomatch z
 ·rcases List.mem_cons.mp hv with rfl | hv
  ·exact fun z=>nomatch z
  ·rcases List.mem_append.mp hv with hv | hv
   ·obtain⟨t,rfl,_⟩:=h4 v hv
    exact fun z=>nomatch z
   ·obtain⟨i,hi⟩:=List.mem_iff_getElem?.mp hv
    have hl:=(List.getElem?_eq_some_iff.mp hi).1
    have:=h2.1
    obtain⟨t,rfl,_⟩:=h2.2 i v _ hi (List.getElem?_eq_getElem (by omega))
    exact fun z=>nomatch z
theorem Cells.same {K:PySem.W.Frag}{H H':Hp}{cs:List V}{e:En}(h:Cells K H cs e) (k:au H H'):Cells K H' cs e:=by
 obtain⟨mid,fx,e1,h2,h3,h4⟩:=h.ex
 exact⟨mid,fx,e1,h2.same k,h3,fun x hx=>(h4 x hx).same k⟩
theorem Cells.kp {K:PySem.W.Frag}{S:Addr→Prop}{H H':Hp}{cs:List V}{e:En}(h:Cells K H cs e) (k:Kp S H H') (mu:∀b,S b→Mu H b):Cells K H' cs e:=by
 obtain⟨mid,fx,e1,h2,h3,h4⟩:=h.ex
 exact⟨mid,fx,e1,h2.kp k mu,h3,fun x hx=>(h4 x hx).kp k mu⟩
theorem Tg.k0 (t:Tg):0≤t.kind∧t.kind < 3:=by cases t <;> (constructor <;> simp [Tg.kind,Tg.kn])
theorem Tg.ix (t:Tg):(["plain","weak","pair"]:List Str)[t.kn]?=some t.sort:=by cases t <;> rfl
theorem L_ (w:Option Int):(!decide (wV w=V.aP))=w.isSome:=by cases w <;> rfl
noncomputable def Vp:Sp:=fun vs H Q _=>∃t:Tg,vs=[.str t.sort]∧Q (.int (t.first:Nat)) H
theorem Vq:¬(("weak":Str)="plain"):=by decide +kernel
theorem Ma:¬(("pair":Str)="plain"):=by decide +kernel
theorem ZD:¬(("pair":Str)="weak"):=by decide +kernel
theorem ZE:¬(("plain":Str)="weak"):=by decide +kernel
theorem AL (T:Txt K mg a):aN P w K mg base cx 1 a.xI a.xJ ["sort"] Vp:=by
 refine T.j_.ok Ur (fun vs H Q E h=>?_) (fun bI A outer s H vs Q E hr h=>?_)
 ·obtain⟨_,rfl,_⟩:=h
  rfl
 ·obtain⟨t,rfl,q⟩:=h
  refine⟨_,(af (aw (dy (aA cA (pv 0) aX (aE _)) ak ak))),?_⟩
  cases t with
  | plain fs w=>
   dsimp! [Tg.sort]
   exact q
  | weak f=>
   dsimp! [Tg.sort,Vq]
   exact q
  | pair k v=>
   dsimp! [Tg.sort,Ma]
   exact q
theorem Tg.ixn (t:Tg):∀(i:Nat) y,i < t.kn→(["plain","weak","pair"]:List Str)[i]?=some y→y≠t.sort:=by
 intro i y hi hy
 cases t with
 | plain fs w=>exact absurd hi (Nat.not_lt_zero _)
 | weak f=>
  have e:i=0:=Nat.lt_one_iff.mp hi
  subst e
  cases hy
  exact ZE
 | pair k v=>
  have h2:i < 2:=hi
  match i,h2,hy with
  | 0,_,hy=>
   cases hy
   exact fun z=>Ma z.symm
  | 1,_,hy=>
   cases hy
   exact fun z=>ZD z.symm
noncomputable def Vr (a:da) (K:PySem.W.Frag):Sp:=fun vs H Q _=>∃p d t,vs=[.ref p]∧fG a K H p d t∧∀H',au H H'→Q (.int (t.size:Nat)) H'
theorem I_ (T:Txt K mg a):aN P w K mg base cx 2 a.xK a.xM ["thing"] (Vr a K):=by
 refine T.mq.ok Us (fun vs H Q E h=>?_) (fun bI A outer s H vs Q E hr h=>?_)
 ·obtain⟨_,_,_,rfl,_⟩:=h
  rfl
 ·obtain⟨p,d,t,rfl,h,q⟩:=h
  obtain⟨dx,h1⟩:=h.ob
  refine⟨_,(af (aw (bt d8 (aH (AL T) (hr.mono (by decide)) rfl T.Cj T.j_.kp T.Ci .nil ar (aa (cR (L:=[(a.bj,fH a K),(a.ay,fH a K),(a.aD,fH a K)]) (pv 0) (List.forall_mem_cons.mpr ⟨⟨_,_,_,_,T.dh,T.t6,gs T,hr.mono (by decide),T.jn⟩,List.forall_mem_cons.mpr ⟨⟨_,_,_,_,T.aW,T.cj,gs T,hr.mono (by decide),T.jn⟩,List.forall_mem_cons.mpr ⟨⟨_,_,_,_,T.bp,T.cC,gs T,hr.mono (by decide),T.jn⟩,List.forall_mem_nil _⟩⟩⟩) .nil ar) ag)) (bJ cB rfl T.eC dW (aa (cR (L:=[(a.bj,fI a K),(a.ay,fI a K),(a.aD,fI a K)]) (pv 0) (List.forall_mem_cons.mpr ⟨⟨_,_,_,_,T.dh,T.Aw,lL T,hr.mono (by decide),T.om⟩,List.forall_mem_cons.mpr ⟨⟨_,_,_,_,T.aW,T.dg,lL T,hr.mono (by decide),T.om⟩,List.forall_mem_cons.mpr ⟨⟨_,_,_,_,T.bp,T.dv,lL T,hr.mono (by decide),T.om⟩,List.forall_mem_nil _⟩⟩⟩) .nil ar) ag))))),?_⟩
  have f2:=t.no d (n:="sort_of")
  have f3:=t.no d (n:="fields")
  dsimp! [h1,HO.ins.injEq,f2,f3]
  refine⟨_,t.mem _,p,d,t,rfl,h,t,rfl,_,_,_,h1,f3,_,t.mem _,p,d,t,rfl,h,fun r xs f9 hv hz=>?_⟩
  refine⟨r,rfl,xs,.inl (bc.of ae),?_⟩
  have:=q _ (au.put (o:=.lst xs) f9)
  rw [←hv.1]
  simpa [Tg.size] using this
noncomputable def Vs (K:PySem.W.Frag):Sp:=fun vs H Q _=>∃w,vs=[wV w]∧∀x H',au H H'→cI K H' x (wVl w)→Q x H'
theorem Vt (T:Txt K mg a):aN P w K mg base cx 1 a.xN a.xO ["words"] (Vs K):=by
 refine T.oG.ok Ut (fun vs H Q E h=>?_) (fun bI A outer s H vs Q E hr h=>?_)
 ·obtain⟨_,rfl,_⟩:=h
  rfl
 ·obtain⟨w,rfl,q⟩:=h
  refine⟨_,(af (aw (dy (aA z4 (pv 0) cM (aE _)) (c9 (v:=.ref a.dC) rfl T.sQ rfl) (dA (aa aX (aa (pv 0) ag)))))),?_⟩
  cases w with
  | none=>
   dsimp! [wV]
   exact q _ H (.refl H) ⟨_,rfl,T.sR H⟩
  | some n=>
   dsimp! [wV]
   exact⟨by decide,fun t ht=>q _ _ (au.put ht) ⟨t,rfl,bU.of ae⟩⟩
noncomputable def Vu (C:Addr):Sp:=fun vs H Q _=>∃p d m c xs i,vs=[.ref p,.int (i:Nat)]∧cD C H p d m c xs∧Q (.int ((i / c:Nat):Int)) H
theorem Ja (T:Txt K mg a):aN P w K mg base cx 1 a.xG a.xH ["self","place"] (Vu a.bM):=by
 refine T.sk.ok Uq (fun vs H Q E h=>?_) (fun bI A outer s H vs Q E hr h=>?_)
 ·obtain⟨_,_,_,_,_,_,rfl,_⟩:=h
  rfl
 ·obtain⟨p,d,m,c,xs,i,rfl,R,q⟩:=h
  obtain⟨dx,h1⟩:=R.ob
  have hc0:=R.c0
  have u7:c≤1000:=Nat.le_trans (Nat.le_mul_of_pos_left c R.m0) R.sm
  refine⟨_,(af (aw (bt g6 (pv 1) (aY (pv 0) rfl)))),?_⟩
  dsimp! [h1,HO.ins.injEq,T.bw,T.cS,oW]
  refine⟨.small (by omega) (by omega),?_⟩
  rw [←Int.natCast_ediv]
  exact q
theorem lM {t:Tg}{dq:Int}{mk:Bool}{H:Hp}{p d l1 l2:Addr}{mid:List V}{Q:VK}{E:XK}{Jb:Int}(eh:Jb=hd t.kind mk t.words.isSome (t.size:Nat)) (em:mid.length+2=t.first) (hf:t.fs.length≤900)
  (f3:(t.fl d).lookup ("fields":Str)=none) (h:fG a K H p d t) (i3:H l1=none) (g5:upd H l1 (.lst mid) l2=none) (hx:∀x∈mid,cI K H x (wVl t.words)) (hml:mid.length≤1)
  (q:∀r cs H',au H H'→H r=none→H' r=some (.lst cs)→Cells K H' cs (⟨t,dq,mk⟩:En)→Q (.ref r) H') :
  EY K (.ref l2) (.ref l1) (upd (upd H l1 (.lst mid)) l2 (.lst [.int Jb,.int dq])) fun x H1=>
   ∃C dx fs,H1 p=some (.ins C dx fs)∧fs.lookup ("fields":Str)=none∧∃sp,(C,sp)∈[(a.bj,fI a K),(a.ay,fI a K),(a.aD,fI a K)]∧sp [.ref p] H1 (fun y H2=>EY K x y H2 Q) E:=by
 have n12:l1≠l2:=aq ae g5
 have k1:=(au.put (o:=.lst mid) i3).trans (au.put (o:=.lst [V.int Jb,V.int dq]) g5)
 refine⟨l2,l1,[.int Jb,.int dq],mid,rfl,rfl,bc.of ae,bc.of (by rw [ah n12]; exact ae),Nat.le_of_lt (bb (by simp; omega)),fun l3 Mb=>?_⟩
 have k2:=k1.trans (au.put (o:=.lst ([V.int Jb,V.int dq]++mid)) Mb)
 have ZF:upd (upd (upd H l1 (.lst mid)) l2 (.lst [V.int Jb,V.int dq])) l3 (.lst ([V.int Jb,V.int dq]++mid)) l3=some (.lst ([V.int Jb,V.int dq]++mid)):=ae
 generalize upd (upd (upd H l1 (.lst mid)) l2 (.lst [V.int Jb,V.int dq])) l3 (.lst ([V.int Jb,V.int dq]++mid))=H3 at k2 ZF
 have h3:=h.same k2
 obtain⟨dx,h4⟩:=h3.ob
 refine⟨_,dx,_,h4,f3,_,t.mem _,p,d,t,rfl,h3,fun l4 fx Mc hv hz=>?_⟩
 have k4:=au.put (o:=.lst fx) Mc
 have fl:fx.length≤900:=by rw [←hv.1]; exact hf
 refine⟨l3,l4,_,fx,rfl,rfl,bc.of (k4 _ _ ZF),bc.of ae,Nat.le_of_lt (bb (by simp; omega)),fun r hr=>?_⟩
 have k5:=au.put (o:=.lst (([V.int Jb,V.int dq]++mid)++fx)) hr
 have kk:=k2.trans (k4.trans k5)
 refine q r _ _ kk (k2.free (ck hr)) ae ⟨mid,fx,by rw [eh]; rfl,hv.same (k4.trans k5),em,fun x hx2=>(hx x hx2).same kk⟩
noncomputable def Vv (a:da) (K:PySem.W.Frag):Sp:=fun vs H Q _=>∃p d t dq mk,vs=[.ref p,.int dq,.bl mk]∧fG a K H p d t∧t.fs.length≤900∧∀r cs H',au H H'→H r=none→H' r=some (.lst cs)→Cells K H' cs (⟨t,dq,mk⟩:En)→Q (.ref r) H'
theorem Vw (T:Txt K mg a):aN P w K mg base cx 4 a.xP a.xQ ["thing","serial","marked"] (Vv a K):=by
 refine T.oH.ok t4 (fun vs H Q E h=>?_) (fun bI A outer s H vs Q E hr h=>?_)
 ·obtain⟨_,_,_,_,_,rfl,_⟩:=h
  rfl
 ·obtain⟨p,d,t,dq,mk,rfl,h,hf,q⟩:=h
  obtain⟨dx,h1⟩:=h.ob
  refine⟨_,(aj (aR (i:=3) t4.nd rfl (Or.inl rfl) (cR (L:=[(a.bj,oZ),(a.ay,AK a K),(a.aD,oZ)]) (pv 0) (List.forall_mem_cons.mpr ⟨⟨_,_,_,_,T.dh,T.HC,IT T,hr.mono (by decide),T.HB⟩,List.forall_mem_cons.mpr ⟨⟨_,_,_,_,T.aW,T.HE,Vh T,hr.mono (by decide),T.O_⟩,List.forall_mem_cons.mpr ⟨⟨_,_,_,_,T.bp,T.eX,IT T,hr.mono (by decide),T.HB⟩,List.forall_mem_nil _⟩⟩⟩) .nil ar)) (aj (aR (i:=4) t4.nd rfl (Or.inl rfl) (aH (UR T) (hr.mono (by decide)) rfl T.Pt T.oy.kp T.Pq .nil ar (aa (ER PySem.F.plainAttrs_tuple PySem.F.slot_tuple_index PySem.F.type_tuple_index Dg (c9 (v:=.ref a.eI) rfl T.t8 rfl) (aa (cR (L:=[(a.bj,fH a K),(a.ay,fH a K),(a.aD,fH a K)]) (pv 0) (List.forall_mem_cons.mpr ⟨⟨_,_,_,_,T.dh,T.t6,gs T,hr.mono (by decide),T.jn⟩,List.forall_mem_cons.mpr ⟨⟨_,_,_,_,T.aW,T.cj,gs T,hr.mono (by decide),T.jn⟩,List.forall_mem_cons.mpr ⟨⟨_,_,_,_,T.bp,T.cC,gs T,hr.mono (by decide),T.jn⟩,List.forall_mem_nil _⟩⟩⟩) .nil ar) ag)) (aa (pv 2) (aa (eE fh (pv 3) cM (aE _)) (aa (aH (I_ T) (hr.mono (by decide)) rfl T.Ip T.mq.kp T.Io .nil ar (aa (pv 0) ag)) ag)))))) (aj (aR (i:=5) t4.nd rfl (Or.inl rfl) (dy (aA cA (cR (L:=[(a.bj,fH a K),(a.ay,fH a K),(a.aD,fH a K)]) (pv 0) (List.forall_mem_cons.mpr ⟨⟨_,_,_,_,T.dh,T.t6,gs T,hr.mono (by decide),T.jn⟩,List.forall_mem_cons.mpr ⟨⟨_,_,_,_,T.aW,T.cj,gs T,hr.mono (by decide),T.jn⟩,List.forall_mem_cons.mpr ⟨⟨_,_,_,_,T.bp,T.cC,gs T,hr.mono (by decide),T.jn⟩,List.forall_mem_nil _⟩⟩⟩) .nil ar) aX (aE _)) (cE (aa (aH (Vt T) (hr.mono (by decide)) rfl T.PU T.oG.kp T.PR .nil ar (aa (pv 3) ag)) ag)) (cE ag))) (af (aw (bt B4 (bt B4 (cE (aa (pv 4) (aa (pv 1) ag))) (pv 5)) (cR (L:=[(a.bj,fI a K),(a.ay,fI a K),(a.aD,fI a K)]) (pv 0) (List.forall_mem_cons.mpr ⟨⟨_,_,_,_,T.dh,T.Aw,lL T,hr.mono (by decide),T.om⟩,List.forall_mem_cons.mpr ⟨⟨_,_,_,_,T.aW,T.dg,lL T,hr.mono (by decide),T.om⟩,List.forall_mem_cons.mpr ⟨⟨_,_,_,_,T.bp,T.dv,lL T,hr.mono (by decide),T.om⟩,List.forall_mem_nil _⟩⟩⟩) .nil ar))))))),?_⟩
  have f1:=t.no d (n:="words")
  have f2:=t.no d (n:="sort_of")
  have f3:=t.no d (n:="fields")
  dsimp! [h1,HO.ins.injEq,f1,f2,f3]
  refine DB t h ?_
  dsimp! [h1,HO.ins.injEq,f2,f3,L_]
  have hsz:(t.size:Int) < 10 ^ 60:=by
   have:t.size≤903:=by
    unfold Tg.size
    have:=t.f2.2
    omega
   exact Int.lt_of_lt_of_le (b:=1000) (by omega) (by decide)
  refine⟨.inr (.inl ⟨rfl,T.Co⟩),_,t.mem _,p,d,t,rfl,h,["plain","weak","pair"],_,rfl,T.t9 H,t.kn,t.ix,t.ixn,p,d,t,rfl,h,fun H1 s1=>⟨_,_,_,_,rfl,t.k0,by omega,hsz,_,_,_,s1 _ _ h1,f2,_,t.mem _,p,d,t,rfl,h.same s1,?_⟩⟩
  have DC:=h.same s1
  have h11:=s1 _ _ h1
  cases t with
  | plain fs w=>
   dsimp! [Tg.sort]
   refine⟨w,rfl,fun x H2 s2 hx=>⟨by simp [sizeLine_eq],fun l1 i3=>⟨by decide,fun l2 g5=>?_⟩⟩⟩
   exact lM (mid:=[x]) rfl rfl hf f3 (h.same (s1.trans s2)) i3 g5 (fun y hy=>by rw [List.mem_singleton.mp hy]; exact hx) (by simp) fun r cs H' s3 Jc Md hc=>q r cs H' ((s1.trans s2).trans s3) ((s1.trans s2).free Jc) Md hc
  | weak f=>
   dsimp! [Tg.sort,Vq]
   refine fun l1 i3=>⟨by decide,fun l2 g5=>?_⟩
   exact lM (mid:=[]) rfl rfl hf f3 DC i3 g5 (fun y hy=>(nomatch hy)) (by simp) fun r cs H' s3 Jc Md hc=>q r cs H' (s1.trans s3) (s1.free Jc) Md hc
  | pair k v=>
   dsimp! [Tg.sort,Ma]
   refine fun l1 i3=>⟨by decide,fun l2 g5=>?_⟩
   exact lM (mid:=[]) rfl rfl hf f3 DC i3 g5 (fun y hy=>(nomatch hy)) (by simp) fun r cs H' s3 Jc Md hc=>q r cs H' (s1.trans s3) (s1.free Jc) Md hc
noncomputable def Vx (a:da):Sp:=fun vs H Q _=>∃p dx m c,vs=[.ref p,.int (m:Nat),.int (c:Nat)]∧H p=some (.ins a.aU dx [])∧0 < m∧0 < c∧m*c≤1000 ∧
 ∀M H',M.p=p→M.m=m→M.c=c→cy a H' M (List.replicate (m*c) .aP) []→eK p H H'→(∀b,M.own b→H b=none)→H M.lb=none→H M.pr=none→Q .aP H'
theorem Vy (T:Txt K mg a):aN P w K mg base cx 4 a.xR a.xS ["self","many","cells"] (Vx a):=by
 refine T.so.ok Uu (fun vs H Q E h=>?_) (fun bI A outer s H vs Q E hr h=>?_)
 ·obtain⟨_,_,_,_,rfl,_⟩:=h
  rfl
 ·obtain⟨p,dx,m,c,rfl,h1,hm,hc,XX,q⟩:=h
  refine⟨_,(aj (eQ (pv 0) (dZ T.yP (Vb T) (hr.mono (by decide)) rfl T.yR T.PL .nil ar (aa (pv 1) (aa (pv 2) ag))) rfl) (af (eQ (pv 0) (Fc rfl (C9 (x:="room") (ns:=[]) (fr:=[]) rfl (by decide +kernel) rfl (by decide +kernel) rfl (List.forall_mem_nil _) rfl rfl (List.forall_mem_nil _) (by decide +kernel)) (iQ rfl T.eJ (aa (pv 1) ag)) (fun _ _ _ _=>eS) (fun _ _ _ _=>.nil)) rfl))),?_⟩
  dsimp! [h1,HO.ins.injEq]
  refine fun x yX hx aeL ne=>⟨x,yX,m,c,rfl,ae,hm,hc,XX,fun H2 d R2 k2 hd2=>?_⟩
  have t_:m≤1000:=Nat.le_trans (Nat.le_mul_of_pos_right m hc) XX
  have kH:au H H2:=fun b o e=>k2 b o (aq e hx) (by rw [ah (aq e hx),ah (aq e aeL)]; exact e)
  have tV:=kH _ _ h1
  have hd0:H d=none:=ck (ck hd2)
  refine⟨rfl,_,_,_,tV,T.ax,T.aL,by decide,by omega,by omega,fun D hD=>?_⟩
  have hDp:D≠p:=fun z=>by rw [z,ae] at hD; cases hD
  have kp3:eK p H2 (upd H2 p (.ins a.aU dx (cP "rooms" (.ref x) []))):=(eK.refl p H2).set
  have K5:upd H2 p (.ins a.aU dx (cP "rooms" (.ref x) [])) p=some (.ins a.aU dx (cP "rooms" (.ref x) [])):=ae
  have n3:∀b,upd H2 p (.ins a.aU dx (cP "rooms" (.ref x) [])) b=none→H b=none:=fun b hb=>by
   have h0:=ck hb
   cases e:H b with
   | none=>rfl
   | some o=>
    rw [kH b o e] at h0
    cases h0
  generalize upd H2 p (.ins a.aU dx (cP "rooms" (.ref x) []))=H3 at hD kp3 K5 n3
  have hdp:d≠p:=cL R2.li tV (by intro z; cases z)
  have hxp:x≠p:=(aq h1 hx).symm
  have R3:cD a.bM H3 x d m c (List.replicate (m*c) V.aP):=by
   obtain⟨Me,h5⟩:=R2.ob
   exact⟨⟨Me,kp3 _ _ hxp h5⟩,kp3 _ _ hdp R2.li,R2.len,R2.m0,R2.c0,R2.sm⟩
  refine lcr (fun i ys H4=>∃bs:List Addr,ys=bs.map V.ref∧bs.length=i∧bs.Nodup∧H4 D=some (.lst ys)∧(∀b∈bs,H4 b=some (.dK [])∧H3 b=none∧b≠D)∧au H3 H4)
   ⟨[],rfl,rfl,List.nodup_nil,ae,fun b hb=>(nomatch hb),au.put hD⟩ ?_ ?_
  ·rintro i m' ys H4 hmm hi ⟨bs,rfl,Qt,zR,DD,ZG,k4⟩
   dsimp! [aV]
   refine fun b hb=>OV.mk hmm (by rw [ah (aq DD hb)]; exact DD) (by rw [List.length_map]; omega) ⟨bs++[b],by rw [List.map_append]; rfl,by simp [Qt],?_,ae,fun b' hb'=>?_,?_⟩
   ·refine gg zR fun z=>?_
    rw [(ZG b z).1] at hb
    cases hb
   ·have nb:b≠D:=(aq DD hb).symm
    have h3b:H3 b=none:=by
     cases e:H3 b with
     | none=>rfl
     | some o=>
      rw [k4 b o e] at hb
      cases hb
    rcases List.mem_append.mp hb' with z | z
    ·obtain⟨z1,z2,z3⟩:=ZG b' z
     refine⟨?_,z2,z3⟩
     rw [ah z3,ah (aq z1 hb)]
     exact z1
    ·rw [List.mem_singleton.mp z]
     refine⟨?_,h3b,nb⟩
     rw [ah nb]
     exact ae
   ·intro b' o e
    rw [ah (aq e hD),ah (aq (k4 b' o e) hb)]
    exact k4 b' o e
  ·rintro ys H4 ⟨bs,rfl,Qt,zR,DD,ZG,k4⟩
   have hp4:=k4 _ _ K5
   refine⟨_,_,_,hp4,T.ax,T.bq,Nat.lt_of_le_of_lt (bZ _ _ _) (by decide),?_⟩
   have Em:eK p H4 (upd H4 p (.ins a.aU dx (cP "begins" (.ref D) (cP "rooms" (.ref x) [])))):=(eK.refl p H4).set
   refine q ⟨p,x,d,D,bs,m,c⟩ _ rfl rfl rfl ⟨⟨dx,ae⟩,?_,Em _ _ hDp DD,?_,Qt,fun r b f9=>?_,zR,Lay.nil _ _,Nat.zero_le _⟩ ?_ ?_ (n3 D hD) hx
   ·have R4:=R3.same k4
    obtain⟨Me,h5⟩:=R4.ob
    exact⟨⟨Me,Em _ _ hxp h5⟩,Em _ _ hdp R4.li,R4.len,R4.m0,R4.c0,R4.sm⟩
   ·exact(aq R3.li hD).symm
   ·have hb:=ZG b (List.mem_of_getElem? f9)
    exact Em _ _ (cL hb.1 hp4 (by intro z; cases z)) hb.1
   ·intro b o hb e
    exact Em b o hb (k4 b o (kp3 b o hb (kH b o e)))
   ·rintro b (rfl | hb)
    ·exact hd0
    ·exact n3 b (ZG b hb).2.1
theorem yY {α:Type}{l:List α}(h:l.Nodup) {i j:Nat}(hi:i < l.length) (hj:j < l.length) (e:l[i]=l[j]):i=j:=by
 rcases Nat.lt_trichotomy i j with q | q | q
 ·exact absurd e (List.pairwise_iff_getElem.mp h i j hi hj q)
 ·exact q
 ·exact absurd e.symm (List.pairwise_iff_getElem.mp h j i hj hi q)
noncomputable def Vz (a:da):Sp:=fun vs H Q _=>∃M xs es g l cs,vs=[.ref M.p,.int (g:Nat),.ref l]∧cy a H M xs es∧H l=some (.lst cs)∧l≠M.d∧Fits xs M.c cs.length g∧0 < cs.length∧(∀v∈cs,v≠.aP)∧es.length < 1000 ∧
 ∀H',Kp M.own H H'→cy a H' M (cF xs g cs) (es++[(g,cs)])→Q .aP H'
theorem VA (T:Txt K mg a):aN P w K mg base cx 2 a.xV a.xW ["self","place","some"] (Vz a):=by
 refine T.sv.ok Uv (fun vs H Q E h=>?_) (fun bI A outer s H vs Q E hr h=>?_)
 ·obtain⟨_,_,_,_,_,_,rfl,_⟩:=h
  rfl
 ·obtain⟨M,xs,es,g,l,cs,rfl,hM,hl,nld,hF,u7,hnn,hes,q⟩:=h
  obtain⟨dx,h1⟩:=hM.ob
  obtain⟨yX,h2⟩:=hM.R.ob
  refine⟨_,(aj (aQ (aI (aY (pv 0) rfl) T.bw T.Ik (U9 T) (hr.mono (by decide)) T.PQ .nil ar (aa (pv 1) (aa (pv 2) ag)))) (af (fk (bO hr) (aC bS (aY (pv 0) rfl) (aI (aY (pv 0) rfl) T.bw T.AG (Ja T) (hr.mono (by decide)) T.Im .nil ar (aa (pv 1) ag)) (fun _ _=>rfl)) (pv 1) dQ rfl))),?_⟩
  have f1:=bT (pr:=M.pr) (lb:=M.lb) (n:="fill_in")
  dsimp! [h1,h2,HO.ins.injEq,T.ax,T.aL,cT,AI]
  have hR:=hM.R
  have hdl:=hR.li
  refine⟨M.pr,M.d,M.m,M.c,xs,g,l,cs,rfl,hR,hl,nld,hF.1,fun H1 k1 VB=>?_⟩
  have IQ:M.p≠M.d:=cL h1 hdl (by intro z; cases z)
  have K6:=k1 _ _ IQ h1
  have h2':=k1 _ _ hR.ne h2
  have R1:=hR.keep k1 VB (d4 cs xs g)
  have ZH:=k1 _ _ hM.nl hM.li
  have Jd:g / M.c < M.m:=by
   rw [Nat.div_lt_iff_lt_mul hR.c0,←hR.len]
   have:=hF.1
   omega
  have VC:g / M.c < M.bs.length:=by rw [hM.bl]; exact Jd
  have Mf:M.bs[g / M.c]?=some M.bs[g / M.c]:=List.getElem?_eq_getElem VC
  have hbd:=hM.bd _ _ Mf
  have nbd:M.bs[g / M.c]≠M.d:=cL hbd hdl (by intro z; cases z)
  have Mg:=k1 _ _ nbd hbd
  refine⟨_,_,_,K6,T.ax,T.bq,_,eZ _ _,_,_,_,K6,T.ax,T.aL,_,cT _ _,_,rfl,_,_,h2',oX _ _ _,M.pr,M.d,M.m,M.c,cF xs g cs,g,rfl,R1,?_⟩
  have hno:aM (iu es M.c (g / M.c)) (Sum.inl (g:Int))=none:=L9 fun⟨b,hb,e1,_⟩=>by
   have h3:=hM.lay.apart hb hF.2.2 u7
   have h4:=(hM.lay.one b hb).1
   omega
  refine⟨M.lb,_,_,.ref M.bs[g / M.c],rfl,rfl,bc.of ZH,b9 (by rw [List.getElem?_map,Mf]; rfl),_,rfl,_,lC.k (k:=Sum.inl (g:Int)) Mg (bb (Nat.le_trans I0 (Nat.le_of_lt hes))),?_⟩
  rw [hV _ hno]
  refine q _ ?_ ⟨⟨dx,?_⟩,?_,?_,hM.nl,hM.bl,fun r b hb=>?_,hM.bi,hM.lay.put hF u7 hnn,by simp; omega⟩
  ·exact(eK.kp k1 (.inl rfl)).set (.inr (List.getElem_mem VC))
  ·rw [ah (cL K6 Mg (by intro z; cases z))]
   exact K6
  ·exact⟨⟨yX,by rw [ah (cL h2' Mg (by intro z; cases z))]; exact h2'⟩,by rw [ah nbd.symm]; exact VB,R1.len,R1.m0,R1.c0,R1.sm⟩
  ·rw [ah (cL ZH Mg (by intro z; cases z))]
   exact ZH
  ·rw [IZ]
   by_cases f9:g / M.c=r
   ·subst f9
    rw [Mf] at hb
    cases hb
    rw [if_pos rfl,ae]
   ·have hrl:=(List.getElem?_eq_some_iff.mp hb).1
    have hrb:=(List.getElem?_eq_some_iff.mp hb).2
    have nb:b≠M.bs[g / M.c]:=fun z=>by
     rw [←hrb] at z
     exact f9 (yY hM.bi hrl VC z).symm
    have h5:=hM.bd r b hb
    rw [if_neg f9,ah nb]
    exact k1 _ _ (cL h5 hdl (by intro z; cases z)) h5
noncomputable def VD (a:da) (K:PySem.W.Frag):Sp:=fun vs H Q _=>∃M xs es p d t dq mk,vs=[.ref M.p,.ref p,.int dq,.bl mk]∧cy a H M xs es∧fG a K H p d t∧t.fs.length≤900∧es.length < 1000 ∧
 (∀g cs H',yT xs M.c t.size (some g)→Kp M.own H H'→cy a H' M (cF xs g cs) (es++[(g,cs)])→Cells K H' cs (⟨t,dq,mk⟩:En)→Q (.int (g:Nat)) H')∧(∀H',yT xs M.c t.size none→au H H'→Q .aP H')
theorem VF (T:Txt K mg a):aN P w K mg base cx 5 a.xT a.xU ["self","thing","serial","marked"] (VD a K):=by
 refine T.su.ok Hd (fun vs H Q E h=>?_) (fun bI A outer s H vs Q E hr h=>?_)
 ·obtain⟨_,_,_,_,_,_,_,_,rfl,_⟩:=h
  rfl
 ·obtain⟨M,xs,es,p,d,t,dq,mk,rfl,hM,hT,hf,hes,q1,q2⟩:=h
  obtain⟨dx,h1⟩:=hM.ob
  obtain⟨yX,h2⟩:=hM.R.ob
  refine⟨_,(aj (aR (i:=4) Hd.nd rfl (Or.inl rfl) (aI (aY (pv 0) rfl) T.bw T.Ii (U6 T) (hr.mono (by decide)) T.PM .nil ar (aa (aH (I_ T) (hr.mono (by decide)) rfl T.Ip T.mq.kp T.Io .nil ar (aa (pv 1) ag)) ag))) (aj (bF (aA fh (pv 4) cM (aE _)) (af (aQ (aI (pv 0) T.ax T.Ir (VA T) (hr.mono (by decide)) T.P0 .nil ar (aa (pv 4) (aa (aH (Vw T) (hr.mono (by decide)) rfl T.PX T.oH.kp T.PV .nil ar (aa (pv 1) (aa (pv 2) (aa (pv 3) ag)))) ag))))) aT) (af (aw (pv 4))))),?_⟩
  dsimp! [h1,h2,HO.ins.injEq,T.ax,T.aL,cT,U2]
  have Al:0 < t.size:=by
   unfold Tg.size
   have:=t.f2.1
   omega
  refine⟨p,d,t,rfl,hT,fun H1 s1=>?_⟩
  have Mh:=hM.same s1
  refine⟨M.pr,M.d,M.m,M.c,xs,t.size,rfl,Mh.R,Al,fun r hg=>?_⟩
  cases r with
  | none=>
   dsimp! [U1]
   exact q2 H1 hg s1
  | some g=>
   dsimp! [U1]
   refine⟨_,_,s1 _ _ h1,bT,p,d,t,dq,mk,rfl,hT.same s1,hf,fun r cs H2 s2 f9 aeM hc=>?_⟩
   have ZI:=Mh.same s2
   have hl:=hc.len
   refine⟨M,xs,es,g,r,cs,rfl,ZI,aeM,?_,by rw [hl]; exact hg.1,hc.pos,hc.nn,hes,fun H3 k3 hM3=>?_⟩
   ·exact(aq Mh.R.li f9).symm
   ·exact q1 g cs H3 hg ((au.kp (s1.trans s2)).trans k3) hM3 (hc.kp k3 ZI.mu)
noncomputable def VG (a:da):Sp:=fun vs H Q _=>∃M xs es i v,vs=[.ref M.p,.int (i:Nat)]∧cy a H M xs es∧xs[i]?=some v∧Q v H
theorem o_ (T:Txt K mg a):aN P w K mg base cx 2 a.xX a.xY ["self","place"] (VG a):=by
 refine T.sx.ok Uw (fun vs H Q E h=>?_) (fun bI A outer s H vs Q E hr h=>?_)
 ·obtain⟨_,_,_,_,_,rfl,_⟩:=h
  rfl
 ·obtain⟨M,xs,es,i,v,rfl,hM,hv,q⟩:=h
  obtain⟨dx,h1⟩:=hM.ob
  obtain⟨yX,h2⟩:=hM.R.ob
  refine⟨_,(af (aw (aI (aY (pv 0) rfl) T.bw T.oF (ua T) (hr.mono (by decide)) T.yQ .nil ar (aa (pv 1) ag)))),?_⟩
  dsimp! [h1,h2,HO.ins.injEq,T.ax,T.aL,cT,ke]
  exact⟨M.pr,M.d,M.m,M.c,xs,i,v,rfl,hM.R,hv,q⟩
structure dm (a:da) (K:PySem.W.Frag) (H:Hp) (M:MA) (xs:List V) (es:List (Nat×List V)) (pl:Nat) (e:En):Prop where
 mem:cy a H M xs es
 has:∃cs,(pl,cs)∈es∧Cells K H cs e
theorem dm.head {H:Hp}{M:MA}{xs:List V}{es:List (Nat×List V)}{pl:Nat}{e:En}(h:dm a K H M xs es pl e):xs[pl]?=some (.int (hd e.t.kind e.cH e.t.words.isSome (e.t.size:Nat))):=by
 obtain⟨cs,h1,h2⟩:=h.has
 obtain⟨mid,fx,rfl,_⟩:=h2.ex
 exact(h.mem.lay.at_ _ h1 0 _ rfl).2
theorem dm.serial {H:Hp}{M:MA}{xs:List V}{es:List (Nat×List V)}{pl:Nat}{e:En}(h:dm a K H M xs es pl e):xs[pl+1]?=some (.int e.dq):=by
 obtain⟨cs,h1,h2⟩:=h.has
 obtain⟨mid,fx,rfl,_⟩:=h2.ex
 exact(h.mem.lay.at_ _ h1 1 _ rfl).2
theorem dm.words {H:Hp}{M:MA}{xs:List V}{es:List (Nat×List V)}{pl:Nat}{e:En}(h:dm a K H M xs es pl e) (hp:e.t.first=3):∃x,xs[pl+2]?=some x∧cI K H x (wVl e.t.words):=by
 obtain⟨cs,h1,h2⟩:=h.has
 obtain⟨mid,fx,rfl,_,h3,h4⟩:=h2.ex
 cases mid with
 | nil=>simp at h3; omega
 | cons x r=>exact⟨x,(h.mem.lay.at_ _ h1 2 x rfl).2,h4 x List.mem_cons_self⟩
theorem dm.field {H:Hp}{M:MA}{xs:List V}{es:List (Nat×List V)}{pl:Nat}{e:En}(h:dm a K H M xs es pl e) {i:Nat}(hi:i < e.t.fs.length):∃x,xs[pl+e.t.first+i]?=some x∧cI K H x e.t.fs[i]:=by
 obtain⟨cs,h1,h2⟩:=h.has
 obtain⟨mid,fx,rfl,hv,h3,h4⟩:=h2.ex
 have hl:i < fx.length:=by
  have:=hv.1
  omega
 refine⟨fx[i],?_,hv.2 i _ _ (List.getElem?_eq_getElem hl) (List.getElem?_eq_getElem hi)⟩
 have:=(h.mem.lay.at_ _ h1 (e.t.first+i) fx[i] ?_).2
 ·rw [Nat.add_assoc]
  exact this
 ·show(V.int _::V.int _::(mid++fx))[e.t.first+i]?=_
  rw [show e.t.first+i=mid.length+i+1+1 by omega,List.getElem?_cons_succ,List.getElem?_cons_succ,List.getElem?_append_right (by omega)]
  rw [show mid.length+i - mid.length=i by omega]
  exact List.getElem?_eq_getElem hl
theorem dm.same {H H':Hp}{M:MA}{xs:List V}{es:List (Nat×List V)}{pl:Nat}{e:En}(h:dm a K H M xs es pl e) (k:au H H'):dm a K H' M xs es pl e:=by
 obtain⟨cs,h1,h2⟩:=h.has
 exact⟨h.mem.same k,cs,h1,h2.same k⟩
theorem dm.room {H:Hp}{M:MA}{xs:List V}{es:List (Nat×List V)}{pl:Nat}{e:En}(h:dm a K H M xs es pl e):pl / M.c < M.m:=by
 obtain⟨cs,h1,h2⟩:=h.has
 have h3:=h.mem.lay.le h1
 have h4:=h2.pos
 rw [h.mem.R.len] at h3
 rw [Nat.div_lt_iff_lt_mul h.mem.R.c0]
 dsimp only at h3
 omega
noncomputable def VH (a:da) (K:PySem.W.Frag):Sp:=fun vs H Q _=>∃M xs es pl e,vs=[.ref M.p,.int (pl:Nat)]∧dm a K H M xs es pl e∧Q (.int e.dq) H
theorem VI (T:Txt K mg a):aN P w K mg base cx 2 a.x9 a.x_ ["self","place"] (VH a K):=by
 refine T.sE.ok Uy (fun vs H Q E h=>?_) (fun bI A outer s H vs Q E hr h=>?_)
 ·obtain⟨_,_,_,_,_,rfl,_⟩:=h
  rfl
 ·obtain⟨M,xs,es,pl,e,rfl,h,q⟩:=h
  obtain⟨dx,h1⟩:=h.mem.ob
  obtain⟨yX,h2⟩:=h.mem.R.ob
  refine⟨_,(af (aw (aI (aY (pv 0) rfl) T.bw T.oF (ua T) (hr.mono (by decide)) T.yQ .nil ar (aa (bt d8 (pv 1) (c9 (v:=.int 1) rfl T.mB ⟨_,rfl⟩)) ag)))),?_⟩
  dsimp! [h1,h2,HO.ins.injEq,T.ax,T.aL,cT,ke]
  exact⟨M.pr,M.d,M.m,M.c,xs,pl+1,_,by simp,h.mem.R,h.serial,q⟩
noncomputable def VJ (a:da) (K:PySem.W.Frag):Sp:=fun vs H Q _=>∃M xs es pl e,vs=[.ref M.p,.int (pl:Nat)]∧dm a K H M xs es pl e∧Q (.int (e.t.size:Nat)) H
theorem VL (T:Txt K mg a):aN P w K mg base cx 3 a.ya a.yb ["self","place"] (VJ a K):=by
 refine T.sF.ok Uz (fun vs H Q E h=>?_) (fun bI A outer s H vs Q E hr h=>?_)
 ·obtain⟨_,_,_,_,_,rfl,_⟩:=h
  rfl
 ·obtain⟨M,xs,es,pl,e,rfl,h,q⟩:=h
  obtain⟨dx,h1⟩:=h.mem.ob
  refine⟨_,(af (aw (aH (UW T) (hr.mono (by decide)) rfl T.Py T.oA.kp T.Px .nil ar (aa (by exact(aI (pv 0) T.ax T.lG (o_ T) (hr.mono (by decide)) T.sy .nil ar (aa (pv 1) ag))) ag)))),?_⟩
  have f1:=bT (pr:=M.pr) (lb:=M.lb) (n:="head_at")
  dsimp! [h1,HO.ins.injEq,f1]
  refine⟨M,xs,es,pl,_,rfl,h.mem,h.head,_,rfl,?_⟩
  rw [L3 e.t.k0.1 e.t.k0.2]
  exact q
noncomputable def VN (a:da) (K:PySem.W.Frag):Sp:=fun vs H Q _=>∃M xs es pl e,vs=[.ref M.p,.int (pl:Nat)]∧dm a K H M xs es pl e∧Q (.str e.t.sort) H
theorem AM (T:Txt K mg a):aN P w K mg base cx 3 a.yc a.yd ["self","place"] (VN a K):=by
 refine T.sH.ok UA (fun vs H Q E h=>?_) (fun bI A outer s H vs Q E hr h=>?_)
 ·obtain⟨_,_,_,_,_,rfl,_⟩:=h
  rfl
 ·obtain⟨M,xs,es,pl,e,rfl,h,q⟩:=h
  obtain⟨dx,h1⟩:=h.mem.ob
  refine⟨_,(af (aw (aC aB (c9 (v:=.ref a.eI) rfl T.t8 rfl) (aH (UT T) (hr.mono (by decide)) rfl T.Pw T.oz.kp T.Pu .nil ar (aa (by exact(aI (pv 0) T.ax T.lG (o_ T) (hr.mono (by decide)) T.sy .nil ar (aa (pv 1) ag))) ag)) (fun _ _=>rfl)))),?_⟩
  have f1:=bT (pr:=M.pr) (lb:=M.lb) (n:="head_at")
  dsimp! [h1,HO.ins.injEq,f1]
  refine⟨M,xs,es,pl,_,rfl,h.mem,h.head,_,rfl,?_⟩
  rw [L1 e.t.k0.1 e.t.k0.2]
  refine⟨_,_,_,.str e.t.sort,rfl,rfl,T.t9 H,?_,q⟩
  cases e.t <;> rfl
noncomputable def VO (a:da) (K:PySem.W.Frag):Sp:=fun vs H Q _=>∃M xs es pl e,vs=[.ref M.p,.int (pl:Nat)]∧dm a K H M xs es pl e∧e.t.first=3∧Q (wV e.t.words) H
theorem VP (T:Txt K mg a):aN P w K mg base cx 3 a.x6 a.x8 ["self","place"] (VO a K):=by
 refine T.sC.ok Ux (fun vs H Q E h=>?_) (fun bI A outer s H vs Q E hr h=>?_)
 ·obtain⟨_,_,_,_,_,rfl,_⟩:=h
  rfl
 ·obtain⟨M,xs,es,pl,e,rfl,h,h3,q⟩:=h
  obtain⟨dx,h1⟩:=h.mem.ob
  obtain⟨yX,h2⟩:=h.mem.R.ob
  refine⟨_,(af (aw (dy (dH (aH (U0 T) (hr.mono (by decide)) rfl T.PH T.oC.kp T.PF .nil ar (aa (by exact(aI (pv 0) T.ax T.lG (o_ T) (hr.mono (by decide)) T.sy .nil ar (aa (pv 1) ag))) ag))) (aC aB (aI (aY (pv 0) rfl) T.bw T.oF (ua T) (hr.mono (by decide)) T.yQ .nil ar (aa (bt d8 (pv 1) (c9 (v:=.int 2) rfl T.oU ⟨_,rfl⟩)) ag)) ak (fun _ _=>rfl)) cM))),?_⟩
  have f1:=bT (pr:=M.pr) (lb:=M.lb) (n:="head_at")
  dsimp! [h1,h2,HO.ins.injEq,f1,T.ax,T.aL,cT,ke]
  refine⟨M,xs,es,pl,_,rfl,h.mem,h.head,_,rfl,?_⟩
  rw [IK e.t.k0.1 e.t.k0.2]
  obtain⟨x,hx,t,rfl,ht⟩:=h.words h3
  cases ew:e.t.words with
  | none=>
   rw [ew] at q
   refine⟨_,rfl,cX q⟩
  | some n=>
   rw [ew] at q ht
   refine⟨_,rfl,fB ⟨_,_,_,h1,T.ax,T.aL,_,cT _ _,_,rfl,_,_,h2,ke _ _ _,M.pr,M.d,M.m,M.c,xs,pl+2,_,by simp,h.mem.R,hx,t,_,_,_,rfl,rfl,ht,rfl,q⟩⟩
noncomputable def VQ (a:da) (K:PySem.W.Frag):Sp:=fun vs H Q _=>∃M xs es pl e,vs=[.ref M.p,.int (pl:Nat)]∧dm a K H M xs es pl e∧Q (.bl e.cH) H
theorem pb (T:Txt K mg a):aN P w K mg base cx 3 a.ye a.yf ["self","place"] (VQ a K):=by
 refine T.sI.ok UB (fun vs H Q E h=>?_) (fun bI A outer s H vs Q E hr h=>?_)
 ·obtain⟨_,_,_,_,_,rfl,_⟩:=h
  rfl
 ·obtain⟨M,xs,es,pl,e,rfl,h,q⟩:=h
  obtain⟨dx,h1⟩:=h.mem.ob
  obtain⟨yX,h2⟩:=h.mem.R.ob
  refine⟨_,(af (aw (tD (Eu (hZ (bO hr) (pv 1) (aC bS (aY (pv 0) rfl) (aI (aY (pv 0) rfl) T.bw T.AG (Ja T) (hr.mono (by decide)) T.Im .nil ar (aa (pv 1) ag)) (fun _ _=>rfl)))) (zW (aH (UY T) (hr.mono (by decide)) rfl T.PD T.oB.kp T.Pz .nil ar (aa (by exact(aI (pv 0) T.ax T.lG (o_ T) (hr.mono (by decide)) T.sy .nil ar (aa (pv 1) ag))) ag)))))),?_⟩
  have f1:=bT (pr:=M.pr) (lb:=M.lb) (n:="head_at")
  dsimp! [h1,h2,HO.ins.injEq,f1,T.ax,T.aL,T.bq,cT,eZ,oX]
  obtain⟨cs,u7,hc⟩:=h.has
  have Jd:=h.room
  have VC:pl / M.c < M.bs.length:=by rw [h.mem.bl]; exact Jd
  have Mf:M.bs[pl / M.c]?=some M.bs[pl / M.c]:=List.getElem?_eq_getElem VC
  have nH:(aM (iu es M.c (pl / M.c)) (Sum.inl (pl:Int))).isSome=true:=yW.mpr ⟨(pl,cs),u7,rfl,rfl⟩
  refine⟨M.pr,M.d,M.m,M.c,xs,pl,rfl,h.mem.R,M.lb,_,_,.ref M.bs[pl / M.c],rfl,rfl,bc.of h.mem.li,b9 (by rw [List.getElem?_map,Mf]; rfl),_,rfl,_,c8.k (k:=Sum.inl (pl:Int)) (h.mem.bd _ _ Mf),?_⟩
  rw [nH]
  refine fB ⟨_,_,h1,f1,M,xs,es,pl,_,rfl,h.mem,h.head,_,rfl,?_⟩
  rw [L4 e.t.k0.1 e.t.k0.2]
  exact q
noncomputable def VR (a:da) (K:PySem.W.Frag):Sp:=fun vs H Q _=>∃M xs es pl e,vs=[.ref M.p,.int (pl:Nat)]∧dm a K H M xs es pl e∧∀p d H',au H H'→H p=none→H d=none→fG a K H' p d e.t→Q (.ref p) H'
theorem Je (T:Txt K mg a):aN P w K mg base cx 10 a.xZ a.x5 ["self","place"] (VR a K):=by
 refine T.sA.ok Ar (fun vs H Q E h=>?_) (fun bI A outer s H vs Q E hr h=>?_)
 ·obtain⟨_,_,_,_,_,rfl,_⟩:=h
  rfl
 ·obtain⟨M,xs,es,pl,e,rfl,h,q⟩:=h
  obtain⟨dx,h1⟩:=h.mem.ob
  refine⟨_,(aj (aR (i:=2) Ar.nd rfl (Or.inl rfl) (aI (pv 0) T.ax T.t7 (AM T) (hr.mono (by decide)) T.Ck .nil ar (aa (pv 1) ag))) (aj (Fd (j:=3) rfl Ar.nd rfl rfl (C9 (x:="at") (ns:=["self"]) (fr:=[0]) rfl (by decide +kernel) rfl (by decide +kernel) rfl (List.forall_mem_cons.mpr ⟨rfl,List.forall_mem_nil _⟩) rfl rfl (List.forall_mem_cons.mpr ⟨⟨rfl,rfl,.inl rfl⟩,List.forall_mem_nil _⟩) (by decide +kernel)) (qY rfl T.eJ (aa (bt d8 (pv 1) (aH (AL T) (hr.mono (by decide)) rfl T.Cj T.j_.kp T.Ci .nil ar (aa (pv 2) ag))) (aa (bt d8 (pv 1) (aI (pv 0) T.ax T.Iy (VL T) (hr.mono (by decide)) T.P4 .nil ar (aa (pv 1) ag))) ag))) (fun _ _ _ _=>(aI (nB (K:=K) rfl (pv 1) rfl) T.bw T.oF (ua T) (hr.mono (by decide)) T.yQ .nil ar (aa (pv 0) ag))) (fun _ _ _ _=>.nil)) (aj (bF (aA cA (pv 2) aX (aE _)) (af (aw (aH (IU T) (hr.mono (by decide)) rfl T.HI T.me.kp T.HH .nil ar (aa (pv 3) (aa (by exact(aI (pv 0) T.ax T.Iv (VP T) (hr.mono (by decide)) T.P1 .nil ar (aa (pv 1) ag))) ag))))) aT) (af (aw (dy (aA cA (pv 2) aX (aE _)) (aH (IV T) (hr.mono (by decide)) rfl T.HK T.mf.kp T.HJ .nil ar (aa (aC bS (pv 3) ak (fun _ _=>rfl)) ag)) (aH (IY T) (hr.mono (by decide)) rfl T.HM T.mh.kp T.HL .nil ar (aa (aC bS (pv 3) ak (fun _ _=>rfl)) (aa (aC bS (pv 3) ak (fun _ _=>rfl)) ag))))))))),?_⟩
  have f1:=bT (pr:=M.pr) (lb:=M.lb) (n:="sort_at")
  have f2:=bT (pr:=M.pr) (lb:=M.lb) (n:="size_at")
  dsimp! [h1,HO.ins.injEq,f1,f2]
  have hsz:e.t.size≤1000:=by
   obtain⟨cs,u7,hc⟩:=h.has
   have h3:=h.mem.lay.le u7
   have h4:=h.mem.R.sm
   rw [h.mem.R.len,hc.len] at h3
   dsimp only at h3
   omega
  have nU:pl≤1000:=by
   obtain⟨cs,u7,hc⟩:=h.has
   have h3:=h.mem.lay.le u7
   have h4:=h.mem.R.sm
   rw [h.mem.R.len] at h3
   dsimp only at h3
   omega
  have ZJ:=e.t.f2
  have esz:e.t.size=e.t.first+e.t.fs.length:=rfl
  refine⟨M,xs,es,pl,e,rfl,h,e.t,rfl,_,rfl,_,_,h1,f2,M,xs,es,pl,e,rfl,h,_,rfl,by omega,by omega,by omega,by omega,fun D hD=>?_⟩
  rw [show((pl:Int)+(e.t.size:Int) - ((pl:Int)+(e.t.first:Int))).toNat=e.t.fs.length by omega]
  refine lcr (fun i ys H4=>au H H4∧H4 D=some (.lst ys)∧ys.length=i∧∀(j:Nat) x v,ys[j]?=some x→e.t.fs[j]?=some v→cI K H4 x v) ⟨au.put hD,ae,rfl,fun j x v h=>by simp at h⟩ ?_ ?_
  ·rintro i m' ys H4 hmm hi ⟨k4,DD,hy4,ok4⟩
   have h4:=h.same k4
   have h14:=k4 _ _ h1
   obtain⟨Me,h5⟩:=h4.mem.R.ob
   obtain⟨x,hx,hv⟩:=h4.field hi
   dsimp! [aV,Option.join_some,h14,h5,HO.ins.injEq,T.ax,T.aL,cT,ke]
   refine⟨M.pr,M.d,M.m,M.c,xs,pl+e.t.first+i,x,?_,h4.mem.R,hx,OV.mk hmm DD (by omega) ⟨?_,ae,by simp [hy4],fun j y v hj hv2=>?_⟩⟩
   ·simp
   ·intro b o e2
    rw [ah (aq e2 hD)]
    exact k4 b o e2
   ·have kD:Kp (·=D) H4 (upd H4 D (.lst (ys++[x]))):=(Kp.refl _ _).set rfl
    have mu:∀b,b=D→Mu H4 b:=fun b e=>.inl ⟨ys,by rw [e]; exact DD⟩
    by_cases hjl:j < ys.length
    ·rw [List.getElem?_append_left hjl] at hj
     exact(ok4 j y v hj hv2).kp kD mu
    ·have ej:j=ys.length:=by
      have:=(List.getElem?_eq_some_iff.mp hj).1
      simp at this
      omega
     subst ej
     rw [List.getElem?_append_right (Nat.le_refl _),Nat.sub_self] at hj
     cases hj
     have ev:e.t.fs[i]=v:=by
      rw [hy4,List.getElem?_eq_getElem hi] at hv2
      exact Option.some.inj hv2
     rw [←ev]
     exact hv.kp kD mu
  ·rintro ys H4 ⟨k4,DD,hy4,ok4⟩
   have vl:iZ K H4 ys e.t.fs:=⟨hy4.symm,ok4⟩
   have h4:=h.same k4
   have h14:=k4 _ _ h1
   have hys:ys.length≤1000:=by omega
   cases et:e.t with
   | plain fs w=>
    rw [et] at vl
    dsimp! [Tg.sort,h14,HO.ins.injEq]
    refine⟨bT,M,xs,es,pl,e,rfl,h4,by rw [et]; rfl,D,ys,fs,e.t.words,rfl,bc.of DD,vl,hys,fun p d H' s5 hp hd hT=>q p d H' (k4.trans s5) (k4.free hp) (k4.free hd) ?_⟩
    rw [et] at hT ⊢
    exact hT
   | weak f=>
    rw [et] at vl
    dsimp! [Tg.sort,Vq]
    have i3:0 < ys.length:=by rw [←vl.1]; show 0 < 1; decide
    have g0:ys[0]?=some ys[0]:=List.getElem?_eq_getElem i3
    refine⟨D,ys,_,ys[0],rfl,rfl,bc.of DD,b9 (j:=0) g0,_,f,rfl,vl.2 0 _ _ g0 rfl,fun p d H' s5 hp hd hT=>q p d H' (k4.trans s5) (k4.free hp) (k4.free hd) ?_⟩
    rw [et]
    exact hT
   | pair k v=>
    rw [et] at vl
    dsimp! [Tg.sort,Ma,ZD]
    have g5:1 < ys.length:=by rw [←vl.1]; show 1 < 2; decide
    have g0:ys[0]?=some ys[0]:=List.getElem?_eq_getElem (by omega)
    have g1:ys[1]?=some ys[1]:=List.getElem?_eq_getElem g5
    refine⟨D,ys,_,ys[0],rfl,rfl,bc.of DD,b9 (j:=0) g0,D,ys,_,ys[1],rfl,rfl,bc.of DD,b9 (j:=1) g1,_,_,k,v,rfl,vl.2 0 _ _ g0 rfl,vl.2 1 _ _ g1 rfl,fun p d H' s5 hp hd hT=>q p d H' (k4.trans s5) (k4.free hp) (k4.free hd) ?_⟩
    rw [et]
    exact hT
noncomputable def VS (K:PySem.W.Frag):Sp:=fun vs H Q _=>∃(p:Addr) (ns:List Int) (k:Int),vs=[.ref p,.int k]∧bc K H p (ns.map V.int)∧0≤k∧∀z,Q (.int z) H
theorem VT (T:Txt K mg a):aN P w K mg base cx 1 a.yo a.yp ["_law_script","_law_k"] (VS K):=by
 refine T.oI.ok UG (fun vs H Q E h=>?_) (fun bI A outer s H vs Q E hr h=>?_)
 ·obtain⟨_,_,_,rfl,_⟩:=h
  rfl
 ·obtain⟨p,ns,k,rfl,hS,hk,q⟩:=h
  refine⟨_,(aj (bF (aA q_ (pv 1) (bJ cB rfl T.eC dW (aa (pv 0) ag)) (aE _)) (af (aw (aC bS (pv 0) (pv 1) (fun _ _=>rfl)))) aT) (af (aw ak))),?_⟩
  dsimp! []
  refine⟨_,.inl hS,cQ (fun h=>?_) fun _=>q 0⟩
  have fg:k.toNat < ns.length:=by
   have:=of_decide_eq_true h
   rw [List.length_map] at this
   omega
  have e:k=((k.toNat:Nat):Int):=by omega
  have hx:(ns.map V.int)[k.toNat]?=some (V.int ns[k.toNat]):=by simp [fg]
  exact⟨p,_,k,_,rfl,rfl,hS,(congrArg (K0 _) e).trans (b9 hx),q _⟩
noncomputable def iX (es:List (Nat×List V)) (pl:Nat) (cs:List V):List (Nat×List V):=es.map fun b=>if b.1=pl then(pl,cs)else b
theorem DE (es:List (Nat×List V)) (pl c r:Nat) (cs:List V):iu (iX es pl cs) c r=iu es c r:=by
 unfold iu iX
 rw [List.filter_map,List.map_map]
 have e:(fun b:Nat×List V=>decide (b.1 / c=r)) ∘ (fun b=>if b.1=pl then(pl,cs)else b)=fun b=>decide (b.1 / c=r):=by
  funext b
  show decide ((if b.1=pl then(pl,cs)else b).1 / c=r)=decide (b.1 / c=r)
  split
  ·rename_i h
   rw [h]
  ·rfl
 rw [e]
 refine List.map_congr_left fun b _=>?_
 show((Sum.inl (((if b.1=pl then(pl,cs)else b).1:Nat):Int):Key),V.bl true)=_
 split
 ·rename_i h
  rw [h]
 ·rfl
theorem Lay.write {xs:List V}{c:Nat}{es:List (Nat×List V)}(L:Lay xs c es) {pl:Nat}{cs:List V}(hb:(pl,cs)∈es) {i:Nat}{v:V}(hi:i < cs.length) (hv:v≠.aP):Lay (xs.set (pl+i) v) c (iX es pl (cs.set i v)):=by
 have h:=L.set hb (i:=i) (v:=v) hi hv
 have e:(es.map fun d=>if d.1=pl then(d.1,d.2.set i v)else d)=iX es pl (cs.set i v):=by
  unfold iX
  refine List.map_congr_left fun b Aj=>?_
  by_cases z:b.1=pl
  ·rw [if_pos z,if_pos z]
   have:=L.same Aj hb z
   rw [this]
  ·rw [if_neg z,if_neg z]
 rw [←e]
 exact h
theorem cy.write {H:Hp}{M:MA}{xs:List V}{es:List (Nat×List V)}(h:cy a H M xs es) {pl:Nat}{cs:List V}(hb:(pl,cs)∈es) {i:Nat}{v:V}(hi:i < cs.length) (hv:v≠.aP) :
  cy a (upd H M.d (.lst (xs.set (pl+i) v))) M (xs.set (pl+i) v) (iX es pl (cs.set i v)) where
 ob:=by
  obtain⟨dx,e⟩:=h.ob
  exact⟨dx,by rw [ah (cL e h.R.li (by intro z; cases z))]; exact e⟩
 R:=h.R.keep (fun b o hb e=>by rw [ah hb]; exact e) ae (List.length_set ..)
 li:=by rw [ah h.nl]; exact h.li
 nl:=h.nl
 bl:=h.bl
 bd:=fun r b e=>by
  have:=h.bd r b e
  rw [DE,ah (cL this h.R.li (by intro z; cases z))]
  exact this
 bi:=h.bi
 lay:=h.lay.write hb hi hv
 Ei:=by unfold iX; rw [List.length_map]; exact h.Ei
noncomputable def Tg.fV:Tg→Nat→Vl→Tg
 | .plain fs w,i,v=>.plain (fs.set i v) w
 | .weak _,_,v=>.weak v
 | .pair _ u,0,v=>.pair v u
 | .pair k _,_+1,v=>.pair k v
theorem Tg.Mi {t:Tg}{i:Nat}{v:Vl}(h:i < t.fs.length):(t.fV i v).fs=t.fs.set i v:=by
 cases t with
 | plain fs w=>rfl
 | weak f=>
  have:i=0:=Nat.lt_one_iff.mp h
  subst this
  rfl
 | pair k u=>
  have h2:i < 2:=h
  match i,h2 with
  | 0,_=>rfl
  | 1,_=>rfl
theorem Tg.DF (t:Tg) (i:Nat) (v:Vl):(t.fV i v).sort=t.sort∧(t.fV i v).words=t.words∧(t.fV i v).first=t.first∧(t.fV i v).kind=t.kind:=by
 cases t with
 | plain fs w=>exact⟨rfl,rfl,rfl,rfl⟩
 | weak f=>exact⟨rfl,rfl,rfl,rfl⟩
 | pair k u=>cases i <;> exact⟨rfl,rfl,rfl,rfl⟩
theorem iZ.set {H:Hp}{xs:List V}{vl:List Vl}{i:Nat}{x:V}{v:Vl}(h:iZ K H xs vl) (hx:cI K H x v):iZ K H (xs.set i x) (vl.set i v):=⟨by simp [h.1],fun j y u a b=>by
 by_cases e:i=j
 ·subst e
  have hl:=(List.getElem?_eq_some_iff.mp a).1
  rw [List.length_set] at hl
  have g5:=h.1
  rw [List.getElem?_set_self hl] at a
  rw [List.getElem?_set_self (by omega)] at b
  cases a
  cases b
  exact hx
 ·rw [List.getElem?_set_ne e] at a b
  exact h.2 j y u a b⟩
noncomputable def VU (a:da) (K:PySem.W.Frag):Sp:=fun vs H Q _=>∃M xs es pl e m',vs=[.ref M.p,.int (pl:Nat),.bl m']∧dm a K H M xs es pl e∧∀H' Mj Cq,Kp (·=M.d) H H'→cy a H' M Mj (iX es pl Cq)→Cells K H' Cq (⟨e.t,e.dq,m'⟩:En)→Q .aP H'
theorem VV (T:Txt K mg a):aN P w K mg base cx 3 a.yg a.yh ["self","place","marked"] (VU a K):=by
 refine T.sL.ok UC (fun vs H Q E h=>?_) (fun bI A outer s H vs Q E hr h=>?_)
 ·obtain⟨_,_,_,_,_,_,rfl,_⟩:=h
  rfl
 ·obtain⟨M,xs,es,pl,e,m',rfl,h,q⟩:=h
  obtain⟨dx,h1⟩:=h.mem.ob
  obtain⟨yX,h2⟩:=h.mem.R.ob
  refine⟨_,(af (aQ (aI (aY (pv 0) rfl) T.bw T.AF (IP T) (hr.mono (by decide)) T.Il .nil ar (aa (pv 1) (aa (aH (IM T) (hr.mono (by decide)) rfl T.Ie T.mj.kp T.Ic .nil ar (aa (by exact(aI (pv 0) T.ax T.lG (o_ T) (hr.mono (by decide)) T.sy .nil ar (aa (pv 1) ag))) (aa (pv 2) ag))) ag))))),?_⟩
  have f1:=bT (pr:=M.pr) (lb:=M.lb) (n:="head_at")
  dsimp! [h1,h2,HO.ins.injEq,f1,T.ax,T.aL,cT,yV]
  obtain⟨cs,u7,hc⟩:=h.has
  have hle:=h.mem.lay.le u7
  have Al:=hc.pos
  dsimp only at hle
  refine⟨M,xs,es,pl,_,rfl,h.mem,h.head,_,_,rfl,M.pr,M.d,M.m,M.c,xs,pl,_,rfl,h.mem.R,by omega,?_⟩
  rw [UK _ _ _ e.t.k0.1 e.t.k0.2]
  have kD:Kp (·=M.d) H (upd H M.d (.lst (xs.set pl (.int (hd e.t.kind m' e.t.words.isSome (e.t.size:Nat)))))):=(Kp.refl _ _).set rfl
  have hm:=h.mem.write u7 (i:=0) (v:=.int (hd e.t.kind m' e.t.words.isSome (e.t.size:Nat))) Al (fun z=>nomatch z)
  refine q _ _ _ kD hm ?_
  obtain⟨mid,fx,rfl,b1,b2,b3⟩:=(hc.kp kD fun b eb=>.inl ⟨xs,by rw [eb]; exact h.mem.R.li⟩).ex
  exact⟨mid,fx,rfl,b1,b2,b3⟩
noncomputable def VW (a:da) (K:PySem.W.Frag):Sp:=fun vs H Q _=>∃M xs es pl e at_ x v,vs=[.ref M.p,.int (pl:Nat),.int (at_:Nat),x]∧dm a K H M xs es pl e∧at_ < e.t.fs.length∧cI K H x v ∧
 ∀H' Mj Cq,Kp (·=M.d) H H'→cy a H' M Mj (iX es pl Cq)→Cells K H' Cq (⟨e.t.fV at_ v,e.dq,e.cH⟩:En)→Q .aP H'
theorem VX (T:Txt K mg a):aN P w K mg base cx 4 a.yi a.yj ["self","place","at","value"] (VW a K):=by
 refine T.sM.ok UD (fun vs H Q E h=>?_) (fun bI A outer s H vs Q E hr h=>?_)
 ·obtain⟨_,_,_,_,_,_,_,_,rfl,_⟩:=h
  rfl
 ·obtain⟨M,xs,es,pl,e,at_,x,v,rfl,h,hat,hx,q⟩:=h
  obtain⟨dx,h1⟩:=h.mem.ob
  obtain⟨yX,h2⟩:=h.mem.R.ob
  refine⟨_,(af (aQ (aI (aY (pv 0) rfl) T.bw T.AF (IP T) (hr.mono (by decide)) T.Il .nil ar (aa (bt d8 (bt d8 (pv 1) (aH (AL T) (hr.mono (by decide)) rfl T.Cj T.j_.kp T.Ci .nil ar (aa (by exact(aI (pv 0) T.ax T.t7 (AM T) (hr.mono (by decide)) T.Ck .nil ar (aa (pv 1) ag))) ag))) (pv 2)) (aa (pv 3) ag))))),?_⟩
  have f1:=bT (pr:=M.pr) (lb:=M.lb) (n:="sort_at")
  dsimp! [h1,h2,HO.ins.injEq,f1,T.ax,T.aL,cT,yV]
  obtain⟨cs,u7,hc⟩:=h.has
  have hle:=h.mem.lay.le u7
  have hlen:=hc.len
  have esz:e.t.size=e.t.first+e.t.fs.length:=rfl
  dsimp only at hle
  refine⟨M,xs,es,pl,e,rfl,h,e.t,rfl,_,rfl,M.pr,M.d,M.m,M.c,xs,pl+(e.t.first+at_),x,?_,h.mem.R,by omega,?_⟩
  ·simp
   omega
  have hi:e.t.first+at_ < cs.length:=by omega
  have kD:Kp (·=M.d) H (upd H M.d (.lst (xs.set (pl+(e.t.first+at_)) x))):=(Kp.refl _ _).set rfl
  have mu:∀b,b=M.d→Mu H b:=fun b eb=>.inl ⟨xs,by rw [eb]; exact h.mem.R.li⟩
  have hm:=h.mem.write u7 hi (v:=x) (by
   obtain⟨t,rfl,_⟩:=hx
   exact fun z=>nomatch z)
  refine q _ _ _ kD hm ?_
  obtain⟨mid,fx,rfl,b1,b2,b3⟩:=(hc.kp kD mu).ex
  obtain⟨s1,s2,s3,s4⟩:=e.t.DF at_ v
  have sf:=Tg.Mi (v:=v) hat
  have ssz:(e.t.fV at_ v).size=e.t.size:=by
   unfold Tg.size
   rw [s3,sf,List.length_set]
  refine⟨mid,fx.set at_ x,?_,by dsimp only; rw [sf]; exact b1.set (hx.kp kD mu),by dsimp only; rw [s3]; exact b2,by dsimp only; rw [s2]; exact b3⟩
  dsimp only
  rw [s2,s4,ssz,show e.t.first+at_=mid.length+at_+1+1 by omega,List.set_cons_succ,List.set_cons_succ,List.set_append_right _ _ (by omega),show mid.length+at_ - mid.length=at_ by omega]
noncomputable def kf (es:List (Nat×List V)) (c r:Nat):List Int:=(es.filter fun b=>decide (b.1 / c=r)).map fun b=>(b.1:Int)
theorem DG (es:List (Nat×List V)) (c r:Nat):eA (iu es c r)=(kf es c r).map V.int:=by
 unfold eA iu kf
 rw [List.map_map,List.map_map]
 rfl
noncomputable def VY (a:da):Sp:=fun vs H Q _=>∃M xs es r,vs=[.ref M.p,.int (r:Nat)]∧cy a H M xs es∧r < M.m∧es.length < 64∧∀(l:Addr) (dR:List Int),H l=none→dR.Perm (kf es M.c r)→dR.Pairwise (·≤·)→Q (.ref l) (upd H l (.lst (dR.map V.int)))
theorem VZ (T:Txt K mg a):aN P w K mg base cx 1 a.ym a.yn ["self","room"] (VY a):=by
 refine T.sO.ok UE (fun vs H Q E h=>?_) (fun bI A outer s H vs Q E hr h=>?_)
 ·obtain⟨_,_,_,_,rfl,_⟩:=h
  rfl
 ·obtain⟨M,xs,es,r,rfl,hM,hrm,LU,q⟩:=h
  obtain⟨dx,h1⟩:=hM.ob
  refine⟨_,(af (aw (bJ (gh rfl) rfl T.eY iT (aa (aC bS (aY (pv 0) rfl) (pv 1) (fun _ _=>rfl)) ag)))),?_⟩
  dsimp! [h1,HO.ins.injEq,T.ax,T.bq,eZ]
  have VC:r < M.bs.length:=by rw [hM.bl]; exact hrm
  have Mf:M.bs[r]?=some M.bs[r]:=List.getElem?_eq_getElem VC
  refine⟨M.lb,_,_,.ref M.bs[r],rfl,rfl,bc.of hM.li,b9 (by rw [List.getElem?_map,Mf]; rfl),_,rfl,_,.inl (hM.bd _ _ Mf),kf es M.c r,DG _ _ _,?_,q⟩
  unfold kf
  rw [List.length_map]
  have:=List.length_filter_le (fun b:Nat×List V=>decide (b.1 / M.c=r)) es
  omega
noncomputable def fJ (es:List (Nat×List V)) (c r:Nat):List Int:=(es.filter fun b=>decide (b.1 / c < r)).map fun b=>(b.1:Int)
theorem mD (c r:Nat):∀es:List (Nat×List V),(fJ es c (r+1)).Perm (fJ es c r++kf es c r)
 | []=>.refl _
 | b::es=>by
  have ih:=mD c r es
  unfold fJ kf at ih ⊢
  rw [List.filter_cons,List.filter_cons,List.filter_cons]
  by_cases h1:b.1 / c < r
  ·rw [if_pos (decide_eq_true (by omega)),if_pos (decide_eq_true h1),if_neg (by simp; omega)]
   exact ih.cons _
  ·by_cases h2:b.1 / c=r
   ·rw [if_pos (decide_eq_true (by omega)),if_neg (by simpa using h1),if_pos (decide_eq_true h2)]
    exact(ih.cons _).trans List.perm_middle.symm
   ·rw [if_neg (by simp; omega),if_neg (by simpa using h1),if_neg (by simpa using h2)]
    exact ih
noncomputable def Jf (es:List (Nat×List V)):List Int:=es.map fun b=>(b.1:Int)
theorem AN {es:List (Nat×List V)}{c m:Nat}(h:∀b∈es,b.1 / c < m):fJ es c m=Jf es:=by
 unfold fJ Jf
 rw [List.filter_eq_self.mpr fun b hb=>decide_eq_true (h b hb)]
noncomputable def V0 (a:da):Sp:=fun vs H Q _=>∃M xs es,vs=[.ref M.p]∧cy a H M xs es∧es.length < 64∧∀(l:Addr) (dR:List Int) H',au H H'→H l=none→H' l=some (.lst (dR.map V.int))→dR.Perm (Jf es)→dR.Pairwise (·≤·)→Q (.ref l) H'
theorem V1 (T:Txt K mg a):aN P w K mg base cx 2 a.yk a.yl ["self"] (V0 a):=by
 refine T.sN.ok As (fun vs H Q E h=>?_) (fun bI A outer s H vs Q E hr h=>?_)
 ·obtain⟨_,_,_,rfl,_⟩:=h
  rfl
 ·obtain⟨M,xs,es,rfl,hM,LU,q⟩:=h
  obtain⟨dx,h1⟩:=hM.ob
  refine⟨_,(aj (aR (i:=1) As.nd rfl (Or.inl rfl) (cE ag)) (aj (b_ PassesOwn.never rfl (iQ rfl T.eJ (aa (bJ cB rfl T.eC dW (aa (aY (pv 0) rfl) ag)) ag)) (aJ (i:=2) As.nd rfl (Or.inl rfl)) az) az)),?_⟩
  dsimp! [h1,HO.ins.injEq,T.ax,T.bq,eZ]
  refine fun l hl=>?_
  have s1:=au.put (o:=.lst []) hl
  have Mh:=hM.same s1
  have t_:M.m≤1000:=Nat.le_trans (Nat.le_mul_of_pos_right M.m hM.R.c0) hM.R.sm
  have Qt:(M.bs.map V.ref).length=M.m:=by rw [List.length_map]; exact hM.bl
  refine⟨_,_,_,s1 _ _ h1,T.ax,T.bq,_,eZ _ _,M.lb,rfl,_,.inl (bc.of (s1 _ _ hM.li)),by omega,by omega,?_⟩
  rw [Qt]
  have b0:fJ es M.c 0=[]:=by
   unfold fJ
   rw [List.filter_eq_nil_iff.mpr fun b _=>by simp]
   rfl
  refine j4 (fun i σ H2=>∃(o2:Option V) (L:List Int),σ=[some (.ref M.p),some (.ref l),o2]∧au H H2∧H2 l=some (.lst (L.map V.int))∧L.Perm (fJ es M.c i)∧L.Pairwise (·≤·)) ⟨none,[],rfl,s1,ae,by rw [b0],.nil⟩ ?_ ?_
  ·rintro i σ H2 hi ⟨o2,L,rfl,k2,g5,tV,CS⟩
   have ZI:=hM.same k2
   obtain⟨yX,XY⟩:=ZI.ob
   refine gN ?_
   refine bA.of (af (aQ (ER PySem.F.plainAttrs_list PySem.F.slot_list_extend PySem.F.type_list_extend C1 (pv 1) (aa (by exact(aI (pv 0) T.ax T.IC (VZ T) (hr.mono (by decide)) T.P8 .nil ar (aa (pv 2) ag))) ag)))) ?_
   have f1:=bT (pr:=M.pr) (lb:=M.lb) (n:="places_in")
   dsimp! [XY,HO.ins.injEq,f1]
   refine⟨.inl ⟨rfl,_,bc.of g5⟩,M,xs,es,i,by simp,ZI,hi,LU,fun l3 dR Mb K5 hs3=>?_⟩
   have hLl:L.length≤64:=by
    rw [tV.length_eq]
    unfold fJ
    rw [List.length_map]
    have:=List.length_filter_le (fun b:Nat×List V=>decide (b.1 / M.c < i)) es
    omega
   have hnl:dR.length≤64:=by
    rw [K5.length_eq]
    unfold kf
    rw [List.length_map]
    have:=List.length_filter_le (fun b:Nat×List V=>decide (b.1 / M.c=i)) es
    omega
   refine⟨l,l3,_,_,rfl,rfl,au.put Mb _ _ g5,ae,Nat.le_of_lt (bb (by simp only [List.length_map]; omega)),?_⟩
   rw [←List.map_append]
   refine⟨fun b o e=>?_,_,ae,(tV.append K5).trans (mD _ _ _).symm,?_⟩
   ·rw [ah (aq e hl)]
    exact au.put Mb b o (k2 b o e)
   ·refine List.pairwise_append.mpr ⟨CS,hs3,fun x hx y hy=>?_⟩
    have hx2:=tV.mem_iff.mp hx
    have hy2:=K5.mem_iff.mp hy
    unfold fJ at hx2
    unfold kf at hy2
    obtain⟨b,hb,rfl⟩:=List.mem_map.mp hx2
    obtain⟨d,hd,rfl⟩:=List.mem_map.mp hy2
    have h5:b.1 / M.c < i:=of_decide_eq_true (List.mem_filter.mp hb).2
    have h6:d.1 / M.c=i:=of_decide_eq_true (List.mem_filter.mp hd).2
    have h7:b.1 < i*M.c:=(Nat.div_lt_iff_lt_mul hM.R.c0).mp h5
    have h8:i*M.c≤d.1:=by
     rw [←h6]
     exact Nat.div_mul_le_self _ _
    omega
  ·rintro σ H2 ⟨o2,L,rfl,k2,g5,tV,CS⟩
   refine bA.of (af (aw (pv 1))) ?_
   dsimp! []
   refine q l L H2 k2 hl g5 ?_ CS
   rw [AN fun b hb=>?_] at tV
   ·exact tV
   ·rw [Nat.div_lt_iff_lt_mul hM.R.c0]
    have h3:=hM.lay.le hb
    have h4:=(hM.lay.one b hb).1
    rw [hM.R.len] at h3
    omega
structure Rw where
 pl:Nat
 cs:List V
 x:V
 e:En
noncomputable def Rw.b (r:Rw):Nat×List V:=(r.pl,r.cs)
structure RM (a:da) (K:PySem.W.Frag) (H:Hp) (M:MA) (xs:List V) (R:List Rw):Prop where
 mem:cy a H M xs (R.map Rw.b)
 ok:∀r∈R,Cells K H r.cs r.e
theorem RM.same {H H':Hp}{M:MA}{xs:List V}{R:List Rw}(h:RM a K H M xs R) (k:au H H'):RM a K H' M xs R:=⟨h.mem.same k,fun r hr=>(h.ok r hr).same k⟩
noncomputable def V2 (R:List Rw):List Int:=R.map fun r=>(r.pl:Int)
theorem V3 (R:List Rw):Jf (R.map Rw.b)=V2 R:=by
 unfold Jf V2
 rw [List.map_map]
 rfl
theorem RM.there {H:Hp}{M:MA}{xs:List V}{R:List Rw}(h:RM a K H M xs R) {r:Rw}(hr:r∈R):dm a K H M xs (R.map Rw.b) r.pl r.e:=
 ⟨h.mem,r.cs,List.mem_map.mpr ⟨r,hr,rfl⟩,h.ok r hr⟩
noncomputable def Apart (R:List Rw):Prop:=R.Pairwise fun r q=>r.pl≠q.pl
theorem RM.nd {H:Hp}{M:MA}{xs:List V}{R:List Rw}(h:RM a K H M xs R):Apart R:=by
 have h1:=List.pairwise_map.mp h.mem.lay.Qr
 refine h1.imp_of_mem fun {r q} hr hq z e=>?_
 have l1:=(h.mem.lay.one _ (List.mem_map.mpr ⟨r,hr,rfl⟩)).1
 have l2:=(h.mem.lay.one _ (List.mem_map.mpr ⟨q,hq,rfl⟩)).1
 dsimp only [Rw.b] at z l1 l2
 omega
theorem RM.V4 {H:Hp}{M:MA}{xs:List V}{R:List Rw}(h:RM a K H M xs R) {c L g:Nat}(hg:Fits xs c L g) (hL:0 < L):∀r∈R,r.pl≠g:=fun r hr e=>by
 have h1:=h.mem.lay.apart (List.mem_map.mpr ⟨r,hr,rfl⟩) hg.2.2 hL
 have h2:=(h.mem.lay.one _ (List.mem_map.mpr ⟨r,hr,rfl⟩)).1
 dsimp only [Rw.b] at h1 h2
 omega
theorem cy.aeN {a:da}{S:Addr→Prop}{H H':Hp}{M:MA}{xs:List V}{es:List (Nat×List V)}(h:cy a H M xs es) (k:Kp S H H') (mu:∀b,S b→Mu H b) (n3:¬S M.lb) (n4:∀b,M.own b→¬S b):cy a H' M xs es:=by
 obtain⟨Me,h5⟩:=h.ob
 obtain⟨dx6,h6⟩:=h.R.ob
 refine h.off k (fun z=>?_) (fun z=>?_) n3 n4
 ·rcases mu _ z with ⟨y,e⟩ | ⟨y,e⟩ <;> (rw [e] at h5; cases h5)
 ·rcases mu _ z with ⟨y,e⟩ | ⟨y,e⟩ <;> (rw [e] at h6; cases h6)
theorem cy.gH {H:Hp}{M:MA}{xs:List V}{es:List (Nat×List V)}(h:cy a H M xs es) {b:Addr}(hb:H b=none):¬M.own b:=fun z=>by
 rcases h.mu _ z with ⟨y,e⟩ | ⟨y,e⟩ <;> (rw [e] at hb; cases hb)
theorem iU (ns:List Int):∀x∈ns.map V.int,fS x=true:=fun x hx=>by
 obtain⟨z,_,rfl⟩:=List.mem_map.mp hx
 rfl
theorem yZ (ns:List Int):br (D.lst ((ns.map V.int).map fD)) (D.lst (([]:List V).map fD))=ns.isEmpty:=by
 cases ns <;> simp [br,gI]
theorem y1 (ns:List Int):(D.lst ((ns.map V.int).map fD)).dep≤60:=by
 rw [D.dep,rl]
 decide
noncomputable def Rw.v (r:Rw):Nat×En:=(r.pl,r.e)
noncomputable def TM (a:da) (K:PySem.W.Frag) (H:Hp) (M:MA) (E:List (Nat×En)):Prop:=∃xs R,RM a K H M xs R∧R.map Rw.v=E
theorem TM.same {H H':Hp}{M:MA}{E:List (Nat×En)}(h:TM a K H M E) (k:au H H'):TM a K H' M E:=by
 obtain⟨xs,R,h1,h2⟩:=h
 exact⟨xs,R,h1.same k,h2⟩
theorem TM.mu {H:Hp}{M:MA}{E:List (Nat×En)}(h:TM a K H M E):∀b,M.own b→Mu H b:=by
 obtain⟨xs,R,h1,h2⟩:=h
 exact h1.mem.mu
theorem TM.ob {H:Hp}{M:MA}{E:List (Nat×En)}(h:TM a K H M E):∃dx,H M.p=some (.ins a.aU dx (Qu M.pr M.lb)):=by
 obtain⟨xs,R,h1,h2⟩:=h
 exact h1.mem.ob
theorem TM.lb {H:Hp}{M:MA}{E:List (Nat×En)}(h:TM a K H M E):H M.lb=some (.lst (M.bs.map V.ref)):=by
 obtain⟨xs,R,h1,h2⟩:=h
 exact h1.mem.li
theorem TM.gH {H:Hp}{M:MA}{E:List (Nat×En)}(h:TM a K H M E) {b:Addr}(hb:H b=none):¬M.own b:=by
 obtain⟨xs,R,h1,h2⟩:=h
 exact h1.mem.gH hb
theorem TM.off {S:Addr→Prop}{H H':Hp}{M:MA}{E:List (Nat×En)}(h:TM a K H M E) (k:Kp S H H') (mu:∀b,S b→Mu H b) (n3:¬S M.lb) (n4:∀b,M.own b→¬S b):TM a K H' M E:=by
 obtain⟨xs,R,h1,h2⟩:=h
 exact⟨xs,R,⟨h1.mem.aeN k mu n3 n4,fun r hr=>(h1.ok r hr).kp k mu⟩,h2⟩
theorem TM.there {H:Hp}{M:MA}{E:List (Nat×En)}(h:TM a K H M E) {p:Nat}{e:En}(hp:(p,e)∈E):∃xs es,dm a K H M xs es p e:=by
 obtain⟨xs,R,h1,rfl⟩:=h
 obtain⟨r,hr,e1⟩:=List.mem_map.mp hp
 cases e1
 exact⟨xs,_,h1.there hr⟩
noncomputable def pd (E:List (Nat×En)):Prop:=E.Pairwise fun p q=>p.1≠q.1
theorem TM.nd {H:Hp}{M:MA}{E:List (Nat×En)}(h:TM a K H M E):pd E:=by
 obtain⟨xs,R,h1,rfl⟩:=h
 exact List.pairwise_map.mpr h1.nd
theorem pd.same {E:List (Nat×En)}(h:pd E) {p q:Nat×En}(hp:p∈E) (hq:q∈E) (e:p.1=q.1):p=q:=by
 obtain⟨i,hi,rfl⟩:=List.mem_iff_getElem.mp hp
 obtain⟨j,hj,rfl⟩:=List.mem_iff_getElem.mp hq
 rcases Nat.lt_trichotomy i j with z | z | z
 ·exact absurd e (List.pairwise_iff_getElem.mp h i j hi hj z)
 ·subst z
  rfl
 ·exact absurd e.symm (List.pairwise_iff_getElem.mp h j i hj hi z)
noncomputable def fX (E:List (Nat×En)) (pl:Nat) (e':En):List (Nat×En):=E.map fun p=>if p.1=pl then(pl,e')else p
theorem RM.set {H H':Hp}{M:MA}{xs Mj:List V}{R:List Rw}{pl:Nat}{Cq:List V}{e':En}(h:RM a K H M xs R) (k:Kp (·=M.d) H H') (hM:cy a H' M Mj (iX (R.map Rw.b) pl Cq)) (hc:Cells K H' Cq e'):TM a K H' M (fX (R.map Rw.v) pl e'):=by
 have mu0:∀b,b=M.d→Mu H b:=fun b e=>.inl ⟨xs,by rw [e]; exact h.mem.R.li⟩
 refine⟨Mj,R.map fun r=>if r.pl=pl then⟨pl,Cq,r.x,e'⟩else r,⟨?_,fun r hr=>?_⟩,?_⟩
 ·have e1:(R.map fun r=>if r.pl=pl then(⟨pl,Cq,r.x,e'⟩:Rw)else r).map Rw.b=iX (R.map Rw.b) pl Cq:=by
   unfold iX
   rw [List.map_map,List.map_map]
   refine List.map_congr_left fun r _=>?_
   show Rw.b (if r.pl=pl then⟨pl,Cq,r.x,e'⟩else r)=(if r.b.1=pl then(pl,Cq)else r.b)
   by_cases z:r.pl=pl
   ·rw [if_pos z,if_pos (show r.b.1=pl from z)]
    rfl
   ·rw [if_neg z,if_neg (show ¬r.b.1=pl from z)]
  rw [e1]
  exact hM
 ·obtain⟨q,hq,rfl⟩:=List.mem_map.mp hr
  by_cases e:q.pl=pl
  ·rw [if_pos e]
   exact hc
  ·rw [if_neg e]
   exact(h.ok q hq).kp k mu0
 ·unfold fX
  rw [List.map_map,List.map_map]
  refine List.map_congr_left fun r _=>?_
  show Rw.v (if r.pl=pl then⟨pl,Cq,r.x,e'⟩else r)=(if r.v.1=pl then(pl,e')else r.v)
  by_cases z:r.pl=pl
  ·rw [if_pos z,if_pos (show r.v.1=pl from z)]
   rfl
  ·rw [if_neg z,if_neg (show ¬r.v.1=pl from z)]
theorem RM.more {H H':Hp}{M:MA}{xs Mj:List V}{R:List Rw}{g:Nat}{cs:List V}{e:En}(h:RM a K H M xs R) (k:Kp M.own H H') (hM:cy a H' M Mj (R.map Rw.b++[(g,cs)])) (hc:Cells K H' cs e):TM a K H' M (R.map Rw.v++[(g,e)]):=by
 refine⟨Mj,R++[⟨g,cs,.aP,e⟩],⟨by rw [List.map_append]; exact hM,fun r hr=>?_⟩,by rw [List.map_append]; rfl⟩
 rcases List.mem_append.mp hr with hr | hr
 ·exact(h.ok r hr).kp k h.mem.mu
 ·rw [List.mem_singleton.mp hr]
  exact hc
noncomputable def Vl.na:Vl→Option Int
 | .th n=>some n
 | _=>none
noncomputable def Tg.hold:Tg→List Int
 | .plain fs _=>fs.filterMap Vl.na
 | _=>[]
theorem Qv:∀fs:List Vl,fs.filterMap Vl.nm=(fs.filterMap Vl.na).map V.int
 | []=>rfl
 | v::fs=>by
  rw [List.filterMap_cons,List.filterMap_cons,Qv fs]
  cases v <;> rfl
noncomputable def pe:Sp:=fun vs H Q _=>∃p,vs=[.ref p]∧∀r,H r=none→Q (.ref r) (upd H r (.lst []))
theorem Jg (T:Txt K mg a):aN P w K mg base cx 1 a.rB a.vW ["self"] pe:=by
 refine T.oo.ok TN (fun vs H Q E h=>?_) (fun bI A outer s H vs Q E hr h=>?_)
 ·obtain⟨_,rfl,_⟩:=h
  rfl
 ·obtain⟨p,rfl,q⟩:=h
  refine⟨_,(af (aw (cE ag))),?_⟩
  dsimp! []
  exact q
noncomputable def AO (a:da) (K:PySem.W.Frag):Sp:=fun vs H Q _=>∃p d fs w,vs=[.ref p]∧fG a K H p d (.plain fs w)∧∀r,H r=none→Q (.ref r) (upd H r (.lst ((fs.filterMap Vl.na).map V.int)))
theorem V5 (T:Txt K mg a):aN P w K mg base cx 4 a.v7 a.v8 ["self"] (AO a K):=by
 refine T.rJ.ok TV (fun vs H Q E h=>?_) (fun bI A outer s H vs Q E hr h=>?_)
 ·obtain⟨_,_,_,_,rfl,_⟩:=h
  rfl
 ·obtain⟨p,d,fs,w,rfl,⟨⟨dx,h1⟩,xs,h2,h3,h4⟩,q⟩:=h
  refine⟨_,(af (aw (aH (oY T) (hr.mono (by decide)) rfl T.rG T.ia.kp T.rF .nil ar (aa (aY (pv 0) rfl) ag)))),?_⟩
  have K6:H p=some (.ins a.ay dx (K4 d w)):=h1
  have f2:(K4 d w).lookup ("parts":Str)=some (.ref d):=(Tg.plain fs w).parts d
  dsimp! [K6,HO.ins.injEq,T.aW,T.bH,f2]
  refine⟨d,xs,fs,rfl,bc.of h2,h4,h3.1,h3.2,fun r hr=>?_⟩
  rw [Qv]
  exact q r hr
theorem DH (t:Tg) {p d:Addr}{H:Hp}{Q:VK}{E:XK}(h:fG a K H p d t) (q:∀r,H r=none→Q (.ref r) (upd H r (.lst (t.hold.map V.int)))):∃sp,(t.cls a,sp)∈[(a.bj,pe),(a.ay,AO a K),(a.aD,pe)]∧sp [.ref p] H Q E:=by
 cases t with
 | plain fs w=>exact⟨_,.tail _ (.head _),p,d,fs,w,rfl,h,q⟩
 | weak f=>exact⟨_,.head _,p,rfl,q⟩
 | pair k v=>exact⟨_,.tail _ (.tail _ (.head _)),p,rfl,q⟩
noncomputable def K7 (m g:Addr):List (Str×V):=cP "grey_places" (.ref g) (cP "memory" (.ref m) [])
theorem aeO:¬(("memory":Str)="grey_places"):=by decide +kernel
theorem b8 (m g:Addr):(K7 m g).lookup ("memory":Str)=some (.ref m):=by
 unfold K7
 rw [aF,if_neg aeO,aF,if_pos rfl]
theorem e_ (m g:Addr):(K7 m g).lookup ("grey_places":Str)=some (.ref g):=by
 unfold K7
 rw [aF,if_pos rfl]
theorem cU {m g:Addr}{n:Str}(h1:¬n="grey_places":=by decide +kernel) (h2:¬n="memory":=by decide +kernel):(K7 m g).lookup n=none:=by
 unfold K7
 rw [aF,if_neg h1,aF,if_neg h2]
 all_goals rfl
noncomputable def gk (G:List Nat):List (Key×V):=G.map fun(p:Nat)=>((Sum.inl (p:Int):Key),V.bl true)
theorem Jh {G:List Nat}{p:Nat}(h:p∉G):aM (gk G) (Sum.inl (p:Int))=none:=by
 cases e:aM (gk G) (Sum.inl (p:Int))with
 | none=>rfl
 | some v=>
  obtain⟨kv,sU,e1⟩:=List.mem_map.mp (nD e)
  obtain⟨q,hq,rfl⟩:=List.mem_map.mp sU
  have:(q:Int)=(p:Int):=Sum.inl.inj e1
  have e2:q=p:=by omega
  subst e2
  exact absurd hq h
theorem ph {G:List Nat}{p:Nat}:(aM (gk G) (Sum.inl (p:Int))).isSome=decide (p∈G):=by
 by_cases h:p∈G
 ·rw [decide_eq_true h,←df,List.any_eq_true]
  exact⟨_,List.mem_map.mpr ⟨p,h,rfl⟩,decide_eq_true rfl⟩
 ·rw [decide_eq_false h,Jh h]
  rfl
theorem uc (G:List Nat):eA (gk G)=(G.map fun(p:Nat)=>(p:Int)).map V.int:=by
 unfold eA gk
 rw [List.map_map,List.map_map]
 rfl
theorem Ml {p:Nat}{G:List Nat}(h:p∉G):fj (gk (p::G)) (Sum.inl (p:Int))=gk G:=by
 unfold fj gk
 rw [List.map_cons,List.filter_cons,if_neg (by simp)]
 refine List.filter_eq_self.mpr fun x hx=>?_
 obtain⟨q,hq,rfl⟩:=List.mem_map.mp hx
 refine decide_eq_true fun z=>?_
 have:(q:Int)=(p:Int):=Sum.inl.inj z
 have e2:q=p:=by omega
 subst e2
 exact h hq
theorem jD {α:Type} [DecidableEq α]:∀{l m:List α},l.Nodup→(∀x∈l,x∈m)→l.length≤m.length
 | [],_,_,_=>Nat.zero_le _
 | x::l,m,h,s=>by
  obtain⟨h1,h2⟩:=List.nodup_cons.mp h
  have hx:=s x List.mem_cons_self
  have:=jD (m:=m.erase x) h2 fun y hy=>(List.mem_erase_of_ne (fun z=>h1 (by rw [←z]; exact hy))).mpr (s y (List.mem_cons_of_mem _ hy))
  rw [List.length_erase_of_mem hx] at this
  have:=List.length_pos_of_mem hx
  rw [List.length_cons]
  omega
structure MS (a:da) (K:PySem.W.Frag) (H:Hp) (M:MA) (k gd:Addr) (E:List (Nat×En)) (G:List Nat):Prop where
 tm:TM a K H M E
 ob:∃dx,H k=some (.ins a.a8 dx (K7 M.p gd))
 di:H gd=some (.dK (gk G))
 no:¬M.own gd
 gm:∀p∈G,∃e,(p,e)∈E∧e.cH=true
 nd:G.Nodup
theorem MS.same {H H':Hp}{M:MA}{k gd:Addr}{E:List (Nat×En)}{G:List Nat}(h:MS a K H M k gd E G) (s:au H H'):MS a K H' M k gd E G:=by
 obtain⟨dx,h1⟩:=h.ob
 exact⟨h.tm.same s,⟨dx,s _ _ h1⟩,s _ _ h.di,h.no,h.gm,h.nd⟩
theorem MS.aeP {H:Hp}{M:MA}{k gd:Addr}{E:List (Nat×En)}{G:List Nat}(h:MS a K H M k gd E G):G.length≤E.length:=by
 have:=jD (m:=E.map (·.1)) h.nd fun p hp=>by
  obtain⟨e,he,_⟩:=h.gm p hp
  exact List.mem_map.mpr ⟨_,he,rfl⟩
 rwa [List.length_map] at this
noncomputable def bQ (E:List (Nat×En)) (pl:Nat):Bool:=E.any fun p=>decide (p.1=pl)&&p.2.cH
noncomputable def setM (E:List (Nat×En)) (pl:Nat):List (Nat×En):=E.map fun p=>if p.1=pl then(p.1,⟨p.2.t,p.2.dq,true⟩)else p
noncomputable def dY (S:List (Nat×En)×List Nat) (pl:Nat):List (Nat×En)×List Nat:=if bQ S.1 pl=true then S else(setM S.1 pl,S.2++[pl])
theorem pd.mk {E:List (Nat×En)}(h:pd E) {p:Nat}{e:En}(he:(p,e)∈E):bQ E p=e.cH:=by
 rw [Bool.eq_iff_iff]
 unfold bQ
 rw [List.any_eq_true]
 constructor
 ·rintro⟨q,hq,z⟩
  rw [Bool.and_eq_true] at z
  have:=h.same hq he (of_decide_eq_true z.1)
  subst this
  exact z.2
 ·intro z
  exact⟨_,he,by rw [decide_eq_true rfl,z]; rfl⟩
theorem Ji (E:List (Nat×En)) (pl:Nat):(setM E pl).map (·.1)=E.map (·.1):=by
 unfold setM
 rw [List.map_map]
 refine List.map_congr_left fun p _=>?_
 show(if p.1=pl then(p.1,(⟨p.2.t,p.2.dq,true⟩:En))else p).1=p.1
 split <;> rfl
theorem Cr (S:List (Nat×En)×List Nat) (pl:Nat):(dY S pl).1.map (·.1)=S.1.map (·.1):=by
 unfold dY
 split
 ·rfl
 ·exact Ji _ _
theorem pj:∀(ps:List Nat) (S:List (Nat×En)×List Nat),(ps.foldl dY S).1.map (·.1)=S.1.map (·.1)
 | [],_=>rfl
 | p::ps,S=>by
  rw [List.foldl_cons,pj ps,Cr]
theorem Jj {E:List (Nat×En)}(h:pd E) {p:Nat}{e:En}(he:(p,e)∈E):fX E p ⟨e.t,e.dq,true⟩=setM E p:=by
 unfold fX setM
 refine List.map_congr_left fun q hq=>?_
 by_cases z:q.1=p
 ·have:=h.same hq he z
  subst this
  simp
 ·rw [if_neg z,if_neg z]
noncomputable def V6 (a:da) (K:PySem.W.Frag):Sp:=fun vs H Q _=>∃p dx M E H0,vs=[.ref p,.ref M.p]∧H p=some (.ins a.a8 dx [])∧au H0 H∧H0 p=none∧TM a K H0 M E∧∀gd H',eK p H H'→H gd=none→MS a K H' M p gd E []→Q .aP H'
theorem V7 (T:Txt K mg a):aN P w K mg base cx 1 a.wK a.wL ["self","memory"] (V6 a K):=by
 refine T.rS.ok Uc (fun vs H Q E h=>?_) (fun bI A outer s H vs Q E hr h=>?_)
 ·obtain⟨_,_,_,_,_,rfl,_⟩:=h
  rfl
 ·obtain⟨p,dx,M,E,H0,rfl,h1,s0,YM,hT,q⟩:=h
  refine⟨_,(aj (eQ (pv 0) (pv 1) rfl) (af (eQ (pv 0) eS rfl))),?_⟩
  dsimp! [h1,HO.ins.injEq,T.av,T.aG,T.aK]
  refine⟨by decide,fun gd AQ=>?_⟩
  have ngp:gd≠p:=fun z=>by rw [z,ae] at AQ; cases AQ
  have V8:H gd=none:=by rw [ah ngp] at AQ; exact AQ
  refine⟨_,dx,_,by rw [ah ngp.symm]; exact ae,T.av,T.aK,Nat.lt_of_le_of_lt (bZ _ _ _) (by decide),?_⟩
  have k1:eK p H (upd (upd (upd H p (.ins a.a8 dx (cP "memory" (.ref M.p) []))) gd (.dK [])) p (.ins a.a8 dx (cP "grey_places" (.ref gd) (cP "memory" (.ref M.p) [])))):=fun b u n e=>by
   rw [ah n,ah (aq e V8),ah n]
   exact e
  refine q gd _ k1 V8 ⟨hT.same fun b u e=>k1 b u (aq e YM) (s0 b u e),⟨dx,ae⟩,by rw [ah ngp,ae]; rfl,hT.gH (s0.free V8),fun p hp=>(nomatch hp),List.nodup_nil⟩
noncomputable def V9 (a:da) (K:PySem.W.Frag):Sp:=fun vs H Q _=>∃M k gd E G pl,vs=[.ref k,.int (pl:Nat)]∧MS a K H M k gd E G∧pl∈E.map (·.1)∧E.length≤900 ∧
 ∀H',Kp (fun b=>M.own b∨b=gd) H H'→MS a K H' M k gd (dY (E,G) pl).1 (dY (E,G) pl).2→Q .aP H'
theorem pk (T:Txt K mg a):aN P w K mg base cx 4 a.wM a.wN ["self","place"] (V9 a K):=by
 refine T.rT.ok Ud (fun vs H Q E h=>?_) (fun bI A outer s H vs Q E hr h=>?_)
 ·obtain⟨_,_,_,_,_,_,rfl,_⟩:=h
  rfl
 ·obtain⟨M,k,gd,E,G,pl,rfl,h,nU,sV,q⟩:=h
  refine⟨_,(af (bF (zV (dH (aI (aY (pv 0) rfl) T.ax T.lH (pb T) (hr.mono (by decide)) T.sJ .nil ar (aa (pv 1) ag)))) (aj (aQ (aI (aY (pv 0) rfl) T.ax T.Iz (VV T) (hr.mono (by decide)) T.P5 .nil ar (aa (pv 1) (aa dQ ag)))) (af (fk (bO hr) (aY (pv 0) rfl) (pv 1) dQ rfl))) aT)),?_⟩
  obtain⟨dx,h1⟩:=h.ob
  obtain⟨yX,h2⟩:=h.tm.ob
  have f1:=bT (pr:=M.pr) (lb:=M.lb) (n:="marked_at")
  have f2:=bT (pr:=M.pr) (lb:=M.lb) (n:="set_mark")
  dsimp! [h1,h2,HO.ins.injEq,T.av,T.aG,b8,f1]
  obtain⟨⟨_,e⟩,he,rfl⟩:=List.mem_map.mp nU
  have hA:=h.tm.nd
  have ud:=hA.mk he
  have hgl:=h.aeP
  obtain⟨xs,R,hR,eR⟩:=id h.tm
  subst eR
  obtain⟨r,f9,er⟩:=List.mem_map.mp he
  cases er
  have kg:=hR.there f9
  refine⟨M,xs,_,r.pl,r.e,rfl,kg,_,rfl,?_⟩
  cases em:r.e.cH with
  | true=>
   refine cX ?_
   have e1:dY (R.map Rw.v,G) r.pl=(R.map Rw.v,G):=by
    unfold dY
    rw [if_pos (by dsimp only at ud ⊢; rw [ud]; exact em)]
   dsimp only at q
   rw [e1] at q
   exact q H (Kp.refl _ _) h
  | false=>
   have hnG:r.pl∉G:=fun z=>by
    obtain⟨e2,zQ,AR⟩:=h.gm _ z
    have:=hA.same zQ he rfl
    rw [Prod.mk.injEq] at this
    rw [this.2,em] at AR
    cases AR
   have e1:dY (R.map Rw.v,G) r.pl=(setM (R.map Rw.v) r.pl,G++[r.pl]):=by
    unfold dY
    rw [if_neg (by dsimp only at ud ⊢; rw [ud,em]; exact Bool.false_ne_true)]
   dsimp only at q
   rw [e1] at q
   refine fB ⟨_,_,_,h1,T.av,T.aG,_,b8 _ _,_,rfl,_,_,h2,f2,M,xs,_,r.pl,r.e,true,rfl,kg,fun H1 XT cs1 k1 Mh hc1=>?_⟩
   have DC:=hR.set k1 Mh hc1
   rw [Jj hA he] at DC
   have VB:=k1 _ _ (fun z=>h.no (.inl z)) h.di
   have h11:=k1 _ _ (cL h1 hR.mem.R.li (by intro z; cases z)) h1
   refine⟨_,_,_,h11,T.av,T.aK,_,e_ _ _,_,rfl,_,lC.k (k:=Sum.inl (r.pl:Int)) VB (bb (by unfold gk; rw [List.length_map]; omega)),?_⟩
   rw [hV _ (Jh hnG)]
   have eg:gk G++[((Sum.inl (r.pl:Int):Key),V.bl true)]=gk (G++[r.pl]):=by
    unfold gk
    rw [List.map_append]
    rfl
   rw [eg]
   have k2:Kp (·=gd) H1 (upd H1 gd (.dK (gk (G++[r.pl])))):=(Kp.refl _ _).set rfl
   refine q _ ((k1.mono fun b z=>.inl (.inl z)).trans (k2.mono fun b z=>.inr z)) ⟨DC.off k2 (fun b e=>.inr ⟨gk G,by rw [e]; exact VB⟩) (fun z=>?_) (fun b hb z=>h.no (z▸hb)),⟨dx,k2 _ _ (cL h11 VB (by intro z; cases z)) h11⟩,ae,h.no,fun p hp=>?_,?_⟩
   ·have:=DC.lb
    rw [show M.lb=gd from z,VB] at this
    cases this
   ·have ZK:∀q∈R.map Rw.v,q.2.cH=true∨q.1=r.pl→∃e,(q.1,e)∈setM (R.map Rw.v) r.pl∧e.cH=true:=fun q hq hm=>by
     by_cases z:q.1=r.pl
     ·exact⟨⟨q.2.t,q.2.dq,true⟩,List.mem_map.mpr ⟨q,hq,by rw [if_pos z]⟩,rfl⟩
     ·exact⟨q.2,List.mem_map.mpr ⟨q,hq,by rw [if_neg z]⟩,hm.resolve_right z⟩
    rcases List.mem_append.mp hp with hp | hp
    ·obtain⟨e2,zQ,AR⟩:=h.gm p hp
     exact ZK (p,e2) zQ (.inl AR)
    ·rw [List.mem_singleton.mp hp]
     exact ZK (r.pl,r.e) he (.inr rfl)
   ·exact gg h.nd hnG
noncomputable def V_ (a:da) (K:PySem.W.Frag):Sp:=fun vs H Q _=>∃M k gd E G l,∃ps:List Nat,vs=[.ref k,.ref l]∧MS a K H M k gd E G∧H l=some (.lst ((ps.map fun(p:Nat)=>(p:Int)).map V.int))∧¬M.own l∧(∀p∈ps,p∈E.map (·.1))∧E.length≤900 ∧
 ∀H',Kp (fun b=>M.own b∨b=gd) H H'→MS a K H' M k gd (ps.foldl dY (E,G)).1 (ps.foldl dY (E,G)).2→Q .aP H'
theorem Jk (T:Txt K mg a):aN P w K mg base cx 5 a.wO a.wQ ["self","places"] (V_ a K):=by
 refine T.rW.ok G9 (fun vs H Q E h=>?_) (fun bI A outer s H vs Q E hr h=>?_)
 ·obtain⟨_,_,_,_,_,_,_,rfl,_⟩:=h
  rfl
 ·obtain⟨M,k,gd,E,G,l,ps,rfl,h,hl,nl,ZL,sV,q⟩:=h
  refine⟨_,(af (b_ PassesOwn.never rfl (dn (pv 1)) (aJ (i:=2) G9.nd rfl (Or.inl rfl)) az)),?_⟩
  dsimp! []
  have Jl:l≠gd:=cL hl h.di (by intro z; cases z)
  refine⟨⟨_,bc.of hl⟩,d0 ((ps.map fun(p:Nat)=>(p:Int)).map V.int) (fun i σ H1=>∃o2:Option V,σ=[some (.ref k),some (.ref l),o2]∧Kp (fun b=>M.own b∨b=gd) H H1∧H1 l=some (.lst ((ps.map fun(p:Nat)=>(p:Int)).map V.int))∧MS a K H1 M k gd ((ps.take i).foldl dY (E,G)).1 ((ps.take i).foldl dY (E,G)).2) ⟨none,rfl,Kp.refl _ _,hl,h⟩ ?_ ?_ ?_⟩
  ·rintro i σ H1 _ ⟨o2,rfl,_,i3,_⟩
   exact bc.of i3
  ·rintro i x σ H1 hx ⟨o2,rfl,k1,i3,h1⟩
   obtain⟨p,hp,rfl⟩:∃p,ps[i]?=some p∧x=V.int (p:Nat):=by
    rw [List.getElem?_map,List.getElem?_map] at hx
    cases e:ps[i]? with
    | none=>rw [e] at hx; cases hx
    | some w=>rw [e] at hx; cases hx; exact⟨w,rfl,rfl⟩
   obtain⟨dx,hk⟩:=h1.ob
   have f1:=cU (m:=M.p) (g:=gd) (n:="shade")
   refine gN ?_
   refine bA.of (af (aQ (aI (pv 0) T.av T.lF (pk T) (hr.mono (by decide)) T.rV .nil ar (aa (pv 2) ag)))) ?_
   dsimp! [hk,HO.ins.injEq,f1]
   have efs:=pj (ps.take i) (E,G)
   refine⟨M,k,gd,_,_,p,rfl,h1,by rw [efs]; exact ZL p (List.mem_of_getElem? hp),?_,fun H2 k2 h2=>⟨k1.trans k2,k2 _ _ (fun z=>?_) i3,?_⟩⟩
   ·have:=congrArg List.length efs
    rw [List.length_map,List.length_map] at this
    rw [this]
    exact sV
   ·rcases z with z | z
    ·exact nl z
    ·exact Jl z
   ·rw [List.take_add_one,hp,List.foldl_append]
    exact h2
  ·rintro σ H1 ⟨o2,rfl,k1,i3,h1⟩
   rw [List.length_map,List.length_map,List.take_length] at h1
   exact q H1 k1 h1
noncomputable def ZM (a:da) (K:PySem.W.Frag):Sp:=fun vs H Q _=>∃M k gd E G,vs=[.ref k]∧MS a K H M k gd E G∧∀l,H l=none→Q (.ref l) (upd H l (.lst ((G.map fun(p:Nat)=>(p:Int)).map V.int)))
theorem Jm (T:Txt K mg a):aN P w K mg base cx 1 a.Hs a.Ht ["self"] (ZM a K):=by
 refine T.Ds.ok Zn (fun vs H Q E h=>?_) (fun bI A outer s H vs Q E hr h=>?_)
 ·obtain⟨_,_,_,_,_,rfl,_⟩:=h
  rfl
 ·obtain⟨M,k,gd,E,G,rfl,h,q⟩:=h
  refine⟨_,(af (aw (eL (jy rfl) rfl T.ip jX (aa (aY (pv 0) rfl) ag)))),?_⟩
  obtain⟨dx,h1⟩:=h.ob
  dsimp! [h1,HO.ins.injEq,T.av,T.aK,e_]
  refine⟨_,.inl h.di,fun l hl=>?_⟩
  rw [uc]
  exact q l hl
noncomputable def Wa (a:da) (K:PySem.W.Frag):Sp:=fun vs H Q _=>∃M k gd E G p e,∃hn:List Nat,vs=[.ref k]∧MS a K H M k gd E (p::G)∧(p,e)∈E∧e.t.hold=List.map (fun(n:Nat)=>(n:Int)) hn∧(∀n∈hn,n∈E.map (·.1))∧E.length≤900 ∧
 ∀H',Kp (fun b=>M.own b∨b=gd) H H'→MS a K H' M k gd (hn.foldl dY (E,G)).1 (hn.foldl dY (E,G)).2→Q (.int (p:Nat)) H'
theorem Jn (T:Txt K mg a):aN P w K mg base cx 11 a.wR a.wU ["self"] (Wa a K):=by
 refine T.rX.ok G_ (fun vs H Q E h=>?_) (fun bI A outer s H vs Q E hr h=>?_)
 ·obtain⟨_,_,_,_,_,_,_,_,rfl,_⟩:=h
  rfl
 ·obtain⟨M,k,gd,E,G,p,e,hn,rfl,h,he,ZN,nH,sV,q⟩:=h
  refine⟨_,(aj (aR (i:=1) G_.nd rfl (Or.inl rfl) (aC bS (c4 (pv 0) T.av T.Cf (Jm T) (hr.mono (by decide)) T.LZ .nil ar) ak (fun _ _=>rfl))) (aj (aQ (FA (aY (pv 0) rfl) (pv 1) ⟨rfl,rfl,rfl,rfl⟩)) (aj (aQ (aI (pv 0) T.av T.AB (Jk T) (hr.mono (by decide)) T.HW .nil ar (aa (cR (L:=[(a.bj,pe),(a.ay,AO a K),(a.aD,pe)]) (aI (aY (pv 0) rfl) T.ax T.AH (Je T) (hr.mono (by decide)) T.Iu .nil ar (aa (pv 1) ag)) (List.forall_mem_cons.mpr ⟨⟨_,_,_,_,T.dh,T.Hy,Jg T,hr.mono (by decide),T.Hx⟩,List.forall_mem_cons.mpr ⟨⟨_,_,_,_,T.aW,T.HD,V5 T,hr.mono (by decide),T.O9⟩,List.forall_mem_cons.mpr ⟨⟨_,_,_,_,T.bp,T.eW,Jg T,hr.mono (by decide),T.Hx⟩,List.forall_mem_nil _⟩⟩⟩) .nil ar) ag))) (af (aw (pv 1)))))),?_⟩
  obtain⟨dx,h1⟩:=h.ob
  have f1:=cU (m:=M.p) (g:=gd) (n:="grey")
  dsimp! [h1,HO.ins.injEq,f1]
  refine⟨M,k,gd,E,_,rfl,h,fun l hl=>⟨l,_,_,V.int (p:Nat),rfl,rfl,bc.of ae,b9 (j:=0) rfl,?_⟩⟩
  have s2:=au.put (o:=.lst (((p::G).map fun(p:Nat)=>(p:Int)).map V.int)) hl
  have h2:=h.same s2
  have XY:=s2 _ _ h1
  generalize upd H l (.lst (((p::G).map fun(p:Nat)=>(p:Int)).map V.int))=H2 at s2 h2 XY
  have hpG:p∉G:=(List.nodup_cons.mp h.nd).1
  obtain⟨v,hv⟩:∃v,aM (gk (p::G)) (Sum.inl (p:Int))=some v:=Option.isSome_iff_exists.mp (by rw [ph]; simp)
  refine⟨_,_,_,XY,T.av,T.aK,_,e_ _ _,_,rfl,.inl ⟨_,.inl h2.di⟩,_,h2.di,Sum.inl (p:Int),rfl,v,hv,?_⟩
  rw [Ml hpG]
  have k3:Kp (·=gd) H2 (upd H2 gd (.dK (gk G))):=(Kp.refl _ _).set rfl
  have h3:MS a K (upd H2 gd (.dK (gk G))) M k gd E G:=⟨h2.tm.off k3 (fun b e=>.inr ⟨gk (p::G),by rw [e]; exact h2.di⟩) (fun z=>by
   have:=h2.tm.lb
   rw [show M.lb=gd from z,h2.di] at this
   cases this) (fun b hb z=>h.no (z▸hb)),⟨dx,k3 _ _ (cL XY h2.di (by intro z; cases z)) XY⟩,ae,h.no,fun q hq=>h.gm q (List.mem_cons_of_mem _ hq),(List.nodup_cons.mp h.nd).2⟩
  generalize upd H2 gd (.dK (gk G))=H3 at k3 h3
  obtain⟨dx3,Wb⟩:=h3.ob
  obtain⟨dx4,hM3⟩:=h3.tm.ob
  obtain⟨xs,es,kg⟩:=h3.tm.there he
  have k03:Kp (fun b=>M.own b∨b=gd) H H3:=(au.kp s2).trans (k3.mono fun b z=>.inr z)
  refine⟨_,_,Wb,cU,_,_,_,Wb,T.av,T.aG,_,b8 _ _,_,rfl,_,_,hM3,bT,M,xs,es,p,e,rfl,kg,fun tp td H4 s4 htp DI K8=>?_⟩
  obtain⟨Me,Wc⟩:=K8.ob
  refine⟨tp,rfl,_,_,_,Wc,e.t.no td,DH e.t K8 fun r hr5=>?_⟩
  have s5:=au.put (o:=.lst (e.t.hold.map V.int)) hr5
  have h5:=h3.same (s4.trans s5)
  have Qw:H3 r=none:=s4.free hr5
  refine⟨M,k,gd,E,G,r,hn,rfl,h5,by rw [←ZN]; exact ae,h3.tm.gH Qw,nH,sV,fun H6 k6 h6=>?_⟩
  exact q H6 ((k03.trans (au.kp (s4.trans s5))).trans k6) h6
noncomputable def Wd (E:List (Nat×En)) (G:List Nat) (p:Nat):Str:=if bQ E p=true then(if p∈G then "grey" else "black")else "white"
noncomputable def ZO (a:da) (K:PySem.W.Frag):Sp:=fun vs H Q _=>∃M k gd E G p,vs=[.ref k,.int (p:Nat)]∧MS a K H M k gd E G∧p∈E.map (·.1)∧Q (.str (Wd E G p)) H
theorem ZP (T:Txt K mg a):aN P w K mg base cx 4 a.Hu a.Hv ["self","place"] (ZO a K):=by
 refine T.Dt.ok Zo (fun vs H Q E h=>?_) (fun bI A outer s H vs Q E hr h=>?_)
 ·obtain⟨_,_,_,_,_,_,rfl,_⟩:=h
  rfl
 ·obtain⟨M,k,gd,E,G,p,rfl,h,hp,q⟩:=h
  refine⟨_,(aj (bF (zV (dH (aI (aY (pv 0) rfl) T.ax T.lH (pb T) (hr.mono (by decide)) T.sJ .nil ar (aa (pv 1) ag)))) (af (aw aX)) aT) (af (aw (dy (jt (hZ (bO hr) (pv 1) (aY (pv 0) rfl))) aX aX)))),?_⟩
  obtain⟨dx,h1⟩:=h.ob
  obtain⟨yX,h2⟩:=h.tm.ob
  have f1:=bT (pr:=M.pr) (lb:=M.lb) (n:="marked_at")
  dsimp! [h1,h2,HO.ins.injEq,T.av,T.aG,b8,f1]
  obtain⟨⟨_,e⟩,he,rfl⟩:=List.mem_map.mp hp
  obtain⟨xs,es,kg⟩:=h.tm.there he
  have ud:=h.tm.nd.mk he
  unfold Wd at q
  dsimp only at q ud ⊢
  rw [ud] at q
  refine⟨M,xs,es,_,e,rfl,kg,_,rfl,?_⟩
  cases em:e.cH with
  | false=>
   rw [em,if_neg Bool.false_ne_true] at q
   exact fB q
  | true=>
   rw [em,if_pos rfl] at q
   refine cX ⟨_,_,_,h1,T.av,T.aK,_,e_ _ _,_,rfl,_,c8.k (k:=Sum.inl (_:Int)) h.di,?_⟩
   rw [ph]
   rename_i p0
   by_cases hg:p0∈G
   ·rw [if_pos hg] at q
    rw [decide_eq_true hg]
    exact fB q
   ·rw [if_neg hg] at q
    rw [decide_eq_false hg]
    exact cX q
noncomputable def Mm (w:Str):List (Str×V):=cP "called" (.str w) []
theorem ue (w:Str) {n:Str}(h:¬n="called"):(Mm w).lookup n=none:=by
 unfold Mm
 rw [aF,if_neg h]
 rfl
noncomputable def ZQ (K:PySem.W.Frag):Sp:=fun vs H Q _=>∃p C dx w,vs=[.ref p,.str w]∧nz K C∧bL K C "called"∧H p=some (.ins C dx [])∧Q .aP (upd H p (.ins C dx (Mm w)))
theorem Cs (T:Txt K mg a):aN P w K mg base cx 1 a.Av a.Hh ["self","word"] (ZQ K):=by
 refine T.yO.ok Zh (fun vs H Q E h=>?_) (fun bI A outer s H vs Q E hr h=>?_)
 ·obtain⟨_,_,_,_,rfl,_⟩:=h
  rfl
 ·obtain⟨p,C,dx,w,rfl,hC,hN,h1,q⟩:=h
  refine⟨_,(af (eQ (pv 0) (pv 1) rfl)),?_⟩
  dsimp! [h1,HO.ins.injEq,hC,hN]
  exact⟨by decide,q⟩
noncomputable def bW (n:Nat) (v:V):Sp:=fun vs H Q _=>vs.length=n∧Q v H
theorem ZR (T:Txt K mg a):aN P w K mg base cx 1 a.Dk a.Hi ["self"] (bW 1 (.bl false)):=by
 refine T.Ay.ok Zi (fun vs H Q E h=>h.1) (fun bI A outer s H vs Q E hr h=>?_)
 obtain⟨hl,q⟩:=h
 obtain⟨x,rfl⟩:=List.length_eq_one_iff.mp hl
 refine⟨_,(af (aw dQ)),?_⟩
 dsimp! []
 exact q
theorem ZS (T:Txt K mg a):aN P w K mg base cx 1 a.Dl a.Hj ["self"] (bW 1 (.bl false)):=by
 refine T.Az.ok Zj (fun vs H Q E h=>h.1) (fun bI A outer s H vs Q E hr h=>?_)
 obtain⟨hl,q⟩:=h
 obtain⟨x,rfl⟩:=List.length_eq_one_iff.mp hl
 refine⟨_,(af (aw dQ)),?_⟩
 dsimp! []
 exact q
theorem ZT (T:Txt K mg a):aN P w K mg base cx 1 a.Dm a.Hk ["self"] (bW 1 (.bl false)):=by
 refine T.AA.ok Zk (fun vs H Q E h=>h.1) (fun bI A outer s H vs Q E hr h=>?_)
 obtain⟨hl,q⟩:=h
 obtain⟨x,rfl⟩:=List.length_eq_one_iff.mp hl
 refine⟨_,(af (aw dQ)),?_⟩
 dsimp! []
 exact q
theorem We (T:Txt K mg a):aN P w K mg base cx 1 a.wu a.wy ["self"] (bW 1 (.bl true)):=by
 refine T.rN.ok T7 (fun vs H Q E h=>h.1) (fun bI A outer s H vs Q E hr h=>?_)
 obtain⟨hl,q⟩:=h
 obtain⟨x,rfl⟩:=List.length_eq_one_iff.mp hl
 refine⟨_,(af (aw dQ)),?_⟩
 dsimp! []
 exact q
theorem Wf (T:Txt K mg a):aN P w K mg base cx 1 a.wB a.wC ["self"] (bW 1 (.bl true)):=by
 refine T.rP.ok T9 (fun vs H Q E h=>h.1) (fun bI A outer s H vs Q E hr h=>?_)
 obtain⟨hl,q⟩:=h
 obtain⟨x,rfl⟩:=List.length_eq_one_iff.mp hl
 refine⟨_,(af (aw dQ)),?_⟩
 dsimp! []
 exact q
theorem Wg (T:Txt K mg a):aN P w K mg base cx 1 a.wD a.wF ["self"] (bW 1 (.bl true)):=by
 refine T.rQ.ok T_ (fun vs H Q E h=>h.1) (fun bI A outer s H vs Q E hr h=>?_)
 obtain⟨hl,q⟩:=h
 obtain⟨x,rfl⟩:=List.length_eq_one_iff.mp hl
 refine⟨_,(af (aw dQ)),?_⟩
 dsimp! []
 exact q
noncomputable def ug (K:PySem.W.Frag):Sp:=fun vs H Q _=>∃p x y v,vs=[p,x,y]∧cI K H y v∧∀r H',au H H'→H r=none→H' r=some (.lst (v.nm.toList))→Q (.ref r) H'
theorem Wh (T:Txt K mg a):aN P w K mg base cx 4 a.wz a.wA ["self","was","becomes"] (ug K):=by
 refine T.rO.ok T8 (fun vs H Q E h=>?_) (fun bI A outer s H vs Q E hr h=>?_)
 ·obtain⟨_,_,_,_,rfl,_⟩:=h
  rfl
 ·obtain⟨p,x,y,v,rfl,hv,q⟩:=h
  refine⟨_,(af (aw (aH (oY T) (hr.mono (by decide)) rfl T.rG T.ia.kp T.rF .nil ar (aa (cE (aa (pv 2) ag)) ag)))),?_⟩
  dsimp! []
  refine⟨by decide,fun l hl=>⟨l,_,[v],rfl,bc.of ae,by simp,rfl,fun i z u e1 e2=>?_,fun r f9=>?_⟩⟩
  ·cases i with
   | zero=>
    cases e1
    cases e2
    exact hv.same (au.put hl)
   | succ i=>simp at e1
  ·have e:[v].filterMap Vl.nm=v.nm.toList:=by cases v <;> rfl
   rw [e]
   have Jc:H r=none:=by
    by_cases z:r=l
    ·rw [z,ae] at f9
     cases f9
    ·rw [ah z] at f9
     exact f9
   exact q r _ ((au.put hl).trans (au.put f9)) Jc ae
noncomputable def uh (K:PySem.W.Frag):Sp:=fun vs H Q _=>∃p x y v,vs=[p,x,y]∧cI K H x v∧∀r H',au H H'→H r=none→H' r=some (.lst (v.nm.toList))→Q (.ref r) H'
theorem Wi (T:Txt K mg a):aN P w K mg base cx 4 a.wG a.wH ["self","was","becomes"] (uh K):=by
 refine T.rR.ok Ua (fun vs H Q E h=>?_) (fun bI A outer s H vs Q E hr h=>?_)
 ·obtain⟨_,_,_,_,rfl,_⟩:=h
  rfl
 ·obtain⟨p,x,y,v,rfl,hv,q⟩:=h
  refine⟨_,(af (aw (aH (oY T) (hr.mono (by decide)) rfl T.rG T.ia.kp T.rF .nil ar (aa (cE (aa (pv 1) ag)) ag)))),?_⟩
  dsimp! []
  refine⟨by decide,fun l hl=>⟨l,_,[v],rfl,bc.of ae,by simp,rfl,fun i z u e1 e2=>?_,fun r f9=>?_⟩⟩
  ·cases i with
   | zero=>
    cases e1
    cases e2
    exact hv.same (au.put hl)
   | succ i=>simp at e1
  ·have e:[v].filterMap Vl.nm=v.nm.toList:=by cases v <;> rfl
   rw [e]
   have Jc:H r=none:=by
    by_cases z:r=l
    ·rw [z,ae] at f9
     cases f9
    ·rw [ah z] at f9
     exact f9
   exact q r _ ((au.put hl).trans (au.put f9)) Jc ae
theorem aeQ:¬(("old":Str)="new"):=by decide +kernel
noncomputable def Jo (cN cO:Addr):Sp:=fun vs H Q _=>(vs=[.str "new"]∧∀p dx H',au H H'→H' p=some (.ins cN dx (Mm "new"))→Q (.ref p) H')∨(vs=[.str "old"]∧∀p dx H',au H H'→H' p=some (.ins cO dx (Mm "old"))→Q (.ref p) H')
theorem sW {H:Hp}{x dx:Addr}{o u v:HO}(h1:H x=none) (h2:H dx=none):au H (upd (upd (upd H dx o) x u) x v):=fun b c e=>by
 rw [ah (aq e h1),ah (aq e h1),ah (aq e h2)]
 exact e
theorem Wj (T:Txt K mg a):aN P w K mg base cx 3 a.wI a.wJ ["word"] (Jo a.a6 a.a7):=by
 refine T.ou.ok Ub (fun vs H Q E h=>?_) (fun bI A outer s H vs Q E hr h=>?_)
 ·rcases h with ⟨rfl,_⟩ | ⟨rfl,_⟩ <;> rfl
 ·rcases h with ⟨rfl,q⟩ | ⟨rfl,q⟩
  ·refine⟨_,(af (aw (dy (aA cA (pv 0) aX (aE _)) (dZ T.ib (Cs T) (hr.mono (by decide)) rfl T.ie T.HN .nil ar (aa (pv 0) ag)) (dZ T.ic (Cs T) (hr.mono (by decide)) rfl T.ig T.HN .nil ar (aa (pv 0) ag))))),?_⟩
   dsimp! []
   exact fun x dx hx C5 ne=>⟨x,_,dx,_,rfl,T.dF,T.cY,ae,rfl,q x dx _ (sW hx C5) ae⟩
  ·refine⟨_,(af (aw (dy (aA cA (pv 0) aX (aE _)) (dZ T.ib (Cs T) (hr.mono (by decide)) rfl T.ie T.HN .nil ar (aa (pv 0) ag)) (dZ T.ic (Cs T) (hr.mono (by decide)) rfl T.ig T.HN .nil ar (aa (pv 0) ag))))),?_⟩
   dsimp! [aeQ]
   exact fun x dx hx C5 ne=>⟨x,_,dx,_,rfl,T.dG,T.cZ,ae,rfl,q x dx _ (sW hx C5) ae⟩
noncomputable def gG (ps:List Nat) (N:List (Addr×Addr)):List (Key×V):=List.zipWith (fun(p:Nat) (n:Addr×Addr)=>((Sum.inl (p:Int):Key),V.ref n.1)) ps N
theorem Jp {ps:List Nat}{N:List (Addr×Addr)}{i p:Nat}{n:Addr×Addr}(h1:ps[i]?=some p) (h2:N[i]?=some n):(gG ps N)[i]?=some ((Sum.inl (p:Int):Key),V.ref n.1):=by
 unfold gG
 rw [List.getElem?_zipWith,h1,h2]
theorem ui {ps:List Nat}{N:List (Addr×Addr)}{kv:Key×V}(h:kv∈gG ps N):∃(i p:Nat) (n:Addr×Addr),ps[i]?=some p∧N[i]?=some n∧kv=((Sum.inl (p:Int):Key),V.ref n.1):=by
 obtain⟨i,hi⟩:=List.mem_iff_getElem?.mp h
 unfold gG at hi
 rw [List.getElem?_zipWith] at hi
 cases e1:ps[i]? with
 | none=>rw [e1] at hi; cases hi
 | some p=>
  cases e2:N[i]? with
  | none=>rw [e1,e2] at hi; cases hi
  | some n=>
   rw [e1,e2] at hi
   exact⟨i,p,n,e1,e2,(Option.some.inj hi).symm⟩
theorem Jq {α:Type}{l:List α}(h:l.Nodup) {i j:Nat}{x:α}(h1:l[i]?=some x) (h2:l[j]?=some x):i=j:=by
 obtain⟨a1,a2⟩:=List.getElem?_eq_some_iff.mp h1
 obtain⟨b1,b2⟩:=List.getElem?_eq_some_iff.mp h2
 exact yY h a1 b1 (a2.trans b2.symm)
theorem nI {ps:List Nat}{N:List (Addr×Addr)}(hn:ps.Nodup) {i p:Nat}{n:Addr×Addr}(h1:ps[i]?=some p) (h2:N[i]?=some n):aM (gG ps N) (Sum.inl (p:Int))=some (V.ref n.1):=by
 cases e:aM (gG ps N) (Sum.inl (p:Int))with
 | none=>exact absurd (List.mem_map.mpr ⟨_,List.mem_of_getElem? (Jp h1 h2),rfl⟩) (h_ e)
 | some v=>
  unfold aM at e
  cases e2:(gG ps N).find? fun x=>decide (x.1=Sum.inl (p:Int))with
  | none=>rw [e2] at e; cases e
  | some y=>
   rw [e2] at e
   have hp:=List.find?_some e2
   obtain⟨j,q,m,j1,j2,rfl⟩:=ui (List.mem_of_find?_eq_some e2)
   have ey:(q:Int)=(p:Int):=Sum.inl.inj (of_decide_eq_true hp)
   have eq:q=p:=by omega
   subst eq
   have:=Jq hn h1 j1
   subst this
   rw [h2] at j2
   cases j2
   exact(Option.some.inj e).symm▸rfl
theorem Wk {ps:List Nat}{N:List (Addr×Addr)}{p:Nat}(h:p∉ps):aM (gG ps N) (Sum.inl (p:Int))=none:=by
 cases e:aM (gG ps N) (Sum.inl (p:Int))with
 | none=>rfl
 | some v=>
  obtain⟨kv,sU,e1⟩:=List.mem_map.mp (nD e)
  obtain⟨j,q,m,j1,j2,rfl⟩:=ui sU
  have:(q:Int)=(p:Int):=Sum.inl.inj e1
  have e2:q=p:=by omega
  exact absurd (e2▸List.mem_of_getElem? j1) h
theorem Jr {ps:List Nat}{N:List (Addr×Addr)}(h:ps.length=N.length) (p:Nat) (n:Addr×Addr):gG (ps++[p]) (N++[n])=gG ps N++[((Sum.inl (p:Int):Key),V.ref n.1)]:=by
 unfold gG
 rw [List.zipWith_append h]
 rfl
theorem Ct {ps:List Nat}{N:List (Addr×Addr)}(h:ps.length=N.length):(gG ps N).length=ps.length:=by
 unfold gG
 rw [List.length_zipWith,h]
 omega
noncomputable def Mn (L:List (Int×Nat)):List (Key×V):=L.map fun q=>((Sum.inl q.1:Key),V.int (q.2:Nat))
structure uj (kvs:List (Key×V)) (ps:List Nat):Prop where
 ex:∃L:List (Int×Nat),kvs=Mn L∧(L.map (·.1)).Nodup∧∀q∈L,q.2∈ps∧0≤q.1∧q.1 < 5
theorem uj.nil (ps:List Nat):uj [] ps:=⟨[],rfl,List.nodup_nil,fun q hq=>(nomatch hq)⟩
theorem uj.len {kvs:List (Key×V)}{ps:List Nat}(h:uj kvs ps):kvs.length≤5:=by
 obtain⟨L,rfl,h1,h2⟩:=h.ex
 have:=jD (m:=[(0:Int),1,2,3,4]) h1 fun x hx=>by
  obtain⟨q,hq,rfl⟩:=List.mem_map.mp hx
  obtain⟨_,a,b⟩:=h2 q hq
  have:q.1=0∨q.1=1∨q.1=2∨q.1=3∨q.1=4:=by omega
  simpa using this
 unfold Mn
 rw [List.length_map] at this ⊢
 exact this
theorem uj.get {kvs:List (Key×V)}{ps:List Nat}(h:uj kvs ps) {k:Key}{v:V}(e:aM kvs k=some v):∃p:Nat,v=.int (p:Nat)∧p∈ps:=by
 obtain⟨L,rfl,h1,h2⟩:=h.ex
 unfold aM at e
 cases e2:(Mn L).find? fun x=>decide (x.1=k)with
 | none=>rw [e2] at e; cases e
 | some y=>
  rw [e2] at e
  obtain⟨q,hq,rfl⟩:=List.mem_map.mp (List.mem_of_find?_eq_some e2)
  exact⟨q.2,(Option.some.inj e).symm,(h2 q hq).1⟩
theorem uj.keys {kvs:List (Key×V)}{ps:List Nat}(h:uj kvs ps):∃ns:List Int,eA kvs=ns.map V.int∧ns.length≤5∧∀z∈ns,∃p:Nat,aM kvs (Sum.inl z)=some (.int (p:Nat))∧p∈ps:=by
 have hl:=h.len
 obtain⟨L,rfl,h1,h2⟩:=h.ex
 refine⟨L.map (·.1),?_,by unfold Mn at hl; rw [List.length_map] at hl ⊢; exact hl,fun z hz=>?_⟩
 ·unfold eA Mn
  rw [List.map_map,List.map_map]
  rfl
 ·obtain⟨q,hq,rfl⟩:=List.mem_map.mp hz
  cases e:aM (Mn L) (Sum.inl q.1)with
  | none=>exact absurd (List.mem_map.mpr ⟨_,List.mem_map.mpr ⟨q,hq,rfl⟩,rfl⟩) (h_ e)
  | some v=>
   obtain⟨p,rfl,hp⟩:=h.get e
   exact⟨p,rfl,hp⟩
theorem uj.drop {kvs:List (Key×V)}{ps:List Nat}(h:uj kvs ps) (s:Int):uj (fj kvs (Sum.inl s)) ps:=by
 obtain⟨L,rfl,h1,h2⟩:=h.ex
 refine⟨L.filter fun q=>decide (q.1≠s),?_,(h1.sublist (List.filter_sublist.map _)),fun q hq=>h2 q (List.mem_filter.mp hq).1⟩
 unfold fj Mn
 rw [List.filter_map]
 congr 1
 apply List.filter_congr
 intro q _
 show decide ((Sum.inl q.1:Key)≠Sum.inl s)=decide (q.1≠s)
 rw [decide_eq_decide]
 exact⟨fun z y=>z (by rw [y]),fun z y=>z (Sum.inl.inj y)⟩
theorem uj.more {kvs:List (Key×V)}{ps ps':List Nat}(h:uj kvs ps) (hs:∀p∈ps,p∈ps'):uj kvs ps':=by
 obtain⟨L,rfl,h1,h2⟩:=h.ex
 exact⟨L,rfl,h1,fun q hq=>⟨hs _ (h2 q hq).1,(h2 q hq).2⟩⟩
theorem uj.put {kvs:List (Key×V)}{ps:List Nat}(h:uj kvs ps) {s:Int}(h0:0≤s) (h5:s < 5) {p:Nat}(hp:p∈ps):uj (putK kvs (Sum.inl s) (.int (p:Nat))) ps:=by
 cases e:aM kvs (Sum.inl s)with
 | none=>
  rw [hV _ e]
  obtain⟨L,rfl,h1,h2⟩:=h.ex
  refine⟨L++[(s,p)],by unfold Mn; rw [List.map_append]; rfl,?_,fun q hq=>?_⟩
  ·rw [List.map_append]
   refine gg h1 fun z=>?_
   obtain⟨q,hq,e1⟩:=List.mem_map.mp z
   have e3:q.1=s:=e1
   exact absurd (List.mem_map.mpr ⟨_,List.mem_map.mpr ⟨q,hq,rfl⟩,by show(Sum.inl q.1:Key)=Sum.inl s; rw [e3]⟩) (h_ e)
  ·rcases List.mem_append.mp hq with hq | hq
   ·exact h2 q hq
   ·rw [List.mem_singleton.mp hq]
    exact⟨hp,h0,h5⟩
 | some v=>
  obtain⟨L,rfl,h1,h2⟩:=h.ex
  refine⟨L.map fun q=>if q.1=s then(q.1,p)else q,?_,?_,fun q hq=>?_⟩
  ·unfold putK
   rw [df,e,if_pos (show(some v).isSome=true from rfl)]
   unfold Mn
   rw [List.map_map,List.map_map]
   refine List.map_congr_left fun q _=>?_
   show(if (Sum.inl q.1:Key)=Sum.inl s then((Sum.inl q.1:Key),V.int (p:Nat))else((Sum.inl q.1:Key),V.int (q.2:Nat)))=((Sum.inl (if q.1=s then(q.1,p)else q).1:Key),V.int (((if q.1=s then(q.1,p)else q).2:Nat):Int))
   by_cases z:q.1=s
   ·rw [if_pos z,if_pos (by rw [z])]
   ·rw [if_neg z,if_neg (fun y=>z (Sum.inl.inj y))]
  ·have e1:(L.map fun q=>if q.1=s then(q.1,p)else q).map (·.1)=L.map (·.1):=by
    rw [List.map_map]
    refine List.map_congr_left fun q _=>?_
    show(if q.1=s then(q.1,p)else q).1=q.1
    split <;> rfl
   rw [e1]
   exact h1
  ·obtain⟨q0,hq0,rfl⟩:=List.mem_map.mp hq
   by_cases z:q0.1=s
   ·rw [if_pos z]
    exact⟨hp,(h2 q0 hq0).2⟩
   ·rw [if_neg z]
    exact h2 q0 hq0
structure FS (a:da) (K:PySem.W.Frag) (H:Hp) (M:MA) (st sd nd:Addr) (E:List (Nat×En)) (N:List (Addr×Addr)) (kvs:List (Key×V)):Prop where
 tup:H st=some (.tup [.ref sd,.ref nd,.ref M.p])
 tm:TM a K H M E
 sh:H sd=some (.dK (gG (E.map (·.1)) N))
 na:H nd=some (.dK kvs)
 nm:uj kvs (E.map (·.1))
 len:E.length=N.length
 row:∀(i:Nat) p n,E[i]?=some p→N[i]?=some n→H n.1=some (.tup [.str p.2.t.sort,.ref n.2])∧∃fx,H n.2=some (.lst fx)∧iZ K H fx p.2.t.fs∧fx.length≤4
 cls:∀p∈E,∀z,Vl.th z∈p.2.t.fs→∃q:Nat,z=(q:Int)∧q∈E.map (·.1)
 DJ:sd≠nd
 uk:¬M.own sd
 kh:¬M.own nd
 Qx:(N.map (·.2)).Nodup
 Cu:∀n∈N,¬M.own n.2∧M.lb≠n.2
theorem FS.nd {H:Hp}{M:MA}{st sd nd:Addr}{E:List (Nat×En)}{N:List (Addr×Addr)}{kvs:List (Key×V)}(h:FS a K H M st sd nd E N kvs):(E.map (·.1)).Nodup:=List.pairwise_map.mpr h.tm.nd
theorem FS.mem {H:Hp}{M:MA}{st sd nd:Addr}{E:List (Nat×En)}{N:List (Addr×Addr)}{kvs:List (Key×V)}(h:FS a K H M st sd nd E N kvs) {p:Nat}(hp:p∈E.map (·.1)):∃(i:Nat) (e:En) (n:Addr×Addr),E[i]?=some (p,e)∧N[i]?=some n∧(E.map (·.1))[i]?=some p:=by
 obtain⟨⟨_,e⟩,he,rfl⟩:=List.mem_map.mp hp
 obtain⟨i,hi⟩:=List.mem_iff_getElem?.mp he
 have Ak:=(List.getElem?_eq_some_iff.mp hi).1
 exact⟨i,e,N[i]'(by rw [←h.len]; exact Ak),hi,List.getElem?_eq_getElem _,by rw [List.getElem?_map,hi]; rfl⟩
noncomputable def FS.own (M:MA) (sd nd:Addr) (b:Addr):Prop:=M.own b∨b=sd∨b=nd
theorem FS.same {H H':Hp}{M:MA}{st sd nd:Addr}{E:List (Nat×En)}{N:List (Addr×Addr)}{kvs:List (Key×V)}(h:FS a K H M st sd nd E N kvs) (k:au H H'):FS a K H' M st sd nd E N kvs:=
 ⟨k _ _ h.tup,h.tm.same k,k _ _ h.sh,k _ _ h.na,h.nm,h.len,fun i p n hp hn=>by
  obtain⟨h1,fx,h2,h3,h4⟩:=h.row i p n hp hn
  exact⟨k _ _ h1,fx,k _ _ h2,h3.same k,h4⟩,h.cls,h.DJ,h.uk,h.kh,h.Qx,h.Cu⟩
theorem FS.mu {H:Hp}{M:MA}{st sd nd:Addr}{E:List (Nat×En)}{N:List (Addr×Addr)}{kvs:List (Key×V)}(h:FS a K H M st sd nd E N kvs):∀b,FS.own M sd nd b→Mu H b:=fun b hb=>by
 rcases hb with hb | rfl | rfl
 ·exact h.tm.mu b hb
 ·exact .inr ⟨_,h.sh⟩
 ·exact .inr ⟨_,h.na⟩
theorem FS.rows {H H':Hp}{M:MA}{st sd nd:Addr}{E:List (Nat×En)}{N:List (Addr×Addr)}{kvs:List (Key×V)}(h:FS a K H M st sd nd E N kvs) (k:Kp (FS.own M sd nd) H H'):H' st=some (.tup [.ref sd,.ref nd,.ref M.p])∧∀(i:Nat) p n,E[i]?=some p→N[i]?=some n→H' n.1=some (.tup [.str p.2.t.sort,.ref n.2])∧∃fx,H' n.2=some (.lst fx)∧iZ K H' fx p.2.t.fs∧fx.length≤4:=by
 have nt:∀b xs,H b=some (.tup xs)→¬FS.own M sd nd b:=fun b xs e z=>(h.mu b z).vc (.inl e)
 refine⟨k _ _ (nt _ _ h.tup) h.tup,fun i p n hp hn=>?_⟩
 obtain⟨h1,fx,h2,h3,h4⟩:=h.row i p n hp hn
 refine⟨k _ _ (nt _ _ h1) h1,fx,k _ _ (fun z=>?_) h2,h3.kp k h.mu,h4⟩
 rcases z with z | z | z
 ·exact(h.Cu n (List.mem_of_getElem? hn)).1 z
 ·rw [z,h.sh] at h2
  cases h2
 ·rw [z,h.na] at h2
  cases h2
theorem TM.dict {H H':Hp}{M:MA}{E:List (Nat×En)}(h:TM a K H M E) {r:Addr}{kvs:List (Key×V)}(k:Kp (·=r) H H') (hr:H r=some (.dK kvs)) (no:¬M.own r):TM a K H' M E:=
 h.off k (fun b e=>.inr ⟨kvs,by rw [e]; exact hr⟩) (fun z=>by
  have:=h.lb
  rw [show M.lb=r from z,hr] at this
  cases this) fun b hb z=>no (z▸hb)
theorem FS.names {H:Hp}{M:MA}{st sd nd:Addr}{E:List (Nat×En)}{N:List (Addr×Addr)}{kvs dB:List (Key×V)}(h:FS a K H M st sd nd E N kvs) (hn:uj dB (E.map (·.1))):FS a K (upd H nd (.dK dB)) M st sd nd E N dB:=by
 have k:Kp (·=nd) H (upd H nd (.dK dB)):=(Kp.refl _ _).set rfl
 obtain⟨h1,h2⟩:=h.rows (k.mono fun b z=>.inr (.inr z))
 exact⟨h1,h.tm.dict k h.na h.kh,k _ _ h.DJ h.sh,ae,hn,h.len,h2,h.cls,h.DJ,h.uk,h.kh,h.Qx,h.Cu⟩
theorem sX {kvs:List (Key×V)}{s k:Key}{u:V}(h:aM (fj kvs s) k=some u):aM kvs k=some u:=by
 unfold aM fj at h
 cases e:(kvs.filter fun p=>decide (p.1≠s)).find? fun p=>decide (p.1=k)with
 | none=>rw [e] at h; cases h
 | some y=>
  rw [e] at h
  have YM:=List.find?_some e
  have hp:y.1=k:=of_decide_eq_true YM
  have hks:k≠s:=by
   have:=(List.mem_filter.mp (List.mem_of_find?_eq_some e)).2
   rw [hp] at this
   exact of_decide_eq_true this
  unfold aM
  rw [List.find?_filter] at e
  have e2:(kvs.find? fun p=>decide (p.1=k))=some y:=by
   rw [←e]
   congr 1
   funext p
   by_cases z:p.1=k
   ·simp [z,hks]
   ·simp [z]
  rw [e2]
  exact h
noncomputable def AS (a:da) (K:PySem.W.Frag):Sp:=fun vs H Q _=>∃M st sd nd E N kvs,∃s:Int,∃x v,vs=[.ref st,.int s,x]∧FS a K H M st sd nd E N kvs∧0≤s∧s < 5∧cI K H x v∧(∀z,v=Vl.th z→∃q:Nat,z=(q:Int)∧q∈E.map (·.1)) ∧
 ∀H' dB,Kp (·=nd) H H'→FS a K H' M st sd nd E N dB→(∀k u,aM dB k=some u→aM kvs k=some u∨∃z,v=Vl.th z∧u=.int z)→(∀z,v=Vl.th z→aM dB (Sum.inl s)=some (.int z))→Q .aP H'
theorem Wl (T:Txt K mg a):aN P w K mg base cx 1 a.yv a.yw ["_law_state","_law_slot","_law_value"] (AS a K):=by
 refine T.oM.ok UH (fun vs H Q E h=>?_) (fun bI A outer s H vs Q E hr h=>?_)
 ·obtain⟨_,_,_,_,_,_,_,_,_,_,rfl,_⟩:=h
  rfl
 ·obtain⟨M,st,sd,nd,E,N,kvs,s,x,v,rfl,h,h0,h5,hx,kg,q⟩:=h
  refine⟨_,(aj (aQ (vI (aC aB (pv 0) ak (fun _ _=>rfl)) (pv 1) cM ⟨rfl,rfl,rfl,rfl⟩)) (af (bF (aA cA (aC aB (pv 2) ak (fun _ _=>rfl)) aX (aE _)) (af (fk (bO hr) (aC aB (pv 0) ak (fun _ _=>rfl)) (pv 1) (aC aB (pv 2) ak (fun _ _=>rfl)) rfl)) aT))),?_⟩
  dsimp! []
  have rest:∀H1 Js,Kp (·=nd) H H1→FS a K H1 M st sd nd E N Js→(∀k u,aM Js k=some u→aM kvs k=some u)→EN K x (V.int 0) H1 fun x_3 H1=>vi x_3 (V.str "thing")=true∧if decide (x_3=V.str "thing")=true then EN K x (V.int 1) H1 fun v H1=>EN K (V.ref st) (V.int 1) H1 fun x H2=>∃a,x=V.ref a∧∃x,lC H2 a (V.int s) v x∧Q V.aP x else Q V.aP H1:=fun H1 Js k1 h1 XZ=>by
   obtain⟨t,rfl,ht⟩:=hx.kp k1 fun b e=>.inr ⟨kvs,by rw [e]; exact h.na⟩
   refine⟨t,_,_,_,rfl,rfl,ht,v.hd,rfl,?_⟩
   cases v with
   | no=>exact cX (q H1 Js k1 h1 (fun k u hu=>.inl (XZ k u hu)) fun z e=>by cases e)
   | num m=>exact cX (q H1 Js k1 h1 (fun k u hu=>.inl (XZ k u hu)) fun z e=>by cases e)
   | th z=>
    obtain⟨p,rfl,hp⟩:=kg z rfl
    refine fB ⟨t,_,_,V.int (p:Int),rfl,rfl,ht,rfl,st,_,_,_,rfl,rfl,bU.of h1.tup,rfl,nd,rfl,_,lC.k (k:=Sum.inl s) h1.na (bb (by have:=h1.nm.len; omega)),?_⟩
    refine q _ _ (k1.set rfl) (h1.names (h1.nm.put h0 h5 hp)) (fun k u hu=>?_) fun z ez=>?_
    ·rw [j6] at hu
     split at hu
     ·exact .inr ⟨_,rfl,(Option.some.inj hu).symm⟩
     ·exact .inl (XZ k u hu)
    ·rw [j6,if_pos rfl]
     cases ez
     rfl
  refine⟨st,_,_,_,rfl,rfl,bU.of h.tup,rfl,nd,rfl,.inl ⟨_,.inl h.na⟩,_,h.na,Sum.inl s,rfl,fun v hv=>?_,fun hv=>rest H kvs (Kp.refl _ _) h fun k u hu=>hu⟩
  exact rest _ _ ((Kp.refl _ _).set rfl) (h.names (h.nm.drop s)) fun k u hu=>sX hu
noncomputable def AU (a:da) (K:PySem.W.Frag):Sp:=fun vs H Q _=>∃M st sd nd E N kvs,∃s:Int,∃p d t ta fl fx mk,vs=[.ref st,.ref p,.ref ta,.int s,.bl mk]∧FS a K H M st sd nd E N kvs∧0≤s∧s < 5∧E.length≤100∧fG a K H p d t∧H ta=some (.tup [.str t.sort,.ref fl])∧H fl=some (.lst fx)∧iZ K H fx t.fs∧fx.length≤4∧(∀n∈N,n.2≠fl)∧¬M.own fl∧M.lb≠fl∧(∀z,Vl.th z∈t.fs→∃q:Nat,z=(q:Int)∧q∈E.map (·.1)) ∧
 (∀H',au H H'→Q .aP H')∧∀(H':Hp) (g:Nat) (dq:Int),g∉E.map (·.1)→Kp (FS.own M sd nd) H H'→FS a K H' M st sd nd (E++[(g,⟨t,dq,mk⟩)]) (N++[(ta,fl)]) (putK kvs (Sum.inl s) (.int (g:Nat)))→Q .aP H'
theorem AV (T:Txt K mg a):aN P w K mg base cx 6 a.yx a.yy ["_law_state","_law_thing","_law_shape","_law_slot","_law_marked"] (AU a K):=by
 refine T.ka.ok Hf (fun vs H Q E h=>?_) (fun bI A outer s H vs Q E hr h=>?_)
 ·obtain⟨_,_,_,_,_,_,_,_,_,_,_,_,_,_,_,rfl,_⟩:=h
  rfl
 ·obtain⟨M,st,sd,nd,E,N,kvs,s,p,d,t,ta,fl,fx,mk,rfl,h,h0,h5,hE,hT,K9,El,zS,p8,nfl,ofl,lfl,tS,q1,q2⟩:=h
  refine⟨_,(aj (aR (i:=5) Hf.nd rfl (Or.inl rfl) (aI (aC aB (pv 0) ak (fun _ _=>rfl)) T.ax T.Iq (VF T) (hr.mono (by decide)) T.PZ .nil ar (aa (pv 1) (aa (bt d8 ak (bJ fU rfl T.eC dW (aa (aC aB (pv 0) ak (fun _ _=>rfl)) ag))) (aa (pv 4) ag))))) (af (bF (aA fh (pv 5) cM (aE _)) (aj (fk (bO hr) (aC aB (pv 0) ak (fun _ _=>rfl)) (pv 5) (pv 2) rfl) (af (fk (bO hr) (aC aB (pv 0) ak (fun _ _=>rfl)) (pv 3) (pv 5) rfl))) aT))),?_⟩
  dsimp! []
  obtain⟨dxM,hM⟩:=h.tm.ob
  obtain⟨xs,R,hR,eR⟩:=id h.tm
  have hRl:R.length=E.length:=by rw [←eR,List.length_map]
  have hfs:t.fs.length≤4:=by rw [zS.1]; exact p8
  have ZU:(E.map (·.1)).length=N.length:=by rw [List.length_map]; exact h.len
  have ZV:=h.nm.len
  refine⟨st,_,_,_,rfl,rfl,bU.of h.tup,rfl,M.p,rfl,_,_,hM,bT,st,_,_,_,rfl,rfl,bU.of h.tup,rfl,sd,rfl,_,h.sh,M,xs,_,p,d,t,_,mk,rfl,hR.mem,hT,by omega,by rw [List.length_map]; omega,?_⟩
  generalize (1+((gG (E.map (·.1)) N).length:Int))=dq
  constructor
  ·intro g cs H7 hg k7 hM7 hc7
   have hT7:=hR.more k7 hM7 hc7
   rw [eR] at hT7
   have nt:∀b ys,H b=some (.tup ys)→¬FS.own M sd nd b:=fun b ys e z=>(h.mu b z).vc (.inl e)
   have k7':Kp (FS.own M sd nd) H H7:=k7.mono fun b z=>.inl z
   obtain⟨ZW,_⟩:=h.rows k7'
   have ZX:=k7 _ _ h.uk h.sh
   have aeR:=k7 _ _ h.kh h.na
   have hng:g∉E.map (·.1):=fun z=>by
    have Al:0 < t.size:=by
     rw [←hc7.len]
     exact hc7.pos
    rw [←eR,List.map_map] at z
    obtain⟨r,f9,e⟩:=List.mem_map.mp z
    exact hR.V4 hg.1 Al r f9 e
   dsimp! []
   have nts:st≠sd:=cL h.tup h.sh (by intro z; cases z)
   have Wm:upd H7 sd (.dK (putK (gG (E.map (·.1)) N) (Sum.inl (g:Int)) (.ref ta))) st=some (.tup [.ref sd,.ref nd,.ref M.p]):=by
    rw [ah nts]
    exact ZW
   have Mo:upd H7 sd (.dK (putK (gG (E.map (·.1)) N) (Sum.inl (g:Int)) (.ref ta))) nd=some (.dK kvs):=by
    rw [ah h.DJ.symm]
    exact aeR
   refine⟨st,_,_,_,rfl,rfl,bU.of ZW,rfl,sd,rfl,_,lC.k (k:=Sum.inl (g:Int)) ZX (bb (by rw [Ct ZU,List.length_map]; omega)),st,_,_,_,rfl,rfl,bU.of Wm,rfl,nd,rfl,_,lC.k (k:=Sum.inl s) Mo (bb (by omega)),?_⟩
   rw [hV _ (Wk hng),←Jr ZU g (ta,fl)] at Wm Mo ⊢
   have k8:Kp (·=sd) H7 (upd H7 sd (.dK (gG (E.map (·.1)++[g]) (N++[(ta,fl)])))):=(Kp.refl _ _).set rfl
   have hT8:=hT7.dict k8 ZX h.uk
   have ZY:upd H7 sd (.dK (gG (E.map (·.1)++[g]) (N++[(ta,fl)]))) sd=some (.dK (gG (E.map (·.1)++[g]) (N++[(ta,fl)]))):=ae
   generalize upd H7 sd (.dK (gG (E.map (·.1)++[g]) (N++[(ta,fl)])))=H8 at k8 hT8 ZY Wm Mo
   have k9:Kp (·=nd) H8 (upd H8 nd (.dK (putK kvs (Sum.inl s) (.int (g:Nat))))):=(Kp.refl _ _).set rfl
   have hT9:=hT8.dict k9 Mo h.kh
   have ZZ:upd H8 nd (.dK (putK kvs (Sum.inl s) (.int (g:Nat)))) nd=some (.dK (putK kvs (Sum.inl s) (.int (g:Nat)))):=ae
   generalize upd H8 nd (.dK (putK kvs (Sum.inl s) (.int (g:Nat))))=H9 at k9 hT9 ZZ
   have Z0:Kp (FS.own M sd nd) H H9:=(k7'.trans (k8.mono fun b z=>.inr (.inl z))).trans (k9.mono fun b z=>.inr (.inr z))
   obtain⟨aeS,Z1⟩:=h.rows Z0
   have Wn:(E++[(g,(⟨t,dq,mk⟩:En))]).map (·.1)=E.map (·.1)++[g]:=by
    rw [List.map_append]
    rfl
   refine q2 H9 g dq hng Z0 ⟨aeS,hT9,by rw [Wn]; exact k9 _ _ h.DJ ZY,ZZ,?_,by rw [List.length_append,List.length_append,h.len]; rfl,fun i p' n hp hn=>?_,fun p' hp z hz=>?_,h.DJ,h.uk,h.kh,?_,fun n hn=>?_⟩
   ·rw [Wn]
    exact(h.nm.more fun p hp=>List.mem_append_left _ hp).put h0 h5 (List.mem_append_right _ (List.mem_singleton.mpr rfl))
   ·by_cases hi:i < E.length
    ·rw [List.getElem?_append_left hi] at hp
     rw [List.getElem?_append_left (by rw [←h.len]; exact hi)] at hn
     exact Z1 i p' n hp hn
    ·have ei:i=E.length:=by
      have:=(List.getElem?_eq_some_iff.mp hp).1
      rw [List.length_append,List.length_singleton] at this
      omega
     subst ei
     rw [List.getElem?_append_right (Nat.le_refl _),Nat.sub_self] at hp
     rw [h.len,List.getElem?_append_right (Nat.le_refl _),Nat.sub_self] at hn
     cases hp
     cases hn
     refine⟨Z0 _ _ (nt _ _ K9) K9,fx,Z0 _ _ (fun z=>?_) El,zS.kp Z0 h.mu,p8⟩
     rcases z with z | z | z
     ·exact ofl z
     ·rw [show fl=sd from z,h.sh] at El
      cases El
     ·rw [show fl=nd from z,h.na] at El
      cases El
   ·rw [Wn]
    rcases List.mem_append.mp hp with hp | hp
    ·obtain⟨q,e1,e2⟩:=h.cls p' hp z hz
     exact⟨q,e1,List.mem_append_left _ e2⟩
    ·rw [List.mem_singleton.mp hp] at hz
     obtain⟨q,e1,e2⟩:=tS z hz
     exact⟨q,e1,List.mem_append_left _ e2⟩
   ·rw [List.map_append]
    refine gg h.Qx fun z=>?_
    obtain⟨n,hn,e⟩:=List.mem_map.mp z
    exact nfl n hn e
   ·rcases List.mem_append.mp hn with hn | hn
    ·exact h.Cu n hn
    ·rw [List.mem_singleton.mp hn]
     exact⟨ofl,lfl⟩
  ·intro H7 hg s7
   dsimp! []
   exact q1 H7 s7
noncomputable def PB (rs zs:List Int):Prop:=rs.length=zs.length∧∀(i:Nat) r z,rs[i]?=some r→zs[i]?=some z→0≤r∧r < z
theorem PB.snoc {rs zs:List Int}{r z:Int}(h:PB rs zs) (h0:0≤r) (h1:r < z):PB (rs++[r]) (zs++[z]):=⟨by simp [h.1],fun i x y a b=>by
 by_cases hi:i < rs.length
 ·rw [List.getElem?_append_left hi] at a
  rw [List.getElem?_append_left (by rw [←h.1]; exact hi)] at b
  exact h.2 i x y a b
 ·have e:i=rs.length:=by
   have:=(List.getElem?_eq_some_iff.mp a).1
   rw [List.length_append,List.length_singleton] at this
   omega
  subst e
  rw [List.getElem?_append_right (Nat.le_refl _),Nat.sub_self] at a
  rw [h.1,List.getElem?_append_right (Nat.le_refl _),Nat.sub_self] at b
  cases a
  cases b
  exact⟨h0,h1⟩⟩
noncomputable def AW:List Int:=[12,5,5,5,4]
noncomputable def Wo (K:PySem.W.Frag):Sp:=fun vs H Q _=>∃c p,vs=[.int c,.ref p]∧H p=some (.lst (AW.map V.int))∧∀rs q,PB rs AW→H q=none→Q (.ref q) (upd H q (.lst (rs.map V.int)))
theorem Wq (T:Txt K mg a):aN P w K mg base cx 1 a.yq a.yr ["_law_cell","_law_sizes"] (Wo K):=by
 refine T.oJ.ok oa (fun vs H Q E h=>?_) (fun bI A outer s H vs Q E hr h=>?_)
 ·obtain⟨_,_,rfl,_⟩:=h
  rfl
 ·obtain⟨c,p,rfl,hp,q⟩:=h
  refine⟨_,(aj (aR (i:=2) oa.nd rfl (Or.inl rfl) (cE ag)) (aj (aR (i:=3) oa.nd rfl (Or.inl rfl) (bJ vj rfl T.yS EW (aa (pv 0) ag))) (aj (b_ PassesOwn.never rfl (dn (pv 1)) (aJ (i:=4) oa.nd rfl (Or.inl rfl)) az) az))),?_⟩
  dsimp! []
  refine fun l hl=>?_
  have nU:p≠l:=aq hp hl
  refine⟨⟨_,bc.of (by rw [ah nU]; exact hp)⟩,d0 (AW.map V.int) (fun i σ H2=>∃(n:Int) (o4:Option V) (rs:List Int),σ=[some (.int c),some (.ref p),some (.ref l),some (.int n),o4]∧0≤n∧H2=upd H l (.lst (rs.map V.int))∧PB rs (AW.take i)) ⟨_,none,[],rfl,by split <;> omega,rfl,rfl,fun i r z h=>by simp at h⟩ ?_ ?_ ?_⟩
  ·rintro i σ H2 _ ⟨n,o4,rs,rfl,_,rfl,_⟩
   exact bc.of (by rw [ah nU]; exact hp)
  ·rintro i x σ H2 hx ⟨n,o4,rs,rfl,hn,rfl,hb⟩
   obtain⟨z,hz,rfl⟩:∃z,AW[i]?=some z∧x=V.int z:=by
    rw [List.getElem?_map] at hx
    cases e:AW[i]? with
    | none=>rw [e] at hx; cases hx
    | some z=>rw [e] at hx; cases hx; exact⟨z,rfl,rfl⟩
   have hzz:z=12∨z=5∨z=4:=by
    have:=List.mem_of_getElem? hz
    simp only [AW,List.mem_cons,List.not_mem_nil,or_false] at this
    omega
   have hi5:i < 5:=(List.getElem?_eq_some_iff.mp hz).1
   have hrl:rs.length≤5:=by
    rw [hb.1,List.length_take]
    omega
   have hzp:0 < z:=by omega
   refine gN ?_
   refine bA.of (aj (aQ (ER PySem.F.plainAttrs_list PySem.F.slot_list_append PySem.F.type_list_append rk (pv 2) (aa (bt lu (pv 3) (pv 4)) ag))) (af (aR (i:=3) oa.nd rfl (Or.inl rfl) (bt g6 (pv 3) (pv 4))))) ?_
   dsimp! []
   refine⟨.inl ⟨rfl,_,bc.of ae⟩,hzp,l,_,_,rfl,rfl,ae,bb (by rw [List.length_map]; omega),.small hzp (by omega),Int.ediv_nonneg hn (by omega),rs++[n % z],?_,?_⟩
   ·rw [ny,List.map_append]
    rfl
   ·rw [List.take_add_one,hz]
    exact hb.snoc (Int.emod_nonneg _ (by omega)) (Int.emod_lt_of_pos _ hzp)
  ·rintro σ H2 ⟨n,o4,rs,rfl,_,rfl,hb⟩
   refine bA.of (af (aw (pv 2))) ?_
   dsimp! []
   exact q rs l hb hl
noncomputable def Wr:Sp:=fun vs H Q _=>∃c f,vs=[.int c,.bl f]∧∀z,Q (.int z) H
theorem Ws (T:Txt K mg a):aN P w K mg base cx 1 a.yt a.yu ["_law_cell","_law_free"] Wr:=by
 refine T.oK.ok He (fun vs H Q E h=>?_) (fun bI A outer s H vs Q E hr h=>?_)
 ·obtain⟨_,_,rfl,_⟩:=h
  rfl
 ·obtain⟨c,f,rfl,q⟩:=h
  refine⟨_,(aj (bF (dH (pv 1)) (af (aw (pv 0))) aT) (aj (aR (i:=2) He.nd rfl (Or.inl rfl) (bt lu (bt d8 (bt tE (pv 0) ak) ak) ak)) (af (aw (bt g6 (bt lu (bt tE (pv 2) ak) ak) ak))))),?_⟩
  dsimp! []
  refine cQ (fun _=>q c) fun _=>?_
  exact⟨.inr ⟨by decide,by decide⟩,by decide,.inr ⟨by decide,by decide⟩,by decide,.small (by decide) (by decide),q _⟩
structure kj (K:PySem.W.Frag) (H:Hp) (l:Addr) (way one two three at_:Int):Prop where
 sq:bc K H l [.int way,.int one,.int two,.int three,.int at_]
 w:0≤way∧way < 12
 o:0≤one∧one < 5
 t:0≤two∧two < 5
 th:0≤three∧three < 5
 a_:0≤at_∧at_ < 4
noncomputable def Jt (a:da) (K:PySem.W.Frag):Sp:=fun vs H Q _=>∃M st sd nd E N kvs l,∃way one two three at_:Int,∃mk,vs=[.ref st,.ref l,.bl mk]∧FS a K H M st sd nd E N kvs∧kj K H l way one two three at_∧E.length≤90 ∧
 (∀H',au H H'→Q .aP H')∧∀(H':Hp) (g:Nat) (t:Tg) (dq:Int) (n:Addr×Addr),g∉E.map (·.1)→t.hold=[]→H n.2=none→Kp (FS.own M sd nd) H H'→FS a K H' M st sd nd (E++[(g,⟨t,dq,mk⟩)]) (N++[n]) (putK kvs (Sum.inl one) (.int (g:Nat)))→Q .aP H'
theorem Wt (T:Txt K mg a):aN P w K mg base cx 9 a.yz a.yA ["_law_state","_law_parts","_law_marked"] (Jt a K):=by
 refine T.oN.ok eT (fun vs H Q E h=>?_) (fun bI A outer s H vs Q E hr h=>?_)
 ·obtain⟨_,_,_,_,_,_,_,_,_,_,_,_,_,_,rfl,_⟩:=h
  rfl
 ·obtain⟨M,st,sd,nd,E,N,kvs,l,way,one,two,three,at_,mk,rfl,h,hp,hE,q1,q2⟩:=h
  refine⟨_,(aj (gY (pv 1) (tR (n:=5) rfl (aZ (aJ (i:=3) eT.nd rfl (Or.inl rfl)) (aZ (aJ (i:=4) eT.nd rfl (Or.inl rfl)) (aZ (aJ (i:=5) eT.nd rfl (Or.inl rfl)) (aZ (aJ (i:=6) eT.nd rfl (Or.inl rfl)) (aZ (aJ (i:=7) eT.nd rfl (Or.inl rfl)) gb))))))) (aj (aR (i:=8) eT.nd rfl (Or.inl rfl) (dA (aa aX ag))) (af (bF (aA cA (pv 3) ak (aE _)) (af (aQ (aH (AV T) (hr.mono (by decide)) rfl T.Cn T.ka.kp T.Cm .nil ar (aa (pv 0) (aa (aH (IU T) (hr.mono (by decide)) rfl T.HI T.me.kp T.HH .nil ar (aa (bt tP (cE (aa (pv 8) ag)) (pv 7)) (aa cM ag))) (aa (dA (aa aX (aa (bt tP (cE (aa (pv 8) ag)) (pv 7)) ag))) (aa (pv 4) (aa (pv 2) ag)))))))) (af (bF (PW.pt (dI (aA cA (pv 3) ak (aE _)) (eD (jt (hZ (bO hr) (pv 5) (aC aB (pv 0) ak (fun _ _=>rfl))))))) (aj (aR (i:=9) eT.nd rfl (Or.inl rfl) (dA (aa aX (aa (cJ (bO hr) (aC aB (pv 0) ak (fun _ _=>rfl)) (pv 5) (fun _ _=>rfl)) ag)))) (aj (aR (i:=10) eT.nd rfl (Or.inl rfl) (pv 8)) (aj (bF (jt (hZ (bO hr) (pv 6) (aC aB (pv 0) ak (fun _ _=>rfl)))) (af (aR (i:=10) eT.nd rfl (Or.inl rfl) (dA (aa aX (aa (cJ (bO hr) (aC aB (pv 0) ak (fun _ _=>rfl)) (pv 6) (fun _ _=>rfl)) ag))))) aT) (af (aQ (aH (AV T) (hr.mono (by decide)) rfl T.Cn T.ka.kp T.Cm .nil ar (aa (pv 0) (aa (aH (IY T) (hr.mono (by decide)) rfl T.HM T.mh.kp T.HL .nil ar (aa (pv 9) (aa (pv 10) ag))) (aa (dA (aa aX (aa (cE (aa (pv 9) (aa (pv 10) ag))) ag))) (aa (pv 4) (aa (pv 2) ag))))))))))) (af (bF (PW.pt (dI (aA cA (pv 3) ak (aE _)) (eD (jt (hZ (bO hr) (pv 5) (aC aB (pv 0) ak (fun _ _=>rfl))))))) (aj (aR (i:=10) eT.nd rfl (Or.inl rfl) (dA (aa aX (aa (cJ (bO hr) (aC aB (pv 0) ak (fun _ _=>rfl)) (pv 5) (fun _ _=>rfl)) ag)))) (af (aQ (aH (AV T) (hr.mono (by decide)) rfl T.Cn T.ka.kp T.Cm .nil ar (aa (pv 0) (aa (aH (IV T) (hr.mono (by decide)) rfl T.HK T.mf.kp T.HJ .nil ar (aa (pv 10) ag)) (aa (dA (aa aX (aa (cE (aa (pv 10) ag)) ag))) (aa (pv 4) (aa (pv 2) ag))))))))) aT)))))))),?_⟩
  dsimp! []
  refine⟨_,hp.sq,rfl,_,_,rfl,_,_,rfl,_,_,rfl,_,_,rfl,_,_,rfl,rfl,by simp [sizeLine_eq],fun tn htn=>?_⟩
  have s1:=au.put (o:=.tup [V.str "nothing"]) htn
  have h1:=h.same s1
  have Wu:upd H tn (.tup [V.str "nothing"]) tn=some (.tup [V.str "nothing"]):=ae
  generalize upd H tn (.tup [V.str "nothing"])=H1 at s1 h1 Wu
  have fin:∀(G:Hp) (p d ta fl:Addr) (t:Tg) (fx:List V),au H1 G→fG a K G p d t→G ta=some (.tup [.str t.sort,.ref fl])→G fl=some (.lst fx)→iZ K G fx t.fs→fx.length≤4→H1 fl=none→t.hold=[]→(∀z,Vl.th z∈t.fs→∃q:Nat,z=(q:Int)∧q∈E.map (·.1))→AU a K [.ref st,.ref p,.ref ta,.int one,.bl mk] G (fun x H'=>Q .aP H') E0:=fun G p d ta fl t fx sG hT K9 El zS hl hf0 hhd tS=>by
   have hG:=h1.same sG
   refine⟨M,st,sd,nd,E,N,kvs,one,p,d,t,ta,fl,fx,mk,rfl,hG,hp.o.1,hp.o.2,by omega,hT,K9,El,zS,hl,fun n hn e=>?_,h1.tm.gH hf0,fun z=>?_,tS,fun H' s'=>q1 H' (s1.trans (sG.trans s')),fun H' g dq hg' k' h'=>q2 H' g t dq (ta,fl) hg' hhd (s1.free hf0) ((au.kp (s1.trans sG)).trans k') h'⟩
   ·obtain⟨i,hi⟩:=List.mem_iff_getElem?.mp hn
    have Ak:=(List.getElem?_eq_some_iff.mp hi).1
    obtain⟨_,fy,hy,_⟩:=h1.row i _ n (List.getElem?_eq_getElem (by rw [h1.len]; exact Ak)) hi
    rw [e,hf0] at hy
    cases hy
   ·have:=h1.tm.lb
    rw [z,hf0] at this
    cases this
  have name:∀(z:Int) (v:V),aM kvs (Sum.inl z)=some v→∃q:Nat,v=.int (q:Int)∧q∈E.map (·.1):=fun z v e=>h1.nm.get e
  refine⟨rfl,cQ (fun _=>?_) fun _=>⟨rfl,cQ (fun _=>?_) fun _=>⟨rfl,cQ (fun _=>?_) fun _=>?_⟩⟩⟩
  ·refine⟨by simp [sizeLine_eq],fun p1 Wv=>?_⟩
   have ha:=hp.a_
   obtain⟨an,ea,han⟩:∃an:Nat,at_=(an:Int)∧an < 4:=⟨at_.toNat,by omega,by omega⟩
   subst ea
   have t1:=au.put (o:=.lst [V.ref tn]) Wv
   refine⟨p1,_,_,rfl,rfl,ae,by omega,by omega,by rw [Int.toNat_natCast,List.length_singleton,Nat.one_mul]; exact Nat.le_of_lt (bb (by omega)),fun f1 hf1=>?_⟩
   have Cv:∀(x:V) (n:Nat),(List.replicate n [x]).flatten=List.replicate n x:=fun x n=>by
    induction n with
    | zero=>rfl
    | succ n ih=>rw [List.replicate_succ,List.flatten_cons,ih]; rfl
   have uk:∀(G:Hp),au H1 G→iZ K G (List.replicate an (V.ref tn)) (List.replicate an Vl.no):=fun G sG=>⟨by rw [List.length_replicate,List.length_replicate],fun i x v hx hv=>by
    rw [List.eq_of_mem_replicate (List.mem_of_getElem? hx),List.eq_of_mem_replicate (List.mem_of_getElem? hv)]
    exact⟨tn,rfl,bU.of (sG _ _ Wu)⟩⟩
   rw [Int.toNat_natCast,Cv]
   have t2:=t1.trans (au.put (o:=.lst (List.replicate an (V.ref tn))) hf1)
   have Z2:upd (upd H1 p1 (.lst [V.ref tn])) f1 (.lst (List.replicate an (V.ref tn))) f1=some (.lst (List.replicate an (V.ref tn))):=ae
   generalize upd (upd H1 p1 (.lst [V.ref tn])) f1 (.lst (List.replicate an (V.ref tn)))=H2 at t2 Z2
   refine⟨f1,_,List.replicate an Vl.no,none,rfl,bc.of Z2,uk H2 t2,by rw [List.length_replicate]; omega,fun pp dd H3 s3 hpp hdd K_=>⟨by simp [sizeLine_eq],fun p2 tV=>?_⟩⟩
   have s4:=au.put (o:=.lst [V.ref tn]) tV
   refine⟨p2,_,_,rfl,rfl,ae,by omega,by omega,by rw [Int.toNat_natCast,List.length_singleton,Nat.one_mul]; exact Nat.le_of_lt (bb (by omega)),fun f2 ZJ=>?_⟩
   rw [Int.toNat_natCast,Cv]
   have s5:=s4.trans (au.put (o:=.lst (List.replicate an (V.ref tn))) ZJ)
   have Z3:upd (upd H3 p2 (.lst [V.ref tn])) f2 (.lst (List.replicate an (V.ref tn))) f2=some (.lst (List.replicate an (V.ref tn))):=ae
   have aeT:H1 f2=none:=(t2.trans (s3.trans s4)).free ZJ
   generalize upd (upd H3 p2 (.lst [V.ref tn])) f2 (.lst (List.replicate an (V.ref tn)))=H5 at s5 Z3
   refine⟨by simp [sizeLine_eq],fun ta K9=>?_⟩
   have s6:=au.put (o:=.tup [V.str "plain",V.ref f2]) K9
   have s16:=t2.trans (s3.trans (s5.trans s6))
   exact fin _ pp dd ta f2 (.plain (List.replicate an .no) none) (List.replicate an (V.ref tn)) s16 (K_.same (s5.trans s6)) ae (s6 _ _ Z3) (uk _ s16) (by rw [List.length_replicate]; omega) aeT (List.filterMap_eq_nil_iff.mpr fun v hv=>by rw [List.eq_of_mem_replicate hv]; rfl) fun z hz=>by
    have:=List.eq_of_mem_replicate (show Vl.th z∈List.replicate an Vl.no from hz)
    cases this
  ·rename_i _ hw
   have hw1:way=1:=V.int.inj (of_decide_eq_true hw)
   have tail:∀(G:Hp) (kp vp:Addr) (u v:Vl),au H1 G→cI K G (.ref kp) u→cI K G (.ref vp) v→(∀z,u=Vl.th z→∃q:Nat,z=(q:Int)∧q∈E.map (·.1))→(∀z,v=Vl.th z→∃q:Nat,z=(q:Int)∧q∈E.map (·.1))→IW a K [.ref kp,.ref vp] G (fun x H1=>2≤sizeLine∧∀(p_1:Addr),H1 p_1=none→2≤sizeLine∧∀(p_2:Addr),upd H1 p_1 (HO.lst [V.ref kp,V.ref vp]) p_2=none→AU a K [V.ref st,x,V.ref p_2,V.int one,V.bl mk] (upd (upd H1 p_1 (HO.lst [V.ref kp,V.ref vp])) p_2 (HO.tup [V.str "pair",V.ref p_1])) (fun x H1=>Q V.aP H1) E0) E0:=fun G kp vp u v sG hu hv cu cv=>by
    refine⟨_,_,u,v,rfl,hu,hv,fun p d H3 s3 K5 hd3 K_=>⟨by simp [sizeLine_eq],fun f hf=>⟨by simp [sizeLine_eq],fun ta K9=>?_⟩⟩⟩
    have s4:=au.put (o:=.lst [V.ref kp,V.ref vp]) hf
    have s5:=au.put (o:=.tup [V.str "pair",V.ref f]) K9
    have Qy:=s4.trans s5
    refine fin _ p d ta f (.pair u v) [.ref kp,.ref vp] (sG.trans (s3.trans Qy)) (K_.same Qy) ae (s5 _ _ ae) (.cons (hu.same (s3.trans Qy)) (.cons (hv.same (s3.trans Qy)) (.nil _ _))) (by simp) ((sG.trans s3).free hf) rfl fun z hz=>?_
    rcases List.mem_cons.mp hz with hz | hz
    ·exact cu z hz.symm
    ·exact cv z (List.mem_singleton.mp hz).symm
   refine⟨st,_,_,_,rfl,rfl,bU.of h1.tup,rfl,nd,rfl,_,c8.k (k:=Sum.inl two) h1.na,?_⟩
   cases e2:aM kvs (Sum.inl two)with
   | none=>exact cX ⟨rfl,cQ (fun z=>by rw [hw1] at z; exact absurd (of_decide_eq_true z) (by decide)) fun _=>q1 _ s1⟩
   | some v2=>
    obtain⟨q,rfl,hq⟩:=name _ _ e2
    refine fB ⟨st,_,_,_,rfl,rfl,bU.of h1.tup,rfl,nd,rfl,_,by rw [←e2]; exact c8.k (k:=Sum.inl two) h1.na,by simp [sizeLine_eq],fun kp hkp=>?_⟩
    have s2:=au.put (o:=.tup [V.str "thing",V.int (q:Int)]) hkp
    have h2:=h1.same s2
    have La:upd H1 kp (.tup [V.str "thing",V.int (q:Int)]) kp=some (.tup [V.str "thing",V.int (q:Int)]):=ae
    generalize upd H1 kp (.tup [V.str "thing",V.int (q:Int)])=H2 at s2 h2 La
    have cq:∀z,Vl.th (q:Int)=Vl.th z→∃q:Nat,z=(q:Int)∧q∈E.map (·.1):=fun z e=>⟨q,(Vl.th.inj e).symm,hq⟩
    refine⟨st,_,_,_,rfl,rfl,bU.of h2.tup,rfl,nd,rfl,_,c8.k (k:=Sum.inl three) h2.na,?_⟩
    cases e3:aM kvs (Sum.inl three)with
    | none=>exact cX (tail H2 kp tn (.th (q:Int)) .no s2 ⟨kp,rfl,bU.of La⟩ ⟨tn,rfl,bU.of (s2 _ _ Wu)⟩ cq fun z e=>by cases e)
    | some v3=>
     obtain⟨r,rfl,hr⟩:=name _ _ e3
     refine fB ⟨st,_,_,_,rfl,rfl,bU.of h2.tup,rfl,nd,rfl,_,by rw [←e3]; exact c8.k (k:=Sum.inl three) h2.na,by simp [sizeLine_eq],fun vp hvp=>?_⟩
     have s3:=au.put (o:=.tup [V.str "thing",V.int (r:Int)]) hvp
     exact tail _ kp vp (.th (q:Int)) (.th (r:Int)) (s2.trans s3) ⟨kp,rfl,bU.of (s3 _ _ La)⟩ ⟨vp,rfl,bU.of ae⟩ cq fun z e=>⟨r,(Vl.th.inj e).symm,hr⟩
  ·refine⟨st,_,_,_,rfl,rfl,bU.of h1.tup,rfl,nd,rfl,_,c8.k (k:=Sum.inl two) h1.na,?_⟩
   cases e2:aM kvs (Sum.inl two)with
   | none=>exact cX (q1 _ s1)
   | some v2=>
    obtain⟨q,rfl,hq⟩:=name _ _ e2
    refine fB ⟨st,_,_,_,rfl,rfl,bU.of h1.tup,rfl,nd,rfl,_,by rw [←e2]; exact c8.k (k:=Sum.inl two) h1.na,by simp [sizeLine_eq],fun kp hkp=>?_⟩
    have s2:=au.put (o:=.tup [V.str "thing",V.int (q:Int)]) hkp
    have hu:cI K (upd H1 kp (.tup [V.str "thing",V.int (q:Int)])) (.ref kp) (.th (q:Int)):=⟨kp,rfl,bU.of ae⟩
    refine⟨_,.th (q:Int),rfl,hu,fun p d H3 s3 K5 hd3 K_=>⟨by simp [sizeLine_eq],fun f hf=>⟨by simp [sizeLine_eq],fun ta K9=>?_⟩⟩⟩
    have s4:=au.put (o:=.lst [V.ref kp]) hf
    have s5:=au.put (o:=.tup [V.str "weak",V.ref f]) K9
    have Qy:=s4.trans s5
    refine fin _ p d ta f (.weak (.th (q:Int))) [.ref kp] (s2.trans (s3.trans Qy)) (K_.same Qy) ae (s5 _ _ ae) (.cons (hu.same (s3.trans Qy)) (.nil _ _)) (by simp) ((s2.trans s3).free hf) rfl fun z hz=>?_
    exact⟨q,(Vl.th.inj (List.mem_singleton.mp hz)),hq⟩
  ·exact q1 _ s1
noncomputable def bN (E:List (Nat×En)):List (Nat×Tg×Int):=E.map fun p=>(p.1,p.2.t,p.2.dq)
noncomputable def AX (E:List (Nat×En)):Nat:=(E.filter fun p=>!p.2.cH).length
noncomputable def ms (S:List (Nat×En)×List Nat):Nat:=2*AX S.1+S.2.length
noncomputable def Tg.wt:Tg→Option (Nat×Option Nat)
 | .pair (.th n) v=>some (n.toNat,v.na.map Int.toNat)
 | _=>none
noncomputable def y2 (S:List (Nat×En)×List Nat) (t:Tg):List (Nat×En)×List Nat:=match t.wt with
 | some (kn,some vn)=>if bQ S.1 kn=true then dY S vn else S
 | _=>S
noncomputable def dP (S:List (Nat×En)×List Nat) (q:Nat×Tg):List (Nat×En)×List Nat:=if bQ S.1 q.1=true then y2 S q.2 else S
structure Cl (E:List (Nat×En)) (S:Nat→Prop):Prop where
 hold:∀p e,(p,e)∈E→S p→∀n:Nat,(n:Int)∈e.t.hold→S n
 wait:∀p e,(p,e)∈E→S p→∀kn vn,e.t.wt=some (kn,some vn)→S kn→S vn
theorem cV {E E':List (Nat×En)}(h:bN E'=bN E) {p:Nat}{e:En}(he:(p,e)∈E'):∃e0,(p,e0)∈E∧e0.t=e.t∧e0.dq=e.dq:=by
 have h1:(p,e.t,e.dq)∈bN E:=by
  rw [←h]
  exact List.mem_map.mpr ⟨(p,e),he,rfl⟩
 obtain⟨⟨p2,e2⟩,h2,h3⟩:=List.mem_map.mp h1
 injection h3 with h4 h5
 injection h5 with h6 h7
 have h4:p2=p:=h4
 subst h4
 exact⟨e2,h2,h6,h7⟩
theorem c6 {E E':List (Nat×En)}(h:bN E'=bN E):E'.map (·.1)=E.map (·.1):=by
 have:=congrArg (List.map fun(x:Nat×Tg×Int)=>x.1) h
 unfold bN at this
 rw [List.map_map,List.map_map] at this
 exact this
theorem Cl.bN {E E':List (Nat×En)}(h:bN E'=bN E) {S:Nat→Prop}(c:Cl E S):Cl E' S:=by
 refine⟨fun p e he hp n hn=>?_,fun p e he hp kn vn hw hk=>?_⟩
 ·obtain⟨e0,h0,h1,_⟩:=cV h he
  exact c.hold p e0 h0 hp n (by rw [h1]; exact hn)
 ·obtain⟨e0,h0,h1,_⟩:=cV h he
  exact c.wait p e0 h0 hp kn vn (by rw [h1]; exact hw) hk
structure Rel (E E':List (Nat×En)):Prop where
 st:bN E'=bN E
 up:∀p,bQ E p=true→bQ E' p=true
 lo:∀S:Nat→Prop,Cl E S→(∀p,bQ E p=true→S p)→∀p,bQ E' p=true→S p
theorem Rel.refl (E:List (Nat×En)):Rel E E:=⟨rfl,fun _ h=>h,fun _ _ h=>h⟩
theorem Rel.trans {E E1 E2:List (Nat×En)}(a:Rel E E1) (b:Rel E1 E2):Rel E E2:=⟨b.st.trans a.st,fun p h=>b.up p (a.up p h),fun S c h=>b.lo S (c.bN a.st) (a.lo S c h)⟩
theorem bE {E:List (Nat×En)}{p:Nat}:bQ E p=true↔∃e,(p,e)∈E∧e.cH=true:=by
 unfold bQ
 rw [List.any_eq_true]
 constructor
 ·rintro⟨⟨q,e⟩,hq,z⟩
  rw [Bool.and_eq_true] at z
  have h1:q=p:=of_decide_eq_true z.1
  subst h1
  exact⟨e,hq,z.2⟩
 ·rintro⟨e,he,z⟩
  exact⟨_,he,by rw [decide_eq_true rfl,z]; rfl⟩
theorem nJ {E:List (Nat×En)}{q p:Nat}:bQ (setM E q) p=true↔bQ E p=true∨(p=q∧p∈E.map (·.1)):=by
 rw [bE,bE]
 constructor
 ·rintro⟨e,he,z⟩
  obtain⟨⟨p2,e2⟩,h2,h3⟩:=List.mem_map.mp he
  by_cases c:p2=q
  ·rw [if_pos c] at h3
   injection h3 with h4 h5
   have h4:p2=p:=h4
   exact .inr ⟨h4.symm.trans c,List.mem_map.mpr ⟨_,h2,h4⟩⟩
  ·rw [if_neg c] at h3
   injection h3 with h4 h5
   subst h4
   subst h5
   exact .inl ⟨_,h2,z⟩
 ·rintro(⟨e,he,z⟩ | ⟨rfl,hp⟩)
  ·by_cases c:p=q
   ·exact⟨⟨e.t,e.dq,true⟩,List.mem_map.mpr ⟨_,he,by rw [if_pos c]⟩,rfl⟩
   ·exact⟨e,List.mem_map.mpr ⟨_,he,by rw [if_neg c]⟩,z⟩
  ·obtain⟨⟨p2,e2⟩,h2,h3⟩:=List.mem_map.mp hp
   have h3:p2=p:=h3
   subst h3
   exact⟨⟨e2.t,e2.dq,true⟩,List.mem_map.mpr ⟨_,h2,by rw [if_pos rfl]⟩,rfl⟩
theorem DK (E:List (Nat×En)) (q:Nat):bN (setM E q)=bN E:=by
 unfold bN setM
 rw [List.map_map]
 refine List.map_congr_left fun p _=>?_
 show(fun p:Nat×En=>(p.1,p.2.t,p.2.dq)) (if p.1=q then(p.1,(⟨p.2.t,p.2.dq,true⟩:En))else p)=_
 split <;> rfl
theorem Ju:∀(E:List (Nat×En)) (q:Nat),AX (setM E q)≤AX E
 | [],_=>Nat.le_refl _
 | p::E,q=>by
  have ih:=Ju E q
  unfold AX setM at ih ⊢
  rw [List.map_cons,List.filter_cons,List.filter_cons]
  by_cases c:p.1=q
  ·rw [if_pos c]
   cases p.2.cH <;> simp <;> omega
  ·rw [if_neg c]
   cases p.2.cH <;> simp <;> omega
theorem Jw:∀(E:List (Nat×En)) (q:Nat),(∃e,(q,e)∈E∧e.cH=false)→AX (setM E q) < AX E
 | [],_,h=>by
  obtain⟨_,h,_⟩:=h
  cases h
 | p::E,q,h=>by
  obtain⟨e,he,hm⟩:=h
  have le:=Ju E q
  by_cases c:p.1=q∧p.2.cH=false
  ·unfold AX setM at le ⊢
   rw [List.map_cons,List.filter_cons,List.filter_cons,if_pos c.1,c.2]
   simp
   omega
  ·have ih:=Jw E q ⟨e,(by
    rcases List.mem_cons.mp he with z | z
    ·exact absurd ⟨by rw [←z],by rw [←z]; exact hm⟩ c
    ·exact z),hm⟩
   unfold AX setM at ih ⊢
   rw [List.map_cons,List.filter_cons,List.filter_cons]
   by_cases c1:p.1=q
   ·rw [if_pos c1]
    cases h2:p.2.cH
    ·exact absurd ⟨c1,h2⟩ c
    ·simpa using ih
   ·rw [if_neg c1]
    cases p.2.cH <;> simp <;> omega
structure p9 (S S':List (Nat×En)×List Nat):Prop where
 st:bN S'.1=bN S.1
 up:∀p,bQ S.1 p=true→bQ S'.1 p=true
 pre:∃more,S'.2=S.2++more
 new:∀p,bQ S'.1 p=true→bQ S.1 p=true∨p∈S'.2
 ms:ms S'≤ms S
 none:S'.2=S.2→S'=S
theorem p9.refl (S:List (Nat×En)×List Nat):p9 S S:=⟨rfl,fun _ h=>h,⟨[],by simp⟩,fun _ h=>.inl h,Nat.le_refl _,fun _=>rfl⟩
theorem p9.trans {S S1 S2:List (Nat×En)×List Nat}(a:p9 S S1) (b:p9 S1 S2):p9 S S2:=by
 obtain⟨m1,e1⟩:=a.pre
 obtain⟨m2,e2⟩:=b.pre
 refine⟨b.st.trans a.st,fun p h=>b.up p (a.up p h),⟨m1++m2,by rw [e2,e1,List.append_assoc]⟩,fun p h=>?_,Nat.le_trans b.ms a.ms,fun e=>?_⟩
 ·rcases b.new p h with h | h
  ·rcases a.new p h with h | h
   ·exact .inl h
   ·exact .inr (by rw [e2]; exact List.mem_append_left _ h)
  ·exact .inr h
 ·rw [e2,e1,List.append_assoc] at e
  have h0:m1++m2=[]:=List.append_right_eq_self.mp e
  have h1:=List.append_eq_nil_iff.mp h0
  have h2:S2=S1:=b.none (by rw [e2,h1.2,List.append_nil])
  have h3:S1=S:=a.none (by rw [e1,h1.1,List.append_nil])
  rw [h2,h3]
theorem pq (S:List (Nat×En)×List Nat) {q:Nat}(hq:q∈S.1.map (·.1)):p9 S (dY S q)∧bQ (dY S q).1 q=true∧∀p,bQ (dY S q).1 p=true→bQ S.1 p=true∨p=q:=by
 unfold dY
 by_cases c:bQ S.1 q=true
 ·rw [if_pos c]
  exact⟨.refl S,c,fun _ h=>.inl h⟩
 ·rw [if_neg c]
  have fg:AX (setM S.1 q) < AX S.1:=by
   obtain⟨⟨q2,e⟩,he,h2⟩:=List.mem_map.mp hq
   have h2:q2=q:=h2
   subst h2
   refine Jw S.1 q2 ⟨e,he,?_⟩
   cases h:e.cH with
   | false=>rfl
   | true=>exact absurd (bE.mpr ⟨e,he,h⟩) c
  refine⟨⟨DK _ _,fun p h=>nJ.mpr (.inl h),⟨[q],rfl⟩,fun p h=>?_,?_,fun e=>?_⟩,nJ.mpr (.inr ⟨rfl,hq⟩),fun p h=>?_⟩
  ·rcases nJ.mp h with h | ⟨rfl,_⟩
   ·exact .inl h
   ·exact .inr (List.mem_append_right _ (List.mem_singleton_self _))
  ·unfold cf.ms
   show 2*AX (setM S.1 q)+(S.2++[q]).length≤_
   rw [List.length_append,List.length_singleton]
   omega
  ·have:S.2++[q]=S.2:=e
   simp at this
  ·rcases nJ.mp h with h | ⟨rfl,_⟩
   ·exact .inl h
   ·exact .inr rfl
theorem nK:∀(ps:List Nat) (S:List (Nat×En)×List Nat),(∀p∈ps,p∈S.1.map (·.1))→p9 S (ps.foldl dY S)∧(∀p∈ps,bQ (ps.foldl dY S).1 p=true)∧∀p,bQ (ps.foldl dY S).1 p=true→bQ S.1 p=true∨p∈ps
 | [],S,_=>⟨.refl S,(fun _ h=>nomatch h),fun _ h=>.inl h⟩
 | q::ps,S,h=>by
  obtain⟨a1,a2,a3⟩:=pq S (h q List.mem_cons_self)
  obtain⟨b1,b2,b3⟩:=nK ps (dY S q) fun p hp=>by
   rw [c6 a1.st]
   exact h p (List.mem_cons_of_mem _ hp)
  rw [List.foldl_cons]
  refine⟨a1.trans b1,fun p hp=>?_,fun p hp=>?_⟩
  ·rcases List.mem_cons.mp hp with rfl | hp
   ·exact b1.up p a2
   ·exact b2 p hp
  ·rcases b3 p hp with h2 | h2
   ·rcases a3 p h2 with h3 | rfl
    ·exact .inl h3
    ·exact .inr List.mem_cons_self
   ·exact .inr (List.mem_cons_of_mem _ h2)
noncomputable def BC (X:Nat→Prop) (E:List (Nat×En)) (G:List Nat):Prop:=∀p e,(p,e)∈E→e.cH=true→p∉G→¬X p→∀n:Nat,(n:Int)∈e.t.hold→bQ E n=true
theorem BC.dY {X:Nat→Prop}{S S':List (Nat×En)×List Nat}(hA:pd S.1) (b:BC X S.1 S.2) (s:p9 S S'):BC X S'.1 S'.2:=fun p e he hm hp hX n hn=>by
 obtain⟨more,em⟩:=s.pre
 have tV:p∉S.2:=fun z=>hp (by rw [em]; exact List.mem_append_left _ z)
 rcases s.new p (bE.mpr ⟨e,he,hm⟩)with h | h
 ·obtain⟨e0,h0,h1⟩:=bE.mp h
  obtain⟨e1,h2,h3,_⟩:=cV s.st he
  have:=hA.same h0 h2 rfl
  injection this with _ h4
  subst h4
  exact s.up n (b p e0 h0 h1 tV hX n (by rw [h3]; exact hn))
 ·exact absurd h hp
noncomputable def VE (E:List (Nat×En)):Prop:=∀p e,(p,e)∈E→∀n,Vl.th n∈e.t.fs→∃q:Nat,n=(q:Int)∧q∈E.map (·.1)
theorem VE.bN {E E':List (Nat×En)}(h:bN E'=bN E) (v:VE E):VE E':=fun p e he n hn=>by
 obtain⟨e0,h0,h1,_⟩:=cV h he
 obtain⟨q,h2,h3⟩:=v p e0 h0 n (by rw [h1]; exact hn)
 exact⟨q,h2,by rw [c6 h]; exact h3⟩
theorem y3 {P:Nat→Prop}:∀l:List Int,(∀n∈l,∃q:Nat,n=(q:Int)∧P q)→∃hn:List Nat,l=hn.map (fun(n:Nat)=>(n:Int))∧∀n∈hn,P n
 | [],_=>⟨[],rfl,(fun _ h=>nomatch h)⟩
 | x::l,h=>by
  obtain⟨q,rfl,hq⟩:=h x List.mem_cons_self
  obtain⟨hn,e,h2⟩:=y3 l fun n hn=>h n (List.mem_cons_of_mem _ hn)
  refine⟨q::hn,by rw [e]; rfl,fun n h3=>?_⟩
  rcases List.mem_cons.mp h3 with rfl | h3
  ·exact hq
  ·exact h2 n h3
theorem VE.hold {E:List (Nat×En)}(v:VE E) {p:Nat}{e:En}(he:(p,e)∈E):∃hn:List Nat,e.t.hold=hn.map (fun(n:Nat)=>(n:Int))∧∀n∈hn,n∈E.map (·.1):=by
 refine y3 _ fun n hn=>?_
 cases ht:e.t with
 | plain fs w=>
  rw [ht] at hn
  obtain⟨x,hx,e1⟩:=List.mem_filterMap.mp (show n∈fs.filterMap Vl.na from hn)
  cases x with
  | th m=>
   cases e1
   exact v p e he _ (by rw [ht]; exact hx)
  | no=>cases e1
  | num z=>cases e1
 | weak f=>
  rw [ht] at hn
  cases hn
 | pair k u=>
  rw [ht] at hn
  cases hn
theorem VE.wt {E:List (Nat×En)}(v:VE E) {p:Nat}{e:En}(he:(p,e)∈E) {kn:Nat}{ov:Option Nat}(hw:e.t.wt=some (kn,ov)):kn∈E.map (·.1)∧∀vn,ov=some vn→vn∈E.map (·.1):=by
 cases ht:e.t with
 | plain fs w=>rw [ht] at hw; cases hw
 | weak f=>rw [ht] at hw; cases hw
 | pair k u=>
  rw [ht] at hw
  cases k with
  | no=>cases hw
  | num z=>cases hw
  | th n=>
   cases hw
   obtain⟨q,rfl,hq⟩:=v p e he n (by rw [ht]; exact List.mem_cons_self)
   refine⟨hq,fun vn hv=>?_⟩
   cases u with
   | no=>cases hv
   | num z=>cases hv
   | th m=>
    cases hv
    obtain⟨q2,rfl,Jx⟩:=v p e he m (by rw [ht]; exact List.mem_cons_of_mem _ List.mem_cons_self)
    exact Jx
theorem Cw {X:Nat→Prop}{E:List (Nat×En)}{G:List Nat}{p:Nat}{e:En}{hn:List Nat}(hA:pd E) (he:(p,e)∈E) (hm:e.cH=true) (hh:e.t.hold=hn.map (fun(n:Nat)=>(n:Int))) (nH:∀n∈hn,n∈E.map (·.1)) (b:BC X E (p::G)) :
  Rel E (hn.foldl dY (E,G)).1∧BC X (hn.foldl dY (E,G)).1 (hn.foldl dY (E,G)).2∧ms (hn.foldl dY (E,G)) < ms (E,p::G):=by
 obtain⟨s,s2,s3⟩:=nK hn (E,G) nH
 have Z4:∀n:Nat,(n:Int)∈e.t.hold↔n∈hn:=fun n=>by
  rw [hh,List.mem_map]
  constructor
  ·rintro⟨m,h1,h2⟩
   have h2:(m:Int)=(n:Int):=h2
   have h3:m=n:=by omega
   subst h3
   exact h1
  ·exact fun h=>⟨n,h,rfl⟩
 refine⟨⟨s.st,s.up,fun S c h q hq=>?_⟩,fun q e2 zQ AR hq hX n zP=>?_,?_⟩
 ·rcases s3 q hq with h1 | h1
  ·exact h q h1
  ·exact c.hold p e he (h p (bE.mpr ⟨e,he,hm⟩)) q ((Z4 q).mpr h1)
 ·obtain⟨e1,h1,h3,_⟩:=cV s.st zQ
  by_cases z:q=p
  ·subst z
   have:=hA.same h1 he rfl
   injection this with _ h4
   subst h4
   exact s2 n ((Z4 n).mp (by rw [h3]; exact zP))
  ·obtain⟨more,em⟩:=s.pre
   rcases s.new q (bE.mpr ⟨e2,zQ,AR⟩)with h | h
   ·obtain⟨e0,h0,h5⟩:=bE.mp h
    have:=hA.same h0 h1 rfl
    injection this with _ h4
    subst h4
    have Jx:q∉p::G:=fun y=>by
     rcases List.mem_cons.mp y with y | y
     ·exact z y
     ·exact hq (by rw [em]; exact List.mem_append_left _ y)
    exact s.up n (b q e0 h0 h5 Jx hX n (by rw [h3]; exact zP))
   ·exact absurd h hq
 ·have:=s.ms
  unfold cf.ms at this ⊢
  show 2*AX _+_ < 2*AX E+(p::G).length
  rw [List.length_cons]
  have h2:2*AX (hn.foldl dY (E,G)).1+(hn.foldl dY (E,G)).2.length≤2*AX E+G.length:=this
  omega
theorem Ww {S:List (Nat×En)×List Nat}{p:Nat}{e:En}(v:VE S.1) (he:(p,e)∈S.1) (hm:bQ S.1 p=true):p9 S (y2 S e.t)∧Rel S.1 (y2 S e.t).1∧(y2 S e.t=S→∀kn vn,e.t.wt=some (kn,some vn)→bQ S.1 kn=true→bQ S.1 vn=true):=by
 unfold y2
 cases hw:e.t.wt with
 | none=>exact⟨.refl S,.refl _,fun _ kn vn z=>nomatch z⟩
 | some x=>
  obtain⟨kn,ov⟩:=x
  cases ov with
  | none=>exact⟨.refl S,.refl _,fun _ kn vn z=>nomatch z⟩
  | some vn=>
   show p9 S (if bQ S.1 kn=true then dY S vn else S)∧Rel S.1 (if bQ S.1 kn=true then dY S vn else S).1∧_
   by_cases c:bQ S.1 kn=true
   ·rw [if_pos c]
    obtain⟨a1,a2,a3⟩:=pq S ((v.wt he hw).2 vn rfl)
    refine⟨a1,⟨a1.st,a1.up,fun T ct h q hq=>?_⟩,fun z kn2 vn2 ew _=>?_⟩
    ·rcases a3 q hq with h1 | rfl
     ·exact h q h1
     ·exact ct.wait p e he (h p hm) kn q hw (h kn c)
    ·cases ew
     have z:(if bQ S.1 kn=true then dY S vn else S)=S:=z
     rw [if_pos c] at z
     rw [z] at a2
     exact a2
   ·rw [if_neg c]
    refine⟨.refl S,.refl _,fun _ kn2 vn2 ew h=>?_⟩
    cases ew
    exact absurd h c
theorem Mp {S:List (Nat×En)×List Nat}{p:Nat}{e:En}(v:VE S.1) (he:(p,e)∈S.1):p9 S (dP S (p,e.t))∧Rel S.1 (dP S (p,e.t)).1∧(dP S (p,e.t)=S→bQ S.1 p=true→∀kn vn,e.t.wt=some (kn,some vn)→bQ S.1 kn=true→bQ S.1 vn=true):=by
 unfold dP
 by_cases c:bQ S.1 p=true
 ·have h:=Ww v he c
  show p9 S (if bQ S.1 p=true then y2 S e.t else S)∧Rel S.1 (if bQ S.1 p=true then y2 S e.t else S).1∧((if bQ S.1 p=true then y2 S e.t else S)=S→_)
  rw [if_pos c]
  exact⟨h.1,h.2.1,fun z _=>h.2.2 z⟩
 ·show p9 S (if bQ S.1 p=true then y2 S e.t else S)∧Rel S.1 (if bQ S.1 p=true then y2 S e.t else S).1∧((if bQ S.1 p=true then y2 S e.t else S)=S→_)
  rw [if_neg c]
  exact⟨.refl S,.refl _,fun _ h=>absurd h c⟩
noncomputable def DL (E:List (Nat×En)) (ts:List (Nat×Tg)):Prop:=∀q∈ts,∃e,(q.1,e)∈E∧e.t=q.2
theorem DL.bN {E E':List (Nat×En)}(h:bN E'=bN E) {ts:List (Nat×Tg)}(t:DL E ts):DL E' ts:=fun q hq=>by
 obtain⟨e,h1,h2⟩:=t q hq
 obtain⟨e2,h3,h4,_⟩:=cV h.symm h1
 exact⟨e2,h3,h4.trans h2⟩
theorem nM:∀(ts:List (Nat×Tg)) (S:List (Nat×En)×List Nat),VE S.1→DL S.1 ts→p9 S (ts.foldl dP S)∧Rel S.1 (ts.foldl dP S).1∧((ts.foldl dP S).2=S.2→ts.foldl dP S=S∧∀q∈ts,bQ S.1 q.1=true→∀kn vn,q.2.wt=some (kn,some vn)→bQ S.1 kn=true→bQ S.1 vn=true)
 | [],S,_,_=>⟨.refl S,.refl _,fun _=>⟨rfl,(fun _ h=>nomatch h)⟩⟩
 | q::ts,S,v,t=>by
  obtain⟨e,he,ht⟩:=t q List.mem_cons_self
  obtain⟨q1,q2⟩:=q
  have ht:e.t=q2:=ht
  subst ht
  obtain⟨a1,a2,a3⟩:=Mp v he
  obtain⟨b1,b2,b3⟩:=nM ts (dP S (q1,e.t)) (v.bN a1.st) (DL.bN a1.st fun x hx=>t x (List.mem_cons_of_mem _ hx))
  rw [List.foldl_cons]
  refine⟨a1.trans b1,a2.trans b2,fun z=>?_⟩
  have hS:ts.foldl dP (dP S (q1,e.t))=S:=(a1.trans b1).none z
  obtain⟨m1,e1⟩:=a1.pre
  obtain⟨m2,e2⟩:=b1.pre
  have h0:m1++m2=[]:=by
   rw [e2,e1,List.append_assoc] at z
   exact List.append_right_eq_self.mp z
  have h1:=List.append_eq_nil_iff.mp h0
  have hS1:dP S (q1,e.t)=S:=a1.none (by rw [e1,h1.1,List.append_nil])
  obtain⟨c1,c2⟩:=b3 (by rw [e2,h1.2,List.append_nil])
  refine⟨hS,fun x hx hp kn vn hw hk=>?_⟩
  rcases List.mem_cons.mp hx with rfl | hx
  ·exact a3 hS1 hp kn vn hw hk
  ·rw [hS1] at c2
   exact c2 x hx hp kn vn hw hk
structure CB (X:Nat→Prop) (E:List (Nat×En)):Prop where
 hold:∀p e,(p,e)∈E→bQ E p=true→¬X p→∀n:Nat,(n:Int)∈e.t.hold→bQ E n=true
 wait:∀p e,(p,e)∈E→bQ E p=true→∀kn vn,e.t.wt=some (kn,some vn)→bQ E kn=true→bQ E vn=true
theorem Wx {X:Nat→Prop}{E:List (Nat×En)}{ts:List (Nat×Tg)}(b:BC X E []) (hp:∀p e,(p,e)∈E→e.t.sort="pair"→(p,e.t)∈ts) (hA:pd E) (h:∀q∈ts,bQ E q.1=true→∀kn vn,q.2.wt=some (kn,some vn)→bQ E kn=true→bQ E vn=true):CB X E:=by
 refine⟨fun p e he hm hX n hn=>?_,fun p e he hm kn vn hw hk=>?_⟩
 ·obtain⟨e0,h0,h1⟩:=bE.mp hm
  have:=hA.same h0 he rfl
  injection this with _ h2
  subst h2
  exact b p e0 he h1 (fun z=>nomatch z) hX n hn
 ·refine h (p,e.t) (hp p e he ?_) hm kn vn hw hk
  cases ht:e.t with
  | plain fs w=>rw [ht] at hw; cases hw
  | weak f=>rw [ht] at hw; cases hw
  | pair k u=>rfl
structure Z5 (E:List (Nat×En)) (G:List Nat) (S:Nat→Prop):Prop where
 cH:∀p,bQ E p=true→S p
 hold:∀p e,(p,e)∈E→S p→(e.cH=true→p∈G)→∀n:Nat,(n:Int)∈e.t.hold→S n
 wait:∀p e,(p,e)∈E→S p→∀kn vn,e.t.wt=some (kn,some vn)→S kn→S vn
noncomputable def mE (E:List (Nat×En)) (G:List Nat) (q:Nat):Prop:=∀S,Z5 E G S→S q
theorem mE.mark {E:List (Nat×En)}{G:List Nat}{q:Nat}(h:bQ E q=true):mE E G q:=fun S c=>c.cH q h
theorem mE.hold {E:List (Nat×En)}{G:List Nat}{p:Nat}{e:En}(h:mE E G p) (he:(p,e)∈E) (hg:e.cH=true→p∈G) {n:Nat}(hn:(n:Int)∈e.t.hold):mE E G n:=fun S c=>c.hold p e he (h S c) hg n hn
theorem mE.wait {E:List (Nat×En)}{G:List Nat}{p kn vn:Nat}{e:En}(h:mE E G p) (he:(p,e)∈E) (hw:e.t.wt=some (kn,some vn)) (hk:mE E G kn):mE E G vn:=fun S c=>c.wait p e he (h S c) kn vn hw (hk S c)
structure Jv (od:Bool) (E:List (Nat×En)) (G:List Nat) (kvs:List (Key×V)):Prop where
 nm:od=true→∀(k:Key) (q:Nat),aM kvs k=some (.int (q:Nat))→mE E G q
 bo:od=true→∀p e,(p,e)∈E→e.cH=true→p∉G→∀n:Nat,(n:Int)∈e.t.hold→mE E G n
 bn:od=false→BC (fun _=>False) E G
theorem gu {E:List (Nat×En)}(hA:pd E) {p:Nat}{e e':En}(h:(p,e)∈E) (h':(p,e')∈E):e=e':=by
 have:=hA.same h h' rfl
 injection this
theorem Z5.dY {S S':List (Nat×En)×List Nat}(hA:pd S.1) (s:p9 S S') {X:Nat→Prop}(c:Z5 S'.1 S'.2 X):Z5 S.1 S.2 X:=by
 obtain⟨more,em⟩:=s.pre
 refine⟨fun p h=>c.cH p (s.up p h),fun p e he hp hg n hn=>?_,fun p e he hp kn vn hw hk=>?_⟩
 ·obtain⟨e',h1,h2,_⟩:=cV s.st.symm he
  refine c.hold p e' h1 hp (fun hm=>?_) n (by rw [h2]; exact hn)
  rcases s.new p (bE.mpr ⟨e',h1,hm⟩)with h | h
  ·obtain⟨e0,h3,h4⟩:=bE.mp h
   rw [gu hA h3 he] at h4
   rw [em]
   exact List.mem_append_left _ (hg h4)
  ·exact h
 ·obtain⟨e',h1,h2,_⟩:=cV s.st.symm he
  exact c.wait p e' h1 hp kn vn (by rw [h2]; exact hw) hk
theorem p9.Z6 {S S':List (Nat×En)×List Nat}(hA:pd S.1) (s:p9 S S') {p:Nat}{e:En}(he:(p,e)∈S'.1) (hm:e.cH=true) (hg:p∉S'.2):∃e0,(p,e0)∈S.1∧e0.cH=true∧p∉S.2∧e0.t=e.t:=by
 obtain⟨more,em⟩:=s.pre
 rcases s.new p (bE.mpr ⟨e,he,hm⟩)with h | h
 ·obtain⟨e0,h3,h4⟩:=bE.mp h
  obtain⟨e1,h1,h2,_⟩:=cV s.st he
  rw [gu hA h1 h3] at h2
  exact⟨e0,h3,h4,fun z=>hg (by rw [em]; exact List.mem_append_left _ z),h2⟩
 ·exact absurd h hg
theorem Jv.dY {od:Bool}{E E':List (Nat×En)}{G G':List Nat}{kvs:List (Key×V)}(h:Jv od E G kvs) (hA:pd E) (s:p9 (E,G) (E',G')):Jv od E' G' kvs:=by
 have up:∀q,mE E G q→mE E' G' q:=fun q hq X c=>hq X (c.dY (S:=(E,G)) (S':=(E',G')) hA s)
 refine⟨fun z k q hq=>up q (h.nm z k q hq),fun z p e he hm hg n hn=>?_,fun z=>BC.dY (S:=(E,G)) (S':=(E',G')) hA (h.bn z) s⟩
 obtain⟨e0,h1,h2,h3,h4⟩:=s.Z6 hA he hm hg
 exact up n (h.bo z p e0 h1 h2 h3 n (by rw [h4]; exact hn))
theorem Jv.step {od:Bool}{E:List (Nat×En)}{G:List Nat}{kvs:List (Key×V)}{p:Nat}{e:En}{hn:List Nat}(h:Jv od E (p::G) kvs) (hA:pd E) (he:(p,e)∈E) (hm:e.cH=true) (hh:e.t.hold=hn.map (fun(n:Nat)=>(n:Int))) (nH:∀n∈hn,n∈E.map (·.1)):Jv od (hn.foldl cf.dY (E,G)).1 (hn.foldl cf.dY (E,G)).2 kvs:=by
 obtain⟨s,s2,s3⟩:=nK hn (E,G) nH
 have Z4:∀n:Nat,(n:Int)∈e.t.hold→n∈hn:=fun n z=>by
  rw [hh,List.mem_map] at z
  obtain⟨m,h1,h2⟩:=z
  have h2:(m:Int)=(n:Int):=h2
  have h3:m=n:=by omega
  exact h3▸h1
 obtain⟨more,em⟩:=s.pre
 have up:∀q,mE E (p::G) q→mE (hn.foldl cf.dY (E,G)).1 (hn.foldl cf.dY (E,G)).2 q:=fun q hq X c=>by
  have c0:=c.dY (S:=(E,G)) hA s
  refine hq X ⟨c0.cH,fun q2 e2 zQ hX hg n zP=>?_,c0.wait⟩
  by_cases z:q2=p
  ·subst z
   rw [gu hA zQ he] at zP
   exact c.cH n (s2 n (Z4 n zP))
  ·refine c0.hold q2 e2 zQ hX (fun y=>?_) n zP
   rcases List.mem_cons.mp (hg y)with y | y
   ·exact absurd y z
   ·exact y
 refine⟨fun z k q hq=>up q (h.nm z k q hq),fun z q e2 zQ AR hg n zP=>?_,fun z=>(Cw hA he hm hh nH (h.bn z)).2.1⟩
 obtain⟨e0,h1,h2,h3,h4⟩:=s.Z6 hA zQ AR hg
 rw [←h4] at zP
 by_cases y:q=p
 ·subst y
  rw [gu hA h1 he] at zP
  exact .mark (s2 n (Z4 n zP))
 ·refine up n (h.bo z q e0 h1 h2 (fun x=>?_) n zP)
  rcases List.mem_cons.mp x with x | x
  ·exact y x
  ·exact h3 x
theorem Cy {E:List (Nat×En)}{x:Nat×En}{q:Nat}(h:bQ E q=true):bQ (E++[x]) q=true:=by
 obtain⟨e,he,hm⟩:=bE.mp h
 exact bE.mpr ⟨e,List.mem_append_left _ he,hm⟩
theorem Jv.more {od:Bool}{E:List (Nat×En)}{G:List Nat}{kvs dB:List (Key×V)}{g:Nat}{t:Tg}{dq:Int}(h:Jv od E G kvs) (ht:t.hold=[]) (hk:∀(k:Key) (q:Nat),aM dB k=some (.int (q:Nat))→aM kvs k=some (.int (q:Nat))∨q=g):Jv od (E++[(g,⟨t,dq,od⟩)]) G dB:=by
 have up:∀q,mE E G q→mE (E++[(g,(⟨t,dq,od⟩:En))]) G q:=fun q hq X c=>hq X ⟨fun p hp=>c.cH p (Cy hp),fun p e he=>c.hold p e (List.mem_append_left _ he),fun p e he=>c.wait p e (List.mem_append_left _ he)⟩
 refine⟨fun z k q hq=>?_,fun z p e he hm hg n hn=>?_,fun z p e he hm hg hX n hn=>?_⟩
 ·rcases hk k q hq with y | rfl
  ·exact up q (h.nm z k q y)
  ·exact .mark (bE.mpr ⟨_,List.mem_append_right _ (List.mem_singleton.mpr rfl),z⟩)
 ·rcases List.mem_append.mp he with he | he
  ·exact up n (h.bo z p e he hm hg n hn)
  ·cases List.mem_singleton.mp he
   rw [show(⟨t,dq,od⟩:En).t=t from rfl,ht] at hn
   cases hn
 ·rcases List.mem_append.mp he with he | he
  ·exact Cy (h.bn z p e he hm hg hX n hn)
  ·cases List.mem_singleton.mp he
   rw [show(⟨t,dq,od⟩:En).t=t from rfl,ht] at hn
   cases hn
theorem Jv.names {od:Bool}{E:List (Nat×En)}{G:List Nat}{kvs dB:List (Key×V)}(h:Jv od E G kvs) (hk:od=true→∀(k:Key) (q:Nat),aM dB k=some (.int (q:Nat))→aM kvs k=some (.int (q:Nat))∨mE E G q):Jv od E G dB:=⟨fun z k q hq=>(hk z k q hq).elim (h.nm z k q) id,h.bo,h.bn⟩
theorem Jv.fld {od:Bool}{E:List (Nat×En)}{G:List Nat}{kvs:List (Key×V)}(h:Jv od E G kvs) (z:od=true) {p:Nat}{e:En}(hp:mE E G p) (he:(p,e)∈E) {n:Nat}(hn:(n:Int)∈e.t.hold):mE E G n:=by
 by_cases c:e.cH=true→p∈G
 ·exact hp.hold he c hn
 ·have hm:e.cH=true:=by
   cases y:e.cH with
   | true=>rfl
   | false=>exact absurd (fun x=>by rw [y] at x; cases x) c
  exact h.bo z p e he hm (fun x=>c fun _=>x) n hn
theorem y4 {t:Tg}{fs:List Vl}{w:Option Int}(ht:t=.plain fs w) {at_:Nat}{v:Vl}{n:Nat}(h:(n:Int)∈(t.fV at_ v).hold):(n:Int)∈t.hold∨v=.th (n:Int):=by
 subst ht
 obtain⟨x,hx,e⟩:=List.mem_filterMap.mp (show(n:Int)∈(fs.set at_ v).filterMap Vl.na from h)
 rcases List.mem_or_eq_of_mem_set hx with hx | rfl
 ·exact .inl (List.mem_filterMap.mpr ⟨x,hx,e⟩)
 ·refine .inr ?_
  cases x with
  | no=>cases e
  | num m=>cases e
  | th m=>cases e; rfl
theorem Jy {t:Tg}{fs:List Vl}{w:Option Int}(ht:t=.plain fs w) {at_:Nat}{v:Vl}{n:Nat}(h:(n:Int)∈t.hold):(n:Int)∈(t.fV at_ v).hold∨fs[at_]?=some (.th (n:Int)):=by
 subst ht
 obtain⟨x,hx,e⟩:=List.mem_filterMap.mp (show(n:Int)∈fs.filterMap Vl.na from h)
 have ex:x=.th (n:Int):=by
  cases x with
  | no=>cases e
  | num m=>cases e
  | th m=>cases e; rfl
 subst ex
 obtain⟨i,hi⟩:=List.getElem?_of_mem hx
 by_cases z:i=at_
 ·exact .inr (z▸hi)
 ·refine .inl (List.mem_filterMap.mpr ⟨_,List.mem_of_getElem? (i:=i) ?_,e⟩)
  rw [List.getElem?_set_ne fun y=>z y.symm]
  exact hi
theorem um {E:List (Nat×En)}{pl:Nat}{e':En}{p:Nat}{x:En}(h:(p,x)∈fX E pl e'):(p=pl∧x=e')∨(p≠pl∧(p,x)∈E):=by
 obtain⟨⟨p0,x0⟩,h0,e0⟩:=List.mem_map.mp h
 by_cases z:p0=pl
 ·rw [if_pos z] at e0
  injection e0 with e1 e2
  exact .inl ⟨e1.symm,e2.symm⟩
 ·rw [if_neg z] at e0
  injection e0 with e1 e2
  subst e1
  subst e2
  exact .inr ⟨z,h0⟩
theorem uo {E:List (Nat×En)}{pl:Nat}{e':En}{p:Nat}{x:En}(h:(p,x)∈E) (n:p≠pl):(p,x)∈fX E pl e':=List.mem_map.mpr ⟨_,h,if_neg n⟩
theorem y7 {E:List (Nat×En)}{pl:Nat}{e e':En}(he:(pl,e)∈E):(pl,e')∈fX E pl e':=List.mem_map.mpr ⟨_,he,if_pos rfl⟩
theorem y8 {E:List (Nat×En)}(hA:pd E) {pl:Nat}{e e':En}(he:(pl,e)∈E) (hm:e'.cH=e.cH) (q:Nat):bQ (fX E pl e') q=true↔bQ E q=true:=by
 rw [bE,bE]
 constructor
 ·rintro⟨x,hx,h1⟩
  rcases um hx with ⟨rfl,rfl⟩ | ⟨_,h2⟩
  ·exact⟨e,he,hm.symm.trans h1⟩
  ·exact⟨x,h2,h1⟩
 ·rintro⟨x,hx,h1⟩
  by_cases z:q=pl
  ·subst z
   rw [gu hA hx he] at h1
   exact⟨e',y7 he,hm.trans h1⟩
  ·exact⟨x,uo hx z,h1⟩
theorem Jv.set {od:Bool}{E:List (Nat×En)}{G:List Nat}{kvs:List (Key×V)}(h:Jv od E G kvs) (hA:pd E) {pl:Nat}{e:En}(he:(pl,e)∈E) {fs:List Vl}{w:Option Int}(ht:e.t=.plain fs w) {at_:Nat}{v:Vl}
  (hw:od=true→∀q:Nat,fs[at_]?=some (.th (q:Int))→bQ E q=true) (hv:∀q:Nat,v=.th (q:Int)→(od=true→mE E G q)∧(od=false→bQ E q=true)):Jv od (fX E pl ⟨e.t.fV at_ v,e.dq,e.cH⟩) G kvs:=by
 have mk:∀q,bQ (fX E pl ⟨e.t.fV at_ v,e.dq,e.cH⟩) q=true↔bQ E q=true:=y8 hA he rfl
 have up:od=true→∀q,mE E G q→mE (fX E pl ⟨e.t.fV at_ v,e.dq,e.cH⟩) G q:=fun z q hq X c=>by
  refine hq X ⟨fun p hp=>c.cH p ((mk p).mpr hp),fun p x hx hX hg n hn=>?_,fun p x hx hX kn vn hwt hk=>?_⟩
  ·by_cases y:p=pl
   ·subst y
    have ex:=gu hA hx he
    subst ex
    rcases Jy ht (at_:=at_) (v:=v) hn with hn | hn
    ·exact c.hold p _ (y7 hx) hX hg n hn
    ·exact c.cH n ((mk n).mpr (hw z n hn))
   ·exact c.hold p x (uo hx y) hX hg n hn
  ·by_cases y:p=pl
   ·subst y
    rw [gu hA hx he,ht] at hwt
    cases hwt
   ·exact c.wait p x (uo hx y) hX kn vn hwt hk
 refine⟨fun z k q hq=>up z q (h.nm z k q hq),fun z p x hx hm hg n hn=>?_,fun z p x hx hm hg hX n hn=>(mk n).mpr ?_⟩
 ·rcases um hx with ⟨rfl,rfl⟩ | ⟨_,h2⟩
  ·rcases y4 ht hn with hn | hn
   ·exact up z n (h.bo z p e he hm hg n hn)
   ·exact up z n ((hv n hn).1 z)
  ·exact up z n (h.bo z p x h2 hm hg n hn)
 ·rcases um hx with ⟨rfl,rfl⟩ | ⟨_,h2⟩
  ·rcases y4 ht hn with hn | hn
   ·exact h.bn z p e he hm hg hX n hn
   ·exact(hv n hn).2 z
  ·exact h.bn z p x h2 hm hg hX n hn
theorem Jv.start {od:Bool}{E E':List (Nat×En)}{G':List Nat}{kvs:List (Key×V)}(hA:pd E) (hu:∀p∈E,p.2.cH=false) (s:p9 (E,[]) (E',G')) (hn:∀(k:Key) (q:Nat),aM kvs k=some (.int (q:Nat))→bQ E' q=true):Jv od E' G' kvs:=by
 have no:∀p e,(p,e)∈E'→e.cH=true→p∉G'→False:=fun p e he hm hg=>by
  obtain⟨e0,h1,h2,_⟩:=s.Z6 hA he hm hg
  rw [show e0.cH=false from hu _ h1] at h2
  cases h2
 exact⟨fun _ k q hq=>.mark (hn k q hq),fun _ p e he hm hg=>(no p e he hm hg).elim,fun _ p e he hm hg=>(no p e he hm hg).elim⟩
noncomputable def Blk (E:List (Nat×En)) (G:List Nat) (p:Nat):Prop:=∃e,(p,e)∈E∧e.cH=true∧p∉G
theorem BC.Z6 (E:List (Nat×En)) (G:List Nat):BC (Blk E G) E G:=fun p e he hm hg hX=>absurd ⟨e,he,hm,hg⟩ hX
theorem Jv.drained {od:Bool}{E E':List (Nat×En)}{G:List Nat}{kvs:List (Key×V)}(h:Jv od E G kvs) (hA:pd E) (Qz:od=false→∀(k:Key) (q:Nat),aM kvs k=some (.int (q:Nat))→bQ E q=true) (r:Rel E E') (c:CB (Blk E G) E'):Cl E' (fun p=>bQ E' p=true)∧∀(k:Key) (q:Nat),aM kvs k=some (.int (q:Nat))→bQ E' q=true:=by
 have c0:Z5 E G (fun p=>bQ E' p=true):=by
  refine⟨r.up,fun p e he hp hg n hn=>?_,fun p e he hp kn vn hw hk=>?_⟩
  ·obtain⟨e',h1,h2,_⟩:=cV r.st.symm he
   refine c.hold p e' h1 hp (fun⟨x,hx,hm,hnG⟩=>hnG (hg ?_)) n (by rw [h2]; exact hn)
   rw [gu hA he hx]
   exact hm
  ·obtain⟨e',h1,h2,_⟩:=cV r.st.symm he
   exact c.wait p e' h1 hp kn vn (by rw [h2]; exact hw) hk
 refine⟨⟨fun p e he hp n hn=>?_,c.wait⟩,fun k q hq=>?_⟩
 ·by_cases z:Blk E G p
  ·obtain⟨x,hx,hm,hg⟩:=z
   obtain⟨e0,h1,h2,_⟩:=cV r.st he
   rw [←h2,gu hA h1 hx] at hn
   cases od with
   | true=>exact h.bo rfl p x hx hm hg n hn _ c0
   | false=>exact r.up n (h.bn rfl p x hx hm hg (fun z=>z) n hn)
  ·exact c.hold p e he hp z n hn
 ·cases od with
  | true=>exact h.nm rfl k q hq _ c0
  | false=>exact r.up q (Qz rfl k q hq)
noncomputable def AY (E E':List (Nat×En)) (kvs dB:List (Key×V)):Prop:=∀q,bQ E' q=true→bQ E q=true∨(∃p e,(p,e)∈E∧(bQ E p=true∨∃k:Key,aM kvs k=some (.int (p:Nat)))∧(q:Int)∈e.t.hold)∨∃k:Key,aM dB k=some (.int (q:Nat))
theorem AY.refl (E:List (Nat×En)) (kvs dB:List (Key×V)):AY E E kvs dB:=fun q h=>.inl h
noncomputable def pw:Sp:=fun vs H Q _=>∃p,vs=[.ref p]∧∀r,H r=none→Q (.ref r) (upd H r (.lst []))
theorem Jz (T:Txt K mg a):aN P w K mg base cx 1 a.rC a.vX ["self"] pw:=by
 refine T.oq.ok TQ (fun vs H Q E h=>?_) (fun bI A outer s H vs Q E hr h=>?_)
 ·obtain⟨_,rfl,_⟩:=h
  rfl
 ·obtain⟨p,rfl,q⟩:=h
  refine⟨_,(af (aw (cE ag))),?_⟩
  dsimp! []
  exact q
noncomputable def Z7 (K:PySem.W.Frag) (H:Hp) (ws:List V):Tg→Prop
 | .pair (.th n) v=>∃t vx,ws=[.ref t]∧H t=some (.tup [.int n,vx])∧cI K H vx v
 | _=>ws=[]
noncomputable def AZ (a:da) (K:PySem.W.Frag):Sp:=fun vs H Q _=>∃p d k v,vs=[.ref p]∧fG a K H p d (.pair k v)∧∀(l:Addr) (ws:List V) (H':Hp),au H H'→H l=none→H' l=some (.lst ws)→Z7 K H' ws (.pair k v)→Q (.ref l) H'
theorem Wy (T:Txt K mg a):aN P w K mg base cx 5 a.wd a.we ["self"] (AZ a K):=by
 refine T.rM.ok TZ (fun vs H Q E h=>?_) (fun bI A outer s H vs Q E hr h=>?_)
 ·obtain⟨_,_,_,_,rfl,_⟩:=h
  rfl
 ·obtain⟨p,d,k,v,rfl,h,q⟩:=h
  obtain⟨⟨dx,h1⟩,xs,h2,h3,h4⟩:=id h
  refine⟨_,(af (aw (Fc rfl (C9 (x:="name") (ns:=["self"]) (fr:=[0]) rfl (by decide +kernel) rfl (by decide +kernel) rfl (List.forall_mem_cons.mpr ⟨rfl,List.forall_mem_nil _⟩) rfl rfl (List.forall_mem_cons.mpr ⟨⟨rfl,rfl,.inl rfl⟩,List.forall_mem_nil _⟩) (by decide +kernel)) (dn (aH (oY T) (hr.mono (by decide)) rfl T.rG T.ia.kp T.rF .nil ar (aa (nV tM (aY (pv 0) rfl) B1 (nA ak)) ag))) (fun _ _ _ _=>(dA (aa (pv 0) (aa (aC (Fe (K:=K) rfl) (nB (K:=K) rfl (pv 1) rfl) ak (fun _ _=>rfl)) ag)))) (fun _ _ _ _=>.nil)))),?_⟩
  have K6:H p=some (.ins a.aD dx (K3 "pair" d)):=h1
  have f2:(K3 "pair" d).lookup ("parts":Str)=some (.ref d):=(Tg.pair k v).parts d
  dsimp! [K6,HO.ins.injEq,T.bp,T.bB,f2]
  have g5:xs.length=2:=h3.1.symm
  obtain⟨kx,vx,rfl⟩:∃kx vx,xs=[kx,vx]:=by
   match xs,g5 with
   | [x,y],_=>exact⟨x,y,rfl⟩
  have hk:=h3.2 0 kx k rfl rfl
  have hv:=h3.2 1 vx v rfl rfl
  refine⟨d,_,rfl,bc.of h2,fun l1 i3=>?_⟩
  have ec:tJ [kx,vx] none (some 1)=[kx]:=rfl
  rw [ec]
  have s1:=au.put (o:=.lst [kx]) i3
  have Z8:upd H l1 (.lst [kx]) l1=some (.lst [kx]):=ae
  generalize upd H l1 (.lst [kx])=H1 at s1 Z8
  refine⟨l1,[kx],[k],rfl,bc.of Z8,by simp,rfl,(iZ.cons (hk.same s1) (iZ.nil _ _)).2,fun r f9=>⟨r,rfl,⟨_,bc.of ae⟩,fun D hD=>?_⟩⟩
  have s2:=s1.trans (au.put (o:=.lst ([k].filterMap Vl.nm)) f9)
  have Mq:upd H1 r (.lst ([k].filterMap Vl.nm)) r=some (.lst ([k].filterMap Vl.nm)):=ae
  generalize upd H1 r (.lst ([k].filterMap Vl.nm))=H2 at s2 Mq hD
  have hD0:H D=none:=s2.free hD
  cases k with
  | th n=>
   refine lcl [V.int n] (fun i ys G=>au H2 G∧G D=some (.lst ys)∧(i=0∧ys=[]∨i=1∧∃t,ys=[.ref t]∧G t=some (.tup [.int n,vx]))) ⟨au.put hD,ae,.inl ⟨rfl,rfl⟩⟩ ?_ ?_ ?_
   ·rintro i ys G _ ⟨sG,_⟩
    exact bc.of (sG _ _ Mq)
   ·rintro i m x ys G hm hx ⟨sG,Mr,k_⟩
    have ei:i=0:=by
     simp at hm
     omega
    subst ei
    cases hx
    rcases k_ with ⟨_,rfl⟩ | ⟨z,_⟩
    ·have h1G:=(s2.trans sG) _ _ K6
     have h2G:=(s2.trans sG) _ _ h2
     dsimp! [aV,Option.join_some,h1G,HO.ins.injEq,T.bp,T.bB,f2]
     refine⟨d,_,_,vx,rfl,rfl,bc.of h2G,rfl,by simp [sizeLine_eq],fun t ht=>OV.mk hm (by rw [ah (aq Mr ht)]; exact Mr) (by simp) ⟨fun b u e=>?_,ae,.inr ⟨rfl,t,rfl,?_⟩⟩⟩
     ·rw [ah (aq e hD),ah (aq (sG b u e) ht)]
      exact sG b u e
     ·rw [ah (aq Mr ht).symm,ae]
    ·cases z
   ·rintro ys G ⟨sG,Mr,k_⟩
    rcases k_ with ⟨z,_⟩ | ⟨_,t,rfl,ht⟩
    ·cases z
    ·exact q D [V.ref t] G (s2.trans sG) hD0 Mr ⟨t,vx,rfl,ht,hv.same (s2.trans sG)⟩
  | no=>
   refine lcl [] (fun i ys G=>au H2 G∧G D=some (.lst ys)∧ys=[]) ⟨au.put hD,ae,rfl⟩ ?_ ?_ ?_
   ·rintro i ys G _ ⟨sG,_⟩
    exact bc.of (sG _ _ Mq)
   ·rintro i m x ys G hm hx _
    simp at hx
   ·rintro ys G ⟨sG,Mr,rfl⟩
    exact q D [] G (s2.trans sG) hD0 Mr rfl
  | num z=>
   refine lcl [] (fun i ys G=>au H2 G∧G D=some (.lst ys)∧ys=[]) ⟨au.put hD,ae,rfl⟩ ?_ ?_ ?_
   ·rintro i ys G _ ⟨sG,_⟩
    exact bc.of (sG _ _ Mq)
   ·rintro i m x ys G hm hx _
    simp at hx
   ·rintro ys G ⟨sG,Mr,rfl⟩
    exact q D [] G (s2.trans sG) hD0 Mr rfl
theorem DM (t:Tg) {p d:Addr}{H:Hp}{Q:VK}{E:XK}(h:fG a K H p d t) (q:∀(l:Addr) (ws:List V) (H':Hp),au H H'→H l=none→H' l=some (.lst ws)→Z7 K H' ws t→Q (.ref l) H'):∃sp,(t.cls a,sp)∈[(a.bj,pw),(a.ay,pw),(a.aD,AZ a K)]∧sp [.ref p] H Q E:=by
 cases t with
 | plain fs w=>exact⟨_,.tail _ (.head _),p,rfl,fun r hr=>q r [] _ (.put hr) hr ae rfl⟩
 | weak f=>exact⟨_,.head _,p,rfl,fun r hr=>q r [] _ (.put hr) hr ae rfl⟩
 | pair k v=>exact⟨_,.tail _ (.tail _ (.head _)),p,d,k,v,rfl,h,q⟩
theorem JA (S:List (Nat×En)×List Nat) (n:Int) (v:Vl):y2 S (.pair (.th n) v)=if bQ S.1 n.toNat=true then((v.na.map Int.toNat).toList).foldl dY S else S:=by
 cases v with
 | th m=>rfl
 | no=>show S=if _ then S else S; split <;> rfl
 | num z=>show S=if _ then S else S; split <;> rfl
noncomputable def iw (a:da) (K:PySem.W.Frag):Sp:=fun vs H Q _=>∃M k gd E G,vs=[.ref k]∧MS a K H M k gd E G∧Q (.bl (decide (0 < G.length))) H
theorem QA (T:Txt K mg a):aN P w K mg base cx 1 a.Hl a.Hm ["self"] (iw a K):=by
 refine T.Dp.ok Zl (fun vs H Q E h=>?_) (fun bI A outer s H vs Q E hr h=>?_)
 ·obtain⟨_,_,_,_,_,rfl,_⟩:=h
  rfl
 ·obtain⟨M,k,gd,E,G,rfl,h,q⟩:=h
  refine⟨_,(af (aw (eE EF (bJ fU rfl T.eC dW (aa (aY (pv 0) rfl) ag)) ak (aE _)))),?_⟩
  obtain⟨dx,h1⟩:=h.ob
  dsimp! [h1,HO.ins.injEq,T.av,T.aK,e_]
  refine⟨_,h.di,?_⟩
  have e1:decide ((0:Int) < ((gk G).length:Int))=decide (0 < G.length):=by
   unfold gk
   rw [List.length_map]
   by_cases z:0 < G.length
   ·rw [decide_eq_true z,decide_eq_true (by omega)]
   ·rw [decide_eq_false z,decide_eq_false (by omega)]
  rw [e1]
  exact q
noncomputable def pA (a:da) (K:PySem.W.Frag):Sp:=fun vs H Q _=>∃M k gd E G pl e,vs=[.ref k,.int (pl:Nat)]∧MS a K H M k gd E G∧(pl,e)∈E∧VE E∧E.length≤900 ∧
 ∀H',Kp (fun b=>M.own b∨b=gd) H H'→MS a K H' M k gd (y2 (E,G) e.t).1 (y2 (E,G) e.t).2→Q .aP H'
theorem Wz (T:Txt K mg a):aN P w K mg base cx 11 a.wZ a.w4 ["self","place"] (pA a K):=by
 refine T.rZ.ok Ao (fun vs H Q E h=>?_) (fun bI A outer s H vs Q E hr h=>?_)
 ·obtain⟨_,_,_,_,_,_,_,rfl,_⟩:=h
  rfl
 ·obtain⟨M,k,gd,E,G,pl,e,rfl,h,he,hv,sV,q⟩:=h
  refine⟨_,(af (b_ PassesOwn.never rfl (dn (cR (L:=[(a.bj,pw),(a.ay,pw),(a.aD,AZ a K)]) (aI (aY (pv 0) rfl) T.ax T.AH (Je T) (hr.mono (by decide)) T.Iu .nil ar (aa (pv 1) ag)) (List.forall_mem_cons.mpr ⟨⟨_,_,_,_,T.dh,T.HA,Jz T,hr.mono (by decide),T.Hz⟩,List.forall_mem_cons.mpr ⟨⟨_,_,_,_,T.aW,T.eB,Jz T,hr.mono (by decide),T.Hz⟩,List.forall_mem_cons.mpr ⟨⟨_,_,_,_,T.bp,T.HG,Wy T,hr.mono (by decide),T.Pb⟩,List.forall_mem_nil _⟩⟩⟩) .nil ar)) (zX (n:=2) rfl (aZ (aJ (i:=2) Ao.nd rfl (Or.inl rfl)) (aZ (aJ (i:=3) Ao.nd rfl (Or.inl rfl)) gb))) az)),?_⟩
  obtain⟨dx,h1⟩:=h.ob
  obtain⟨yX,h2⟩:=h.tm.ob
  have f1:=bT (pr:=M.pr) (lb:=M.lb) (n:="thing_at")
  have f2:=bT (pr:=M.pr) (lb:=M.lb) (n:="marked_at")
  dsimp! [h1,h2,HO.ins.injEq,T.av,T.aG,b8,f1]
  obtain⟨xs,es,kg⟩:=h.tm.there he
  refine⟨M,xs,es,pl,e,rfl,kg,fun tp td H4 s4 htp DI K8=>?_⟩
  obtain⟨Me,Wc⟩:=K8.ob
  refine⟨tp,rfl,_,_,_,Wc,e.t.no td,DM e.t K8 fun l ws H5 s5 hl QB hw=>?_⟩
  have s05:=s4.trans s5
  have h5:=h.same s05
  have hl0:H l=none:=s4.free hl
  have Z9:¬M.own l:=h.tm.gH hl0
  have hA:=h.tm.nd
  refine⟨l,rfl,⟨_,bc.of QB⟩,d0 ws (fun i σ H6=>∃o2 o3:Option V,σ=[some (.ref k),some (.int (pl:Nat)),o2,o3]∧(i=0∧H6=H5∨i=1∧Kp (fun b=>M.own b∨b=gd) H5 H6∧MS a K H6 M k gd (y2 (E,G) e.t).1 (y2 (E,G) e.t).2∧H6 l=some (.lst ws))) ⟨none,none,rfl,.inl ⟨rfl,rfl⟩⟩ ?_ ?_ ?_⟩
  ·rintro i σ H6 _ ⟨o2,o3,rfl,⟨_,rfl⟩ | ⟨_,_,_,hl6⟩⟩
   ·exact bc.of QB
   ·exact bc.of hl6
  ·rintro i x σ H6 hx ⟨o2,o3,rfl,k_⟩
   cases ht:e.t with
   | plain fs w=>
    rw [ht] at hw
    rw [show ws=[] from hw] at hx
    cases hx
   | weak f=>
    rw [ht] at hw
    rw [show ws=[] from hw] at hx
    cases hx
   | pair kv u=>
    rw [ht] at hw
    cases kv with
    | no=>
     rw [show ws=[] from hw] at hx
     cases hx
    | num z=>
     rw [show ws=[] from hw] at hx
     cases hx
    | th n=>
     obtain⟨t,vx,rfl,ht5,hvx⟩:=hw
     have ei:i=0:=by
      have:=(List.getElem?_eq_some_iff.mp hx).1
      simp at this
      exact this
     subst ei
     cases hx
     rcases k_ with ⟨_,rfl⟩ | ⟨z,_⟩
     ·refine⟨t,_,rfl,bU.of ht5,rfl,?_⟩
      obtain⟨q2,Jx,hq3⟩:=hv pl e he n (by rw [ht]; exact List.mem_cons_self)
      subst Jx
      obtain⟨⟨q4,e2⟩,zQ,eq2⟩:=List.mem_map.mp hq3
      have eq2:q4=q2:=eq2
      subst eq2
      obtain⟨dx6,h16⟩:=h5.ob
      obtain⟨dx7,h26⟩:=h5.tm.ob
      have Z_:=JA (E,G) (q4:Int) u
      rw [Int.toNat_natCast] at Z_
      have ud:=hA.mk zQ
      dsimp! []
      refine bA.of (af (bF (dH (aI (aY (pv 0) rfl) T.ax T.lH (pb T) (hr.mono (by decide)) T.sJ .nil ar (aa (pv 2) ag))) (af (aQ (aI (pv 0) T.av T.AB (Jk T) (hr.mono (by decide)) T.HW .nil ar (aa (aH (oY T) (hr.mono (by decide)) rfl T.rG T.ia.kp T.rF .nil ar (aa (cE (aa (pv 3) ag)) ag)) ag)))) aT)) ?_
      dsimp! [h16,h26,HO.ins.injEq,T.av,T.aG,b8,f2,IS]
      obtain⟨xs6,es6,aeU⟩:=h5.tm.there zQ
      refine⟨M,xs6,es6,_,e2,rfl,aeU,_,rfl,?_⟩
      cases em:e2.cH with
      | false=>
       rw [if_neg (by dsimp only; rw [ud,em]; exact Bool.false_ne_true)] at Z_
       rw [Z_]
       exact cX ⟨Kp.refl _ _,h5,QB⟩
      | true=>
       rw [if_pos (by dsimp only; rw [ud,em])] at Z_
       rw [Z_]
       refine fB ?_
       have Ms:[u].filterMap Vl.nm=(((u.na.map Int.toNat).toList).map fun(p:Nat)=>(p:Int)).map V.int∧∀p∈(u.na.map Int.toNat).toList,p∈E.map (·.1):=by
        cases u with
        | no=>exact⟨rfl,(fun _ z=>nomatch z)⟩
        | num z=>exact⟨rfl,(fun _ z=>nomatch z)⟩
        | th m=>
         obtain⟨q5,rfl,hq5⟩:=hv pl e he m (by rw [ht]; exact List.mem_cons_of_mem _ List.mem_cons_self)
         refine⟨rfl,fun p hp=>?_⟩
         have hp:p∈[Int.toNat (q5:Int)]:=hp
         rw [List.mem_singleton.mp hp,Int.toNat_natCast]
         exact hq5
       refine⟨_,_,h16,cU,by rw [sizeLine_eq]; decide,fun p hp=>⟨[vx],bc.of ae,by simp,[u],rfl,fun i x v e1 e2=>?_,fun r hr=>?_⟩⟩
       ·match i,e1,e2 with
        | 0,e1,e2=>
         cases e1
         cases e2
         exact hvx.same (.put hp)
       ·have s7:=(au.put (o:=.lst [vx]) hp).trans (au.put (o:=.lst ([u].filterMap Vl.nm)) hr)
        have Qw:H6 r=none:=(au.put (o:=.lst [vx]) hp).free hr
        have nlr:¬M.own r:=h5.tm.gH Qw
        have Jl:l≠gd:=cL QB h5.di (by intro z; cases z)
        refine⟨M,k,gd,E,G,r,(u.na.map Int.toNat).toList,rfl,h5.same s7,by rw [ae,Ms.1],nlr,Ms.2,sV,fun H7 k7 h7=>⟨(au.kp s7).trans k7,h7,k7 _ _ (fun z=>?_) (s7 _ _ QB)⟩⟩
        rcases z with z | z
        ·exact Z9 z
        ·exact Jl z
     ·cases z
  ·rintro σ H6 ⟨o2,o3,rfl,k_⟩
   rcases k_ with ⟨hz,rfl⟩ | ⟨_,k6,h6,_⟩
   ·have e0:y2 (E,G) e.t=(E,G):=by
     have hws:ws=[]:=List.length_eq_zero_iff.mp hz
     cases ht:e.t with
     | plain fs w=>rfl
     | weak f=>rfl
     | pair kv u=>
      rw [ht] at hw
      cases kv with
      | no=>rfl
      | num z=>rfl
      | th n=>
       obtain⟨t,vx,e1,_⟩:=hw
       rw [hws] at e1
       cases e1
    rw [e0] at q
    exact q _ (au.kp s05) h5
   ·exact q _ ((au.kp s05).trans k6) h6
noncomputable def mI (a:da) (K:PySem.W.Frag):Sp:=fun vs H Q _=>∃M k gd E G l,∃ts:List (Nat×Tg),vs=[.ref k,.ref l]∧MS a K H M k gd E G∧H l=some (.lst ((ts.map fun q=>((q.1:Nat):Int)).map V.int))∧¬M.own l∧DL E ts∧VE E∧E.length≤900 ∧
 ∀H',Kp (fun b=>M.own b∨b=gd) H H'→MS a K H' M k gd (ts.foldl dP (E,G)).1 (ts.foldl dP (E,G)).2→Q .aP H'
theorem JB (T:Txt K mg a):aN P w K mg base cx 12 a.wX a.wY ["self","pairs"] (mI a K):=by
 refine T.rY.ok Hb (fun vs H Q E h=>?_) (fun bI A outer s H vs Q E hr h=>?_)
 ·obtain⟨_,_,_,_,_,_,_,rfl,_⟩:=h
  rfl
 ·obtain⟨M,k,gd,E,G,l,ts,rfl,h,hl,nl,hT,hv,sV,q⟩:=h
  refine⟨_,(af (b_ PassesOwn.never rfl (dn (pv 1)) (aJ (i:=2) Hb.nd rfl (Or.inl rfl)) az)),?_⟩
  dsimp! []
  have Jl:l≠gd:=cL hl h.di (by intro z; cases z)
  refine⟨⟨_,bc.of hl⟩,d0 ((ts.map fun q=>((q.1:Nat):Int)).map V.int) (fun i σ H1=>∃o2:Option V,σ=[some (.ref k),some (.ref l),o2]∧Kp (fun b=>M.own b∨b=gd) H H1∧H1 l=some (.lst ((ts.map fun q=>((q.1:Nat):Int)).map V.int))∧MS a K H1 M k gd ((ts.take i).foldl dP (E,G)).1 ((ts.take i).foldl dP (E,G)).2) ⟨none,rfl,Kp.refl _ _,hl,h⟩ ?_ ?_ ?_⟩
  ·rintro i σ H1 _ ⟨o2,rfl,_,i3,_⟩
   exact bc.of i3
  ·rintro i x σ H1 hx ⟨o2,rfl,k1,i3,h1⟩
   obtain⟨⟨p,t⟩,hp,rfl⟩:∃q,ts[i]?=some q∧x=V.int ((q.1:Nat):Int):=by
    rw [List.getElem?_map,List.getElem?_map] at hx
    cases e:ts[i]? with
    | none=>rw [e] at hx; cases hx
    | some w=>rw [e] at hx; cases hx; exact⟨w,rfl,rfl⟩
   have hTi:DL E (ts.take i):=fun q hq=>hT q (List.mem_of_mem_take hq)
   obtain⟨c1,c2,_⟩:=nM (ts.take i) (E,G) hv hTi
   have QC:(ts.take (i+1)).foldl dP (E,G)=dP ((ts.take i).foldl dP (E,G)) (p,t):=by
    rw [List.take_add_one,hp,List.foldl_append]
    rfl
   obtain⟨e,he,ht⟩:=DL.bN c1.st hT (p,t) (List.mem_of_getElem? hp)
   have he:(p,e)∈((ts.take i).foldl dP (E,G)).1:=he
   have ht:e.t=t:=ht
   subst ht
   have hlen:((ts.take i).foldl dP (E,G)).1.length≤900:=by
    have:=congrArg List.length (c6 c1.st)
    rw [List.length_map,List.length_map] at this
    rw [this]
    exact sV
   have XZ:=hv.bN c1.st
   generalize (ts.take i).foldl dP (E,G)=S1 at h1 QC he hlen XZ
   obtain⟨dx,hk⟩:=h1.ob
   obtain⟨yX,h2⟩:=h1.tm.ob
   have ud:=h1.tm.nd.mk he
   have f2:=bT (pr:=M.pr) (lb:=M.lb) (n:="marked_at")
   refine gN ?_
   refine bA.of (af (bF (dH (aI (aY (pv 0) rfl) T.ax T.lH (pb T) (hr.mono (by decide)) T.sJ .nil ar (aa (pv 2) ag))) (af (aQ (aI (pv 0) T.av T.Ib (Wz T) (hr.mono (by decide)) T.Po .nil ar (aa (pv 2) ag)))) aT)) ?_
   dsimp! [hk,h2,HO.ins.injEq,T.av,T.aG,b8,f2]
   obtain⟨xs,es,kg⟩:=h1.tm.there he
   refine⟨M,xs,es,p,e,rfl,kg,_,rfl,?_⟩
   rw [QC]
   unfold dP
   show if _ then _ else _
   cases em:e.cH with
   | false=>
    refine cX ⟨k1,i3,?_⟩
    rw [if_neg (by show ¬bQ S1.1 p=true; rw [ud,em]; exact Bool.false_ne_true)]
    exact h1
   | true=>
    refine fB ⟨_,_,hk,cU,M,k,gd,S1.1,S1.2,p,e,rfl,h1,he,XZ,hlen,fun H2 k2 h2=>⟨k1.trans k2,k2 _ _ (fun z=>?_) i3,?_⟩⟩
    ·rcases z with z | z
     ·exact nl z
     ·exact Jl z
    ·rw [if_pos (by show bQ S1.1 p=true; rw [ud,em])]
     exact h2
  ·rintro σ H1 ⟨o2,rfl,k1,i3,h1⟩
   rw [List.length_map,List.length_map,List.take_length] at h1
   exact q H1 k1 h1
noncomputable def gw (a:da) (K:PySem.W.Frag):Sp:=fun vs H Q _=>∃X M k gd E G,vs=[.ref k]∧MS a K H M k gd E G∧BC X E G∧VE E∧E.length≤900 ∧
 ∀H' E',Kp (fun b=>M.own b∨b=gd) H H'→MS a K H' M k gd E' []→Rel E E'→BC X E' []→ms (E',[])≤ms (E,G)→(G≠[]→ms (E',[]) < ms (E,G))→Q .aP H'
theorem QD (T:Txt K mg a):aN P w K mg base cx 12 a.Hq a.Hr ["self"] (gw a K):=by
 refine T.Dr.ok Zm (fun vs H Q E h=>?_) (fun bI A outer s H vs Q E hr h=>?_)
 ·obtain⟨_,_,_,_,_,_,rfl,_⟩:=h
  rfl
 ·obtain⟨X,M,k,gd,E,G,rfl,h,hb,hv,sV,q⟩:=h
  refine⟨_,(af (lB PassesOwn.never az)),?_⟩
  dsimp! []
  refine ww2 (fun m σ H1=>∃E1 G1,σ=[some (.ref k)]∧Kp (fun b=>M.own b∨b=gd) H H1∧MS a K H1 M k gd E1 G1∧Rel E E1∧BC X E1 G1∧m=ms (E1,G1)∧(ms (E1,G1) < ms (E,G)∨(E1,G1)=(E,G)))
   (fun σ H1=>∃E1,σ=[some (.ref k)]∧Kp (fun b=>M.own b∨b=gd) H H1∧MS a K H1 M k gd E1 []∧Rel E E1∧BC X E1 []∧(ms (E1,[]) < ms (E,G)∨(E1,[])=(E,G))) (ms (E,G)) ⟨E,G,rfl,Kp.refl _ _,h,.refl _,hb,rfl,.inr rfl⟩ ?_ ?_
  ·rintro m σ H1 ⟨E1,G1,rfl,k1,h1,r1,b1,rfl,hm⟩
   obtain⟨dx,hk⟩:=h1.ob
   have f3:=cU (m:=M.p) (g:=gd) (n:="has_grey")
   refine g_.of (dH (c4 (pv 0) T.av T.HX (QA T) (hr.mono (by decide)) T.UI .nil ar)) ?_
   dsimp! [hk,HO.ins.injEq,f3,iw]
   refine⟨M,gd,E1,G1,h1,?_⟩
   cases G1 with
   | nil=>
    rw [if_neg (by decide)]
    exact⟨k1,E1,h1,r1,b1,hm⟩
   | cons p G2=>
    rw [if_pos (by simp)]
    obtain⟨e,he,ud⟩:=h1.gm p List.mem_cons_self
    obtain⟨hn,hh,nH⟩:=(hv.bN r1.st).hold he
    obtain⟨c1,c2,c3⟩:=Cw h1.tm.nd he ud hh nH b1
    have hlen:E1.length≤900:=by
     have:=congrArg List.length (c6 r1.st)
     rw [List.length_map,List.length_map] at this
     rw [this]
     exact sV
    have f4:=cU (m:=M.p) (g:=gd) (n:="step")
    refine bA.of (af (aQ (c4 (pv 0) T.av T.AD (Jn T) (hr.mono (by decide)) T.HY .nil ar))) ?_
    dsimp! [hk,HO.ins.injEq,f4]
    refine⟨M,k,gd,E1,G2,p,e,hn,rfl,h1,he,hh,nH,hlen,fun H2 k2 h2=>⟨_,c3,k1.trans k2,_,_,h2,r1.trans c1,c2,rfl,.inl ?_⟩⟩
    rcases hm with hm | hm
    ·exact Nat.lt_trans c3 hm
    ·rw [←hm]
     exact c3
  ·rintro σ H1 ⟨E1,rfl,k1,h1,r1,b1,hm⟩
   refine q H1 E1 k1 h1 r1 b1 ?_ fun hG=>?_
   ·rcases hm with hm | hm
    ·omega
    ·rw [hm]; exact Nat.le_refl _
   ·rcases hm with hm | hm
    ·exact hm
    ·cases hm
     exact absurd rfl hG
theorem Kp.aaa {K:PySem.W.Frag}{S:Addr→Prop}{H H':Hp}(k:Kp S H H') (tb:∀b,S b→∃ps,H b=some (.iW ps)) {c:Addr}{xs:List V}(h:bU K H c xs):bU K H' c xs:=by
 rcases h with h | h
 ·have n:¬S c:=fun z=>by
   obtain⟨ps,e⟩:=tb c z
   rcases h with h | ⟨o,h⟩ <;> (rw [e] at h; cases h)
  rcases h with h | ⟨o,h⟩
  ·exact .inl (.inl (k _ _ n h))
  ·exact .inl (.inr ⟨o,k _ _ n h⟩)
 ·exact .inr h
theorem cI.kt {S:Addr→Prop}{H H':Hp}{x:V}{v:Vl}(h:cI K H x v) (k:Kp S H H') (tb:∀b,S b→∃ps,H b=some (.iW ps)):cI K H' x v:=by
 obtain⟨t,e,h⟩:=h
 exact⟨t,e,k.aaa tb h⟩
theorem TM.kt {S:Addr→Prop}{H H':Hp}{M:MA}{E:List (Nat×En)}(h:TM a K H M E) (k:Kp S H H') (tb:∀b,S b→∃ps,H b=some (.iW ps)):TM a K H' M E:=by
 obtain⟨xs,R,h1,h2⟩:=h
 have no:∀b u,H b=some u→(∀ps,u≠.iW ps)→¬S b:=fun b u e n z=>by
  obtain⟨ps,e2⟩:=tb b z
  rw [e2] at e
  cases e
  exact n _ rfl
 obtain⟨Me,h5⟩:=h1.mem.ob
 obtain⟨dx6,h6⟩:=h1.mem.R.ob
 refine⟨xs,R,⟨h1.mem.off k (no _ _ h5 (fun _ z=>by cases z)) (no _ _ h6 (fun _ z=>by cases z)) (no _ _ h1.mem.li (fun _ z=>by cases z)) (fun b hb=>?_),fun r hr=>?_⟩,h2⟩
 ·rcases h1.mem.mu b hb with ⟨y,e⟩ | ⟨y,e⟩
  ·exact no _ _ e (fun _ z=>by cases z)
  ·exact no _ _ e (fun _ z=>by cases z)
 ·obtain⟨mid,fx,e1,h7,h3,h4⟩:=(h1.ok r hr).ex
  exact⟨mid,fx,e1,⟨h7.1,fun i x v e1 e2=>(h7.2 i x v e1 e2).kt k tb⟩,h3,fun x hx=>(h4 x hx).kt k tb⟩
theorem MS.kt {S:Addr→Prop}{H H':Hp}{M:MA}{k gd:Addr}{E:List (Nat×En)}{G:List Nat}(h:MS a K H M k gd E G) (kk:Kp S H H') (tb:∀b,S b→∃ps,H b=some (.iW ps)):MS a K H' M k gd E G:=by
 have no:∀b u,H b=some u→(∀ps,u≠.iW ps)→¬S b:=fun b u e n z=>by
  obtain⟨ps,e2⟩:=tb b z
  rw [e2] at e
  cases e
  exact n _ rfl
 obtain⟨dx,h1⟩:=h.ob
 exact⟨h.tm.kt kk tb,⟨dx,kk _ _ (no _ _ h1 (fun _ z=>by cases z)) h1⟩,kk _ _ (no _ _ h.di (fun _ z=>by cases z)) h.di,h.no,h.gm,h.nd⟩
noncomputable abbrev lpP:Pos:=⟨138,34,138,76⟩
noncomputable abbrev lqP:Str:=(Str.ofString "Marking.pairs_by_serial"++Str.ofString ".<locals>.")++Str.ofString "<lambda>"
noncomputable abbrev QE (a:da) (H:Hp):Prop:=Tb a.cz lpP lqP H
noncomputable def prs (E:List (Nat×En)):List (Nat×Tg):=(E.filter fun p=>decide (p.2.t.sort=("pair":Str))).map fun p=>(p.1,p.2.t)
theorem JC {α β:Type}(f:α→β) {x y:List β}(h:x.Perm y):∀l:List α,y=l.map f→∃l':List α,l'.Perm l∧l'.map f=x:=by
 induction h with
 | nil=>
  intro l e
  cases l with
  | nil=>exact⟨[],.refl _,rfl⟩
  | cons a l=>cases e
 | cons z _ ih=>
  intro l e
  cases l with
  | nil=>cases e
  | cons a l=>
   injection e with e1 e2
   obtain⟨l',h1,h2⟩:=ih l e2
   exact⟨a::l',h1.cons a,by rw [List.map_cons,h2,e1]⟩
 | swap u v r=>
  intro l e
  match l,e with
  | b::c::l,e=>
   injection e with e1 e2
   injection e2 with e2 e3
   exact⟨c::b::l,.swap b c l,by rw [List.map_cons,List.map_cons,e1,e2,e3]⟩
 | trans _ _ ih1 ih2=>
  intro l e
  obtain⟨l1,h1,h2⟩:=ih2 l e
  obtain⟨l2,h3,h4⟩:=ih1 l1 h2.symm
  exact⟨l2,h3.trans h1,h4⟩
noncomputable def DN (E:List (Nat×En)) (n:Int):Bool:=E.any fun p=>decide ((p.1:Int)=n)&&decide (p.2.t.sort=("pair":Str))
theorem JD {E:List (Nat×En)}(hA:pd E) {p:Nat}{e:En}(he:(p,e)∈E):DN E (p:Int)=decide (e.t.sort=("pair":Str)):=by
 rw [Bool.eq_iff_iff]
 unfold DN
 rw [List.any_eq_true]
 constructor
 ·rintro⟨q,hq,z⟩
  rw [Bool.and_eq_true] at z
  have h1:(q.1:Int)=(p:Int):=of_decide_eq_true z.1
  have:=hA.same hq he (show q.1=p by omega)
  subst this
  exact z.2
 ·intro z
  exact⟨_,he,by rw [decide_eq_true rfl,z]; rfl⟩
noncomputable def WA (E:List (Nat×En)) (n:Int):Int:=((E.find? fun p=>decide ((p.1:Int)=n)).map fun p=>p.2.dq).getD 0
theorem Mt {E:List (Nat×En)}(hA:pd E) {p:Nat}{e:En}(he:(p,e)∈E):WA E (p:Int)=e.dq:=by
 unfold WA
 cases hf:E.find? fun q=>decide ((q.1:Int)=(p:Int))with
 | none=>
  have:=List.find?_eq_none.mp hf _ he
  simp at this
 | some q=>
  have h0:=List.find?_some hf
  have h1:(q.1:Int)=(p:Int):=by simpa using h0
  have:=hA.same (List.mem_of_find?_eq_some hf) he (show q.1=p by omega)
  subst this
  rfl
theorem JE {E:List (Nat×En)}(hA:pd E):(E.map fun p=>((p.1:Nat):Int)).filter (DN E)=(prs E).map fun q=>((q.1:Nat):Int):=by
 unfold prs
 rw [List.map_map,List.filter_map]
 have e1:E.filter (DN E ∘ fun p=>((p.1:Nat):Int))=E.filter fun p=>decide (p.2.t.sort=("pair":Str)):=List.filter_congr fun p hp=>JD hA hp
 rw [e1]
 rfl
noncomputable def y9 (a:da) (K:PySem.W.Frag):Sp:=fun vs H Q _=>∃M k gd E G,vs=[.ref k]∧MS a K H M k gd E G∧E.length < 64∧QE a H ∧
 ∀(l:Addr) (H':Hp) (ts:List (Nat×Tg)),d5 a.cz H H'→QE a H'→H l=none→H' l=some (.lst ((ts.map fun q=>((q.1:Nat):Int)).map V.int))→ts.Perm (prs E)→MS a K H' M k gd E G→Q (.ref l) H'
theorem WB (T:Txt K mg a) (B:BM mg base):aN P w K mg base cx 9 a.wW a.Cd ["self"] (y9 a K):=by
 refine T.mi.okC Ha (fun vs H Q E h=>?_) (fun bI A outer s H vs Q E ve hr h=>?_)
 ·obtain⟨_,_,_,_,_,rfl,_⟩:=h
  rfl
 ·obtain⟨M,k,gd,E,G,rfl,h,LU,hT,q⟩:=h
  refine⟨_,(aj (Fd (j:=1) rfl Ha.nd rfl rfl (C9 (x:="place") (ns:=["self"]) (fr:=[0]) rfl (by decide +kernel) rfl (by decide +kernel) rfl (List.forall_mem_cons.mpr ⟨rfl,List.forall_mem_nil _⟩) rfl rfl (List.forall_mem_cons.mpr ⟨⟨rfl,rfl,.inl rfl⟩,List.forall_mem_nil _⟩) (by decide +kernel)) (dn (c4 (aY (pv 0) rfl) T.ax T.IB (V1 T) (hr.mono (by decide)) T.P7 .nil ar)) (fun _ _ _ _=>(pv 0)) (fun _ _ _ _=>(.one (aA cA (aI (nB (K:=K) rfl (pv 1) rfl) T.ax T.t7 (AM T) (hr.mono (by decide)) T.Ck .nil ar (aa (pv 0) ag)) aX (aE _))))) (af (aw (An (B:=B) (i:=0) (k:=3) rfl T.eY (pv 1) (hr.mono (by decide)) ⟨rfl,rfl,rfl,rfl,rfl,by decide,by decide,by decide⟩ rfl rfl rfl (ve.symm.trans T.Hw) T.t5 rfl rfl (fun _ _ _ _=>rfl) (fun _ _ _ _=>have hr:=(c7.deeper (c7.in1 (c7.in1 (hr.mono (by decide:5≤8)))) _); (aI (nB (K:=K) rfl (pv 1) rfl) T.ax T.Iw (VI T) (hr.mono (by decide)) T.P2 .nil ar (aa (pv 0) ag))))))),?_⟩
  obtain⟨dx,h1⟩:=h.ob
  obtain⟨yX,h2⟩:=h.tm.ob
  have f1:=bT (pr:=M.pr) (lb:=M.lb) (n:="places")
  have f2:=bT (pr:=M.pr) (lb:=M.lb) (n:="sort_at")
  have f3:=bT (pr:=M.pr) (lb:=M.lb) (n:="serial_at")
  dsimp! [h1,h2,HO.ins.injEq,T.av,T.aG,b8,f1]
  obtain⟨xs,R,hR,eR⟩:=id h.tm
  have hA:=h.tm.nd
  have hRl:R.length=E.length:=by rw [←eR,List.length_map]
  refine⟨M,xs,_,rfl,hR.mem,by rw [List.length_map]; omega,fun l ns H1 s1 hl i3 hp hs=>⟨l,rfl,⟨_,bc.of i3⟩,fun D hD=>?_⟩⟩
  rw [V3] at hp
  have ep:V2 R=E.map fun p=>((p.1:Nat):Int):=by
   rw [←eR,List.map_map]
   rfl
  rw [ep] at hp
  have hnl:ns.length=E.length:=by rw [hp.length_eq,List.length_map]
  have at_:∀n∈ns,∃p e,n=((p:Nat):Int)∧(p,e)∈E:=fun n hn=>by
   obtain⟨⟨p,e⟩,h3,h4⟩:=List.mem_map.mp (hp.mem_iff.mp hn)
   exact⟨p,e,h4.symm,h3⟩
  have Mh:=h.same s1
  have DC:=hT.same s1
  have agI:H1 D=none:=hD
  refine lcl (ns.map V.int) (fun i ys H2=>au H1 H2∧H2 D=some (.lst ys)∧ys=(((ns.take i).filter (DN E)).map V.int)) ⟨.put hD,ae,rfl⟩ ?_ ?_ ?_
  ·rintro i ys H2 _ ⟨s2,_⟩
   exact bc.of (s2 _ _ i3)
  ·rintro i m x ys H2 hm hx ⟨s2,hD2,rfl⟩
   rw [List.getElem?_map,Option.map_eq_some_iff] at hx
   obtain⟨n,hn,rfl⟩:=hx
   obtain⟨p,e,rfl,he⟩:=at_ n (List.mem_of_getElem? hn)
   have X0:=Mh.same s2
   obtain⟨dx3,Wb⟩:=X0.ob
   obtain⟨dx4,h24⟩:=X0.tm.ob
   obtain⟨xs3,es3,kg⟩:=X0.tm.there he
   have Mv:=JD hA he
   rw [List.length_map] at hm
   have etk:(ns.take (i+1)).filter (DN E)=(ns.take i).filter (DN E)++(if DN E (p:Int)=true then [(p:Int)] else []):=by
    rw [List.take_add_one,hn,List.filter_append]
    congr 1
    show List.filter (DN E) [(p:Int)]=_
    rw [List.filter_cons,List.filter_nil]
   have fl:((ns.take i).filter (DN E)).length≤64:=by
    have h5:=List.length_filter_le (DN E) (ns.take i)
    rw [List.length_take] at h5
    omega
   dsimp! [aV,Wb,h24,HO.ins.injEq,T.av,T.aG,b8,f2]
   refine⟨_,rfl,k,rfl,_,_,_,Wb,T.av,T.aG,_,b8 _ _,M.p,rfl,_,_,h24,f2,M,xs3,es3,p,e,rfl,kg,?_⟩
   rw [List.length_map]
   dsimp only
   refine⟨rfl,?_⟩
   by_cases sY:e.t.sort=("pair":Str)
   ·rw [if_pos (by rw [sY]; exact decide_eq_true rfl)]
    refine OV.mk hm hD2 (by rw [List.length_map]; omega) ⟨s2.putD hD,ae,?_⟩
    rw [etk,Mv,if_pos (decide_eq_true sY),List.map_append]
    rfl
   ·rw [if_neg (fun z=>sY (V.str.inj (of_decide_eq_true z)))]
    refine YR.mk hm ⟨s2,hD2,?_⟩
    rw [etk,Mv,if_neg (fun z=>sY (of_decide_eq_true z)),List.append_nil]
  ·rintro ys H2 ⟨s2,hD2,rfl⟩
   rw [List.length_map,List.take_length] at hD2
   have X0:=Mh.same s2
   have OQ:=DC.same s2
   obtain⟨ps,eps⟩:=OQ.iW
   refine⟨ns.filter (DN E),bc.of hD2,by have:=List.length_filter_le (DN E) ns; omega,OQ,WA E,fun H3 s3 n hn=>?_,fun D2 H3 ns3 hD3 s3 K_ Mb K5 _=>?_⟩
   ·obtain⟨p,e,rfl,he⟩:=at_ n (List.mem_filter.mp hn).1
    have h3M:=X0.kt (S:=(·=a.cz)) (H':=H3) (fun b o n e=>s3 b o n e) (fun b e=>⟨ps,by rw [e]; exact eps⟩)
    obtain⟨dx3,Wb⟩:=h3M.ob
    obtain⟨dx4,h24⟩:=h3M.tm.ob
    obtain⟨xs3,es3,kg⟩:=h3M.tm.there he
    exact⟨_,_,_,Wb,T.av,T.aG,_,b8 _ _,M.p,rfl,_,_,h24,f3,M,xs3,es3,p,e,rfl,kg,by rw [Mt hA he],rfl⟩
   ·have h3M:=X0.kt (S:=(·=a.cz)) (H':=H3) (fun b o n e=>s3 b o n e) (fun b e=>⟨ps,by rw [e]; exact eps⟩)
    have hpp:ns3.Perm ((prs E).map fun q=>((q.1:Nat):Int)):=by
     rw [←JE hA]
     exact K5.trans (hp.filter _)
    obtain⟨ts,ht1,ht2⟩:=JC (fun q:Nat×Tg=>((q.1:Nat):Int)) hpp (prs E) rfl
    rw [←ht2] at Mb
    exact q D2 H3 ts ((d5.of (s1.trans s2)).trans s3) K_ ((s1.trans s2).free hD3) Mb ht1 h3M
theorem uq {H H':Hp}{M:MA}{k gd:Addr}{E:List (Nat×En)}{G:List Nat}(t:QE a H) (h:MS a K H M k gd E G) (kk:Kp (fun b=>M.own b∨b=gd) H H'):QE a H':=by
 have no:∀b u,H b=some u→(∀xs,u≠.lst xs)→(∀xs,u≠.dK xs)→¬(M.own b∨b=gd):=fun b u e n1 n2 z=>by
  rcases z with z | rfl
  ·rcases h.tm.mu b z with ⟨y,e2⟩ | ⟨y,e2⟩
   ·rw [e] at e2
    cases e2
    exact n1 _ rfl
   ·rw [e] at e2
    cases e2
    exact n2 _ rfl
  ·have e2:=h.di
   rw [e] at e2
   cases e2
   exact n2 _ rfl
 rcases t with t | ⟨c',t,u⟩
 ·exact .inl (kk _ _ (no _ _ t (fun _ z=>by cases z) (fun _ z=>by cases z)) t)
 ·exact .inr ⟨c',kk _ _ (no _ _ t (fun _ z=>by cases z) (fun _ z=>by cases z)) t,kk _ _ (no _ _ u (fun _ z=>by cases z) (fun _ z=>by cases z)) u⟩
noncomputable def JF (a:da) (K:PySem.W.Frag):Sp:=fun vs H Q _=>∃X M k gd E G,vs=[.ref k]∧MS a K H M k gd E G∧BC X E G∧VE E∧E.length < 64∧QE a H ∧
 ∀H' E',Kp (fun b=>M.own b∨b=gd∨b=a.cz) H H'→QE a H'→MS a K H' M k gd E' []→Rel E E'→CB X E'→Q .aP H'
theorem aab (T:Txt K mg a) (B:BM mg base):aN P w K mg base cx 13 a.Hn a.Ho ["self"] (JF a K):=by
 refine T.Dq.ok O4 (fun vs H Q E h=>?_) (fun bI A outer s H vs Q E hr h=>?_)
 ·obtain⟨_,_,_,_,_,_,rfl,_⟩:=h
  rfl
 ·obtain⟨X,M,k,gd,E,G,rfl,h,hb,hv,LU,hT,q⟩:=h
  refine⟨_,(aj (aR (i:=1) O4.nd rfl (Or.inl rfl) (c4 (pv 0) T.av T.H_ (WB T B) (hr.mono (by decide)) T.Pn .nil ar)) (aj (aQ (c4 (pv 0) T.av T.HZ (QD T) (hr.mono (by decide)) T.UJ .nil ar)) (aj (aQ (aI (pv 0) T.av T.AE (JB T) (hr.mono (by decide)) T.Ia .nil ar (aa (pv 1) ag))) (af (lB PassesOwn.never az))))),?_⟩
  obtain⟨dx,h1⟩:=h.ob
  have g1:=cU (m:=M.p) (g:=gd) (n:="pairs_by_serial")
  have g2:=cU (m:=M.p) (g:=gd) (n:="empty_row")
  have g3:=cU (m:=M.p) (g:=gd) (n:="shade_values")
  have g4:=cU (m:=M.p) (g:=gd) (n:="has_grey")
  dsimp! [h1,HO.ins.injEq,g1,y9,gw]
  refine⟨M,gd,E,G,h,LU,hT,fun l H1 ts s1 DC hl i3 hp h1M=>?_⟩
  have Ej:DL E ts:=fun x hx=>by
   obtain⟨⟨p,e⟩,h3,rfl⟩:=List.mem_map.mp (hp.mem_iff.mp hx)
   exact⟨e,(List.mem_filter.mp h3).1,rfl⟩
  have EU:∀E1,bN E1=bN E→∀p e,(p,e)∈E1→e.t.sort=("pair":Str)→(p,e.t)∈ts:=fun E1 hs p e he sY=>by
   obtain⟨e0,h3,h4,_⟩:=cV hs he
   refine hp.mem_iff.mpr (List.mem_map.mpr ⟨(p,e0),List.mem_filter.mpr ⟨h3,decide_eq_true (by rw [h4]; exact sY)⟩,?_⟩)
   rw [←h4]
  have nl:¬M.own l:=h.tm.gH hl
  have len:∀E1,bN E1=bN E→E1.length≤900:=fun E1 hs=>by
   have:=congrArg List.length (c6 hs)
   rw [List.length_map,List.length_map] at this
   omega
  have Jl:l≠gd:=cL i3 h1M.di (by intro z; cases z)
  have nlk:¬(M.own l∨l=gd):=fun z=>z.elim nl Jl
  obtain⟨dx1,JG⟩:=h1M.ob
  refine⟨_,_,JG,g2,X,M,gd,E,G,h1M,hb,hv,len E rfl,fun H2 E2 k2 h2 r2 b2 m2 m2'=>?_⟩
  have OQ:=uq DC h1M k2
  have g5:=k2 _ _ nlk i3
  obtain⟨yX,La⟩:=h2.ob
  refine⟨_,_,La,g3,M,k,gd,E2,[],l,ts,rfl,h2,g5,nl,DL.bN r2.st Ej,hv.bN r2.st,len E2 r2.st,fun H3 k3 h3=>?_⟩
  obtain⟨c1,c2,c3⟩:=nM ts (E2,[]) (hv.bN r2.st) (DL.bN r2.st Ej)
  have K_:=uq OQ h2 k3
  have Mb:=k3 _ _ nlk g5
  have b3:=BC.dY (S:=(E2,[])) h2.tm.nd b2 c1
  have cl3:(ts.foldl dP (E2,[])).2=[]→∀x∈ts,bQ (ts.foldl dP (E2,[])).1 x.1=true→∀kn vn,x.2.wt=some (kn,some vn)→bQ (ts.foldl dP (E2,[])).1 kn=true→bQ (ts.foldl dP (E2,[])).1 vn=true:=fun z=>by
   obtain⟨z1,z2⟩:=c3 z
   rw [z1]
   exact z2
  have r3:=r2.trans c2
  have k03:Kp (fun b=>M.own b∨b=gd∨b=a.cz) H H3:=fun b o n e=>k3 b o (fun z=>n (z.elim .inl fun z=>.inr (.inl z))) (k2 b o (fun z=>n (z.elim .inl fun z=>.inr (.inl z))) (s1 b o (fun z=>n (.inr (.inr z))) e))
  generalize ts.foldl dP (E2,[])=S3 at h3 b3 cl3 r3
  refine ww2 (fun m σ H4=>∃E1 G1,σ=[some (.ref k),some (.ref l)]∧Kp (fun b=>M.own b∨b=gd∨b=a.cz) H H4∧QE a H4∧H4 l=some (.lst ((ts.map fun q=>((q.1:Nat):Int)).map V.int))∧MS a K H4 M k gd E1 G1∧Rel E E1∧BC X E1 G1∧m=ms (E1,G1)∧(G1=[]→∀x∈ts,bQ E1 x.1=true→∀kn vn,x.2.wt=some (kn,some vn)→bQ E1 kn=true→bQ E1 vn=true))
   (fun σ H4=>∃E1,Kp (fun b=>M.own b∨b=gd∨b=a.cz) H H4∧QE a H4∧MS a K H4 M k gd E1 []∧Rel E E1∧BC X E1 []∧∀x∈ts,bQ E1 x.1=true→∀kn vn,x.2.wt=some (kn,some vn)→bQ E1 kn=true→bQ E1 vn=true) (ms S3) ⟨S3.1,S3.2,rfl,k03,K_,Mb,h3,r3,b3,rfl,cl3⟩ ?_ ?_
  ·rintro m σ H4 ⟨E1,G1,rfl,k4,K8,Mc,h4,r4,b4,rfl,cl4⟩
   obtain⟨dx4,hk4⟩:=h4.ob
   refine g_.of (dH (c4 (pv 0) T.av T.HX (QA T) (hr.mono (by decide)) T.UI .nil ar)) ?_
   dsimp! [hk4,HO.ins.injEq,g4,iw]
   refine⟨M,gd,E1,G1,h4,?_⟩
   cases hG:G1 with
   | nil=>
    subst hG
    rw [if_neg (by decide)]
    exact⟨k4,K8,E1,h4,r4,b4,cl4 rfl⟩
   | cons p G2=>
    rw [if_pos (by simp)]
    rw [←hG]
    refine bA.of (aj (aQ (c4 (pv 0) T.av T.HZ (QD T) (hr.mono (by decide)) T.UJ .nil ar)) (af (aQ (aI (pv 0) T.av T.AE (JB T) (hr.mono (by decide)) T.Ia .nil ar (aa (pv 1) ag))))) ?_
    dsimp! [hk4,HO.ins.injEq,g2,gw]
    refine⟨X,M,gd,E1,G1,h4,b4,hv.bN r4.st,len E1 r4.st,fun H5 E5 k5 h5 r5 b5 m5 m5'=>?_⟩
    have hT5:=uq K8 h4 k5
    have QB:=k5 _ _ nlk Mc
    obtain⟨Me,WC⟩:=h5.ob
    have Lk:=(r4.trans r5).st
    refine⟨_,_,WC,g3,M,k,gd,E5,[],l,ts,rfl,h5,QB,nl,DL.bN Lk Ej,hv.bN Lk,len E5 Lk,fun H6 k6 h6=>?_⟩
    obtain⟨d1,d2,d3⟩:=nM ts (E5,[]) (hv.bN Lk) (DL.bN Lk Ej)
    refine⟨_,Nat.lt_of_le_of_lt d1.ms (m5' (by rw [hG]; exact List.cons_ne_nil _ _)),fun b o n e=>k6 b o (fun z=>n (z.elim .inl fun z=>.inr (.inl z))) (k5 b o (fun z=>n (z.elim .inl fun z=>.inr (.inl z))) (k4 b o n e)),uq hT5 h5 k6,k6 _ _ nlk QB,_,_,h6,(r4.trans r5).trans d2,BC.dY (S:=(E5,[])) h5.tm.nd b5 d1,rfl,fun z=>?_⟩
    obtain⟨z1,z2⟩:=d3 z
    rw [z1]
    exact z2
  ·rintro σ H4 ⟨E1,k4,K8,h4,r4,b4,cl4⟩
   exact q H4 E1 k4 K8 h4 r4 (Wx b4 (EU E1 r4.st) h4.tm.nd cl4)
noncomputable def vD (v:Vl):D:=.tup (v.items.map fD)
theorem cI.isD {H:Hp}{x:V}{v:Vl}(h:cI K H x v):jl K H x (vD v):=by
 obtain⟨t,rfl,ht⟩:=h
 refine .YQ ht fun x hx=>?_
 cases v with
 | no=>
  rw [List.mem_singleton.mp hx]
  rfl
 | num n=>
  simp only [Vl.items,List.mem_cons,List.not_mem_nil,or_false] at hx
  rcases hx with rfl | rfl <;> rfl
 | th n=>
  simp only [Vl.items,List.mem_cons,List.not_mem_nil,or_false] at hx
  rcases hx with rfl | rfl <;> rfl
theorem WD (v:Vl):(vD v).dep=1:=by rw [vD,D.dep,rl]
theorem WE:¬(("plain":Str)="weak"):=by decide +kernel
theorem aeV:¬(("pair":Str)="weak"):=by decide +kernel
theorem aac:¬(("plain":Str)="pair"):=by decide +kernel
theorem WG:¬(("weak":Str)="pair"):=by decide +kernel
theorem aad:¬(("weak":Str)="plain"):=by decide +kernel
theorem aae:¬(("pair":Str)="plain"):=by decide +kernel
theorem JH:¬(("number":Str)="thing"):=by decide +kernel
theorem aaf {u:Vl}{z:Int}(h:(if false=true then !br (vD u) (vD (.th z))else br (vD u) (vD (.th z)))=true):u=.th z:=by
 rw [if_neg Bool.false_ne_true] at h
 cases u with
 | no=>simp [vD,Vl.items,br,gI] at h
 | num m=>simp [vD,Vl.items,fD,br,gI] at h; exact absurd h.1 JH
 | th y=>simp [vD,Vl.items,fD,br,gI] at h; rw [h]
noncomputable def WH (a:da) (K:PySem.W.Frag):Sp:=fun vs H Q _=>∃M st sd nd E N kvs l,∃way one two three at_:Int,∃p:Nat,vs=[.ref st,.ref l]∧FS a K H M st sd nd E N kvs∧kj K H l way one two three at_∧aM kvs (Sum.inl two)=some (.int (p:Nat)) ∧
 ∀(H':Hp) x v,au H H'→cI K H' x v→(∀z,v=Vl.th z→∃q:Nat,z=(q:Int)∧q∈E.map (·.1)∧(way≠6→∀od G,Jv od E G kvs→od=true→mE E G q))→Q x H'
theorem WI (T:Txt K mg a):aN P w K mg base cx 1 a.yB a.yC ["_law_state","_law_parts"] (WH a K):=by
 refine T.oO.ok jz (fun vs H Q E h=>?_) (fun bI A outer s H vs Q E hr h=>?_)
 ·obtain⟨_,_,_,_,_,_,_,_,_,_,_,_,_,_,rfl,_⟩:=h
  rfl
 ·obtain⟨M,st,sd,nd,E,N,kvs,l,way,one,two,three,at_,p,rfl,h,hp,e2,q⟩:=h
  refine⟨_,(aj (gY (pv 1) (tR (n:=5) rfl (aZ (aJ (i:=2) jz.nd rfl (Or.inl rfl)) (aZ (aJ (i:=3) jz.nd rfl (Or.inl rfl)) (aZ (aJ (i:=4) jz.nd rfl (Or.inl rfl)) (aZ (aJ (i:=5) jz.nd rfl (Or.inl rfl)) (aZ (aJ (i:=6) jz.nd rfl (Or.inl rfl)) gb))))))) (aj (aR (i:=7) jz.nd rfl (Or.inl rfl) (cJ (bO hr) (aC aB (pv 0) ak (fun _ _=>rfl)) (cJ (bO hr) (aC aB (pv 0) ak (fun _ _=>rfl)) (pv 4) (fun _ _=>rfl)) (fun _ _=>rfl))) (aj (bF (PW.pt (dI (aA cA (pv 2) ak (aE _)) (dI (aA cA (aC aB (pv 7) ak (fun _ _=>rfl)) aX (aE _)) (eD (aA q_ (pv 6) (bJ cB rfl T.eC dW (aa (aC aB (pv 7) ak (fun _ _=>rfl)) ag)) (aE _)))))) (af (aw (aC bS (aC aB (pv 7) ak (fun _ _=>rfl)) (pv 6) (fun _ _=>rfl)))) aT) (aj (bF (PW.pt (dI (aA cA (pv 2) ak (aE _)) (eD (aA cA (aC aB (pv 7) ak (fun _ _=>rfl)) aX (aE _))))) (af (aw (aC bS (aC aB (pv 7) ak (fun _ _=>rfl)) ak (fun _ _=>rfl)))) aT) (aj (bF (PW.pt (dI (aA cA (pv 2) ak (aE _)) (dI (aA cA (aC aB (pv 7) ak (fun _ _=>rfl)) aX (aE _)) (eD (aA (S6 hr.units) (aC bS (aC aB (pv 7) ak (fun _ _=>rfl)) ak (fun _ _=>rfl)) (dA (aa aX (aa (Fz (bO hr) (aC aB (pv 0) ak (fun _ _=>rfl)) (pv 5) (OF ED ak) ⟨rfl,rfl,rfl,rfl⟩) ag))) (aE _)))))) (af (aw (aC bS (aC aB (pv 7) ak (fun _ _=>rfl)) ak (fun _ _=>rfl)))) aT) (aj (bF (aA cA (pv 2) ak (aE _)) (af (aw (dA (aa aX (aa (cJ (bO hr) (aC aB (pv 0) ak (fun _ _=>rfl)) (pv 4) (fun _ _=>rfl)) ag))))) aT) (af (aw (dA (aa aX ag)))))))))),?_⟩
  dsimp! []
  obtain⟨p',ep,Cz⟩:=h.nm.get e2
  have XN:p=p':=by
   have:=V.int.inj ep
   omega
  subst XN
  obtain⟨i,e,n,hE,hN,hi⟩:=h.mem Cz
  obtain⟨kq,fx,p8,zS,El⟩:=h.row i _ n hE hN
  refine⟨_,hp.sq,rfl,_,_,rfl,_,_,rfl,_,_,rfl,_,_,rfl,_,_,rfl,rfl,?_⟩
  have no:∀H1,au H H1→1≤sizeLine∧∀(p:Addr),H1 p=none→Q (V.ref p) (upd H1 p (HO.tup [V.str "nothing"])):=fun H1 s1=>⟨by simp [sizeLine_eq],fun p hp=>q _ _ .no (s1.trans (au.put hp)) ⟨p,rfl,bU.of ae⟩ fun z e=>by cases e⟩
  have fld:∀(j:Nat) x,fx[j]?=some x→∃v,cI K H x v∧e.t.fs[j]?=some v∧∀z,v=Vl.th z→∃q:Nat,z=(q:Int)∧q∈E.map (·.1):=fun j x hx=>by
   have hj:=(List.getElem?_eq_some_iff.mp hx).1
   have hv:e.t.fs[j]?=some (e.t.fs[j]'(by rw [zS.1]; exact hj)):=List.getElem?_eq_getElem _
   exact⟨_,zS.2 j x _ hx hv,hv,fun z ez=>h.cls _ (List.mem_of_getElem? hE) z (ez▸List.mem_of_getElem? hv)⟩
  have y_:=List.mem_of_getElem? hE
  have r0:=au.refl H
  refine⟨st,_,_,_,rfl,rfl,bU.of h.tup,rfl,st,_,_,_,rfl,rfl,bU.of h.tup,rfl,nd,rfl,_,by rw [←e2]; exact c8.k (k:=Sum.inl two) h.na,sd,rfl,_,by rw [←nI h.nd hi hN]; exact c8.k (k:=Sum.inl (p:Int)) h.sh,rfl,?_⟩
  by_cases w5:way=5
  ·subst w5
   refine fB ⟨n.1,_,_,_,rfl,rfl,bU.of kq,rfl,rfl,cQ (fun hs=>⟨n.1,_,_,_,rfl,rfl,bU.of kq,rfl,n.2,rfl,fx,.inl (bc.of p8),at_,rfl,cQ (fun z=>?_) fun _=>⟨rfl,cX ⟨rfl,cX ⟨rfl,cX (no _ r0)⟩⟩⟩⟩) fun _=>⟨rfl,cX ⟨rfl,cX ⟨rfl,cX (no _ r0)⟩⟩⟩⟩
   obtain⟨an,ea⟩:∃an:Nat,at_=(an:Int):=⟨at_.toNat,by have:=hp.a_.1; omega⟩
   subst ea
   have fg:an < fx.length:=by
    have:=of_decide_eq_true z
    omega
   have hx:fx[an]?=some fx[an]:=List.getElem?_eq_getElem fg
   obtain⟨v,hv,hvf,cv⟩:=fld an _ hx
   refine⟨n.1,_,_,_,rfl,rfl,bU.of kq,rfl,n.2,fx,_,_,rfl,rfl,bc.of p8,b9 hx,q H _ v r0 hv fun z ez=>?_⟩
   obtain⟨r,JI,f9⟩:=cv z ez
   refine⟨r,JI,f9,fun _ od G hJ zo=>?_⟩
   have hs:e.t.sort="plain":=V.str.inj (of_decide_eq_true hs)
   cases et:e.t with
   | plain fs w=>
    rw [et] at hvf
    exact hJ.fld zo (hJ.nm zo _ _ e2) y_ (by rw [et]; exact List.mem_filterMap.mpr ⟨v,List.mem_of_getElem? hvf,by rw [ez,JI]; rfl⟩)
   | weak f=>rw [et] at hs; exact absurd hs aad
   | pair k v=>rw [et] at hs; exact absurd hs aae
  by_cases w6:way=6
  ·subst w6
   refine cX ⟨rfl,fB ⟨n.1,_,_,_,rfl,rfl,bU.of kq,rfl,rfl,cQ (fun z=>?_) fun _=>⟨rfl,cX ⟨rfl,cX (no _ r0)⟩⟩⟩⟩
   have hs:e.t.sort="weak":=V.str.inj (of_decide_eq_true z)
   have fg:0 < fx.length:=by
    rw [←zS.1]
    cases et:e.t with
    | plain fs w=>rw [et] at hs; exact absurd hs WE
    | weak f=>exact Nat.zero_lt_one
    | pair k v=>rw [et] at hs; exact absurd hs aeV
   have hx:fx[0]?=some fx[0]:=List.getElem?_eq_getElem fg
   obtain⟨v,hv,_,cv⟩:=fld 0 _ hx
   exact⟨n.1,_,_,_,rfl,rfl,bU.of kq,rfl,n.2,fx,_,_,rfl,rfl,bc.of p8,b9 hx,q H _ v r0 hv fun z ez=>(cv z ez).imp fun r hr=>⟨hr.1,hr.2,fun z6=>absurd rfl z6⟩⟩
  by_cases w7:way=7
  ·subst w7
   refine cX ⟨rfl,cX ⟨rfl,fB ⟨n.1,_,_,_,rfl,rfl,bU.of kq,rfl,rfl,cQ (fun z=>?_) fun _=>⟨rfl,cX (no _ r0)⟩⟩⟩⟩
   have hs:e.t.sort="pair":=V.str.inj (of_decide_eq_true z)
   have fg:1 < fx.length:=by
    rw [←zS.1]
    cases et:e.t with
    | plain fs w=>rw [et] at hs; exact absurd hs aac
    | weak f=>rw [et] at hs; exact absurd hs WG
    | pair k v=>exact Nat.lt_succ_self 1
   have Mw:fx[0]?=some fx[0]:=List.getElem?_eq_getElem (by omega)
   have hx:fx[1]?=some fx[1]:=List.getElem?_eq_getElem fg
   obtain⟨u,hu,huf,cu⟩:=fld 0 _ Mw
   obtain⟨v,hv,hvf,cv⟩:=fld 1 _ hx
   refine⟨n.1,_,_,_,rfl,rfl,bU.of kq,rfl,n.2,fx,_,_,rfl,rfl,bc.of p8,b9 Mw,?_⟩
   obtain⟨z,ez,hz3⟩:∃z:Int,(aM kvs (Sum.inl three)).getD (V.int (-1))=.int z∧(z=-1∨∃r:Nat,z=(r:Int)∧aM kvs (Sum.inl three)=some (.int (r:Nat))):=by
    cases e3:aM kvs (Sum.inl three)with
    | none=>exact⟨_,rfl,.inl rfl⟩
    | some v3=>
     obtain⟨r,rfl,hr⟩:=h.nm.get e3
     exact⟨_,rfl,.inr ⟨r,rfl,rfl⟩⟩
   refine⟨st,_,_,_,rfl,rfl,bU.of h.tup,rfl,nd,rfl,.inl ⟨_,.inl h.na⟩,_,c8.k (k:=Sum.inl three) h.na,by simp [sizeLine_eq],fun t ht=>?_⟩
   rw [ez]
   have s1:=au.put (o:=.tup [V.str "thing",V.int z]) ht
   have hz:cI K (upd H t (.tup [V.str "thing",V.int z])) (.ref t) (.th z):=⟨t,rfl,bU.of ae⟩
   refine⟨_,_,(hu.same s1).isD,hz.isD,by rw [WD]; decide,_,rfl,cQ (fun hk=>?_) fun _=>⟨rfl,cX (no _ s1)⟩⟩
   refine⟨n.1,_,_,_,rfl,rfl,bU.of (s1 _ _ kq),rfl,n.2,fx,_,_,rfl,rfl,bc.of (s1 _ _ p8),b9 hx,q _ _ v s1 (hv.same s1) fun y ey=>?_⟩
   obtain⟨r,JI,f9⟩:=cv y ey
   refine⟨r,JI,f9,fun _ od G hJ zo=>?_⟩
   have huz:u=.th z:=aaf hk
   cases et:e.t with
   | plain fs w=>rw [et] at hs; exact absurd hs aac
   | weak f=>rw [et] at hs; exact absurd hs WG
   | pair k1 v1=>
    rw [et] at huf hvf
    have e5:k1=u:=Option.some.inj huf
    have e6:v1=v:=Option.some.inj hvf
    rcases hz3 with hz3 | ⟨r3,Jc,hv3⟩
    ·obtain⟨y0,hy0,_⟩:=cu z huz
     omega
    ·exact(hJ.nm zo _ _ e2).wait (kn:=r3) y_ (by rw [et,e5,e6,huz,ey,Jc,JI]; rfl) (hJ.nm zo _ _ hv3)
  by_cases w8:way=8
  ·subst w8
   refine cX ⟨rfl,cX ⟨rfl,cX ⟨rfl,fB ⟨st,_,_,_,rfl,rfl,bU.of h.tup,rfl,nd,rfl,_,by rw [←e2]; exact c8.k (k:=Sum.inl two) h.na,by simp [sizeLine_eq],fun t ht=>q _ _ (.th (p:Int)) (au.put ht) ⟨t,rfl,bU.of ae⟩ fun z ez=>⟨p,(Vl.th.inj ez).symm,Cz,fun _ od G hJ zo=>hJ.nm zo _ _ e2⟩⟩⟩⟩⟩
  have ni:∀k:Int,way≠k→decide (V.int way=V.int k)=false:=fun k z=>decide_eq_false fun y=>z (V.int.inj y)
  rw [ni 5 w5,ni 6 w6,ni 7 w7,ni 8 w8]
  exact cX ⟨rfl,cX ⟨rfl,cX ⟨rfl,cX (no _ r0)⟩⟩⟩
theorem kr (E:List (Nat×En)) (pl:Nat) (e':En):(fX E pl e').map (·.1)=E.map (·.1):=by
 unfold fX
 rw [List.map_map]
 refine List.map_congr_left fun p _=>?_
 show(if p.1=pl then(pl,e')else p).1=p.1
 split
 ·rename_i h; exact h.symm
 ·rfl
theorem Mx {E:List (Nat×En)}(hA:pd E) {pl:Nat}{e e':En}(he:(pl,e)∈E) (hm:e'.cH=e.cH) {q:Nat}{e2:En}(h:(q,e2)∈E) (m:e2.cH=true):∃e3,(q,e3)∈fX E pl e'∧e3.cH=true:=by
 by_cases z:q=pl
 ·subst z
  have ee:=hA.same h he rfl
  cases ee
  exact⟨e',List.mem_map.mpr ⟨_,h,if_pos rfl⟩,hm.trans m⟩
 ·exact⟨e2,List.mem_map.mpr ⟨_,h,if_neg z⟩,m⟩
noncomputable def pT (p:Nat×En):Nat×Tg:=(p.1,p.2.t)
theorem FS.re {S:Addr→Prop}{H H':Hp}{M:MA}{st sd nd:Addr}{E E':List (Nat×En)}{N:List (Addr×Addr)}{kvs:List (Key×V)}(h:FS a K H M st sd nd E N kvs) (k:Kp S H H') (mu:∀b,S b→Mu H b) (ns:¬S sd) (nn:¬S nd) (nf:∀n∈N,¬S n.2) (tm:TM a K H' M E') (he:E'.map pT=E.map pT):FS a K H' M st sd nd E' N kvs:=by
 have nt:∀b xs,H b=some (.tup xs)→¬S b:=fun b xs e z=>(mu b z).vc (.inl e)
 have ef:E'.map (·.1)=E.map (·.1):=by
  have:=congrArg (List.map Prod.fst) he
  rw [List.map_map,List.map_map] at this
  exact this
 have at_:∀(i:Nat) p,E'[i]?=some p→∃p0,E[i]?=some p0∧pT p0=pT p:=fun i p hp=>by
  have:=congrArg (fun l=>l[i]?) he
  simp only [List.getElem?_map,hp] at this
  cases e:E[i]? with
  | none=>rw [e] at this; cases this
  | some p0=>rw [e] at this; exact⟨p0,rfl,(Option.some.inj this).symm⟩
 refine⟨k _ _ (nt _ _ h.tup) h.tup,tm,by rw [ef]; exact k _ _ ns h.sh,k _ _ nn h.na,by rw [ef]; exact h.nm,?_,fun i p n hp hn=>?_,fun p hp z hz=>?_,h.DJ,h.uk,h.kh,h.Qx,h.Cu⟩
 ·rw [←h.len,←List.length_map (f:=pT),he,List.length_map]
 ·obtain⟨p0,h0,e0⟩:=at_ i p hp
  obtain⟨h1,fx,h2,h3,h4⟩:=h.row i p0 n h0 hn
  have et:p0.2.t=p.2.t:=congrArg Prod.snd e0
  rw [←et]
  exact⟨k _ _ (nt _ _ h1) h1,fx,k _ _ (nf n (List.mem_of_getElem? hn)) h2,h3.kp k mu,h4⟩
 ·obtain⟨i,hi⟩:=List.mem_iff_getElem?.mp hp
  obtain⟨p0,h0,e0⟩:=at_ i p hi
  have et:p0.2.t=p.2.t:=congrArg Prod.snd e0
  rw [←et] at hz
  rw [ef]
  exact h.cls p0 (List.mem_of_getElem? h0) z hz
theorem My (E:List (Nat×En)) (pl:Nat):(setM E pl).map pT=E.map pT:=by
 unfold setM
 rw [List.map_map]
 refine List.map_congr_left fun p _=>?_
 show pT (if p.1=pl then(p.1,⟨p.2.t,p.2.dq,true⟩)else p)=pT p
 split <;> rfl
theorem pB (S:List (Nat×En)×List Nat) (pl:Nat):(dY S pl).1.map pT=S.1.map pT:=by
 unfold dY
 split
 ·rfl
 ·exact My _ _
theorem CA:∀(ps:List Nat) (S:List (Nat×En)×List Nat),(ps.foldl dY S).1.map pT=S.1.map pT
 | [],_=>rfl
 | p::ps,S=>(CA ps (dY S p)).trans (pB S p)
structure FM (a:da) (K:PySem.W.Frag) (od:Bool) (Pr:Addr→Prop) (H:Hp) (M:MA) (st sd nd:Addr) (E:List (Nat×En)) (N:List (Addr×Addr)) (kvs:List (Key×V)) (mv:V) (G:List Nat):Prop where
 fs:FS a K H M st sd nd E N kvs
 A0:(mv=.aP∧∀p∈E,p.2.cH=false)∨∃k gd,mv=.ref k∧MS a K H M k gd E G∧gd≠sd∧gd≠nd∧¬Pr gd∧Jv od E G kvs
 po:∀b,Pr b→H b≠none
 pm:∀b,M.own b→¬Pr b
 ps:¬Pr sd
 pn:¬Pr nd
 pf:∀n∈N,¬Pr n.2
theorem iV {S:Addr→Prop}{H H':Hp}(k:Kp S H H') {b:Addr}(n:¬S b) (h:H b≠none):H' b≠none:=by
 cases e:H b with
 | none=>exact absurd e h
 | some o=>rw [k _ _ n e]; intro z; cases z
theorem FM.same {od:Bool}{Pr:Addr→Prop}{H H':Hp}{M:MA}{st sd nd:Addr}{E:List (Nat×En)}{N:List (Addr×Addr)}{kvs:List (Key×V)}{mv:V}{G:List Nat}(h:FM a K od Pr H M st sd nd E N kvs mv G) (k:au H H'):FM a K od Pr H' M st sd nd E N kvs mv G:=
 ⟨h.fs.same k,h.A0.imp_right fun⟨x,gd,h1,h2,h3⟩=>⟨x,gd,h1,h2.same k,h3⟩,fun b hb=>iV (S:=fun _=>False) (au.kp k) (fun z=>z) (h.po b hb),h.pm,h.ps,h.pn,h.pf⟩
theorem MS.to {S:Addr→Prop}{H H':Hp}{M:MA}{k gd:Addr}{E E':List (Nat×En)}{G:List Nat}(h:MS a K H M k gd E G) (s:Kp S H H') (mu:∀b,S b→Mu H b) (n:¬S gd) (tm:TM a K H' M E') (gm:∀p∈G,∃e,(p,e)∈E'∧e.cH=true):MS a K H' M k gd E' G:=by
 obtain⟨dx,hk⟩:=h.ob
 refine⟨tm,⟨dx,s _ _ (fun z=>?_) hk⟩,s _ _ n h.di,h.no,gm,h.nd⟩
 rcases mu _ z with ⟨y,e⟩ | ⟨y,e⟩ <;> (rw [e] at hk; cases hk)
theorem FM.more {od:Bool}{Pr:Addr→Prop}{H H':Hp}{M:MA}{st sd nd:Addr}{E E':List (Nat×En)}{N N':List (Addr×Addr)}{kvs dB:List (Key×V)}{mv:V}{G:List Nat}(h:FM a K od Pr H M st sd nd E N kvs mv G) (k:Kp (FS.own M sd nd) H H') (h':FS a K H' M st sd nd E' N' dB) (hE:∀p∈E,p∈E') (hw:mv=.aP→∀p∈E',p∈E∨p.2.cH=false) (hJ:mv≠.aP→Jv od E G kvs→Jv od E' G dB) (hN:∀n∈N',n∈N∨H n.2=none):FM a K od Pr H' M st sd nd E' N' dB mv G∧Kp (fun b=>¬Pr b) H H':=by
 have np:∀b,Pr b→¬FS.own M sd nd b:=fun b hb z=>by
  rcases z with z | z | z
  ·exact h.pm b z hb
  ·exact h.ps (z▸hb)
  ·exact h.pn (z▸hb)
 refine⟨⟨h',h.A0.imp (fun⟨h1,h2⟩=>⟨h1,fun p hp=>(hw h1 p hp).elim (h2 p) id⟩) fun⟨x,gd,h1,h2,h3,h4,h5,h6⟩=>⟨x,gd,h1,h2.to k h.fs.mu ?_ h'.tm fun p hp=>?_,h3,h4,h5,hJ (by rw [h1]; intro z; cases z) h6⟩,fun b hb=>iV k (np b hb) (h.po b hb),h.pm,h.ps,h.pn,fun n hn=>(hN n hn).elim (h.pf n) fun z y=>h.po _ y z⟩,k.mono fun b z y=>np b y z⟩
 ·rintro(z | z | z)
  ·exact h2.no z
  ·exact h3 z
  ·exact h4 z
 ·obtain⟨e,h7,h8⟩:=h2.gm p hp
  exact⟨e,hE _ h7,h8⟩
theorem FM.marks {od:Bool}{Pr:Addr→Prop}{H H':Hp}{M:MA}{st sd nd k gd:Addr}{E E':List (Nat×En)}{N:List (Addr×Addr)}{kvs:List (Key×V)}{G G':List Nat}(h:FM a K od Pr H M st sd nd E N kvs (.ref k) G) (hm:MS a K H M k gd E G) (h3:gd≠sd) (h4:gd≠nd) (h5:¬Pr gd) (s:Kp (fun b=>M.own b∨b=gd) H H') (XW:MS a K H' M k gd E' G') (he:E'.map pT=E.map pT) (hi:Jv od E' G' kvs):FM a K od Pr H' M st sd nd E' N kvs (.ref k) G'∧Kp (fun b=>¬Pr b) H H':=by
 have mu:∀b,(M.own b∨b=gd)→Mu H b:=fun b z=>by
  rcases z with z | rfl
  ·exact h.fs.tm.mu b z
  ·exact .inr ⟨_,hm.di⟩
 have np:∀b,Pr b→¬(M.own b∨b=gd):=fun b hb z=>by
  rcases z with z | z
  ·exact h.pm b z hb
  ·exact h5 (z▸hb)
 refine⟨⟨h.fs.re s mu (fun z=>z.elim h.fs.uk fun y=>h3 y.symm) (fun z=>z.elim h.fs.kh fun y=>h4 y.symm) (fun n hn z=>?_) XW.tm he,.inr ⟨k,gd,rfl,XW,h3,h4,h5,hi⟩,fun b hb=>iV s (np b hb) (h.po b hb),h.pm,h.ps,h.pn,h.pf⟩,s.mono fun b z y=>np b y z⟩
 rcases z with z | z
 ·exact(h.fs.Cu n hn).1 z
 ·obtain⟨i,hi⟩:=List.mem_iff_getElem?.mp hn
  have Ak:=(List.getElem?_eq_some_iff.mp hi).1
  obtain⟨_,fx,h2,_⟩:=h.fs.row i _ n (List.getElem?_eq_getElem (by rw [h.fs.len]; exact Ak)) hi
  rw [z,hm.di] at h2
  cases h2
theorem FM.field {od:Bool}{Pr:Addr→Prop}{H H1:Hp}{M:MA}{st sd nd:Addr}{E:List (Nat×En)}{N:List (Addr×Addr)}{kvs:List (Key×V)}{mv:V}{G:List Nat}(h:FM a K od Pr H M st sd nd E N kvs mv G) {i pl at_:Nat}{e:En}{n:Addr×Addr}(hE:E[i]?=some (pl,e)) (hN:N[i]?=some n) {fs:List Vl}{w:Option Int}(ht:e.t=.plain fs w) {fx:List V}(p8:H n.2=some (.lst fx)) {x:V}{v:Vl}(hx:cI K H x v) (hc:∀z,v=Vl.th z→∃q:Nat,z=(q:Int)∧q∈E.map (·.1))
  (hm:mv≠.aP→Jv od E G kvs→(od=true→∀q:Nat,fs[at_]?=some (.th (q:Int))→bQ E q=true)∧∀q:Nat,v=.th (q:Int)→(od=true→mE E G q)∧(od=false→bQ E q=true)) (k1:Kp (·=M.d) H H1) (tm1:TM a K H1 M (fX E pl ⟨e.t.fV at_ v,e.dq,e.cH⟩)) :
  FM a K od Pr (upd H1 n.2 (.lst (fx.set at_ x))) M st sd nd (fX E pl ⟨e.t.fV at_ v,e.dq,e.cH⟩) N kvs mv G∧Kp (fun b=>¬Pr b) H (upd H1 n.2 (.lst (fx.set at_ x))):=by
 have Qz:=List.mem_of_getElem? hN
 have y_:=List.mem_of_getElem? hE
 obtain⟨gH,nlb⟩:=h.fs.Cu n Qz
 have iy:M.own M.d:=.inl rfl
 have mu:∀b,(b=M.d∨b=n.2)→Mu H b:=fun b z=>by
  rcases z with rfl | rfl
  ·exact h.fs.tm.mu _ iy
  ·exact .inl ⟨_,p8⟩
 have nd1:n.2≠M.d:=fun z=>gH (z▸iy)
 have WJ:H1 n.2=some (.lst fx):=k1 _ _ nd1 p8
 have k2:Kp (·=n.2) H1 (upd H1 n.2 (.lst (fx.set at_ x))):=(Kp.refl _ _).set rfl
 have k:Kp (fun b=>b=M.d∨b=n.2) H (upd H1 n.2 (.lst (fx.set at_ x))):=(k1.mono fun b z=>.inl z).trans (k2.mono fun b z=>.inr z)
 have tm2:TM a K (upd H1 n.2 (.lst (fx.set at_ x))) M (fX E pl ⟨e.t.fV at_ v,e.dq,e.cH⟩):=tm1.off k2 (fun b z=>.inl ⟨fx,by rw [z]; exact WJ⟩) (fun z=>nlb z) fun b hb z=>gH (z▸hb)
 have np:∀b,Pr b→¬(b=M.d∨b=n.2):=fun b hb z=>by
  rcases z with z | z
  ·exact h.pm M.d iy (z▸hb)
  ·exact h.pf n Qz (z▸hb)
 have nt:∀b xs,H b=some (.tup xs)→¬(b=M.d∨b=n.2):=fun b xs e z=>(mu b z).vc (.inl e)
 have hA:=h.fs.tm.nd
 have nsd:¬(sd=M.d∨sd=n.2):=by
  rintro(z | z)
  ·exact h.fs.uk (z▸iy)
  ·have:=h.fs.sh
   rw [z,p8] at this
   cases this
 have nnd:¬(nd=M.d∨nd=n.2):=by
  rintro(z | z)
  ·exact h.fs.kh (z▸iy)
  ·have:=h.fs.na
   rw [z,p8] at this
   cases this
 have Eo:∀p,p∈fX E pl ⟨e.t.fV at_ v,e.dq,e.cH⟩→p∈E∨p=(pl,⟨e.t.fV at_ v,e.dq,e.cH⟩):=fun p hp=>by
  obtain⟨p0,h0,eq⟩:=List.mem_map.mp hp
  by_cases y:p0.1=pl
  ·rw [if_pos y] at eq
   exact .inr eq.symm
  ·rw [if_neg y] at eq
   exact .inl (eq▸h0)
 refine⟨⟨⟨k _ _ (nt _ _ h.fs.tup) h.fs.tup,tm2,by rw [kr]; exact k _ _ nsd h.fs.sh,k _ _ nnd h.fs.na,by rw [kr]; exact h.fs.nm,by unfold fX; rw [List.length_map]; exact h.fs.len,fun j p m hp hm=>?_,fun p hp z hz=>?_,h.fs.DJ,h.fs.uk,h.fs.kh,h.fs.Qx,h.fs.Cu⟩,?_,fun b hb=>iV k (np b hb) (h.po b hb),h.pm,h.ps,h.pn,h.pf⟩,k.mono fun b z y=>np b y z⟩
 ·unfold fX at hp
  rw [List.getElem?_map] at hp
  cases e0:E[j]? with
  | none=>rw [e0] at hp; cases hp
  | some p0=>
   rw [e0] at hp
   have hp:(if p0.1=pl then(pl,(⟨e.t.fV at_ v,e.dq,e.cH⟩:En))else p0)=p:=Option.some.inj hp
   obtain⟨h1,fy,h2,h3,h4⟩:=h.fs.row j p0 m e0 hm
   by_cases y:p0.1=pl
   ·have:p0=(pl,e):=hA.same (List.mem_of_getElem? e0) y_ y
    subst this
    have ij:i=j:=Jq h.fs.nd (x:=pl) (by rw [List.getElem?_map,hE]; rfl) (by rw [List.getElem?_map,e0]; rfl)
    subst ij
    rw [hN] at hm
    cases hm
    rw [p8] at h2
    cases h2
    rw [if_pos rfl] at hp
    subst hp
    rw [ht] at h1 h3
    rw [ht]
    exact⟨k _ _ (nt _ _ h1) h1,fx.set at_ x,ae,(h3.set hx).kp k mu,by rw [List.length_set]; exact h4⟩
   ·rw [if_neg y] at hp
    subst hp
    have mn:m.2≠n.2:=fun z=>by
     have:=Jq h.fs.Qx (i:=j) (j:=i) (x:=n.2) (by rw [List.getElem?_map,hm]; exact congrArg some z) (by rw [List.getElem?_map,hN]; rfl)
     subst this
     rw [hE] at e0
     cases e0
     exact y rfl
    refine⟨k _ _ (nt _ _ h1) h1,fy,k _ _ ?_ h2,h3.kp k mu,h4⟩
    rintro(z | z)
    ·exact(h.fs.Cu m (List.mem_of_getElem? hm)).1 (z▸iy)
    ·exact mn z
 ·rw [kr]
  rcases Eo p hp with hp | rfl
  ·exact h.fs.cls p hp z hz
  ·rw [ht] at hz
   have Oq:Vl.th z∈fs∨v=Vl.th z:=by
    obtain⟨i,hi⟩:=List.mem_iff_getElem?.mp (show Vl.th z∈fs.set at_ v from hz)
    rw [List.getElem?_set] at hi
    split at hi
    ·split at hi
     ·exact .inr (Option.some.inj hi)
     ·cases hi
    ·exact .inl (List.mem_of_getElem? hi)
   rcases Oq with Oq | Oq
   ·exact h.fs.cls _ y_ z (by rw [ht]; exact Oq)
   ·exact hc z Oq
 ·rcases h.A0 with ⟨rfl,h2⟩ | ⟨kk,gd,rfl,h2,h3,h4,h5,h6⟩
  ·refine .inl ⟨rfl,fun p hp=>?_⟩
   rcases Eo p hp with hp | rfl
   ·exact h2 p hp
   ·exact h2 (pl,e) y_
  ·refine .inr ⟨kk,gd,rfl,h2.to k mu ?_ tm2 (fun p hp=>?_),h3,h4,h5,h6.set hA y_ ht (hm (by intro z; cases z) h6).1 (hm (by intro z; cases z) h6).2⟩
   ·rintro(z | z)
    ·exact h2.no (z▸iy)
    ·have:=h2.di
     rw [z,p8] at this
     cases this
   ·obtain⟨e1,h7,h8⟩:=h2.gm p hp
    exact Mx (e':=⟨e.t.fV at_ v,e.dq,e.cH⟩) hA y_ rfl h7 h8
theorem aeW:(!decide (V.str (("weak":Str))=V.str ("plain":Str)))=true:=by decide +kernel
theorem aeX:(!decide (V.str (("pair":Str))=V.str ("plain":Str)))=true:=by decide +kernel
theorem FM.iv {od:Bool}{Pr:Addr→Prop}{H:Hp}{M:MA}{st sd nd k:Addr}{E:List (Nat×En)}{N:List (Addr×Addr)}{kvs:List (Key×V)}{G:List Nat}(h:FM a K od Pr H M st sd nd E N kvs (.ref k) G):Jv od E G kvs:=by
 rcases h.A0 with ⟨z,_⟩ | ⟨_,_,_,_,_,_,_,h⟩
 ·cases z
 ·exact h
noncomputable def fC (a:da) (od:Bool):Addr:=if od=true then a.a7 else a.a6
noncomputable def fW (od:Bool):Str:=if od=true then "old" else "new"
theorem sZ {od:Bool}{H:Hp}{Q:VK}{E:XK}{p:V}(q:Q (.bl od) H):∃sp,(fC a od,sp)∈[(a.a6,bW 1 (.bl false)),(a.a7,bW 1 (.bl true))]∧sp [p] H Q E:=by
 cases od with
 | false=>exact⟨_,List.mem_cons_self,rfl,q⟩
 | true=>exact⟨_,List.mem_cons_of_mem _ List.mem_cons_self,rfl,q⟩
theorem A1 {od:Bool}{H:Hp}{Q:VK}{E:XK}{p:V}(q:Q (.bl (!od)) H):∃sp,(fC a od,sp)∈[(a.a6,bW 1 (.bl true)),(a.a7,bW 1 (.bl false))]∧sp [p] H Q E:=by
 cases od with
 | false=>exact⟨_,List.mem_cons_self,rfl,q⟩
 | true=>exact⟨_,List.mem_cons_of_mem _ List.mem_cons_self,rfl,q⟩
noncomputable def fsp (K:PySem.W.Frag) (od:Bool):Sp:=if od=true then uh K else ug K
theorem WK (od:Bool):(fC a od,fsp K od)∈[(a.a6,ug K),(a.a7,uh K)]:=by
 cases od with
 | false=>exact List.mem_cons_self
 | true=>exact List.mem_cons_of_mem _ List.mem_cons_self
theorem WL {od:Bool}{H:Hp}{Q:VK}{E:XK}{p x y:V}{u v:Vl}(hu:cI K H x u) (hv:cI K H y v) (q:∀r H',au H H'→H r=none→H' r=some (.lst ((if od=true then u else v).nm.toList))→Q (.ref r) H'):fsp K od [p,x,y] H Q E:=by
 cases od with
 | false=>exact⟨p,x,y,v,rfl,hv,q⟩
 | true=>exact⟨p,x,y,u,rfl,hu,q⟩
noncomputable def WM (a:da) (K:PySem.W.Frag):Sp:=fun vs H Q _=>∃od Pr M st sd nd E N kvs mv G l fn jT,∃way one two three at_:Int,vs=[.ref st,.ref l,.ref fn,mv]∧FM a K od Pr H M st sd nd E N kvs mv G∧kj K H l way one two three at_∧H fn=some (.ins (fC a od) jT (Mm (fW od)))∧E.length≤90 ∧
 ∀H' E' G',Kp (fun b=>¬Pr b) H H'→FM a K od Pr H' M st sd nd E' N kvs mv G'→E'.map (·.1)=E.map (·.1)→AY E E' kvs kvs→Q .aP H'
theorem WN (T:Txt K mg a):aN P w K mg base cx 5 a.yD a.yE ["_law_state","_law_parts","_law_fence","_law_marking"] (WM a K):=by
 refine T.oP.ok fE (fun vs H Q E h=>?_) (fun bI A outer s H vs Q E hr h=>?_)
 ·obtain⟨_,_,_,_,_,_,_,_,_,_,_,_,_,_,_,_,_,_,_,rfl,_⟩:=h
  rfl
 ·obtain⟨od,Pr,M,st,sd,nd,E,N,kvs,mv,G,l,fn,jT,way,one,two,three,at_,rfl,h,hp,hf,hE,q⟩:=h
  refine⟨_,(aj (gY (pv 1) (tR (n:=5) rfl (aZ (aJ (i:=4) fE.nd rfl (Or.inl rfl)) (aZ (aJ (i:=5) fE.nd rfl (Or.inl rfl)) (aZ (aJ (i:=6) fE.nd rfl (Or.inl rfl)) (aZ (aJ (i:=7) fE.nd rfl (Or.inl rfl)) (aZ (aJ (i:=8) fE.nd rfl (Or.inl rfl)) gb))))))) (aj (aR (i:=9) fE.nd rfl (Or.inl rfl) (Fy (bO hr) (aC aB (pv 0) ak (fun _ _=>rfl)) (pv 5) ⟨rfl,rfl,rfl,rfl⟩)) (aj (bF (PW.pt (Ex (aA z4 (pv 9) cM (aE _)) (Ex (aA qZ (aC aB (cJ (bO hr) (aC aB (pv 0) ak (fun _ _=>rfl)) (pv 9) (fun _ _=>rfl)) ak (fun _ _=>rfl)) aX (aE _)) (Ew (aA OH (pv 8) (bJ cB rfl T.eC dW (aa (aC aB (cJ (bO hr) (aC aB (pv 0) ak (fun _ _=>rfl)) (pv 9) (fun _ _=>rfl)) ak (fun _ _=>rfl)) ag)) (aE _)))))) (af Lg) aT) (aj (aR (i:=10) fE.nd rfl (Or.inl rfl) (dA (aa aX ag))) (aj jw az))))),?_⟩
  dsimp! []
  refine⟨_,hp.sq,rfl,_,_,rfl,_,_,rfl,_,_,rfl,_,_,rfl,_,_,rfl,rfl,?_⟩
  have WO:Kp (fun b=>¬Pr b) H H:=Kp.refl _ _
  refine⟨st,_,_,_,rfl,rfl,bU.of h.fs.tup,rfl,nd,rfl,.inl ⟨_,.inl h.fs.na⟩,_,c8.k (k:=Sum.inl one) h.fs.na,?_⟩
  cases e1:aM kvs (Sum.inl one)with
  | none=>exact fB (q H E G WO h rfl (AY.refl _ _ _))
  | some v1=>
   obtain⟨pl,rfl,Cz⟩:=h.fs.nm.get e1
   obtain⟨i,e,n,QF,hN,hi⟩:=h.fs.mem Cz
   obtain⟨kq,fx,p8,zS,El⟩:=h.fs.row i _ n QF hN
   have WQ:∀{H':Hp},FS a K H' M st sd nd E N kvs→c8 H' sd (V.int (pl:Int)) (some (V.ref n.1)):=fun h'=>by
    rw [←nI h.fs.nd hi hN]
    exact c8.k (k:=Sum.inl (pl:Int)) h'.sh
   refine cX ⟨st,_,_,_,rfl,rfl,bU.of h.fs.tup,rfl,sd,rfl,_,WQ h.fs,n.1,_,_,_,rfl,rfl,bU.of kq,rfl,?_⟩
   refine⟨rfl,cQ (fun _=>q H E G WO h rfl (AY.refl _ _ _)) fun hs=>?_⟩
   obtain⟨fs,w,ht⟩:∃fs w,e.t=.plain fs w:=by
    cases et:e.t with
    | plain fs w=>exact⟨fs,w,rfl⟩
    | weak f=>rw [et] at hs; exact absurd aeW hs
    | pair k v=>rw [et] at hs; exact absurd aeX hs
   refine⟨st,_,_,_,rfl,rfl,bU.of h.fs.tup,rfl,sd,rfl,_,WQ h.fs,n.1,_,_,_,rfl,rfl,bU.of kq,rfl,n.2,rfl,fx,.inl (bc.of p8),at_,rfl,cQ (fun _=>q H E G WO h rfl (AY.refl _ _ _)) fun fg=>⟨by simp [sizeLine_eq],fun t0 ht0=>?_⟩⟩
   obtain⟨an,ea⟩:∃an:Nat,at_=(an:Int):=⟨at_.toNat,by have:=hp.a_.1; omega⟩
   subst ea
   have fg:an < fx.length:=by
    have:¬((fx.length:Int)≤(an:Int)):=fun z=>fg (decide_eq_true z)
    omega
   have s1:=au.put (o:=.tup [V.str "nothing"]) ht0
   have h1:=h.same s1
   have aag:upd H t0 (.tup [V.str "nothing"]) t0=some (.tup [V.str "nothing"]):=ae
   have hf1:=s1 _ _ hf
   generalize upd H t0 (.tup [V.str "nothing"])=H1 at s1 h1 aag hf1
   refine n9 (fun σ' H'=>∃x v,σ'=[some (.ref st),some (.ref l),some (.ref fn),some mv,some (.int way),some (.int one),some (.int two),some (.int three),some (.int (an:Int)),some (.int (pl:Int)),some x,none]∧au H1 H'∧cI K H' x v∧∀z,v=Vl.th z→∃q:Nat,z=(q:Int)∧q∈E.map (·.1)∧∃k:Key,aM kvs k=some (.int (q:Nat))) (Eh.of (bF (jt (hZ (bO hr) (pv 6) (aC aB (pv 0) ak (fun _ _=>rfl)))) (af (aR (i:=10) fE.nd rfl (Or.inl rfl) (dA (aa aX (aa (cJ (bO hr) (aC aB (pv 0) ak (fun _ _=>rfl)) (pv 6) (fun _ _=>rfl)) ag))))) aT) ?_) ?_
   ·dsimp! []
    refine⟨st,_,_,_,rfl,rfl,bU.of h1.fs.tup,rfl,nd,rfl,_,c8.k (k:=Sum.inl two) h1.fs.na,?_⟩
    cases e2:aM kvs (Sum.inl two)with
    | none=>exact cX ⟨rfl,au.refl _,.no,⟨t0,rfl,bU.of aag⟩,fun z e=>by cases e⟩
    | some v2=>
     obtain⟨q,rfl,hq⟩:=h1.fs.nm.get e2
     exact fB ⟨st,_,_,_,rfl,rfl,bU.of h1.fs.tup,rfl,nd,rfl,_,by rw [←e2]; exact c8.k (k:=Sum.inl two) h1.fs.na,by simp [sizeLine_eq],fun t ht=>⟨rfl,au.put ht,.th (q:Int),⟨t,rfl,bU.of ae⟩,fun z ez=>⟨q,(Vl.th.inj ez).symm,hq,_,e2⟩⟩⟩
   ·rintro σ' H2 ⟨x,v,rfl,s2,hx,hc⟩
    refine bA.of (aj jw az) ?_
    dsimp! []
    have h2:=h1.same s2
    have JJ:=s1.trans s2
    have ZJ:=s2 _ _ hf1
    have aeY:=JJ _ _ p8
    have hxn:fx[an]?=some fx[an]:=List.getElem?_eq_getElem fg
    obtain⟨u,bh⟩:∃u,e.t.fs[an]?=some u:=⟨_,List.getElem?_eq_getElem (by have:e.t.fs.length=fx.length:=zS.1; omega)⟩
    have hu:=(zS.2 an _ u hxn bh).same JJ
    have hcu:=fun z (ez:u=Vl.th z)=>h.fs.cls _ (List.mem_of_getElem? QF) z (ez▸List.mem_of_getElem? bh)
    have aah:fs[an]?=some u:=by
     rw [ht] at bh
     exact bh
    have hcw:∀z,(if od=true then u else v)=Vl.th z→∃q:Nat,z=(q:Int)∧q∈E.map (·.1)∧((∃p e,(p,e)∈E∧(bQ E p=true∨∃k:Key,aM kvs k=some (.int (p:Nat)))∧(q:Int)∈e.t.hold)∨∃k:Key,aM kvs k=some (.int (q:Nat))):=fun z ez=>by
     cases od with
     | true=>
      have ez:u=Vl.th z:=ez
      obtain⟨q,SW,e2'⟩:=hcu z ez
      refine⟨q,SW,e2',.inl ⟨pl,e,List.mem_of_getElem? QF,.inr ⟨_,e1⟩,?_⟩⟩
      rw [ht]
      exact List.mem_filterMap.mpr ⟨u,List.mem_of_getElem? aah,by rw [ez,SW]; rfl⟩
     | false=>
      obtain⟨q,SW,e2',e3'⟩:=hc z ez
      exact⟨q,SW,e2',.inr e3'⟩
    refine n9 (fun σ' H3=>∃DO E' G',σ'=[some (.ref st),some (.ref l),some (.ref fn),some mv,some (.int way),some (.int one),some (.int two),some (.int three),some (.int (an:Int)),some (.int (pl:Int)),some x,DO]∧Kp (fun b=>¬Pr b) H2 H3∧FM a K od Pr H3 M st sd nd E' N kvs mv G'∧E'.map pT=E.map pT∧cI K H3 x v∧(mv≠.aP→∀q:Nat,(if od=true then u else v)=.th (q:Int)→bQ E' q=true)∧AY E E' kvs kvs) (Eh.of (bF (aA fh (pv 3) cM (aE _)) (af (b_ PassesOwn.never rfl (dn (Fp (L:=[(a.a6,ug K),(a.a7,uh K)]) (pv 2) (List.forall_mem_cons.mpr ⟨⟨_,_,_,_,T.dF,T.HR,Wh T,hr.mono (by decide),T.Pd⟩,List.forall_mem_cons.mpr ⟨⟨_,_,_,_,T.dG,T.HV,Wi T,hr.mono (by decide),T.Ph⟩,List.forall_mem_nil _⟩⟩) .nil ar (aa (aC bS (aC aB (cJ (bO hr) (aC aB (pv 0) ak (fun _ _=>rfl)) (pv 9) (fun _ _=>rfl)) ak (fun _ _=>rfl)) (pv 8) (fun _ _=>rfl)) (aa (pv 10) ag)))) (aJ (i:=11) fE.nd rfl (Or.inl rfl)) az)) aT) ?_) ?_
    ·dsimp! []
     rcases h2.A0 with ⟨rfl,_⟩ | ⟨k,gd,rfl,hm,hg3,hg4,hg5,hg6⟩
     ·exact cX ⟨Kp.refl _ _,E,G,h2,rfl,hx,(fun z=>absurd rfl z),AY.refl _ _ _⟩
     refine fB ⟨_,jT,_,ZJ,ue _ (by decide +kernel),_,WK od,st,_,_,_,rfl,rfl,bU.of h2.fs.tup,rfl,sd,rfl,_,WQ h2.fs,n.1,_,_,_,rfl,rfl,bU.of (JJ _ _ kq),rfl,n.2,fx,_,_,rfl,rfl,bc.of aeY,b9 hxn,WL hu hx fun r H4 s4 Qw Md=>⟨r,rfl,⟨_,bc.of Md⟩,?_⟩⟩
     have hrk:r≠gd:=fun z=>by
      have:=hm.di
      rw [←z,Qw] at this
      cases this
     have hro:=h2.fs.tm.gH Qw
     have X1:=hm.same s4
     have h4:=h2.same s4
     have mu4:∀b,(M.own b∨b=gd)→Mu H4 b:=fun b z=>by
      rcases z with z | rfl
      ·exact h4.fs.tm.mu b z
      ·exact .inr ⟨_,X1.di⟩
     obtain⟨wv,ewv⟩:∃wv,(if od=true then u else v)=wv:=⟨_,rfl⟩
     rw [ewv] at Md hcw ⊢
     refine d0 (wv.nm.toList) (fun i σ H5=>∃DO E' G',σ=[some (.ref st),some (.ref l),some (.ref fn),some (.ref k),some (.int way),some (.int one),some (.int two),some (.int three),some (.int (an:Int)),some (.int (pl:Int)),some x,DO]∧Kp (fun b=>¬Pr b) H2 H5∧Kp (fun b=>M.own b∨b=gd) H4 H5∧MS a K H5 M k gd E' G'∧FM a K od Pr H5 M st sd nd E' N kvs (.ref k) G'∧E'.map pT=E.map pT∧(0 < i→∀q:Nat,wv=.th (q:Int)→bQ E' q=true)∧AY E E' kvs kvs) ⟨none,E,G,rfl,au.kp s4,Kp.refl _ _,X1,h4,rfl,(fun z=>absurd z (Nat.lt_irrefl 0)),AY.refl _ _ _⟩ ?_ ?_ ?_
     ·rintro i σ H5 _ ⟨DO,E',G',rfl,_,k5,_⟩
      exact bc.of (k5 _ _ (fun z=>z.elim hro hrk) Md)
     ·rintro i y σ H5 hy ⟨DO,E',G',rfl,Em,k5,hm5,h5,WR,_,WS⟩
      obtain⟨z,rfl,rfl⟩:∃z,wv=Vl.th z∧y=.int z:=by
       cases wv with
       | no=>cases hy
       | num m=>cases hy
       | th z=>
        cases i with
        | zero=>exact⟨z,rfl,(Option.some.inj hy).symm⟩
        | succ i=>cases hy
      obtain⟨p,rfl,hpq,hpw⟩:=hcw z rfl
      refine bA.of (af (aQ (aI (pv 3) T.av T.lF (pk T) (hr.mono (by decide)) T.rV .nil ar (aa (pv 11) ag)))) ?_
      dsimp! []
      obtain⟨dk,WC⟩:=hm5.ob
      have ef5:E'.map (·.1)=E.map (·.1):=by
       have:=congrArg (List.map Prod.fst) WR
       rw [List.map_map,List.map_map] at this
       exact this
      have nH:p∈E'.map (·.1):=by
       rw [ef5]
       exact hpq
      have sV:E'.length=E.length:=by
       have:=congrArg List.length ef5
       rw [List.length_map,List.length_map] at this
       exact this
      refine⟨dk,_,WC,cU,M,k,gd,E',G',p,rfl,hm5,nH,by omega,fun H6 k6 hm6=>?_⟩
      obtain⟨b1,b2,b3⟩:=pq (E',G') nH
      obtain⟨h6,kp6⟩:=h5.marks hm5 hg3 hg4 hg5 k6 hm6 (pB _ _) (h5.iv.dY hm5.tm.nd b1)
      refine⟨Em.trans kp6,k5.trans k6,_,_,hm6,h6,(pB _ _).trans WR,fun _ q eq=>?_,fun q hq=>?_⟩
      ·have:p=q:=by
        have:=Vl.th.inj eq
        omega
       exact this▸b2
      ·rcases b3 q hq with y | rfl
       ·exact WS q y
       ·exact .inr hpw
     ·rintro σ H5 ⟨DO,E',G',rfl,Em,k5,hm5,h5,WR,ud,WS⟩
      refine⟨DO,rfl,Em,E',G',h5,WR,(hx.same s4).kp k5 mu4,fun _ q eq=>ud ?_ q eq,WS⟩
      rw [eq]
      exact Nat.zero_lt_one
    ·rintro σ' H3 ⟨DO,E',G',rfl,k3,h3,WR,hx3,X2,aeZ⟩
     refine bA.of (aj (aQ (aI (aC aB (pv 0) ak (fun _ _=>rfl)) T.ax T.IA (VX T) (hr.mono (by decide)) T.P6 .nil ar (aa (pv 9) (aa (pv 8) (aa (pv 10) ag))))) (af (gY (pv 10) (zY (aC aB (cJ (bO hr) (aC aB (pv 0) ak (fun _ _=>rfl)) (pv 9) (fun _ _=>rfl)) ak (fun _ _=>rfl)) (pv 8) set_list)))) ?_
     dsimp! []
     have ef3:E'.map (·.1)=E.map (·.1):=by
      have:=congrArg (List.map Prod.fst) WR
      rw [List.map_map,List.map_map] at this
      exact this
     obtain⟨e',Mz,het⟩:∃e',E'[i]?=some (pl,e')∧e'.t=e.t:=by
      have:=congrArg (fun l=>l[i]?) WR
      simp only [List.getElem?_map,QF] at this
      cases e3:E'[i]? with
      | none=>rw [e3] at this; cases this
      | some p0=>
       rw [e3] at this
       have e4:pT p0=pT (pl,e):=Option.some.inj this
       have e5:p0.1=pl:=congrArg Prod.fst e4
       have e6:p0.2.t=e.t:=congrArg Prod.snd e4
       refine⟨p0.2,?_,e6⟩
       rw [←e5]
     obtain⟨QG,fx3,aai,aaj,agJ⟩:=h3.fs.row i _ n Mz hN
     have hi3:(E'.map (·.1))[i]?=some pl:=by
      rw [ef3]
      exact hi
     have afQ:fx3.length=fx.length:=by
      have e7:e'.t.fs.length=fx3.length:=aaj.1
      have e8:e.t.fs.length=fx.length:=zS.1
      rw [←e7,←e8,het]
     obtain⟨xs,R,hR,eR⟩:=h3.fs.tm
     obtain⟨r,hrR,er⟩:∃r∈R,Rw.v r=(pl,e'):=List.mem_map.mp (by rw [eR]; exact List.mem_of_getElem? Mz)
     have JK:=hR.there hrR
     have er1:r.pl=pl:=congrArg Prod.fst er
     have er2:r.e=e':=congrArg Prod.snd er
     rw [er1,er2] at JK
     obtain⟨dM,hM⟩:=h3.fs.tm.ob
     refine⟨st,_,_,_,rfl,rfl,bU.of h3.fs.tup,rfl,M.p,rfl,_,_,hM,bT,M,xs,_,pl,e',an,x,v,rfl,JK,by have:e'.t.fs.length=fx3.length:=aaj.1; omega,hx3,fun H4 xs4 cs4 k4 hM4 hc4=>?_⟩
     have tm4:=hR.set k4 hM4 hc4
     rw [eR] at tm4
     have iy:M.own M.d:=.inl rfl
     have nt4:∀b ys,H3 b=some (.tup ys)→b≠M.d:=fun b ys e z=>(h3.fs.tm.mu _ iy).vc (.inl (z▸e))
     have nsd:sd≠M.d:=fun z=>h3.fs.uk (z▸iy)
     have nn2:n.2≠M.d:=fun z=>(h3.fs.Cu n (List.mem_of_getElem? hN)).1 (z▸iy)
     have fin:=h3.field Mz hN (het.trans ht) aai hx3 (fun z ez=>by rw [ef3]; exact(hc z ez).imp fun q y=>⟨y.1,y.2.1⟩) (fun zn hJ=>⟨fun zo q eq=>?_,fun q eq=>⟨fun zo=>?_,fun zo=>?_⟩⟩) k4 tm4
     rotate_left
     ·refine X2 zn q ?_
      rw [if_pos zo]
      rw [aah] at eq
      exact Option.some.inj eq
     ·obtain⟨q',SW,_,kk,e3'⟩:=hc q eq
      have:q=q':=by omega
      exact this▸hJ.nm zo kk q' e3'
     ·refine X2 zn q ?_
      rw [if_neg (by rw [zo]; exact Bool.false_ne_true)]
      exact eq
     refine⟨st,_,_,_,rfl,rfl,bU.of (k4 _ _ (nt4 _ _ h3.fs.tup) h3.fs.tup),rfl,sd,rfl,_,by rw [←nI h3.fs.nd hi3 hN]; exact c8.k (k:=Sum.inl (pl:Int)) (k4 _ _ nsd h3.fs.sh),n.1,_,_,_,rfl,rfl,bU.of (k4 _ _ (nt4 _ _ QG) QG),rfl,n.2,fx3,_,an,rfl,rfl,k4 _ _ nn2 aai,ub (by omega),?_⟩
     exact q _ _ _ ((au.kp JJ).trans (k3.trans fin.2)) fin.1 (by rw [kr]; exact ef3) fun q hq=>aeZ q ((y8 (e':=⟨e'.t.fV an v,e'.dq,e'.cH⟩) h3.fs.tm.nd (List.mem_of_getElem? Mz) rfl q).mp hq)
theorem JL {E:List (Nat×En)}{t:Tg}(hc:∀z,Vl.th z∈t.fs→∃q:Nat,z=(q:Int)∧q∈E.map (·.1)):∃hn:List Nat,t.hold=List.map (fun(n:Nat)=>(n:Int)) hn∧∀n∈hn,n∈E.map (·.1):=by
 have hz:∀z∈t.hold,∃q:Nat,z=(q:Int)∧q∈E.map (·.1):=fun z hz=>by
  cases t with
  | plain fs w=>
   obtain⟨v,hv,e⟩:=List.mem_filterMap.mp (show z∈fs.filterMap Vl.na from hz)
   cases v with
   | no=>cases e
   | num m=>cases e
   | th y=>
    cases e
    exact hc z hv
  | weak f=>cases hz
  | pair k v=>cases hz
 refine⟨t.hold.map Int.toNat,?_,fun n hn=>?_⟩
 ·rw [List.map_map]
  refine(List.map_id _).symm.trans (List.map_congr_left fun z h=>?_)
  obtain⟨q,rfl,_⟩:=hz z h
  rfl
 ·obtain⟨z,h,rfl⟩:=List.mem_map.mp hn
  obtain⟨q,rfl,hq⟩:=hz z h
  exact hq
noncomputable def WT (a:da) (K:PySem.W.Frag):Sp:=fun vs H Q _=>∃od Pr M st sd nd E N kvs mv G l fn jT,∃way one two three at_:Int,vs=[.ref st,.ref l,.ref fn,mv]∧FM a K od Pr H M st sd nd E N kvs mv G∧kj K H l way one two three at_∧H fn=some (.ins (fC a od) jT (Mm (fW od)))∧E.length≤90 ∧
 ∀H' E' N' dB G',Kp (fun b=>¬Pr b) H H'→FM a K od Pr H' M st sd nd E' N' dB mv G'→E'.length≤E.length+1→(∀p∈E.map (·.1),p∈E'.map (·.1))→AY E E' kvs dB→Q .aP H'
theorem WU (T:Txt K mg a):aN P w K mg base cx 12 a.yF a.yG ["_law_state","_law_parts","_law_fence","_law_marking"] (WT a K):=by
 refine T.oQ.ok jA (fun vs H Q E h=>?_) (fun bI A outer s H vs Q E hr h=>?_)
 ·obtain⟨_,_,_,_,_,_,_,_,_,_,_,_,_,_,_,_,_,_,_,rfl,_⟩:=h
  rfl
 ·obtain⟨od,Pr,M,st,sd,nd,E,N,kvs,mv,G,l,fn,jT,way,one,two,three,at_,rfl,h,hp,hf,hE,q⟩:=h
  refine⟨_,(aj (gY (pv 1) (tR (n:=5) rfl (aZ (aJ (i:=4) jA.nd rfl (Or.inl rfl)) (aZ (aJ (i:=5) jA.nd rfl (Or.inl rfl)) (aZ (aJ (i:=6) jA.nd rfl (Or.inl rfl)) (aZ (aJ (i:=7) jA.nd rfl (Or.inl rfl)) (aZ (aJ (i:=8) jA.nd rfl (Or.inl rfl)) gb))))))) (af (bF (aA q_ (pv 4) ak (aE _)) (af (aQ (aH (Wt T) (hr.mono (by decide)) rfl T.Qi T.oN.kp T.Qh .nil ar (aa (pv 0) (aa (pv 1) (aa (tD (eE fh (pv 3) cM (aE _)) (zW (cR (L:=[(a.a6,bW 1 (.bl false)),(a.a7,bW 1 (.bl true))]) (pv 2) (List.forall_mem_cons.mpr ⟨⟨_,_,_,_,T.dF,T.dS,ZR T,hr.mono (by decide),T.Zq⟩,List.forall_mem_cons.mpr ⟨⟨_,_,_,_,T.dG,T.HS,Wf T,hr.mono (by decide),T.Pf⟩,List.forall_mem_nil _⟩⟩) .nil ar))) ag)))))) (af (bF (aA q_ (pv 4) ak (aE _)) (af (aQ (aH (WN T) (hr.mono (by decide)) rfl T.Qm T.oP.kp T.Ql .nil ar (aa (pv 0) (aa (pv 1) (aa (pv 2) (aa (pv 3) ag))))))) (af (bF (PW.pt (dI (aA q_ (pv 4) ak (aE _)) (eD (jt (hZ (bO hr) (pv 6) (aC aB (pv 0) ak (fun _ _=>rfl))))))) (aj (aR (i:=9) jA.nd rfl (Or.inl rfl) (aH (WI T) (hr.mono (by decide)) rfl T.Qk T.oO.kp T.Qj .nil ar (aa (pv 0) (aa (pv 1) ag)))) (aj (bF (PW.pt (dI (aA cA (pv 4) ak (aE _)) (dI (aA fh (pv 3) cM (aE _)) (dI (aA cA (aC aB (pv 9) ak (fun _ _=>rfl)) aX (aE _)) (eD (dH (cR (L:=[(a.a6,bW 1 (.bl false)),(a.a7,bW 1 (.bl true))]) (pv 2) (List.forall_mem_cons.mpr ⟨⟨_,_,_,_,T.dF,T.dD,ZS T,hr.mono (by decide),T.Zs⟩,List.forall_mem_cons.mpr ⟨⟨_,_,_,_,T.dG,T.HU,Wg T,hr.mono (by decide),T.Pg⟩,List.forall_mem_nil _⟩⟩) .nil ar))))))) (af (aQ (aI (pv 3) T.av T.lF (pk T) (hr.mono (by decide)) T.rV .nil ar (aa (aC aB (pv 9) ak (fun _ _=>rfl)) ag)))) aT) (af (aQ (aH (Wl T) (hr.mono (by decide)) rfl T.Qg T.oM.kp T.Qf .nil ar (aa (pv 0) (aa (pv 5) (aa (pv 9) ag)))))))) (af (bF (aA cA (pv 4) ak (aE _)) (af (aQ (vI (aC aB (pv 0) ak (fun _ _=>rfl)) (pv 5) cM ⟨rfl,rfl,rfl,rfl⟩))) (af (bF (PW.pt (dI (aA EF (pv 4) ak (aE _)) (dI (aA fh (pv 3) cM (aE _)) (eD (aA (Fl hr.units) (c4 (pv 3) T.av T.Cf (Jm T) (hr.mono (by decide)) T.LZ .nil ar) (cE ag) (aE _)))))) (af (aQ (c4 (pv 3) T.av T.AD (Jn T) (hr.mono (by decide)) T.HY .nil ar))) aT))))))))))),?_⟩
  dsimp! []
  refine⟨_,hp.sq,rfl,_,_,rfl,_,_,rfl,_,_,rfl,_,_,rfl,_,_,rfl,rfl,?_⟩
  have jU:Q .aP H:=q H E N kvs G (Kp.refl _ _) h (Nat.le_succ _) (fun p hp=>hp) (AY.refl _ _ _)
  have nw:∀mk:Bool,(mv=.aP→mk=false)→(mv≠.aP→mk=od)→Jt a K [V.ref st,V.ref l,V.bl mk] H (fun x H1=>Q V.aP H1) E0:=fun mk hk0 JG=>by
   refine⟨M,st,sd,nd,E,N,kvs,l,way,one,two,three,at_,mk,rfl,h.fs,hp,hE,fun H' s'=>?_,fun H' g t dq n hgn hhd hn0 k' h'=>?_⟩
   ·exact q H' E N kvs G (au.kp s') (h.same s') (Nat.le_succ _) (fun p hp=>hp) (AY.refl _ _ _)
   ·have hw:mv=.aP→∀p∈E++[(g,(⟨t,dq,mk⟩:En))],p∈E∨p.2.cH=false:=fun z p hp=>by
     rcases List.mem_append.mp hp with hp | hp
     ·exact .inl hp
     ·rw [List.mem_singleton.mp hp]
      exact .inr (hk0 z)
    have hN:∀m∈N++[n],m∈N∨H m.2=none:=fun m hm=>by
     rcases List.mem_append.mp hm with hm | hm
     ·exact .inl hm
     ·rw [List.mem_singleton.mp hm]
      exact .inr hn0
    have hpk:∀(k:Key) (q:Nat),aM (putK kvs (Sum.inl one) (.int (g:Nat))) k=some (.int (q:Nat))→aM kvs k=some (.int (q:Nat))∨q=g:=fun k q hu=>by
     rw [j6] at hu
     split at hu
     ·have:=V.int.inj (Option.some.inj hu)
      exact .inr (by omega)
     ·exact .inl hu
    have hJ:mv≠.aP→Jv od E G kvs→Jv od (E++[(g,(⟨t,dq,mk⟩:En))]) G (putK kvs (Sum.inl one) (.int (g:Nat))):=fun z hJ=>by
     rw [JG z]
     exact hJ.more hhd hpk
    obtain⟨h1,h2⟩:=h.more k' h' (fun p hp=>List.mem_append_left _ hp) hw hJ hN
    refine q H' _ _ _ G h2 h1 (by rw [List.length_append,List.length_singleton]; exact Nat.le_refl _) (fun p hp=>by rw [List.map_append]; exact List.mem_append_left _ hp) fun r hr=>?_
    obtain⟨e,he,hm⟩:=bE.mp hr
    rcases List.mem_append.mp he with he | he
    ·exact .inl (bE.mpr ⟨e,he,hm⟩)
    ·cases List.mem_singleton.mp he
     exact .inr (.inr ⟨Sum.inl one,by rw [j6,if_pos rfl]⟩)
  refine⟨way,rfl,cQ (fun _=>cQ (fun JM=>⟨_,jT,_,hf,ue _ (by decide +kernel),sZ (nw od (fun z=>by rw [z] at JM; cases JM) fun _=>rfl)⟩) fun JM=>nw false (fun _=>rfl) fun z=>absurd (by rw [decide_eq_false z]; rfl) JM) fun w3=>⟨way,rfl,cQ (fun _=>?_) fun w5=>⟨way,rfl,cQ (fun w9=>?_) fun w9=>⟨rfl,cQ (fun w10=>?_) fun w10=>⟨way,rfl,cQ (fun w11=>cQ (fun JM=>?_) fun _=>jU) fun _=>jU⟩⟩⟩⟩⟩
  ·exact⟨od,Pr,M,st,sd,nd,E,N,kvs,mv,G,l,fn,jT,way,one,two,three,at_,rfl,h,hp,hf,hE,fun H' E' G' k' h' e' hmd=>q H' E' N kvs G' k' h' (by have:=congrArg List.length e'; rw [List.length_map,List.length_map] at this; omega) (fun p hp=>by rw [e']; exact hp) hmd⟩
  ·have w9:way < 9:=of_decide_eq_true w9
   refine⟨st,_,_,_,rfl,rfl,bU.of h.fs.tup,rfl,nd,rfl,_,c8.k (k:=Sum.inl two) h.fs.na,?_⟩
   cases e2:aM kvs (Sum.inl two)with
   | none=>exact cX ⟨rfl,cQ (fun z=>absurd (V.int.inj (of_decide_eq_true z)) (by omega)) fun _=>⟨way,rfl,cQ (fun z=>absurd (of_decide_eq_true z) (by omega)) fun _=>jU⟩⟩
   | some v2=>
    obtain⟨p,rfl,Cz⟩:=h.fs.nm.get e2
    refine fB ⟨M,st,sd,nd,E,N,kvs,l,way,one,two,three,at_,p,rfl,h.fs,hp,e2,fun H1 x v s1 hx hc=>?_⟩
    have h1:=h.same s1
    have gv:∀H1 E1 G1,Kp (fun b=>¬Pr b) H H1→FM a K od Pr H1 M st sd nd E1 N kvs mv G1→E1.map (·.1)=E.map (·.1)→cI K H1 x v→(mv≠.aP→Jv od E1 G1 kvs→od=true→∀q:Nat,v=Vl.th (q:Int)→mE E1 G1 q)→(∀q:Nat,bQ E1 q=true→bQ E q=true∨v=Vl.th (q:Int))→AS a K [V.ref st,V.int one,x] H1 (fun x H1=>Q V.aP H1) E0:=fun H1 E1 G1 k1 h1 ef hx tS afa=>by
     refine⟨M,st,sd,nd,E1,N,kvs,one,x,v,rfl,h1.fs,hp.o.1,hp.o.2,hx,fun z ez=>by rw [ef]; exact(hc z ez).imp fun q hq=>⟨hq.1,hq.2.1⟩,fun H2 dB k2 h2 sU hkn=>?_⟩
     have hJ:mv≠.aP→Jv od E1 G1 kvs→Jv od E1 G1 dB:=fun z hJ=>hJ.names fun zo k u hu=>by
      rcases sU k _ hu with y | ⟨y,ey,e⟩
      ·exact .inl y
      ·cases e
       exact .inr (tS z hJ zo u ey)
     obtain⟨h3,k3⟩:=h1.more (k2.mono fun b z=>.inr (.inr z)) h2 (fun p hp=>hp) (fun _ p hp=>.inl hp) hJ fun n hn=>.inl hn
     exact q H2 E1 N dB G1 (k1.trans k3) h3 (by have:=congrArg List.length ef; rw [List.length_map,List.length_map] at this; omega) (fun p hp=>by rw [ef]; exact hp) fun r hr=>(afa r hr).imp id fun ev=>.inr ⟨_,hkn _ ev⟩
    have gv0:way≠6∨mv=.aP∨(∀z,v≠Vl.th z)∨od=false→AS a K [V.ref st,V.int one,x] H1 (fun x H1=>Q V.aP H1) E0:=fun hor=>gv H1 E G (au.kp s1) h1 rfl hx (fun z hJ zo r er=>by
     rcases hor with y | y | y | y
     ·obtain⟨r',K6,_,h3'⟩:=hc _ er
      have:r=r':=by omega
      exact this▸h3' y od G hJ zo
     ·exact absurd y z
     ·exact absurd er (y _)
     ·rw [zo] at y
      cases y) fun r hr=>.inl hr
    refine⟨rfl,cQ (fun _=>cQ (fun JM=>?_) fun JM=>gv0 (.inr (.inl ?_))) fun w6=>gv0 (.inl fun z=>w6 (decide_eq_true (by rw [z])))⟩
    ·have Mw:=hx
     obtain⟨t,ex,ht⟩:=hx
     subst ex
     refine⟨t,_,_,_,rfl,rfl,ht,v.hd,rfl,cQ (fun kg=>⟨_,jT,_,s1 _ _ hf,ue _ (by decide +kernel),sZ ⟨od,rfl,cQ (fun zo=>?_) fun zo=>gv0 (.inr (.inr (.inr (Bool.eq_false_iff.mpr zo))))⟩⟩) fun kg=>gv0 (.inr (.inr (.inl fun z ez=>kg (by rw [ez]; exact decide_eq_true rfl))))⟩
     obtain⟨z,rfl⟩:∃z,v=Vl.th z:=by
      cases v with
      | no=>exact absurd kg (by decide +kernel)
      | num m=>exact absurd (of_decide_eq_true kg) fun y=>JH (V.str.inj y)
      | th z=>exact⟨z,rfl⟩
     obtain⟨r,rfl,JI,_⟩:=hc z rfl
     rcases h1.A0 with ⟨rfl,_⟩ | ⟨k,gd,rfl,hm,hg3,hg4,hg5,hg6⟩
     ·cases JM
     obtain⟨dk,hk⟩:=hm.ob
     refine⟨k,rfl,dk,_,hk,cU,t,_,_,V.int (r:Int),rfl,rfl,ht,rfl,M,k,gd,E,G,r,rfl,hm,JI,by omega,fun H2 k2 AR=>?_⟩
     obtain⟨b1,b2,b3⟩:=pq (E,G) JI
     obtain⟨h2,kp2⟩:=h1.marks hm hg3 hg4 hg5 k2 AR (pB _ _) (hg6.dY hm.tm.nd b1)
     refine gv H2 _ _ ((au.kp s1).trans kp2) h2 (Cr _ _) (Mw.kp k2 fun b z=>?_) (fun _ _ _ u eu=>?_) fun u hu=>(b3 u hu).imp id fun y=>by rw [y]
     ·rcases z with z | rfl
      ·exact h1.fs.tm.mu b z
      ·exact .inr ⟨_,hm.di⟩
     ·have:r=u:=by
       have:=Vl.th.inj eu
       omega
      exact this▸.mark b2
    ·cases e9:decide (mv=.aP)with
     | true=>exact of_decide_eq_true e9
     | false=>rw [e9] at JM; exact absurd rfl JM
  ·refine⟨st,_,_,_,rfl,rfl,bU.of h.fs.tup,rfl,nd,rfl,.inl ⟨_,.inl h.fs.na⟩,kvs,h.fs.na,Sum.inl one,rfl,fun v _=>?_,fun _=>jU⟩
   obtain⟨h3,k3⟩:=h.more (((Kp.refl _ _).set rfl:Kp (·=nd) H (upd H nd (.dK (fj kvs (Sum.inl one))))).mono fun b z=>.inr (.inr z)) (h.fs.names (h.fs.nm.drop one)) (fun p hp=>hp) (fun _ p hp=>.inl hp) (fun _ hJ=>hJ.names fun _ k u hu=>.inl (sX hu)) fun n hn=>.inl hn
   exact q _ E N _ G k3 h3 (Nat.le_succ _) (fun p hp=>hp) (AY.refl _ _ _)
  ·rcases h.A0 with ⟨rfl,_⟩ | ⟨k,gd,rfl,hm,hg3,hg4,hg5,hg6⟩
   ·cases JM
   obtain⟨dk,hk⟩:=hm.ob
   refine⟨k,rfl,dk,_,hk,cU,M,k,gd,E,G,rfl,hm,fun r Qw r2 f9=>?_⟩
   have s1:=au.put (o:=.lst ((G.map fun(p:Nat)=>(p:Int)).map V.int)) Qw
   have s2:=au.put (o:=.lst []) f9
   have JJ:=s1.trans s2
   refine⟨_,_,.B6 (bc.of (s2 _ _ ae)) (iU _),.B6 (bc.of ae) (fun x hx=>(nomatch hx)),y1 _,_,rfl,?_⟩
   have h2:=h.same JJ
   have AR:=hm.same JJ
   have La:=JJ _ _ hk
   generalize upd (upd H r (.lst ((G.map fun(p:Nat)=>(p:Int)).map V.int))) r2 (.lst [])=H2 at JJ h2 AR La
   have back:Q .aP H2:=q H2 E N kvs G (au.kp JJ) h2 (Nat.le_succ _) (fun p hp=>hp) (AY.refl _ _ _)
   rw [yZ]
   cases G with
   | nil=>exact cX back
   | cons p G=>
    obtain⟨e,he,y_⟩:=hm.gm p (List.mem_cons_self ..)
    obtain⟨hn,hh,hi⟩:=JL (h.fs.cls _ he)
    refine fB ⟨k,rfl,dk,_,La,cU,M,k,gd,E,G,p,e,hn,rfl,AR,he,hh,hi,by omega,fun H3 k3 X2=>?_⟩
    obtain⟨h4,k4⟩:=h2.marks AR hg3 hg4 hg5 k3 X2 (CA _ _) (hg6.step hm.tm.nd he y_ hh hi)
    have ef:=pj hn (E,G)
    refine q H3 _ N kvs _ ((au.kp JJ).trans k4) h4 (by have:=congrArg List.length ef; rw [List.length_map,List.length_map] at this; dsimp only at this; omega) (fun r hr=>by rw [ef]; exact hr) fun r hr=>?_
    rcases (nK hn (E,G) hi).2.2 r hr with y | y
    ·exact .inl y
    ·refine .inr (.inl ⟨p,e,he,.inl (bE.mpr ⟨e,he,y_⟩),?_⟩)
     rw [hh]
     exact List.mem_map.mpr ⟨r,y,rfl⟩
theorem JN {T:List Nat}{q:Nat}:putK (gk T) (Sum.inl (q:Int)) (.bl true)=gk (if q∈T then T else T++[q]):=by
 by_cases h:q∈T
 ·rw [if_pos h]
  unfold putK
  have hs:(aM (gk T) (Sum.inl (q:Int))).isSome=true:=by
   rw [ph]
   exact decide_eq_true h
  rw [df,if_pos hs]
  unfold gk
  rw [List.map_map]
  refine List.map_congr_left fun p _=>?_
  show(if (Sum.inl (p:Int):Key)=Sum.inl (q:Int)then((Sum.inl (p:Int):Key),V.bl true)else((Sum.inl (p:Int):Key),V.bl true))=_
  split <;> rfl
 ·rw [if_neg h,hV _ (Jh h)]
  unfold gk
  rw [List.map_append]
  rfl
noncomputable def MB (E:List (Nat×En)) (T:List Nat) (p:Nat):Prop:=∀e,(p,e)∈E→(∀fs w,e.t=.plain fs w→∀q:Nat,Vl.th (q:Int)∈fs→q∈T)∧∀k q:Nat,e.t=.pair (.th (k:Int)) (.th (q:Int))→k∈T→q∈T
theorem MC {E:List (Nat×En)}{T:List Nat}(hc:∀p∈E,∀z,Vl.th z∈p.2.t.fs→∃q:Nat,z=(q:Int)∧q∈E.map (·.1)) (h:∀p∈T,MB E T p):Cl E (·∈T):=by
 refine⟨fun p e he hp n hn=>?_,fun p e he hp kn vn hw hk=>?_⟩
 ·cases et:e.t with
  | plain fs w=>
   rw [et] at hn
   obtain⟨x,hx,e1⟩:=List.mem_filterMap.mp (show(n:Int)∈fs.filterMap Vl.na from hn)
   cases x with
   | no=>cases e1
   | num m=>cases e1
   | th m=>
    cases e1
    exact(h p hp e he).1 fs w et n hx
  | weak f=>rw [et] at hn; cases hn
  | pair k v=>rw [et] at hn; cases hn
 ·cases et:e.t with
  | plain fs w=>rw [et] at hw; cases hw
  | weak f=>rw [et] at hw; cases hw
  | pair k v=>
   rw [et] at hw
   cases k with
   | no=>cases hw
   | num m=>cases hw
   | th z=>
    cases v with
    | no=>cases hw
    | num m=>cases hw
    | th y=>
     obtain⟨kz,rfl,_⟩:=hc _ he z (by rw [show(p,e).2.t=e.t from rfl,et]; exact List.mem_cons_self)
     obtain⟨vy,rfl,_⟩:=hc _ he y (by rw [show(p,e).2.t=e.t from rfl,et]; exact List.mem_cons_of_mem _ List.mem_cons_self)
     cases hw
     exact(h p hp e he).2 _ _ et hk
structure PS (E:List (Nat×En)) (ps:List Nat) (H1 H:Hp) (td:Addr) (T:List Nat):Prop where
 kp:Kp (·=td) H1 H
 di:H td=some (.dK (gk T))
 nd:T.Nodup
 Eo:∀p∈T,p∈E.map (·.1)
 mn:∀S,Cl E S→(∀p∈ps,S p)→∀q∈T,S q
theorem PS.len {E:List (Nat×En)}{ps:List Nat}{H1 H:Hp}{td:Addr}{T:List Nat}(h:PS E ps H1 H td T):T.length≤E.length:=by
 have:=jD h.nd h.Eo
 rw [List.length_map] at this
 exact this
noncomputable def lN (T:List Nat) (q:Nat):List Nat:=if q∈T then T else T++[q]
theorem ur (T:List Nat) (q:Nat):q∈lN T q:=by
 unfold lN
 split
 ·assumption
 ·exact List.mem_append_right _ (List.mem_singleton.mpr rfl)
theorem iz (T:List Nat) (q:Nat):T <+: lN T q:=by
 unfold lN
 split
 ·exact List.prefix_rfl
 ·exact List.prefix_append _ _
theorem PS.put {E:List (Nat×En)}{ps:List Nat}{H1 H:Hp}{td:Addr}{T:List Nat}(h:PS E ps H1 H td T) {q:Nat}(hq:q∈E.map (·.1)) (hj:∀S,Cl E S→(∀p∈ps,S p)→S q):PS E ps H1 (upd H td (.dK (putK (gk T) (Sum.inl (q:Int)) (.bl true)))) td (lN T q):=by
 refine⟨h.kp.set rfl,by rw [ae,JN]; rfl,?_,fun p hp=>?_,fun S c hs p hp=>?_⟩
 ·unfold lN
  split
  ·exact h.nd
  ·rename_i z
   exact gg h.nd z
 ·unfold lN at hp
  split at hp
  ·exact h.Eo p hp
  ·rcases List.mem_append.mp hp with hp | hp
   ·exact h.Eo p hp
   ·rw [List.mem_singleton.mp hp]
    exact hq
 ·unfold lN at hp
  split at hp
  ·exact h.mn S c hs p hp
  ·rcases List.mem_append.mp hp with hp | hp
   ·exact h.mn S c hs p hp
   ·rw [List.mem_singleton.mp hp]
    exact hj S c hs
theorem PS.same {E:List (Nat×En)}{ps:List Nat}{H1 H H':Hp}{td:Addr}{T:List Nat}(h:PS E ps H1 H td T) (s:au H H'):PS E ps H1 H' td T:=⟨h.kp.trans (au.kp s),s _ _ h.di,h.nd,h.Eo,h.mn⟩
theorem afb {ys:List V}:tJ ys (some 1) none=ys.drop 1:=by
 unfold tJ
 rw [HT.EM,show(some (1:Int))=some ((1:Nat):Int) from rfl,HT.tI]
 by_cases h:1≤ys.length
 ·rw [Nat.min_eq_left h,List.take_of_length_le (by rw [List.length_drop]; exact Nat.le_refl _)]
 ·have:ys=[]:=List.length_eq_zero_iff.mp (by omega)
  subst this
  rfl
theorem iZ.drop {H:Hp}{xs:List V}{vl:List Vl}(h:iZ K H xs vl) (m:Nat):iZ K H (xs.drop m) (vl.drop m):=⟨by simp [h.1],fun i x v a b=>by
 rw [List.getElem?_drop] at a b
 exact h.2 _ x v a b⟩
noncomputable def WV (a:da) (K:PySem.W.Frag):Sp:=fun vs H Q _=>∃M st sd nd E N kvs l,∃ps:List Nat,vs=[.ref sd,.ref l]∧FS a K H M st sd nd E N kvs∧H l=some (.lst (ps.map fun p=>V.int (p:Nat)))∧(∀p∈ps,p∈E.map (·.1))∧E.length≤100 ∧
 ∀(H':Hp) (td:Addr) (T:List Nat),au H H'→H td=none→H' td=some (.dK (gk T))→(∀p∈ps,p∈T)→Cl E (·∈T)→T.Nodup→(∀p∈T,p∈E.map (·.1))→(∀S,Cl E S→(∀p∈ps,S p)→∀q∈T,S q)→Q (.ref td) H'
theorem afc:¬((!decide ((("plain":Str))=("plain":Str)))=true):=by decide +kernel
theorem afd:(!decide ((("weak":Str))=("plain":Str)))=true:=by decide +kernel
theorem afe:(!decide ((("pair":Str))=("plain":Str)))=true:=by decide +kernel
noncomputable def IQ1 (E:List (Nat×En)) (ps:List Nat) (sd l td:Addr) (H1:Hp) (i:Nat) (σ:List (Option V)) (H':Hp):Prop:=∃(o3:Option V) (U:List Nat),σ=[some (.ref sd),some (.ref l),some (.ref td),o3,none,none,none,none,none]∧PS E ps H1 H' td U∧∀p∈ps.take i,p∈U
noncomputable def IQ2 (E:List (Nat×En)) (ps:List Nat) (sd l td:Addr) (H1:Hp) (mm:Nat) (σ:List (Option V)) (H':Hp):Prop:=∃(o3 o5 o6 o7 o8:Option V) (many:Int) (U:List Nat),σ=[some (.ref sd),some (.ref l),some (.ref td),o3,some (.int many),o5,o6,o7,o8]∧PS E ps H1 H' td U∧(∀p∈ps,p∈U)∧-1≤many∧many≤U.length∧(many=U.length→∀p∈U,MB E U p)∧(mm:Int)=E.length+1 - many
noncomputable def IQ9 (E:List (Nat×En)) (ps:List Nat) (sd l td:Addr) (H1:Hp) (σ:List (Option V)) (H':Hp):Prop:=∃(o3 o4 o5 o6 o7 o8:Option V) (U:List Nat),σ=[some (.ref sd),some (.ref l),some (.ref td),o3,o4,o5,o6,o7,o8]∧PS E ps H1 H' td U∧(∀p∈ps,p∈U)∧∀p∈U,MB E U p
noncomputable def IQ3 (E:List (Nat×En)) (ps:List Nat) (sd l td kl:Addr) (T3:List Nat) (H1:Hp) (j:Nat) (σ:List (Option V)) (H':Hp):Prop:=∃(o3 o5 o6 o7 o8:Option V) (U:List Nat),σ=[some (.ref sd),some (.ref l),some (.ref td),o3,some (.int (T3.length:Int)),o5,o6,o7,o8]∧PS E ps H1 H' td U∧H' kl=some (.lst ((T3.map fun(p:Nat)=>(p:Int)).map V.int))∧T3 <+: U∧(U.length=T3.length→∀p∈T3.take j,MB E T3 p)
noncomputable def JQ1 (K:PySem.W.Frag) (E:List (Nat×En)) (ps:List Nat) (sd l td fl:Addr) (T3 U:List Nat) (p:Nat) (e:En) (H':Hp) (σ':List (Option V)) (H5:Hp):Prop:=∃(o8:Option V) (wl:Addr) (wx:List V) (vs:List Vl),σ'=[some (.ref sd),some (.ref l),some (.ref td),some (.int (p:Int)),some (.int (T3.length:Int)),some (.str e.t.sort),some (.ref fl),some (.ref wl),o8]∧au H' H5∧H5 wl=some (.lst wx)∧wl≠td∧iZ K H5 wx vs∧(∀fs w,e.t=.plain fs w→vs=fs)∧(∀(k:Nat) (v:Vl),e.t=.pair (.th (k:Int)) v→k∈U→v∈vs)∧∀v∈vs,v∈e.t.fs∧∀r:Nat,v=Vl.th (r:Int)→∀S,Cl E S→(∀p∈ps,S p)→S r
noncomputable def IQ4 (E:List (Nat×En)) (ps:List Nat) (sd l td fl wl:Addr) (T3 U:List Nat) (p:Nat) (e:En) (vs:List Vl) (H1 H5:Hp) (jj:Nat) (σ:List (Option V)) (H6:Hp):Prop:=∃(o8':Option V) (U':List Nat),σ=[some (.ref sd),some (.ref l),some (.ref td),some (.int (p:Int)),some (.int (T3.length:Int)),some (.str e.t.sort),some (.ref fl),some (.ref wl),o8']∧Kp (·=td) H5 H6∧PS E ps H1 H6 td U'∧U <+: U'∧∀r:Nat,Vl.th (r:Int)∈vs.take jj→r∈U'
theorem JO (T:Txt K mg a):aN P w K mg base cx 1 a.yH a.yI ["_law_things","_law_some"] (WV a K):=by
 refine T.mw.ok eV (fun vs H Q E h=>?_) (fun bI A outer s H vs Q E hr h=>?_)
 ·obtain⟨_,_,_,_,_,_,_,_,_,rfl,_⟩:=h
  rfl
 ·obtain⟨M,st,sd,nd,E,N,kvs,l,ps,rfl,h,hl,ZL,hE,q⟩:=h
  refine⟨_,(aj (aR (i:=2) eV.nd rfl (Or.inl rfl) eS) (aj (b_ PassesOwn.never rfl (dn (pv 1)) (aJ (i:=3) eV.nd rfl (Or.inl rfl)) az) az)),?_⟩
  dsimp! []
  refine fun td DI=>?_
  have i3:upd H td (.dK []) l=some (.lst (ps.map fun p=>V.int (p:Nat))):=by
   rw [ah (aq hl DI)]
   exact hl
  refine⟨⟨_,bc.of i3⟩,?_⟩
  have s1:=au.put (o:=.dK []) DI
  have h1:=h.same s1
  have p1:PS E ps (upd H td (.dK [])) (upd H td (.dK [])) td []:=⟨Kp.refl _ _,ae,List.nodup_nil,(fun p hp=>(nomatch hp)),fun S c hs q hq=>(nomatch hq)⟩
  have QH:∀{x:Addr}{u:HO},H x=some u→x≠td:=fun e z=>by rw [z,DI] at e; cases e
  generalize upd H td (.dK [])=H1 at i3 s1 h1 p1
  refine d0 (ps.map fun p=>V.int (p:Nat)) (IQ1 E ps sd l td H1) ⟨none,[],rfl,p1,fun p hp=>by simp at hp⟩ ?_ ?_ ?_
  ·rintro i σ H' _ ⟨o3,U,rfl,hP,_⟩
   exact bc.of (hP.kp _ _ (QH hl) i3)
  ·rintro i x σ H' hx ⟨o3,U,rfl,hP,nH⟩
   obtain⟨p,hp,rfl⟩:∃p,ps[i]?=some p∧x=V.int (p:Nat):=by
    rw [List.getElem?_map] at hx
    cases e:ps[i]? with
    | none=>rw [e] at hx; cases hx
    | some p=>rw [e] at hx; exact⟨p,rfl,(Option.some.inj hx).symm⟩
   refine gN ?_
   refine bA.of (af (fk (bO hr) (pv 2) (pv 3) dQ rfl)) ?_
   dsimp! []
   have hT:=hP.len
   refine⟨_,lC.k (k:=Sum.inl (p:Int)) hP.di (bb (by unfold gk; rw [List.length_map]; omega)),_,_,rfl,hP.put (ZL p (List.mem_of_getElem? hp)) (fun S _ hs=>hs p (List.mem_of_getElem? hp)),fun r hr=>?_⟩
   rw [List.take_add_one,hp] at hr
   rcases List.mem_append.mp hr with hr | hr
   ·exact(iz U p).subset (nH r hr)
   ·rw [List.mem_singleton.mp hr]
    exact ur U p
  ·rintro σ H2 ⟨o3,T2,rfl,hP2,aak⟩
   rw [List.length_map,List.take_length] at aak
   refine bA.of (aj (aR (i:=4) eV.nd rfl (Or.inl rfl) (OF ED ak)) (aj (lB PassesOwn.never az) az)) ?_
   dsimp! []
   refine ww2 (IQ2 E ps sd l td H1) (IQ9 E ps sd l td H1) (E.length+2) ⟨o3,none,none,none,none,-1,T2,rfl,hP2,aak,by decide,by omega,fun z=>by omega,by omega⟩ ?_ ?_
   ·rintro mm σ H3 ⟨o3,o5,o6,o7,o8,many,T3,rfl,zT,MD,hm1,AR,X2,hmm⟩
    refine g_.of (aA qZ (pv 4) (bJ fU rfl T.eC dW (aa (pv 2) ag)) (aE _)) ?_
    dsimp! []
    have K_:=zT.len
    have hgl:∀U:List Nat,(gk U).length=U.length:=fun U=>List.length_map _
    refine⟨_,zT.di,?_⟩
    rw [hgl]
    refine cQ (fun tQ=>?_) fun tQ=>?_
    ·have fg:many < T3.length:=by
      have:many≠(T3.length:Int):=fun z=>by
       rw [z,decide_eq_true rfl] at tQ
       cases tQ
      omega
     refine bA.of (aj (aR (i:=4) eV.nd rfl (Or.inl rfl) (bJ fU rfl T.eC dW (aa (pv 2) ag))) (af (b_ PassesOwn.never rfl (dn (eL (jy rfl) rfl T.ip jX (aa (pv 2) ag))) (aJ (i:=3) eV.nd rfl (Or.inl rfl)) az))) ?_
     dsimp! []
     refine⟨_,zT.di,_,.inl zT.di,fun kl ZV=>⟨⟨_,bc.of ae⟩,?_⟩⟩
     rw [hgl,uc]
     have s4:=au.put (o:=.lst ((T3.map fun(p:Nat)=>(p:Int)).map V.int)) ZV
     have hP4:=zT.same s4
     have aal:upd H3 kl (.lst ((T3.map fun(p:Nat)=>(p:Int)).map V.int)) kl=some (.lst ((T3.map fun(p:Nat)=>(p:Int)).map V.int)):=ae
     have nkl:kl≠td:=fun z=>by
      have:=zT.di
      rw [←z,ZV] at this
      cases this
     generalize upd H3 kl (.lst ((T3.map fun(p:Nat)=>(p:Int)).map V.int))=H4 at hP4 aal
     refine d0 ((T3.map fun(p:Nat)=>(p:Int)).map V.int) (IQ3 E ps sd l td kl T3 H1) ⟨o3,o5,o6,o7,o8,T3,rfl,hP4,aal,List.prefix_rfl,fun _ p hp=>by simp at hp⟩ ?_ ?_ ?_
     ·rintro j σ H' _ ⟨o3,o5,o6,o7,o8,U,rfl,_,ME,_⟩
      exact bc.of ME
     ·rintro j x σ H' hx ⟨o3,o5,o6,o7,o8,U,rfl,hP,ME,mH,Es⟩
      obtain⟨p,hp,rfl⟩:∃p,T3[j]?=some p∧x=V.int (p:Int):=by
       rw [List.getElem?_map,List.getElem?_map] at hx
       cases e:T3[j]? with
       | none=>rw [e] at hx; cases hx
       | some p=>rw [e] at hx; exact⟨p,rfl,(Option.some.inj hx).symm⟩
      have hpT:=List.mem_of_getElem? hp
      obtain⟨i0,e,n,QF,hN,hi⟩:=h.mem (zT.Eo p hpT)
      have muT:∀b,b=td→Mu H1 b:=fun b z=>.inr ⟨gk [],by rw [z]; exact p1.di⟩
      obtain⟨aam,fx,WJ,aff,El⟩:=h1.row i0 _ n QF hN
      obtain⟨aan,fx0,aao,_,_⟩:=h.row i0 _ n QF hN
      have kq:=hP.kp _ _ (QH aan) aam
      have p8:=hP.kp _ _ (QH aao) WJ
      have zS:=aff.kp hP.kp muT
      have CC:=hP.kp _ _ (QH h.sh) h1.sh
      refine gN ?_
      refine bA.of (aj (gY (cJ (bO hr) (pv 0) (pv 3) (fun _ _=>rfl)) (zX (n:=2) rfl (aZ (aJ (i:=5) eV.nd rfl (Or.inl rfl)) (aZ (aJ (i:=6) eV.nd rfl (Or.inl rfl)) gb)))) (aj (aR (i:=7) eV.nd rfl (Or.inl rfl) (pv 6)) (aj jw az))) ?_
      dsimp! []
      refine⟨_,by rw [←nI h.nd hi hN]; exact c8.k (k:=Sum.inl (p:Int)) CC,n.1,rfl,_,bU.of kq,rfl,_,_,rfl,_,_,rfl,rfl,?_⟩
      have y_:=List.mem_of_getElem? QF
      refine n9 (JQ1 K E ps sd l td n.2 T3 U p e H') (Eh.of (bF (aA qZ (pv 5) aX (aE _)) (af (aR (i:=7) eV.nd rfl (Or.inl rfl) (bt tP (nV tM (pv 6) (nA ak) B1) (eL CV rfl T.Cp SU (aa (tD (eE cA (pv 5) aX (aE _)) (tD (eE cA (aC aB (aC bS (pv 6) ak (fun _ _=>rfl)) ak (fun _ _=>rfl)) aX (aE _)) (zW (Eu (hZ (bO hr) (aC aB (aC bS (pv 6) ak (fun _ _=>rfl)) ak (fun _ _=>rfl)) (pv 2)))))) ag))))) aT) ?_) ?_
      ·dsimp! []
       refine cQ (fun hs=>?_) fun hs=>?_
       ·have hnp:∀fs w,e.t≠.plain fs w:=fun fs w z=>by
         rw [z] at hs
         exact absurd hs afc
        refine⟨n.2,fx,rfl,bc.of p8,fun sl hsl=>?_⟩
        rw [afb]
        have s6:=au.put (o:=.lst (fx.drop 1)) hsl
        have aap:upd H' sl (.lst (fx.drop 1)) sl=some (.lst (fx.drop 1)):=ae
        have WW:=s6 _ _ p8
        have MF:=zS.same s6
        have JP:=hP.same s6
        generalize upd H' sl (.lst (fx.drop 1))=H6 at s6 aap WW MF JP
        have rep:∀k:Int,((k=1∧∃(kk:Nat) (v1:Vl),e.t=.pair (.th (kk:Int)) v1∧kk∈U)∨(k=0∧∀(kk:Nat) (v:Vl),e.t=.pair (.th (kk:Int)) v→kk∉U))→YE (.ref sl) (.int k) H6 fun x H1=>JQ1 K E ps sd l td n.2 T3 U p e H' [some (.ref sd),some (.ref l),some (.ref td),some (.int (p:Int)),some (.int (T3.length:Int)),some (.str e.t.sort),some (.ref n.2),some x,o8] H1:=fun k hk=>by
         have hlen:(fx.drop 1).length≤4:=by
          rw [List.length_drop]
          omega
         have hk0:k=1∨k=0:=hk.imp (·.1) (·.1)
         refine⟨sl,k,_,rfl,rfl,aap,by omega,by omega,?_,fun wl ET=>?_⟩
         ·rcases hk0 with rfl | rfl
          ·exact Nat.le_trans (Nat.le_of_eq (Nat.mul_one _)) (Nat.le_of_lt (bb (by omega)))
          ·exact Nat.zero_le _
         have nwt:wl≠td:=fun z=>by
          have:=JP.di
          rw [←z,ET] at this
          cases this
         ·rcases hk with ⟨rfl,kk,v1,et1,hkU⟩ | ⟨rfl,hno⟩
          ·refine⟨_,wl,_,e.t.fs.drop 1,rfl,s6.trans (au.put ET),ae,nwt,?_,fun fs w z=>absurd z (hnp fs w),fun k v z _=>?_,fun v hv=>⟨List.mem_of_mem_drop hv,fun r er S c hs=>?_⟩⟩
           ·have:(List.replicate (1:Int).toNat (fx.drop 1)).flatten=fx.drop 1:=by
             show(List.replicate 1 (fx.drop 1)).flatten=_
             rw [List.replicate_one,List.flatten_singleton]
            rw [this]
            exact(MF.same (au.put ET)).drop 1
           ·rw [z]
            exact List.mem_singleton.mpr rfl
           ·rw [et1] at hv
            have ev:v=v1:=List.mem_singleton.mp hv
            exact c.wait p e y_ (zT.mn S c hs p hpT) kk r (by rw [et1,←ev,er]; rfl) (hP.mn S c hs kk hkU)
          ·exact⟨_,wl,_,[],rfl,s6.trans (au.put ET),ae,nwt,.nil _ _,fun fs w z=>absurd z (hnp fs w),fun k v z hkU=>absurd hkU (hno k v z),fun v hv=>(nomatch hv)⟩
        refine cQ (fun Mv=>?_) fun Mv=>rep 0 (.inr ⟨rfl,fun kk v z=>?_⟩)
        ·obtain⟨k1,v1,et⟩:∃k1 v1,e.t=.pair k1 v1:=by
          have hs:e.t.sort="pair":=of_decide_eq_true Mv
          cases et:e.t with
          | plain fs w=>exact absurd et (hnp fs w)
          | weak f=>rw [et] at hs; exact absurd hs WG
          | pair k v=>exact⟨k,v,rfl⟩
         have g5:fx.length=2:=by
          have:=MF.1
          rw [show(p,e).2.t=e.t from rfl,et] at this
          exact this.symm
         have Mw:fx[0]?=some fx[0]:=List.getElem?_eq_getElem (by omega)
         have JG:=MF.2 0 _ k1 Mw (by rw [show(p,e).2.t=e.t from rfl,et]; rfl)
         obtain⟨t1,et1,ht1⟩:=JG
         rw [et1] at Mw
         refine⟨n.2,fx,_,_,rfl,rfl,bc.of WW,b9 Mw,t1,_,_,_,rfl,rfl,ht1,k1.hd,rfl,cQ (fun kg=>?_) fun kg=>rep 0 (.inr ⟨rfl,fun kk v z=>?_⟩)⟩
         ·obtain⟨z,rfl⟩:∃z,k1=Vl.th z:=by
           cases k1 with
           | no=>exact absurd kg (by decide +kernel)
           | num m=>exact absurd (of_decide_eq_true kg) fun y=>JH (V.str.inj y)
           | th z=>exact⟨z,rfl⟩
          obtain⟨r,rfl,JI⟩:=h.cls _ y_ z (by rw [show(p,e).2.t=e.t from rfl,et]; exact List.mem_cons_self ..)
          refine⟨n.2,fx,_,_,rfl,rfl,bc.of WW,b9 Mw,t1,_,_,V.int (r:Int),rfl,rfl,ht1,rfl,_,c8.k (k:=Sum.inl (r:Int)) JP.di,?_⟩
          rw [ph]
          by_cases hrU:r∈U
          ·rw [decide_eq_true hrU,if_pos rfl]
           exact rep 1 (.inl ⟨rfl,r,_,et,hrU⟩)
          ·rw [decide_eq_false hrU,if_neg Bool.false_ne_true]
           refine rep 0 (.inr ⟨rfl,fun kk v z=>?_⟩)
           rw [et] at z
           have e1:Vl.th (r:Int)=Vl.th (kk:Int):=(Tg.pair.inj z).1
           have:r=kk:=by
            have:=Vl.th.inj e1
            omega
           exact this▸hrU
         ·rw [et] at z
          rw [(Tg.pair.inj z).1] at kg
          exact absurd (decide_eq_true rfl) kg
        ·rw [z] at Mv
         exact absurd (decide_eq_true rfl) Mv
       ·obtain⟨fs,w,et⟩:∃fs w,e.t=.plain fs w:=by
         cases et:e.t with
         | plain fs w=>exact⟨fs,w,rfl⟩
         | weak f=>rw [et] at hs; exact absurd afd hs
         | pair k v=>rw [et] at hs; exact absurd afe hs
        refine⟨_,_,fx,e.t.fs,rfl,au.refl _,p8,QH aao,zS,fun fs' w' z=>by rw [z]; rfl,fun k v z=>?_,fun v hv=>⟨hv,fun r er S c hs=>c.hold p e y_ (zT.mn S c hs p hpT) r ?_⟩⟩
        rotate_left
        ·rw [et] at hv ⊢
         exact List.mem_filterMap.mpr ⟨v,hv,by rw [er]; rfl⟩
        rw [et] at z
        cases z
      ·rintro σ' H5 ⟨o8,wl,wx,vs,rfl,s5,ET,nwl,WX,hw1,hw2,hw3⟩
       refine bA.of (af (b_ PassesOwn.never rfl (dn (pv 7)) (aJ (i:=8) eV.nd rfl (Or.inl rfl)) az)) ?_
       dsimp! []
       have hP5:=hP.same s5
       have afg:=s5 _ _ ME
       have mu5:∀b,b=td→Mu H5 b:=fun b z=>.inr ⟨gk U,by rw [z]; exact hP5.di⟩
       refine⟨⟨_,bc.of ET⟩,d0 wx (IQ4 E ps sd l td n.2 wl T3 U p e vs H1 H5) ⟨o8,U,rfl,Kp.refl _ _,hP5,List.prefix_rfl,fun r hr=>by simp at hr⟩ ?_ ?_ ?_⟩
       ·rintro jj σ H6 _ ⟨o8',U',rfl,k6,_⟩
        exact bc.of (k6 _ _ nwl ET)
       ·rintro jj x σ H6 hx ⟨o8',U',rfl,k6,JP,pC,DP⟩
        have hjl:=(List.getElem?_eq_some_iff.mp hx).1
        obtain⟨v,hv⟩:∃v,vs[jj]?=some v:=⟨_,List.getElem?_eq_getElem (by have:=WX.1; omega)⟩
        obtain⟨t,rfl,ht⟩:=(WX.2 jj x v hx hv).kp k6 mu5
        refine gN ?_
        refine bA.of (af (bF (aA cA (aC aB (pv 8) ak (fun _ _=>rfl)) aX (aE _)) (af (fk (bO hr) (pv 2) (aC aB (pv 8) ak (fun _ _=>rfl)) dQ rfl)) aT)) ?_
        dsimp! []
        refine⟨t,_,_,_,rfl,rfl,ht,v.hd,rfl,?_⟩
        have more:∀U'',U' <+: U''→(∀r:Nat,v=Vl.th (r:Int)→r∈U'')→∀r:Nat,Vl.th (r:Int)∈vs.take (jj+1)→r∈U'':=fun U'' hp hr r hm=>by
         rw [List.take_add_one,hv] at hm
         rcases List.mem_append.mp hm with hm | hm
         ·exact hp.subset (DP r hm)
         ·exact hr r (List.mem_singleton.mp hm).symm
        cases v with
        | no=>exact cX ⟨_,U',rfl,k6,JP,pC,more U' List.prefix_rfl fun r z=>by cases z⟩
        | num m=>exact cX ⟨_,U',rfl,k6,JP,pC,more U' List.prefix_rfl fun r z=>by cases z⟩
        | th z=>
         obtain⟨r,rfl,JI⟩:=h.cls _ y_ z (hw3 _ (List.mem_of_getElem? hv)).1
         have hU6:=JP.len
         refine fB ⟨t,_,_,V.int (r:Int),rfl,rfl,ht,rfl,_,lC.k (k:=Sum.inl (r:Int)) JP.di (bb (by rw [hgl]; omega)),_,_,rfl,k6.set rfl,JP.put JI ((hw3 _ (List.mem_of_getElem? hv)).2 r rfl),pC.trans (iz U' r),more _ (iz U' r) fun r' z=>?_⟩
         have:r=r':=by
          have:=Vl.th.inj z
          omega
         exact this▸ur U' r
       ·rintro σ H6 ⟨o8',U',rfl,k6,JP,pC,DP⟩
        rw [←WX.1,List.take_length] at DP
        refine⟨_,_,_,_,_,U',rfl,JP,k6 _ _ nkl afg,mH.trans pC,fun hlen=>?_⟩
        have i3:=mH.length_le
        have g5:=pC.length_le
        have eU:U=T3:=(mH.eq_of_length (by omega)).symm
        have eU':U'=U:=(pC.eq_of_length (by omega)).symm
        rw [List.take_add_one,hp]
        intro p' LW
        rcases List.mem_append.mp LW with LW | LW
        ·exact Es (by omega) p' LW
        ·rw [show p'=p from List.mem_singleton.mp LW]
         intro e' he'
         have ee:e'=e:=by
          have:=h.tm.nd.same he' y_ rfl
          cases this
          rfl
         subst ee
         rw [eU',eU] at DP
         refine⟨fun fs w et r hr=>DP r (by rw [hw1 fs w et]; exact hr),fun k r et hk=>DP r (hw2 k _ et (by rw [eU]; exact hk))⟩
     ·rintro σ H' ⟨o3,o5,o6,o7,o8,U,rfl,hP,ME,mH,Es⟩
      have hle:=mH.length_le
      refine⟨(E.length+1 - T3.length),by omega,o3,o5,o6,o7,o8,T3.length,U,rfl,hP,fun p hp=>mH.subset (MD p hp),by omega,by omega,fun z=>?_,by omega⟩
      have ez:U=T3:=(mH.eq_of_length (by omega)).symm
      subst ez
      intro p hp
      exact Es rfl p (by rw [List.take_of_length_le (by simp)]; exact hp)
    ·exact⟨_,_,_,_,_,_,T3,rfl,zT,MD,X2 (by
      cases e9:decide (many=(T3.length:Int))with
      | true=>exact of_decide_eq_true e9
      | false=>rw [e9] at tQ; exact absurd rfl tQ)⟩
   ·rintro σ H3 ⟨o3,o4,o5,o6,o7,o8,T3,rfl,zT,MD,hc3⟩
    refine bA.of (af (aw (pv 2))) ?_
    dsimp! []
    exact q _ _ T3 (fun b u e=>zT.kp b u (QH e) (s1 b u e)) DI zT.di MD (MC h.cls hc3) zT.nd zT.Eo zT.mn
theorem s_ {H H':Hp}{r:Addr}{kvs:List (Key×V)}{o:Obj}(e:H r=some (.dK kvs)) (k:au (upd H r (.d7 o (.dK kvs))) H'):au H (upd H' r (.dK kvs)):=fun b u h=>by
 by_cases z:b=r
 ·subst z
  rw [e] at h
  rw [ae]
  exact h
 ·rw [ah z]
  exact k _ _ (by rw [ah z]; exact h)
theorem CD:∀E:List (Nat×En),(E.filterMap fun y=>if y.2.cH=true then some (V.int (y.1:Int))else none)=((E.filter fun y=>y.2.cH).map (·.1)).map fun(p:Nat)=>V.int (p:Nat)
 | []=>rfl
 | y::E=>by
  rw [List.filterMap_cons,CD E]
  by_cases h:y.2.cH=true
  ·rw [if_pos h,List.filter_cons_of_pos (p:=fun y:Nat×En=>y.2.cH) h]
   rfl
  ·rw [if_neg h,List.filter_cons_of_neg (p:=fun y:Nat×En=>y.2.cH) h]
noncomputable def pD (l:List Nat):List V:=(l.map fun(p:Nat)=>(p:Int)).map V.int
theorem DQ (l:List Nat):(pD l).length=l.length:=by
 unfold pD
 rw [List.length_map,List.length_map]
theorem JQ {k:Nat}{l:List Nat}:inV (V.int (k:Int)) (pD l)=decide (k∈l):=by
 rw [Bool.eq_iff_iff,decide_eq_true_iff]
 unfold inV pD
 rw [List.any_eq_true]
 constructor
 ·rintro⟨x,hx,e⟩
  obtain⟨y,hy,rfl⟩:=List.mem_map.mp hx
  obtain⟨z,hz,rfl⟩:=List.mem_map.mp hy
  have:(z:Int)=(k:Int):=by simpa [K1] using e
  have e2:z=k:=by omega
  rw [←e2]
  exact hz
 ·intro h
  exact⟨_,List.mem_map.mpr ⟨_,List.mem_map.mpr ⟨k,h,rfl⟩,rfl⟩,by simp [K1]⟩
theorem A2 (l:List Nat):(pD l).all fS=true:=by
 rw [List.all_eq_true]
 exact fun x hx=>iU _ x hx
theorem FS.other {H H':Hp}{M:MA}{st sd nd r:Addr}{E:List (Nat×En)}{N:List (Addr×Addr)}{kvs rs:List (Key×V)}(h:FS a K H M st sd nd E N kvs) (k:Kp (·=r) H H') (hr:H r=some (.dK rs)) (n1:r≠sd) (n2:r≠nd) (no:¬M.own r):FS a K H' M st sd nd E N kvs:=by
 have mu:∀b,b=r→Mu H b:=fun b e=>.inr ⟨rs,by rw [e]; exact hr⟩
 have nt:∀b xs,H b=some (.tup xs)→b≠r:=fun b xs e z=>by rw [z,hr] at e; cases e
 refine⟨k _ _ (nt _ _ h.tup) h.tup,h.tm.dict k hr no,k _ _ n1.symm h.sh,k _ _ n2.symm h.na,h.nm,h.len,fun i p n hp hn=>?_,h.cls,h.DJ,h.uk,h.kh,h.Qx,h.Cu⟩
 obtain⟨h1,fx,h2,h3,h4⟩:=h.row i p n hp hn
 exact⟨k _ _ (nt _ _ h1) h1,fx,k _ _ (fun z=>by rw [show n.2=r from z,hr] at h2; cases h2) h2,h3.kp k mu,h4⟩
theorem MG {H H':Hp}{r c:Addr}{kvs:List (Key×V)}{o:Obj}(e:H r=some (.dK kvs)) (k:Kp (·=c) (upd H r (.d7 o (.dK kvs))) H'):Kp (·=c) H (upd H' r (.dK kvs)):=fun b u n h=>by
 by_cases z:b=r
 ·subst z
  rw [e] at h
  rw [ae]
  exact h
 ·rw [ah z]
  exact k _ _ n (by rw [ah z]; exact h)
theorem CF (U:List Nat):(U.map fun(p:Nat)=>(p:Int)).map V.int=U.map fun p=>V.int (p:Nat):=by
 rw [List.map_map]
 rfl
theorem MH {T:List Nat}(h:T.Nodup) (q:Nat):(lN T q).Nodup:=by
 unfold lN
 split
 ·exact h
 ·rename_i z
  exact gg h z
theorem MI {T:List Nat}{q p:Nat}(h:p∈lN T q):p∈T∨p=q:=by
 unfold lN at h
 split at h
 ·exact .inl h
 ·exact(List.mem_append.mp h).imp id List.mem_singleton.mp
noncomputable def IM1 (st ev:Addr) (E:List (Nat×En)) (kvs:List (Key×V)) (U:List Nat) (HF:Hp) (j:Nat) (σ:List (Option V)) (H':Hp):Prop:=∃(o2:Option V) (W:List Nat),σ=[some (.ref st),some (.ref ev),o2]∧Kp (·=ev) HF H'∧H' ev=some (.dK (gk W))∧W.Nodup∧(∀p∈U,p∈W)∧(∀p∈W,p∈E.map (·.1))∧∀kv∈kvs.take j,∀q:Nat,aM kvs kv.1=some (.int (q:Nat))→q∈W
noncomputable def WY (a:da) (K:PySem.W.Frag):Sp:=fun vs H Q _=>∃M st sd nd E N kvs ev,∃U:List Nat,vs=[.ref st,.ref ev]∧FS a K H M st sd nd E N kvs∧H ev=some (.dK (gk U))∧U.Nodup∧(∀p∈U,p∈E.map (·.1))∧ev≠sd∧ev≠nd∧¬M.own ev∧E.length≤100 ∧
 ∀(H':Hp) (td:Addr) (T:List Nat),Kp (·=ev) H H'→FS a K H' M st sd nd E N kvs→H' ev≠none→H td=none→H' td=some (.dK (gk T))→(∀p∈U,p∈T)→(∀(k:Key) (q:Nat),aM kvs k=some (.int (q:Nat))→q∈T)→Cl E (·∈T)→T.Nodup→(∀p∈T,p∈E.map (·.1))→Q (.ref td) H'
theorem JR (T:Txt K mg a):aN P w K mg base cx 2 a.yL a.yM ["_law_state","_law_ever"] (WY a K):=by
 refine T.mx.ok Hg (fun vs H Q E h=>?_) (fun bI A outer s H vs Q E hr h=>?_)
 ·obtain⟨_,_,_,_,_,_,_,_,_,rfl,_⟩:=h
  rfl
 ·obtain⟨M,st,sd,nd,E,N,kvs,ev,U,rfl,h,MJ,hUn,hU,nes,WZ,noe,hE,q⟩:=h
  refine⟨_,(aj (nF (b_ PassesOwn.never rfl (nE (aC aB (pv 0) ak (fun _ _=>rfl))) (aJ (i:=2) Hg.nd rfl (Or.inl rfl)) az)) az),?_⟩
  dsimp! []
  have zR:=h.na
  refine⟨st,_,_,_,rfl,rfl,bU.of h.tup,rfl,nd,rfl,_,zR,fun o=>?_⟩
  have kF:Kp (·=nd) H (upd H nd (.d7 o (.dK kvs))):=(Kp.refl _ _).set rfl
  have W0:=kF _ _ (fun z=>by have:=h.tup; rw [z,zR] at this; cases this) h.tup
  have evF:=kF _ _ WZ MJ
  have hF:upd H nd (.d7 o (.dK kvs)) nd=some (.d7 o (.dK kvs)):=ae
  have Ek:∀H',Kp (·=ev) (upd H nd (.d7 o (.dK kvs))) H'→Kp (·=ev) H (upd H' nd (.dK kvs)):=fun H' k=>MG zR k
  generalize upd H nd (.d7 o (.dK kvs))=HF at W0 evF hF Ek
  have nse:st≠ev:=fun z=>by rw [z,evF] at W0; cases W0
  have Ms:∀kv∈kvs,∃p:Nat,aM kvs kv.1=some (.int (p:Nat))∧p∈E.map (·.1):=fun kv sU=>by
   cases e9:aM kvs kv.1 with
   | none=>exact absurd (List.mem_map.mpr ⟨kv,sU,rfl⟩) (h_ e9)
   | some v=>
    obtain⟨p,rfl,hp⟩:=h.nm.get e9
    exact⟨p,rfl,hp⟩
  have afh:∀W:List Nat,W.Nodup→(∀p∈W,p∈E.map (·.1))→W.length≤100:=fun W h1 h2=>by
   have:=jD h1 h2
   rw [List.length_map] at this
   omega
  refine tX (IM1 st ev E kvs U HF) ⟨none,U,rfl,Kp.refl _ _,evF,hUn,fun p hp=>hp,hU,fun kv sU=>by simp at sU⟩ ?_ ?_ ?_
  ·rintro j σ H' _ ⟨o2,W,rfl,k',_⟩
   exact k' _ _ WZ.symm hF
  ·rintro j kv σ H' sU ⟨o2,W,rfl,k',W2,hWn,hUW,hWE,nH⟩
   obtain⟨p,hp,MK⟩:=Ms kv (List.mem_of_getElem? sU)
   have hWl:=afh W hWn hWE
   refine gN ?_
   refine bA.of (af (fk (bO hr) (pv 1) (cJ (bO hr) (aC aB (pv 0) ak (fun _ _=>rfl)) (pv 2) (fun _ _=>rfl)) dQ rfl)) ?_
   dsimp! []
   refine⟨st,_,_,_,rfl,rfl,bU.of (k' _ _ nse W0),rfl,nd,rfl,_,.inl ⟨kvs,kv.1,.inr ⟨o,k' _ _ WZ.symm hF⟩,rfl,hp.symm⟩,_,lC.k (k:=Sum.inl (p:Int)) W2 (bb (by unfold gk; rw [List.length_map]; omega)),_,lN W p,rfl,k'.set rfl,by rw [ae,JN]; rfl,MH hWn p,fun r hr=>(iz W p).subset (hUW r hr),fun r hr=>?_,fun kv2 aaq q2 Jx=>?_⟩
   ·rcases MI hr with hr | rfl
    ·exact hWE r hr
    ·exact MK
   ·rw [List.take_add_one,sU] at aaq
    rcases List.mem_append.mp aaq with y | y
    ·exact(iz W p).subset (nH kv2 y q2 Jx)
    ·have y:kv2=kv:=List.mem_singleton.mp y
     rw [y,hp] at Jx
     have:p=q2:=by
      have:=V.int.inj (Option.some.inj Jx)
      omega
     exact this▸ur W p
  ·rintro σ H' ⟨o2,W,rfl,k',W2,hWn,hUW,hWE,nH⟩
   rw [List.take_length] at nH
   refine .inr ⟨nd,_,_,⟨?_,⟨o,k' _ _ WZ.symm hF⟩,rfl⟩,?_⟩
   ·intro o' u' z
    have z2:H nd=some (HO.d7 o' u'):=z
    rw [zR] at z2
    cases z2
   have k6:=Ek _ k'
   have ML:upd H' nd (.dK kvs) ev=some (.dK (gk W)):=by rw [ah WZ]; exact W2
   generalize upd H' nd (.dK kvs)=H6 at k6 ML
   have h6:=h.other k6 MJ nes WZ noe
   refine bA.of (af (aw (aH (JO T) (hr.mono (by decide)) rfl T.IE T.mw.kp T.ID .nil ar (aa (aC aB (pv 0) ak (fun _ _=>rfl)) (aa (eL (jy rfl) rfl T.ip jX (aa (pv 1) ag)) ag))))) ?_
   dsimp! []
   refine⟨st,_,_,_,rfl,rfl,bU.of h6.tup,rfl,_,.inl ML,fun kl ZV=>?_⟩
   rw [uc,CF]
   have s7:=au.put (o:=.lst (W.map fun p=>V.int (p:Nat))) ZV
   refine⟨M,st,sd,nd,E,N,kvs,kl,W,rfl,h6.same s7,ae,hWE,hE,fun H8 td T2 s8 A3 DI hWT tS OQ hTE _=>?_⟩
   have k8:Kp (·=ev) H H8:=k6.trans (au.kp (s7.trans s8))
   refine q H8 td T2 k8 (h.other k8 MJ nes WZ noe) (by rw [(s7.trans s8) _ _ ML]; intro z; cases z) ?_ DI (fun p hp=>hWT p (hUW p hp)) (fun k r hr=>?_) tS OQ hTE
   ·cases e:H td with
    | none=>rfl
    | some u=>
     have h9:=s7.free A3
     by_cases z:td=ev
     ·rw [z,ML] at h9
      cases h9
     ·rw [k6 _ _ z e] at h9
      cases h9
   ·obtain⟨kv,sU,ek⟩:=List.mem_map.mp (nD hr)
    exact hWT r (nH kv sU r (by rw [ek]; exact hr))
theorem aar:¬(("white":Str)="black"):=by decide +kernel
noncomputable def DR (E:List (Nat×En)):List Nat:=(E.filter fun y=>y.2.cH).map (·.1)
theorem uu {E:List (Nat×En)}{p:Nat}:p∈DR E↔bQ E p=true:=by
 rw [bE]
 unfold DR
 constructor
 ·intro h
  obtain⟨⟨q,e⟩,h1,h2⟩:=List.mem_map.mp h
  obtain⟨h3,h4⟩:=List.mem_filter.mp h1
  have h2:q=p:=h2
  exact⟨e,h2▸h3,h4⟩
 ·rintro⟨e,h1,h2⟩
  exact List.mem_map.mpr ⟨(p,e),List.mem_filter.mpr ⟨h1,h2⟩,rfl⟩
theorem W3 {E:List (Nat×En)}(hA:pd E):(DR E).Nodup:=List.pairwise_map.mpr (List.Pairwise.filter _ hA)
noncomputable def W4 (a:da) (K:PySem.W.Frag):Sp:=fun vs H Q _=>∃M st sd nd E N kvs k gd,vs=[.ref st,.ref k]∧FS a K H M st sd nd E N kvs∧MS a K H M k gd E []∧gd≠sd∧E.length≤100∧Cl E (fun p=>bQ E p=true)∧(∀(k:Key) (q:Nat),aM kvs k=some (.int (q:Nat))→bQ E q=true)∧∀H',au H H'→Q (.bl true) H'
theorem W5 (T:Txt K mg a):aN P w K mg base cx 6 a.yJ a.yK ["_law_state","_law_marking"] (W4 a K):=by
 refine T.oR.ok Au (fun vs H Q E h=>?_) (fun bI A outer s H vs Q E hr h=>?_)
 ·obtain⟨_,_,_,_,_,_,_,_,_,rfl,_⟩:=h
  rfl
 ·obtain⟨M,st,sd,nd,E,N,kvs,k,gd,rfl,h,hm,ngs,hE,tS,Qz,q⟩:=h
  refine⟨_,(aj (nF (Fd (j:=2) rfl Au.nd rfl rfl (C9 (x:="_law_place") (ns:=["_law_marking"]) (fr:=[1]) rfl (by decide +kernel) rfl (by decide +kernel) rfl (List.forall_mem_cons.mpr ⟨rfl,List.forall_mem_nil _⟩) rfl rfl (List.forall_mem_cons.mpr ⟨⟨rfl,rfl,.inl rfl⟩,List.forall_mem_nil _⟩) (by decide +kernel)) (nE (aC aB (pv 0) ak (fun _ _=>rfl))) (fun _ _ _ _=>(pv 0)) (fun _ _ _ _=>(.one (aA cA (aI (pv 1) T.av T.Pp (ZP T) (hr.mono (by decide)) T.Zx .nil ar (aa (pv 0) ag)) aX (aE _)))))) (aj (bF (PW.pt (Ex (aA qZ (bJ fU rfl T.eC dW (aa (aH (JO T) (hr.mono (by decide)) rfl T.IE T.mw.kp T.ID .nil ar (aa (aC aB (pv 0) ak (fun _ _=>rfl)) (aa (pv 2) ag))) ag)) (bJ cB rfl T.eC dW (aa (pv 2) ag)) (aE _)) (Ew (aA (Fl hr.units) (c4 (pv 1) T.av T.Cf (Jm T) (hr.mono (by decide)) T.LZ .nil ar) (cE ag) (aE _))))) (af (aw dQ)) aT) (aj (nF (b_ PassesOwn.never rfl (nE (aC aB (pv 0) ak (fun _ _=>rfl))) (aJ (i:=3) Au.nd rfl (Or.inl rfl)) az)) az))),?_⟩
  dsimp! []
  have CC:=h.sh
  have hlen:(gG (E.map (·.1)) N).length=E.length:=by
   rw [Ct (by rw [List.length_map]; exact h.len),List.length_map]
  refine⟨st,_,_,_,rfl,rfl,bU.of h.tup,rfl,sd,rfl,_,CC,fun o D hD=>?_⟩
  have W6:sd≠D:=fun z=>by
   rw [z,ae] at hD
   cases hD
  have kF:Kp (·=sd) H (upd H sd (.d7 o (.dK (gG (E.map (·.1)) N)))):=(Kp.refl _ _).set rfl
  have muF:∀b,b=sd→Mu H b:=fun b e=>.inr ⟨gG (E.map (·.1)) N,by rw [e]; exact CC⟩
  have W7:=h.tm.dict kF CC h.uk
  have hmF:=hm.to kF muF ngs W7 hm.gm
  have hF:upd H sd (.d7 o (.dK (gG (E.map (·.1)) N))) sd=some (.d7 o (.dK (gG (E.map (·.1)) N))):=ae
  have Ek:∀H',au (upd H sd (.d7 o (.dK (gG (E.map (·.1)) N)))) H'→au H (upd H' sd (.dK (gG (E.map (·.1)) N))):=fun H' k=>s_ CC k
  generalize upd H sd (.d7 o (.dK (gG (E.map (·.1)) N)))=HF at hD W7 hmF hF Ek
  have sD:∀ys,au HF (upd HF D (.lst ys)):=fun ys=>au.put hD
  have aas:∀(j:Nat) kv (y:Nat×En),(gG (E.map (·.1)) N)[j]?=some kv→E[j]?=some y→kV kv.1=V.int (y.1:Int):=fun j kv y hx hb=>by
   have hN:N[j]?=some (N[j]'(by have:=(List.getElem?_eq_some_iff.mp hb).1; rw [←h.len]; exact this)):=List.getElem?_eq_getElem _
   rw [Jp (p:=y.1) (by rw [List.getElem?_map,hb]; rfl) hN] at hx
   cases hx
   rfl
  refine FC E (fun y=>if y.2.cH=true then some (V.int (y.1:Int))else none) (by rw [hlen]; omega) hlen.symm (fun ys=>by rw [ah W6]; exact hF) ?_ ?_ ?_
  ·intro j kv y ys R' hx hb X3
   have ekv:=aas j kv y hx hb
   have hmD:=hmF.same (sD ys)
   obtain⟨dk,hk⟩:=hmD.ob
   have hyE:=List.mem_of_getElem? hb
   dsimp! [aV,Option.join_some,ekv]
   refine⟨dk,_,hk,cU,M,k,gd,E,[],y.1,rfl,hmD,List.mem_map.mpr ⟨y,hyE,rfl⟩,rfl,?_⟩
   have ud:bQ E y.1=y.2.cH:=h.tm.nd.mk (p:=y.1) (e:=y.2) hyE
   unfold Wd
   rw [ud]
   cases em:y.2.cH with
   | true=>
    rw [em] at X3
    rw [if_pos rfl,if_neg (List.not_mem_nil),decide_eq_true rfl]
    exact X3
   | false=>
    rw [em] at X3
    rw [if_neg Bool.false_ne_true,decide_eq_false fun z=>aar (V.str.inj z)]
    exact X3
  ·intro j kv y z ys R' hx hb hy X3
   have ekv:=aas j kv y hx hb
   have ey:V.int (y.1:Int)=z:=by
    cases em:y.2.cH <;> rw [em] at hy
    ·cases hy
    ·exact Option.some.inj hy
   dsimp! [aV,Option.join_some,ekv]
   rw [ey]
   exact X3
  rw [CD]
  refine .inr ⟨sd,_,_,⟨?_,⟨o,by rw [ah W6]; exact hF⟩,rfl⟩,?_⟩
  ·intro o' u' z
   have z2:H sd=some (HO.d7 o' u'):=z
   rw [CC] at z2
   cases z2
  have emk:((E.filter fun y=>y.2.cH).map (·.1))=DR E:=rfl
  rw [emk]
  have s6:=Ek _ (sD ((DR E).map fun(p:Nat)=>V.int (p:Nat)))
  have hD6:upd (upd HF D (.lst ((DR E).map fun(p:Nat)=>V.int (p:Nat)))) sd (.dK (gG (E.map (·.1)) N)) D=some (.lst ((DR E).map fun(p:Nat)=>V.int (p:Nat))):=by
   rw [ah W6.symm,ae]
  generalize upd (upd HF D (.lst ((DR E).map fun(p:Nat)=>V.int (p:Nat)))) sd (.dK (gG (E.map (·.1)) N))=H6 at s6 hD6
  clear Ek sD hF hmF W7 kF muF hD
  have h6:=h.same s6
  have nH:∀p∈DR E,p∈E.map (·.1):=fun p hp=>by
   obtain⟨y,hy,rfl⟩:=List.mem_map.mp hp
   exact List.mem_map.mpr ⟨y,(List.mem_filter.mp hy).1,rfl⟩
  dsimp! []
  refine⟨st,_,_,_,rfl,rfl,bU.of h6.tup,rfl,M,st,sd,nd,E,N,kvs,D,DR E,rfl,h6,hD6,nH,hE,fun H7 td U s7 A3 DI hmU afi hUn hUE hmn=>?_⟩
  have eUl:U.length=(DR E).length:=by
   have h1:=jD hUn fun p hp=>uu.mpr (hmn _ tS (fun p hp=>uu.mp hp) p hp)
   have h2:=jD (W3 h.tm.nd) hmU
   omega
  have hD7:H7 D=some (.lst (pD (DR E))):=by
   unfold pD
   rw [CF]
   exact s7 _ _ hD6
  have s67:=s6.trans s7
  have h7:=h.same s67
  have hm7:=hm.same s67
  obtain⟨dk7,QI⟩:=hm7.ob
  refine⟨td,rfl,_,DI,_,.inl (bc.of hD7),cQ (fun z=>?_) fun _=>⟨dk7,_,QI,cU,M,k,gd,E,[],rfl,hm7,fun l hl p hp=>?_⟩⟩
  ·exfalso
   rw [DQ,decide_eq_true (by unfold gk; rw [List.length_map,eUl])] at z
   cases z
  have s8:=(au.put (o:=.lst ((([]:List Nat).map fun(p:Nat)=>(p:Int)).map V.int)) hl).trans (au.put (o:=.lst []) hp)
  refine⟨_,_,.B6 (bc.of (au.put (o:=.lst []) hp _ _ ae)) (iU _),.B6 (bc.of ae) (iU []),y1 _,?_⟩
  rw [if_pos rfl,yZ]
  have hD8:=s8 _ _ hD7
  have s08:=s67.trans s8
  generalize upd (upd H7 l (.lst ((([]:List Nat).map fun(p:Nat)=>(p:Int)).map V.int))) p (.lst [])=H8 at s8 hD8 s08
  clear hmU afi hUn hUE hmn QI hm7 h7 hl hp s8 s67 s7 hD7 DI A3 eUl
  have h8:=h.same s08
  have zR:=h8.na
  refine⟨false,rfl,cX ⟨st,_,_,_,rfl,rfl,bU.of h8.tup,rfl,nd,rfl,_,zR,fun o2=>?_⟩⟩
  have nDn:D≠nd:=fun z=>by
   rw [z,zR] at hD8
   cases hD8
  have QJ:upd H8 nd (.d7 o2 (.dK kvs)) nd=some (.d7 o2 (.dK kvs)):=ae
  have kF2:Kp (·=nd) H8 (upd H8 nd (.d7 o2 (.dK kvs))):=(Kp.refl _ _).set rfl
  have hD9:=kF2 _ _ nDn hD8
  have OE:=kF2 _ _ (fun z=>by have:=h8.tup; rw [z,zR] at this; cases this) h8.tup
  have aat:∀H',au (upd H8 nd (.d7 o2 (.dK kvs))) H'→au H8 (upd H' nd (.dK kvs)):=fun H' k=>s_ zR k
  generalize upd H8 nd (.d7 o2 (.dK kvs))=HF2 at QJ hD9 OE aat
  refine tX (fun j σ H'=>∃o3:Option V,σ=[some (.ref st),some (.ref k),some (.ref D),o3]∧H'=HF2) ⟨none,rfl,rfl⟩ ?_ ?_ ?_
  ·rintro j σ H' _ ⟨o3,rfl,rfl⟩
   exact QJ
  ·rintro j kv σ H' sU ⟨o3,rfl,rfl⟩
   obtain⟨p,hp⟩:∃p:Nat,aM kvs kv.1=some (.int (p:Nat)):=by
    cases e9:aM kvs kv.1 with
    | none=>exact absurd (List.mem_map.mpr ⟨kv,List.mem_of_getElem? sU,rfl⟩) (h_ e9)
    | some v=>
     obtain⟨p,rfl,hp⟩:=h.nm.get e9
     exact⟨p,rfl⟩
   have hpU:p∈DR E:=uu.mpr (Qz _ _ hp)
   refine gN ?_
   refine bA.of (af (bF (aA tO (cJ (bO hr) (aC aB (pv 0) ak (fun _ _=>rfl)) (pv 3) (fun _ _=>rfl)) (pv 2) (by with_unfolding_all rfl)) (af (aw dQ)) aT)) ?_
   dsimp! []
   refine⟨st,_,_,_,rfl,rfl,bU.of OE,rfl,nd,rfl,_,.inl ⟨kvs,kv.1,.inr ⟨o2,QJ⟩,rfl,hp.symm⟩,D,_,rfl,.inl (bc.of hD9),rfl,A2 _,_,rfl,?_⟩
   rw [if_pos rfl,JQ,decide_eq_true hpU]
   exact cX rfl
  ·rintro σ H' ⟨o3,rfl,rfl⟩
   refine .inr ⟨nd,_,_,⟨?_,⟨o2,QJ⟩,rfl⟩,?_⟩
   ·intro o' u' z
    have z2:H nd=some (HO.d7 o' u'):=z
    rw [h.na] at z2
    cases z2
   ·refine bA.of (af (aw dQ)) ?_
    dsimp! []
    exact q _ (s08.trans (aat _ (au.refl _)))
noncomputable def Cg (H:Hp) (b:Addr):Prop:=Mu H b∨∃ps,H b=some (.iW ps)
theorem Kp.afj {K:PySem.W.Frag}{S:Addr→Prop}{H H':Hp}(k:Kp S H H') (cg:∀b,S b→Cg H b) {c:Addr}{xs:List V}(h:bU K H c xs):bU K H' c xs:=by
 rcases h with h | h
 ·have n:¬S c:=fun z=>by
   rcases cg c z with (⟨ys,e⟩ | ⟨ys,e⟩) | ⟨ps,e⟩ <;> rcases h with h | ⟨o,h⟩ <;> (rw [e] at h; cases h)
  rcases h with h | ⟨o,h⟩
  ·exact .inl (.inl (k _ _ n h))
  ·exact .inl (.inr ⟨o,k _ _ n h⟩)
 ·exact .inr h
theorem iZ.kc {S:Addr→Prop}{H H':Hp}{xs:List V}{vl:List Vl}(h:iZ K H xs vl) (k:Kp S H H') (cg:∀b,S b→Cg H b):iZ K H' xs vl:=⟨h.1,fun i x v e1 e2=>by
 obtain⟨t,e,h2⟩:=h.2 i x v e1 e2
 exact⟨t,e,k.afj cg h2⟩⟩
theorem FS.marks {H H':Hp}{M:MA}{st sd nd k gd:Addr}{E E':List (Nat×En)}{N:List (Addr×Addr)}{kvs:List (Key×V)}{G G':List Nat}(h:FS a K H M st sd nd E N kvs) (hm:MS a K H M k gd E G) (h3:gd≠sd) (h4:gd≠nd) (s:Kp (fun b=>M.own b∨b=gd) H H') (XW:MS a K H' M k gd E' G') (he:E'.map pT=E.map pT):FS a K H' M st sd nd E' N kvs:=by
 have mu:∀b,(M.own b∨b=gd)→Mu H b:=fun b z=>by
  rcases z with z | rfl
  ·exact h.tm.mu b z
  ·exact .inr ⟨_,hm.di⟩
 refine h.re s mu (fun z=>z.elim h.uk fun y=>h3 y.symm) (fun z=>z.elim h.kh fun y=>h4 y.symm) (fun n hn z=>?_) XW.tm he
 rcases z with z | z
 ·exact(h.Cu n hn).1 z
 ·obtain⟨i,hi⟩:=List.mem_iff_getElem?.mp hn
  have Ak:=(List.getElem?_eq_some_iff.mp hi).1
  obtain⟨_,fx,h2,_⟩:=h.row i _ n (List.getElem?_eq_getElem (by rw [h.len]; exact Ak)) hi
  rw [z,hm.di] at h2
  cases h2
theorem FM.less {od:Bool}{Pr Pr':Addr→Prop}{H:Hp}{M:MA}{st sd nd:Addr}{E:List (Nat×En)}{N:List (Addr×Addr)}{kvs:List (Key×V)}{mv:V}{G:List Nat}(h:FM a K od Pr' H M st sd nd E N kvs mv G) (s:∀b,Pr b→Pr' b):FM a K od Pr H M st sd nd E N kvs mv G:=
 ⟨h.fs,h.A0.imp_right fun⟨x,gd,h1,h2,h3,h4,h5,h6⟩=>⟨x,gd,h1,h2,h3,h4,fun z=>h5 (s _ z),h6⟩,fun b hb=>h.po b (s b hb),fun b hb z=>h.pm b hb (s b z),fun z=>h.ps (s _ z),fun z=>h.pn (s _ z),fun n hn z=>h.pf n hn (s _ z)⟩
theorem FS.rc {S:Addr→Prop}{H H':Hp}{M:MA}{st sd nd:Addr}{E E':List (Nat×En)}{N:List (Addr×Addr)}{kvs:List (Key×V)}(h:FS a K H M st sd nd E N kvs) (k:Kp S H H') (cg:∀b,S b→Cg H b) (ns:¬S sd) (nn:¬S nd) (nf:∀n∈N,¬S n.2) (tm:TM a K H' M E') (he:E'.map pT=E.map pT):FS a K H' M st sd nd E' N kvs:=by
 have nt:∀b xs,H b=some (.tup xs)→¬S b:=fun b xs e z=>by
  rcases cg b z with (⟨ys,e2⟩ | ⟨ys,e2⟩) | ⟨ps,e2⟩ <;> (rw [e2] at e; cases e)
 have ef:E'.map (·.1)=E.map (·.1):=by
  have:=congrArg (List.map Prod.fst) he
  rw [List.map_map,List.map_map] at this
  exact this
 have at_:∀(i:Nat) p,E'[i]?=some p→∃p0,E[i]?=some p0∧pT p0=pT p:=fun i p hp=>by
  have:=congrArg (fun l=>l[i]?) he
  simp only [List.getElem?_map,hp] at this
  cases e:E[i]? with
  | none=>rw [e] at this; cases this
  | some p0=>rw [e] at this; exact⟨p0,rfl,(Option.some.inj this).symm⟩
 refine⟨k _ _ (nt _ _ h.tup) h.tup,tm,by rw [ef]; exact k _ _ ns h.sh,k _ _ nn h.na,by rw [ef]; exact h.nm,?_,fun i p n hp hn=>?_,fun p hp z hz=>?_,h.DJ,h.uk,h.kh,h.Qx,h.Cu⟩
 ·rw [←h.len,←List.length_map (f:=pT),he,List.length_map]
 ·obtain⟨p0,h0,e0⟩:=at_ i p hp
  obtain⟨h1,fx,h2,h3,h4⟩:=h.row i p0 n h0 hn
  have et:p0.2.t=p.2.t:=congrArg Prod.snd e0
  rw [←et]
  exact⟨k _ _ (nt _ _ h1) h1,fx,k _ _ (nf n (List.mem_of_getElem? hn)) h2,h3.kc k cg,h4⟩
 ·obtain⟨i,hi⟩:=List.mem_iff_getElem?.mp hp
  obtain⟨p0,h0,e0⟩:=at_ i p hi
  have et:p0.2.t=p.2.t:=congrArg Prod.snd e0
  rw [←et] at hz
  rw [ef]
  exact h.cls p0 (List.mem_of_getElem? h0) z hz
theorem CG {E E':List (Nat×En)}(h:bN E'=bN E):E'.map pT=E.map pT:=by
 have:=congrArg (List.map fun(x:Nat×Tg×Int)=>(x.1,x.2.1)) h
 unfold bN at this
 rw [List.map_map,List.map_map] at this
 exact this
theorem FM.other {od:Bool}{Pr:Addr→Prop}{H H':Hp}{M:MA}{st sd nd r:Addr}{E:List (Nat×En)}{N:List (Addr×Addr)}{kvs rs:List (Key×V)}{mv:V}{G:List Nat}(h:FM a K od Pr H M st sd nd E N kvs mv G) (k:Kp (·=r) H H') (hr:H r=some (.dK rs)) (hP:Pr r) (XS:H' r≠none):FM a K od Pr H' M st sd nd E N kvs mv G:=by
 have mu:∀b,b=r→Mu H b:=fun b e=>.inr ⟨rs,by rw [e]; exact hr⟩
 have hF:=h.fs.other k hr (fun z=>h.ps (z▸hP)) (fun z=>h.pn (z▸hP)) fun z=>h.pm r z hP
 refine⟨hF,h.A0.imp_right fun⟨x,gd,h1,h2,h3,h4,h5,h6⟩=>⟨x,gd,h1,h2.to k mu (fun z=>h5 (z▸hP)) hF.tm h2.gm,h3,h4,h5,h6⟩,fun b hb=>?_,h.pm,h.ps,h.pn,h.pf⟩
 by_cases z:b=r
 ·rw [z]
  exact XS
 ·exact iV k z (h.po b hb)
theorem FM.QK {od:Bool}{Pr:Addr→Prop}{H H':Hp}{M:MA}{st sd nd b:Addr}{E:List (Nat×En)}{N:List (Addr×Addr)}{kvs:List (Key×V)}{mv:V}{G:List Nat}(h:FM a K od Pr H M st sd nd E N kvs mv G) (h':FM a K od Pr H' M st sd nd E N kvs mv G) (hb:H b=none) (ki:∀x C d f,H x=some (.ins C d f)→H' x=some (.ins C d f)) (hb':H' b≠none):FM a K od (fun x=>Pr x∨x=b) H' M st sd nd E N kvs mv G:=by
 have no:∀x,H x≠none→x≠b:=fun x hx z=>hx (z▸hb)
 have QL:∀{x:Addr}{u:HO},H x=some u→H x≠none:=fun e z=>by rw [e] at z; cases z
 have AQ:∀x gd,mv=.ref x→MS a K H' M x gd E G→gd≠b:=fun x gd h1 h2 y=>by
  subst y
  rcases h.A0 with ⟨e,_⟩ | ⟨x',gd',e,m,_⟩
  ·rw [e] at h1
   cases h1
  ·rw [e] at h1
   cases h1
   obtain⟨d1,o1⟩:=m.ob
   have o1:=ki _ _ _ _ o1
   obtain⟨d2,o2⟩:=h2.ob
   rw [o2] at o1
   have e2:K7 M.p gd=K7 M.p gd':=by cases o1; rfl
   have e3:=e_ M.p gd
   rw [e2,e_] at e3
   cases e3
   rw [m.di] at hb
   cases hb
 have hro:∀n∈N,n.2≠b:=fun n hn=>by
  obtain⟨i,hi⟩:=List.mem_iff_getElem?.mp hn
  have Ak:=(List.getElem?_eq_some_iff.mp hi).1
  obtain⟨_,fx,h2,_⟩:=h.fs.row i _ n (List.getElem?_eq_getElem (by rw [h.fs.len]; exact Ak)) hi
  exact no _ (QL h2)
 have how:∀x,M.own x→x≠b:=fun x hx=>by
  rcases h.fs.tm.mu x hx with ⟨y,e⟩ | ⟨y,e⟩ <;> exact no _ (QL e)
 exact⟨h'.fs,h'.A0.imp_right fun⟨x,gd,h1,h2,h3,h4,h5,h6⟩=>⟨x,gd,h1,h2,h3,h4,fun z=>z.elim h5 (AQ x gd h1 h2),h6⟩,fun x hx=>hx.elim (h'.po x) fun z=>by rw [z]; exact hb',fun x hx z=>z.elim (h.pm x hx) (how x hx),fun z=>z.elim h.ps (no _ (QL h.fs.sh)),fun z=>z.elim h.pn (no _ (QL h.fs.na)),fun n hn z=>z.elim (h.pf n hn) (hro n hn)⟩
theorem JS {od:Bool}{H:Hp}{Q:VK}{E:XK}(q:∀p dx H',au H H'→H' p=some (.ins (fC a od) dx (Mm (fW od)))→Q (.ref p) H'):Jo a.a6 a.a7 [.str (fW od)] H Q E:=by
 cases od with
 | false=>exact .inl ⟨rfl,q⟩
 | true=>exact .inr ⟨rfl,q⟩
structure LB (a:da) (K:PySem.W.Frag) (od:Bool) (Pr:Addr→Prop) (H:Hp) (M:MA) (st sd nd cl fn jT:Addr) (cs:List Int) (E:List (Nat×En)) (N:List (Addr×Addr)) (kvs:List (Key×V)) (mv:V) (G:List Nat):Prop where
 fm:FM a K od Pr H M st sd nd E N kvs mv G
 pc:Pr cl
 pf:Pr fn
 pt:Pr a.cz
 hc:H cl=some (.lst (cs.map V.int))
 hf:H fn=some (.ins (fC a od) jT (Mm (fW od)))
 ht:H a.cz=some (.iW #[])
theorem LB.same {od:Bool}{Pr:Addr→Prop}{H H':Hp}{M:MA}{st sd nd cl fn jT:Addr}{cs:List Int}{E:List (Nat×En)}{N:List (Addr×Addr)}{kvs:List (Key×V)}{mv:V}{G:List Nat}(h:LB a K od Pr H M st sd nd cl fn jT cs E N kvs mv G) (k:au H H'):LB a K od Pr H' M st sd nd cl fn jT cs E N kvs mv G:=
 ⟨h.fm.same k,h.pc,h.pf,h.pt,k _ _ h.hc,k _ _ h.hf,k _ _ h.ht⟩
theorem LB.next {od:Bool}{Pr:Addr→Prop}{H H':Hp}{M:MA}{st sd nd cl fn jT:Addr}{cs:List Int}{E E':List (Nat×En)}{N N':List (Addr×Addr)}{kvs dB:List (Key×V)}{mv:V}{G G':List Nat}(h:LB a K od Pr H M st sd nd cl fn jT cs E N kvs mv G) (k:Kp (fun b=>¬Pr b) H H') (f:FM a K od Pr H' M st sd nd E' N' dB mv G'):LB a K od Pr H' M st sd nd cl fn jT cs E' N' dB mv G':=
 ⟨f,h.pc,h.pf,h.pt,k _ _ (fun z=>z h.pc) h.hc,k _ _ (fun z=>z h.pf) h.hf,k _ _ (fun z=>z h.pt) h.ht⟩
structure EvT (E:List (Nat×En)) (kvs:List (Key×V)) (T:List Nat):Prop where
 nd:T.Nodup
 Eo:∀p∈T,p∈E.map (·.1)
 cH:∀q,bQ E q=true→q∈T
 nm:∀(k:Key) (q:Nat),aM kvs k=some (.int (q:Nat))→q∈T
 cl:Cl E (·∈T)
noncomputable def MM (a:da) (M:MA) (km gd:Addr) (Pr:Addr→Prop) (H:Hp) (mv:V):Prop:=mv=.aP∧Pr km∧Pr gd∧(∃dx,H km=some (.ins a.a8 dx (K7 M.p gd)))∧H gd=some (.dK [])
noncomputable def PhB (km td:Addr) (Pr:Addr→Prop) (H:Hp) (E:List (Nat×En)) (kvs:List (Key×V)) (mv:V):Prop:=mv=.ref km∧Pr td∧∃T,H td=some (.dK (gk T))∧EvT E kvs T
theorem MM.next {M:MA}{km gd:Addr}{Pr:Addr→Prop}{H H':Hp}{mv:V}(h:MM a M km gd Pr H mv) (k:Kp (fun b=>¬Pr b) H H'):MM a M km gd Pr H' mv:=by
 obtain⟨h1,h2,h3,⟨dx,h4⟩,h5⟩:=h
 exact⟨h1,h2,h3,⟨dx,k _ _ (fun z=>z h2) h4⟩,k _ _ (fun z=>z h3) h5⟩
noncomputable def IL1 (a:da) (K:PySem.W.Frag) (od:Bool) (M:MA) (sc st sd nd cl fn jT km gd:Addr) (fa bg:Int) (cs:List Int) (i:Nat) (σ:List (Option V)) (H:Hp):Prop:=∃(o8 o9 p_:Option V) (td:Addr) (Pr:Addr→Prop) (E:List (Nat×En)) (N:List (Addr×Addr)) (kvs:List (Key×V)) (mv:V) (G:List Nat),σ=[some (.ref sc),some (.int fa),some (.ref st),some (.ref fn),some (.ref km),some (.ref td),some (.int bg),some (.ref cl),o8,o9,p_,none]∧LB a K od Pr H M st sd nd cl fn jT cs E N kvs mv G∧E.length≤i∧(((i:Int)≤bg∧MM a M km gd Pr H mv)∨(bg < (i:Int)∧PhB km td Pr H E kvs mv))
noncomputable def JL0 (a:da) (K:PySem.W.Frag) (od:Bool) (M:MA) (sc st sd nd cl fn jT km gd:Addr) (fa bg:Int) (cs:List Int) (i:Nat) (w:Bool) (σ:List (Option V)) (H:Hp):Prop:=∃(o9 p_:Option V) (td:Addr) (Pr:Addr→Prop) (E:List (Nat×En)) (N:List (Addr×Addr)) (kvs:List (Key×V)) (mv:V) (G:List Nat),σ=[some (.ref sc),some (.int fa),some (.ref st),some (.ref fn),some (.ref km),some (.ref td),some (.int bg),some (.ref cl),some (.int (i:Int)),o9,p_,none]∧LB a K od Pr H M st sd nd cl fn jT cs E N kvs mv G∧E.length≤i∧(w=true→p_=some mv)∧(((i:Int) < bg∧MM a M km gd Pr H mv)∨(bg≤(i:Int)∧PhB km td Pr H E kvs mv))
noncomputable def X4 (a:da) (K:PySem.W.Frag) (M:MA) (sc st sd nd cl fn km gd td:Addr) (fa bg:Int) (o8 p_:Option V) (ns:List Int) (E:List (Nat×En)) (N:List (Addr×Addr)) (kvs:List (Key×V)) (G:List Nat) (H4:Hp) (j:Nat) (σ:List (Option V)) (H5:Hp):Prop:=∃(o9:Option V) (E':List (Nat×En)) (G':List Nat),σ=[some (.ref sc),some (.int fa),some (.ref st),some (.ref fn),some (.ref km),some (.ref td),some (.int bg),some (.ref cl),o8,o9,p_,none]∧Kp (fun b=>M.own b∨b=gd) H4 H5∧MS a K H5 M km gd E' G'∧FS a K H5 M st sd nd E' N kvs∧p9 (E,G) (E',G')∧(∀q,bQ E' q=true→bQ E q=true∨∃k:Key,aM kvs k=some (.int (q:Nat)))∧∀z∈ns.take j,∀r:Nat,aM kvs (Sum.inl z)=some (.int (r:Nat))→bQ E' r=true
theorem X4.next {M:MA}{sc st sd nd cl fn km gd td:Addr}{fa bg:Int}{o8 o9 p_:Option V}{ns:List Int}{E E':List (Nat×En)}{N:List (Addr×Addr)}{kvs:List (Key×V)}{G G':List Nat}{H4 H5 H6:Hp}{j p:Nat}{z:Int}(g1:gd≠sd) (g2:gd≠nd) (hz:ns[j]?=some z) (hp:aM kvs (Sum.inl z)=some (.int (p:Nat))) (MK:p∈E'.map (·.1)) (k5:Kp (fun b=>M.own b∨b=gd) H4 H5) (m5:MS a K H5 M km gd E' G') (f5:FS a K H5 M st sd nd E' N kvs) (s5:p9 (E,G) (E',G')) (n5:∀q,bQ E' q=true→bQ E q=true∨∃k:Key,aM kvs k=some (.int (q:Nat))) (a5:∀z∈ns.take j,∀r:Nat,aM kvs (Sum.inl z)=some (.int (r:Nat))→bQ E' r=true) (k6:Kp (fun b=>M.own b∨b=gd) H5 H6) (m6:MS a K H6 M km gd (dY (E',G') p).1 (dY (E',G') p).2):X4 a K M sc st sd nd cl fn km gd td fa bg o8 p_ ns E N kvs G H4 (j+1) [some (.ref sc),some (.int fa),some (.ref st),some (.ref fn),some (.ref km),some (.ref td),some (.int bg),some (.ref cl),o8,o9,p_,none] H6:=by
 obtain⟨b1,b2,b3⟩:=pq (E',G') MK
 refine⟨_,_,_,rfl,k5.trans k6,m6,f5.marks m5 g1 g2 k6 m6 (pB _ _),s5.trans b1,fun q hq=>?_,fun z' X5 r hr=>?_⟩
 ·rcases b3 q hq with y | rfl
  ·exact n5 q y
  ·exact .inr ⟨_,hp⟩
 ·rw [List.take_add_one,hz] at X5
  rcases List.mem_append.mp X5 with X5 | X5
  ·exact b1.up r (a5 z' X5 r hr)
  ·rw [show z'=z from List.mem_singleton.mp X5,hp] at hr
   have:p=r:=by
    have:=V.int.inj (Option.some.inj hr)
    omega
   exact this▸b2
theorem tf {kvs:List (Key×V)}{ks ns:List Int}{E:List (Nat×En)}(hk:eA kvs=ks.map V.int) (hp:ns.Perm ks) (h:∀z∈ns,∀r:Nat,aM kvs (Sum.inl z)=some (.int (r:Nat))→bQ E r=true) (k:Key) (r:Nat) (hr:aM kvs k=some (.int (r:Nat))):bQ E r=true:=by
 obtain⟨kv,sU,ek⟩:=List.mem_map.mp (nD hr)
 have:kV k∈ks.map V.int:=by
  rw [←hk,←ek]
  exact List.mem_map.mpr ⟨kv,sU,rfl⟩
 obtain⟨z,hz,ez⟩:=List.mem_map.mp this
 have ekz:k=Sum.inl z:=by
  cases k with
  | inl y=>rw [V.int.inj ez]
  | inr y=>cases ez
 subst ekz
 exact h z (hp.mem_iff.mpr hz) r hr
noncomputable def J80 (a:da) (K:PySem.W.Frag) (od:Bool) (Pr:Addr→Prop) (M:MA) (sc st sd nd cl fn jT km td:Addr) (fa bg:Int) (cs:List Int) (o8 p_:Option V) (N:List (Addr×Addr)) (kvs:List (Key×V)) (U:List Nat) (σ:List (Option V)) (H:Hp):Prop:=∃(o9:Option V) (E:List (Nat×En)) (G:List Nat),σ=[some (.ref sc),some (.int fa),some (.ref st),some (.ref fn),some (.ref km),some (.ref td),some (.int bg),some (.ref cl),o8,o9,p_,none]∧LB a K od Pr H M st sd nd cl fn jT cs E N kvs (.ref km) G∧E.length≤62∧H td=some (.dK (gk U))∧EvT E kvs U∧(od=false→∀(k:Key) (q:Nat),aM kvs k=some (.int (q:Nat))→bQ E q=true)
noncomputable def J8 (a:da) (K:PySem.W.Frag) (M:MA) (sc st sd nd cl fn km:Addr) (fa bg:Int) (σ:List (Option V)) (H:Hp):Prop:=∃(o8 o9 p_:Option V) (td:Addr) (E:List (Nat×En)) (N:List (Addr×Addr)) (kvs:List (Key×V)),σ=[some (.ref sc),some (.int fa),some (.ref st),some (.ref fn),some (.ref km),some (.ref td),some (.int bg),some (.ref cl),o8,o9,p_,none]∧FS a K H M st sd nd E N kvs∧E.length≤62∧((∀p∈E,p.2.cH=false)∨∃U,td≠sd∧H td=some (.dK (gk U))∧∀q,bQ E q=true→q∈U)
noncomputable def uv (ts:List Addr) (K:PySem.W.Frag):Sp:=fun vs H Q _=>∃(a:Addr) (ns:List Int),vs=[.ref a]∧bc K H a (ns.map V.int)∧ns.length≤63∧(∀b∈ts,H b=some (.iW #[]))∧∀H',Q (.bl true) H'
theorem W8 (T:Txt K mg a) (B:BM mg base) {ts:List Addr}(Ej:a.cz∈ts):aN P w K mg base cx 14 a.rE a.O5 ["_law_script"] (uv ts K):=by
 refine T.my.ok du (fun vs H Q E h=>?_) (fun bI A outer s H vs Q E hr h=>?_)
 ·obtain⟨_,_,rfl,_⟩:=h
  rfl
 ·obtain⟨sc,ns,rfl,hS,Ad,htb,q⟩:=h
  refine⟨_,(aj (aR (i:=1) du.nd rfl (Or.inl rfl) (bJ vj rfl T.yS EW (aa (aH (VT T) (hr.mono (by decide)) rfl T.P_ T.oI.kp T.P9 .nil ar (aa (pv 0) (aa ak ag))) ag))) (aj (aR (i:=2) du.nd rfl (Or.inl rfl) (dA (aa eS (aa eS (aa (dZ T.sr (Vy T) (hr.mono (by decide)) rfl T.sP T.PY .nil ar (aa ak (aa ak ag))) ag))))) (aj (aR (i:=3) du.nd rfl (Or.inl rfl) (aH (Wj T) (hr.mono (by decide)) rfl T.Pk T.ou.kp T.Pj .nil ar (aa (aC bS (cE (aa aX (aa aX ag))) (bt lu (bt g6 (pv 1) ak) ak) (fun _ _=>rfl)) ag))) (aj (aR (i:=4) du.nd rfl (Or.inl rfl) (dZ T.ow (V7 T) (hr.mono (by decide)) rfl T.oS T.Pl .nil ar (aa (aC aB (pv 2) ak (fun _ _=>rfl)) ag))) (aj (aR (i:=5) du.nd rfl (Or.inl rfl) eS) (aj (aR (i:=6) du.nd rfl (Or.inl rfl) (bt lu (bt g6 (pv 1) ak) ak)) (aj (aR (i:=7) du.nd rfl (Or.inl rfl) (nV tM (pv 0) (nA ak) (nA ak))) (aj (b_ PassesOwn.never rfl (iQ rfl T.eJ (aa (bJ cB rfl T.eC dW (aa (pv 7) ag)) ag)) (aJ (i:=8) du.nd rfl (Or.inl rfl)) az) az)))))))),?_⟩
  dsimp! []
  refine⟨sc,ns,0,rfl,hS,by decide,fun first=>⟨first,rfl,fun sd CC nd zR pm dxm Cz aau ne=>?_⟩⟩
  have afk:=CC
  have snd:=(au.put (o:=.dK []) CC).trans (au.put (o:=.dK []) zR)
  have DJ:sd≠nd:=aq ae zR
  have JT:upd (upd H sd (.dK [])) nd (.dK []) sd=some (.dK []):=by rw [ah DJ,ae]
  have JU:upd (upd H sd (.dK [])) nd (.dK []) nd=some (.dK []):=ae
  generalize upd (upd H sd (.dK [])) nd (.dK [])=H0 at snd JT JU Cz aau
  refine⟨pm,dxm,6,16,rfl,ae,by decide,by decide,by decide,fun M H1 eMp eMm eMc aav kp1 aaw ZH Mv=>⟨rfl,by simp [sizeLine_eq],fun st k_=>?_⟩⟩
  have s1:=ir Cz aau kp1
  have JV:∀b,M.own b→H0 b=none:=fun b hb=>ck (ck (aaw b hb))
  subst eMp
  have DC:TM a K H1 M []:=⟨_,[],⟨aav,fun r hr=>(nomatch hr)⟩,rfl⟩
  have s2:=au.put (o:=.tup [V.ref sd,V.ref nd,V.ref M.p]) k_
  have QJ:FS a K (upd H1 st (.tup [V.ref sd,V.ref nd,V.ref M.p])) M st sd nd [] [] []:=⟨ae,DC.same s2,s2 _ _ (s1 _ _ JT),s2 _ _ (s1 _ _ JU),.nil _,rfl,(fun i p n hp hn=>by simp at hp),fun p hp=>(nomatch hp),DJ,(fun z=>by rw [JV _ z] at JT; cases JT),(fun z=>by rw [JV _ z] at JU; cases JU),List.nodup_nil,fun n hn=>(nomatch hn)⟩
  have s02:=snd.trans (s1.trans s2)
  generalize upd H1 st (.tup [V.ref sd,V.ref nd,V.ref M.p])=H2 at s2 QJ s02
  generalize (if first < 0 then -first else first)=fa
  obtain⟨od,hod⟩:∃od:Bool,K0 [V.str "new",V.str "old"] (fa / 2 % 2)=some (.str (fW od)):=by
   rcases (by omega:fa / 2 % 2=0∨fa / 2 % 2=1)with e | e <;> rw [e]
   ·exact⟨false,rfl⟩
   ·exact⟨true,rfl⟩
  refine⟨by simp [sizeLine_eq],fun pl nU=>⟨.small (by decide) (by decide),by decide,pl,_,_,_,rfl,rfl,bc.of ae,hod,JS fun fn jT H3 s3 KS=>?_⟩⟩
  have s23:=(au.put (o:=.lst [V.str "new",V.str "old"]) nU).trans s3
  have X6:=QJ.same s23
  have s03:=s02.trans s23
  refine⟨st,_,_,_,rfl,rfl,bU.of X6.tup,rfl,fun km dxk hkm W9 nek=>⟨km,dxk,M,[],H3,rfl,ae,(au.put W9).trans (au.put (by rw [ah nek.symm]; exact hkm)),hkm,X6.tm,fun gd H5 k5 AQ hMS=>⟨rfl,fun td DI=>?_⟩⟩⟩
  have W_:H3 gd=none:=ck (ck AQ)
  have s35:=ir hkm W9 k5
  have s6:=au.put (o:=.dK []) DI
  have s36:=s35.trans s6
  have X7:=X6.same s36
  have Xa:=s36 _ _ KS
  have Xb:=hMS.same s6
  have s06:=s03.trans s36
  have gsd:gd≠sd:=(aq X6.sh W_).symm
  have gnd:gd≠nd:=(aq X6.na W_).symm
  generalize upd H5 td (.dK [])=H6 at s6 s36 X7 Xa Xb s06
  refine⟨.small (by decide) (by decide),by decide,sc,_,rfl,s06.seq hS,fun cl tS=>⟨cl,rfl,_,.inl (bc.of ae),?_⟩⟩
  obtain⟨cs,ecs,u7⟩:∃cs:List Int,tJ (ns.map V.int) (some 1) (some 63)=cs.map V.int∧cs.length≤62:=by
   have hl:=l8 (ns.map V.int) (some 1) (some 63)
   unfold tJ at hl ⊢
   rw [←List.map_drop,←List.map_take] at hl ⊢
   refine⟨_,rfl,?_⟩
   simp only [List.length_map] at hl ⊢
   rw [show(some (63:Int))=some ((63:Nat):Int) from rfl,show(some (1:Int))=some ((1:Nat):Int) from rfl,HT.tI,HT.tI,List.length_take]
   omega
  rw [ecs]
  have s7:=au.put (o:=.lst (cs.map V.int)) tS
  have Xc:=X7.same s7
  have DS:=s7 _ _ Xa
  have MN:=Xb.same s7
  have Xd:upd H6 cl (.lst (cs.map V.int)) cl=some (.lst (cs.map V.int)):=ae
  have DT:=(s06.trans s7) _ _ (htb _ Ej)
  have QL:∀{x:Addr}{u:HO},H6 x=some u→x≠cl:=fun e z=>by rw [z,tS] at e; cases e
  generalize upd H6 cl (.lst (cs.map V.int))=H7 at s7 Xc DS MN Xd DT
  obtain⟨dk,QI⟩:=MN.ob
  have aax:H7 gd=some (.dK []):=MN.di
  have hM0:FM a K od (fun b=>b=cl∨b=fn∨b=a.cz∨b=km∨b=gd) H7 M st sd nd [] [] [] .aP []:=by
   refine⟨Xc,.inl ⟨rfl,fun p hp=>(nomatch hp)⟩,fun b hb z=>?_,fun b hb z=>?_,fun z=>?_,fun z=>?_,fun n hn=>(nomatch hn)⟩
   ·rcases hb with rfl | rfl | rfl | rfl | rfl
    ·rw [Xd] at z; cases z
    ·rw [DS] at z; cases z
    ·rw [DT] at z; cases z
    ·rw [QI] at z; cases z
    ·rw [aax] at z; cases z
   ·rcases z with rfl | rfl | rfl | rfl | rfl
    ·rcases X7.tm.mu _ hb with ⟨y,e⟩ | ⟨y,e⟩ <;> exact QL e rfl
    ·rcases Xc.tm.mu _ hb with ⟨y,e⟩ | ⟨y,e⟩ <;> (rw [DS] at e; cases e)
    ·rcases Xc.tm.mu _ hb with ⟨y,e⟩ | ⟨y,e⟩ <;> (rw [DT] at e; cases e)
    ·rcases Xc.tm.mu _ hb with ⟨y,e⟩ | ⟨y,e⟩ <;> (rw [QI] at e; cases e)
    ·exact MN.no hb
   ·have e:=Xc.sh
    rcases z with z | z | z | z | z
    ·exact QL X7.sh z
    ·rw [z,DS] at e; cases e
    ·rw [z,DT] at e; cases e
    ·rw [z,QI] at e; cases e
    ·exact gsd z.symm
   ·have e:=Xc.na
    rcases z with z | z | z | z | z
    ·exact QL X7.na z
    ·rw [z,DS] at e; cases e
    ·rw [z,DT] at e; cases e
    ·rw [z,QI] at e; cases e
    ·exact gnd z.symm
  rw [List.length_map]
  refine⟨by omega,by omega,?_⟩
  have bg0:0≤fa / 4 % 24:=Int.emod_nonneg _ (by decide)
  generalize fa / 4 % 24=bg at bg0
  clear hMS Xb s6 s35 k5 AQ W_ W9 hkm nek nU s23 s3 KS QJ X6 X7 Xa hod aaw JV aav kp1 DC s1 s2 JT JU ZH Mv
  refine j4 (IL1 a K od M sc st sd nd cl fn jT km gd fa bg cs) ⟨none,none,none,td,_,[],[],[],.aP,[],rfl,⟨hM0,.inl rfl,.inr (.inl rfl),.inr (.inr (.inl rfl)),Xd,DS,DT⟩,Nat.le_refl _,.inl ⟨bg0,rfl,.inr (.inr (.inr (.inl rfl))),.inr (.inr (.inr (.inr rfl))),⟨dk,QI⟩,aax⟩⟩ ?_ ?_
  ·rintro i σ H' hi ⟨o8,o9,p_,td,Pr,E,N,kvs,mv,G,rfl,hL,sV,JW⟩
   refine gN ?_
   refine bA.of (aj jw az) ?_
   dsimp! [Int.zero_add]
   refine n9 (JL0 a K od M sc st sd nd cl fn jT km gd fa bg cs i false) (Eh.of (bF (aA cA (pv 8) (pv 6) (aE _)) (aj (b_ PassesOwn.never rfl (dn (bJ (gh rfl) rfl T.eY iT (aa (aC aB (pv 2) ak (fun _ _=>rfl)) ag))) (aJ (i:=9) du.nd rfl (Or.inl rfl)) az) az) aT) ?_) ?_
   ·dsimp! [Int.zero_add]
    refine cQ (fun hF=>?_) fun hF=>?_
    ·have hF:(i:Int)=bg:=of_decide_eq_true hF
     have hA:MM a M km gd Pr H' mv:=JW.elim (·.2) fun z=>by have:=z.1; omega
     obtain⟨emv,hPk,hPg,⟨dk,hk⟩,AQ⟩:=hA
     subst emv
     have hun:∀p∈E,p.2.cH=false:=by
      rcases hL.fm.A0 with ⟨_,h⟩ | ⟨_,_,z,_⟩
      ·exact h
      ·cases z
     have hMS:MS a K H' M km gd E []:=⟨hL.fm.fs.tm,⟨dk,hk⟩,AQ,fun z=>hL.fm.pm gd z hPg,fun p hp=>(nomatch hp),List.nodup_nil⟩
     have g1:gd≠sd:=fun z=>hL.fm.ps (z▸hPg)
     have g2:gd≠nd:=fun z=>hL.fm.pn (z▸hPg)
     obtain⟨ks,JG,La,hk3⟩:=hL.fm.fs.nm.keys
     refine⟨st,_,_,_,rfl,rfl,bU.of hL.fm.fs.tup,rfl,nd,rfl,kvs,.inl hL.fm.fs.na,ks,JG,by omega,fun l dR hl Cz ZL=>⟨⟨_,bc.of ae⟩,?_⟩⟩
     have s4:=au.put (o:=.lst (dR.map V.int)) hl
     have Mc:upd H' l (.lst (dR.map V.int)) l=some (.lst (dR.map V.int)):=ae
     have DU:=hL.same s4
     have aay:=hMS.same s4
     have Z9:=hL.fm.fs.tm.gH hl
     have Jl:l≠gd:=(aq AQ hl).symm
     generalize upd H' l (.lst (dR.map V.int))=H4 at s4 Mc DU aay
     refine d0 (dR.map V.int) (X4 a K M sc st sd nd cl fn km gd td fa bg (some (.int (i:Int))) p_ dR E N kvs [] H4) ⟨_,E,[],rfl,Kp.refl _ _,aay,DU.fm.fs,.refl _,fun q hq=>.inl hq,fun z hz=>by simp at hz⟩ ?_ ?_ ?_
     ·rintro j σ H5 _ ⟨o9,E',G',rfl,k5,_⟩
      exact bc.of (k5 _ _ (fun z=>z.elim Z9 Jl) Mc)
     ·rintro j x σ H5 hx ⟨o9,E',G',rfl,k5,m5,f5,s5,n5,a5⟩
      obtain⟨z,hzj,rfl⟩:∃z,dR[j]?=some z∧x=V.int z:=by
       rw [List.getElem?_map] at hx
       cases e9:dR[j]? with
       | none=>rw [e9] at hx; cases hx
       | some z=>rw [e9] at hx; exact⟨z,rfl,(Option.some.inj hx).symm⟩
      obtain⟨p,Wv,tV⟩:=hk3 z (Cz.mem_iff.mp (List.mem_of_getElem? hzj))
      obtain⟨dk5,WC⟩:=m5.ob
      refine gN ?_
      refine bA.of (af (aQ (aI (pv 4) T.av T.lF (pk T) (hr.mono (by decide)) T.rV .nil ar (aa (cJ (bO hr) (aC aB (pv 2) ak (fun _ _=>rfl)) (pv 9) (fun _ _=>rfl)) ag)))) ?_
      dsimp! []
      have MK:p∈E'.map (·.1):=by
       rw [show E'.map (·.1)=E.map (·.1) from c6 s5.st]
       exact tV
      have Xe:E'.length=E.length:=by
       have:=congrArg List.length (show E'.map (·.1)=E.map (·.1) from c6 s5.st)
       rw [List.length_map,List.length_map] at this
       exact this
      exact⟨dk5,_,WC,cU,st,_,_,_,rfl,rfl,bU.of f5.tup,rfl,nd,rfl,_,by rw [←Wv]; exact c8.k (k:=Sum.inl z) f5.na,M,km,gd,E',G',p,rfl,m5,MK,by omega,fun H6 k6 m6=>X4.next g1 g2 hzj Wv MK k5 m5 f5 s5 n5 a5 k6 m6⟩
     ·rintro σ H5 ⟨o9,E',G',rfl,k5,m5,f5,s5,n5,a5⟩
      rw [List.length_map,List.take_length] at a5
      have Xe:E'.length=E.length:=by
       have:=congrArg List.length (show E'.map (·.1)=E.map (·.1) from c6 s5.st)
       rw [List.length_map,List.length_map] at this
       exact this
      have afl:=tf JG Cz a5
      have hJ5:Jv od E' G' kvs:=Jv.start hL.fm.fs.tm.nd hun s5 afl
      have hP0:∀{b:Addr}{u:HO},H' b=some u→(∀ys,u≠.dK ys)→b≠gd:=fun e hu z=>by
       rw [z,AQ] at e
       exact hu _ (Option.some.inj e).symm
      have np:∀b,(Pr b∧b≠gd)→¬(M.own b∨b=gd):=fun b hb z=>z.elim (fun y=>hL.fm.pm b y hb.1) hb.2
      have hM5:FM a K od (fun b=>Pr b∧b≠gd) H5 M st sd nd E' N kvs (.ref km) G':=⟨f5,.inr ⟨km,gd,rfl,m5,g1,g2,(fun z=>z.2 rfl),hJ5⟩,fun b hb=>iV k5 (np b hb) (DU.fm.po b hb.1),fun b hb z=>hL.fm.pm b hb z.1,fun z=>hL.fm.ps z.1,fun z=>hL.fm.pn z.1,fun n hn z=>hL.fm.pf n hn z.1⟩
      refine bA.of (af (aR (i:=5) du.nd rfl (Or.inl rfl) (aH (JR T) (hr.mono (by decide)) rfl T.IG T.mx.kp T.IF .nil ar (aa (pv 2) (aa eS ag))))) ?_
      dsimp! []
      refine fun ev MJ=>?_
      have s6:=au.put (o:=.dK []) MJ
      refine⟨M,st,sd,nd,E',N,kvs,ev,[],rfl,f5.same s6,ae,List.nodup_nil,(fun p hp=>(nomatch hp)),(aq f5.sh MJ).symm,(aq f5.na MJ).symm,f5.tm.gH MJ,by omega,fun H7 td2 T2 k7 f7 _ A3 JX _ hTn hTc Xf hTE=>?_⟩
      have s57:au H5 H7:=fun b u e=>k7 b u (aq e MJ) (s6 b u e)
      have hM7:=hM5.QK (hM5.same s57) (ck A3) (fun x C d f e=>s57 _ _ e) (by rw [JX]; intro z; cases z)
      have kk:∀b u,(Pr b∧b≠gd)→H' b=some u→H7 b=some u:=fun b u hb e=>s57 _ _ (k5 _ _ (np b hb) (s4 _ _ e))
      have c1:Pr cl∧cl≠gd:=⟨hL.pc,hP0 hL.hc (by intro _ z; cases z)⟩
      have c2:Pr fn∧fn≠gd:=⟨hL.pf,hP0 hL.hf (by intro _ z; cases z)⟩
      have c3:Pr a.cz∧a.cz≠gd:=⟨hL.pt,hP0 hL.ht (by intro _ z; cases z)⟩
      refine⟨_,_,td2,_,E',N,kvs,.ref km,G',rfl,⟨hM7,.inl c1,.inl c2,.inl c3,kk _ _ c1 hL.hc,kk _ _ c2 hL.hf,kk _ _ c3 hL.ht⟩,by omega,(fun z=>nomatch z),.inr ⟨by omega,rfl,.inr rfl,T2,JX,Xf,hTE,fun q hq=>?_,hTn,hTc⟩⟩
      rcases n5 q hq with y | ⟨k,y⟩
      ·obtain⟨e,he,hm⟩:=bE.mp y
       rw [show e.cH=false from hun _ he] at hm
       cases hm
      ·exact hTn k q y
    ·have hF:¬((i:Int)=bg):=fun z=>hF (decide_eq_true z)
     exact⟨_,_,td,Pr,E,N,kvs,mv,G,rfl,hL,sV,(fun z=>nomatch z),JW.imp (fun z=>⟨by omega,z.2⟩) fun z=>⟨by omega,z.2⟩⟩
   ·rintro σ' H2 ⟨o9,p_,td,Pr,E,N,kvs,mv,G,rfl,hL,sV,_,JW⟩
    refine bA.of (aj (aR (i:=10) du.nd rfl (Or.inl rfl) (pv 4)) (aj jw az)) ?_
    dsimp! []
    refine n9 (JL0 a K od M sc st sd nd cl fn jT km gd fa bg cs i true) (Eh.of (bF (aA q_ (pv 8) (pv 6) (aE _)) (af (aR (i:=10) du.nd rfl (Or.inl rfl) cM)) aT) ?_) ?_
    ·dsimp! []
     refine cQ (fun z=>?_) fun z=>?_
     ·have z:(i:Int) < bg:=of_decide_eq_true z
      have hA:MM a M km gd Pr H2 mv:=JW.elim (·.2) fun y=>by have:=y.1; omega
      exact⟨_,_,td,Pr,E,N,kvs,mv,G,rfl,hL,sV,(fun _=>by rw [hA.1]),.inl ⟨z,hA⟩⟩
     ·have z:¬((i:Int) < bg):=fun y=>z (decide_eq_true y)
      have hB:PhB km td Pr H2 E kvs mv:=JW.elim (fun y=>absurd y.1 z) (·.2)
      exact⟨_,_,td,Pr,E,N,kvs,mv,G,rfl,hL,sV,(fun _=>by rw [hB.1]),.inr ⟨by omega,hB⟩⟩
    ·rintro σ' H2 ⟨o9,p_,td,Pr,E,N,kvs,mv,G,rfl,hL,sV,eo,JW⟩
     have eo:=eo rfl
     subst eo
     refine bA.of (aj (aQ (aH (WU T) (hr.mono (by decide)) rfl T.Qo T.oQ.kp T.Qn .nil ar (aa (pv 2) (aa (aH (Wq T) (hr.mono (by decide)) rfl T.Qb T.oJ.kp T.Qa .nil ar (@aa _ _ _ _ _ (aH (Ws T) (hr.mono (by decide)) rfl T.Qd T.oK.kp T.Qc .nil ar (aa (aC bS (pv 7) (pv 8) (fun _ _=>rfl)) (aa (eE cA (bt lu (pv 1) ak) ak (aE _)) ag))) (@aa _ _ _ _ _ (@cE _ _ _ _ (@aa _ _ _ _ _ ak (@aa _ _ _ _ _ ak (@aa _ _ _ _ _ ak (@aa _ _ _ _ _ ak (@aa _ _ _ _ _ ak ag rfl) rfl) rfl) rfl) rfl)) ag rfl) rfl)) (aa (pv 3) (aa (pv 10) ag)))))) (af (bF (aA OH (pv 8) (pv 6) (aE _)) (af (aR (i:=5) du.nd rfl (Or.inl rfl) (aH (JR T) (hr.mono (by decide)) rfl T.IG T.mx.kp T.IF .nil ar (aa (pv 2) (aa (pv 5) ag))))) aT))) ?_
     dsimp! []
     refine⟨cl,_,_,V.int (cs[i]'hi),rfl,rfl,bc.of hL.hc,b9 (by rw [List.getElem?_map,List.getElem?_eq_getElem hi]; rfl),by decide,_,_,rfl,fun z=>⟨by simp [sizeLine_eq],fun pz hpz=>⟨z,pz,rfl,ae,fun rs lp X8 hlp=>?_⟩⟩⟩
     have s4:=(au.put (o:=.lst [V.int 12,V.int 5,V.int 5,V.int 5,V.int 4]) hpz).trans (au.put (o:=.lst (rs.map V.int)) hlp)
     have DU:=hL.same s4
     have aaz:upd (upd H2 pz (.lst [V.int 12,V.int 5,V.int 5,V.int 5,V.int 4])) lp (.lst (rs.map V.int)) lp=some (.lst (rs.map V.int)):=ae
     generalize upd (upd H2 pz (.lst [V.int 12,V.int 5,V.int 5,V.int 5,V.int 4])) lp (.lst (rs.map V.int))=H4 at s4 DU aaz
     obtain⟨way,one,two,three,at_,rfl⟩:∃way one two three at_,rs=[way,one,two,three,at_]:=by
      have hl:=X8.1
      match rs,hl with
      | [x0,x1,x2,x3,x4],_=>exact⟨x0,x1,x2,x3,x4,rfl⟩
     have hpa:kj K H4 lp way one two three at_:=⟨bc.of aaz,X8.2 0 _ 12 rfl rfl,X8.2 1 _ 5 rfl rfl,X8.2 2 _ 5 rfl rfl,X8.2 3 _ 5 rfl rfl,X8.2 4 _ 4 rfl rfl⟩
     refine⟨od,Pr,M,st,sd,nd,E,N,kvs,mv,G,lp,fn,jT,way,one,two,three,at_,rfl,DU.fm,hpa,DU.hf,by omega,fun H7 E7 N7 Xg G7 k7 h7 hl7 afm hmd=>?_⟩
     have Xh:=DU.next k7 h7
     refine cQ (fun zb=>?_) fun zb=>?_
     ·have zb:bg≤(i:Int):=of_decide_eq_true zb
      obtain⟨emv,Lb,U,A4,ev⟩:PhB km td Pr H2 E kvs mv:=JW.elim (fun y=>by have:=y.1; omega) (·.2)
      have Xi:=k7 _ _ (fun z=>z Lb) (s4 _ _ A4)
      refine⟨M,st,sd,nd,E7,N7,Xg,td,U,rfl,h7.fs,Xi,ev.nd,fun p hp=>afm p (ev.Eo p hp),fun z=>h7.ps (z▸Lb),fun z=>h7.pn (z▸Lb),fun z=>h7.pm td z Lb,by omega,fun H8 td2 T2 k8 f8 afn A3 JX hTT hTn hTc Xf hTE=>?_⟩
      have h8:=h7.other k8 Xi Lb afn
      have n8:∀{b:Addr}{u:HO},H7 b=some u→(∀ys,u≠.dK ys)→b≠td:=fun e hu z=>by
       rw [z,Xi] at e
       exact hu _ (Option.some.inj e).symm
      have h9:=h7.QK h8 A3 (fun x C d f e=>k8 _ _ (n8 e (by intro _ z; cases z)) e) (by rw [JX]; intro z; cases z)
      refine⟨_,_,_,td2,_,E7,N7,Xg,mv,G7,rfl,⟨h9,.inl hL.pc,.inl hL.pf,.inl hL.pt,k8 _ _ (n8 Xh.hc (by intro _ z; cases z)) Xh.hc,k8 _ _ (n8 Xh.hf (by intro _ z; cases z)) Xh.hf,k8 _ _ (n8 Xh.ht (by intro _ z; cases z)) Xh.ht⟩,by omega,.inr ⟨by omega,emv,.inr rfl,T2,JX,Xf,hTE,fun q hq=>?_,hTn,hTc⟩⟩
      rcases hmd q hq with y | ⟨p,e,he,hp,Jx⟩ | ⟨k,y⟩
      ·exact hTT q (ev.cH q y)
      ·exact hTT q (ev.cl.hold p e he (hp.elim (ev.cH p) fun⟨k,y⟩=>ev.nm k p y) q Jx)
      ·exact hTn k q y
     ·have zb:¬(bg≤(i:Int)):=fun y=>zb (decide_eq_true y)
      have hA:MM a M km gd Pr H2 mv:=JW.elim (·.2) fun y=>absurd y.1 zb
      exact⟨_,_,_,td,Pr,E7,N7,Xg,mv,G7,rfl,Xh,by omega,.inl ⟨by omega,(hA.next (au.kp s4)).next k7⟩⟩
  ·rintro σ H' ⟨o8,o9,p_,td,Pr,E,N,kvs,mv,G,rfl,hL,sV,JW⟩
   refine bA.of (aj jw az) ?_
   dsimp! []
   refine n9 (J8 a K M sc st sd nd cl fn km fa bg) (Eh.of (bF (aA EF (bJ cB rfl T.eC dW (aa (pv 7) ag)) (pv 6) (aE _)) (aj jw az) aT) ?_) ?_
   ·dsimp! []
    refine⟨_,.inl (bc.of hL.hc),?_⟩
    rw [List.length_map]
    refine cQ (fun z=>?_) fun z=>?_
    ·have z:bg < (cs.length:Int):=of_decide_eq_true z
     obtain⟨emv,Lb,U,A4,ev⟩:PhB km td Pr H' E kvs mv:=JW.elim (fun y=>by have:=y.1; omega) (·.2)
     subst emv
     refine n9 (J80 a K od Pr M sc st sd nd cl fn jT km td fa bg cs o8 p_ N kvs U) (Eh.of (bF (dH (cR (L:=[(a.a6,bW 1 (.bl true)),(a.a7,bW 1 (.bl false))]) (pv 3) (List.forall_mem_cons.mpr ⟨⟨_,_,_,_,T.dF,T.HQ,We T,hr.mono (by decide),T.Pc⟩,List.forall_mem_cons.mpr ⟨⟨_,_,_,_,T.dG,T.dE,ZT T,hr.mono (by decide),T.Zu⟩,List.forall_mem_nil _⟩⟩) .nil ar)) (af (b_ PassesOwn.never rfl (dn (bJ (gh rfl) rfl T.eY iT (aa (aC aB (pv 2) ak (fun _ _=>rfl)) ag))) (aJ (i:=9) du.nd rfl (Or.inl rfl)) az)) aT) ?_) ?_
     ·dsimp! []
      refine⟨_,jT,_,hL.hf,ue _ (by decide +kernel),A1 ⟨!od,rfl,cQ (fun zo=>?_) fun zo=>?_⟩⟩
      ·rcases hL.fm.A0 with ⟨y,_⟩ | ⟨k,gd,ek,hm,g1,g2,g3,hJ⟩
       ·cases y
       cases ek
       have AQ:=hm.di
       obtain⟨ks,JG,La,hk3⟩:=hL.fm.fs.nm.keys
       refine⟨st,_,_,_,rfl,rfl,bU.of hL.fm.fs.tup,rfl,nd,rfl,kvs,.inl hL.fm.fs.na,ks,JG,by omega,fun l dR hl Cz ZL=>⟨⟨_,bc.of ae⟩,?_⟩⟩
       have s4:=au.put (o:=.lst (dR.map V.int)) hl
       have Mc:upd H' l (.lst (dR.map V.int)) l=some (.lst (dR.map V.int)):=ae
       have DU:=hL.same s4
       have X1:=hm.same s4
       have Z9:=hL.fm.fs.tm.gH hl
       have Jl:l≠gd:=(aq AQ hl).symm
       have aaA:=s4 _ _ A4
       generalize upd H' l (.lst (dR.map V.int))=H4 at s4 Mc DU X1 aaA
       refine d0 (dR.map V.int) (X4 a K M sc st sd nd cl fn km gd td fa bg o8 p_ dR E N kvs G H4) ⟨_,E,G,rfl,Kp.refl _ _,X1,DU.fm.fs,.refl _,fun q hq=>.inl hq,fun z hz=>by simp at hz⟩ ?_ ?_ ?_
       ·rintro j σ H5 _ ⟨o9,E',G',rfl,k5,_⟩
        exact bc.of (k5 _ _ (fun z=>z.elim Z9 Jl) Mc)
       ·rintro j x σ H5 hx ⟨o9,E',G',rfl,k5,m5,f5,s5,n5,a5⟩
        obtain⟨z,hzj,rfl⟩:∃z,dR[j]?=some z∧x=V.int z:=by
         rw [List.getElem?_map] at hx
         cases e9:dR[j]? with
         | none=>rw [e9] at hx; cases hx
         | some z=>rw [e9] at hx; exact⟨z,rfl,(Option.some.inj hx).symm⟩
        obtain⟨p,Wv,tV⟩:=hk3 z (Cz.mem_iff.mp (List.mem_of_getElem? hzj))
        obtain⟨dk5,WC⟩:=m5.ob
        refine gN ?_
        refine bA.of (af (aQ (aI (pv 4) T.av T.lF (pk T) (hr.mono (by decide)) T.rV .nil ar (aa (cJ (bO hr) (aC aB (pv 2) ak (fun _ _=>rfl)) (pv 9) (fun _ _=>rfl)) ag)))) ?_
        dsimp! []
        have MK:p∈E'.map (·.1):=by
         rw [show E'.map (·.1)=E.map (·.1) from c6 s5.st]
         exact tV
        have Xe:E'.length=E.length:=by
         have:=congrArg List.length (show E'.map (·.1)=E.map (·.1) from c6 s5.st)
         rw [List.length_map,List.length_map] at this
         exact this
        exact⟨dk5,_,WC,cU,st,_,_,_,rfl,rfl,bU.of f5.tup,rfl,nd,rfl,_,by rw [←Wv]; exact c8.k (k:=Sum.inl z) f5.na,M,km,gd,E',G',p,rfl,m5,MK,by omega,fun H6 k6 m6=>X4.next g1 g2 hzj Wv MK k5 m5 f5 s5 n5 a5 k6 m6⟩
       ·rintro σ H5 ⟨o9,E',G',rfl,k5,m5,f5,s5,n5,a5⟩
        rw [List.length_map,List.take_length] at a5
        have hef:E'.map (·.1)=E.map (·.1):=c6 s5.st
        have Xe:E'.length=E.length:=by
         have:=congrArg List.length hef
         rw [List.length_map,List.length_map] at this
         exact this
        obtain⟨h5,Em⟩:=DU.fm.marks X1 g1 g2 g3 k5 m5 (CG s5.st) (hJ.dY hL.fm.fs.tm.nd s5)
        refine⟨_,E',G',rfl,DU.next Em h5,by omega,Em _ _ (fun z=>z Lb) aaA,⟨ev.nd,fun p hp=>by rw [hef]; exact ev.Eo p hp,fun q hq=>(n5 q hq).elim (ev.cH q) fun⟨k,y⟩=>ev.nm k q y,ev.nm,ev.cl.bN s5.st⟩,fun _=>tf JG Cz a5⟩
      ·refine⟨_,E,G,rfl,hL,by omega,A4,ev,fun z=>?_⟩
       rw [z] at zo
       exact absurd rfl zo
     ·rintro σ' H2 ⟨o9,E,G,rfl,hL,sV,A4,ev,Qz⟩
      refine bA.of (aj (aQ (c4 (pv 4) T.av T.Pm (aab T B) (hr.mono (by decide)) T.Zw .nil ar)) (af (bF (zV (dH (aH (W5 T) (hr.mono (by decide)) rfl T.Qq T.oR.kp T.Qp .nil ar (aa (pv 2) (aa (pv 4) ag))))) (af (aw dQ)) aT))) ?_
      dsimp! []
      rcases hL.fm.A0 with ⟨y,_⟩ | ⟨k,gd,ek,hm,g1,g2,g3,hJ⟩
      ·cases y
      cases ek
      obtain⟨dk,hk⟩:=hm.ob
      have hA:=hL.fm.fs.tm.nd
      refine⟨dk,_,hk,cU,Blk E G,M,km,gd,E,G,rfl,hm,BC.Z6 E G,fun p e he n hn=>hL.fm.fs.cls (p,e) he n hn,by omega,.inl hL.ht,fun H3 E3 k3 tb3 m3 r3 cb=>?_⟩
      obtain⟨afo,afp⟩:=hJ.drained hA Qz r3 cb
      have agK:E3.length=E.length:=by
       have:=congrArg List.length (c6 r3.st)
       rw [List.length_map,List.length_map] at this
       exact this
      have f3:FS a K H3 M st sd nd E3 N kvs:=by
       refine hL.fm.fs.rc k3 (fun b z=>?_) (fun z=>?_) (fun z=>?_) (fun n hn z=>?_) m3.tm (CG r3.st)
       ·rcases z with z | rfl | rfl
        ·exact .inl (hL.fm.fs.tm.mu b z)
        ·exact .inl (.inr ⟨_,hm.di⟩)
        ·exact .inr ⟨_,hL.ht⟩
       ·rcases z with z | z | z
        ·exact hL.fm.fs.uk z
        ·exact g1 z.symm
        ·exact hL.fm.ps (z▸hL.pt)
       ·rcases z with z | z | z
        ·exact hL.fm.fs.kh z
        ·exact g2 z.symm
        ·exact hL.fm.pn (z▸hL.pt)
       ·rcases z with z | z | z
        ·exact(hL.fm.fs.Cu n hn).1 z
        ·obtain⟨i,hi⟩:=List.mem_iff_getElem?.mp hn
         have Ak:=(List.getElem?_eq_some_iff.mp hi).1
         obtain⟨_,fx,h2,_⟩:=hL.fm.fs.row i _ n (List.getElem?_eq_getElem (by rw [hL.fm.fs.len]; exact Ak)) hi
         rw [z,hm.di] at h2
         cases h2
        ·exact hL.fm.pf n hn (z▸hL.pt)
      have QH:¬(M.own td∨td=gd∨td=a.cz):=fun z=>by
       rcases z with z | z | z
       ·exact hL.fm.pm td z Lb
       ·exact g3 (z▸Lb)
       ·have:=hL.ht
        rw [←z,A4] at this
        cases this
      refine⟨M,st,sd,nd,E3,N,kvs,km,gd,rfl,f3,m3,g1,by omega,afo,afp,fun H4 s4=>⟨true,rfl,cQ (fun z=>by cases z) fun _=>?_⟩⟩
      exact⟨_,_,_,td,E3,N,kvs,rfl,f3.same s4,by omega,.inr ⟨U,fun z=>hL.fm.ps (z▸Lb),s4 _ _ (k3 _ _ QH A4),fun q hq=>r3.lo (·∈U) ev.cl ev.cH q hq⟩⟩
    ·have z:¬(bg < (cs.length:Int)):=fun y=>z (decide_eq_true y)
     have hA:MM a M km gd Pr H' mv:=JW.elim (·.2) fun y=>absurd y.1 z
     refine⟨_,_,_,td,E,N,kvs,rfl,hL.fm.fs,by omega,.inl ?_⟩
     rcases hL.fm.A0 with ⟨_,h⟩ | ⟨_,_,y,_⟩
     ·exact h
     ·rw [hA.1] at y
      cases y
   ·rintro σ' H2 ⟨o8,o9,p_,td,E,N,kvs,rfl,hF,sV,hor⟩
    refine bA.of (aj (nF (b_ PassesOwn.never rfl (nE (aC aB (pv 2) ak (fun _ _=>rfl))) (aJ (i:=11) du.nd rfl (Or.inl rfl)) az)) az) ?_
    dsimp! []
    have CC:=hF.sh
    refine⟨st,_,_,_,rfl,rfl,bU.of hF.tup,rfl,sd,rfl,_,CC,fun o=>?_⟩
    have kF:Kp (·=sd) H2 (upd H2 sd (.d7 o (.dK (gG (E.map (·.1)) N)))):=(Kp.refl _ _).set rfl
    have W7:=hF.tm.dict kF CC hF.uk
    have W0:=kF _ _ (fun z=>by have:=hF.tup; rw [z,CC] at this; cases this) hF.tup
    have hFz:upd H2 sd (.d7 o (.dK (gG (E.map (·.1)) N))) sd=some (.d7 o (.dK (gG (E.map (·.1)) N))):=ae
    have aaB:(∀p∈E,p.2.cH=false)∨∃U,upd H2 sd (.d7 o (.dK (gG (E.map (·.1)) N))) td=some (.dK (gk U))∧∀q,bQ E q=true→q∈U:=hor.imp_right fun⟨U,n,h1,h2⟩=>⟨U,kF _ _ n h1,h2⟩
    generalize upd H2 sd (.d7 o (.dK (gG (E.map (·.1)) N)))=HF at W7 W0 hFz aaB
    refine tX (fun j σ H'=>∃DO:Option V,σ=[some (.ref sc),some (.int fa),some (.ref st),some (.ref fn),some (.ref km),some (.ref td),some (.int bg),some (.ref cl),o8,o9,p_,DO]∧H'=HF) ⟨none,rfl,rfl⟩ ?_ ?_ ?_
    ·rintro j σ H' _ ⟨DO,rfl,rfl⟩
     exact hFz
    ·rintro j kv σ H' sU ⟨DO,rfl,rfl⟩
     obtain⟨j,p,n,hj1,hj2,rfl⟩:=ui (List.mem_of_getElem? sU)
     obtain⟨y,hy,ey⟩:∃y∈E,y.1=p:=List.mem_map.mp (List.mem_of_getElem? hj1)
     subst ey
     obtain⟨xs,es,kg⟩:=W7.there (p:=y.1) (e:=y.2) hy
     obtain⟨dM,hM⟩:=W7.ob
     refine gN ?_
     refine bA.of (af (bF (PW.pt (dI (dH (aI (aC aB (pv 2) ak (fun _ _=>rfl)) T.ax T.lH (pb T) (hr.mono (by decide)) T.sJ .nil ar (aa (pv 11) ag))) (eD (jt (De (bO hr) (pv 11) (pv 5)))))) (af (aw dQ)) aT)) ?_
     have ekv:kV (Sum.inl (y.1:Int))=V.int (y.1:Int):=rfl
     dsimp! [ekv]
     refine⟨st,_,_,_,rfl,rfl,bU.of W0,rfl,M.p,rfl,dM,_,hM,bT,M,xs,es,y.1,y.2,rfl,kg,_,rfl,cQ (fun hm=>?_) fun _=>rfl⟩
     rcases aaB with h | ⟨U,h1,h2⟩
     ·rw [h y hy] at hm
      cases hm
     ·refine⟨_,c8.k (k:=Sum.inl (y.1:Int)) h1,?_⟩
      rw [ph,decide_eq_true (h2 y.1 (bE.mpr ⟨y.2,hy,hm⟩))]
      exact cQ (fun z=>by cases z) fun _=>rfl
    ·rintro σ H' ⟨DO,rfl,rfl⟩
     refine .inr ⟨sd,_,_,⟨?_,⟨o,hFz⟩,rfl⟩,?_⟩
     ·intro o' u' z
      have z2:H sd=some (HO.d7 o' u'):=z
      rw [afk] at z2
      cases z2
     ·refine bA.of (af (aw dQ)) ?_
      dsimp! []
      exact q _
end
theorem dw {P:List Value→Prop}(h:∀x0,P [x0]):∀us:List Value,us.length=1→P us
 | [x0],_=>h x0
theorem dN {P:List Value→Prop}(h:∀x0 x1,P [x0,x1]):∀us:List Value,us.length=2→P us
 | [x0,x1],_=>h x0 x1
theorem i4 {P:List Value→Prop}(h:∀x0 x1 x2,P [x0,x1,x2]):∀us:List Value,us.length=3→P us
 | [x0,x1,x2],_=>h x0 x1 x2
theorem JY {P:List Value→Prop}(h:∀x0 x1 x2 x3,P [x0,x1,x2,x3]):∀us:List Value,us.length=4→P us
 | [x0,x1,x2,x3],_=>h x0 x1 x2 x3
theorem afq {P:List Value→Prop}(h:∀x0 x1 x2 x3 x4,P [x0,x1,x2,x3,x4]):∀us:List Value,us.length=5→P us
 | [x0,x1,x2,x3,x4],_=>h x0 x1 x2 x3 x4
noncomputable def jr (K:PySem.W.Frag) (x qual:Str) (st:Stmt) (f:Addr):Prop:=PySem.W.keepIn K (.ref f)=true∧∃fd,cw K x qual st f fd
noncomputable def d6 (K:PySem.W.Frag) (x qual:Str) (st:Stmt) (f:Addr):Prop:=PySem.W.isFn K (.ref f)=true∧jr K x qual st f
theorem cW {K:PySem.W.Frag}{x qual:Str}{st:Stmt}{f:Addr}{oc:Value}{od an:Option Addr}{EL:Array (Option Value)}{kV doc pm bI ct:Value}(l:K.lookup f=some ⟨oc,od,.func (PySem.W.fnOf x qual (eF st) (dJ st) (ai st) .none kV doc pm an bI ct),EL⟩) (c:PySem.W.codeIn K bI qual=true) (k:PySem.W.keepIn K (.ref f)=true):jr K x qual st f:=⟨k,_,Ab l c k⟩
theorem all_mk {l:PySem.W.OpenLaw}{w:World}{K:PySem.W.Frag}{h:Heap}{mg:Str→Option Value}{fa:Addr}(X:K.In h) (G:h.Ns mainGlobals mg) (hfa:mg "law"=some (.ref fa))
  {oi ia oj ma md oo oq ot rH rJ rK rL rM me mf mh yO Ax Ay Az AA rN rO rP rQ rR ou rS rT rW Dp rX Dq Dr mi rY rZ Ds Dt oy oz oA oB oC mj oE ml r8 r_ se sg si sj sk j_ mq oG oH so su sv sx sA sC sE sF sH sI sL sM sN sO oI oJ oK oM ka oN oO oP oQ mw oR mx my bX aS a9 dr bC bD a4 cm ba:Addr}
  {fo gp fq fu fw gq uw A5 A6 A7:Tok}
  {dC eI:Addr}
  {A8 JZ:Nat}{A9 J0:Array (Option Value)}
  {Xj J1 Xk J6:Option Addr}
  {Xl Xm:Array (Option Value)}
  {Xn J7 J9 J_ ux Ka Xo Kb Kc Kd A_ Ke:Value}
  {jB cz:Addr}{MO:Option Addr}{CI:Array Value}{MP:Array (Option Value)}{ts:List Addr}
  (Kf:PySem.W.nsIn K mainGlobals "Thing"=some (some (.ref bX)))
  (qe:PySem.W.nsIn K mainGlobals "PlainThing"=some (some (.ref aS)))
  (uy:PySem.W.nsIn K mainGlobals "PairThing"=some (some (.ref a9)))
  (Kg:PySem.W.nsIn K mainGlobals "Fence"=some (some (.ref dr)))
  (za:PySem.W.nsIn K mainGlobals "NewFence"=some (some (.ref bC)))
  (zc:PySem.W.nsIn K mainGlobals "OldFence"=some (some (.ref bD)))
  (Ba:PySem.W.nsIn K mainGlobals "Marking"=some (some (.ref a4)))
  (Kh:PySem.W.nsIn K mainGlobals "Rooms"=some (some (.ref cm)))
  (DV:PySem.W.nsIn K mainGlobals "Memory"=some (some (.ref ba)))
  (vP:PySem.W.nsIn K mainGlobals "is_thing"=some (some (.ref oi)))
  (Bb:jr K "is_thing" "is_thing" FN oi)
  (vR:PySem.W.nsIn K mainGlobals "names_in"=some (some (.ref ia)))
  (Bc:jr K "names_in" "names_in" FO ia)
  (rA:PySem.W.findIn K (.ref bX) "__init__"=some (some (.ref oj)))
  (uz:d6 K "__init__" "Thing.__init__" FP oj)
  (og:PySem.W.findIn K (.ref bX) "sort_of"=some (some (.ref ma)))
  (mJ:d6 K "sort_of" "Thing.sort_of" FQ ma)
  (oh:PySem.W.findIn K (.ref bX) "fields"=some (some (.ref md)))
  (pE:d6 K "fields" "Thing.fields" FR md)
  (rB:PySem.W.findIn K (.ref bX) "holds"=some (some (.ref oo)))
  (qf:d6 K "holds" "Thing.holds" FT oo)
  (rC:PySem.W.findIn K (.ref bX) "waits"=some (some (.ref oq)))
  (qg:d6 K "waits" "Thing.waits" FU oq)
  (rD:PySem.W.findIn K (.ref bX) "words"=some (some (.ref ot)))
  (qh:d6 K "words" "Thing.words" FV ot)
  (vZ:PySem.W.findIn K (.ref aS) "__init__"=some (some (.ref rH)))
  (ku:d6 K "__init__" "PlainThing.__init__" FW rH)
  (v7:PySem.W.findIn K (.ref aS) "holds"=some (some (.ref rJ)))
  (jE:d6 K "holds" "PlainThing.holds" FX rJ)
  (v_:PySem.W.findIn K (.ref aS) "words"=some (some (.ref rK)))
  (jF:d6 K "words" "PlainThing.words" FY rK)
  (wb:PySem.W.findIn K (.ref a9) "__init__"=some (some (.ref rL)))
  (lO:d6 K "__init__" "PairThing.__init__" FZ rL)
  (wd:PySem.W.findIn K (.ref a9) "waits"=some (some (.ref rM)))
  (ky:d6 K "waits" "PairThing.waits" F0 rM)
  (wg:PySem.W.nsIn K mainGlobals "plain"=some (some (.ref me)))
  (MQ:jr K "plain" "plain" F1 me)
  (wk:PySem.W.nsIn K mainGlobals "weak"=some (some (.ref mf)))
  (Xp:jr K "weak" "weak" F2 mf)
  (wo:PySem.W.nsIn K mainGlobals "pair"=some (some (.ref mh)))
  (Xq:jr K "pair" "pair" F4 mh)
  (Av:PySem.W.findIn K (.ref dr) "__init__"=some (some (.ref yO)))
  (uA:d6 K "__init__" "Fence.__init__" Ts yO)
  (Dj:PySem.W.findIn K (.ref dr) "word"=some (some (.ref Ax)))
  (uB:d6 K "word" "Fence.word" Zg Ax)
  (Dk:PySem.W.findIn K (.ref dr) "marks_new"=some (some (.ref Ay)))
  (kB:d6 K "marks_new" "Fence.marks_new" Tt Ay)
  (Dl:PySem.W.findIn K (.ref dr) "shades_look"=some (some (.ref Az)))
  (i5:d6 K "shades_look" "Fence.shades_look" Tu Az)
  (Dm:PySem.W.findIn K (.ref dr) "shades_open"=some (some (.ref AA)))
  (i6:d6 K "shades_open" "Fence.shades_open" Tv AA)
  (wu:PySem.W.findIn K (.ref bC) "shades_open"=some (some (.ref rN)))
  (gx:d6 K "shades_open" "NewFence.shades_open" F5 rN)
  (wz:PySem.W.findIn K (.ref bC) "put_shades"=some (some (.ref rO)))
  (gJ:d6 K "put_shades" "NewFence.put_shades" F6 rO)
  (wB:PySem.W.findIn K (.ref bD) "marks_new"=some (some (.ref rP)))
  (iA:d6 K "marks_new" "OldFence.marks_new" F7 rP)
  (wD:PySem.W.findIn K (.ref bD) "shades_look"=some (some (.ref rQ)))
  (gy:d6 K "shades_look" "OldFence.shades_look" F8 rQ)
  (wG:PySem.W.findIn K (.ref bD) "put_shades"=some (some (.ref rR)))
  (gK:d6 K "put_shades" "OldFence.put_shades" F9 rR)
  (wI:PySem.W.nsIn K mainGlobals "fence_of"=some (some (.ref ou)))
  (Bd:jr K "fence_of" "fence_of" F_ ou)
  (wK:PySem.W.findIn K (.ref a4) "__init__"=some (some (.ref rS)))
  (pF:d6 K "__init__" "Marking.__init__" Ga rS)
  (wM:PySem.W.findIn K (.ref a4) "shade"=some (some (.ref rT)))
  (mK:d6 K "shade" "Marking.shade" Gb rT)
  (wO:PySem.W.findIn K (.ref a4) "shade_all"=some (some (.ref rW)))
  (i7:d6 K "shade_all" "Marking.shade_all" Gd rW)
  (Hl:PySem.W.findIn K (.ref a4) "has_grey"=some (some (.ref Dp)))
  (jG:d6 K "has_grey" "Marking.has_grey" Tw Dp)
  (wR:PySem.W.findIn K (.ref a4) "step"=some (some (.ref rX)))
  (pG:d6 K "step" "Marking.step" Ge rX)
  (Hn:PySem.W.findIn K (.ref a4) "drain"=some (some (.ref Dq)))
  (mL:d6 K "drain" "Marking.drain" Tx Dq)
  (Hq:PySem.W.findIn K (.ref a4) "empty_row"=some (some (.ref Dr)))
  (i8:d6 K "empty_row" "Marking.empty_row" Tz Dr)
  (wW:PySem.W.findIn K (.ref a4) "pairs_by_serial"=some (some (.ref mi)))
  (aaC:PySem.W.isFn K (.ref mi)=true)
  (aaD:K.lookup mi=some ⟨Xn,Xj,.func (PySem.W.fnOf "pairs_by_serial" "Marking.pairs_by_serial" (eF j7) (dJ j7) (ai j7) .none J7 J9 J_ J1 ux Ka),Xl⟩)
  (Xr:PySem.W.codeIn K ux "Marking.pairs_by_serial"=true)
  (QM:PySem.W.keepIn K (.ref mi)=true)
  (wX:PySem.W.findIn K (.ref a4) "shade_values"=some (some (.ref rY)))
  (gz:d6 K "shade_values" "Marking.shade_values" Gf rY)
  (wZ:PySem.W.findIn K (.ref a4) "shade_value"=some (some (.ref rZ)))
  (gL:d6 K "shade_value" "Marking.shade_value" Gg rZ)
  (Hs:PySem.W.findIn K (.ref a4) "grey"=some (some (.ref Ds)))
  (pH:d6 K "grey" "Marking.grey" TB Ds)
  (Hu:PySem.W.findIn K (.ref a4) "colour_of"=some (some (.ref Dt)))
  (i9:d6 K "colour_of" "Marking.colour_of" TC Dt)
  (w_:PySem.W.nsIn K mainGlobals "header"=some (some (.ref oy)))
  (Ki:jr K "header" "header" Gh oy)
  (xc:PySem.W.nsIn K mainGlobals "kind_in"=some (some (.ref oz)))
  (DW:jr K "kind_in" "kind_in" Gi oz)
  (xg:PySem.W.nsIn K mainGlobals "size_in"=some (some (.ref oA)))
  (DX:jr K "size_in" "size_in" Gj oA)
  (xi:PySem.W.nsIn K mainGlobals "is_marked"=some (some (.ref oB)))
  (zd:jr K "is_marked" "is_marked" Gk oB)
  (xk:PySem.W.nsIn K mainGlobals "has_words"=some (some (.ref oC)))
  (ze:jr K "has_words" "has_words" Gm oC)
  (xm:PySem.W.nsIn K mainGlobals "with_mark"=some (some (.ref mj)))
  (zf:jr K "with_mark" "with_mark" Gn mj)
  (xo:PySem.W.nsIn K mainGlobals "with_words"=some (some (.ref oE)))
  (uC:jr K "with_words" "with_words" Gp oE)
  (xq:PySem.W.nsIn K mainGlobals "with_bit"=some (some (.ref ml)))
  (Be:jr K "with_bit" "with_bit" Gq ml)
  (xt:PySem.W.findIn K (.ref cm) "__init__"=some (some (.ref r8)))
  (uD:d6 K "__init__" "Rooms.__init__" Gr r8)
  (xv:PySem.W.findIn K (.ref cm) "gap"=some (some (.ref r_)))
  (zg:d6 K "gap" "Rooms.gap" Gs r_)
  (xx:PySem.W.findIn K (.ref cm) "gap_in"=some (some (.ref se)))
  (pI:d6 K "gap_in" "Rooms.gap_in" Gu se)
  (xA:PySem.W.findIn K (.ref cm) "fill_in"=some (some (.ref sg)))
  (mM:d6 K "fill_in" "Rooms.fill_in" Gv sg)
  (xC:PySem.W.findIn K (.ref cm) "read"=some (some (.ref si)))
  (uE:d6 K "read" "Rooms.read" Gw si)
  (xE:PySem.W.findIn K (.ref cm) "write"=some (some (.ref sj)))
  (qi:d6 K "write" "Rooms.write" Gx sj)
  (xG:PySem.W.findIn K (.ref cm) "room_of"=some (some (.ref sk)))
  (mN:d6 K "room_of" "Rooms.room_of" Gy sk)
  (xI:PySem.W.nsIn K mainGlobals "first_field"=some (some (.ref j_)))
  (qj:jr K "first_field" "first_field" Gz j_)
  (xK:PySem.W.nsIn K mainGlobals "size_of"=some (some (.ref mq)))
  (DY:jr K "size_of" "size_of" GA mq)
  (xN:PySem.W.nsIn K mainGlobals "words_cell"=some (some (.ref oG)))
  (uF:jr K "words_cell" "words_cell" GB oG)
  (xP:PySem.W.nsIn K mainGlobals "cells_of"=some (some (.ref oH)))
  (Bf:jr K "cells_of" "cells_of" GC oH)
  (xR:PySem.W.findIn K (.ref ba) "__init__"=some (some (.ref so)))
  (qk:d6 K "__init__" "Memory.__init__" GD so)
  (xT:PySem.W.findIn K (.ref ba) "put_in"=some (some (.ref su)))
  (mO:d6 K "put_in" "Memory.put_in" GF su)
  (xV:PySem.W.findIn K (.ref ba) "fill_from"=some (some (.ref sv)))
  (jH:d6 K "fill_from" "Memory.fill_from" GG sv)
  (xX:PySem.W.findIn K (.ref ba) "head_at"=some (some (.ref sx)))
  (lP:d6 K "head_at" "Memory.head_at" GH sx)
  (xZ:PySem.W.findIn K (.ref ba) "thing_at"=some (some (.ref sA)))
  (kC:d6 K "thing_at" "Memory.thing_at" GI sA)
  (x6:PySem.W.findIn K (.ref ba) "words_at"=some (some (.ref sC)))
  (kE:d6 K "words_at" "Memory.words_at" GJ sC)
  (x9:PySem.W.findIn K (.ref ba) "serial_at"=some (some (.ref sE)))
  (jI:d6 K "serial_at" "Memory.serial_at" GK sE)
  (ya:PySem.W.findIn K (.ref ba) "size_at"=some (some (.ref sF)))
  (lQ:d6 K "size_at" "Memory.size_at" GL sF)
  (yc:PySem.W.findIn K (.ref ba) "sort_at"=some (some (.ref sH)))
  (lR:d6 K "sort_at" "Memory.sort_at" GN sH)
  (ye:PySem.W.findIn K (.ref ba) "marked_at"=some (some (.ref sI)))
  (jJ:d6 K "marked_at" "Memory.marked_at" GO sI)
  (yg:PySem.W.findIn K (.ref ba) "set_mark"=some (some (.ref sL)))
  (kG:d6 K "set_mark" "Memory.set_mark" GP sL)
  (yi:PySem.W.findIn K (.ref ba) "set_field"=some (some (.ref sM)))
  (jK:d6 K "set_field" "Memory.set_field" GQ sM)
  (yk:PySem.W.findIn K (.ref ba) "places"=some (some (.ref sN)))
  (mP:d6 K "places" "Memory.places" GR sN)
  (ym:PySem.W.findIn K (.ref ba) "places_in"=some (some (.ref sO)))
  (jL:d6 K "places_in" "Memory.places_in" GS sO)
  (yo:PySem.W.nsIn K mainGlobals "_law_cell_at"=some (some (.ref oI)))
  (ql:jr K "_law_cell_at" "_law_cell_at" GU oI)
  (yq:PySem.W.nsIn K mainGlobals "_law_cut"=some (some (.ref oJ)))
  (DZ:jr K "_law_cut" "_law_cut" GV oJ)
  (yt:PySem.W.nsIn K mainGlobals "_law_cell_by"=some (some (.ref oK)))
  (qm:jr K "_law_cell_by" "_law_cell_by" GW oK)
  (yv:PySem.W.nsIn K mainGlobals "_law_give"=some (some (.ref oM)))
  (Bg:jr K "_law_give" "_law_give" GX oM)
  (yx:PySem.W.nsIn K mainGlobals "_law_made"=some (some (.ref ka)))
  (Bh:jr K "_law_made" "_law_made" GY ka)
  (yz:PySem.W.nsIn K mainGlobals "_law_new"=some (some (.ref oN)))
  (D0:jr K "_law_new" "_law_new" GZ oN)
  (yB:PySem.W.nsIn K mainGlobals "_law_brought"=some (some (.ref oO)))
  (qo:jr K "_law_brought" "_law_brought" G0 oO)
  (yD:PySem.W.nsIn K mainGlobals "_law_put"=some (some (.ref oP)))
  (D1:jr K "_law_put" "_law_put" G3 oP)
  (yF:PySem.W.nsIn K mainGlobals "_law_deed"=some (some (.ref oQ)))
  (Bj:jr K "_law_deed" "_law_deed" G4 oQ)
  (yH:PySem.W.nsIn K mainGlobals "_law_closing"=some (some (.ref mw)))
  (qp:jr K "_law_closing" "_law_closing" G5 mw)
  (yJ:PySem.W.nsIn K mainGlobals "_law_all_held"=some (some (.ref oR)))
  (pJ:jr K "_law_all_held" "_law_all_held" G6 oR)
  (yL:PySem.W.nsIn K mainGlobals "_law_more"=some (some (.ref mx)))
  (Bk:jr K "_law_more" "_law_more" G8 mx)
  (rE:PySem.W.nsIn K mainGlobals "law"=some (some (.ref my)))
  (aaE:K.lookup my=some ⟨Xo,Xk,.func (PySem.W.fnOf "law" "law" (eF j8) (dJ j8) (ai j8) .none Kb Kc Kd J6 A_ Ke),Xm⟩)
  (Xs:PySem.W.codeIn K A_ "law"=true)
  (aaF:PySem.W.keepIn K (.ref my)=true)
  (Kj:PySem.W.plainGet K bX Str.empty=true)
  (Kk:PySem.W.hasDictIn K bX=true)
  (Kl:PySem.W.plainOver K bX=true)
  (Km:PySem.W.findIn K (.ref bX) "__setattr__"=some (some (.builtin "object.__setattr__")))
  (Kn:PySem.W.makesIn K bX=true)
  (Ko:PySem.W.keepIn K (.ref bX)=true)
  (c5:PySem.W.findIn K (.ref bX) "called"=some none)
  (dj:PySem.W.findIn K (.ref bX) "parts"=some none)
  (qr:PySem.W.plainGet K aS Str.empty=true)
  (qt:PySem.W.hasDictIn K aS=true)
  (qu:PySem.W.plainOver K aS=true)
  (qv:PySem.W.findIn K (.ref aS) "__setattr__"=some (some (.builtin "object.__setattr__")))
  (qw:PySem.W.makesIn K aS=true)
  (qx:PySem.W.keepIn K (.ref aS)=true)
  (bP:PySem.W.findIn K (.ref aS) "called"=some none)
  (bH:PySem.W.findIn K (.ref aS) "parts"=some none)
  (bu:PySem.W.findIn K (.ref aS) "last_words"=some none)
  (uG:PySem.W.plainGet K a9 Str.empty=true)
  (uH:PySem.W.hasDictIn K a9=true)
  (uI:PySem.W.plainOver K a9=true)
  (uJ:PySem.W.findIn K (.ref a9) "__setattr__"=some (some (.builtin "object.__setattr__")))
  (uK:PySem.W.makesIn K a9=true)
  (uL:PySem.W.keepIn K (.ref a9)=true)
  (bV:PySem.W.findIn K (.ref a9) "called"=some none)
  (bB:PySem.W.findIn K (.ref a9) "parts"=some none)
  (Kq:PySem.W.plainGet K dr Str.empty=true)
  (Kr:PySem.W.hasDictIn K dr=true)
  (Ks:PySem.W.plainOver K dr=true)
  (Kt:PySem.W.findIn K (.ref dr) "__setattr__"=some (some (.builtin "object.__setattr__")))
  (Ku:PySem.W.makesIn K dr=true)
  (Kv:PySem.W.keepIn K (.ref dr)=true)
  (zh:PySem.W.plainGet K bC Str.empty=true)
  (zi:PySem.W.hasDictIn K bC=true)
  (zj:PySem.W.plainOver K bC=true)
  (zk:PySem.W.findIn K (.ref bC) "__setattr__"=some (some (.builtin "object.__setattr__")))
  (zl:PySem.W.makesIn K bC=true)
  (zm:PySem.W.keepIn K (.ref bC)=true)
  (cY:PySem.W.findIn K (.ref bC) "called"=some none)
  (zp:PySem.W.plainGet K bD Str.empty=true)
  (zq:PySem.W.hasDictIn K bD=true)
  (zr:PySem.W.plainOver K bD=true)
  (zt:PySem.W.findIn K (.ref bD) "__setattr__"=some (some (.builtin "object.__setattr__")))
  (zu:PySem.W.makesIn K bD=true)
  (zv:PySem.W.keepIn K (.ref bD)=true)
  (cZ:PySem.W.findIn K (.ref bD) "called"=some none)
  (Bl:PySem.W.plainGet K a4 Str.empty=true)
  (Bm:PySem.W.hasDictIn K a4=true)
  (Bo:PySem.W.plainOver K a4=true)
  (Bp:PySem.W.findIn K (.ref a4) "__setattr__"=some (some (.builtin "object.__setattr__")))
  (Bq:PySem.W.makesIn K a4=true)
  (Br:PySem.W.keepIn K (.ref a4)=true)
  (aG:PySem.W.findIn K (.ref a4) "memory"=some none)
  (aK:PySem.W.findIn K (.ref a4) "grey_places"=some none)
  (Kw:PySem.W.plainGet K cm Str.empty=true)
  (Kx:PySem.W.hasDictIn K cm=true)
  (Ky:PySem.W.plainOver K cm=true)
  (Kz:PySem.W.findIn K (.ref cm) "__setattr__"=some (some (.builtin "object.__setattr__")))
  (KA:PySem.W.makesIn K cm=true)
  (KC:PySem.W.keepIn K (.ref cm)=true)
  (dz:PySem.W.findIn K (.ref cm) "many"=some none)
  (cS:PySem.W.findIn K (.ref cm) "cells"=some none)
  (bz:PySem.W.findIn K (.ref cm) "inside"=some none)
  (D3:PySem.W.plainGet K ba Str.empty=true)
  (D4:PySem.W.hasDictIn K ba=true)
  (D5:PySem.W.plainOver K ba=true)
  (D6:PySem.W.findIn K (.ref ba) "__setattr__"=some (some (.builtin "object.__setattr__")))
  (D7:PySem.W.makesIn K ba=true)
  (D8:PySem.W.keepIn K (.ref ba)=true)
  (aL:PySem.W.findIn K (.ref ba) "rooms"=some none)
  (bq:PySem.W.findIn K (.ref ba) "begins"=some none)
  (D9:PySem.W.nsIn K mainGlobals "NOTHING"=some (some (.ref dC)))
  (pK:K.lookup dC=some ⟨.type "tuple",none,.seq #[.str "nothing" uw] A8,A9⟩)
  (zw:PySem.W.nsIn K mainGlobals "KIND_BITS"=some (some (.int 3 fo)))
  (Bs:PySem.W.nsIn K mainGlobals "MARK_BIT"=some (some (.int 4 gp)))
  (zx:PySem.W.nsIn K mainGlobals "WORDS_BIT"=some (some (.int 8 fq)))
  (zy:PySem.W.nsIn K mainGlobals "SIZE_FROM"=some (some (.int 4 fu)))
  (MR:PySem.W.nsIn K mainGlobals "SORTS"=some (some (.ref eI)))
  (zz:K.lookup eI=some ⟨.type "tuple",none,.seq #[.str "plain" A5,.str "weak" A6,.str "pair" A7] JZ,J0⟩)
  (zA:PySem.W.nsIn K mainGlobals "SERIAL_AT"=some (some (.int 1 fw)))
  (Bt:PySem.W.nsIn K mainGlobals "WORDS_AT"=some (some (.int 2 gq)))
  (iB:PySem.W.findIn K (.ref aS) "sort_of"=some (some (.ref ma)))
  (i_:PySem.W.findIn K (.ref aS) "fields"=some (some (.ref md)))
  (jM:PySem.W.findIn K (.ref aS) "waits"=some (some (.ref oq)))
  (ja:PySem.W.findIn K (.ref a9) "sort_of"=some (some (.ref ma)))
  (jN:PySem.W.findIn K (.ref a9) "fields"=some (some (.ref md)))
  (kI:PySem.W.findIn K (.ref a9) "holds"=some (some (.ref oo)))
  (kJ:PySem.W.findIn K (.ref a9) "words"=some (some (.ref ot)))
  (mQ:PySem.W.findIn K (.ref bC) "__init__"=some (some (.ref yO)))
  (mR:PySem.W.findIn K (.ref bC) "word"=some (some (.ref Ax)))
  (iC:PySem.W.findIn K (.ref bC) "marks_new"=some (some (.ref Ay)))
  (gA:PySem.W.findIn K (.ref bC) "shades_look"=some (some (.ref Az)))
  (mS:PySem.W.findIn K (.ref bD) "__init__"=some (some (.ref yO)))
  (mT:PySem.W.findIn K (.ref bD) "word"=some (some (.ref Ax)))
  (gB:PySem.W.findIn K (.ref bD) "shades_open"=some (some (.ref AA)))
  (fb:ux=.ref jB)
  (pL:K.lookup jB=some ⟨.type "code",MO,.fields CI,MP⟩)
  (pM:CI[11]?=some (.ref cz))
  (t5:PySem.W.codeHdIn K jB cz=true)
  (fc:cz∈ts)
  (afr:∀b∈ts,b=cz)
  (pN:PySem.W.specialIn K (.ref bX) "__getattribute__"=some (some (.builtin "type.__getattribute__")))
  (pO:PySem.W.readsIn K bX (.type "type")=true)
  (pP:PySem.W.findCls K (.ref bX) (.type "type") "__init__"=some (.val (.ref oj)))
  (yS:PySem.W.nsIn K mainGlobals "abs"=some none)
  (fz:PySem.W.nsIn K mainGlobals "enumerate"=some none)
  (Cp:PySem.W.nsIn K mainGlobals "int"=some none)
  (eC:PySem.W.nsIn K mainGlobals "len"=some none)
  (ip:PySem.W.nsIn K mainGlobals "list"=some none)
  (eJ:PySem.W.nsIn K mainGlobals "range"=some none)
  (eY:PySem.W.nsIn K mainGlobals "sorted"=some none)
  : ∃fd:FuncData,(∀(s:Shared) (v:Value),BindsTo s fd ⟨[v],[]⟩ [("_law_script",v)])∧(∀b∈ts,∃c,PySem.W.codeHdIn K c b=true)∧∀base:Heap,K.In base→base.Ns mainGlobals mg→BM mg base→aN l.prog w K mg base cx 14 fa fd ["_law_script"] (uv ts K):=by
 have e:my=fa:=by
  have e:=hfa.symm.trans (PySem.W.mg_of X G rE)
  cases e
  rfl
 subst e
 obtain⟨afR,vQ,QN⟩:=Bb
 obtain⟨afS,vS,QO⟩:=Bc
 obtain⟨aaG,aaH,vT,QP⟩:=uz
 obtain⟨KD,KG,vU,QQ⟩:=mJ
 obtain⟨KH,KI,vV,QR⟩:=pE
 obtain⟨QS,QT,vW,QU⟩:=qf
 obtain⟨QV,QW,vX,QX⟩:=qg
 obtain⟨QY,QZ,vY,Q0⟩:=qh
 obtain⟨aaI,afT,v5,Q2⟩:=ku
 obtain⟨aaJ,aaK,v8,Q3⟩:=jE
 obtain⟨aaL,aaM,wa,Q4⟩:=jF
 obtain⟨aaN,afU,wc,Q5⟩:=lO
 obtain⟨aaO,aaP,we,Q6⟩:=ky
 obtain⟨afV,wj,Q7⟩:=MQ
 obtain⟨afW,wm,Q8⟩:=Xp
 obtain⟨afX,wq,Q9⟩:=Xq
 obtain⟨Xt,agL,Hh,aaQ⟩:=uA
 obtain⟨Xu,Xv,LY,aaR⟩:=uB
 obtain⟨aaS,aaT,Hi,aaU⟩:=kB
 obtain⟨aaV,aaW,Hj,aaX⟩:=i5
 obtain⟨aaY,aaZ,Hk,aba⟩:=i6
 obtain⟨abb,abc,wy,Q_⟩:=gx
 obtain⟨abd,abe,wA,Ra⟩:=gJ
 obtain⟨abf,abg,wC,Rb⟩:=iA
 obtain⟨abh,abi,wF,Rc⟩:=gy
 obtain⟨abj,abk,wH,Rf⟩:=gK
 obtain⟨afY,wJ,Rg⟩:=Bd
 obtain⟨abl,afZ,wL,Rh⟩:=pF
 obtain⟨abm,abn,wN,Ri⟩:=mK
 obtain⟨abo,abp,wQ,Rj⟩:=i7
 obtain⟨afs,aft,Hm,abq⟩:=jG
 obtain⟨abr,abt,wU,Rk⟩:=pG
 obtain⟨afu,afv,Ho,abu⟩:=mL
 obtain⟨afw,afx,Hr,abv⟩:=i8
 have Rl:=Ab (st:=j7) aaD Xr QM
 obtain⟨abw,abx,wY,Rm⟩:=gz
 obtain⟨aby,abz,w4,Rn⟩:=gL
 obtain⟨afy,afz,Ht,abA⟩:=pH
 obtain⟨afA,afB,Hv,abB⟩:=i9
 obtain⟨aga,xa,Ro⟩:=Ki
 obtain⟨agb,xf,Rp⟩:=DW
 obtain⟨agc,xh,Rq⟩:=DX
 obtain⟨agd,xj,Rr⟩:=zd
 obtain⟨age,xl,Rt⟩:=ze
 obtain⟨agf,xn,Ru⟩:=zf
 obtain⟨agg,xp,Rv⟩:=uC
 obtain⟨agh,xr,Rx⟩:=Be
 obtain⟨abC,agi,xu,Ry⟩:=uD
 obtain⟨abD,abE,xw,Rz⟩:=zg
 obtain⟨abF,abG,xy,RB⟩:=pI
 obtain⟨abH,abI,xB,RC⟩:=mM
 obtain⟨abJ,abK,xD,RD⟩:=uE
 obtain⟨abL,abM,xF,RE⟩:=qi
 obtain⟨abN,abO,xH,RF⟩:=mN
 obtain⟨agj,xJ,RG⟩:=qj
 obtain⟨agk,xM,RH⟩:=DY
 obtain⟨agl,xO,RI⟩:=uF
 obtain⟨agm,xQ,RJ⟩:=Bf
 obtain⟨abP,agn,xS,RK⟩:=qk
 obtain⟨abQ,abR,xU,RL⟩:=mO
 obtain⟨abS,abT,xW,RN⟩:=jH
 obtain⟨abU,abV,xY,RO⟩:=lP
 obtain⟨abW,abX,x5,RP⟩:=kC
 obtain⟨abY,abZ,x8,RQ⟩:=kE
 obtain⟨aca,acb,x_,RR⟩:=jI
 obtain⟨acd,ace,yb,RS⟩:=lQ
 obtain⟨acf,acg,yd,RT⟩:=lR
 obtain⟨ach,aci,yf,RU⟩:=jJ
 obtain⟨acj,ack,yh,RV⟩:=kG
 obtain⟨acm,acn,yj,RW⟩:=jK
 obtain⟨aco,acp,yl,RX⟩:=mP
 obtain⟨acq,acr,yn,RY⟩:=jL
 obtain⟨ago,yp,RZ⟩:=ql
 obtain⟨agp,yr,R0⟩:=DZ
 obtain⟨agq,yu,R5⟩:=qm
 obtain⟨agr,yw,R6⟩:=Bg
 obtain⟨ags,yy,R7⟩:=Bh
 obtain⟨agt,yA,R8⟩:=D0
 obtain⟨agu,yC,R9⟩:=qo
 obtain⟨agv,yE,R_⟩:=D1
 obtain⟨agw,yG,Sa⟩:=Bj
 obtain⟨agx,yI,Sb⟩:=qp
 obtain⟨agy,yK,Sd⟩:=pJ
 obtain⟨agz,yM,Se⟩:=Bk
 have acs:=Ab (st:=j8) aaE Xs aaF
 have acu:=QN.binds (ps:=["value"]) fun _ _ _ _ _ _=>dw fun _=>rfl
 have acv:=QO.binds (ps:=["some"]) fun _ _ _ _ _ _=>dw fun _=>rfl
 have acw:=QP.binds (ps:=["self","sort","some"]) fun _ _ _ _ _ _=>i4 fun _ _ _=>rfl
 have acx:=QQ.binds (ps:=["self"]) fun _ _ _ _ _ _=>dw fun _=>rfl
 have acy:=QR.binds (ps:=["self"]) fun _ _ _ _ _ _=>dw fun _=>rfl
 have acz:=QU.binds (ps:=["self"]) fun _ _ _ _ _ _=>dw fun _=>rfl
 have acA:=QX.binds (ps:=["self"]) fun _ _ _ _ _ _=>dw fun _=>rfl
 have acB:=Q0.binds (ps:=["self"]) fun _ _ _ _ _ _=>dw fun _=>rfl
 have acC:=Q2.binds (ps:=["self","some","last_words"]) fun _ _ _ _ _ _=>i4 fun _ _ _=>rfl
 have acD:=Q3.binds (ps:=["self"]) fun _ _ _ _ _ _=>dw fun _=>rfl
 have acE:=Q4.binds (ps:=["self"]) fun _ _ _ _ _ _=>dw fun _=>rfl
 have acF:=Q5.binds (ps:=["self","key","value"]) fun _ _ _ _ _ _=>i4 fun _ _ _=>rfl
 have acG:=Q6.binds (ps:=["self"]) fun _ _ _ _ _ _=>dw fun _=>rfl
 have acH:=Q7.binds (ps:=["fields","words"]) fun _ _ _ _ _ _=>dN fun _ _=>rfl
 have acI:=Q8.binds (ps:=["field"]) fun _ _ _ _ _ _=>dw fun _=>rfl
 have acJ:=Q9.binds (ps:=["key","value"]) fun _ _ _ _ _ _=>dN fun _ _=>rfl
 have afC:=aaQ.binds (ps:=["self","word"]) fun _ _ _ _ _ _=>dN fun _ _=>rfl
 have afD:=aaR.binds (ps:=["self"]) fun _ _ _ _ _ _=>dw fun _=>rfl
 have afE:=aaU.binds (ps:=["self"]) fun _ _ _ _ _ _=>dw fun _=>rfl
 have afF:=aaX.binds (ps:=["self"]) fun _ _ _ _ _ _=>dw fun _=>rfl
 have afG:=aba.binds (ps:=["self"]) fun _ _ _ _ _ _=>dw fun _=>rfl
 have acK:=Q_.binds (ps:=["self"]) fun _ _ _ _ _ _=>dw fun _=>rfl
 have acL:=Ra.binds (ps:=["self","was","becomes"]) fun _ _ _ _ _ _=>i4 fun _ _ _=>rfl
 have acM:=Rb.binds (ps:=["self"]) fun _ _ _ _ _ _=>dw fun _=>rfl
 have acN:=Rc.binds (ps:=["self"]) fun _ _ _ _ _ _=>dw fun _=>rfl
 have acO:=Rf.binds (ps:=["self","was","becomes"]) fun _ _ _ _ _ _=>i4 fun _ _ _=>rfl
 have acP:=Rg.binds (ps:=["word"]) fun _ _ _ _ _ _=>dw fun _=>rfl
 have acQ:=Rh.binds (ps:=["self","memory"]) fun _ _ _ _ _ _=>dN fun _ _=>rfl
 have acR:=Ri.binds (ps:=["self","place"]) fun _ _ _ _ _ _=>dN fun _ _=>rfl
 have acS:=Rj.binds (ps:=["self","places"]) fun _ _ _ _ _ _=>dN fun _ _=>rfl
 have afH:=abq.binds (ps:=["self"]) fun _ _ _ _ _ _=>dw fun _=>rfl
 have acT:=Rk.binds (ps:=["self"]) fun _ _ _ _ _ _=>dw fun _=>rfl
 have afI:=abu.binds (ps:=["self"]) fun _ _ _ _ _ _=>dw fun _=>rfl
 have afJ:=abv.binds (ps:=["self"]) fun _ _ _ _ _ _=>dw fun _=>rfl
 have acU:=Rl.binds (ps:=["self"]) fun _ _ _ _ _ _=>dw fun _=>rfl
 have acV:=Rm.binds (ps:=["self","pairs"]) fun _ _ _ _ _ _=>dN fun _ _=>rfl
 have acW:=Rn.binds (ps:=["self","place"]) fun _ _ _ _ _ _=>dN fun _ _=>rfl
 have afK:=abA.binds (ps:=["self"]) fun _ _ _ _ _ _=>dw fun _=>rfl
 have afL:=abB.binds (ps:=["self","place"]) fun _ _ _ _ _ _=>dN fun _ _=>rfl
 have acX:=Ro.binds (ps:=["kind","marked","words","size"]) fun _ _ _ _ _ _=>JY fun _ _ _ _=>rfl
 have acY:=Rp.binds (ps:=["number"]) fun _ _ _ _ _ _=>dw fun _=>rfl
 have acZ:=Rq.binds (ps:=["number"]) fun _ _ _ _ _ _=>dw fun _=>rfl
 have ada:=Rr.binds (ps:=["number"]) fun _ _ _ _ _ _=>dw fun _=>rfl
 have adb:=Rt.binds (ps:=["number"]) fun _ _ _ _ _ _=>dw fun _=>rfl
 have ade:=Ru.binds (ps:=["number","marked"]) fun _ _ _ _ _ _=>dN fun _ _=>rfl
 have adf:=Rv.binds (ps:=["number","words"]) fun _ _ _ _ _ _=>dN fun _ _=>rfl
 have adg:=Rx.binds (ps:=["number","bit","is_set"]) fun _ _ _ _ _ _=>i4 fun _ _ _=>rfl
 have adh:=Ry.binds (ps:=["self","many","cells"]) fun _ _ _ _ _ _=>i4 fun _ _ _=>rfl
 have adi:=Rz.binds (ps:=["self","length"]) fun _ _ _ _ _ _=>dN fun _ _=>rfl
 have adj:=RB.binds (ps:=["self","room","length"]) fun _ _ _ _ _ _=>i4 fun _ _ _=>rfl
 have adk:=RC.binds (ps:=["self","place","some"]) fun _ _ _ _ _ _=>i4 fun _ _ _=>rfl
 have adl:=RD.binds (ps:=["self","place"]) fun _ _ _ _ _ _=>dN fun _ _=>rfl
 have adm:=RE.binds (ps:=["self","place","value"]) fun _ _ _ _ _ _=>i4 fun _ _ _=>rfl
 have adn:=RF.binds (ps:=["self","place"]) fun _ _ _ _ _ _=>dN fun _ _=>rfl
 have ado:=RG.binds (ps:=["sort"]) fun _ _ _ _ _ _=>dw fun _=>rfl
 have adp:=RH.binds (ps:=["thing"]) fun _ _ _ _ _ _=>dw fun _=>rfl
 have adq:=RI.binds (ps:=["words"]) fun _ _ _ _ _ _=>dw fun _=>rfl
 have ads:=RJ.binds (ps:=["thing","serial","marked"]) fun _ _ _ _ _ _=>i4 fun _ _ _=>rfl
 have adt:=RK.binds (ps:=["self","many","cells"]) fun _ _ _ _ _ _=>i4 fun _ _ _=>rfl
 have adu:=RL.binds (ps:=["self","thing","serial","marked"]) fun _ _ _ _ _ _=>JY fun _ _ _ _=>rfl
 have adv:=RN.binds (ps:=["self","place","some"]) fun _ _ _ _ _ _=>i4 fun _ _ _=>rfl
 have adw:=RO.binds (ps:=["self","place"]) fun _ _ _ _ _ _=>dN fun _ _=>rfl
 have adx:=RP.binds (ps:=["self","place"]) fun _ _ _ _ _ _=>dN fun _ _=>rfl
 have ady:=RQ.binds (ps:=["self","place"]) fun _ _ _ _ _ _=>dN fun _ _=>rfl
 have adz:=RR.binds (ps:=["self","place"]) fun _ _ _ _ _ _=>dN fun _ _=>rfl
 have adA:=RS.binds (ps:=["self","place"]) fun _ _ _ _ _ _=>dN fun _ _=>rfl
 have adB:=RT.binds (ps:=["self","place"]) fun _ _ _ _ _ _=>dN fun _ _=>rfl
 have adC:=RU.binds (ps:=["self","place"]) fun _ _ _ _ _ _=>dN fun _ _=>rfl
 have adD:=RV.binds (ps:=["self","place","marked"]) fun _ _ _ _ _ _=>i4 fun _ _ _=>rfl
 have adE:=RW.binds (ps:=["self","place","at","value"]) fun _ _ _ _ _ _=>JY fun _ _ _ _=>rfl
 have adF:=RX.binds (ps:=["self"]) fun _ _ _ _ _ _=>dw fun _=>rfl
 have adG:=RY.binds (ps:=["self","room"]) fun _ _ _ _ _ _=>dN fun _ _=>rfl
 have adH:=RZ.binds (ps:=["_law_script","_law_k"]) fun _ _ _ _ _ _=>dN fun _ _=>rfl
 have adI:=R0.binds (ps:=["_law_cell","_law_sizes"]) fun _ _ _ _ _ _=>dN fun _ _=>rfl
 have adJ:=R5.binds (ps:=["_law_cell","_law_free"]) fun _ _ _ _ _ _=>dN fun _ _=>rfl
 have adK:=R6.binds (ps:=["_law_state","_law_slot","_law_value"]) fun _ _ _ _ _ _=>i4 fun _ _ _=>rfl
 have adL:=R7.binds (ps:=["_law_state","_law_thing","_law_shape","_law_slot","_law_marked"]) fun _ _ _ _ _ _=>afq fun _ _ _ _ _=>rfl
 have adM:=R8.binds (ps:=["_law_state","_law_parts","_law_marked"]) fun _ _ _ _ _ _=>i4 fun _ _ _=>rfl
 have adN:=R9.binds (ps:=["_law_state","_law_parts"]) fun _ _ _ _ _ _=>dN fun _ _=>rfl
 have adO:=R_.binds (ps:=["_law_state","_law_parts","_law_fence","_law_marking"]) fun _ _ _ _ _ _=>JY fun _ _ _ _=>rfl
 have adP:=Sa.binds (ps:=["_law_state","_law_parts","_law_fence","_law_marking"]) fun _ _ _ _ _ _=>JY fun _ _ _ _=>rfl
 have adQ:=Sb.binds (ps:=["_law_things","_law_some"]) fun _ _ _ _ _ _=>dN fun _ _=>rfl
 have adR:=Sd.binds (ps:=["_law_state","_law_marking"]) fun _ _ _ _ _ _=>dN fun _ _=>rfl
 have adS:=Se.binds (ps:=["_law_state","_law_ever"]) fun _ _ _ _ _ _=>dN fun _ _=>rfl
 have T:Txt K mg ⟨oi,vQ,ia,vS,oj,vT,ma,vU,md,vV,oo,vW,oq,vX,ot,vY,rH,v5,rJ,v8,rK,wa,rL,wc,rM,we,me,wj,mf,wm,mh,wq,yO,Hh,Ax,LY,Ay,Hi,Az,Hj,AA,Hk,rN,wy,rO,wA,rP,wC,rQ,wF,rR,wH,ou,wJ,rS,wL,rT,wN,rW,wQ,Dp,Hm,rX,wU,Dq,Ho,Dr,Hr,mi,PySem.W.fnOf "pairs_by_serial" "Marking.pairs_by_serial" (eF j7) (dJ j7) (ai j7) .none J7 J9 J_ J1 ux Ka,rY,wY,rZ,w4,Ds,Ht,Dt,Hv,oy,xa,oz,xf,oA,xh,oB,xj,oC,xl,mj,xn,oE,xp,ml,xr,r8,xu,r_,xw,se,xy,sg,xB,si,xD,sj,xF,sk,xH,j_,xJ,mq,xM,oG,xO,oH,xQ,so,xS,su,xU,sv,xW,sx,xY,sA,x5,sC,x8,sE,x_,sF,yb,sH,yd,sI,yf,sL,yh,sM,yj,sN,yl,sO,yn,oI,yp,oJ,yr,oK,yu,oM,yw,ka,yy,oN,yA,oO,yC,oP,yE,oQ,yG,mw,yI,oR,yK,mx,yM,my,PySem.W.fnOf "law" "law" (eF j8) (dJ j8) (ai j8) .none Kb Kc Kd J6 A_ Ke,bX,aS,a9,dr,bC,bD,a4,cm,ba,dC,fo,gp,fq,fu,eI,fw,gq,jB,cz⟩:=by
  exact {
   oi:=QN,
   O6:=acu,
   O7:=PySem.W.mg_of X G vP,
   ia:=QO,
   rF:=acv,
   rG:=PySem.W.mg_of X G vR,
   oj:=QP,
   Ce:=acw,
   yN:=⟨Kn,rA,aaG,Ko⟩,
   ma:=QQ,
   jn:=acx,
   t6:=⟨og,KD,KG⟩,
   md:=QR,
   om:=acy,
   Aw:=⟨oh,KH,KI⟩,
   oo:=QU,
   Hx:=acz,
   Hy:=⟨rB,QS,QT⟩,
   oq:=QX,
   Hz:=acA,
   HA:=⟨rC,QV,QW⟩,
   ot:=Q0,
   HB:=acB,
   HC:=⟨rD,QY,QZ⟩,
   rH:=Q2,
   O8:=acC,
   jo:=⟨qw,vZ,aaI,qx⟩,
   rJ:=Q3,
   O9:=acD,
   HD:=⟨v7,aaJ,aaK⟩,
   rK:=Q4,
   O_:=acE,
   HE:=⟨v_,aaL,aaM⟩,
   rL:=Q5,
   Pa:=acF,
   j9:=⟨uK,wb,aaN,uL⟩,
   rM:=Q6,
   Pb:=acG,
   HG:=⟨wd,aaO,aaP⟩,
   me:=Q7,
   HH:=acH,
   HI:=PySem.W.mg_of X G wg,
   mf:=Q8,
   HJ:=acI,
   HK:=PySem.W.mg_of X G wk,
   mh:=Q9,
   HL:=acJ,
   HM:=PySem.W.mg_of X G wo,
   yO:=aaQ,
   HN:=afC,
   HP:=⟨Ku,Av,Xt,Kv⟩,
   Ax:=aaR,
   aeA:=afD,
   Zp:=⟨Dj,Xu,Xv⟩,
   Ay:=aaU,
   Zq:=afE,
   Zr:=⟨Dk,aaS,aaT⟩,
   Az:=aaX,
   Zs:=afF,
   Zt:=⟨Dl,aaV,aaW⟩,
   AA:=aba,
   Zu:=afG,
   Zv:=⟨Dm,aaY,aaZ⟩,
   rN:=Q_,
   Pc:=acK,
   HQ:=⟨wu,abb,abc⟩,
   rO:=Ra,
   Pd:=acL,
   HR:=⟨wz,abd,abe⟩,
   rP:=Rb,
   Pf:=acM,
   HS:=⟨wB,abf,abg⟩,
   rQ:=Rc,
   Pg:=acN,
   HU:=⟨wD,abh,abi⟩,
   rR:=Rf,
   Ph:=acO,
   HV:=⟨wG,abj,abk⟩,
   ou:=Rg,
   Pj:=acP,
   Pk:=PySem.W.mg_of X G wI,
   rS:=Rh,
   Pl:=acQ,
   ow:=⟨Bq,wK,abl,Br⟩,
   rT:=Ri,
   rV:=acR,
   lF:=⟨wM,abm,abn⟩,
   rW:=Rj,
   HW:=acS,
   AB:=⟨wO,abo,abp⟩,
   Dp:=abq,
   UI:=afH,
   HX:=⟨Hl,afs,aft⟩,
   rX:=Rk,
   HY:=acT,
   AD:=⟨wR,abr,abt⟩,
   Dq:=abu,
   Zw:=afI,
   Pm:=⟨Hn,afu,afv⟩,
   Dr:=abv,
   UJ:=afJ,
   HZ:=⟨Hq,afw,afx⟩,
   mi:=Rl,
   Pn:=acU,
   H_:=⟨wW,aaC,QM⟩,
   rY:=Rm,
   Ia:=acV,
   AE:=⟨wX,abw,abx⟩,
   rZ:=Rn,
   Po:=acW,
   Ib:=⟨wZ,aby,abz⟩,
   Ds:=abA,
   LZ:=afK,
   Cf:=⟨Hs,afy,afz⟩,
   Dt:=abB,
   Zx:=afL,
   Pp:=⟨Hu,afA,afB⟩,
   oy:=Ro,
   Pq:=acX,
   Pt:=PySem.W.mg_of X G w_,
   oz:=Rp,
   Pu:=acY,
   Pw:=PySem.W.mg_of X G xc,
   oA:=Rq,
   Px:=acZ,
   Py:=PySem.W.mg_of X G xg,
   oB:=Rr,
   Pz:=ada,
   PD:=PySem.W.mg_of X G xi,
   oC:=Rt,
   PF:=adb,
   PH:=PySem.W.mg_of X G xk,
   mj:=Ru,
   Ic:=ade,
   Ie:=PySem.W.mg_of X G xm,
   oE:=Rv,
   PJ:=adf,
   PK:=PySem.W.mg_of X G xo,
   ml:=Rx,
   Ig:=adg,
   Ih:=PySem.W.mg_of X G xq,
   r8:=Ry,
   PL:=adh,
   yP:=⟨KA,xt,abC,KC⟩,
   r_:=Rz,
   PM:=adi,
   Ii:=⟨xv,abD,abE⟩,
   se:=RB,
   PN:=adj,
   Ij:=⟨xx,abF,abG⟩,
   sg:=RC,
   PQ:=adk,
   Ik:=⟨xA,abH,abI⟩,
   si:=RD,
   yQ:=adl,
   oF:=⟨xC,abJ,abK⟩,
   sj:=RE,
   Il:=adm,
   AF:=⟨xE,abL,abM⟩,
   sk:=RF,
   Im:=adn,
   AG:=⟨xG,abN,abO⟩,
   j_:=RG,
   Ci:=ado,
   Cj:=PySem.W.mg_of X G xI,
   mq:=RH,
   Io:=adp,
   Ip:=PySem.W.mg_of X G xK,
   oG:=RI,
   PR:=adq,
   PU:=PySem.W.mg_of X G xN,
   oH:=RJ,
   PV:=ads,
   PX:=PySem.W.mg_of X G xP,
   so:=RK,
   PY:=adt,
   sr:=⟨D7,xR,abP,D8⟩,
   su:=RL,
   PZ:=adu,
   Iq:=⟨xT,abQ,abR⟩,
   sv:=RN,
   P0:=adv,
   Ir:=⟨xV,abS,abT⟩,
   sx:=RO,
   sy:=adw,
   lG:=⟨xX,abU,abV⟩,
   sA:=RP,
   Iu:=adx,
   AH:=⟨xZ,abW,abX⟩,
   sC:=RQ,
   P1:=ady,
   Iv:=⟨x6,abY,abZ⟩,
   sE:=RR,
   P2:=adz,
   Iw:=⟨x9,aca,acb⟩,
   sF:=RS,
   P4:=adA,
   Iy:=⟨ya,acd,ace⟩,
   sH:=RT,
   Ck:=adB,
   t7:=⟨yc,acf,acg⟩,
   sI:=RU,
   sJ:=adC,
   lH:=⟨ye,ach,aci⟩,
   sL:=RV,
   P5:=adD,
   Iz:=⟨yg,acj,ack⟩,
   sM:=RW,
   P6:=adE,
   IA:=⟨yi,acm,acn⟩,
   sN:=RX,
   P7:=adF,
   IB:=⟨yk,aco,acp⟩,
   sO:=RY,
   P8:=adG,
   IC:=⟨ym,acq,acr⟩,
   oI:=RZ,
   P9:=adH,
   P_:=PySem.W.mg_of X G yo,
   oJ:=R0,
   Qa:=adI,
   Qb:=PySem.W.mg_of X G yq,
   oK:=R5,
   Qc:=adJ,
   Qd:=PySem.W.mg_of X G yt,
   oM:=R6,
   Qf:=adK,
   Qg:=PySem.W.mg_of X G yv,
   ka:=R7,
   Cm:=adL,
   Cn:=PySem.W.mg_of X G yx,
   oN:=R8,
   Qh:=adM,
   Qi:=PySem.W.mg_of X G yz,
   oO:=R9,
   Qj:=adN,
   Qk:=PySem.W.mg_of X G yB,
   oP:=R_,
   Ql:=adO,
   Qm:=PySem.W.mg_of X G yD,
   oQ:=Sa,
   Qn:=adP,
   Qo:=PySem.W.mg_of X G yF,
   mw:=Sb,
   ID:=adQ,
   IE:=PySem.W.mg_of X G yH,
   oR:=Sd,
   Qp:=adR,
   Qq:=PySem.W.mg_of X G yJ,
   mx:=Se,
   IF:=adS,
   IG:=PySem.W.mg_of X G yL,
   my:=acs,
   Zy:=PySem.W.mg_of X G rE,
   cj:=⟨iB,KD,KG⟩,
   dg:=⟨i_,KH,KI⟩,
   eB:=⟨jM,QV,QW⟩,
   cC:=⟨ja,KD,KG⟩,
   dv:=⟨jN,KH,KI⟩,
   eW:=⟨kI,QS,QT⟩,
   eX:=⟨kJ,QY,QZ⟩,
   ib:=⟨zl,mQ,Xt,zm⟩,
   lI:=⟨mR,Xu,Xv⟩,
   dS:=⟨iC,aaS,aaT⟩,
   dD:=⟨gA,aaV,aaW⟩,
   ic:=⟨zu,mS,Xt,zv⟩,
   lJ:=⟨mT,Xu,Xv⟩,
   dE:=⟨gB,aaY,aaZ⟩,
   fF:=⟨pN,pO,pP,aaH⟩,
   dh:=⟨Kj,Kk,Kl,Km⟩,
   kb:=PySem.W.mg_of X G Kf,
   c5:=c5,
   dj:=dj,
   aW:=⟨qr,qt,qu,qv⟩,
   jq:=PySem.W.mg_of X G qe,
   bP:=bP,
   bH:=bH,
   bu:=bu,
   bp:=⟨uG,uH,uI,uJ⟩,
   kd:=PySem.W.mg_of X G uy,
   bV:=bV,
   bB:=bB,
   IH:=⟨Kq,Kr,Ks,Kt⟩,
   II:=PySem.W.mg_of X G Kg,
   dF:=⟨zh,zi,zj,zk⟩,
   ie:=PySem.W.mg_of X G za,
   cY:=cY,
   dG:=⟨zp,zq,zr,zt⟩,
   ig:=PySem.W.mg_of X G zc,
   cZ:=cZ,
   av:=⟨Bl,Bm,Bo,Bp⟩,
   oS:=PySem.W.mg_of X G Ba,
   aG:=aG,
   aK:=aK,
   bw:=⟨Kw,Kx,Ky,Kz⟩,
   yR:=PySem.W.mg_of X G Kh,
   dz:=dz,
   cS:=cS,
   bz:=bz,
   ax:=⟨D3,D4,D5,D6⟩,
   sP:=PySem.W.mg_of X G DV,
   aL:=aL,
   bq:=bq,
   sQ:=PySem.W.mg_of X G D9,
   Du:=⟨_,pK,rfl,rfl⟩,
   sR:=fun H=>.inr ⟨_,_,_,pK,rfl,rfl,(by show 1≤sizeLine; decide),(.cons ⟨_,rfl⟩ Paired.nil)⟩,
   mz:=PySem.W.mg_of X G zw,
   jC:=PySem.W.mg_of X G Bs,
   ik:=PySem.W.mg_of X G zx,
   il:=PySem.W.mg_of X G zy,
   t8:=PySem.W.mg_of X G MR,
   Co:=⟨_,zz,rfl,rfl⟩,
   t9:=fun H=>.inr ⟨_,_,_,zz,rfl,rfl,(by show 3≤sizeLine; decide),(.cons ⟨_,rfl⟩ (.cons ⟨_,rfl⟩ (.cons ⟨_,rfl⟩ Paired.nil)))⟩,
   mB:=PySem.W.mg_of X G zA,
   oU:=PySem.W.mg_of X G Bt,
   yS:=PySem.W.mg_none_of X G yS,
   fz:=PySem.W.mg_none_of X G fz,
   Cp:=PySem.W.mg_none_of X G Cp,
   eC:=PySem.W.mg_none_of X G eC,
   ip:=PySem.W.mg_none_of X G ip,
   eJ:=PySem.W.mg_none_of X G eJ,
   eY:=PySem.W.mg_none_of X G eY,
   Hw:=fb,
   t5:=t5}
 exact⟨_,fun s v=>.of_eq rfl,fun b hb=>by rcases afr b hb with rfl <;> exact⟨_,by assumption⟩,fun base _ _ B=>W8 T B fc⟩
theorem walk {l:PySem.W.OpenLaw}{q:Program}{loose:List Str}{XP:(Str→Option Value)→Heap→Prop}{YP:World→Heap→Prop}{d:DefRec}{K:Params→PySem.W.Frag}{ts:List Addr}(hn:l.most=some 63) (YF:d.params.defaults=[])
  (hY:∀(w:World) (h:Heap),YP w h→(K w.params).In h) (hY2:∀(w:World) (h:Heap),YP w h→∀b∈ts,h.get? b=some (PySem.W.tabObj #[])) (Ze:∀(w:World),∀b∈ts,(K w.params).lookup b=none) (k_:∀b∈ts,b≠cStatics)
  (F:∀(w:World) (mg:Str→Option Value) (fa:Addr) (h:Heap),(K w.params).In h→h.Ns mainGlobals mg→mg d.name=some (.ref fa) →
   ∃fd:FuncData,(∀(s:Shared) (u:Value),BindsTo s fd ⟨[u],[]⟩ [("_law_script",u)])∧(∀b∈ts,∃c,PySem.W.codeHdIn (K w.params) c b=true)∧∀base:Heap,(K w.params).In base→base.Ns mainGlobals mg→BM mg base→aN l.prog w (K w.params) mg base cx 14 fa fd ["_law_script"] (uv ts (K w.params))) :
  PySem.W.WalkO q loose XP YP l.row.toRowW d [] (fun f vs=>PySem.call f vs):=
 L2.FL (n:=63) (k:=14) (x:="_law_script") (CX:=cx) (sp:=uv ts) hn (by decide) YF ⟨rfl,by decide,by decide⟩ hY hY2 Ze k_ F (fun _ _ a ns hl hO hS=>⟨a,ns,rfl,hS,hl,hO.2,fun _=>rfl⟩) fun _ _ _ _ z=>z
end cf
namespace PySem.W.Fast
theorem tw10007429892026685662:True:=⟨⟩
theorem tw10034143992138808423:True:=⟨⟩
theorem tw10047481675231402922:True:=⟨⟩
theorem tw10099544057194776718:True:=⟨⟩
theorem tw10104257383294763128:True:=⟨⟩
theorem tw10108386077818819253:True:=⟨⟩
theorem tw10110909134790306751:True:=⟨⟩
theorem tw10135943804222905793:True:=⟨⟩
theorem tw10147888172556433706:True:=⟨⟩
theorem tw1015868629696589760:True:=⟨⟩
theorem tw10170602509134467998:True:=⟨⟩
theorem tw10172484520300772790:True:=⟨⟩
theorem tw10174025487754534536:True:=⟨⟩
theorem tw10193268703119085459:True:=⟨⟩
theorem tw10216884168659223009:True:=⟨⟩
theorem tw1027401489304216335:True:=⟨⟩
theorem tw10277760982081772364:True:=⟨⟩
theorem tw10281750639980091457:True:=⟨⟩
theorem tw10330164574238811196:True:=⟨⟩
theorem tw10358940553780702106:True:=⟨⟩
theorem tw10368487530252265827:True:=⟨⟩
theorem tw10408132292241939838:True:=⟨⟩
theorem tw10412704153194015658:True:=⟨⟩
theorem tw10466946352078019135:True:=⟨⟩
theorem tw10503848683403462352:True:=⟨⟩
theorem tw10524173625586224421:True:=⟨⟩
theorem tw10526479692980329158:True:=⟨⟩
theorem tw10569420243873005629:True:=⟨⟩
theorem tw10578028942789715869:True:=⟨⟩
theorem tw10586709588231515052:True:=⟨⟩
theorem tw10694123919030704302:True:=⟨⟩
theorem tw10732268495611156788:True:=⟨⟩
theorem tw10738390407422508056:True:=⟨⟩
theorem tw10740082513646248086:True:=⟨⟩
theorem tw10741247747357164400:True:=⟨⟩
theorem tw10789216556272220448:True:=⟨⟩
theorem tw10792945765252839530:True:=⟨⟩
theorem tw10846248718454182609:True:=⟨⟩
theorem tw10855550081874615450:True:=⟨⟩
theorem tw1088364474398119702:True:=⟨⟩
theorem tw10973877628271639448:True:=⟨⟩
theorem tw10975544916999798786:True:=⟨⟩
theorem tw10979988479880584843:True:=⟨⟩
theorem tw11060207061048788129:True:=⟨⟩
theorem tw11066944006079897159:True:=⟨⟩
theorem tw11104666865545028944:True:=⟨⟩
theorem tw11106671124904058404:True:=⟨⟩
theorem tw11164237295418424572:True:=⟨⟩
theorem tw1116613819393087349:True:=⟨⟩
theorem tw11202119011991119471:True:=⟨⟩
theorem tw11235141027832887164:True:=⟨⟩
theorem tw11236414788114073819:True:=⟨⟩
theorem tw11250294111044478437:True:=⟨⟩
theorem tw11258385016805244482:True:=⟨⟩
theorem tw1126129836788841882:True:=⟨⟩
theorem tw11263880967939222399:True:=⟨⟩
theorem tw11276828510620165614:True:=⟨⟩
theorem tw11291490528289875511:True:=⟨⟩
theorem tw11304619196678986513:True:=⟨⟩
theorem tw11344849361750608871:True:=⟨⟩
theorem tw113527125425753565:True:=⟨⟩
theorem tw1139742558838141975:True:=⟨⟩
theorem tw11434051504566249038:True:=⟨⟩
theorem tw11458171792686180511:True:=⟨⟩
theorem tw11466541315284623468:True:=⟨⟩
theorem tw11502292389912120916:True:=⟨⟩
theorem tw11503906268275535433:True:=⟨⟩
theorem tw11528071439900684428:True:=⟨⟩
theorem tw11578969873961991655:True:=⟨⟩
theorem tw1159612413865198788:True:=⟨⟩
theorem tw11625716163316578917:True:=⟨⟩
theorem tw11637164093698084762:True:=⟨⟩
theorem tw11699000628705440165:True:=⟨⟩
theorem tw11735093590906509992:True:=⟨⟩
theorem tw11765210535371877172:True:=⟨⟩
theorem tw11787726823830654023:True:=⟨⟩
theorem tw11826598894250440469:True:=⟨⟩
theorem tw11853013400499743395:True:=⟨⟩
theorem tw11856322426916728714:True:=⟨⟩
theorem tw11874274812465912404:True:=⟨⟩
theorem tw1187846864405935389:True:=⟨⟩
theorem tw11878786963505779457:True:=⟨⟩
theorem tw11883825800847543287:True:=⟨⟩
theorem tw11919176389139424453:True:=⟨⟩
theorem tw1197794918874428457:True:=⟨⟩
theorem tw11993068720678708811:True:=⟨⟩
theorem tw12039534199579889293:True:=⟨⟩
theorem tw1204230252429873851:True:=⟨⟩
theorem tw12046748493831447425:True:=⟨⟩
theorem tw12053556102108061767:True:=⟨⟩
theorem tw12096528417170051574:True:=⟨⟩
theorem tw12106268771886942639:True:=⟨⟩
theorem tw12171323617400663199:True:=⟨⟩
theorem tw12223185356111129743:True:=⟨⟩
theorem tw122755238137000388:True:=⟨⟩
theorem tw12280977686103007748:True:=⟨⟩
theorem tw1232985832606012777:True:=⟨⟩
theorem tw12358159734282542513:True:=⟨⟩
theorem tw12372818824724944784:True:=⟨⟩
theorem tw12388607191219144491:True:=⟨⟩
theorem tw12414359259703085340:True:=⟨⟩
theorem tw12453278800323631807:True:=⟨⟩
theorem tw12467920646094874400:True:=⟨⟩
theorem tw124998714611868600:True:=⟨⟩
theorem tw12500016225477579692:True:=⟨⟩
theorem tw12506459541361315097:True:=⟨⟩
theorem tw12556209724859147614:True:=⟨⟩
theorem tw1257035594696032934:True:=⟨⟩
theorem tw1258074306282905202:True:=⟨⟩
theorem tw12606975037905700374:True:=⟨⟩
theorem tw12637319451885677809:True:=⟨⟩
theorem tw12640071674656656279:True:=⟨⟩
theorem tw1265732899385013271:True:=⟨⟩
theorem tw12728668108796595109:True:=⟨⟩
theorem tw12743537681090498623:True:=⟨⟩
theorem tw12763514145289668062:True:=⟨⟩
theorem tw12766008761826119653:True:=⟨⟩
theorem tw12766435214696016122:True:=⟨⟩
theorem tw127725314331626500:True:=⟨⟩
theorem tw12797009522034334765:True:=⟨⟩
theorem tw12856005115994538785:True:=⟨⟩
theorem tw12860216394195887305:True:=⟨⟩
theorem tw12867982884684608667:True:=⟨⟩
theorem tw12904021728706954255:True:=⟨⟩
theorem tw12956621098586156294:True:=⟨⟩
theorem tw12986241144217478863:True:=⟨⟩
theorem tw12988310446963406682:True:=⟨⟩
theorem tw13003439930709392020:True:=⟨⟩
theorem tw13007945288037812539:True:=⟨⟩
theorem tw13015874951611303993:True:=⟨⟩
theorem tw13037246440873175497:True:=⟨⟩
theorem tw13059164035229960774:True:=⟨⟩
theorem tw13070309224168485074:True:=⟨⟩
theorem tw13072784987038752434:True:=⟨⟩
theorem tw13119318346172152469:True:=⟨⟩
theorem tw13121980422574833826:True:=⟨⟩
theorem tw13160040362915159922:True:=⟨⟩
theorem tw1317620645500421225:True:=⟨⟩
theorem tw13193457659571257750:True:=⟨⟩
theorem tw13199806358229751299:True:=⟨⟩
theorem tw1321666683488831120:True:=⟨⟩
theorem tw1326312345985050167:True:=⟨⟩
theorem tw13266035036139844578:True:=⟨⟩
theorem tw13312802257590568456:True:=⟨⟩
theorem tw1332401276535920174:True:=⟨⟩
theorem tw13337394881165281740:True:=⟨⟩
theorem tw13359660503937874718:True:=⟨⟩
theorem tw13420551495805763796:True:=⟨⟩
theorem tw13439071882034558810:True:=⟨⟩
theorem tw13457350682723390020:True:=⟨⟩
theorem tw13486741020464491008:True:=⟨⟩
theorem tw13511010796131564108:True:=⟨⟩
theorem tw1352238127288744593:True:=⟨⟩
theorem tw13553685244714039471:True:=⟨⟩
theorem tw13629556613990656260:True:=⟨⟩
theorem tw13651934853878585510:True:=⟨⟩
theorem tw13686182303201636674:True:=⟨⟩
theorem tw13751589033287919471:True:=⟨⟩
theorem tw13755598988296966129:True:=⟨⟩
theorem tw13765764407817910222:True:=⟨⟩
theorem tw13801669102828920072:True:=⟨⟩
theorem tw13824683021116998138:True:=⟨⟩
theorem tw13841909800891165043:True:=⟨⟩
theorem tw1387452604256376466:True:=⟨⟩
theorem tw13896288527419554540:True:=⟨⟩
theorem tw13898315452531049549:True:=⟨⟩
theorem tw13920820370253812057:True:=⟨⟩
theorem tw13946053840545317636:True:=⟨⟩
theorem tw13974360356512885599:True:=⟨⟩
theorem tw13999239543837167496:True:=⟨⟩
theorem tw14028826102878217620:True:=⟨⟩
theorem tw14043778894209292525:True:=⟨⟩
theorem tw14077412215001093992:True:=⟨⟩
theorem tw14088826613124061151:True:=⟨⟩
theorem tw14163183843693895173:True:=⟨⟩
theorem tw14179781358535212990:True:=⟨⟩
theorem tw14205346962384926200:True:=⟨⟩
theorem tw14224599166496043135:True:=⟨⟩
theorem tw14225883067574423016:True:=⟨⟩
theorem tw14248051452280110791:True:=⟨⟩
theorem tw14288165932558032848:True:=⟨⟩
theorem tw14292325067443164665:True:=⟨⟩
theorem tw14311516125473482791:True:=⟨⟩
theorem tw14318861689280209973:True:=⟨⟩
theorem tw14332659410571246363:True:=⟨⟩
theorem tw14334021543915399383:True:=⟨⟩
theorem tw14379687235553444345:True:=⟨⟩
theorem tw14391620440819105163:True:=⟨⟩
theorem tw14404128080707577290:True:=⟨⟩
theorem tw14419395797042969096:True:=⟨⟩
theorem tw1444702557610151316:True:=⟨⟩
theorem tw14449722456386756577:True:=⟨⟩
theorem tw1447284153879748397:True:=⟨⟩
theorem tw14472890478700982957:True:=⟨⟩
theorem tw14474784744343793360:True:=⟨⟩
theorem tw14475266702191538668:True:=⟨⟩
theorem tw14483922124582196761:True:=⟨⟩
theorem tw1448812535101239370:True:=⟨⟩
theorem tw14489141390761602985:True:=⟨⟩
theorem tw14515125284877484186:True:=⟨⟩
theorem tw14524323828367440754:True:=⟨⟩
theorem tw14535471256022586763:True:=⟨⟩
theorem tw14540647537213067856:True:=⟨⟩
theorem tw14546060884225714934:True:=⟨⟩
theorem tw14553162220735984992:True:=⟨⟩
theorem tw14557419882990252494:True:=⟨⟩
theorem tw14562705374188563336:True:=⟨⟩
theorem tw14601442706345551338:True:=⟨⟩
theorem tw14638416138871712062:True:=⟨⟩
theorem tw14638489165785333185:True:=⟨⟩
theorem tw14643675357085604459:True:=⟨⟩
theorem tw14644315403707947426:True:=⟨⟩
theorem tw1465270343359299125:True:=⟨⟩
theorem tw14686402765523811667:True:=⟨⟩
theorem tw14688346416813811491:True:=⟨⟩
theorem tw14734696027784188824:True:=⟨⟩
theorem tw14752215649150961779:True:=⟨⟩
theorem tw14806755343875245213:True:=⟨⟩
theorem tw14852494883033586576:True:=⟨⟩
theorem tw14882905109885590398:True:=⟨⟩
theorem tw14889620629310421990:True:=⟨⟩
theorem tw14892533859964127770:True:=⟨⟩
theorem tw14924520825385787511:True:=⟨⟩
theorem tw14948885534825848418:True:=⟨⟩
theorem tw14953529192542797358:True:=⟨⟩
theorem tw14954676690240332831:True:=⟨⟩
theorem tw14969506440319894162:True:=⟨⟩
theorem tw14991705255575698531:True:=⟨⟩
theorem tw14992270176559194028:True:=⟨⟩
theorem tw15057061223542241669:True:=⟨⟩
theorem tw15064823613825501192:True:=⟨⟩
theorem tw15069307139327400312:True:=⟨⟩
theorem tw15073402776705812407:True:=⟨⟩
theorem tw15089015989250219403:True:=⟨⟩
theorem tw15093558400339790745:True:=⟨⟩
theorem tw1511952654183493254:True:=⟨⟩
theorem tw15158038927738115438:True:=⟨⟩
theorem tw15185995438013938946:True:=⟨⟩
theorem tw15192022746950035191:True:=⟨⟩
theorem tw15198788755960506264:True:=⟨⟩
theorem tw15222481487456508951:True:=⟨⟩
theorem tw1522295437904941201:True:=⟨⟩
theorem tw15232260216249225849:True:=⟨⟩
theorem tw15318819362829398971:True:=⟨⟩
theorem tw15325556924568296434:True:=⟨⟩
theorem tw15337176451725274445:True:=⟨⟩
theorem tw15355440496496104856:True:=⟨⟩
theorem tw1539168273802402297:True:=⟨⟩
theorem tw15410374968661418520:True:=⟨⟩
theorem tw15427874490591878025:True:=⟨⟩
theorem tw15428901610047809697:True:=⟨⟩
theorem tw15429567966854636423:True:=⟨⟩
theorem tw15493325678425308296:True:=⟨⟩
theorem tw15499844268623089570:True:=⟨⟩
theorem tw15526101552171287657:True:=⟨⟩
theorem tw15652129592141017834:True:=⟨⟩
theorem tw15682211769179560711:True:=⟨⟩
theorem tw15690309007898769286:True:=⟨⟩
theorem tw15702254529358540362:True:=⟨⟩
theorem tw1570236699629338916:True:=⟨⟩
theorem tw15725535214306507846:True:=⟨⟩
theorem tw15739240767499145890:True:=⟨⟩
theorem tw15752493614290445408:True:=⟨⟩
theorem tw15757598329608657826:True:=⟨⟩
theorem tw1577339498149795791:True:=⟨⟩
theorem tw15778389600876779818:True:=⟨⟩
theorem tw15798715227775357800:True:=⟨⟩
theorem tw15813902340333545797:True:=⟨⟩
theorem tw15842424543511485030:True:=⟨⟩
theorem tw15903174044032409324:True:=⟨⟩
theorem tw1592725497491798242:True:=⟨⟩
theorem tw15929168140084502128:True:=⟨⟩
theorem tw15934050723413467374:True:=⟨⟩
theorem tw15949184291716141209:True:=⟨⟩
theorem tw15955702545448905710:True:=⟨⟩
theorem tw15960186169881535423:True:=⟨⟩
theorem tw15975063050274948906:True:=⟨⟩
theorem tw15996628271674500873:True:=⟨⟩
theorem tw16062838335654991692:True:=⟨⟩
theorem tw16069438061550616701:True:=⟨⟩
theorem tw16071793521767736027:True:=⟨⟩
theorem tw16076683431275854772:True:=⟨⟩
theorem tw16092252324556144117:True:=⟨⟩
theorem tw16108997168149543929:True:=⟨⟩
theorem tw16127803884031476808:True:=⟨⟩
theorem tw16213889850043005652:True:=⟨⟩
theorem tw16239512845951137574:True:=⟨⟩
theorem tw16239839852547096508:True:=⟨⟩
theorem tw16246257113375870905:True:=⟨⟩
theorem tw16249369651726280936:True:=⟨⟩
theorem tw16266612799499872116:True:=⟨⟩
theorem tw16281879999834205035:True:=⟨⟩
theorem tw16309316788462711674:True:=⟨⟩
theorem tw16317336204373148216:True:=⟨⟩
theorem tw1631910194140040314:True:=⟨⟩
theorem tw16338728005757921429:True:=⟨⟩
theorem tw16367728419743019016:True:=⟨⟩
theorem tw16393685296239809875:True:=⟨⟩
theorem tw16426208451795736871:True:=⟨⟩
theorem tw1643747243971404254:True:=⟨⟩
theorem tw16440161891516239191:True:=⟨⟩
theorem tw16520576373150902045:True:=⟨⟩
theorem tw16526387211175598786:True:=⟨⟩
theorem tw16530183451599911348:True:=⟨⟩
theorem tw16549482008382141267:True:=⟨⟩
theorem tw16553856600197021739:True:=⟨⟩
theorem tw16558708370453107081:True:=⟨⟩
theorem tw16566489862196687703:True:=⟨⟩
theorem tw16574169614633305870:True:=⟨⟩
theorem tw16595901904751183614:True:=⟨⟩
theorem tw16601257293826706949:True:=⟨⟩
theorem tw16611863928942083210:True:=⟨⟩
theorem tw16613259609866882554:True:=⟨⟩
theorem tw16614644949387119158:True:=⟨⟩
theorem tw16626131876691740812:True:=⟨⟩
theorem tw1663023751111515687:True:=⟨⟩
theorem tw16634067525808011273:True:=⟨⟩
theorem tw16648815646576034875:True:=⟨⟩
theorem tw16651869960887018217:True:=⟨⟩
theorem tw16653247311724585738:True:=⟨⟩
theorem tw16675408372069834297:True:=⟨⟩
theorem tw16718664461856783559:True:=⟨⟩
theorem tw16753302369312475227:True:=⟨⟩
theorem tw16787735471820318870:True:=⟨⟩
theorem tw16809816254766882380:True:=⟨⟩
theorem tw16810126708196928910:True:=⟨⟩
theorem tw16812032085480138258:True:=⟨⟩
theorem tw16847270411060700351:True:=⟨⟩
theorem tw16881634170269885808:True:=⟨⟩
theorem tw16916656943987642137:True:=⟨⟩
theorem tw16939085926250360096:True:=⟨⟩
theorem tw16952114057745587787:True:=⟨⟩
theorem tw16960477315394192044:True:=⟨⟩
theorem tw16987498393910232153:True:=⟨⟩
theorem tw1699326869688370282:True:=⟨⟩
theorem tw17003743511715719142:True:=⟨⟩
theorem tw17013271913464633439:True:=⟨⟩
theorem tw17035960335757906650:True:=⟨⟩
theorem tw17053074125909542067:True:=⟨⟩
theorem tw17076335683608212650:True:=⟨⟩
theorem tw17092776409351996136:True:=⟨⟩
theorem tw17119258767573882170:True:=⟨⟩
theorem tw17149005319930913288:True:=⟨⟩
theorem tw17159736808255732336:True:=⟨⟩
theorem tw17177650318211372246:True:=⟨⟩
theorem tw17220036382276157117:True:=⟨⟩
theorem tw17221813761368309112:True:=⟨⟩
theorem tw17223366473976676697:True:=⟨⟩
theorem tw17232996956113956018:True:=⟨⟩
theorem tw17294539658362506819:True:=⟨⟩
theorem tw17298083182044304704:True:=⟨⟩
theorem tw17319176177091829322:True:=⟨⟩
theorem tw17348735063686805752:True:=⟨⟩
theorem tw17370461972106453354:True:=⟨⟩
theorem tw17396460733537330396:True:=⟨⟩
theorem tw17412443806098587031:True:=⟨⟩
theorem tw17422371050604481068:True:=⟨⟩
theorem tw17473372744115989958:True:=⟨⟩
theorem tw17481651966614581402:True:=⟨⟩
theorem tw17489939383868655736:True:=⟨⟩
theorem tw17505823555947739328:True:=⟨⟩
theorem tw17511439100001479733:True:=⟨⟩
theorem tw17546408654354246305:True:=⟨⟩
theorem tw17553980338566702798:True:=⟨⟩
theorem tw17560869352735683680:True:=⟨⟩
theorem tw17572443933677825738:True:=⟨⟩
theorem tw17600152220794831816:True:=⟨⟩
theorem tw17615571051709335270:True:=⟨⟩
theorem tw17634522905954449492:True:=⟨⟩
theorem tw1768975507616531226:True:=⟨⟩
theorem tw17708345108743260646:True:=⟨⟩
theorem tw17764012350064710284:True:=⟨⟩
theorem tw17764197520659863792:True:=⟨⟩
theorem tw17767384406950469481:True:=⟨⟩
theorem tw17772407498391567699:True:=⟨⟩
theorem tw17777462157134986269:True:=⟨⟩
theorem tw17802992412637312097:True:=⟨⟩
theorem tw17804640218064206189:True:=⟨⟩
theorem tw17821527165790267911:True:=⟨⟩
theorem tw17852765012493966038:True:=⟨⟩
theorem tw17884738731103585043:True:=⟨⟩
theorem tw17919245986913701654:True:=⟨⟩
theorem tw17928386923829944497:True:=⟨⟩
theorem tw17973332293834685205:True:=⟨⟩
theorem tw17995164352244668412:True:=⟨⟩
theorem tw17995321889376297833:True:=⟨⟩
theorem tw1799625949930058180:True:=⟨⟩
theorem tw18003526974380075539:True:=⟨⟩
theorem tw1800595051662048499:True:=⟨⟩
theorem tw1804673634954152104:True:=⟨⟩
theorem tw18050171293609060504:True:=⟨⟩
theorem tw18056071849502819043:True:=⟨⟩
theorem tw1806156945597014303:True:=⟨⟩
theorem tw18066081063947494988:True:=⟨⟩
theorem tw18149967157040242005:True:=⟨⟩
theorem tw1815746948447334161:True:=⟨⟩
theorem tw18164510616032710123:True:=⟨⟩
theorem tw18187672623155015396:True:=⟨⟩
theorem tw18240425625633844756:True:=⟨⟩
theorem tw18292062814056122319:True:=⟨⟩
theorem tw18297916712225370098:True:=⟨⟩
theorem tw18302560527261777257:True:=⟨⟩
theorem tw18307335228314606283:True:=⟨⟩
theorem tw18342157075509342392:True:=⟨⟩
theorem tw18369562357313645372:True:=⟨⟩
theorem tw1837287601549946941:True:=⟨⟩
theorem tw1838160046738981620:True:=⟨⟩
theorem tw1838178504941953357:True:=⟨⟩
theorem tw18403469103126871349:True:=⟨⟩
theorem tw18405005973666746995:True:=⟨⟩
theorem tw1842426091508116460:True:=⟨⟩
theorem tw18431312642143376621:True:=⟨⟩
theorem tw18440916295769591925:True:=⟨⟩
theorem tw184605062712127583:True:=⟨⟩
theorem tw2030822440410305042:True:=⟨⟩
theorem tw2049507389289593075:True:=⟨⟩
theorem tw2051095403157481912:True:=⟨⟩
theorem tw2075760751750651259:True:=⟨⟩
theorem tw2117344318016239508:True:=⟨⟩
theorem tw2148987148522906233:True:=⟨⟩
theorem tw2151296159227237324:True:=⟨⟩
theorem tw2156514184102305365:True:=⟨⟩
theorem tw2177877357742529285:True:=⟨⟩
theorem tw218633025910243294:True:=⟨⟩
theorem tw2239028624964967847:True:=⟨⟩
theorem tw2271086299133676188:True:=⟨⟩
theorem tw2288821716168667278:True:=⟨⟩
theorem tw2293293103766574158:True:=⟨⟩
theorem tw2297178046057149959:True:=⟨⟩
theorem tw2329117497647925369:True:=⟨⟩
theorem tw2329616635444639933:True:=⟨⟩
theorem tw2349401273892602334:True:=⟨⟩
theorem tw2378517168192731132:True:=⟨⟩
theorem tw2385970539200360173:True:=⟨⟩
theorem tw2387180208431847374:True:=⟨⟩
theorem tw2418025400240862008:True:=⟨⟩
theorem tw252711054001053247:True:=⟨⟩
theorem tw2527837930911158019:True:=⟨⟩
theorem tw2527867289812557111:True:=⟨⟩
theorem tw2551471478804191590:True:=⟨⟩
theorem tw2613973605938252501:True:=⟨⟩
theorem tw2646609295633957376:True:=⟨⟩
theorem tw2703603772242611401:True:=⟨⟩
theorem tw2711401355201042143:True:=⟨⟩
theorem tw2723122606952592315:True:=⟨⟩
theorem tw2736804761466884604:True:=⟨⟩
theorem tw2763521143818278579:True:=⟨⟩
theorem tw2771043056316163495:True:=⟨⟩
theorem tw2806897005266552338:True:=⟨⟩
theorem tw2829933163398771226:True:=⟨⟩
theorem tw2845535663865141168:True:=⟨⟩
theorem tw2878323143869010974:True:=⟨⟩
theorem tw2881383124074017483:True:=⟨⟩
theorem tw2887873961101541472:True:=⟨⟩
theorem tw2888675247282087523:True:=⟨⟩
theorem tw2914453910592968312:True:=⟨⟩
theorem tw2916231139058066659:True:=⟨⟩
theorem tw2943523204427361439:True:=⟨⟩
theorem tw2948723659603281686:True:=⟨⟩
theorem tw2958150423304227003:True:=⟨⟩
theorem tw2960341001500922548:True:=⟨⟩
theorem tw3000925032931894292:True:=⟨⟩
theorem tw3018487806029969676:True:=⟨⟩
theorem tw3019877586201643293:True:=⟨⟩
theorem tw3085117924977386072:True:=⟨⟩
theorem tw3090214822994433162:True:=⟨⟩
theorem tw3093537431996071418:True:=⟨⟩
theorem tw3189788579166396065:True:=⟨⟩
theorem tw3198143633560756543:True:=⟨⟩
theorem tw3212053315034412474:True:=⟨⟩
theorem tw3232882544013327074:True:=⟨⟩
theorem tw3253086628025285484:True:=⟨⟩
theorem tw326568243918433001:True:=⟨⟩
theorem tw3278608455144534510:True:=⟨⟩
theorem tw3297487618186685186:True:=⟨⟩
theorem tw3322468985987204535:True:=⟨⟩
theorem tw3395860520921233206:True:=⟨⟩
theorem tw3397754182910159417:True:=⟨⟩
theorem tw3406263511517238643:True:=⟨⟩
theorem tw3417670438046525087:True:=⟨⟩
theorem tw3425791479593247588:True:=⟨⟩
theorem tw3494023795592289160:True:=⟨⟩
theorem tw3495684353117235870:True:=⟨⟩
theorem tw3495834040526335457:True:=⟨⟩
theorem tw3519272496125434682:True:=⟨⟩
theorem tw3535625939996595458:True:=⟨⟩
theorem tw3558252786713526987:True:=⟨⟩
theorem tw358718087385142872:True:=⟨⟩
theorem tw3595194741566246839:True:=⟨⟩
theorem tw3608021031313357290:True:=⟨⟩
theorem tw3608595445799774453:True:=⟨⟩
theorem tw3643315968981932230:True:=⟨⟩
theorem tw3648101541651669672:True:=⟨⟩
theorem tw366230764801530092:True:=⟨⟩
theorem tw3681913722805688939:True:=⟨⟩
theorem tw3755248676771700107:True:=⟨⟩
theorem tw3762442608516878237:True:=⟨⟩
theorem tw3774802687650112994:True:=⟨⟩
theorem tw3838009091171046559:True:=⟨⟩
theorem tw3871946883143160551:True:=⟨⟩
theorem tw3878297657063033695:True:=⟨⟩
theorem tw388104241337155908:True:=⟨⟩
theorem tw3888575883292592408:True:=⟨⟩
theorem tw3895426824863004838:True:=⟨⟩
theorem tw3908357623023068538:True:=⟨⟩
theorem tw394721471733263871:True:=⟨⟩
theorem tw3958913264212804985:True:=⟨⟩
theorem tw3961263976211948790:True:=⟨⟩
theorem tw4147127984805516983:True:=⟨⟩
theorem tw415517275144799915:True:=⟨⟩
theorem tw4158397727733619903:True:=⟨⟩
theorem tw4196283435155843053:True:=⟨⟩
theorem tw4211216778666408907:True:=⟨⟩
theorem tw4257392703220656083:True:=⟨⟩
theorem tw4264313756505745968:True:=⟨⟩
theorem tw4276296054957317813:True:=⟨⟩
theorem tw4282632245145841577:True:=⟨⟩
theorem tw4290477266994847889:True:=⟨⟩
theorem tw431906620143087143:True:=⟨⟩
theorem tw4335583825118726792:True:=⟨⟩
theorem tw4369353354494411364:True:=⟨⟩
theorem tw437431147797080298:True:=⟨⟩
theorem tw4382294079349934255:True:=⟨⟩
theorem tw4414830503234664466:True:=⟨⟩
theorem tw4482475513122183585:True:=⟨⟩
theorem tw4487165474729174443:True:=⟨⟩
theorem tw4523332079711629924:True:=⟨⟩
theorem tw4527986195349290875:True:=⟨⟩
theorem tw4533463646161311035:True:=⟨⟩
theorem tw4554963998413024080:True:=⟨⟩
theorem tw4570450490079813582:True:=⟨⟩
theorem tw4573187944151861652:True:=⟨⟩
theorem tw457789114713919891:True:=⟨⟩
theorem tw4612858366753527993:True:=⟨⟩
theorem tw4624574726406679917:True:=⟨⟩
theorem tw4649398060210951227:True:=⟨⟩
theorem tw4662093038534425404:True:=⟨⟩
theorem tw4674098559799944699:True:=⟨⟩
theorem tw4701652851970986286:True:=⟨⟩
theorem tw4709114231582413968:True:=⟨⟩
theorem tw4738054835283957860:True:=⟨⟩
theorem tw4740650276413860679:True:=⟨⟩
theorem tw4748282506211166508:True:=⟨⟩
theorem tw4782216701449040123:True:=⟨⟩
theorem tw4799458790418951162:True:=⟨⟩
theorem tw4802296952614700209:True:=⟨⟩
theorem tw4802304199882294085:True:=⟨⟩
theorem tw482567562198653428:True:=⟨⟩
theorem tw4843978806812352094:True:=⟨⟩
theorem tw484467457155252895:True:=⟨⟩
theorem tw4849396707854598631:True:=⟨⟩
theorem tw4865744291741079509:True:=⟨⟩
theorem tw4868969343428989809:True:=⟨⟩
theorem tw487470190701638121:True:=⟨⟩
theorem tw4883370913130423566:True:=⟨⟩
theorem tw4884729542623218170:True:=⟨⟩
theorem tw4891066039994292105:True:=⟨⟩
theorem tw4979571901906682181:True:=⟨⟩
theorem tw4991006592393970419:True:=⟨⟩
theorem tw5022221128863890726:True:=⟨⟩
theorem tw5027206028425948913:True:=⟨⟩
theorem tw5039752537825800634:True:=⟨⟩
theorem tw5065893560129770323:True:=⟨⟩
theorem tw5087449070864571376:True:=⟨⟩
theorem tw5102026951583979332:True:=⟨⟩
theorem tw5153677174339576496:True:=⟨⟩
theorem tw517733924912885025:True:=⟨⟩
theorem tw5179797804492682333:True:=⟨⟩
theorem tw5180590285235139171:True:=⟨⟩
theorem tw5194964055887207951:True:=⟨⟩
theorem tw5199734427092056036:True:=⟨⟩
theorem tw5208530431670970702:True:=⟨⟩
theorem tw5230466380216009985:True:=⟨⟩
theorem tw5247146538528553622:True:=⟨⟩
theorem tw5248412427332223454:True:=⟨⟩
theorem tw5399855484383917047:True:=⟨⟩
theorem tw5404949846252536334:True:=⟨⟩
theorem tw5445449873510286135:True:=⟨⟩
theorem tw5467514168278386060:True:=⟨⟩
theorem tw5479466533382238544:True:=⟨⟩
theorem tw5522846457091651332:True:=⟨⟩
theorem tw5606059034824035812:True:=⟨⟩
theorem tw5635364037243576977:True:=⟨⟩
theorem tw5643256360710187555:True:=⟨⟩
theorem tw566451875533115424:True:=⟨⟩
theorem tw567697666070947048:True:=⟨⟩
theorem tw5679420889287993549:True:=⟨⟩
theorem tw5684098645512052223:True:=⟨⟩
theorem tw5752274092326722677:True:=⟨⟩
theorem tw5771642115564101438:True:=⟨⟩
theorem tw5785166404118275831:True:=⟨⟩
theorem tw5811050432854721366:True:=⟨⟩
theorem tw5814631289766824697:True:=⟨⟩
theorem tw5837966640856297866:True:=⟨⟩
theorem tw5877481477947885465:True:=⟨⟩
theorem tw5886813941366611058:True:=⟨⟩
theorem tw5914278721672792719:True:=⟨⟩
theorem tw5922790611361804627:True:=⟨⟩
theorem tw5931358777393195923:True:=⟨⟩
theorem tw5962447053799941921:True:=⟨⟩
theorem tw5982696490520238484:True:=⟨⟩
theorem tw5987647811031915908:True:=⟨⟩
theorem tw601984042119547311:True:=⟨⟩
theorem tw6024150781844975358:True:=⟨⟩
theorem tw6024390702758110528:True:=⟨⟩
theorem tw602711310838687836:True:=⟨⟩
theorem tw6034404308230351274:True:=⟨⟩
theorem tw6059512018100114769:True:=⟨⟩
theorem tw606370441427013749:True:=⟨⟩
theorem tw6084490605218946730:True:=⟨⟩
theorem tw6094683599648704944:True:=⟨⟩
theorem tw6109772404497842371:True:=⟨⟩
theorem tw6134840869147964807:True:=⟨⟩
theorem tw6136914234904494352:True:=⟨⟩
theorem tw61685673528161965:True:=⟨⟩
theorem tw6171817533734861912:True:=⟨⟩
theorem tw6191679573793357050:True:=⟨⟩
theorem tw6193497419268409557:True:=⟨⟩
theorem tw6214912147329932232:True:=⟨⟩
theorem tw6259091120922358206:True:=⟨⟩
theorem tw6284139634240916394:True:=⟨⟩
theorem tw6293778318161508799:True:=⟨⟩
theorem tw6305492769468795169:True:=⟨⟩
theorem tw6306993291456497918:True:=⟨⟩
theorem tw6315533980721363145:True:=⟨⟩
theorem tw6321406426335553764:True:=⟨⟩
theorem tw6339668090609711673:True:=⟨⟩
theorem tw63643150298320814:True:=⟨⟩
theorem tw6377306819231726649:True:=⟨⟩
theorem tw6445661653217418020:True:=⟨⟩
theorem tw6460865991434311237:True:=⟨⟩
theorem tw6524714655558594775:True:=⟨⟩
theorem tw6569333069750832295:True:=⟨⟩
theorem tw6628088418617873439:True:=⟨⟩
theorem tw6634438491565236280:True:=⟨⟩
theorem tw664201003814192374:True:=⟨⟩
theorem tw6660767936475496730:True:=⟨⟩
theorem tw6708181261213677220:True:=⟨⟩
theorem tw6774881586422592468:True:=⟨⟩
theorem tw6784243217204427443:True:=⟨⟩
theorem tw679460972026373688:True:=⟨⟩
theorem tw6853331409396279343:True:=⟨⟩
theorem tw6870391451473166485:True:=⟨⟩
theorem tw6919963249825624874:True:=⟨⟩
theorem tw6956119210735118282:True:=⟨⟩
theorem tw6969574164438269400:True:=⟨⟩
theorem tw6985926683687940528:True:=⟨⟩
theorem tw6992881363640655112:True:=⟨⟩
theorem tw7054707197277020817:True:=⟨⟩
theorem tw7103382113225296458:True:=⟨⟩
theorem tw7111059195416186278:True:=⟨⟩
theorem tw7124579672552418711:True:=⟨⟩
theorem tw712723002406674710:True:=⟨⟩
theorem tw7166456581331239173:True:=⟨⟩
theorem tw7175123139923188043:True:=⟨⟩
theorem tw7232520835439524443:True:=⟨⟩
theorem tw7243834222409326901:True:=⟨⟩
theorem tw7263207212483154899:True:=⟨⟩
theorem tw7264994104346926263:True:=⟨⟩
theorem tw7271237678379423567:True:=⟨⟩
theorem tw7307418431896581757:True:=⟨⟩
theorem tw7310423764461823407:True:=⟨⟩
theorem tw7328557754661297101:True:=⟨⟩
theorem tw733334700159953833:True:=⟨⟩
theorem tw7367548317353518630:True:=⟨⟩
theorem tw7368753035466454244:True:=⟨⟩
theorem tw7375311235312197326:True:=⟨⟩
theorem tw7394151629522951397:True:=⟨⟩
theorem tw7485759248724790858:True:=⟨⟩
theorem tw751556306812160648:True:=⟨⟩
theorem tw7587471170698816426:True:=⟨⟩
theorem tw7627863888346440205:True:=⟨⟩
theorem tw7642047645556319764:True:=⟨⟩
theorem tw7643508019528924638:True:=⟨⟩
theorem tw7645474555916164253:True:=⟨⟩
theorem tw7666472613123016289:True:=⟨⟩
theorem tw768679210808103684:True:=⟨⟩
theorem tw7696897931000126899:True:=⟨⟩
theorem tw7699232052799978965:True:=⟨⟩
theorem tw7730590719354278608:True:=⟨⟩
theorem tw77330953738144800:True:=⟨⟩
theorem tw7740171238765963799:True:=⟨⟩
theorem tw777493667322944180:True:=⟨⟩
theorem tw7787011425310621875:True:=⟨⟩
theorem tw7807062907451218609:True:=⟨⟩
theorem tw7838655477042012016:True:=⟨⟩
theorem tw7842678310273661310:True:=⟨⟩
theorem tw7842745634713289504:True:=⟨⟩
theorem tw7866097706446018431:True:=⟨⟩
theorem tw7872461568784497526:True:=⟨⟩
theorem tw7875729766750499472:True:=⟨⟩
theorem tw7911291136914267069:True:=⟨⟩
theorem tw7933122035217689014:True:=⟨⟩
theorem tw7948776675553972904:True:=⟨⟩
theorem tw7959935854325237210:True:=⟨⟩
theorem tw8032339442168974189:True:=⟨⟩
theorem tw8039852493015637265:True:=⟨⟩
theorem tw805731853117435517:True:=⟨⟩
theorem tw8061587720802291581:True:=⟨⟩
theorem tw8083525868819748783:True:=⟨⟩
theorem tw8092856386401287794:True:=⟨⟩
theorem tw8098310150003794208:True:=⟨⟩
theorem tw8108832693710239970:True:=⟨⟩
theorem tw8152815048408039214:True:=⟨⟩
theorem tw8172060303540426736:True:=⟨⟩
theorem tw8189306672777186401:True:=⟨⟩
theorem tw8226942750602907057:True:=⟨⟩
theorem tw8246736076293168612:True:=⟨⟩
theorem tw8341084311648406384:True:=⟨⟩
theorem tw8351261357913433100:True:=⟨⟩
theorem tw8352074795707645758:True:=⟨⟩
theorem tw8355644916467636009:True:=⟨⟩
theorem tw8360463303670581159:True:=⟨⟩
theorem tw8383026084785306869:True:=⟨⟩
theorem tw8396063387413801212:True:=⟨⟩
theorem tw8400268070760989479:True:=⟨⟩
theorem tw8413571350109787378:True:=⟨⟩
theorem tw8425181693565408573:True:=⟨⟩
theorem tw8430349946453873488:True:=⟨⟩
theorem tw847543945851021578:True:=⟨⟩
theorem tw8517383440075489471:True:=⟨⟩
theorem tw8525548979845681003:True:=⟨⟩
theorem tw8528003967027946557:True:=⟨⟩
theorem tw8548747558648964791:True:=⟨⟩
theorem tw8563808387600320814:True:=⟨⟩
theorem tw8592100412516144281:True:=⟨⟩
theorem tw8618472877063123593:True:=⟨⟩
theorem tw868536806212627817:True:=⟨⟩
theorem tw8708052672758277874:True:=⟨⟩
theorem tw8719832480728000028:True:=⟨⟩
theorem tw8725160358676986477:True:=⟨⟩
theorem tw8731186897799336504:True:=⟨⟩
theorem tw8748250914757689247:True:=⟨⟩
theorem tw8762124806089400392:True:=⟨⟩
theorem tw8783277772025912218:True:=⟨⟩
theorem tw8798685587417208255:True:=⟨⟩
theorem tw8874569394724998363:True:=⟨⟩
theorem tw8884560133187930349:True:=⟨⟩
theorem tw888893565643629609:True:=⟨⟩
theorem tw8916824445164181402:True:=⟨⟩
theorem tw897215353812096306:True:=⟨⟩
theorem tw8983716658444020922:True:=⟨⟩
theorem tw9035558954838600002:True:=⟨⟩
theorem tw9063820320718981057:True:=⟨⟩
theorem tw9092091255789514590:True:=⟨⟩
theorem tw9150182356227220712:True:=⟨⟩
theorem tw915823793924919252:True:=⟨⟩
theorem tw9170852536139437497:True:=⟨⟩
theorem tw9192601199650977102:True:=⟨⟩
theorem tw9194749684390716918:True:=⟨⟩
theorem tw9199254407317942710:True:=⟨⟩
theorem tw9245671535849699023:True:=⟨⟩
theorem tw925215331022624703:True:=⟨⟩
theorem tw9254897124470203182:True:=⟨⟩
theorem tw9296091772148997863:True:=⟨⟩
theorem tw9332708301348785868:True:=⟨⟩
theorem tw9337745297194958093:True:=⟨⟩
theorem tw9339700649048848924:True:=⟨⟩
theorem tw9466125505300766952:True:=⟨⟩
theorem tw9485466770396277650:True:=⟨⟩
theorem tw949505093786360261:True:=⟨⟩
theorem tw9540419325840755727:True:=⟨⟩
theorem tw9546653484508897507:True:=⟨⟩
theorem tw9548216700459517638:True:=⟨⟩
theorem tw9615583244814309099:True:=⟨⟩
theorem tw9665135381264031185:True:=⟨⟩
theorem tw9682303332373254113:True:=⟨⟩
theorem tw9692078975286539583:True:=⟨⟩
theorem tw9711189856229905887:True:=⟨⟩
theorem tw9715296277340982538:True:=⟨⟩
theorem tw9731519960456236461:True:=⟨⟩
theorem tw9732102530853414876:True:=⟨⟩
theorem tw9745034220618909069:True:=⟨⟩
theorem tw9766444425843638571:True:=⟨⟩
theorem tw9804491786662299773:True:=⟨⟩
theorem tw9807563951435094581:True:=⟨⟩
theorem tw981137878681153675:True:=⟨⟩
theorem tw9849061305058290430:True:=⟨⟩
theorem tw9856419113229841455:True:=⟨⟩
theorem tw9909767876689144013:True:=⟨⟩
theorem tw9939114055282086296:True:=⟨⟩
theorem tw9948698409078820847:True:=⟨⟩
theorem tw9965480080110483608:True:=⟨⟩
theorem tw9986813705343180147:True:=⟨⟩
theorem tw9996364929993099729:True:=⟨⟩
end PySem.W.Fast
namespace cf
end cf
open PySem PySem.W PyProof.Rows
set_option maxRecDepth 100000 in
set_option maxHeartbeats 0 in
theorem PySem.Challenge.cw_heapsafe_k48_whole_drained_behind_fences_holds : PySem.Challenge.rw_heapsafe_k48_whole_drained_behind_fences.Holds := by
 w_on; o_law; k_head; (case hw=>w_witness2)
 k_fill
 refine cf.walk (l:=PySem.Challenge.rw_heapsafe_k48_whole_drained_behind_fences) rfl rfl (fun w h Y=>PySem.W.km_in_of Y) (fun w h Y=>PySem.W.km_tabs_of Y) ?T1 ?T2 ?F
 case T1=>
  intro w b hb
  simp only [List.mem_cons,List.not_mem_nil,or_false] at hb
  rcases hb with rfl <;> kernel_rfl
 case T2=>decide
 case F=>
  intro w mg fa h KX G YG
  refine' cf.all_mk KX G YG ?Bu ?mU ?pQ ?Bv ?qy ?qz ?uM ?Bw ?zB ?MT ?uN ?MU ?uO ?MV ?pR ?MW ?kK ?MX ?lS ?MY ?mV ?MZ ?mW ?M0 ?mX ?M3 ?jb ?M4 ?iD ?M5 ?iE ?M6 ?jO ?M7 ?jc ?M8 ?D_ ?M9 ?KJ ?M_ ?KL ?Xw ?pS ?Xx ?pU ?Xy ?jd ?Xz ?gM ?XA ?gO ?Na ?fK ?Nb ?fY ?Nc ?gC ?Nd ?fL ?Nf ?fZ ?Ng ?uP ?Nh ?lT ?Ni ?kL ?Nj ?gP ?XB ?iF ?Nk ?lU ?XC ?kM ?XD ?gQ ?Nl ?Nm ?Nn ?KN ?Np ?Nq ?fM ?Nr ?f6 ?XE ?lV ?XF ?gR ?Nt ?Bx ?Nu ?zC ?Nv ?zD ?Nw ?qA ?Nx ?qB ?Ny ?qC ?Nz ?pV ?NA ?uQ ?NB ?pW ?NC ?qD ?ND ?lW ?NF ?kN ?NG ?pX ?NH ?mY ?NI ?kO ?NJ ?mZ ?NK ?zE ?NL ?pY ?NM ?uR ?NN ?m4 ?NO ?kP ?NP ?iG ?NQ ?jP ?NR ?je ?NS ?jf ?NT ?iH ?NU ?jQ ?NV ?jR ?NW ?iI ?NX ?jg ?NY ?iJ ?NZ ?kQ ?N0 ?iK ?N1 ?m7 ?N4 ?zF ?N5 ?m8 ?N6 ?uS ?N8 ?uT ?N9 ?zG ?N_ ?m9 ?Oa ?zH ?Ob ?uU ?Oc ?m_ ?Od ?lX ?Oe ?uV ?Of ?Og ?KO ?Oh ?By ?Bz ?BA ?BB ?BD ?BE ?kR ?lY ?ng ?nh ?nj ?nq ?nr ?nu ?gD ?gS ?ff ?pZ ?p3 ?p4 ?p5 ?p6 ?p7 ?gT ?iL ?BF ?BG ?BH ?BI ?BJ ?BK ?qE ?qF ?qG ?qH ?qI ?qJ ?iM ?qK ?qL ?qM ?qN ?qO ?qP ?iN ?uW ?uX ?uY ?uZ ?u0 ?u3 ?jh ?fN ?BL ?BN ?BO ?BP ?BQ ?BR ?nv ?lZ ?kT ?zI ?zJ ?zK ?zL ?zM ?zN ?kU ?jS ?zO ?u4 ?qQ ?u5 ?qR ?qS ?Ea ?BS ?qT ?u6 ?gE ?gU ?iO ?gW ?iP ?ji ?jk ?kW ?kX ?gF ?fO ?kY ?kZ ?fP ?d9 ?d_ ?ed ?KP ?el ?XG ?l0 ?l5 ?l6 ?Oi ?qU ?Oj ?Ol ?KQ ?Eb ?BU
  (case Bu=>k_is)
  (case mU=>k_is)
  (case pQ=>k_is)
  (case Bv=>k_is)
  (case qy=>k_is)
  (case qz=>k_is)
  (case uM=>k_is)
  (case Bw=>k_is)
  (case zB=>k_is)
  (case MT=>k_is)
  (case uN=>exact cf.cW (by k_is) (by k_is) (by k_is))
  (case MU=>k_is)
  (case uO=>exact cf.cW (by k_is) (by k_is) (by k_is))
  (case MV=>k_is)
  (case pR=>exact⟨by k_is,cf.cW (by k_is) (by k_is) (by k_is)⟩)
  (case MW=>k_is)
  (case kK=>exact⟨by k_is,cf.cW (by k_is) (by k_is) (by k_is)⟩)
  (case MX=>k_is)
  (case lS=>exact⟨by k_is,cf.cW (by k_is) (by k_is) (by k_is)⟩)
  (case MY=>k_is)
  (case mV=>exact⟨by k_is,cf.cW (by k_is) (by k_is) (by k_is)⟩)
  (case MZ=>k_is)
  (case mW=>exact⟨by k_is,cf.cW (by k_is) (by k_is) (by k_is)⟩)
  (case M0=>k_is)
  (case mX=>exact⟨by k_is,cf.cW (by k_is) (by k_is) (by k_is)⟩)
  (case M3=>k_is)
  (case jb=>exact⟨by k_is,cf.cW (by k_is) (by k_is) (by k_is)⟩)
  (case M4=>k_is)
  (case iD=>exact⟨by k_is,cf.cW (by k_is) (by k_is) (by k_is)⟩)
  (case M5=>k_is)
  (case iE=>exact⟨by k_is,cf.cW (by k_is) (by k_is) (by k_is)⟩)
  (case M6=>k_is)
  (case jO=>exact⟨by k_is,cf.cW (by k_is) (by k_is) (by k_is)⟩)
  (case M7=>k_is)
  (case jc=>exact⟨by k_is,cf.cW (by k_is) (by k_is) (by k_is)⟩)
  (case M8=>k_is)
  (case D_=>exact cf.cW (by k_is) (by k_is) (by k_is))
  (case M9=>k_is)
  (case KJ=>exact cf.cW (by k_is) (by k_is) (by k_is))
  (case M_=>k_is)
  (case KL=>exact cf.cW (by k_is) (by k_is) (by k_is))
  (case Xw=>k_is)
  (case pS=>exact⟨by k_is,cf.cW (by k_is) (by k_is) (by k_is)⟩)
  (case Xx=>k_is)
  (case pU=>exact⟨by k_is,cf.cW (by k_is) (by k_is) (by k_is)⟩)
  (case Xy=>k_is)
  (case jd=>exact⟨by k_is,cf.cW (by k_is) (by k_is) (by k_is)⟩)
  (case Xz=>k_is)
  (case gM=>exact⟨by k_is,cf.cW (by k_is) (by k_is) (by k_is)⟩)
  (case XA=>k_is)
  (case gO=>exact⟨by k_is,cf.cW (by k_is) (by k_is) (by k_is)⟩)
  (case Na=>k_is)
  (case fK=>exact⟨by k_is,cf.cW (by k_is) (by k_is) (by k_is)⟩)
  (case Nb=>k_is)
  (case fY=>exact⟨by k_is,cf.cW (by k_is) (by k_is) (by k_is)⟩)
  (case Nc=>k_is)
  (case gC=>exact⟨by k_is,cf.cW (by k_is) (by k_is) (by k_is)⟩)
  (case Nd=>k_is)
  (case fL=>exact⟨by k_is,cf.cW (by k_is) (by k_is) (by k_is)⟩)
  (case Nf=>k_is)
  (case fZ=>exact⟨by k_is,cf.cW (by k_is) (by k_is) (by k_is)⟩)
  (case Ng=>k_is)
  (case uP=>exact cf.cW (by k_is) (by k_is) (by k_is))
  (case Nh=>k_is)
  (case lT=>exact⟨by k_is,cf.cW (by k_is) (by k_is) (by k_is)⟩)
  (case Ni=>k_is)
  (case kL=>exact⟨by k_is,cf.cW (by k_is) (by k_is) (by k_is)⟩)
  (case Nj=>k_is)
  (case gP=>exact⟨by k_is,cf.cW (by k_is) (by k_is) (by k_is)⟩)
  (case XB=>k_is)
  (case iF=>exact⟨by k_is,cf.cW (by k_is) (by k_is) (by k_is)⟩)
  (case Nk=>k_is)
  (case lU=>exact⟨by k_is,cf.cW (by k_is) (by k_is) (by k_is)⟩)
  (case XC=>k_is)
  (case kM=>exact⟨by k_is,cf.cW (by k_is) (by k_is) (by k_is)⟩)
  (case XD=>k_is)
  (case gQ=>exact⟨by k_is,cf.cW (by k_is) (by k_is) (by k_is)⟩)
  (case Nl=>k_is)
  (case Nm=>k_is)
  (case Nn=>k_is)
  (case KN=>k_is)
  (case Np=>k_is)
  (case Nq=>k_is)
  (case fM=>exact⟨by k_is,cf.cW (by k_is) (by k_is) (by k_is)⟩)
  (case Nr=>k_is)
  (case f6=>exact⟨by k_is,cf.cW (by k_is) (by k_is) (by k_is)⟩)
  (case XE=>k_is)
  (case lV=>exact⟨by k_is,cf.cW (by k_is) (by k_is) (by k_is)⟩)
  (case XF=>k_is)
  (case gR=>exact⟨by k_is,cf.cW (by k_is) (by k_is) (by k_is)⟩)
  (case Nt=>k_is)
  (case Bx=>exact cf.cW (by k_is) (by k_is) (by k_is))
  (case Nu=>k_is)
  (case zC=>exact cf.cW (by k_is) (by k_is) (by k_is))
  (case Nv=>k_is)
  (case zD=>exact cf.cW (by k_is) (by k_is) (by k_is))
  (case Nw=>k_is)
  (case qA=>exact cf.cW (by k_is) (by k_is) (by k_is))
  (case Nx=>k_is)
  (case qB=>exact cf.cW (by k_is) (by k_is) (by k_is))
  (case Ny=>k_is)
  (case qC=>exact cf.cW (by k_is) (by k_is) (by k_is))
  (case Nz=>k_is)
  (case pV=>exact cf.cW (by k_is) (by k_is) (by k_is))
  (case NA=>k_is)
  (case uQ=>exact cf.cW (by k_is) (by k_is) (by k_is))
  (case NB=>k_is)
  (case pW=>exact⟨by k_is,cf.cW (by k_is) (by k_is) (by k_is)⟩)
  (case NC=>k_is)
  (case qD=>exact⟨by k_is,cf.cW (by k_is) (by k_is) (by k_is)⟩)
  (case ND=>k_is)
  (case lW=>exact⟨by k_is,cf.cW (by k_is) (by k_is) (by k_is)⟩)
  (case NF=>k_is)
  (case kN=>exact⟨by k_is,cf.cW (by k_is) (by k_is) (by k_is)⟩)
  (case NG=>k_is)
  (case pX=>exact⟨by k_is,cf.cW (by k_is) (by k_is) (by k_is)⟩)
  (case NH=>k_is)
  (case mY=>exact⟨by k_is,cf.cW (by k_is) (by k_is) (by k_is)⟩)
  (case NI=>k_is)
  (case kO=>exact⟨by k_is,cf.cW (by k_is) (by k_is) (by k_is)⟩)
  (case NJ=>k_is)
  (case mZ=>exact cf.cW (by k_is) (by k_is) (by k_is))
  (case NK=>k_is)
  (case zE=>exact cf.cW (by k_is) (by k_is) (by k_is))
  (case NL=>k_is)
  (case pY=>exact cf.cW (by k_is) (by k_is) (by k_is))
  (case NM=>k_is)
  (case uR=>exact cf.cW (by k_is) (by k_is) (by k_is))
  (case NN=>k_is)
  (case m4=>exact⟨by k_is,cf.cW (by k_is) (by k_is) (by k_is)⟩)
  (case NO=>k_is)
  (case kP=>exact⟨by k_is,cf.cW (by k_is) (by k_is) (by k_is)⟩)
  (case NP=>k_is)
  (case iG=>exact⟨by k_is,cf.cW (by k_is) (by k_is) (by k_is)⟩)
  (case NQ=>k_is)
  (case jP=>exact⟨by k_is,cf.cW (by k_is) (by k_is) (by k_is)⟩)
  (case NR=>k_is)
  (case je=>exact⟨by k_is,cf.cW (by k_is) (by k_is) (by k_is)⟩)
  (case NS=>k_is)
  (case jf=>exact⟨by k_is,cf.cW (by k_is) (by k_is) (by k_is)⟩)
  (case NT=>k_is)
  (case iH=>exact⟨by k_is,cf.cW (by k_is) (by k_is) (by k_is)⟩)
  (case NU=>k_is)
  (case jQ=>exact⟨by k_is,cf.cW (by k_is) (by k_is) (by k_is)⟩)
  (case NV=>k_is)
  (case jR=>exact⟨by k_is,cf.cW (by k_is) (by k_is) (by k_is)⟩)
  (case NW=>k_is)
  (case iI=>exact⟨by k_is,cf.cW (by k_is) (by k_is) (by k_is)⟩)
  (case NX=>k_is)
  (case jg=>exact⟨by k_is,cf.cW (by k_is) (by k_is) (by k_is)⟩)
  (case NY=>k_is)
  (case iJ=>exact⟨by k_is,cf.cW (by k_is) (by k_is) (by k_is)⟩)
  (case NZ=>k_is)
  (case kQ=>exact⟨by k_is,cf.cW (by k_is) (by k_is) (by k_is)⟩)
  (case N0=>k_is)
  (case iK=>exact⟨by k_is,cf.cW (by k_is) (by k_is) (by k_is)⟩)
  (case N1=>k_is)
  (case m7=>exact cf.cW (by k_is) (by k_is) (by k_is))
  (case N4=>k_is)
  (case zF=>exact cf.cW (by k_is) (by k_is) (by k_is))
  (case N5=>k_is)
  (case m8=>exact cf.cW (by k_is) (by k_is) (by k_is))
  (case N6=>k_is)
  (case uS=>exact cf.cW (by k_is) (by k_is) (by k_is))
  (case N8=>k_is)
  (case uT=>exact cf.cW (by k_is) (by k_is) (by k_is))
  (case N9=>k_is)
  (case zG=>exact cf.cW (by k_is) (by k_is) (by k_is))
  (case N_=>k_is)
  (case m9=>exact cf.cW (by k_is) (by k_is) (by k_is))
  (case Oa=>k_is)
  (case zH=>exact cf.cW (by k_is) (by k_is) (by k_is))
  (case Ob=>k_is)
  (case uU=>exact cf.cW (by k_is) (by k_is) (by k_is))
  (case Oc=>k_is)
  (case m_=>exact cf.cW (by k_is) (by k_is) (by k_is))
  (case Od=>k_is)
  (case lX=>exact cf.cW (by k_is) (by k_is) (by k_is))
  (case Oe=>k_is)
  (case uV=>exact cf.cW (by k_is) (by k_is) (by k_is))
  (case Of=>k_is)
  (case Og=>k_is)
  (case KO=>k_is)
  (case Oh=>k_is)
  (case By=>k_is)
  (case Bz=>k_is)
  (case BA=>k_is)
  (case BB=>k_is)
  (case BD=>k_is)
  (case BE=>k_is)
  (case kR=>k_is)
  (case lY=>k_is)
  (case ng=>k_is)
  (case nh=>k_is)
  (case nj=>k_is)
  (case nq=>k_is)
  (case nr=>k_is)
  (case nu=>k_is)
  (case gD=>k_is)
  (case gS=>k_is)
  (case ff=>k_is)
  (case pZ=>k_is)
  (case p3=>k_is)
  (case p4=>k_is)
  (case p5=>k_is)
  (case p6=>k_is)
  (case p7=>k_is)
  (case gT=>k_is)
  (case iL=>k_is)
  (case BF=>k_is)
  (case BG=>k_is)
  (case BH=>k_is)
  (case BI=>k_is)
  (case BJ=>k_is)
  (case BK=>k_is)
  (case qE=>k_is)
  (case qF=>k_is)
  (case qG=>k_is)
  (case qH=>k_is)
  (case qI=>k_is)
  (case qJ=>k_is)
  (case iM=>k_is)
  (case qK=>k_is)
  (case qL=>k_is)
  (case qM=>k_is)
  (case qN=>k_is)
  (case qO=>k_is)
  (case qP=>k_is)
  (case iN=>k_is)
  (case uW=>k_is)
  (case uX=>k_is)
  (case uY=>k_is)
  (case uZ=>k_is)
  (case u0=>k_is)
  (case u3=>k_is)
  (case jh=>k_is)
  (case fN=>k_is)
  (case BL=>k_is)
  (case BN=>k_is)
  (case BO=>k_is)
  (case BP=>k_is)
  (case BQ=>k_is)
  (case BR=>k_is)
  (case nv=>k_is)
  (case lZ=>k_is)
  (case kT=>k_is)
  (case zI=>k_is)
  (case zJ=>k_is)
  (case zK=>k_is)
  (case zL=>k_is)
  (case zM=>k_is)
  (case zN=>k_is)
  (case kU=>k_is)
  (case jS=>k_is)
  (case zO=>k_is)
  (case u4=>k_is)
  (case qQ=>k_is)
  (case u5=>k_is)
  (case qR=>k_is)
  (case qS=>k_is)
  (case Ea=>k_is)
  (case BS=>k_is)
  (case qT=>k_is)
  (case u6=>k_is)
  (case gE=>k_is)
  (case gU=>k_is)
  (case iO=>k_is)
  (case gW=>k_is)
  (case iP=>k_is)
  (case ji=>k_is)
  (case jk=>k_is)
  (case kW=>k_is)
  (case kX=>k_is)
  (case gF=>k_is)
  (case fO=>k_is)
  (case kY=>k_is)
  (case kZ=>k_is)
  (case fP=>k_is)
  (case d9=>exact rfl)
  (case d_=>k_is)
  (case ed=>exact rfl)
  (case KP=>kernel_rfl)
  (case el=>decide)
  (case XG=>decide)
  (case l0=>k_is)
  (case l5=>k_is)
  (case l6=>k_is)
  (case Oi=>k_is)
  (case qU=>k_is)
  (case Oj=>k_is)
  (case Ol=>k_is)
  (case KQ=>k_is)
  (case Eb=>k_is)
  (case BU=>k_is)
