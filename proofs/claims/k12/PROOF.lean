import PyProof.Rows.All
import Wide.All
import OpenK.AllK
import Wide.FinOn
import Lean
import PyProof.EqAt
import PyProof.EqKinds
import PyProof.TupleCall
import PySem.Challenge.RW_heapsafe_k12_plain_deeds
set_option Elab.async false
set_option linter.all false
set_option maxRecDepth 100000
namespace L2
open PySem PySem.Spec PyProof.Rows
noncomputable abbrev Key:=Sum Int Str
noncomputable def oB:Key→Value→Bool
 | .inl k,v=>Value.isInt k v
 | .inr x,v=>Value.isStrOf x v
noncomputable def aaa (w:World):Key→Int
 | .inl k=>hashInt k
 | .inr x=>hashStr w x
theorem cA:∀{k:Key}{v:Value},oB k v=true→(∃i t,k=Sum.inl i∧v=Value.int i t)∨(∃x t,k=Sum.inr x∧v=Value.str x t)
 | .inl i,v,h=>by
  obtain⟨t,e⟩:=Value.isInt_shape (k:=i) (v:=v) h
  exact .inl ⟨i,t,rfl,e⟩
 | .inr x,v,h=>by
  obtain⟨t,e⟩:=Value.isStrOf_shape (x:=x) (v:=v) h
  exact .inr ⟨x,t,rfl,e⟩
theorem Fj (i:Int) (t:Tok):oB (.inl i) (.int i t)=true:=by simp [oB,Value.isInt]
theorem Fl (x:Str) (t:Tok):oB (.inr x) (.str x t)=true:=by simp [oB,Value.isStrOf]
theorem Q0 (a b:Int):decide ((Sum.inl a:Key)=Sum.inl b)=(a == b):=by
 by_cases e:a=b
 ·subst e; simp
 ·have h:¬(Sum.inl a:Key)=Sum.inl b:=fun q=>e (Sum.inl.inj q)
  rw [decide_eq_false h]
  exact(beq_eq_false_iff_ne.mpr e).symm
theorem Q1 (a b:Str):decide ((Sum.inr a:Key)=Sum.inr b)=decide (a=b):=by
 by_cases e:a=b
 ·subst e; simp
 ·have h:¬(Sum.inr a:Key)=Sum.inr b:=fun q=>e (Sum.inr.inj q)
  rw [decide_eq_false h,decide_eq_false e]
theorem Q2 (a:Int) (b:Str):decide ((Sum.inl a:Key)=Sum.inr b)=false:=decide_eq_false (fun q=>nomatch q)
theorem Q3 (a:Str) (b:Int):decide ((Sum.inr a:Key)=Sum.inl b)=false:=decide_eq_false (fun q=>nomatch q)
noncomputable def br (prog:Program) (w:World):PySem.KeyKind prog w Key where
 is:=oB
 hash:=aaa w
 inj:=fun v a b ha hb=>by
  rcases cA ha with ⟨i,t,rfl,rfl⟩ | ⟨x,t,rfl,rfl⟩
  ·rcases cA hb with ⟨j,u,rfl,e⟩ | ⟨y,u,rfl,e⟩
   ·injection e with e1 _; rw [e1]
   ·exact nomatch e
  ·rcases cA hb with ⟨j,u,rfl,e⟩ | ⟨y,u,rfl,e⟩
   ·exact nomatch e
   ·injection e with e1 _; rw [e1]
 byValue:=fun k v h=>by
  rcases cA h with ⟨i,t,rfl,rfl⟩ | ⟨x,t,rfl,rfl⟩ <;> rfl
 pyHash:=fun hv h=>by
  rcases cA hv with ⟨i,t,rfl,rfl⟩ | ⟨x,t,rfl,rfl⟩
  ·exact wpAny_pyHash_int h
  ·exact wpAny_pyHash_str h
 eqBool:=fun hu hv h=>by
  rcases cA hu with ⟨i,t,rfl,rfl⟩ | ⟨x,t,rfl,rfl⟩
  ·rcases cA hv with ⟨j,u,rfl,rfl⟩ | ⟨y,u,rfl,rfl⟩
   ·rw [Q0] at h; exact wpAny_eqBool_int h
   ·rw [Q2] at h; exact SeqAt.EqAt.int_str i t y u _ _ _ _ h
  ·rcases cA hv with ⟨j,u,rfl,rfl⟩ | ⟨y,u,rfl,rfl⟩
   ·rw [Q3] at h; exact SeqAt.EqAt.str_int x t j u _ _ _ _ h
   ·rw [Q1] at h; exact wpAny_eqBool_str h
 «strs»:=fun k x t v h=>by
  rcases cA h with ⟨i,u,rfl,e⟩ | ⟨y,u,rfl,e⟩
  ·exact nomatch e
  ·injection e with e1 _
   subst e1
   cases v <;> rfl
theorem xo (prog:Program) (w:World) (i:Int) (t:Tok):(br prog w).is (.inl i) (.int i t)=true:=Fj i t
theorem xp (prog:Program) (w:World) (x:Str) (t:Tok):(br prog w).is (.inr x) (.str x t)=true:=Fl x t
end L2
namespace L2
open PySem PySem.Spec PyProof.Rows
inductive V where
 | bj | bl (b:Bool) | int (i:Int) | str (x:Str) | GO (b:Array UInt8) | Q4 (b:UInt64) | ref (a:Addr) | ty (n:String)
 deriving DecidableEq
noncomputable def RelV:V→Value→Prop
 | .bj,u=>u=Value.none
 | .bl b,u=>u=Value.bool b
 | .int i,u=>∃t,u=Value.int i t
 | .str x,u=>∃t,u=Value.str x t
 | .GO b,u=>∃t,u=Value.bytes b t
 | .Q4 b,u=>∃t,u=Value.float b t
 | .ref a,u=>u=Value.ref a
 | .ty n,u=>u=Value.type n
noncomputable abbrev Vals:List V→List Value→Prop:=Paired RelV
theorem Vals.length {xs:List V}{us:List Value}(r:Vals xs us):xs.length=us.length:=Paired.length r
theorem Vals.get:∀{xs:List V}{us:List Value}{i:Nat}{x:V},Vals xs us→xs[i]?=some x→∃u,us[i]?=some u∧RelV x u
 | _,_,_,_,.nil,e=>by simp at e
 | _,_,0,_,.cons r _,e=>by simp at e; subst e; exact⟨_,rfl,r⟩
 | _,_,i+1,x,.cons _ t,e=>by
  obtain⟨u,h1,h2⟩:=Vals.get (i:=i) (x:=x) t (by simpa using e)
  exact⟨u,by simpa using h1,h2⟩
theorem Vals.set {x:V}{u:Value}(r:RelV x u):∀{xs:List V}{us:List Value}(i:Nat),Vals xs us→Vals (xs.set i x) (us.set i u)
 | _,_,_,.nil=>.nil
 | _,_,0,.cons _ t=>.cons r t
 | _,_,i+1,.cons q t=>.cons q (Vals.set r i t)
theorem Vals.append:∀{xs ys:List V}{us ws:List Value},Vals xs us→Vals ys ws→Vals (xs++ys) (us++ws)
 | _,_,_,_,.nil,s=>s
 | _,_,_,_,.cons r t,s=>.cons r (Vals.append t s)
theorem Vals.take:∀{xs:List V}{us:List Value}(n:Nat),Vals xs us→Vals (xs.take n) (us.take n)
 | _,_,0,_=>.nil
 | _,_,_+1,.nil=>.nil
 | _,_,n+1,.cons r t=>.cons r (Vals.take n t)
theorem Vals.drop:∀{xs:List V}{us:List Value}(n:Nat),Vals xs us→Vals (xs.drop n) (us.drop n)
 | _,_,0,r=>r
 | _,_,_+1,.nil=>.nil
 | _,_,n+1,.cons _ t=>Vals.drop n t
noncomputable def fW:Option V→Option Value→Prop
 | some v,some u=>RelV v u
 | none,none=>True
 | _,_=>False
noncomputable def KV {κ:Type}:List (κ×V)→List (κ×Value)→Prop:=Paired fun(p:κ×V) (q:κ×Value)=>p.1=q.1∧RelV p.2 q.2
noncomputable def kV:Key→V
 | .inl i=>.int i
 | .inr x=>.str x
inductive HO where
 
 | lst (xs:List V)
 
 | tup (xs:List V)
 
 | dK (kvs:List (Key×V)) | dT (kvs:List (List Key×V))
 
 | set (S:Int→Bool) (n:Nat)
 
 | ins (C dx:Addr) (fs:List (Str×V))
 
 | own (x:Addr)
 
 | xd (fs:List (Str×V))
 
 | met (f x:Addr)
 
 | rng (lo hi:Int)
 
 | dF (o:Obj) (u:HO)
 
 | Q5 (ps:Array Value)
 
 | ext (φ:Heap→Prop)
noncomputable abbrev Hp:=Addr→Option HO
noncomputable def upd (H:Hp) (a:Addr) (o:HO):Hp:=fun b=>if b=a then some o else H b
theorem af {H:Hp}{a:Addr}{o:HO}:upd H a o a=some o:=by unfold upd; rw [if_pos rfl]
theorem ak {H:Hp}{a b:Addr}{o:HO}(h:b≠a):upd H a o b=H b:=by unfold upd; rw [if_neg h]
theorem og {H:Hp}{a:Addr}{o u:HO}:upd (upd H a o) a u=upd H a u:=by
 funext b; unfold upd; split <;> rfl
theorem mD {H:Hp}{a b:Addr}{o u:HO}(h:H a=some o) (h':H b=some u) (d:o≠u):a≠b:=by
 intro e; subst e; rw [h] at h'; exact d (Option.some.inj h')
theorem aG {H:Hp}{a b:Addr}{o:HO}(h:H a=some o) (h':H b=none):a≠b:=by
 intro e; subst e; rw [h] at h'; cases h'
section
variable (P:Program) (w:World)
noncomputable def b9 (H:Hp) (h:Heap) (a:Addr):HO→Prop
 | .lst xs=>xs.length≤sizeLine∧∃(bq:List Value) (n:Nat),Vals xs bq∧h.get? a=some {cls:=.type "list",data:=.seq bq.toArray n}
 | .tup xs=>xs.length≤sizeLine∧∃bq:List Value,Vals xs bq∧IsTup h a bq.toArray
 | .dK kvs=>kvs.length≤sizeLine∧(a == sysModules)=false∧∃vs,KV kvs vs∧h.DictOf (br P w) a vs
 | .dT kvs=>kvs.length≤sizeLine∧(a == sysModules)=false∧∃xs:List (List Key×Addr×Value),
   Paired (fun(p:List Key×V) (q:List Key×Addr×Value)=>p.1=q.1∧H q.2.1=some (.tup (p.1.map kV))∧RelV p.2 q.2.2) kvs xs ∧
   ∃o es ep,h.get? a=some o∧o.ExactDict∧o.data=.dict es ep∧es.toList=xs.map (entryOfKey (tupleKind (br P w)))∧(xs.map (·.1)).Nodup
 | .set S n=>h.SetOf (intKind P w) a S n
 | .ins C dx fs=>H dx=some (.own a)∧fs.length≤1000∧dx≠a∧h.get? a=some (PySem.W.instObj C dx) ∧
   ∃mA,h.Ns1 dx mA∧(∀f,fW (fs.lookup f) (mA f))∧PySem.Within mA (fs.map (·.1))
 | .own _=>∃o,h.get? a=some o
 | .xd fs=>∃mA,h.Ns1 a mA∧∀f,fW (fs.lookup f) (mA f)
 | .rng lo hi=>∃t u v,h.get? a=some {cls:=.type "range",data:=.fields #[.int lo t,.int hi u,.int 1 v]}
 | .dF o u=>h.get? a=some o∧b9 H h a u
 | .Q5 ps=>h.get? a=some {cls:=.none,data:=.fields ps}
 | .met f x=>h.get? a=some (PySem.W.methodObj (.ref f) (.ref x))
 | .ext φ=>φ h∧(∃o,h.get? a=some o)∧∀h1 h2:Heap,φ h1→(∀o,h1.get? a=some o→h2.get? a=some o)→φ h2
noncomputable def ip (H:Hp) (h:Heap):Prop:=∀a o,H a=some o→b9 P w H h a o
end
section
variable {P:Program}{w:World}{H H':Hp}{h h':Heap}{a:Addr}{o:HO}
theorem b9.lt (x:b9 P w H h a o):a < h.objs.size:=by
 cases o with
 | lst xs=>obtain⟨_,_,_,_,e⟩:=x; exact Heap.lt_size e
 | tup xs=>obtain⟨_,_,_,p⟩:=x; exact p.lt
 | dK kvs=>obtain⟨_,_,_,_,o,_,_,e,_⟩:=x; exact Heap.lt_size e
 | dT kvs=>obtain⟨_,_,_,_,o,_,_,e,_⟩:=x; exact Heap.lt_size e
 | set S n=>obtain⟨o,_,_,_,e,_⟩:=x; exact Heap.lt_size e
 | ins C dx fs=>obtain⟨_,_,_,e,_⟩:=x; exact Heap.lt_size e
 | own y=>obtain⟨_,e⟩:=x; exact Heap.lt_size e
 | xd fs=>obtain⟨_,⟨_,_,_,e,_⟩,_⟩:=x; exact Heap.lt_size e
 | rng lo hi=>obtain⟨_,_,_,e⟩:=x; exact Heap.lt_size e
 | dF ob u=>obtain⟨e,_⟩:=x; exact Heap.lt_size e
 | Q5 ps=>exact Heap.lt_size (show h.get? a=some _ from x)
 | met f y=>exact Heap.lt_size (show h.get? a=some _ from x)
 | ext φ=>obtain⟨_,⟨_,e⟩,_⟩:=x; exact Heap.lt_size e
theorem Paired.Q6 {α β:Type}{F G:α→β→Prop}:∀{l₁:List α}{l₂:List β},Paired F l₁ l₂→(∀a b,F a b→G a b)→Paired G l₁ l₂
 | _,_,.nil,_=>.nil
 | _,_,.cons r t,f=>.cons (f _ _ r) (Paired.Q6 t f)
theorem b9.rH (x:b9 P w H h a o) (k:∀b u,(b=a∨H b=some (.own a))→h.get? b=some u→h'.get? b=some u)
  (ho:∀b,H b=some (.own a)→H' b=some (.own a)) (ht:∀b xs,H b=some (.tup xs)→H' b=some (.tup xs)):b9 P w H' h' a o:=by
 induction o with
 | lst xs=>obtain⟨z,bq,n,r,e⟩:=x; exact⟨z,bq,n,r,k _ _ (.inl rfl) e⟩
 | tup xs=>obtain⟨z,bq,r,ob,e,c⟩:=x; exact⟨z,bq,r,ob,k _ _ (.inl rfl) e,c⟩
 | dK kvs=>obtain⟨z,y,vs,r,ob,es,ep,e,c⟩:=x; exact⟨z,y,vs,r,ob,es,ep,k _ _ (.inl rfl) e,c⟩
 | dT kvs=>
  obtain⟨z,y,xs,r,ob,es,ep,e,c⟩:=x
  exact⟨z,y,xs,Paired.Q6 r fun p q z=>⟨z.1,ht _ _ z.2.1,z.2.2⟩,ob,es,ep,k _ _ (.inl rfl) e,c⟩
 | set S n=>obtain⟨ob,es,ep,t,e,c⟩:=x; exact⟨ob,es,ep,t,k _ _ (.inl rfl) e,c⟩
 | ins C dx fs=>
  obtain⟨d,z,ne,e,mA,⟨od,es,ep,e2,c⟩,r⟩:=x
  exact⟨ho _ d,z,ne,k _ _ (.inl rfl) e,mA,⟨od,es,ep,k _ _ (.inr d) e2,c⟩,r⟩
 | own y=>obtain⟨ob,e⟩:=x; exact⟨ob,k _ _ (.inl rfl) e⟩
 | xd fs=>obtain⟨mA,⟨od,es,ep,e,c⟩,r⟩:=x; exact⟨mA,⟨od,es,ep,k _ _ (.inl rfl) e,c⟩,r⟩
 | rng lo hi=>obtain⟨t,u,v,e⟩:=x; exact⟨t,u,v,k _ _ (.inl rfl) e⟩
 | dF ob u ih=>obtain⟨e,q⟩:=x; exact⟨k _ _ (.inl rfl) e,ih q⟩
 | Q5 ps=>
  have e:h.get? a=some {cls:=.none,data:=.fields ps}:=x
  show h'.get? a=some {cls:=.none,data:=.fields ps}
  exact k a _ (.inl rfl) e
 | met f y=>
  have e:h.get? a=some (PySem.W.methodObj (.ref f) (.ref y)):=x
  show h'.get? a=some (PySem.W.methodObj (.ref f) (.ref y))
  exact k a _ (.inl rfl) e
 | ext φ=>obtain⟨p,⟨o,e⟩,st⟩:=x; exact⟨st _ _ p fun o q=>k _ _ (.inl rfl) q,⟨o,k _ _ (.inl rfl) e⟩,st⟩
theorem ip.lt (x:ip P w H h) (e:H a=some o):a < h.objs.size:=(x a o e).lt
theorem ip.fresh (x:ip P w H h) (e:h.objs.size≤a):H a=none:=by
 cases q:H a with
 | none=>rfl
 | some u=>exact absurd (Nat.lt_of_lt_of_le (x.lt q) e) (Nat.lt_irrefl _)
theorem ip.kept (x:ip P w H h) (k:∀b u,h.get? b=some u→h'.get? b=some u):ip P w H h':=fun a o e=>
 (x a o e).rH (fun b u _ q=>k b u q) (fun _ q=>q) fun _ _ q=>q
theorem ip.laid (x:ip P w H h) (k:∀b u,h.get? b=some u→h'.get? b=some u) (hp:h.objs.size≤a) (new:b9 P w (upd H a o) h' a o):ip P w (upd H a o) h':=fun b u e=>by
 have hn:=x.fresh hp
 by_cases hb:b=a
 ·subst hb; rw [af] at e; cases e; exact new
 ·rw [ak hb] at e
  exact(x b u e).rH (fun c v _ q=>k c v q) (fun c q=>by rw [ak (aG q hn)]; exact q) fun c xs q=>by rw [ak (aG q hn)]; exact q
end
noncomputable def Rd (H:Hp) (a:Addr) (u:HO):Prop:=H a=some u∨∃o,H a=some (.dF o u)
theorem Rd.ok {P:Program}{w:World}{H:Hp}{h:Heap}{a:Addr}{u:HO}(r:Rd H a u) (x:ip P w H h):b9 P w H h a u:=by
 rcases r with r | ⟨o,r⟩
 ·exact x a u r
 ·obtain⟨_,q⟩:=x a _ r
  exact q
noncomputable def Vj:Option HO→Prop
 | some (.lst _)=>True
 | some (.dK _)=>True
 | some (.dT _)=>True
 | some (.set _ _)=>True
 | some (.ins _ _ _)=>True
 | some (.ext _)=>True
 | _=>False
section
variable {P:Program}{w:World}{H:Hp}{h h':Heap}{x e:Addr}{o':HO}
theorem ip.write (ok:ip P w H h) (mu:Vj (H x)) (he:e=x∨H e=some (.own x)) (k:∀b u,b≠e→h.get? b=some u→h'.get? b=some u) (U0:∃u,h'.get? e=some u)
  (new:b9 P w (upd H x o') h' x o'):ip P w (upd H x o') h':=fun b u q=>by
 have Vk:∀c y,H c=some (.own y)→c≠x:=fun c y r z=>by subst z; rw [r] at mu; exact mu
 have Q7:∀c xs,H c=some (.tup xs)→c≠x:=fun c xs r z=>by subst z; rw [r] at mu; exact mu
 by_cases hb:b=x
 ·subst hb; rw [af] at q; cases q; exact new
 ·rw [ak hb] at q
  by_cases Ex:b=e
  ·have q':H b=some (.own x):=by
    rcases he with z | z
    ·exact absurd (Ex.trans z) hb
    ·rw [Ex]; exact z
   rw [q] at q'; cases q'
   obtain⟨v,hv⟩:=U0
   exact⟨v,by rw [Ex]; exact hv⟩
  ·refine(ok b u q).rH (fun c v hc r=>k c v ?_ r) (fun c r=>by rw [ak (Vk c b r)]; exact r) fun c xs r=>by rw [ak (Q7 c xs r)]; exact r
   rcases hc with rfl | hc
   ·exact Ex
   ·rintro rfl
    rcases he with z | z
    ·exact Vk c b hc z
    ·rw [hc] at z; cases z; exact hb rfl
end
structure Un (fs ex:List Addr) (H H':Hp) (h h':Heap):Prop where
 keep:∀b o,h.get? b=some o→H b=none→b∉fs→b∉ex→h'.get? b=some o
 slot:∀b o,h.get? b=some o→H b=none→b∈fs→b∉ex→∃sl,h'.get? b=some {o with slots:=sl}
 free:∀b o,h.get? b=some o→H b=none→b∉ex→H' b=none
 there:∀b o,h.get? b=some o→b∉ex→∃o',h'.get? b=some o'
 ny:∀b xs,H b=some (.tup xs)→H' b=some (.tup xs)
 lH:∀b o u,H b=some (.dF o u)→H' b=some (.dF o u)
 nB:∀b ps,H b=some (.Q5 ps)→∃more,H' b=some (.Q5 (ps++more))
section
variable {fs fs' ex ex':List Addr}{H H1 H2:Hp}{h h1 h2 h':Heap}{a x e:Addr}{o:HO}
theorem Un.any (u:Un fs ex H H1 h h1) {b:Addr}{ob:Obj}(q:h.get? b=some ob) (n:H b=none) (hx:b∉ex):∃sl,h1.get? b=some {ob with slots:=sl}:=by
 by_cases hb:b∈fs
 ·exact u.slot b ob q n hb hx
 ·exact⟨ob.slots,u.keep b ob q n hb hx⟩
theorem Un.kept (k:∀b u,h.get? b=some u→h'.get? b=some u):Un fs ex H H h h':=
 ⟨fun b ob q _ _ _=>k b ob q,fun b ob q _ _ _=>⟨ob.slots,k b ob q⟩,fun _ _ _ n _=>n,fun b ob q _=>⟨ob,k b ob q⟩,fun _ _ q=>q,fun _ _ _ q=>q,fun _ ps q=>⟨#[],by rw [q]; simp⟩⟩
theorem Un.refl:Un fs ex H H h h:=Un.kept fun _ _ q=>q
theorem Un.laid (k:∀b u,h.get? b=some u→h'.get? b=some u) (hp:h.objs.size≤a) (hn:H a=none):Un fs ex H (upd H a o) h h' where
 keep:=fun b u q _ _ _=>k b u q
 slot:=fun b u q _ _ _=>⟨u.slots,k b u q⟩
 free:=fun b u q n _=>by rw [ak (Nat.ne_of_lt (Nat.lt_of_lt_of_le (Heap.lt_size q) hp))]; exact n
 there:=fun b u q _=>⟨u,k b u q⟩
 ny:=fun b xs q=>by rw [ak (aG q hn)]; exact q
 lH:=fun b u xs q=>by rw [ak (aG q hn)]; exact q
 nB:=fun b ps q=>⟨#[],by rw [ak (aG q hn),q]; simp⟩
theorem Un.write (mu:Vj (H x)) (he:e=x∨H e=some (.own x)) (k:∀b u,b≠e→h.get? b=some u→h'.get? b=some u) (U0:∃u,h'.get? e=some u):Un fs ex H (upd H x o) h h':=by
 have hx:∀b,H b=none→b≠x:=fun b n z=>by subst z; rw [n] at mu; exact mu
 have hb:∀b,H b=none→b≠e:=fun b n z=>by
  subst z
  rcases he with r | r
  ·exact hx b n r
  ·rw [n] at r; cases r
 have hm:∀b u,H b=some u→¬Vj (some u)→b≠x:=fun b u q nm z=>by subst z; rw [q] at mu; exact nm mu
 refine⟨fun b u q n _ _=>k b u (hb b n) q,fun b u q n _ _=>⟨u.slots,k b u (hb b n) q⟩,fun b u q n _=>by rw [ak (hx b n)]; exact n,fun b u q _=>?_,
  fun b xs q=>by rw [ak (hm b _ q fun z=>z)]; exact q,fun b u xs q=>by rw [ak (hm b _ q fun z=>z)]; exact q,fun b ps q=>⟨#[],by rw [ak (hm b _ q fun z=>z),q]; simp⟩⟩
 by_cases Ex:b=e
 ·subst Ex; exact U0
 ·exact⟨u,k b u Ex q⟩
end
noncomputable def ZU (h:Heap) (H:Hp):List Addr:=(List.range h.objs.size).filter fun a=>(H a).isSome
noncomputable def uC (h:Heap) (H:Hp):Heap:=PySem.W.hideAll h (ZU h H)
theorem Fm (h:Heap) (H:Hp):(uC h H).objs.size=h.objs.size:=PySem.W.hideAll_size _ _
theorem GU {h:Heap}{H:Hp}{b:Addr}{o:Obj}(e:h.get? b=some o) (n:H b=none):(uC h H).get? b=some o:=
 PySem.W.hideAll_get _ e fun hm=>by
  have q:(H b).isSome=true:=(List.mem_filter.mp hm).2
  rw [n] at q; simp at q
theorem Lu {h:Heap}{H:Hp}{b:Addr}{o:Obj}(e:(uC h H).get? b=some o):h.get? b=some o∧H b=none:=by
 have e':h.get? b=some o:=PySem.W.of_hideAll (ZU h H) e
 refine⟨e',?_⟩
 cases q:H b with
 | none=>rfl
 | some x=>
  have hm:b∈ZU h H:=List.mem_filter.mpr ⟨List.mem_range.mpr (Heap.lt_size e'),by simp [q]⟩
  have z:(uC h H).get? b=none:=PySem.W.hideAll_none (ZU h H) hm
  rw [z] at e; cases e
noncomputable def Lv (g h:Heap) (L:Addr):List (Addr×Obj):=(List.range h.objs.size).filterMap fun a=>if a=L∨(g.get? a).isSome=true then none else(h.get? a).map fun o=>(a,o)
noncomputable def rest (g h:Heap) (L d:Addr):List (Addr×Obj):=(Lv g h L).filter fun p=>decide (p.1≠d)
end L2
namespace L2
open PySem PySem.Spec PyProof.Rows
structure Mod (K:PySem.W.Frag) (mg:Str→Option Value) (base:Heap):Prop where
 Lw:K.In base
 glob:base.Ns mainGlobals mg
 blt:∃mb,base.Ns builtinsNs mb∧∀x:Str,x≠"__name__"→mb x=bootBuiltins x
 nolimit:base.NoLimit
structure Cx where
 prog:Program
 w:World
 K:PySem.W.Frag
 mg:Str→Option Value
 base:Heap
 A:Around
 N:List Str
 s₀:Shared
 H₀:Hp
 env:Env
 outer:List Env
 stack:List Env
 ex:List Addr
 fn:Str→Bool
 calm:Bool
 pn:List (Addr×Obj)
 xe:Value→Shared→Prop
noncomputable def mE (l:List Env):List Addr:=l.filterMap (·.frame)
noncomputable abbrev Cx.fs (X:Cx):List Addr:=mE X.outer
noncomputable def ZV (sc:Scope) (x:Str):Prop:=sc.names.lookup x=some .local∨sc.names.lookup x=some .cell∨sc.names.lookup x=some .free
noncomputable def Loc (sc:Scope) (x:Str):Prop:=sc.names.lookup x=some .local∨sc.names.lookup x=some .cell
noncomputable def Look (env:Env) (h:Heap) (m:Str→Option Value) (x:Str) (u:Value):Prop:=
 (env.kindOf x=some .local∧m x=some u)∨((env.kindOf x=some .cell∨env.kindOf x=some .free)∧∃c,env.cells.lookup x=some c∧h.IsCell c (some u))
structure Cx.Ok (X:Cx):Prop where
 mod:Mod X.K X.mg X.base
 kind:X.env.scope.kind=.function
 glob:X.env.globals=mainGlobals
 blt:X.env.builtins=builtinsNs
 above:X.s₀.heap.objs.size≤X.env.locals
 inj:∀x y c,X.env.cells.lookup x=some c→X.env.cells.lookup y=some c→x=y
 has:∀x,(X.env.kindOf x=some .cell∨X.env.kindOf x=some .free)→∃c,X.env.cells.lookup x=some c
 NS:∀x c,X.fn x=true→X.env.cells.lookup x=some c→X.s₀.heap.objs.size≤c
 hd:X.calm=true→X.A.handled=none
 frames:X.A.frames=some X.stack
 Q8:X.stack=X.outer∨(X.stack=X.env::X.outer∧X.env.frame=some X.env.locals)
 Lx:∀b∈X.ex,b≠X.env.locals∧∀x c,X.env.cells.lookup x=some c→c≠b
 bs:∀b o,X.base.get? b=some o→X.s₀.heap.get? b=some o∧X.H₀ b=none
 Ey:X.base.objs.size≤X.s₀.heap.objs.size
 uD:∀b o,X.base.get? b=some o→b∉X.ex
 uE:∀b∈X.ex,b∉X.fs
 jG:X.s₀.heap.FunFrames X.base X.outer
 Ll:∀b∈X.fs,X.H₀ b=none
structure Inv (X:Cx) (pins:List (Addr×Obj)) (σ:List (Option V)) (H:Hp) (s:Shared):Prop where
 ok:X.Ok
 os:s.os=X.s₀.os
 bare:AllBare s.gens
 base:Un X.fs X.ex X.H₀ H X.s₀.heap s.heap
 loc:∃m,s.heap.Ns X.env.locals m∧∀(i:Nat) (x:Str) (v:V),X.N[i]?=some x→σ[i]?=some (some v)→ZV X.env.scope x→∃u,RelV v u∧Look X.env s.heap m x u
 cell:∀x c,X.env.cells.lookup x=some c→∃v,s.heap.IsCell c v
 free:H X.env.locals=none
 ez:∀x c,X.env.cells.lookup x=some c→H c=none
 pin:∀p∈X.pn++pins,s.heap.get? p.1=some p.2∧H p.1=none∧p.1≠X.env.locals∧p.1∉X.fs∧∀v,p.2.data≠.cell v
 bw:ip X.prog X.w H s.heap
 len:σ.length=X.N.length
section
variable {X:Cx}{pins:List (Addr×Obj)}{σ:List (Option V)}{H H':Hp}{s:Shared}{h':Heap}
theorem Cx.Ok.aab (ok:X.Ok) {b:Addr}{o:Obj}(e:X.base.get? b=some o):b∉X.fs:=fun hb=>by
 have:=(ok.jG.mem hb).1
 rw [e] at this; cases this
theorem Inv.bs (I:Inv X pins σ H s):∀b o,X.base.get? b=some o→s.heap.get? b=some o∧H b=none:=fun b o e=>
 ⟨I.base.keep b o (I.ok.bs b o e).1 (I.ok.bs b o e).2 (I.ok.aab e) (I.ok.uD b o e),I.base.free b o (I.ok.bs b o e).1 (I.ok.bs b o e).2 (I.ok.uD b o e)⟩
theorem Inv.bk (I:Inv X pins σ H s):∀b o,X.base.get? b=some o→s.heap.get? b=some o:=fun b o e=>(I.bs b o e).1
theorem Inv.mod (I:Inv X pins σ H s):Mod X.K X.mg X.base:=I.ok.mod
theorem Inv.eZ (I:Inv X pins σ H s):X.K.In s.heap:=I.ok.mod.Lw.keeps I.bk
theorem Inv.lt (I:Inv X pins σ H s):X.env.locals < s.heap.objs.size:=let ⟨_,hn,_⟩:=I.loc; hn.lt
theorem Inv.sz (I:Inv X pins σ H s):X.s₀.heap.objs.size≤s.heap.objs.size:=Nat.le_trans I.ok.above (Nat.le_of_lt I.lt)
theorem Inv.Q9 (I:Inv X pins σ H s) {a:Addr}(h:s.heap.objs.size≤a):a∉X.fs:=fun hb=>by
 obtain⟨_,o,ho,_⟩:=I.ok.jG.mem hb
 exact absurd (Nat.lt_of_lt_of_le (Heap.lt_size ho) (Nat.le_trans I.sz h)) (Nat.lt_irrefl _)
theorem Inv.GV (I:Inv X pins σ H s):∀x c,X.env.cells.lookup x=some c→c≠X.env.locals:=fun x c e z=>by
 obtain⟨v,o,ho,hd⟩:=I.cell x c e
 obtain⟨m,⟨o',es,ep,Bv,xl,_⟩,_⟩:=I.loc
 rw [z,Bv] at ho; cases ho; rw [xl] at hd; cases hd
theorem Inv.jG (I:Inv X pins σ H s):s.heap.FunFrames X.base X.outer:=by
 have all:∀(l:List Env),(∀b∈mE l,b∈X.fs)→X.s₀.heap.FunFrames X.base l→s.heap.FunFrames X.base l:=by
  intro l
  induction l with
  | nil=>intro _ _; trivial
  | cons env r ih=>
   intro hs hl
   obtain⟨hk,⟨L,o,hf,hn,ho,hd⟩,hr⟩:=hl
   have hL:L∈X.fs:=hs L (by unfold mE; rw [List.filterMap_cons,hf]; exact List.mem_cons_self)
   obtain⟨sl,e⟩:=I.base.slot L o ho (I.ok.Ll L hL) hL fun z=>I.ok.uE L z hL
   exact⟨hk,⟨L,_,hf,hn,e,hd⟩,ih (fun b hb=>hs b (by unfold mE; rw [List.filterMap_cons,hf]; exact List.mem_cons_of_mem _ hb)) hr⟩
 exact all X.outer (fun _ hb=>hb) I.ok.jG
theorem Inv.stack (I:Inv X pins σ H s):s.heap.FunFrames X.base X.stack:=by
 rcases I.ok.Q8 with e | ⟨e,hf⟩
 ·rw [e]; exact I.jG
 ·rw [e]
  obtain⟨m,hn,_⟩:=I.loc
  refine .cons (by rw [I.ok.kind]; decide) hf hn ?_ I.jG
  exact Heap.get?_none_of_le (Nat.le_trans I.ok.Ey I.ok.above)
theorem Inv.uF (I:Inv X pins σ H s):∀b∈mE X.stack,b∈X.env.locals::X.fs:=fun b hb=>by
 rcases I.ok.Q8 with e | ⟨e,hf⟩
 ·rw [e] at hb; exact List.mem_cons_of_mem _ hb
 ·rw [e] at hb
  unfold mE at hb
  rw [List.filterMap_cons,hf] at hb
  exact hb
theorem Inv.i7 (I:Inv X pins σ H s):∀b∈mE X.stack,H b=none:=fun b hb=>by
 rcases List.mem_cons.mp (I.uF b hb)with e | hb
 ·rw [e]; exact I.free
 ·obtain⟨_,o,ho,_⟩:=I.ok.jG.mem hb
  exact I.base.free b o ho (I.ok.Ll b hb) fun z=>I.ok.uE b z hb
theorem Inv.step {g':Array GenState}{t':Nat}{d':Drawn}{ch:List Addr}(I:Inv X pins σ H s)
  (Lm:∀b∈ch,(b∈X.ex∨X.s₀.heap.objs.size≤b)∧b≠X.env.locals∧(∀x c,X.env.cells.lookup x=some c→c≠b)∧∀p∈X.pn++pins,p.1≠b)
  (keep:∀b o,b≠X.env.locals→b∉X.fs→b∉ch→s.heap.get? b=some o→H b=none→h'.get? b=some o)
  (slot:∀b o,b≠X.env.locals→b∈X.fs→b∉ch→s.heap.get? b=some o→H b=none→∃sl,h'.get? b=some {o with slots:=sl}) (free:∀b o,b∉ch→s.heap.get? b=some o→H b=none→H' b=none)
  (there:∀b o,b∉ch→s.heap.get? b=some o→∃o',h'.get? b=some o')
  (ny:∀b xs,H b=some (.tup xs)→H' b=some (.tup xs)) (lH:∀b o u,H b=some (.dF o u)→H' b=some (.dF o u)) (nB:∀b ps,H b=some (.Q5 ps)→∃more,H' b=some (.Q5 (ps++more)))
  (ns:∀m,s.heap.Ns X.env.locals m→h'.Ns X.env.locals m) (bw:ip X.prog X.w H' h') (hg:AllBare g') :
  Inv X pins σ H' {s with heap:=h',gens:=g',drawn:=d',toks:=t'}:=by
 have neL:∀b o,X.s₀.heap.get? b=some o→b≠X.env.locals:=fun b o e=>Nat.ne_of_lt (Nat.lt_of_lt_of_le (Heap.lt_size e) I.ok.above)
 have ZW:∀b o,X.s₀.heap.get? b=some o→b∉X.ex→b∉ch:=fun b o e hx hb=>by
  rcases (Lm b hb).1 with z | z
  ·exact hx z
  ·exact absurd (Nat.lt_of_lt_of_le (Heap.lt_size e) z) (Nat.lt_irrefl _)
 have cellK:∀x c,X.env.cells.lookup x=some c→∀v,s.heap.IsCell c v→h'.IsCell c v:=fun x c e v ⟨o,ho,hd⟩=>by
  have Ly:c∉ch:=fun z=>(Lm c z).2.2.1 x c e rfl
  by_cases hc:c∈X.fs
  ·obtain⟨sl,q⟩:=slot c o (I.GV x c e) hc Ly ho (I.ez x c e)
   exact⟨_,q,hd⟩
  ·exact⟨o,keep c o (I.GV x c e) hc Ly ho (I.ez x c e),hd⟩
 refine⟨I.ok,I.os,hg,⟨fun b o e n hb hx=>?_,fun b o e n hb hx=>?_,fun b o e n hx=>?_,fun b o e hx=>?_,fun b xs e=>ny b xs (I.base.ny b xs e),fun b o xs e=>lH b o xs (I.base.lH b o xs e),fun b ps e=>?_⟩,?_,fun x c e=>?_,?_,fun x c e=>?_,fun p hp=>?_,bw,I.len⟩
 ·exact keep b o (neL b o e) hb (ZW b o e hx) (I.base.keep b o e n hb hx) (I.base.free b o e n hx)
 ·obtain⟨sl,e1⟩:=I.base.slot b o e n hb hx
  obtain⟨sl',e2⟩:=slot b _ (neL b o e) hb (ZW b o e hx) e1 (I.base.free b o e n hx)
  exact⟨sl',e2⟩
 ·obtain⟨o',e1⟩:=I.base.there b o e hx
  exact free b o' (ZW b o e hx) e1 (I.base.free b o e n hx)
 ·obtain⟨o',e1⟩:=I.base.there b o e hx
  exact there b o' (ZW b o e hx) e1
 ·obtain⟨m1,e1⟩:=I.base.nB b ps e
  obtain⟨m2,e2⟩:=nB b _ e1
  exact⟨m1++m2,by rw [e2,Array.append_assoc]⟩
 ·obtain⟨m,hn,hl⟩:=I.loc
  refine⟨m,ns m hn,fun i x v e1 e2 e3=>?_⟩
  obtain⟨u,r,l⟩:=hl i x v e1 e2 e3
  refine⟨u,r,?_⟩
  rcases l with l | ⟨k,c,e,z⟩
  ·exact .inl l
  ·exact .inr ⟨k,c,e,cellK x c e _ z⟩
 ·obtain⟨v,z⟩:=I.cell x c e
  exact⟨v,cellK x c e v z⟩
 ·obtain⟨m,⟨o,_,_,ho,_⟩,_⟩:=I.loc
  exact free _ o (fun z=>(Lm _ z).2.1 rfl) ho I.free
 ·obtain⟨v,o,ho,hd⟩:=I.cell x c e
  exact free c o (fun z=>(Lm c z).2.2.1 x c e rfl) ho (I.ez x c e)
 ·obtain⟨e,n,ne,nf,d⟩:=I.pin p hp
  have Ly:p.1∉ch:=fun z=>(Lm p.1 z).2.2.2 p hp rfl
  exact⟨keep p.1 p.2 ne nf Ly e n,free p.1 p.2 Ly e n,ne,nf,d⟩
theorem Inv.un {t':Nat}(I:Inv X pins σ H s) (u:Un X.fs [] H H' s.heap h') (bw:ip X.prog X.w H' h'):Inv X pins σ H' {s with heap:=h',toks:=t'}:=by
 obtain⟨m,⟨o,es,ep,ho,r⟩,_⟩:=id I.loc
 obtain⟨sl,hL⟩:=u.any ho I.free (by simp)
 exact I.step (g':=s.gens) (d':=s.drawn) (ch:=[]) (fun _ z=>nomatch z) (fun b o _ hb _ e n=>u.keep b o e n hb (by simp)) (fun b o _ hb _ e n=>u.slot b o e n hb (by simp)) (fun b o _ e n=>u.free b o e n (by simp)) (fun b o _ e=>u.there b o e (by simp)) u.ny u.lH u.nB (fun m' hm=>by
  obtain⟨o',Q_,ep',Bv,r'⟩:=hm
  rw [ho] at Bv; cases Bv
  exact⟨_,Q_,ep',hL,r'⟩) bw I.bare
theorem Inv.call {g':Array GenState}{t':Nat}{d':Drawn}{ch:List Addr}(I:Inv X pins σ H s) (u:Un (mE X.stack) ch H H' s.heap h') (bw:ip X.prog X.w H' h') (hg:AllBare g')
  (Lm:∀b∈ch,(b∈X.ex∨X.s₀.heap.objs.size≤b)∧b≠X.env.locals∧(∀x c,X.env.cells.lookup x=some c→c≠b)∧∀p∈X.pn++pins,p.1≠b) :
  Inv X pins σ H' {s with heap:=h',gens:=g',drawn:=d',toks:=t'}:=by
 obtain⟨m,⟨o,es,ep,ho,r⟩,_⟩:=id I.loc
 obtain⟨sl,hL⟩:=u.any ho I.free fun z=>(Lm _ z).2.1 rfl
 exact I.step (ch:=ch) Lm (fun b o hL hb hc e n=>u.keep b o e n (fun z=>(List.mem_cons.mp (I.uF b z)).elim hL hb) hc) (fun b o _ _ hc e n=>u.any e n hc) (fun b o hc e n=>u.free b o e n hc) (fun b o hc e=>u.there b o e hc) u.ny u.lH u.nB (fun m' hm=>by
  obtain⟨o',Q_,ep',Bv,r'⟩:=hm
  rw [ho] at Bv; cases Bv
  exact⟨_,Q_,ep',hL,r'⟩) bw hg
theorem Inv.turned {t':Nat}{it:Addr}(I:Inv X pins σ H s) (k:∀b o,b≠it→s.heap.get? b=some o→h'.get? b=some o) (hn:H it=none) (hL:it≠X.env.locals)
  (h1:it∈X.ex∨X.s₀.heap.objs.size≤it) (h2:∀x c,X.env.cells.lookup x=some c→c≠it) (h3:∀p∈X.pn++pins,p.1≠it):Inv X pins σ H {s with heap:=h',toks:=t'}:=by
 have nit:∀b u,H b=some u→b≠it:=fun b u e z=>by rw [z,hn] at e; cases e
 refine I.step (g':=s.gens) (d':=s.drawn) (ch:=[it]) (fun b hb=>?_) (fun b o _ _ hc e _=>k b o (fun z=>hc (by simp [z])) e) (fun b o _ _ hc e _=>⟨o.slots,k b o (fun z=>hc (by simp [z])) e⟩) (fun _ _ _ _ n=>n)
  (fun b o hc e=>⟨o,k b o (fun z=>hc (by simp [z])) e⟩) (fun _ _ e=>e) (fun _ _ _ e=>e) (fun b ps e=>⟨#[],by rw [e]; simp⟩) (fun m hm=>?_) (fun b u e=>?_) I.bare
 ·have e:b=it:=by simpa using hb
  subst e
  exact⟨h1,hL,h2,h3⟩
 ·obtain⟨o,es,ep,ho,r⟩:=hm
  exact⟨o,es,ep,k _ o (Ne.symm hL) ho,r⟩
 ·refine(I.bw b u e).rH (fun c v hc q=>k c v ?_ q) (fun _ q=>q) fun _ _ q=>q
  rcases hc with z | z
  ·rw [z]; exact nit b u e
  ·exact nit c _ z
theorem Inv.tok (I:Inv X pins σ H s) (t:Nat):Inv X pins σ H {s with toks:=t}:=I.un (h':=s.heap) (t':=t) Un.refl I.bw
theorem Inv.kept {t':Nat}(I:Inv X pins σ H s) (k:∀b u,s.heap.get? b=some u→h'.get? b=some u):Inv X pins σ H {s with heap:=h',toks:=t'}:=I.un (Un.kept k) (I.bw.kept k)
theorem Inv.laid {a:Addr}{o:HO}{t':Nat}(I:Inv X pins σ H s) (k:∀b u,s.heap.get? b=some u→h'.get? b=some u) (hp:s.heap.objs.size≤a) (new:b9 X.prog X.w (upd H a o) h' a o) :
  Inv X pins σ (upd H a o) {s with heap:=h',toks:=t'}:=I.un (Un.laid k hp (I.bw.fresh hp)) (I.bw.laid k hp new)
theorem Inv.write {x e:Addr}{o:HO}{t':Nat}(I:Inv X pins σ H s) (mu:Vj (H x)) (he:e=x∨H e=some (.own x)) (k:∀b u,b≠e→s.heap.get? b=some u→h'.get? b=some u) (U0:∃u,h'.get? e=some u)
  (new:b9 X.prog X.w (upd H x o) h' x o):Inv X pins σ (upd H x o) {s with heap:=h',toks:=t'}:=I.un (Un.write mu he k U0) (I.bw.write mu he k U0 new)
theorem Inv.Ez {NT:List (Addr×Obj)}(I:Inv X pins σ H s) (h:∀p∈NT,s.heap.get? p.1=some p.2∧H p.1=none∧p.1≠X.env.locals∧p.1∉X.fs∧∀v,p.2.data≠.cell v):Inv X NT σ H s:=
 ⟨I.ok,I.os,I.bare,I.base,I.loc,I.cell,I.free,I.ez,fun p hp=>(List.mem_append.mp hp).elim (fun z=>I.pin p (List.mem_append_left _ z)) (h p),I.bw,I.len⟩
theorem oC {N:List Str}(hN:N.Nodup) {i j:Nat}{x:Str}(a:N[i]?=some x) (b:N[j]?=some x):i=j:=by
 obtain⟨h1,e1⟩:=List.getElem?_eq_some_iff.mp a
 obtain⟨h2,e2⟩:=List.getElem?_eq_some_iff.mp b
 exact(List.getElem_inj hN).mp (e1.trans e2.symm)
theorem Fo {M:Model}{A:Around}{E:Value→Shared→Prop}{i:Nat}{x:Str}{v:V}{u:Value}{Q:Unit→Shared→Prop}(I:Inv X pins σ H s) (hN:X.N.Nodup) (hi:X.N[i]?=some x) (hx:Loc X.env.scope x) (r:RelV v u)
  (h:∀s',Inv X pins (σ.set i (some v)) H s'→(∃a,Heap.SameBut a s.heap s'.heap∧(a=X.env.locals∨X.env.cells.lookup x=some a))→Q () s') (hf:X.fn x=true∨X.env.scope.names.lookup x=some .local:=by first | exact .inl rfl | exact .inr rfl | assumption):wpAny M A (storeName X.env x u) Q E s:=by
 obtain⟨m,hn,hl⟩:=id I.loc
 have Bw:(X.env.scope.kind == .class || (X.env.scope.kind == .module&&X.env.locals != X.env.globals))=false:=by rw [I.ok.kind]; rfl
 have Fp:i < σ.length:=by rw [I.len]; exact(List.getElem?_eq_some_iff.mp hi).1
 have GV:=I.GV
 have tracked:∀{a:Addr}{h':Heap},(∃o,s.heap.get? a=some o∧H a=none)→Heap.SameBut a s.heap h'→ip X.prog X.w H h':=fun {a h'} ha hs b ob e=>by
  obtain⟨_,_,NU⟩:=ha
  refine(I.bw b ob e).rH (fun c w' hc q=>(hs.2 c ?_).trans q) (fun _ q=>q) fun _ _ q=>q
  rintro rfl
  rcases hc with rfl | hc
  ·rw [NU] at e; cases e
  ·rw [NU] at hc; cases hc
 rcases hx with hk | hk
 ·refine wpAny_storeName_local hk hn (fun h' hn' hs=>?_) Bw
  obtain⟨oL,_,_,hoL,_⟩:=id hn
  refine h _ ⟨I.ok,I.os,I.bare,⟨fun b o e n hb hx=>?_,fun b o e n hb hx=>?_,I.base.free,fun b o e hx=>?_,I.base.ny,I.base.lH,I.base.nB⟩,⟨_,hn',fun j y v' e1 e2 e3=>?_⟩,fun y c e=>?_,I.free,I.ez,fun p hp=>?_,tracked ⟨oL,hoL,I.free⟩ hs,by simpa using I.len⟩ ⟨_,hs,.inl rfl⟩
  ·exact(hs.2 b (Nat.ne_of_lt (Nat.lt_of_lt_of_le (Heap.lt_size e) I.ok.above))).trans (I.base.keep b o e n hb hx)
  ·obtain⟨sl,e1⟩:=I.base.slot b o e n hb hx
   exact⟨sl,(hs.2 b (Nat.ne_of_lt (Nat.lt_of_lt_of_le (Heap.lt_size e) I.ok.above))).trans e1⟩
  ·obtain⟨o',e1⟩:=I.base.there b o e hx
   exact⟨o',(hs.2 b (Nat.ne_of_lt (Nat.lt_of_lt_of_le (Heap.lt_size e) I.ok.above))).trans e1⟩
  ·by_cases hj:j=i
   ·subst hj
    rw [hi] at e1; cases e1
    rw [List.getElem?_set_self Fp] at e2
    cases e2
    exact⟨u,r,.inl ⟨hk,by simp⟩⟩
   ·rw [List.getElem?_set_ne (Ne.symm hj)] at e2
    obtain⟨u',r',q⟩:=hl j y v' e1 e2 e3
    refine⟨u',r',?_⟩
    rcases q with ⟨k,e⟩ | ⟨k,c,e,z⟩
    ·refine .inl ⟨k,?_⟩
     have:y≠x:=fun e=>hj (oC hN e1 (e▸hi))
     simp [this,e]
    ·exact .inr ⟨k,c,e,z.sameBut hs (GV y c e)⟩
  ·obtain⟨w',z⟩:=I.cell y c e
   exact⟨w',z.sameBut hs (GV y c e)⟩
  ·obtain⟨e,n,ne,nf,d⟩:=I.pin p hp
   exact⟨(hs.2 p.1 ne).trans e,n,ne,nf,d⟩
 ·have hfn:X.fn x=true:=by
   rcases hf with z | z
   ·exact z
   ·rw [z] at hk; cases hk
  obtain⟨c,hc⟩:=I.ok.has x (.inl hk)
  obtain⟨w',z⟩:=I.cell x c hc
  refine wpAny_storeName_cell I.ok.kind hk hc z (fun h' NV hs=>?_)
  obtain⟨oc,hoc,aac⟩:=id z
  refine h {s with heap:=h'} ⟨I.ok,I.os,I.bare,⟨fun b o e n hb hx=>?_,fun b o e n hb hx=>?_,I.base.free,fun b o e hx=>?_,I.base.ny,I.base.lH,I.base.nB⟩,⟨m,hn.sameBut hs (Ne.symm (GV x c hc)),fun j y v' e1 e2 e3=>?_⟩,fun y c' e=>?_,I.free,I.ez,fun p hp=>?_,tracked ⟨oc,hoc,I.ez x c hc⟩ hs,by simpa using I.len⟩ ⟨c,hs,.inr hc⟩
  ·exact(hs.2 b (Nat.ne_of_lt (Nat.lt_of_lt_of_le (Heap.lt_size e) (I.ok.NS x c hfn hc)))).trans (I.base.keep b o e n hb hx)
  ·obtain⟨sl,e1⟩:=I.base.slot b o e n hb hx
   exact⟨sl,(hs.2 b (Nat.ne_of_lt (Nat.lt_of_lt_of_le (Heap.lt_size e) (I.ok.NS x c hfn hc)))).trans e1⟩
  ·obtain⟨o',e1⟩:=I.base.there b o e hx
   exact⟨o',(hs.2 b (Nat.ne_of_lt (Nat.lt_of_lt_of_le (Heap.lt_size e) (I.ok.NS x c hfn hc)))).trans e1⟩
  ·by_cases hj:j=i
   ·subst hj
    rw [hi] at e1; cases e1
    rw [List.getElem?_set_self Fp] at e2
    cases e2
    exact⟨u,r,.inr ⟨.inl hk,c,hc,NV⟩⟩
   ·rw [List.getElem?_set_ne (Ne.symm hj)] at e2
    obtain⟨u',r',q⟩:=hl j y v' e1 e2 e3
    refine⟨u',r',?_⟩
    rcases q with q | ⟨k,c',e,z'⟩
    ·exact .inl q
    ·refine .inr ⟨k,c',e,z'.sameBut hs ?_⟩
     rintro rfl
     exact hj (oC hN e1 (I.ok.inj _ _ _ e hc▸hi))
  ·by_cases hcc:c'=c
   ·subst hcc; exact⟨_,NV⟩
   ·obtain⟨w2,z2⟩:=I.cell y c' e
    exact⟨w2,z2.sameBut hs hcc⟩
  ·obtain⟨e,n,ne,nf,d⟩:=I.pin p hp
   refine⟨(hs.2 p.1 ?_).trans e,n,ne,nf,d⟩
   intro q
   rw [q,hoc] at e
   have q':oc=p.2:=Option.some.inj e
   exact d w' (by rw [←q']; exact aac)
theorem iq {M:Model}{A:Around}{E:Value→Shared→Prop}{i:Nat}{x:Str}{v:V}{u:Value}{Q:Unit→Shared→Prop}(I:Inv X pins σ H s) (hN:X.N.Nodup) (hi:X.N[i]?=some x) (hx:Loc X.env.scope x) (r:RelV v u)
  (h:∀s',Inv X pins (σ.set i (some v)) H s'→Q () s') (hf:X.fn x=true∨X.env.scope.names.lookup x=some .local:=by first | exact .inl rfl | exact .inr rfl | assumption):wpAny M A (storeName X.env x u) Q E s:=
 Fo I hN hi hx r (fun s' I' _=>h s' I') hf
theorem Inv.EA {s':Shared}{ch:List Addr}(I:Inv X pins σ H s) (ho:s'.os=s.os) (u:Un (mE X.stack) ch H H' s.heap s'.heap) (bw:ip X.prog X.w H' s'.heap) (hg:AllBare s'.gens)
  (Lm:∀b∈ch,(b∈X.ex∨X.s₀.heap.objs.size≤b)∧b≠X.env.locals∧(∀x c,X.env.cells.lookup x=some c→c≠b)∧∀p∈X.pn++pins,p.1≠b):Inv X pins σ H' s':=by
 obtain⟨h',g',d',t',o'⟩:=s'
 have e:o'=s.os:=ho
 subst e
 exact I.call (g':=g') (t':=t') (d':=d') u bw hg Lm
end
noncomputable abbrev XK:=Value→Option Addr→Hp→Prop
noncomputable abbrev St:=List (Option V)
noncomputable abbrev VK:=V→Hp→Prop
noncomputable abbrev TE:=St→Hp→VK→Prop
noncomputable abbrev TT:=St→Hp→(Bool→Hp→Prop)→Prop
noncomputable abbrev TA:=St→Hp→(List V→Hp→Prop)→Prop
structure Ends where
 nx:St→Hp→Prop
 rt:VK
 bk:St→Hp→Prop:=fun _ _=>False
 ct:St→Hp→Prop:=fun _ _=>False
noncomputable abbrev TS:=Ends→St→Hp→Prop
noncomputable def EP (X:Cx) (pins:List (Addr×Obj)) (σ:St) (Q:VK) (u:Value) (s':Shared):Prop:=∃v H',Inv X pins σ H' s'∧RelV v u∧Q v H'
noncomputable def TP (X:Cx) (pins:List (Addr×Obj)) (σ:St) (Q:Bool→Hp→Prop) (b:Bool) (s':Shared):Prop:=∃H',Inv X pins σ H' s'∧Q b H'
noncomputable def AP (X:Cx) (pins:List (Addr×Obj)) (σ:St) (Q:List V→Hp→Prop) (us:List Value) (s':Shared):Prop:=∃vs H',Inv X pins σ H' s'∧Vals vs us∧Q vs H'
noncomputable def SP (X:Cx) (pins:List (Addr×Obj)) (D:Ends) (f:Flow) (s':Shared):Prop:=
 match f with
 | .next=>∃σ' H',Inv X pins σ' H' s'∧D.nx σ' H'
 | .brk=>∃σ' H',Inv X pins σ' H' s'∧D.bk σ' H'
 | .cont=>∃σ' H',Inv X pins σ' H' s'∧D.ct σ' H'
 | .ret u=>∃v σ' H',Inv X pins σ' H' s'∧RelV v u∧D.rt v H'
noncomputable def PE (X:Cx) (e:Expr) (t:TE):Prop:=
 ∀(pins:List (Addr×Obj)) (s:Shared) (σ:St) (H:Hp) (Q:VK),Inv X pins σ H s→t σ H Q→wpAny (model X.prog X.w) X.A (eval e X.env) (EP X pins σ Q) X.xe s
noncomputable def PT (X:Cx) (e:Expr) (t:TT):Prop:=
 ∀(pins:List (Addr×Obj)) (s:Shared) (σ:St) (H:Hp) (Q:Bool→Hp→Prop),Inv X pins σ H s→t σ H Q→wpAny (model X.prog X.w) X.A (isTrue e X.env (eval e X.env)) (TP X pins σ Q) X.xe s
noncomputable def PW (X:Cx) (e:Expr) (t:TT):Prop:=
 ∀(whole:Sem Value) (pins:List (Addr×Obj)) (s:Shared) (σ:St) (H:Hp) (Q:Bool→Hp→Prop),Inv X pins σ H s→t σ H Q→wpAny (model X.prog X.w) X.A (isTrue e X.env whole) (TP X pins σ Q) X.xe s
theorem PW.pt {X:Cx}{e:Expr}{t:TT}(h:PW X e t):PT X e t:=h _
noncomputable def PA (X:Cx) (es:List Expr) (t:TA):Prop:=
 ∀(pos:Pos) (pins:List (Addr×Obj)) (s:Shared) (σ:St) (H:Hp) (Q:List V→Hp→Prop),Inv X pins σ H s→t σ H Q→wpAny (model X.prog X.w) X.A (spliced (backTo pos (starEach es X.env))) (AP X pins σ Q) X.xe s
noncomputable def PS (X:Cx) (st:Stmt) (t:TS):Prop:=
 ∀(pins:List (Addr×Obj)) (s:Shared) (σ:St) (H:Hp) (D:Ends),Inv X pins σ H s→t D σ H→wpAny (model X.prog X.w) X.A (exec st X.env) (SP X pins D) X.xe s
noncomputable def xm (X:Cx) (st:List Stmt) (t:TS):Prop:=
 ∀(pins:List (Addr×Obj)) (s:Shared) (σ:St) (H:Hp) (D:Ends),Inv X pins σ H s→t D σ H→wpAny (model X.prog X.w) X.A (execs st X.env) (SP X pins D) X.xe s
theorem b_ {α:Type}{t:Sem α}{Q Q':α→Shared→Prop}{M:Model}{A:Around}{E:Value→Shared→Prop}{s:Shared}(h:wpAny M A t Q E s) (hQ:∀a s,Q a s→Q' a s):wpAny M A t Q' E s:=wpAny_mono h hQ fun _ _ x=>x
end L2
namespace L2
open PySem PySem.Spec PyProof.Rows
section
variable {X:Cx}
theorem bin {a b:Expr}{ta tb:TE}(ha:PE X a ta) (hb:PE X b tb) {pins:List (Addr×Obj)}{s:Shared}{σ:St}{H:Hp}{R:V→V→Hp→Prop}(I:Inv X pins σ H s) (h:ta σ H fun x H1=>tb σ H1 fun y H2=>R x y H2)
  {α:Type}{Q:α→Shared→Prop}{f:Value→Value→Sem α}
  (hf:∀v u s2 x y H2,Inv X pins σ H2 s2→RelV x v→RelV y u→R x y H2→wpAny (model X.prog X.w) X.A (f v u) Q X.xe s2) :
  wpAny (model X.prog X.w) X.A (eval a X.env) (fun v s₁=>wpAny (model X.prog X.w) X.A (eval b X.env) (fun u s₂=>wpAny (model X.prog X.w) X.A (f v u) Q X.xe s₂) X.xe s₁) X.xe s:=by
 refine b_ (ha pins s σ H _ I h) fun v s1 ⟨x,H1,I1,r1,q1⟩=>?_
 refine b_ (hb pins s1 σ H1 _ I1 q1) fun u s2 ⟨y,H2,I2,r2,q2⟩=>?_
 exact hf v u s2 x y H2 I2 r1 r2 q2
noncomputable def Bx (i:Nat):TE:=fun σ H Q=>∃v,σ[i]?=some (some v)∧Q v H
noncomputable def tC (v:V):TE:=fun _ H Q=>Q v H
theorem Ra {i:Nat}{x:Str}{pos:Pos}(hN:X.N[i]?=some x) (hv:ZV X.env.scope x) (hd:(x == ("__debug__":Str))=false:=by decide) (Fq:(x == ("__classdict__":Str))=false:=by decide):PE X (.Name x pos) (Bx i):=by
 intro pins s σ H Q I h
 obtain⟨v,e,h⟩:=h
 obtain⟨m,hn,hl⟩:=I.loc
 obtain⟨u,r,l⟩:=hl i x v hN e hv
 have fin:EP X pins σ Q u s:=⟨v,H,I,r,h⟩
 rcases l with ⟨hk,hm⟩ | ⟨hk,c,hc,tI⟩
 ·exact wpAny_Name (wpAny_loadName_local I.ok.kind hk hn hm fin) hd
 ·rcases hk with hk | hk
  ·exact wpAny_Name (wpAny_loadName_cell I.ok.kind hk hc tI fin) hd
  ·exact wpAny_Name (wpAny_loadName_free I.ok.kind hk hc tI fin Fq) hd
theorem ai {i j pos}:PE X (.Constant (.int i) j pos) (tC (.int i)):=fun _ _ _ H _ I h=>wpAny_Constant_int ⟨.int i,H,I.tok _,⟨_,rfl⟩,h⟩
theorem eU {b j pos}:PE X (.Constant (.bool b) j pos) (tC (.bl b)):=fun _ _ _ H _ I h=>Constant_bool ⟨.bl b,H,I,rfl,h⟩
theorem bV {j pos}:PE X (.Constant .none j pos) (tC .bj):=fun _ _ _ H _ I h=>Constant_none ⟨.bj,H,I,rfl,h⟩
theorem av {x j pos}:PE X (.Constant (.str x) j pos) (tC (.str x)):=fun _ _ _ H _ I h=>Calls.Constant_str ⟨.str x,H,I.tok _,⟨_,rfl⟩,h⟩
noncomputable def Gl (X:Cx) (x:Str):Prop:=X.env.kindOf x=some .globalImplicit
theorem i8 {E:Value→Shared→Prop}{pins:List (Addr×Obj)}{s:Shared}{σ:St}{H:Hp}{x:Str}{u:Value}{pos:Pos}{Q:Value→Shared→Prop}(I:Inv X pins σ H s) (hg:Gl X x) (hm:X.mg x=some u) (h:Q u s)
  (hd:(x == ("__debug__":Str))=false:=by decide):wpAny (model X.prog X.w) X.A (eval (.Name x pos) X.env) Q E s:=
 Calls.Name_function_global I.ok.kind hg (Calls.loadGlobal_global (by rw [I.ok.glob]; exact I.mod.glob.keeps I.bk) hm h) hd
theorem uG {E:Value→Shared→Prop}{pins:List (Addr×Obj)}{s:Shared}{σ:St}{H:Hp}{x:Str}{u:Value}{pos:Pos}{Q:Value→Shared→Prop}(I:Inv X pins σ H s) (hg:Gl X x) (hm:X.mg x=none) (hv:bootBuiltins x=some u) (h:Q u s)
  (hn:x≠"__name__":=by decide) (hd:(x == ("__debug__":Str))=false:=by decide):wpAny (model X.prog X.w) X.A (eval (.Name x pos) X.env) Q E s:=by
 obtain⟨mb,h1,h2⟩:=I.mod.blt
 exact Calls.Name_function_global I.ok.kind hg (Calls.loadGlobal_builtin (by rw [I.ok.glob]; exact I.mod.glob.keeps I.bk) hm (by rw [I.ok.blt]; exact h1.keeps I.bk) ((h2 x hn).trans hv) h) hd
theorem bJ {x:Str}{v:V}{u:Value}{pos:Pos}(hg:Gl X x) (hm:X.mg x=some u) (r:RelV v u) (hd:(x == ("__debug__":Str))=false:=by decide):PE X (.Name x pos) (tC v):=
 fun _ _ _ H _ I h=>i8 I hg hm ⟨v,H,I,r,h⟩ hd
theorem bx {x:Str}{v:V}{u:Value}{pos:Pos}(hg:Gl X x) (hm:X.mg x=none) (hv:bootBuiltins x=some u) (r:RelV v u) (hn:x≠"__name__":=by decide) (hd:(x == ("__debug__":Str))=false:=by decide):PE X (.Name x pos) (tC v):=
 fun _ _ _ H _ I h=>uG I hg hm hv ⟨v,H,I,r,h⟩ hn hd
variable {a b:Expr}{ta tb:TE}{pos:Pos}
noncomputable def PC (X:Cx) (op:CmpOp) (a b:Expr) (t:TE):Prop:=
 ∀(pins:List (Addr×Obj)) (s:Shared) (σ:St) (H:Hp) (Q:VK),Inv X pins σ H s→t σ H Q →
  wpAny (model X.prog X.w) X.A (eval a X.env) (fun v s₁=>wpAny (model X.prog X.w) X.A (eval b X.env) (fun u s₂=>wpAny (model X.prog X.w) X.A (compareOp op v u) (EP X pins σ Q) X.xe s₂) X.xe s₁) X.xe s
theorem GW (b:Expr) {op:CmpOp}(h:op≠.In) (h2:op≠.NotIn):behindInMarks op b=false:=by
 have e1:(op == CmpOp.In)=false:=by cases op <;> first | rfl | exact absurd rfl h
 have e2:(op == CmpOp.NotIn)=false:=by cases op <;> first | rfl | exact absurd rfl h2
 cases b <;> simp [behindInMarks,e1,e2]
noncomputable def tB (t:TE):TT:=fun σ H Q=>t σ H fun x H1=>∃c,x=.bl c∧Q c H1
theorem GX {op:CmpOp}{t:TE}(h:PC X op a b t) (h1:behindInMarks op b=false:=by first | exact GW _ (by decide) (by decide) | rfl):PT X (.Compare a [op] [b] pos) (tB t):=by
 intro pins s σ H Q I hw
 refine wpAny_isTrue_Compare1 (b_ (h pins s σ H _ I hw) fun v s1 h1=>b_ h1 fun u s2 h2=>b_ h2 fun c s3 ⟨x,H1,I1,r1,q1⟩=>?_) h1
 obtain⟨d,rfl,q⟩:=q1
 cases r1
 exact wpAny_truthy_bool ⟨H1,I1,q⟩
theorem cJ {e:Expr}{t:TE}(h:PE X e t) (he:∀whole,isTrue e X.env whole=(do let v ←whole; standAt e.pos; holding [v] (truthy v)):=by intro _; rfl):PT X e (tB t):=by
 intro pins s σ H Q I hw
 refine isTrue_plain (b_ (h pins s σ H _ I hw) fun v s1 ⟨x,H1,I1,r1,q1⟩=>?_) (he _)
 obtain⟨d,rfl,q⟩:=q1
 cases r1
 exact wpAny_truthy_bool ⟨H1,I1,q⟩
variable {tA ZX:TT}{rest:List Expr}
noncomputable def Vm (t u:TT):TT:=fun σ H Q=>t σ H fun c H1=>if c=true then u σ H1 Q else Q false H1
noncomputable def tOr (t u:TT):TT:=fun σ H Q=>t σ H fun c H1=>if c=true then Q true H1 else u σ H1 Q
noncomputable def Vn (t:TT):TT:=fun σ H Q=>t σ H fun c H1=>Q (!c) H1
theorem oh (ha:PT X a tA):PW X (.BoolOp .And [a] pos) tA:=by
 intro wh pins s σ H Q I h
 refine isTrue_and (b_ (ha pins s σ H Q I h) fun c s1 e=>?_)
 cases c with
 | true=>exact isTrue_and_nil e
 | false=>exact e
theorem fh (ha:PT X a tA):PW X (.BoolOp .Or [a] pos) tA:=by
 intro wh pins s σ H Q I h
 refine isTrue_or (b_ (ha pins s σ H Q I h) fun c s1 e=>?_)
 cases c with
 | false=>exact isTrue_or_nil e
 | true=>exact e
theorem uH (ha:PT X a tA) (hb:PW X (.BoolOp .And (b::rest) pos) ZX):PW X (.BoolOp .And (a::b::rest) pos) (Vm tA ZX):=by
 intro wh pins s σ H Q I h
 refine isTrue_and (b_ (ha pins s σ H _ I h) fun c s1 ⟨H1,I1,q1⟩=>?_)
 cases c with
 | true=>exact hb wh pins s1 σ H1 Q I1 q1
 | false=>exact⟨H1,I1,q1⟩
theorem fX (ha:PT X a tA) (hb:PW X (.BoolOp .Or (b::rest) pos) ZX):PW X (.BoolOp .Or (a::b::rest) pos) (tOr tA ZX):=by
 intro wh pins s σ H Q I h
 refine isTrue_or (b_ (ha pins s σ H _ I h) fun c s1 ⟨H1,I1,q1⟩=>?_)
 cases c with
 | true=>exact⟨H1,I1,q1⟩
 | false=>exact hb wh pins s1 σ H1 Q I1 q1
theorem fP (ha:PT X a tA):PT X (.UnaryOp .Not a pos) (Vn tA):=by
 intro pins s σ H Q I h
 exact isTrue_not (ha pins s σ H (fun c H1=>Q (!c) H1) I h)
noncomputable def NW (ta tb:TE):TE:=fun σ H Q=>ta σ H fun x H1=>∃c,x=.bl c∧if c=true then tb σ H1 Q else Q (.bl false) H1
noncomputable def Vo (ta tb:TE):TE:=fun σ H Q=>ta σ H fun x H1=>∃c,x=.bl c∧if c=true then Q (.bl true) H1 else tb σ H1 Q
noncomputable def GY (ta:TE):TE:=fun σ H Q=>ta σ H fun x H1=>∃c,x=.bl c∧Q (.bl (!c)) H1
theorem jH {op} {t:TE}(h:PE X a t):PE X (.BoolOp op [a] pos) t:=fun pins s σ H Q I hw=>BoolOp_one (h pins s σ H Q I hw)
theorem ir (ha:PE X a ta) (hb:PE X (.BoolOp .And (b::rest) pos) tb):PE X (.BoolOp .And (a::b::rest) pos) (NW ta tb):=by
 intro pins s σ H Q I h
 refine BoolOp_and (b_ (ha pins s σ H _ I h) fun v s1 ⟨x,H1,I1,r1,q1⟩=>?_)
 obtain⟨c,rfl,q1⟩:=q1
 cases r1
 refine wpAny_truthy_bool ?_
 cases c with
 | true=>exact hb pins s1 σ H1 Q I1 q1
 | false=>exact⟨.bl false,H1,I1,rfl,q1⟩
theorem Vp (ha:PE X a ta) (hb:PE X (.BoolOp .Or (b::rest) pos) tb):PE X (.BoolOp .Or (a::b::rest) pos) (Vo ta tb):=by
 intro pins s σ H Q I h
 refine BoolOp_or (b_ (ha pins s σ H _ I h) fun v s1 ⟨x,H1,I1,r1,q1⟩=>?_)
 obtain⟨c,rfl,q1⟩:=q1
 cases r1
 refine wpAny_truthy_bool ?_
 cases c with
 | false=>exact hb pins s1 σ H1 Q I1 q1
 | true=>exact⟨.bl true,H1,I1,rfl,q1⟩
theorem uI (ha:PE X a ta):PE X (.UnaryOp .Not a pos) (GY ta):=by
 intro pins s σ H Q I h
 refine UnaryOp_ (b_ (ha pins s σ H _ I h) fun v s1 ⟨x,H1,I1,r1,q1⟩=>?_)
 obtain⟨c,rfl,q1⟩:=q1
 cases r1
 exact not_of (wpAny_truthy_bool ⟨.bl (!c),H1,I1,rfl,q1⟩)
noncomputable def tIf (t:TT) (ta tb:TE):TE:=fun σ H Q=>t σ H fun c H1=>if c=true then ta σ H1 Q else tb σ H1 Q
theorem eV {c:Expr}(hc:PT X c tA) (ha:PE X a ta) (hb:PE X b tb):PE X (.IfExp c a b pos) (tIf tA ta tb):=by
 intro pins s σ H Q I h
 refine wpAny_IfExp (b_ (hc pins s σ H _ I h) fun d s1 ⟨H1,I1,q1⟩=>?_)
 cases d with
 | true=>exact ha pins s1 σ H1 Q I1 q1
 | false=>exact hb pins s1 σ H1 Q I1 q1
end
end L2
namespace L2
open PySem PySem.Spec PyProof.Rows
noncomputable def bN (K:PySem.W.Frag) (H:Hp) (a:Addr) (xs:List V):Prop:=
 Rd H a (.lst xs) ∨
  ∃(o:Obj) (bq:Array Value) (n:Nat),K.lookup a=some o∧o.cls=.type "list"∧o.dict=none∧o.data=.seq bq n∧bq.size≤sizeLine∧Vals xs bq.toList
noncomputable def bZ (K:PySem.W.Frag) (H:Hp) (a:Addr) (xs:List V):Prop:=
 Rd H a (.tup xs) ∨
  ∃(o:Obj) (bq:Array Value) (n:Nat),K.lookup a=some o∧o.cls=.type "tuple"∧o.data=.seq bq n∧bq.size≤sizeLine∧Vals xs bq.toList
noncomputable def aad:Value→Option V
 | .none=>some .bj
 | .bool b=>some (.bl b)
 | .int i _=>some (.int i)
 | .str x _=>some (.str x)
 | .bytes b _=>some (.GO b)
 | .float b _=>some (.Q4 b)
 | .ref a=>some (.ref a)
 | .type n=>some (.ty n)
 | _=>none
theorem RelV.abs {x:V}{u:Value}(r:RelV x u):aad u=some x:=by
 cases x with
 | bj=>cases r; rfl
 | bl _=>cases r; rfl
 | int _=>obtain⟨t,rfl⟩:=r; rfl
 | str _=>obtain⟨t,rfl⟩:=r; rfl
 | GO _=>obtain⟨t,rfl⟩:=r; rfl
 | Q4 _=>obtain⟨t,rfl⟩:=r; rfl
 | ref _=>cases r; rfl
 | ty _=>cases r; rfl
theorem RelV.inj {x y:V}{u:Value}(r:RelV x u) (q:RelV y u):x=y:=Option.some.inj (r.abs.symm.trans q.abs)
theorem Vals.inj:∀{xs ys:List V}{us:List Value},Vals xs us→Vals ys us→xs=ys
 | _,_,_,.nil,.nil=>rfl
 | _,_,_,.cons r t,.cons r' t'=>by rw [r.inj r',Vals.inj t t']
section
variable {X:Cx}{pins:List (Addr×Obj)}{σ:St}{H:Hp}{s:Shared}{a:Addr}{xs ys:List V}
theorem bN.of {K:PySem.W.Frag}(h:H a=some (.lst xs)):bN K H a xs:=.inl (.inl h)
theorem bZ.of {K:PySem.W.Frag}(h:H a=some (.tup xs)):bZ K H a xs:=.inl (.inl h)
theorem Inv.list (I:Inv X pins σ H s) (h:bN X.K H a xs):∃bq:List Value,Vals xs bq∧PlainL s.heap a bq.toArray∧xs.length≤sizeLine:=by
 rcases h with h | ⟨o,bq,n,hk,hc,hd,hs,hz,r⟩
 ·obtain⟨z,bq,n,r,e⟩:=h.ok I.bw
  exact⟨bq,r,⟨_,n,e,rfl,rfl,rfl⟩,z⟩
 ·refine⟨bq.toList,r,⟨o,n,I.eZ a o hk,hc,hd,by simpa using hs⟩,?_⟩
  have e:=r.length
  simp only [Array.length_toList] at e
  omega
theorem Inv.tuple (I:Inv X pins σ H s) (h:bZ X.K H a xs):∃bq:List Value,Vals xs bq∧IsTup s.heap a bq.toArray∧xs.length≤sizeLine:=by
 rcases h with h | ⟨o,bq,n,hk,hc,hs,hz,r⟩
 ·obtain⟨z,bq,r,p⟩:=h.ok I.bw
  exact⟨bq,r,p,z⟩
 ·refine⟨bq.toList,r,⟨o,I.eZ a o hk,hc,n,by simpa using hs⟩,?_⟩
  have e:=r.length
  simp only [Array.length_toList] at e
  omega
theorem Inv.xq (I:Inv X pins σ H s) (h:bN X.K H a xs) (h':bN X.K H a ys):xs=ys:=by
 obtain⟨bq,r,⟨o,n,e,_,_,d⟩,_⟩:=I.list h
 obtain⟨its',r',⟨o',n',e',_,_,d'⟩,_⟩:=I.list h'
 rw [e] at e'; cases e'
 rw [d] at d'
 injection d' with d1 _
 have:bq=its':=by simpa using congrArg Array.toList d1
 subst this
 exact r.inj r'
theorem Inv.tJ (I:Inv X pins σ H s) (h:bZ X.K H a xs) (h':bZ X.K H a ys):xs=ys:=by
 obtain⟨bq,r,⟨o,e,_,n,d⟩,_⟩:=I.tuple h
 obtain⟨its',r',⟨o',e',_,n',d'⟩,_⟩:=I.tuple h'
 rw [e] at e'; cases e'
 rw [d] at d'
 injection d' with d1 _
 have:bq=its':=by simpa using congrArg Array.toList d1
 subst this
 exact r.inj r'
end
noncomputable abbrev Cx.rJ (X:Cx) (E:Value→Shared→Prop):Cx:={X with xe:=E}
noncomputable abbrev Cx.Vq (X:Cx):Cx:=X.rJ fun _ _=>False
theorem Cx.Ok.rJ {X:Cx}(ok:X.Ok) (E:Value→Shared→Prop):(X.rJ E).Ok:=
 ⟨ok.mod,ok.kind,ok.glob,ok.blt,ok.above,ok.inj,ok.has,ok.NS,ok.hd,ok.frames,ok.Q8,ok.Lx,ok.bs,ok.Ey,ok.uD,ok.uE,ok.jG,ok.Ll⟩
theorem Cx.Ok.iu {X:Cx}{E:Value→Shared→Prop}(ok:(X.rJ E).Ok):X.Ok:=
 ⟨ok.mod,ok.kind,ok.glob,ok.blt,ok.above,ok.inj,ok.has,ok.NS,ok.hd,ok.frames,ok.Q8,ok.Lx,ok.bs,ok.Ey,ok.uD,ok.uE,ok.jG,ok.Ll⟩
section
variable {X:Cx}{pins:List (Addr×Obj)}{σ:St}{H:Hp}{s:Shared}{E:Value→Shared→Prop}
theorem Inv.rJ (I:Inv X pins σ H s) (E:Value→Shared→Prop):Inv (X.rJ E) pins σ H s:=⟨I.ok.rJ E,I.os,I.bare,I.base,I.loc,I.cell,I.free,I.ez,I.pin,I.bw,I.len⟩
theorem Inv.iu (I:Inv (X.rJ E) pins σ H s):Inv X pins σ H s:=⟨I.ok.iu,I.os,I.bare,I.base,I.loc,I.cell,I.free,I.ez,I.pin,I.bw,I.len⟩
theorem SP.iu {D:Ends}{f:Flow}{s':Shared}(h:SP (X.rJ E) pins D f s'):SP X pins D f s':=by
 cases f with
 | next=>obtain⟨σ',H',I,q⟩:=h; exact⟨σ',H',I.iu,q⟩
 | brk=>obtain⟨σ',H',I,q⟩:=h; exact⟨σ',H',I.iu,q⟩
 | cont=>obtain⟨σ',H',I,q⟩:=h; exact⟨σ',H',I.iu,q⟩
 | ret u=>obtain⟨v,σ',H',I,r,q⟩:=h; exact⟨v,σ',H',I.iu,r,q⟩
theorem xm.Vq {st:List Stmt}{t:TS}(h:xm X.Vq st t):xm X st t:=fun pins s σ H D I hw=>
 wpAny_mono (h pins s σ H D (I.rJ _) hw) (fun _ _ q=>q.iu) fun _ _ z=>False.elim z
end
section
variable {X:Cx}{st:Stmt}{rest:List Stmt}{t u:TS}{e:Expr}{te:TE}{pos:Pos}
noncomputable def NX:TS:=fun D σ H=>D.nx σ H
noncomputable def Vr (t u:TS):TS:=fun D σ H=>t {D with nx:=u D} σ H
theorem aH:xm X [] NX:=fun _ _ σ H _ I h=>wpAny_execs_nil ⟨σ,H,I,h⟩
theorem ag (h1:PS X st t) (h2:xm X rest u):xm X (st::rest) (Vr t u):=by
 intro pins s σ H D I h
 refine wpAny_execs_cons (b_ (h1 pins s σ H {D with nx:=u D} I h) fun f s1 q=>?_)
 cases f with
 | next=>
  obtain⟨σ',H',I',q⟩:=q
  exact h2 pins s1 σ' H' D I' q
 | ret v=>exact q
 | brk=>exact q
 | cont=>exact q
theorem ah (h1:PS X st t):xm X [st] t:=by
 intro pins s σ H D I h
 refine wpAny_execs_cons (b_ (h1 pins s σ H D I h) fun f s1 q=>?_)
 cases f with
 | next=>exact wpAny_execs_nil q
 | ret v=>exact q
 | brk=>exact q
 | cont=>exact q
theorem Inv.quiet {pins:List (Addr×Obj)}{σ:St}{H:Hp}{s:Shared}(I:Inv X pins σ H s):interactive X.env=false:=by simp [interactive,I.ok.kind]
noncomputable def NY (te:TE):TS:=fun D σ H=>te σ H fun _ H1=>D.nx σ H1
theorem a8 (he:PE X e te) (hs:swapsWith e none pos.line X.env=pure false:=by rfl):PS X (.Expr e pos) (NY te):=by
 intro pins s σ H D I h
 exact wpAny_Expr_any (b_ (he pins s σ H _ I h) fun v s1 ⟨x,H1,I1,r1,q1⟩=>⟨σ,H1,I1,q1⟩) I.quiet hs
noncomputable def Vs (te:TE):TS:=fun D σ H=>te σ H D.rt
theorem aw (he:PE X e te):PS X (.Return (some e) pos) (Vs te):=by
 intro pins s σ H D I h
 exact wpAny_Return_some (b_ (he pins s σ H _ I h) fun v s1 ⟨x,H1,I1,r1,q1⟩=>⟨x,σ,H1,I1,r1,q1⟩)
noncomputable def NZ:TS:=fun D _ H=>D.rt .bj H
theorem Lz:PS X (.Return none pos) NZ:=fun _ _ σ H _ I h=>wpAny_Return_none ⟨.bj,σ,H,I,rfl,h⟩
noncomputable def Vt (c:TT) (t u:TS):TS:=fun D σ H=>c σ H fun b H1=>if b=true then t D σ H1 else u D σ H1
theorem aR {c:Expr}{a b:List Stmt}{tc:TT}(hc:PT X c tc) (ha:xm X a t) (hb:xm X b u):PS X (.If c a b pos) (Vt tc t u):=by
 intro pins s σ H D I h
 refine wpAny_If (b_ (hc pins s σ H _ I h) fun d s1 ⟨H1,I1,q1⟩=>?_)
 cases d with
 | true=>exact ha pins s1 σ H1 D I1 q1
 | false=>exact hb pins s1 σ H1 D I1 q1
noncomputable def Rb:TS:=fun _ _ _=>False
end
noncomputable abbrev TG:=V→St→Hp→(St→Hp→Prop)→Prop
noncomputable abbrev N0:=List V→St→Hp→(St→Hp→Prop)→Prop
noncomputable def PG (X:Cx) (target:Expr) (t:TG):Prop:=
 ∀(pins:List (Addr×Obj)) (s:Shared) (σ:St) (H:Hp) (v:V) (u:Value) (Q:St→Hp→Prop),Inv X pins σ H s→RelV v u→t v σ H Q →
  wpAny (model X.prog X.w) X.A (assign target X.env u) (fun _ s'=>∃σ' H',Inv X pins σ' H' s'∧Q σ' H') X.xe s
noncomputable def ZY (X:Cx) (ts:List Expr) (t:N0):Prop:=
 ∀(pins:List (Addr×Obj)) (s:Shared) (σ:St) (H:Hp) (vs:List V) (us:List Value) (Q:St→Hp→Prop),Inv X pins σ H s→Vals vs us→t vs σ H Q →
  wpAny (model X.prog X.w) X.A (assignInOrder ((assignEach ts X.env).map (·.2)) us) (fun _ s'=>∃σ' H',Inv X pins σ' H' s'∧Q σ' H') X.xe s
noncomputable abbrev aae:=V→V→V→Hp→(Hp→Prop)→Prop
noncomputable abbrev TIp:=V→V→Hp→VK→Prop
section
variable {X:Cx}{pos:Pos}
noncomputable def oE (i:Nat):TG:=fun v σ H Q=>Q (σ.set i (some v)) H
theorem bL {i:Nat}{x:Str}(hN:X.N.Nodup) (hi:X.N[i]?=some x) (hx:Loc X.env.scope x) (hf:X.fn x=true∨X.env.scope.names.lookup x=some .local:=by first | exact .inl rfl | exact .inr rfl | assumption):PG X (.Name x pos) (oE i):=by
 intro pins s σ H v u Q I r h
 exact wpAny_assign_Name (iq I hN hi hx r (fun s' I'=>⟨_,H,I',h⟩) hf)
noncomputable def Rc:N0:=fun vs σ H Q=>vs=[]∧Q σ H
noncomputable def EB (t:TG) (u:N0):N0:=fun vs σ H Q=>∃v r,vs=v::r∧t v σ H fun σ' H'=>u r σ' H' Q
theorem gv:ZY X [] Rc:=by
 intro pins s σ H vs us Q I r h
 obtain⟨e,h⟩:=h
 subst e
 cases r
 exact assignInOrder_nil ⟨σ,H,I,h⟩
theorem cf {e:Expr}{es:List Expr}{t:TG}{u:N0}(h1:PG X e t) (h2:ZY X es u)
  (hs:(assignEach (e::es) X.env).map (·.2)=assign e X.env::(assignEach es X.env).map (·.2):=by rfl):ZY X (e::es) (EB t u):=by
 intro pins s σ H vs us Q I r h
 obtain⟨v,vr,e1,h⟩:=h
 subst e1
 cases r with
 | cons r rr=>
  rw [hs]
  refine assignInOrder_cons (b_ (h1 pins s σ H _ _ _ I r h) fun _ s1 ⟨σ1,H1,I1,q1⟩=>?_)
  exact h2 pins s1 σ1 H1 _ _ Q I1 rr q1
noncomputable def Rf (K:PySem.W.Frag) (n:Nat) (t:N0):TG:=fun v σ H Q=>∃a xs,v=.ref a∧bZ K H a xs∧xs.length=n∧t xs σ H Q
theorem jI {es:List Expr}{k:Nat}{t:N0}{n:Nat}(hc:X.calm=true) (h:ZY X es t)
  (hn:(assignEach es X.env).length=n:=by rfl) (Br:(assignEach es X.env).findIdx? (·.1)=none:=by rfl):PG X (.Tuple es k pos) (Rf X.K n t):=by
 intro pins s σ H v u Q I r hw
 obtain⟨a,xs,e1,hq,hl,hw⟩:=hw
 subst e1
 cases r
 obtain⟨bq,rv,ht,hz⟩:=I.tuple hq
 refine assign_Tuple_tuple (I.ok.hd hc) ht (by simp [hn,←hl,rv.length]) Br fun h' hx=>?_
 have I1:Inv X pins σ H {s with heap:=h'}:=I.kept (t':=s.toks) fun b o e=>hx b o (Nat.ne_of_lt (Heap.lt_size e)) e
 exact h pins _ σ H xs _ Q I1 (by simpa using rv) hw
noncomputable def aaf (to ti:TE) (t:aae):TG:=fun v σ H Q=>to σ H fun o H1=>ti σ H1 fun i H2=>t o i v H2 fun H3=>Q σ H3
noncomputable def Rg (te:TE) (g:TG):TS:=fun D σ H=>te σ H fun x H1=>g x σ H1 D.nx
theorem uJ {tg e:Expr}{te:TE}{g:TG}(he:PE X e te) (hg:PG X tg g) (hs:swapsWithSole [tg] e pos.line X.env=pure false:=by rfl) (hw:swappedStores [tg] e X.env=pure none:=by rfl)
  (h1:(assignEach [tg] X.env).map (·.2)=[assign tg X.env]:=by rfl):PS X (.Assign [tg] e pos) (Rg te g):=by
 intro pins s σ H D I h
 refine wpAny_Assign_stores (b_ (he pins s σ H _ I h) fun v s1 ⟨x,H1,I1,r1,q1⟩=>?_) hs hw
 rw [h1]
 exact b_ (hg pins s1 σ H1 x v _ I1 r1 q1) fun _ s2 q=>q
theorem bc {i:Nat}{x:Str}{e:Expr}{te:TE}{pos':Pos}(hN:X.N.Nodup) (hi:X.N[i]?=some x) (hx:Loc X.env.scope x) (he:PE X e te) (hs:swapsWith e (some (.Name x pos')) pos.line X.env=pure false:=by rfl) (hf:X.fn x=true∨X.env.scope.names.lookup x=some .local:=by first | exact .inl rfl | exact .inr rfl | assumption) :
  PS X (.Assign [.Name x pos'] e pos) (Rg te (oE i)):=by
 intro pins s σ H D I h
 refine wpAny_Assign_Name (b_ (he pins s σ H _ I h) fun v s1 ⟨y,H1,I1,r1,q1⟩=>?_) hs
 exact iq I1 hN hi hx r1 (fun s2 I2=>⟨_,H1,I2,q1⟩) hf
noncomputable def aag (i:Nat) (te:TE) (ti:TIp):TS:=fun D σ H=>∃x,σ[i]?=some (some x)∧te σ H fun y H1=>ti x y H1 fun z H2=>D.nx (σ.set i (some z)) H2
noncomputable def ipI (f:Int→Int→Int):TIp:=fun x y H Q=>∃i j,x=.int i∧y=.int j∧Q (.int (f i j)) H
end
section
variable {X:Cx}{pos:Pos}
noncomputable def Rh (c:TT) (tb:TS):TS:=fun D σ H=>∃W:Nat→St→Hp→Prop,(∃m,W m σ H)∧∀m σ H,W m σ H →
 c σ H fun b H1=>if b=true then ∃N:St→Hp→Prop,(∀σ' H',N σ' H'→∃m',m' < m∧W m' σ' H')∧tb {D with nx:=N,ct:=N,bk:=D.nx} σ H1 else D.nx σ H1
end
structure It where
 go:Nat→Hp→Prop
 Ri:Nat→Hp→V→Hp→Prop
 stop:Nat→Hp→Prop
noncomputable def fY (X:Cx) (pins:List (Addr×Obj)) (H:Hp) (b:Addr):Prop:=
 H b=none∧b≠X.env.locals∧b∉X.fs∧(b∈X.ex∨X.s₀.heap.objs.size≤b)∧(∀x c,X.env.cells.lookup x=some c→c≠b)∧∀p∈X.pn++pins,p.1≠b
theorem Inv.Fs {X:Cx}{pins:List (Addr×Obj)}{σ:St}{H H':Hp}{s:Shared}{b:Addr}(I:Inv X pins σ H s) (hb:s.heap.objs.size≤b) (hn:H' b=none):fY X pins H' b:=by
 refine⟨hn,Nat.ne_of_gt (Nat.lt_of_lt_of_le I.lt hb),I.Q9 hb,.inr (Nat.le_trans I.sz hb),fun x c e z=>?_,fun p hp z=>?_⟩
 ·obtain⟨v,q⟩:=I.cell x c e
  exact absurd (Nat.lt_of_lt_of_le q.lt (by rw [z]; exact hb)) (Nat.lt_irrefl _)
 ·exact absurd (Nat.lt_of_lt_of_le (Heap.lt_size (I.pin p hp).1) (by rw [z]; exact hb)) (Nat.lt_irrefl _)
structure Turn (P:Program) (w:World) (K:PySem.W.Frag) (tg:Expr) (J:It) (fp:List Addr) (it:Addr) (tn:Nat→Heap→Prop):Prop where
 mem:it∈fp
 obj:∀i h,tn i h→∀b∈fp,∃o,h.get? b=some o∧∀v,o.data≠.cell v
 keep:∀i h h',tn i h→(∀b∈fp,∀o,h.get? b=some o→h'.get? b=some o)→tn i h'
 item:∀(X:Cx),X.prog=P→X.w=w→X.K=K→X.calm=true→∀(i:Nat) (pins:List (Addr×Obj)) (s:Shared) (σ:St) (H:Hp) (E:Value→Shared→Prop),Inv X pins σ H s→(∀b∈fp,fY X pins H b)→tn i s.heap→J.go i H →
  wpAny (model P w) X.A (pyNext (.ref it)) (fun r s1=>∃u,r=some u ∧
   wpAny (model P w) X.A (letOwnedTupleGo tg (.ref it) u) (fun _ s2=>∃x H',Inv X pins σ H' s2∧RelV x u∧J.Ri i H x H'∧tn (i+1) s2.heap∧∀b∈fp,H' b=none) E s1) E s
 done:∀(X:Cx),X.prog=P→X.w=w→X.K=K→X.calm=true→∀(i:Nat) (pins:List (Addr×Obj)) (s:Shared) (σ:St) (H:Hp) (E:Value→Shared→Prop),Inv X pins σ H s→(∀b∈fp,fY X pins H b)→tn i s.heap→J.stop i H →
  wpAny (model P w) X.A (pyNext (.ref it)) (fun r s1=>r=none∧Inv X pins σ H s1) E s
 self:∀(A:Around) (i:Nat) (s:Shared) (Q:Value→Shared→Prop) (E:Value→Shared→Prop),tn i s.heap→Q (.ref it) s→wpAny (model P w) A (pyIter (.ref it)) Q E s
noncomputable abbrev TI:=St→Hp→(It→Hp→Prop)→Prop
noncomputable def PIE (X:Cx) (pins:List (Addr×Obj)) (σ:St) (tg:Expr) (R:It→Hp→Prop) (ZZ:Value) (s2:Shared):Prop:=
 ∃(it:Addr) (fp:List Addr) (tn:Nat→Heap→Prop) (J:It) (H':Hp),ZZ=.ref it∧Inv X pins σ H' s2∧Turn X.prog X.w X.K tg J fp it tn∧tn 0 s2.heap∧(∀b∈fp,fY X pins H' b)∧R J H'
noncomputable def PI (X:Cx) (tg iter:Expr) (wi:TI):Prop:=
 ∀(pins:List (Addr×Obj)) (s:Shared) (σ:St) (H:Hp) (R:It→Hp→Prop),Inv X pins σ H s→wi σ H R →
  wpAny (model X.prog X.w) X.A (eval iter X.env) (fun v s1=>wpAny (model X.prog X.w) X.A (pyIter v) (PIE X pins σ tg R) X.xe s1) X.xe s
theorem GZ {M:Model}{A:Around}{E:Value→Shared→Prop}{s:Shared}{tg:Expr}{it:Addr}{u:Value}{o:Obj}{n:String}{vs:Array Value}{Q:Unit→Shared→Prop}(ho:s.heap.get? it=some o) (hc:o.cls=.type n) (hd:o.data=.fields vs)
    (hn:["enumerate","zip","dict_itemiterator","dict_reverseitemiterator","odict_iterator","itertools.zip_longest","itertools.pairwise"].contains n=false) (hQ:Q () s):wpAny M A (letOwnedTupleGo tg (.ref it) u) Q E s:=by
  unfold letOwnedTupleGo
  cases tg <;> first
    | exact wpAny_pure hQ
    | (cases u <;> first
        | exact wpAny_pure hQ
        | (refine wpAny_bind (wpAny_load ho ?_)
           rw [hc,hd]
           show wpAny M A (if (["enumerate","zip","dict_itemiterator","dict_reverseitemiterator","odict_iterator","itertools.zip_longest","itertools.pairwise"].contains n&&vs[0]? == some (rawInt _))=true then _ else _) Q E s
           rw [if_neg (by intro h; rw [hn,Bool.false_and] at h; cases h)]
           exact wpAny_pure hQ))
noncomputable def Rj (K:PySem.W.Frag) (a:Addr):It:=
 ⟨fun i H=>∃xs x,bN K H a xs∧xs[i]?=some x,fun i H x H'=>H'=H∧∀xs,bN K H a xs→xs[i]?=some x,fun i H=>∃xs,bN K H a xs∧xs.length≤i⟩
noncomputable def Z0 (K:PySem.W.Frag) (a:Addr):It:=
 ⟨fun i H=>∃xs x,bZ K H a xs∧xs[i]?=some x,fun i H x H'=>H'=H∧∀xs,bZ K H a xs→xs[i]?=some x,fun i H=>∃xs,bZ K H a xs∧xs.length≤i⟩
noncomputable def LB (lo:Int) (n:Nat):It:=⟨fun i _=>i < n,fun i H x H'=>H'=H∧x=.int (lo+i),fun i _=>n≤i⟩
theorem Ft {P:Program}{w:World}{K:PySem.W.Frag}{tg:Expr}(a it:Addr):Turn P w K tg (Rj K a) [it] it (fun i h=>h.IsListIter it a i) where
 mem:=by simp
 obj:=fun i h st b hb=>by
  have e:b=it:=by simpa using hb
  subst e
  obtain⟨o,e,c,d⟩:=st
  exact⟨o,e,fun v z=>by rw [d] at z; cases z⟩
 keep:=fun i h h' st k=>st.at fun o e=>k it (by simp) o e
 item:=by
  intro X hP hw hK hc i pins s σ H E I hf st hg
  subst hP hw hK
  obtain⟨xs,x,hq,hx⟩:=hg
  obtain⟨bq,rv,p,hz⟩:=I.list hq
  obtain⟨u,hu,ru⟩:=rv.get hx
  obtain⟨f0,f1,f2,f3,f4,f5⟩:=hf it (by simp)
  refine wpAny_pyNext_list_item st p.isList (x:=u) (by simpa using hu) fun h' EC sb=>?_
  have I1:Inv X pins σ H {s with heap:=h'}:=I.turned (t':=s.toks) (fun b o hb e=>(sb.2 b hb).trans e) f0 f1 f3 f4 f5
  obtain⟨o,e,c,d⟩:=id EC
  exact⟨u,rfl,GZ (s:={s with heap:=h'}) e c d (by decide) ⟨x,H,I1,ru,⟨rfl,fun ys hy=>by rw [I.xq hy hq]; exact hx⟩,EC,fun b hb=>(hf b hb).1⟩⟩
 done:=by
  intro X hP hw hK hc i pins s σ H E I hf st hg
  subst hP hw hK
  obtain⟨xs,hq,hx⟩:=hg
  obtain⟨bq,rv,p,hz⟩:=I.list hq
  obtain⟨f0,f1,f2,f3,f4,f5⟩:=hf it (by simp)
  have hl:=rv.length
  exact wpAny_pyNext_list_end (I.ok.hd hc) st p.isList (by simp; omega) fun h' eb=>⟨rfl,I.turned (t':=s.toks) (fun b o hb e=>eb b o hb e) f0 f1 f3 f4 f5⟩
 self:=fun _ _ _ _ _ st h=>wpAny_pyIter_listiter st h
theorem By {P:Program}{w:World}{K:PySem.W.Frag}{tg:Expr}(a it:Addr):Turn P w K tg (Z0 K a) [it] it (fun i h=>h.IsTupleIter it a i) where
 mem:=by simp
 obj:=fun i h st b hb=>by
  have e:b=it:=by simpa using hb
  subst e
  obtain⟨o,e,c,d⟩:=st
  exact⟨o,e,fun v z=>by rw [d] at z; cases z⟩
 keep:=fun i h h' st k=>st.at fun o e=>k it (by simp) o e
 item:=by
  intro X hP hw hK hc i pins s σ H E I hf st hg
  subst hP hw hK
  obtain⟨xs,x,hq,hx⟩:=hg
  obtain⟨bq,rv,p,hz⟩:=I.tuple hq
  obtain⟨u,hu,ru⟩:=rv.get hx
  obtain⟨f0,f1,f2,f3,f4,f5⟩:=hf it (by simp)
  refine wpAny_pyNext_tuple_item st (show s.heap.IsTuple a bq.toArray from p) (x:=u) (by simpa using hu) fun h' EC sb=>?_
  have I1:Inv X pins σ H {s with heap:=h'}:=I.turned (t':=s.toks) (fun b o hb e=>(sb.2 b hb).trans e) f0 f1 f3 f4 f5
  obtain⟨o,e,c,d⟩:=id EC
  exact⟨u,rfl,GZ (s:={s with heap:=h'}) e c d (by decide) ⟨x,H,I1,ru,⟨rfl,fun ys hy=>by rw [I.tJ hy hq]; exact hx⟩,EC,fun b hb=>(hf b hb).1⟩⟩
 done:=by
  intro X hP hw hK hc i pins s σ H E I hf st hg
  subst hP hw hK
  obtain⟨xs,hq,hx⟩:=hg
  obtain⟨bq,rv,p,hz⟩:=I.tuple hq
  obtain⟨f0,f1,f2,f3,f4,f5⟩:=hf it (by simp)
  have hl:=rv.length
  exact wpAny_pyNext_tuple_end (I.ok.hd hc) st (show s.heap.IsTuple a bq.toArray from p) (by simp; omega) fun h' eb=>⟨rfl,I.turned (t':=s.toks) (fun b o hb e=>eb b o hb e) f0 f1 f3 f4 f5⟩
 self:=fun _ _ _ _ _ st h=>wpAny_pyIter_tupleiter st h
theorem Bz {P:Program}{w:World}{K:PySem.W.Frag}{tg:Expr}(it:Addr) (lo:Int) (n:Nat):Turn P w K tg (LB lo n) [it] it (fun i h=>IsRangeIter h it (lo+(i:Nat)*1) ((n:Int) - (i:Nat)) 1) where
 mem:=by simp
 obj:=fun i h st b hb=>by
  have e:b=it:=by simpa using hb
  subst e
  exact⟨_,st,fun v z=>by
   have z':Data.fields _=Data.cell v:=z
   cases z'⟩
 keep:=fun i h h' st k=>k it (by simp) _ st
 item:=by
  intro X hP hw hK hc i pins s σ H E I hf st hg
  subst hP hw hK
  obtain⟨f0,f1,f2,f3,f4,f5⟩:=hf it (by simp)
  have W:=Walks.range (prog:=X.prog) (w:=X.w) (I.ok.hd hc) it lo 1 n
  refine W.item i s _ _ hg st fun v h' tk hv EC kk=>?_
  obtain⟨t,rfl⟩:=hv
  have I1:Inv X pins σ H {s with heap:=h',toks:=tk}:=I.turned (fun b o hb e=>kk b o (by simpa using hb) e) f0 f1 f3 f4 f5
  refine⟨_,rfl,GZ (s:={s with heap:=h',toks:=tk}) (n:="range_iterator") EC rfl rfl (by decide) ⟨.int (lo+i),H,I1,⟨t,?_⟩,⟨rfl,rfl⟩,EC,fun b hb=>(hf b hb).1⟩⟩
  rw [Int.mul_one]
 done:=by
  intro X hP hw hK hc i pins s σ H E I hf st hg
  subst hP hw hK
  obtain⟨f0,f1,f2,f3,f4,f5⟩:=hf it (by simp)
  exact wpAny_pyNext_range_end (I.ok.hd hc) st (by have:n≤i:=hg; omega) fun h' eb=>⟨rfl,I.turned (t':=s.toks) (fun b o hb e=>eb b o hb e) f0 f1 f3 f4 f5⟩
 self:=fun _ _ _ _ _ st h=>wpAny_pyIter_rangeiter st h
end L2
namespace L2
open PySem PySem.Spec PyProof.Rows
section
variable {X:Cx}{tg:Expr}
noncomputable def N1 (K:PySem.W.Frag) (tl:TE):TI:=fun σ H R=>tl σ H fun x H1=>∃a,x=.ref a∧(∃xs,bN K H1 a xs)∧R (Rj K a) H1
noncomputable def Vu (K:PySem.W.Frag) (tl:TE):TI:=fun σ H R=>tl σ H fun x H1=>∃a,x=.ref a∧(∃xs,bZ K H1 a xs)∧R (Z0 K a) H1
theorem uK {l:Expr}{tl:TE}(hl:PE X l tl):PI X tg l (N1 X.K tl):=by
 intro pins s σ H R I h
 refine b_ (hl pins s σ H _ I h) fun v s1 ⟨x,H1,I1,r1,q1⟩=>?_
 obtain⟨a,e,⟨xs,hq⟩,q⟩:=q1
 subst e
 cases r1
 obtain⟨bq,rv,p,hz⟩:=I1.list hq
 refine wpAny_pyIter_list p.isList ?_
 refine⟨s1.heap.objs.size,[s1.heap.objs.size],_,_,H1,rfl,I1.kept (t':=s1.toks) fun b o e=>Heap.get?_push_of_some _ e,Ft a _,⟨_,Heap.get?_push_size _ rfl,rfl,rfl⟩,fun b hb=>?_,q⟩
 have e:b=s1.heap.objs.size:=by simpa using hb
 subst e
 exact I1.Fs (Nat.le_refl _) (I1.bw.fresh (Nat.le_refl _))
theorem Rk {l:Expr}{tl:TE}(hl:PE X l tl):PI X tg l (Vu X.K tl):=by
 intro pins s σ H R I h
 refine b_ (hl pins s σ H _ I h) fun v s1 ⟨x,H1,I1,r1,q1⟩=>?_
 obtain⟨a,e,⟨xs,hq⟩,q⟩:=q1
 subst e
 cases r1
 obtain⟨bq,rv,p,hz⟩:=I1.tuple hq
 refine wpAny_pyIter_tuple (show s1.heap.IsTuple a bq.toArray from p) ?_
 refine⟨s1.heap.objs.size,[s1.heap.objs.size],_,_,H1,rfl,I1.kept (t':=s1.toks) fun b o e=>Heap.get?_push_of_some _ e,By a _,⟨_,Heap.get?_push_size _ rfl,rfl,rfl⟩,fun b hb=>?_,q⟩
 have e:b=s1.heap.objs.size:=by simpa using hb
 subst e
 exact I1.Fs (Nat.le_refl _) (I1.bw.fresh (Nat.le_refl _))
theorem G0 {pins:List (Addr×Obj)}{σ:St}{H:Hp}{s:Shared}{R:It→Hp→Prop}{E:Value→Shared→Prop}{lo hi:Int}{t u v:Tok}{tk:Nat}(I:Inv X pins σ H s) (h1:-(2 ^ 62)≤lo) (h2:lo < 2 ^ 62) (h3:-(2 ^ 62)≤hi) (h4:hi < 2 ^ 62)
  (q:R (LB lo (hi - lo).toNat) H):wpAny (model X.prog X.w) X.A (pyIter (.ref s.heap.objs.size)) (PIE X pins σ tg R) E {s with heap:=s.heap.push {cls:=.type "range",data:=.fields #[.int lo t,.int hi u,.int 1 v]},toks:=tk}:=by
 refine wpAny_pyIter_range (IsRange.new ..) (small_one h1 h2 h3 h4) ?_
 have I1:Inv X pins σ H {s with heap:=s.heap.push {cls:=.type "range",data:=.fields #[.int lo t,.int hi u,.int 1 v]},toks:=tk}:=I.kept fun b o e=>Heap.get?_push_of_some _ e
 refine⟨(s.heap.push {cls:=.type "range",data:=.fields #[.int lo t,.int hi u,.int 1 v]}).objs.size,[(s.heap.push {cls:=.type "range",data:=.fields #[.int lo t,.int hi u,.int 1 v]}).objs.size],_,_,H,rfl,
  I1.kept (t':=tk) fun b o e=>Heap.get?_push_of_some _ e,Bz _ lo (hi - lo).toNat,?_,fun b hb=>?_,q⟩
 ·have e1:lo+((0:Nat):Int)*1=lo:=by simp
  have e2:(((hi - lo).toNat:Nat):Int) - ((0:Nat):Int)=Builtin.Range.rangeSize lo hi 1:=by rw [rangeSize_one]; split <;> omega
  show IsRangeIter _ _ (lo+((0:Nat):Int)*1) ((((hi - lo).toNat:Nat):Int) - ((0:Nat):Int)) 1
  rw [e1,e2]
  exact Heap.get?_push_size _ rfl
 ·have e:b=(s.heap.push {cls:=.type "range",data:=.fields #[.int lo t,.int hi u,.int 1 v]}).objs.size:=by simpa using hb
  subst e
  exact I1.Fs (Nat.le_refl _) (I1.bw.fresh (Nat.le_refl _))
noncomputable def N3 (ta:TA):TI:=fun σ H R=>ta σ H fun vs H1=>∃j:Int,vs=[.int j]∧-(2 ^ 62)≤j∧j < 2 ^ 62∧R (LB 0 j.toNat) H1
noncomputable def Vv (ta:TA):TI:=fun σ H R=>ta σ H fun vs H1=>∃i j:Int,vs=[.int i,.int j]∧(-(2 ^ 62)≤i∧i < 2 ^ 62∧-(2 ^ 62)≤j∧j < 2 ^ 62)∧R (LB i (j - i).toNat) H1
theorem tK {a:Expr}{ta:TA}{p pos:Pos}(hg:Gl X "range") (hm:X.mg "range"=none) (ha:PA X [a] ta) (hs:starEach [a] X.env=[(false,eval a X.env)]:=by rfl):PI X tg (.Call (.Name "range" p) [a] [] pos) (N3 ta):=by
 intro pins s σ H R I h
 refine Call_ (uG I hg hm boot_range (PyProof.Rows.callWith_type1 (b_ (ha pos pins s σ H _ I h) fun us s1 ⟨vs,H1,I1,r1,q1⟩=>?_) hs rfl))
 obtain⟨j,e,q1,q2,q⟩:=q1
 subst e
 cases r1 with
 | cons r rr=>
  cases rr
  obtain⟨t,rfl⟩:=r
  exact call_range_1 (G0 I1 (by omega) (by omega) q1 q2 (by simpa using q))
noncomputable def aah (wi:TI) (g:TG) (tb:TS):TS:=fun D σ H=>wi σ H fun J H1=>∃W:Nat→Nat→St→Hp→Prop,(∃m,W 0 m σ H1)∧∀i m σ H,W i m σ H →
 (J.stop i H∧D.nx σ H)∨(J.go i H∧∃N:St→Hp→Prop,(∀σ' H',N σ' H'→∃m',m' < m∧W (i+1) m' σ' H')∧∀x H',J.Ri i H x H'→g x σ H' fun σ2 H2=>tb {D with nx:=N,ct:=N,bk:=D.nx} σ2 H2)
noncomputable def iw (fp:List Addr) (h:Heap):List (Addr×Obj):=fp.filterMap fun b=>(h.get? b).map fun o=>(b,o)
theorem eJ {fp:List Addr}{h:Heap}{b:Addr}{o:Obj}(hb:b∈fp) (e:h.get? b=some o):(b,o)∈iw fp h:=List.mem_filterMap.mpr ⟨b,hb,by rw [e]; rfl⟩
theorem Fu {fp:List Addr}{h:Heap}{p:Addr×Obj}(hp:p∈iw fp h):p.1∈fp∧h.get? p.1=some p.2:=by
 obtain⟨b,hb,e⟩:=List.mem_filterMap.mp hp
 cases q:h.get? b with
 | none=>rw [q] at e; cases e
 | some o=>
  rw [q] at e
  have e':(b,o)=p:=Option.some.inj e
  subst e'
  exact⟨hb,q⟩
theorem Inv.pinned {pins:List (Addr×Obj)}{σ:St}{H:Hp}{s:Shared}{fp:List Addr}(I:Inv X pins σ H s) (hf:∀b∈fp,fY X pins H b) (ho:∀b∈fp,∃o,s.heap.get? b=some o∧∀v,o.data≠.cell v):Inv X (pins++iw fp s.heap) σ H s:=
 I.Ez fun p hp=>(List.mem_append.mp hp).elim (fun z=>I.pin p (List.mem_append_right _ z)) fun z=>by
  obtain⟨hb,e⟩:=Fu z
  obtain⟨f0,f1,f2,_⟩:=hf p.1 hb
  obtain⟨o,e',d⟩:=ho p.1 hb
  rw [e] at e'; cases e'
  exact⟨e,f0,f1,f2,d⟩
theorem Inv.iy {pins pl:List (Addr×Obj)}{σ:St}{H:Hp}{s:Shared}(I:Inv X (pins++pl) σ H s):Inv X pins σ H s:=I.Ez fun p hp=>I.pin p (List.mem_append_right _ (List.mem_append_left _ hp))
theorem Rl {iter:Expr}{body:List Stmt}{wi:TI}{g:TG}{tb:TS}{pos:Pos}(hp:PassesOwn (model X.prog X.w) X.A X.env X.xe) (hc:X.calm=true) (hi:PI X tg iter wi) (hg:PG X tg g) (hb:xm X body tb)
  (hs:∀x,foldedSetIterable iter X.env x=pure x:=by intro _; rfl):PS X (.For tg iter body [] pos) (aah wi g tb):=by
 intro pins s σ H D I h
 refine wpAny_For (b_ (hi pins s σ H _ I h) fun v s1 h1=>b_ h1 fun ZZ s2 h2=>?_) hs
 obtain⟨it,fp,tn,J,H2,e,I2,T,Vw,f2,W,⟨m0,w0⟩,turn⟩:=h2
 subst e
 have oF:∀{H':Hp},(∀b∈fp,H' b=none)→∀b∈fp,fY X pins H' b:=fun hn b hb=>⟨hn b hb,(f2 b hb).2⟩
 refine codeAny_forLoop_any (fun n s'=>∃i σ' H',Inv X pins σ' H' s'∧tn i s'.heap∧(∀b∈fp,H' b=none)∧W i n σ' H') ?_ m0 ⟨0,σ,H2,I2,Vw,fun b hb=>(f2 b hb).1,w0⟩
 rintro n s3 ⟨i,σ3,H3,I3,N4,Fv,w3⟩
 rcases turn i n σ3 H3 w3 with ⟨stop,qn⟩ | ⟨go,N,hN,step⟩
 ·refine wpAny_passesOwn hp (b_ (T.done X rfl rfl rfl hc i pins s3 σ3 H3 X.xe I3 (oF Fv) N4 stop) fun r s4 ⟨hr,I4⟩=>?_)
  subst hr
  exact wpAny_execs_nil ⟨σ3,H3,I4,qn⟩
 ·refine wpAny_passesOwn hp (b_ (T.item X rfl rfl rfl hc i pins s3 σ3 H3 X.xe I3 (oF Fv) N4 go) fun r s4 ⟨u,hr,h4⟩=>?_)
  subst hr
  refine wpAny_passesOwn hp (b_ h4 fun _ s5 ⟨x,H5,I5,r5,y5,st5,fr5⟩=>?_)
  have I5':=I5.pinned (oF fr5) (T.obj _ _ st5)
  refine wpAny_passesOwn hp (b_ (hg _ s5 σ3 H5 x u _ I5' r5 (step x H5 y5)) fun _ s6 ⟨σ6,H6,I6,q6⟩=>?_)
  refine wpAny_passesOwn hp (b_ (hb _ s6 σ6 H6 _ I6 q6) fun f s7 q7=>?_)
  have again:∀{σ7:St}{H7:Hp},Inv X (pins++iw fp s5.heap) σ7 H7 s7→N σ7 H7→∃m,m < n∧∃i σ' H',Inv X pins σ' H' s7∧tn i s7.heap∧(∀b∈fp,H' b=none)∧W i m σ' H':=fun {σ7 H7} I7 n7=>by
   obtain⟨m',hm,w7⟩:=hN σ7 H7 n7
   refine⟨m',hm,i+1,σ7,H7,I7.iy,T.keep _ _ _ st5 fun b hb o e=>(I7.pin (b,o) (List.mem_append_right _ (List.mem_append_right _ (eJ hb e)))).1,fun b hb=>?_,w7⟩
   obtain⟨o,e,d⟩:=T.obj _ _ st5 b hb
   exact(I7.pin (b,o) (List.mem_append_right _ (List.mem_append_right _ (eJ hb e)))).2.1
  cases f with
  | next=>obtain⟨σ7,H7,I7,n7⟩:=q7; exact again I7 n7
  | cont=>obtain⟨σ7,H7,I7,n7⟩:=q7; exact again I7 n7
  | brk=>obtain⟨σ7,H7,I7,q7⟩:=q7; exact⟨σ7,H7,I7.iy,q7⟩
  | ret v=>obtain⟨x7,σ7,H7,I7,r7,q7⟩:=q7; exact⟨x7,σ7,H7,I7.iy,r7,q7⟩
end
theorem G1 {K:PySem.W.Frag}{a:Addr}{xs:List V}{g:TG}{tb:TS}{D:Ends}{σ:St}{H:Hp}(Pv:Nat→St→Hp→Prop) (h0:Pv 0 σ H) (hl:∀i σ H,i≤xs.length→Pv i σ H→bN K H a xs)
  (hs:∀i x σ H,xs[i]?=some x→Pv i σ H→g x σ H fun σ2 H2=>tb {D with nx:=Pv (i+1),ct:=Pv (i+1),bk:=D.nx} σ2 H2) (hd:∀σ H,Pv xs.length σ H→D.nx σ H) :
  ∃W:Nat→Nat→St→Hp→Prop,(∃m,W 0 m σ H)∧∀i m σ H,W i m σ H →
   ((Rj K a).stop i H∧D.nx σ H)∨((Rj K a).go i H∧∃N:St→Hp→Prop,(∀σ' H',N σ' H'→∃m',m' < m∧W (i+1) m' σ' H')∧∀x H',(Rj K a).Ri i H x H'→g x σ H' fun σ2 H2=>tb {D with nx:=N,ct:=N,bk:=D.nx} σ2 H2):=by
 refine⟨fun i m σ H=>m=xs.length - i∧i≤xs.length∧Pv i σ H,⟨xs.length,by simp,Nat.zero_le _,h0⟩,?_⟩
 rintro i m σ H ⟨rfl,hi,p⟩
 have q:=hl i σ H hi p
 by_cases jJ:i < xs.length
 ·refine .inr ⟨⟨xs,xs[i],q,by simp [jJ]⟩,Pv (i+1),fun σ' H' p'=>⟨xs.length - (i+1),by omega,rfl,jJ,p'⟩,fun x H' y=>?_⟩
  obtain⟨e,y⟩:=y
  subst e
  exact hs i x σ _ (y xs q) p
 ·have e:i=xs.length:=by omega
  subst e
  exact .inl ⟨⟨xs,q,Nat.le_refl _⟩,hd σ H p⟩
theorem Fw {lo:Int}{n:Nat}{g:TG}{tb:TS}{D:Ends}{σ:St}{H:Hp}(Pv:Nat→St→Hp→Prop) (h0:Pv 0 σ H)
  (hs:∀i σ H,i < n→Pv i σ H→g (.int (lo+i)) σ H fun σ2 H2=>tb {D with nx:=Pv (i+1),ct:=Pv (i+1),bk:=D.nx} σ2 H2) (hd:∀σ H,Pv n σ H→D.nx σ H) :
  ∃W:Nat→Nat→St→Hp→Prop,(∃m,W 0 m σ H)∧∀i m σ H,W i m σ H →
   ((LB lo n).stop i H∧D.nx σ H)∨((LB lo n).go i H∧∃N:St→Hp→Prop,(∀σ' H',N σ' H'→∃m',m' < m∧W (i+1) m' σ' H')∧∀x H',(LB lo n).Ri i H x H'→g x σ H' fun σ2 H2=>tb {D with nx:=N,ct:=N,bk:=D.nx} σ2 H2):=by
 refine⟨fun i m σ H=>m=n - i∧i≤n∧Pv i σ H,⟨n,by simp,Nat.zero_le _,h0⟩,?_⟩
 rintro i m σ H ⟨rfl,hi,p⟩
 by_cases jJ:i < n
 ·refine .inr ⟨jJ,Pv (i+1),fun σ' H' p'=>⟨n - (i+1),by omega,rfl,jJ,p'⟩,fun x H' y=>?_⟩
  obtain⟨e,y⟩:=y
  subst e y
  exact hs i σ _ jJ p
 ·have e:i=n:=by omega
  subst e
  exact .inl ⟨Nat.le_refl _,hd σ H p⟩
end L2
namespace L2
open PySem PySem.Spec PyProof.Rows
noncomputable abbrev R2:=V→V→Hp→VK→Prop
noncomputable def mF (X:Cx) (f:Value→Value→Sem Value) (r:R2):Prop:=
 ∀(pins:List (Addr×Obj)) (s:Shared) (σ:St) (H:Hp) (x y:V) (v u:Value) (Q:VK),Inv X pins σ H s→RelV x v→RelV y u→r x y H Q →
  wpAny (model X.prog X.w) X.A (f v u) (EP X pins σ Q) X.xe s
noncomputable def fL (X:Cx) (f:Value) (r:List V→Hp→VK→Prop):Prop:=
 ∀(pins:List (Addr×Obj)) (s:Shared) (σ:St) (H:Hp) (xs:List V) (us:List Value) (Q:VK),Inv X pins σ H s→Vals xs us→r xs H Q →
  wpAny (model X.prog X.w) X.A (call f us) (EP X pins σ Q) X.xe s
noncomputable def U1 (r:R2) (ta tb:TE):TE:=fun σ H Q=>ta σ H fun x H1=>tb σ H1 fun y H2=>r x y H2 Q
noncomputable def tUn (r:V→Hp→VK→Prop) (ta:TE):TE:=fun σ H Q=>ta σ H fun x H1=>r x H1 Q
noncomputable def rI (C:Int→Int→Prop) (g:Int→Int→V):R2:=fun x y H Q=>∃i j,x=.int i∧y=.int j∧C i j∧Q (g i j) H
noncomputable def Rm (g:Int→Int→V):R2:=fun x y H Q=>∃i j,x=.int i∧y=.int j∧Q (g i j) H
noncomputable def rU (g:Int→V):V→Hp→VK→Prop:=fun x H Q=>∃i,x=.int i∧Q (g i) H
section
variable {X:Cx}{a b c:Expr}{ta tb tc:TE}{pos:Pos}
theorem Rn (ha:PE X a ta) (hb:PE X b tb) {pins:List (Addr×Obj)}{s:Shared}{σ:St}{H:Hp}{R:V→V→Hp→Prop}(I:Inv X pins σ H s)
  (h:ta σ H fun x H1=>tb σ H1 fun y H2=>R x y H2) {Q:Value→Shared→Prop}{f:Value→Value→Sem Value}
  (hf:∀v u s2 x y H2,Inv X pins σ H2 s2→RelV x v→RelV y u→R x y H2→wpAny (model X.prog X.w) X.A (f v u) Q X.xe s2) :
  wpAny (model X.prog X.w) X.A (eval a X.env) (fun v s₁=>wpAny (model X.prog X.w) X.A (eval b X.env) (fun u s₂=>wpAny (model X.prog X.w) X.A (f v u) Q X.xe s₂) X.xe s₁) X.xe s:=by
 refine b_ (ha pins s σ H _ I h) fun v s1 ⟨x,H1,I1,r1,q1⟩=>?_
 refine b_ (hb pins s1 σ H1 _ I1 q1) fun u s2 ⟨y,H2,I2,r2,q2⟩=>?_
 exact hf v u s2 x y H2 I2 r1 r2 q2
theorem bo {op:Operator}{r:R2}(ho:mF X (binaryOp op) r) (ha:PE X a ta) (hb:PE X b tb):PE X (.BinOp a op b pos) (U1 r ta tb):=by
 intro pins s σ H Q I h
 exact wpAny_BinOp (Rn ha hb I h fun v u s2 x y H2 I2 rx ry q=>ho pins s2 σ H2 x y v u Q I2 rx ry q)
theorem Z1 {f:Value→Value→Sem Value}{C:Int→Int→Prop}{g:Int→Int→Int}
  (rule:∀(i j:Int) (t u:Tok) (s:Shared) (Q:Value→Shared→Prop) (E:Value→Shared→Prop),C i j→Q (.int (g i j) s.toks) {s with toks:=s.toks+1}→wpAny (model X.prog X.w) X.A (f (.int i t) (.int j u)) Q E s) :
  mF X f (rI C fun i j=>.int (g i j)):=by
 intro pins s σ H x y v u Q I rx ry h
 obtain⟨i,j,rfl,rfl,hc,q⟩:=h
 obtain⟨t,rfl⟩:=rx
 obtain⟨t',rfl⟩:=ry
 exact rule i j t t' s _ _ hc ⟨.int (g i j),H,I.tok _,⟨_,rfl⟩,q⟩
theorem aai {f:Value→Value→Sem Value}{g:Int→Int→Int}
  (rule:∀(i j:Int) (t u:Tok) (s:Shared) (Q:Value→Shared→Prop) (E:Value→Shared→Prop),Q (.int (g i j) s.toks) {s with toks:=s.toks+1}→wpAny (model X.prog X.w) X.A (f (.int i t) (.int j u)) Q E s) :
  mF X f (Rm fun i j=>.int (g i j)):=by
 intro pins s σ H x y v u Q I rx ry h
 obtain⟨i,j,rfl,rfl,q⟩:=h
 obtain⟨t,rfl⟩:=rx
 obtain⟨t',rfl⟩:=ry
 exact rule i j t t' s _ _ ⟨.int (g i j),H,I.tok _,⟨_,rfl⟩,q⟩
theorem Ro {f:Value→Value→Sem Value}{g:Int→Int→Bool}
  (rule:∀(i j:Int) (t u:Tok) (s:Shared) (Q:Value→Shared→Prop) (E:Value→Shared→Prop),Q (.bool (g i j)) s→wpAny (model X.prog X.w) X.A (f (.int i t) (.int j u)) Q E s) :
  mF X f (Rm fun i j=>.bl (g i j)):=by
 intro pins s σ H x y v u Q I rx ry h
 obtain⟨i,j,rfl,rfl,q⟩:=h
 obtain⟨t,rfl⟩:=rx
 obtain⟨t',rfl⟩:=ry
 exact rule i j t t' s _ _ ⟨.bl (g i j),H,I,rfl,q⟩
noncomputable def aaj (i j:Int):Prop:=0≤j∧j≤1000000∧i.natAbs < 2 ^ 64
noncomputable def Rp (i j:Int):Prop:=(-(2 ^ 64) < i∧i < 2 ^ 64)∨(-(2 ^ 64) < j∧j < 2 ^ 64)
theorem Rp.ok {i j:Int}(h:Rp i j):IntMulOk i j:=by
 rcases h with ⟨h1,h2⟩ | ⟨h1,h2⟩
 ·exact .of_left (intBits_le_64 h1 h2)
 ·exact .of_right (intBits_le_64 h1 h2)
theorem jK:mF X (binaryOp .Add) (Rm fun i j=>.int (i+j)):=aai fun _ _ _ _ _ _ _ q=>add_int q
theorem BA:mF X (binaryOp .Mult) (rI Rp fun i j=>.int (i*j)):=Z1 fun _ _ _ _ _ _ _ hc q=>mul_int q hc.ok
theorem dG:mF X (binaryOp .Mod) (rI (fun _ j=>0 < j) fun i j=>.int (i % j)):=Z1 fun i j _ _ _ _ _ hc q=>by
 have h1:(0:Int) < j:=hc
 exact mod_int' (by omega) (by rw [Int.fmod_eq_emod_of_nonneg i (by omega)]; exact q)
theorem Rq:mF X (binaryOp .Pow) (rI aaj fun i j=>.int (i ^ j.toNat)):=Z1 fun _ _ _ _ _ _ _ hc q=>pow_int_small hc.1 hc.2.1 hc.2.2 q
end
noncomputable def xr:V→V→Bool
 | .bj,.bj=>true | .bj,.int _=>true | .int _,.bj=>true | .bj,.bl _=>true | .bl _,.bj=>true | .bj,.str _=>true | .str _,.bj=>true
 | .int _,.int _=>true | .bl _,.bl _=>true | .str _,.str _=>true | .GO _,.GO _=>true
 | .int _,.str _=>true | .str _,.int _=>true | .bl _,.str _=>true | .str _,.bl _=>true
 | _,_=>false
noncomputable def rEq:R2:=fun x y H Q=>xr x y=true∧Q (.bl (decide (x=y))) H
noncomputable def rNe:R2:=fun x y H Q=>xr x y=true∧Q (.bl (!decide (x=y))) H
theorem ED {i j:Int}:decide (V.int i=V.int j)=(i == j):=by
 rw [Bool.eq_iff_iff]
 simp
theorem G2 {i j:Bool}:decide (V.bl i=V.bl j)=(i == j):=by
 rw [Bool.eq_iff_iff]
 simp
theorem EE {i j:Str}:decide (V.str i=V.str j)=(i == j):=by
 rw [Bool.eq_iff_iff]
 simp
theorem EF {i j:Array UInt8}:decide (V.GO i=V.GO j)=(i.toList == j.toList):=by
 rw [Bool.eq_iff_iff]
 cases i
 cases j
 simp
section
variable {X:Cx}{a b c:Expr}{ta tb tc:TE}{pos:Pos}
theorem bz {pins:List (Addr×Obj)}{σ:St}{H:Hp}{s:Shared}{Q:VK}{k k':Bool}(I:Inv X pins σ H s) (q:Q (.bl k) H) (e:k=k'):EP X pins σ Q (.bool k') s:=by
 subst e
 exact⟨.bl k,H,I,rfl,q⟩
theorem b7:mF X (compareOp .Eq) rEq:=by
 intro pins s σ H x y v u Q I rx ry h
 obtain⟨hs,q⟩:=h
 cases x with
 | bj=>
  cases rx
  cases y with
  | bj=>cases ry; exact PySem.EqNone.eq_none_none (bz I q (by simp))
  | bl j=>cases ry; exact PySem.EqNone.eq_none_bool (bz I q (by simp))
  | int j=>obtain⟨t',rfl⟩:=ry; exact PySem.EqNone.eq_none_int (bz I q (by simp))
  | str j=>obtain⟨t',rfl⟩:=ry; exact PySem.EqNone.eq_none_str (bz I q (by simp))
  | _=>exact absurd (show false=true from hs) Bool.false_ne_true
 | bl i=>
  cases rx
  cases y with
  | bj=>cases ry; exact PySem.EqNone.eq_bool_none (bz I q (by simp))
  | bl j=>cases ry; exact eq_bool (bz I q G2)
  | str j=>obtain⟨t',rfl⟩:=ry; exact PySem.EqMixed.eq_bool_str (bz I q (by simp))
  | _=>exact absurd (show false=true from hs) Bool.false_ne_true
 | int i=>
  obtain⟨t,rfl⟩:=rx
  cases y with
  | bj=>cases ry; exact PySem.EqNone.eq_int_none (bz I q (by simp))
  | int j=>obtain⟨t',rfl⟩:=ry; exact eq_int (bz I q ED)
  | str j=>obtain⟨t',rfl⟩:=ry; exact PySem.EqMixed.eq_int_str (bz I q (by simp))
  | _=>exact absurd (show false=true from hs) Bool.false_ne_true
 | str i=>
  obtain⟨t,rfl⟩:=rx
  cases y with
  | bj=>cases ry; exact PySem.EqNone.eq_str_none (bz I q (by simp))
  | bl j=>cases ry; exact PySem.EqMixed.eq_str_bool (bz I q (by simp))
  | int j=>obtain⟨t',rfl⟩:=ry; exact PySem.EqMixed.eq_str_int (bz I q (by simp))
  | str j=>obtain⟨t',rfl⟩:=ry; exact eq_str (bz I q EE)
  | _=>exact absurd (show false=true from hs) Bool.false_ne_true
 | GO i=>
  obtain⟨t,rfl⟩:=rx
  cases y with
  | GO j=>obtain⟨t',rfl⟩:=ry; exact PySem.W.eq_bytes (bz I q EF)
  | _=>exact absurd (show false=true from hs) Bool.false_ne_true
 | _=>cases y <;> exact absurd (show false=true from hs) Bool.false_ne_true
theorem fZ:mF X (compareOp .NotEq) rNe:=by
 intro pins s σ H x y v u Q I rx ry h
 obtain⟨hs,q⟩:=h
 cases x with
 | bj=>
  cases rx
  cases y with
  | bj=>cases ry; exact PySem.EqNone.ne_none_none (bz I q (by simp))
  | bl j=>cases ry; exact PySem.EqNone.ne_none_bool (bz I q (by simp))
  | int j=>obtain⟨t',rfl⟩:=ry; exact PySem.EqNone.ne_none_int (bz I q (by simp))
  | str j=>obtain⟨t',rfl⟩:=ry; exact PySem.EqNone.ne_none_str (bz I q (by simp))
  | _=>exact absurd (show false=true from hs) Bool.false_ne_true
 | bl i=>
  cases rx
  cases y with
  | bj=>cases ry; exact PySem.EqNone.ne_bool_none (bz I q (by simp))
  | bl j=>cases ry; exact ne_bool (bz I q (congrArg not G2))
  | str j=>obtain⟨t',rfl⟩:=ry; exact PySem.EqMixed.ne_bool_str (bz I q (by simp))
  | _=>exact absurd (show false=true from hs) Bool.false_ne_true
 | int i=>
  obtain⟨t,rfl⟩:=rx
  cases y with
  | bj=>cases ry; exact PySem.EqNone.ne_int_none (bz I q (by simp))
  | int j=>obtain⟨t',rfl⟩:=ry; exact ne_int (bz I q (congrArg not ED))
  | str j=>obtain⟨t',rfl⟩:=ry; exact PySem.EqMixed.ne_int_str (bz I q (by simp))
  | _=>exact absurd (show false=true from hs) Bool.false_ne_true
 | str i=>
  obtain⟨t,rfl⟩:=rx
  cases y with
  | bj=>cases ry; exact PySem.EqNone.ne_str_none (bz I q (by simp))
  | bl j=>cases ry; exact PySem.EqMixed.ne_str_bool (bz I q (by simp))
  | int j=>obtain⟨t',rfl⟩:=ry; exact PySem.EqMixed.ne_str_int (bz I q (by simp))
  | str j=>obtain⟨t',rfl⟩:=ry; exact ne_str (bz I q (congrArg not EE))
  | _=>exact absurd (show false=true from hs) Bool.false_ne_true
 | GO i=>
  obtain⟨t,rfl⟩:=rx
  cases y with
  | GO j=>obtain⟨t',rfl⟩:=ry; exact PySem.W.ne_bytes (bz I q (congrArg not EF))
  | _=>exact absurd (show false=true from hs) Bool.false_ne_true
 | _=>cases y <;> exact absurd (show false=true from hs) Bool.false_ne_true
theorem N5:mF X (compareOp .Lt) (Rm fun i j=>.bl (decide (i < j))):=Ro fun _ _ _ _ _ _ _ q=>lt_int q
theorem Vx:mF X (compareOp .LtE) (Rm fun i j=>.bl (decide (i≤j))):=Ro fun _ _ _ _ _ _ _ q=>le_int q
theorem G3:mF X (compareOp .GtE) (Rm fun i j=>.bl (decide (j≤i))):=Ro fun _ _ _ _ _ _ _ q=>ge_int q
theorem iz:mF X (compareOp .Is) (fun x y H Q=>y=.bj∧Q (.bl (decide (x=.bj))) H):=by
 intro pins s σ H x y v u Q I rx ry h
 obtain⟨rfl,q⟩:=h
 cases ry
 refine is_none_gen (bz I q ?_)
 cases x <;> first
  | (cases rx; rfl)
  | (obtain⟨t,rfl⟩:=rx; rfl)
theorem uL:mF X (compareOp .IsNot) (fun x y H Q=>y=.bj∧Q (.bl (!decide (x=.bj))) H):=by
 intro pins s σ H x y v u Q I rx ry h
 obtain⟨rfl,q⟩:=h
 cases ry
 refine isnot_none_gen (bz I q ?_)
 cases x <;> first
  | (cases rx; rfl)
  | (obtain⟨t,rfl⟩:=rx; rfl)
theorem aI (b:Expr) {op:CmpOp}(h:op≠.In:=by decide) (h2:op≠.NotIn:=by decide):behindInMarks op b=false:=by
 have e1:(op == CmpOp.In)=false:=by cases op <;> first | rfl | exact absurd rfl h
 have e2:(op == CmpOp.NotIn)=false:=by cases op <;> first | rfl | exact absurd rfl h2
 cases b <;> simp [behindInMarks,e1,e2]
theorem eQ {op:CmpOp}{r:R2}(ho:mF X (compareOp op) r) (ha:PE X a ta) (hb:PE X b tb) (hm:behindInMarks op b=false):PE X (.Compare a [op] [b] pos) (U1 r ta tb):=by
 intro pins s σ H Q I h
 exact wpAny_Compare1 (Rn ha hb I h fun v u s2 x y H2 I2 rx ry q=>ho pins s2 σ H2 x y v u Q I2 rx ry q) hm
noncomputable def N6 (t:TE):TT:=fun σ H Q=>t σ H fun x H'=>∃k,x=.bl k∧Q k H'
theorem aC {op:CmpOp}{r:R2}(ho:mF X (compareOp op) r) (ha:PE X a ta) (hb:PE X b tb) (hm:behindInMarks op b=false):PT X (.Compare a [op] [b] pos) (N6 (U1 r ta tb)):=by
 intro pins s σ H Q I h
 refine wpAny_isTrue_Compare1 (b_ (ha pins s σ H _ I h) fun v s1 ⟨x,H1,I1,r1,q1⟩=>b_ (hb pins s1 σ H1 _ I1 q1) fun u s2 ⟨y,H2,I2,r2,q2⟩=>
  b_ (ho pins s2 σ H2 x y v u _ I2 r1 r2 q2) fun c s3 ⟨z,H3,I3,r3,k,e,q3⟩=>?_) hm
 subst e
 cases r3
 exact wpAny_truthy_bool ⟨H3,I3,q3⟩
noncomputable def G4 (r r':R2) (ta tb tc:TE):TE:=fun σ H Q=>ta σ H fun x H1=>tb σ H1 fun y H2=>r x y H2 fun z H3=>∃k,z=.bl k ∧
 (if k=true then tc σ H3 fun w' H4=>r' y w' H4 Q else Q (.bl false) H3)
theorem G5 {op op':CmpOp}{r r':R2}(ho:mF X (compareOp op) r) (Bv:mF X (compareOp op') r') (ha:PE X a ta) (hb:PE X b tb) (hc:PE X c tc)
  (hm:lastMarks [op,op'] [b,c]=false:=by with_unfolding_all rfl):PE X (.Compare a [op,op'] [b,c] pos) (G4 r r' ta tb tc):=by
 intro pins s σ H Q I h
 refine Compare_chain (b_ (ha pins s σ H _ I h) fun v s1 ⟨x,H1,I1,r1,q1⟩=>chain_link (b_ (hb pins s1 σ H1 _ I1 q1) fun u s2 ⟨y,H2,I2,r2,q2⟩=>
  b_ (ho pins s2 σ H2 x y v u _ I2 r1 r2 q2) fun d s3 ⟨z,H3,I3,r3,k,e,q3⟩=>?_)) hm
 subst e
 cases r3
 refine wpAny_truthy_bool ?_
 cases k with
 | false=>exact ite_ff ⟨.bl false,H3,I3,rfl,q3⟩
 | true=>exact ite_tt (chain_last (b_ (hc pins s3 σ H3 _ I3 q3) fun w' s4 ⟨z',H4,I4,r4,q4⟩=>Bv pins s4 σ H4 y z' u w' Q I4 r2 r4 q4))
theorem uM:(sizeLine:Nat) < 2 ^ 63:=by rw [sizeLine_eq]; decide
theorem vals1 {x:V}{us:List Value}(r:Vals [x] us):∃u,us=[u]∧RelV x u:=by
 cases r with
 | cons r1 r2=>cases r2; exact⟨_,rfl,r1⟩
theorem vals2 {x y:V}{us:List Value}(r:Vals [x,y] us):∃u w',us=[u,w']∧RelV x u∧RelV y w':=by
 cases r with
 | cons r1 r2=>
  cases r2 with
  | cons r3 r4=>cases r4; exact⟨_,_,rfl,r1,r3⟩
theorem oG:fL X (.builtin "abs") (fun xs H Q=>∃i,xs=[.int i]∧Q (.int (if i < 0 then -i else i)) H):=by
 intro pins s σ H xs us Q I r h
 obtain⟨i,rfl,q⟩:=h
 obtain⟨u,rfl,t,rfl⟩:=vals1 r
 exact call_abs_int fun u tk=>⟨.int (if i < 0 then -i else i),H,I.tok _,⟨_,rfl⟩,q⟩
theorem Fx (hc:X.calm=true):fL X (.builtin "max") (fun xs H Q=>∃i j,xs=[.int i,.int j]∧Q (.int (if j > i then j else i)) H):=by
 intro pins s σ H xs us Q I r h
 obtain⟨i,j,rfl,q⟩:=h
 obtain⟨u,w',rfl,⟨t,rfl⟩,⟨t',rfl⟩⟩:=vals2 r
 refine max_two_ints (I.ok.hd hc) fun h' tk k=>⟨_,H,I.kept k,?_,q⟩
 by_cases hj:j > i
 ·rw [if_pos hj,if_pos hj]; exact⟨_,rfl⟩
 ·rw [if_neg hj,if_neg hj]; exact⟨_,rfl⟩
theorem Fy:fL X (.type "int") (fun xs H Q=>(∃i,xs=[.int i]∧Q (.int i) H)∨∃k,xs=[.bl k]∧Q (.int (if k then 1 else 0)) H):=by
 intro pins s σ H xs us Q I r h
 rcases h with ⟨i,rfl,q⟩ | ⟨k,rfl,q⟩
 ·obtain⟨u,rfl,t,rfl⟩:=vals1 r
  exact call_int_int ⟨.int i,H,I,⟨_,rfl⟩,q⟩
 ·obtain⟨u,rfl,r1⟩:=vals1 r
  cases r1
  exact call_int_bool ⟨.int (if k then 1 else 0),H,I.tok _,⟨_,rfl⟩,q⟩
end
end L2
namespace L2
open PySem PySem.Spec PyProof.Rows
structure BB (h:Heap) (x dx C:Addr) (mA:Str→Option Value):Prop where
 obj:h.get? x=some (PySem.W.instObj C dx)
 ns:h.Ns1 dx mA
 ne:dx≠x
theorem Fz {h:Heap}{dx:Addr}{mA:Str→Option Value}(n:h.Ns1 dx mA):∃od,h.get? dx=some od∧∀name,PySem.W.lookIn name od=some (mA name):=by
 obtain⟨o,es,ep,ho,hd,hk,_,hm⟩:=n
 refine⟨o,ho,fun name=>?_⟩
 have e:=hm name
 unfold nsFind findBy at e
 rw [←Array.find?_toList] at e
 unfold PySem.W.lookIn
 rw [hd]
 dsimp only
 split
 ·rename_i y q
  rw [q] at e
  exact congrArg some e
 ·rename_i q
  rw [q] at e
  have a:es.toList.any (·.refKey)=false:=by
   rw [List.any_eq_false]
   intro y hy
   obtain⟨z,t,aak⟩:=hk y (Array.mem_toList_iff.mp hy)
   simp [DictEntry.refKey,aak]
  have a':¬es.toList.any (·.refKey)=true:=by rw [a]; exact Bool.false_ne_true
  rw [if_neg a']
  exact congrArg some e
theorem BB.look {h:Heap}{x dx C:Addr}{mA:Str→Option Value}(I:BB h x dx C mA):∃od,PySem.W.InstAt h x (PySem.W.instObj C dx) C (some od)∧∀name,PySem.W.lookIn name od=some (mA name):=
 let ⟨od,ho,hl⟩:=Fz I.ns
 ⟨od,⟨I.obj,rfl,rfl,ho⟩,hl⟩
section
variable {prog:Program}{w:World}{A:Around}{E:Value→Shared→Prop}{s:Shared}{K:PySem.W.Frag}{x dx C f:Addr}{mA:Str→Option Value}{name:Str}{v:Value}
theorem get_map {expr:Bool}{Q:Value→Shared→Prop}(X:K.In s.heap) (I:BB s.heap x dx C mA) (hg:PySem.W.plainGet K C name=true) (hh:PySem.W.hasDictIn K C=true)
  (ha:PySem.W.findIn K (.ref C) name=some none) (hv:mA name=some v) (hv':PySem.W.handedIn v=true) (h:Q v {s with toks:=s.toks+1}) :
  wpAny (model prog w) A (getAttr (.ref x) name expr) Q E s:=by
 obtain⟨od,J,hl⟩:=I.look
 exact PySem.W.get_value X J (PySem.W.plainGet_of hg).1 (PySem.W.findObj_own hh ha rfl (by rw [hl,hv])) hv' h
theorem G6 {pl:Sem Bool}{Q:Value×List Value→Shared→Prop}(X:K.In s.heap) (I:BB s.heap x dx C mA) (hg:PySem.W.plainGet K C name=true)
  (hf:PySem.W.findIn K (.ref C) name=some (some (.ref f))) (ht:PySem.W.isFn K (.ref f)=true) (hv:mA name=none) (h:Q (.ref f,[.ref x]) s) :
  wpAny (model prog w) A (getMethod (.ref x) name pl) Q E s:=by
 obtain⟨od,J,hl⟩:=I.look
 exact PySem.W.method_fn X J (PySem.W.plainGet_of hg).1 (PySem.W.plainGet_of hg).2 hf (beq_iff_eq.mp ht) (by show(PySem.W.lookIn name od).map (·.isSome)=some false; rw [hl,hv]; rfl) h
theorem LC {ns:List Str}{Q:Unit→Shared→Prop}(X:K.In s.heap) (I:BB s.heap x dx C mA)
  (hs:PySem.W.findIn K (.ref C) "__setattr__"=some (some (.builtin "object.__setattr__"))) (hp:PySem.W.plainOver K C=true) (ht:PySem.W.takerIn K C name=some none) (hh:PySem.W.hasDictIn K C=true)
  (hw:PySem.Within mA ns) (hsz:ns.length≤sizeLine)
  (h:∀h',BB h' x dx C (fun y=>if y=name then some v else mA y)→Heap.SameBut dx s.heap h'→Q () {s with heap:=h',toks:=s.toks+2}) :
  wpAny (model prog w) A (setAttr (.ref x) name v) Q E s:=by
 obtain⟨od,J,hl⟩:=I.look
 refine PySem.W.set_plain X J hs (PySem.W.osa_open (s:={s with toks:=s.toks+1}) (r:=none) X J hp ht fun b=>?_)
 obtain⟨cd,hc,xl⟩:=PySem.W.any_some hh
 have hx:s.heap.get? x=some ⟨.ref C,some dx,.plain,#[]⟩:=I.obj
 refine wpAny_bind (wpAny_pure (wpAny_bind (wpAny_bind (wpAny_loadPart hx (wpAny_bind (PySem.W.Looks.here (s:={s with toks:=s.toks+1}) (PySem.W.looks_clsIn X hc) ?_))))))
 rw [xl]
 refine wpAny_pure (a:=some dx) (wpAny_bind (wpAny_pure (wpAny_bind ?_)))
 refine wpAny_nsSet1 (s:={s with toks:=s.toks+1}) I.ns fun h' Z2 Vy=>?_
 obtain⟨oD,esD,epD,hoD,hdD,hcD⟩:=Z2.count (PySem.Within.cons name v hw)
 refine wpAny_bind (wpAny_lookBehind hoD (by rw [hdD]; exact pastItsLine_dict (Nat.le_trans hcD (by rw [List.length_cons]; omega))) ?_)
 exact wpAny_pure (h _ ⟨(Vy.2 _ (Ne.symm I.ne)).trans I.obj,Z2,I.ne⟩ Vy)
theorem G7 {R:Result→Shared→Prop}{vs:List Value}{kw:List (Str×Value)}(X:K.In s.heap) (hm:PySem.W.makesIn K C=true)
  (hi:PySem.W.findIn K (.ref C) "__init__"=some (some (.ref f))) (hf:PySem.W.typeIn K (.ref f)=some (.type "function"))
  (h:codeAny (model prog w) (A.under (.builtin "type.__call__" ⟨.ref C::vs,kw⟩)) (.call (.ref f) ⟨.ref (s.heap.objs.size+1)::vs,kw⟩) (PySem.W.InitBack (s.heap.objs.size+1) R)
   {s with heap:=(s.heap.push PySem.W.emptyDict).push (PySem.W.instObj C s.heap.objs.size)}) :
  codeAny (model prog w) A (.call (.ref C) ⟨vs,kw⟩) R s:=by
 obtain⟨hh,g,d,t,os⟩:=s
 exact PySem.W.make_core (PySem.W.makes_of X hm) (PySem.W.looks_findIn X hi) (fun self=>PySem.W.bind_fn X self hf) (.inl rfl) h
end
noncomputable def e_ (f:Str) (v:V):List (Str×V)→List (Str×V)
 | []=>[(f,v)]
 | (g,x)::r=>if g=f then(g,v)::r else(g,x)::e_ f v r
theorem bt (f g:Str) (v:V):∀fs:List (Str×V),(e_ f v fs).lookup g=if g=f then some v else fs.lookup g
 | []=>by
  show List.lookup g [(f,v)]=_
  by_cases h:g=f
  ·have hb:(g == f)=true:=beq_iff_eq.mpr h
   simp only [List.lookup,hb,if_pos h]
  ·have hb:(g == f)=false:=beq_eq_false_iff_ne.mpr h
   simp only [List.lookup,hb,if_neg h]
 | (k,x)::r=>by
  have ih:=bt f g v r
  rw [show e_ f v ((k,x)::r)=(if k=f then(k,v)::r else(k,x)::e_ f v r) from rfl]
  by_cases hk:k=f
  ·rw [if_pos hk]
   by_cases h:g=k
   ·have hb:(g == k)=true:=beq_iff_eq.mpr h
    simp only [List.lookup,hb,if_pos (h.trans hk)]
   ·have hb:(g == k)=false:=beq_eq_false_iff_ne.mpr h
    simp only [List.lookup,hb,if_neg (fun e:g=f=>h (e.trans hk.symm))]
  ·rw [if_neg hk]
   by_cases h:g=k
   ·have hb:(g == k)=true:=beq_iff_eq.mpr h
    simp only [List.lookup,hb,if_neg (fun e:g=f=>hk (h.symm.trans e))]
   ·have hb:(g == k)=false:=beq_eq_false_iff_ne.mpr h
    simp only [List.lookup,hb]
    exact ih
theorem lI (f:Str) (v:V):∀fs:List (Str×V),f∈(e_ f v fs).map (·.1)∧∀g,g∈fs.map (·.1)→g∈(e_ f v fs).map (·.1)
 | []=>⟨by simp [e_],fun g h=>by simp at h⟩
 | (k,x)::r=>by
  obtain⟨i1,i2⟩:=lI f v r
  rw [show e_ f v ((k,x)::r)=(if k=f then(k,v)::r else(k,x)::e_ f v r) from rfl]
  by_cases hk:k=f
  ·rw [if_pos hk]
   subst hk
   exact⟨by simp,fun g h=>by simpa using h⟩
  ·rw [if_neg hk]
   refine⟨?_,fun g h=>?_⟩
   ·rw [List.map_cons]
    exact List.mem_cons_of_mem _ i1
   ·rw [List.map_cons] at h ⊢
    rcases List.mem_cons.mp h with e | e
    ·exact List.mem_cons.mpr (.inl e)
    ·exact List.mem_cons_of_mem _ (i2 g e)
theorem cO (f:Str) (v:V):∀fs:List (Str×V),(e_ f v fs).length≤fs.length+1
 | []=>by simp [e_]
 | (k,x)::r=>by
  have ih:=cO f v r
  rw [show e_ f v ((k,x)::r)=(if k=f then(k,v)::r else(k,x)::e_ f v r) from rfl]
  by_cases hk:k=f
  ·rw [if_pos hk,List.length_cons,List.length_cons]; omega
  ·rw [if_neg hk,List.length_cons,List.length_cons]; omega
theorem fW.some_of {v:V}{o:Option Value}(r:fW (some v) o):∃u,o=some u∧RelV v u:=by
 cases o with
 | none=>exact(show False from r).elim
 | some u=>exact⟨u,rfl,r⟩
theorem fW.none_of {o:Option Value}(r:fW none o):o=none:=by
 cases o with
 | none=>rfl
 | some u=>exact(show False from r).elim
theorem FA {v:V}{u:Value}(r:RelV v u):PySem.W.handedIn u=true:=by
 cases v with
 | bj=>cases (show u=Value.none from r); rfl
 | bl b=>cases (show u=Value.bool b from r); rfl
 | int i=>obtain⟨t,e⟩:=(show ∃t,u=Value.int i t from r); cases e; rfl
 | str x=>obtain⟨t,e⟩:=(show ∃t,u=Value.str x t from r); cases e; rfl
 | GO b=>obtain⟨t,e⟩:=(show ∃t,u=Value.bytes b t from r); cases e; rfl
 | Q4 b=>obtain⟨t,e⟩:=(show ∃t,u=Value.float b t from r); cases e; rfl
 | ref a=>cases (show u=Value.ref a from r); rfl
 | ty n=>cases (show u=Value.type n from r); rfl
section
variable {P:Program}{w:World}{H H':Hp}{h h':Heap}{a C dx:Addr}{fs fs':List (Str×V)}
theorem oi (bw:ip P w H h) (e:H a=some (.ins C dx fs)):∃mA,BB h a dx C mA∧(∀f,fW (fs.lookup f) (mA f))∧PySem.Within mA (fs.map (·.1))∧fs.length≤1000∧H dx=some (.own a):=by
 obtain⟨d,z,ne,ob,mA,n,r,q⟩:=(show b9 P w H h a (.ins C dx fs) from bw a _ e)
 exact⟨mA,⟨ob,n,ne⟩,r,q,z,d⟩
end
structure rK (K:PySem.W.Frag) (C:Addr):Prop where
 pg:PySem.W.plainGet K C Str.empty=true
 hd:PySem.W.hasDictIn K C=true
 po:PySem.W.plainOver K C=true
 sa:PySem.W.findIn K (.ref C) "__setattr__"=some (some (.builtin "object.__setattr__"))
theorem rK.get {K:PySem.W.Frag}{C:Addr}(c:rK K C) (f:Str):PySem.W.plainGet K C f=true:=c.pg
noncomputable def cE (K:PySem.W.Frag) (C:Addr) (f:Str):Prop:=PySem.W.findIn K (.ref C) f=some none
theorem cE.Vz {K:PySem.W.Frag}{C:Addr}{f:Str}(n:cE K C f):PySem.W.takerIn K C f=some none:=by
 unfold PySem.W.takerIn
 rw [show PySem.W.findIn K (.ref C) f=some none from n]
 rfl
structure Con (K:PySem.W.Frag) (C:Addr) (f:Str) (v:V) (u:Value):Prop where
 at_:PySem.W.findIn K (.ref C) f=some (some u)
 rel:RelV v u
 get:PySem.W.specialIn K u "__get__"=some none
 cp:PySem.W.copiedNames.contains f=false
structure Meth (K:PySem.W.Frag) (C:Addr) (m:Str) (f:Addr):Prop where
 at_:PySem.W.findIn K (.ref C) m=some (some (.ref f))
 fn:PySem.W.isFn K (.ref f)=true
 kp:PySem.W.keepIn K (.ref f)=true
section
variable {X:Cx}{pins:List (Addr×Obj)}{σ:St}{H:Hp}{s:Shared}{a C dx:Addr}{fs:List (Str×V)}{f:Str}{v:V}{A:Around}{E:Value→Shared→Prop}
theorem BC {b:Bool}{Q:Value→Shared→Prop}(I:Inv X pins σ H s) (e:H a=some (.ins C dx fs)) (c:rK X.K C) (n:cE X.K C f) (l:fs.lookup f=some v)
  (h:∀u s',Inv X pins σ H s'→RelV v u→Q u s'):wpAny (model X.prog X.w) A (getAttr (.ref a) f b) Q E s:=by
 obtain⟨mA,O,r,_,_,_⟩:=oi I.bw e
 obtain⟨u,hu,ru⟩:=fW.some_of (v:=v) (o:=mA f) (by rw [←l]; exact r f)
 exact get_map I.eZ O (c.get f) c.hd n hu (FA ru) (h u _ (I.tok _) ru)
theorem fj {m:Str}{g:Addr}{pl:Sem Bool}{Q:Value×List Value→Shared→Prop}(I:Inv X pins σ H s) (e:H a=some (.ins C dx fs)) (c:rK X.K C) (k:Meth X.K C m g) (l:fs.lookup m=none)
  (h:Q (.ref g,[.ref a]) s):wpAny (model X.prog X.w) A (getMethod (.ref a) m pl) Q E s:=by
 obtain⟨mA,O,r,_,_,_⟩:=oi I.bw e
 have hn:mA m=none:=fW.none_of (by rw [←l]; exact r m)
 exact G6 I.eZ O (c.get m) k.at_ k.fn hn h
theorem BD {y:V}{u:Value}{Q:Unit→Shared→Prop}(I:Inv X pins σ H s) (e:H a=some (.ins C dx fs)) (c:rK X.K C) (n:cE X.K C f) (hl:fs.length < 1000) (ry:RelV y u)
  (h:∀s',Inv X pins σ (upd H a (.ins C dx (e_ f y fs))) s'→Q () s'):wpAny (model X.prog X.w) A (setAttr (.ref a) f u) Q E s:=by
 obtain⟨mA,O,r,wi,_,ho⟩:=oi I.bw e
 have hz:(fs.map (·.1)).length≤sizeLine:=by rw [List.length_map,sizeLine_eq]; omega
 refine LC I.eZ O c.sa c.po n.Vz c.hd wi hz fun h' O' sb=>h _ ?_
 have hd:∃o,h'.get? dx=some o:=let ⟨o,_,_,e',_⟩:=O'.ns; ⟨o,e'⟩
 refine I.write (x:=a) (e:=dx) (by rw [e]; exact True.intro) (.inr ho) (fun b q hb z=>(sb.2 b hb).trans z) hd ?_
 refine⟨by rw [ak O.ne]; exact ho,?_,O.ne,O'.obj,_,O'.ns,fun g=>?_,fun g hg=>?_⟩
 ·have:=cO f y fs; omega
 ·show fW ((e_ f y fs).lookup g) (if g=f then some u else mA g)
  rw [bt]
  by_cases q:g=f
  ·rw [if_pos q,if_pos q]; exact ry
  ·rw [if_neg q,if_neg q]; exact r g
 ·by_cases q:g=f
  ·rw [q]; exact(lI f y fs).1
  ·refine(lI f y fs).2 g (wi g fun z=>hg ?_)
   show(if g=f then some u else mA g)=none
   rw [if_neg q]; exact z
theorem Inv.made (I:Inv X pins σ H s):Inv X pins σ (upd (upd H s.heap.objs.size (.own (s.heap.objs.size+1))) (s.heap.objs.size+1) (.ins C s.heap.objs.size []))
  {s with heap:=(s.heap.push PySem.W.emptyDict).push (PySem.W.instObj C s.heap.objs.size)}:=by
 have e1:(s.heap.push PySem.W.emptyDict).get? s.heap.objs.size=some PySem.W.emptyDict:=Heap.get?_push_size s.heap rfl
 have e2:((s.heap.push PySem.W.emptyDict).push (PySem.W.instObj C s.heap.objs.size)).get? (s.heap.objs.size+1)=some (PySem.W.instObj C s.heap.objs.size):=by
  have:=Heap.get?_push_size (s.heap.push PySem.W.emptyDict) (o:=PySem.W.instObj C s.heap.objs.size) rfl
  rwa [Heap.size_push] at this
 have e3:(s.heap.push PySem.W.emptyDict).Ns s.heap.objs.size (fun _=>none):=⟨PySem.W.emptyDict,#[],_,e1,rfl,(fun e he=>absurd he (by simp)),fun _=>rfl⟩
 have I1:=I.laid (a:=s.heap.objs.size) (o:=.own (s.heap.objs.size+1)) (h':=s.heap.push PySem.W.emptyDict) (t':=s.toks) (fun b u q=>Heap.get?_push_of_some _ q) (Nat.le_refl _) ⟨_,e1⟩
 refine I1.laid (a:=s.heap.objs.size+1) (o:=.ins C s.heap.objs.size []) (t':=s.toks) (fun b u q=>Heap.get?_push_of_some _ q) (Nat.le_of_eq (Heap.size_push _ _)) ?_
 have ne:s.heap.objs.size≠s.heap.objs.size+1:=Nat.ne_of_lt (Nat.lt_succ_self _)
 refine⟨by rw [ak ne,af],Nat.zero_le _,ne,e2,fun _=>none,(Heap.Ns1.of_empty e3).at fun o q=>Heap.get?_push_of_some _ q,fun _=>True.intro,fun y hy=>absurd rfl hy⟩
theorem LD {prog:Program}{w:World}{env:Env}{e:Expr}{f:Str}{pos:Pos}{s:Shared}{Q:Value→Shared→Prop}(hb:attributeBase e f env (eval e env)=eval e env)
  (h:wpAny (model prog w) A (eval e env) (fun o s₁=>wpAny (model prog w) A (getAttr o f true) Q E s₁) E s):wpAny (model prog w) A (eval (.Attribute e f pos) env) Q E s:=
 Attribute_any_ h (by rw [arm_eval_Attribute,hb])
end
noncomputable def VA (K:PySem.W.Frag) (ta:TE) (f:Str):TE:=fun σ H Q=>ta σ H fun x H1=>∃a C dx fs v,x=.ref a∧H1 a=some (.ins C dx fs)∧rK K C∧cE K C f∧fs.lookup f=some v∧Q v H1
noncomputable def VB (K:PySem.W.Frag) (ta tv:TE) (f:Str):TS:=fun D σ H=>tv σ H fun y H1=>ta σ H1 fun x H2=>∃a C dx fs,x=.ref a∧H2 a=some (.ins C dx fs)∧rK K C∧cE K C f∧fs.length < 1000 ∧
 D.nx σ (upd H2 a (.ins C dx (e_ f y fs)))
section
variable {X:Cx}{o e value:Expr}{f:Str}{pos pos' aal:Pos}{ta tv:TE}
theorem cu (he:PE X e ta) (hb:attributeBase e f X.env (eval e X.env)=eval e X.env):PE X (.Attribute e f pos) (VA X.K ta f):=by
 intro pins s σ H Q I h
 refine LD hb (b_ (he pins s σ H _ I h) fun u s1 ⟨x,H1,I1,rx,a,C,dx,fs,v,ex,ea,c,n,l,q⟩=>?_)
 subst ex
 obtain rfl:u=Value.ref a:=rx
 exact BC I1 ea c n l fun u' s2 I2 ru=>⟨v,H1,I2,ru,q⟩
theorem lJ (ha:PE X o ta) (hv:PE X value tv) (hs:swapsWith value (some (.Attribute o f pos')) pos.line X.env=pure false):PS X (.Assign [.Attribute o f pos'] value pos) (VB X.K ta tv f):=by
 intro pins s σ H D I h
 refine plainObj_wpAny_Assign_Attribute (b_ (hv pins s σ H _ I h) fun u s1 ⟨y,H1,I1,ry,q⟩=>b_ (ha pins s1 σ H1 _ I1 q) fun ov s2 ⟨x,H2,I2,rx,a,C,dx,fs,ex,ea,c,n,l,q2⟩=>?_) hs
 subst ex
 obtain rfl:ov=Value.ref a:=rx
 exact BD I2 ea c n l ry fun s3 I3=>⟨σ,_,I3,q2⟩
theorem N7 {pl:Sem Bool}{m:Str}{apos:Pos}{args:List Expr}{pins:List (Addr×Obj)}{s:Shared}{σ:St}{H:Hp}{Q:Value→Shared→Prop}{te:TE}(he:PE X e te) (I:Inv X pins σ H s)
  (h:te σ H fun x H1=>∃a C dx fs g,x=.ref a∧H1 a=some (.ins C dx fs)∧rK X.K C∧Meth X.K C m g∧fs.lookup m=none ∧
   ∀s1,Inv X pins σ H1 s1→wpAny (model X.prog X.w) X.A (callWith pos (.ref g) [.ref a] (backTo pos (starEach args X.env)) (backToKw pos (keywordEach [] X.env))) Q X.xe s1)
  (ht:eval (.Call (.Attribute e m apos) args [] pos) X.env=(do
   let ov ←eval e X.env
   standAt apos.atName
   let (f,first) ←holding [ov] (getMethod ov m pl)
   callWith pos f first (backTo pos (starEach args X.env)) (backToKw pos (keywordEach [] X.env)))) :
  wpAny (model X.prog X.w) X.A (eval (.Call (.Attribute e m apos) args [] pos) X.env) Q X.xe s:=by
 refine PySem.W.methodCall_KW (pl:=pl) (b_ (he pins s σ H _ I h) fun u s1 ⟨x,H1,I1,rx,a,C,dx,fs,g,ex,ea,c,k,l,q⟩=>?_) ht
 subst ex
 obtain rfl:u=Value.ref a:=rx
 exact fj I1 ea c k l (q s1 I1)
end
section
variable {X:Cx}{pins:List (Addr×Obj)}{σ:St}{H:Hp}{s:Shared}{A:Around}{E:Value→Shared→Prop}{Q:Value→Shared→Prop}{c:Value}{b:Bool}
inductive lK (K:PySem.W.Frag) (H:Hp):V→Value→Prop where
 | bj:lK K H .bj (.type "NoneType")
 | bl (x:Bool):lK K H (.bl x) (.type "bool")
 | int (i:Int):lK K H (.int i) (.type "int")
 | str (x:Str):lK K H (.str x) (.type "str")
 | Q4 (x:UInt64):lK K H (.Q4 x) (.type "float")
 | lst {a:Addr}{xs:List V}(e:H a=some (.lst xs)):lK K H (.ref a) (.type "list")
 | dF {a:Addr}{o:Obj}{xs:List V}(e:H a=some (.dF o (.lst xs))):lK K H (.ref a) (.type "list")
 | tup {a:Addr}{xs:List V}(e:H a=some (.tup xs)):lK K H (.ref a) (.type "tuple")
 | dK {a:Addr}{kvs:List (Key×V)}(e:H a=some (.dK kvs)):lK K H (.ref a) (.type "dict")
 | dT {a:Addr}{kvs:List (List Key×V)}(e:H a=some (.dT kvs)):lK K H (.ref a) (.type "dict")
 | ins {a C dx:Addr}{fs:List (Str×V)}(e:H a=some (.ins C dx fs)) (cl:rK K C) (ha:PySem.W.findIn K (.ref C) "__class__"=some (some (.builtin "object.__class__")))
   (hn:PySem.W.specialIn K (.builtin "object.__class__") "__get__"=some (some (.builtin "getset_descriptor.__get__"))) (Rr:PySem.W.takesIn K (.builtin "object.__class__")=some true)
   (hm:PySem.W.mroIn K C (.type "object")=some true):lK K H (.ref a) (.ref C)
theorem FC {x:V}{u t:Value}(I:Inv X pins σ H s) (rx:RelV x u) (ty:lK X.K H x t) (e:PySem.W.kitOne X.K t c=some b) (h:∀tk,Q (.bool b) {s with toks:=tk}) :
  wpAny (model X.prog X.w) A (call (.builtin "isinstance") [u,c]) Q E s:=by
 cases ty with
 | bj=>cases (show u=Value.none from rx); exact PySem.W.kia_one PySem.W.kitx_none I.eZ True.intro e (fun z=>nomatch z) h
 | bl y=>cases (show u=Value.bool y from rx); exact PySem.W.kia_one PySem.W.kitx_bool I.eZ True.intro e (fun z=>nomatch z) h
 | int i=>obtain⟨t,q⟩:=(show ∃t,u=Value.int i t from rx); cases q; exact PySem.W.kia_one PySem.W.kitx_int I.eZ True.intro e (fun z=>nomatch z) h
 | str y=>obtain⟨t,q⟩:=(show ∃t,u=Value.str y t from rx); cases q; exact PySem.W.kia_one PySem.W.kitx_str I.eZ True.intro e (fun z=>nomatch z) h
 | Q4 y=>obtain⟨t,q⟩:=(show ∃t,u=Value.float y t from rx); cases q; exact PySem.W.kia_one PySem.W.kitx_float I.eZ True.intro e (fun z=>nomatch z) h
 | @lst a xs ea=>
  cases (show u=Value.ref a from rx)
  obtain⟨_,_,n,_,h1⟩:=(show b9 X.prog X.w H s.heap a (.lst xs) from I.bw a _ ea)
  exact PySem.W.kia_one PySem.W.kitx_list I.eZ ⟨_,h1,rfl⟩ e (fun z=>nomatch z) h
 | @dF a ob xs ea=>
  cases (show u=Value.ref a from rx)
  obtain⟨_,_,_,n,_,h1⟩:=(show b9 X.prog X.w H s.heap a (.dF ob (.lst xs)) from I.bw a _ ea)
  exact PySem.W.kia_one PySem.W.kitx_list I.eZ ⟨_,h1,rfl⟩ e (fun z=>nomatch z) h
 | @tup a xs ea=>
  cases (show u=Value.ref a from rx)
  obtain⟨_,_,_,p⟩:=(show b9 X.prog X.w H s.heap a (.tup xs) from I.bw a _ ea)
  obtain⟨o,h1,h2,_⟩:=p
  exact PySem.W.kia_one PySem.W.kitx_tuple I.eZ ⟨o,h1,h2⟩ e (fun z=>nomatch z) h
 | @dK a kvs ea=>
  cases (show u=Value.ref a from rx)
  obtain⟨_,_,vs,_,p⟩:=(show b9 X.prog X.w H s.heap a (.dK kvs) from I.bw a _ ea)
  obtain⟨o,es,ep,h1,h2,_⟩:=p
  exact PySem.W.kia_one PySem.W.kitx_dict I.eZ ⟨o,h1,h2.1⟩ e (fun z=>nomatch z) h
 | @dT a kvs ea=>
  cases (show u=Value.ref a from rx)
  obtain⟨_,_,xs,_,o,es,ep,h1,h2,_⟩:=(show b9 X.prog X.w H s.heap a (.dT kvs) from I.bw a _ ea)
  exact PySem.W.kia_one PySem.W.kitx_dict I.eZ ⟨o,h1,h2.1⟩ e (fun z=>nomatch z) h
 | @ins a C dx fs ea cl ha hn Rr hm=>
  cases (show u=Value.ref a from rx)
  obtain⟨mA,O,_⟩:=oi I.bw ea
  obtain⟨od,J,_⟩:=O.look
  exact PySem.W.kia_one (PySem.W.kitx_own (cl.get _) cl.hd ha hn Rr hm) I.eZ J e (fun z=>nomatch z) h
end
end L2
namespace L2
open PySem PySem.Spec PyProof.Rows
structure dH (k:Nat) (A:Around):Prop where
 hd:A.handled=none
 dp:A.depth+3*k+5 < recursionLimit
 un:A.units+16*k+200 < cLine
theorem dH.mono {j k:Nat}{A:Around}(r:dH k A) (h:j≤k):dH j A:=⟨r.hd,by have:=r.dp; omega,by have:=r.un; omega⟩
theorem dH.deeper {k:Nat}{A:Around}(r:dH (k+1) A) (env:Env):dH k (A.deeper env):=
 ⟨r.hd,by have:=r.dp; show A.depth+1+3*k+5 < _; omega,by have:=r.un; show A.units+3+16*k+200 < _; omega⟩
theorem BE {A:Around}{C:Addr}{us:List Value}{kw:List (Str×Value)}:(A.under (.builtin "type.__call__" ⟨.ref C::us,kw⟩)).depth=A.depth+1:=by
 first | rfl | simp [Around.under,Code.weight,Code.isCreation,Code.isGuard,Code.isCaller,Code.frames,Code.isFrame,guardIds]
theorem BF {A:Around}{C:Addr}{us:List Value}{kw:List (Str×Value)}:(A.under (.builtin "type.__call__" ⟨.ref C::us,kw⟩)).units=A.units+1:=by
 first | rfl | simp [Around.under,Code.cUnits,Code.frames,Code.isFrame]
theorem dH.make {k:Nat}{A:Around}(r:dH (k+1) A) (C:Addr) (us:List Value) (kw:List (Str×Value)):dH k (A.under (.builtin "type.__call__" ⟨.ref C::us,kw⟩)):=
 ⟨r.hd,by have:=r.dp; rw [BE]; omega,by have:=r.un; rw [BF]; omega⟩
theorem dH.depth {k:Nat}{A:Around}(r:dH k A):A.depth < recursionLimit:=by have:=r.dp; omega
theorem dH.units {k:Nat}{A:Around}(r:dH k A):A.units+64 < cLine:=by have:=r.un; omega
noncomputable def xt:TA:=fun _ H Q=>Q [] H
noncomputable def oH (ta:TE) (tr:TA):TA:=fun σ H Q=>ta σ H fun x H1=>tr σ H1 fun xs H2=>Q (x::xs) H2
section
variable {X:Cx}{e:Expr}{es:List Expr}{te:TE}{t:TA}{pos:Pos}
theorem ae:PA X [] xt:=fun _ _ _ _ H Q I h=>Calls.spliced_nil ⟨[],H,I,.nil,h⟩
theorem aa (ha:PE X e te) (hr:PA X es t) (hs:starEach (e::es) X.env=(false,eval e X.env)::starEach es X.env:=by rfl):PA X (e::es) (oH te t):=by
 intro pos pins s σ H Q I h
 rw [hs]
 show wpAny _ _ (spliced ((false,eval e X.env)::backTo pos (starEach es X.env))) _ _ s
 refine Calls.spliced_cons (b_ (ha pins s σ H _ I h) fun u s1 ⟨x,H1,I1,r1,q1⟩=>?_)
 exact b_ (hr pos pins s1 σ H1 _ I1 q1) fun us s2 ⟨xs,H2,I2,r2,q2⟩=>⟨x::xs,H2,I2,.cons r1 r2,q2⟩
noncomputable def LF (t:TA):TE:=fun σ H Q=>t σ H fun xs H1=>xs.length≤sizeLine∧∀p,H1 p=none→Q (.ref p) (upd H1 p (.tup xs))
noncomputable def VC (t:TA):TE:=fun σ H Q=>t σ H fun xs H1=>xs.length≤sizeLine∧∀p,H1 p=none→Q (.ref p) (upd H1 p (.lst xs))
theorem bf {x1} (h:PA X es t):PE X (.Tuple es x1 pos) (LF t):=by
 intro pins s σ H Q I hq
 refine wpAny_Tuple_spliced (b_ (h pos pins s σ H _ I hq) fun us s1 ⟨xs,H1,I1,r,z,q⟩=>⟨by rw [←r.length]; exact z,?_⟩)
 have hf:H1 s1.heap.objs.size=none:=I1.bw.fresh (Nat.le_refl _)
 refine⟨.ref s1.heap.objs.size,upd H1 s1.heap.objs.size (.tup xs),I1.laid (t':=s1.toks) (fun b u e=>Heap.get?_push_of_some _ e) (Nat.le_refl _) ?_,rfl,q _ hf⟩
 exact⟨z,us,r,⟨_,Heap.get?_push_size _ rfl,rfl,_,rfl⟩⟩
theorem bG (h:PA X es t):PE X (.List es pos) (VC t):=by
 intro pins s σ H Q I hq
 refine wpAny_List_spliced (b_ (h pos pins s σ H _ I hq) fun us s1 ⟨xs,H1,I1,r,z,q⟩=>⟨by rw [←r.length]; exact z,?_⟩)
 have hf:H1 s1.heap.objs.size=none:=I1.bw.fresh (Nat.le_refl _)
 refine⟨.ref s1.heap.objs.size,upd H1 s1.heap.objs.size (.lst xs),I1.laid (t':=s1.toks) (fun b u e=>Heap.get?_push_of_some _ e) (Nat.le_refl _) ?_,rfl,q _ hf⟩
 exact⟨z,us,0,r,Heap.get?_push_size _ rfl⟩
end
noncomputable abbrev Sp:=List V→Hp→VK→XK→Prop
noncomputable abbrev rL:=List Env→Hp→Shared→XK→Value→Shared→Prop
structure xu (P:Program) (w:World) (K:PySem.W.Frag) (mg:Str→Option Value) (base:Heap) (A:Around) (outer:List Env) (s:Shared) (H:Hp):Prop where
 frames:A.frames=some outer
 mod:Mod K mg base
 bs:∀b o,base.get? b=some o→s.heap.get? b=some o∧H b=none
 Ey:base.objs.size≤s.heap.objs.size
 jG:s.heap.FunFrames base outer
 Ll:∀b∈mE outer,H b=none
 bw:ip P w H s.heap
 bare:AllBare s.gens
noncomputable def CE (outer:List Env) (P:Program) (w:World) (H:Hp) (s:Shared) (Q:VK) (u:Value) (s':Shared):Prop:=
 ∃v H',s'.os=s.os∧AllBare s'.gens∧Un (mE outer) [] H H' s.heap s'.heap∧ip P w H' s'.heap∧RelV v u∧Q v H'
noncomputable def CR (CX:rL) (outer:List Env) (P:Program) (w:World) (H:Hp) (s:Shared) (Q:VK) (E:XK) (r:Result) (s':Shared):Prop:=
 match r with
 | .ok (.ret u)=>CE outer P w H s Q u s'
 | .ok _=>False
 | .error e=>CX outer H s E e s'
structure aY (P:Program) (w:World) (K:PySem.W.Frag) (mg:Str→Option Value) (base:Heap) (CX:rL) (k:Nat) (f:Addr) (fd:FuncData) (ps:List Str) (sp:Sp):Prop where
 len:∀vs H Q E,sp vs H Q E→vs.length=ps.length
 run:∀(A:Around) (outer:List Env) (s:Shared) (H:Hp) (args:Args) (us:List Value) (vs:List V) (Q:VK) (E:XK),dH k A→xu P w K mg base A outer s H→BindsTo s fd args (ps.zip us)→Vals vs us→sp vs H Q E →
  codeAny (model P w) A (.call (.ref f) args) (CR CX outer P w H s Q E) s
theorem xu.make {P:Program}{w:World}{K:PySem.W.Frag}{mg:Str→Option Value}{base:Heap}{A:Around}{outer:List Env}{s:Shared}{H:Hp}(e:xu P w K mg base A outer s H) (C:Addr) (us:List Value) (kw:List (Str×Value)) :
  xu P w K mg base (A.under (.builtin "type.__call__" ⟨.ref C::us,kw⟩)) outer s H:=⟨by first | exact e.frames | (simpa [Around.under,Code.envs,Code.isFrame,pushEnvs] using e.frames),e.mod,e.bs,e.Ey,e.jG,e.Ll,e.bw,e.bare⟩
section
variable {X:Cx}{pins:List (Addr×Obj)}{σ:St}{H:Hp}{s s':Shared}
theorem Inv.Rt (I:Inv X pins σ H s):xu X.prog X.w X.K X.mg X.base X.A X.stack s H:=
 ⟨I.ok.frames,I.ok.mod,I.bs,Nat.le_trans I.ok.Ey I.sz,I.stack,I.i7,I.bw,I.bare⟩
theorem Inv.after {Q:VK}{u:Value}(I:Inv X pins σ H s) (h:CE X.stack X.prog X.w H s Q u s'):EP X pins σ Q u s':=by
 obtain⟨v,H',os,bare,un,bw,r,q⟩:=h
 obtain⟨hh,g,d,t,os'⟩:=s'
 obtain rfl:os'=s.os:=os
 exact⟨v,H',I.call (h':=hh) (g':=g) (d':=d) (t':=t) (ch:=[]) un bw bare (fun b z=>absurd z (by simp)),r,q⟩
end
noncomputable def EG (sp:Sp) (eK:List V) (E:XK) (t:TA):TE:=fun σ H Q=>t σ H fun vs H1=>sp (vs++eK) H1 Q E
noncomputable def G8 (C:Addr) (m:Str) (sp:Sp) (eK:List V) (E:XK) (ta:TE) (t:TA):TE:=fun σ H Q=>ta σ H fun x H1=>∃a dx fs,x=.ref a∧H1 a=some (.ins C dx fs)∧fs.lookup m=none ∧
 t σ H1 fun vs H2=>sp (x::(vs++eK)) H2 Q E
noncomputable def G9 (C:Addr) (sp:Sp) (eK:List V) (E:XK) (t:TA):TE:=fun σ H Q=>t σ H fun vs H1=>∀x dx,H1 x=none→H1 dx=none→dx≠x →
 sp (.ref x::(vs++eK)) (upd (upd H1 dx (.own x)) x (.ins C dx [])) (fun v H2=>v=.bj∧Q (.ref x) H2) E
noncomputable def Binds (K:PySem.W.Frag) (fd:FuncData) (ps:List Str) (ds:List Value):Prop:=
 ∀(s:Shared) (us:List Value),K.In s.heap→(us++ds).length=ps.length→BindsTo s fd ⟨us,[]⟩ (ps.zip (us++ds))
theorem Binds.all {K:PySem.W.Frag}{fd:FuncData}{ps:List Str}(h:∀us:List Value,us.length=ps.length→bindArgs fd ⟨us,[]⟩=pure (ps.zip us)):Binds K fd ps []:=fun s us _ hl=>by
 rw [List.append_nil] at hl ⊢
 exact .of_eq (h us hl)
noncomputable def Passes (CX:rL) (X:Cx) (E:XK):Prop:=∀(pins:List (Addr×Obj)) (σ:St) (H:Hp) (s:Shared) (e:Value) (s':Shared),Inv X pins σ H s→CX X.stack H s E e s'→X.xe e s'
section
variable {X:Cx}{CX:rL}{k:Nat}{f C:Addr}{fd:FuncData}{ps:List Str}{sp:Sp}{eK:List V}{ds:List Value}{E:XK}{x m:Str}{p pos apos:Pos}{e o:Expr}{es:List Expr}{ta:TE}{t:TA}
theorem lL {pins:List (Addr×Obj)}{σ:St}{H:Hp}{s:Shared}{Q:VK}{us:List Value}{vs:List V}(F:aY X.prog X.w X.K X.mg X.base CX k f fd ps sp) (hr:dH k X.A) (hb:Binds X.K fd ps ds) (hd:Vals eK ds) (hx:Passes CX X E)
  (I:Inv X pins σ H s) (r:Vals vs us) (h:sp (vs++eK) H Q E):wpAny (model X.prog X.w) X.A (call (.ref f) us) (EP X pins σ Q) X.xe s:=by
 have r2:Vals (vs++eK) (us++ds):=r.append hd
 have hl:(us++ds).length=ps.length:=by rw [←r2.length]; exact F.len _ _ _ _ h
 refine wpAny_call (codeAny_mono (F.run X.A X.stack s H ⟨us,[]⟩ (us++ds) (vs++eK) Q E hr I.Rt (hb s us I.eZ hl) r2 h) fun r s' hq=>?_)
 cases r with
 | error e=>exact hx pins σ H s e s' I hq
 | ok fl=>
  cases fl with
  | ret u=>exact I.after hq
  | next=>exact False.elim hq
  | brk=>exact False.elim hq
  | cont=>exact False.elim hq
theorem aM (F:aY X.prog X.w X.K X.mg X.base CX k f fd ps sp) (hr:dH k X.A) (hg:Gl X x) (hm:X.mg x=some (.ref f)) (hk:PySem.W.keepIn X.K (.ref f)=true) (hb:Binds X.K fd ps ds) (hd:Vals eK ds) (hx:Passes CX X E)
  (ha:PA X (e::es) t) (G_:(x == ("__debug__":Str))=false:=by decide) (he:starEach (e::es) X.env=(false,eval e X.env)::starEach es X.env:=by rfl) (mG:(backTo pos (starEach es X.env)).any (·.1)=false:=by rfl) :
  PE X (.Call (.Name x p) (e::es) [] pos) (EG sp eK E t):=by
 intro pins s σ H Q I h
 refine wpAny_Call_Name_kw (i8 I hg hm ?_ G_)
 refine PySem.W.callWith_K (h₀:=X.base) I.ok.mod.Lw hk (b_ (ha pos pins s σ H _ I h) fun us s1 ⟨vs,H1,I1,r,q⟩=>⟨I1.eZ,?_⟩) he mG
 exact lL F hr hb hd hx I1 r q
theorem aS {pl:Sem Bool}(he:PE X o ta) (c:rK X.K C) (hm:Meth X.K C m f) (F:aY X.prog X.w X.K X.mg X.base CX k f fd ps sp) (hr:dH k X.A) (hb:Binds X.K fd ps ds) (hd:Vals eK ds) (hx:Passes CX X E) (ha:PA X (e::es) t)
  (Br:starEach (e::es) X.env=(false,eval e X.env)::starEach es X.env:=by rfl) (mG:(backTo pos (starEach es X.env)).any (·.1)=false:=by rfl)
  (ht:eval (.Call (.Attribute o m apos) (e::es) [] pos) X.env=(do
   let ov ←eval o X.env
   standAt apos.atName
   let (f,first) ←holding [ov] (getMethod ov m pl)
   callWith pos f first (backTo pos (starEach (e::es) X.env)) (backToKw pos (keywordEach [] X.env))):=by rfl) :
  PE X (.Call (.Attribute o m apos) (e::es) [] pos) (G8 C m sp eK E ta t):=by
 intro pins s σ H Q I h
 refine PySem.W.methodCall_KW (pl:=pl) (b_ (he pins s σ H _ I h) fun u s1 ⟨x,H1,I1,rx,a,dx,fs,ex,ea,l,q⟩=>?_) ht
 subst ex
 obtain rfl:u=Value.ref a:=rx
 refine fj I1 ea c hm l ?_
 refine PySem.W.callWith_K (first:=[.ref a]) (h₀:=X.base) I.ok.mod.Lw hm.kp (b_ (ha pos pins s1 σ H1 _ I1 q) fun us s2 ⟨vs,H2,I2,r,q2⟩=>⟨I2.eZ,?_⟩) Br mG
 exact lL (us:=.ref a::us) (vs:=.ref a::vs) F hr hb hd hx I2 (.cons rfl r) q2
theorem dO {pl:Sem Bool}(he:PE X o ta) (c:rK X.K C) (hm:Meth X.K C m f) (F:aY X.prog X.w X.K X.mg X.base CX k f fd ps sp) (hr:dH k X.A) (hb:Binds X.K fd ps ds) (hd:Vals eK ds) (hx:Passes CX X E)
  (ht:eval (.Call (.Attribute o m apos) [] [] pos) X.env=(do
   let ov ←eval o X.env
   standAt apos.atName
   let (f,first) ←holding [ov] (getMethod ov m pl)
   callWith pos f first (backTo pos (starEach [] X.env)) (backToKw pos (keywordEach [] X.env))):=by rfl) :
  PE X (.Call (.Attribute o m apos) [] [] pos) (G8 C m sp eK E ta xt):=by
 intro pins s σ H Q I h
 refine PySem.W.methodCall_KW (pl:=pl) (b_ (he pins s σ H _ I h) fun u s1 ⟨x,H1,I1,rx,a,dx,fs,ex,ea,l,q⟩=>?_) ht
 subst ex
 obtain rfl:u=Value.ref a:=rx
 refine fj I1 ea c hm l ?_
 exact PySem.W.callWith_K0 (first:=[.ref a]) I1.eZ hm.kp (lL (us:=[.ref a]) (vs:=[.ref a]) F hr hb hd hx I1 (.cons rfl .nil) q)
structure Mk (K:PySem.W.Frag) (C f:Addr):Prop where
 makes:PySem.W.makesIn K C=true
 init:PySem.W.findIn K (.ref C) "__init__"=some (some (.ref f))
 fn:PySem.W.isFn K (.ref f)=true
 kp:PySem.W.keepIn K (.ref C)=true
theorem xv {pins:List (Addr×Obj)}{σ:St}{H:Hp}{s:Shared}{Q:VK}{us:List Value}{vs:List V}(M:Mk X.K C f) (F:aY X.prog X.w X.K X.mg X.base CX k f fd ps sp) (hr:dH (k+1) X.A) (hb:Binds X.K fd ps ds) (hd:Vals eK ds)
  (hx:Passes CX X E) (I:Inv X pins σ H s) (r:Vals vs us)
  (h:∀x dx,H x=none→H dx=none→dx≠x→sp (.ref x::(vs++eK)) (upd (upd H dx (.own x)) x (.ins C dx [])) (fun v H2=>v=.bj∧Q (.ref x) H2) E) :
  wpAny (model X.prog X.w) X.A (call (.ref C) us) (EP X pins σ Q) X.xe s:=by
 have hq:=h (s.heap.objs.size+1) s.heap.objs.size (I.bw.fresh (Nat.le_succ _)) (I.bw.fresh (Nat.le_refl _)) (Nat.ne_of_lt (Nat.lt_succ_self _))
 have I2:=Inv.made (C:=C) I
 have r2:Vals (V.ref (s.heap.objs.size+1)::(vs++eK)) (Value.ref (s.heap.objs.size+1)::(us++ds)):=.cons rfl (r.append hd)
 have hl:(Value.ref (s.heap.objs.size+1)::us++ds).length=ps.length:=by
  have e:=r2.length
  rw [F.len _ _ _ _ hq] at e
  exact e.symm
 refine wpAny_call (G7 (f:=f) I.eZ M.makes M.init (beq_iff_eq.mp M.fn) (codeAny_mono (F.run _ X.stack _ _ ⟨Value.ref (s.heap.objs.size+1)::us,[]⟩ (Value.ref (s.heap.objs.size+1)::(us++ds)) _ _ E (hr.make C us [])
  (I2.Rt.make C us []) (hb _ (Value.ref (s.heap.objs.size+1)::us) I2.eZ hl) r2 hq) fun r s' VD=>?_))
 cases r with
 | error e=>exact hx pins σ _ _ e s' I2 VD
 | ok fl=>
  cases fl with
  | ret u=>
   obtain⟨v,H',I3,rv,ev,q3⟩:=I2.after VD
   subst ev
   exact⟨rv,⟨V.ref (s.heap.objs.size+1),H',I3,rfl,q3⟩⟩
  | next=>exact False.elim VD
  | brk=>exact False.elim VD
  | cont=>exact False.elim VD
theorem kx (M:Mk X.K C f) (F:aY X.prog X.w X.K X.mg X.base CX k f fd ps sp) (hr:dH (k+1) X.A) (hg:Gl X x) (hm:X.mg x=some (.ref C)) (hb:Binds X.K fd ps ds) (hd:Vals eK ds) (hx:Passes CX X E)
  (ha:PA X (e::es) t) (G_:(x == ("__debug__":Str))=false:=by decide) (he:starEach (e::es) X.env=(false,eval e X.env)::starEach es X.env:=by rfl) (mG:(backTo pos (starEach es X.env)).any (·.1)=false:=by rfl) :
  PE X (.Call (.Name x p) (e::es) [] pos) (G9 C sp eK E t):=by
 intro pins s σ H Q I h
 refine wpAny_Call_Name_kw (i8 I hg hm ?_ G_)
 refine PySem.W.callWith_K (h₀:=X.base) I.ok.mod.Lw M.kp (b_ (ha pos pins s σ H _ I h) fun us s1 ⟨vs,H1,I1,r,q⟩=>⟨I1.eZ,?_⟩) he mG
 exact xv M F hr hb hd hx I1 r q
theorem xw (M:Mk X.K C f) (F:aY X.prog X.w X.K X.mg X.base CX k f fd ps sp) (hr:dH (k+1) X.A) (hg:Gl X x) (hm:X.mg x=some (.ref C)) (hb:Binds X.K fd ps ds) (hd:Vals eK ds) (hx:Passes CX X E)
  (G_:(x == ("__debug__":Str))=false:=by decide):PE X (.Call (.Name x p) [] [] pos) (G9 C sp eK E xt):=by
 intro pins s σ H Q I h
 refine wpAny_Call_Name_kw (i8 I hg hm ?_ G_)
 exact PySem.W.callWith_K0 I.eZ M.kp (xv (us:=[]) M F hr hb hd hx I .nil h)
end
section
variable {X:Cx}{CX:rL}{k:Nat}{f C:Addr}{fd:FuncData}{ps ks:List Str}{sp:Sp}{E:XK}{x m:Str}{p pos apos acF:Pos}{e o:Expr}{es:List Expr}{kws:List Keyword}{te ta:TE}{t tk:TA}{nm:Option Str}
structure aam (K:PySem.W.Frag) (fd:FuncData) (ps ks:List Str) (g:List Value→List Value→List Value) (gV:List V→List V→List V):Prop where
 to:∀(s:Shared) (us ws:List Value),K.In s.heap→(g us ws).length=ps.length→BindsTo s fd ⟨us,ks.zip ws⟩ (ps.zip (g us ws))
 rel:∀{vs:List V}{us:List Value}{zs:List V}{ws:List Value},Vals vs us→Vals zs ws→Vals (gV vs zs) (g us ws)
variable {g:List Value→List Value→List Value}{gV:List V→List V→List V}
end
structure aA (N P:List Str) (sc:Scope):Prop where
 kind:sc.kind=.function
 co:sc.isCoroutine=false
 gen:sc.isGenerator=false
 nd:N.Nodup
 pre:N.take P.length=P
 par:∀x∈P,sc.names.lookup x=some .local∨sc.names.lookup x=some .cell
 Ru:∀y∈sc.names,y.2≠.free
theorem tL {kindOf:Str→Option NameKind}{x:Str}:∀{binds:List (Str×Value)}{m:Str→Option Value},(∀v,(x,v)∉binds)→bindL kindOf binds m x=m x
 | [],_,_=>rfl
 | (n,v)::r,m,h=>by
  unfold bindL
  rw [tL fun w hw=>h w (List.mem_cons_of_mem _ hw)]
  split
  ·have:x≠n:=by rintro rfl; exact h v List.mem_cons_self
   simp [this]
  ·rfl
theorem tM {kindOf:Str→Option NameKind}{x:Str}:∀{binds:List (Str×Value)}{m:Str→Option Value},(∀v,(x,v)∉binds)→bindC kindOf binds m x=m x
 | [],_,_=>rfl
 | (n,v)::r,m,h=>by
  unfold bindC
  rw [tM fun w hw=>h w (List.mem_cons_of_mem _ hw)]
  split
  ·rfl
  ·have:x≠n:=by rintro rfl; exact h v List.mem_cons_self
   simp [this]
theorem tN {kindOf:Str→Option NameKind}{x:Str}{v:Value}:∀{P:List Str}{vs:List Value}{i:Nat}{m:Str→Option Value},P.Nodup→P[i]?=some x→vs[i]?=some v→kindOf x=some .local →
  bindL kindOf (P.zip vs) m x=some v
 | [],_,_,_,_,h,_,_=>by simp at h
 | _::_,[],_,_,_,_,h,_=>by simp at h
 | p::P,w::vs,0,m,nd,h1,h2,hk=>by
  simp at h1 h2; subst h1; subst h2
  show bindL kindOf ((p,w)::P.zip vs) m p=_
  unfold bindL
  rw [tL fun v hv=>(List.nodup_cons.mp nd).1 (List.of_mem_zip hv).1,if_pos hk]
  simp
 | p::P,w::vs,i+1,m,nd,h1,h2,hk=>by
  show bindL kindOf ((p,w)::P.zip vs) m x=_
  unfold bindL
  exact tN (i:=i) (List.nodup_cons.mp nd).2 (by simpa using h1) (by simpa using h2) hk
theorem tO {kindOf:Str→Option NameKind}{x:Str}{v:Value}:∀{P:List Str}{vs:List Value}{i:Nat}{m:Str→Option Value},P.Nodup→P[i]?=some x→vs[i]?=some v→kindOf x≠some .local →
  bindC kindOf (P.zip vs) m x=some v
 | [],_,_,_,_,h,_,_=>by simp at h
 | _::_,[],_,_,_,_,h,_=>by simp at h
 | p::P,w::vs,0,m,nd,h1,h2,hk=>by
  simp at h1 h2; subst h1; subst h2
  show bindC kindOf ((p,w)::P.zip vs) m p=_
  unfold bindC
  rw [tM fun v hv=>(List.nodup_cons.mp nd).1 (List.of_mem_zip hv).1,if_neg hk]
  simp
 | p::P,w::vs,i+1,m,nd,h1,h2,hk=>by
  show bindC kindOf ((p,w)::P.zip vs) m x=_
  unfold bindC
  exact tO (i:=i) (List.nodup_cons.mp nd).2 (by simpa using h1) (by simpa using h2) hk
noncomputable def start (N:List Str) (vs:List V):St:=vs.map some++List.replicate (N.length - vs.length) none
noncomputable def ky (CX:rL) (P:Program) (w:World) (K:PySem.W.Frag) (mg:Str→Option Value) (base:Heap) (N:List Str) (qual:Str) (scope:Scope) (f:Addr) (cd:Value) (A:Around) (outer:List Env) (s:Shared) (H:Hp) (E:XK):Cx where
 prog:=P
 w:=w
 K:=K
 mg:=mg
 base:=base
 A:=A.deeper (envOfC qual scope s.heap.objs.size f cd)
 N:=N
 s₀:=s
 H₀:=H
 env:=envOfC qual scope s.heap.objs.size f cd
 outer:=outer
 stack:=envOfC qual scope s.heap.objs.size f cd::outer
 ex:=[]
 calm:=true
 fn:=fun _=>true
 pn:=[]
 xe:=fun e s'=>wpAny (model P w) (A.deeper (envOfC qual scope s.heap.objs.size f cd)) (leaving (envOfC qual scope s.heap.objs.size f cd) e) (fun _ VE=>CX outer H s E e VE) (fun e' VE=>CX outer H s E e' VE) s'
theorem xx {sc:Scope}{n:Nat}{x:Str}(h:sc.names.lookup x=some .cell):∃c,(cellsFrom n sc.names []).lookup x=some c:=by
 have q:=PySem.W.cellsFrom_some sc.names n [] (.inl h)
 exact Option.isSome_iff_exists.mp q
theorem FD {CX:rL}{P:Program}{w:World}{K:PySem.W.Frag}{mg:Str→Option Value}{base:Heap}{N ps:List Str}{qual:Str}{scope:Scope}{f:Addr}{cd:Value}{A:Around}{outer:List Env}{s s1:Shared}{H:Hp}{E:XK}{us:List Value}{vs:List V}
  (S:aA N ps scope) (hd:A.handled=none) (e0:xu P w K mg base A outer s H) (hl:vs.length=ps.length) (r:Vals vs us)
  (x:InCallC s s.heap.objs.size (bindL (envOfC qual scope s.heap.objs.size f cd).kindOf (ps.zip us) fun _=>none) (cellsFrom (s.heap.objs.size+1) scope.names []) (bindC (envOfC qual scope s.heap.objs.size f cd).kindOf (ps.zip us) fun _=>none) s1) :
  Inv (ky CX P w K mg base N qual scope f cd A outer s H E) [] (start N vs) H s1:=by
 have mG:ps.length≤N.length:=by have:=congrArg List.length S.pre; rw [List.length_take] at this; omega
 obtain⟨h1,tk,rfl,hk⟩:=x.done
 have VG:∀b:Addr,b∉(ky CX P w K mg base N qual scope f cd A outer s H E).ex:=fun b z=>absurd (show b∈([]:List Addr) from z) (by simp)
 refine⟨⟨e0.mod,S.kind,rfl,rfl,Nat.le_refl _,fun y z c h1 h2=>?_,fun y hy=>?_,fun y c _ h=>?_,fun _=>hd,Around.frames_deeper e0.frames,.inr ⟨rfl,rfl⟩,fun b z=>absurd z (VG b),e0.bs,e0.Ey,fun b _ _=>VG b,fun b z=>absurd z (VG b),e0.jG,e0.Ll⟩,
  rfl,e0.bare,Un.kept hk,⟨_,x.toInCall.ns,fun i y v h1 h2 h3=>?_⟩,fun y c h=>⟨_,x.cell y c h⟩,e0.bw.fresh (Nat.le_refl _),fun y c h=>?_,fun p hp=>absurd (show p∈([]:List (Addr×Obj)) from hp) (by simp),e0.bw.kept hk,?_⟩
 ·exact name_of_addr x.apart (PySem.mem_of_lookup h1) (PySem.mem_of_lookup h2)
 ·have hy:scope.names.lookup y=some .cell∨scope.names.lookup y=some .free:=hy
  rcases hy with hy | hy
  ·exact xx hy
  ·exact absurd rfl (S.Ru _ (PySem.mem_of_lookup hy))
 ·exact Nat.le_of_lt (x.above y c (PySem.mem_of_lookup h))
 ·have hi:i < vs.length:=by
   unfold start at h2
   by_cases hi:i < vs.length
   ·exact hi
   ·rw [List.getElem?_append_right (by simpa using hi)] at h2
    rw [List.getElem?_replicate] at h2
    split at h2 <;> cases h2
  have ha:vs[i]?=some v:=by
   unfold start at h2
   rw [List.getElem?_append_left (by simpa using hi),List.getElem?_map] at h2
   cases e:vs[i]? with
   | none=>rw [e] at h2; cases h2
   | some a=>rw [e] at h2; cases h2; rfl
  obtain⟨u,hu,rv⟩:=r.get ha
  have hp:ps[i]?=some y:=by
   rw [←S.pre,List.getElem?_take_of_lt (by omega)]; exact h1
  have ndP:ps.Nodup:=by rw [←S.pre]; exact S.nd.sublist (List.take_sublist _ _)
  refine⟨u,rv,?_⟩
  rcases S.par y (List.mem_of_getElem? hp)with k | k
  ·exact .inl ⟨k,tN ndP hp hu k⟩
  ·obtain⟨c,e⟩:=xx (n:=s.heap.objs.size+1) k
   refine .inr ⟨.inl k,c,e,?_⟩
   have q:=x.cell y c e
   rw [tO ndP hp hu (by show scope.names.lookup y≠_; rw [k]; decide)] at q
   exact q
 ·exact e0.bw.fresh (Nat.le_of_lt (x.above y c (PySem.mem_of_lookup h)))
 ·unfold start
  show _=N.length
  rw [List.length_append,List.length_map,List.length_replicate]
  omega
theorem N8 {CX:rL}{P:Program}{w:World}{K:PySem.W.Frag}{mg:Str→Option Value}{base:Heap}{k:Nat}{f:Addr}{name qual:Str}{params:Arguments}{body:List Stmt}{scope:Scope}{dV kV doc pm cv ct oc:Value}{an od:Option Addr}
  {xy:Array (Option Value)}{N ps:List Str}{sp:Sp}(lk:K.lookup f=some ⟨oc,od,.func (PySem.W.fnOf name qual params body scope dV kV doc pm an cv ct),xy⟩) (Fq:PySem.W.codeIn K cv qual=true) (S:aA N ps scope)
  (len:∀vs H Q E,sp vs H Q E→vs.length=ps.length)
  (xA:∀(A:Around) (outer:List Env) (s:Shared) (H:Hp) (vs:List V) (Q:VK) (E:XK),dH k (A.deeper (envOfC qual scope s.heap.objs.size f cv))→sp vs H Q E →
   ∃t,xm (ky CX P w K mg base N qual scope f cv A outer s H E) body t∧t {nx:=fun _ H'=>Q .bj H',rt:=Q} (start N vs) H) :
  aY P w K mg base CX (k+1) f (PySem.W.fnOf name qual params body scope dV kV doc pm an cv ct) ps sp:=by
 refine⟨len,fun A outer s H args us vs Q E hr e0 hb r Ln=>?_⟩
 have hl:=len _ _ _ _ Ln
 have KX:K.In s.heap:=e0.mod.Lw.keeps fun b o e=>(e0.bs b o e).1
 have lim:s.heap.NoLimit:=e0.mod.nolimit.keeps fun b o e=>(e0.bs b o e).1
 have VH:∀y∈ps.zip us,scope.names.lookup y.1=some .local∨(scope.names.lookup y.1=some .cell∧((cellsFrom (s.heap.objs.size+1) scope.names []).lookup y.1).isSome=true):=fun⟨n,v⟩ hy=>by
  rcases S.par n (List.of_mem_zip hy).1 with q | q
  ·exact .inl q
  ·exact .inr ⟨q,PySem.W.cellsFrom_some _ _ _ (.inl q)⟩
 refine codeAny_call_function hr.depth (KX _ _ lk) rfl S.co S.gen rfl (PySem.W.codeRec_of KX Fq) (hb _ _ _ _ ?_)
 refine wpAny_newFunctionEnv_cells S.kind VH fun env he s1 x=>?_
 subst he
 refine⟨lim.keeps x.toInCall.keep,codeAny_func ?_⟩
 obtain⟨t,ht,hq⟩:=xA A outer s H vs Q E (hr.deeper _) Ln
 have I:Inv (ky CX P w K mg base N qual scope f cv A outer s H E) [] (start N vs) H s1:=FD S hr.hd e0 hl r x
 refine wpAny_mono (ht [] s1 (start N vs) H _ I hq) (fun fl s' hs=>?_) fun e s' hs=>hs
 have fin:∀{σ':St}{H':Hp}{v:V}{u:Value},Inv (ky CX P w K mg base N qual scope f cv A outer s H E) [] σ' H' s'→RelV v u→Q v H'→CE outer P w H s Q u s':=
  fun {σ' H' v u} J rv q=>⟨v,H',J.os,J.bare,J.base,J.bw,rv,q⟩
 cases fl with
 | ret u=>
  obtain⟨v,σ',H',J,rv,q⟩:=hs
  exact fin J rv q
 | next=>
  obtain⟨σ',H',J,q⟩:=hs
  exact fin (v:=V.bj) (u:=Value.none) J rfl q
 | brk=>
  obtain⟨_,_,_,q⟩:=hs
  exact False.elim q
 | cont=>
  obtain⟨_,_,_,q⟩:=hs
  exact False.elim q
end L2
namespace L2
open PySem PySem.Spec PyProof.Rows
section
variable {X:Cx}{x:Str}{p pos:Pos}{e:Expr}{es:List Expr}{t:TA}{id T:String}{r:List V→Hp→VK→Prop}
noncomputable def tCB (r:List V→Hp→VK→Prop) (t:TA):TE:=fun σ H Q=>t σ H fun vs H1=>r vs H1 Q
theorem aF (hc:fL X (.builtin id) r) (hg:Gl X x) (hm:X.mg x=none) (hv:bootBuiltins x=some (.builtin id)) (ha:PA X (e::es) t) (hn:x≠"__name__":=by decide) (G_:(x == ("__debug__":Str))=false:=by decide)
  (he:starEach (e::es) X.env=(false,eval e X.env)::starEach es X.env:=by rfl) (mG:(backTo pos (starEach es X.env)).any (·.1)=false:=by rfl):PE X (.Call (.Name x p) (e::es) [] pos) (tCB r t):=by
 intro pins s σ H Q I h
 refine wpAny_Call_Name_kw (uG I hg hm hv ?_ hn G_)
 exact PyProof.Rows.callWith_builtin1 (b_ (ha pos pins s σ H _ I h) fun us s1 ⟨vs,H1,I1,r1,q1⟩=>hc pins s1 σ H1 vs us Q I1 r1 q1) he mG
theorem dy (hc:fL X (.type T) r) (hg:Gl X x) (hm:X.mg x=none) (hv:bootBuiltins x=some (.type T)) (ha:PA X (e::es) t) (hn:x≠"__name__":=by decide) (G_:(x == ("__debug__":Str))=false:=by decide)
  (he:starEach (e::es) X.env=(false,eval e X.env)::starEach es X.env:=by rfl) (mG:(backTo pos (starEach es X.env)).any (·.1)=false:=by rfl):PE X (.Call (.Name x p) (e::es) [] pos) (tCB r t):=by
 intro pins s σ H Q I h
 refine wpAny_Call_Name_kw (uG I hg hm hv ?_ hn G_)
 exact PyProof.Rows.callWith_type1 (b_ (ha pos pins s σ H _ I h) fun us s1 ⟨vs,H1,I1,r1,q1⟩=>hc pins s1 σ H1 vs us Q I1 r1 q1) he mG
end
end L2
namespace HT
open PySem PyProof.Rows
section
open PySem.SeqAt
open PySem.AutoSeq1 (wpAny_loadPart')
open PySem.MeetsSeq PySem.MeetsSeq2 PySem.MeetsSeq3
end
section
variable {prog:Program}{w:World}{A:Around}{E:Value→Shared→Prop}{s:Shared}
noncomputable def xB (n d:Nat):Option Int→Nat
 | none=>d
 | some v=>if v < 0 then(v+(n:Int)).toNat else min v.toNat n
theorem kz (n d:Nat):xB n d none=d:=rfl
theorem oj (n d k:Nat):xB n d (some (k:Int))=min k n:=by
 show(if (k:Int) < 0 then((k:Int)+(n:Int)).toNat else min (k:Int).toNat n)=min k n
 rw [if_neg (by omega),Int.toNat_natCast]
end
end HT
namespace L2
open PySem PySem.Spec PyProof.Rows
noncomputable abbrev TO:=St→Hp→(Option Int→Hp→Prop)→Prop
noncomputable def PO (X:Cx) (e:Option Expr) (t:TO):Prop:=
 ∀(pins:List (Addr×Obj)) (s:Shared) (σ:St) (H:Hp) (Q:Option Int→Hp→Prop),Inv X pins σ H s→t σ H Q →
  wpAny (model X.prog X.w) X.A (evalPart e X.env) (fun u s'=>∃o H',Inv X pins σ H' s'∧IsPart u o∧Q o H') X.xe s
noncomputable def EH:TO:=fun _ H Q=>Q none H
noncomputable def N9 (t:TE):TO:=fun σ H Q=>t σ H fun x H1=>∃i,x=.int i∧Q (some i) H1
section
variable {X:Cx}{e:Expr}{te:TE}{lo hi:Option Expr}{tl th:TO}{pos p2:Pos}
theorem om:PO X none EH:=by
 intro pins s σ H Q I h
 rw [evalPart_none]
 exact wpAny_pure ⟨none,H,I,.none,h⟩
theorem i9 (h:PE X e te):PO X (some e) (N9 te):=by
 intro pins s σ H Q I hw
 rw [evalPart_some]
 refine b_ (h pins s σ H _ I hw) fun u s1 ⟨x,H1,I1,r1,q1⟩=>?_
 obtain⟨i,rfl,q⟩:=q1
 obtain⟨t,rfl⟩:=r1
 exact⟨some i,H1,I1,.int i t,q⟩
noncomputable def SlR (X:Cx) (r:V→Option Int→Option Int→Hp→VK→Prop):Prop:=
 ∀(pins:List (Addr×Obj)) (s:Shared) (σ:St) (H:Hp) (x:V) (v vl vu:Value) (lo hi:Option Int) (sl:Addr) (Q:VK),Inv X pins σ H s→RelV x v→s.heap.IsSliceOf sl vl vu .none→IsPart vl lo→IsPart vu hi→r x lo hi H Q →
  ∃T id,typeLookup (.type T) "__getitem__"=pure (some (.builtin id))∧s.TypeIs v T∧wpAny (model X.prog X.w) X.A (getItem v (.ref sl)) (EP X pins σ Q) X.xe s
noncomputable def tSl (r:V→Option Int→Option Int→Hp→VK→Prop) (te:TE) (tl th:TO):TE:=fun σ H Q=>te σ H fun x H1=>tl σ H1 fun l H2=>th σ H2 fun u H3=>r x l u H3 Q
theorem iA {r:V→Option Int→Option Int→Hp→VK→Prop}(hr:SlR X r) (he:PE X e te) (hl:PO X lo tl) (hu:PO X hi th):PE X (.Subscript e (.Slice lo hi none p2) pos) (tSl r te tl th):=by
 intro pins s σ H Q I h
 refine Subscript_ (b_ (he pins s σ H _ I h) fun v s1 ⟨x,H1,I1,r1,q1⟩=>?_)
 refine wpAny_Slice (b_ (hl pins s1 σ H1 _ I1 q1) fun vl s2 ⟨l,H2,I2,pl,q2⟩=>b_ (hu pins s2 σ H2 _ I2 q2) fun vu s3 ⟨u,H3,I3,pu,q3⟩=>?_)
 rw [evalPart_none]
 refine wpAny_pure ?_
 have I4:Inv X pins σ H3 {s3 with heap:=s3.heap.push {cls:=.type "slice",data:=.fields #[vl,vu,.none]}}:=I3.kept (t':=s3.toks) fun b ob q=>Heap.get?_push_of_some _ q
 obtain⟨T,id,hT,ht,hg⟩:=hr pins {s3 with heap:=s3.heap.push {cls:=.type "slice",data:=.fields #[vl,vu,.none]}} σ H3 x v vl vu l u s3.heap.objs.size Q I4 r1 (Heap.IsSliceOf.new ..) pl pu q3
 show wpAny (model X.prog X.w) X.A (subscriptTail e (.Slice lo hi none p2) v (.ref s3.heap.objs.size)) (EP X pins σ Q) X.xe {s3 with heap:=s3.heap.push {cls:=.type "slice",data:=.fields #[vl,vu,.none]}}
 exact tail_any (ops:=[.ref s3.heap.objs.size,v]) ht hT hg (by with_unfolding_all rfl)
noncomputable def kA (xs:List V) (lo hi:Option Int):List V:=(xs.drop (HT.xB xs.length 0 lo)).take (HT.xB xs.length xs.length hi - HT.xB xs.length 0 lo)
theorem xC (xs:List V) (lo hi:Option Int):(kA xs lo hi).length≤xs.length:=by
 unfold kA
 rw [List.length_take,List.length_drop]
 omega
end
end L2
namespace L2
open PySem PySem.Spec PyProof.Rows
noncomputable def U2 (n:Nat) (i:Int):Option Nat:=if 0≤i then(if i < n then some i.toNat else none)else if -(n:Int)≤i then some (i+n).toNat else none
noncomputable def oI {α:Type}(xs:List α) (i:Int):Option α:=(U2 xs.length i).bind fun j=>xs[j]?
theorem LG {n:Nat}{i:Int}{j:Nat}(h:U2 n i=some j):seqIndex? i n=some j∧j < n∧-(n:Int)≤i∧i < n:=by
 unfold U2 at h
 by_cases h0:0≤i
 ·rw [if_pos h0] at h
  by_cases h1:i < n
  ·rw [if_pos h1] at h
   have e:i.toNat=j:=Option.some.inj h
   exact⟨by rw [seqIndex_of h0 h1,e],by omega,by omega,h1⟩
  ·rw [if_neg h1] at h; cases h
 ·rw [if_neg h0] at h
  by_cases h1:-(n:Int)≤i
  ·rw [if_pos h1] at h
   have e:(i+n).toNat=j:=Option.some.inj h
   exact⟨by rw [seqIndex_neg (by omega) h1,e],by omega,h1,by omega⟩
  ·rw [if_neg h1] at h; cases h
theorem uN {α:Type}{xs:List α}{i:Int}{v:α}(h:oI xs i=some v):∃j,seqIndex? i xs.length=some j∧xs[j]?=some v∧j < xs.length∧-(xs.length:Int)≤i∧i < xs.length:=by
 unfold oI at h
 cases e:U2 xs.length i with
 | none=>rw [e] at h; cases h
 | some j=>
  rw [e] at h
  obtain⟨h1,h2,h3,h4⟩:=LG e
  exact⟨j,h1,h,h2,h3,h4⟩
theorem dz {α:Type}{xs:List α}{j:Nat}{v:α}(h:xs[j]?=some v):oI xs (j:Int)=some v:=by
 have hj:j < xs.length:=(List.getElem?_eq_some_iff.mp h).1
 have e:U2 xs.length (j:Int)=some j:=by
  unfold U2
  rw [if_pos (by omega),if_pos (by omega)]; simp
 unfold oI; rw [e]; exact h
noncomputable def LH (b:Expr):Prop:=∀o i,subscripted b false o i=operate [o,i] (getItem o i)
noncomputable def U3 (X:Cx) (r:R2):Prop:=
 ∀(value slice:Expr) (pins:List (Addr×Obj)) (s:Shared) (σ:St) (H:Hp) (x y:V) (v u:Value) (Q:VK),Inv X pins σ H s→RelV x v→RelV y u→r x y H Q →
  subscripted slice false v u=operate [v,u] (getItem v u)→wpAny (model X.prog X.w) X.A (subscriptTail value slice v u) (EP X pins σ Q) X.xe s
noncomputable def Z3 (X:Cx) (id:String) (r:V→List V→Hp→VK→Prop):Prop:=
 ∀(pins:List (Addr×Obj)) (s:Shared) (σ:St) (H:Hp) (x:V) (xs:List V) (v:Value) (us:List Value) (Q:VK),Inv X pins σ H s→RelV x v→Vals xs us→r x xs H Q →
  wpAny (model X.prog X.w) X.A (call (.builtin id) (v::us)) (EP X pins σ Q) X.xe s
section
variable {X:Cx}{a b:Expr}{ta tb:TE}{pos:Pos}
theorem au {r:R2}(hr:U3 X r) (ha:PE X a ta) (hb:PE X b tb) (hs:LH b):PE X (.Subscript a b pos) (U1 r ta tb):=by
 intro pins s σ H Q I h
 exact Subscript_ (Rn ha hb I h fun v u s2 x y H2 I2 rx ry q=>hr a b pins s2 σ H2 x y v u Q I2 rx ry q (hs _ _))
noncomputable def Rv (K:PySem.W.Frag):R2:=fun x y H Q=>∃p xs i v,x=.ref p∧y=.int i∧bN K H p xs∧oI xs i=some v∧Q v H
noncomputable def nC (K:PySem.W.Frag):R2:=fun x y H Q=>∃p xs i v,x=.ref p∧y=.int i∧bZ K H p xs∧oI xs i=some v∧Q v H
noncomputable def VI:R2:=fun x y H Q=>∃z i c,x=.str z∧y=.int i∧z.length≤sizeLine∧oI z.cps.toList i=some c∧Q (.str ⟨#[c]⟩) H
theorem dA:U3 X (Rv X.K):=by
 intro value slice pins s σ H x y v u Q I rx ry h hs
 obtain⟨p,xs,i,z,rfl,rfl,hq,he,q⟩:=h
 cases rx
 obtain⟨t,rfl⟩:=ry
 obtain⟨bq,r,pl,hz⟩:=I.list hq
 obtain⟨j,h1,h2,h3,h4,h5⟩:=uN he
 obtain⟨w,ew,xD⟩:=r.get h2
 have hl:=r.length
 have hn:=uM
 have fin:EP X pins σ Q w s:=⟨z,H,I,xD,q⟩
 by_cases h0:0≤i
 ·have hj:i.toNat=j:=by
   rw [seqIndex_of h0 h5] at h1
   exact Option.some.inj h1
  exact item_listR pl.isList h0 (by omega) (by rw [hj]; simpa using ew) fin hs
 ·have hj:(i+(bq.toArray.size:Int)).toNat=j:=by
   rw [seqIndex_neg (by omega) h4] at h1
   rw [List.size_toArray,←hl]
   exact Option.some.inj h1
  exact subscriptTail_builtinR (x:=w) pl.isList.typeIs slot_list_getitem.lookup
   (wpAny_getItem_list_neg (Q:=fun r s'=>r=w∧EP X pins σ Q r s') pl.isList (by omega) (by rw [List.size_toArray] <;> omega) (by omega) (by rw [hj]; simpa using ew) ⟨rfl,fin⟩) hs
theorem ao:U3 X (nC X.K):=by
 intro value slice pins s σ H x y v u Q I rx ry h hs
 obtain⟨p,xs,i,z,rfl,rfl,hq,he,q⟩:=h
 cases rx
 obtain⟨t,rfl⟩:=ry
 obtain⟨bq,r,pl,hz⟩:=I.tuple hq
 obtain⟨j,h1,h2,h3,h4,h5⟩:=uN he
 obtain⟨w,ew,xD⟩:=r.get h2
 have hl:=r.length
 have hn:=uM
 have fin:EP X pins σ Q w s:=⟨z,H,I,xD,q⟩
 exact subscriptTail_builtinR (x:=w) pl.typeIs slot_tuple_getitem.lookup
  (getItem_tuple (j:=j) (Q:=fun r s'=>r=w∧EP X pins σ Q r s') pl (by omega) (by omega) (by rw [List.size_toArray,←hl]; exact h1) (by simpa using ew) ⟨rfl,fin⟩) hs
theorem BG:U3 X VI:=by
 intro value slice pins s σ H x y v u Q I rx ry h hs
 obtain⟨z,i,c,rfl,rfl,hz,he,q⟩:=h
 obtain⟨t,rfl⟩:=rx
 obtain⟨t',rfl⟩:=ry
 obtain⟨j,h1,h2,h3,h4,h5⟩:=uN he
 have hl:z.cps.toList.length=z.length:=by simp [Str.length]
 rw [hl] at h1 h4 h5
 have hn:=uM
 exact tail_any (typeIs_str s z t) slot_str_getitem.lookup (getItem_str (c:=c) (by
  have e1:decide (i < -(2 ^ 63:Int))=false:=decide_eq_false (by omega)
  have e2:decide (i≥2 ^ 63)=false:=decide_eq_false (by omega)
  rw [e1,e2,Bool.or_false]) (by rw [h1]; simpa using h2) ⟨.str ⟨#[c]⟩,H,I.tok _,⟨_,rfl⟩,q⟩) hs
theorem uO (lo hi:Option Int) (n:Nat):(sliceBounds lo hi none n).1=((HT.xB n 0 lo:Nat):Int)∧(sliceBounds lo hi none n).2.1=((HT.xB n n hi:Nat):Int)∧(sliceBounds lo hi none n).2.2=1:=by
 refine⟨?_,?_,rfl⟩
 ·cases lo with
  | none=>simp [sliceBounds,HT.xB]
  | some i=>
   simp only [sliceBounds,HT.xB,Option.getD_none,show(1:Int) > 0 by decide,if_true]
   by_cases h:i < 0
   ·simp only [h,if_true] <;> omega
   ·simp only [h,if_false] <;> omega
 ·cases hi with
  | none=>simp [sliceBounds,HT.xB]
  | some i=>
   simp only [sliceBounds,HT.xB,Option.getD_none,show(1:Int) > 0 by decide,if_true]
   by_cases h:i < 0
   ·simp only [h,if_true] <;> omega
   ·simp only [h,if_false] <;> omega
theorem rM (bq:List Value) (lo hi:Option Int):slicePick bq.toArray lo hi none=((bq.drop (HT.xB bq.length 0 lo)).take (HT.xB bq.length bq.length hi - HT.xB bq.length 0 lo)).toArray:=by
 obtain⟨h1,h2,h3⟩:=uO lo hi bq.toArray.size
 unfold slicePick
 rw [h1,h2,h3]
 simp only [sliceRange_one,pick_run,List.size_toArray] <;> rfl
noncomputable def aan (K:PySem.W.Frag):V→Option Int→Option Int→Hp→VK→Prop:=fun x lo hi H Q=>∃a xs,x=.ref a∧bN K H a xs∧∀p,H p=none→Q (.ref p) (upd H p (.lst (kA xs lo hi)))
theorem kB:SlR X (aan X.K):=by
 intro pins s σ H x v vl vu lo hi sl Q I rx hs pl pu h
 obtain⟨a,xs,rfl,hx,q⟩:=h
 cases rx
 obtain⟨bq,r,ht,hz⟩:=I.list hx
 have hlen:=r.length
 refine⟨"list",_,slot_list_getitem.lookup,ht.isList.typeIs,?_⟩
 refine wpAny_getItem_list_slice ht.isList hs pl pu .none (by simp) ?_ (by rw [List.size_toArray] <;> omega)
 rw [rM,←hlen]
 refine⟨.ref s.heap.objs.size,_,I.laid (t':=s.toks) (o:=.lst (kA xs lo hi)) (fun b ob q=>Heap.get?_push_of_some _ q) (Nat.le_refl _) ?_,rfl,q _ (I.bw.fresh (Nat.le_refl _))⟩
 exact⟨Nat.le_trans (xC xs lo hi) hz,_,0,(r.drop (HT.xB xs.length 0 lo)).take (HT.xB xs.length xs.length hi - HT.xB xs.length 0 lo),Heap.get?_push_size _ rfl⟩
noncomputable def iB:V→Bool
 | .bj=>true
 | .bl _=>true
 | .int _=>true
 | .str _=>true
 | _=>false
noncomputable def GP:V→V→Bool
 | .bj,.bj=>true
 | .bl a,.bl b=>a == b
 | .bl a,.int b=>(if a then 1 else 0) == b
 | .int a,.bl b=>a == (if b then 1 else 0)
 | .int a,.int b=>a == b
 | .str a,.str b=>a == b
 | _,_=>false
theorem Rw {A:Around}{s:Shared}{y x:V}{u v:Value}(ry:RelV y u) (rx:RelV x v) (fy:iB y=true) (fx:iB x=true):SeqAt.EqAt A s u v (GP y x):=by
 cases y with
 | bj=>
  cases ry
  cases x with
  | bj=>cases rx; exact SeqAt.EqAt.same _
  | bl b=>cases rx; exact SeqAt.EqAt.none_bool b
  | int b=>obtain⟨t,rfl⟩:=rx; exact SeqAt.EqAt.none_int b t
  | str b=>obtain⟨t,rfl⟩:=rx; exact SeqAt.EqAt.none_str b t
  | _=>exact absurd (show false=true from fx) Bool.false_ne_true
 | bl a=>
  cases ry
  cases x with
  | bj=>cases rx; exact SeqAt.EqAt.bool_none a
  | bl b=>cases rx; exact SeqAt.EqAt.bool_bool a b
  | int b=>obtain⟨t,rfl⟩:=rx; exact SeqAt.EqAt.bool_int a b t
  | str b=>obtain⟨t,rfl⟩:=rx; exact SeqAt.EqAt.bool_str a b t
  | _=>exact absurd (show false=true from fx) Bool.false_ne_true
 | int a=>
  obtain⟨t',rfl⟩:=ry
  cases x with
  | bj=>cases rx; exact SeqAt.EqAt.int_none a t'
  | bl b=>cases rx; exact SeqAt.EqAt.int_bool a t' b
  | int b=>obtain⟨t,rfl⟩:=rx; exact SeqAt.EqAt.int_int a t' b t
  | str b=>obtain⟨t,rfl⟩:=rx; exact SeqAt.EqAt.int_str a t' b t
  | _=>exact absurd (show false=true from fx) Bool.false_ne_true
 | str a=>
  obtain⟨t',rfl⟩:=ry
  cases x with
  | bj=>cases rx; exact SeqAt.EqAt.str_none a t'
  | bl b=>cases rx; exact SeqAt.EqAt.str_bool a t' b
  | int b=>obtain⟨t,rfl⟩:=rx; exact SeqAt.EqAt.str_int a t' b t
  | str b=>obtain⟨t,rfl⟩:=rx; exact SeqAt.EqAt.str_str a t' b t
  | _=>exact absurd (show false=true from fx) Bool.false_ne_true
 | _=>exact absurd (show false=true from fy) Bool.false_ne_true
noncomputable def LI (x:V) (u:Value):Bool:=match u with
 | .none=>GP .bj x
 | .bool b=>GP (.bl b) x
 | .int i _=>GP (.int i) x
 | .str z _=>GP (.str z) x
 | _=>false
theorem Ha {x y:V}{u:Value}(r:RelV y u) (f:iB y=true):LI x u=GP y x:=by
 cases y with
 | bj=>cases r; rfl
 | bl b=>cases r; rfl
 | int i=>obtain⟨t,rfl⟩:=r; rfl
 | str z=>obtain⟨t,rfl⟩:=r; rfl
 | _=>exact absurd (show false=true from f) Bool.false_ne_true
theorem uP {x:V}:∀{xs:List V}{us:List Value},Vals xs us→xs.all iB=true→us.any (LI x)=xs.any fun y=>GP y x
 | _,_,.nil,_=>rfl
 | y::xs,u::us,.cons r t,f=>by
  rw [List.all_cons,Bool.and_eq_true] at f
  rw [List.any_cons,List.any_cons,Ha r f.1,uP t f.2]
theorem oJ {A:Around}{s:Shared}{x:V}{v:Value}(rx:RelV x v) (fx:iB x=true):∀{xs:List V}{us:List Value},Vals xs us→xs.all iB=true→∀u∈us,SeqAt.EqAt A s u v (LI x u)
 | _,_,.nil,_=>fun u hu=>by cases hu
 | y::xs,u::us,.cons r t,f=>fun u' hu=>by
  rw [List.all_cons,Bool.and_eq_true] at f
  rcases List.mem_cons.mp hu with rfl | hu
  ·rw [Ha r f.1]; exact Rw r rx f.1 fx
  ·exact oJ rx fx t f.2 u' hu
noncomputable def U4 (x:V) (xs:List V):Bool:=xs.any fun y=>GP y x
noncomputable def rIn (K:PySem.W.Frag) (neg:Bool):R2:=fun x y H Q=>∃p xs,y=.ref p∧(bN K H p xs∨bZ K H p xs)∧iB x=true∧xs.all iB=true∧Q (.bl (if neg then !U4 x xs else U4 x xs)) H
theorem dQ:mF X (compareOp .In) (rIn X.K false):=by
 intro pins s σ H x y v u Q I rx ry h
 obtain⟨p,xs,rfl,hq,fx,fs,q⟩:=h
 cases ry
 rcases hq with hq | hq
 ·obtain⟨bq,r,pl,hz⟩:=I.list hq
  refine SeqAt.in_listAt (LI x) pl.isList (fun w hw=>oJ rx fx r fs w (by simpa using hw)) ⟨.bl _,H,I,rfl,?_⟩
  rw [show bq.toArray.any (LI x)=bq.any (LI x)by simp,uP r fs]
  exact q
 ·obtain⟨bq,r,pl,hz⟩:=I.tuple hq
  refine SeqAt.in_tupleAt (LI x) pl (fun w hw=>oJ rx fx r fs w (by simpa using hw)) ⟨.bl _,H,I,rfl,?_⟩
  rw [show bq.toArray.any (LI x)=bq.any (LI x)by simp,uP r fs]
  exact q
theorem cF:fL X (.builtin "len") (fun xs H Q=>∃p ys,xs=[.ref p]∧(bN X.K H p ys∨bZ X.K H p ys)∧Q (.int ys.length) H):=by
 intro pins s σ H xs us Q I r h
 obtain⟨p,ys,rfl,hq,q⟩:=h
 obtain⟨u,rfl,rx⟩:=vals1 r
 cases rx
 have hn:=uM
 rcases hq with hq | hq
 ·obtain⟨bq,r',pl,hz⟩:=I.list hq
  have hlen:=r'.length
  exact Calls.call_len_list pl.isList (by simp only [List.size_toArray] <;> omega) ⟨.int ys.length,H,I.tok _,⟨s.toks+1,by rw [List.size_toArray,hlen]⟩,q⟩
 ·obtain⟨bq,r',pl,hz⟩:=I.tuple hq
  have hlen:=r'.length
  exact len_tuple pl (by simp only [List.size_toArray] <;> omega) ⟨.int ys.length,H,I.tok _,⟨s.toks+1,by rw [List.size_toArray,hlen]⟩,q⟩
theorem gw:fL X (.type "list") (fun xs H Q=>∃p ys,xs=[.ref p]∧(bN X.K H p ys∨bZ X.K H p ys)∧∀l,H l=none→Q (.ref l) (upd H l (.lst ys))):=by
 intro pins s σ H xs us Q I r h
 obtain⟨p,ys,rfl,hq,q⟩:=h
 obtain⟨u,rfl,rx⟩:=vals1 r
 cases rx
 have fin:∀(bq:List Value),Vals ys bq→ys.length≤sizeLine→∀(h':Heap) (c':Nat),(∀b o',s.heap.get? b=some o'→h'.get? b=some o') →
   h'.get? s.heap.objs.size=some {cls:=.type "list",dict:=none,data:=.seq bq.toArray c',slots:=#[]}→EP X pins σ Q (.ref s.heap.objs.size) {s with heap:=h'}:=fun bq r' hz h' c' kp e=>
  ⟨.ref s.heap.objs.size,_,I.laid (t':=s.toks) kp (Nat.le_refl _) (show b9 X.prog X.w _ h' _ (.lst ys) from⟨hz,bq,c',r',e⟩),rfl,q _ (I.bw.fresh (Nat.le_refl _))⟩
 rcases hq with hq | hq
 ·obtain⟨bq,r',pl,hz⟩:=I.list hq
  have hlen:=r'.length
  obtain⟨o,ho,hc,n,hd⟩:=pl.isList
  exact call_list_seq p (.inl rfl) ho hc hd (fun h' c' kp e=>fin bq r' hz h' c' kp e) (by simp only [List.size_toArray] <;> omega)
 ·obtain⟨bq,r',pl,hz⟩:=I.tuple hq
  have hlen:=r'.length
  obtain⟨o,ho,hc,n,hd⟩:=pl
  exact call_list_seq p (.inr rfl) ho hc hd (fun h' c' kp e=>fin bq r' hz h' c' kp e) (by simp only [List.size_toArray] <;> omega)
noncomputable def tyV (K:PySem.W.Frag) (T:String) (x:V) (H:Hp):Prop:=match x with
 | .str _=>T="str"
 | .int _=>T="int"
 | .ref p=>(T="list"∧∃xs,bN K H p xs)∨(T="tuple"∧∃o,K.lookup p=some o∧o.cls=.type "tuple"∧o.dict=none) ∨
   (T="dict"∧((∃kvs,H p=some (.dK kvs))∨∃kvs,H p=some (.dT kvs)))∨(T="set"∧∃S n,H p=some (.set S n))
 | _=>False
theorem Hb {pins:List (Addr×Obj)}{σ:St}{H:Hp}{s:Shared}{T:String}{x:V}{v:Value}(I:Inv X pins σ H s) (r:RelV x v) (ty:tyV X.K T x H) :
  s.TypeIs v T∧∀a,v=.ref a→∃ob,s.heap.get? a=some ob∧ob.dict=none:=by
 cases x with
 | str z=>
  obtain⟨t,rfl⟩:=r
  cases (show T="str" from ty)
  exact⟨typeIs_str s z t,fun _ e=>nomatch e⟩
 | int i=>
  obtain⟨t,rfl⟩:=r
  cases (show T="int" from ty)
  exact⟨typeIs_int s i t,fun _ e=>nomatch e⟩
 | ref p=>
  cases r
  rcases ty with ⟨rfl,xs,hq⟩ | ⟨rfl,o,hk,hc,hd⟩ | ⟨rfl,hk⟩ | ⟨rfl,S,n,hk⟩
  ·obtain⟨bq,_,pl,_⟩:=I.list hq
   refine⟨pl.isList.typeIs,fun a e=>?_⟩
   cases e
   obtain⟨o,n,e,c,hd,_⟩:=pl
   exact⟨o,e,hd⟩
  ·refine⟨⟨o,I.eZ p o hk,hc⟩,fun a e=>?_⟩
   cases e
   exact⟨o,I.eZ _ o hk,hd⟩
  ·have z:∃o,s.heap.get? p=some o∧o.ExactDict:=by
    rcases hk with ⟨kvs,hk⟩ | ⟨kvs,hk⟩
    ·obtain⟨_,_,_,_,o,_,_,e,ex,_⟩:=I.bw p _ hk
     exact⟨o,e,ex⟩
    ·obtain⟨_,_,_,_,o,_,_,e,ex,_⟩:=I.bw p _ hk
     exact⟨o,e,ex⟩
   obtain⟨o,e,ex⟩:=z
   refine⟨⟨o,e,ex.1⟩,fun a e2=>?_⟩
   cases e2
   exact⟨o,e,ex.2.1⟩
  ·obtain⟨o,_,_,_,e,ex,_⟩:=I.bw p _ hk
   refine⟨⟨o,e,ex.1⟩,fun a e2=>?_⟩
   cases e2
   exact⟨o,e,ex.2.1⟩
 | _=>exact False.elim ty
noncomputable def VJ (K:PySem.W.Frag) (T:String) (r:V→List V→Hp→VK→Prop) (to:TE):TE:=fun σ H Q=>to σ H fun x H1=>tyV K T x H1∧r x [] H1 Q
noncomputable def tBM (K:PySem.W.Frag) (T:String) (r:V→List V→Hp→VK→Prop) (to:TE) (t:TA):TE:=fun σ H Q=>to σ H fun x H1=>tyV K T x H1∧t σ H1 fun xs H2=>r x xs H2 Q
variable {o e:Expr}{es:List Expr}{to:TE}{t:TA}{name:Str}{apos cK:Pos}{T id:String}{r:V→List V→Hp→VK→Prop}
theorem uQ (pa:PlainAttrs T) (slot:Slot T name id) (hty:typeOf (.builtin id)=pure (.type "method_descriptor")) (hm:Z3 X id r) (ho:PE X o to)
  (oK:attributeBase o name X.env (eval o X.env)=eval o X.env:=by rfl) (Hc:(apos.endLine == cK.line)=true:=by rfl):PE X (.Call (.Attribute o name apos) [] [] cK) (VJ X.K T r to):=by
 intro pins s σ H Q I h
 refine wpAny_Call_method0_late oK Hc (b_ (ho pins s σ H _ I h) fun v s1 ⟨x,H1,I1,r1,ty,q1⟩=>?_)
 obtain⟨h1,h2⟩:=Hb I1 r1 ty
 exact⟨T,id,pa,slot,hty,h1,h2,Calls.callWith_builtin rfl (PySem.evalArgs_none (hm pins s1 σ H1 x [] v [] Q I1 r1 .nil q1))⟩
theorem kC (pa:PlainAttrs T) (slot:Slot T name id) (hty:typeOf (.builtin id)=pure (.type "method_descriptor")) (hm:Z3 X id r) (ho:PE X o to) (ha:PA X (e::es) t)
  (oK:attributeBase o name X.env (eval o X.env)=eval o X.env:=by rfl)
  (aao:((backTo cK (starEach (e::es) X.env)).all (fun x=>!x.1)&&(backToKw cK (keywordEach [] X.env)).all (fun x=>x.1.isSome)
   && decide ((e::es).length+([]:List Keyword).length+(if ([]:List Keyword).isEmpty then 0 else 1) < 30))=true:=by rfl)
  (Hc:(apos.endLine == cK.line)=true:=by rfl) (hs:starEach (e::es) X.env=(false,eval e X.env)::starEach es X.env:=by rfl) (Rx:(backTo cK (starEach es X.env)).any (·.1)=false:=by rfl) :
  PE X (.Call (.Attribute o name apos) (e::es) [] cK) (tBM X.K T r to t):=by
 intro pins s σ H Q I h
 refine wpAny_Call_method_late oK aao Hc rfl (b_ (ho pins s σ H _ I h) fun v s1 ⟨x,H1,I1,r1,ty,q1⟩=>?_)
 obtain⟨h1,h2⟩:=Hb I1 r1 ty
 refine⟨T,id,pa,slot,hty,h1,h2,?_⟩
 have hA:=ha cK pins s1 σ H1 _ I1 q1
 rw [hs] at hA ⊢
 refine Calls.callWith_builtin (by show(false || (backTo cK (starEach es X.env)).any (·.1))=false; rw [Rx] <;> rfl) (Calls.evalArgs_plain ?_)
 exact b_ hA fun us s2 ⟨vs,H2,I2,r2,q2⟩=>hm pins s2 σ H2 x vs v us Q I2 r1 r2 q2
end
end L2
namespace L2
open PySem PySem.Spec PyProof.Rows
noncomputable def Ry (X:Cx) (id:String) (r:V→List V→Hp→VK→Prop):Prop:=
 ∀(pins:List (Addr×Obj)) (s:Shared) (σ:St) (H:Hp) (x:V) (xs:List V) (v:Value) (us:List Value) (Q:VK),Inv X pins σ H s→RelV x v→Vals xs us→r x xs H Q →
  wpAny (model X.prog X.w) X.A (call (.builtin id) (v::us)) (EP X pins σ Q) X.xe s
theorem Vals.one:∀{x:V}{us:List Value},Vals [x] us→∃u,us=[u]∧RelV x u
 | _,_,.cons r .nil=>⟨_,rfl,r⟩
theorem Vals.eraseIdx:∀{xs:List V}{us:List Value}(i:Nat),Vals xs us→Vals (xs.eraseIdx i) (us.eraseIdx i)
 | _,_,_,.nil=>.nil
 | _,_,0,.cons _ t=>t
 | _,_,i+1,.cons r t=>.cons r (Vals.eraseIdx i t)
theorem Vals.rep {xs:List V}{us:List Value}(h:Vals xs us):∀k:Nat,Vals (List.replicate k xs).flatten (List.replicate k us).flatten
 | 0=>.nil
 | k+1=>by
  rw [List.replicate_succ,List.replicate_succ,List.flatten_cons,List.flatten_cons]
  exact Vals.append h (Vals.rep h k)
theorem tP {α:Type}:∀(l:List α) (i:Nat),(l.eraseIdx i).length≤l.length
 | [],_=>Nat.le_refl _
 | _::_,0=>Nat.le_succ _
 | _::r,i+1=>Nat.succ_le_succ (tP r i)
theorem foldl_rep (bq:List Value):∀(k:Nat) (acc:List Value),
  List.foldl (fun x1 x2=>x1++x2) acc.toArray (List.replicate k bq.toArray)=(acc++(List.replicate k bq).flatten).toArray
 | 0,acc=>by simp
 | k+1,acc=>by
  have e:acc.toArray++bq.toArray=(acc++bq).toArray:=by simp
  have e2:(acc++bq)++(List.replicate k bq).flatten=acc++(List.replicate (k+1) bq).flatten:=by
   rw [List.replicate_succ,List.flatten_cons,List.append_assoc]
  rw [←e2,←foldl_rep bq k (acc++bq),←e,List.replicate_succ,List.foldl_cons]
section
variable {X:Cx}{pins:List (Addr×Obj)}{σ:St}{H:Hp}{s:Shared}{l b:Addr}{xs ys zs:List V}
theorem Inv.VL {bq its':List Value}{n:Nat}{f:Array Value→Array Value}{t':Nat}(I:Inv X pins σ H s) (hH:H l=some (.lst xs))
  (e:s.heap.get? l=some {cls:=.type "list",data:=.seq bq.toArray n}) (hf:f bq.toArray=its'.toArray) (hv:Vals ys its') (hz:ys.length≤sizeLine) :
  Inv X pins σ (upd H l (.lst ys)) {s with heap:=s.heap.update l (Obj.mapSeq f),toks:=t'}:=by
 have q:=PySem.IsL.update e f
 rw [hf] at q
 refine I.write (x:=l) (e:=l) (by rw [hH]; exact trivial) (.inl rfl) (fun b' u hb hu=>(Heap.get?_update_other s.heap (Obj.mapSeq f) (Ne.symm hb)).trans hu) ⟨_,q⟩ ?_
 exact⟨hz,its',_,hv,q⟩
theorem Inv.LJ {bq:List Value}{t':Nat}(I:Inv X pins σ H s) (hv:Vals ys bq) (hz:ys.length≤sizeLine) :
  Inv X pins σ (upd H s.heap.objs.size (.lst ys)) {s with heap:=s.heap.push {cls:=.type "list",data:=.seq bq.toArray},toks:=t'}:=
 I.laid (fun _ _ q=>Heap.get?_push_of_some _ q) (Nat.le_refl _) ⟨hz,bq,0,hv,Heap.get?_push_size _ rfl⟩
theorem Inv.fresh (I:Inv X pins σ H s):H s.heap.objs.size=none:=I.bw.fresh (Nat.le_refl _)
theorem Inv.BH (I:Inv X pins σ H s) (hH:H l=some (.lst xs)):xs.length≤sizeLine∧∃(bq:List Value) (n:Nat),Vals xs bq∧xs.length=bq.length∧s.heap.get? l=some {cls:=.type "list",data:=.seq bq.toArray n}:=by
 obtain⟨z,bq,n,r,e⟩:=I.bw l _ hH
 exact⟨z,bq,n,r,r.length,e⟩
theorem Hd {n:Nat}(h:n≤sizeLine):Builtin.List.listTooLong n=false:=by
 unfold Builtin.List.listTooLong
 exact decide_eq_false (by omega)
end
section
variable {X:Cx}
noncomputable def LK:V→List V→Hp→VK→Prop:=fun x vs H Q=>∃l xs y,x=.ref l∧vs=[y]∧H l=some (.lst xs)∧xs.length < sizeLine∧Q .bj (upd H l (.lst (xs++[y])))
theorem eN:Ry X "list.append" LK:=by
 intro pins s σ H x vs v us Q I rx rv h
 obtain⟨l,xs,y,rfl,rfl,hH,hz,q⟩:=h
 cases rx
 obtain⟨u,rfl,ru⟩:=rv.one
 obtain⟨z,bq,n,r,hl,e⟩:=I.BH hH
 refine call_meets F.slot_list_append ⟨_,e,rfl⟩ F.entry_list_append (F.args_list_append_2 _ _) (PySem.list_append l bq.toArray n u (by rw [List.size_toArray]; omega)) ⟨e,?_⟩
 refine⟨.bj,_,I.VL (its':=bq++[u]) hH e (by simp) (r.append (.cons ru .nil)) ?_,rfl,q⟩
 rw [List.length_append,List.length_singleton]
 omega
noncomputable def Rz:V→List V→Hp→VK→Prop:=fun x vs H Q=>∃l xs i k y,x=.ref l∧vs=[.int i]∧H l=some (.lst xs)∧-(2 ^ 63)≤i∧i < 2 ^ 63∧seqIndex? i xs.length=some k∧xs[k]?=some y∧Q y (upd H l (.lst (xs.eraseIdx k)))
theorem xE:Ry X "list.pop" Rz:=by
 intro pins s σ H x vs v us Q I rx rv h
 obtain⟨l,xs,i,k,y,rfl,rfl,hH,h1,h2,hk,hy,q⟩:=h
 cases rx
 obtain⟨u,rfl,ru⟩:=rv.one
 obtain⟨t,rfl⟩:=ru
 obtain⟨z,bq,n,r,hl,e⟩:=I.BH hH
 obtain⟨w,hw,xD⟩:=r.get hy
 refine call_meets F.slot_list_pop ⟨_,e,rfl⟩ F.entry_list_pop (F.args_list_pop_2 _ _)
  (MeetsSeq.list_pop_at l bq.toArray n i t k w (fitsIndex_both h1 h2) (by rw [List.size_toArray,←hl]; exact hk) (by rw [←Array.getElem?_toList]; exact hw) (by rw [List.size_toArray]; omega)) ⟨e,?_⟩
 refine⟨y,_,I.VL (its':=bq.eraseIdx k) hH e ?_ (r.eraseIdx k) ?_,xD,q⟩
 ·show bq.toArray.eraseIdxIfInBounds k=(bq.eraseIdx k).toArray
  rw [List.eraseIdxIfInBounds_toArray]
 ·have:=tP xs k
  omega
noncomputable def aap:R2:=fun x y H Q=>∃l k xs,x=.ref l∧y=.int k∧H l=some (.lst xs)∧-(2 ^ 63)≤k∧k < 2 ^ 63∧xs.length*k.toNat≤sizeLine ∧
 ∀p,H p=none→Q (.ref p) (upd H p (.lst (List.replicate k.toNat xs).flatten))
theorem len_rep {α:Type}(xs:List α) (k:Nat):(List.replicate k xs).flatten.length=k*xs.length:=by
 induction k with
 | zero=>simp
 | succ k ih=>rw [List.replicate_succ,List.flatten_cons,List.length_append,ih,Nat.succ_mul,Nat.add_comm]
theorem RA:mF X (binaryOp .Mult) aap:=by
 intro pins s σ H x y v u Q I rx ry h
 obtain⟨l,k,xs,rfl,rfl,hH,h1,h2,hz,q⟩:=h
 cases rx
 obtain⟨t,rfl⟩:=ry
 obtain⟨z,bq,n,r,hl,e⟩:=I.BH hH
 have hlen:bq.toArray.size*k.toNat≤sizeLine:=by rw [List.size_toArray,←hl]; exact hz
 have aaq:¬bq.toArray.size*k.toNat > (2 ^ 63 - 1) / 8:=by
  have:(sizeLine:Nat)≤(2 ^ 63 - 1) / 8:=by decide
  omega
 have aar:¬(!Builtin.List.listFitsIndex k)=true:=by
  rw [fitsIndex_both h1 h2]
  exact Bool.false_ne_true
 have VN:¬Builtin.List.listTooLong (bq.toArray.size*k.toNat)=true:=by
  rw [Hd hlen]
  exact Bool.false_ne_true
 have He:List.foldl (fun x1 x2=>x1++x2) #[] (List.replicate (if bq.toArray.isEmpty=true then 0 else k.toNat) bq.toArray)=(List.replicate k.toNat bq).flatten.toArray:=by
  have f0:∀m:Nat,List.foldl (fun x1 x2=>x1++x2) #[] (List.replicate m bq.toArray)=(List.replicate m bq).flatten.toArray:=fun m=>by
   have:=foldl_rep bq m []
   rw [List.nil_append] at this
   exact this
  rw [f0]
  cases bq with
  | nil=>simp
  | cons a r'=>rw [if_neg (by simp)]
 refine wpAny_binaryOp_repeat_ref (T:="list") (U:="int") (by decide) ⟨_,e,rfl⟩ (fun s'=>typeIs_int s' k t) noFill_list_mul F.fills_int_mul F.slot_int_rmul repeat_list F.slot_int_index.lookup
  (call_meets F.slot_int_rmul (typeIs_int s k t) F.entry_int_rmul (F.args_int_rmul_2 _ _) (int___rmul___int_list k t l bq.toArray n)
   ⟨e,rfl,⟨_,e,rfl⟩,call_meets F.slot_list_mul ⟨_,e,rfl⟩ F.entry_list_mul (F.args_list_mul_2 _ _) (AutoListH.list___mul___list_int_3 l bq.toArray n k t aar aaq VN) ⟨e,?_⟩⟩)
 rw [He]
 exact⟨.ref _,_,I.LJ (t':=s.toks) (r.rep k.toNat) (by rw [len_rep,Nat.mul_comm]; exact hz),rfl,q _ I.fresh⟩
end
section
variable {prog:Program}{w:World}{A:Around}{E:Value→Shared→Prop}{s:Shared}
set_option maxRecDepth 100000 in
end
section
variable {X:Cx}
end
end L2
namespace Att
open PySem PySem.W PySem.Calls PyProof.Rows
theorem nE {P:Params}{h:Heap}:∀(ns:List Int) (vs:List Value),WellAll P h vs (ns.map WData.int)→IntsAre vs ns:=by
 intro ns
 induction ns with
 | nil=>
  intro vs w
  rw [List.map_nil] at w
  cases w
  exact .nil
 | cons n ns ih=>
  intro vs w
  rw [List.map_cons] at w
  cases w with
  | cons a b=>
   cases a
   exact .cons _ _ (ih _ b)
theorem FE {l:OpenLaw}{n:Nat}(hn:l.most=some n) {P:Params}{h:Heap}{args:List WData}{vals:List Value}
  (LL:l.row.toRowW.claim.pre args=true) (hwl:WellAll P h vals args) :
  ∃a vs ns,vals=[Value.ref a]∧args=[WData.list (ns.map WData.int)]∧h.get? a=some {cls:=.type "list",data:=.seq vs.toArray}∧IntsAre vs ns∧ns.length≤n:=by
 have hsh:WShape.hasAll [] args [.list .int]=true:=(pre_splitW LL).1
 have hc:l.pre.holds [] {args:=args}=true:=(pre_splitW LL).2
 obtain⟨d,r,rfl,h1,h2⟩:=hasAllW_cons hsh
 obtain rfl:=hasAllW_nil h2
 obtain⟨xs,rfl,h3⟩:=hasW_list h1
 obtain⟨ns,rfl⟩:=items_int h3
 have hlen:ns.length≤n:=by
  unfold OpenLaw.pre at hc
  have h4:(WTm.not (.lt (.lit (.int (n:Int))) (.len (.arg 0)))).holds [] {args:=[.list (ns.map .int)]}=true:=by
   have h4:=(holds_andW hc).1
   rw [hn] at h4
   exact h4
  have h5:=condW_of h4 (w_not (w_lt w_lit (w_len_list (w_arg rfl))))
  rw [List.length_map] at h5
  refine Nat.le_of_not_lt fun q=>?_
  have q':(n:Int) < ((ns.length:Nat):Int):=by omega
  first
   | (rw [decide_eq_true q'] at h5; exact absurd h5 (by decide))
   | (simp at h5; omega)
 cases hwl with
 | cons w1 w2=>
  cases w2
  cases w1 with
  | list ho aas=>exact⟨_,_,ns,rfl,rfl,ho,nE ns _ aas,hlen⟩
theorem FF (l:OpenLaw) (args:List WData):l.row.toRowW.claim.post args (.bool true) args=true:=
 postW_of (r:=l.row.toRowW) (X:=(true == true))
  (show WShape.has [] (.bool true) .bool=true by first | rfl | decide | simp [WShape.has,WShape.arms,WShape.armsAll])
  (show(WTm.eq .res (.lit (.bool true))).value [] {args:=args,res:=some (.bool true),after:=args}=some (.bool (true == true)) from w_eq_bool (w_res rfl) w_lit) rfl
theorem xF {l:OpenLaw}{n:Nat}{q:Program}{loose:List Str}{XP:(Str→Option Value)→Heap→Prop}{YP:World→Heap→Prop}{d:DefRec}
  (hn:l.most=some n) (N_:d.params.defaults=[])
  (call:∀(w:World) (s₀ s₁:Shared) (mg mb:Str→Option Value) (fa:Addr) (o:Obj) (pm cd doc:Value) (a:Addr) (vs:List Value) (ns:List Int),
   Ground q loose [] XP w s₀ mg mb s₁.heap→YP w s₁.heap →
   s₁.heap.get? fa=some o→o.data=.func (docDef d.name d.params d.body d.scope pm cd doc)→s₁.heap.CodeRec cd d.name→mg d.name=some (.ref fa) →
   s₁.heap.get? a=some {cls:=.type "list",data:=.seq vs.toArray}→IntsAre vs ns→ns.length≤n→s₁.gens=#[] →
   codeAny (model l.prog w) callerA (.call (.ref fa) ⟨[.ref a],[]⟩) (fun r s'=>r=.ok (.ret (.bool true))∧OldK s₁.heap s'.heap∧s'.os=s₁.os∧AllBare s'.gens) s₁) :
  WalkO q loose XP YP l.row.toRowW d [] (fun f vs=>PySem.call f vs):=by
 intro w s₀ s₁ mg mb G Y fa o pm cd doc dV kV ho hd Fq hD VO hg args vals as LL acG hrd hwl hlo
 obtain rfl:dV=.none:=Dflts.none hD N_
 obtain rfl:kV=.none:=Dflts.noKw hD
 obtain⟨a,vs,ns,rfl,rfl,RB,hints,hlen⟩:=FE hn LL hwl
 refine enter_call (codeAny_mono (call w s₀ s₁ mg mb fa o pm cd doc a vs ns G Y ho (fd_plain hd) Fq VO RB hints hlen hg) fun r s' hq=>?_)
 obtain⟨rfl,h2,h3,h4⟩:=hq
 exact⟨.inl ⟨.bool true,.bool true,[],rfl,fun _=>rfl,.bool true,FF l _,fun _=>⟨List.Pairwise.nil,fun _ hm=>(nomatch hm)⟩⟩,h2,h3,h4⟩
section
variable {prog:Program}{w:World}{A:Around}{E:Value→Shared→Prop}{s:Shared}{K:Frag}
end
end Att
namespace L2
open PySem PySem.Spec PyProof.Rows
theorem tQ:∀{vs:List Value}{ns:List Int},IntsAre vs ns→Vals (ns.map V.int) vs
 | _,_,.nil=>.nil
 | _,_,.cons n t h=>.cons ⟨t,rfl⟩ (tQ h)
noncomputable def RC (H:Hp):Prop:=∀b,H b=none∨∃o xs,H b=some (.dF o (.lst xs))
theorem Hf {P:Program}{w:World}{K:PySem.W.Frag}{mg mb:Str→Option Value}{CX:rL}{k:Nat}{fa a:Addr}{fd:FuncData}{x:Str}{sp:Sp}{s₁:Shared}{vs:List Value}{ns:List Int}
  (KX:K.In s₁.heap) (BI:s₁.heap.Ns mainGlobals mg) (hb:s₁.heap.Ns builtinsNs mb) (hbb:∀x:Str,x≠"__name__"→mb x=bootBuiltins x) (aat:s₁.heap.NoLimit) (hg:s₁.gens=#[])
  (ha:s₁.heap.get? a=some {cls:=.type "list",data:=.seq vs.toArray}) (hi:IntsAre vs ns) (hl:ns.length≤sizeLine) (hr:dH k callerA)
  (F:∀base:Heap,K.In base→base.Ns mainGlobals mg→aY P w K mg base CX k fa fd [x] sp) (VP:∀(s:Shared) (u:Value),BindsTo s fd ⟨[u],[]⟩ [(x,u)])
  (Ln:∀H:Hp,RC H→bN K H a (ns.map V.int)→sp [.ref a] H (fun v _=>v=.bl true) fun _ _ _=>False)
  (hCX:∀H e s',CX [] H s₁ (fun _ _ _=>False) e s'→False) :
  codeAny (model P w) callerA (.call (.ref fa) ⟨[.ref a],[]⟩) (fun r s'=>r=.ok (.ret (.bool true))∧OldK s₁.heap s'.heap∧s'.os=s₁.os∧AllBare s'.gens) s₁:=by
 have rv:=tQ hi
 have aau:=hi.length
 have core:∀H:Hp,RC H→bN K H a (ns.map V.int)→ip P w H s₁.heap→(∀b,H b≠none→b=a)→(H a≠none→K.lookup a=none) →
   codeAny (model P w) callerA (.call (.ref fa) ⟨[.ref a],[]⟩) (fun r s'=>r=.ok (.ret (.bool true))∧OldK s₁.heap s'.heap∧s'.os=s₁.os∧AllBare s'.gens) s₁:=by
  intro H hO hS bw hA hK
  have EI:∀{b:Addr}{o:Obj},s₁.heap.get? b=some o→H b=none→(uC s₁.heap H).get? b=some o:=fun e n=>GU e n
  have VG:∀{b:Addr}{o:Obj}{es:Array DictEntry}{ep:Nat},s₁.heap.get? b=some o→o.data=.dict es ep→H b=none:=fun {b o es ep} e d=>by
   cases q:H b with
   | none=>rfl
   | some u=>
    have e':b=a:=hA b (by rw [q]; simp)
    subst e'
    rw [ha] at e; cases e
    have d':Data.seq vs.toArray _=Data.dict es ep:=d
    cases d'
  have Z4:∀{b:Addr}{m:Str→Option Value},s₁.heap.Ns b m→(uC s₁.heap H).Ns b m:=fun {b m} ⟨o,es,ep,e,d,r⟩=>⟨o,es,ep,EI e (VG e d),d,r⟩
  have hKb:K.In (uC s₁.heap H):=fun b o e=>EI (KX b o e) (by
   cases q:H b with
   | none=>rfl
   | some u=>
    have e':b=a:=hA b (by rw [q]; simp)
    subst e'
    rw [hK (by rw [q]; simp)] at e; cases e)
  have hM:Mod K mg (uC s₁.heap H):=⟨hKb,Z4 BI,⟨mb,Z4 hb,hbb⟩,let ⟨mc,h1,h2⟩:=aat; ⟨mc,Z4 h1,h2⟩⟩
  have e0:xu P w K mg (uC s₁.heap H) callerA [] s₁ H:=⟨rfl,hM,fun b o e=>Lu e,Nat.le_of_eq (Fm _ _),trivial,fun b hb=>absurd (show b∈([]:List Addr) from hb) (by simp),bw,.of_eq hg⟩
  refine codeAny_mono ((F _ hKb (Z4 BI)).run callerA [] s₁ H ⟨[.ref a],[]⟩ [.ref a] [.ref a] _ _ hr e0 (VP s₁ (.ref a)) (.cons rfl .nil) (Ln H hO hS)) fun r s' h=>?_
  cases r with
  | error e=>exact(hCX H e s' h).elim
  | ok fl=>
   cases fl with
   | next=>exact False.elim h
   | brk=>exact False.elim h
   | cont=>exact False.elim h
   | ret u=>
    obtain⟨v,H',os,bare,un,aav,r',q⟩:=h
    have q':v=.bl true:=q
    subst q'
    obtain rfl:u=Value.bool true:=r'
    refine⟨rfl,OldK.of_keep fun b o e=>?_,os,bare⟩
    cases q:H b with
    | none=>exact un.keep b o e q (by intro z; exact absurd (show b∈([]:List Addr) from z) (by simp)) (by simp)
    | some u=>
     rcases hO b with z | ⟨ob,xs,z⟩
     ·rw [q] at z; cases z
     ·have z2:=un.lH b ob _ z
      obtain⟨e1,_⟩:=bw b _ z
      obtain⟨e2,_⟩:=aav b _ z2
      rw [e] at e1; cases e1
      exact e2
 cases hk:K.lookup a with
 | some o=>
  have e:=KX a o hk
  rw [ha] at e
  cases e
  refine core (fun _=>none) (fun _=>.inl rfl) (.inr ⟨_,vs.toArray,_,hk,rfl,rfl,rfl,by rw [List.size_toArray,aau]; exact hl,by simpa using rv⟩) (fun b u z=>by have z':(none:Option HO)=some u:=z; cases z') (fun b z=>absurd rfl z) fun z=>absurd rfl z
 | none=>
  refine core (fun b=>if b=a then some (.dF {cls:=.type "list",data:=.seq vs.toArray} (.lst (ns.map V.int)))else none) (fun b=>?_) (.inl (.inr ⟨{cls:=.type "list",data:=.seq vs.toArray},if_pos rfl⟩)) (fun b u z=>?_) (fun b z=>?_) fun _=>hk
  ·by_cases hb:b=a
   ·exact .inr ⟨_,_,if_pos hb⟩
   ·exact .inl (if_neg hb)
  ·by_cases hb:b=a
   ·have z':=(if_pos hb).symm.trans z
    cases z'
    subst hb
    exact⟨ha,by rw [List.length_map]; exact hl,vs,_,rv,ha⟩
   ·have z':=(if_neg hb).symm.trans z
    cases z'
  ·by_cases hb:b=a
   ·exact hb
   ·exact absurd (if_neg hb) z
end L2
namespace L2
open PySem PySem.Spec PyProof.Rows
theorem LM {l:PySem.W.OpenLaw}{n k:Nat}{q:Program}{loose:List Str}{XP:(Str→Option Value)→Heap→Prop}{YP:World→Heap→Prop}{d:DefRec}{K:Params→PySem.W.Frag}{CX:World→rL}{sp:World→Sp}{x:Str}
  (hn:l.most=some n) (Z2:n≤sizeLine) (N_:d.params.defaults=[]) (hr:dH k callerA)
  (hY:∀(w:World) (h:Heap),YP w h→(K w.params).In h)
  (F:∀(w:World) (mg:Str→Option Value) (fa:Addr) (h:Heap),(K w.params).In h→h.Ns mainGlobals mg→mg d.name=some (.ref fa) →
   ∃fd:FuncData,(∀(s:Shared) (u:Value),BindsTo s fd ⟨[u],[]⟩ [(x,u)]) ∧
    ∀base:Heap,(K w.params).In base→base.Ns mainGlobals mg→aY l.prog w (K w.params) mg base (CX w) k fa fd [x] (sp w))
  (Ln:∀(w:World) (H:Hp) (a:Addr) (ns:List Int),ns.length≤n→RC H→bN (K w.params) H a (ns.map V.int)→sp w [.ref a] H (fun v _=>v=.bl true) fun _ _ _=>False)
  (hCX:∀(w:World) (H:Hp) (s:Shared) (e:Value) (s':Shared),CX w [] H s (fun _ _ _=>False) e s'→False) :
  PySem.W.WalkO q loose XP YP l.row.toRowW d [] (fun f vs=>PySem.call f vs):=by
 refine Att.xF hn N_ fun w s₀ s₁ mg mb fa o pm cd doc a vs ns G Y ho hd Fq VO RB hints hlen hg=>?_
 have KX:=hY w _ Y
 obtain⟨fd,hb,hF⟩:=F w mg fa _ KX G.T.g VO
 exact Hf KX G.T.g G.T.b G.T.builtins G.T.nolimit hg RB hints (Nat.le_trans hlen Z2) hr hF hb (fun H hO hS=>Ln w H a ns hlen hO hS) fun H e s'=>hCX w H s₁ e s'
end L2
namespace L2
open PySem PySem.Spec PyProof.Rows
noncomputable def inClass (s:Stmt) (j:Nat):Stmt:=match s with
 | .ClassDef _ _ _ body _ _ _ _ _ _ _=>body.getD j (.Pass ⟨0,0,0,0⟩)
 | _=>.Pass ⟨0,0,0,0⟩
noncomputable def gA (s:Stmt):Arguments:=match s with
 | .FunctionDef _ a _ _ _ _ _ _ _ _=>a
 | _=>{posonlyargs:=[],args:=[],vararg:=none,kwonlyargs:=[],kw_defaults:=[],kwarg:=none,defaults:=[]}
noncomputable def eR (s:Stmt):List Stmt:=match s with
 | .FunctionDef _ _ b _ _ _ _ _ _ _=>b
 | _=>[]
noncomputable def aq (s:Stmt):Scope:=match s with
 | .FunctionDef _ _ _ _ _ _ sc _ _ _=>sc
 | _=>{kind:=.function,names:=[],isGenerator:=false,isCoroutine:=false}
noncomputable abbrev cX:rL:=fun _ _ _ _ _ _=>False
noncomputable abbrev E0:XK:=fun _ _ _=>False
theorem aB {X:Cx}:Passes cX X E0:=fun _ _ _ _ _ _ _ h=>h.elim
structure cU (K:PySem.W.Frag) (x qual:Str) (st:Stmt) (f:Addr) (fd:FuncData):Prop where
 ex:∃(oc:Value) (od:Option Addr) (kV doc pm:Value) (an:Option Addr) (cv ct:Value) (xy:Array (Option Value)),
  fd=PySem.W.fnOf x qual (gA st) (eR st) (aq st) .none kV doc pm an cv ct∧K.lookup f=some ⟨oc,od,.func fd,xy⟩∧PySem.W.codeIn K cv qual=true
 kp:PySem.W.keepIn K (.ref f)=true
section
variable {P:Program}{w:World}{K:PySem.W.Frag}{mg:Str→Option Value}{base:Heap}
theorem cU.ok {x qual:Str}{st:Stmt}{f:Addr}{fd:FuncData}{N ps:List Str}{k:Nat}{sp:Sp}(F:cU K x qual st f fd) (S:aA N ps (aq st)) (len:∀vs H Q E,sp vs H Q E→vs.length=ps.length)
  (xA:∀(cv:Value) (A:Around) (outer:List Env) (s:Shared) (H:Hp) (vs:List V) (Q:VK) (E:XK),dH k (A.deeper (envOfC qual (aq st) s.heap.objs.size f cv))→sp vs H Q E →
   ∃t,xm (ky cX P w K mg base N qual (aq st) f cv A outer s H E).Vq (eR st) t∧t {nx:=fun _ H'=>Q .bj H',rt:=Q} (start N vs) H):aY P w K mg base cX (k+1) f fd ps sp:=by
 obtain⟨oc,od,kV,doc,pm,an,cv,ct,xy,rfl,lk,Fq⟩:=F.ex
 refine N8 lk Fq S len fun A outer s H vs Q E hr Ln=>?_
 obtain⟨t,h,q⟩:=xA cv A outer s H vs Q E hr Ln
 exact⟨t,h.Vq,q⟩
theorem cU.binds {x qual:Str}{st:Stmt}{f:Addr}{fd:FuncData}{ps:List Str}(F:cU K x qual st f fd)
  (h:∀(kV doc pm:Value) (an:Option Addr) (cv ct:Value) (us:List Value),us.length=ps.length→bindArgs (PySem.W.fnOf x qual (gA st) (eR st) (aq st) .none kV doc pm an cv ct) ⟨us,[]⟩=pure (ps.zip us)):Binds K fd ps []:=by
 obtain⟨oc,od,kV,doc,pm,an,cv,ct,xy,rfl,lk,Fq⟩:=F.ex
 exact .all (h kV doc pm an cv ct)
theorem Hg {x qual:Str}{st:Stmt}{f:Addr}{oc:Value}{od an:Option Addr}{xy:Array (Option Value)}{kV doc pm cv ct:Value}(l:K.lookup f=some ⟨oc,od,.func (PySem.W.fnOf x qual (gA st) (eR st) (aq st) .none kV doc pm an cv ct),xy⟩)
  (c:PySem.W.codeIn K cv qual=true) (k:PySem.W.keepIn K (.ref f)=true):cU K x qual st f (PySem.W.fnOf x qual (gA st) (eR st) (aq st) .none kV doc pm an cv ct):=⟨⟨oc,od,kV,doc,pm,an,cv,ct,xy,rfl,l,c⟩,k⟩
end
theorem cx {A:Around}{k:Nat}(hr:dH k A):A.units+1 < cLine:=Nat.lt_of_le_of_lt (Nat.add_le_add_left (by decide:1≤64) _) hr.units
theorem aQ {n:Nat}(h:n≤1000):n < sizeLine:=Nat.lt_of_le_of_lt h (by decide)
section
variable {X:Cx}
theorem pv (i:Nat) {x:Str}{pos:Pos}(hN:X.N[i]?=some x:=by rfl) (hv:ZV X.env.scope x:=by first | exact Or.inl rfl | exact Or.inr (Or.inl rfl) | exact Or.inr (Or.inr rfl)) (hd:(x == ("__debug__":Str))=false:=by decide)
  (Fq:(x == ("__classdict__":Str))=false:=by decide):PE X (.Name x pos) (Bx i):=Ra hN hv hd Fq
end
theorem c0 {A B:Prop}(h:B):if false=true then A else B:=by
 rw [if_neg Bool.false_ne_true]
 exact h
theorem oM {A B:Prop}(h:A):if true=true then A else B:=by
 rw [if_pos rfl]
 exact h
theorem bu {c A B:Prop} [Decidable c] (h1:c→A) (h2:¬c→B):if c then A else B:=by
 by_cases h:c
 ·rw [if_pos h]
  exact h1 h
 ·rw [if_neg h]
  exact h2 h
noncomputable def ar (H H':Hp):Prop:=∀b o,H b=some o→H' b=some o
theorem ar.trans {H H1 H2:Hp}(a:ar H H1) (b:ar H1 H2):ar H H2:=fun c o h=>b c o (a c o h)
theorem ar.free {H H':Hp}(e:ar H H') {l:Addr}(h:H' l=Option.none):H l=Option.none:=by
 cases q:H l with
 | none=>rfl
 | some o=>
  rw [e l o q] at h
  cases h
theorem ar.seq {K:PySem.W.Frag}{H H':Hp}{a:Addr}{xs:List V}(e:ar H H') (h:bN K H a xs):bN K H' a xs:=by
 rcases h with (h | ⟨o,h⟩) | h
 ·exact .inl (.inl (e _ _ h))
 ·exact .inl (.inr ⟨o,e _ _ h⟩)
 ·exact .inr h
end L2
set_option maxHeartbeats 4000000
namespace L2
open PySem PySem.Spec PyProof.Rows
theorem BJ:bootBuiltins "abs"=some (.builtin "abs"):=by decide +kernel
theorem dI:bootBuiltins "len"=some (.builtin "len"):=by decide +kernel
theorem RD:bootBuiltins "max"=some (.builtin "max"):=by decide +kernel
theorem aD:bootBuiltins "isinstance"=some (.builtin "isinstance"):=by decide +kernel
theorem oN:bootBuiltins "int"=some (.type "int"):=by decide +kernel
theorem oo:bootBuiltins "bool"=some (.type "bool"):=by decide +kernel
theorem fQ:bootBuiltins "str"=some (.type "str"):=by decide +kernel
theorem gB:bootBuiltins "list"=some (.type "list"):=by decide +kernel
theorem kD:bootBuiltins "tuple"=some (.type "tuple"):=by decide +kernel
theorem kE:bootBuiltins "dict"=some (.type "dict"):=by decide +kernel
section
variable {X:Cx}{pos:Pos}
noncomputable def xG (j:Int):Prop:=0 < j∧(j < 1073741824∨j.natAbs.log2 < 9000)
theorem xG.small {j:Int}(h:0 < j) (h2:j < 1073741824):xG j:=⟨h,.inl h2⟩
theorem cy:mF X (binaryOp .FloorDiv) (rI (fun _ j=>xG j) fun i j=>.int (i / j)):=Z1 fun i j _ _ _ _ _ hc q=>by
 have h1:(0:Int) < j:=hc.1
 refine floordiv_int (by omega) (by rw [Int.fdiv_eq_ediv_of_nonneg i (by omega)]; exact q) (.inl ?_)
 rcases hc.2 with h2 | h2
 ·exact PyProof.noPylong_small (by omega)
 ·exact PyProof.noPylong_of_log2 h2
noncomputable def VQ (K:PySem.W.Frag):R2:=fun x y H Q=>∃l b xs zs,x=.ref l∧y=.ref b∧bN K H l xs∧bN K H b zs∧xs.length+zs.length≤sizeLine∧∀p,H p=none→Q (.ref p) (upd H p (.lst (xs++zs)))
theorem kF:mF X (binaryOp .Add) (VQ X.K):=by
 intro pins s σ H x y v u Q I rx ry h
 obtain⟨l,b,xs,zs,rfl,rfl,hH,hB,hz,q⟩:=h
 cases rx
 cases ry
 obtain⟨bq,r,hl,z⟩:=I.list hH
 obtain⟨b8,r2,kG,z2⟩:=I.list hB
 obtain⟨⟨cls,dd,data,sl⟩,n,ho,hc,hdd,hd⟩:=hl
 obtain⟨⟨acH,U5,data2,sl2⟩,n2,Lo,hc2,acI,hd2⟩:=kG
 simp only at hc hd hc2 hd2
 subst hc hd hc2 hd2
 have l1:=r.length
 have l2:=r2.length
 have ea:bq.toArray++b8.toArray=(bq++b8).toArray:=by simp
 refine concat_meets ⟨_,ho,rfl⟩ ⟨_,Lo,rfl⟩ noFill_list_add seq_list_add PySem.F.slot_list_add PySem.F.entry_list_add (PySem.F.args_list_add_2 _ _) (list_addW l b bq.toArray b8.toArray n n2 dd U5 sl sl2 (by rw [List.size_toArray,List.size_toArray]; omega)) ⟨ho,Lo,?_⟩
 rw [ea]
 exact⟨.ref _,_,I.LJ (t':=s.toks) (r.append r2) (by rw [List.length_append]; omega),rfl,q _ I.fresh⟩
noncomputable def aaw (K:PySem.W.Frag) (n:Nat) (t:N0):TG:=fun v σ H Q=>∃a xs,v=.ref a∧bN K H a xs∧xs.length=n∧t xs σ H Q
end
end L2
namespace L2
open PySem PySem.Spec PyProof.Rows
section
variable {X:Cx}
end
end L2
namespace L2
open PySem PySem.Spec PyProof.Rows
end L2
namespace L2
open PySem PySem.Spec PyProof.Rows
theorem RE (CX:rL) (P:Program) (w:World) (K:PySem.W.Frag) (mg:Str→Option Value) (base:Heap) (N:List Str) (qual:Str) (scope:Scope) (f:Addr) (cd:Value) (A:Around) (outer:List Env) (s:Shared) (H:Hp) (E:XK) :
  (ky CX P w K mg base N qual scope f cd A outer s H E).K=K:=rfl
end L2
namespace L2
open PySem PySem.Spec PyProof.Rows
theorem xH (K:PySem.W.Frag) (t:String):PySem.W.kitOne K (.type t) (.type t)=some true:=by
 unfold PySem.W.kitOne
 rw [if_pos (by simp)]
theorem EJ (K:PySem.W.Frag) {t u:String}{b:Bool}(e1:(Value.type t == Value.type u)=false) (e2:PySem.W.kitMeta u=true) (e3:(fastBuiltinMro t).map (·.contains (Value.type u))=some b):PySem.W.kitOne K (.type t) (.type u)=some b:=by
 unfold PySem.W.kitOne
 rw [e1,if_neg Bool.false_ne_true]
 show(if PySem.W.kitMeta u=true then _ else _)=_
 rw [if_pos e2]
 exact e3
end L2
namespace L2
open PySem PySem.Spec PyProof.Rows
theorem ar.put {H:Hp}{b:Addr}{o:HO}(h:H b=none):ar H (upd H b o):=fun c u e=>by
 rw [ak (aG e h)]
 exact e
end L2
namespace L2
theorem LN (i j:Int):xr (.int i) (.int j)=true:=rfl
theorem LO (i j:Bool):xr (.bl i) (.bl j)=true:=rfl
theorem LP (i j:PySem.Str):xr (.str i) (.str j)=true:=rfl
theorem LQ (i:Int):xr (.int i) .bj=true:=rfl
theorem LR (i:Int):xr .bj (.int i)=true:=rfl
end L2
namespace L2
open PySem PySem.Spec PyProof.Rows
noncomputable def cD (X:Cx) (N:List Str) (scope:Scope) (cl:List (Str×Addr)) (C:Addr) (s:Shared) (H:Hp) (fp:List Addr):Cx:=
 {X with N:=N,s₀:=s,H₀:=H,env:=compEnvC scope cl C X.env,outer:=X.stack,stack:=X.stack,ex:=fp,fn:=fun _=>false,pn:=[],xe:=fun _ _=>False}
noncomputable def cI (fr:List Nat) (σ:St) (v:Option V):St:=v::fr.map fun j=>(σ[j]?).join
structure FG (X:Cx) (x:Str) (ns:List Str) (fr:List Nat) (scope:Scope) (cl:List (Str×Addr)):Prop where
 uR:closureFor scope X.env=pure cl
 gC:∀y∈scope.names,y.2≠.cell
 kind:scope.kind=.function
 own:∀y∈scope.names,y.2=.local→scope.names.lookup y.1=some .local
 var:scope.names.lookup x=some .local
 sub:∀z c,cl.lookup z=some c→X.env.cells.lookup z=some c
 has:∀z,((relabel scope X.env).names.lookup z=some .cell∨(relabel scope X.env).names.lookup z=some .free)→∃c,cl.lookup z=some c
 len:ns.length=fr.length
 xI:∀(k:Nat) z j,ns[k]?=some z→fr[k]?=some j→X.N[j]?=some z∧X.env.scope.names.lookup z=some .cell∧((relabel scope X.env).names.lookup z=some .cell∨(relabel scope X.env).names.lookup z=some .free)
 nd:(x::ns).Nodup
inductive xJ (P:Expr→TT→Prop):List Expr→TT→Prop where
 | nil:xJ P [] fun _ H Q=>Q true H
 | one {c:Expr}{t:TT}(h:P c t):xJ P [c] t
noncomputable def oO (J:It) (fr:List Nat) (tt:TT) (te:TE) (σ:St) (D:Addr) (Q:Hp→Prop) (H:Hp):Prop:=
 ∃W:Nat→Nat→Hp→Prop,(∃m,W 0 m H)∧∀i m H2,W i m H2→(J.stop i H2∧Q H2)∨(J.go i H2∧∀v H',J.Ri i H2 v H'→tt (cI fr σ (some v)) H' fun b H3=>
  if b=true then te (cI fr σ (some v)) H3 fun y H4=>∃ys,H4 D=some (.lst ys)∧ys.length < sizeLine∧∃m',m' < m∧W (i+1) m' (upd H4 D (.lst (ys++[y])))else ∃m',m' < m∧W (i+1) m' H3)
theorem xK {A B:Prop}(h:if true=true then A else B):A:=by
 rw [if_pos rfl] at h
 exact h
section
variable {X:Cx}{pins:List (Addr×Obj)}{σ:St}{H:Hp}{s:Shared}{x:Str}{ns:List Str}{fr:List Nat}{scope:Scope}{cl:List (Str×Addr)}{fp:List Addr}
theorem Oa (I:Inv X pins σ H s) (L:FG X x ns fr scope cl) (hf:∀b∈fp,fY X pins H b) (ho:∀b∈fp,b < s.heap.objs.size):(cD X (x::ns) scope cl s.heap.objs.size s H fp).Ok where
 mod:=I.ok.mod
 kind:=L.kind
 glob:=I.ok.glob
 blt:=I.ok.blt
 above:=Nat.le_refl _
 inj:=fun a b c h1 h2=>I.ok.inj a b c (L.sub a c h1) (L.sub b c h2)
 has:=fun z h=>L.has z h
 NS:=fun _ _ h=>nomatch h
 hd:=I.ok.hd
 frames:=I.ok.frames
 Q8:=.inl rfl
 Lx:=fun b hb=>⟨Nat.ne_of_lt (ho b hb),fun z c h=>(hf b hb).2.2.2.2.1 z c (L.sub z c h)⟩
 bs:=I.bs
 Ey:=Nat.le_trans I.ok.Ey I.sz
 uD:=fun b o e hb=>by
  rcases (hf b hb).2.2.2.1 with h | h
  ·exact I.ok.uD b o e h
  ·exact absurd (Nat.lt_of_lt_of_le (Heap.lt_size e) (Nat.le_trans I.ok.Ey h)) (Nat.lt_irrefl _)
 uE:=fun b hb hs=>by
  rcases List.mem_cons.mp (I.uF b hs)with h | h
  ·exact(hf b hb).2.1 h
  ·exact(hf b hb).2.2.1 h
 jG:=I.stack
 Ll:=I.i7
theorem LS {fr:List Nat}{σ:St}{v:Option V}{k:Nat}{u:V}(h:(cI fr σ v)[k+1]?=some (some u)):∃j,fr[k]?=some j∧σ[j]?=some (some u):=by
 unfold cI at h
 rw [List.getElem?_cons_succ,List.getElem?_map] at h
 cases e:fr[k]? with
 | none=>rw [e] at h; cases h
 | some j=>
  rw [e] at h
  refine⟨j,rfl,?_⟩
  cases e2:σ[j]? with
  | none=>simp [e2] at h
  | some o=>simp [e2] at h; rw [h]
theorem Hh {h':Heap}{t':Nat}(I:Inv X pins σ H s) (L:FG X x ns fr scope cl) (hf:∀b∈fp,fY X pins H b) (ho:∀b∈fp,b < s.heap.objs.size)
  (hn:h'.Ns s.heap.objs.size fun _=>none) (hk:∀b o,s.heap.get? b=some o→h'.get? b=some o) :
  Inv (cD X (x::ns) scope cl s.heap.objs.size s H fp) [] (cI fr σ none) H {s with heap:=h',toks:=t'} where
 ok:=Oa I L hf ho
 os:=rfl
 bare:=I.bare
 base:=Un.kept hk
 loc:=by
  refine⟨_,hn,fun i z v e1 e2 e3=>?_⟩
  cases i with
  | zero=>cases e2
  | succ k=>
   have VR:ns[k]?=some z:=e1
   obtain⟨j,ej,ev⟩:=LS e2
   obtain⟨hN,hc,hy⟩:=L.xI k z j VR ej
   obtain⟨m,hm,hl⟩:=I.loc
   obtain⟨u,r,l⟩:=hl j z v hN ev (.inr (.inl hc))
   refine⟨u,r,.inr ⟨hy,?_⟩⟩
   rcases l with ⟨l,_⟩ | ⟨_,c,Z5,⟨o,Lo,hd⟩⟩
   ·have:X.env.scope.names.lookup z=some .local:=l
    rw [hc] at this
    cases this
   ·obtain⟨c',NV⟩:=L.has z hy
    have e:=L.sub z c' NV
    rw [Z5] at e
    cases e
    exact⟨c,NV,o,hk c o Lo,hd⟩
 cell:=fun z c e=>by
  obtain⟨v,o,Lo,hd⟩:=I.cell z c (L.sub z c e)
  exact⟨v,o,hk c o Lo,hd⟩
 free:=I.fresh
 ez:=fun z c e=>I.ez z c (L.sub z c e)
 pin:=fun p hp=>nomatch hp
 bw:=I.bw.kept hk
 len:=by
  show(cI fr σ none).length=(x::ns).length
  unfold cI
  rw [List.length_cons,List.length_map,List.length_cons,L.len]
theorem Hi {elt iter:Expr}{px:Pos}{ifs:List Expr}{pos:Pos}{J:It}{it D:Addr}{tn:Nat→Heap→Prop}{tt:TT}{te:TE}{Qe:Hp→Prop}{R:Result→Shared→Prop}{s4:Shared}
  (hc:X.calm=true) (L:FG X x ns fr scope cl) (T:Turn X.prog X.w X.K (.Name x px) J fp it tn) (hf:∀b∈fp,fY X pins H b) (ho:∀b∈fp,b < s.heap.objs.size) (I:Inv X pins σ H s)
  (hE:PE (cD X (x::ns) scope cl s.heap.objs.size s H fp) elt te) (hT:xJ (PT (cD X (x::ns) scope cl s.heap.objs.size s H fp)) ifs tt) (hw:oO J fr tt te σ D Qe H)
  (I4:Inv (cD X (x::ns) scope cl s.heap.objs.size s H fp) [] (cI fr σ none) H s4) (VS:tn 0 s4.heap)
  (hR:∀(s':Shared) (H':Hp) (v:Option V),Inv (cD X (x::ns) scope cl s.heap.objs.size s H fp) [] (cI fr σ v) H' s'→Qe H'→R (.ok .next) s') :
  codeAny (model X.prog X.w) X.A (.compStart (.ListComp elt [⟨.Name x px,iter,ifs,0⟩] scope pos) 0 (.ref it) (.ref D) (compEnvC scope cl s.heap.objs.size X.env)) R s4:=by
 obtain⟨W,⟨m0,w0⟩,turn⟩:=hw
 have Lp:=Oa I L hf ho
 have Z6:Loc (cD X (x::ns) scope cl s.heap.objs.size s H fp).env.scope x:=.inl (lookup_relabel_local L.var)
 have oF:∀{H':Hp},(∀b∈fp,H' b=none)→∀b∈fp,fY (cD X (x::ns) scope cl s.heap.objs.size s H fp) [] H' b:=fun hn b hb=>
  ⟨hn b hb,(Lp.Lx b hb).1,Lp.uE b hb,.inl hb,(Lp.Lx b hb).2,fun p hp=>nomatch hp⟩
 have fr0:∀b∈fp,H b=none:=fun b hb=>(hf b hb).1
 have loop:codeAny (model X.prog X.w) X.A (.compLoop (.ListComp elt [⟨.Name x px,iter,ifs,0⟩] scope pos) 0 (.ref it) (.ref D) (compEnvC scope cl s.heap.objs.size X.env)) R s4:=by
  refine codeAny_loop rfl (fun n s'=>∃i v H',Inv (cD X (x::ns) scope cl s.heap.objs.size s H fp) [] (cI fr σ v) H' s'∧tn i s'.heap∧(∀b∈fp,H' b=none)∧W i n H') (fun n s3 hI=>?_) m0 ⟨0,none,H,I4,VS,fr0,w0⟩
  obtain⟨i,v0,H3,I3,N4,Fv,w3⟩:=hI
  show wpAny _ X.A ((compTurn (.ListComp elt [⟨.Name x px,iter,ifs,0⟩] scope pos) 0 (.ref it) (.ref D) (compEnvC scope cl s.heap.objs.size X.env)).onRaise (fun y=>do noteFrame y (compEnvC scope cl s.heap.objs.size X.env); theTreesLotGoes y)) _ _ s3
  refine wpAny_noted ?_
  rw [compTurn_list]
  have low:∀{α:Type}{t:Sem α}{Q Q':α→Shared→Prop}{E:Value→Shared→Prop}{s5:Shared},wpAny (model X.prog X.w) X.A t Q (fun _ _=>False) s5→(∀a s6,Q a s6→Q' a s6)→wpAny (model X.prog X.w) X.A t Q' E s5:=
   fun h hq=>wpAny_mono h hq fun _ _ z=>z.elim
  rcases turn i n H3 w3 with ⟨stop,q⟩ | ⟨go,step⟩
  ·refine wpAny_bind (wpAny_standAt (wpAny_bind (low (T.done (cD X (x::ns) scope cl s.heap.objs.size s H fp) rfl rfl rfl hc i [] s3 _ H3 (fun _ _=>False) I3 (oF Fv) N4 stop) fun r s5 hr=>?_)))
   obtain⟨hr,I5⟩:=hr
   subst hr
   exact wpAny_pure (hR s5 H3 v0 I5 q)
  ·refine wpAny_bind (wpAny_standAt (wpAny_bind (low (T.item (cD X (x::ns) scope cl s.heap.objs.size s H fp) rfl rfl rfl hc i [] s3 _ H3 (fun _ _=>False) I3 (oF Fv) N4 go) fun r s5 hr=>?_)))
   obtain⟨u,hr,h5⟩:=hr
   subst hr
   refine wpAny_bind (low h5 fun _ s6 h6=>?_)
   obtain⟨y,H6,I6,r6,y6,RF,fr6⟩:=h6
   have I6':=I6.pinned (oF fr6) (T.obj _ _ RF)
   have hg:PG (cD X (x::ns) scope cl s.heap.objs.size s H fp) (.Name x px) (oE 0):=bL (i:=0) L.nd rfl Z6 (.inr (lookup_relabel_local L.var))
   refine wpAny_bind (low (hg _ s6 _ H6 y u (fun σ' H'=>σ'=cI fr σ (some y)∧H'=H6) I6' r6 ⟨rfl,rfl⟩) fun _ s7 h7=>?_)
   obtain⟨σ7,H7,I7,e7,e7'⟩:=h7
   subst e7 e7'
   have back:∀{H8:Hp}{s8:Shared},Inv (cD X (x::ns) scope cl s.heap.objs.size s H fp) ([]++iw fp s6.heap) (cI fr σ (some y)) H8 s8→(∃m',m' < n∧W (i+1) m' H8) →
     ∃m,m < n∧∃i v H',Inv (cD X (x::ns) scope cl s.heap.objs.size s H fp) [] (cI fr σ v) H' s8∧tn i s8.heap∧(∀b∈fp,H' b=none)∧W i m H':=fun {H8 s8} I8 hm=>by
    obtain⟨m',hm,w8⟩:=hm
    refine⟨m',hm,i+1,some y,H8,I8.iy,T.keep _ _ _ RF fun b hb o e=>(I8.pin (b,o) (List.mem_append_right _ (List.mem_append_right _ (eJ hb e)))).1,fun b hb=>?_,w8⟩
    obtain⟨o,e,d⟩:=T.obj _ _ RF b hb
    exact(I8.pin (b,o) (List.mem_append_right _ (List.mem_append_right _ (eJ hb e)))).2.1
   have xM:=step y _ y6
   have emit:∀{H8:Hp}{s8:Shared},Inv (cD X (x::ns) scope cl s.heap.objs.size s H fp) ([]++iw fp s6.heap) (cI fr σ (some y)) H8 s8 →
     te (cI fr σ (some y)) H8 (fun y H4=>∃ys,H4 D=some (.lst ys)∧ys.length < sizeLine∧∃m',m' < n∧W (i+1) m' (upd H4 D (.lst (ys++[y])))) →
     wpAny (model X.prog X.w) X.A (do let _ ←call (.builtin "list.append") [.ref D,←eval elt (compEnvC scope cl s.heap.objs.size X.env)]) (fun _ s9=>∃m,m < n∧∃i v H',Inv (cD X (x::ns) scope cl s.heap.objs.size s H fp) [] (cI fr σ v) H' s9∧tn i s9.heap∧(∀b∈fp,H' b=none)∧W i m H') (fun _ _=>False) s8:=fun {H8 s8} I8 h8=>by
    refine wpAny_bind (b_ (hE _ s8 _ H8 _ I8 h8) fun v9 s9 h9=>?_)
    obtain⟨z,H9,I9,r9,ys,hD,hlen,hm⟩:=h9
    refine wpAny_bind (b_ (eN (X:=cD X (x::ns) scope cl s.heap.objs.size s H fp) _ s9 _ H9 (.ref D) [z] (.ref D) [v9] (fun _ H'=>∃m',m' < n∧W (i+1) m' H') I9 rfl (.cons r9 .nil) ⟨D,ys,z,rfl,rfl,hD,hlen,hm⟩) fun v10 U6 h10=>?_)
    obtain⟨_,Z7,I10,_,RG⟩:=h10
    exact wpAny_pure (back I10 RG)
   cases hT with
   | nil=>
    refine wpAny_bind (wpAny_tests_nil ?_)
    refine wpAny_bind (low (emit I7 (xK xM)) fun _ s9 h9=>wpAny_pure ⟨rfl,h9⟩)
   | one hP=>
    refine wpAny_bind (wpAny_tests_one (low (hP _ s7 _ _ _ I7 xM) fun b s8 h8=>?_))
    obtain⟨H8,I8,q8⟩:=h8
    cases b with
    | false=>
     have q9:∃m',m' < n∧W (i+1) m' H8:=q8
     exact wpAny_pure ⟨rfl,back I8 q9⟩
    | true=>
     exact wpAny_bind (low (emit I8 q8) fun _ s9 h9=>wpAny_pure ⟨rfl,h9⟩)
 exact codeAny_compStart_list loop (T.self X.A 0 _ _ _ VS loop)
theorem Hj {s':Shared}{H':Hp}{σ':St}(I:Inv X pins σ H s) (hf:∀b∈fp,fY X pins H b) (I':Inv (cD X (x::ns) scope cl s.heap.objs.size s H fp) [] σ' H' s'):Inv X pins σ H' s':=
 I.EA (ch:=fp) I'.os I'.base I'.bw I'.bare fun b hb=>⟨(hf b hb).2.2.2.1,(hf b hb).2.1,(hf b hb).2.2.2.2.1,(hf b hb).2.2.2.2.2⟩
theorem RH {elt iter:Expr}{px:Pos}{ifs:List Expr}{pos:Pos}{J:It}{it:Addr}{tn:Nat→Heap→Prop}{tt:TT}{te:TE}{Qe:Addr→Hp→Prop}{R:Value→Addr→Result→Shared→Prop}{E:Value→Shared→Prop}
  (hc:X.calm=true) (L:FG X x ns fr scope cl) (T:Turn X.prog X.w X.K (.Name x px) J fp it tn) (hf:∀b∈fp,fY X pins H b) (I:Inv X pins σ H s) (st:tn 0 s.heap)
  (hE:∀C s H,PE (cD X (x::ns) scope cl C s H fp) elt te) (hT:∀C s H,xJ (PT (cD X (x::ns) scope cl C s H fp)) ifs tt) (hw:∀D,H D=none→oO J fr tt te σ D (Qe D) (upd H D (.lst [])))
  (hR:∀(D C:Addr) (s':Shared) (H':Hp),Inv X pins σ H' s'→Qe D H'→(∃m o,s'.heap.get? C=some o∧(∀v,o.data≠.cell v)∧∀h':Heap,h'.get? C=some o→h'.Ns C m)→H' C=none→C≠X.env.locals→C∉X.fs→X.s₀.heap.objs.size≤C →
   (∀z c,X.env.cells.lookup z=some c→c≠C)→(∀p∈X.pn++pins,p.1≠C)→R (.ref D) C (.ok .next) s') :
  wpAny (model X.prog X.w) X.A (newList []) (fun acc s₃=>wpAny (model X.prog X.w) X.A (newFunctionEnv scope X.env.globals cl [] X.env.qual none .none (some X.env)) (fun Hk s₄=>
   codeAny (model X.prog X.w) X.A (.compStart (.ListComp elt [⟨.Name x px,iter,ifs,0⟩] scope pos) 0 (.ref it) acc {Hk with scope:=relabel scope X.env}) (R acc Hk.locals) s₄) E s₃) E s:=by
 have ho:∀b∈fp,b < s.heap.objs.size:=fun b hb=>by
  obtain⟨o,e,_⟩:=T.obj _ _ st b hb
  exact Heap.lt_size e
 have I3:Inv X pins σ (upd H s.heap.objs.size (.lst [])) {s with heap:=s.heap.push {cls:=.type "list",dict:=none,data:=.seq ([]:List Value).toArray}}:=I.LJ (t':=s.toks) (.nil) (Nat.zero_le _)
 refine wpAny_newObj_type (wpAny_newFunctionEnv L.gC (by intro y hy; simp at hy) (fun h1 BI BK=>?_) L.kind)
 dsimp only at BI BK ⊢
 generalize VT:({s with heap:=s.heap.push {cls:=.type "list",dict:=none,data:=.seq ([]:List Value).toArray}}:Shared)=s3 at I3
 have eh:s.heap.push {cls:=.type "list",dict:=none,data:=.seq ([]:List Value).toArray}=s3.heap:=by rw [←VT]
 rw [eh] at BI BK ⊢
 have hz:s3.heap.objs.size=s.heap.objs.size+1:=by rw [←eh,Heap.size_push]
 have hk:∀b o,s3.heap.get? b=some o→h1.get? b=some o:=fun b o e=>BK.extBut b o (Nat.ne_of_lt (Heap.lt_size e)) (Heap.get?_push_of_some _ e)
 have RI:∀b∈fp,fY X pins (upd H s.heap.objs.size (.lst [])) b:=fun b hb=>⟨by rw [ak (Nat.ne_of_lt (ho b hb))]; exact(hf b hb).1,(hf b hb).2⟩
 have VU:∀b∈fp,b < s3.heap.objs.size:=fun b hb=>by rw [hz]; exact Nat.lt_succ_of_lt (ho b hb)
 have es:∀tk,({s with heap:=h1,toks:=tk}:Shared)={s3 with heap:=h1,toks:=tk}:=fun tk=>by rw [←VT]
 rw [es]
 have I4:=Hh (t':=s.toks+([]:List (Str×Value)).length) I3 L RI VU BI hk
 refine Hi hc L T RI VU I3 (hE _ _ _) (hT _ _ _) (hw _ I.fresh) I4 ?_ fun s' H' v I' q=>?_
 ·refine T.keep _ _ _ st fun b hb o e=>hk b o ?_
  rw [←eh]
  exact Heap.get?_push_of_some _ e
 ·have IX:=Hj I3 RI I'
  obtain⟨m,⟨o,Q_,ep,Bv,xl,hr'⟩,_⟩:=I'.loc
  refine hR _ _ s' H' IX q ⟨m,o,Bv,fun v z=>?_,fun h' e=>⟨o,Q_,ep,e,xl,hr'⟩⟩ I'.free (Nat.ne_of_gt I3.lt) (I3.Q9 (Nat.le_refl _)) I3.sz (fun z c e=>?_) fun p hp=>?_
  ·rw [xl] at z
   cases z
  ·obtain⟨v,o2,e2,_⟩:=I3.cell z c e
   exact Nat.ne_of_lt (Heap.lt_size e2)
  ·exact Nat.ne_of_lt (Heap.lt_size (I3.pin p hp).1)
noncomputable def tLc (wi:TI) (fr:List Nat) (tt:TT) (te:TE):TE:=fun σ H Q=>wi σ H fun J H1=>∀D,H1 D=none→oO J fr tt te σ D (fun H2=>Q (.ref D) H2) (upd H1 D (.lst []))
theorem Ob {elt iter:Expr}{px pos:Pos}{ifs:List Expr}{wi:TI}{tt:TT}{te:TE}(hc:X.calm=true) (L:FG X x ns fr scope cl) (hi:PI X (.Name x px) iter wi)
  (hE:∀C s H fp,PE (cD X (x::ns) scope cl C s H fp) elt te) (hT:∀C s H fp,xJ (PT (cD X (x::ns) scope cl C s H fp)) ifs tt)
  (hs:∀v,foldedSetIterable iter X.env v=pure v:=by intro _; rfl):PE X (.ListComp elt [⟨.Name x px,iter,ifs,0⟩] scope pos) (tLc wi fr tt te):=by
 intro pins s σ H Q I h
 rw [eval_ListComp]
 refine wpAny_comprehension_free (use:=none) rfl hs L.uR L.kind L.own (b_ (hi pins s σ H _ I h) fun v s1 h1=>b_ h1 fun ZZ s2 h2=>?_)
 obtain⟨it,fp,tn,J,H2,e,I2,T,Vw,f2,q⟩:=h2
 subst e
 refine RH (R:=fun acc C=>compPost (model X.prog X.w) X.A X.xe none (EP X pins σ Q) acc C) hc L T f2 I2 Vw (fun C s H=>hE C s H fp) (fun C s H=>hT C s H fp) q ?_
 intro D C s' H' I' q' BI hn hl hfs hz tI RJ
 obtain⟨m,o,e,hd,hk⟩:=BI
 refine⟨m,hk _ e,fun h' BK=>?_⟩
 exact⟨.ref D,H',I'.turned (t':=s'.toks) (fun b o hb e=>BK.extBut b o hb e) hn hl (.inr hz) tI RJ,rfl,q'⟩
end
section
variable {X:Cx}{x:Str}{ns:List Str}{fr:List Nat}{scope:Scope}{cl:List (Str×Addr)}
theorem oP {α:Type}{z:Str}{c:α}:∀{l:List (Str×α)},l.lookup z=some c→(z,c)∈l
 | [],h=>by simp at h
 | (y,d)::l,h=>by
  rw [List.lookup_cons] at h
  cases e:z == y with
  | true=>
   rw [e] at h
   have e2:z=y:=by simpa using e
   cases h
   rw [e2]
   exact List.mem_cons_self
  | false=>
   rw [e] at h
   exact List.mem_cons_of_mem _ (oP h)
theorem VV (uR:closureFor scope X.env=pure cl) (gC:scope.names.all (fun y=>y.2 != .cell)=true) (kind:scope.kind=.function)
  (own:scope.names.all (fun y=>y.2 != .local || scope.names.lookup y.1 == some .local)=true) (var:scope.names.lookup x=some .local) (sub:∀p∈cl,X.env.cells.lookup p.1=some p.2)
  (has:(relabel scope X.env).names.all (fun y=>!(y.2 == .cell || y.2 == .free) || (cl.lookup y.1).isSome)=true) (len:ns.length=fr.length)
  (fr_:∀p∈ns.zip fr,X.N[p.2]?=some p.1∧X.env.scope.names.lookup p.1=some .cell∧((relabel scope X.env).names.lookup p.1=some .cell∨(relabel scope X.env).names.lookup p.1=some .free)) (nd:(x::ns).Nodup):FG X x ns fr scope cl where
 uR:=uR
 gC:=fun y hy=>by simpa using List.all_eq_true.mp gC y hy
 kind:=kind
 own:=fun y hy h=>by
  have:=List.all_eq_true.mp own y hy
  rw [h] at this
  simpa using this
 var:=var
 sub:=fun z c h=>sub _ (oP h)
 has:=fun z h=>by
  have k:∀t,(relabel scope X.env).names.lookup z=some t→(t=.cell∨t=.free)→∃c,cl.lookup z=some c:=fun t ht hk=>by
   have:=List.all_eq_true.mp has _ (oP ht)
   rcases hk with rfl | rfl <;> simpa [Option.isSome_iff_exists] using this
  rcases h with h | h
  ·exact k _ h (.inl rfl)
  ·exact k _ h (.inr rfl)
 len:=len
 xI:=fun k z j h1 h2=>fr_ (z,j) (List.mem_of_getElem? (i:=k) (by rw [List.getElem?_zip_eq_some]; exact⟨h1,h2⟩))
 nd:=nd
end
end L2
namespace L2
end L2
namespace L2
open PySem PySem.Spec PyProof.Rows
theorem LU {X:Cx}{K:PySem.W.Frag}(h:X.K=K):U3 X (nC K):=by
 subst h
 exact ao
end L2
namespace L2
open PySem PySem.Spec PyProof.Rows
open AutoSeq1 (wpAny_loadPart')
section
variable {prog:Program}{w:World}{A:Around}{E:Value→Shared→Prop}{s:Shared}
end
noncomputable def Ite (K:PySem.W.Frag) (l:Addr) (p:Nat):It:=
 ⟨fun i H=>∃xs x,bN K H l xs∧xs[i]?=some x,fun i H x H'=>∃t v,H t=none∧x=.ref t∧(∀xs,bN K H l xs→xs[i]?=some v)∧H'=upd H t (.tup [.int ((p+i:Nat):Int),v]),fun i H=>∃xs,bN K H l xs∧xs.length=i⟩
section
variable {M:Model}{A:Around}{E:Value→Shared→Prop}{s:Shared}{env:Env}
end
section
variable {X:Cx}
noncomputable def VW (K:PySem.W.Frag) (tl tp:TE):TI:=fun σ H R=>tl σ H fun x H1=>tp σ H1 fun y H2=>∃(a:Addr) (p:Nat),x=.ref a∧y=.int p∧(∃xs,bN K H2 a xs)∧p < 2 ^ 62∧R (Ite K a p) H2
end
end L2
namespace L2
open PySem PySem.Spec PyProof.Rows
inductive D where
 | bj | bl (b:Bool) | int (i:Int) | str (x:Str) | lst (ds:List D) | tup (ds:List D)
mutual
noncomputable def bp:D→D→Bool
 | .bj,.bj=>true
 | .bl a,.bl b=>a == b
 | .bl a,.int b=>(if a then 1 else 0) == b
 | .int a,.bl b=>a == (if b then 1 else 0)
 | .int a,.int b=>a == b
 | .str a,.str b=>a == b
 | .lst a,.lst b=>jL a b
 | .tup a,.tup b=>jL a b
 | _,_=>false
noncomputable def jL:List D→List D→Bool
 | [],[]=>true
 | a::x,b::y=>bp a b&&jL x y
 | _,_=>false
end
mutual
noncomputable def D.dep:D→Nat
 | .lst a=>eO a+1
 | .tup a=>eO a+1
 | _=>0
noncomputable def eO:List D→Nat
 | []=>0
 | a::x=>max a.dep (eO x)
end
mutual
theorem f6:∀d:D,bp d d=true
 | .bj=>by simp [bp]
 | .bl b=>by simp [bp]
 | .int i=>by simp [bp]
 | .str x=>by simp [bp]
 | .lst ds=>by rw [bp]; exact lM ds
 | .tup ds=>by rw [bp]; exact lM ds
theorem lM:∀ds:List D,jL ds ds=true
 | []=>by simp [jL]
 | d::ds=>by rw [jL,f6 d,lM ds]; rfl
end
theorem gD:∀{ds:List D}{i:Nat}{d:D},ds[i]?=some d→d.dep≤eO ds
 | [],_,_,h=>by simp at h
 | e::ds,0,d,h=>by
  simp at h
  subst h
  rw [eO]
  exact Nat.le_max_left _ _
 | e::ds,i+1,d,h=>by
  rw [eO]
  exact Nat.le_trans (gD (i:=i) (by simpa using h)) (Nat.le_max_right _ _)
theorem eW:∀{ds es:List D},ds.length≠es.length→jL ds es=false
 | [],[],h=>absurd rfl h
 | [],_::_,_=>by simp [jL]
 | _::_,[],_=>by simp [jL]
 | d::ds,e::es,h=>by rw [jL,eW (by simpa using h),Bool.and_false]
theorem iC:∀{ds es:List D},ds.length=es.length→jL ds es=(List.range ds.length).all fun j=>bp (ds.getD j .bj) (es.getD j .bj)
 | [],[],_=>by simp [jL]
 | [],_::_,h=>by simp at h
 | _::_,[],h=>by simp at h
 | d::ds,e::es,h=>by
  rw [jL,iC (by simpa using h),List.length_cons,List.range_succ_eq_map,List.all_cons,List.all_map]
  rfl
inductive fH (K:PySem.W.Frag) (H:Hp):V→D→Prop where
 | bj:fH K H .bj .bj
 | bl (b:Bool):fH K H (.bl b) (.bl b)
 | int (i:Int):fH K H (.int i) (.int i)
 | str (x:Str):fH K H (.str x) (.str x)
 | lst {a:Addr}{xs:List V}{ds:List D}(h:bN K H a xs) (hl:xs.length=ds.length) (hi:∀(i:Nat) (x:V) (d:D),xs[i]?=some x→ds[i]?=some d→fH K H x d):fH K H (.ref a) (.lst ds)
 | tup {a:Addr}{xs:List V}{ds:List D}(h:bZ K H a xs) (hl:xs.length=ds.length) (hi:∀(i:Nat) (x:V) (d:D),xs[i]?=some x→ds[i]?=some d→fH K H x d):fH K H (.ref a) (.tup ds)
section
variable {X:Cx}{pins:List (Addr×Obj)}{s:Shared}{σ:St}{H:Hp}
theorem Inv.xN (I:Inv X pins σ H s) {a:Addr}{xs ys:List V}(h:bN X.K H a xs) (h':bZ X.K H a ys):False:=by
 obtain⟨bq,_,p,_⟩:=I.list h
 obtain⟨b8,_,q,_⟩:=I.tuple h'
 obtain⟨o,e,c,_⟩:=p.isList
 obtain⟨o2,e2,c2,_⟩:=q
 rw [e] at e2
 cases e2
 rw [c] at c2
 injection c2 with h3
 exact absurd h3 (by decide)
theorem Oc {xs:List V}{ds es:List D}(hl:xs.length=ds.length) (kG:xs.length=es.length) (h:∀(i:Nat) x d e,xs[i]?=some x→ds[i]?=some d→es[i]?=some e→d=e):ds=es:=by
 refine List.ext_getElem (by omega) fun i h1 h2=>?_
 exact h i _ _ _ (List.getElem?_eq_getElem (by omega)) (List.getElem?_eq_getElem h1) (List.getElem?_eq_getElem h2)
theorem fH.one (I:Inv X pins σ H s) {x:V}{d:D}(h:fH X.K H x d):∀{e:D},fH X.K H x e→d=e:=by
 induction h with
 | bj=>intro e h; cases h; rfl
 | bl b=>intro e h; cases h; rfl
 | int b=>intro e h; cases h; rfl
 | str b=>intro e h; cases h; rfl
 | lst q hl hi ih=>
  intro e h
  cases h with
  | lst q2 kG RK=>
   cases I.xq q q2
   rw [Oc hl kG fun i x d e h1 h2 h3=>ih i x d h1 h2 (RK i x e h1 h3)]
  | tup q2 kG RK=>exact(I.xN q q2).elim
 | tup q hl hi ih=>
  intro e h
  cases h with
  | tup q2 kG RK=>
   cases I.tJ q q2
   rw [Oc hl kG fun i x d e h1 h2 h3=>ih i x d h1 h2 (RK i x e h1 h3)]
  | lst q2 kG RK=>exact(I.xN q2 q).elim
theorem EK {ds:List D}{i:Nat}(h:i < ds.length):ds[i]?=some (ds.getD i .bj):=by simp [List.getD,h]
theorem i_ {xs ys:List V}{ds es:List D}{bq b8:List Value}{A:Around}(r1:Vals xs bq) (r2:Vals ys b8) (hl:xs.length=ds.length) (kG:ys.length=es.length)
  (ih:∀(i:Nat) x d,xs[i]?=some x→ds[i]?=some d→∀{y:V}{e:D}{u v:Value},fH X.K H y e→RelV x u→RelV y v→SeqAt.EqAt A s u v (bp d e)) (RK:∀(i:Nat) y e,ys[i]?=some y→es[i]?=some e→fH X.K H y e) :
  ∀j (h1:j < bq.toArray.size) (h2:j < b8.toArray.size),SeqAt.EqAt A s bq.toArray[j] b8.toArray[j] (bp (ds.getD j .bj) (es.getD j .bj)):=by
 intro j h1 h2
 have l1:=r1.length
 have l2:=r2.length
 have j1:j < xs.length:=by simp at h1; omega
 have j2:j < ys.length:=by simp at h2; omega
 obtain⟨u1,e1,q1⟩:=r1.get (List.getElem?_eq_getElem j1)
 obtain⟨u2,e2,q2⟩:=r2.get (List.getElem?_eq_getElem j2)
 have i1:bq.toArray[j]=u1:=by
  obtain⟨_,e⟩:=List.getElem?_eq_some_iff.mp e1
  simpa using e
 have i2:b8.toArray[j]=u2:=by
  obtain⟨_,e⟩:=List.getElem?_eq_some_iff.mp e2
  simpa using e
 rw [i1,i2]
 exact ih j _ _ (List.getElem?_eq_getElem j1) (EK (by omega)) (RK j _ _ (List.getElem?_eq_getElem j2) (EK (by omega))) q1 q2
theorem Hl {ds es:List D}:(((List.range (min ds.length es.length)).all fun j=>bp (ds.getD j .bj) (es.getD j .bj))&&(ds.length == es.length))=jL ds es:=by
 by_cases h:ds.length=es.length
 ·rw [iC h,h]
  simp
 ·rw [eW h]
  have:(ds.length == es.length)=false:=by simpa using h
  rw [this,Bool.and_false]
theorem uS (I:Inv X pins σ H s) {x:V}{d:D}(h:fH X.K H x d):∀{A:Around},A.units+d.dep < cLine→∀{y:V}{e:D}{u v:Value},fH X.K H y e→RelV x u→RelV y v→SeqAt.EqAt A s u v (bp d e):=by
 induction h with
 | bj=>
  intro A hu y e u v h2 r1 r2
  cases r1
  have bC:A.units < cLine:=Nat.lt_of_le_of_lt (Nat.le_add_right _ _) hu
  cases h2 with
  | bj=>
   cases r2
   first | exact SeqAt.EqAt.same _ | (rw [bp] <;> first | exact SeqAt.EqAt.same _ | nofun)
  | bl b2=>
   cases r2
   first | exact SeqAt.EqAt.none_bool b2 | (rw [bp] <;> first | exact SeqAt.EqAt.none_bool b2 | nofun)
  | int b2=>
   obtain⟨t2,rfl⟩:=r2
   first | exact SeqAt.EqAt.none_int b2 t2 | (rw [bp] <;> first | exact SeqAt.EqAt.none_int b2 t2 | nofun)
  | str b2=>
   obtain⟨t2,rfl⟩:=r2
   first | exact SeqAt.EqAt.none_str b2 t2 | (rw [bp] <;> first | exact SeqAt.EqAt.none_str b2 t2 | nofun)
  | @lst a2 cV f7 q2 l2 i2=>
   cases r2
   obtain⟨b8,v2,p2,z2⟩:=I.list q2
   first | exact SeqAt.EqAt.none_list p2.isList bC | (rw [bp] <;> first | exact SeqAt.EqAt.none_list p2.isList bC | nofun)
  | @tup a2 cV f7 q2 l2 i2=>
   cases r2
   obtain⟨b8,v2,p2,z2⟩:=I.tuple q2
   first | exact SeqAt.EqAt.none_tuple p2 bC | (rw [bp] <;> first | exact SeqAt.EqAt.none_tuple p2 bC | nofun)
 | bl b1=>
  intro A hu y e u v h2 r1 r2
  cases r1
  have bC:A.units < cLine:=Nat.lt_of_le_of_lt (Nat.le_add_right _ _) hu
  cases h2 with
  | bj=>
   cases r2
   first | exact SeqAt.EqAt.bool_none b1 | (rw [bp] <;> first | exact SeqAt.EqAt.bool_none b1 | nofun)
  | bl b2=>
   cases r2
   first | exact SeqAt.EqAt.bool_bool b1 b2 | (rw [bp] <;> first | exact SeqAt.EqAt.bool_bool b1 b2 | nofun)
  | int b2=>
   obtain⟨t2,rfl⟩:=r2
   first | exact SeqAt.EqAt.bool_int b1 b2 t2 | (rw [bp] <;> first | exact SeqAt.EqAt.bool_int b1 b2 t2 | nofun)
  | str b2=>
   obtain⟨t2,rfl⟩:=r2
   first | exact SeqAt.EqAt.bool_str b1 b2 t2 | (rw [bp] <;> first | exact SeqAt.EqAt.bool_str b1 b2 t2 | nofun)
  | @lst a2 cV f7 q2 l2 i2=>
   cases r2
   obtain⟨b8,v2,p2,z2⟩:=I.list q2
   first | exact SeqAt.EqAt.bool_list b1 p2.isList bC | (rw [bp] <;> first | exact SeqAt.EqAt.bool_list b1 p2.isList bC | nofun)
  | @tup a2 cV f7 q2 l2 i2=>
   cases r2
   obtain⟨b8,v2,p2,z2⟩:=I.tuple q2
   first | exact SeqAt.EqAt.bool_tuple b1 p2 bC | (rw [bp] <;> first | exact SeqAt.EqAt.bool_tuple b1 p2 bC | nofun)
 | int b1=>
  intro A hu y e u v h2 r1 r2
  obtain⟨t1,rfl⟩:=r1
  have bC:A.units < cLine:=Nat.lt_of_le_of_lt (Nat.le_add_right _ _) hu
  cases h2 with
  | bj=>
   cases r2
   first | exact SeqAt.EqAt.int_none b1 t1 | (rw [bp] <;> first | exact SeqAt.EqAt.int_none b1 t1 | nofun)
  | bl b2=>
   cases r2
   first | exact SeqAt.EqAt.int_bool b1 t1 b2 | (rw [bp] <;> first | exact SeqAt.EqAt.int_bool b1 t1 b2 | nofun)
  | int b2=>
   obtain⟨t2,rfl⟩:=r2
   first | exact SeqAt.EqAt.int_int b1 t1 b2 t2 | (rw [bp] <;> first | exact SeqAt.EqAt.int_int b1 t1 b2 t2 | nofun)
  | str b2=>
   obtain⟨t2,rfl⟩:=r2
   first | exact SeqAt.EqAt.int_str b1 t1 b2 t2 | (rw [bp] <;> first | exact SeqAt.EqAt.int_str b1 t1 b2 t2 | nofun)
  | @lst a2 cV f7 q2 l2 i2=>
   cases r2
   obtain⟨b8,v2,p2,z2⟩:=I.list q2
   first | exact SeqAt.EqAt.int_list b1 t1 p2.isList bC | (rw [bp] <;> first | exact SeqAt.EqAt.int_list b1 t1 p2.isList bC | nofun)
  | @tup a2 cV f7 q2 l2 i2=>
   cases r2
   obtain⟨b8,v2,p2,z2⟩:=I.tuple q2
   first | exact SeqAt.EqAt.int_tuple b1 t1 p2 bC | (rw [bp] <;> first | exact SeqAt.EqAt.int_tuple b1 t1 p2 bC | nofun)
 | str b1=>
  intro A hu y e u v h2 r1 r2
  obtain⟨t1,rfl⟩:=r1
  have bC:A.units < cLine:=Nat.lt_of_le_of_lt (Nat.le_add_right _ _) hu
  cases h2 with
  | bj=>
   cases r2
   first | exact SeqAt.EqAt.str_none b1 t1 | (rw [bp] <;> first | exact SeqAt.EqAt.str_none b1 t1 | nofun)
  | bl b2=>
   cases r2
   first | exact SeqAt.EqAt.str_bool b1 t1 b2 | (rw [bp] <;> first | exact SeqAt.EqAt.str_bool b1 t1 b2 | nofun)
  | int b2=>
   obtain⟨t2,rfl⟩:=r2
   first | exact SeqAt.EqAt.str_int b1 t1 b2 t2 | (rw [bp] <;> first | exact SeqAt.EqAt.str_int b1 t1 b2 t2 | nofun)
  | str b2=>
   obtain⟨t2,rfl⟩:=r2
   first | exact SeqAt.EqAt.str_str b1 t1 b2 t2 | (rw [bp] <;> first | exact SeqAt.EqAt.str_str b1 t1 b2 t2 | nofun)
  | @lst a2 cV f7 q2 l2 i2=>
   cases r2
   obtain⟨b8,v2,p2,z2⟩:=I.list q2
   first | exact SeqAt.EqAt.str_list b1 t1 p2.isList bC | (rw [bp] <;> first | exact SeqAt.EqAt.str_list b1 t1 p2.isList bC | nofun)
  | @tup a2 cV f7 q2 l2 i2=>
   cases r2
   obtain⟨b8,v2,p2,z2⟩:=I.tuple q2
   first | exact SeqAt.EqAt.str_tuple b1 t1 p2 bC | (rw [bp] <;> first | exact SeqAt.EqAt.str_tuple b1 t1 p2 bC | nofun)
 | @lst a1 VX oQ q1 l1 i1 ih=>
  intro A hu y e u v h2 r1 r2
  cases r1
  have bC:A.units < cLine:=Nat.lt_of_le_of_lt (Nat.le_add_right _ _) hu
  obtain⟨kH,v1,p1,z1⟩:=I.list q1
  have n1:kH.toArray.size=oQ.length:=by rw [List.size_toArray,←v1.length,l1]
  have Hm:∀(i:Nat) (d:D),oQ[i]?=some d→A.in1.units+d.dep < cLine:=fun i d h=>by
   have e1:=gD h
   have e2:A.units+(eO oQ+1) < cLine:=by simpa only [D.dep] using hu
   show A.units+1+d.dep < cLine
   omega
  cases h2 with
  | bj=>
   cases r2
   first | exact SeqAt.EqAt.list_none p1.isList bC | (rw [bp] <;> first | exact SeqAt.EqAt.list_none p1.isList bC | nofun)
  | bl b2=>
   cases r2
   first | exact SeqAt.EqAt.list_bool b2 p1.isList bC | (rw [bp] <;> first | exact SeqAt.EqAt.list_bool b2 p1.isList bC | nofun)
  | int b2=>
   obtain⟨t2,rfl⟩:=r2
   first | exact SeqAt.EqAt.list_int b2 t2 p1.isList bC | (rw [bp] <;> first | exact SeqAt.EqAt.list_int b2 t2 p1.isList bC | nofun)
  | str b2=>
   obtain⟨t2,rfl⟩:=r2
   first | exact SeqAt.EqAt.list_str b2 t2 p1.isList bC | (rw [bp] <;> first | exact SeqAt.EqAt.list_str b2 t2 p1.isList bC | nofun)
  | @lst a2 cV f7 q2 l2 i2=>
   cases r2
   obtain⟨b8,v2,p2,z2⟩:=I.list q2
   have n2:b8.toArray.size=f7.length:=by rw [List.size_toArray,←v2.length,l2]
   have it:=i_ (X:=X) (A:=A.in1) v1 v2 l1 l2 (fun i x d ha hb=>ih i x d ha hb (Hm i d hb)) i2
   by_cases RL:a1=a2
   ·subst RL
    cases (fH.lst q1 l1 i1).one I (fH.lst q2 l2 i2)
    rw [f6]
    exact SeqAt.EqAt.same _
   refine SeqAt.EqAt.of_refs RL ?_
   rw [bp]
   by_cases hlen:kH.toArray.size=b8.toArray.size
   ·rw [iC (by omega),←n1]
    exact SeqAt.RcAt.lists p1.isList p2.isList hlen bC it
   ·rw [eW (by omega)]
    exact SeqAt.RcAt.lists_lengths p1.isList p2.isList (by simpa using hlen) bC
  | @tup a2 cV f7 q2 l2 i2=>
   cases r2
   obtain⟨b8,v2,p2,z2⟩:=I.tuple q2
   first | exact SeqAt.EqAt.list_tuple p1.isList p2 bC | (rw [bp] <;> first | exact SeqAt.EqAt.list_tuple p1.isList p2 bC | nofun)
 | @tup a1 VX oQ q1 l1 i1 ih=>
  intro A hu y e u v h2 r1 r2
  cases r1
  have bC:A.units < cLine:=Nat.lt_of_le_of_lt (Nat.le_add_right _ _) hu
  obtain⟨kH,v1,p1,z1⟩:=I.tuple q1
  have n1:kH.toArray.size=oQ.length:=by rw [List.size_toArray,←v1.length,l1]
  have Hm:∀(i:Nat) (d:D),oQ[i]?=some d→A.in1.units+d.dep < cLine:=fun i d h=>by
   have e1:=gD h
   have e2:A.units+(eO oQ+1) < cLine:=by simpa only [D.dep] using hu
   show A.units+1+d.dep < cLine
   omega
  cases h2 with
  | bj=>
   cases r2
   first | exact SeqAt.EqAt.tuple_none p1 bC | (rw [bp] <;> first | exact SeqAt.EqAt.tuple_none p1 bC | nofun)
  | bl b2=>
   cases r2
   first | exact SeqAt.EqAt.tuple_bool b2 p1 bC | (rw [bp] <;> first | exact SeqAt.EqAt.tuple_bool b2 p1 bC | nofun)
  | int b2=>
   obtain⟨t2,rfl⟩:=r2
   first | exact SeqAt.EqAt.tuple_int b2 t2 p1 bC | (rw [bp] <;> first | exact SeqAt.EqAt.tuple_int b2 t2 p1 bC | nofun)
  | str b2=>
   obtain⟨t2,rfl⟩:=r2
   first | exact SeqAt.EqAt.tuple_str b2 t2 p1 bC | (rw [bp] <;> first | exact SeqAt.EqAt.tuple_str b2 t2 p1 bC | nofun)
  | @lst a2 cV f7 q2 l2 i2=>
   cases r2
   obtain⟨b8,v2,p2,z2⟩:=I.list q2
   first | exact SeqAt.EqAt.tuple_list p1 p2.isList bC | (rw [bp] <;> first | exact SeqAt.EqAt.tuple_list p1 p2.isList bC | nofun)
  | @tup a2 cV f7 q2 l2 i2=>
   cases r2
   obtain⟨b8,v2,p2,z2⟩:=I.tuple q2
   have n2:b8.toArray.size=f7.length:=by rw [List.size_toArray,←v2.length,l2]
   have it:=i_ (X:=X) (A:=A.in1) v1 v2 l1 l2 (fun i x d ha hb=>ih i x d ha hb (Hm i d hb)) i2
   by_cases RL:a1=a2
   ·subst RL
    cases (fH.tup q1 l1 i1).one I (fH.tup q2 l2 i2)
    rw [f6]
    exact SeqAt.EqAt.same _
   refine SeqAt.EqAt.of_refs RL ?_
   rw [bp]
   rw [←Hl,←n1,←n2]
   exact SeqAt.RcAt.tuples p1 p2 bC it
theorem RM (I:Inv X pins σ H s) {A:Around}{x y:V}{d e:D}{u v:Value}(h:fH X.K H x d) (h2:fH X.K H y e) (hu:A.units+d.dep < cLine) (r1:RelV x u) (r2:RelV y v):SeqAt.RcAt A s u v (bp d e):=by
 cases h with
 | bj=>
  cases r1
  have bC:A.units < cLine:=Nat.lt_of_le_of_lt (Nat.le_add_right _ _) hu
  cases h2 with
  | bj=>
   cases r2
   first | exact SeqAt.RcAt.none_none | (rw [bp] <;> first | exact SeqAt.RcAt.none_none | nofun)
  | bl b2=>
   cases r2
   first | exact SeqAt.RcAt.none_bool b2 | (rw [bp] <;> first | exact SeqAt.RcAt.none_bool b2 | nofun)
  | int b2=>
   obtain⟨t2,rfl⟩:=r2
   first | exact SeqAt.RcAt.none_int b2 t2 | (rw [bp] <;> first | exact SeqAt.RcAt.none_int b2 t2 | nofun)
  | str b2=>
   obtain⟨t2,rfl⟩:=r2
   first | exact SeqAt.RcAt.none_str b2 t2 | (rw [bp] <;> first | exact SeqAt.RcAt.none_str b2 t2 | nofun)
  | @lst a2 cV f7 q2 l2 i2=>
   cases r2
   obtain⟨b8,v2,p2,z2⟩:=I.list q2
   first | exact SeqAt.RcAt.none_list p2.isList bC | (rw [bp] <;> first | exact SeqAt.RcAt.none_list p2.isList bC | nofun)
  | @tup a2 cV f7 q2 l2 i2=>
   cases r2
   obtain⟨b8,v2,p2,z2⟩:=I.tuple q2
   first | exact SeqAt.RcAt.none_tuple p2 bC | (rw [bp] <;> first | exact SeqAt.RcAt.none_tuple p2 bC | nofun)
 | bl b1=>
  cases r1
  have bC:A.units < cLine:=Nat.lt_of_le_of_lt (Nat.le_add_right _ _) hu
  cases h2 with
  | bj=>
   cases r2
   first | exact SeqAt.RcAt.bool_none b1 | (rw [bp] <;> first | exact SeqAt.RcAt.bool_none b1 | nofun)
  | bl b2=>
   cases r2
   first | exact SeqAt.RcAt.bool_bool b1 b2 | (rw [bp] <;> first | exact SeqAt.RcAt.bool_bool b1 b2 | nofun)
  | int b2=>
   obtain⟨t2,rfl⟩:=r2
   first | exact SeqAt.RcAt.bool_int b1 b2 t2 | (rw [bp] <;> first | exact SeqAt.RcAt.bool_int b1 b2 t2 | nofun)
  | str b2=>
   obtain⟨t2,rfl⟩:=r2
   first | exact SeqAt.RcAt.bool_str b1 b2 t2 | (rw [bp] <;> first | exact SeqAt.RcAt.bool_str b1 b2 t2 | nofun)
  | @lst a2 cV f7 q2 l2 i2=>
   cases r2
   obtain⟨b8,v2,p2,z2⟩:=I.list q2
   first | exact SeqAt.RcAt.bool_list b1 p2.isList bC | (rw [bp] <;> first | exact SeqAt.RcAt.bool_list b1 p2.isList bC | nofun)
  | @tup a2 cV f7 q2 l2 i2=>
   cases r2
   obtain⟨b8,v2,p2,z2⟩:=I.tuple q2
   first | exact SeqAt.RcAt.bool_tuple b1 p2 bC | (rw [bp] <;> first | exact SeqAt.RcAt.bool_tuple b1 p2 bC | nofun)
 | int b1=>
  obtain⟨t1,rfl⟩:=r1
  have bC:A.units < cLine:=Nat.lt_of_le_of_lt (Nat.le_add_right _ _) hu
  cases h2 with
  | bj=>
   cases r2
   first | exact SeqAt.RcAt.int_none b1 t1 | (rw [bp] <;> first | exact SeqAt.RcAt.int_none b1 t1 | nofun)
  | bl b2=>
   cases r2
   first | exact SeqAt.RcAt.int_bool b1 t1 b2 | (rw [bp] <;> first | exact SeqAt.RcAt.int_bool b1 t1 b2 | nofun)
  | int b2=>
   obtain⟨t2,rfl⟩:=r2
   first | exact SeqAt.RcAt.int_int b1 t1 b2 t2 | (rw [bp] <;> first | exact SeqAt.RcAt.int_int b1 t1 b2 t2 | nofun)
  | str b2=>
   obtain⟨t2,rfl⟩:=r2
   first | exact SeqAt.RcAt.int_str b1 t1 b2 t2 | (rw [bp] <;> first | exact SeqAt.RcAt.int_str b1 t1 b2 t2 | nofun)
  | @lst a2 cV f7 q2 l2 i2=>
   cases r2
   obtain⟨b8,v2,p2,z2⟩:=I.list q2
   first | exact SeqAt.RcAt.int_list b1 t1 p2.isList bC | (rw [bp] <;> first | exact SeqAt.RcAt.int_list b1 t1 p2.isList bC | nofun)
  | @tup a2 cV f7 q2 l2 i2=>
   cases r2
   obtain⟨b8,v2,p2,z2⟩:=I.tuple q2
   first | exact SeqAt.RcAt.int_tuple b1 t1 p2 bC | (rw [bp] <;> first | exact SeqAt.RcAt.int_tuple b1 t1 p2 bC | nofun)
 | str b1=>
  obtain⟨t1,rfl⟩:=r1
  have bC:A.units < cLine:=Nat.lt_of_le_of_lt (Nat.le_add_right _ _) hu
  cases h2 with
  | bj=>
   cases r2
   first | exact SeqAt.RcAt.str_none b1 t1 | (rw [bp] <;> first | exact SeqAt.RcAt.str_none b1 t1 | nofun)
  | bl b2=>
   cases r2
   first | exact SeqAt.RcAt.str_bool b1 t1 b2 | (rw [bp] <;> first | exact SeqAt.RcAt.str_bool b1 t1 b2 | nofun)
  | int b2=>
   obtain⟨t2,rfl⟩:=r2
   first | exact SeqAt.RcAt.str_int b1 t1 b2 t2 | (rw [bp] <;> first | exact SeqAt.RcAt.str_int b1 t1 b2 t2 | nofun)
  | str b2=>
   obtain⟨t2,rfl⟩:=r2
   first | exact SeqAt.RcAt.str_str b1 t1 b2 t2 | (rw [bp] <;> first | exact SeqAt.RcAt.str_str b1 t1 b2 t2 | nofun)
  | @lst a2 cV f7 q2 l2 i2=>
   cases r2
   obtain⟨b8,v2,p2,z2⟩:=I.list q2
   first | exact SeqAt.RcAt.str_list b1 t1 p2.isList bC | (rw [bp] <;> first | exact SeqAt.RcAt.str_list b1 t1 p2.isList bC | nofun)
  | @tup a2 cV f7 q2 l2 i2=>
   cases r2
   obtain⟨b8,v2,p2,z2⟩:=I.tuple q2
   first | exact SeqAt.RcAt.str_tuple b1 t1 p2 bC | (rw [bp] <;> first | exact SeqAt.RcAt.str_tuple b1 t1 p2 bC | nofun)
 | @lst a1 VX oQ q1 l1 i1=>
  cases r1
  have bC:A.units < cLine:=Nat.lt_of_le_of_lt (Nat.le_add_right _ _) hu
  obtain⟨kH,v1,p1,z1⟩:=I.list q1
  have n1:kH.toArray.size=oQ.length:=by rw [List.size_toArray,←v1.length,l1]
  have Hm:∀(i:Nat) (d:D),oQ[i]?=some d→A.in1.units+d.dep < cLine:=fun i d h=>by
   have e1:=gD h
   have e2:A.units+(eO oQ+1) < cLine:=by simpa only [D.dep] using hu
   show A.units+1+d.dep < cLine
   omega
  cases h2 with
  | bj=>
   cases r2
   first | exact SeqAt.RcAt.list_none p1.isList bC | (rw [bp] <;> first | exact SeqAt.RcAt.list_none p1.isList bC | nofun)
  | bl b2=>
   cases r2
   first | exact SeqAt.RcAt.list_bool b2 p1.isList bC | (rw [bp] <;> first | exact SeqAt.RcAt.list_bool b2 p1.isList bC | nofun)
  | int b2=>
   obtain⟨t2,rfl⟩:=r2
   first | exact SeqAt.RcAt.list_int b2 t2 p1.isList bC | (rw [bp] <;> first | exact SeqAt.RcAt.list_int b2 t2 p1.isList bC | nofun)
  | str b2=>
   obtain⟨t2,rfl⟩:=r2
   first | exact SeqAt.RcAt.list_str b2 t2 p1.isList bC | (rw [bp] <;> first | exact SeqAt.RcAt.list_str b2 t2 p1.isList bC | nofun)
  | @lst a2 cV f7 q2 l2 i2=>
   cases r2
   obtain⟨b8,v2,p2,z2⟩:=I.list q2
   have n2:b8.toArray.size=f7.length:=by rw [List.size_toArray,←v2.length,l2]
   have it:=i_ (X:=X) (A:=A.in1) v1 v2 l1 l2 (fun i x d ha hb=>uS I (i1 i x d ha hb) (Hm i d hb)) i2
   rw [bp]
   by_cases hlen:kH.toArray.size=b8.toArray.size
   ·rw [iC (by omega),←n1]
    exact SeqAt.RcAt.lists p1.isList p2.isList hlen bC it
   ·rw [eW (by omega)]
    exact SeqAt.RcAt.lists_lengths p1.isList p2.isList (by simpa using hlen) bC
  | @tup a2 cV f7 q2 l2 i2=>
   cases r2
   obtain⟨b8,v2,p2,z2⟩:=I.tuple q2
   first | exact SeqAt.RcAt.list_tuple p1.isList p2 bC | (rw [bp] <;> first | exact SeqAt.RcAt.list_tuple p1.isList p2 bC | nofun)
 | @tup a1 VX oQ q1 l1 i1=>
  cases r1
  have bC:A.units < cLine:=Nat.lt_of_le_of_lt (Nat.le_add_right _ _) hu
  obtain⟨kH,v1,p1,z1⟩:=I.tuple q1
  have n1:kH.toArray.size=oQ.length:=by rw [List.size_toArray,←v1.length,l1]
  have Hm:∀(i:Nat) (d:D),oQ[i]?=some d→A.in1.units+d.dep < cLine:=fun i d h=>by
   have e1:=gD h
   have e2:A.units+(eO oQ+1) < cLine:=by simpa only [D.dep] using hu
   show A.units+1+d.dep < cLine
   omega
  cases h2 with
  | bj=>
   cases r2
   first | exact SeqAt.RcAt.tuple_none p1 bC | (rw [bp] <;> first | exact SeqAt.RcAt.tuple_none p1 bC | nofun)
  | bl b2=>
   cases r2
   first | exact SeqAt.RcAt.tuple_bool b2 p1 bC | (rw [bp] <;> first | exact SeqAt.RcAt.tuple_bool b2 p1 bC | nofun)
  | int b2=>
   obtain⟨t2,rfl⟩:=r2
   first | exact SeqAt.RcAt.tuple_int b2 t2 p1 bC | (rw [bp] <;> first | exact SeqAt.RcAt.tuple_int b2 t2 p1 bC | nofun)
  | str b2=>
   obtain⟨t2,rfl⟩:=r2
   first | exact SeqAt.RcAt.tuple_str b2 t2 p1 bC | (rw [bp] <;> first | exact SeqAt.RcAt.tuple_str b2 t2 p1 bC | nofun)
  | @lst a2 cV f7 q2 l2 i2=>
   cases r2
   obtain⟨b8,v2,p2,z2⟩:=I.list q2
   first | exact SeqAt.RcAt.tuple_list p1 p2.isList bC | (rw [bp] <;> first | exact SeqAt.RcAt.tuple_list p1 p2.isList bC | nofun)
  | @tup a2 cV f7 q2 l2 i2=>
   cases r2
   obtain⟨b8,v2,p2,z2⟩:=I.tuple q2
   have n2:b8.toArray.size=f7.length:=by rw [List.size_toArray,←v2.length,l2]
   have it:=i_ (X:=X) (A:=A.in1) v1 v2 l1 l2 (fun i x d ha hb=>uS I (i1 i x d ha hb) (Hm i d hb)) i2
   rw [bp]
   rw [←Hl,←n1,←n2]
   exact SeqAt.RcAt.tuples p1 p2 bC it
theorem Hn (I:Inv X pins σ H s) {A:Around}{x y:V}{d e:D}{u v:Value}(h:fH X.K H x d) (h2:fH X.K H y e) (hu:A.units+d.dep < cLine) (r1:RelV x u) (r2:RelV y v):SeqAt.RcNeAt A s u v (!bp d e):=by
 cases h with
 | bj=>
  cases r1
  have bC:A.units < cLine:=Nat.lt_of_le_of_lt (Nat.le_add_right _ _) hu
  cases h2 with
  | bj=>
   cases r2
   first | exact SeqAt.RcNeAt.none_none | (rw [bp] <;> first | exact SeqAt.RcNeAt.none_none | nofun)
  | bl b2=>
   cases r2
   first | exact SeqAt.RcNeAt.none_bool b2 | (rw [bp] <;> first | exact SeqAt.RcNeAt.none_bool b2 | nofun)
  | int b2=>
   obtain⟨t2,rfl⟩:=r2
   first | exact SeqAt.RcNeAt.none_int b2 t2 | (rw [bp] <;> first | exact SeqAt.RcNeAt.none_int b2 t2 | nofun)
  | str b2=>
   obtain⟨t2,rfl⟩:=r2
   first | exact SeqAt.RcNeAt.none_str b2 t2 | (rw [bp] <;> first | exact SeqAt.RcNeAt.none_str b2 t2 | nofun)
  | @lst a2 cV f7 q2 l2 i2=>
   cases r2
   obtain⟨b8,v2,p2,z2⟩:=I.list q2
   first | exact SeqAt.RcNeAt.none_list p2.isList bC | (rw [bp] <;> first | exact SeqAt.RcNeAt.none_list p2.isList bC | nofun)
  | @tup a2 cV f7 q2 l2 i2=>
   cases r2
   obtain⟨b8,v2,p2,z2⟩:=I.tuple q2
   first | exact SeqAt.RcNeAt.none_tuple p2 bC | (rw [bp] <;> first | exact SeqAt.RcNeAt.none_tuple p2 bC | nofun)
 | bl b1=>
  cases r1
  have bC:A.units < cLine:=Nat.lt_of_le_of_lt (Nat.le_add_right _ _) hu
  cases h2 with
  | bj=>
   cases r2
   first | exact SeqAt.RcNeAt.bool_none b1 | (rw [bp] <;> first | exact SeqAt.RcNeAt.bool_none b1 | nofun)
  | bl b2=>
   cases r2
   first | exact SeqAt.RcNeAt.bool_bool b1 b2 | (rw [bp] <;> first | exact SeqAt.RcNeAt.bool_bool b1 b2 | nofun)
  | int b2=>
   obtain⟨t2,rfl⟩:=r2
   first | exact SeqAt.RcNeAt.bool_int b1 b2 t2 | (rw [bp] <;> first | exact SeqAt.RcNeAt.bool_int b1 b2 t2 | nofun)
  | str b2=>
   obtain⟨t2,rfl⟩:=r2
   first | exact SeqAt.RcNeAt.bool_str b1 b2 t2 | (rw [bp] <;> first | exact SeqAt.RcNeAt.bool_str b1 b2 t2 | nofun)
  | @lst a2 cV f7 q2 l2 i2=>
   cases r2
   obtain⟨b8,v2,p2,z2⟩:=I.list q2
   first | exact SeqAt.RcNeAt.bool_list b1 p2.isList bC | (rw [bp] <;> first | exact SeqAt.RcNeAt.bool_list b1 p2.isList bC | nofun)
  | @tup a2 cV f7 q2 l2 i2=>
   cases r2
   obtain⟨b8,v2,p2,z2⟩:=I.tuple q2
   first | exact SeqAt.RcNeAt.bool_tuple b1 p2 bC | (rw [bp] <;> first | exact SeqAt.RcNeAt.bool_tuple b1 p2 bC | nofun)
 | int b1=>
  obtain⟨t1,rfl⟩:=r1
  have bC:A.units < cLine:=Nat.lt_of_le_of_lt (Nat.le_add_right _ _) hu
  cases h2 with
  | bj=>
   cases r2
   first | exact SeqAt.RcNeAt.int_none b1 t1 | (rw [bp] <;> first | exact SeqAt.RcNeAt.int_none b1 t1 | nofun)
  | bl b2=>
   cases r2
   first | exact SeqAt.RcNeAt.int_bool b1 t1 b2 | (rw [bp] <;> first | exact SeqAt.RcNeAt.int_bool b1 t1 b2 | nofun)
  | int b2=>
   obtain⟨t2,rfl⟩:=r2
   first | exact SeqAt.RcNeAt.int_int b1 t1 b2 t2 | (rw [bp] <;> first | exact SeqAt.RcNeAt.int_int b1 t1 b2 t2 | nofun)
  | str b2=>
   obtain⟨t2,rfl⟩:=r2
   first | exact SeqAt.RcNeAt.int_str b1 t1 b2 t2 | (rw [bp] <;> first | exact SeqAt.RcNeAt.int_str b1 t1 b2 t2 | nofun)
  | @lst a2 cV f7 q2 l2 i2=>
   cases r2
   obtain⟨b8,v2,p2,z2⟩:=I.list q2
   first | exact SeqAt.RcNeAt.int_list b1 t1 p2.isList bC | (rw [bp] <;> first | exact SeqAt.RcNeAt.int_list b1 t1 p2.isList bC | nofun)
  | @tup a2 cV f7 q2 l2 i2=>
   cases r2
   obtain⟨b8,v2,p2,z2⟩:=I.tuple q2
   first | exact SeqAt.RcNeAt.int_tuple b1 t1 p2 bC | (rw [bp] <;> first | exact SeqAt.RcNeAt.int_tuple b1 t1 p2 bC | nofun)
 | str b1=>
  obtain⟨t1,rfl⟩:=r1
  have bC:A.units < cLine:=Nat.lt_of_le_of_lt (Nat.le_add_right _ _) hu
  cases h2 with
  | bj=>
   cases r2
   first | exact SeqAt.RcNeAt.str_none b1 t1 | (rw [bp] <;> first | exact SeqAt.RcNeAt.str_none b1 t1 | nofun)
  | bl b2=>
   cases r2
   first | exact SeqAt.RcNeAt.str_bool b1 t1 b2 | (rw [bp] <;> first | exact SeqAt.RcNeAt.str_bool b1 t1 b2 | nofun)
  | int b2=>
   obtain⟨t2,rfl⟩:=r2
   first | exact SeqAt.RcNeAt.str_int b1 t1 b2 t2 | (rw [bp] <;> first | exact SeqAt.RcNeAt.str_int b1 t1 b2 t2 | nofun)
  | str b2=>
   obtain⟨t2,rfl⟩:=r2
   first | exact SeqAt.RcNeAt.str_str b1 t1 b2 t2 | (rw [bp] <;> first | exact SeqAt.RcNeAt.str_str b1 t1 b2 t2 | nofun)
  | @lst a2 cV f7 q2 l2 i2=>
   cases r2
   obtain⟨b8,v2,p2,z2⟩:=I.list q2
   first | exact SeqAt.RcNeAt.str_list b1 t1 p2.isList bC | (rw [bp] <;> first | exact SeqAt.RcNeAt.str_list b1 t1 p2.isList bC | nofun)
  | @tup a2 cV f7 q2 l2 i2=>
   cases r2
   obtain⟨b8,v2,p2,z2⟩:=I.tuple q2
   first | exact SeqAt.RcNeAt.str_tuple b1 t1 p2 bC | (rw [bp] <;> first | exact SeqAt.RcNeAt.str_tuple b1 t1 p2 bC | nofun)
 | @lst a1 VX oQ q1 l1 i1=>
  cases r1
  have bC:A.units < cLine:=Nat.lt_of_le_of_lt (Nat.le_add_right _ _) hu
  obtain⟨kH,v1,p1,z1⟩:=I.list q1
  have n1:kH.toArray.size=oQ.length:=by rw [List.size_toArray,←v1.length,l1]
  have Hm:∀(i:Nat) (d:D),oQ[i]?=some d→A.in1.units+d.dep < cLine:=fun i d h=>by
   have e1:=gD h
   have e2:A.units+(eO oQ+1) < cLine:=by simpa only [D.dep] using hu
   show A.units+1+d.dep < cLine
   omega
  cases h2 with
  | bj=>
   cases r2
   first | exact SeqAt.RcNeAt.list_none p1.isList bC | (rw [bp] <;> first | exact SeqAt.RcNeAt.list_none p1.isList bC | nofun)
  | bl b2=>
   cases r2
   first | exact SeqAt.RcNeAt.list_bool b2 p1.isList bC | (rw [bp] <;> first | exact SeqAt.RcNeAt.list_bool b2 p1.isList bC | nofun)
  | int b2=>
   obtain⟨t2,rfl⟩:=r2
   first | exact SeqAt.RcNeAt.list_int b2 t2 p1.isList bC | (rw [bp] <;> first | exact SeqAt.RcNeAt.list_int b2 t2 p1.isList bC | nofun)
  | str b2=>
   obtain⟨t2,rfl⟩:=r2
   first | exact SeqAt.RcNeAt.list_str b2 t2 p1.isList bC | (rw [bp] <;> first | exact SeqAt.RcNeAt.list_str b2 t2 p1.isList bC | nofun)
  | @lst a2 cV f7 q2 l2 i2=>
   cases r2
   obtain⟨b8,v2,p2,z2⟩:=I.list q2
   have n2:b8.toArray.size=f7.length:=by rw [List.size_toArray,←v2.length,l2]
   have it:=i_ (X:=X) (A:=A.in1) v1 v2 l1 l2 (fun i x d ha hb=>uS I (i1 i x d ha hb) (Hm i d hb)) i2
   rw [bp]
   by_cases hlen:kH.toArray.size=b8.toArray.size
   ·rw [iC (by omega),←n1]
    exact SeqAt.RcNeAt.lists p1.isList p2.isList hlen bC it
   ·rw [eW (by omega)]
    exact SeqAt.RcNeAt.lists_lengths p1.isList p2.isList (by simpa using hlen) bC
  | @tup a2 cV f7 q2 l2 i2=>
   cases r2
   obtain⟨b8,v2,p2,z2⟩:=I.tuple q2
   first | exact SeqAt.RcNeAt.list_tuple p1.isList p2 bC | (rw [bp] <;> first | exact SeqAt.RcNeAt.list_tuple p1.isList p2 bC | nofun)
 | @tup a1 VX oQ q1 l1 i1=>
  cases r1
  have bC:A.units < cLine:=Nat.lt_of_le_of_lt (Nat.le_add_right _ _) hu
  obtain⟨kH,v1,p1,z1⟩:=I.tuple q1
  have n1:kH.toArray.size=oQ.length:=by rw [List.size_toArray,←v1.length,l1]
  have Hm:∀(i:Nat) (d:D),oQ[i]?=some d→A.in1.units+d.dep < cLine:=fun i d h=>by
   have e1:=gD h
   have e2:A.units+(eO oQ+1) < cLine:=by simpa only [D.dep] using hu
   show A.units+1+d.dep < cLine
   omega
  cases h2 with
  | bj=>
   cases r2
   first | exact SeqAt.RcNeAt.tuple_none p1 bC | (rw [bp] <;> first | exact SeqAt.RcNeAt.tuple_none p1 bC | nofun)
  | bl b2=>
   cases r2
   first | exact SeqAt.RcNeAt.tuple_bool b2 p1 bC | (rw [bp] <;> first | exact SeqAt.RcNeAt.tuple_bool b2 p1 bC | nofun)
  | int b2=>
   obtain⟨t2,rfl⟩:=r2
   first | exact SeqAt.RcNeAt.tuple_int b2 t2 p1 bC | (rw [bp] <;> first | exact SeqAt.RcNeAt.tuple_int b2 t2 p1 bC | nofun)
  | str b2=>
   obtain⟨t2,rfl⟩:=r2
   first | exact SeqAt.RcNeAt.tuple_str b2 t2 p1 bC | (rw [bp] <;> first | exact SeqAt.RcNeAt.tuple_str b2 t2 p1 bC | nofun)
  | @lst a2 cV f7 q2 l2 i2=>
   cases r2
   obtain⟨b8,v2,p2,z2⟩:=I.list q2
   first | exact SeqAt.RcNeAt.tuple_list p1 p2.isList bC | (rw [bp] <;> first | exact SeqAt.RcNeAt.tuple_list p1 p2.isList bC | nofun)
  | @tup a2 cV f7 q2 l2 i2=>
   cases r2
   obtain⟨b8,v2,p2,z2⟩:=I.tuple q2
   have n2:b8.toArray.size=f7.length:=by rw [List.size_toArray,←v2.length,l2]
   have it:=i_ (X:=X) (A:=A.in1) v1 v2 l1 l2 (fun i x d ha hb=>uS I (i1 i x d ha hb) (Hm i d hb)) i2
   rw [bp]
   rw [←Hl,←n1,←n2]
   exact SeqAt.RcNeAt.tuples p1 p2 bC it
noncomputable def LV (K:PySem.W.Frag) (neg:Bool):R2:=fun x y H Q=>∃d e,fH K H x d∧fH K H y e∧d.dep≤60∧Q (.bl (if neg=true then !bp d e else bp d e)) H
theorem gE (hu:X.A.units+64 < cLine):mF X (compareOp .Eq) (LV X.K false):=by
 intro pins s σ H x y v u Q I rx ry h
 obtain⟨d,e,h1,h2,hd,q⟩:=h
 exact RM I h1 h2 (by omega) rx ry _ _ _ _ (bz I q rfl)
theorem RN (hu:X.A.units+64 < cLine):mF X (compareOp .NotEq) (LV X.K true):=by
 intro pins s σ H x y v u Q I rx ry h
 obtain⟨d,e,h1,h2,hd,q⟩:=h
 exact Hn I h1 h2 (by omega) rx ry _ _ _ _ (bz I q rfl)
noncomputable def fD:V→D
 | .bj=>.bj
 | .bl b=>.bl b
 | .int i=>.int i
 | .str x=>.str x
 | _=>.bj
theorem fH.flat {K:PySem.W.Frag}{x:V}(h:iB x=true):fH K H x (fD x):=by
 cases x with
 | bj=>exact .bj
 | bl b=>exact .bl b
 | int i=>exact .int i
 | str z=>exact .str z
 | _=>exact absurd (show false=true from h) Bool.false_ne_true
theorem fH.VY {K:PySem.W.Frag}{a:Addr}{xs:List V}(h:bN K H a xs) (hf:∀x∈xs,iB x=true):fH K H (.ref a) (.lst (xs.map fD)):=by
 refine .lst h (by simp) fun i x d h1 h2=>?_
 rw [List.getElem?_map,h1] at h2
 cases h2
 exact .flat (hf x (List.mem_of_getElem? h1))
theorem fH.Od {K:PySem.W.Frag}{a:Addr}{xs:List V}(h:bZ K H a xs) (hf:∀x∈xs,iB x=true):fH K H (.ref a) (.tup (xs.map fD)):=by
 refine .tup h (by simp) fun i x d h1 h2=>?_
 rw [List.getElem?_map,h1] at h2
 cases h2
 exact .flat (hf x (List.mem_of_getElem? h1))
theorem Ho (x:V):(fD x).dep=0:=by cases x <;> rfl
theorem FH (xs:List V):eO (xs.map fD)=0:=by
 induction xs with
 | nil=>rfl
 | cons x xs ih=>rw [List.map_cons,eO,Ho,ih]; rfl
end
end L2
namespace L2
open PySem PySem.Spec PyProof.Rows
structure Ends.Le (D D':Ends):Prop where
 nx:∀σ H,D.nx σ H→D'.nx σ H
 rt:∀v H,D.rt v H→D'.rt v H
 bk:∀σ H,D.bk σ H→D'.bk σ H
 ct:∀σ H,D.ct σ H→D'.ct σ H
theorem Ends.Le.refl (D:Ends):D.Le D:=⟨fun _ _ h=>h,fun _ _ h=>h,fun _ _ h=>h,fun _ _ h=>h⟩
noncomputable def a9 (X:Cx) (RO:List Stmt):TS:=fun D σ H=>∃t D',xm X RO t∧t D' σ H∧D'.Le D
theorem az {X:Cx}{RO:List Stmt}:xm X RO (a9 X RO):=fun pins s σ H D I h=>by
 obtain⟨t,D',h1,h2,le⟩:=h
 refine b_ (h1 pins s σ H D' I h2) fun f s' h=>?_
 cases f with
 | next=>obtain⟨a,b,c,d⟩:=h; exact⟨a,b,c,le.nx _ _ d⟩
 | brk=>obtain⟨a,b,c,d⟩:=h; exact⟨a,b,c,le.bk _ _ d⟩
 | cont=>obtain⟨a,b,c,d⟩:=h; exact⟨a,b,c,le.ct _ _ d⟩
 | ret u=>obtain⟨v,a,b,c,r,d⟩:=h; exact⟨v,a,b,c,r,le.rt _ _ d⟩
theorem a9.of {X:Cx}{RO:List Stmt}{D:Ends}{σ:St}{H:Hp}{t:TS}(h:xm X RO t) (q:t D σ H):a9 X RO D σ H:=⟨t,D,h,q,.refl D⟩
noncomputable def FI (J:It) (g:TG) (tb:TS) (D:Ends) (σ:St) (H:Hp):Prop:=∃W:Nat→Nat→St→Hp→Prop,(∃m,W 0 m σ H)∧∀i m σ H,W i m σ H →
 (J.stop i H∧D.nx σ H)∨(J.go i H∧∃N:St→Hp→Prop,(∀σ' H',N σ' H'→∃m',m' < m∧W (i+1) m' σ' H')∧∀x H',J.Ri i H x H'→g x σ H' fun σ2 H2=>tb {D with nx:=N,ct:=N,bk:=D.nx} σ2 H2)
noncomputable def Oe (wi:TI) (g:TG) (tb:TS):TS:=fun D σ H=>wi σ H fun J H1=>FI J g tb D σ H1
theorem gF {X:Cx}{tg iter:Expr}{body:List Stmt}{wi:TI}{g:TG}{tb:TS}{pos:Pos}(hp:PassesOwn (model X.prog X.w) X.A X.env X.xe) (hc:X.calm=true) (hi:PI X tg iter wi) (hg:PG X tg g) (hb:xm X body tb)
  (hs:∀x,foldedSetIterable iter X.env x=pure x:=by intro _; rfl):PS X (.For tg iter body [] pos) (Oe wi g tb):=Rl hp hc hi hg hb hs
section
variable {K:PySem.W.Frag}{a:Addr}{p:Nat}{xs:List V}{lo:Int}{n:Nat}{g:TG}{tb:TS}{D:Ends}{σ:St}{H:Hp}
theorem EL (xs:List V) (Pv:Nat→St→Hp→Prop) (h0:Pv 0 σ H) (hl:∀i σ H,i≤xs.length→Pv i σ H→bN K H a xs)
  (hs:∀i x σ H,xs[i]?=some x→Pv i σ H→g x σ H fun σ2 H2=>tb {D with nx:=Pv (i+1),ct:=Pv (i+1),bk:=D.nx} σ2 H2) (hd:∀σ H,Pv xs.length σ H→D.nx σ H):FI (Rj K a) g tb D σ H:=G1 Pv h0 hl hs hd
theorem Hq (Pv:Nat→St→Hp→Prop) (h0:Pv 0 σ H) (hs:∀i σ H,i < n→Pv i σ H→g (.int (lo+i)) σ H fun σ2 H2=>tb {D with nx:=Pv (i+1),ct:=Pv (i+1),bk:=D.nx} σ2 H2) (hd:∀σ H,Pv n σ H→D.nx σ H):FI (LB lo n) g tb D σ H:=Fw Pv h0 hs hd
end
noncomputable def RP (c:TT) (tb:TS) (D:Ends) (σ:St) (H:Hp):Prop:=Rh c tb D σ H
noncomputable def LW (c:TT) (tb:TS):TS:=fun D σ H=>RP c tb D σ H
noncomputable def Bs (X:Cx) (st:Stmt):TS:=fun D σ H=>∃t D',PS X st t∧t D' σ H∧D'.Le D
theorem oR {X:Cx}{st:Stmt}:PS X st (Bs X st):=fun pins s σ H D I h=>by
 obtain⟨t,D',h1,h2,le⟩:=h
 refine b_ (h1 pins s σ H D' I h2) fun f s' h=>?_
 cases f with
 | next=>obtain⟨a,b,c,d⟩:=h; exact⟨a,b,c,le.nx _ _ d⟩
 | brk=>obtain⟨a,b,c,d⟩:=h; exact⟨a,b,c,le.bk _ _ d⟩
 | cont=>obtain⟨a,b,c,d⟩:=h; exact⟨a,b,c,le.ct _ _ d⟩
 | ret u=>obtain⟨v,a,b,c,r,d⟩:=h; exact⟨v,a,b,c,r,le.rt _ _ d⟩
theorem Bs.of {X:Cx}{st:Stmt}{D:Ends}{σ:St}{H:Hp}{t:TS}(h:PS X st t) (q:t D σ H):Bs X st D σ H:=⟨t,D,h,q,.refl D⟩
theorem Hr {X:Cx}{st:Stmt}{D:Ends}{σ:St}{H:Hp}(M:St→Hp→Prop) (h:Bs X st {D with nx:=M} σ H) (q:∀σ H,M σ H→D.nx σ H):Bs X st D σ H:=by
 obtain⟨t,D',h1,h2,le⟩:=h
 exact⟨t,D',h1,h2,fun σ H z=>q σ H (le.nx σ H z),le.rt,le.bk,le.ct⟩
end L2
namespace L2
open PySem PySem.Spec PyProof.Rows
structure Hs (K:PySem.W.Frag) (C:Addr) (m:Str) (f:Addr):Prop where
 sp:PySem.W.specialIn K (.ref C) "__getattribute__"=some (some (.builtin "type.__getattribute__"))
 rd:PySem.W.readsIn K C (.type "type")=true
 fd:PySem.W.findCls K (.ref C) (.type "type") m=some (.val (.ref f))
 kp:PySem.W.keepIn K (.ref f)=true
structure Tyc (K:PySem.W.Frag) (C:Addr):Prop where
 ha:PySem.W.findIn K (.ref C) "__class__"=some (some (.builtin "object.__class__"))
 hn:PySem.W.specialIn K (.builtin "object.__class__") "__get__"=some (some (.builtin "getset_descriptor.__get__"))
 Rr:PySem.W.takesIn K (.builtin "object.__class__")=some true
 hm:PySem.W.mroIn K C (.type "object")=some true
noncomputable def Ht (L:List (Addr×Sp)) (m:Str) (eK:List V) (E:XK) (ta:TE) (t:TA):TE:=fun σ H Q=>ta σ H fun x H1=>∃a C dx fs,x=.ref a∧H1 a=some (.ins C dx fs)∧fs.lookup m=none∧∃sp,(C,sp)∈L ∧
 t σ H1 fun vs H2=>sp (x::(vs++eK)) H2 Q E
noncomputable def VM (X:Cx) (CX:rL) (m:Str) (ds:List Value) (q:Addr×Sp):Prop:=∃(f:Addr) (fd:FuncData) (ps:List Str) (k:Nat),rK X.K q.1∧Meth X.K q.1 m f∧aY X.prog X.w X.K X.mg X.base CX k f fd ps q.2∧dH k X.A∧Binds X.K fd ps ds
section
variable {X:Cx}{CX:rL}{k:Nat}{f C:Addr}{fd:FuncData}{ps:List Str}{sp:Sp}{eK:List V}{ds:List Value}{E:XK}{x m:Str}{p pos apos:Pos}{e o:Expr}{es:List Expr}{ta:TE}{t:TA}{L:List (Addr×Sp)}
theorem uT {pl:Sem Bool}(he:PE X o (tC (.ref C))) (hm:Hs X.K C m f) (F:aY X.prog X.w X.K X.mg X.base CX k f fd ps sp) (hr:dH k X.A) (hb:Binds X.K fd ps ds) (hd:Vals eK ds) (hx:Passes CX X E) (ha:PA X (e::es) t)
  (Br:starEach (e::es) X.env=(false,eval e X.env)::starEach es X.env:=by rfl) (mG:(backTo pos (starEach es X.env)).any (·.1)=false:=by rfl)
  (ht:eval (.Call (.Attribute o m apos) (e::es) [] pos) X.env=(do
   let ov ←eval o X.env
   standAt apos.atName
   let (f,first) ←holding [ov] (getMethod ov m pl)
   callWith pos f first (backTo pos (starEach (e::es) X.env)) (backToKw pos (keywordEach [] X.env))):=by rfl) :
  PE X (.Call (.Attribute o m apos) (e::es) [] pos) (EG sp eK E t):=by
 intro pins s σ H Q I h
 refine PySem.W.methodCall_KW (pl:=pl) (b_ (he pins s σ H (fun v H1=>v=.ref C∧H1=H) I ⟨rfl,rfl⟩) fun u s1 ⟨x,H1,I1,rx,ex,eH⟩=>?_) ht
 subst ex
 subst eH
 obtain rfl:u=Value.ref C:=rx
 refine PySem.W.method_cls I1.eZ hm.sp (PySem.W.cls_value I1.eZ hm.rd hm.fd rfl ?_)
 refine PySem.W.callWith_K (first:=[]) (h₀:=X.base) I.ok.mod.Lw hm.kp (b_ (ha pos pins _ σ _ _ (I1.tok _) h) fun us s2 ⟨vs,H2,I2,r,q2⟩=>⟨I2.eZ,?_⟩) Br mG
 exact lL F hr hb hd hx I2 r q2
theorem dR {pl:Sem Bool}(he:PE X o ta) (hL:∀q∈L,VM X CX m ds q) (hd:Vals eK ds) (hx:Passes CX X E)
  (ht:eval (.Call (.Attribute o m apos) [] [] pos) X.env=(do
   let ov ←eval o X.env
   standAt apos.atName
   let (f,first) ←holding [ov] (getMethod ov m pl)
   callWith pos f first (backTo pos (starEach [] X.env)) (backToKw pos (keywordEach [] X.env))):=by rfl) :
  PE X (.Call (.Attribute o m apos) [] [] pos) (Ht L m eK E ta xt):=by
 intro pins s σ H Q I h
 refine PySem.W.methodCall_KW (pl:=pl) (b_ (he pins s σ H _ I h) fun u s1 ⟨x,H1,I1,rx,a,C,dx,fs,ex,ea,l,sp,hC,q⟩=>?_) ht
 subst ex
 obtain rfl:u=Value.ref a:=rx
 obtain⟨f,fd,ps,k,c,hm,F,hr,hb⟩:=hL _ hC
 refine fj I1 ea c hm l ?_
 exact PySem.W.callWith_K0 (first:=[.ref a]) I1.eZ hm.kp (lL (us:=[.ref a]) (vs:=[.ref a]) F hr hb hd hx I1 (.cons rfl .nil) q)
end
theorem ar.bT {K:PySem.W.Frag}{H H':Hp}(k:ar H H') {a:Addr}{xs:List V}(h:bZ K H a xs):bZ K H' a xs:=by
 rcases h with (h | ⟨o,h⟩) | h
 ·exact .inl (.inl (k _ _ h))
 ·exact .inl (.inr ⟨o,k _ _ h⟩)
 ·exact .inr h
theorem gN {i:Nat}{v:V}{σ:St}{H:Hp}{Q:St→Hp→Prop}(h:Q (σ.set i (some v)) H):oE i v σ H Q:=h
section
variable {K:PySem.W.Frag}{a D:Addr}{fr:List Nat}{tt:TT}{te:TE}{σ:St}{Q:Hp→Prop}{H:Hp}
noncomputable def lcS (D:Addr) (Pv:Nat→List V→Hp→Prop) (n m i:Nat):VK:=fun y H4=>∃ys,H4 D=some (.lst ys)∧ys.length < sizeLine∧∃m',m' < m∧(m'+(i+1)=n∧∃zs,Pv (i+1) zs (upd H4 D (.lst (ys++[y]))))
noncomputable def lcK (Pv:Nat→List V→Hp→Prop) (n m i:Nat) (H3:Hp):Prop:=∃m',m' < m∧(m'+(i+1)=n∧∃zs,Pv (i+1) zs H3)
end
end L2
namespace L2
open PySem PySem.Spec PyProof.Rows
inductive U7 (K:PySem.W.Frag) (H:Hp):V→Value→Prop where
 | ty {x:V}{t:Value}(h:lK K H x t):U7 K H x t
 | lst {a:Addr}{xs:List V}(h:bN K H a xs):U7 K H (.ref a) (.type "list")
 | tup {a:Addr}{xs:List V}(h:bZ K H a xs):U7 K H (.ref a) (.type "tuple")
theorem uU {X:Cx}:fL X (.builtin "isinstance") (fun xs H Q=>∃x n t b,xs=[x,.ty n]∧U7 X.K H x t∧PySem.W.kitOne X.K t (.type n)=some b∧Q (.bl b) H):=by
 intro pins s σ H xs us Q I r h
 obtain⟨x,n,t,b,rfl,ty,e,q⟩:=h
 obtain⟨u,w',rfl,r1,r2⟩:=vals2 r
 cases (show w'=Value.type n from r2)
 cases ty with
 | ty h=>exact FC I r1 h e fun tk=>⟨.bl b,H,I.tok _,rfl,q⟩
 | @lst a ys h=>
  cases (show u=Value.ref a from r1)
  obtain⟨bq,_,⟨o,n,h1,h2,_⟩,_⟩:=I.list h
  exact PySem.W.kia_one PySem.W.kitx_list I.eZ ⟨o,h1,h2⟩ e (fun z=>nomatch z) fun tk=>⟨.bl b,H,I.tok _,rfl,q⟩
 | @tup a ys h=>
  cases (show u=Value.ref a from r1)
  obtain⟨bq,_,⟨o,h1,h2,_⟩,_⟩:=I.tuple h
  exact PySem.W.kia_one PySem.W.kitx_tuple I.eZ ⟨o,h1,h2⟩ e (fun z=>nomatch z) fun tk=>⟨.bl b,H,I.tok _,rfl,q⟩
end L2
namespace L2
open PySem PySem.Spec PyProof.Rows
section
variable {κ:Type} [DecidableEq κ]
noncomputable def bK (kvs:List (κ×V)) (k:κ):Option V:=(kvs.find? fun kv=>decide (kv.1=k)).map (·.2)
noncomputable def putK (kvs:List (κ×V)) (k:κ) (v:V):List (κ×V):=
 if (kvs.any fun kv=>decide (kv.1=k))=true then kvs.map (fun kv=>if kv.1=k then(kv.1,v)else kv)else kvs++[(k,v)]
noncomputable def cL (kvs:List (κ×V)) (k:κ):List (κ×V):=kvs.filter fun kv=>decide (kv.1≠k)
theorem dh {p:κ×V}{r:List (κ×V)}{k:κ}(e:p.1=k):bK (p::r) k=some p.2:=by simp [bK,List.find?_cons,e]
theorem di {p:κ×V}{r:List (κ×V)}{k:κ}(e:¬p.1=k):bK (p::r) k=bK r k:=by simp [bK,List.find?_cons,e]
theorem eD (k:κ):∀kvs:List (κ×V),(kvs.any fun kv=>decide (kv.1=k))=(bK kvs k).isSome
 | []=>rfl
 | p::r=>by
  rw [List.any_cons]
  by_cases e:p.1=k
  ·simp only [dh e,decide_eq_true e,Bool.true_or,Option.isSome_some]
  ·rw [di e,decide_eq_false e,Bool.false_or]; exact eD k r
theorem xO (k j:κ) (y:V):∀kvs:List (κ×V),bK (kvs.map fun kv=>if kv.1=k then(kv.1,y)else kv) j=(bK kvs j).map fun x=>if j=k then y else x
 | []=>rfl
 | p::r=>by
  have ih:=xO k j y r
  rw [List.map_cons]
  by_cases h:p.1=k
  ·rw [if_pos h]
   by_cases e:p.1=j
   ·rw [dh (p:=(p.1,y)) e,dh e,Option.map_some,if_pos (e.symm.trans h)]
   ·rw [di (p:=(p.1,y)) e,di e,ih]
  ·rw [if_neg h]
   by_cases e:p.1=j
   ·rw [dh (p:=p) e,dh e,Option.map_some,if_neg (fun z=>h (e.trans z))]
   ·rw [di (p:=p) e,di e,ih]
theorem tR (k j:κ) (y:V):∀kvs:List (κ×V),bK kvs k=none→bK (kvs++[(k,y)]) j=if j=k then some y else bK kvs j
 | [],_=>by
  by_cases e:k=j
  ·rw [if_pos e.symm]; exact dh (p:=(k,y)) e
  ·rw [if_neg (fun z=>e z.symm)]; exact di (p:=(k,y)) e
 | p::r,hn=>by
  rw [List.cons_append]
  have hk:¬p.1=k:=fun z=>by rw [dh z] at hn; cases hn
  rw [di hk] at hn
  have ih:=tR k j y r hn
  by_cases e:p.1=j
  ·rw [dh e,dh e,if_neg (fun z=>hk (e.trans z))]
  ·rw [di e,di e,ih]
theorem oS (kvs:List (κ×V)) (k j:κ) (y:V):bK (putK kvs k y) j=if j=k then some y else bK kvs j:=by
 unfold putK
 by_cases a:(kvs.any fun kv=>decide (kv.1=k))=true
 ·rw [if_pos a,xO]
  rw [eD] at a
  by_cases e:j=k
  ·obtain⟨x,hx⟩:=Option.isSome_iff_exists.mp a
   rw [if_pos e,e,hx,Option.map_some,if_pos rfl]
  ·rw [if_neg e]
   cases bK kvs j with
   | none=>rfl
   | some x=>rw [Option.map_some,if_neg e]
 ·rw [if_neg a]
  refine tR k j y kvs ?_
  rw [eD] at a
  cases q:bK kvs k with
  | none=>rfl
  | some x=>rw [q] at a; exact(a rfl).elim
theorem iD (kvs:List (κ×V)) (k:κ) (v:V):(putK kvs k v).length≤kvs.length+1:=by
 unfold putK
 split
 ·rw [List.length_map]; omega
 ·rw [List.length_append,List.length_cons,List.length_nil]; omega
theorem oU {kvs:List (κ×V)}{k:κ}(v:V) (h:bK kvs k=none):putK kvs k v=kvs++[(k,v)]:=by
 unfold putK
 rw [eD,h]
 exact if_neg (by decide)
theorem fW.ja {o:Option V}{u:Option Value}(r:fW o u):o.isSome=u.isSome:=by
 cases o with
 | none=>cases u with
  | none=>rfl
  | some _=>exact(show False from r).elim
 | some _=>cases u with
  | none=>exact(show False from r).elim
  | some _=>rfl
theorem fW.getD {o:Option V}{u:Option Value}{d:V}{d':Value}(r:fW o u) (rd:RelV d d'):RelV (o.getD d) (u.getD d'):=by
 cases o with
 | none=>cases u with
  | none=>exact rd
  | some _=>exact(show False from r).elim
 | some _=>cases u with
  | none=>exact(show False from r).elim
  | some _=>exact r
theorem KV.val {kvs:List (κ×V)}{vs:List (κ×Value)}(r:KV kvs vs) (k:κ):fW (bK kvs k) (valueAt vs k):=by
 unfold KV at r
 induction r with
 | nil=>exact True.intro
 | @cons p q ps qs h t ih=>
  obtain⟨h1,h2⟩:=h
  by_cases e:p.1=k
  ·have e':q.1=k:=h1.symm.trans e
   have b:valueAt (q::qs) k=some q.2:=by simp [valueAt,List.find?_cons,e']
   rw [dh e,b]; exact h2
  ·have e':¬q.1=k:=fun z=>e (h1.trans z)
   have b:valueAt (q::qs) k=valueAt qs k:=by simp [valueAt,List.find?_cons,e']
   rw [di e,b]; exact ih
theorem KV.any {kvs:List (κ×V)}{vs:List (κ×Value)}(r:KV kvs vs) (k:κ):(kvs.any fun kv=>decide (kv.1=k))=vs.any fun kv=>decide (kv.1=k):=by
 unfold KV at r
 induction r with
 | nil=>rfl
 | cons h t ih=>rw [List.any_cons,List.any_cons,ih,h.1]
theorem KV.RQ {kvs:List (κ×V)}{vs:List (κ×Value)}(r:KV kvs vs) (k:κ) {y:V}{u:Value}(ry:RelV y u) :
  KV (kvs.map fun kv=>if kv.1=k then(kv.1,y)else kv) (vs.map fun kv=>if kv.1=k then(kv.1,u)else kv):=by
 unfold KV at r ⊢
 induction r with
 | nil=>exact .nil
 | @cons p q ps qs h t ih=>
  rw [List.map_cons,List.map_cons]
  refine .cons ?_ ih
  obtain⟨h1,h2⟩:=h
  by_cases e:p.1=k
  ·rw [if_pos e,if_pos (h1.symm.trans e)]; exact⟨h1,ry⟩
  ·rw [if_neg e,if_neg (fun z=>e (h1.trans z))]; exact⟨h1,h2⟩
theorem KV.put {kvs:List (κ×V)}{vs:List (κ×Value)}(r:KV kvs vs) (k:κ) {y:V}{u:Value}(ry:RelV y u):KV (putK kvs k y) (stored vs k u):=by
 unfold putK stored
 rw [r.any k]
 by_cases e:(vs.any fun kv=>decide (kv.1=k))=true
 ·rw [if_pos e,if_pos e]; exact r.RQ k ry
 ·rw [if_neg e,if_neg e]; exact Paired.snoc r ⟨rfl,ry⟩
theorem KV.drop {kvs:List (κ×V)}{vs:List (κ×Value)}(r:KV kvs vs) (k:κ):KV (cL kvs k) (without vs k):=by
 unfold KV at r ⊢
 unfold cL without
 induction r with
 | nil=>exact .nil
 | @cons p q ps qs h t ih=>
  obtain⟨h1,h2⟩:=h
  rw [List.filter_cons,List.filter_cons]
  by_cases e:p.1=k
  ·have a:¬decide (p.1≠k)=true:=by simp [e]
   have b:¬decide (q.1≠k)=true:=by simp [h1.symm.trans e]
   rw [if_neg a,if_neg b]; exact ih
  ·have e':¬q.1=k:=fun z=>e (h1.trans z)
   have a:decide (p.1≠k)=true:=by simp [e]
   have b:decide (q.1≠k)=true:=by simp [e']
   rw [if_pos a,if_pos b]; exact .cons ⟨h1,h2⟩ ih
theorem KV.length {kvs:List (κ×V)}{vs:List (κ×Value)}(r:KV kvs vs):kvs.length=vs.length:=Paired.length r
theorem oW (kvs:List (κ×V)) (k:κ):(cL kvs k).length≤kvs.length:=List.length_filter_le _ _
end
theorem kI {P:Program}{w:World}{k:Key}{u:Value}(r:RelV (kV k) u):(br P w).is k u=true:=by
 cases k with
 | inl i=>obtain⟨t,e⟩:=(show ∃t,u=Value.int i t from r); subst e; exact xo P w i t
 | inr x=>obtain⟨t,e⟩:=(show ∃t,u=Value.str x t from r); subst e; exact xp P w x t
theorem tS {P:Program}{w:World}:∀{ks:List Key}{us:List Value},Vals (ks.map kV) us→ItemsAre (br P w) ks us
 | [],_,r=>by rw [List.map_nil] at r; cases r; exact .nil
 | k::ks,_,r=>by
  rw [List.map_cons] at r
  cases r with
  | cons h t=>exact .cons (kI h) (tS t)
noncomputable abbrev KT (H:Hp):List (List Key×V)→List (List Key×Addr×Value)→Prop:=Paired fun p q=>p.1=q.1∧H q.2.1=some (.tup (p.1.map kV))∧RelV p.2 q.2.2
theorem KT.val {H:Hp}{kvs:List (List Key×V)}{xs:List (List Key×Addr×Value)}(r:KT H kvs xs) (k:List Key):fW (bK kvs k) ((atKey xs k).map (·.2)):=by
 induction r with
 | nil=>exact True.intro
 | @cons p q ps qs h t ih=>
  obtain⟨h1,_,h2⟩:=h
  by_cases e:p.1=k
  ·have e':q.1=k:=h1.symm.trans e
   have b:atKey (q::qs) k=some q.2:=by simp [atKey,List.find?_cons,e']
   rw [dh e,b]; exact h2
  ·have e':¬q.1=k:=fun z=>e (h1.trans z)
   have b:atKey (q::qs) k=atKey qs k:=by simp [atKey,List.find?_cons,e']
   rw [di e,b]; exact ih
theorem KT.RQ {H:Hp}{kvs:List (List Key×V)}{xs:List (List Key×Addr×Value)}(r:KT H kvs xs) (k:List Key) {y:V}{u:Value}(ry:RelV y u) :
  KT H (kvs.map fun kv=>if kv.1=k then(kv.1,y)else kv) (xs.map (putAt k u)):=by
 induction r with
 | nil=>exact .nil
 | @cons p q ps qs h t ih=>
  rw [List.map_cons,List.map_cons]
  refine .cons ?_ ih
  obtain⟨h1,h2,h3⟩:=h
  unfold putAt
  by_cases e:p.1=k
  ·rw [if_pos e,if_pos (h1.symm.trans e)]; exact⟨h1,h2,ry⟩
  ·rw [if_neg e,if_neg (fun z=>e (h1.trans z))]; exact⟨h1,h2,h3⟩
theorem KT.put {H:Hp}{kvs:List (List Key×V)}{xs:List (List Key×Addr×Value)}(r:KT H kvs xs) (k:List Key) {b:Addr}{y:V}{u:Value}(hb:H b=some (.tup (k.map kV))) (ry:RelV y u) :
  KT H (putK kvs k y) (storedH xs k b u):=by
 have e:(kvs.any fun kv=>decide (kv.1=k))=(atKey xs k).isSome:=by
  rw [eD,(r.val k).ja,Option.isSome_map]
 unfold putK storedH
 rw [e]
 by_cases q:(atKey xs k).isSome=true
 ·rw [if_pos q,if_pos q]; exact r.RQ k ry
 ·rw [if_neg q,if_neg q]; exact Paired.snoc r ⟨rfl,hb,ry⟩
theorem KT.keeps {H H':Hp}{kvs:List (List Key×V)}{xs:List (List Key×Addr×Value)}(r:KT H kvs xs) (ht:∀b ys,H b=some (.tup ys)→H' b=some (.tup ys)):KT H' kvs xs:=
 Paired.Q6 r fun _ _ z=>⟨z.1,ht _ _ z.2.1,z.2.2⟩
section
variable {P:Program}{w:World}{H:Hp}{h:Heap}{a:Addr}
theorem Of {u:HO}(ok:ip P w H h) (e:Rd H a u):b9 P w H h a u:=e.ok ok
theorem jB {kvs:List (Key×V)}(ok:ip P w H h) (e:Rd H a (.dK kvs)):kvs.length≤sizeLine∧(a == sysModules)=false∧∃vs,KV kvs vs∧h.DictOf (br P w) a vs:=
 show b9 P w H h a (.dK kvs) from Of ok e
theorem kJ {kvs:List (Key×V)}(ok:ip P w H h) (e:H a=some (.dK kvs)):kvs.length≤sizeLine∧(a == sysModules)=false∧∃vs,KV kvs vs∧h.DictOf (br P w) a vs:=jB ok (.inl e)
theorem oX {ks:List Key}(ok:ip P w H h) (e:H a=some (.tup (ks.map kV))):(tupleKind (br P w)).is h ks a:=by
 obtain⟨_,bq,r,o,h1,h2,n,h3⟩:=(show b9 P w H h a (.tup (ks.map kV)) from ok a _ e)
 exact⟨o,bq.toArray,n,h1,h2,h3,by simpa using tS r⟩
theorem tT {kvs:List (List Key×V)}(ok:ip P w H h) (e:Rd H a (.dT kvs)):kvs.length≤sizeLine∧(a == sysModules)=false ∧
  ∃xs,KT H kvs xs∧h.DictOfH (tupleKind (br P w)) a xs:=by
 obtain⟨z,y,xs,r,o,es,ep,h1,h2,h3,h4,h5⟩:=(show b9 P w H h a (.dT kvs) from Of ok e)
 refine⟨z,y,xs,r,o,es,ep,h1,h2,h3,h4,fun x hx=>?_,h5⟩
 have all:∀{l:List (List Key×V)}{m:List (List Key×Addr×Value)},KT H l m→∀x∈m,(tupleKind (br P w)).is h x.1 x.2.1:=by
  intro l m q
  induction q with
  | nil=>intro x hx; exact nomatch hx
  | @cons p q ps qs hq t ih=>
   intro x hx
   rcases List.mem_cons.mp hx with e | hx
   ·subst e
    exact oX ok (by rw [←hq.1]; exact hq.2.1)
   ·exact ih x hx
 exact all r x hx
theorem VZ {kvs:List (List Key×V)}(ok:ip P w H h) (e:H a=some (.dT kvs)):kvs.length≤sizeLine∧(a == sysModules)=false ∧
  ∃xs,KT H kvs xs∧h.DictOfH (tupleKind (br P w)) a xs:=tT ok (.inl e)
end
noncomputable def fk (H:Hp) (a:Addr) (y:V) (r:Option V):Prop:=
 (∃kvs k,Rd H a (.dK kvs)∧y=kV k∧r=bK kvs k)∨∃kvs k b,Rd H a (.dT kvs)∧y=.ref b∧H b=some (.tup (k.map kV))∧r=bK kvs k
noncomputable def gG (H:Hp) (a:Addr) (y v:V) (H':Hp):Prop:=
 (∃kvs k,H a=some (.dK kvs)∧y=kV k∧kvs.length < sizeLine∧H'=upd H a (.dK (putK kvs k v))) ∨
 ∃kvs k b,H a=some (.dT kvs)∧y=.ref b∧H b=some (.tup (k.map kV))∧kvs.length < sizeLine∧H'=upd H a (.dT (putK kvs k v))
theorem fk.k {H:Hp}{a:Addr}{kvs:List (Key×V)}{k:Key}(e:H a=some (.dK kvs)):fk H a (kV k) (bK kvs k):=.inl ⟨kvs,k,.inl e,rfl,rfl⟩
theorem gG.k {H:Hp}{a:Addr}{kvs:List (Key×V)}{k:Key}{v:V}(e:H a=some (.dK kvs)) (hl:kvs.length < sizeLine):gG H a (kV k) v (upd H a (.dK (putK kvs k v))):=.inl ⟨kvs,k,e,rfl,hl,rfl⟩
section
variable {X:Cx}{pins:List (Addr×Obj)}{σ:St}{H:Hp}{s:Shared}{a:Addr}{y v:V}{u r:Value}{o:Option V}{A:Around}{E:Value→Shared→Prop}
theorem Inv.big (I:Inv X pins σ H s):sysModules < s.heap.objs.size:=by
 have h:mainGlobals < s.heap.objs.size:=(I.mod.glob.keeps I.bk).lt
 exact Nat.lt_trans (by decide) h
theorem FJ {Q:Value→Shared→Prop}(hu:A.units+1 < cLine) (I:Inv X pins σ H s) (g:fk H a y (some v)) (ry:RelV y u) (h:∀w' s',Inv X pins σ H s'→RelV v w'→Q w' s') :
  wpAny (model X.prog X.w) A (getItem (.ref a) u) Q E s:=by
 rcases g with ⟨kvs,k,e,ey,l⟩ | ⟨kvs,k,b,e,ey,eb,l⟩
 ·subst ey
  obtain⟨z,hd,vs,rel,dd⟩:=jB I.bw e
  obtain⟨w',hw,xD⟩:=fW.some_of (v:=v) (o:=valueAt vs k) (by rw [l]; exact rel.val k)
  exact wpAny_getItem_of (kI ry) dd.mapOf hw (h w' _ (I.tok _) xD)
 ·subst ey
  cases (show u=Value.ref b from ry)
  obtain⟨z,hd,xs,rel,dd⟩:=tT I.bw e
  obtain⟨w',hw,xD⟩:=fW.some_of (v:=v) (o:=(atKey xs k).map (·.2)) (by rw [l]; exact rel.val k)
  obtain⟨p,hp,EM⟩:=Option.map_eq_some_iff.mp hw
  refine wpAny_getItem_heap (tupleKind_room_in1 hu) (oX I.bw eb) dd hp ?_
  rw [EM]
  exact h w' _ (I.tok _) xD
theorem LX {Q:Value→Shared→Prop}(hu:A.units+1 < cLine) (I:Inv X pins σ H s) (g:fk H a y o) (ry:RelV y u) (h:∀s',Inv X pins σ H s'→Q (.bool (!o.isSome)) s') :
  wpAny (model X.prog X.w) A (compareOp .NotIn u (.ref a)) Q E s:=by
 rcases g with ⟨kvs,k,e,ey,l⟩ | ⟨kvs,k,b,e,ey,eb,l⟩
 ·subst ey
  obtain⟨z,hd,vs,rel,dd⟩:=jB I.bw e
  refine wpAny_notIn_of (kI ry) hd dd.mapOf ?_
  rw [←(rel.val k).ja,←l]
  exact h _ (I.tok _)
 ·subst ey
  cases (show u=Value.ref b from ry)
  obtain⟨z,hd,xs,rel,dd⟩:=tT I.bw e
  refine wpAny_notIn_heap (tupleKind_room_in1 hu) (oX I.bw eb) hd dd ?_
  have q:=(rel.val k).ja
  rw [Option.isSome_map] at q
  rw [←q,←l]
  exact h _ (I.tok _)
theorem kK {h':Heap}{t':Nat}{ob:HO}(I:Inv X pins σ H s) (mu:Vj (H a)) (hs:Heap.SameBut a s.heap h') (he:∃q,h'.get? a=some q) (new:b9 X.prog X.w (upd H a ob) h' a ob) :
  Inv X pins σ (upd H a ob) {s with heap:=h',toks:=t'}:=
 I.write (x:=a) (e:=a) mu (.inl rfl) (fun b q hb z=>(hs.2 b hb).trans z) he new
theorem oY {P:Program}{w:World}{H':Hp}{h':Heap}{kvs:List (Key×V)}{vs:List (Key×Value)}(z:kvs.length≤sizeLine) (hd:(a == sysModules)=false) (rel:KV kvs vs) (dd:h'.DictOf (br P w) a vs) :
  b9 P w H' h' a (.dK kvs):=⟨z,hd,vs,rel,dd⟩
theorem FK {H':Hp}{Q:Unit→Shared→Prop}(hu:A.units+1 < cLine) (I:Inv X pins σ H s) (g:gG H a y v H') (ry:RelV y u) (rv:RelV v r) (h:∀s',Inv X pins σ H' s'→Q () s') :
  wpAny (model X.prog X.w) A (setItem (.ref a) u r) Q E s:=by
 rcases g with ⟨kvs,k,e,ey,l,eH⟩ | ⟨kvs,k,b,e,ey,eb,l,eH⟩
 ·subst ey eH
  obtain⟨z,hd,vs,rel,dd⟩:=kJ I.bw e
  have hz:vs.length≤sizeLine:=by rw [←rel.length]; exact z
  have hl:(putK kvs k v).length≤sizeLine:=by have:=iD kvs k v; omega
  refine wpAny_setItem_pairs (hsz:=hz) (kI ry) dd fun h' EN hs=>h _ ?_
  have he:∃q,h'.get? a=some q:=let ⟨q,_,_,hq,_⟩:=EN; ⟨q,hq⟩
  exact kK I (by rw [e]; exact True.intro) hs he (oY hl hd (rel.put k rv) EN)
 ·subst ey eH
  cases (show u=Value.ref b from ry)
  obtain⟨z,hd,xs,rel,dd⟩:=VZ I.bw e
  have hz:xs.length≤sizeLine:=by rw [←Paired.length rel]; exact z
  have hl:(putK kvs k v).length≤sizeLine:=by have:=iD kvs k v; omega
  refine wpAny_setItem_heap (hsz:=hz) (tupleKind_room_in1 hu) (oX I.bw eb) dd fun h' EN hs=>h _ ?_
  obtain⟨q,es,ep,hq,h2,h3,h4,_,h5⟩:=EN
  refine kK I (by rw [e]; exact True.intro) hs ⟨q,hq⟩ ⟨hl,hd,_,(rel.put k eb rv).keeps fun c ys ec=>?_,q,es,ep,hq,h2,h3,h4,h5⟩
  rw [ak (mD ec e (fun z=>nomatch z))]
  exact ec
end
section
variable {X:Cx}{pins:List (Addr×Obj)}{σ:St}{H:Hp}{s:Shared}{a:Addr}{kvs:List (Key×V)}{k:Key}{u:Value}{A:Around}{E:Value→Shared→Prop}
theorem U8 {Q:Unit→Shared→Prop}(I:Inv X pins σ H s) (e:H a=some (.dK kvs)) (ry:RelV (kV k) u) (l:(bK kvs k).isSome=true) (h:∀s',Inv X pins σ (upd H a (.dK (cL kvs k))) s'→Q () s') :
  wpAny (model X.prog X.w) A (delItem (.ref a) u) Q E s:=by
 obtain⟨z,hd,vs,rel,dd⟩:=kJ I.bw e
 refine wpAny_delItem_slot dd.typeIs (by decide) PySem.F.slot_dict_delitem
  (call_meetsIn PySem.F.slot_dict_delitem dd.typeIs PySem.F.entry_dict_delitem (PySem.F.args_dict_delitem_2 _ _) (meets_dict_delitem_pairs (br X.prog X.w) a (kI ry)) ⟨vs,dd,by rw [←rel.length]; exact z,by rw [←(rel.val k).ja]; exact l,fun h' EN hs=>h _ ?_⟩)
 have he:∃q,h'.get? a=some q:=let ⟨q,_,_,hq,_⟩:=EN; ⟨q,hq⟩
 exact kK I (by rw [e]; exact True.intro) hs he (oY (Nat.le_trans (oW kvs k) z) hd (rel.drop k) EN)
theorem V0 {v:V}{more:List Value}{Q:Value→Shared→Prop}(I:Inv X pins σ H s) (e:H a=some (.dK kvs)) (ry:RelV (kV k) u) (l:bK kvs k=some v) (hm:more=[]∨∃x,more=[x])
  (h:∀w' s',Inv X pins σ (upd H a (.dK (cL kvs k))) s'→RelV v w'→Q w' s'):wpAny (model X.prog X.w) A (call (.builtin "dict.pop") (.ref a::u::more)) Q E s:=by
 obtain⟨z,hd,vs,rel,dd⟩:=kJ I.bw e
 obtain⟨w',hw,xD⟩:=fW.some_of (v:=v) (o:=valueAt vs k) (by rw [←l]; exact rel.val k)
 have hp:(keyPart u).isSome=true:=by
  cases k with
  | inl i=>obtain⟨t,q⟩:=(show ∃t,u=Value.int i t from ry); subst q; rfl
  | inr x=>obtain⟨t,q⟩:=(show ∃t,u=Value.str x t from ry); subst q; rfl
 have ha:argsOk "dict.pop" ⟨.ref a::u::more,[]⟩:=by
  rcases hm with q | ⟨x,q⟩
  ·subst q; exact PySem.F.args_dict_pop_2 _ _
  ·subst q; exact PySem.F.args_dict_pop_3 _ _ _
 refine call_meetsIn PySem.F.slot_dict_pop dd.typeIs PySem.F.entry_dict_pop ha (meets_dict_pop_there (br X.prog X.w) a (kI ry) more hm hp)
  ⟨vs,w',dd,by rw [←rel.length]; exact z,hw,fun h' EN hs=>h w' _ ?_ xD⟩
 have he:∃q,h'.get? a=some q:=let ⟨q,_,_,hq,_⟩:=EN; ⟨q,hq⟩
 exact kK I (by rw [e]; exact True.intro) hs he (oY (Nat.le_trans (oW kvs k) z) hd (rel.drop k) EN)
theorem RR {r:Value}{Q:Value→Shared→Prop}(I:Inv X pins σ H s) (e:H a=some (.dK kvs)) (ry:RelV (kV k) u) (l:bK kvs k=none) (h:∀s',Inv X pins σ H s'→Q r s') :
  wpAny (model X.prog X.w) A (call (.builtin "dict.pop") [.ref a,u,r]) Q E s:=by
 obtain⟨z,hd,vs,rel,dd⟩:=kJ I.bw e
 have hn:valueAt vs k=none:=fW.none_of (by rw [←l]; exact rel.val k)
 have hp:(keyPart u).isSome=true:=by
  cases k with
  | inl i=>obtain⟨t,q⟩:=(show ∃t,u=Value.int i t from ry); subst q; rfl
  | inr x=>obtain⟨t,q⟩:=(show ∃t,u=Value.str x t from ry); subst q; rfl
 exact call_meetsIn PySem.F.slot_dict_pop dd.typeIs PySem.F.entry_dict_pop (PySem.F.args_dict_pop_3 _ _ _) (meets_dict_pop_default (br X.prog X.w) a (kI ry) hd hp r) ⟨vs,dd,hn,h _ (I.tok _)⟩
theorem LY {Q:Value→Shared→Prop}(I:Inv X pins σ H s) (e:H a=some (.dK kvs)) (h:∀s',Inv X pins σ (upd H a (.dK [])) s'→Q .none s'):wpAny (model X.prog X.w) A (call (.builtin "dict.clear") [.ref a]) Q E s:=by
 obtain⟨z,hd,vs,rel,dd⟩:=kJ I.bw e
 refine call_meetsIn PySem.F.slot_dict_clear dd.typeIs PySem.F.entry_dict_clear (PySem.F.args_dict_clear_1 _) (meets_dict_clear (br X.prog X.w) a) ⟨vs,dd,by rw [←rel.length]; exact z,fun h' EN hs=>h _ ?_⟩
 have he:∃q,h'.get? a=some q:=let ⟨q,_,_,hq,_⟩:=EN; ⟨q,hq⟩
 exact kK (t':=s.toks) I (by rw [e]; exact True.intro) hs he (oY (Nat.zero_le _) hd .nil EN)
theorem V1 {Q:Value→Shared→Prop}(I:Inv X pins σ H s) (e:Rd H a (.dK kvs)) (h:∀t s',Inv X pins σ H s'→Q (.int kvs.length t) s'):wpAny (model X.prog X.w) A (call (.builtin "len") [.ref a]) Q E s:=by
 obtain⟨z,hd,vs,rel,dd⟩:=jB I.bw e
 refine call_len_dict hd dd (by rw [←rel.length]; rw [sizeLine_eq] at z; omega) ?_
 rw [←rel.length]
 exact h _ _ (I.tok _)
end
noncomputable def RS (i:Expr):Prop:=∀ov iv,subscripted i false ov iv=operate [ov,iv] (getItem ov iv)
theorem EO {prog:Program}{w:World}{A:Around}{E:Value→Shared→Prop}{s:Shared}{env:Env}{value slice:Expr}{pos:Pos}{T id:String}{Q:Value→Shared→Prop}
  (hl:typeLookup (.type T) "__getitem__"=pure (some (.builtin id))) (hs:RS slice)
  (h:wpAny (model prog w) A (eval value env) (fun o s₁=>wpAny (model prog w) A (eval slice env) (fun i s₂=>s₂.TypeIs o T∧wpAny (model prog w) A (getItem o i) Q E s₂) E s₁) E s) :
  wpAny (model prog w) A (eval (.Subscript value slice pos) env) Q E s:=by
 refine Subscript_ (wpAny_mono h (fun o s₁ h₁=>wpAny_mono h₁ (fun i s₂ h₂=>?_) fun _ _ x=>x) fun _ _ x=>x)
 obtain⟨hT,h₂⟩:=h₂
 unfold subscriptTail
 refine wpAny_bind ?_
 rw [getitemInPython_of_ne hT.not_modules]
 refine wpAny_bind (wpAny_specialOf hT hl ?_)
 have fin:wpAny (model prog w) A (subscripted slice false o i) (fun r s₃=>wpAny (model prog w) A (letTemporaryGo value o r >>= fun _=>pure r) Q E s₃) E s₂:=by
  rw [hs o i]
  exact wpAny_operating (wpAny_mono h₂ (fun r s₃ h₃=>wpAny_bind (wpAny_letTemporaryGo (wpAny_pure h₃))) fun _ _ x=>x)
 first
  | exact wpAny_pure (wpAny_bind fin)
  | exact wpAny_bind (wpAny_pure (wpAny_bind fin))
  | exact wpAny_bind fin
theorem xP {X:Cx}{pins:List (Addr×Obj)}{σ:St}{H:Hp}{s:Shared}{a:Addr}{y:V}{o:Option V}(I:Inv X pins σ H s) (g:fk H a y o):s.TypeIs (.ref a) "dict":=by
 rcases g with ⟨kvs,k,e,_,_⟩ | ⟨kvs,k,b,e,_,_,_⟩
 ·obtain⟨_,_,vs,_,dd⟩:=jB I.bw e
  exact dd.typeIs
 ·obtain⟨_,_,xs,_,dd⟩:=tT I.bw e
  exact dd.typeIs
noncomputable def Og (td ty:TE):TE:=fun σ H Q=>td σ H fun x H1=>ty σ H1 fun y H2=>∃a v,x=.ref a∧fk H2 a y (some v)∧Q v H2
noncomputable def aax (ty td:TE):TE:=fun σ H Q=>ty σ H fun y H1=>td σ H1 fun x H2=>∃a o,x=.ref a∧fk H2 a y o∧Q (.bl o.isSome) H2
noncomputable def ER (ty td:TE):TE:=fun σ H Q=>ty σ H fun y H1=>td σ H1 fun x H2=>∃a o,x=.ref a∧fk H2 a y o∧Q (.bl (!o.isSome)) H2
noncomputable def Oh (td ty tv:TE):TS:=fun D σ H=>tv σ H fun v H1=>td σ H1 fun x H2=>ty σ H2 fun y H3=>∃a H4,x=.ref a∧gG H3 a y v H4∧D.nx σ H4
section
variable {X:Cx}{o i e value:Expr}{pos pos' aal:Pos}{td ty tv:TE}
theorem c9 (hu:X.A.units+1 < cLine) (ho:PE X o td) (hi:PE X i ty) (hs:RS i):PE X (.Subscript o i pos) (Og td ty):=by
 intro pins s σ H Q I h
 refine EO PySem.F.slot_dict_getitem.lookup hs (b_ (ho pins s σ H _ I h) fun u s1 ⟨x,H1,I1,rx,q1⟩=>b_ (hi pins s1 σ H1 _ I1 q1) fun iv s2 ⟨y,H2,I2,ry,a,v,ex,g,q2⟩=>?_)
 subst ex
 obtain rfl:u=Value.ref a:=rx
 exact⟨xP I2 g,FJ hu I2 g ry fun w' s3 I3 xD=>⟨v,H2,I3,xD,q2⟩⟩
theorem tU (hu:X.A.units+1 < cLine) (hi:PE X i ty) (ho:PE X o td):PC X .NotIn i o (ER ty td):=by
 intro pins s σ H Q I h
 refine b_ (hi pins s σ H _ I h) fun iv s1 ⟨y,H1,I1,ry,q1⟩=>b_ (ho pins s1 σ H1 _ I1 q1) fun u s2 ⟨x,H2,I2,rx,a,ov,ex,g,q2⟩=>?_
 subst ex
 obtain rfl:u=Value.ref a:=rx
 exact LX hu I2 g ry fun s3 I3=>⟨.bl (!ov.isSome),H2,I3,rfl,q2⟩
theorem cP (hu:X.A.units+1 < cLine) (ho:PE X o td) (hi:PE X i ty) (hv:PE X value tv) (hs:swapsWith value (some (.Subscript o i pos')) pos.line X.env=pure false) :
  PS X (.Assign [.Subscript o i pos'] value pos) (Oh td ty tv):=by
 intro pins s σ H D I h
 refine wpAny_Assign_Subscript (b_ (hv pins s σ H _ I h) fun r s1 ⟨v,H1,I1,rv,q1⟩=>b_ (ho pins s1 σ H1 _ I1 q1) fun u s2 ⟨x,H2,I2,rx,q2⟩=>b_ (hi pins s2 σ H2 _ I2 q2) fun iv s3 ⟨y,H3,I3,ry,a,H4,ex,g,q3⟩=>?_) hs
 subst ex
 obtain rfl:u=Value.ref a:=rx
 exact FK hu I3 g ry rv fun s4 I4=>⟨σ,H4,I4,q3⟩
end
theorem Hu {P:Program}{w:World}{H:Hp}(h:Heap) (hb:sysModules < h.objs.size):b9 P w H (h.push {cls:=.type "dict",data:=.dict #[]}) h.objs.size (.dK []):=
 ⟨Nat.zero_le _,beq_eq_false_iff_ne.mpr (Ne.symm (Nat.ne_of_lt hb)),[],.nil,Heap.DictOf.new h⟩
noncomputable def Hv:TE:=fun _ H Q=>∀p,H p=none→Q (.ref p) (upd H p (.dK []))
section
variable {X:Cx}{pos:Pos}
theorem fm:PE X (.Dict [] [] pos) Hv:=fun pins s σ H Q I h=>
 wpAny_Dict_empty ⟨.ref s.heap.objs.size,_,I.laid (a:=s.heap.objs.size) (o:=.dK []) (t':=s.toks) (fun _ _ q=>Heap.get?_push_of_some _ q) (Nat.le_refl _) (Hu s.heap I.big),rfl,h _ (I.bw.fresh (Nat.le_refl _))⟩
end
noncomputable def BL:List (TE×TE)→St→Hp→(List (V×V)→Hp→Prop)→Prop
 | [],_,H,Q=>Q [] H
 | (tk,tv)::r,σ,H,Q=>tk σ H fun x H1=>tv σ H1 fun y H2=>BL r σ H2 fun ps H3=>Q ((x,y)::ps) H3
noncomputable def RT (kvs more:List (Key×V)):List (Key×V):=more.foldl (fun acc kv=>putK acc kv.1 kv.2) kvs
noncomputable def V2 (trs:List (TE×TE)):TE:=fun σ H Q=>∀p,H p=none→BL trs σ (upd H p (.dK [])) fun ps H2=>H2 p=some (.dK [])∧∃kvs:List (Key×V),ps=kvs.map (fun kv=>(kV kv.1,kv.2))∧kvs.length≤15∧Q (.ref p) (upd H2 p (.dK (RT [] kvs)))
structure M1 (X:Cx) (o:Expr) (m:Str) (apos:Pos) (e:Expr) (cK:Pos):Prop where
 base:attributeBase o m X.env (eval o X.env)=eval o X.env
 cw:((backTo cK (starEach [e] X.env)).all (fun x=>!x.1)&&(backToKw cK (keywordEach [] X.env)).all (fun x=>x.1.isSome)
  && decide (([e]:List Expr).length+([]:List Keyword).length+(if ([]:List Keyword).isEmpty then 0 else 1) < 30))=true
 line:(apos.endLine == cK.line)=true
 trees:backTo cK (starEach [e] X.env)=[(false,eval e X.env)]
structure M2 (X:Cx) (o:Expr) (m:Str) (apos:Pos) (e f:Expr) (cK:Pos):Prop where
 base:attributeBase o m X.env (eval o X.env)=eval o X.env
 cw:((backTo cK (starEach [e,f] X.env)).all (fun x=>!x.1)&&(backToKw cK (keywordEach [] X.env)).all (fun x=>x.1.isSome)
  && decide (([e,f]:List Expr).length+([]:List Keyword).length+(if ([]:List Keyword).isEmpty then 0 else 1) < 30))=true
 line:(apos.endLine == cK.line)=true
 trees:backTo cK (starEach [e,f] X.env)=[(false,eval e X.env),(false,eval f X.env)]
noncomputable def xQ (H:Hp) (a:Addr):Prop:=(∃kvs,Rd H a (.dK kvs))∨∃kvs,Rd H a (.dT kvs)
theorem Hw {X:Cx}{pins:List (Addr×Obj)}{σ:St}{H:Hp}{s:Shared}{a:Addr}(I:Inv X pins σ H s) (d:xQ H a) :
  s.TypeIs (.ref a) "dict"∧(∀b,Value.ref a=.ref b→∃ob,s.heap.get? b=some ob∧ob.dict=none)∧(a == sysModules)=false:=by
 rcases d with ⟨kvs,e⟩ | ⟨kvs,e⟩
 ·obtain⟨_,hd,vs,_,dd⟩:=jB I.bw e
  refine⟨dd.typeIs,fun b q=>?_,hd⟩
  cases q
  obtain⟨ob,_,_,h1,h2,_⟩:=dd
  exact⟨ob,h1,h2.2.1⟩
 ·obtain⟨_,hd,xs,_,dd⟩:=tT I.bw e
  refine⟨dd.typeIs,fun b q=>?_,hd⟩
  cases q
  obtain⟨ob,_,_,h1,h2,_⟩:=dd
  exact⟨ob,h1,h2.2.1⟩
section
variable {X:Cx}{pins:List (Addr×Obj)}{σ:St}{H:Hp}{s:Shared}{a:Addr}{y d:V}{u r:Value}{o:Option V}{A:Around}{E:Value→Shared→Prop}
theorem RU {Q:Value→Shared→Prop}(hu:A.units+1 < cLine) (I:Inv X pins σ H s) (g:fk H a y o) (ry:RelV y u) (rd:RelV d r) (h:∀w' s',Inv X pins σ H s'→RelV (o.getD d) w'→Q w' s') :
  wpAny (model X.prog X.w) A (call (.builtin "dict.get") [.ref a,u,r]) Q E s:=by
 rcases g with ⟨kvs,k,e,ey,l⟩ | ⟨kvs,k,b,e,ey,eb,l⟩
 ·subst ey
  obtain⟨z,hd,vs,rel,dd⟩:=jB I.bw e
  refine call_meetsIn PySem.F.slot_dict_get dd.typeIs PySem.F.entry_dict_get (PySem.F.args_dict_get_3 _ _ _) (meets_dict_get_default (br X.prog X.w) a (kI ry) hd r) ⟨_,dd.mapOf,h _ _ (I.tok _) ?_⟩
  rw [l]
  exact(rel.val k).getD rd
 ·subst ey
  cases (show u=Value.ref b from ry)
  obtain⟨z,hd,xs,rel,dd⟩:=tT I.bw e
  refine call_meetsIn PySem.F.slot_dict_get dd.typeIs PySem.F.entry_dict_get (PySem.F.args_dict_get_3 _ _ _) (meetsH_dict_get_default (tupleKind (br X.prog X.w)) a b hd r) ⟨tupleKind_room_in1 hu,k,xs,oX I.bw eb,dd,h _ _ (I.tok _) ?_⟩
  rw [l]
  exact(rel.val k).getD rd
end
noncomputable def RV (td ty:TE):TE:=fun σ H Q=>td σ H fun x H1=>∃a,x=.ref a∧xQ H1 a∧ty σ H1 fun y H2=>∃o,fk H2 a y o∧Q (o.getD .bj) H2
noncomputable def Hx (td ty tx:TE):TE:=fun σ H Q=>td σ H fun x H1=>∃a,x=.ref a∧xQ H1 a∧ty σ H1 fun y H2=>tx σ H2 fun z H3=>∃o,fk H3 a y o∧Q (o.getD z) H3
noncomputable def RW (td ty:TE):TE:=fun σ H Q=>td σ H fun x H1=>∃a,x=.ref a∧xQ H1 a∧ty σ H1 fun y H2=>∃kvs k v,H2 a=some (.dK kvs)∧y=kV k∧bK kvs k=some v∧Q v (upd H2 a (.dK (cL kvs k)))
noncomputable def Hy (td ty tx:TE):TE:=fun σ H Q=>td σ H fun x H1=>∃a,x=.ref a∧xQ H1 a∧ty σ H1 fun y H2=>tx σ H2 fun z H3=>∃kvs k,H3 a=some (.dK kvs)∧y=kV k ∧
 (∀v,bK kvs k=some v→Q v (upd H3 a (.dK (cL kvs k))))∧(bK kvs k=none→Q z H3)
section
variable {X:Cx}{o e f:Expr}{apos cK:Pos}{td ty tx:TE}
theorem xR (hu:X.A.units+1 < cLine) (ho:PE X o td) (he:PE X e ty) (hf:PE X f tx) (m:M2 X o "get" apos e f cK):PE X (.Call (.Attribute o "get" apos) [e,f] [] cK) (Hx td ty tx):=by
 intro pins s σ H Q I h
 refine wpAny_Call_method m.base m.cw m.line PySem.F.plainAttrs_dict PySem.F.slot_dict_get PySem.F.type_dict_get (b_ (ho pins s σ H _ I h) fun u s1 ⟨x,H1,I1,rx,a,ex,d,q1⟩=>?_)
 subst ex
 obtain rfl:u=Value.ref a:=rx
 obtain⟨t1,t2,_⟩:=Hw I1 d
 refine⟨t1,t2,?_⟩
 rw [m.trees]
 refine Calls.callWith_builtin rfl (Calls.evalArgs_plain (Calls.spliced_cons (b_ (he pins s1 σ H1 _ I1 q1) fun iv s2 ⟨y,H2,I2,ry,q2⟩=>
  Calls.spliced_cons (b_ (hf pins s2 σ H2 _ I2 q2) fun fv s3 ⟨z,H3,I3,rz,ov,g,q3⟩=>Calls.spliced_nil ?_))))
 exact RU hu I3 g ry rz fun w' s4 I4 xD=>⟨_,H3,I4,xD,q3⟩
theorem Hz (ho:PE X o td) (he:PE X e ty) (hf:PE X f tx) (m:M2 X o "pop" apos e f cK):PE X (.Call (.Attribute o "pop" apos) [e,f] [] cK) (Hy td ty tx):=by
 intro pins s σ H Q I h
 refine wpAny_Call_method m.base m.cw m.line PySem.F.plainAttrs_dict PySem.F.slot_dict_pop PySem.F.type_dict_pop (b_ (ho pins s σ H _ I h) fun u s1 ⟨x,H1,I1,rx,a,ex,d,q1⟩=>?_)
 subst ex
 obtain rfl:u=Value.ref a:=rx
 obtain⟨t1,t2,_⟩:=Hw I1 d
 refine⟨t1,t2,?_⟩
 rw [m.trees]
 refine Calls.callWith_builtin rfl (Calls.evalArgs_plain (Calls.spliced_cons (b_ (he pins s1 σ H1 _ I1 q1) fun iv s2 ⟨y,H2,I2,ry,q2⟩=>
  Calls.spliced_cons (b_ (hf pins s2 σ H2 _ I2 q2) fun fv s3 ⟨z,H3,I3,rz,kvs,k,ea,ey,q3,q4⟩=>Calls.spliced_nil ?_))))
 subst ey
 cases l:bK kvs k with
 | some v=>exact V0 I3 ea ry l (.inr ⟨fv,rfl⟩) fun w' s4 I4 xD=>⟨v,_,I4,xD,q3 v l⟩
 | none=>exact RR I3 ea ry l fun s4 I4=>⟨z,H3,I4,rz,q4 l⟩
end
section
variable {X:Cx}{pins:List (Addr×Obj)}{σ:St}{H:Hp}{s:Shared}{a:Addr}{kvs:List (Key×V)}{A:Around}{E:Value→Shared→Prop}
end
section
variable {X:Cx}{pins:List (Addr×Obj)}{σ:St}{H:Hp}{s:Shared}{a:Addr}{y:V}{u:Value}{A:Around}{E:Value→Shared→Prop}
end
end L2
namespace L2
open PySem PySem.Spec PyProof.Rows
section
variable {X:Cx}
theorem dS:fL X (.builtin "len") (fun xs H Q=>∃a kvs,xs=[V.ref a]∧H a=some (.dK kvs)∧Q (.int kvs.length) H):=by
 intro pins s σ H xs us Q I r h
 obtain⟨a,kvs,rfl,ha,q⟩:=h
 obtain⟨u,rfl,ru⟩:=vals1 r
 cases ru
 exact V1 I (.inl ha) fun t s' I'=>⟨.int kvs.length,H,I',⟨t,rfl⟩,q⟩
end
section
variable {κ:Type} [DecidableEq κ]
theorem kL {kvs:List (κ×V)}{k:κ}(h:bK kvs k=none):¬k∈kvs.map (·.1):=by
 intro m
 obtain⟨p,hp,e⟩:=List.mem_map.mp m
 have q:(kvs.any fun kv=>decide (kv.1=k))=true:=List.any_eq_true.mpr ⟨p,hp,decide_eq_true e⟩
 rw [eD,h] at q
 exact absurd q (by simp)
theorem oq {kvs:List (κ×V)}{k:κ}{v:V}(h:bK kvs k=some v):k∈kvs.map (·.1):=by
 have q:(kvs.any fun kv=>decide (kv.1=k))=true:=by
  rw [eD,h]
  all_goals rfl
 obtain⟨p,hp,e⟩:=List.any_eq_true.mp q
 exact List.mem_map.mpr ⟨p,hp,of_decide_eq_true e⟩
theorem FL {p:κ×V}{r:List (κ×V)}{k:κ}(e:p.1=k):cL (p::r) k=cL r k:=by
 unfold cL
 rw [List.filter_cons,if_neg (by simp [e])]
theorem tV {p:κ×V}{r:List (κ×V)}{k:κ}(e:¬p.1=k):cL (p::r) k=p::cL r k:=by
 unfold cL
 rw [List.filter_cons,if_pos (by simp [e])]
theorem xS:∀{kvs:List (κ×V)}{k:κ},¬k∈kvs.map (·.1)→cL kvs k=kvs
 | [],_,_=>rfl
 | p::r,k,h=>by
  have h':¬k∈r.map (·.1):=fun m=>by
   obtain⟨q,hq,e⟩:=List.mem_map.mp m
   exact h (List.mem_map.mpr ⟨q,List.mem_cons.mpr (Or.inr hq),e⟩)
  rw [tV fun e=>h (List.mem_map.mpr ⟨p,List.mem_cons.mpr (Or.inl rfl),e⟩),xS h']
theorem tW {kvs:List (κ×V)}{k:κ}{p:κ×V}(h:p∈cL kvs k):p∈kvs:=(List.mem_filter.mp h).1
theorem oZ:∀{kvs:List (κ×V)}{k:κ},(kvs.map (·.1)).Nodup→((cL kvs k).map (·.1)).Nodup
 | [],_,_=>List.nodup_nil
 | p::r,k,h=>by
  have h:(p.1::r.map (·.1)).Nodup:=h
  obtain⟨h1,h2⟩:=List.nodup_cons.mp h
  by_cases e:p.1=k
  ·rw [FL e]
   exact oZ h2
  ·rw [tV e]
   show(p.1::(cL r k).map (·.1)).Nodup
   refine List.nodup_cons.mpr ⟨fun m=>h1 ?_,oZ h2⟩
   obtain⟨q,hq,eq⟩:=List.mem_map.mp m
   exact List.mem_map.mpr ⟨q,tW hq,eq⟩
end
end L2
namespace L2
open PySem PySem.Spec PyProof.Rows
theorem RX:bootBuiltins "any"=some (.builtin "any"):=by decide +kernel
theorem ES {k:Key}{v:Value}(h:oB k v=true):RelV (kV k) v:=by
 rcases cA h with ⟨i,t,rfl,rfl⟩ | ⟨x,t,rfl,rfl⟩ <;> exact⟨t,rfl⟩
theorem KV.get:∀{kvs:List (Key×V)}{vs:List (Key×Value)}{i:Nat}{p:Key×V}{q:Key×Value},KV kvs vs→kvs[i]?=some p→vs[i]?=some q→p.1=q.1
 | _,_,_,_,_,.nil,h,_=>by simp at h
 | _,_,0,_,_,.cons r _,h,h'=>by
  simp at h h'
  subst h h'
  exact r.1
 | _,_,i+1,_,_,.cons _ t,h,h'=>KV.get (i:=i) t (by simpa using h) (by simpa using h')
section
variable {X:Cx}
end
section
variable {X:Cx}{pins:List (Addr×Obj)}{σ:St}{H:Hp}{s:Shared}{a:Addr}{kvs:List (Key×V)}{o:Obj}
theorem Inv.freeze (I:Inv X pins σ H s) (e:H a=some (.dK kvs)):∃o,s.heap.get? a=some o∧Inv X pins σ (upd H a (.dF o (.dK kvs))) s:=by
 obtain⟨z,hd,vs,rel,dd⟩:=kJ I.bw e
 obtain⟨o,es,ep,ho,hr⟩:=id dd
 have this:Inv X pins σ (upd H a (.dF o (.dK kvs))) {s with heap:=s.heap,toks:=s.toks}:=I.write (x:=a) (e:=a) (by rw [e]; exact True.intro) (.inl rfl) (fun b q _ h=>h) ⟨o,ho⟩ (show b9 X.prog X.w _ s.heap a (.dF o (.dK kvs)) from⟨ho,z,hd,vs,rel,dd⟩)
 exact⟨o,ho,this⟩
theorem Inv.aay (I:Inv X pins σ H s) (e:H a=some (.dF o (.dK kvs))) (h0:∀o u,X.H₀ a≠some (.dF o u)):Inv X pins σ (upd H a (.dK kvs)) s where
 ok:=I.ok
 os:=I.os
 bare:=I.bare
 base:={
  keep:=I.base.keep
  slot:=I.base.slot
  free:=fun b q h1 h2 h3=>by
   have:=I.base.free b q h1 h2 h3
   rw [ak (aG e this).symm]
   exact this
  there:=I.base.there
  ny:=fun b xs h=>by
   have:=I.base.ny b xs h
   rw [ak (mD this e (fun z=>nomatch z))]
   exact this
  lH:=fun b q u h=>by
   have n:b≠a:=fun z=>by
    subst z
    exact h0 _ _ h
   rw [ak n]
   exact I.base.lH b q u h
  nB:=fun b ps h=>by
   obtain⟨more,h2⟩:=I.base.nB b ps h
   refine⟨more,?_⟩
   rw [ak (mD h2 e (fun z=>nomatch z))]
   exact h2}
 loc:=I.loc
 cell:=I.cell
 free:=by rw [ak (aG e I.free).symm]; exact I.free
 ez:=fun x c h=>by rw [ak (aG e (I.ez x c h)).symm]; exact I.ez x c h
 pin:=fun p hp=>by
  obtain⟨h1,h2,h3⟩:=I.pin p hp
  exact⟨h1,by rw [ak (aG e h2).symm]; exact h2,h3⟩
 bw:=fun b q h=>by
  by_cases hb:b=a
  ·subst hb
   rw [af] at h
   cases h
   obtain⟨_,h2⟩:=I.bw b _ e
   exact h2
  ·rw [ak hb] at h
   refine(I.bw b q h).rH (fun _ _ _ r=>r) (fun c r=>?_) fun c xs r=>?_
   ·rw [ak (mD r e (fun z=>nomatch z))]
    exact r
   ·rw [ak (mD r e (fun z=>nomatch z))]
    exact r
 len:=I.len
noncomputable def LZ (H₀:Hp) (a:Addr) (kvs:List (Key×V)) (H H':Hp):Prop:=(∀o u,H₀ a≠some (.dF o u))∧(∃o,H a=some (.dF o (.dK kvs)))∧H'=upd H a (.dK kvs)
theorem Inv.HB (I:Inv X pins σ H s) {H':Hp}(t:LZ X.H₀ a kvs H H'):Inv X pins σ H' s:=by
 obtain⟨h0,⟨o,e⟩,rfl⟩:=t
 exact I.aay e h0
end
noncomputable def Itd (a:Addr) (o:Obj) (kvs:List (Key×V)):It:=
 ⟨fun i H=>i < kvs.length∧H a=some (.dF o (.dK kvs)),fun i H x H'=>H'=H∧∃kv,kvs[i]?=some kv∧x=kV kv.1,fun i H=>kvs.length≤i∧H a=some (.dF o (.dK kvs))⟩
theorem FN {P:Program}{w:World}{K:PySem.W.Frag}{tg:Expr}{a it:Addr}{o:Obj}{kvs:List (Key×V)}{vs:List (Key×Value)}{ep:Nat}(hd:(a == sysModules)=false) (rel:KV kvs vs)
  (dat:∀h:Heap,h.get? a=some o→h.DictAt (br P w) a vs ep):Turn P w K tg (Itd a o kvs) [it] it (fun i h=>h.IsKeyIter it a i vs.length ep) where
 mem:=by simp
 obj:=fun i h st b hb=>by
  have e:b=it:=by simpa using hb
  subst e
  obtain⟨o,e,c,d⟩:=st
  exact⟨o,e,fun v z=>by rw [d] at z; cases z⟩
 keep:=fun i h h' st k=>st.at fun o e=>k it (by simp) o e
 item:=by
  intro X hP hw hK hc i pins s σ H E I hf st hg
  subst hP hw hK
  obtain⟨hi,ha⟩:=hg
  obtain⟨ho,_⟩:=I.bw a _ ha
  have hv:i < vs.length:=by rw [←rel.length]; exact hi
  obtain⟨f0,f1,f2,f3,f4,f5⟩:=hf it (by simp)
  refine wpAny_pyNext_dict_item st (dat _ ho) (k:=vs[i].1) (v:=vs[i].2) (List.getElem?_eq_getElem hv) fun key h' hk EC sb=>?_
  have I1:Inv X pins σ H {s with heap:=h'}:=I.turned (t':=s.toks) (fun b o hb e=>(sb.2 b hb).trans e) f0 f1 f3 f4 f5
  have ek:=rel.get (List.getElem?_eq_getElem hi) (List.getElem?_eq_getElem hv)
  refine⟨key,rfl,letGo_keyiter EC ⟨kV kvs[i].1,H,I1,?_,⟨rfl,kvs[i],List.getElem?_eq_getElem hi,rfl⟩,EC,fun b hb=>(hf b hb).1⟩⟩
  rw [ek]
  exact ES hk
 done:=by
  intro X hP hw hK hc i pins s σ H E I hf st hg
  subst hP hw hK
  obtain⟨hi,ha⟩:=hg
  obtain⟨ho,_⟩:=I.bw a _ ha
  obtain⟨f0,f1,f2,f3,f4,f5⟩:=hf it (by simp)
  have hl:=rel.length
  exact wpAny_pyNext_dict_end (I.ok.hd hc) st (dat _ ho) (List.getElem?_eq_none (by omega)) fun h' eb=>⟨rfl,I.turned (t':=s.toks) (fun b o hb e=>eb b o hb e) f0 f1 f3 f4 f5⟩
 self:=fun _ _ _ _ _ st h=>wpAny_pyIter_keyiter st h
noncomputable def Oi (tl:TE):TI:=fun σ H R=>tl σ H fun x H1=>∃a kvs,x=.ref a∧H1 a=some (.dK kvs)∧∀o,R (Itd a o kvs) (upd H1 a (.dF o (.dK kvs)))
theorem ET {X:Cx}{tg l:Expr}{tl:TE}(hl:PE X l tl):PI X tg l (Oi tl):=by
 intro pins s σ H R I h
 refine b_ (hl pins s σ H _ I h) fun v s1 ⟨x,H1,I1,r1,q1⟩=>?_
 obtain⟨a,kvs,e,ha,q⟩:=q1
 subst e
 cases r1
 obtain⟨z,hd,vs,rel,dd⟩:=kJ I1.bw ha
 obtain⟨o,ho,I2⟩:=I1.freeze ha
 obtain⟨ep,dat⟩:=dd.dictAt
 have HC:∀h:Heap,h.get? a=some o→h.DictAt (br X.prog X.w) a vs ep:=fun h e=>by
  obtain⟨o',es,h1,h2⟩:=dat
  rw [ho] at h1
  cases h1
  exact⟨o,es,e,h2⟩
 refine wpAny_pyIter_dict hd dat ?_
 refine⟨s1.heap.objs.size,[s1.heap.objs.size],_,_,_,rfl,I2.kept (t':=s1.toks) fun b o e=>Heap.get?_push_of_some _ e,FN hd rel HC,⟨_,Heap.get?_push_size _ rfl,rfl,rfl⟩,fun b hb=>?_,q o⟩
 have e:b=s1.heap.objs.size:=by simpa using hb
 subst e
 exact I2.Fs (Nat.le_refl _) (I2.bw.fresh (Nat.le_refl _))
noncomputable def V3 (H₀:Hp) (D:Ends):Ends:={nx:=fun σ H=>D.nx σ H∨∃a kvs H',LZ H₀ a kvs H H'∧D.nx σ H',rt:=fun v H=>D.rt v H∨∃a kvs H',LZ H₀ a kvs H H'∧D.rt v H',bk:=D.bk,ct:=D.ct}
noncomputable def Oj (H₀:Hp) (t:TS):TS:=fun D σ H=>t (V3 H₀ D) σ H
theorem ou {X:Cx}{st:Stmt}{t:TS}(h:PS X st t):PS X st (Oj X.H₀ t):=fun pins s σ H D I q=>by
 refine b_ (h pins s σ H _ I q) fun f s' h=>?_
 cases f with
 | next=>
  obtain⟨σ',H',i,d⟩:=h
  rcases d with d | ⟨a,kvs,H2,th,d⟩
  ·exact⟨σ',H',i,d⟩
  ·exact⟨σ',H2,i.HB th,d⟩
 | brk=>exact h
 | cont=>exact h
 | ret u=>
  obtain⟨v,σ',H',i,r,d⟩:=h
  rcases d with d | ⟨a,kvs,H2,th,d⟩
  ·exact⟨v,σ',H',i,r,d⟩
  ·exact⟨v,σ',H2,i.HB th,r,d⟩
theorem L0 {a:Addr}{o:Obj}{kvs:List (Key×V)}{g:TG}{tb:TS}{D:Ends}{σ:St}{H:Hp}(Pv:Nat→St→Hp→Prop) (h0:Pv 0 σ H) (hl:∀i σ H,i≤kvs.length→Pv i σ H→H a=some (.dF o (.dK kvs)))
  (hs:∀i kv σ H,kvs[i]?=some kv→Pv i σ H→g (kV kv.1) σ H fun σ2 H2=>tb {D with nx:=Pv (i+1),ct:=Pv (i+1),bk:=D.nx} σ2 H2) (hd:∀σ H,Pv kvs.length σ H→D.nx σ H):FI (Itd a o kvs) g tb D σ H:=by
 refine⟨fun i m σ H=>m=kvs.length - i∧i≤kvs.length∧Pv i σ H,⟨kvs.length,by simp,Nat.zero_le _,h0⟩,?_⟩
 rintro i m σ H ⟨rfl,hi,p⟩
 have q:=hl i σ H hi p
 by_cases jJ:i < kvs.length
 ·refine .inr ⟨⟨jJ,q⟩,Pv (i+1),fun σ' H' p'=>⟨kvs.length - (i+1),by omega,rfl,jJ,p'⟩,fun x H' y=>?_⟩
  obtain⟨rfl,kv,e,rfl⟩:=y
  exact hs i kv σ _ e p
 ·have e:i=kvs.length:=by omega
  subst e
  exact .inl ⟨⟨Nat.le_refl _,q⟩,hd σ H p⟩
end L2
namespace L2
open PySem PySem.Spec PyProof.Rows
section
variable {prog:Program}{w:World}{A:Around}{E:Value→Shared→Prop}{s:Shared}
end
section
variable {X:Cx}
end
section
variable {X:Cx}
end
end L2
namespace L2
open PySem PySem.Spec PyProof.Rows
section
variable {X:Cx}
end
end L2
namespace L2
open PySem PySem.Spec PyProof.Rows
noncomputable def V4 (H₀:Hp) (Q:VK):VK:=fun v H=>Q v H∨∃a kvs H',LZ H₀ a kvs H H'∧Q v H'
noncomputable def HD (H₀:Hp) (t:TE):TE:=fun σ H Q=>t σ H (V4 H₀ Q)
theorem L1 {X:Cx}{e:Expr}{t:TE}(h:PE X e t):PE X e (HD X.H₀ t):=fun pins s σ H Q I q=>by
 refine b_ (h pins s σ H _ I q) fun v s' h=>?_
 obtain⟨x,H',i,r,d⟩:=h
 rcases d with d | ⟨a,kvs,H2,th,d⟩
 ·exact⟨x,H',i,r,d⟩
 ·exact⟨x,H2,i.HB th,r,d⟩
section
variable {a D:Addr}{o:Obj}{kvs:List (Key×V)}{fr:List Nat}{tt:TT}{te:TE}{σ:St}{H:Hp}{Q:Hp→Prop}
end
end L2
namespace L2
open PySem PySem.Spec PyProof.Rows
section
variable {X:Cx}
end
end L2
namespace L2
open PySem PySem.Spec PyProof.Rows
section
variable {X:Cx}
end
end L2
namespace L2
open PySem PySem.Spec PyProof.Rows
noncomputable def V5 (K:PySem.W.Frag):R2:=fun x y H Q=>Rv K x y H Q∨nC K x y H Q
theorem HE {X:Cx}:U3 X (V5 X.K):=fun value slice pins s σ H x y v u Q I rx ry h hs=>by
 rcases h with h | h
 ·exact dA value slice pins s σ H x y v u Q I rx ry h hs
 ·exact ao value slice pins s σ H x y v u Q I rx ry h hs
theorem aY.no {P:Program}{w:World}{K:PySem.W.Frag}{mg:Str→Option Value}{base:Heap}{CX:rL}{k:Nat}{f:Addr}{fd:FuncData}{ps:List Str}:aY P w K mg base CX k f fd ps (fun _ _ _ _=>False):=
 ⟨fun _ _ _ _ h=>h.elim,fun _ _ _ _ _ _ _ _ _ _=>by
  intros
  exact False.elim (by assumption)⟩
noncomputable def RY:D→String
 | .bj=>"NoneType"
 | .bl _=>"bool"
 | .int _=>"int"
 | .str _=>"str"
 | .lst _=>"list"
 | .tup _=>"tuple"
theorem fH.ty {K:PySem.W.Frag}{H:Hp}{x:V}{d:D}(h:fH K H x d):U7 K H x (.type (RY d)):=by
 cases h with
 | bj=>exact .ty .bj
 | bl b=>exact .ty (.bl b)
 | int i=>exact .ty (.int i)
 | str x=>exact .ty (.str x)
 | lst h _ _=>exact .lst h
 | tup h _ _=>exact .tup h
noncomputable def isN (t n:String):Bool:=t == n || (t == "bool"&&n == "int")
noncomputable def isT (d:D) (n:String):Bool:=isN (RY d) n
theorem aaz (K:PySem.W.Frag) (t n:String) (ht:t="NoneType"∨t="bool"∨t="int"∨t="str"∨t="list"∨t="tuple") (hn:n="bool"∨n="str"∨n="int"∨n="tuple"∨n="list"∨n="dict"):PySem.W.kitOne K (.type t) (.type n)=some (isN t n):=by
 rcases ht with rfl | rfl | rfl | rfl | rfl | rfl <;> rcases hn with rfl | rfl | rfl | rfl | rfl | rfl <;>
  first
  | exact xH K _
  | exact EJ K (by decide +kernel) (by decide +kernel) (by decide +kernel)
theorem FO (K:PySem.W.Frag) (d:D) (n:String) (hn:n="bool"∨n="str"∨n="int"∨n="tuple"∨n="list"∨n="dict"):PySem.W.kitOne K (.type (RY d)) (.type n)=some (isT d n):=by
 refine aaz K _ n ?_ hn
 cases d <;> simp [RY]
end L2
namespace L2
open PySem PySem.Spec PyProof.Rows
open AutoSeq1 (wpAny_loadPart')
section
variable {X:Cx}
theorem FP:Ry X "dict.clear" (fun x vs H Q=>∃(a:Addr) (kvs:List (Key×V)),x=.ref a∧vs=[]∧H a=some (.dK kvs)∧Q .bj (upd H a (.dK []))):=by
 intro pins s σ H x vs v us Q I rx rv h
 obtain⟨a,kvs,rfl,rfl,ha,q⟩:=h
 cases rx
 cases rv
 exact LY I ha fun s' I'=>⟨.bj,_,I',rfl,q⟩
theorem FQ:Ry X "dict.values" (fun x vs H Q=>∃(a:Addr) (kvs:List (Key×V)),x=.ref a∧vs=[]∧Rd H a (.dK kvs)∧∀p,H p=none→Q (.ref p) (upd H p (.ext fun h=>h.IsValuesView p a))):=by
 intro pins s σ H x vs v us Q I rx rv h
 obtain⟨a,kvs,rfl,rfl,ha,q⟩:=h
 cases rx
 cases rv
 obtain⟨z,hd,vs,rel,dd⟩:=jB I.bw ha
 refine call_meetsIn PySem.F.slot_dict_values dd.typeIs PySem.F.entry_dict_values (PySem.F.args_dict_values_1 _) (meets_dict_values (br X.prog X.w) a hd) ⟨⟨vs,dd⟩,.ref s.heap.objs.size,_,I.laid (a:=s.heap.objs.size) (t':=s.toks) (fun b o hb=>Heap.get?_push_of_some _ hb) (Nat.le_refl _) ?_,rfl,q _ (I.bw.fresh (Nat.le_refl _))⟩
 have e:=Heap.get?_push_size s.heap (o:={cls:=.type "dict_values",data:=.fields #[.ref a]}) rfl
 exact⟨⟨_,e,rfl,rfl⟩,⟨_,e⟩,fun h1 h2 ⟨o,e1,c,d⟩ k=>⟨o,k o e1,c,d⟩⟩
end
section
variable {prog:Program}{w:World}{A:Around}{E:Value→Shared→Prop}{s:Shared}
end
section
variable {X:Cx}
theorem KV.RZ:∀{kvs:List (Key×V)}{vs:List (Key×Value)}{i:Nat}{p:Key×V}{q:Key×Value},KV kvs vs→kvs[i]?=some p→vs[i]?=some q→RelV p.2 q.2
 | _,_,0,_,_,.cons r _,h1,h2=>by
  cases h1
  cases h2
  exact r.2
 | _,_,i+1,_,_,.cons _ t,h1,h2=>KV.RZ (i:=i) t (by simpa using h1) (by simpa using h2)
end
section
variable {prog:Program}{w:World}{A:Around}{E:Value→Shared→Prop}{s:Shared}
end
section
variable {X:Cx}
noncomputable def R0 (K:PySem.W.Frag) (tl:TE):TI:=fun σ H R=>tl σ H fun x H1=>∃a:Addr,x=.ref a∧(∃xs,bN K H1 a xs)∧R (Ite K a 0) H1
end
end L2
namespace L2
open PySem PySem.Spec PyProof.Rows
noncomputable def bE (fr:List Nat) (σ:St) (v v2:Option V):St:=v::v2::fr.map fun j=>(σ[j]?).join
structure tX (X:Cx) (x x2:Str) (ns:List Str) (fr:List Nat) (scope:Scope) (cl:List (Str×Addr)):Prop where
 uR:closureFor scope X.env=pure cl
 gC:∀y∈scope.names,y.2≠.cell
 kind:scope.kind=.function
 own:∀y∈scope.names,y.2=.local→scope.names.lookup y.1=some .local
 var:scope.names.lookup x=some .local
 HF:scope.names.lookup x2=some .local
 sub:∀z c,cl.lookup z=some c→X.env.cells.lookup z=some c
 has:∀z,((relabel scope X.env).names.lookup z=some .cell∨(relabel scope X.env).names.lookup z=some .free)→∃c,cl.lookup z=some c
 len:ns.length=fr.length
 xI:∀(k:Nat) z j,ns[k]?=some z→fr[k]?=some j→X.N[j]?=some z∧X.env.scope.names.lookup z=some .cell∧((relabel scope X.env).names.lookup z=some .cell∨(relabel scope X.env).names.lookup z=some .free)
 nd:(x::x2::ns).Nodup
noncomputable def jb (K:PySem.W.Frag) (J:It) (fr:List Nat) (tt:TT) (te:TE) (σ:St) (D:Addr) (Q:Hp→Prop) (H:Hp):Prop:=
 ∃W:Nat→Nat→Hp→Prop,(∃m,W 0 m H)∧∀i m H2,W i m H2→(J.stop i H2∧Q H2)∨(J.go i H2∧∀v H',J.Ri i H2 v H'→∃t va vb,v=.ref t∧bZ K H' t [va,vb]∧tt (bE fr σ (some va) (some vb)) H' fun b H3=>
  if b=true then te (bE fr σ (some va) (some vb)) H3 fun y H4=>∃ys,H4 D=some (.lst ys)∧ys.length < sizeLine∧∃m',m' < m∧W (i+1) m' (upd H4 D (.lst (ys++[y])))else ∃m',m' < m∧W (i+1) m' H3)
section
variable {X:Cx}{pins:List (Addr×Obj)}{σ:St}{H:Hp}{s:Shared}{x x2:Str}{ns:List Str}{fr:List Nat}{scope:Scope}{cl:List (Str×Addr)}{fp:List Addr}
theorem HG (I:Inv X pins σ H s) (L:tX X x x2 ns fr scope cl) (hf:∀b∈fp,fY X pins H b) (ho:∀b∈fp,b < s.heap.objs.size):(cD X (x::x2::ns) scope cl s.heap.objs.size s H fp).Ok where
 mod:=I.ok.mod
 kind:=L.kind
 glob:=I.ok.glob
 blt:=I.ok.blt
 above:=Nat.le_refl _
 inj:=fun a b c h1 h2=>I.ok.inj a b c (L.sub a c h1) (L.sub b c h2)
 has:=fun z h=>L.has z h
 NS:=fun _ _ h=>nomatch h
 hd:=I.ok.hd
 frames:=I.ok.frames
 Q8:=.inl rfl
 Lx:=fun b hb=>⟨Nat.ne_of_lt (ho b hb),fun z c h=>(hf b hb).2.2.2.2.1 z c (L.sub z c h)⟩
 bs:=I.bs
 Ey:=Nat.le_trans I.ok.Ey I.sz
 uD:=fun b o e hb=>by
  rcases (hf b hb).2.2.2.1 with h | h
  ·exact I.ok.uD b o e h
  ·exact absurd (Nat.lt_of_lt_of_le (Heap.lt_size e) (Nat.le_trans I.ok.Ey h)) (Nat.lt_irrefl _)
 uE:=fun b hb hs=>by
  rcases List.mem_cons.mp (I.uF b hs)with h | h
  ·exact(hf b hb).2.1 h
  ·exact(hf b hb).2.2.1 h
 jG:=I.stack
 Ll:=I.i7
theorem HH {fr:List Nat}{σ:St}{v v2:Option V}{k:Nat}{u:V}(h:(bE fr σ v v2)[k+2]?=some (some u)):∃j,fr[k]?=some j∧σ[j]?=some (some u):=by
 unfold bE at h
 rw [List.getElem?_cons_succ,List.getElem?_cons_succ,List.getElem?_map] at h
 cases e:fr[k]? with
 | none=>rw [e] at h; cases h
 | some j=>
  rw [e] at h
  refine⟨j,rfl,?_⟩
  cases e2:σ[j]? with
  | none=>simp [e2] at h
  | some o=>simp [e2] at h; rw [h]
theorem FR {h':Heap}{t':Nat}(I:Inv X pins σ H s) (L:tX X x x2 ns fr scope cl) (hf:∀b∈fp,fY X pins H b) (ho:∀b∈fp,b < s.heap.objs.size)
  (hn:h'.Ns s.heap.objs.size fun _=>none) (hk:∀b o,s.heap.get? b=some o→h'.get? b=some o) :
  Inv (cD X (x::x2::ns) scope cl s.heap.objs.size s H fp) [] (bE fr σ none none) H {s with heap:=h',toks:=t'} where
 ok:=HG I L hf ho
 os:=rfl
 bare:=I.bare
 base:=Un.kept hk
 loc:=by
  refine⟨_,hn,fun i z v e1 e2 e3=>?_⟩
  match i,e1,e2 with
  | 0,_,e2=>cases e2
  | 1,_,e2=>cases e2
  | k+2,e1,e2=>
   have VR:ns[k]?=some z:=e1
   obtain⟨j,ej,ev⟩:=HH e2
   obtain⟨hN,hc,hy⟩:=L.xI k z j VR ej
   obtain⟨m,hm,hl⟩:=I.loc
   obtain⟨u,r,l⟩:=hl j z v hN ev (.inr (.inl hc))
   refine⟨u,r,.inr ⟨hy,?_⟩⟩
   rcases l with ⟨l,_⟩ | ⟨_,c,Z5,⟨o,Lo,hd⟩⟩
   ·have:X.env.scope.names.lookup z=some .local:=l
    rw [hc] at this
    cases this
   ·obtain⟨c',NV⟩:=L.has z hy
    have e:=L.sub z c' NV
    rw [Z5] at e
    cases e
    exact⟨c,NV,o,hk c o Lo,hd⟩
 cell:=fun z c e=>by
  obtain⟨v,o,Lo,hd⟩:=I.cell z c (L.sub z c e)
  exact⟨v,o,hk c o Lo,hd⟩
 free:=I.fresh
 ez:=fun z c e=>I.ez z c (L.sub z c e)
 pin:=fun p hp=>nomatch hp
 bw:=I.bw.kept hk
 len:=by
  show(bE fr σ none none).length=(x::x2::ns).length
  unfold bE
  rw [List.length_cons,List.length_cons,List.length_map,List.length_cons,List.length_cons,L.len]
theorem FT {elt iter:Expr}{px HI tp:Pos}{kt:Nat}{ifs:List Expr}{pos:Pos}{J:It}{it D:Addr}{tn:Nat→Heap→Prop}{tt:TT}{te:TE}{Qe:Hp→Prop}{R:Result→Shared→Prop}{s4:Shared}
  (hc:X.calm=true) (L:tX X x x2 ns fr scope cl) (T:Turn X.prog X.w X.K (.Tuple [.Name x px,.Name x2 HI] kt tp) J fp it tn) (hf:∀b∈fp,fY X pins H b) (ho:∀b∈fp,b < s.heap.objs.size) (I:Inv X pins σ H s)
  (hE:PE (cD X (x::x2::ns) scope cl s.heap.objs.size s H fp) elt te) (hT:xJ (PT (cD X (x::x2::ns) scope cl s.heap.objs.size s H fp)) ifs tt) (hw:jb X.K J fr tt te σ D Qe H)
  (I4:Inv (cD X (x::x2::ns) scope cl s.heap.objs.size s H fp) [] (bE fr σ none none) H s4) (VS:tn 0 s4.heap)
  (hR:∀(s':Shared) (H':Hp) (v v2:Option V),Inv (cD X (x::x2::ns) scope cl s.heap.objs.size s H fp) [] (bE fr σ v v2) H' s'→Qe H'→R (.ok .next) s') :
  codeAny (model X.prog X.w) X.A (.compStart (.ListComp elt [⟨.Tuple [.Name x px,.Name x2 HI] kt tp,iter,ifs,0⟩] scope pos) 0 (.ref it) (.ref D) (compEnvC scope cl s.heap.objs.size X.env)) R s4:=by
 obtain⟨W,⟨m0,w0⟩,turn⟩:=hw
 have Lp:=HG I L hf ho
 have Z6:Loc (cD X (x::x2::ns) scope cl s.heap.objs.size s H fp).env.scope x:=.inl (lookup_relabel_local L.var)
 have oF:∀{H':Hp},(∀b∈fp,H' b=none)→∀b∈fp,fY (cD X (x::x2::ns) scope cl s.heap.objs.size s H fp) [] H' b:=fun hn b hb=>
  ⟨hn b hb,(Lp.Lx b hb).1,Lp.uE b hb,.inl hb,(Lp.Lx b hb).2,fun p hp=>nomatch hp⟩
 have fr0:∀b∈fp,H b=none:=fun b hb=>(hf b hb).1
 have loop:codeAny (model X.prog X.w) X.A (.compLoop (.ListComp elt [⟨.Tuple [.Name x px,.Name x2 HI] kt tp,iter,ifs,0⟩] scope pos) 0 (.ref it) (.ref D) (compEnvC scope cl s.heap.objs.size X.env)) R s4:=by
  refine codeAny_loop rfl (fun n s'=>∃i v v2 H',Inv (cD X (x::x2::ns) scope cl s.heap.objs.size s H fp) [] (bE fr σ v v2) H' s'∧tn i s'.heap∧(∀b∈fp,H' b=none)∧W i n H') (fun n s3 hI=>?_) m0 ⟨0,none,none,H,I4,VS,fr0,w0⟩
  obtain⟨i,v0,v02,H3,I3,N4,Fv,w3⟩:=hI
  show wpAny _ X.A ((compTurn (.ListComp elt [⟨.Tuple [.Name x px,.Name x2 HI] kt tp,iter,ifs,0⟩] scope pos) 0 (.ref it) (.ref D) (compEnvC scope cl s.heap.objs.size X.env)).onRaise (fun y=>do noteFrame y (compEnvC scope cl s.heap.objs.size X.env); theTreesLotGoes y)) _ _ s3
  refine wpAny_noted ?_
  rw [compTurn_list]
  have low:∀{α:Type}{t:Sem α}{Q Q':α→Shared→Prop}{E:Value→Shared→Prop}{s5:Shared},wpAny (model X.prog X.w) X.A t Q (fun _ _=>False) s5→(∀a s6,Q a s6→Q' a s6)→wpAny (model X.prog X.w) X.A t Q' E s5:=
   fun h hq=>wpAny_mono h hq fun _ _ z=>z.elim
  rcases turn i n H3 w3 with ⟨stop,q⟩ | ⟨go,step⟩
  ·refine wpAny_bind (wpAny_standAt (wpAny_bind (low (T.done (cD X (x::x2::ns) scope cl s.heap.objs.size s H fp) rfl rfl rfl hc i [] s3 _ H3 (fun _ _=>False) I3 (oF Fv) N4 stop) fun r s5 hr=>?_)))
   obtain⟨hr,I5⟩:=hr
   subst hr
   exact wpAny_pure (hR s5 H3 v0 v02 I5 q)
  ·refine wpAny_bind (wpAny_standAt (wpAny_bind (low (T.item (cD X (x::x2::ns) scope cl s.heap.objs.size s H fp) rfl rfl rfl hc i [] s3 _ H3 (fun _ _=>False) I3 (oF Fv) N4 go) fun r s5 hr=>?_)))
   obtain⟨u,hr,h5⟩:=hr
   subst hr
   refine wpAny_bind (low h5 fun _ s6 h6=>?_)
   obtain⟨y,H6,I6,r6,y6,RF,fr6⟩:=h6
   have I6':=I6.pinned (oF fr6) (T.obj _ _ RF)
   obtain⟨t,va,vb,ey,hsq,xM⟩:=step y _ y6
   subst ey
   have aaA:Loc (cD X (x::x2::ns) scope cl s.heap.objs.size s H fp).env.scope x2:=.inl (lookup_relabel_local L.HF)
   have hg:PG (cD X (x::x2::ns) scope cl s.heap.objs.size s H fp) (.Tuple [.Name x px,.Name x2 HI] kt tp) (Rf X.K 2 (EB (oE 0) (EB (oE 1) Rc))):=
    jI (X:=cD X (x::x2::ns) scope cl s.heap.objs.size s H fp) hc (cf (bL (i:=0) L.nd rfl Z6 (.inr (lookup_relabel_local L.var))) (cf (bL (i:=1) L.nd rfl aaA (.inr (lookup_relabel_local L.HF))) gv))
   refine wpAny_bind (low (hg _ s6 _ H6 (.ref t) u (fun σ' H'=>σ'=bE fr σ (some va) (some vb)∧H'=H6) I6' r6 ⟨t,[va,vb],rfl,hsq,rfl,va,[vb],rfl,vb,[],rfl,rfl,rfl,rfl⟩) fun _ s7 h7=>?_)
   obtain⟨σ7,H7,I7,e7,e7'⟩:=h7
   subst e7 e7'
   have back:∀{H8:Hp}{s8:Shared},Inv (cD X (x::x2::ns) scope cl s.heap.objs.size s H fp) ([]++iw fp s6.heap) (bE fr σ (some va) (some vb)) H8 s8→(∃m',m' < n∧W (i+1) m' H8) →
     ∃m,m < n∧∃i v v2 H',Inv (cD X (x::x2::ns) scope cl s.heap.objs.size s H fp) [] (bE fr σ v v2) H' s8∧tn i s8.heap∧(∀b∈fp,H' b=none)∧W i m H':=fun {H8 s8} I8 hm=>by
    obtain⟨m',hm,w8⟩:=hm
    refine⟨m',hm,i+1,some va,some vb,H8,I8.iy,T.keep _ _ _ RF fun b hb o e=>(I8.pin (b,o) (List.mem_append_right _ (List.mem_append_right _ (eJ hb e)))).1,fun b hb=>?_,w8⟩
    obtain⟨o,e,d⟩:=T.obj _ _ RF b hb
    exact(I8.pin (b,o) (List.mem_append_right _ (List.mem_append_right _ (eJ hb e)))).2.1
   have emit:∀{H8:Hp}{s8:Shared},Inv (cD X (x::x2::ns) scope cl s.heap.objs.size s H fp) ([]++iw fp s6.heap) (bE fr σ (some va) (some vb)) H8 s8 →
     te (bE fr σ (some va) (some vb)) H8 (fun y H4=>∃ys,H4 D=some (.lst ys)∧ys.length < sizeLine∧∃m',m' < n∧W (i+1) m' (upd H4 D (.lst (ys++[y])))) →
     wpAny (model X.prog X.w) X.A (do let _ ←call (.builtin "list.append") [.ref D,←eval elt (compEnvC scope cl s.heap.objs.size X.env)]) (fun _ s9=>∃m,m < n∧∃i v v2 H',Inv (cD X (x::x2::ns) scope cl s.heap.objs.size s H fp) [] (bE fr σ v v2) H' s9∧tn i s9.heap∧(∀b∈fp,H' b=none)∧W i m H') (fun _ _=>False) s8:=fun {H8 s8} I8 h8=>by
    refine wpAny_bind (b_ (hE _ s8 _ H8 _ I8 h8) fun v9 s9 h9=>?_)
    obtain⟨z,H9,I9,r9,ys,hD,hlen,hm⟩:=h9
    refine wpAny_bind (b_ (eN (X:=cD X (x::x2::ns) scope cl s.heap.objs.size s H fp) _ s9 _ H9 (.ref D) [z] (.ref D) [v9] (fun _ H'=>∃m',m' < n∧W (i+1) m' H') I9 rfl (.cons r9 .nil) ⟨D,ys,z,rfl,rfl,hD,hlen,hm⟩) fun v10 U6 h10=>?_)
    obtain⟨_,Z7,I10,_,RG⟩:=h10
    exact wpAny_pure (back I10 RG)
   cases hT with
   | nil=>
    refine wpAny_bind (wpAny_tests_nil ?_)
    refine wpAny_bind (low (emit I7 (xK xM)) fun _ s9 h9=>wpAny_pure ⟨rfl,h9⟩)
   | one hP=>
    refine wpAny_bind (wpAny_tests_one (low (hP _ s7 _ _ _ I7 xM) fun b s8 h8=>?_))
    obtain⟨H8,I8,q8⟩:=h8
    cases b with
    | false=>
     have q9:∃m',m' < n∧W (i+1) m' H8:=q8
     exact wpAny_pure ⟨rfl,back I8 q9⟩
    | true=>
     exact wpAny_bind (low (emit I8 q8) fun _ s9 h9=>wpAny_pure ⟨rfl,h9⟩)
 exact codeAny_compStart_list loop (T.self X.A 0 _ _ _ VS loop)
theorem FU {s':Shared}{H':Hp}{σ':St}(I:Inv X pins σ H s) (hf:∀b∈fp,fY X pins H b) (I':Inv (cD X (x::x2::ns) scope cl s.heap.objs.size s H fp) [] σ' H' s'):Inv X pins σ H' s':=
 I.EA (ch:=fp) I'.os I'.base I'.bw I'.bare fun b hb=>⟨(hf b hb).2.2.2.1,(hf b hb).2.1,(hf b hb).2.2.2.2.1,(hf b hb).2.2.2.2.2⟩
theorem L3 {elt iter:Expr}{px HI tp:Pos}{kt:Nat}{ifs:List Expr}{pos:Pos}{J:It}{it:Addr}{tn:Nat→Heap→Prop}{tt:TT}{te:TE}{Qe:Addr→Hp→Prop}{R:Value→Addr→Result→Shared→Prop}{E:Value→Shared→Prop}
  (hc:X.calm=true) (L:tX X x x2 ns fr scope cl) (T:Turn X.prog X.w X.K (.Tuple [.Name x px,.Name x2 HI] kt tp) J fp it tn) (hf:∀b∈fp,fY X pins H b) (I:Inv X pins σ H s) (st:tn 0 s.heap)
  (hE:∀C s H,PE (cD X (x::x2::ns) scope cl C s H fp) elt te) (hT:∀C s H,xJ (PT (cD X (x::x2::ns) scope cl C s H fp)) ifs tt) (hw:∀D,H D=none→jb X.K J fr tt te σ D (Qe D) (upd H D (.lst [])))
  (hR:∀(D C:Addr) (s':Shared) (H':Hp),Inv X pins σ H' s'→Qe D H'→(∃m o,s'.heap.get? C=some o∧(∀v,o.data≠.cell v)∧∀h':Heap,h'.get? C=some o→h'.Ns C m)→H' C=none→C≠X.env.locals→C∉X.fs→X.s₀.heap.objs.size≤C →
   (∀z c,X.env.cells.lookup z=some c→c≠C)→(∀p∈X.pn++pins,p.1≠C)→R (.ref D) C (.ok .next) s') :
  wpAny (model X.prog X.w) X.A (newList []) (fun acc s₃=>wpAny (model X.prog X.w) X.A (newFunctionEnv scope X.env.globals cl [] X.env.qual none .none (some X.env)) (fun Hk s₄=>
   codeAny (model X.prog X.w) X.A (.compStart (.ListComp elt [⟨.Tuple [.Name x px,.Name x2 HI] kt tp,iter,ifs,0⟩] scope pos) 0 (.ref it) acc {Hk with scope:=relabel scope X.env}) (R acc Hk.locals) s₄) E s₃) E s:=by
 have ho:∀b∈fp,b < s.heap.objs.size:=fun b hb=>by
  obtain⟨o,e,_⟩:=T.obj _ _ st b hb
  exact Heap.lt_size e
 have I3:Inv X pins σ (upd H s.heap.objs.size (.lst [])) {s with heap:=s.heap.push {cls:=.type "list",dict:=none,data:=.seq ([]:List Value).toArray}}:=I.LJ (t':=s.toks) (.nil) (Nat.zero_le _)
 refine wpAny_newObj_type (wpAny_newFunctionEnv L.gC (by intro y hy; simp at hy) (fun h1 BI BK=>?_) L.kind)
 dsimp only at BI BK ⊢
 generalize VT:({s with heap:=s.heap.push {cls:=.type "list",dict:=none,data:=.seq ([]:List Value).toArray}}:Shared)=s3 at I3
 have eh:s.heap.push {cls:=.type "list",dict:=none,data:=.seq ([]:List Value).toArray}=s3.heap:=by rw [←VT]
 rw [eh] at BI BK ⊢
 have hz:s3.heap.objs.size=s.heap.objs.size+1:=by rw [←eh,Heap.size_push]
 have hk:∀b o,s3.heap.get? b=some o→h1.get? b=some o:=fun b o e=>BK.extBut b o (Nat.ne_of_lt (Heap.lt_size e)) (Heap.get?_push_of_some _ e)
 have RI:∀b∈fp,fY X pins (upd H s.heap.objs.size (.lst [])) b:=fun b hb=>⟨by rw [ak (Nat.ne_of_lt (ho b hb))]; exact(hf b hb).1,(hf b hb).2⟩
 have VU:∀b∈fp,b < s3.heap.objs.size:=fun b hb=>by rw [hz]; exact Nat.lt_succ_of_lt (ho b hb)
 have es:∀tk,({s with heap:=h1,toks:=tk}:Shared)={s3 with heap:=h1,toks:=tk}:=fun tk=>by rw [←VT]
 rw [es]
 have I4:=FR (t':=s.toks+([]:List (Str×Value)).length) I3 L RI VU BI hk
 refine FT hc L T RI VU I3 (hE _ _ _) (hT _ _ _) (hw _ I.fresh) I4 ?_ fun s' H' v v2 I' q=>?_
 ·refine T.keep _ _ _ st fun b hb o e=>hk b o ?_
  rw [←eh]
  exact Heap.get?_push_of_some _ e
 ·have IX:=FU I3 RI I'
  obtain⟨m,⟨o,Q_,ep,Bv,xl,hr'⟩,_⟩:=I'.loc
  refine hR _ _ s' H' IX q ⟨m,o,Bv,fun v z=>?_,fun h' e=>⟨o,Q_,ep,e,xl,hr'⟩⟩ I'.free (Nat.ne_of_gt I3.lt) (I3.Q9 (Nat.le_refl _)) I3.sz (fun z c e=>?_) fun p hp=>?_
  ·rw [xl] at z
   cases z
  ·obtain⟨v,o2,e2,_⟩:=I3.cell z c e
   exact Nat.ne_of_lt (Heap.lt_size e2)
  ·exact Nat.ne_of_lt (Heap.lt_size (I3.pin p hp).1)
noncomputable def V6 (K:PySem.W.Frag) (wi:TI) (fr:List Nat) (tt:TT) (te:TE):TE:=fun σ H Q=>wi σ H fun J H1=>∀D,H1 D=none→jb K J fr tt te σ D (fun H2=>Q (.ref D) H2) (upd H1 D (.lst []))
theorem HJ {elt iter:Expr}{px HI tp pos:Pos}{kt:Nat}{ifs:List Expr}{wi:TI}{tt:TT}{te:TE}(hc:X.calm=true) (L:tX X x x2 ns fr scope cl) (hi:PI X (.Tuple [.Name x px,.Name x2 HI] kt tp) iter wi)
  (hE:∀C s H fp,PE (cD X (x::x2::ns) scope cl C s H fp) elt te) (hT:∀C s H fp,xJ (PT (cD X (x::x2::ns) scope cl C s H fp)) ifs tt)
  (hs:∀v,foldedSetIterable iter X.env v=pure v:=by intro _; rfl):PE X (.ListComp elt [⟨.Tuple [.Name x px,.Name x2 HI] kt tp,iter,ifs,0⟩] scope pos) (V6 X.K wi fr tt te):=by
 intro pins s σ H Q I h
 rw [eval_ListComp]
 refine wpAny_comprehension_free (use:=none) rfl hs L.uR L.kind L.own (b_ (hi pins s σ H _ I h) fun v s1 h1=>b_ h1 fun ZZ s2 h2=>?_)
 obtain⟨it,fp,tn,J,H2,e,I2,T,Vw,f2,q⟩:=h2
 subst e
 refine L3 (R:=fun acc C=>compPost (model X.prog X.w) X.A X.xe none (EP X pins σ Q) acc C) hc L T f2 I2 Vw (fun C s H=>hE C s H fp) (fun C s H=>hT C s H fp) q ?_
 intro D C s' H' I' q' BI hn hl hfs hz tI RJ
 obtain⟨m,o,e,hd,hk⟩:=BI
 refine⟨m,hk _ e,fun h' BK=>?_⟩
 exact⟨.ref D,H',I'.turned (t':=s'.toks) (fun b o hb e=>BK.extBut b o hb e) hn hl (.inr hz) tI RJ,rfl,q'⟩
end
section
variable {X:Cx}{x x2:Str}{ns:List Str}{fr:List Nat}{scope:Scope}{cl:List (Str×Addr)}
theorem Ol (uR:closureFor scope X.env=pure cl) (gC:scope.names.all (fun y=>y.2 != .cell)=true) (kind:scope.kind=.function)
  (own:scope.names.all (fun y=>y.2 != .local || scope.names.lookup y.1 == some .local)=true) (var:scope.names.lookup x=some .local) (HF:scope.names.lookup x2=some .local) (sub:∀p∈cl,X.env.cells.lookup p.1=some p.2)
  (has:(relabel scope X.env).names.all (fun y=>!(y.2 == .cell || y.2 == .free) || (cl.lookup y.1).isSome)=true) (len:ns.length=fr.length)
  (fr_:∀p∈ns.zip fr,X.N[p.2]?=some p.1∧X.env.scope.names.lookup p.1=some .cell∧((relabel scope X.env).names.lookup p.1=some .cell∨(relabel scope X.env).names.lookup p.1=some .free)) (nd:(x::x2::ns).Nodup):tX X x x2 ns fr scope cl where
 uR:=uR
 gC:=fun y hy=>by simpa using List.all_eq_true.mp gC y hy
 kind:=kind
 own:=fun y hy h=>by
  have:=List.all_eq_true.mp own y hy
  rw [h] at this
  simpa using this
 var:=var
 HF:=HF
 sub:=fun z c h=>sub _ (oP h)
 has:=fun z h=>by
  have k:∀t,(relabel scope X.env).names.lookup z=some t→(t=.cell∨t=.free)→∃c,cl.lookup z=some c:=fun t ht hk=>by
   have:=List.all_eq_true.mp has _ (oP ht)
   rcases hk with rfl | rfl <;> simpa [Option.isSome_iff_exists] using this
  rcases h with h | h
  ·exact k _ h (.inl rfl)
  ·exact k _ h (.inr rfl)
 len:=len
 xI:=fun k z j h1 h2=>fr_ (z,j) (List.mem_of_getElem? (i:=k) (by rw [List.getElem?_zip_eq_some]; exact⟨h1,h2⟩))
 nd:=nd
end
end L2
namespace L2
open PySem PySem.Spec PyProof.Rows
open AutoSeq1 (wpAny_loadPart')
section
variable {prog:Program}{w:World}{A:Around}{E:Value→Shared→Prop}{s:Shared}
end
end L2
namespace L2
open PySem PySem.Spec PyProof.Rows
open AutoSeq1 (wpAny_loadPart')
section
variable {prog:Program}{w:World}{A:Around}{E:Value→Shared→Prop}{s:Shared}
end
end L2
namespace L2
open PySem PySem.Spec PyProof.Rows
open AutoSeq1 (wpAny_loadPart')
section
variable {prog:Program}{w:World}{A:Around}{E:Value→Shared→Prop}{s:Shared}
end
end L2
namespace L2
open PySem PySem.Spec PyProof.Rows
noncomputable def Itz (K:PySem.W.Frag) (l1 l2:Addr):It:=
  ⟨fun i H=>∃xs ys x y,bN K H l1 xs∧bZ K H l2 ys∧xs[i]?=some x∧ys[i]?=some y,
   fun i H v H'=>∃t x y,H t=none∧v=.ref t∧(∀xs,bN K H l1 xs→xs[i]?=some x)∧(∀ys,bZ K H l2 ys→ys[i]?=some y)∧H'=upd H t (.tup [x,y]),
   fun i H=>∃xs,bN K H l1 xs∧xs.length=i⟩
section
variable {X:Cx}
noncomputable def aaB (K:PySem.W.Frag) (tl tp:TE):TI:=fun σ H R=>tl σ H fun x H1=>tp σ H1 fun y H2=>∃a b:Addr,x=.ref a∧y=.ref b∧(∃xs,bN K H2 a xs)∧(∃ys,bZ K H2 b ys)∧R (Itz K a b) H2
end
end L2
namespace L2
open PySem PySem.Spec PyProof.Rows
section
variable {X:Cx}
theorem jc:fL X (.type "str") (fun xs H Q=>(∃i,xs=[.int i]∧i.natAbs.log2 < 1920∧Q (.str (toString i)) H)∨∃z,xs=[.str z]∧Q (.str z) H):=by
 intro pins s σ H xs us Q I r h
 rcases h with ⟨i,rfl,hz,q⟩ | ⟨z,rfl,q⟩
 ·obtain⟨u,rfl,t,rfl⟩:=vals1 r
  exact PySem.P.str_of_int hz ⟨.str _,H,I.tok _,⟨_,rfl⟩,q⟩
 ·obtain⟨u,rfl,t,rfl⟩:=vals1 r
  exact PySem.P.str_of_str ⟨.str z,H,I,⟨_,rfl⟩,q⟩
end
section
variable {X:Cx}
theorem FV {bs:List Bool}{us:List Value}(h:Vals (bs.map V.bl) us) {i:Nat}{v:Value}(hv:us[i]?=some v):v=.bool (bs.getD i false):=by
 have hl:=h.length
 rw [List.length_map] at hl
 have hi:=(List.getElem?_eq_some_iff.mp hv).1
 obtain⟨u,hu,ru⟩:=h.get (i:=i) (x:=V.bl (bs[i]'(by omega))) (by rw [List.getElem?_map,List.getElem?_eq_getElem (by omega)]; rfl)
 rw [hv] at hu
 cases hu
 have e:bs.getD i false=bs[i]'(by omega):=by simp [List.getD,show i < bs.length by omega]
 rw [e]
 cases ru
 rfl
theorem range_any (bs:List Bool):((List.range bs.length).any fun i=>bs.getD i false)=bs.any id:=by
 rw [Bool.eq_iff_iff,List.any_eq_true,List.any_eq_true]
 constructor
 ·rintro⟨i,hi,h⟩
  have hi:=List.mem_range.mp hi
  exact⟨_,List.getElem_mem hi,by simpa [List.getD,hi] using h⟩
 ·rintro⟨x,hx,h⟩
  obtain⟨i,hi,rfl⟩:=List.mem_iff_getElem.mp hx
  exact⟨i,List.mem_range.mpr hi,by simpa [List.getD,hi] using h⟩
theorem FW (hc:X.calm=true):fL X (.builtin "any") (fun xs H Q=>∃(p:Addr) (bs:List Bool),xs=[.ref p]∧bN X.K H p (bs.map V.bl)∧Q (.bl (bs.any id)) H):=by
 intro pins s σ H xs us Q I r h
 obtain⟨p,bs,rfl,hq,q⟩:=h
 obtain⟨u,rfl,rx⟩:=vals1 r
 cases rx
 obtain⟨bq,rv,pl,hz⟩:=I.list hq
 have jJ:p < s.heap.objs.size:=by
  obtain⟨o,e,_⟩:=pl.isList
  exact Heap.lt_size e
 have hl:=rv.length
 rw [List.length_map] at hl
 refine call_any_walk (wpAny_pyIter_list pl.isList ⟨s.heap.objs.size,_,_,_,_,_,fun i=>bs.getD i false,rfl,Walks.list (A:=X.A.in1) (I.ok.hd hc) s.heap.objs.size p (Nat.ne_of_lt jJ) bq.toArray,⟨⟨_,Heap.get?_push_size _ rfl,rfl,rfl⟩,?_⟩,fun i v s' Q' E' hP hQ=>?_,fun h' tk hk=>?_⟩)
 ·obtain⟨o,e,q2⟩:=pl.isList
  exact⟨o,Heap.get?_push_of_some _ e,q2⟩
 ·have hP:bq.toArray[i]?=some v:=hP
  have hP2:bq[i]?=some v:=by simpa using hP
  have ev:=FV rv hP2
  subst ev
  exact wpAny_pure hQ
 ·have e:bq.toArray.size=bs.length:=by simp [hl]
  rw [e,range_any]
  refine⟨.bl _,H,I.kept (t':=tk) (fun b o hb=>hk b o ?_ (Heap.get?_push_of_some _ hb)),rfl,q⟩
  intro z
  have z:b=s.heap.objs.size:=by simpa using z
  exact absurd (Heap.lt_size hb) (by rw [z]; exact Nat.lt_irrefl _)
end
end L2
namespace L2
open PySem PySem.Spec PyProof.Rows
open AutoSeq1 (wpAny_loadPart')
section
variable {prog:Program}{w:World}{A:Around}{E:Value→Shared→Prop}{s:Shared}
theorem EU {es:Array DictEntry}{p:DictEntry→Bool}{v:Value}(h:(es.toList.find? p).map (·.val)=some v):∃i,es.findIdx? p=some i∧(es[i]?).map (·.val)=some v:=by
 obtain⟨l⟩:=es
 cases e:l.find? p with
 | none=>rw [show(Array.mk l).toList=l from rfl,e] at h; cases h
 | some x=>
  rw [show(Array.mk l).toList=l from rfl,e] at h
  cases h
  have h1:p x=true:=List.find?_some e
  have hm:=List.mem_of_find?_eq_some e
  have hi:(l.findIdx? p).isSome=true:=by
   rw [List.findIdx?_isSome,List.any_eq_true]
   exact⟨x,hm,h1⟩
  obtain⟨i,hi⟩:=Option.isSome_iff_exists.mp hi
  refine⟨i,by simpa using hi,?_⟩
  have h2:l[i]?=some x:=by
   have:=List.find?_eq_getElem?_findIdx (p:=p) (xs:=l)
   have e3:=(List.findIdx?_eq_some_iff_findIdx_eq.mp hi).2
   rw [e3] at this
   rw [←this,e]
  show((Array.mk l)[i]?).map (·.val)=_
  rw [List.getElem?_toArray,h2]
  rfl
theorem R1 {δ:Type}{R:δ→Value→Prop}{a:Addr}{D:List (Str×δ)}{k:Str}{tk:Tok}{d:δ}{Q:Value→Shared→Prop}(ht:KTD.TabOf R s.heap a D) (hd:KTD.datumAt k D=some d)
  (h:∀v,R d v→Q v {s with toks:=s.toks+1}):wpAny (model prog w) A (call (.builtin "dict.get") [.ref a,.str k tk]) Q E s:=by
 obtain⟨hm,o,es,ep,ho,ex,FX,f9⟩:=ht
 obtain⟨v,hv,hR⟩:=f9.find_some hd
 obtain⟨i,hi,hiv⟩:=EU hv
 refine wpAny_call_entry PySem.F.slot_dict_get ⟨o,ho,ex.1⟩ PySem.F.entry_dict_get ?_ (PySem.F.args_dict_get_2 _ _)
 have xT:∀(Q':Option Value→Shared→Prop) (E':Value→Shared→Prop),Q' (some v) {s with toks:=s.toks+1}→wpAny (model prog w) A.in1 (dictGet a (.str k tk)) Q' E' s:=fun Q' E' hq=>by
  unfold dictGet
  refine wpAny_holding (wpAny_bind (wpAny_pyHash_str (wpAny_bind (KTD.kt_dictFind_strs (s:={s with toks:=s.toks+1}) ho FX (by rw [←Array.all_toList]; exact f9.exact) ?_))))
  rw [hi]
  refine wpAny_bind (wpAny_dictEntries (s:={s with toks:=s.toks+1}) ho FX (wpAny_pure ?_))
  rw [hiv]
  exact hq
 unfold Builtin.«dict.get»
 repeat (first | (refine xT _ _ ?_) | wp_step | (refine wpAny_loadPart' ho ?_))
 exact⟨v,rfl,h v hR⟩
end
noncomputable def lN (K:PySem.W.Frag) (a:Addr) (D:List (Str×Addr)):Prop:=KTD.tabLook (fun(b:Addr) (v:Value)=>v == .ref b) (fun b=>K.lookup b) a D=true
theorem lN.of {K:PySem.W.Frag}{a:Addr}{D:List (Str×Addr)}{h:Heap}(t:lN K a D) (X:K.In h):KTD.TabOf (fun(b:Addr) v=>v=.ref b) h a D:=
 KTD.tab_of_look (L:=fun(b:Addr) (v:Value)=>v == .ref b) (fun d v e=>by simpa using e) (fun b o e=>X b o e) t
section
variable {X:Cx}
theorem L4 {a:Addr}{D:List (Str×Addr)}(t:lN X.K a D):Z3 X "dict.get" (fun x vs H Q=>∃k b,x=.ref a∧vs=[.str k]∧KTD.datumAt k D=some b∧Q (.ref b) H):=by
 intro pins s σ H x vs v us Q I rx rv h
 obtain⟨k,b,rfl,rfl,hd,q⟩:=h
 cases rx
 obtain⟨u,rfl,tk,rfl⟩:=rv.one
 refine R1 (t.of fun c o e=>I.eZ c o e) hd fun v e=>?_
 subst e
 exact⟨.ref b,H,I.tok _,rfl,q⟩
noncomputable def Om (a:Addr) (D:List (Str×Addr)) (td ty:TE):TE:=fun σ H Q=>td σ H fun x H1=>x=.ref a∧ty σ H1 fun y H2=>∃k b,y=.str k∧KTD.datumAt k D=some b∧Q (.ref b) H2
end
noncomputable def Its (z:Str):It:=⟨fun i _=>i < z.cps.size,fun i H v H'=>(∃c,z.cps[i]?=some c∧v=.str ⟨#[c]⟩)∧H'=H,fun i _=>z.cps.size≤i⟩
section
variable {X:Cx}
noncomputable def aaC (tl:TE):TI:=fun σ H R=>tl σ H fun x H1=>∃z,x=.str z∧(z.cps.all fun x=>decide (x < 128))=true∧R (Its z) H1
end
theorem lN.mk {K:PySem.W.Frag}{a:Addr}{D:List (Str×Addr)}{es:Array DictEntry}{ep:Nat}(h0:(a == sysModules)=false) (h:K.lookup a=some ⟨.type "dict",none,.dict es ep,#[]⟩)
  (hr:KTD.rowsLook (fun(b:Addr) (v:Value)=>v == .ref b) es.toList D=true):lN K a D:=by
 unfold lN KTD.tabLook
 show(!(a == sysModules)&&(match K.lookup a with | some o=>o.cls == .type "dict"&&o.dict.isNone&&o.slots.isEmpty&&(match o.data with | .dict es _=>KTD.rowsLook (fun(b:Addr) (v:Value)=>v == .ref b) es.toList D | _=>false) | none=>false))=true
 rw [h,h0]
 show(true&&(((Value.type "dict" == Value.type "dict")&&true&&true)&&KTD.rowsLook (fun(b:Addr) (v:Value)=>v == .ref b) es.toList D))=true
 rw [hr,beq_self_eq_true]
 rfl
theorem a_ {hash:Int}{x:Str}{t:Tok}{u:Addr}{es:List DictEntry}{D:List (Str×Addr)}(h:KTD.rowsLook (fun(b:Addr) (v:Value)=>v == .ref b) es D=true) :
  KTD.rowsLook (fun(b:Addr) (v:Value)=>v == .ref b) (⟨hash,.str x t,.ref u⟩::es) ((x,u)::D)=true:=by
 unfold KTD.rowsLook
 show(x == x&&(Value.ref u == Value.ref u)&&_)=true
 rw [h,beq_self_eq_true,beq_self_eq_true]
 rfl
end L2
namespace L2
open PySem PySem.Spec PyProof.Rows
open PySem.NumText (AllDigits digitsVal)
noncomputable def nt (n:Nat):Str:=Str.ofString (toString (n:Int))
end L2
namespace L2
open PySem PySem.Spec PyProof.Rows
theorem ar.putD {H H3:Hp}{D:PySem.Addr}{o:HO}(h:ar H H3) (hD:H D=none):ar H (upd H3 D o):=fun b u e=>by
 have n:b≠D:=fun q=>by rw [q,hD] at e; cases e
 rw [ak n]
 exact h b u e
noncomputable def strsOf:List Expr→Option (List Str)
 | []=>some []
 | .Constant (.str x) _ _::r=>(strsOf r).map (x::·)
 | _=>none
noncomputable def V7 (ws:List Str):TA:=fun _ H Q=>Q (ws.map V.str) H
theorem uV {X:Cx}:∀{es:List Expr}{ws:List Str},strsOf es=some ws→PA X es (V7 ws)
 | [],ws,e=>by
  cases e
  exact ae
 | e::r,ws,h=>by
  unfold strsOf at h
  split at h
  ·next h1=>cases h1
  ·next x _ _ r' h1=>
   cases h1
   cases h2:strsOf r with
   | none=>
    rw [h2] at h
    cases h
   | some w2=>
    rw [h2] at h
    cases h
    exact aa av (uV h2)
  ·cases h
theorem Bs.strs {X:Cx}{i:Nat}{x:Str}{es:List Expr}{ws:List Str}{p1 p2 pos:Pos}{D:Ends}{σ:St}{H:Hp}(hN:X.N.Nodup) (hi:X.N[i]?=some x) (hx:Loc X.env.scope x) (he:strsOf es=some ws)
  (hs:swapsWith (.List es p2) (some (.Name x p1)) pos.line X.env=pure false) (hf:X.fn x=true∨X.env.scope.names.lookup x=some .local) (hl:ws.length≤1000)
  (q:∀l,H l=none→D.nx (σ.set i (some (.ref l))) (upd H l (.lst (ws.map V.str)))):Bs X (.Assign [.Name x p1] (.List es p2) pos) D σ H:=by
 refine Bs.of (bc hN hi hx (bG (uV he)) hs hf) ?_
 refine⟨?_,fun p hp=>q p hp⟩
 rw [List.length_map]
 exact Nat.le_of_lt (aQ hl)
noncomputable def hid (D:PySem.Addr) (H:Hp):Hp:=fun b=>if b=D then none else H b
end L2
namespace L2
open PySem PySem.Spec PyProof.Rows
section
variable {X:Cx}
noncomputable def tFs (c:Str) (te:TE):TE:=fun σ H Q=>c.length≤sizeLine∧te σ H fun v H1=>∃n:Int,v=.int n∧n.natAbs.log2 < 1920∧(c++(Str.ofString (toString n))).length≤sizeLine∧Q (.str (c++Str.ofString (toString n))) H1
end
end L2
namespace L2
open PySem PySem.Spec PyProof.Rows
section
variable {M:Model}{A:Around}{E:Value→Shared→Prop}{s:Shared}
structure Oo (l:List Env) (e:Addr) (oe:Obj) (T0:Option Addr) (h h':Heap):Prop where
 keep:∀b o,h.get? b=some o→b∉mE l→b≠e→some b≠T0→h'.get? b=some o
 slot:∀b o,h.get? b=some o→b∈mE l→∃sl,h'.get? b=some {o with slots:=sl}
 there:∀b o,h.get? b=some o→∃o',h'.get? b=some o'
 at_:∃T oT ts,h.objs.size≤T∧h'.get? e=some (Obj.mapFields (·.setIfInBounds 1 (.ref T)) oe)∧h'.get? T=some oT∧oT.data=.fields ts∧ts[3]?=some .none
theorem o_ {base:Heap}{env:Env}{outer:List Env}{L e:Addr}{oe:Obj}{vs:Array Value}{head:Value}{L5:Bool}{T0:Option Addr}{h0:Heap}{Q:Unit→Shared→Prop}
  (FY:A.frames=some (env::outer)) (hl:s.heap.FunFrames base (env::outer)) (hf:env.frame=some L)
  (he:s.heap.get? e=some oe) (hd:oe.data=.fields vs) (hsz:1 < vs.size)
  (k0:∀b o,h0.get? b=some o→some b≠T0→s.heap.get? b=some o) (k1:∀b o,h0.get? b=some o→∃o',s.heap.get? b=some o') (k2:h0.objs.size≤s.heap.objs.size) (k3:∀b∈mE (env::outer),some b≠T0)
  (h:∀h',Oo (env::outer) e oe T0 h0 h'→Q () {s with heap:=h'}) :
  wpAny M A (do let a ←frameOf env; let pl ←entryPlaceOf L L5; let b ←EntryCells.newEntry head a .none (rawInt L) .none pl; setField (.ref e) 1 b) (fun _ s'=>wpAny M A (setFlight (.ref e) none) Q E s') E s:=by
 have V8:e∉(env::outer).filterMap (·.frame):=fun hm=>by
  obtain⟨_,o,ho,Oq⟩:=hl.mem hm
  rw [he] at ho; injection ho with ho; subst ho; exact Oq vs hd
 refine wpAny_bind (wpAny_frameOf_fun FY hl hf fun h₁ xU=>?_)
 refine wpAny_bind (wpAny_entryPlaceOf fun pl mG=>?_)
 unfold EntryCells.newEntry newFields
 refine wpAny_bind (wpAny_newObj_type ?_ (mG.sizeOk5 _ _ _ _ _))
 have Ot:h₁.get? e=some oe:=(xU.2.1 e V8).trans he
 have Ou:=Heap.get?_push_of_some (h:=h₁) {cls:=.type "traceback",dict:=none,data:=.fields ([head,.ref L,.none,rawInt L,.none]++(if pl.isEmpty then List.replicate 6 Value.none else pl)).toArray} Ot
 refine wpAny_setField Ou hd hsz ?_
 have U9:h₁.objs.size≠e:=Nat.ne_of_gt (Heap.lt_size Ot)
 have Ov:=Obj.data_mapFields hd (·.setIfInBounds 1 (Value.ref h₁.objs.size))
 have HK:=Heap.get?_update_self (Obj.mapFields (·.setIfInBounds 1 (Value.ref h₁.objs.size))) Ou (Obj.isFreed_of_fields Ov)
 have Ow:=(Heap.get?_update_other (h₁.push {cls:=.type "traceback",dict:=none,data:=.fields ([head,.ref L,.none,rawInt L,.none]++(if pl.isEmpty then List.replicate 6 Value.none else pl)).toArray})
  (Obj.mapFields (·.setIfInBounds 1 (Value.ref h₁.objs.size))) (Ne.symm U9)).trans (Heap.get?_push_size h₁ rfl)
 unfold setFlight
 refine wpAny_bind (wpAny_field HK Ov (x:=.ref h₁.objs.size) (by simp [hsz]) ?_)
 rw [if_pos (show(Value.ref h₁.objs.size != Value.none)=true from by simp)]
 refine wpAny_setField Ow rfl (by simp only [List.size_toArray,List.length_append,List.length_cons,List.length_nil] <;> omega) (h _ ?_)
 have keep:∀b o,b≠e→h₁.get? b=some o →
   (((h₁.push {cls:=.type "traceback",dict:=none,data:=.fields ([head,.ref L,.none,rawInt L,.none]++(if pl.isEmpty then List.replicate 6 Value.none else pl)).toArray}).update e (Obj.mapFields (·.setIfInBounds 1 (Value.ref h₁.objs.size)))).update h₁.objs.size
    (Obj.mapFields (·.setIfInBounds 3 ((none:Option Addr).elim Value.none fun f=>rawInt f)))).get? b=some o:=fun b o Ex hb=>by
  have hbT:h₁.objs.size≠b:=Nat.ne_of_gt (Heap.lt_size hb)
  rw [Heap.get?_update_other _ _ hbT,Heap.get?_update_other _ _ (Ne.symm Ex)]
  exact Heap.get?_push_of_some _ hb
 have sz1:s.heap.objs.size≤h₁.objs.size:=Nat.le_of_eq xU.1.symm
 refine⟨fun b o hb FY Ex hT0=>?_,fun b o hb hm=>?_,fun b o hb=>?_,?_⟩
 ·exact keep b o Ex ((xU.2.1 b FY).trans (k0 b o hb hT0))
 ·obtain⟨sl,hs⟩:=xU.2.2 b o (k0 b o hb (k3 b hm))
  exact⟨sl,keep b _ (fun q=>V8 (q▸hm)) hs⟩
 ·obtain⟨o',Bv⟩:=k1 b o hb
  obtain⟨sl,hs⟩:=xU.2.2 b o' Bv
  by_cases Ex:b=e
  ·subst Ex
   exact⟨_,by rw [Heap.get?_update_other _ _ U9]; exact HK⟩
  ·exact⟨_,keep b _ Ex hs⟩
 ·refine⟨h₁.objs.size,_,_,by omega,?_,Heap.get?_update_self _ Ow (Obj.isFreed_of_fields (Obj.data_mapFields rfl _)),Obj.data_mapFields rfl _,by first | (simp; done) | (rcases mG with rfl | ⟨_,_,_,_,_,_,_,rfl⟩ <;> simp)⟩
  rw [Heap.get?_update_other _ _ U9]; exact HK
theorem leave1 {base:Heap}{env:Env}{outer:List Env}{L e:Addr}{oe:Obj}{vs:Array Value}{Q:Unit→Shared→Prop}
  (FY:A.frames=some (env::outer)) (hl:s.heap.FunFrames base (env::outer)) (hf:env.frame=some L) (he:s.heap.get? e=some oe) (hd:oe.data=.fields vs) (h1:vs[1]?=some .none)
  (h:∀h',Oo (env::outer) e oe none s.heap h'→Q () {s with heap:=h'}):wpAny M A (leaving env (.ref e)) Q E s:=by
 unfold leaving noteFrame
 simp only [hf]
 refine wpAny_bind (wpAny_bind (wpAny_field he hd h1 ?_))
 rw [if_neg (by decide)]
 exact o_ FY hl hf he hd (Array.getElem?_eq_some_iff.mp h1).1 (fun b o e _=>e) (fun b o e=>⟨o,e⟩) (Nat.le_refl _) (fun _ _=>by simp) h
theorem V9 {base:Heap}{env:Env}{outer:List Env}{L e T:Addr}{oe oT:Obj}{vs ts:Array Value}{Q:Unit→Shared→Prop}
  (FY:A.frames=some (env::outer)) (hl:s.heap.FunFrames base (env::outer)) (hf:env.frame=some L) (he:s.heap.get? e=some oe) (hd:oe.data=.fields vs) (h1:vs[1]?=some (.ref T)) (U9:T≠e)
  (hT:s.heap.get? T=some oT) (Ox:oT.data=.fields ts) (h3:ts[3]?=some .none)
  (h:∀h',Oo (env::outer) e oe (some T) s.heap h'→Q () {s with heap:=h'}):wpAny M A (noteFrame (.ref e) env) (fun _ s'=>wpAny M A (setFlight (.ref e) none) Q E s') E s:=by
 unfold noteFrame
 simp only [hf]
 refine wpAny_bind (wpAny_field he hd h1 ?_)
 rw [if_pos (show(Value.ref T != Value.none)=true from by simp)]
 refine wpAny_bind (wpAny_field hT Ox h3 ?_)
 rw [if_neg (show ¬((Value.none == rawInt L)=true) from by simp [rawInt])]
 refine wpAny_bind (wpAny_setField hT Ox (Array.getElem?_eq_some_iff.mp h3).1 ?_)
 have other:∀b,b≠T→(s.heap.update T (Obj.mapFields (·.setIfInBounds 3 Value.none))).get? b=s.heap.get? b:=fun b hb=>Heap.get?_update_other _ _ (Ne.symm hb)
 have xV:∀b o,s.heap.get? b=some o→(∀vs,o.data≠.fields vs)→b≠T:=fun b o hb Oq q=>by
  rw [q,hT] at hb; injection hb with hb; subst hb; exact Oq ts Ox
 refine o_ (s:={s with heap:=s.heap.update T (Obj.mapFields (·.setIfInBounds 3 Value.none))}) FY (hl.of_keeps fun b o hb Oq=>⟨o,(other b (xV b o hb Oq)).trans hb,rfl⟩) hf ((other e (Ne.symm U9)).trans he) hd (Array.getElem?_eq_some_iff.mp h1).1
  (fun b o hb hbT=>(other b fun q=>hbT (by rw [q])).trans hb) (fun b o hb=>?_) (Nat.le_of_eq (Heap.size_after_update ..).symm) (fun b hb e=>?_) h
 ·by_cases c:b=T
  ·subst c
   exact⟨_,Heap.get?_update_self _ hT (Obj.isFreed_of_fields (Obj.data_mapFields Ox _))⟩
  ·exact⟨o,(other b c).trans hb⟩
 ·cases e
  obtain⟨_,o,ho,Oq⟩:=hl.mem hb
  exact xV _ o ho Oq rfl
end
end L2
namespace L2
open PySem PySem.Spec PyProof.Rows
section
variable {prog:Program}{w:World}{A:Around}{R:Result→Shared→Prop}{h:Heap}{g:Array GenState}{d:Drawn}{t:Nat}{os:OsState}
variable {nm q:Str}{C N:Addr}{bs bm R3:List Value}{pb:Bool}{sn:List Str}{sub:List Value}{ab:Bool}{col:Option Bool}{dd:Option Addr}{k0 k1 k2 k3 k5:Option Value}{B Bn newId nid BN inN:String}{bmN:List Value}
noncomputable abbrev lO (C a:Addr):Obj:={cls:=.ref C,data:=.fields #[.ref a,.none,.none,.none,.bool false,.none]}
theorem BO {E:Value→Shared→Prop}(Fn:ExcBaseFacts Bn newId inN bmN) (Z8:R3.contains (.type Bn)=true) (F:ExcBaseFacts B nid BN R3) (T:OwnTail h R3 bm) {rest:List Value}{init:Value}{Q:Fin→Shared→Prop}
  (hC:h.get? C=some (excClassObj nm q C N bs bm pb sn sub ab col dd k0 k1 k2 k3 k5 newId)) (hi:PySem.W.Looks (model prog w) h (typeLookup (.ref C) "__init__") (some init))
  (hb:∀self,PySem.W.Looks (model prog w) h (bindSpecial init self) (init,[self])) (HL:rest.length≤sizeLine)
  (hq:codeAny (model prog w) A (.call init ⟨.ref (h.objs.size+1)::rest,[]⟩) (PySem.W.InitBack (h.objs.size+1) fun r s'=>match r with | .ok v=>Q (.done v) s' | .error e=>E e s') ⟨(h.push {cls:=.type "tuple",data:=.seq rest.toArray}).push (lO C h.objs.size),g,d,t,os⟩) :
  wpAny (model prog w) A (Builtin.«type.__call__» ⟨.ref C::rest,[]⟩) Q E ⟨h,g,d,t,os⟩:=by
 repeat (first | with_reducible refine wpAny_loadPart_at hC ?_ | with_reducible refine wpAny_madeBy_exc hC ?_ | wp_step)
 refine codeAny_call_builtin_code (Code.quiet_builtin _ Fn.quiet) (wpAny_check_new_subU Fn Z8 T hC ?_)
 refine codeAny_exc_new_subU Fn Z8 F T hC ?_ HL
 show wpAny _ _ _ _ _ _
 have k:∀b o,h.get? b=some o→((h.push {cls:=.type "tuple",data:=.seq rest.toArray}).push {cls:=.ref C,data:=.fields #[.ref h.objs.size,.none,.none,.none,.bool false,.none]}).get? b=some o:=fun b o e=>Heap.get?_push_of_some _ (Heap.get?_push_of_some _ e)
 have V_:=k _ _ hC
 have xT:((h.push {cls:=.type "tuple",data:=.seq rest.toArray}).push {cls:=.ref C,data:=.fields #[.ref h.objs.size,.none,.none,.none,.bool false,.none]}).get? (h.objs.size+1)=some {cls:=.ref C,data:=.fields #[.ref h.objs.size,.none,.none,.none,.bool false,.none]}:=by heap_get
 have hcC:(Value.ref C::bm).contains (.ref C)=true:=by simp
 have i1:=hi.keeps k
 have b1:=(hb (.ref (h.objs.size+1))).keeps k
 unfold isInstance
 repeat (first | with_reducible refine wpAny_loadPart_at xT ?_ | (with_reducible refine wpAny_isSubtype_exc V_ ?_; rw [hcC]) | wp_step)
 show wpAny _ _ (typeLookup (.ref C) _) _ _ _
 refine i1 _ _ _ _ (fun b o e=>e) ?_
 refine wpAny_holding (wpAny_bind (b1 _ _ _ _ (fun b o e=>e) ?_))
 refine wpAny_bind (wpAny_call (codeAny_mono hq fun r s' z=>?_))
 rcases r with e | (v | _ | _ | _) <;> first | exact z | exact z.elim | skip
 obtain⟨rfl,z⟩:=z
 exact wpAny_pure (wpAny_pure z)
theorem BP (Fn:ExcBaseFacts Bn newId inN bmN) (Z8:R3.contains (.type Bn)=true) (F:ExcBaseFacts B nid BN R3) (T:OwnTail h R3 bm) {rest:List Value}{init:Value}
  (hC:h.get? C=some (excClassObj nm q C N bs bm pb sn sub ab col dd k0 k1 k2 k3 k5 newId)) (hi:PySem.W.Looks (model prog w) h (typeLookup (.ref C) "__init__") (some init))
  (hb:∀self,PySem.W.Looks (model prog w) h (bindSpecial init self) (init,[self])) (HL:rest.length≤sizeLine)
  (hq:codeAny (model prog w) (A.under (.builtin "type.__call__" ⟨.ref C::rest,[]⟩)) (.call init ⟨.ref (h.objs.size+1)::rest,[]⟩) (PySem.W.InitBack (h.objs.size+1) R) ⟨(h.push {cls:=.type "tuple",data:=.seq rest.toArray}).push (lO C h.objs.size),g,d,t,os⟩) :
  codeAny (model prog w) A (.call (.ref C) ⟨rest,[]⟩) R ⟨h,g,d,t,os⟩:=by
 have f1:=tc_lookup
 have f2:=tc_bind (.ref C)
 have hT:(⟨h,g,d,t,os⟩:Shared).TypeIs (.ref C) "type":=⟨_,hC,rfl⟩
 refine codeAny_of_tree ?_
 show wpAny _ _ (callAny (.ref C) _) _ _ _
 repeat (any_goals (first | assumption | with_reducible refine wpAny_loadPart_at hC ?_ | wp_step))
 refine⟨rfl,?_⟩
 refine codeAny_call_builtin_at (Code.quiet_builtin _ (by decide +kernel)) entry_typeCall (wpAny_check_type_call_sub hC (BO Fn Z8 F T hC hi hb HL ?_))
 refine codeAny_mono hq fun r s' z=>?_
 rcases r with e | (v | _ | _ | _) <;> exact z
end
abbrev tY:List Value:=[.type "ValueError",.type "Exception",.type "BaseException",.type "object"]
section
variable {M:Model}{A:Around}{E:Value→Shared→Prop}{env:Env}
variable {nm q:Str}{C N:Addr}{bs bm:List Value}{pb:Bool}{sn:List Str}{sub:List Value}{ab:Bool}{col:Option Bool}{dd:Option Addr}{k0 k1 k2 k3 k5:Option Value}{newId:String}
variable {R4 q2:Str}{C2 N2:Addr}{Z9 R5:List Value}{EV:Bool}{Z_:List Str}{L6:List Value}{ab2:Bool}{L7:Option Bool}{U5:Option Addr}{j0 j1 j2 j3 j5:Option Value}{uW:String}
theorem L8 {h:Heap}{g:Array GenState}{d:Drawn}{t:Nat}{os:OsState}{e:Addr}{oe:Obj}{Q:Bool→Shared→Prop}
  (hC:h.get? C=some (excClassObj nm q C N bs bm pb sn sub ab col dd k0 k1 k2 k3 k5 newId)) (hC2:h.get? C2=some (excClassObj R4 q2 C2 N2 Z9 R5 EV Z_ L6 ab2 L7 U5 j0 j1 j2 j3 j5 uW))
  (he:h.get? e=some oe) (Bw:oe.cls=.ref C) (oK:R5.contains (.type "BaseException")=true) (hq:Q ((Value.ref C::bm).contains (.ref C2)) ⟨h,g,d,t,os⟩):wpAny M A (excMatches (.ref e) (.ref C2)) Q E ⟨h,g,d,t,os⟩:=by
 have hcB:(Value.ref C2::R5).contains (.type "BaseException")=true:=by rw [List.contains_cons,oK,Bool.or_true]
 have f:=tc_notTuple
 obtain⟨oc,od,dt,xy⟩:=oe
 obtain rfl:oc=.ref C:=Bw
 unfold excMatches
 repeat (first | with_reducible refine wpAny_loadPart_at he ?_ | with_reducible refine wpAny_loadPart_at hC2 ?_ | (with_reducible refine wpAny_isSubtype_exc hC2 ?_; rw [hcB]) | (with_reducible refine wpAny_isSubtype_exc hC ?_) | wp_step)
 cases hb:(Value.ref C::bm).contains (.ref C2) <;> (rw [hb] at hq; wp_walk; exact hq)
end
section
variable {prog:Program}{w:World}{A:Around}{E:Value→Shared→Prop}{h:Heap}{g:Array GenState}{d:Drawn}{t:Nat}{os:OsState}
variable {nm q:Str}{C N:Addr}{bs bm R3:List Value}{pb:Bool}{sn:List Str}{sub:List Value}{ab:Bool}{col:Option Bool}{dd:Option Addr}{k0 k1 k2 k3 k5:Option Value}{B newId nid BN:String}
end
end L2
namespace L2
open PySem PySem.Spec PyProof.Rows
section
variable {K:PySem.W.Frag}{prog:Program}{w:World}{A:Around}{R:Result→Shared→Prop}{s:Shared}{x C Cb:Addr}
open PySem.W PySem.Builtin PySem.Builtin.ObjectAttr PySem.Builtin.Getset_descriptor in
open PySem.W PySem.Builtin PySem.Builtin.ObjectAttr PySem.Builtin.Getset_descriptor in
open PySem.W PySem.Builtin PySem.Builtin.ObjectAttr PySem.Builtin.Getset_descriptor in
theorem acJ {h:Heap}{g:Array GenState}{d:Drawn}{t:Nat}{os:OsState}{E:Value→Shared→Prop}{ox od:Obj}{name:Str}{v:Value}{cd:ClassData}{expr:Bool}{Q:Value→Shared→Prop}(X:K.In h) (I:InstAt h x ox C (some od)) (hc:clsIn K C=some cd) (hd:cd.hasDict=true) (BQ:cd.mro=.ref C::.ref Cb::tY)
  (Wa:findIn K (.ref C) "__getattribute__"=some (some (.builtin "BaseException.__getattribute__"))) (Wb:findIn K (.ref C) "__getattr__"=some none) (aaD:findIn K (.ref C) name=some none)
  (hl:lookIn name od=some (some v)) (hv:∀id,v≠.builtin id) (hq:∀tk,Q v ⟨h,g,d,tk,os⟩) :
  wpAny (model prog w) A (getAttr (.ref x) name expr) Q E ⟨h,g,d,t,os⟩:=by
 have f3:=PySem.F.attr_ValueError.ga.bind (.ref x)
 have L9:(expr&&onTheHeap (Value.builtin "BaseException.__getattribute__"))=false:=by cases expr <;> rfl
 have hx2:(Value.builtin "BaseException.__getattribute__" == Value.builtin "object.__getattribute__")=false:=by decide +kernel
 have Lq:(onTheHeap (Value.ref C)&&Value.builtin "BaseException.__getattribute__" == Value.builtin "object.__getattribute__")=false:=by rw [hx2]; rfl
 have l1:=looks_findIn (M:=model prog w) X Wa
 have l2:=looks_findIn (M:=model prog w) X Wb
 have l3:=looks_findIn (M:=model prog w) X aaD
 have l4:=looks_own (M:=model prog w) X I hc (name:=name) (r:=some v) (by unfold PySem.W.ownOf; rw [hd]; exact hl)
 have l5:=I.type (M:=model prog w)
 have sub:Looks (model prog w) h (isInstance (.ref x) (.type "BaseException")) true:=I.type.andThen (looks_mroIn X (by unfold mroIn; rw [hc,Option.bind_some,BQ]; simp [tY]))
 unfold getAttr
 repeat (any_goals (first | assumption | with_reducible refine l5.here ?_ | with_reducible refine l1.here ?_ | with_reducible refine l2.here ?_ | wp_step))
 refine codeAny_call_builtin PySem.F.attr_ValueError.ga.plain PySem.F.entry_bexc_ga (@check_slot (model prog w) _ _ _ "BaseException.__getattribute__" "BaseException" "__getattribute__" (.ref x) [.str name t] [] _ (by decide +kernel) (by decide +kernel) sub (PySem.F.args_bexc_ga _ _) ?_)
 repeat (any_goals (first | assumption | with_reducible refine l5.here ?_ | with_reducible refine l3.here ?_ | with_reducible refine l4.here ?_ | wp_step))
 cases v <;> first | exact wpAny_pure (hq _) | exact absurd rfl (hv _)
open PySem.W PySem.Builtin PySem.Builtin.ObjectAttr PySem.Builtin.Getset_descriptor in
theorem R6 {h:Heap}{g:Array GenState}{d:Drawn}{t:Nat}{os:OsState}{E:Value→Shared→Prop}{ox:Obj}{od:Option Obj}{cd:ClassData}{Q:Option Value→Shared→Prop}(X:K.In h) (I:InstAt h x ox C od) (hc:clsIn K C=some cd) (BQ:cd.mro=.ref C::.ref Cb::tY)
  (Wa:findIn K (.ref C) "__getattribute__"=some (some (.builtin "BaseException.__getattribute__"))) (Wb:findIn K (.ref C) "__getattr__"=some none) (ha:findIn K (.ref C) "__class__"=some (some (.builtin "object.__class__")))
  (hn:specialIn K (.builtin "object.__class__") "__get__"=some (some (.builtin "getset_descriptor.__get__"))) (Rr:takesIn K (.builtin "object.__class__")=some true) (hm:mroIn K C (.type "object")=some true)
  (hq:Q (some (.ref C)) ⟨h,g,d,t+1,os⟩) :
  wpAny (model prog w) A (getAttr? (.ref x) "__class__") Q E ⟨h,g,d,t,os⟩:=by
 have f3:=PySem.F.attr_ValueError.ga.bind (.ref x)
 have hx2:(Value.builtin "BaseException.__getattribute__" == Value.builtin "object.__getattribute__")=false:=by decide +kernel
 have l1:=looks_findIn (M:=model prog w) X Wa
 have l2:=looks_findIn (M:=model prog w) X Wb
 have l3:=looks_findIn (M:=model prog w) X ha
 have l4:=looks_specialIn (M:=model prog w) X hn
 have l5:=I.type (M:=model prog w)
 have l6:=looks_takesIn (M:=model prog w) X Rr
 have sub:Looks (model prog w) h (isInstance (.ref x) (.type "BaseException")) true:=I.type.andThen (looks_mroIn X (by unfold mroIn; rw [hc,Option.bind_some,BQ]; simp [tY]))
 unfold getAttr? getAttrBy?
 repeat (any_goals (first | assumption | with_reducible refine l5.here ?_ | with_reducible refine l1.here ?_ | with_reducible refine l2.here ?_ | wp_step))
 refine codeAny_call_builtin PySem.F.attr_ValueError.ga.plain PySem.F.entry_bexc_ga (@check_slot (model prog w) _ _ _ "BaseException.__getattribute__" "BaseException" "__getattribute__" (.ref x) [.str "__class__" t] [] _ (by decide +kernel) (by decide +kernel) sub (PySem.F.args_bexc_ga _ _) ?_)
 repeat (any_goals (first | assumption | with_reducible refine l5.here ?_ | with_reducible refine l3.here ?_ | with_reducible refine l4.here ?_ | with_reducible refine l6.here ?_ | wp_step))
 refine class_get (s:=⟨h,g,d,t+1,os⟩) (ox:=ox) (od:=od) X I hm ?_
 repeat (any_goals (first | assumption | wp_step))
open PySem.W in
theorem aaE {ox:Obj}{od:Option Obj}{cd:ClassData}(hc:clsIn K C=some cd) (BQ:cd.mro=.ref C::.ref Cb::tY)
  (Wa:findIn K (.ref C) "__getattribute__"=some (some (.builtin "BaseException.__getattribute__"))) (Wb:findIn K (.ref C) "__getattr__"=some none) (ha:findIn K (.ref C) "__class__"=some (some (.builtin "object.__class__")))
  (hn:specialIn K (.builtin "object.__class__") "__get__"=some (some (.builtin "getset_descriptor.__get__"))) (Rr:takesIn K (.builtin "object.__class__")=some true) (hm:mroIn K C (.type "object")=some true) :
  KitX K (.ref x) (.ref C) (fun h=>InstAt h x ox C od) where
 ty:=fun _ _ _ I=>I.type
 it:=fun _ _ X _=>by
  unfold clsIn at hc
  split at hc
  ·rename_i c' d' cd' sl' ho
   intro A' Q' E' s' k q
   unfold isType loadHead
   exact wpAny_bind (wpAny_loadPart (k _ _ (X _ _ ho)) (wpAny_pure q))
  ·cases hc
 ne:=fun h tp dd bq n sl X htp=>by
  refine Bool.eq_false_iff.mpr fun q=>?_
  have e:C=tp:=Value.ref.inj (beq_iff_eq.mp q)
  subst e
  unfold clsIn at hc
  split at hc
  ·rename_i c' d' cd' sl' ho
   have z:=(X _ _ ho).symm.trans htp
   cases z
  ·cases hc
 ca:=fun {_ _ _ _ _ s} X I k=>by
  obtain⟨h,g,d,t,os⟩:=s
  exact R6 X I hc BQ Wa Wb ha hn Rr hm k
end
end L2
namespace L2
open PySem PySem.Spec PyProof.Rows
structure f_ (K:PySem.W.Frag) (C Cb:Addr):Prop where
 lk:∃nm qn N bs sn sub ab col dd k0 k1 k2 k3 k5,K.lookup C=some (excClassObj nm qn C N bs (.ref Cb::tY) true sn sub ab col dd k0 k1 k2 k3 k5 "ValueError.__new__")
 lb:∃nm qn N bs hd sn sub ab col dd k0 k1 k2 k3 k5,K.lookup Cb=some (excClassObj nm qn Cb N bs tY hd sn sub ab col dd k0 k1 k2 k3 k5 "ValueError.__new__")
 xb:PySem.W.excIn K Cb tY "ValueError.__new__"=true
 sa:PySem.W.findIn K (.ref C) "__setattr__"=some (some (.builtin "object.__setattr__"))
 ga:PySem.W.findIn K (.ref C) "__getattribute__"=some (some (.builtin "BaseException.__getattribute__"))
 gn:PySem.W.findIn K (.ref C) "__getattr__"=some none
 cl:PySem.W.findIn K (.ref C) "__class__"=some (some (.builtin "object.__class__"))
 cg:PySem.W.specialIn K (.builtin "object.__class__") "__get__"=some (some (.builtin "getset_descriptor.__get__"))
 ct:PySem.W.takesIn K (.builtin "object.__class__")=some true
 mo:PySem.W.mroIn K C (.type "object")=some true
 kp:PySem.W.keepIn K (.ref C)=true
theorem f_.data {K:PySem.W.Frag}{C Cb:Addr}(c:f_ K C Cb):∃cd,PySem.W.clsIn K C=some cd∧cd.mro=.ref C::.ref Cb::tY∧cd.hasDict=true:=by
 obtain⟨nm,qn,N,bs,sn,sub,ab,col,dd,k0,k1,k2,k3,k5,e⟩:=c.lk
 unfold PySem.W.clsIn
 rw [e]
 exact⟨_,rfl,rfl,rfl⟩
theorem f_.tail {K:PySem.W.Frag}{C Cb:Addr}{h:Heap}(c:f_ K C Cb) (X:K.In h):OwnTail h tY (.ref Cb::tY):=by
 obtain⟨nm,qn,N,bs,hd,sn,sub,ab,col,dd,k0,k1,k2,k3,k5,e⟩:=c.lb
 have q:=c.xb
 unfold PySem.W.excIn at q
 rw [e] at q
 simp only [excClassObj,Bool.and_eq_true,beq_iff_eq,Bool.not_eq_true'] at q
 exact .own (X _ _ e) (.of_isNs (PySem.W.isNs_of_in X q.1.2)) (PySem.W.nsMap_none_of_in X q.1.2 q.2) .base
noncomputable def BR (cb:Bool) (C x:Addr) (dx:Option Addr) (raw:Bool) (h:Heap):Prop:=∃vs sl a0,h.get? x=some ⟨.ref C,dx,.fields vs,sl⟩∧vs[0]?=some (.ref a0)∧4 < vs.size∧(raw=true→vs[1]?=some .none)∧(cb=true→vs[2]?=some .none)
noncomputable abbrev XO (C x:Addr) (dx:Option Addr) (raw:Bool):Heap→Prop:=BR true C x dx raw
theorem XO.ok {P:Program}{w:World}{H:Hp}{cb:Bool}{C x:Addr}{dx:Option Addr}{raw:Bool}{h:Heap}(e:BR cb C x dx raw h):b9 P w H h x (.ext (BR cb C x dx raw)):=by
 refine⟨e,?_,fun h1 h2 z k=>?_⟩
 ·obtain⟨_,_,_,e,_⟩:=e
  exact⟨_,e⟩
 ·obtain⟨vs,sl,a0,e,r⟩:=z
  exact⟨vs,sl,a0,k _ e,r⟩
section
variable {X:Cx}{CX:rL}{k:Nat}{f C Cb:Addr}{fd:FuncData}{ps:List Str}{sp:Sp}{eK:List V}{ds:List Value}{E:XK}{x m:Str}{p pos apos:Pos}{e o:Expr}{es:List Expr}{ta:TE}{t:TA}
noncomputable def R7 (C:Addr) (sp:Sp) (eK:List V) (E:XK) (t:TA):TE:=fun σ H Q=>t σ H fun vs H1=>vs.length≤1000∧∀x,H1 x=none→sp (.ref x::(vs++eK)) (upd H1 x (.ext (XO C x none true))) (fun v H2=>v=.bj∧Q (.ref x) H2) E
noncomputable def Wc (K:PySem.W.Frag) (ta tv:TE) (f:Str):TS:=fun D σ H=>tv σ H fun y H1=>ta σ H1 fun x H2=>∃a C Cb,x=.ref a∧H2 a=some (.ext (XO C a none true))∧f_ K C Cb∧PySem.W.takerIn K C f=some none ∧
 ∀dx,H2 dx=none→D.nx σ (upd (upd H2 a (.ext (XO C a (some dx) true))) dx (.xd [(f,y)]))
theorem uX {H:Hp}{a:Addr}{o:HO}(h:H a=some o):upd H a o=H:=by
 funext b
 unfold upd
 split
 ·next e=>rw [e,h]
 ·rfl
structure We (K:PySem.W.Frag) (Cb:Addr):Prop where
 sp:PySem.W.specialIn K (.ref Cb) "__getattribute__"=some (some (.builtin "type.__getattribute__"))
 rd:PySem.W.readsIn K Cb (.type "type")=true
 fd:PySem.W.findCls K (.ref Cb) (.type "type") "__init__"=some (.val (.builtin "ValueError.__init__"))
noncomputable def R8 (K:PySem.W.Frag) (t:TA):TE:=fun σ H Q=>t σ H fun vs H1=>∃a C Cb z dx,vs=[.ref a,.str z]∧H1 a=some (.ext (XO C a dx true))∧f_ K C Cb∧Q .bj H1
end
end L2
namespace L2
open PySem PySem.Spec PyProof.Rows
noncomputable def TBk (h:Heap) (H:Hp) (a:Addr):Prop:=∃o vs T oT ts,h.get? a=some o∧o.data=.fields vs∧vs[1]?=some (.ref T)∧T≠a∧h.get? T=some oT∧oT.data=.fields ts∧ts[3]?=some .none∧H T=none
theorem xW {env:Env}{outer:List Env}{L:Addr}(hf:env.frame=some L):mE (env::outer)=L::mE outer:=by
 unfold mE
 rw [List.filterMap_cons,hf]
theorem HM {P:Program}{w:World}{env:Env}{outer:List Env}{L e:Addr}{oe:Obj}{H0 H1:Hp}{h0 h h':Heap}{φ:Heap→Prop}{o1:HO}{T0:Option Addr}(u:Un (mE outer) [] H0 H1 h0 h) (bw:ip P w H1 h) (l:Oo (env::outer) e oe T0 h h') (hf:env.frame=some L) (hL:h0.objs.size≤L)
  (he:H1 e=some (.ext φ)) (ht:∀T,T0=some T→H1 T=none∧h0.objs.size≤T) (FY:∀b∈mE (env::outer),H1 b=none) (n1:b9 P w (upd H1 e o1) h' e o1):Un (mE outer) [] H0 (upd H1 e o1) h0 h'∧ip P w (upd H1 e o1) h':=by
 have lt0:∀b o,h0.get? b=some o→b≠L∧some b≠T0:=fun b o q=>by
  have hb:=Heap.lt_size q
  refine⟨Nat.ne_of_lt (Nat.lt_of_lt_of_le hb hL),fun z=>?_⟩
  exact absurd hb (Nat.not_lt.mpr (ht b z.symm).2)
 have nfr:∀b,b≠L→b∉mE outer→b∉mE (env::outer):=fun b h1 h2 z=>by
  rw [xW hf] at z
  rcases List.mem_cons.mp z with z | z
  ·exact h1 z
  ·exact h2 z
 have ne:∀b,H1 b=none→b≠e:=fun b q z=>by rw [z,he] at q; cases q
 have FZ:∀b u,H1 b=some u→(∀φ,u≠.ext φ)→b≠e:=fun b u q n z=>by rw [z,he] at q; cases q; exact n _ rfl
 refine⟨⟨fun b o q n hb hx=>?_,fun b o q n hb hx=>?_,fun b o q n hx=>?_,fun b o q hx=>?_,fun b xs q=>?_,fun b o xs q=>?_,fun b ps q=>?_⟩,fun b o q=>?_⟩
 ·have h1:=u.keep b o q n hb hx
  exact l.keep b o h1 (nfr b (lt0 b o q).1 hb) (ne b (u.free b o q n hx)) (lt0 b o q).2
 ·obtain⟨sl,h1⟩:=u.slot b o q n hb hx
  obtain⟨sl2,h2⟩:=l.slot b _ h1 (by rw [xW hf]; exact List.mem_cons_of_mem _ hb)
  exact⟨sl2,h2⟩
 ·have h1:=u.free b o q n hx
  rw [ak (ne b h1)]
  exact h1
 ·obtain⟨o',h1⟩:=u.there b o q hx
  exact l.there b o' h1
 ·have h1:=u.ny b xs q
  rw [ak (FZ b _ h1 (fun _=>by simp))]
  exact h1
 ·have h1:=u.lH b o xs q
  rw [ak (FZ b _ h1 (fun _=>by simp))]
  exact h1
 ·obtain⟨more,h1⟩:=u.nB b ps q
  exact⟨more,by rw [ak (FZ b _ h1 (fun _=>by simp))]; exact h1⟩
 ·by_cases c:b=e
  ·subst c
   rw [af] at q
   cases q
   exact n1
  ·rw [ak c] at q
   have tr:∀c2 v,H1 c2=some v→c2≠e→∀o,h.get? c2=some o→h'.get? c2=some o:=fun c2 v q2 ce o q3=>by
    refine l.keep c2 o q3 (fun z=>?_) ce fun z=>?_
    ·rw [FY c2 z] at q2
     cases q2
    ·rw [(ht c2 z.symm).1] at q2
     cases q2
   refine(bw b o q).rH (fun c2 v hc r=>?_) (fun c2 r=>?_) fun c2 xs r=>?_
   ·rcases hc with rfl | hc
    ·exact tr _ _ q c v r
    ·exact tr _ _ hc (FZ c2 _ hc (fun _=>by simp)) v r
   ·rw [ak (FZ c2 _ r (fun _=>by simp))]
    exact r
   ·rw [ak (FZ c2 _ r (fun _=>by simp))]
    exact r
theorem R9 {cb:Bool}{l:List Env}{C e:Addr}{dx:Option Addr}{vs:Array Value}{sl:Array (Option Value)}{a0:Addr}{T0:Option Addr}{h h':Heap}{H:Hp}(x:Oo l e ⟨.ref C,dx,.fields vs,sl⟩ T0 h h') (h0:vs[0]?=some (.ref a0)) (hz:4 < vs.size) (hcb:cb=true→vs[2]?=some .none) (he:e < h.objs.size) (hn:∀T,h.objs.size≤T→H T=none) :
  BR cb C e dx false h'∧TBk h' H e:=by
 obtain⟨T,oT,ts,hT,h1,h2,h3,h4⟩:=x.at_
 have h1:h'.get? e=some ⟨.ref C,dx,.fields (vs.setIfInBounds 1 (.ref T)),sl⟩:=h1
 refine⟨⟨_,_,a0,h1,?_,by simpa using hz,fun z=>(by cases z),fun z=>?_⟩,⟨_,_,T,oT,ts,h1,rfl,?_,Nat.ne_of_gt (Nat.lt_of_lt_of_le he hT),h2,h3,h4,hn T hT⟩⟩
 ·rw [Array.getElem?_setIfInBounds_ne (by decide)]
  exact h0
 ·rw [Array.getElem?_setIfInBounds_ne (by decide)]
  exact hcb z
 ·rw [Array.getElem?_setIfInBounds,if_pos rfl,if_pos (by omega)]
section
variable {P:Program}{w:World}{K:PySem.W.Frag}{mg:Str→Option Value}{base:Heap}
noncomputable def R_ (K:PySem.W.Frag) (E:XK) (te:TE):TS:=fun _ σ H=>te σ H fun v H1=>∃a C Cb dx,v=.ref a∧f_ K C Cb∧H1 a=some (.ext (XO C a (some dx) true))∧E (.ref C) (some a) (upd H1 a (.ext (XO C a (some dx) false)))
theorem HN {M:Model}{A:Around}{E:Value→Shared→Prop}{env:Env}{s:Shared}{x:Sem Value}{Q:Flow→Shared→Prop}(hh:A.handled=none)
  (h:wpAny M A x (fun v s₁=>∃C nm q N bs bm pb sn sub ab col dd k0 k1 k2 k3 k5 newId e oe vs,v=.ref e∧List.contains bm (.type "BaseException")=true∧s₁.heap.get? C=some (excClassObj nm q C N bs bm pb sn sub ab col dd k0 k1 k2 k3 k5 newId) ∧
   s₁.heap.get? e=some oe∧oe.cls=.ref C∧oe.data=.fields vs∧vs[1]?=some .none∧E (.ref e) s₁) E s) :
  wpAny M A (raiseStmt env (some x) none) Q E s:=by
 unfold raiseStmt
 refine wpAny_bind (wpAny_mono h (fun v s₁ h₁=>?_) fun _ _ x=>x)
 obtain⟨C,nm,q,N,bs,bm,pb,sn,sub,ab,col,dd,k0,k1,k2,k3,k5,newId,e,oe,vs,rfl,oK,hC,he,Bw,hd,h1,hE⟩:=h₁
 have hcB:(Value.ref C::bm).contains (.type "BaseException")=true:=by rw [List.contains_cons,oK,Bool.or_true]
 obtain⟨oc,od,dt,xy⟩:=oe
 obtain rfl:oc=.ref C:=Bw
 obtain rfl:dt=.fields vs:=hd
 obtain⟨hp,g,d,tk,os⟩:=s₁
 repeat (first | with_reducible refine wpAny_loadPart_at he ?_ | with_reducible refine wpAny_loadPart_at hC ?_ | (with_reducible refine wpAny_isSubtype_exc hC ?_; rw [hcB]) | (with_reducible refine wpAny_field he rfl h1 ?_) | wp_step)
 exact wpAny_raiseNew_none hh hE
end
end L2
namespace L2
open PySem PySem.Spec PyProof.Rows
section
variable {M:Model}{A:Around}{E:Value→Shared→Prop}{s:Shared}
theorem xX {ts:Array Value}(h:ts[3]?=some .none):ts.setIfInBounds 3 .none=ts:=by
 apply Array.ext_getElem?
 intro i
 rw [Array.getElem?_setIfInBounds]
 split
 ·next e=>
  subst e
  rw [if_pos (Array.getElem?_eq_some_iff.mp h).1,h]
 ·rfl
theorem Wf {base:Heap}{env:Env}{outer:List Env}{L e T:Addr}{oe oT:Obj}{vs ts:Array Value}{Q:Unit→Shared→Prop}
  (FY:A.frames=some (env::outer)) (hl:s.heap.FunFrames base (env::outer)) (hf:env.frame=some L) (he:s.heap.get? e=some oe) (hd:oe.data=.fields vs) (h1:vs[1]?=some (.ref T)) (U9:T≠e)
  (hT:s.heap.get? T=some oT) (Ox:oT.data=.fields ts) (h3:ts[3]?=some .none)
  (h:∀h',Oo (env::outer) e oe none s.heap h'→Q () {s with heap:=h'}):wpAny M A (noteFrame (.ref e) env) (fun _ s'=>wpAny M A (setFlight (.ref e) none) Q E s') E s:=by
 unfold noteFrame
 simp only [hf]
 refine wpAny_bind (wpAny_field he hd h1 ?_)
 rw [if_pos (show(Value.ref T != Value.none)=true from by simp)]
 refine wpAny_bind (wpAny_field hT Ox h3 ?_)
 rw [if_neg (show ¬((Value.none == rawInt L)=true) from by simp [rawInt])]
 refine wpAny_bind (wpAny_setField hT Ox (Array.getElem?_eq_some_iff.mp h3).1 ?_)
 have all:∀b o,s.heap.get? b=some o→(s.heap.update T (Obj.mapFields (·.setIfInBounds 3 Value.none))).get? b=some o:=fun b o hb=>by
  by_cases c:b=T
  ·subst c
   rw [hT] at hb
   cases hb
   obtain⟨oc,od,dt,xy⟩:=oT
   obtain rfl:dt=.fields ts:=Ox
   rw [Heap.get?_update_self _ hT (Obj.isFreed_of_fields (Obj.data_mapFields rfl _))]
   show some (Obj.mk oc od (.fields (ts.setIfInBounds 3 .none)) xy)=_
   rw [xX h3]
  ·rw [Heap.get?_update_other _ _ (Ne.symm c)]
   exact hb
 exact o_ (s:={s with heap:=s.heap.update T (Obj.mapFields (·.setIfInBounds 3 Value.none))}) FY (hl.of_keeps fun b o hb Oq=>⟨o,all b o hb,rfl⟩) hf (all _ _ he) hd (Array.getElem?_eq_some_iff.mp h1).1
  (fun b o hb _=>all b o hb) (fun b o hb=>⟨o,all b o hb⟩) (Nat.le_of_eq (Heap.size_after_update ..).symm) (fun b hb e=>by cases e) h
end
theorem L_ {P:Program}{w:World}{l:List Env}{e:Addr}{oe:Obj}{H1:Hp}{h h':Heap}{φ:Heap→Prop}{o1:HO}(bw:ip P w H1 h) (x:Oo l e oe none h h') (he:H1 e=some (.ext φ)) (FY:∀b∈mE l,H1 b=none)
  (n1:b9 P w (upd H1 e o1) h' e o1):Un (mE l) [] H1 (upd H1 e o1) h h'∧ip P w (upd H1 e o1) h':=by
 have ne:∀b,H1 b=none→b≠e:=fun b q z=>by rw [z,he] at q; cases q
 have FZ:∀b u,H1 b=some u→(∀φ,u≠.ext φ)→b≠e:=fun b u q n z=>by rw [z,he] at q; cases q; exact n _ rfl
 refine⟨⟨fun b o q n hb _=>x.keep b o q hb (ne b n) (by simp),fun b o q n hb _=>x.slot b o q hb,fun b o q n _=>by rw [ak (ne b n)]; exact n,fun b o q _=>x.there b o q,fun b xs q=>?_,fun b o xs q=>?_,fun b ps q=>?_⟩,fun b o q=>?_⟩
 ·rw [ak (FZ b _ q (fun _=>by simp))]
  exact q
 ·rw [ak (FZ b _ q (fun _=>by simp))]
  exact q
 ·exact⟨#[],by rw [ak (FZ b _ q (fun _=>by simp)),q]; simp⟩
 ·by_cases c:b=e
  ·subst c
   rw [af] at q
   cases q
   exact n1
  ·rw [ak c] at q
   have tr:∀c2 v,H1 c2=some v→c2≠e→∀o,h.get? c2=some o→h'.get? c2=some o:=fun c2 v q2 ce o q3=>by
    refine x.keep c2 o q3 (fun z=>?_) ce (by simp)
    rw [FY c2 z] at q2
    cases q2
   refine(bw b o q).rH (fun c2 v hc r=>?_) (fun c2 r=>?_) fun c2 xs r=>?_
   ·rcases hc with rfl | hc
    ·exact tr _ _ q c v r
    ·exact tr _ _ hc (FZ c2 _ hc (fun _=>by simp)) v r
   ·rw [ak (FZ c2 _ r (fun _=>by simp))]
    exact r
   ·rw [ak (FZ c2 _ r (fun _=>by simp))]
    exact r
section
variable {X:Cx}{k:Nat}{f C:Addr}{fd:FuncData}{ps:List Str}{sp:Sp}{eK:List V}{ds:List Value}{E:XK}
noncomputable def XP (X:Cx) (pins:List (Addr×Obj)) (σ:St) (E:XK) (e:Value) (s':Shared):Prop:=∃a C dx cb H',e=.ref a∧Inv X pins σ H' s'∧H' a=some (.ext (BR cb C a (some dx) false))∧TBk s'.heap H' a∧E (.ref C) (some a) H'
theorem Sa {M:Model}{A:Around}{E:Value→Shared→Prop}{pins:List (Addr×Obj)}{σ:St}{H:Hp}{s:Shared}{i:Nat}{x:Str}{Q:Bool→Shared→Prop}(I:Inv X pins σ H s) (hN:X.N.Nodup) (hi:X.N[i]?=some x) (hk:X.env.scope.names.lookup x=some .local) {v:V}(hv:σ[i]?=some (some v))
  (h:∀s',Inv X pins (σ.set i none) H s'→Q true s'):wpAny M A (nsDel X.env.locals x) Q E s:=by
 obtain⟨m,hn,hl⟩:=id I.loc
 have Fp:i < σ.length:=by rw [I.len]; exact(List.getElem?_eq_some_iff.mp hi).1
 have GV:=I.GV
 obtain⟨oL,_,_,hoL,_⟩:=id hn
 have hm:(m x).isSome=true:=by
  obtain⟨u,_,l⟩:=hl i x v hi hv (.inl hk)
  rcases l with ⟨_,e⟩ | ⟨e | e,_⟩
  ·rw [e]; rfl
  ·rw [show X.env.kindOf x=some .local from hk] at e; cases e
  ·rw [show X.env.kindOf x=some .local from hk] at e; cases e
 refine wpAny_nsDel_keeps hn fun h' v0 hn' hs=>?_
 rw [hm]
 refine h _ ⟨I.ok,I.os,I.bare,⟨fun b o e n hb hx=>?_,fun b o e n hb hx=>?_,I.base.free,fun b o e hx=>?_,I.base.ny,I.base.lH,I.base.nB⟩,⟨_,hn',fun j y v' e1 e2 e3=>?_⟩,fun y c e=>?_,I.free,I.ez,fun p hp=>?_,fun b ob e=>?_,by simpa using I.len⟩
 ·exact(hs.2 b (Nat.ne_of_lt (Nat.lt_of_lt_of_le (Heap.lt_size e) I.ok.above))).trans (I.base.keep b o e n hb hx)
 ·obtain⟨sl,e1⟩:=I.base.slot b o e n hb hx
  exact⟨sl,(hs.2 b (Nat.ne_of_lt (Nat.lt_of_lt_of_le (Heap.lt_size e) I.ok.above))).trans e1⟩
 ·obtain⟨o',e1⟩:=I.base.there b o e hx
  exact⟨o',(hs.2 b (Nat.ne_of_lt (Nat.lt_of_lt_of_le (Heap.lt_size e) I.ok.above))).trans e1⟩
 ·by_cases hj:j=i
  ·subst hj
   rw [List.getElem?_set_self Fp] at e2
   cases e2
  ·rw [List.getElem?_set_ne (Ne.symm hj)] at e2
   obtain⟨u',r',q⟩:=hl j y v' e1 e2 e3
   refine⟨u',r',?_⟩
   rcases q with ⟨k,e⟩ | ⟨k,c,e,z⟩
   ·refine .inl ⟨k,?_⟩
    have:y≠x:=fun e=>hj (oC hN e1 (e▸hi))
    simp [this,e]
   ·exact .inr ⟨k,c,e,z.sameBut hs (GV y c e)⟩
 ·obtain⟨w',z⟩:=I.cell y c e
  exact⟨w',z.sameBut hs (GV y c e)⟩
 ·obtain⟨e,n,ne,nf,d⟩:=I.pin p hp
  exact⟨(hs.2 p.1 ne).trans e,n,ne,nf,d⟩
 ·refine(I.bw b ob e).rH (fun c w' hc q=>(hs.2 c ?_).trans q) (fun _ q=>q) fun _ _ q=>q
  rintro rfl
  rcases hc with rfl | hc
  ·rw [I.free] at e; cases e
  ·rw [I.free] at hc; cases hc
theorem name_goes {M:Model}{A:Around}{E:Value→Shared→Prop}{pins:List (Addr×Obj)}{σ:St}{H:Hp}{s:Shared}{i:Nat}{x:Str}{pos:Pos}{Q:Unit→Shared→Prop}(I:Inv X pins σ H s) (hN:X.N.Nodup) (hi:X.N[i]?=some x) (hk:X.env.scope.names.lookup x=some .local)
  (h:∀s',Inv X pins (σ.set i none) H s'→Q () s'):wpAny M A (do bindName X.env x .none; unbindBehindTheSuite X.env x pos) Q E s:=by
 have hl:X.env.kindOf x=some .local:=hk
 have hp:(X.env.scope.kind == .class || (X.env.scope.kind == .module&&X.env.locals != X.env.globals))=false:=by rw [I.ok.kind]; rfl
 have Fp:i < σ.length:=by rw [I.len]; exact(List.getElem?_eq_some_iff.mp hi).1
 refine wpAny_bind (wpAny_bindName (iq I hN hi (.inl hk) (v:=.bj) (u:=.none) rfl (fun s' I'=>?_) (.inr hk)))
 unfold unbindBehindTheSuite
 refine wpAny_onRaise ?_
 unfold unbindName
 refine wpAny_bind (wpAny_point (wpAny_bind ?_))
 unfold deleteName
 simp only [hl,hp]
 rw [if_neg (by decide)]
 refine wpAny_bind (Sa I' hN hi hk (v:=.bj) (by rw [List.getElem?_set_self Fp]) fun s2 I2=>?_)
 rw [List.set_set] at I2
 simp only [if_true,Option.isSome_some,Bool.not_true,Bool.false_eq_true,if_false]
 exact wpAny_pure (wpAny_point (h s2 I2))
noncomputable abbrev Cx.Sb (X:Cx) (a:Addr):Cx:={X with A:=X.A.mark (some (.ref a)),calm:=false,xe:=fun _ _=>False}
theorem Inv.Sb {pins:List (Addr×Obj)}{σ:St}{H:Hp}{s:Shared}{a:Addr}(I:Inv X pins σ H s):Inv (X.Sb a) pins σ H s:=
 ⟨⟨I.ok.mod,I.ok.kind,I.ok.glob,I.ok.blt,I.ok.above,I.ok.inj,I.ok.has,I.ok.NS,(fun z=>by cases z),I.ok.frames,I.ok.Q8,I.ok.Lx,I.ok.bs,I.ok.Ey,I.ok.uD,I.ok.uE,I.ok.jG,I.ok.Ll⟩,I.os,I.bare,I.base,I.loc,I.cell,I.free,I.ez,I.pin,I.bw,I.len⟩
theorem Inv.Wg {pins:List (Addr×Obj)}{σ:St}{H:Hp}{s:Shared}{a:Addr}(ok:X.Ok) (I:Inv (X.Sb a) pins σ H s):Inv X pins σ H s:=
 ⟨ok,I.os,I.bare,I.base,I.loc,I.cell,I.free,I.ez,I.pin,I.bw,I.len⟩
end
end L2
namespace L2
open PySem PySem.Spec PyProof.Rows
section
variable {prog:Program}{w:World}{A:Around}{E:Value→Shared→Prop}{s:Shared}{env:Env}
noncomputable def Und (h:Heap) (e C2:Addr):Prop:=∃C nm q N bs bm pb sn sub ab col dd k0 k1 k2 k3 k5 newId R4 q2 N2 Z9 R5 EV Z_ L6 ab2 L7 U5 j0 j1 j2 j3 j5 uW oe,
 h.get? C=some (excClassObj nm q C N bs bm pb sn sub ab col dd k0 k1 k2 k3 k5 newId)∧h.get? C2=some (excClassObj R4 q2 C2 N2 Z9 R5 EV Z_ L6 ab2 L7 U5 j0 j1 j2 j3 j5 uW) ∧
 h.get? e=some oe∧oe.cls=.ref C∧List.contains R5 (.type "BaseException")=true∧(Value.ref C::bm).contains (.ref C2)=true
theorem BS {e C2:Addr}{t:Expr}{n:Str}{b₀:Stmt}{pd:List Stmt}{pos:Pos}{rest:List ExceptHandler}{Q:Flow→Shared→Prop}
  (h:wpAny (model prog w) (A.mark (some (.ref e))) (eval t env) (fun c s₁=>c=.ref C2∧Und s₁.heap e C2 ∧
   wpAny (model prog w) (A.mark (some (.ref e))) (setFlight (.ref e) none) (fun _ s₂=>
     wpAny (model prog w) (A.mark (some (.ref e))) (storeName env n (.ref e)) (fun _ s₃=>
      wpAny (model prog w) (A.mark (some (.ref e))) (execs (b₀::pd) env)
       (fun f s₄=>wpAny (model prog w) A (do bindName env n .none; unbindBehindTheSuite env n pos) (fun _ s₅=>Q f s₅) E s₄)
       (fun _ _=>False) s₃) (fun _ _=>False) s₂) (fun _ _=>False) s₁) (fun _ _=>False) s) :
  wpAny (model prog w) A (handleBy (.ref e) env (.ExceptHandler (some t) (some n) (b₀::pd) pos::rest)) Q E s:=by
 refine wpAny_handleBy_cons (codeAny_handlers_test (wpAny_mono h (fun c s₁ h₁=>?_) fun _ _ y=>y.elim)) (by intro q; cases q)
 obtain⟨rfl,⟨C,nm,q,N,bs,bm,pb,sn,sub,ab,col,dd,k0,k1,k2,k3,k5,newId,R4,q2,N2,Z9,R5,EV,Z_,L6,ab2,L7,U5,j0,j1,j2,j3,j5,uW,oe,hC,hC2,he,Bw,hb,hu⟩,hk⟩:=h₁
 obtain⟨hh,g,d,tk,os⟩:=s₁
 refine L8 hC hC2 he Bw hb ?_
 rw [hu]
 refine codeAny_handlers_suite_as (wpAny_mono hk (fun _ s2 h2=>wpAny_mono h2 (fun _ s3 h3=>wpAny_mono h3 (fun _ _ z=>z) fun _ _ z=>z.elim) fun _ _ z=>z.elim) fun _ _ z=>z.elim)
end
section
variable {X:Cx}{k:Nat}{f C2:Addr}{fd:FuncData}{ps:List Str}{sp:Sp}{eK:List V}{ds:List Value}{x y n cn:Str}{p np pos apos Sd cK Ma:Pos}{e:Expr}{es:List Expr}{t:TA}{ts:TS}{b0:Stmt}{pd:List Stmt}{i j:Nat}
noncomputable def aaF (K:PySem.W.Frag) (C2:Addr) (i j:Nat) (sp:Sp) (eK:List V) (t:TA) (ts:TS):TS:=fun D σ H=>t σ H fun vs H1=>sp (vs++eK) H1 (fun v H2=>D.nx (σ.set i (some v)) H2)
 (fun cls a H2=>∃b C Cb,cls=.ref C∧a=some b∧f_ K C Cb∧(C2=C∨C2=Cb)∧ts {nx:=fun σ' H'=>D.nx (σ'.set j none) H',rt:=D.rt} (σ.set j (some (.ref b))) H2)
noncomputable def Wh (K:PySem.W.Frag) (C2:Addr) (i:Nat) (sp:Sp) (eK:List V) (t:TA) (ts:TS):TS:=fun D σ H=>t σ H fun vs H1=>sp (vs++eK) H1 (fun v H2=>D.nx (σ.set i (some v)) H2)
 (fun cls a H2=>∃b C Cb,cls=.ref C∧a=some b∧f_ K C Cb∧(C2=C∨C2=Cb)∧ts D σ H2)
noncomputable def Wi (K:PySem.W.Frag) (ta:TE) (g:Str):TE:=fun σ H Q=>ta σ H fun x H1=>∃a C Cb dx fs raw i,x=.ref a∧H1 a=some (.ext (XO C a (some dx) raw))∧H1 dx=some (.xd fs)∧f_ K C Cb∧PySem.W.findIn K (.ref C) g=some none∧fs.lookup g=some (.int i)∧Q (.int i) H1
end
section
variable {prog:Program}{w:World}{A:Around}{E:Value→Shared→Prop}{s:Shared}
theorem xY {es:Array DictEntry}{p:DictEntry→Bool}(h:(es.toList.find? p).map (·.val)=none):es.findIdx? p=none:=by
 obtain⟨l⟩:=es
 have h1:l.find? p=none:=by simpa using h
 have h2:∀x∈l,p x=false:=fun x hx=>by
  have:=List.find?_eq_none.mp h1 x hx
  simpa using this
 simp only [List.findIdx?_toArray]
 exact List.findIdx?_eq_none_iff.mpr h2
theorem Mb {δ:Type}{R:δ→Value→Prop}{a:Addr}{D:List (Str×δ)}{k:Str}{tk:Tok}{Q:Value→Shared→Prop}(ht:KTD.TabOf R s.heap a D) (hd:KTD.datumAt k D=none)
  (h:Q .none {s with toks:=s.toks+1}):wpAny (model prog w) A (call (.builtin "dict.get") [.ref a,.str k tk]) Q E s:=by
 obtain⟨hm,o,es,ep,ho,ex,FX,f9⟩:=ht
 have hi:=xY (f9.find_none hd)
 refine wpAny_call_entry PySem.F.slot_dict_get ⟨o,ho,ex.1⟩ PySem.F.entry_dict_get ?_ (PySem.F.args_dict_get_2 _ _)
 have xT:∀(Q':Option Value→Shared→Prop) (E':Value→Shared→Prop),Q' none {s with toks:=s.toks+1}→wpAny (model prog w) A.in1 (dictGet a (.str k tk)) Q' E' s:=fun Q' E' hq=>by
  unfold dictGet
  refine wpAny_holding (wpAny_bind (wpAny_pyHash_str (wpAny_bind (KTD.kt_dictFind_strs (s:={s with toks:=s.toks+1}) ho FX (by rw [←Array.all_toList]; exact f9.exact) ?_))))
  rw [hi]
  exact wpAny_pure hq
 unfold Builtin.«dict.get»
 repeat (first | (refine xT _ _ ?_) | wp_step | (refine AutoSeq1.wpAny_loadPart' ho ?_))
 exact⟨_,rfl,h⟩
end
section
variable {X:Cx}
theorem HP {a:Addr}{D:List (Str×Addr)}(t:lN X.K a D):Z3 X "dict.get" (fun x vs H Q=>∃k,x=.ref a∧vs=[.str k]∧((∃b,KTD.datumAt k D=some b∧Q (.ref b) H)∨(KTD.datumAt k D=none∧Q .bj H))):=by
 intro pins s σ H x vs v us Q I rx rv h
 obtain⟨k,rfl,rfl,h⟩:=h
 rcases h with ⟨b,hd,q⟩ | ⟨hd,q⟩
 ·exact L4 t pins s σ H _ _ v us Q I rx rv ⟨k,b,rfl,rfl,hd,q⟩
 ·cases rx
  obtain⟨u,rfl,tk,rfl⟩:=rv.one
  exact Mb (t.of fun c o e=>I.eZ c o e) hd ⟨.bj,H,I.tok _,rfl,q⟩
noncomputable def HQ (a:Addr) (D:List (Str×Addr)) (td ty:TE):TE:=fun σ H Q=>td σ H fun x H1=>x=.ref a∧ty σ H1 fun y H2=>∃k,y=.str k∧((∃b,KTD.datumAt k D=some b∧Q (.ref b) H2)∨(KTD.datumAt k D=none∧Q .bj H2))
theorem HR {o e:Expr}{apos cK:Pos}{td ty:TE}{a:Addr}{D:List (Str×Addr)}(t:lN X.K a D) (ho:PE X o td) (he:PE X e ty) (m:M1 X o "get" apos e cK):PE X (.Call (.Attribute o "get" apos) [e] [] cK) (HQ a D td ty):=by
 intro pins s σ H Q I h
 refine wpAny_Call_method m.base m.cw m.line PySem.F.plainAttrs_dict PySem.F.slot_dict_get PySem.F.type_dict_get (b_ (ho pins s σ H _ I h) fun u s1 ⟨x,H1,I1,rx,ex,q1⟩=>?_)
 subst ex
 obtain rfl:u=Value.ref a:=rx
 obtain⟨_,o1,es,ep,Se,Sf,FX,_⟩:=t.of (h:=s1.heap) fun c o e=>I1.eZ c o e
 refine⟨⟨o1,Se,Sf.1⟩,fun c ec=>?_,?_⟩
 ·cases ec
  exact⟨o1,Se,Sf.2.1⟩
 rw [m.trees]
 refine Calls.callWith_builtin rfl (Calls.evalArgs_plain (Calls.spliced_cons (b_ (he pins s1 σ H1 _ I1 q1) fun iv s2 ⟨y,H2,I2,ry,k,ey,q2⟩=>Calls.spliced_nil ?_)))
 subst ey
 exact HP t pins s2 σ H2 (.ref a) [.str k] (.ref a) [iv] Q I2 rfl (.cons ry .nil) ⟨k,rfl,rfl,q2⟩
noncomputable def aaG (c c2:Str) (te:TE):TE:=fun σ H Q=>c.length≤sizeLine∧te σ H fun v H1=>∃n:Int,v=.int n∧n.natAbs.log2 < 1920∧(c++(Str.ofString (toString n))).length≤sizeLine∧(c++(Str.ofString (toString n))++c2).length≤sizeLine∧Q (.str (c++Str.ofString (toString n)++c2)) H1
end
end L2
namespace L2
open PySem PySem.Spec PyProof.Rows
section
variable {X:Cx}
theorem Bs.aaH {i j:Nat}{x y:Str}{es:List Expr}{ws:List Str}{xs:List V}{l:Addr}{p1 p2 p3 p4 pos:Pos}{D:Ends}{σ:St}{H:Hp}(hN:X.N.Nodup) (hi:X.N[i]?=some x) (hx:Loc X.env.scope x) (he:strsOf es=some ws)
  (hy:X.N[j]?=some y) (hv:ZV X.env.scope y) (HS:(y == ("__debug__":Str))=false) (hd2:(y == ("__classdict__":Str))=false)
  (hs:swapsWith (.BinOp (.Name y p3) .Add (.List es p2) p4) (some (.Name x p1)) pos.line X.env=pure false) (hf:X.fn x=true∨X.env.scope.names.lookup x=some .local) (hl:ws.length≤100)
  (hσ:σ[j]?=some (some (.ref l))) (hL:H l=some (.lst xs)) (Z6:xs.length≤900)
  (q:∀l2 H2,ar H H2→H2 l2=some (.lst (xs++ws.map V.str))→D.nx (σ.set i (some (.ref l2))) H2):Bs X (.Assign [.Name x p1] (.BinOp (.Name y p3) .Add (.List es p2) p4) pos) D σ H:=by
 refine Bs.of (bc hN hi hx (bo kF (pv j hy hv HS hd2) (bG (uV he))) hs hf) ?_
 refine⟨_,hσ,?_,fun p hp=>⟨l,p,xs,ws.map V.str,rfl,rfl,bN.of (ar.put hp _ _ hL),bN.of af,by rw [List.length_map,sizeLine_eq]; omega,fun p2 EM=>q p2 _ ((ar.put hp).trans (.put EM)) af⟩⟩
 rw [List.length_map]
 exact Nat.le_of_lt (aQ (by omega))
end
end L2
namespace L2
open PySem PySem.Spec PyProof.Rows
section
variable {X:Cx}
inductive xZ:List (Option Expr)→List Expr→List (Key×V)→Prop
 | nil:xZ [] [] []
 | int {x n u1 p1 u2 p2 ks vs r}:xZ ks vs r→xZ (some (.Constant (.str x) u1 p1)::ks) (.Constant (.int n) u2 p2::vs) ((.inr x,.int n)::r)
 | str {x y u1 p1 u2 p2 ks vs r}:xZ ks vs r→xZ (some (.Constant (.str x) u1 p1)::ks) (.Constant (.str y) u2 p2::vs) ((.inr x,.str y)::r)
end
end L2
namespace L2
open PySem PySem.Spec PyProof.Rows
noncomputable abbrev Wj (A:Around):Around:={A with handled:=none}
structure abK (P:Program) (w:World) (K:PySem.W.Frag) (mg:Str→Option Value) (base:Heap) (CX:rL) (k:Nat) (f:Addr) (fd:FuncData) (ps:List Str) (sp:Sp):Prop where
 len:∀vs H Q E,sp vs H Q E→vs.length=ps.length
 run:∀(A:Around) (outer:List Env) (s:Shared) (H:Hp) (args:Args) (us:List Value) (vs:List V) (Q:VK) (E:XK),dH k (Wj A)→xu P w K mg base A outer s H→BindsTo s fd args (ps.zip us)→Vals vs us→sp vs H Q E →
  codeAny (model P w) A (.call (.ref f) args) (CR CX outer P w H s Q E) s
section
variable {P:Program}{w:World}{K:PySem.W.Frag}{mg:Str→Option Value}{base:Heap}
end
section
variable {X:Cx}{CX:rL}{k:Nat}{f C Cb:Addr}{fd:FuncData}{ps:List Str}{sp:Sp}{eK:List V}{ds:List Value}{E:XK}{x m:Str}{p pos apos:Pos}{e o:Expr}{es:List Expr}{ta:TE}{t:TA}
end
section
variable {prog:Program}{w:World}{A:Around}{E:Value→Shared→Prop}{s:Shared}{env:Env}
end
section
variable {P:Program}{w:World}{K:PySem.W.Frag}{mg:Str→Option Value}{base:Heap}
end
section
variable {prog:Program}{w:World}{A:Around}{E:Value→Shared→Prop}{s:Shared}{env:Env}
end
section
variable {X:Cx}{k:Nat}{f C2:Addr}{fd:FuncData}{ps:List Str}{sp:Sp}{eK:List V}{ds:List Value}{x y n cn:Str}{p np pos apos Sd cK Ma:Pos}{e:Expr}{es:List Expr}{t:TA}{b0:Stmt}{body pd:List Stmt}{i j:Nat}
end
section
variable {X:Cx}{pos:Pos}
end
end L2
namespace L2
open PySem PySem.Spec PyProof.Rows
section
variable {X:Cx}{pins:List (Addr×Obj)}{σ:St}{H:Hp}{s:Shared}
structure abL (X:Cx) (pins:List (Addr×Obj)) (b:Addr):Prop where
 sz:X.s₀.heap.objs.size≤b
 loc:b≠X.env.locals
 cell:∀x c,X.env.cells.lookup x=some c→c≠b
 pin:∀p∈X.pn++pins,p.1≠b
 fs:b∉X.fs
structure abM (scope:Scope) (p fv:Str):Prop where
 kind:scope.kind=.function
 co:scope.isCoroutine=false
 gen:scope.isGenerator=false
 par:scope.names.lookup p=some .local
 free:scope.names.lookup fv=some .free
 only:∀x∈scope.names,x.2=.free→x.1=fv
 cell:∀x∈scope.names,x.2≠.cell
 ne:p≠fv
class BM (mg:Str→Option Value) (base:Heap):Prop where
 ex:∃bm ob,mg "__builtins__"=some (.ref bm)∧bm≠builtinsNs∧bm≠mainGlobals∧base.get? bm=some ob∧ob.cls=.type "module"∧ob.dict=some builtinsNs∧ob.data=.plain
end
section
variable {P:Program}{w:World}{K:PySem.W.Frag}{mg:Str→Option Value}{base:Heap}
end
end L2
namespace L2
open PySem PySem.Spec PyProof.Rows
noncomputable def HU (L:List (Addr×Sp)) (eK:List V) (E:XK) (tf:TE) (t:TA):TE:=fun σ H Q=>tf σ H fun x H1=>∃f,x=.ref f∧∃sp,(f,sp)∈L∧t σ H1 fun vs H2=>sp (vs++eK) H2 Q E
noncomputable def VF (X:Cx) (CX:rL) (ds:List Value) (q:Addr×Sp):Prop:=∃(fd:FuncData) (ps:List Str) (k:Nat),PySem.W.keepIn X.K (.ref q.1)=true∧aY X.prog X.w X.K X.mg X.base CX k q.1 fd ps q.2∧dH k X.A∧Binds X.K fd ps ds
section
variable {X:Cx}{CX:rL}{eK:List V}{ds:List Value}{E:XK}{pos:Pos}{e fe:Expr}{es:List Expr}{tf:TE}{t:TA}{L:List (Addr×Sp)}
theorem HV (he:PE X fe tf) (hL:∀q∈L,VF X CX ds q) (hd:Vals eK ds) (hx:Passes CX X E) (ha:PA X (e::es) t)
  (Br:starEach (e::es) X.env=(false,eval e X.env)::starEach es X.env:=by rfl) (mG:(backTo pos (starEach es X.env)).any (·.1)=false:=by rfl)
  (ht:eval (.Call fe (e::es) [] pos) X.env=(do
   let f ←eval fe X.env
   callWith pos f [] (backTo pos (starEach (e::es) X.env)) (backToKw pos (keywordEach [] X.env))):=by rfl) :
  PE X (.Call fe (e::es) [] pos) (HU L eK E tf t):=by
 intro pins s σ H Q I h
 rw [ht]
 refine wpAny_bind (b_ (he pins s σ H _ I h) fun u s1 ⟨x,H1,I1,rx,f,ex,sp,hC,q⟩=>?_)
 subst ex
 obtain rfl:u=Value.ref f:=rx
 obtain⟨fd,ps,k,kp,F,hr,hb⟩:=hL _ hC
 refine PySem.W.callWith_K (first:=[]) (h₀:=X.base) I.ok.mod.Lw kp (b_ (ha pos pins s1 σ H1 _ I1 q) fun us s2 ⟨vs,H2,I2,r,q2⟩=>⟨I2.eZ,?_⟩) Br mG
 exact lL F hr hb hd hx I2 r q2
end
theorem pe:entryFor table "dict_itemiterator.__iter__"=some Builtin.«dict_keyiterator.__iter__»:=(by kernel_rfl:entryFor table "dict_itemiterator.__iter__"=entryFor table "dict_valueiterator.__iter__").trans entry_dict_valueiterator_iter
theorem nF {prog:Program}{w:World}{A:Around}{E:Value→Shared→Prop}{s:Shared}{it d:Addr}{i n ep:Nat}{ok ov:Value}{Q:Value→Shared→Prop}(hit:IsItemIter s.heap it d i n ep ok ov) (h:Q (.ref it) s):wpAny (model prog w) A (pyIter (.ref it)) Q E s:=
 have ty:s.TypeIs (.ref it) "dict_itemiterator":=⟨_,hit,rfl⟩
 wpAny_pyIter_slot ty F.slot_dict_itemiterator_iter (wpAny_call_entry F.slot_dict_itemiterator_iter ty pe (id (wpAny_pure ⟨_,rfl,_,_,ty,F.slot_dict_itemiterator_next.lookup,h⟩)) (F.args_dict_itemiterator_iter_1 _))
noncomputable def Iti (a:Addr) (o:Obj) (kvs:List (Key×V)):It:=
 ⟨fun i H=>i < kvs.length∧H a=some (.dF o (.dK kvs)),fun i H x H'=>∃t kv,H t=none∧kvs[i]?=some kv∧x=.ref t∧H'=upd H t (.tup [kV kv.1,kv.2]),fun i H=>kvs.length≤i∧H a=some (.dF o (.dK kvs))⟩
theorem BU {P:Program}{w:World}{K:PySem.W.Frag}{es:List Expr}{k:Nat}{tp:Pos}{a it:Addr}{o:Obj}{kvs:List (Key×V)}{vs:List (Key×Value)}{ep:Nat}(hd:(a == sysModules)=false) (rel:KV kvs vs)
  (dat:∀h:Heap,h.get? a=some o→h.DictAt (br P w) a vs ep):Turn P w K (.Tuple es k tp) (Iti a o kvs) [it] it (fun i h=>∃ok ov,IsItemIter h it a i vs.length ep ok ov) where
 mem:=by simp
 obj:=fun i h st b hb=>by
  have e:b=it:=by simpa using hb
  subst e
  obtain⟨ok,ov,he⟩:=st
  exact⟨_,he,fun v z=>by cases z⟩
 keep:=fun i h h' st kk=>by
  obtain⟨ok,ov,he⟩:=st
  exact⟨ok,ov,kk it (by simp) _ he⟩
 item:=by
  intro X hP hw hK hc i pins s σ H E I hf st hg
  subst hP hw hK
  obtain⟨hi,ha⟩:=hg
  obtain⟨ho,_⟩:=I.bw a _ ha
  have hv:i < vs.length:=by rw [←rel.length]; exact hi
  obtain⟨ok,ov,he⟩:=st
  refine wpAny_pyNext_items_item he (dat _ ho) (k:=vs[i].1) (v:=vs[i].2) (List.getElem?_eq_getElem hv) fun key h' hk aaI hT hsz hkp=>?_
  refine⟨_,rfl,wpAny_letOwnedTupleGo_items (s:={s with heap:=h'}) aaI fun h2 he2 Vy=>?_⟩
  have hel:it < s.heap.objs.size:=Heap.lt_size he
  have hn:H s.heap.objs.size=none:=I.fresh
  have kp:∀b o,b≠it→s.heap.get? b=some o→h2.get? b=some o:=fun b o h1 z=>(Vy.2 b h1).trans (hkp b o h1 z)
  have Mc:h2.get? s.heap.objs.size=some {cls:=.type "tuple",data:=.seq #[key,vs[i].2]}:=(Vy.2 _ (Nat.ne_of_gt hel)).trans hT
  have fi:=hf it (by simp)
  have ne:∀b o,H b=some o→b≠it:=fun b o z z2=>by subst z2; rw [fi.1] at z; cases z
  have lt:∀b o,H b=some o→b≠s.heap.objs.size:=fun b o z=>Nat.ne_of_lt (I.bw.lt z)
  have ek:=rel.get (List.getElem?_eq_getElem hi) (List.getElem?_eq_getElem hv)
  have ev:=KV.RZ rel (List.getElem?_eq_getElem hi) (List.getElem?_eq_getElem hv)
  have rk:RelV (kV kvs[i].1) key:=by rw [ek]; exact ES hk
  have bw:ip X.prog X.w (upd H s.heap.objs.size (.tup [kV kvs[i].1,kvs[i].2])) h2:=fun b o z=>by
   by_cases hb:b=s.heap.objs.size
   ·subst hb
    rw [af] at z
    cases z
    exact⟨by show 2≤_; decide,[key,vs[i].2],.cons rk (.cons ev .nil),⟨_,Mc,rfl,_,rfl⟩⟩
   ·rw [ak hb] at z
    refine(I.bw b o z).rH (fun c v hc q=>?_) (fun c q=>by rw [ak (lt c _ q)]; exact q) fun c ys q=>by rw [ak (lt c _ q)]; exact q
    rcases hc with rfl | hc
    ·exact kp _ v (ne _ o z) q
    ·exact kp c v (ne c _ hc) q
  have Wk:∀b o,s.heap.get? b=some o→b≠s.heap.objs.size:=fun b o z=>Nat.ne_of_lt (Heap.lt_size z)
  have U:Un (mE X.stack) [it] H (upd H s.heap.objs.size (.tup [kV kvs[i].1,kvs[i].2])) s.heap h2:=by
   have Ly:∀b,b∉[it]→b≠it:=fun b hb z=>hb (by simp [z])
   refine⟨fun b o z _ _ hb=>kp b o (Ly b hb) z,fun b o z _ _ hb=>⟨o.slots,kp b o (Ly b hb) z⟩,fun b o z n hb=>by rw [ak (Wk b o z)]; exact n,fun b o z hb=>?_,fun b ys z=>by rw [ak (lt b _ z)]; exact z,fun b o u z=>by rw [ak (lt b _ z)]; exact z,fun b ps z=>⟨#[],by rw [ak (lt b _ z),z]; simp⟩⟩
   exact⟨o,kp b o (Ly b hb) z⟩
  have I2:Inv X pins σ (upd H s.heap.objs.size (.tup [kV kvs[i].1,kvs[i].2])) {s with heap:=h2}:=I.call (g':=s.gens) (t':=s.toks) (d':=s.drawn) (ch:=[it]) U bw I.bare fun b hb=>by
   have f:=hf b hb
   exact⟨f.2.2.2.1,f.2.1,f.2.2.2.2.1,f.2.2.2.2.2⟩
  refine⟨.ref s.heap.objs.size,_,I2,rfl,⟨s.heap.objs.size,kvs[i],hn,List.getElem?_eq_getElem hi,rfl,rfl⟩,⟨_,_,he2⟩,fun b hb=>?_⟩
  have eb:b=it:=by simpa using hb
  subst eb
  rw [ak (Wk _ _ he)]
  exact fi.1
 done:=by
  intro X hP hw hK hc i pins s σ H E I hf st hg
  subst hP hw hK
  obtain⟨hi,ha⟩:=hg
  obtain⟨ho,_⟩:=I.bw a _ ha
  obtain⟨f0,f1,f2,f3,f4,f5⟩:=hf it (by simp)
  obtain⟨ok,ov,he⟩:=st
  have hl:=rel.length
  exact wpAny_pyNext_items_end (I.ok.hd hc) he (dat _ ho) (List.getElem?_eq_none (by omega)) fun h' eb=>⟨rfl,I.turned (t':=s.toks) (fun b o hb e=>eb b o hb e) f0 f1 f3 f4 f5⟩
 self:=fun _ _ _ _ _ st h=>by
  obtain⟨ok,ov,he⟩:=st
  exact nF he h
section
variable {X:Cx}
theorem x4:Ry X "dict.items" (fun x vs H Q=>∃(a:Addr) (kvs:List (Key×V)),x=.ref a∧vs=[]∧Rd H a (.dK kvs)∧∀p,H p=none→Q (.ref p) (upd H p (.ext fun h=>h.IsItemsView p a))):=by
 intro pins s σ H x vs v us Q I rx rv h
 obtain⟨a,kvs,rfl,rfl,ha,q⟩:=h
 cases rx
 cases rv
 obtain⟨z,hd,vs,rel,dd⟩:=jB I.bw ha
 refine call_meetsIn PySem.F.slot_dict_items dd.typeIs PySem.F.entry_dict_items (PySem.F.args_dict_items_1 _) (meets_dict_items (br X.prog X.w) a hd) ⟨⟨vs,dd⟩,.ref s.heap.objs.size,_,I.laid (a:=s.heap.objs.size) (t':=s.toks) (fun b o hb=>Heap.get?_push_of_some _ hb) (Nat.le_refl _) ?_,rfl,q _ (I.bw.fresh (Nat.le_refl _))⟩
 have e:=Heap.get?_push_size s.heap (o:={cls:=.type "dict_items",data:=.fields #[.ref a]}) rfl
 exact⟨⟨_,e,rfl,rfl⟩,⟨_,e⟩,fun h1 h2 ⟨o,e1,c,d⟩ k=>⟨o,k o e1,c,d⟩⟩
noncomputable def BV (tl:TE):TI:=fun σ H R=>tl σ H fun x H1=>∃p a kvs,x=.ref p∧H1 p=some (.ext fun h=>h.IsItemsView p a)∧H1 a=some (.dK kvs)∧∀o,R (Iti a o kvs) (upd H1 a (.dF o (.dK kvs)))
theorem x5 {es:List Expr}{k:Nat}{tp:Pos}{l:Expr}{tl:TE}(hl:PE X l tl):PI X (.Tuple es k tp) l (BV tl):=by
 intro pins s σ H R I h
 refine b_ (hl pins s σ H _ I h) fun v s1 ⟨x,H1,I1,r1,q1⟩=>?_
 obtain⟨p,a,kvs,e,hp,ha,q⟩:=q1
 subst e
 cases r1
 have hv:s1.heap.IsItemsView p a:=(I1.bw p _ hp).1
 obtain⟨z,hd,vs,rel,dd⟩:=kJ I1.bw ha
 obtain⟨o,ho,I2⟩:=I1.freeze ha
 obtain⟨ep,dat⟩:=dd.dictAt
 have HC:∀h:Heap,h.get? a=some o→h.DictAt (br X.prog X.w) a vs ep:=fun h e=>by
  obtain⟨o',es,h1,h2⟩:=dat
  rw [ho] at h1
  cases h1
  exact⟨o,es,e,h2⟩
 refine wpAny_pyIter_items hv dat ?_
 refine⟨s1.heap.objs.size,[s1.heap.objs.size],_,_,_,rfl,I2.kept (t':=s1.toks) fun b o e=>Heap.get?_push_of_some _ e,BU hd rel HC,⟨_,_,Heap.get?_push_size _ rfl⟩,fun b hb=>?_,q o⟩
 have e:b=s1.heap.objs.size:=by simpa using hb
 subst e
 exact I2.Fs (Nat.le_refl _) (I2.bw.fresh (Nat.le_refl _))
theorem HW {a:Addr}{o:Obj}{kvs:List (Key×V)}{g:TG}{tb:TS}{D:Ends}{σ:St}{H:Hp}(Pv:Nat→St→Hp→Prop) (h0:Pv 0 σ H) (hl:∀i σ H,i≤kvs.length→Pv i σ H→H a=some (.dF o (.dK kvs)))
  (hs:∀i kv t σ H,kvs[i]?=some kv→Pv i σ H→H t=none→g (.ref t) σ (upd H t (.tup [kV kv.1,kv.2])) fun σ2 H2=>tb {D with nx:=Pv (i+1),ct:=Pv (i+1),bk:=D.nx} σ2 H2) (hd:∀σ H,Pv kvs.length σ H→D.nx σ H):FI (Iti a o kvs) g tb D σ H:=by
 refine⟨fun i m σ H=>m=kvs.length - i∧i≤kvs.length∧Pv i σ H,⟨kvs.length,by simp,Nat.zero_le _,h0⟩,?_⟩
 rintro i m σ H ⟨rfl,hi,p⟩
 have q:=hl i σ H hi p
 by_cases jJ:i < kvs.length
 ·refine .inr ⟨⟨jJ,q⟩,Pv (i+1),fun σ' H' p'=>⟨kvs.length - (i+1),by omega,rfl,jJ,p'⟩,fun x H' y=>?_⟩
  obtain⟨t,kv,ht,e,rfl,rfl⟩:=y
  exact hs i kv t σ _ e p ht
 ·have e:i=kvs.length:=by omega
  subst e
  exact .inl ⟨⟨Nat.le_refl _,q⟩,hd σ H p⟩
end
end L2
namespace L2
open PySem PySem.Spec PyProof.Rows
section
variable {prog:Program}{w:World}{A:Around}{E:Value→Shared→Prop}{s:Shared}
theorem EW {δ:Type}{R:δ→Value→Prop}{a:Addr}{D:List (Str×δ)}{k:Str}{tk:Tok}{d:δ}{Q:Option Value→Shared→Prop}(ht:KTD.TabOf R s.heap a D) (hd:KTD.datumAt k D=some d)
  (h:∀v,R d v→Q (some v) {s with toks:=s.toks+1}):wpAny (model prog w) A (dictGet a (.str k tk)) Q E s:=by
 obtain⟨hm,o,es,ep,ho,ex,FX,f9⟩:=ht
 obtain⟨v,hv,hR⟩:=f9.find_some hd
 obtain⟨i,hi,hiv⟩:=EU hv
 unfold dictGet
 refine wpAny_holding (wpAny_bind (wpAny_pyHash_str (wpAny_bind (KTD.kt_dictFind_strs (s:={s with toks:=s.toks+1}) ho FX (by rw [←Array.all_toList]; exact f9.exact) ?_))))
 rw [hi]
 refine wpAny_bind (wpAny_dictEntries (s:={s with toks:=s.toks+1}) ho FX (wpAny_pure ?_))
 rw [hiv]
 exact h v hR
theorem HX {δ:Type}{R:δ→Value→Prop}{a:Addr}{D:List (Str×δ)}{k:Str}{tk:Tok}{Q:Option Value→Shared→Prop}(ht:KTD.TabOf R s.heap a D) (hd:KTD.datumAt k D=none)
  (h:Q none {s with toks:=s.toks+1}):wpAny (model prog w) A (dictGet a (.str k tk)) Q E s:=by
 obtain⟨hm,o,es,ep,ho,ex,FX,f9⟩:=ht
 have hi:=xY (f9.find_none hd)
 unfold dictGet
 refine wpAny_holding (wpAny_bind (wpAny_pyHash_str (wpAny_bind (KTD.kt_dictFind_strs (s:={s with toks:=s.toks+1}) ho FX (by rw [←Array.all_toList]; exact f9.exact) ?_))))
 rw [hi]
 exact wpAny_pure h
theorem kd_item {δ:Type}{R:δ→Value→Prop}{a:Addr}{D:List (Str×δ)}{k:Str}{tk:Tok}{d:δ}{Q:Value→Shared→Prop}(ht:KTD.TabOf R s.heap a D) (hd:KTD.datumAt k D=some d)
  (h:∀v,R d v→Q v {s with toks:=s.toks+1}):wpAny (model prog w) A (getItem (.ref a) (.str k tk)) Q E s:=by
 have ty:s.TypeIs (.ref a) "dict":=by
  obtain⟨hm,o,es,ep,ho,ex,FX,f9⟩:=ht
  exact⟨o,ho,ex.1⟩
 unfold getItem
 try with_reducible refine wpAny_holding ?_
 refine wpAny_bind (wpAny_sequenceKey ty (by decide) ?_)
 refine wpAny_bind (wpAny_callSpecial?_slot (name:=Str.ofString "__getitem__") ty PySem.F.slot_dict_getitem
  (wpAny_call_entry PySem.F.slot_dict_getitem ty PySem.F.entry_dict_getitem ?_ (PySem.F.args_dict_getitem_2 _ _)))
 show wpAny _ _ (dictGet a (.str k tk) >>= _) _ _ s
 exact wpAny_bind (EW ht hd fun v hv=>wpAny_pure ⟨v,rfl,wpAny_pure (h v hv)⟩)
theorem Md {δ:Type}{R:δ→Value→Prop}{a:Addr}{D:List (Str×δ)}{k:Str}{tk:Tok}{dv:Value}{Q:Value→Shared→Prop}(ht:KTD.TabOf R s.heap a D)
  (h:(∃d,KTD.datumAt k D=some d∧∀v,R d v→Q v {s with toks:=s.toks+1})∨(KTD.datumAt k D=none∧Q dv {s with toks:=s.toks+1})):wpAny (model prog w) A (call (.builtin "dict.get") [.ref a,.str k tk,dv]) Q E s:=by
 have ty:s.TypeIs (.ref a) "dict":=by
  obtain⟨hm,o,es,ep,ho,ex,FX,f9⟩:=ht
  exact⟨o,ho,ex.1⟩
 refine wpAny_call_entry PySem.F.slot_dict_get ty PySem.F.entry_dict_get ?_ (PySem.F.args_dict_get_3 _ _ _)
 show wpAny _ _ (dictGet a (.str k tk) >>= _) _ _ s
 rcases h with ⟨d,hd,h⟩ | ⟨hd,h⟩
 ·exact wpAny_bind (EW ht hd fun v hv=>wpAny_pure ⟨v,rfl,h v hv⟩)
 ·refine wpAny_bind (HX ht hd ?_)
  show wpAny _ _ (Builtin.Dict.missed a (.str k tk) >>= _) _ _ _
  exact wpAny_bind (wpAny_missed_other ht.1 (wpAny_pure ⟨dv,rfl,h⟩))
end
section
variable {X:Cx}{o e f i:Expr}{apos cK pos:Pos}{td ty tx:TE}{a:Addr}{D:List (Str×Addr)}
theorem Me (t:lN X.K a D) (ho:PE X o td) (hi:PE X i ty) (hs:RS i):PE X (.Subscript o i pos) (Om a D td ty):=by
 intro pins s σ H Q I h
 refine EO PySem.F.slot_dict_getitem.lookup hs (b_ (ho pins s σ H _ I h) fun u s1 ⟨x,H1,I1,rx,ex,q1⟩=>b_ (hi pins s1 σ H1 _ I1 q1) fun iv s2 ⟨y,H2,I2,ry,k,b,ey,hd,q2⟩=>?_)
 subst ex
 obtain rfl:u=Value.ref a:=rx
 subst ey
 obtain⟨tk,rfl⟩:=ry
 have ht:=t.of (h:=s2.heap) fun c o e=>I2.eZ c o e
 obtain⟨_,o1,es,ep,Se,Sf,_⟩:=id ht
 refine⟨⟨o1,Se,Sf.1⟩,kd_item ht hd fun v e=>?_⟩
 subst e
 exact⟨.ref b,H2,I2.tok _,rfl,q2⟩
noncomputable def HY (a:Addr) (D:List (Str×Addr)) (td ty tx:TE):TE:=fun σ H Q=>td σ H fun x H1=>x=.ref a∧ty σ H1 fun y H2=>tx σ H2 fun z H3=>∃k,y=.str k∧((∃b,KTD.datumAt k D=some b∧Q (.ref b) H3)∨(KTD.datumAt k D=none∧Q z H3))
theorem HZ (t:lN X.K a D) (ho:PE X o td) (he:PE X e ty) (hf:PE X f tx) (m:M2 X o "get" apos e f cK):PE X (.Call (.Attribute o "get" apos) [e,f] [] cK) (HY a D td ty tx):=by
 intro pins s σ H Q I h
 refine wpAny_Call_method m.base m.cw m.line PySem.F.plainAttrs_dict PySem.F.slot_dict_get PySem.F.type_dict_get (b_ (ho pins s σ H _ I h) fun u s1 ⟨x,H1,I1,rx,ex,q1⟩=>?_)
 subst ex
 obtain rfl:u=Value.ref a:=rx
 obtain⟨_,o1,es,ep,Se,Sf,FX,_⟩:=t.of (h:=s1.heap) fun c o e=>I1.eZ c o e
 refine⟨⟨o1,Se,Sf.1⟩,fun c ec=>?_,?_⟩
 ·cases ec
  exact⟨o1,Se,Sf.2.1⟩
 rw [m.trees]
 refine Calls.callWith_builtin rfl (Calls.evalArgs_plain (Calls.spliced_cons (b_ (he pins s1 σ H1 _ I1 q1) fun iv s2 ⟨y,H2,I2,ry,q2⟩=>
  Calls.spliced_cons (b_ (hf pins s2 σ H2 _ I2 q2) fun fv s3 ⟨z,H3,I3,rz,k,ey,q3⟩=>Calls.spliced_nil ?_))))
 subst ey
 obtain⟨tk,rfl⟩:=ry
 refine Md (t.of (h:=s3.heap) fun c o e=>I3.eZ c o e) ?_
 rcases q3 with ⟨b,hd,q⟩ | ⟨hd,q⟩
 ·refine .inl ⟨b,hd,fun v e=>?_⟩
  subst e
  exact⟨.ref b,H3,I3.tok _,rfl,q⟩
 ·exact .inr ⟨hd,z,H3,I3.tok _,rz,q⟩
end
section
variable {X:Cx}
noncomputable def tLT (t:TE):TT:=fun σ H Q=>t σ H fun x H'=>∃(a:Addr) (xs:List V),x=.ref a∧H' a=some (.lst xs)∧xs.length≤1000∧Q (!xs.isEmpty) H'
theorem Sg {e:Expr}{t:TE}(h:PE X e t) (he:∀whole,isTrue e X.env whole=(do let v ←whole; standAt e.pos; holding [v] (truthy v)):=by intro _; rfl):PT X e (tLT t):=by
 intro pins s σ H Q I hw
 refine isTrue_plain (b_ (h pins s σ H _ I hw) fun v s1 ⟨x,H1,I1,r1,q1⟩=>?_) (he _)
 obtain⟨a,xs,rfl,ha,hl,q⟩:=q1
 cases r1
 obtain⟨_,bq,n,r,hz,e⟩:=I1.BH ha
 have hlen:=r.length
 refine wpAny_truthy_list ⟨_,e,rfl,_,rfl⟩ (by rw [List.size_toArray]; omega) ⟨H1,(I1.tok _).tok _,?_⟩
 have:(bq.toArray.isEmpty)=xs.isEmpty:=by
  cases bq with
  | nil=>cases xs with
   | nil=>rfl
   | cons=>cases hlen
  | cons=>cases xs with
   | nil=>cases hlen
   | cons=>rfl
 rw [this]
 exact q
end
end L2
namespace L2
open PySem PySem.Spec PyProof.Rows
set_option maxRecDepth 100000
theorem tZ:entryFor table "dict.update.loop"=some Builtin.«dict.update.loop»:=entryFor_of_tree (by kernel_rfl)
theorem jd:plainId "dict.update.loop"=true:=by decide +kernel
section
variable {prog:Program}{w:World}{κ:Type} [DecidableEq κ] {knd:KeyKind prog w κ}{A:Around}{R:Result→Shared→Prop}{I:Addr}{fp wr:List Addr}{G:Array GenState→Array GenState→Prop}{n:Nat}{P:Nat→Value→Prop}{St:Nat→Shared→Prop}
noncomputable def cM (ps:List (κ×Value×Value)):List (κ×Value):=ps.foldl (fun acc p=>stored acc p.1 p.2.2) []
theorem pf (ps:List (κ×Value×Value)) (p:κ×Value×Value):cM (ps++[p])=stored (cM ps) p.1 p.2.2:=by
 unfold cM
 rw [List.foldl_append]
 rfl
theorem BW (kvs:List (κ×Value)) (k:κ) (v:Value):(stored kvs k v).length≤kvs.length+1:=by
 unfold stored
 split
 ·rw [List.length_map]; omega
 ·rw [List.length_append,List.length_singleton]; exact Nat.le_refl _
theorem g_:∀(ps:List (κ×Value×Value)) (acc:List (κ×Value)),(ps.foldl (fun acc p=>stored acc p.1 p.2.2) acc).length≤acc.length+ps.length
 | [],_=>Nat.le_refl _
 | p::ps,acc=>by
  have h1:=g_ ps (stored acc p.1 p.2.2)
  have h2:=BW acc p.1 p.2.2
  rw [List.foldl_cons,List.length_cons]
  omega
theorem rN (ps:List (κ×Value×Value)):(cM ps).length≤ps.length:=by
 have:=g_ ps []
 rw [List.length_nil,Nat.zero_add] at this
 exact this
noncomputable def lP (h:Heap) (t:Addr) (x y:Value):Prop:=∃o m,h.get? t=some o∧o.cls=.type "tuple"∧o.data=.seq #[x,y] m
theorem H_ (W:WalksS prog w A.in1 I fp wr G n P St) (d:Addr) (N_:d∉fp) (ps:List (κ×Value×Value)) (hlen:ps.length=n) (tp:Nat→Addr) (hP:∀i v,P i v→v=.ref (tp i)) (htp:∀i,i < n→tp i≠d∧tp i∉wr)
  (hk:∀p∈ps,knd.is p.1 p.2.1=true) (hsz:n≤sizeLine) {result:Value} :
  ∀(k i:Nat) (s:Shared),n - i=k→i≤n→St i s→s.heap.DictOf knd d (cM (ps.take i))→(∀(j:Nat) p,ps[j]?=some p→lP s.heap (tp j) p.2.1 p.2.2) →
   (∀s',Moved (d::wr) G s s'→s'.heap.DictOf knd d (cM ps)→R (.ok (.ret result)) s') →
   codeAny (model prog w) A (.builtin "dict.update.loop" ⟨[.ref d,.ref I,rawInt i,result],[]⟩) R s:=by
 have hdw:d∉wr:=fun h=>N_ (W.sub _ h)
 have Wl:∀b∈wr,b∈d::wr:=fun b hb=>List.mem_cons_of_mem _ hb
 intro k
 induction k with
 | zero=>
  intro i s hki hi Br hD hT hR
  have hin:i=n:=by omega
  subst hin
  refine codeAny_builtin tZ ?_
  rw [Around.under_plainId jd _]
  show wpAny _ A.in1 (pyNext (.ref I) >>= _) _ _ s
  refine wpAny_bind (W.done s _ _ Br fun s' hm=>?_)
  show wpAny _ A.in1 (ret result) _ _ s'
  refine wpAny_pure (hR s' (hm.mono Wl) ?_)
  rw [←hlen,List.take_length] at hD
  obtain⟨o,es,ep,ho,rest⟩:=hD
  exact⟨o,es,ep,hm.heap d _ hdw ho,rest⟩
 | succ k ih=>
  intro i s hki hi Br hD hT hR
  have jJ:i < n:=by omega
  refine codeAny_builtin tZ ?_
  rw [Around.under_plainId jd _]
  show wpAny _ A.in1 (pyNext (.ref I) >>= _) _ _ s
  refine wpAny_bind (W.item i s _ _ jJ Br fun v s' hPv aaJ hm=>?_)
  obtain rfl:=hP i v hPv
  obtain⟨p,hp⟩:∃p,ps[i]?=some p:=⟨_,List.getElem?_eq_getElem (by omega)⟩
  have hT':∀(j:Nat) p,ps[j]?=some p→lP s'.heap (tp j) p.2.1 p.2.2:=fun j p hj=>by
   obtain⟨o,m,h1,h2⟩:=hT j p hj
   exact⟨o,m,hm.heap _ _ (htp j (by rw [←hlen]; exact(List.getElem?_eq_some_iff.mp hj).1)).2 h1,h2⟩
  have hD':s'.heap.DictOf knd d (cM (ps.take i)):=by
   obtain⟨o,es,ep,ho,rest⟩:=hD
   exact⟨o,es,ep,hm.heap d _ hdw ho,rest⟩
  obtain⟨ot,m,ht1,jM,ht3⟩:=hT' i p hp
  have tyT:s'.TypeIs (.ref (tp i)) "tuple":=⟨_,ht1,jM⟩
  show wpAny _ A.in1 (holding [Value.ref (tp i)] ((Builtin.Dict.pairItems (.ref (tp i))).tryCatch _ >>= _) >>= _) _ _ s'
  refine wpAny_bind (wpAny_holding (wpAny_bind (wpAny_tryCatch ?_)))
  unfold Builtin.Dict.pairItems
  refine wpAny_bind (wpAny_typeOf tyT ?_)
  rw [if_pos (by decide)]
  refine wpAny_bind (wpAny_seqItems ht1 ht3 (wpAny_pure ?_))
  show wpAny _ A.in1 (holding [p.2.1,p.2.2] (dictSet d p.2.1 p.2.2)) _ _ s'
  refine wpAny_holding (wpAny_dictSet_pairs (hk p (List.mem_of_getElem? hp)) hD' (fun h' hD2 BK=>?_) ?_)
  ·have hD3:h'.DictOf knd d (cM (ps.take (i+1))):=by
    rw [List.take_add_one,hp]
    show h'.DictOf knd d (cM (ps.take i++[p]))
    rw [pf]
    exact hD2
   refine wpAny_pure ⟨plainId_quiet jd _,?_⟩
   have:=ih (i+1) {s' with heap:=h',toks:=s'.toks+1} (by omega) jJ (W.frame _ s' _ _ aaJ (Nat.le_succ _) fun b hb o e=>?_) hD3 (fun j p hj=>?_) fun VE aaK aaL=>?_
   ·exact this
   ·rw [BK.2 b (fun h:b=d=>N_ (by rw [←h]; exact hb))]; exact e
   ·obtain⟨o,m,h1,h2⟩:=hT' j p hj
    exact⟨o,m,by rw [BK.2 _ (htp j (by rw [←hlen]; exact(List.getElem?_eq_some_iff.mp hj).1)).1]; exact h1,h2⟩
   ·refine hR VE (Moved.trans W.gtrans ((hm.mono Wl).then_heap (Nat.le_succ _) fun b o hb e=>?_) aaK) aaL
    rw [BK.2 b (fun h:b=d=>hb (by rw [h]; exact List.mem_cons_self))]; exact e
  ·have:=rN (ps.take i)
   rw [List.length_take] at this
   omega
end
theorem uY:typeLookup (.type "list") "keys"=pure none:=by rw [typeLookup_type,builtinLookup_eq_fast]; kernel_rfl
theorem jN {prog:Program}{w:World}{A:Around}{E:Value→Shared→Prop}{s:Shared}{a:Addr}{o:Obj}{xs:Array Value}{k:Nat}{name:Str}{Q:Option Value→Shared→Prop}
  (hx:s.heap.get? a=some o) (hc:o.cls=.type "list") (Wm:o.data=.seq xs k) (hd:o.dict=none) (Wn:typeLookup (.type "list") name=pure none) (Wo:(["__module__","__name__","__qualname__","__doc__","__annotations__"]:List Str).contains name=false) (hA:A.handled=none)
  (h:∀h' tk e,Heap.NewExcOf s.heap h' e "AttributeError"→Q none {s with heap:=h',toks:=tk}) (hsz:name.length+100≤sizeLine:=by size_fits) :
  wpAny (model prog w) A (getAttr? (.ref a) name) Q E s:=by
 obtain⟨c,dct,dat,sl⟩:=o
 simp only at hc Wm hd
 subst hc Wm hd
 obtain⟨hp,g,d,tk,os⟩:=s
 have hT:∀Wq,(⟨hp,g,d,Wq,os⟩:Shared).TypeIs (.ref a) "list":=fun _=>⟨_,hx,rfl⟩
 have f1:=sub_AttributeError
 have f3:=PySem.F.slot_list_getattribute.lookup
 have f4:=PySem.F.slot_list_getattribute.bind (.ref a)
 have f5:=am_list_getattr_none
 unfold getAttr? getAttrBy? getAttrBy
 repeat (any_goals (first | assumption | exact hT _ | ((with_reducible show wpAny _ _ (call (Value.builtin "list.__getattribute__") _ _) _ _ _); refine call_meets PySem.F.slot_list_getattribute (hT _) am_entry_list_getattribute (PySem.F.args_list_getattribute_2 _ _) (meets_getattribute_miss_list a xs k sl name _ Wn Wo hsz) ⟨hx,hA,fun h' Wq e hx'=>?_⟩) | wp_step))
 obtain⟨t',u',he⟩:=hx'.there
 show wpAny _ _ (getattributeRaised _ _ _ _ _ _ _) _ _ _
 unfold getattributeRaised
 have tyE:Shared.TypeIs ⟨h',g,d,Wq,os⟩ (.ref e) "AttributeError":=⟨_,he,rfl⟩
 repeat (any_goals (first | assumption | wp_step))
 exact h _ _ _ hx'.of
section
variable {prog:Program}{w:World}{κ:Type} [DecidableEq κ] {knd:KeyKind prog w κ}{A:Around}{E:Value→Shared→Prop}{s:Shared}
theorem nG {l:Addr}{items:Array Value}{m:Nat}{sl:Array (Option Value)}{Q:Value→Shared→Prop}(hh:A.handled=none) (hx:s.heap.get? l=some ⟨.type "list",none,.seq items m,sl⟩) (ps:List (κ×Value×Value)) (tp:Nat→Addr)
  (hlen:ps.length=items.size) (hit:∀(i:Nat) (v:Value),items[i]?=some v→v=.ref (tp i)) (hT:∀(j:Nat) p,ps[j]?=some p→lP s.heap (tp j) p.2.1 p.2.2) (hk:∀p∈ps,knd.is p.1 p.2.1=true) (hsz:ps.length≤sizeLine)
  (h:∀h' tk,h'.DictOf knd s.heap.objs.size (cM ps)→(∀b o,b < s.heap.objs.size→s.heap.get? b=some o→h'.get? b=some o)→Q (.ref s.heap.objs.size) {s with heap:=h',toks:=tk}) :
  wpAny (model prog w) A (call (.type "dict") [.ref l]) Q E s:=by
 refine callType_codes (Q₁:=fun obj s₁=>obj=.ref s.heap.objs.size∧s₁={s with heap:=s.heap.push {cls:=.type "dict",data:=.dict #[]}}) PySem.F.kt_called_dict (PySem.F.kt_typeCall_dict_1 _) PySem.F.entry_dict_init (kt_code_dict_new _ ⟨rfl,rfl⟩) ?_
 rintro obj s₁ ⟨rfl,rfl⟩
 have He:(s.heap.push {cls:=.type "dict",data:=.dict #[]}).DictOf knd s.heap.objs.size []:=Heap.DictOf.new s.heap
 have Lq:(s.heap.push {cls:=.type "dict",data:=.dict #[]}).get? l=some ⟨.type "list",none,.seq items m,sl⟩:=Heap.get?_push_of_some _ hx
 refine⟨He.typeIs,PySem.F.args_dict_init_2 _ _,?_⟩
 unfold Builtin.«dict.__init__»
 refine wpAny_bind ?_
 unfold Builtin.Dict.selfAndRest
 refine wpAny_bind (wpAny_notOrdered_dict He.typeIs ?_)
 show wpAny _ _ (pure (s.heap.objs.size,[Value.ref l])) _ _ _
 refine wpAny_pure ?_
 show wpAny _ _ (Builtin.Dict.updateFrom "dict.__init__" s.heap.objs.size (.ref l) [] .none) _ _ _
 unfold Builtin.Dict.updateFrom
 have tyL:Shared.TypeIs {s with heap:=s.heap.push {cls:=.type "dict",data:=.dict #[]}} (.ref l) "list":=⟨_,Lq,rfl⟩
 refine wpAny_bind (wpAny_typeOf tyL ?_)
 rw [if_pos (by decide)]
 refine wpAny_bind (jN Lq rfl rfl rfl uY (by decide) ?_ fun h1 tk1 e ne=>?_)
 ·show A.in1.in1.handled=none
  simp [hh]
 rw [if_pos (by decide)]
 refine wpAny_bind (wpAny_rule ?_)
 have hx2:=ne.keeps _ _ Lq
 have kG:h1.IsList l items:=⟨_,hx2,rfl,m,rfl⟩
 refine wpAny_bind (wpAny_pyIter_list kG (wpAny_pure ⟨plainId_quiet jd _,?_⟩))
 have hlS:l < s.heap.objs.size:=Heap.lt_size hx
 have hD1:h1.DictOf knd s.heap.objs.size []:=by
  obtain⟨o,es,ep,ho,rest⟩:=He
  exact⟨o,es,ep,ne.keeps _ _ ho,rest⟩
 have hdS:s.heap.objs.size < h1.objs.size:=by
  obtain⟨o,es,ep,ho,rest⟩:=hD1
  exact Heap.lt_size ho
 have aaM:l≠h1.objs.size:=Nat.ne_of_lt (Nat.lt_trans hlS hdS)
 have hh3:A.in1.in1.handled=none:=by simp [hh]
 refine H_ (n:=items.size) ((Walks.list hh3 h1.objs.size l aaM items).toS) s.heap.objs.size ?_ ps hlen tp hit (fun i hi=>?_) hk (by omega) (items.size - 0) 0 _ (by omega) (Nat.zero_le _) ⟨⟨_,Heap.get?_push_size _ rfl,rfl,rfl⟩,kG.push _⟩ (hD1.push _) (fun j p hj=>?_) fun s' hm hD'=>?_
 ·simp only [List.mem_cons,List.mem_singleton,List.not_mem_nil,or_false,not_or]
  exact⟨Nat.ne_of_lt hdS,Nat.ne_of_gt hlS⟩
 ·obtain⟨p,hp⟩:∃p,ps[i]?=some p:=⟨_,List.getElem?_eq_getElem (by omega)⟩
  obtain⟨o,mm,h2,_⟩:=hT i p hp
  have jJ:=Heap.lt_size h2
  refine⟨Nat.ne_of_lt jJ,?_⟩
  simp only [List.mem_cons,List.mem_singleton,List.not_mem_nil,or_false]
  exact Nat.ne_of_lt (Nat.lt_trans jJ hdS)
 ·obtain⟨o,mm,h2,h3⟩:=hT j p hj
  exact⟨o,mm,Heap.get?_push_of_some _ (ne.keeps _ _ (Heap.get?_push_of_some _ h2)),h3⟩
 ·obtain⟨h',g',d',Wq,os'⟩:=s'
  have eg:g'=s.gens:=hm.gens
  have ed:d'=s.drawn:=hm.drawn
  have eo:os'=s.os:=hm.os
  subst eg; subst ed; subst eo
  refine⟨rfl,h h' Wq hD' fun b o hb e=>?_⟩
  refine hm.heap b o ?_ (Heap.get?_push_of_some _ (ne.keeps _ _ (Heap.get?_push_of_some _ e)))
  simp only [List.mem_cons,List.mem_singleton,List.not_mem_nil,or_false,not_or]
  exact⟨Nat.ne_of_lt hb,Nat.ne_of_lt (Nat.lt_trans hb hdS)⟩
end
noncomputable def putAll (hU:List (Key×V)):List (Key×V):=hU.foldl (fun acc p=>putK acc p.1 p.2) []
theorem EX:∀(hU:List (Key×V)) (ps:List (Key×Value×Value)) (acc:List (Key×V)) (Sh:List (Key×Value)),KV acc Sh→hU.length=ps.length→(∀(j:Nat) p q,hU[j]?=some p→ps[j]?=some q→p.1=q.1∧RelV p.2 q.2.2)→KV (hU.foldl (fun acc p=>putK acc p.1 p.2) acc) (ps.foldl (fun acc p=>stored acc p.1 p.2.2) Sh)
 | [],[],_,_,r,_,_=>r
 | [],_::_,_,_,_,h,_=>by cases h
 | _::_,[],_,_,_,h,_=>by cases h
 | p::hU,q::ps,acc,Sh,r,hl,h=>by
  obtain⟨h1,h2⟩:=h 0 p q rfl rfl
  rw [List.foldl_cons,List.foldl_cons]
  refine EX hU ps _ _ ?_ (by simpa using hl) fun j p q hp hq=>h (j+1) p q hp hq
  rw [←h1]
  exact r.put p.1 h2
theorem kM:∀(ps:List (Key×V)) (acc:List (Key×V)),(ps.foldl (fun acc p=>putK acc p.1 p.2) acc).length≤acc.length+ps.length
 | [],_=>Nat.le_refl _
 | p::ps,acc=>by
  have h1:=kM ps (putK acc p.1 p.2)
  have h2:=iD acc p.1 p.2
  rw [List.foldl_cons,List.length_cons]
  omega
theorem BX (ps:List (Key×V)):(putAll ps).length≤ps.length:=by
 have:=kM ps []
 rw [List.length_nil,Nat.zero_add] at this
 exact this
section
variable {X:Cx}{pins:List (Addr×Obj)}{σ:St}{H:Hp}{s:Shared}
theorem x6 (I:Inv X pins σ H s):∀(ts:List Addr) (hU:List (Key×V)),ts.length=hU.length→(∀(i:Nat) t p,ts[i]?=some t→hU[i]?=some p→H t=some (.tup [kV p.1,p.2])) →
  ∃ps:List (Key×Value×Value),hU.length=ps.length∧∀(j:Nat) t p,ts[j]?=some t→hU[j]?=some p→∃q,ps[j]?=some q∧p.1=q.1∧RelV p.2 q.2.2∧RelV (kV p.1) q.2.1∧lP s.heap t q.2.1 q.2.2
 | [],[],_,_=>⟨[],rfl,fun j t p h=>by simp at h⟩
 | [],_::_,h,_=>by cases h
 | _::_,[],h,_=>by cases h
 | t::ts,p::hU,hl,h=>by
  obtain⟨ps,h1,h2⟩:=x6 I ts hU (by simpa using hl) fun i t p ht hp=>h (i+1) t p ht hp
  obtain⟨_,vs,r,o,ho,hc,m,hd⟩:=I.bw t _ (h 0 t p rfl rfl)
  cases r with
  | cons rk r=>
   cases r with
   | cons rv r=>
    cases r
    rename_i x y
    refine⟨(p.1,x,y)::ps,by simp [h1],fun j t' p' ht hp=>?_⟩
    cases j with
    | zero=>
     cases ht
     cases hp
     exact⟨_,rfl,rfl,rv,rk,o,m,ho,hc,hd⟩
    | succ j=>exact h2 j t' p' ht hp
theorem BY (hc:X.calm=true):fL X (.type "dict") (fun xs H Q=>∃(l:Addr) (ts:List Addr) (hU:List (Key×V)),xs=[.ref l]∧H l=some (.lst (ts.map V.ref))∧ts.length=hU.length∧(∀(i:Nat) t p,ts[i]?=some t→hU[i]?=some p→H t=some (.tup [kV p.1,p.2]))∧hU.length≤1000∧∀q,H q=none→Q (.ref q) (upd H q (.dK (putAll hU)))):=by
 intro pins s σ H xs us Q I r h
 obtain⟨l,ts,hU,rfl,hl,hlen,hT,hz,q⟩:=h
 obtain⟨u,rfl,rx⟩:=vals1 r
 cases rx
 obtain⟨_,bq,n,rr,hll,e⟩:=I.BH hl
 obtain⟨ps,h1,h2⟩:=x6 I ts hU hlen hT
 have hit:∀(i:Nat) (v:Value),bq.toArray[i]?=some v→v=.ref (ts.getD i 0):=fun i v hv=>by
  rw [List.getElem?_toArray] at hv
  have hi:=(List.getElem?_eq_some_iff.mp hv).1
  have hit:i < ts.length:=by
   rw [List.length_map] at hll
   omega
  obtain⟨u,hu,aaN⟩:=rr.get (i:=i) (x:=V.ref ts[i]) (by rw [List.getElem?_map,List.getElem?_eq_getElem hit]; rfl)
  rw [hu] at hv
  cases hv
  rw [List.getD_eq_getElem?_getD,List.getElem?_eq_getElem hit]
  exact aaN
 have Wr:∀(j:Nat) q,ps[j]?=some q→∃t p,ts[j]?=some t∧hU[j]?=some p∧p.1=q.1∧RelV p.2 q.2.2∧RelV (kV p.1) q.2.1∧lP s.heap t q.2.1 q.2.2:=fun j q hq=>by
  have hj:=(List.getElem?_eq_some_iff.mp hq).1
  have ht:ts[j]?=some (ts[j]'(by omega)):=List.getElem?_eq_getElem _
  have hp:hU[j]?=some (hU[j]'(by omega)):=List.getElem?_eq_getElem _
  obtain⟨q',h3,h4⟩:=h2 j _ _ ht hp
  rw [hq] at h3
  cases h3
  exact⟨_,_,ht,hp,h4⟩
 have GQ:ps.length=bq.toArray.size:=by
  rw [List.size_toArray,←hll,List.length_map]
  omega
 refine nG (knd:=br X.prog X.w) (I.ok.hd hc) e ps (fun i=>ts.getD i 0) GQ hit (fun j p hj=>?_) (fun p hp=>?_) ?_ fun h' tk dd kp=>?_
 ·obtain⟨t,p',ht,_,_,_,_,h5⟩:=Wr j p hj
  show lP s.heap (ts.getD j 0) _ _
  rw [List.getD_eq_getElem?_getD,ht]
  exact h5
 ·obtain⟨j,hj⟩:=List.mem_iff_getElem?.mp hp
  obtain⟨t,p',_,_,h3,_,h4,_⟩:=Wr j p hj
  rw [←h3]
  exact kI h4
 ·have:=aQ hz
  omega
 ·have rel:KV (putAll hU) (cM ps):=EX hU ps [] [] .nil h1 fun j p q hp hq=>by
   obtain⟨t,p',_,U_,h3,h4,_⟩:=Wr j q hq
   rw [hp] at U_
   cases U_
   exact⟨h3,h4⟩
  refine⟨.ref s.heap.objs.size,_,I.laid (a:=s.heap.objs.size) (o:=.dK (putAll hU)) (t':=tk) (fun b o hb=>kp b o (Heap.lt_size hb) hb) (Nat.le_refl _) (oY ?_ (beq_eq_false_iff_ne.mpr (Ne.symm (Nat.ne_of_lt I.big))) rel dd),rfl,q _ (I.bw.fresh (Nat.le_refl _))⟩
  have h6:=aQ hz
  have h7:=BX hU
  omega
end
theorem Mf {X:Cx}{K:PySem.W.Frag}(h:X.K=K) (hu:X.A.units+64 < cLine):mF X (compareOp .NotEq) (LV K true):=by
 subst h
 exact RN hu
end L2
namespace L2
open PySem PySem.Spec PyProof.Rows
section
variable {X:Cx}{C Cb:Addr}{x:Str}{p pos:Pos}{e:Expr}{es:List Expr}{t:TA}
noncomputable def EY (C:Addr) (t:TA):TE:=fun σ H Q=>t σ H fun vs H1=>vs.length≤1000∧∀x,H1 x=none→Q (.ref x) (upd H1 x (.ext (XO C x none true)))
theorem BZ {pins:List (Addr×Obj)}{σ:St}{H:Hp}{s:Shared}{Q:VK}{us:List Value}(c:f_ X.K C Cb) (hi:PySem.W.findIn X.K (.ref C) "__init__"=some (some (.builtin "ValueError.__init__"))) (I:Inv X pins σ H s) (Ws:us.length≤sizeLine)
  (h:∀x,H x=none→Q (.ref x) (upd H x (.ext (XO C x none true)))):wpAny (model X.prog X.w) X.A (call (.ref C) us) (EP X pins σ Q) X.xe s:=by
 have hq:=h (s.heap.objs.size+1) (I.bw.fresh (Nat.le_succ _))
 obtain⟨nm,qn,N,bs,sn,sub,ab,col,dd,k0,k1,k2,k3,k5,lk⟩:=c.lk
 obtain⟨hh,g,d,tk,os⟩:=s
 have F:=PySem.F.excBase_ValueError
 have k:∀b o,hh.get? b=some o→((hh.push {cls:=.type "tuple",data:=.seq us.toArray}).push (lO C hh.objs.size)).get? b=some o:=fun b o e=>Heap.get?_push_of_some _ (Heap.get?_push_of_some _ e)
 have hC:=I.eZ _ _ lk
 have hC1:=k _ _ hC
 have xT:((hh.push {cls:=.type "tuple",data:=.seq us.toArray}).push (lO C hh.objs.size)).get? (hh.objs.size+1)=some (lO C hh.objs.size):=by heap_get
 have T1:=(c.tail I.eZ).keeps k
 refine wpAny_call (BP F (by decide +kernel) F (c.tail I.eZ) hC (PySem.W.looks_findIn I.eZ hi) (fun self=>?_) Ws ?_)
 ·intro A' Q' E' s' _ q
  exact wpAny_of_eq (F.init.bind _) q
 ·refine codeAny_call_builtin F.init.plain F.initEntry (wpAny_check_init_subU F T1 hC1 xT rfl ?_)
  wp_walk
  have e1:=Heap.get?_update_self (Obj.mapFields fun x=>x.setIfInBounds 0 (Value.ref ((hh.push {cls:=Value.type "tuple",data:=Data.seq us.toArray}).push (lO C hh.objs.size)).objs.size)) (Heap.get?_push_of_some {cls:=Value.type "tuple",data:=Data.seq us.toArray} xT) (Obj.isFreed_of_fields (Obj.data_mapFields rfl _))
  refine⟨rfl,.ref (hh.objs.size+1),_,I.laid (a:=hh.objs.size+1) (t':=tk) (fun b o hb=>?_) (Nat.le_succ _) (XO.ok ⟨_,_,_,e1,rfl,(by decide:4 < 6),fun _=>rfl,fun _=>rfl⟩),rfl,hq⟩
  rw [Heap.get?_update_other _ _ (Nat.ne_of_gt (Nat.lt_succ_of_lt (Heap.lt_size hb)))]
  exact Heap.get?_push_of_some _ (k b o hb)
theorem lQ (c:f_ X.K C Cb) (hi:PySem.W.findIn X.K (.ref C) "__init__"=some (some (.builtin "ValueError.__init__"))) (hg:Gl X x) (hm:X.mg x=some (.ref C)) (ha:PA X (e::es) t)
  (G_:(x == ("__debug__":Str))=false:=by decide) (he:starEach (e::es) X.env=(false,eval e X.env)::starEach es X.env:=by rfl) (mG:(backTo pos (starEach es X.env)).any (·.1)=false:=by rfl) :
  PE X (.Call (.Name x p) (e::es) [] pos) (EY C t):=by
 intro pins s σ H Q I h
 refine wpAny_Call_Name_kw (i8 I hg hm ?_ G_)
 refine PySem.W.callWith_K (h₀:=X.base) I.ok.mod.Lw c.kp (b_ (ha pos pins s σ H _ I h) fun us s1 ⟨vs,H1,I1,r,hl,q⟩=>⟨I1.eZ,?_⟩) he mG
 exact BZ c hi I1 (by rw [List.nil_append,←r.length]; exact Nat.le_of_lt (aQ hl)) q
end
noncomputable def TBn (lo:Nat) (h:Heap) (H:Hp) (a:Addr):Prop:=∃o vs T oT ts,h.get? a=some o∧o.data=.fields vs∧vs[1]?=some (.ref T)∧T≠a∧h.get? T=some oT∧oT.data=.fields ts∧ts[3]?=some .none∧H T=none∧lo≤T
noncomputable def GR (P:Program) (w:World):rL:=fun outer H s E e s'=>∃a C,∃dx:Option Addr,∃cb H',e=.ref a∧s'.os=s.os∧AllBare s'.gens∧Un (mE outer) [] H H' s.heap s'.heap∧ip P w H' s'.heap∧H' a=some (.ext (BR cb C a dx false))∧TBn s.heap.objs.size s'.heap H' a∧E (.ref C) (some a) H'
theorem Ia {cb:Bool}{l:List Env}{C e:Addr}{dx:Option Addr}{vs:Array Value}{sl:Array (Option Value)}{a0:Addr}{T0:Option Addr}{h h':Heap}{H:Hp}{lo:Nat}(x:Oo l e ⟨.ref C,dx,.fields vs,sl⟩ T0 h h') (h0:vs[0]?=some (.ref a0)) (hz:4 < vs.size) (hcb:cb=true→vs[2]?=some .none) (he:e < h.objs.size) (hn:∀T,h.objs.size≤T→H T=none) (hlo:lo≤h.objs.size) :
  BR cb C e dx false h'∧TBn lo h' H e:=by
 obtain⟨T,oT,ts,hT,h1,h2,h3,h4⟩:=x.at_
 have h1:h'.get? e=some ⟨.ref C,dx,.fields (vs.setIfInBounds 1 (.ref T)),sl⟩:=h1
 refine⟨⟨_,_,a0,h1,?_,by simpa using hz,fun z=>(by cases z),fun z=>?_⟩,⟨_,_,T,oT,ts,h1,rfl,?_,Nat.ne_of_gt (Nat.lt_of_lt_of_le he hT),h2,h3,h4,hn T hT,Nat.le_trans hlo hT⟩⟩
 ·rw [Array.getElem?_setIfInBounds_ne (by decide)]
  exact h0
 ·rw [Array.getElem?_setIfInBounds_ne (by decide)]
  exact hcb z
 ·rw [Array.getElem?_setIfInBounds,if_pos rfl,if_pos (by omega)]
section
variable {P:Program}{w:World}{K:PySem.W.Frag}{mg:Str→Option Value}{base:Heap}
noncomputable def EZ (K:PySem.W.Frag) (E:XK) (te:TE):TS:=fun _ σ H=>te σ H fun v H1=>∃a C Cb dx,v=.ref a∧f_ K C Cb∧H1 a=some (.ext (XO C a dx true))∧E (.ref C) (some a) (upd H1 a (.ext (XO C a dx false)))
theorem B0 {N:List Str}{qual:Str}{scope:Scope}{f:Addr}{cd:Value}{A:Around}{outer:List Env}{s0 s:Shared}{H0 H:Hp}{E:XK}{pins:List (Addr×Obj)}{σ:St}{a C:Addr}{dx:Option Addr}
  (I:Inv (ky (GR P w) P w K mg base N qual scope f cd A outer s0 H0 E) pins σ H s) (ea:H a=some (.ext (XO C a dx true))) (hE:E (.ref C) (some a) (upd H a (.ext (XO C a dx false)))) :
  (ky (GR P w) P w K mg base N qual scope f cd A outer s0 H0 E).xe (.ref a) s:=by
 obtain⟨⟨vs,sl,a0,e1,e2,e3,e4⟩,_,_⟩:=(show b9 P w H s.heap a (.ext (XO C a dx true)) from I.bw a _ ea)
 refine leave1 (base:=base) I.ok.frames I.stack rfl e1 rfl (e4.1 rfl) fun h' l=>?_
 obtain⟨x1,x2⟩:=Ia (cb:=true) (H:=upd H a (.ext (XO C a dx false))) (lo:=s0.heap.objs.size) l e2 e3 (fun _=>e4.2 rfl) (Heap.lt_size e1) (fun T hT=>by
  rw [ak (Nat.ne_of_gt (Nat.lt_of_lt_of_le (Heap.lt_size e1) hT))]
  exact I.bw.fresh hT) I.sz
 obtain⟨u1,u2⟩:=HM (P:=P) (w:=w) (o1:=.ext (XO C a dx false)) I.base I.bw l rfl (Nat.le_refl _) ea (fun T z=>by cases z) I.i7 (XO.ok x1)
 exact⟨a,C,dx,true,_,rfl,I.os,I.bare,u1,u2,af,x2,hE⟩
theorem jO {N:List Str}{qual:Str}{scope:Scope}{f:Addr}{cd:Value}{A:Around}{outer:List Env}{s0:Shared}{H0:Hp}{E:XK}{e:Expr}{te:TE}{pos:Pos}
  (he:PE (ky (GR P w) P w K mg base N qual scope f cd A outer s0 H0 E) e te):PS (ky (GR P w) P w K mg base N qual scope f cd A outer s0 H0 E) (.Raise (some e) none pos) (EZ K E te):=by
 intro pins s σ H D I h
 rw [arm_exec_Raise]
 refine wpAny_bind (wpAny_standAt ?_)
 simp only [evalOpt,Option.map]
 refine HN (I.ok.hd rfl) (wpAny_bind (b_ (he pins s σ H _ I h) fun u s1 ⟨x,H1,I1,rx,a,C,Cb,dx,ex,c,ea,hE⟩=>wpAny_bind (wpAny_standAt (wpAny_pure ?_))))
 subst ex
 obtain rfl:u=Value.ref a:=rx
 obtain⟨⟨vs,sl,a0,e1,e2,e3,e4⟩,_,_⟩:=(show b9 P w H1 s1.heap a (.ext (XO C a dx true)) from I1.bw a _ ea)
 obtain⟨nm,qn,N',bs,sn,sub,ab,col,dd,k0,k1,k2,k3,k5,lk⟩:=c.lk
 exact⟨C,nm,qn,N',bs,.ref Cb::tY,true,sn,sub,ab,col,dd,k0,k1,k2,k3,k5,"ValueError.__new__",a,_,vs,rfl,by simp [tY],I1.eZ _ _ lk,e1,rfl,rfl,e4.1 rfl,B0 I1 ea hE⟩
theorem cU.Lp {x qual:Str}{st:Stmt}{f:Addr}{fd:FuncData}{N ps:List Str}{k:Nat}{sp:Sp}(F:cU K x qual st f fd) (S:aA N ps (aq st)) (len:∀vs H Q E,sp vs H Q E→vs.length=ps.length)
  (xA:∀(cv:Value) (A:Around) (outer:List Env) (s:Shared) (H:Hp) (vs:List V) (Q:VK) (E:XK),dH k (A.deeper (envOfC qual (aq st) s.heap.objs.size f cv))→sp vs H Q E →
   ∃t,xm (ky (GR P w) P w K mg base N qual (aq st) f cv A outer s H E) (eR st) t∧t {nx:=fun _ H'=>Q .bj H',rt:=Q} (start N vs) H):aY P w K mg base (GR P w) (k+1) f fd ps sp:=by
 obtain⟨oc,od,kV,doc,pm,an,cv,ct,xy,rfl,lk,Fq⟩:=F.ex
 exact N8 lk Fq S len fun A outer s H vs Q E hr Ln=>xA cv A outer s H vs Q E hr Ln
theorem Wt {N:List Str}{qual:Str}{scope:Scope}{f:Addr}{cd:Value}{A:Around}{outer:List Env}{s0:Shared}{H0:Hp}{E:XK}:Passes (GR P w) (ky (GR P w) P w K mg base N qual scope f cd A outer s0 H0 E) E:=by
 intro pins σ H s e s' I hc
 obtain⟨a,C,dx,cb,H',rfl,os,bare,un,bw,ea,⟨o,vs,T,oT,ts,o1,o2,o3,o4,o5,o6,o7,o8,o9⟩,hE⟩:=hc
 have sz:=I.sz
 have I1:=I.EA os un bw bare (fun b z=>absurd z (by simp))
 obtain⟨⟨ws,sl,a0,e1,e2,e3,e4⟩,_,_⟩:=(show b9 P w H' s'.heap a (.ext (BR cb C a dx false)) from bw a _ ea)
 rw [o1] at e1
 cases e1
 show wpAny _ _ (leaving _ _) _ _ _
 unfold leaving
 refine wpAny_bind (V9 (base:=base) I1.ok.frames I1.stack rfl o1 o2 o3 o4 o5 o6 o7 fun h' l=>?_)
 obtain⟨x1,x2⟩:=Ia (cb:=cb) (H:=H') (lo:=s0.heap.objs.size) l e2 e3 e4.2 (Heap.lt_size o1) (fun T hT=>I1.bw.fresh hT) I1.sz
 obtain⟨u1,u2⟩:=HM (P:=P) (w:=w) (o1:=.ext (BR cb C a dx false)) I1.base I1.bw l rfl (Nat.le_refl _) ea (fun T z=>by cases z; exact⟨o8,Nat.le_trans sz o9⟩) I1.i7 (XO.ok x1)
 rw [uX ea] at u1 u2
 exact⟨a,C,dx,cb,_,rfl,I1.os,I1.bare,u1,u2,ea,x2,hE⟩
end
end L2
namespace L2
open PySem PySem.Spec PyProof.Rows
section
variable {X:Cx}{k:Nat}{f C C2 Co:Addr}{fd:FuncData}{ps:List Str}{sp:Sp}{eK:List V}{ds:List Value}{E:XK}
noncomputable def XP2 (X:Cx) (pins:List (Addr×Obj)) (σ:St) (E:XK) (e:Value) (s':Shared):Prop:=∃a C,∃dx:Option Addr,∃cb H',e=.ref a∧Inv X pins σ H' s'∧H' a=some (.ext (BR cb C a dx false))∧TBn 0 s'.heap H' a∧E (.ref C) (some a) H'
theorem Mg {pins:List (Addr×Obj)}{σ:St}{H:Hp}{s:Shared}{Q:VK}{us:List Value}{vs:List V}(F:aY X.prog X.w X.K X.mg X.base (GR X.prog X.w) k f fd ps sp) (hr:dH k X.A) (hb:Binds X.K fd ps ds) (hd:Vals eK ds)
  (I:Inv X pins σ H s) (r:Vals vs us) (h:sp (vs++eK) H Q E):wpAny (model X.prog X.w) X.A (call (.ref f) us) (EP X pins σ Q) (XP2 X pins σ E) s:=by
 have r2:Vals (vs++eK) (us++ds):=r.append hd
 have hl:(us++ds).length=ps.length:=by rw [←r2.length]; exact F.len _ _ _ _ h
 refine wpAny_call (codeAny_mono (F.run X.A X.stack s H ⟨us,[]⟩ (us++ds) (vs++eK) Q E hr I.Rt (hb s us I.eZ hl) r2 h) fun r s' hq=>?_)
 cases r with
 | error e=>
  obtain⟨a,C,dx,cb,H',rfl,os,bare,un,bw,ea,⟨o,vs,T,oT,ts,o1,o2,o3,o4,o5,o6,o7,o8,o9⟩,q⟩:=hq
  exact⟨a,C,dx,cb,H',rfl,I.EA os un bw bare (fun b z=>absurd z (by simp)),ea,⟨o,vs,T,oT,ts,o1,o2,o3,o4,o5,o6,o7,o8,Nat.zero_le _⟩,q⟩
 | ok fl=>
  cases fl with
  | ret u=>exact I.after hq
  | next=>exact False.elim hq
  | brk=>exact False.elim hq
  | cont=>exact False.elim hq
variable {x n cn m:Str}{np pos apos Sd cK Ma Mh:Pos}{e o:Expr}{es:List Expr}{ta:TE}{t:TA}{ts:TS}{b0:Stmt}{pd:List Stmt}{i j:Nat}
noncomputable def Oy (K:PySem.W.Frag) (C2:Addr) (i j:Nat) (Co:Addr) (m:Str) (sp:Sp) (eK:List V) (ta:TE) (t:TA) (ts:TS):TS:=fun D σ H=>ta σ H fun x H1=>∃b dx fs,x=.ref b∧H1 b=some (.ins Co dx fs)∧fs.lookup m=none∧t σ H1 fun vs H2=>sp (.ref b::vs++eK) H2 (fun v H3=>D.nx (σ.set i (some v)) H3)
 (fun cls a H2=>∃b C Cb,cls=.ref C∧a=some b∧f_ K C Cb∧(C2=C∨C2=Cb)∧ts {nx:=fun σ' H'=>D.nx (σ'.set j none) H',rt:=D.rt} (σ.set j (some (.ref b))) H2)
theorem B1 {pl:Sem Bool}(hp:PE X o ta) (cc:rK X.K Co) (hm:Meth X.K Co m f) (F:aY X.prog X.w X.K X.mg X.base (GR X.prog X.w) k f fd ps sp) (hr:dH k X.A) (hb:Binds X.K fd ps ds) (hd:Vals eK ds)
  (Br:X.stack=X.env::X.outer) (hfm:X.env.frame=some X.env.locals) (hN:X.N.Nodup) (hi:X.N[i]?=some x) (hx:Loc X.env.scope x) (hj:X.N[j]?=some n) (hn:X.env.scope.names.lookup n=some .local)
  (hcg:Gl X cn) (hcm:X.mg cn=some (.ref C2)) (hnx:∀e s,¬X.xe e s) (ha:PA X (e::es) t) (hs:∀a,xm (X.Sb a) (b0::pd) ts)
  (aaO:(cn == ("__debug__":Str))=false:=by decide) (he:starEach (e::es) X.env=(false,eval e X.env)::starEach es X.env:=by rfl) (mG:(backTo cK (starEach es X.env)).any (·.1)=false:=by rfl)
  (hsw:swapsWith (.Call (.Attribute o m Mh) (e::es) [] cK) (some (.Name x Ma)) apos.line X.env=pure false:=by rfl) (ht:eval (.Call (.Attribute o m Mh) (e::es) [] cK) X.env=(do
   let ov ←eval o X.env
   standAt Mh.atName
   let (f,first) ←holding [ov] (getMethod ov m pl)
   callWith cK f first (backTo cK (starEach (e::es) X.env)) (backToKw cK (keywordEach [] X.env))):=by rfl) (hf:X.fn x=true∨X.env.scope.names.lookup x=some .local:=by first | exact .inl rfl | exact .inr rfl | assumption) :
  PS X (.Try [.Assign [.Name x Ma] (.Call (.Attribute o m Mh) (e::es) [] cK) apos] [.ExceptHandler (some (.Name cn np)) (some n) (b0::pd) Sd] [] [] pos) (Oy X.K C2 i j Co m sp eK ta t ts):=by
 intro pins s σ H D I h
 refine wpAny_Try_except (wpAny_mono (Q:=fun f s1=>f=.next∧SP X pins D .next s1) (E:=XP2 X pins σ (fun cls a H2=>∃b C Cb,cls=.ref C∧a=some b∧f_ X.K C Cb∧(C2=C∨C2=Cb)∧ts {nx:=fun σ' H'=>D.nx (σ'.set j none) H',rt:=D.rt} (σ.set j (some (.ref b))) H2)) ?_ ?_ ?_)
 ·refine wpAny_execs_cons (wpAny_mono (Q:=fun f s1=>f=.next∧SP X pins D .next s1) ?_ (fun f s1 q=>?_) fun _ _ z=>z)
  ·refine wpAny_Assign_Name (PySem.W.methodCall_KW (pl:=pl) (wpAny_mono (hp pins s σ H _ I h) (fun u s1 ⟨z,H1,I1,rx,b,dx,fs,ex,ea,l,q⟩=>?_) fun e s1 z=>(hnx e s1 z).elim) ht) hsw
   subst ex
   obtain rfl:u=Value.ref b:=rx
   refine fj I1 ea cc hm l ?_
   refine PySem.W.callWith_K (first:=[.ref b]) (h₀:=X.base) I.ok.mod.Lw hm.kp (wpAny_mono (ha cK pins s1 σ H1 _ I1 q) (fun us s2 ⟨vs,H2,I2,r,q2⟩=>⟨I2.eZ,?_⟩) fun e s1 z=>(hnx e s1 z).elim) he mG
   refine wpAny_mono (Mg (us:=.ref b::us) (vs:=.ref b::vs) F hr hb hd I2 (.cons rfl r) q2) (fun u s2 ⟨v,H2,I2,rv,q2⟩=>?_) fun _ _ z=>z
   exact iq I2 hN hi hx rv (fun s3 I3=>⟨rfl,_,H2,I3,q2⟩) hf
  ·obtain⟨rfl,q⟩:=q
   exact wpAny_execs_nil ⟨rfl,q⟩
 ·rintro f s1 ⟨rfl,q⟩
  exact wpAny_execs_nil q
 ·rintro _ s1 ⟨a,C,dx,cb,H1,rfl,I1,ea,⟨o,vs,T,oT,F0,o1,o2,o3,o4,o5,o6,o7,o8,_⟩,b,C',Cb,ec,eb,c,hu,q⟩
  cases ec
  cases eb
  refine Wf (base:=X.base) (by rw [I1.ok.frames,Br]) (by rw [←Br]; exact I1.stack) hfm o1 o2 o3 o4 o5 o6 o7 fun h' l=>?_
  obtain⟨⟨ws,sl,a0,e1,e2,e3,e4⟩,_,_⟩:=(show b9 X.prog X.w H1 s1.heap a (.ext (BR cb C a dx false)) from I1.bw a _ ea)
  rw [o1] at e1
  cases e1
  obtain⟨x1,⟨o',vs',T',oT',us,p1,p2,p3,p4,p5,p6,p7,p8⟩⟩:=R9 (cb:=cb) (H:=H1) l e2 e3 e4.2 (Heap.lt_size o1) fun T hT=>I1.bw.fresh hT
  obtain⟨u1,u2⟩:=L_ (P:=X.prog) (w:=X.w) (o1:=.ext (BR cb C a dx false)) I1.bw l ea (by rw [←Br]; exact I1.i7) (XO.ok x1)
  rw [uX ea] at u1 u2
  have I2:Inv X pins σ H1 {s1 with heap:=h'}:=I1.call (h':=h') (g':=s1.gens) (d':=s1.drawn) (t':=s1.toks) (ch:=[]) (by rw [Br]; exact u1) u2 I1.bare (fun b z=>absurd z (by simp))
  obtain⟨nm,qn,N',bs,sn,sub,ab,col,dd,k0,k1,k2,k3,k5,lk⟩:=c.lk
  obtain⟨nm',qn',N'',bs',xl,sn',acK,ab',acL,EN,k0',k1',k2',k3',k5',lb⟩:=c.lb
  have hC:=I2.eZ _ _ lk
  have hCb:=I2.eZ _ _ lb
  obtain⟨w1,w2,w3,w4,_⟩:=x1
  have und:Und h' a C2:=by
   rcases hu with rfl | rfl
   ·exact⟨_,_,_,_,_,_,_,_,_,_,_,_,_,_,_,_,_,_,_,_,_,_,_,_,_,_,_,_,_,_,_,_,_,_,_,_,hC,hC,w4,rfl,by simp [tY],by simp⟩
   ·exact⟨_,_,_,_,_,_,_,_,_,_,_,_,_,_,_,_,_,_,_,_,_,_,_,_,_,_,_,_,_,_,_,_,_,_,_,_,hC,hCb,w4,rfl,by simp [tY],by simp⟩
  refine BS (C2:=C2) (i8 (X:=X.Sb a) I2.Sb hcg hcm ⟨rfl,und,?_⟩ aaO)
  refine wpAny_setFlight_none p1 p2 p3 p5 p6 (Array.getElem?_eq_some_iff.mp p7).1 ?_
  have all:∀b u,h'.get? b=some u→(h'.update T' (Obj.mapFields (·.setIfInBounds 3 .none))).get? b=some u:=fun b u hb=>by
   by_cases cc:b=T'
   ·subst cc
    rw [p5] at hb
    cases hb
    obtain⟨oc,od,dt,xy⟩:=oT'
    obtain rfl:dt=.fields us:=p6
    rw [Heap.get?_update_self _ p5 (Obj.isFreed_of_fields (Obj.data_mapFields rfl _))]
    show some (Obj.mk oc od (.fields (us.setIfInBounds 3 .none)) xy)=_
    rw [xX p7]
   ·rw [Heap.get?_update_other _ _ (Ne.symm cc)]
    exact hb
  have I3:=I2.kept (t':=s1.toks) all
  refine iq I3 hN hj (.inl hn) (v:=.ref a) (u:=.ref a) rfl (fun s4 I4=>?_) (.inr hn)
  refine wpAny_mono (hs a pins s4 _ H1 _ I4.Sb q) (fun fl s5 z=>?_) fun _ _ z=>z
  cases fl with
  | next=>
   obtain⟨σ5,H5,I5,z⟩:=z
   exact name_goes (I5.Wg I1.ok) hN hj hn fun s6 I6=>⟨_,H5,I6,z⟩
  | ret u=>
   obtain⟨v,σ5,H5,I5,rv,z⟩:=z
   exact name_goes (I5.Wg I1.ok) hN hj hn fun s6 I6=>⟨v,_,H5,I6,rv,z⟩
  | brk=>
   obtain⟨_,_,_,z⟩:=z
   exact z.elim
  | cont=>
   obtain⟨_,_,_,z⟩:=z
   exact z.elim
theorem Si {cb:Bool}{pins:List (Addr×Obj)}{σ:St}{H:Hp}{s:Shared}{a C:Addr}{raw:Bool}(I:Inv X pins σ H s) (ea:H a=some (.ext (BR cb C a none raw))) :
  ∃ox:Obj,PySem.W.InstAt s.heap a ox C none:=by
 obtain⟨⟨vs,sl,a0,e1,e2,e3,e4⟩,_,_⟩:=(show b9 X.prog X.w H s.heap a (.ext (BR cb C a none raw)) from I.bw a _ ea)
 exact⟨_,e1,rfl,rfl,trivial⟩
theorem cY:fL X (.builtin "isinstance") (fun xs H Q=>∃cb a C Cb raw y c b,xs=[.ref a,y]∧((∃D,y=.ref D∧c=.ref D)∨∃m,y=.ty m∧c=.type m)∧H a=some (.ext (BR cb C a none raw))∧f_ X.K C Cb∧PySem.W.kitOne X.K (.ref C) c=some b∧Q (.bl b) H):=by
 intro pins s σ H xs us Q I r h
 obtain⟨cb,a,C,Cb,raw,y,c,b,rfl,hy,ea,xc,e,q⟩:=h
 obtain⟨u,w',rfl,r1,r2⟩:=vals2 r
 cases (show u=Value.ref a from r1)
 obtain⟨ox,J⟩:=Si I ea
 obtain⟨cd,hc,BQ,_⟩:=xc.data
 have ew:w'=c:=by
  rcases hy with ⟨D,rfl,rfl⟩ | ⟨m,rfl,rfl⟩
  ·exact r2
  ·exact r2
 subst ew
 exact PySem.W.kia_one (aaE hc BQ xc.ga xc.gn xc.cl xc.cg xc.ct xc.mo) I.eZ J e (fun z=>nomatch z) fun tk=>⟨.bl b,H,I.tok _,rfl,q⟩
theorem uZ:∀{bs:List Bool}{us:List Value},Vals (bs.map V.bl) us→us=bs.map Value.bool
 | [],_,h=>by cases h; rfl
 | b::bs,_,h=>by
  cases h with
  | cons r t=>
   rw [uZ t]
   cases r
   rfl
theorem t6 (k:Bool):∀bs:List Bool,(bs.map Value.bool).countP (isBoolOf k)=bs.count k
 | []=>rfl
 | b::bs=>by
  rw [List.map_cons,List.countP_cons,t6 k bs,List.count_cons]
  rfl
theorem F1:Ry X "list.count" (fun x vs H Q=>∃l bs b,x=.ref l∧vs=[.bl b]∧H l=some (.lst (List.map V.bl bs))∧Q (.int (bs.count b:Nat)) H):=by
 intro pins s σ H x vs v us Q I rx rv h
 obtain⟨l,bs,b,rfl,rfl,hH,q⟩:=h
 cases rx
 obtain⟨u,rfl,ru⟩:=rv.one
 cases ru
 obtain⟨z,bq,n,r,hl,e⟩:=I.BH hH
 have ei:=uZ r
 subst ei
 refine call_meets F.slot_list_count ⟨_,e,rfl⟩ F.entry_list_count (F.args_list_count_2 _ _) (SeqAt.list_countAt l (bs.map Value.bool).toArray n none _ (.bool b) (isBoolOf b)) ⟨e,fun y hy=>?_,?_⟩
 ·obtain⟨c,_,rfl⟩:=List.mem_map.mp (List.mem_toArray.mp hy)
  exact SeqAt.EqAt.bool_bool c b
 ·refine⟨.int (bs.count b:Nat),H,I.tok _,⟨s.toks,?_⟩,q⟩
  rw [show(List.map Value.bool bs).toArray.toList=List.map Value.bool bs from rfl,t6]
theorem F2:Ry X "list.index" (fun x vs H Q=>∃l bs b,x=.ref l∧vs=[.bl b]∧H l=some (.lst (List.map V.bl bs))∧∃j:Nat,j < 1000∧bs[j]?=some b∧(∀m:Nat,m < j→bs[m]?≠some b)∧Q (.int (j:Nat)) H):=by
 intro pins s σ H x vs v us Q I rx rv h
 obtain⟨l,bs,b,rfl,rfl,hH,j,hj,Wr,Wu,q⟩:=h
 cases rx
 obtain⟨u,rfl,ru⟩:=rv.one
 cases ru
 obtain⟨z,bq,n,r,hl,e⟩:=I.BH hH
 have ei:=uZ r
 subst ei
 obtain⟨hj2,hjb⟩:=List.getElem?_eq_some_iff.mp Wr
 refine call_meets F.slot_list_index ⟨_,e,rfl⟩ F.entry_list_index (F.args_list_index_2 _ _) (SeqAt.list_indexAt l (bs.map Value.bool).toArray n none _ (.bool b) (isBoolOf b) j (by simpa using hj2) (by omega) ?_ (fun m hm jJ=>?_)) ⟨e,fun y hy=>?_,?_⟩
 ·simp [isBoolOf,hjb]
 ·have Wv:m < bs.length:=by simpa using hm
  have:=Wu m jJ
  rw [List.getElem?_eq_getElem Wv] at this
  have h3:bs[m]≠b:=fun z=>this (by rw [z])
  simp [isBoolOf,h3]
 ·obtain⟨c,_,rfl⟩:=List.mem_map.mp (List.mem_toArray.mp hy)
  exact SeqAt.EqAt.bool_bool c b
 ·exact⟨.int (j:Nat),H,I.tok _,⟨_,rfl⟩,q⟩
end
end L2
namespace L2
open PySem PySem.Spec PyProof.Rows
inductive Mi (K:PySem.W.Frag) (H:Hp):V→Value→Prop where
 | s {x:V}{t:Value}(h:U7 K H x t):Mi K H x t
 | dct {a:Addr}{kvs:List (Key×V)}(h:Rd H a (.dK kvs)):Mi K H (.ref a) (.type "dict")
section
variable {X:Cx}
theorem aN:fL X (.builtin "isinstance") (fun xs H Q=>∃x n t b,xs=[x,.ty n]∧Mi X.K H x t∧PySem.W.kitOne X.K t (.type n)=some b∧Q (.bl b) H):=by
 intro pins s σ H xs us Q I r h
 obtain⟨x,n,t,b,rfl,ty,e,q⟩:=h
 cases ty with
 | s h=>exact uU pins s σ H _ us Q I r ⟨x,n,t,b,rfl,h,e,q⟩
 | @dct a kvs h=>
  obtain⟨u,w',rfl,r1,r2⟩:=vals2 r
  cases (show w'=Value.type n from r2)
  cases (show u=Value.ref a from r1)
  obtain⟨z,hd,vs,rel,dd⟩:=jB I.bw h
  obtain⟨o,h1,h2⟩:=dd.typeIs
  exact PySem.W.kia_one PySem.W.kitx_dict I.eZ ⟨o,h1,h2⟩ e (fun z=>nomatch z) fun tk=>⟨.bl b,H,I.tok _,rfl,q⟩
end
theorem fH.dF {K:PySem.W.Frag}{H:Hp}{x:V}{d:D}{b:Addr}{o:Obj}{kvs:List (Key×V)}(hb:H b=some (.dK kvs)) (h:fH K H x d):fH K (upd H b (.dF o (.dK kvs))) x d:=by
 have sl:∀{a:Addr}{xs:List V},bN K H a xs→bN K (upd H b (.dF o (.dK kvs))) a xs:=fun h=>by
  rcases h with (h | ⟨u,h⟩) | h
  ·exact .inl (.inl (by rw [ak fun z=>by rw [z,hb] at h; cases h]; exact h))
  ·exact .inl (.inr ⟨u,by rw [ak fun z=>by rw [z,hb] at h; cases h]; exact h⟩)
  ·exact .inr h
 have st:∀{a:Addr}{xs:List V},bZ K H a xs→bZ K (upd H b (.dF o (.dK kvs))) a xs:=fun h=>by
  rcases h with (h | ⟨u,h⟩) | h
  ·exact .inl (.inl (by rw [ak fun z=>by rw [z,hb] at h; cases h]; exact h))
  ·exact .inl (.inr ⟨u,by rw [ak fun z=>by rw [z,hb] at h; cases h]; exact h⟩)
  ·exact .inr h
 induction h with
 | bj=>exact .bj
 | bl b=>exact .bl b
 | int i=>exact .int i
 | str x=>exact .str x
 | lst h hl hi ih=>exact .lst (sl h) hl ih
 | tup h hl hi ih=>exact .tup (st h) hl ih
end L2
namespace L2
open PySem PySem.Spec PyProof.Rows
noncomputable def Itv (a:Addr) (o:Obj) (kvs:List (Key×V)):It:=
 ⟨fun i H=>i < kvs.length∧H a=some (.dF o (.dK kvs)),fun i H x H'=>H'=H∧∃kv,kvs[i]?=some kv∧x=kv.2,fun i H=>kvs.length≤i∧H a=some (.dF o (.dK kvs))⟩
theorem x8 {P:Program}{w:World}{K:PySem.W.Frag}{tg:Expr}{a it:Addr}{o:Obj}{kvs:List (Key×V)}{vs:List (Key×Value)}{ep:Nat}(hd:(a == sysModules)=false) (rel:KV kvs vs)
  (dat:∀h:Heap,h.get? a=some o→h.DictAt (br P w) a vs ep):Turn P w K tg (Itv a o kvs) [it] it (fun i h=>h.IsValIter it a i vs.length ep) where
 mem:=by simp
 obj:=fun i h st b hb=>by
  have e:b=it:=by simpa using hb
  subst e
  obtain⟨o,e,c,d⟩:=st
  exact⟨o,e,fun v z=>by rw [d] at z; cases z⟩
 keep:=fun i h h' st k=>by
  obtain⟨o,e,c⟩:=st
  exact⟨o,k it (by simp) o e,c⟩
 item:=by
  intro X hP hw hK hc i pins s σ H E I hf st hg
  subst hP hw hK
  obtain⟨hi,ha⟩:=hg
  obtain⟨ho,_⟩:=I.bw a _ ha
  have hv:i < vs.length:=by rw [←rel.length]; exact hi
  obtain⟨f0,f1,f2,f3,f4,f5⟩:=hf it (by simp)
  refine wpAny_pyNext_values_item st (dat _ ho) (k:=vs[i].1) (v:=vs[i].2) (List.getElem?_eq_getElem hv) fun h' EC sb=>?_
  have I1:Inv X pins σ H {s with heap:=h'}:=I.turned (t':=s.toks) (fun b o hb e=>(sb.2 b hb).trans e) f0 f1 f3 f4 f5
  have ev:=KV.RZ rel (List.getElem?_eq_getElem hi) (List.getElem?_eq_getElem hv)
  exact⟨_,rfl,letGo_valiter EC ⟨kvs[i].2,H,I1,ev,⟨rfl,kvs[i],List.getElem?_eq_getElem hi,rfl⟩,EC,fun b hb=>(hf b hb).1⟩⟩
 done:=by
  intro X hP hw hK hc i pins s σ H E I hf st hg
  subst hP hw hK
  obtain⟨hi,ha⟩:=hg
  obtain⟨ho,_⟩:=I.bw a _ ha
  obtain⟨f0,f1,f2,f3,f4,f5⟩:=hf it (by simp)
  have hl:=rel.length
  exact wpAny_pyNext_values_end (I.ok.hd hc) st (dat _ ho) (List.getElem?_eq_none (by omega)) fun h' eb=>⟨rfl,I.turned (t':=s.toks) (fun b o hb e=>eb b o hb e) f0 f1 f3 f4 f5⟩
 self:=fun _ _ _ _ _ st h=>wpAny_pyIter_valiter st h
noncomputable def Oz (tl:TE):TI:=fun σ H R=>tl σ H fun x H1=>∃p a kvs,x=.ref p∧H1 p=some (.ext fun h=>h.IsValuesView p a)∧H1 a=some (.dK kvs)∧∀o,R (Itv a o kvs) (upd H1 a (.dF o (.dK kvs)))
theorem F3 {X:Cx}{tg l:Expr}{tl:TE}(hl:PE X l tl):PI X tg l (Oz tl):=by
 intro pins s σ H R I h
 refine b_ (hl pins s σ H _ I h) fun v s1 ⟨x,H1,I1,r1,q1⟩=>?_
 obtain⟨p,a,kvs,e,hp,ha,q⟩:=q1
 subst e
 cases r1
 have hv:s1.heap.IsValuesView p a:=(I1.bw p _ hp).1
 obtain⟨z,hd,vs,rel,dd⟩:=kJ I1.bw ha
 obtain⟨o,ho,I2⟩:=I1.freeze ha
 obtain⟨ep,dat⟩:=dd.dictAt
 have HC:∀h:Heap,h.get? a=some o→h.DictAt (br X.prog X.w) a vs ep:=fun h e=>by
  obtain⟨o',es,h1,h2⟩:=dat
  rw [ho] at h1
  cases h1
  exact⟨o,es,e,h2⟩
 refine wpAny_pyIter_values hv dat ?_
 refine⟨s1.heap.objs.size,[s1.heap.objs.size],_,_,_,rfl,I2.kept (t':=s1.toks) fun b o e=>Heap.get?_push_of_some _ e,x8 hd rel HC,⟨_,Heap.get?_push_size _ rfl,rfl,rfl⟩,fun b hb=>?_,q o⟩
 have e:b=s1.heap.objs.size:=by simpa using hb
 subst e
 exact I2.Fs (Nat.le_refl _) (I2.bw.fresh (Nat.le_refl _))
theorem F4 {a:Addr}{o:Obj}{kvs:List (Key×V)}{g:TG}{tb:TS}{D:Ends}{σ:St}{H:Hp}(Pv:Nat→St→Hp→Prop) (h0:Pv 0 σ H) (hl:∀i σ H,i≤kvs.length→Pv i σ H→H a=some (.dF o (.dK kvs)))
  (hs:∀i kv σ H,kvs[i]?=some kv→Pv i σ H→g kv.2 σ H fun σ2 H2=>tb {D with nx:=Pv (i+1),ct:=Pv (i+1),bk:=D.nx} σ2 H2) (hd:∀σ H,Pv kvs.length σ H→D.nx σ H):FI (Itv a o kvs) g tb D σ H:=by
 refine⟨fun i m σ H=>m=kvs.length - i∧i≤kvs.length∧Pv i σ H,⟨kvs.length,by simp,Nat.zero_le _,h0⟩,?_⟩
 rintro i m σ H ⟨rfl,hi,p⟩
 have q:=hl i σ H hi p
 by_cases jJ:i < kvs.length
 ·refine .inr ⟨⟨jJ,q⟩,Pv (i+1),fun σ' H' p'=>⟨kvs.length - (i+1),by omega,rfl,jJ,p'⟩,fun x H' y=>?_⟩
  obtain⟨rfl,kv,e,rfl⟩:=y
  exact hs i kv σ _ e p
 ·have e:i=kvs.length:=by omega
  subst e
  exact .inl ⟨⟨Nat.le_refl _,q⟩,hd σ H p⟩
end L2
set_option Elab.async false
set_option linter.all false
set_option maxRecDepth 100000
set_option maxHeartbeats 4000000
namespace c7
open PySem L2
local macro_rules | `(tactic| dsimp! [$xs,*]) => do
  let ls ← ("Vr NX Vs NZ Vt tIf tB N6 U1 tUn Bx tC Rm rI rU Rg oE Rc EB aaw Rf aaf NY oH xt EG tCB tBM VJ G8 G9 tSl N9 EH VA VB Vm tOr Vn NW Vo GY _root_.L2.start rEq rNe LN LO LP LQ LR VC LF RE List.map_cons List.map_nil List.length_cons List.length_nil List.replicate_succ List.replicate_zero Nat.reduceAdd Nat.reduceSub Nat.zero_add Nat.sub_self Nat.zero_le List.cons_append List.nil_append List.append_nil List.set_cons_zero List.set_cons_succ List.getElem?_cons_zero List.getElem?_cons_succ Option.some.injEq V.int.injEq V.bl.injEq V.ref.injEq V.ty.injEq V.str.injEq List.cons.injEq exists_eq_left' exists_eq_left exists_eq_right exists_and_left exists_const true_and and_true Bool.not_true Bool.not_false Bool.false_eq_true if_true if_false reduceCtorEq false_and and_false false_or or_false exists_false decide_true decide_false eq_self and_assoc Int.toNat_natCast tLc Oe LW N3 Vv N1 Vu VW R0 aaB aaC V6 Om Rb G4 aag ipI Ht Og aax ER Oh Hv RV Hx RW Hy Oi Oj HD tFs aaG HQ R7 R8 Wc R_ aaF Wh Wi V2 BL".splitOn " ").toArray.mapM fun s => `(Lean.Parser.Tactic.simpLemma| $(Lean.mkIdent s.toName):ident)
  `(tactic| simp only [$ls,*, $xs,*])
noncomputable def top (i:Nat):Stmt:=PySem.Challenge.pw_heapsafe_k12_plain_deeds.main.body.getD i (.Pass ⟨0,0,0,0⟩)
noncomputable abbrev Ib:Stmt:=top 10
noncomputable abbrev Ic:Stmt:=inClass (top 11) 0
noncomputable abbrev Ie:Stmt:=inClass (top 11) 1
noncomputable abbrev Ig:Stmt:=inClass (top 11) 2
noncomputable abbrev Ih:Stmt:=inClass (top 11) 5
noncomputable abbrev Ii:Stmt:=inClass (top 12) 0
noncomputable abbrev Ij:Stmt:=inClass (top 12) 2
noncomputable abbrev Ik:Stmt:=inClass (top 12) 3
noncomputable abbrev Il:Stmt:=inClass (top 12) 4
noncomputable abbrev Sj:Stmt:=inClass (top 13) 0
noncomputable abbrev Im:Stmt:=top 14
noncomputable abbrev Io:Stmt:=top 15
noncomputable abbrev Ip:Stmt:=top 16
noncomputable abbrev Iq:Stmt:=top 22
noncomputable abbrev Ir:Stmt:=top 23
noncomputable abbrev Iu:Stmt:=top 24
noncomputable abbrev Iv:Stmt:=top 25
noncomputable abbrev Iw:Stmt:=top 26
noncomputable abbrev Iy:Stmt:=top 27
noncomputable abbrev Iz:Stmt:=top 28
noncomputable abbrev IA:Stmt:=top 29
noncomputable abbrev IB:Stmt:=top 30
noncomputable abbrev IC:Stmt:=top 31
noncomputable abbrev ID:Stmt:=top 32
noncomputable abbrev IE:Stmt:=top 33
noncomputable abbrev IF:Stmt:=top 34
noncomputable abbrev IG:Stmt:=top 35
noncomputable abbrev IH:Stmt:=top 36
noncomputable abbrev II:Stmt:=top 37
noncomputable abbrev IJ:Stmt:=top 38
noncomputable abbrev Sk:Stmt:=inClass (top 40) 0
noncomputable abbrev Sl:Stmt:=inClass (top 40) 1
noncomputable abbrev Sn:Stmt:=inClass (top 40) 2
noncomputable abbrev So:Stmt:=inClass (top 40) 3
noncomputable abbrev Sq:Stmt:=inClass (top 40) 4
noncomputable abbrev Sr:Stmt:=inClass (top 40) 5
noncomputable abbrev Ss:Stmt:=inClass (top 40) 6
noncomputable abbrev Su:Stmt:=inClass (top 40) 7
noncomputable abbrev Sv:Stmt:=inClass (top 40) 8
noncomputable abbrev IK:Stmt:=inClass (top 42) 0
noncomputable abbrev IL:Stmt:=inClass (top 42) 1
noncomputable abbrev IM:Stmt:=inClass (top 42) 2
noncomputable abbrev IP:Stmt:=inClass (top 42) 3
noncomputable abbrev IQ:Stmt:=inClass (top 42) 4
noncomputable abbrev IS:Stmt:=inClass (top 42) 5
noncomputable abbrev IT:Stmt:=inClass (top 42) 6
noncomputable abbrev IU:Stmt:=inClass (top 42) 7
noncomputable abbrev IV:Stmt:=inClass (top 42) 8
noncomputable abbrev IW:Stmt:=inClass (top 42) 9
noncomputable abbrev IY:Stmt:=inClass (top 42) 10
noncomputable abbrev IZ:Stmt:=inClass (top 42) 11
noncomputable abbrev I0:Stmt:=inClass (top 42) 12
noncomputable abbrev I_:Stmt:=top 44
noncomputable abbrev Ja:Stmt:=top 45
noncomputable abbrev Jb:Stmt:=top 46
noncomputable abbrev Jc:Stmt:=top 47
noncomputable abbrev Jd:Stmt:=top 48
noncomputable abbrev Je:Stmt:=top 49
noncomputable abbrev Jf:Stmt:=top 50
noncomputable abbrev Jg:Stmt:=top 51
noncomputable abbrev Jh:Stmt:=top 52
noncomputable abbrev Ji:Stmt:=top 53
noncomputable abbrev Jj:Stmt:=top 54
noncomputable abbrev Jk:Stmt:=top 55
noncomputable abbrev Jl:Stmt:=top 56
noncomputable abbrev x9:Stmt:=top 57
noncomputable abbrev Jm:Stmt:=top 58
noncomputable abbrev Jn:Stmt:=top 59
noncomputable abbrev Jo:Stmt:=top 60
noncomputable abbrev kN:Stmt:=top 61
theorem dw {N P:List Str}{sc:Scope}(h1:sc.kind=.function:=by rfl) (h2:sc.isCoroutine=false:=by rfl) (h3:sc.isGenerator=false:=by rfl) (h5:N.take P.length=P:=by rfl) (h:(decide N.Nodup&&(P.all (fun x=>sc.names.lookup x == some .local || sc.names.lookup x == some .cell)&&sc.names.all fun y=>y.2 != .free))=true:=by decide +kernel):aA N P sc:=by
 simp only [Bool.and_eq_true,List.all_eq_true,Bool.or_eq_true,decide_eq_true_eq,beq_iff_eq,bne_iff_ne] at h
 exact⟨h1,h2,h3,h.1,h5,h.2.1,h.2.2⟩
theorem Sw:aA ["value"] ["value"] (aq Ib):=dw
theorem Sx:aA ["self","sort","some"] ["self","sort","some"] (aq Ic):=dw
theorem Sy:aA ["self"] ["self"] (aq Ie):=dw
theorem Sz:aA ["self"] ["self"] (aq Ig):=dw
theorem SA:aA ["self"] ["self"] (aq Ih):=dw
theorem SD:aA ["self","some","last_words"] ["self","some","last_words"] (aq Ii):=dw
theorem SE:aA ["self"] ["self"] (aq Ij):=dw
theorem SF:aA ["self","at","value"] ["self","at","value"] (aq Ik):=dw
theorem SG:aA ["self","words"] ["self","words"] (aq Il):=dw
theorem Ww:aA ["self","key","value"] ["self","key","value"] (aq Sj):=dw
theorem SH:aA ["fields","words"] ["fields","words"] (aq Im):=dw
theorem SI:aA ["field"] ["field"] (aq Io):=dw
theorem SJ:aA ["key","value"] ["key","value"] (aq Ip):=dw
theorem SK:aA ["word"] ["word"] (aq Iq):=dw
theorem SM:aA ["heap","letter","sort"] ["heap","letter","sort"] (aq Ir):=dw
theorem SN:aA ["heap","deed"] ["heap","deed"] (aq Iu):=dw
theorem B2:aA ["heap","deed","wanted","many"] ["heap","deed"] (aq Iv):=dw
theorem SO:aA ["heap","deed"] ["heap","deed"] (aq Iw):=dw
theorem SQ:aA ["heap","deed"] ["heap","deed"] (aq Iy):=dw
theorem SR:aA ["heap","deed"] ["heap","deed"] (aq Iz):=dw
theorem SS:aA ["heap","deed"] ["heap","deed"] (aq IA):=dw
theorem SU:aA ["heap","deed"] ["heap","deed"] (aq IB):=dw
theorem SV:aA ["heap","deed"] ["heap","deed"] (aq IC):=dw
theorem SW:aA ["heap","deed"] ["heap","deed"] (aq ID):=dw
theorem Jp:aA ["heap","deed","some"] ["heap","deed"] (aq IE):=dw
theorem SX:aA ["heap","deed"] ["heap","deed"] (aq IF):=dw
theorem SY:aA ["heap","deed"] ["heap","deed"] (aq IG):=dw
theorem Jq:aA ["heap","deed","value"] ["heap","deed"] (aq IH):=dw
theorem S0:aA ["heap","deed"] ["heap","deed"] (aq II):=dw
theorem Jr:aA ["heap","deed","first"] ["heap","deed"] (aq IJ):=dw
theorem Wx:aA ["self"] ["self"] (aq Sk):=dw
theorem Wy:aA ["self","letter"] ["self","letter"] (aq Sl):=dw
theorem Wz:aA ["self","letter","value"] ["self","letter","value"] (aq Sn):=dw
theorem WA:aA ["self","letter"] ["self","letter"] (aq So):=dw
theorem WB:aA ["self","letter"] ["self","letter"] (aq Sq):=dw
theorem WC:aA ["self","name"] ["self","name"] (aq Sr):=dw
theorem WD:aA ["self"] ["self"] (aq Ss):=dw
theorem WE:aA ["self","deed"] ["self","deed"] (aq Su):=dw
theorem WG:aA ["self","deed"] ["self","deed"] (aq Sv):=dw
theorem S1:aA ["self"] ["self"] (aq IK):=dw
theorem Js:aA ["self","deed","refused"] ["self","deed"] (aq IL):=dw
theorem S2:aA ["self","name"] ["self","name"] (aq IM):=dw
theorem Jt:aA ["self","thing","serial"] ["self","thing"] (aq IP):=dw
theorem S3:aA ["self","name","at","value"] ["self","name","at","value"] (aq IQ):=dw
theorem S4:aA ["self","name","words"] ["self","name","words"] (aq IS):=dw
theorem S5:aA ["self","serial"] ["self","serial"] (aq IT):=dw
theorem S6:aA ["self","serial"] ["self","serial"] (aq IU):=dw
theorem S7:aA ["self","serial"] ["self","serial"] (aq IV):=dw
theorem S8:aA ["self"] ["self"] (aq IW):=dw
theorem S9:aA ["self"] ["self"] (aq IY):=dw
theorem u0:aA ["self","told","serial","thing"] ["self"] (aq IZ):=dw
theorem S_:aA ["self"] ["self"] (aq I0):=dw
theorem Ta:aA ["_law_script","_law_k"] ["_law_script","_law_k"] (aq I_):=dw
theorem Ju:aA ["_law_cell","_law_mode","_law_number"] ["_law_cell","_law_mode"] (aq Ja):=dw
theorem fb:aA ["_law_cell","_law_mode","_law_words","_law_letters","_law_many","_law_number","_law_word","_law_one","_law_two","_law_three","_law_at"] ["_law_cell","_law_mode"] (aq Jb):=dw
theorem Tb:aA ["_law_state","_law_root"] ["_law_state","_law_root"] (aq Jc):=dw
theorem Jv:aA ["_law_state","_law_root","_law_sort","_law_value_here"] ["_law_state","_law_root","_law_sort"] (aq Jd):=dw
theorem Tc:aA ["_law_state","_law_root","_law_value_here"] ["_law_state","_law_root","_law_value_here"] (aq Je):=dw
theorem Jw:aA ["_law_deed","_law_word"] ["_law_deed"] (aq Jf):=dw
theorem B3:aA ["_law_state","_law_deed","_law_root","_law_sort"] ["_law_state","_law_deed"] (aq Jg):=dw
theorem Jx:aA ["_law_state","_law_deed","_law_serial"] ["_law_state","_law_deed"] (aq Jh):=dw
theorem B4:aA ["_law_state","_law_deed","_law_word","_law_row"] ["_law_state","_law_deed"] (aq Ji):=dw
theorem u3:aA ["_law_state","_law_deed","_law_value_here","_law_serial","_law_words"] ["_law_state","_law_deed"] (aq Jj):=dw
theorem jP:aA ["_law_state","_law_deed","_law_word","_law_refusal_here","_law_serial","_law_sort","_law_fields","_law_words"] ["_law_state","_law_deed"] (aq Jk):=dw
theorem u4:aA ["_law_state","_law_word","_law_serial","_law_sort","_law_fields","_law_words"] ["_law_state","_law_word","_law_serial"] (aq Jl):=dw
theorem u5:aA ["_law_found","_law_due","_law_key","_law_k"] ["_law_found","_law_due"] (aq x9):=dw
theorem lR:aA ["_law_heap","_law_deed","_law_kept","_law_answer_here","_law_refusal_here","_law_some"] ["_law_heap","_law_deed"] (aq Jm):=dw
theorem Td:aA ["_law_heap","_law_state"] ["_law_heap","_law_state"] (aq Jn):=dw
theorem pj:aA ["_law_heap","_law_state","_law_cell","_law_serial","_law_sort","_law_fields","_law_words"] ["_law_heap","_law_state","_law_cell"] (aq Jo):=dw
theorem iE:aA ["_law_script","_law_mode","_law_heap","_law_beside","_law_state","_law_cell","_law_deed","_law_thing_here"] ["_law_script"] (aq kN):=dw
set_option genInjectivity false in
set_option genSizeOfSpec false in
structure eP where
 x_:Addr
 ya:FuncData
 t7:Addr
 yb:FuncData
 pk:Addr
 yc:FuncData
 pq:Addr
 yd:FuncData
 t8:Addr
 ye:FuncData
 yf:Addr
 yg:FuncData
 yh:Addr
 yi:FuncData
 yj:Addr
 yk:FuncData
 yl:Addr
 ym:FuncData
 Jy:Addr
 Jz:FuncData
 yn:Addr
 yo:FuncData
 yp:Addr
 yq:FuncData
 yr:Addr
 yt:FuncData
 yu:Addr
 yv:FuncData
 yw:Addr
 yx:FuncData
 yy:Addr
 yz:FuncData
 yA:Addr
 yB:FuncData
 yC:Addr
 yD:FuncData
 mH:Addr
 yE:FuncData
 hG:Addr
 yF:FuncData
 mI:Addr
 yG:FuncData
 mJ:Addr
 yH:FuncData
 mK:Addr
 yI:FuncData
 mL:Addr
 yJ:FuncData
 mM:Addr
 yK:FuncData
 mN:Addr
 yL:FuncData
 mO:Addr
 yM:FuncData
 mP:Addr
 yN:FuncData
 mQ:Addr
 yO:FuncData
 mR:Addr
 yP:FuncData
 F5:Addr
 JA:FuncData
 F6:Addr
 JB:FuncData
 F7:Addr
 JC:FuncData
 F8:Addr
 JD:FuncData
 F9:Addr
 JE:FuncData
 F_:Addr
 JF:FuncData
 Ga:Addr
 JG:FuncData
 Gb:Addr
 JH:FuncData
 Gd:Addr
 JI:FuncData
 yQ:Addr
 yR:FuncData
 yS:Addr
 yT:FuncData
 yU:Addr
 yV:FuncData
 yW:Addr
 yX:FuncData
 yY:Addr
 yZ:FuncData
 y0:Addr
 y1:FuncData
 y2:Addr
 y3:FuncData
 y4:Addr
 y7:FuncData
 y8:Addr
 y9:FuncData
 y_:Addr
 za:FuncData
 zb:Addr
 zc:FuncData
 zd:Addr
 ze:FuncData
 zf:Addr
 zg:FuncData
 zh:Addr
 zi:FuncData
 zj:Addr
 zk:FuncData
 zl:Addr
 zm:FuncData
 zo:Addr
 zp:FuncData
 zq:Addr
 zr:FuncData
 zt:Addr
 zu:FuncData
 zv:Addr
 zw:FuncData
 zx:Addr
 zy:FuncData
 zz:Addr
 zA:FuncData
 zB:Addr
 zC:FuncData
 zD:Addr
 zE:FuncData
 zF:Addr
 zG:FuncData
 zH:Addr
 zI:FuncData
 pw:Addr
 t9:FuncData
 zJ:Addr
 zK:FuncData
 zL:Addr
 zM:FuncData
 zN:Addr
 zO:FuncData
 t_:Addr
 OA:FuncData
 dU:Addr
 iF:Addr
 kO:Addr
 bW:Addr
 bX:Addr
 fo:Addr
 bR:Addr
 aL:Addr
 aU:Addr
 bY:Addr
 aO:Addr
 ba:Addr
 gH:Tok
 gI:Tok
 fM:Addr
 dW:Addr
 dX:Addr
 dY:Addr
 dZ:Addr
 d3:Addr
 d4:Addr
 d5:Addr
 d6:Addr
 d7:Addr
 d8:Addr
 d9:Addr
 d_:Addr
 ee:Addr
 dj:Addr
 dk:Addr
 cB:Addr
 bP:Addr
 bQ:Addr
 fN:Addr
structure Txt (K:PySem.W.Frag) (mg:Str→Option Value) (a:eP):Prop where
 pz:cU K "is_thing" "is_thing" Ib a.x_ a.ya
 OB:Binds K a.ya ["value"] []
 OC:mg "is_thing"=some (.ref a.x_)
 pC:cU K "__init__" "Thing.__init__" Ic a.t7 a.yb
 E1:Binds K a.yb ["self","sort","some"] []
 zP:Mk K a.bR a.t7
 mS:cU K "sort_of" "Thing.sort_of" Ie a.pk a.yc
 pD:Binds K a.yc ["self"] []
 B5:Meth K a.bR "sort_of" a.pk
 mT:cU K "fields" "Thing.fields" Ig a.pq a.yd
 fc:Binds K a.yd ["self"] []
 lS:Meth K a.bR "fields" a.pq
 pE:cU K "words" "Thing.words" Ih a.t8 a.ye
 JJ:Binds K a.ye ["self"] []
 JK:Meth K a.bR "words" a.t8
 ua:cU K "__init__" "PlainThing.__init__" Ii a.yf a.yg
 E2:Binds K a.yg ["self","some","last_words"] []
 eS:Mk K a.aL a.yf
 ub:cU K "words" "PlainThing.words" Ij a.yh a.yi
 JL:Binds K a.yi ["self"] []
 B6:Meth K a.aL "words" a.yh
 uc:cU K "with_field" "PlainThing.with_field" Ik a.yj a.yk
 OD:Binds K a.yk ["self","at","value"] []
 JM:Meth K a.aL "with_field" a.yj
 ud:cU K "with_words" "PlainThing.with_words" Il a.yl a.ym
 OE:Binds K a.ym ["self","words"] []
 JN:Meth K a.aL "with_words" a.yl
 Ge:cU K "__init__" "PairThing.__init__" Sj a.Jy a.Jz
 WH:Binds K a.Jz ["self","key","value"] []
 kP:Mk K a.aU a.Jy
 pF:cU K "plain" "plain" Im a.yn a.yo
 OF:Binds K a.yo ["fields","words"] []
 OG:mg "plain"=some (.ref a.yn)
 mU:cU K "weak" "weak" Io a.yp a.yq
 JO:Binds K a.yq ["field"] []
 JP:mg "weak"=some (.ref a.yp)
 mV:cU K "pair" "pair" Ip a.yr a.yt
 JQ:Binds K a.yt ["key","value"] []
 JR:mg "pair"=some (.ref a.yr)
 pG:cU K "refuse" "refuse" Iq a.yu a.yv
 OH:Binds K a.yv ["word"] []
 OI:mg "refuse"=some (.ref a.yu)
 pH:cU K "has_sort" "has_sort" Ir a.yw a.yx
 OJ:Binds K a.yx ["heap","letter","sort"] []
 OK:mg "has_sort"=some (.ref a.yw)
 pI:cU K "lacks_thing" "lacks_thing" Iu a.yy a.yz
 OL:Binds K a.yz ["heap","deed"] []
 OM:mg "lacks_thing"=some (.ref a.yy)
 pJ:cU K "lacks_field" "lacks_field" Iv a.yA a.yB
 ON:Binds K a.yB ["heap","deed"] []
 OO:mg "lacks_field"=some (.ref a.yA)
 pK:cU K "new_thing" "new_thing" Iw a.yC a.yD
 OP:Binds K a.yD ["heap","deed"] []
 OQ:mg "new_thing"=some (.ref a.yC)
 mW:cU K "do_num" "do_num" Iy a.mH a.yE
 OR:Binds K a.yE ["heap","deed"] []
 WI:mg "do_num"=some (.ref a.mH)
 jC:cU K "do_new" "do_new" Iz a.hG a.yF
 OS:Binds K a.yF ["heap","deed"] []
 WJ:mg "do_new"=some (.ref a.hG)
 mX:cU K "do_words" "do_words" IA a.mI a.yG
 OT:Binds K a.yG ["heap","deed"] []
 WK:mg "do_words"=some (.ref a.mI)
 mY:cU K "do_put" "do_put" IB a.mJ a.yH
 OU:Binds K a.yH ["heap","deed"] []
 WL:mg "do_put"=some (.ref a.mJ)
 mZ:cU K "do_get" "do_get" IC a.mK a.yI
 OV:Binds K a.yI ["heap","deed"] []
 WM:mg "do_get"=some (.ref a.mK)
 m3:cU K "do_look" "do_look" ID a.mL a.yJ
 OW:Binds K a.yJ ["heap","deed"] []
 WN:mg "do_look"=some (.ref a.mL)
 m4:cU K "do_find" "do_find" IE a.mM a.yK
 OX:Binds K a.yK ["heap","deed"] []
 WO:mg "do_find"=some (.ref a.mM)
 m5:cU K "do_copy" "do_copy" IF a.mN a.yL
 OY:Binds K a.yL ["heap","deed"] []
 WQ:mg "do_copy"=some (.ref a.mN)
 m6:cU K "do_drop" "do_drop" IG a.mO a.yM
 OZ:Binds K a.yM ["heap","deed"] []
 WR:mg "do_drop"=some (.ref a.mO)
 m7:cU K "do_tell" "do_tell" IH a.mP a.yN
 O0:Binds K a.yN ["heap","deed"] []
 WS:mg "do_tell"=some (.ref a.mP)
 m8:cU K "do_same" "do_same" II a.mQ a.yO
 O1:Binds K a.yO ["heap","deed"] []
 WT:mg "do_same"=some (.ref a.mQ)
 m9:cU K "do_hear" "do_hear" IJ a.mR a.yP
 O2:Binds K a.yP ["heap","deed"] []
 WU:mg "do_hear"=some (.ref a.mR)
 B7:cU K "__init__" "DeedHeap.__init__" Sk a.F5 a.JA
 WV:Binds K a.JA ["self"] []
 zQ:Mk K a.bY a.F5
 B8:cU K "root" "DeedHeap.root" Sl a.F6 a.JB
 nH:Binds K a.JB ["self","letter"] []
 WW:Meth K a.bY "root" a.F6
 B9:cU K "set_root" "DeedHeap.set_root" Sn a.F7 a.JC
 u6:Binds K a.JC ["self","letter","value"] []
 WX:Meth K a.bY "set_root" a.F7
 B_:cU K "name_in" "DeedHeap.name_in" So a.F8 a.JD
 JS:Binds K a.JD ["self","letter"] []
 WY:Meth K a.bY "name_in" a.F8
 Ca:cU K "thing_in" "DeedHeap.thing_in" Sq a.F9 a.JE
 JT:Binds K a.JE ["self","letter"] []
 WZ:Meth K a.bY "thing_in" a.F9
 Cc:cU K "looked_at" "DeedHeap.looked_at" Sr a.F_ a.JF
 W3:Binds K a.JF ["self","name"] []
 W4:Meth K a.bY "looked_at" a.F_
 Cd:cU K "hear_first" "DeedHeap.hear_first" Ss a.Ga a.JG
 W5:Binds K a.JG ["self"] []
 W6:Meth K a.bY "hear_first" a.Ga
 Ce:cU K "refusal" "DeedHeap.refusal" Su a.Gb a.JH
 W7:Binds K a.JH ["self","deed"] []
 W8:Meth K a.bY "refusal" a.Gb
 Cf:cU K "done" "DeedHeap.done" Sv a.Gd a.JI
 W9:Binds K a.JI ["self","deed"] []
 W_:Meth K a.bY "done" a.Gd
 ue:cU K "__init__" "PlainHeap.__init__" IK a.yQ a.yR
 JU:Binds K a.yR ["self"] []
 gJ:Mk K a.aO a.yQ
 uf:cU K "do" "PlainHeap.do" IL a.yS a.yT
 O3:Binds K a.yT ["self","deed"] []
 JV:Meth K a.aO "do" a.yS
 ug:cU K "thing_of" "PlainHeap.thing_of" IM a.yU a.yV
 JW:Binds K a.yV ["self","name"] []
 Cg:Meth K a.aO "thing_of" a.yU
 uh:cU K "take_in" "PlainHeap.take_in" IP a.yW a.yX
 O4:Binds K a.yX ["self","thing"] []
 JX:Meth K a.aO "take_in" a.yW
 ui:cU K "change_field" "PlainHeap.change_field" IQ a.yY a.yZ
 O5:Binds K a.yZ ["self","name","at","value"] []
 JY:Meth K a.aO "change_field" a.yY
 uj:cU K "change_words" "PlainHeap.change_words" IS a.y0 a.y1
 JZ:Binds K a.y1 ["self","name","words"] []
 Ci:Meth K a.aO "change_words" a.y0
 uk:cU K "clear" "PlainHeap.clear" IT a.y2 a.y3
 O6:Binds K a.y3 ["self","serial"] []
 J0:Meth K a.aO "clear" a.y2
 um:cU K "drop_pair" "PlainHeap.drop_pair" IU a.y4 a.y7
 O7:Binds K a.y7 ["self","serial"] []
 J1:Meth K a.aO "drop_pair" a.y4
 uo:cU K "make_due" "PlainHeap.make_due" IV a.y8 a.y9
 O8:Binds K a.y9 ["self","serial"] []
 J2:Meth K a.aO "make_due" a.y8
 uq:cU K "roots" "PlainHeap.roots" IW a.y_ a.za
 J3:Binds K a.za ["self"] []
 Cj:Meth K a.aO "roots" a.y_
 ur:cU K "heard_row" "PlainHeap.heard_row" IY a.zb a.zc
 J4:Binds K a.zc ["self"] []
 Ck:Meth K a.aO "heard_row" a.zb
 uu:cU K "things" "PlainHeap.things" IZ a.zd a.ze
 J5:Binds K a.ze ["self"] []
 Cm:Meth K a.aO "things" a.zd
 uv:cU K "last" "PlainHeap.last" I0 a.zf a.zg
 J6:Binds K a.zg ["self"] []
 Cn:Meth K a.aO "last" a.zf
 pL:cU K "_law_cell_at" "_law_cell_at" I_ a.zh a.zi
 O9:Binds K a.zi ["_law_script","_law_k"] []
 O_:mg "_law_cell_at"=some (.ref a.zh)
 pM:cU K "_law_number_by" "_law_number_by" Ja a.zj a.zk
 Pa:Binds K a.zk ["_law_cell","_law_mode"] []
 Pb:mg "_law_number_by"=some (.ref a.zj)
 pN:cU K "_law_deed_by" "_law_deed_by" Jb a.zl a.zm
 Pc:Binds K a.zm ["_law_cell","_law_mode"] []
 Pe:mg "_law_deed_by"=some (.ref a.zl)
 ef:cU K "_law_value" "_law_value" Jc a.zo a.zp
 fq:Binds K a.zp ["_law_state","_law_root"] []
 ft:mg "_law_value"=some (.ref a.zo)
 pO:cU K "_law_thing" "_law_thing" Jd a.zq a.zr
 Pf:Binds K a.zr ["_law_state","_law_root","_law_sort"] []
 Pg:mg "_law_thing"=some (.ref a.zq)
 jD:cU K "_law_give" "_law_give" Je a.zt a.zu
 zR:Binds K a.zu ["_law_state","_law_root","_law_value_here"] []
 zS:mg "_law_give"=some (.ref a.zt)
 pP:cU K "_law_wants" "_law_wants" Jf a.zv a.zw
 Ph:Binds K a.zw ["_law_deed"] []
 Pj:mg "_law_wants"=some (.ref a.zv)
 pQ:cU K "_law_refusal" "_law_refusal" Jg a.zx a.zy
 Pk:Binds K a.zy ["_law_state","_law_deed"] []
 Pl:mg "_law_refusal"=some (.ref a.zx)
 pR:cU K "_law_made" "_law_made" Jh a.zz a.zA
 Pm:Binds K a.zA ["_law_state","_law_deed"] []
 Pn:mg "_law_made"=some (.ref a.zz)
 pS:cU K "_law_brought" "_law_brought" Ji a.zB a.zC
 Po:Binds K a.zC ["_law_state","_law_deed"] []
 Pp:mg "_law_brought"=some (.ref a.zB)
 pT:cU K "_law_answer" "_law_answer" Jj a.zD a.zE
 Pq:Binds K a.zE ["_law_state","_law_deed"] []
 Pt:mg "_law_answer"=some (.ref a.zD)
 pU:cU K "_law_done" "_law_done" Jk a.zF a.zG
 Pu:Binds K a.zG ["_law_state","_law_deed"] []
 Pw:mg "_law_done"=some (.ref a.zF)
 kQ:cU K "_law_event" "_law_event" Jl a.zH a.zI
 E3:Binds K a.zI ["_law_state","_law_word","_law_serial"] []
 E4:mg "_law_event"=some (.ref a.zH)
 hJ:cU K "_law_alike" "_law_alike" x9 a.pw a.t9
 pV:Binds K a.t9 ["_law_found","_law_due"] []
 pW:mg "_law_alike"=some (.ref a.pw)
 pX:cU K "_law_told" "_law_told" Jm a.zJ a.zK
 Px:Binds K a.zK ["_law_heap","_law_deed"] []
 Py:mg "_law_told"=some (.ref a.zJ)
 jE:cU K "_law_same_state" "_law_same_state" Jn a.zL a.zM
 zT:Binds K a.zM ["_law_heap","_law_state"] []
 zU:mg "_law_same_state"=some (.ref a.zL)
 pY:cU K "_law_told_event" "_law_told_event" Jo a.zN a.zO
 Pz:Binds K a.zO ["_law_heap","_law_state","_law_cell"] []
 PB:mg "_law_told_event"=some (.ref a.zN)
 m_:cU K "law" "law" kN a.t_ a.OA
 Xa:mg "law"=some (.ref a.t_)
 c8:Meth K a.aL "sort_of" a.pk
 bI:Meth K a.aL "fields" a.pq
 dm:Meth K a.aU "sort_of" a.pk
 bO:Meth K a.aU "fields" a.pq
 fu:Meth K a.aU "words" a.t8
 aW:Meth K a.aO "root" a.F6
 aX:Meth K a.aO "set_root" a.F7
 cj:Meth K a.aO "name_in" a.F8
 bU:Meth K a.aO "thing_in" a.F9
 eE:Meth K a.aO "looked_at" a.F_
 en:Meth K a.aO "hear_first" a.Ga
 eX:Meth K a.aO "refusal" a.Gb
 fO:Meth K a.aO "done" a.Gd
 fR:Hs K a.bR "__init__" a.t7
 gb:Hs K a.bY "__init__" a.F5
 gK:f_ K a.bW a.dU
 jQ:mg "NoThing"=some (.ref a.bW)
 gL:PySem.W.findIn K (.ref a.bW) "__init__"=some (some (.builtin "ValueError.__init__"))
 gM:f_ K a.bX a.dU
 jR:mg "NoField"=some (.ref a.bX)
 gO:PySem.W.findIn K (.ref a.bX) "__init__"=some (some (.builtin "ValueError.__init__"))
 uw:f_ K a.fo a.dU
 lT:mg "NoRoom"=some (.ref a.fo)
 je:PySem.W.findIn K (.ref a.fo) "__init__"=some (some (.builtin "ValueError.__init__"))
 ux:mg "NoDeed"=some (.ref a.iF)
 zV:mg "NoLog"=some (.ref a.kO)
 u7:We K a.dU
 kR:mg "HeapError"=some (.ref a.dU)
 cQ:PySem.W.kitOne K (.ref a.bW) (.ref a.bW)=some true
 cR:PySem.W.kitOne K (.ref a.bW) (.ref a.bX)=some false
 c_:PySem.W.kitOne K (.ref a.bW) (.ref a.fo)=some false
 da:PySem.W.kitOne K (.ref a.bW) (.ref a.iF)=some false
 dB:PySem.W.kitOne K (.ref a.bW) (.ref a.kO)=some false
 cS:PySem.W.kitOne K (.ref a.bX) (.ref a.bW)=some false
 cT:PySem.W.kitOne K (.ref a.bX) (.ref a.bX)=some true
 dc:PySem.W.kitOne K (.ref a.bX) (.ref a.fo)=some false
 df:PySem.W.kitOne K (.ref a.bX) (.ref a.iF)=some false
 dC:PySem.W.kitOne K (.ref a.bX) (.ref a.kO)=some false
 dq:rK K a.bR
 kS:mg "Thing"=some (.ref a.bR)
 cW:cE K a.bR "called"
 dr:cE K a.bR "parts"
 aP:rK K a.aL
 eT:mg "PlainThing"=some (.ref a.aL)
 ck:cE K a.aL "called"
 bh:cE K a.aL "parts"
 bg:cE K a.aL "last_words"
 bM:rK K a.aU
 kT:mg "PairThing"=some (.ref a.aU)
 cz:cE K a.aU "called"
 cC:cE K a.aU "parts"
 zW:rK K a.bY
 nc:mg "DeedHeap"=some (.ref a.bY)
 aj:rK K a.aO
 gP:mg "PlainHeap"=some (.ref a.aO)
 a7:cE K a.aO "root_values"
 bH:cE K a.aO "heard"
 aK:cE K a.aO "made"
 aV:mg "NOTHING"=some (.ref a.ba)
 Gf:∃o,K.lookup a.ba=some o∧o.cls=.type "tuple"∧o.dict=none
 cZ:∀H:Hp,bZ K H a.ba [.str "nothing"]
 fw:mg "NO_THING"=some (.str "no thing" a.gH)
 fz:mg "NO_FIELD"=some (.str "no field" a.gI)
 u9:mg "WANTS"=some (.ref a.fM)
 zX:lN K a.fM [("weak",a.dW),("pair",a.dY),("words",a.d3),("put",a.d5),("get",a.d7),("look",a.d9),("find",a.ee)]
 pZ:∀H:Hp,bZ K H a.dW [.ref a.dX]
 kU:∀H:Hp,bZ K H a.dX [.int 2,.str "any"]
 p0:∀H:Hp,bZ K H a.dY [.ref a.dZ]
 kW:∀H:Hp,bZ K H a.dZ [.int 2,.str "any"]
 p9:∀H:Hp,bZ K H a.d3 [.ref a.d4]
 kX:∀H:Hp,bZ K H a.d4 [.int 1,.str "plain"]
 p_:∀H:Hp,bZ K H a.d5 [.ref a.d6]
 kY:∀H:Hp,bZ K H a.d6 [.int 1,.str "plain"]
 qa:∀H:Hp,bZ K H a.d7 [.ref a.d8]
 kZ:∀H:Hp,bZ K H a.d8 [.int 2,.str "plain"]
 qb:∀H:Hp,bZ K H a.d9 [.ref a.d_]
 k8:∀H:Hp,bZ K H a.d_ [.int 2,.str "weak"]
 qc:∀H:Hp,bZ K H a.ee [.ref a.dj,.ref a.dk]
 k_:∀H:Hp,bZ K H a.dj [.int 2,.str "pair"]
 la:∀H:Hp,bZ K H a.dk [.int 3,.str "any"]
 jF:mg "WANTS_FIELD"=some (.ref a.cB)
 iG:lN K a.cB [("put",a.bP),("get",a.bQ)]
 gc:∀H:Hp,bZ K H a.bP [.int 1,.int 2]
 gg:∀H:Hp,bZ K H a.bQ [.int 2,.int 3]
 u_:mg "DOERS"=some (.ref a.fN)
 zY:lN K a.fN [("num",a.mH),("make",a.hG),("weak",a.hG),("pair",a.hG),("words",a.mI),("put",a.mJ),("get",a.mK),("look",a.mL),("find",a.mM),("copy",a.mN),("drop",a.mO),("tell",a.mP),("same",a.mQ),("hear",a.mR)]
 fg:mg "ValueError"=none
 uy:mg "abs"=none
 E5:mg "any"=none
 jS:mg "bool"=none
 iH:mg "dict"=none
 ng:mg "int"=none
 aE:mg "isinstance"=none
 eF:mg "len"=none
 fS:mg "list"=none
 E6:mg "max"=none
 lg:mg "range"=none
 gh:mg "str"=none
 gQ:mg "tuple"=none
 PD:PySem.W.kitOne K (.ref a.bW) (.type "ValueError")=some true
 PF:PySem.W.kitOne K (.ref a.bX) (.type "ValueError")=some true
section
variable {P:Program}{w:World}{K:PySem.W.Frag}{mg:Str→Option Value}{base:Heap}{a:eP}
noncomputable def Gg (d:Addr) (H H':Hp):Prop:=∀b o,b≠d→H b=some o→H' b=some o
noncomputable def Kp (S:Addr→Prop) (H H':Hp):Prop:=∀b o,¬S b→H b=some o→H' b=some o
theorem Kp.refl (S:Addr→Prop) (H:Hp):Kp S H H:=fun _ _ _ h=>h
theorem Kp.trans {S:Addr→Prop}{H H1 H2:Hp}(k:Kp S H H1) (k2:Kp S H1 H2):Kp S H H2:=fun b o n h=>k2 b o n (k b o n h)
theorem Kp.mono {S S':Addr→Prop}{H H':Hp}(k:Kp S H H') (i:∀b,S b→S' b):Kp S' H H':=fun b o n h=>k b o (fun z=>n (i b z)) h
theorem ar.kp {S:Addr→Prop}{H H':Hp}(k:ar H H'):Kp S H H':=fun b o _ h=>k b o h
theorem Kp.put {S:Addr→Prop}{H H':Hp}{l:Addr}{o:HO}(k:Kp S H H') (h:H' l=none):Kp S H (upd H' l o):=k.trans (ar.kp (ar.put h))
theorem Kp.set {S:Addr→Prop}{H H':Hp}{l:Addr}{o:HO}(k:Kp S H H') (h:S l):Kp S H (upd H' l o):=fun b u n e=>by
 rw [ak (fun z=>n (by rw [z]; exact h))]
 exact k b u n e
noncomputable def Mu (H:Hp) (b:Addr):Prop:=(∃xs,H b=some (.lst xs))∨∃kvs,H b=some (.dK kvs)
theorem Mu.Q7 {H:Hp}{b:Addr}(m:Mu H b) {xs:List V}(h:Rd H b (.tup xs)):False:=by
 rcases m with ⟨ys,m⟩ | ⟨ys,m⟩ <;> rcases h with h | ⟨o,h⟩ <;> (rw [m] at h; cases h)
theorem Kp.bT {K:PySem.W.Frag}{S:Addr→Prop}{H H':Hp}(k:Kp S H H') (mu:∀b,S b→Mu H b) {a:Addr}{xs:List V}(h:bZ K H a xs):bZ K H' a xs:=by
 rcases h with h | h
 ·have n:¬S a:=fun z=>(mu a z).Q7 h
  rcases h with h | ⟨o,h⟩
  ·exact .inl (.inl (k _ _ n h))
  ·exact .inl (.inr ⟨o,k _ _ n h⟩)
 ·exact .inr h
theorem bN.ins {K:PySem.W.Frag}{H:Hp}{l p C dx:Addr}{xs:List V}{fs:List (Str×V)}{o:HO}(h:bN K H l xs) (hp:H p=some (.ins C dx fs)):bN K (upd H p o) l xs:=by
 rcases h with (h | ⟨u,h⟩) | h
 ·exact .inl (.inl (by rw [ak (mD h hp (by intro z; cases z))]; exact h))
 ·exact .inl (.inr ⟨u,by rw [ak (mD h hp (by intro z; cases z))]; exact h⟩)
 ·exact .inr h
inductive Vl where
 | no | num (n:Int) | th (n:Int)
noncomputable def Vl.items:Vl→List V
 | .no=>[.str "nothing"]
 | .num n=>[.str "number",.int n]
 | .th n=>[.str "thing",.int n]
noncomputable def Vl.word:Vl→Str
 | .no=>"nothing"
 | .num _=>"number"
 | .th _=>"thing"
noncomputable def Vl.Mj:Vl→Bool
 | .th _=>true
 | _=>false
theorem Vl.hd (v:Vl):oI v.items 0=some (.str v.word):=by cases v <;> rfl
theorem Vl.is:∀v:Vl,decide (v.word=("thing":Str))=v.Mj
 | .no=>(by decide +kernel:decide (("nothing":Str)="thing")=false)
 | .num _=>(by decide +kernel:decide (("number":Str)="thing")=false)
 | .th _=>(by decide +kernel:decide (("thing":Str)="thing")=true)
noncomputable def dJ (K:PySem.W.Frag) (H:Hp) (x:V) (v:Vl):Prop:=∃t,x=.ref t∧bZ K H t v.items
theorem dJ.same {K:PySem.W.Frag}{H H':Hp}{x:V}{v:Vl}(h:dJ K H x v) (k:ar H H'):dJ K H' x v:=by
 obtain⟨t,e,h⟩:=h
 exact⟨t,e,k.bT h⟩
theorem dJ.kp {K:PySem.W.Frag}{S:Addr→Prop}{H H':Hp}{x:V}{v:Vl}(h:dJ K H x v) (k:Kp S H H') (mu:∀b,S b→Mu H b):dJ K H' x v:=by
 obtain⟨t,e,h⟩:=h
 exact⟨t,e,k.bT mu h⟩
noncomputable def Te (K:PySem.W.Frag):Sp:=fun vs H Q _=>∃x v,vs=[x]∧dJ K H x v∧Q (.bl v.Mj) H
theorem Tf (T:Txt K mg a):aY P w K mg base cX 1 a.x_ a.ya ["value"] (Te K):=by
 refine T.pz.ok Sw (fun vs H Q E h=>?_) (fun cv A outer s H vs Q E hr h=>?_)
 ·obtain⟨_,_,rfl,_⟩:=h
  rfl
 ·obtain⟨x,v,rfl,⟨t,rfl,hv⟩,q⟩:=h
  refine⟨_,(ah (aw (eQ b7 (au ao (pv 0) ai (fun _ _=>rfl)) av (aI _)))),?_⟩
  dsimp! []
  refine⟨t,_,_,_,rfl,rfl,hv,v.hd,?_⟩
  dsimp! []
  rw [v.is]
  exact q
inductive Tg where
 | plain (fs:List Vl) (w:Option Int) | weak (f:Vl) | pair (k v:Vl)
noncomputable def Tg.fs:Tg→List Vl
 | .plain fs _=>fs
 | .weak f=>[f]
 | .pair k v=>[k,v]
noncomputable def Tg.sort:Tg→Str
 | .plain _ _=>"plain"
 | .weak _=>"weak"
 | .pair _ _=>"pair"
noncomputable def Tg.words:Tg→Option Int
 | .plain _ w=>w
 | _=>none
noncomputable def wV:Option Int→V
 | none=>.bj
 | some n=>.int n
noncomputable def gi (K:PySem.W.Frag) (H:Hp) (xs:List V) (vl:List Vl):Prop:=vl.length=xs.length∧∀(i:Nat) x v,xs[i]?=some x→vl[i]?=some v→dJ K H x v
theorem gi.same {K:PySem.W.Frag}{H H':Hp}{xs:List V}{vl:List Vl}(h:gi K H xs vl) (k:ar H H'):gi K H' xs vl:=⟨h.1,fun i x v a b=>(h.2 i x v a b).same k⟩
theorem gi.kp {K:PySem.W.Frag}{S:Addr→Prop}{H H':Hp}{xs:List V}{vl:List Vl}(h:gi K H xs vl) (k:Kp S H H') (mu:∀b,S b→Mu H b):gi K H' xs vl:=⟨h.1,fun i x v a b=>(h.2 i x v a b).kp k mu⟩
theorem gi.nil (K:PySem.W.Frag) (H:Hp):gi K H [] []:=⟨rfl,fun i x v a _=>by simp at a⟩
theorem gi.cons {K:PySem.W.Frag}{H:Hp}{x:V}{v:Vl}{xs:List V}{vl:List Vl}(h:dJ K H x v) (t:gi K H xs vl):gi K H (x::xs) (v::vl):=⟨by simp [t.1],fun i y u a b=>by
 cases i with
 | zero=>
  simp at a b
  subst a b
  exact h
 | succ i=>exact t.2 i y u (by simpa using a) (by simpa using b)⟩
noncomputable def PJ (s:Str) (d:Addr):List (Str×V):=e_ "parts" (.ref d) (e_ "called" (.str s) [])
noncomputable def PK (d:Addr) (w:Option Int):List (Str×V):=e_ "last_words" (wV w) (PJ "plain" d)
theorem aaP:¬(("called":Str)="parts"):=by decide +kernel
theorem aaQ:¬(("called":Str)="last_words"):=by decide +kernel
theorem aaR:¬(("parts":Str)="last_words"):=by decide +kernel
noncomputable def Tg.cls (a:eP):Tg→Addr
 | .plain _ _=>a.aL
 | .weak _=>a.bR
 | .pair _ _=>a.aU
noncomputable def Tg.fl (d:Addr):Tg→List (Str×V)
 | .plain _ w=>PK d w
 | .weak _=>PJ "weak" d
 | .pair _ _=>PJ "pair" d
theorem Tg.called (t:Tg) (d:Addr):(t.fl d).lookup ("called":Str)=some (.str t.sort):=by
 cases t <;> simp only [Tg.fl,PK,PJ,bt,if_neg aaQ,if_neg aaP,if_true,Tg.sort]
theorem Tg.parts (t:Tg) (d:Addr):(t.fl d).lookup ("parts":Str)=some (.ref d):=by
 cases t <;> simp only [Tg.fl,PK,PJ,bt,if_neg aaR,if_true]
theorem Tg.no (t:Tg) (d:Addr) {n:Str}(h1:¬n="called":=by decide +kernel) (h2:¬n="parts":=by decide +kernel) (h3:¬n="last_words":=by decide +kernel):(t.fl d).lookup n=none:=by
 cases t <;> simp only [Tg.fl,PK,PJ,bt,if_neg h1,if_neg h2,if_neg h3] <;> rfl
theorem J7 (d:Addr) (w:Option Int):(PK d w).lookup ("last_words":Str)=some (wV w):=by
 unfold PK
 rw [bt,if_pos rfl]
structure eY (a:eP) (K:PySem.W.Frag) (H:Hp) (p d:Addr) (t:Tg):Prop where
 ob:∃dx,H p=some (.ins (t.cls a) dx (t.fl d))
 li:∃xs,H d=some (.lst xs)∧gi K H xs t.fs∧xs.length≤1000
theorem eY.same {a:eP}{K:PySem.W.Frag}{H H':Hp}{p d:Addr}{t:Tg}(h:eY a K H p d t) (k:ar H H'):eY a K H' p d t:=by
 obtain⟨⟨dx,h1⟩,xs,h2,h3,h4⟩:=h
 exact⟨⟨dx,k _ _ h1⟩,xs,k _ _ h2,h3.same k,h4⟩
theorem eY.kp {a:eP}{K:PySem.W.Frag}{S:Addr→Prop}{H H':Hp}{p d:Addr}{t:Tg}(h:eY a K H p d t) (k:Kp S H H') (mu:∀b,S b→Mu H b) (hd:¬S d):eY a K H' p d t:=by
 obtain⟨⟨dx,h1⟩,xs,h2,h3,h4⟩:=h
 refine⟨⟨dx,k _ _ (fun z=>?_) h1⟩,xs,k _ _ hd h2,h3.kp k mu,h4⟩
 rcases mu _ z with ⟨ys,m⟩ | ⟨ys,m⟩ <;> (rw [m] at h1; cases h1)
theorem Tg.na (T:Txt K mg a) (t:Tg):rK K (t.cls a)∧cE K (t.cls a) "called"∧cE K (t.cls a) "parts":=by
 cases t
 ·exact⟨T.aP,T.ck,T.bh⟩
 ·exact⟨T.dq,T.cW,T.dr⟩
 ·exact⟨T.bM,T.cz,T.cC⟩
theorem Tg.mem (t:Tg) (s:Sp):(t.cls a,s)∈[(a.bR,s),(a.aL,s),(a.aU,s)]:=by
 cases t
 ·exact .tail _ (.head _)
 ·exact .head _
 ·exact .tail _ (.tail _ (.head _))
noncomputable def Th (K:PySem.W.Frag):Sp:=fun vs H Q _=>∃p C dx s l xs,vs=[.ref p,.str s,.ref l]∧rK K C∧cE K C "called"∧cE K C "parts"∧H p=some (.ins C dx [])∧bN K H l xs ∧
 ∀d H',Gg p H H'→H d=none→H' p=some (.ins C dx (PJ s d))→H' d=some (.lst xs)→Q .bj H'
theorem Cp (T:Txt K mg a):aY P w K mg base cX 1 a.t7 a.yb ["self","sort","some"] (Th K):=by
 refine T.pC.ok Sx (fun vs H Q E h=>?_) (fun cv A outer s H vs Q E hr h=>?_)
 ·obtain⟨_,_,_,_,_,_,rfl,_⟩:=h
  rfl
 ·obtain⟨p,C,dx,s,l,xs,rfl,hC,hN1,Xb,h1,hl,q⟩:=h
  refine⟨_,(ag (lJ (pv 0) (pv 1) rfl) (ah (lJ (pv 0) (dy gw rfl T.fS gB (aa (pv 2) ae)) rfl))),?_⟩
  dsimp! [h1,HO.ins.injEq,hC,hN1,Xb]
  refine⟨by decide,xs,.inl (bN.ins hl h1),fun d hd=>?_⟩
  have Xc:p≠d:=aG af hd
  refine⟨C,dx,e_ "called" (.str s) [],by rw [ak Xc]; exact af,hC,Xb,Nat.lt_of_le_of_lt (cO _ _ _) (by decide),q d _ ?_ ?_ af ?_⟩
  ·intro b o hb e
   rw [ak hb,ak (aG (by rw [ak hb]; exact e) hd),ak hb]
   exact e
  ·rw [ak Xc.symm] at hd
   exact hd
  ·rw [ak Xc.symm]
   exact af
noncomputable def jT (a:eP) (K:PySem.W.Frag):Sp:=fun vs H Q _=>∃p d t,vs=[.ref p]∧eY a K H p d t∧Q (.str t.sort) H
theorem lU (T:Txt K mg a):aY P w K mg base cX 1 a.pk a.yc ["self"] (jT a K):=by
 refine T.mS.ok Sy (fun vs H Q E h=>?_) (fun cv A outer s H vs Q E hr h=>?_)
 ·obtain⟨_,_,_,rfl,_⟩:=h
  rfl
 ·obtain⟨p,d,t,rfl,⟨⟨dx,h1⟩,_⟩,q⟩:=h
  obtain⟨hC,hN1,Xb⟩:=t.na T
  refine⟨_,(ah (aw (cu (pv 0) rfl))),?_⟩
  dsimp! [h1,HO.ins.injEq,hC,hN1,t.called]
  exact q
noncomputable def dN (a:eP) (K:PySem.W.Frag):Sp:=fun vs H Q _=>∃p d t,vs=[.ref p]∧eY a K H p d t∧∀r xs,H r=none→gi K H xs t.fs→xs.length≤1000→Q (.ref r) (upd H r (.lst xs))
theorem dP (T:Txt K mg a):aY P w K mg base cX 1 a.pq a.yd ["self"] (dN a K):=by
 refine T.mT.ok Sz (fun vs H Q E h=>?_) (fun cv A outer s H vs Q E hr h=>?_)
 ·obtain⟨_,_,_,rfl,_⟩:=h
  rfl
 ·obtain⟨p,d,t,rfl,⟨⟨dx,h1⟩,xs,h2,h3,h4⟩,q⟩:=h
  obtain⟨hC,hN1,Xb⟩:=t.na T
  refine⟨_,(ah (aw (dy gw rfl T.fS gB (aa (cu (pv 0) rfl) ae)))),?_⟩
  dsimp! [h1,HO.ins.injEq,hC,Xb,t.parts]
  exact⟨xs,.inl (bN.of h2),fun l hl=>q l xs hl h3 h4⟩
noncomputable def qd:Sp:=fun vs H Q _=>∃p,vs=[.ref p]∧Q .bj H
theorem J8 (T:Txt K mg a):aY P w K mg base cX 1 a.t8 a.ye ["self"] qd:=by
 refine T.pE.ok SA (fun vs H Q E h=>?_) (fun cv A outer s H vs Q E hr h=>?_)
 ·obtain⟨_,rfl,_⟩:=h
  rfl
 ·obtain⟨p,rfl,q⟩:=h
  refine⟨_,(ah (aw bV)),?_⟩
  dsimp! []
  exact q
noncomputable def Cq (a:eP) (K:PySem.W.Frag):Sp:=fun vs H Q _=>∃p d fs w,vs=[.ref p]∧eY a K H p d (.plain fs w)∧Q (wV w) H
theorem J9 (T:Txt K mg a):aY P w K mg base cX 1 a.yh a.yi ["self"] (Cq a K):=by
 refine T.ub.ok SE (fun vs H Q E h=>?_) (fun cv A outer s H vs Q E hr h=>?_)
 ·obtain⟨_,_,_,_,rfl,_⟩:=h
  rfl
 ·obtain⟨p,d,fs,w,rfl,⟨⟨dx,h1⟩,_⟩,q⟩:=h
  have h2:H p=some (.ins a.aL dx (PK d w)):=h1
  refine⟨_,(ah (aw (cu (pv 0) rfl))),?_⟩
  dsimp! [h2,HO.ins.injEq,T.aP,T.bg,J7]
  exact q
theorem Gh (t:Tg) {p d:Addr}{H:Hp}{Q:VK}{E:XK}(h:eY a K H p d t) (q:Q (wV t.words) H):∃sp,(t.cls a,sp)∈[(a.bR,qd),(a.aL,Cq a K),(a.aU,qd)]∧sp [.ref p] H Q E:=by
 cases t with
 | plain fs w=>exact⟨_,.tail _ (.head _),p,d,fs,w,rfl,h,q⟩
 | weak f=>exact⟨_,.head _,p,rfl,q⟩
 | pair k v=>exact⟨_,.tail _ (.tail _ (.head _)),p,rfl,q⟩
noncomputable def Ti (a:eP) (K:PySem.W.Frag):Sp:=fun vs H Q _=>∃p dx l xs w,vs=[.ref p,.ref l,wV w]∧H p=some (.ins a.aL dx [])∧bN K H l xs ∧
 ∀d H',Gg p H H'→H d=none→H' p=some (.ins a.aL dx (PK d w))→H' d=some (.lst xs)→Q .bj H'
theorem Cr (T:Txt K mg a):aY P w K mg base cX 2 a.yf a.yg ["self","some","last_words"] (Ti a K):=by
 refine T.ua.ok SD (fun vs H Q E h=>?_) (fun cv A outer s H vs Q E hr h=>?_)
 ·obtain⟨_,_,_,_,_,rfl,_⟩:=h
  rfl
 ·obtain⟨p,dx,l,xs,w,rfl,h1,hl,q⟩:=h
  refine⟨_,(ag (a8 (uT (bJ (v:=.ref a.bR) rfl T.kS rfl) T.fR (Cp T) (hr.mono (by decide)) T.E1 .nil aB (aa (pv 0) (aa av (aa (pv 1) ae))))) (ah (lJ (pv 0) (pv 2) rfl))),?_⟩
  dsimp! []
  refine⟨p,_,dx,_,l,xs,rfl,T.aP,T.ck,T.bh,h1,hl,fun d H' k hd hp h2=>?_⟩
  have Xc:d≠p:=mD h2 hp (by intro z; cases z)
  refine⟨_,dx,_,hp,T.aP,T.bg,?_,q d _ (fun b o hb e=>?_) hd af ?_⟩
  ·refine Nat.lt_of_le_of_lt (cO _ _ _) (Nat.lt_of_le_of_lt (Nat.succ_le_succ (cO _ _ _)) (by decide))
  ·rw [ak hb]
   exact k b o hb e
  ·rw [ak Xc]
   exact h2
noncomputable def Xd (a:eP) (K:PySem.W.Frag):Sp:=fun vs H Q _=>∃p dx x y,vs=[.ref p,x,y]∧H p=some (.ins a.aU dx []) ∧
 ∀d H',Gg p H H'→H d=none→H' p=some (.ins a.aU dx (PJ "pair" d))→H' d=some (.lst [x,y])→Q .bj H'
theorem cq {H:Hp}{b l:Addr}{o:HO}(h:upd H l o b=none):H b=none:=by
 by_cases z:b=l
 ·rw [z,af] at h
  cases h
 ·rw [ak z] at h
  exact h
theorem Xe (T:Txt K mg a):aY P w K mg base cX 2 a.Jy a.Jz ["self","key","value"] (Xd a K):=by
 refine T.Ge.ok Ww (fun vs H Q E h=>?_) (fun cv A outer s H vs Q E hr h=>?_)
 ·obtain⟨_,_,_,_,rfl,_⟩:=h
  rfl
 ·obtain⟨p,dx,x,y,rfl,h1,q⟩:=h
  refine⟨_,(ah (a8 (uT (bJ (v:=.ref a.bR) rfl T.kS rfl) T.fR (Cp T) (hr.mono (by decide)) T.E1 .nil aB (aa (pv 0) (aa av (aa (bG (aa (pv 1) (aa (pv 2) ae))) ae)))))),?_⟩
  dsimp! []
  refine⟨by decide,fun l hl=>⟨p,_,dx,_,l,[x,y],rfl,T.bM,T.cz,T.cC,by rw [ak (aG h1 hl)]; exact h1,bN.of af,fun d H' k hd hp h2=>?_⟩⟩
  exact q d H' (fun b o hb e=>k b o hb (ar.put hl b o e)) (cq hd) hp h2
theorem fA {H H':Hp}{x dx:Addr}{o u:HO}(h1:H x=none) (h2:H dx=none) (k:Gg x (upd (upd H dx o) x u) H'):ar H H':=fun b c e=>by
 have n:=aG e h1
 exact k b c n (by rw [ak n,ak (aG e h2)]; exact e)
noncomputable def Tj (a:eP) (K:PySem.W.Frag):Sp:=fun vs H Q _=>∃l xs vl w,vs=[.ref l,wV w]∧bN K H l xs∧gi K H xs vl∧xs.length≤1000 ∧
 ∀p d H',ar H H'→H p=none→H d=none→eY a K H' p d (.plain vl w)→Q (.ref p) H'
theorem Tn (T:Txt K mg a):aY P w K mg base cX 4 a.yn a.yo ["fields","words"] (Tj a K):=by
 refine T.pF.ok SH (fun vs H Q E h=>?_) (fun cv A outer s H vs Q E hr h=>?_)
 ·obtain⟨_,_,_,_,rfl,_⟩:=h
  rfl
 ·obtain⟨l,xs,vl,w,rfl,hl,hv,hz,q⟩:=h
  refine⟨_,(ah (aw (kx T.eS (Cr T) (hr.mono (by decide)) rfl T.eT T.E2 .nil aB (aa (pv 0) (aa (pv 1) ae))))),?_⟩
  dsimp! []
  refine fun x dx hx Gi ne=>⟨x,dx,l,xs,w,rfl,af,?_,fun d H' k hd hp h2=>?_⟩
  ·exact((ar.put Gi).trans (ar.put (by rw [ak ne.symm]; exact hx))).seq hl
  ·have sm:=fA hx Gi k
   exact⟨rfl,q x d H' sm hx (cq (cq hd)) ⟨⟨dx,hp⟩,xs,h2,hv.same sm,hz⟩⟩
noncomputable def To (a:eP) (K:PySem.W.Frag):Sp:=fun vs H Q _=>∃x v,vs=[x]∧dJ K H x v∧∀p d H',ar H H'→H p=none→H d=none→eY a K H' p d (.weak v)→Q (.ref p) H'
theorem J_ (T:Txt K mg a):aY P w K mg base cX 3 a.yp a.yq ["field"] (To a K):=by
 refine T.mU.ok SI (fun vs H Q E h=>?_) (fun cv A outer s H vs Q E hr h=>?_)
 ·obtain⟨_,_,rfl,_⟩:=h
  rfl
 ·obtain⟨y,v,rfl,hv,q⟩:=h
  refine⟨_,(ah (aw (kx T.zP (Cp T) (hr.mono (by decide)) rfl T.kS T.E1 .nil aB (aa av (aa (bG (aa (pv 0) ae)) ae))))),?_⟩
  dsimp! []
  refine⟨by decide,fun l hl=>fun x dx hx Gi ne=>⟨x,_,dx,_,l,[y],rfl,T.dq,T.cW,T.dr,af,?_,fun d H' k hd hp h2=>?_⟩⟩
  ·exact((ar.put Gi).trans (ar.put (by rw [ak ne.symm]; exact hx))).seq (bN.of af)
  ·have sm:=(ar.put hl).trans (fA hx Gi k)
   exact⟨rfl,q x d H' sm (cq hx) (cq (cq (cq hd))) ⟨⟨dx,hp⟩,[y],h2,.cons (hv.same sm) (.nil _ _),by simp⟩⟩
noncomputable def Tp (a:eP) (K:PySem.W.Frag):Sp:=fun vs H Q _=>∃x y u v,vs=[x,y]∧dJ K H x u∧dJ K H y v∧∀p d H',ar H H'→H p=none→H d=none→eY a K H' p d (.pair u v)→Q (.ref p) H'
theorem Ka (T:Txt K mg a):aY P w K mg base cX 4 a.yr a.yt ["key","value"] (Tp a K):=by
 refine T.mV.ok SJ (fun vs H Q E h=>?_) (fun cv A outer s H vs Q E hr h=>?_)
 ·obtain⟨_,_,_,_,rfl,_⟩:=h
  rfl
 ·obtain⟨y,z,u,v,rfl,hu,hv,q⟩:=h
  refine⟨_,(ah (aw (kx T.kP (Xe T) (hr.mono (by decide)) rfl T.kT T.WH .nil aB (aa (pv 0) (aa (pv 1) ae))))),?_⟩
  dsimp! []
  refine fun x dx hx Gi ne=>⟨x,dx,y,z,rfl,af,fun d H' k hd hp h2=>?_⟩
  have sm:=fA hx Gi k
  exact⟨rfl,q x d H' sm hx (cq (cq hd)) ⟨⟨dx,hp⟩,[y,z],h2,.cons (hu.same sm) (.cons (hv.same sm) (.nil _ _)),by simp⟩⟩
noncomputable def Ml (rv hd md:Addr):List (Str×V):=e_ "made" (.ref md) (e_ "heard" (.ref hd) (e_ "root_values" (.ref rv) []))
theorem aaS:¬(("root_values":Str)="made"):=by decide +kernel
theorem aaT:¬(("root_values":Str)="heard"):=by decide +kernel
theorem aaU:¬(("heard":Str)="made"):=by decide +kernel
theorem Cs (rv hd md:Addr):(Ml rv hd md).lookup ("root_values":Str)=some (.ref rv):=by
 unfold Ml
 rw [bt,if_neg aaS,bt,if_neg aaT,bt,if_pos rfl]
theorem Ct (rv hd md:Addr):(Ml rv hd md).lookup ("heard":Str)=some (.ref hd):=by
 unfold Ml
 rw [bt,if_neg aaU,bt,if_pos rfl]
theorem eG (rv hd md:Addr):(Ml rv hd md).lookup ("made":Str)=some (.ref md):=by
 unfold Ml
 rw [bt,if_pos rfl]
theorem aT {rv hd md:Addr}{n:Str}(h1:¬n="made":=by decide +kernel) (h2:¬n="heard":=by decide +kernel) (h3:¬n="root_values":=by decide +kernel):(Ml rv hd md).lookup n=none:=by
 unfold Ml
 rw [bt,if_neg h1,bt,if_neg h2,bt,if_neg h3]
 rfl
structure HA where
 p:Addr
 rv:Addr
 hd:Addr
 md:Addr
noncomputable def HA.own (A:HA) (b:Addr):Prop:=b=A.rv∨b=A.hd∨b=A.md
theorem vc {α:Type} [DecidableEq α]:∀{l m:List α},l.Nodup→(∀x∈l,x∈m)→l.length≤m.length
 | [],_,_,_=>Nat.zero_le _
 | x::l,m,h,s=>by
  obtain⟨h1,h2⟩:=List.nodup_cons.mp h
  have hx:=s x List.mem_cons_self
  have:=vc (m:=m.erase x) h2 fun y hy=>(List.mem_erase_of_ne (fun z=>h1 (by rw [←z]; exact hy))).mpr (s y (List.mem_cons_of_mem _ hy))
  rw [List.length_erase_of_mem hx] at this
  have:=List.length_pos_of_mem hx
  rw [List.length_cons]
  omega
noncomputable def Mm:List Str:=(List.range 26).map fun i=>(⟨#[97+i]⟩:Str)
structure ni (K:PySem.W.Frag) (H:Hp) (kvs:List (Key×V)) (g:Str→Vl):Prop where
 nd:(kvs.map (·.1)).Nodup
 ks:∀kv∈kvs,∃x∈Mm,kv.1=Sum.inr x
 at_:∀x u,bK kvs (Sum.inr x)=some u→dJ K H u (g x)
 no:∀x,bK kvs (Sum.inr x)=none→g x=.no
noncomputable def du (ps:List (Addr×Addr)):List (Key×V):=List.zipWith (fun(i:Nat) (q:Addr×Addr)=>((Sum.inl ((i:Int)+1):Key),V.ref q.1)) (List.range ps.length) ps
theorem bS (ps:List (Addr×Addr)):(du ps).length=ps.length:=by
 unfold du
 rw [List.length_zipWith,List.length_range]
 omega
theorem jU (ps:List (Addr×Addr)) (i:Nat):(du ps)[i]?=(ps[i]?).map fun q=>((Sum.inl ((i:Int)+1):Key),V.ref q.1):=by
 unfold du
 rw [List.getElem?_zipWith]
 cases e:ps[i]? with
 | none=>
  cases e2:(List.range ps.length)[i]? <;> rfl
 | some q=>
  have hi:=(List.getElem?_eq_some_iff.mp e).1
  rw [List.getElem?_range hi]
  rfl
theorem E7 (ps:List (Addr×Addr)):(du ps).map (·.1)=(List.range ps.length).map fun(i:Nat)=>(Sum.inl ((i:Int)+1):Key):=by
 apply List.ext_getElem?
 intro i
 rw [List.getElem?_map,jU,List.getElem?_map]
 by_cases hi:i < ps.length
 ·rw [List.getElem?_eq_getElem hi,List.getElem?_range hi]
  rfl
 ·rw [List.getElem?_eq_none (by omega),List.getElem?_eq_none (by rw [List.length_range]; omega)]
  rfl
theorem jf {kvs:List (Key×V)}(hn:(kvs.map (·.1)).Nodup) {i:Nat}{kv:Key×V}(h:kvs[i]?=some kv):bK kvs kv.1=some kv.2:=by
 cases e:bK kvs kv.1 with
 | none=>exact absurd (List.mem_map.mpr ⟨kv,List.mem_of_getElem? h,rfl⟩) (kL e)
 | some v=>
  unfold bK at e
  cases e2:kvs.find? fun x=>decide (x.1=kv.1)with
  | none=>rw [e2] at e; cases e
  | some y=>
   rw [e2] at e
   have hy0:=List.find?_some e2
   have hy:y.1=kv.1:=of_decide_eq_true hy0
   obtain⟨j,hj⟩:=List.mem_iff_getElem?.mp (List.mem_of_find?_eq_some e2)
   have PL:i=j:=by
    obtain⟨a1,a2⟩:=List.getElem?_eq_some_iff.mp h
    obtain⟨b1,b2⟩:=List.getElem?_eq_some_iff.mp hj
    have p:=List.pairwise_iff_getElem.mp hn
    rcases Nat.lt_trichotomy i j with z | z | z
    ·exact absurd (by rw [List.getElem_map,List.getElem_map,a2,b2,hy]) (p i j (by rw [List.length_map]; exact a1) (by rw [List.length_map]; exact b1) z)
    ·exact z
    ·exact absurd (by rw [List.getElem_map,List.getElem_map,a2,b2,hy]) (p j i (by rw [List.length_map]; exact b1) (by rw [List.length_map]; exact a1) z)
   subst PL
   rw [h] at hj
   cases hj
   exact e.symm▸rfl
theorem Kb (ps:List (Addr×Addr)):((du ps).map (·.1)).Nodup:=by
 rw [E7]
 refine List.pairwise_map.mpr (List.Pairwise.imp (fun {x y} h e=>?_) (List.nodup_range (n:=ps.length)))
 have:(x:Int)+1=(y:Int)+1:=Sum.inl.inj e
 exact h (by omega)
theorem lh {ps:List (Addr×Addr)}{i:Nat}{q:Addr×Addr}(h:ps[i]?=some q):bK (du ps) (Sum.inl ((i:Int)+1))=some (V.ref q.1):=
 jf (kv:=(Sum.inl ((i:Int)+1),V.ref q.1)) (Kb ps) (i:=i) (by rw [jU,h]; rfl)
theorem zZ {ps:List (Addr×Addr)}{z:Int}(h:z≤0∨(ps.length:Int) < z):bK (du ps) (Sum.inl z)=none:=by
 cases e:bK (du ps) (Sum.inl z)with
 | none=>rfl
 | some v=>
  have hm:=oq e
  rw [E7] at hm
  obtain⟨i,hi,e2⟩:=List.mem_map.mp hm
  have:=List.mem_range.mp hi
  have:(i:Int)+1=z:=Sum.inl.inj e2
  omega
theorem E8 {ps:List (Addr×Addr)}{i:Nat}{q q':Addr×Addr}(h:ps[i]?=some q):putK (du ps) (Sum.inl ((i:Int)+1)) (V.ref q'.1)=du (ps.set i q'):=by
 unfold putK
 rw [eD,lh h,if_pos (show(some (V.ref q.1)).isSome=true from rfl)]
 apply List.ext_getElem?
 intro j
 rw [List.getElem?_map,jU,jU,List.getElem?_set]
 cases e:ps[j]? with
 | none=>
  by_cases PL:i=j
  ·subst PL
   rw [h] at e
   cases e
  ·rw [if_neg PL]
   rfl
 | some r=>
  by_cases PL:i=j
  ·subst PL
   rw [if_pos rfl,if_pos (List.getElem?_eq_some_iff.mp e).1]
   show some (if (Sum.inl ((i:Int)+1):Key)=Sum.inl ((i:Int)+1)then _ else _)=_
   rw [if_pos rfl]
   rfl
  ·rw [if_neg PL]
   show some (if (Sum.inl ((j:Int)+1):Key)=Sum.inl ((i:Int)+1)then _ else _)=_
   rw [if_neg fun y=>PL (by have:(j:Int)+1=(i:Int)+1:=Sum.inl.inj y; omega)]
   rfl
theorem vd (ps:List (Addr×Addr)) (q:Addr×Addr):putK (du ps) (Sum.inl ((ps.length:Int)+1)) (V.ref q.1)=du (ps++[q]):=by
 rw [oU _ (zZ (.inr (by omega)))]
 unfold du
 rw [List.length_append,List.length_singleton,List.range_succ,List.zipWith_append (by rw [List.length_range])]
 rfl
noncomputable def rF (K:PySem.W.Frag) (H:Hp) (xs:List V) (hs:List (Nat×Int)):Prop:=hs.length=xs.length∧∀(i:Nat) x h,xs[i]?=some x→hs[i]?=some h→∃t,x=.ref t∧bZ K H t [.int (h.1:Int),.int h.2]
theorem rF.same {H H':Hp}{xs:List V}{hs:List (Nat×Int)}(h:rF K H xs hs) (k:ar H H'):rF K H' xs hs:=⟨h.1,fun i x y a b=>by
 obtain⟨t,e,h⟩:=h.2 i x y a b
 exact⟨t,e,k.bT h⟩⟩
theorem rF.kp {S:Addr→Prop}{H H':Hp}{xs:List V}{hs:List (Nat×Int)}(h:rF K H xs hs) (k:Kp S H H') (mu:∀b,S b→Mu H b):rF K H' xs hs:=⟨h.1,fun i x y a b=>by
 obtain⟨t,e,h⟩:=h.2 i x y a b
 exact⟨t,e,k.bT mu h⟩⟩
theorem ni.cw {H:Hp}{kvs:List (Key×V)}{g:Str→Vl}(h:ni K H kvs g):kvs.length≤26:=by
 have:=vc (m:=Mm.map fun x=>(Sum.inr x:Key)) h.nd fun k hk=>by
  obtain⟨kv,lj,rfl⟩:=List.mem_map.mp hk
  obtain⟨x,hx,e⟩:=h.ks kv lj
  exact List.mem_map.mpr ⟨x,hx,e.symm⟩
 rw [List.length_map] at this
 refine Nat.le_trans this ?_
 unfold Mm
 rw [List.length_map,List.length_map,List.length_range]
 exact Nat.le_refl _
theorem z0 {kvs:List (Key×V)}{k:Key}{v:V}:(k∈kvs.map (·.1)∧(putK kvs k v).map (·.1)=kvs.map (·.1))∨(k∉kvs.map (·.1)∧(putK kvs k v).map (·.1)=kvs.map (·.1)++[k]):=by
 cases e:bK kvs k with
 | none=>exact .inr ⟨kL e,by rw [oU _ e,List.map_append]; rfl⟩
 | some u=>
  refine .inl ⟨oq e,?_⟩
  unfold putK
  rw [eD,e,if_pos (show(some u).isSome=true from rfl),List.map_map]
  refine List.map_congr_left fun p _=>?_
  show(if p.1=k then(p.1,v)else p).1=p.1
  split <;> rfl
theorem ni.put {H H':Hp}{kvs:List (Key×V)}{g:Str→Vl}{x:Str}{u:V}{v:Vl}(h:ni K H' kvs g) (hx:x∈Mm) (hu:dJ K H' u v):ni K H' (putK kvs (Sum.inr x) u) (fun y=>if y=x then v else g y):=by
 refine⟨?_,fun kv lj=>?_,fun y w e=>?_,fun y e=>?_⟩
 ·rcases z0 (kvs:=kvs) (k:=Sum.inr x) (v:=u)with ⟨_,e⟩ | ⟨z,e⟩ <;> rw [e]
  ·exact h.nd
  ·refine List.nodup_append.mpr ⟨h.nd,by simp,fun a ha b hb e=>?_⟩
   rw [List.mem_singleton.mp hb] at e
   exact z (e▸ha)
 ·have hm:kv.1∈(putK kvs (Sum.inr x) u).map (·.1):=List.mem_map.mpr ⟨kv,lj,rfl⟩
  rcases z0 (kvs:=kvs) (k:=Sum.inr x) (v:=u)with ⟨_,e⟩ | ⟨z,e⟩ <;> rw [e] at hm
  ·obtain⟨kv2,h2,e2⟩:=List.mem_map.mp hm
   obtain⟨y,hy,e⟩:=h.ks kv2 h2
   exact⟨y,hy,e2.symm.trans e⟩
  ·rcases List.mem_append.mp hm with hm | hm
   ·obtain⟨kv2,h2,e2⟩:=List.mem_map.mp hm
    obtain⟨y,hy,e⟩:=h.ks kv2 h2
    exact⟨y,hy,e2.symm.trans e⟩
   ·exact⟨x,hx,List.mem_singleton.mp hm⟩
 ·rw [oS] at e
  by_cases z:y=x
  ·rw [if_pos z]
   rw [if_pos (by rw [z])] at e
   cases e
   exact hu
  ·rw [if_neg z]
   rw [if_neg fun q=>z (Sum.inr.inj q)] at e
   exact h.at_ y w e
 ·rw [oS] at e
  by_cases z:y=x
  ·rw [if_pos (by rw [z])] at e
   cases e
  ·rw [if_neg z]
   rw [if_neg fun q=>z (Sum.inr.inj q)] at e
   exact h.no y e
theorem ni.same {H H':Hp}{kvs:List (Key×V)}{g:Str→Vl}(h:ni K H kvs g) (k:ar H H'):ni K H' kvs g:=⟨h.nd,h.ks,fun x u e=>(h.at_ x u e).same k,h.no⟩
theorem ni.kp {S:Addr→Prop}{H H':Hp}{kvs:List (Key×V)}{g:Str→Vl}(h:ni K H kvs g) (k:Kp S H H') (mu:∀b,S b→Mu H b):ni K H' kvs g:=⟨h.nd,h.ks,fun x u e=>(h.at_ x u e).kp k mu,h.no⟩
structure PH (a:eP) (K:PySem.W.Frag) (Pr:Addr→Prop) (H:Hp) (A:HA) (g:Str→Vl) (ts:List Tg) (hs:List (Nat×Int)):Prop where
 ob:∃dx,H A.p=some (.ins a.aO dx (Ml A.rv A.hd A.md))
 rt:∃kvs,H A.rv=some (.dK kvs)∧ni K H kvs g
 th:∃ps:List (Addr×Addr),H A.md=some (.dK (du ps))∧ps.length=ts.length∧(∀(i:Nat) q t,ps[i]?=some q→ts[i]?=some t→eY a K H q.1 q.2 t)∧∀q∈ps,q.2≠A.hd∧¬Pr q.2
 he:∃xs,H A.hd=some (.lst xs)∧rF K H xs hs
 ne:A.rv≠A.md
 pr:∀b,Pr b→H b≠none∧¬A.own b
 cw:ts.length≤500∧hs.length≤500
section
variable {Pr:Addr→Prop}{H H':Hp}{A:HA}{g:Str→Vl}{ts:List Tg}{hs:List (Nat×Int)}
theorem PH.same (h:PH a K Pr H A g ts hs) (k:ar H H'):PH a K Pr H' A g ts hs:=by
 obtain⟨dx,h1⟩:=h.ob
 obtain⟨kvs,h2,h3⟩:=h.rt
 obtain⟨ps,h4,h5,h6,h7⟩:=h.th
 obtain⟨xs,h8,h9⟩:=h.he
 refine⟨⟨dx,k _ _ h1⟩,⟨kvs,k _ _ h2,h3.same k⟩,⟨ps,k _ _ h4,h5,fun i q t a b=>(h6 i q t a b).same k,h7⟩,⟨xs,k _ _ h8,h9.same k⟩,h.ne,fun b hb=>⟨?_,(h.pr b hb).2⟩,h.cw⟩
 have:=(h.pr b hb).1
 cases e:H b with
 | none=>exact absurd e this
 | some u=>rw [k _ _ e]; intro z; cases z
theorem PH.mu (h:PH a K Pr H A g ts hs):∀b,A.own b→Mu H b:=fun b z=>by
 rcases z with rfl | rfl | rfl
 ·obtain⟨kvs,h2,_⟩:=h.rt
  exact .inr ⟨_,h2⟩
 ·obtain⟨xs,h8,_⟩:=h.he
  exact .inl ⟨_,h8⟩
 ·obtain⟨ps,h4,_⟩:=h.th
  exact .inr ⟨_,h4⟩
theorem PH.kp {S:Addr→Prop}(h:PH a K Pr H A g ts hs) (k:Kp S H H') (mu:∀b,S b→Mu H b) (sp:∀b,S b→Pr b) (so:∀b,S b→H' b≠none):PH a K Pr H' A g ts hs:=by
 obtain⟨dx,h1⟩:=h.ob
 obtain⟨kvs,h2,h3⟩:=h.rt
 obtain⟨ps,h4,h5,h6,h7⟩:=h.th
 obtain⟨xs,h8,h9⟩:=h.he
 have no:∀b,A.own b→¬S b:=fun b z y=>(h.pr b (sp b y)).2 z
 refine⟨⟨dx,k _ _ (fun z=>?_) h1⟩,⟨kvs,k _ _ (no _ (.inl rfl)) h2,h3.kp k mu⟩,⟨ps,k _ _ (no _ (.inr (.inr rfl))) h4,h5,fun i q t a b=>(h6 i q t a b).kp k mu fun z=>(h7 q (List.mem_of_getElem? a)).2 (sp _ z),h7⟩,⟨xs,k _ _ (no _ (.inr (.inl rfl))) h8,h9.kp k mu⟩,h.ne,fun b hb=>⟨?_,(h.pr b hb).2⟩,h.cw⟩
 ·rcases mu _ z with ⟨ys,m⟩ | ⟨ys,m⟩ <;> (rw [m] at h1; cases h1)
 ·by_cases z:S b
  ·exact so b z
  ·have:=(h.pr b hb).1
   cases e:H b with
   | none=>exact absurd e this
   | some u=>rw [k _ _ z e]; intro z; cases z
end
theorem PH.get {Pr:Addr→Prop}{H:Hp}{A:HA}{g:Str→Vl}{ts:List Tg}{hs:List (Nat×Int)}(T:Txt K mg a) (h:PH a K Pr H A g ts hs) (x:Str):∃o,fk H A.rv (.str x) o∧dJ K H (o.getD (.ref a.ba)) (g x):=by
 obtain⟨kvs,h2,h3⟩:=h.rt
 refine⟨bK kvs (Sum.inr x),fk.k (k:=Sum.inr x) h2,?_⟩
 cases e:bK kvs (Sum.inr x)with
 | none=>rw [h3.no x e]; exact⟨_,rfl,T.cZ _⟩
 | some u=>exact h3.at_ x u e
noncomputable def Mn (a:eP) (K:PySem.W.Frag):Sp:=fun vs H Q _=>∃Pr A g ts hs x,vs=[.ref A.p,.str x]∧PH a K Pr H A g ts hs∧∀u,dJ K H u (g x)→Q u H
theorem iI (T:Txt K mg a):aY P w K mg base cX 1 a.F6 a.JB ["self","letter"] (Mn a K):=by
 refine T.B8.ok Wy (fun vs H Q E h=>?_) (fun cv A outer s H vs Q E hr h=>?_)
 ·obtain⟨_,_,_,_,_,_,rfl,_⟩:=h
  rfl
 ·obtain⟨Pr,A,g,ts,hs,x,rfl,h,q⟩:=h
  refine⟨_,(ah (aw (xR (cx hr) (cu (pv 0) rfl) (pv 1) (bJ (v:=.ref a.ba) rfl T.aV rfl) ⟨rfl,rfl,rfl,rfl⟩))),?_⟩
  obtain⟨dx,h1⟩:=h.ob
  obtain⟨kvs,h2,h3⟩:=h.rt
  dsimp! [h1,HO.ins.injEq,T.aj,T.a7,Cs,T.aV]
  obtain⟨o,h4,h5⟩:=h.get T x
  exact⟨.inl ⟨kvs,.inl h2⟩,o,h4,q _ h5⟩
noncomputable def Mo (a:eP) (K:PySem.W.Frag):Sp:=fun vs H Q _=>∃Pr A g ts hs,vs=[.ref A.p]∧PH a K Pr H A g ts hs∧Q (.int (ts.length:Nat)) H
theorem Kc (T:Txt K mg a):aY P w K mg base cX 1 a.zf a.zg ["self"] (Mo a K):=by
 refine T.uv.ok S_ (fun vs H Q E h=>?_) (fun cv A outer s H vs Q E hr h=>?_)
 ·obtain⟨_,_,_,_,_,rfl,_⟩:=h
  rfl
 ·obtain⟨Pr,A,g,ts,hs,rfl,h,q⟩:=h
  refine⟨_,(ah (aw (aF dS rfl T.eF dI (aa (cu (pv 0) rfl) ae)))),?_⟩
  obtain⟨dx,h1⟩:=h.ob
  dsimp! [h1,HO.ins.injEq,T.aj,T.aK,eG]
  obtain⟨ps,h4,h5,_⟩:=h.th
  refine⟨_,h4,?_⟩
  rw [bS,h5]
  exact q
noncomputable def ve (a:eP) (K:PySem.W.Frag):Sp:=fun vs H Q _=>∃Pr A g ts hs,vs=[.ref A.p]∧PH a K Pr H A g ts hs∧∀r xs,H r=none→rF K H xs hs→Q (.ref r) (upd H r (.lst xs))
theorem Kd (T:Txt K mg a):aY P w K mg base cX 1 a.zb a.zc ["self"] (ve a K):=by
 refine T.ur.ok S9 (fun vs H Q E h=>?_) (fun cv A outer s H vs Q E hr h=>?_)
 ·obtain⟨_,_,_,_,_,rfl,_⟩:=h
  rfl
 ·obtain⟨Pr,A,g,ts,hs,rfl,h,q⟩:=h
  refine⟨_,(ah (aw (dy gw rfl T.fS gB (aa (cu (pv 0) rfl) ae)))),?_⟩
  obtain⟨dx,h1⟩:=h.ob
  dsimp! [h1,HO.ins.injEq,T.aj,T.bH,Ct]
  obtain⟨xs,h8,h9⟩:=h.he
  exact⟨xs,.inl (bN.of h8),fun l hl=>q l xs hl h9⟩
noncomputable def z4 (a:eP) (K:PySem.W.Frag):Sp:=fun vs H Q _=>∃Pr A g ts hs,∃(i:Nat) (t:Tg),vs=[.ref A.p,.int ((i:Int)+1)]∧PH a K Pr H A g ts hs∧ts[i]?=some t∧∀p d,eY a K H p d t→Q (.ref p) H
theorem Ke (T:Txt K mg a):aY P w K mg base cX 1 a.yU a.yV ["self","name"] (z4 a K):=by
 refine T.ug.ok S2 (fun vs H Q E h=>?_) (fun cv A outer s H vs Q E hr h=>?_)
 ·obtain⟨_,_,_,_,_,_,_,rfl,_⟩:=h
  rfl
 ·obtain⟨Pr,A,g,ts,hs,i,t,rfl,h,ht,q⟩:=h
  refine⟨_,(ah (aw (c9 (cx hr) (cu (pv 0) rfl) (pv 1) (fun _ _=>rfl)))),?_⟩
  obtain⟨dx,h1⟩:=h.ob
  dsimp! [h1,HO.ins.injEq,T.aj,T.aK,eG]
  obtain⟨ps,h4,h5,h6,_⟩:=h.th
  have hi:ps[i]?=some (ps[i]'(by have:=(List.getElem?_eq_some_iff.mp ht).1; omega)):=List.getElem?_eq_getElem _
  exact⟨_,by rw [←lh hi]; exact fk.k (k:=Sum.inl ((i:Int)+1)) h4,q _ _ (h6 i _ t hi ht)⟩
noncomputable def z5 (a:eP) (K:PySem.W.Frag):Sp:=fun vs H Q _=>∃Pr A g ts hs x u v,vs=[.ref A.p,.str x,u]∧PH a K Pr H A g ts hs∧x∈Mm∧dJ K H u v∧∀H',Kp A.own H H'→PH a K Pr H' A (fun y=>if y=x then v else g y) ts hs→Q .bj H'
theorem nj (T:Txt K mg a):aY P w K mg base cX 1 a.F7 a.JC ["self","letter","value"] (z5 a K):=by
 refine T.B9.ok Wz (fun vs H Q E h=>?_) (fun cv A outer s H vs Q E hr h=>?_)
 ·obtain⟨_,_,_,_,_,_,_,_,rfl,_⟩:=h
  rfl
 ·obtain⟨Pr,A,g,ts,hs,x,u,v,rfl,h,hx,hv,q⟩:=h
  refine⟨_,(ah (cP (cx hr) (cu (pv 0) rfl) (pv 1) (pv 2) rfl)),?_⟩
  obtain⟨dx,h1⟩:=h.ob
  dsimp! [h1,HO.ins.injEq,T.aj,T.a7,Cs]
  obtain⟨kvs,h2,h3⟩:=h.rt
  refine⟨_,gG.k (k:=Sum.inr x) h2 (aQ (by have:=h3.cw; omega)),q _ ((Kp.refl _ _).set (.inl rfl)) ?_⟩
  have k:Kp (·=A.rv) H (upd H A.rv (.dK (putK kvs (Sum.inr x) u))):=(Kp.refl _ _).set rfl
  have mu:∀b,b=A.rv→Mu H b:=fun b e=>.inr ⟨kvs,by rw [e]; exact h2⟩
  obtain⟨dx,h1⟩:=h.ob
  obtain⟨ps,h4,h5,h6,h7⟩:=h.th
  obtain⟨xs,h8,h9⟩:=h.he
  have nd:∀q∈ps,q.2≠A.rv:=fun q hq z=>by
   obtain⟨i,hi⟩:=List.mem_iff_getElem?.mp hq
   obtain⟨_,_,e,_⟩:=h6 i q _ hi (List.getElem?_eq_getElem (by rw [←h5]; exact(List.getElem?_eq_some_iff.mp hi).1))
   rw [z,h2] at e
   cases e
  refine⟨⟨dx,k _ _ (fun z=>by rw [z,h2] at h1; cases h1) h1⟩,⟨_,af,(h3.kp k mu).put (H:=H) hx (hv.kp k mu)⟩,⟨ps,k _ _ h.ne.symm h4,h5,fun i q t a b=>(h6 i q t a b).kp k mu (nd q (List.mem_of_getElem? a)),h7⟩,⟨xs,k _ _ (fun z=>by rw [z,h2] at h8; cases h8) h8,h9.kp k mu⟩,h.ne,fun b hb=>⟨?_,(h.pr b hb).2⟩,h.cw⟩
  have:=(h.pr b hb).1
  cases e:H b with
  | none=>exact absurd e this
  | some o=>rw [k b o (fun z=>(h.pr b hb).2 (.inl z)) e]; intro z; cases z
section
variable {Pr:Addr→Prop}{H H':Hp}{A:HA}{g:Str→Vl}{ts:List Tg}{hs:List (Nat×Int)}
theorem PH.things (h:PH a K Pr H A g ts hs) {E9:List (Addr×Addr)}{F0:List Tg}(hl:E9.length=F0.length) (PM:∀(i:Nat) q t,E9[i]?=some q→F0[i]?=some t→eY a K H q.1 q.2 t) (hn:∀q∈E9,q.2≠A.hd∧¬Pr q.2) (cw:F0.length≤500):PH a K Pr (upd H A.md (.dK (du E9))) A g F0 hs:=by
 obtain⟨dx,h1⟩:=h.ob
 obtain⟨kvs,h2,h3⟩:=h.rt
 obtain⟨ps,h4,h5,h6,h7⟩:=h.th
 obtain⟨xs,h8,h9⟩:=h.he
 have k:Kp (·=A.md) H (upd H A.md (.dK (du E9))):=(Kp.refl _ _).set rfl
 have mu:∀b,b=A.md→Mu H b:=fun b e=>.inr ⟨du ps,by rw [e]; exact h4⟩
 have nd:∀q∈E9,q.2≠A.md:=fun q hq z=>by
  obtain⟨i,hi⟩:=List.mem_iff_getElem?.mp hq
  obtain⟨_,_,e,_⟩:=PM i q _ hi (List.getElem?_eq_getElem (by rw [←hl]; exact(List.getElem?_eq_some_iff.mp hi).1))
  rw [z,h4] at e
  cases e
 refine⟨⟨dx,k _ _ (fun z=>by rw [z,h4] at h1; cases h1) h1⟩,⟨kvs,k _ _ h.ne h2,h3.kp k mu⟩,⟨E9,af,hl,fun i q t a b=>(PM i q t a b).kp k mu (nd q (List.mem_of_getElem? a)),hn⟩,⟨xs,k _ _ (fun z=>by rw [z,h4] at h8; cases h8) h8,h9.kp k mu⟩,h.ne,fun b hb=>⟨?_,(h.pr b hb).2⟩,cw,h.cw.2⟩
 have:=(h.pr b hb).1
 cases e:H b with
 | none=>exact absurd e this
 | some o=>rw [k b o (fun z=>(h.pr b hb).2 (.inr (.inr z))) e]; intro z; cases z
theorem PH.qe (h:PH a K Pr H A g ts hs) {Mp:List V}{jg:List (Nat×Int)}(hr:rF K H Mp jg) (cw:jg.length≤500):PH a K Pr (upd H A.hd (.lst Mp)) A g ts jg:=by
 obtain⟨dx,h1⟩:=h.ob
 obtain⟨kvs,h2,h3⟩:=h.rt
 obtain⟨ps,h4,h5,h6,h7⟩:=h.th
 obtain⟨xs,h8,h9⟩:=h.he
 have k:Kp (·=A.hd) H (upd H A.hd (.lst Mp)):=(Kp.refl _ _).set rfl
 have mu:∀b,b=A.hd→Mu H b:=fun b e=>.inl ⟨xs,by rw [e]; exact h8⟩
 refine⟨⟨dx,k _ _ (fun z=>by rw [z,h8] at h1; cases h1) h1⟩,⟨kvs,k _ _ (fun z=>by rw [z,h8] at h2; cases h2) h2,h3.kp k mu⟩,⟨ps,k _ _ (fun z=>by rw [z,h8] at h4; cases h4) h4,h5,fun i q t a b=>(h6 i q t a b).kp k mu (h7 q (List.mem_of_getElem? a)).1,h7⟩,⟨Mp,af,hr.kp k mu⟩,h.ne,fun b hb=>⟨?_,(h.pr b hb).2⟩,h.cw.1,cw⟩
 have:=(h.pr b hb).1
 cases e:H b with
 | none=>exact absurd e this
 | some o=>rw [k b o (fun z=>(h.pr b hb).2 (.inr (.inl z))) e]; intro z; cases z
theorem PH.fresh (h:PH a K Pr H A g ts hs) {d:Addr}(hd:H d=none):d≠A.hd∧¬Pr d:=⟨(fun z=>by
 obtain⟨xs,h8,_⟩:=h.he
 rw [←z,hd] at h8
 cases h8),fun z=>(h.pr d z).1 hd⟩
theorem PH.set (h:PH a K Pr H A g ts hs) {ps:List (Addr×Addr)}{i:Nat}{q q':Addr×Addr}{t':Tg}(GQ:H A.md=some (.dK (du ps))) (hq:ps[i]?=some q) (ht:eY a K H q'.1 q'.2 t') (hn:q'.2≠A.hd∧¬Pr q'.2):PH a K Pr (upd H A.md (.dK (putK (du ps) (Sum.inl ((i:Int)+1)) (.ref q'.1)))) A g (ts.set i t') hs:=by
 obtain⟨z6,h4,h5,h6,h7⟩:=h.th
 have e:du z6=du ps:=by
  rw [GQ] at h4
  exact(HO.dK.inj (Option.some.inj h4)).symm
 have el:z6.length=ps.length:=by rw [←bS,←bS,e]
 have hi:=(List.getElem?_eq_some_iff.mp hq).1
 have Mq:z6[i]?=some (z6[i]'(by omega)):=List.getElem?_eq_getElem _
 rw [←e,E8 (q':=q') Mq]
 refine h.things (by rw [List.length_set,List.length_set]; exact h5) (fun j r t hr jM=>?_) (fun r hr=>?_) (by rw [List.length_set]; exact h.cw.1)
 ·rw [List.getElem?_set] at hr jM
  by_cases z:i=j
  ·subst z
   rw [if_pos rfl,if_pos (by omega)] at hr
   rw [if_pos rfl,if_pos (by omega)] at jM
   cases hr
   cases jM
   exact ht
  ·rw [if_neg z] at hr jM
   exact h6 j r t hr jM
 ·rcases List.mem_or_eq_of_mem_set hr with hr | rfl
  ·exact h7 r hr
  ·exact hn
theorem PH.new (h:PH a K Pr H A g ts hs) {ps:List (Addr×Addr)}{q':Addr×Addr}{t':Tg}(GQ:H A.md=some (.dK (du ps))) (ht:eY a K H q'.1 q'.2 t') (hn:q'.2≠A.hd∧¬Pr q'.2) (cw:ts.length < 500):PH a K Pr (upd H A.md (.dK (putK (du ps) (Sum.inl ((ts.length:Int)+1)) (.ref q'.1)))) A g (ts++[t']) hs:=by
 obtain⟨z6,h4,h5,h6,h7⟩:=h.th
 have e:du z6=du ps:=by
  rw [GQ] at h4
  exact(HO.dK.inj (Option.some.inj h4)).symm
 rw [←e,←h5,vd]
 refine h.things (by rw [List.length_append,List.length_append,h5]; rfl) (fun j r t hr jM=>?_) (fun r hr=>?_) (by rw [List.length_append,List.length_singleton]; omega)
 ·by_cases z:j < z6.length
  ·rw [List.getElem?_append_left z] at hr
   rw [List.getElem?_append_left (by omega)] at jM
   exact h6 j r t hr jM
  ·have ej:j=z6.length:=by
    have:=(List.getElem?_eq_some_iff.mp hr).1
    rw [List.length_append,List.length_singleton] at this
    omega
   subst ej
   rw [List.getElem?_append_right (Nat.le_refl _),Nat.sub_self] at hr
   rw [h5,List.getElem?_append_right (Nat.le_refl _),Nat.sub_self] at jM
   cases hr
   cases jM
   exact ht
 ·rcases List.mem_append.mp hr with hr | hr
  ·exact h7 r hr
  ·rw [List.mem_singleton.mp hr]
   exact hn
end
theorem gi.set {H:Hp}{xs:List V}{vl:List Vl}{i:Nat}{x:V}{v:Vl}(h:gi K H xs vl) (hx:dJ K H x v):gi K H (xs.set i x) (vl.set i v):=⟨by simp [h.1],fun j y u a b=>by
 by_cases e:i=j
 ·subst e
  have hl:=(List.getElem?_eq_some_iff.mp a).1
  rw [List.length_set] at hl
  have kG:=h.1
  rw [List.getElem?_set_self hl] at a
  rw [List.getElem?_set_self (by omega)] at b
  cases a
  cases b
  exact hx
 ·rw [List.getElem?_set_ne e] at a b
  exact h.2 j y u a b⟩
noncomputable def rO (a:eP) (K:PySem.W.Frag):Sp:=fun vs H Q _=>∃p d fs w u v,∃n:Nat,vs=[.ref p,.int (n:Nat),u]∧eY a K H p d (.plain fs w)∧n < fs.length∧dJ K H u v∧∀p' d' H',ar H H'→H p'=none→H d'=none→eY a K H' p' d' (.plain (fs.set n v) w)→Q (.ref p') H'
theorem Tq (T:Txt K mg a):aY P w K mg base cX 4 a.yj a.yk ["self","at","value"] (rO a K):=by
 refine T.uc.ok SF (fun vs H Q E h=>?_) (fun cv A outer s H vs Q E hr h=>?_)
 ·obtain⟨_,_,_,_,_,_,_,rfl,_⟩:=h
  rfl
 ·obtain⟨p,d,fs,w,u,v,n,rfl,h,hn,hv,q⟩:=h
  refine⟨_,(ah (aw (kx T.eS (Cr T) (hr.mono (by decide)) rfl T.eT T.E2 .nil aB (aa (bo kF (bo kF (iA kB (cu (pv 0) rfl) om (i9 (pv 1))) (bG (aa (pv 2) ae))) (iA kB (cu (pv 0) rfl) (i9 (bo jK (pv 1) ai)) om)) (aa (cu (pv 0) rfl) ae))))),?_⟩
  obtain⟨dx,h1⟩:=h.ob
  obtain⟨xs,h2,h3,h4⟩:=h.li
  have e1:=(Tg.plain fs w).parts d
  have e2:(Tg.plain fs w).cls a=a.aL:=rfl
  rw [e2] at h1
  dsimp! [h1,HO.ins.injEq,T.aP,T.bh,e1]
  have hl:fs.length=xs.length:=h3.1
  refine⟨d,xs,rfl,bN.of h2,fun l1 hl1=>⟨by simp [sizeLine_eq],fun l2 kG=>?_⟩⟩
  have c1:kA xs none (some (n:Int))=xs.take n:=by
   unfold kA
   rw [HT.kz,HT.oj]
   simp
  have c2:kA xs (some ((n:Int)+1)) none=xs.drop (n+1):=by
   unfold kA
   rw [HT.kz,show(n:Int)+1=((n+1:Nat):Int)by simp,HT.oj]
   rw [Nat.min_eq_left (by omega),List.take_of_length_le (by rw [List.length_drop]; omega)]
  rw [c1] at kG ⊢
  have s1:=ar.put (o:=.lst (xs.take n)) hl1
  have s2:=s1.trans (ar.put (o:=.lst [u]) kG)
  have e3:upd (upd H l1 (.lst (xs.take n))) l2 (.lst [u]) l1=some (.lst (xs.take n)):=ar.put kG _ _ af
  refine⟨l1,l2,_,_,rfl,rfl,bN.of e3,bN.of af,by rw [List.length_take,List.length_singleton]; exact Nat.le_of_lt (aQ (by omega)),fun l3 hl3=>?_⟩
  have s3:=s2.trans (ar.put (o:=.lst (xs.take n++[u])) hl3)
  refine⟨_,_,_,s3 _ _ h1,T.aP,T.bh,_,e1,d,xs,rfl,bN.of (s3 _ _ h2),fun l4 hl4=>?_⟩
  rw [c2] at ⊢
  have s4:=ar.put (o:=.lst (xs.drop (n+1))) hl4
  refine⟨l3,l4,_,_,rfl,rfl,bN.of (s4 _ _ af),bN.of af,by rw [List.length_append,List.length_take,List.length_singleton,List.length_drop]; exact Nat.le_of_lt (aQ (by omega)),fun l5 hl5=>?_⟩
  have s5:=(s3.trans s4).trans (ar.put (o:=.lst (xs.take n++[u]++xs.drop (n+1))) hl5)
  have h5:upd (upd (upd (upd (upd H l1 (.lst (xs.take n))) l2 (.lst [u])) l3 (.lst (xs.take n++[u]))) l4 (.lst (xs.drop (n+1)))) l5 (.lst (xs.take n++[u]++xs.drop (n+1))) l5=some (.lst (xs.take n++[u]++xs.drop (n+1))):=af
  generalize upd (upd (upd (upd (upd H l1 (.lst (xs.take n))) l2 (.lst [u])) l3 (.lst (xs.take n++[u]))) l4 (.lst (xs.drop (n+1)))) l5 (.lst (xs.take n++[u]++xs.drop (n+1)))=H5 at s5 h5
  have ex:xs.take n++[u]++xs.drop (n+1)=xs.set n u:=by
   rw [List.set_eq_take_append_cons_drop,if_pos (by omega),List.append_assoc]
   rfl
  rw [ex] at h5
  have ll:gi K H5 (xs.set n u) (fs.set n v):=(h3.same s5).set (hv.same s5)
  refine⟨_,_,_,s5 _ _ h1,T.aP,T.bg,_,J7 d w,fun x Tr hx Gi ne=>⟨x,Tr,l5,xs.set n u,w,rfl,af,?_,fun d2 H' k hd hp h6=>?_⟩⟩
  ·exact((ar.put Gi).trans (ar.put (by rw [ak ne.symm]; exact hx))).seq (bN.of h5)
  ·have sm:=fA hx Gi k
   exact⟨rfl,q x d2 H' (s5.trans sm) (s5.free hx) (s5.free (cq (cq hd))) ⟨⟨Tr,hp⟩,_,h6,ll.same sm,by rw [List.length_set]; exact h4⟩⟩
noncomputable def rP (a:eP) (K:PySem.W.Frag):Sp:=fun vs H Q _=>∃p d fs w w',vs=[.ref p,wV w']∧eY a K H p d (.plain fs w)∧∀p' d' H',ar H H'→H p'=none→H d'=none→eY a K H' p' d' (.plain fs w')→Q (.ref p') H'
theorem Ts (T:Txt K mg a):aY P w K mg base cX 4 a.yl a.ym ["self","words"] (rP a K):=by
 refine T.ud.ok SG (fun vs H Q E h=>?_) (fun cv A outer s H vs Q E hr h=>?_)
 ·obtain⟨_,_,_,_,_,rfl,_⟩:=h
  rfl
 ·obtain⟨p,d,fs,w,w',rfl,h,q⟩:=h
  refine⟨_,(ah (aw (kx T.eS (Cr T) (hr.mono (by decide)) rfl T.eT T.E2 .nil aB (aa (cu (pv 0) rfl) (aa (pv 1) ae))))),?_⟩
  obtain⟨dx,h1⟩:=h.ob
  obtain⟨xs,h2,h3,h4⟩:=h.li
  have e1:=(Tg.plain fs w).parts d
  have e2:(Tg.plain fs w).cls a=a.aL:=rfl
  rw [e2] at h1
  dsimp! [h1,HO.ins.injEq,T.aP,T.bh,e1]
  refine fun x Tr hx Gi ne=>⟨x,Tr,d,xs,w',rfl,af,?_,fun d2 H' k hd hp h6=>?_⟩
  ·exact((ar.put Gi).trans (ar.put (by rw [ak ne.symm]; exact hx))).seq (bN.of h2)
  ·have sm:=fA hx Gi k
   exact⟨rfl,q x d2 H' sm hx (cq (cq hd)) ⟨⟨Tr,hp⟩,_,h6,h3.same sm,h4⟩⟩
noncomputable def Cu (a:eP) (K:PySem.W.Frag):Sp:=fun vs H Q _=>∃Pr A g ts hs x,∃n:Int,vs=[.ref A.p,.str x]∧PH a K Pr H A g ts hs∧g x=.th n∧Q (.int n) H
theorem E_ (T:Txt K mg a):aY P w K mg base cX 2 a.F8 a.JD ["self","letter"] (Cu a K):=by
 refine T.B_.ok WA (fun vs H Q E h=>?_) (fun cv A outer s H vs Q E hr h=>?_)
 ·obtain⟨_,_,_,_,_,_,_,rfl,_⟩:=h
  rfl
 ·obtain⟨Pr,A,g,ts,hs,x,n,rfl,h,hg,q⟩:=h
  refine⟨_,(ah (aw (au ao (aS (pv 0) T.aj T.aW (iI T) (hr.mono (by decide)) T.nH .nil aB (aa (pv 1) ae)) ai (fun _ _=>rfl)))),?_⟩
  obtain⟨dx,h1⟩:=h.ob
  have f1:=aT (rv:=A.rv) (hd:=A.hd) (md:=A.md) (n:="root")
  dsimp! [h1,HO.ins.injEq,f1]
  refine⟨Pr,A,g,ts,hs,x,rfl,h,fun u hu=>?_⟩
  rw [hg] at hu
  obtain⟨t,rfl,ht⟩:=hu
  exact⟨t,_,_,_,rfl,rfl,ht,rfl,q⟩
noncomputable def z7 (a:eP) (K:PySem.W.Frag):Sp:=fun vs H Q _=>∃Pr A g ts hs x,∃(i:Nat) (t:Tg),vs=[.ref A.p,.str x]∧PH a K Pr H A g ts hs∧g x=.th ((i:Int)+1)∧ts[i]?=some t∧∀p d,eY a K H p d t→Q (.ref p) H
theorem Fb (T:Txt K mg a):aY P w K mg base cX 3 a.F9 a.JE ["self","letter"] (z7 a K):=by
 refine T.Ca.ok WB (fun vs H Q E h=>?_) (fun cv A outer s H vs Q E hr h=>?_)
 ·obtain⟨_,_,_,_,_,_,_,_,rfl,_⟩:=h
  rfl
 ·obtain⟨Pr,A,g,ts,hs,x,i,t,rfl,h,hg,ht,q⟩:=h
  refine⟨_,(ah (aw (aS (pv 0) T.aj T.Cg (Ke T) (hr.mono (by decide)) T.JW .nil aB (aa (by exact(aS (pv 0) T.aj T.cj (E_ T) (hr.mono (by decide)) T.JS .nil aB (aa (pv 1) ae))) ae)))),?_⟩
  obtain⟨dx,h1⟩:=h.ob
  have f1:=aT (rv:=A.rv) (hd:=A.hd) (md:=A.md) (n:="name_in")
  have f2:=aT (rv:=A.rv) (hd:=A.hd) (md:=A.md) (n:="thing_of")
  dsimp! [h1,HO.ins.injEq,f1,f2]
  exact⟨Pr,A,g,ts,hs,x,_,rfl,h,hg,Pr,A,g,ts,hs,i,t,rfl,h,ht,q⟩
noncomputable def vf (a:eP) (K:PySem.W.Frag):Sp:=fun vs H Q _=>∃Pr A g ts hs,∃(i:Nat) (t:Tg) (v:Vl),vs=[.ref A.p,.int ((i:Int)+1)]∧PH a K Pr H A g ts hs∧ts[i]?=some t∧t.fs[0]?=some v∧∀u H',ar H H'→dJ K H' u v→Q u H'
theorem Xf (T:Txt K mg a):aY P w K mg base cX 2 a.F_ a.JF ["self","name"] (vf a K):=by
 refine T.Cc.ok WC (fun vs H Q E h=>?_) (fun cv A outer s H vs Q E hr h=>?_)
 ·obtain⟨_,_,_,_,_,_,_,_,rfl,_⟩:=h
  rfl
 ·obtain⟨Pr,A,g,ts,hs,i,t,v,rfl,h,ht,hv,q⟩:=h
  refine⟨_,(ah (aw (au dA (dR (L:=[(a.bR,dN a K),(a.aL,dN a K),(a.aU,dN a K)]) (aS (pv 0) T.aj T.Cg (Ke T) (hr.mono (by decide)) T.JW .nil aB (aa (pv 1) ae)) (List.forall_mem_cons.mpr ⟨⟨_,_,_,_,T.dq,T.lS,dP T,hr.mono (by decide),T.fc⟩,List.forall_mem_cons.mpr ⟨⟨_,_,_,_,T.aP,T.bI,dP T,hr.mono (by decide),T.fc⟩,List.forall_mem_cons.mpr ⟨⟨_,_,_,_,T.bM,T.bO,dP T,hr.mono (by decide),T.fc⟩,List.forall_mem_nil _⟩⟩⟩) .nil aB) ai (fun _ _=>rfl)))),?_⟩
  obtain⟨dx,h1⟩:=h.ob
  have f1:=aT (rv:=A.rv) (hd:=A.hd) (md:=A.md) (n:="thing_of")
  dsimp! [h1,HO.ins.injEq,f1]
  refine⟨Pr,A,g,ts,hs,i,t,rfl,h,ht,fun p d hT=>?_⟩
  obtain⟨Lr,Cv⟩:=hT.ob
  refine⟨p,rfl,_,_,_,Cv,t.no d,_,t.mem _,p,d,t,rfl,hT,fun r xs hr ll hz=>?_⟩
  have s1:=ar.put (o:=.lst xs) hr
  have L9:xs[0]?=some (xs[0]'(by have:=(List.getElem?_eq_some_iff.mp hv).1; have:=ll.1; omega)):=List.getElem?_eq_getElem _
  exact⟨r,_,_,_,rfl,rfl,bN.of af,dz (j:=0) L9,q _ _ s1 ((ll.2 0 _ v L9 hv).same s1)⟩
noncomputable def rQ (a:eP) (K:PySem.W.Frag):Sp:=fun vs H Q _=>∃Pr A g ts hs,vs=[.ref A.p]∧PH a K Pr H A g ts hs∧(hs=[]→Q .bj H)∧∀h jg t H',hs=h::jg→Kp A.own H H'→PH a K Pr H' A g ts jg→bZ K H' t [.int (h.1:Int),.int h.2]→Q (.ref t) H'
theorem Xg (T:Txt K mg a):aY P w K mg base cX 1 a.Ga a.JG ["self"] (rQ a K):=by
 refine T.Cd.ok WD (fun vs H Q E h=>?_) (fun cv A outer s H vs Q E hr h=>?_)
 ·obtain⟨_,_,_,_,_,rfl,_⟩:=h
  rfl
 ·obtain⟨Pr,A,g,ts,hs,rfl,h,q1,q2⟩:=h
  refine⟨_,(ah (aw (eV (Sg (cu (pv 0) rfl)) (kC PySem.F.plainAttrs_list PySem.F.slot_list_pop PySem.F.type_list_pop xE (cu (pv 0) rfl) (aa ai ae)) bV))),?_⟩
  obtain⟨dx,h1⟩:=h.ob
  dsimp! [h1,HO.ins.injEq,T.aj,T.bH,Ct,tLT]
  obtain⟨xs,h8,h9⟩:=h.he
  have hl:=h9.1
  refine⟨xs,h8,by have:=h.cw.2; omega,?_⟩
  cases xs with
  | nil=>
   cases hs with
   | nil=>exact bu (fun z=>by cases z) fun _=>q1 rfl
   | cons=>cases hl
  | cons x xs=>
   cases hs with
   | nil=>cases hl
   | cons y hs=>
    obtain⟨t,rfl,ht⟩:=h9.2 0 x y rfl rfl
    refine bu (fun _=>⟨.inl ⟨rfl,_,bN.of h8⟩,?_⟩) fun z=>absurd rfl z
    refine⟨A.hd,_,0,0,_,rfl,rfl,h8,by decide,by decide,by simp [seqIndex?],rfl,?_⟩
    have hr:rF K H xs hs:=⟨by simpa using hl,fun i x h a b=>h9.2 (i+1) x h a b⟩
    have k:Kp (·=A.hd) H (upd H A.hd (.lst xs)):=(Kp.refl _ _).set rfl
    exact q2 y hs t _ rfl ((Kp.refl _ _).set (.inr (.inl rfl))) (h.qe hr (by have:=h.cw.2; rw [List.length_cons] at this; omega)) (k.bT (fun b e=>.inl ⟨V.ref t::xs,by rw [e]; exact h8⟩) ht)
noncomputable def Cw (a:eP) (K:PySem.W.Frag):Sp:=fun vs H Q _=>∃Pr A g ts hs p d t,vs=[.ref A.p,.ref p]∧PH a K Pr H A g ts hs∧eY a K H p d t∧d≠A.hd∧¬Pr d∧ts.length < 500∧∀H',Kp A.own H H'→PH a K Pr H' A g (ts++[t]) hs→Q (.int ((ts.length:Int)+1)) H'
theorem Tt (T:Txt K mg a):aY P w K mg base cX 2 a.yW a.yX ["self","thing"] (Cw a K):=by
 refine T.uh.ok Jt (fun vs H Q E h=>?_) (fun cv A outer s H vs Q E hr h=>?_)
 ·obtain⟨_,_,_,_,_,_,_,_,rfl,_⟩:=h
  rfl
 ·obtain⟨Pr,A,g,ts,hs,p,d,t,rfl,h,hT,HS,hd2,cw,q⟩:=h
  refine⟨_,(ag (bc (i:=2) Jt.nd rfl (Or.inl rfl) (bo jK (dO (pv 0) T.aj T.Cn (Kc T) (hr.mono (by decide)) T.J6 .nil aB) ai)) (ag (cP (cx hr) (cu (pv 0) rfl) (pv 2) (pv 1) rfl) (ah (aw (pv 2))))),?_⟩
  obtain⟨dx,h1⟩:=h.ob
  have f1:=aT (rv:=A.rv) (hd:=A.hd) (md:=A.md) (n:="last")
  dsimp! [h1,HO.ins.injEq,T.aj,T.aK,eG,f1]
  refine⟨Pr,A,g,ts,hs,rfl,h,?_⟩
  obtain⟨ps,h4,h5,_⟩:=h.th
  refine⟨_,rfl,_,_,_,h1,T.aj,T.aK,_,eG _ _ _,_,rfl,_,gG.k (k:=Sum.inl ((ts.length:Int)+1)) h4 (aQ (by rw [bS]; omega)),?_⟩
  exact q _ ((Kp.refl _ _).set (.inr (.inr rfl))) (h.new (q':=(p,d)) h4 hT ⟨HS,hd2⟩ cw)
theorem PH.at_ {Pr:Addr→Prop}{H:Hp}{A:HA}{g:Str→Vl}{ts:List Tg}{hs:List (Nat×Int)}(h:PH a K Pr H A g ts hs) {i:Nat}{t:Tg}(ht:ts[i]?=some t):∃ps q,H A.md=some (.dK (du ps))∧ps[i]?=some q∧eY a K H q.1 q.2 t∧fk H A.md (.int ((i:Int)+1)) (some (.ref q.1))∧ps.length=ts.length:=by
 obtain⟨ps,h4,h5,h6,_⟩:=h.th
 have hi:ps[i]?=some (ps[i]'(by have:=(List.getElem?_eq_some_iff.mp ht).1; omega)):=List.getElem?_eq_getElem _
 exact⟨ps,_,h4,hi,h6 i _ t hi ht,by rw [←lh hi]; exact fk.k (k:=Sum.inl ((i:Int)+1)) h4,h5⟩
noncomputable def nI (a:eP) (K:PySem.W.Frag):Sp:=fun vs H Q _=>∃Pr A g ts hs,∃(i n:Nat) (fs:List Vl) (w:Option Int) (u:V) (v:Vl),vs=[.ref A.p,.int ((i:Int)+1),.int (n:Nat),u]∧PH a K Pr H A g ts hs∧ts[i]?=some (.plain fs w)∧n < fs.length∧dJ K H u v∧∀H',Kp A.own H H'→PH a K Pr H' A g (ts.set i (.plain (fs.set n v) w)) hs→Q .bj H'
theorem Tu (T:Txt K mg a):aY P w K mg base cX 5 a.yY a.yZ ["self","name","at","value"] (nI a K):=by
 refine T.ui.ok S3 (fun vs H Q E h=>?_) (fun cv A outer s H vs Q E hr h=>?_)
 ·obtain⟨_,_,_,_,_,_,_,_,_,_,_,rfl,_⟩:=h
  rfl
 ·obtain⟨Pr,A,g,ts,hs,i,n,fs,w,u,v,rfl,h,ht,hn,hv,q⟩:=h
  refine⟨_,(ah (cP (cx hr) (cu (pv 0) rfl) (pv 1) (aS (c9 (cx hr) (cu (pv 0) rfl) (pv 1) (fun _ _=>rfl)) T.aP T.JM (Tq T) (hr.mono (by decide)) T.OD .nil aB (aa (pv 2) (aa (pv 3) ae))) rfl)),?_⟩
  obtain⟨dx,h1⟩:=h.ob
  obtain⟨ps,r,h4,hi,hT,hg,mG⟩:=h.at_ ht
  dsimp! [h1,HO.ins.injEq,T.aj,T.aK,eG]
  obtain⟨Lr,Cv⟩:=hT.ob
  refine⟨_,hg,r.1,rfl,Lr,_,Cv,(Tg.plain fs w).no r.2,r.1,r.2,fs,w,u,v,n,rfl,hT,hn,hv,fun p' d' H2 s2 U_ xl Mc=>?_⟩
  have h2:=h.same s2
  refine⟨_,_,_,s2 _ _ h1,T.aj,T.aK,_,eG _ _ _,_,rfl,_,gG.k (k:=Sum.inl ((i:Int)+1)) (s2 _ _ h4) (aQ (by rw [bS]; have:=h.cw.1; omega)),?_⟩
  exact q _ ((ar.kp s2).set (.inr (.inr rfl))) (h2.set (q':=(p',d')) (s2 _ _ h4) hi Mc (h.fresh xl))
noncomputable def nJ (a:eP) (K:PySem.W.Frag):Sp:=fun vs H Q _=>∃Pr A g ts hs,∃(i:Nat) (fs:List Vl) (w w':Option Int),vs=[.ref A.p,.int ((i:Int)+1),wV w']∧PH a K Pr H A g ts hs∧ts[i]?=some (.plain fs w)∧∀H',Kp A.own H H'→PH a K Pr H' A g (ts.set i (.plain fs w')) hs→Q .bj H'
theorem Kf (T:Txt K mg a):aY P w K mg base cX 5 a.y0 a.y1 ["self","name","words"] (nJ a K):=by
 refine T.uj.ok S4 (fun vs H Q E h=>?_) (fun cv A outer s H vs Q E hr h=>?_)
 ·obtain⟨_,_,_,_,_,_,_,_,_,rfl,_⟩:=h
  rfl
 ·obtain⟨Pr,A,g,ts,hs,i,fs,w,w',rfl,h,ht,q⟩:=h
  refine⟨_,(ah (cP (cx hr) (cu (pv 0) rfl) (pv 1) (aS (c9 (cx hr) (cu (pv 0) rfl) (pv 1) (fun _ _=>rfl)) T.aP T.JN (Ts T) (hr.mono (by decide)) T.OE .nil aB (aa (pv 2) ae)) rfl)),?_⟩
  obtain⟨dx,h1⟩:=h.ob
  obtain⟨ps,r,h4,hi,hT,hg,mG⟩:=h.at_ ht
  dsimp! [h1,HO.ins.injEq,T.aj,T.aK,eG]
  obtain⟨Lr,Cv⟩:=hT.ob
  refine⟨_,hg,r.1,rfl,Lr,_,Cv,(Tg.plain fs w).no r.2,r.1,r.2,fs,w,w',rfl,hT,fun p' d' H2 s2 U_ xl Mc=>?_⟩
  have h2:=h.same s2
  refine⟨_,_,_,s2 _ _ h1,T.aj,T.aK,_,eG _ _ _,_,rfl,_,gG.k (k:=Sum.inl ((i:Int)+1)) (s2 _ _ h4) (aQ (by rw [bS]; have:=h.cw.1; omega)),?_⟩
  exact q _ ((ar.kp s2).set (.inr (.inr rfl))) (h2.set (q':=(p',d')) (s2 _ _ h4) hi Mc (h.fresh xl))
noncomputable def Kg (a:eP) (K:PySem.W.Frag):Sp:=fun vs H Q _=>∃Pr A g ts hs,∃(i:Nat),vs=[.ref A.p,.int ((i:Int)+1)]∧PH a K Pr H A g ts hs∧i < ts.length∧∀H',Kp A.own H H'→PH a K Pr H' A g (ts.set i (.weak .no)) hs→Q .bj H'
theorem Tv (T:Txt K mg a):aY P w K mg base cX 4 a.y2 a.y3 ["self","serial"] (Kg a K):=by
 refine T.uk.ok S5 (fun vs H Q E h=>?_) (fun cv A outer s H vs Q E hr h=>?_)
 ·obtain⟨_,_,_,_,_,_,rfl,_⟩:=h
  rfl
 ·obtain⟨Pr,A,g,ts,hs,i,rfl,h,hi,q⟩:=h
  refine⟨_,(ah (cP (cx hr) (cu (pv 0) rfl) (pv 1) (aM (J_ T) (hr.mono (by decide)) rfl T.JP T.mU.kp T.JO .nil aB (aa (bJ (v:=.ref a.ba) rfl T.aV rfl) ae)) rfl)),?_⟩
  obtain⟨dx,h1⟩:=h.ob
  obtain⟨ps,r,h4,hr,_,_,mG⟩:=h.at_ (List.getElem?_eq_getElem hi)
  dsimp! [h1,HO.ins.injEq,T.aj,T.aK,eG,T.aV]
  refine⟨_,.no,rfl,⟨_,rfl,T.cZ _⟩,fun p' d' H2 s2 U_ xl Mc=>?_⟩
  have h2:=h.same s2
  refine⟨_,_,_,s2 _ _ h1,T.aj,T.aK,_,eG _ _ _,_,rfl,_,gG.k (k:=Sum.inl ((i:Int)+1)) (s2 _ _ h4) (aQ (by rw [bS]; have:=h.cw.1; omega)),?_⟩
  exact q _ ((ar.kp s2).set (.inr (.inr rfl))) (h2.set (q':=(p',d')) (s2 _ _ h4) hr Mc (h.fresh xl))
noncomputable def vg (a:eP) (K:PySem.W.Frag):Sp:=fun vs H Q _=>∃Pr A g ts hs,∃(i:Nat),vs=[.ref A.p,.int ((i:Int)+1)]∧PH a K Pr H A g ts hs∧i < ts.length∧∀H',Kp A.own H H'→PH a K Pr H' A g (ts.set i (.pair .no .no)) hs→Q .bj H'
theorem Tw (T:Txt K mg a):aY P w K mg base cX 5 a.y4 a.y7 ["self","serial"] (vg a K):=by
 refine T.um.ok S6 (fun vs H Q E h=>?_) (fun cv A outer s H vs Q E hr h=>?_)
 ·obtain⟨_,_,_,_,_,_,rfl,_⟩:=h
  rfl
 ·obtain⟨Pr,A,g,ts,hs,i,rfl,h,hi,q⟩:=h
  refine⟨_,(ah (cP (cx hr) (cu (pv 0) rfl) (pv 1) (aM (Ka T) (hr.mono (by decide)) rfl T.JR T.mV.kp T.JQ .nil aB (aa (bJ (v:=.ref a.ba) rfl T.aV rfl) (aa (bJ (v:=.ref a.ba) rfl T.aV rfl) ae))) rfl)),?_⟩
  obtain⟨dx,h1⟩:=h.ob
  obtain⟨ps,r,h4,hr,_,_,mG⟩:=h.at_ (List.getElem?_eq_getElem hi)
  dsimp! [h1,HO.ins.injEq,T.aj,T.aK,eG,T.aV]
  refine⟨_,_,.no,.no,rfl,⟨_,rfl,T.cZ _⟩,⟨_,rfl,T.cZ _⟩,fun p' d' H2 s2 U_ xl Mc=>?_⟩
  have h2:=h.same s2
  refine⟨_,_,_,s2 _ _ h1,T.aj,T.aK,_,eG _ _ _,_,rfl,_,gG.k (k:=Sum.inl ((i:Int)+1)) (s2 _ _ h4) (aQ (by rw [bS]; have:=h.cw.1; omega)),?_⟩
  exact q _ ((ar.kp s2).set (.inr (.inr rfl))) (h2.set (q':=(p',d')) (s2 _ _ h4) hr Mc (h.fresh xl))
noncomputable def z8 (a:eP) (K:PySem.W.Frag):Sp:=fun vs H Q _=>∃Pr A g ts hs,∃(i:Nat) (fs:List Vl) (w:Int),vs=[.ref A.p,.int ((i:Int)+1)]∧PH a K Pr H A g ts hs∧ts[i]?=some (.plain fs (some w))∧hs.length < 500∧∀H',Kp A.own H H'→PH a K Pr H' A g (ts.set i (.plain fs none)) (hs++[(i+1,w)])→Q .bj H'
theorem Tx (T:Txt K mg a):aY P w K mg base cX 6 a.y8 a.y9 ["self","serial"] (z8 a K):=by
 refine T.uo.ok S7 (fun vs H Q E h=>?_) (fun cv A outer s H vs Q E hr h=>?_)
 ·obtain⟨_,_,_,_,_,_,_,_,rfl,_⟩:=h
  rfl
 ·obtain⟨Pr,A,g,ts,hs,i,fs,w,rfl,h,ht,cw,q⟩:=h
  refine⟨_,(ag (a8 (kC PySem.F.plainAttrs_list PySem.F.slot_list_append PySem.F.type_list_append eN (cu (pv 0) rfl) (aa (bf (aa (pv 1) (aa (dO (c9 (cx hr) (cu (pv 0) rfl) (pv 1) (fun _ _=>rfl)) T.aP T.B6 (J9 T) (hr.mono (by decide)) T.JL .nil aB) ae))) ae))) (ah (a8 (aS (pv 0) T.aj T.Ci (Kf T) (hr.mono (by decide)) T.JZ .nil aB (aa (pv 1) (aa bV ae)))))),?_⟩
  obtain⟨dx,h1⟩:=h.ob
  obtain⟨ps,r,h4,hi,hT,hg,mG⟩:=h.at_ ht
  have f1:=aT (rv:=A.rv) (hd:=A.hd) (md:=A.md) (n:="change_words")
  dsimp! [h1,HO.ins.injEq,T.aj,T.aK,T.bH,eG,Ct,f1]
  obtain⟨xs,h8,h9⟩:=h.he
  obtain⟨Lr,Cv⟩:=hT.ob
  refine⟨.inl ⟨rfl,_,bN.of h8⟩,_,hg,r.1,rfl,Lr,_,Cv,(Tg.plain fs (some w)).no r.2,r.1,r.2,fs,some w,rfl,hT,by simp [sizeLine_eq],fun tt htt=>?_⟩
  have s2:=ar.put (o:=.tup [.int ((i:Int)+1),.int w]) htt
  have h2:=h.same s2
  have hl:=h9.1
  have Tz:rF K (upd H tt (.tup [.int ((i:Int)+1),.int w])) (xs++[.ref tt]) (hs++[(i+1,w)]):=by
   refine⟨by simp [hl],fun j x y a b=>?_⟩
   by_cases z:j < xs.length
   ·rw [List.getElem?_append_left z] at a
    rw [List.getElem?_append_left (by omega)] at b
    obtain⟨t,e,h⟩:=h9.2 j x y a b
    exact⟨t,e,s2.bT h⟩
   ·have ej:j=xs.length:=by
     have:=(List.getElem?_eq_some_iff.mp a).1
     rw [List.length_append,List.length_singleton] at this
     omega
    subst ej
    rw [List.getElem?_append_right (Nat.le_refl _),Nat.sub_self] at a
    rw [←hl,List.getElem?_append_right (Nat.le_refl _),Nat.sub_self] at b
    cases a
    cases b
    exact⟨tt,rfl,bZ.of af⟩
  refine⟨A.hd,xs,.ref tt,rfl,rfl,s2 _ _ h8,aQ (by have:=h.cw.2; omega),?_⟩
  have h3:=h2.qe Tz (by rw [List.length_append,List.length_singleton]; omega)
  obtain⟨dx3,h31⟩:=h3.ob
  refine⟨_,_,h31,f1,Pr,A,g,ts,_,i,fs,some w,none,rfl,h3,ht,fun H4 k4 h4'=>?_⟩
  exact q H4 (((ar.kp s2).set (.inr (.inl rfl))).trans k4) h4'
noncomputable def vD (v:Vl):D:=.tup (v.items.map fD)
theorem dJ.rG {H:Hp}{x:V}{v:Vl}(h:dJ K H x v):fH K H x (vD v):=by
 obtain⟨t,rfl,ht⟩:=h
 refine .Od ht fun x hx=>?_
 cases v with
 | no=>
  rw [List.mem_singleton.mp hx]
  rfl
 | num n=>
  simp only [Vl.items,List.mem_cons,List.not_mem_nil,or_false] at hx
  rcases hx with rfl | rfl <;> rfl
 | th n=>
  simp only [Vl.items,List.mem_cons,List.not_mem_nil,or_false] at hx
  rcases hx with rfl | rfl <;> rfl
theorem jV (v:Vl):(vD v).dep=1:=by rw [vD,D.dep,FH]
theorem Fc:∀vl:List Vl,eO (vl.map vD)≤1
 | []=>by rw [List.map_nil,eO]; exact Nat.zero_le _
 | v::vl=>by
  rw [List.map_cons,eO,jV]
  have:=Fc vl
  omega
theorem gi.rG {H:Hp}{l:Addr}{xs:List V}{vl:List Vl}(h:bN K H l xs) (hv:gi K H xs vl):fH K H (.ref l) (.lst (vl.map vD)):=by
 refine .lst h (by rw [List.length_map]; exact hv.1.symm) fun i x d hx hd=>?_
 rw [List.getElem?_map] at hd
 cases e:vl[i]? with
 | none=>rw [e] at hd; cases hd
 | some v=>
  rw [e] at hd
  cases hd
  exact(hv.2 i x v hx e).rG
noncomputable def Xh (K:PySem.W.Frag):Sp:=fun vs H Q _=>∃p C dx,vs=[.ref p]∧rK K C∧cE K C "root_values"∧cE K C "heard"∧H p=some (.ins C dx []) ∧
 ∀rv hd H',Gg p H H'→H rv=none→H hd=none→rv≠hd→H' p=some (.ins C dx (e_ "heard" (.ref hd) (e_ "root_values" (.ref rv) [])))→H' rv=some (.dK [])→H' hd=some (.lst [])→Q .bj H'
theorem Xi (T:Txt K mg a):aY P w K mg base cX 1 a.F5 a.JA ["self"] (Xh K):=by
 refine T.B7.ok Wx (fun vs H Q E h=>?_) (fun cv A outer s H vs Q E hr h=>?_)
 ·obtain⟨_,_,_,rfl,_⟩:=h
  rfl
 ·obtain⟨p,C,dx,rfl,hC,n1,n2,h1,q⟩:=h
  refine⟨_,(ag (lJ (pv 0) fm rfl) (ah (lJ (pv 0) (bG ae) rfl))),?_⟩
  dsimp! []
  refine fun rv TB=>?_
  have n1':rv≠p:=(aG h1 TB).symm
  have e1:upd H rv (.dK []) p=some (.ins C dx []):=by rw [ak n1'.symm]; exact h1
  refine⟨C,dx,[],e1,hC,n1,by decide,fun hd PN=>?_⟩
  have n2':hd≠p:=fun z=>by rw [z,af] at PN; cases PN
  have TC:upd H rv (.dK []) hd=none:=by rw [ak n2'] at PN; exact PN
  have n3':rv≠hd:=aG af TC
  have Xj:H hd=none:=by rw [ak n3'.symm] at TC; exact TC
  refine⟨C,dx,_,by rw [ak n2'.symm,af],hC,n2,Nat.lt_of_le_of_lt (cO _ _ _) (by decide),q rv hd _ (fun b o hb e=>?_) TB Xj n3' af ?_ ?_⟩
  ·rw [ak hb,ak (aG e Xj),ak hb,ak (aG e TB)]
   exact e
  ·rw [ak n1',ak n3',ak n1',af]
  ·rw [ak n2',af]
noncomputable def TF (a:eP) (K:PySem.W.Frag):Sp:=fun vs H Q _=>∃p dx,vs=[.ref p]∧H p=some (.ins a.aO dx []) ∧
 ∀A H',A.p=p→Gg p H H'→H A.rv=none→H A.hd=none→H A.md=none→(∀Pr:Addr→Prop,(∀b,Pr b→H b≠none)→PH a K Pr H' A (fun _=>.no) [] [])→Q .bj H'
theorem Kh (T:Txt K mg a):aY P w K mg base cX 2 a.yQ a.yR ["self"] (TF a K):=by
 refine T.ue.ok S1 (fun vs H Q E h=>?_) (fun cv A outer s H vs Q E hr h=>?_)
 ·obtain⟨_,_,rfl,_⟩:=h
  rfl
 ·obtain⟨p,dx,rfl,h1,q⟩:=h
  refine⟨_,(ag (a8 (uT (bJ (v:=.ref a.bY) rfl T.nc rfl) T.gb (Xi T) (hr.mono (by decide)) T.WV .nil aB (aa (pv 0) ae))) (ah (lJ (pv 0) fm rfl))),?_⟩
  dsimp! []
  refine⟨p,_,dx,rfl,T.aj,T.a7,T.bH,h1,fun rv hd H2 k2 TB PN nrh h2 e1 e2=>fun md Xk=>?_⟩
  have kp:∀b o,b≠p→H b=some o→H2 b=some o:=k2
  have nm1:md≠p:=(aG h2 Xk).symm
  have R4:md≠rv:=(aG e1 Xk).symm
  have nm3:md≠hd:=(aG e2 Xk).symm
  have nr:rv≠p:=(aG h1 TB).symm
  have nh:hd≠p:=(aG h1 PN).symm
  have Mr:H md=none:=by
   cases e:H md with
   | none=>rfl
   | some u=>rw [kp md u nm1 e] at Xk; cases Xk
  refine⟨_,dx,_,by rw [ak nm1.symm]; exact h2,T.aj,T.aK,Nat.lt_of_le_of_lt (cO _ _ _) (Nat.lt_of_le_of_lt (Nat.succ_le_succ (cO _ _ _)) (by decide)),q ⟨p,rv,hd,md⟩ _ rfl (fun b o hb e=>?_) TB PN Mr fun Pr hPr=>?_⟩
  ·rw [ak hb,ak (aG e Mr)]
   exact k2 b o hb e
  ·refine⟨⟨dx,af⟩,⟨[],by rw [ak nr,ak R4.symm]; exact e1,List.nodup_nil,(fun kv h=>(nomatch h)),(fun x u e=>by cases e),fun _ _=>rfl⟩,⟨[],by rw [ak nm1,af]; rfl,rfl,(fun i q t h=>by simp at h),fun q hq=>(nomatch hq)⟩,⟨[],by rw [ak nh,ak nm3.symm]; exact e2,rfl,fun i x h a=>by simp at a⟩,R4.symm,fun b hb=>⟨?_,fun z=>?_⟩,by decide,by decide⟩
   ·by_cases z:b=p
    ·rw [z,af]; intro y; cases y
    ·rw [ak z]
     have:=hPr b hb
     cases e:H b with
     | none=>exact absurd e this
     | some u=>rw [ak (aG e Mr),kp b u z e]; intro y; cases y
   ·rcases z with z | z | z
    ·exact hPr b hb (z▸TB)
    ·exact hPr b hb (z▸PN)
    ·exact hPr b hb (z▸Mr)
theorem aaV {a D:Addr}{o:Obj}{fr:List Nat}{tt:TT}{te:TE}{σ:St}{Q:Hp→Prop}{H:Hp}(kvs:List (Key×V)) (Pv:Nat→List V→Hp→Prop) (h0:Pv 0 [] H) (hl:∀i ys H,i≤kvs.length→Pv i ys H→H a=some (.dF o (.dK kvs)))
  (hs:∀i m kv t ys H,m+1+i=kvs.length→kvs[i]?=some kv→Pv i ys H→H t=none→tt (bE fr σ (some (kV kv.1)) (some kv.2)) (upd H t (.tup [kV kv.1,kv.2])) fun b H3=>if b=true then te (bE fr σ (some (kV kv.1)) (some kv.2)) H3 (lcS D Pv kvs.length (m+1) i)else lcK Pv kvs.length (m+1) i H3)
  (hq:∀ys H,Pv kvs.length ys H→Q H):jb K (Iti a o kvs) fr tt te σ D Q H:=by
 refine⟨fun i m H2=>m+i=kvs.length∧∃ys,Pv i ys H2,⟨kvs.length,rfl,[],h0⟩,?_⟩
 rintro i m H2 ⟨hm,ys,hp⟩
 have hS:=hl i ys H2 (by omega) hp
 cases m with
 | zero=>
  have e:i=kvs.length:=by omega
  subst e
  exact .inl ⟨⟨Nat.le_refl _,hS⟩,hq ys H2 hp⟩
 | succ m=>
  have hi:i < kvs.length:=by omega
  refine .inr ⟨⟨hi,hS⟩,fun v H' y=>?_⟩
  obtain⟨t,kv,ht,e,rfl,rfl⟩:=y
  exact⟨t,_,_,rfl,bZ.of af,hs i m kv t ys H2 hm e hp ht⟩
theorem qf {kvs:List (Key×V)}{k:Key}{v:V}(h:bK kvs k=some v):(k,v)∈kvs:=by
 unfold bK at h
 cases e:kvs.find? fun x=>decide (x.1=k)with
 | none=>rw [e] at h; cases h
 | some y=>
  rw [e] at h
  have h1:=List.find?_some e
  have h2:y.1=k:=of_decide_eq_true h1
  have h3:y.2=v:=Option.some.inj h
  rw [←h2,←h3]
  exact List.mem_of_find?_eq_some e
theorem uz:∀(ps acc:List (Key×V)),((acc++ps).map (·.1)).Nodup→ps.foldl (fun acc p=>putK acc p.1 p.2) acc=acc++ps
 | [],acc,_=>(List.append_nil _).symm
 | p::ps,acc,h=>by
  have hn:bK acc p.1=none:=by
   cases e:bK acc p.1 with
   | none=>rfl
   | some v=>
    rw [List.map_append] at h
    exact absurd rfl ((List.nodup_append.mp h).2.2 p.1 (oq e) p.1 (by rw [List.map_cons]; exact List.mem_cons_self))
  rw [List.foldl_cons,oU _ hn,uz ps _ (by rw [List.append_assoc]; exact h),List.append_assoc]
  rfl
theorem Gj {ps:List (Key×V)}(h:(ps.map (·.1)).Nodup):putAll ps=ps:=uz ps [] h
noncomputable def Vl.vh:Vl→Bool
 | .no=>true
 | _=>false
theorem Vl.Ki {v:Vl}:v.vh=true↔v=.no:=by cases v <;> simp [Vl.vh]
theorem Xl (v:Vl):bp (vD v) (vD .no)=v.vh:=by
 cases v with
 | no=>exact f6 _
 | num n=>
  rw [vD,vD,bp]
  exact eW (by rw [List.length_map,List.length_map]; show(2:Nat)≠1; decide)
 | th n=>
  rw [vD,vD,bp]
  exact eW (by rw [List.length_map,List.length_map]; show(2:Nat)≠1; decide)
noncomputable def keepR (g:Str→Vl) (kv:Key×V):Bool:=match kv.1 with
 | .inr x=>!(g x).vh
 | .inl _=>false
noncomputable def nk (H:Hp) (ts:List Addr) (hU:List (Key×V)):Prop:=ts.length=hU.length∧∀(i:Nat) t p,ts[i]?=some t→hU[i]?=some p→H t=some (.tup [kV p.1,p.2])
theorem nk.snoc {H:Hp}{ts:List Addr}{hU:List (Key×V)}{t:Addr}{p:Key×V}(h:nk H ts hU) (ht:H t=some (.tup [kV p.1,p.2])):nk H (ts++[t]) (hU++[p]):=⟨by rw [List.length_append,List.length_append,h.1]; rfl,fun i u r a b=>by
 by_cases hi:i < ts.length
 ·rw [List.getElem?_append_left hi] at a
  rw [List.getElem?_append_left (by rw [←h.1]; exact hi)] at b
  exact h.2 i u r a b
 ·have e:i=ts.length:=by
   have:=(List.getElem?_eq_some_iff.mp a).1
   rw [List.length_append,List.length_singleton] at this
   omega
  subst e
  rw [List.getElem?_append_right (Nat.le_refl _),Nat.sub_self] at a
  rw [h.1,List.getElem?_append_right (Nat.le_refl _),Nat.sub_self] at b
  cases a
  cases b
  exact ht⟩
theorem nk.up {H H':Hp}{ts:List Addr}{hU:List (Key×V)}(h:nk H ts hU) (k:∀b ys,H b=some (.tup ys)→H' b=some (.tup ys)):nk H' ts hU:=⟨h.1,fun i t p a b=>k _ _ (h.2 i t p a b)⟩
theorem ni.kept {H:Hp}{kvs:List (Key×V)}{g:Str→Vl}(h:ni K H kvs g):ni K H (kvs.filter (keepR g)) g∧∀x u,bK (kvs.filter (keepR g)) (Sum.inr x)=some u→g x≠.no:=by
 have nd:((kvs.filter (keepR g)).map (·.1)).Nodup:=List.Sublist.nodup (List.Sublist.map _ List.filter_sublist) h.nd
 have at_:∀x u,bK (kvs.filter (keepR g)) (Sum.inr x)=some u→(Sum.inr x,u)∈kvs∧g x≠.no:=fun x u e=>by
  obtain⟨h1,h2⟩:=List.mem_filter.mp (qf e)
  refine⟨h1,fun z=>?_⟩
  have h3:(!(g x).vh)=true:=h2
  rw [z] at h3
  cases h3
 refine⟨⟨nd,fun kv hk=>h.ks kv (List.mem_filter.mp hk).1,fun x u e=>?_,fun x e=>?_⟩,fun x u e=>(at_ x u e).2⟩
 ·obtain⟨i,hi⟩:=List.mem_iff_getElem?.mp (at_ x u e).1
  exact h.at_ x u (jf h.nd hi)
 ·cases e2:bK kvs (Sum.inr x)with
  | none=>exact h.no x e2
  | some u=>
   by_cases z:(g x).vh=true
   ·exact Vl.Ki.mp z
   ·refine absurd (List.mem_map.mpr ⟨(Sum.inr x,u),List.mem_filter.mpr ⟨qf e2,?_⟩,rfl⟩) (kL e)
    show(!(g x).vh)=true
    rw [Bool.eq_false_iff.mpr z]
    rfl
noncomputable def Kj (a:eP) (K:PySem.W.Frag):Sp:=fun vs H Q _=>∃Pr A g ts hs,vs=[.ref A.p]∧PH a K Pr H A g ts hs∧∀r qg H',ar H H'→H r=none→H' r=some (.dK qg)→ni K H' qg g→(∀x u,bK qg (Sum.inr x)=some u→g x≠.no)→Q (.ref r) H'
noncomputable def IRt (A:HA) (g:Str→Vl) (kvs:List (Key×V)) (o:Obj) (D:Addr) (H:Hp) (i:Nat) (ys:List V) (H2:Hp):Prop:=H2 A.rv=some (.dF o (.dK kvs))∧Kp (·=A.rv) H H2∧H2 D=some (.lst ys)∧∃us:List Addr,ys=us.map V.ref∧nk H2 us ((kvs.take i).filter (keepR g))
theorem Kk (T:Txt K mg a):aY P w K mg base cX 2 a.y_ a.za ["self"] (Kj a K):=by
 refine T.uq.ok S8 (fun vs H Q E h=>?_) (fun cv A outer s H vs Q E hr h=>?_)
 ·obtain⟨_,_,_,_,_,rfl,_⟩:=h
  rfl
 ·obtain⟨Pr,A,g,ts,hs,rfl,h,q⟩:=h
  refine⟨_,(ah (aw (dy (BY rfl) rfl T.iH kE (aa (L1 (HJ rfl (Ol (x:="letter") (x2:="value") (ns:=[]) (fr:=[]) rfl (by decide +kernel) rfl (by decide +kernel) rfl rfl (List.forall_mem_nil _) rfl rfl (List.forall_mem_nil _) (by decide +kernel)) (x5 (uQ PySem.F.plainAttrs_dict PySem.F.slot_dict_items PySem.F.type_dict_items x4 (cu (pv 0) rfl))) (fun _ _ _ _=>(bf (aa (pv 0) (aa (pv 1) ae)))) (fun _ _ _ _=>(.one (aC (Mf (K:=K) rfl hr.units) (pv 1) (bJ (v:=.ref a.ba) rfl T.aV rfl) (aI _)))))) ae)))),?_⟩
  obtain⟨dx,h1⟩:=h.ob
  obtain⟨kvs,h2,h3⟩:=h.rt
  dsimp! [h1,HO.ins.injEq,T.aj,T.a7,Cs,BV,T.aV]
  have npv:∀p,H p=none→A.rv≠p:=fun p hp=>aG h2 hp
  refine⟨.inr (.inr (.inl ⟨rfl,.inl ⟨kvs,h2⟩⟩)),kvs,.inl h2,fun p hp=>⟨A.rv,af,kvs,by rw [ak (npv p hp)]; exact h2,fun o D hD=>?_⟩⟩
  have k0:Kp (·=A.rv) H (upd (upd H p (.ext fun h=>h.IsItemsView p A.rv)) A.rv (.dF o (.dK kvs))):=((Kp.refl _ _).put hp).set rfl
  have f0:upd (upd H p (.ext fun h=>h.IsItemsView p A.rv)) A.rv (.dF o (.dK kvs)) A.rv=some (.dF o (.dK kvs)):=af
  generalize upd (upd H p (.ext fun h=>h.IsItemsView p A.rv)) A.rv (.dF o (.dK kvs))=H1 at hD k0 f0
  have nD:A.rv≠D:=aG f0 hD
  have hD0:H D=none:=by
   cases e:H D with
   | none=>rfl
   | some u=>rw [k0 D u nD.symm e] at hD; cases hD
  have mu:∀b,b=A.rv→Mu H b:=fun b e=>.inr ⟨kvs,by rw [e]; exact h2⟩
  refine aaV kvs (IRt A g kvs o D H) ⟨by rw [ak nD]; exact f0,k0.put hD,af,[],rfl,rfl,fun i t p a=>by simp at a⟩ (fun i ys H2 _ h=>h.1) (fun i m kv t ys H2 hm lj h ht=>?_) fun ys H2 h=>?_
  ·obtain⟨a1,a2,a3,us,a4,a5⟩:=h
   have hv:∃x,x∈Mm∧kv.1=Sum.inr x∧dJ K H kv.2 (g x):=by
    obtain⟨x,hx,e⟩:=h3.ks kv (List.mem_of_getElem? lj)
    exact⟨x,hx,e,h3.at_ x kv.2 (by rw [←e]; exact jf h3.nd lj)⟩
   obtain⟨x,hx,ex,ll⟩:=hv
   have k2:=a2.put (o:=.tup [kV kv.1,kv.2]) ht
   have aaW:=ll.kp k2 mu
   have Wu:dJ K (upd H2 t (.tup [kV kv.1,kv.2])) (.ref a.ba) .no:=⟨_,rfl,T.cZ _⟩
   have nrt:A.rv≠t:=aG a1 ht
   have nDt:D≠t:=aG a3 ht
   have hlen:us.length≤i:=by
    rw [a5.1]
    refine Nat.le_trans (List.length_filter_le _ _) ?_
    rw [List.length_take]
    exact Nat.min_le_left _ _
   have cw:=h3.cw
   have hsn:kvs.take (i+1)=kvs.take i++[kv]:=by rw [List.take_add_one,lj]; rfl
   have hkp:keepR g kv=!(g x).vh:=by unfold keepR; rw [ex]
   dsimp! [bE]
   refine⟨_,_,aaW.rG,Wu.rG,by rw [jV]; decide,?_⟩
   rw [Xl]
   cases e:(g x).vh with
   | true=>
    refine⟨_,rfl,?_⟩
    rw [if_neg (by simp)]
    refine⟨m,Nat.lt_succ_self m,by omega,ys,by rw [ak nrt]; exact a1,k2,by rw [ak nDt]; exact a3,us,a4,?_⟩
    rw [hsn,List.filter_append,List.filter_cons_of_neg (by rw [hkp,e]; simp),List.filter_nil,List.append_nil]
    exact a5.up fun b ys e=>by rw [ak (aG e ht)]; exact e
   | false=>
    refine⟨_,rfl,?_⟩
    rw [if_pos (by simp)]
    refine⟨by decide,fun z hz=>?_⟩
    have nrz:A.rv≠z:=aG (by rw [ak nrt]; exact a1) hz
    have nDz:D≠z:=aG (by rw [ak nDt]; exact a3) hz
    have hz2:H2 z=none:=cq hz
    have nzD:z≠D:=nDz.symm
    refine⟨ys,by rw [ak nDz,ak nDt]; exact a3,by rw [a4,List.length_map]; exact aQ (by omega),m,Nat.lt_succ_self m,by omega,ys++[.ref z],by rw [ak nD,ak nrz,ak nrt]; exact a1,fun b u hb e=>?_,af,us++[z],by rw [a4,List.map_append]; rfl,?_⟩
    ·have e2:=k2 b u hb e
     have e3:=ar.put (o:=.tup [kV kv.1,kv.2]) hz b u e2
     rw [ak (fun y=>by rw [y,hD0] at e; cases e)]
     exact e3
    ·rw [hsn,List.filter_append,List.filter_cons_of_pos (by rw [hkp,e]; rfl),List.filter_nil]
     refine nk.snoc (a5.up fun b ys e=>?_) (by rw [ak nzD,af])
     rw [ak (fun y=>by rw [y,a3] at e; cases e),ak (aG e hz2),ak (aG e ht)]
     exact e
  ·obtain⟨a1,a2,a3,us,a4,a5⟩:=h
   rw [List.take_length] at a5
   have sm:ar H (upd H2 A.rv (.dK kvs)):=fun b u e=>by
    by_cases z:b=A.rv
    ·rw [z,af,←h2,←z,e]
    ·rw [ak z]
     exact a2 b u z e
   have cw:(kvs.filter (keepR g)).length≤1000:=Nat.le_trans (List.length_filter_le _ _) (by have:=h3.cw; omega)
   obtain⟨r1,r2⟩:=h3.kept
   refine .inr ⟨A.rv,kvs,_,⟨fun o u z=>?_,⟨o,a1⟩,rfl⟩,D,rfl,us,by rw [ak nD.symm,←a4]; exact a3,kvs.filter (keepR g),a5.1,fun i t p hi hk=>?_,cw,fun r hr=>?_⟩
   ·have z2:H A.rv=some (.dF o u):=z
    rw [h2] at z2
    cases z2
   ·have:=a5.2 i t p hi hk
    rw [ak fun z=>by rw [z,a1] at this; cases this]
    exact this
   ·rw [Gj r1.nd]
    exact q r _ _ (sm.trans (ar.put hr)) (sm.free hr) af (r1.same (sm.trans (ar.put hr))) r2
noncomputable def fI (K:PySem.W.Frag) (H:Hp) (p l:Addr) (t:Tg):Prop:=H p=some (.tup [.str t.sort,.ref l,wV t.words])∧∃xs,H l=some (.lst xs)∧gi K H xs t.fs∧xs.length≤1000
theorem fI.same {H H':Hp}{p l:Addr}{t:Tg}(h:fI K H p l t) (k:ar H H'):fI K H' p l t:=by
 obtain⟨h1,xs,h2,h3,h4⟩:=h
 exact⟨k _ _ h1,xs,k _ _ h2,h3.same k,h4⟩
theorem bZ.upF {H:Hp}{t b:Addr}{o:Obj}{kvs:List (Key×V)}{u:HO}{xs:List V}(h:bZ K H t xs) (hb:H b=some (.dF o (.dK kvs))):bZ K (upd H b u) t xs:=by
 rcases h with (h | ⟨o,h⟩) | h
 ·exact .inl (.inl (by rw [ak fun z=>by rw [z,hb] at h; cases h]; exact h))
 ·exact .inl (.inr ⟨o,by rw [ak fun z=>by rw [z,hb] at h; cases h]; exact h⟩)
 ·exact .inr h
theorem gi.upF {H:Hp}{b:Addr}{o:Obj}{kvs:List (Key×V)}{u:HO}{xs:List V}{vl:List Vl}(h:gi K H xs vl) (hb:H b=some (.dF o (.dK kvs))):gi K (upd H b u) xs vl:=⟨h.1,fun i x v a b=>by
 obtain⟨t,e,ht⟩:=h.2 i x v a b
 exact⟨t,e,c7.bZ.upF ht hb⟩⟩
theorem fI.put {H:Hp}{p l r:Addr}{t:Tg}{kvs:List (Key×V)}{u:HO}(h:fI K H p l t) (hr:H r=some (.dK kvs)):fI K (upd H r u) p l t:=by
 obtain⟨h1,xs,h2,h3,h4⟩:=h
 have k:Kp (·=r) H (upd H r u):=(Kp.refl _ _).set rfl
 exact⟨k _ _ (fun z=>by rw [z,hr] at h1; cases h1) h1,xs,k _ _ (fun z=>by rw [z,hr] at h2; cases h2) h2,h3.kp k fun b e=>.inr ⟨kvs,by rw [e]; exact hr⟩,h4⟩
noncomputable def Gk (a:eP) (K:PySem.W.Frag):Sp:=fun vs H Q _=>∃Pr A g ts hs,vs=[.ref A.p]∧PH a K Pr H A g ts hs∧∀r (rows:List (Addr×Addr)) H',ar H H'→H r=none→H' r=some (.dK (du rows))→rows.length=ts.length→(∀(i:Nat) q t,rows[i]?=some q→ts[i]?=some t→fI K H' q.1 q.2 t∧H q.2=none)→(rows.map (·.2)).Nodup→Q (.ref r) H'
noncomputable def ITh {a:eP}(K:PySem.W.Frag) (A:HA) (ts:List Tg) (ps:List (Addr×Addr)) (o:Obj) (r:Addr) (H:Hp) (i:Nat) (σ:St) (H2:Hp):Prop:=∃v1 v2,σ=[some (.ref A.p),some (.ref r),v1,v2]∧H2 A.md=some (.dF o (.dK (du ps)))∧Kp (·=A.md) H H2∧∃rows:List (Addr×Addr),H2 r=some (.dK (du rows))∧rows.length=i∧(∀(i:Nat) q t,rows[i]?=some q→ts[i]?=some t→fI K H2 q.1 q.2 t∧H q.2=none)∧(rows.map (·.2)).Nodup
theorem Kl (T:Txt K mg a):aY P w K mg base cX 2 a.zd a.ze ["self"] (Gk a K):=by
 refine T.uu.ok u0 (fun vs H Q E h=>?_) (fun cv A outer s H vs Q E hr h=>?_)
 ·obtain⟨_,_,_,_,_,rfl,_⟩:=h
  rfl
 ·obtain⟨Pr,A,g,ts,hs,rfl,h,q⟩:=h
  refine⟨_,(ag (bc (i:=1) u0.nd rfl (Or.inl rfl) fm) (ag (ou (gF PassesOwn.never rfl (x5 (uQ PySem.F.plainAttrs_dict PySem.F.slot_dict_items PySem.F.type_dict_items x4 (cu (pv 0) rfl))) (jI (n:=2) rfl (cf (bL (i:=2) u0.nd rfl (Or.inl rfl)) (cf (bL (i:=3) u0.nd rfl (Or.inl rfl)) gv))) az)) az)),?_⟩
  obtain⟨dx,h1⟩:=h.ob
  obtain⟨ps,h4,h5,h6,h7⟩:=h.th
  dsimp! [BV]
  refine fun r Ls=>?_
  have s1:=ar.put (o:=.dK []) Ls
  refine⟨_,dx,_,s1 _ _ h1,T.aj,T.aK,_,eG _ _ _,.inr (.inr (.inl ⟨rfl,.inl ⟨_,s1 _ _ h4⟩⟩)),A.md,rfl,du ps,.inl (s1 _ _ h4),fun p hp=>⟨A.md,af,du ps,ar.put hp _ _ (s1 _ _ h4),fun o=>?_⟩⟩
  have nr:A.md≠r:=aG h4 Ls
  have k0:Kp (·=A.md) H (upd (upd (upd H r (.dK [])) p (.ext fun h=>h.IsItemsView p A.md)) A.md (.dF o (.dK (du ps)))):=(((Kp.refl _ _).put Ls).put hp).set rfl
  have f0:upd (upd (upd H r (.dK [])) p (.ext fun h=>h.IsItemsView p A.md)) A.md (.dF o (.dK (du ps))) A.md=some (.dF o (.dK (du ps))):=af
  have f1:upd (upd (upd H r (.dK [])) p (.ext fun h=>h.IsItemsView p A.md)) A.md (.dF o (.dK (du ps))) r=some (.dK []):=by rw [ak nr.symm]; exact ar.put hp _ _ af
  generalize upd (upd (upd H r (.dK [])) p (.ext fun h=>h.IsItemsView p A.md)) A.md (.dF o (.dK (du ps)))=H1 at k0 f0 f1
  have mu:∀b,b=A.md→Mu H b:=fun b e=>.inr ⟨du ps,by rw [e]; exact h4⟩
  refine HW (ITh (a:=a) K A ts ps o r H) ⟨_,_,rfl,f0,k0,[],f1,rfl,(fun i q t a=>by simp at a),by simp⟩ (fun i σ H2 _ h=>by obtain⟨_,_,_,h,_⟩:=h; exact h) (fun i kv t σ H2 lj h ht=>?_) fun σ H2 h=>?_
  ·obtain⟨v1,v2,rfl,a1,a2,rows,a3,a4,a5,a6⟩:=h
   rw [jU] at lj
   cases e:ps[i]? with
   | none=>rw [e] at lj; cases lj
   | some qq=>
    rw [e] at lj
    cases lj
    dsimp! []
    refine⟨[_,_],bZ.of af,rfl,?_⟩
    dsimp! []
    refine a9.of (ah (cP (cx hr) (pv 1) (pv 2) (bf (aa (dR (L:=[(a.bR,jT a K),(a.aL,jT a K),(a.aU,jT a K)]) (pv 3) (List.forall_mem_cons.mpr ⟨⟨_,_,_,_,T.dq,T.B5,lU T,hr.mono (by decide),T.pD⟩,List.forall_mem_cons.mpr ⟨⟨_,_,_,_,T.aP,T.c8,lU T,hr.mono (by decide),T.pD⟩,List.forall_mem_cons.mpr ⟨⟨_,_,_,_,T.bM,T.dm,lU T,hr.mono (by decide),T.pD⟩,List.forall_mem_nil _⟩⟩⟩) .nil aB) (aa (dR (L:=[(a.bR,dN a K),(a.aL,dN a K),(a.aU,dN a K)]) (pv 3) (List.forall_mem_cons.mpr ⟨⟨_,_,_,_,T.dq,T.lS,dP T,hr.mono (by decide),T.fc⟩,List.forall_mem_cons.mpr ⟨⟨_,_,_,_,T.aP,T.bI,dP T,hr.mono (by decide),T.fc⟩,List.forall_mem_cons.mpr ⟨⟨_,_,_,_,T.bM,T.bO,dP T,hr.mono (by decide),T.fc⟩,List.forall_mem_nil _⟩⟩⟩) .nil aB) (aa (dR (L:=[(a.bR,qd),(a.aL,Cq a K),(a.aU,qd)]) (pv 3) (List.forall_mem_cons.mpr ⟨⟨_,_,_,_,T.dq,T.JK,J8 T,hr.mono (by decide),T.JJ⟩,List.forall_mem_cons.mpr ⟨⟨_,_,_,_,T.aP,T.B6,J9 T,hr.mono (by decide),T.JL⟩,List.forall_mem_cons.mpr ⟨⟨_,_,_,_,T.bM,T.fu,J8 T,hr.mono (by decide),T.JJ⟩,List.forall_mem_nil _⟩⟩⟩) .nil aB) ae)))) rfl)) ?_
    dsimp! []
    have hi:i < ts.length:=by rw [←h5]; exact(List.getElem?_eq_some_iff.mp e).1
    obtain⟨tg,htg⟩:∃tg,ts[i]?=some tg:=⟨_,List.getElem?_eq_getElem hi⟩
    have PM:=h6 i qq tg e htg
    have nmd:qq.2≠A.md:=fun z=>by
     obtain⟨_,_,e2,_⟩:=PM
     rw [z,h4] at e2
     cases e2
    have k2:=a2.put (o:=.tup [kV (Sum.inl ((i:Int)+1)),.ref qq.1]) ht
    have Xm:=PM.kp k2 mu nmd
    have m2:upd H2 t (.tup [kV (Sum.inl ((i:Int)+1)),.ref qq.1]) A.md=some (.dF o (.dK (du ps))):=ar.put ht _ _ a1
    have r2:upd H2 t (.tup [kV (Sum.inl ((i:Int)+1)),.ref qq.1]) r=some (.dK (du rows)):=ar.put ht _ _ a3
    have Va:∀(qt:Addr) (i0:Nat),H2 qt=none→∀(i:Nat) q t,rows[i]?=some q→ts[i]?=some t→fI K (upd H2 qt (.tup [kV (Sum.inl ((i0:Int)+1)),.ref qq.1])) q.1 q.2 t∧H q.2=none:=fun qt i0 ht i q t hq jM=>⟨(a5 i q t hq jM).1.same (ar.put ht),(a5 i q t hq jM).2⟩
    have Va:=Va t i ht
    generalize upd H2 t (.tup [kV (Sum.inl ((i:Int)+1)),.ref qq.1])=H3 at k2 Xm m2 r2 Va ⊢
    obtain⟨dx3,o3⟩:=Xm.ob
    refine⟨_,dx3,_,o3,tg.no _,_,tg.mem _,qq.1,qq.2,tg,rfl,Xm,_,dx3,_,o3,tg.no _,_,tg.mem _,qq.1,qq.2,tg,rfl,Xm,fun fl xs Xn ll hz=>?_⟩
    have s3:=ar.put (o:=.lst xs) Xn
    refine⟨_,dx3,_,s3 _ _ o3,tg.no _,?_⟩
    refine Gh tg (Xm.same s3) ⟨by decide,fun p hp=>?_⟩
    have s4:=s3.trans (ar.put (o:=.tup [.str tg.sort,.ref fl,wV tg.words]) hp)
    have e4:upd (upd H3 fl (.lst xs)) p (.tup [.str tg.sort,.ref fl,wV tg.words]) p=some (.tup [.str tg.sort,.ref fl,wV tg.words]):=af
    have e5:upd (upd H3 fl (.lst xs)) p (.tup [.str tg.sort,.ref fl,wV tg.words]) fl=some (.lst xs):=ar.put hp _ _ af
    generalize upd (upd H3 fl (.lst xs)) p (.tup [.str tg.sort,.ref fl,wV tg.words])=H4 at s4 e4 e5 ⊢
    have td:fI K H4 p fl tg:=⟨e4,xs,e5,ll.same s4,hz⟩
    have cw:=h.cw.1
    have hlm:(du rows).length≤1000:=by rw [bS]; omega
    refine⟨_,gG.k (k:=Sum.inl ((i:Int)+1)) (s4 _ _ r2) (aQ hlm),_,_,rfl,?_⟩
    have nrm:A.md≠r:=nr
    have k4:Kp (·=r) H4 (upd H4 r (.dK (putK (du rows) (Sum.inl ((i:Int)+1)) (.ref p)))):=(Kp.refl _ _).set rfl
    have mu4:∀b,b=r→Mu H4 b:=fun b e=>.inr ⟨du rows,by rw [e]; exact s4 _ _ r2⟩
    refine⟨k4 _ _ nrm (s4 _ _ m2),fun b u hb e=>k4 _ _ (fun z=>?_) (s4 _ _ (k2 b u hb e)),rows++[(p,fl)],?_,by rw [List.length_append,a4]; rfl,fun j q t hq jM=>?_,?_⟩
    ·rw [z,Ls] at e
     cases e
    ·rw [af,←a4]
     exact congrArg (fun z=>some (HO.dK z)) (vd rows (p,fl))
    ·by_cases z:j < rows.length
     ·rw [List.getElem?_append_left z] at hq
      exact⟨((Va j q t hq jM).1.same s4).put (s4 _ _ r2),(Va j q t hq jM).2⟩
     ·have ej:j=rows.length:=by
       have:=(List.getElem?_eq_some_iff.mp hq).1
       rw [List.length_append,List.length_singleton] at this
       omega
      subst ej
      rw [List.getElem?_append_right (Nat.le_refl _),Nat.sub_self] at hq
      cases hq
      rw [a4,htg] at jM
      cases jM
      refine⟨td.put (s4 _ _ r2),?_⟩
      cases e:H fl with
      | none=>rfl
      | some u=>
       have:=k2 fl u (fun z=>by rw [z,m2] at Xn; cases Xn) e
       rw [Xn] at this
       cases this
    ·rw [List.map_append]
     refine List.nodup_append.mpr ⟨a6,by simp,fun x hx y hy e=>?_⟩
     have ey:y=fl:=by simpa using hy
     subst e
     subst ey
     obtain⟨q,hq,e⟩:=List.mem_map.mp hx
     obtain⟨j,hj⟩:=List.mem_iff_getElem?.mp hq
     have hjt:ts[j]?=some (ts[j]'(by have:=(List.getElem?_eq_some_iff.mp hj).1; omega)):=List.getElem?_eq_getElem _
     obtain⟨⟨_,cV,b2,_⟩,_⟩:=Va j q _ hj hjt
     rw [e,Xn] at b2
     cases b2
  ·obtain⟨v1,v2,rfl,a1,a2,rows,a3,a4,a5,a6⟩:=h
   rw [bS] at a4
   have sm:ar H (upd H2 A.md (.dK (du ps))):=fun b u e=>by
    by_cases z:b=A.md
    ·rw [z,af,←h4,←z,e]
    ·rw [ak z]
     exact a2 b u z e
   refine .inr ⟨A.md,du ps,_,⟨fun o u z=>?_,⟨o,a1⟩,rfl⟩,a9.of (ah (aw (pv 1))) ?_⟩
   ·have z2:H A.md=some (.dF o u):=z
    rw [h4] at z2
    cases z2
   ·dsimp! []
    refine q r rows _ sm Ls (by rw [ak nr.symm]; exact a3) (a4.trans h5) (fun i q t hq ht=>?_) a6
    obtain⟨⟨b1,xs,b2,b3,b4⟩,b5⟩:=a5 i q t hq ht
    have k5:Kp (·=A.md) H2 (upd H2 A.md (.dK (du ps))):=(Kp.refl _ _).set rfl
    refine⟨⟨k5 _ _ (fun z=>by rw [z,a1] at b1; cases b1) b1,xs,k5 _ _ (fun z=>by rw [z,a1] at b2; cases b2) b2,?_,b4⟩,b5⟩
    exact b3.upF a1
inductive De where
 | num (x:Str) (n:Int) | make (x:Str) (n:Nat) | weak (x y:Str) | pair (x y z:Str) | words (x:Str) (n:Int) | put (x:Str) (i:Nat) (y:Str) | get (x y:Str) (i:Nat) | look (x y:Str) | find (x y z:Str) | copy (x y:Str) | drop (x:Str) | tell (x:Str) | same (x y:Str) | hear (x:Str)
noncomputable def De.word:De→Str
 | .num ..=>"num" | .make ..=>"make" | .weak ..=>"weak" | .pair ..=>"pair" | .words ..=>"words" | .put ..=>"put" | .get ..=>"get" | .look ..=>"look" | .find ..=>"find" | .copy ..=>"copy" | .drop ..=>"drop" | .tell ..=>"tell" | .same ..=>"same" | .hear ..=>"hear"
noncomputable def De.args:De→List V
 | .num x n=>[.str x,.int n] | .make x n=>[.str x,.int (n:Nat)] | .weak x y=>[.str x,.str y] | .pair x y z=>[.str x,.str y,.str z] | .words x n=>[.str x,.int n] | .put x i y=>[.str x,.int (i:Nat),.str y] | .get x y i=>[.str x,.str y,.int (i:Nat)] | .look x y=>[.str x,.str y] | .find x y z=>[.str x,.str y,.str z] | .copy x y=>[.str x,.str y] | .drop x=>[.str x] | .tell x=>[.str x] | .same x y=>[.str x,.str y] | .hear x=>[.str x]
noncomputable def De.items (d:De):List V:=.str d.word::d.args
theorem De.hd (d:De):oI d.items 0=some (.str d.word):=by cases d <;> rfl
noncomputable def De.root:De→Str
 | .num x _=>x | .make x _=>x | .weak x _=>x | .pair x _ _=>x | .words x _=>x | .put x _ _=>x | .get x _ _=>x | .look x _=>x | .find x _ _=>x | .copy x _=>x | .drop x=>x | .tell x=>x | .same x _=>x | .hear x=>x
structure Wd where
 g:Str→Vl
 ts:List Tg
 hs:List (Nat×Int)
noncomputable def xn (n:Int):Prop:=0≤n∧n < 1000000000000000000000000000000000000000000000000000000000000
noncomputable def Vl.ok (m:Nat):Vl→Prop
 | .th s=>∃i:Nat,s=(i:Int)+1∧i < m
 | .num n=>xn n
 | .no=>True
structure Wd.ok (W:Wd):Prop where
 g:∀x,(W.g x).ok W.ts.length
 ts:∀t∈W.ts,(∀v∈t.fs,v.ok W.ts.length)∧∀n,t.words=some n→xn n
 hs:∀h∈W.hs,(1≤h.1∧h.1≤W.ts.length)∧xn h.2
noncomputable def De.fits (d:De):Prop:=d.root∈Mm∧match d with
 | .num _ n=>xn n
 | .words _ n=>xn n
 | .make _ n=>n≤100
 | _=>True
noncomputable def Wd.tg (W:Wd) (x:Str):Option (Nat×Tg):=match W.g x with
 | .th n=>(W.ts[(n - 1).toNat]?).map fun t=>((n - 1).toNat,t)
 | _=>none
theorem Wd.ok.tg {W:Wd}(h:W.ok) (x:Str):(∃(i:Nat) (t:Tg),W.g x=.th ((i:Int)+1)∧W.ts[i]?=some t∧W.tg x=some (i,t))∨((W.g x).Mj=false∧W.tg x=none):=by
 have h1:=h.g x
 unfold Wd.tg
 cases e:W.g x with
 | no=>exact .inr ⟨rfl,rfl⟩
 | num n=>exact .inr ⟨rfl,rfl⟩
 | th n=>
  rw [e] at h1
  obtain⟨i,rfl,hi⟩:=h1
  have e2:((i:Int)+1 - 1).toNat=i:=by omega
  refine .inl ⟨i,W.ts[i],rfl,List.getElem?_eq_getElem hi,?_⟩
  show(W.ts[((i:Int)+1 - 1).toNat]?).map (fun t=>(((i:Int)+1 - 1).toNat,t))=_
  rw [e2,List.getElem?_eq_getElem hi]
  rfl
noncomputable def Wd.has (W:Wd) (x s:Str):Bool:=match W.tg x with
 | none=>false
 | some q=>decide (s="any") || decide (q.2.sort=s)
noncomputable def De.wants:De→List (Str×Str)
 | .weak _ y=>[(y,"any")] | .pair _ y _=>[(y,"any")] | .words x _=>[(x,"plain")] | .put x _ _=>[(x,"plain")] | .get _ y _=>[(y,"plain")] | .look _ y=>[(y,"weak")] | .find _ y z=>[(y,"pair"),(z,"any")] | _=>[]
noncomputable def De.jW:De→Option (Str×Nat)
 | .put x i _=>some (x,i) | .get _ y i=>some (y,i) | _=>none
noncomputable def Wd.fs (W:Wd) (x:Str):List Vl:=match W.tg x with
 | none=>[]
 | some q=>q.2.fs
noncomputable def Wd.ff (W:Wd) (d:De):Bool:=d.wants.any fun q=>!W.has q.1 q.2
noncomputable def Wd.dg (W:Wd) (d:De):Bool:=match d.jW with
 | none=>false
 | some q=>!decide (q.2 < (W.fs q.1).length)
noncomputable def Wd.dD (W:Wd) (x:Str) (v:Vl):Wd:={W with g:=fun y=>if y=x then v else W.g y}
noncomputable def Wd.nq (W:Wd) (n:Int):Option (Nat×Tg)→Wd
 | some (i,.plain fs _)=>⟨W.g,W.ts.set i (.plain fs (some n)),W.hs⟩
 | _=>W
noncomputable def Wd.nu (W:Wd) (n:Nat) (v:Vl):Option (Nat×Tg)→Wd
 | some (i,.plain fs w)=>⟨W.g,W.ts.set i (.plain (fs.set n v) w),W.hs⟩
 | _=>W
noncomputable def Wd.qh (W:Wd) (x:Str):List (Nat×Int)→Wd
 | []=>W.dD x .no
 | h::hs=>(Wd.mk W.g W.ts hs).dD x (.th (h.1:Nat))
noncomputable def Wd.step (W:Wd):De→Wd
 | .num x n=>W.dD x (.num n)
 | .make x n=>(Wd.mk W.g (W.ts++[.plain (List.replicate n .no) none]) W.hs).dD x (.th ((W.ts.length:Int)+1))
 | .weak x y=>(Wd.mk W.g (W.ts++[.weak (W.g y)]) W.hs).dD x (.th ((W.ts.length:Int)+1))
 | .pair x y z=>(Wd.mk W.g (W.ts++[.pair (W.g y) (W.g z)]) W.hs).dD x (.th ((W.ts.length:Int)+1))
 | .words x n=>W.nq n (W.tg x)
 | .put x n y=>W.nu n (W.g y) (W.tg x)
 | .get x y n=>W.dD x ((W.fs y).getD n .no)
 | .look x y=>W.dD x ((W.fs y).getD 0 .no)
 | .find x y z=>W.dD x (if bp (vD ((W.fs y).getD 0 .no)) (vD (W.g z))=true then(W.fs y).getD 1 .no else .no)
 | .copy x y=>W.dD x (W.g y)
 | .drop x=>W.dD x .no
 | .tell _=>W
 | .same _ _=>W
 | .hear x=>W.qh x W.hs
noncomputable def Vl.told:Vl→Str
 | .num n=>(toString n:String)
 | v=>v.word
noncomputable def z9:List (Nat×Int)→Str
 | []=>"none"
 | h::_=>(toString h.2:String)
noncomputable def Wd.Bt (W:Wd):De→Str
 | .tell x=>(W.g x).told
 | .same x y=>if bp (vD (W.g x)) (vD (W.g y))=true then "yes" else "no"
 | .hear _=>z9 W.hs
 | _=>"ok"
noncomputable abbrev PW (a:eP) (K:PySem.W.Frag) (Pr:Addr→Prop) (H:Hp) (A:HA) (W:Wd):Prop:=PH a K Pr H A W.g W.ts W.hs
structure Cy (a:eP) (K:PySem.W.Frag) (Pr:Addr→Prop) (H:Hp) (A:HA) (W:Wd) (t:Addr) (d:De):Prop where
 ph:PW a K Pr H A W
 ok:W.ok
 de:bZ K H t d.items
noncomputable def Km (a:eP) (K:PySem.W.Frag):Sp:=fun vs H Q _=>∃Pr A W x s,vs=[.ref A.p,.str x,.str s]∧PW a K Pr H A W∧W.ok∧Q (.bl (W.has x s)) H
theorem TH (T:Txt K mg a):aY P w K mg base cX 4 a.yw a.yx ["heap","letter","sort"] (Km a K):=by
 refine T.pH.ok SM (fun vs H Q E h=>?_) (fun cv A outer s H vs Q E hr h=>?_)
 ·obtain⟨_,_,_,_,_,rfl,_⟩:=h
  rfl
 ·obtain⟨Pr,A,W,x,s,rfl,h,ok,q⟩:=h
  refine⟨_,(ag (aR (fP (cJ (aM (Tf T) (hr.mono (by decide)) rfl T.OC T.pz.kp T.OB .nil aB (aa (by exact(aS (pv 0) T.aj T.aW (iI T) (hr.mono (by decide)) T.nH .nil aB (aa (pv 1) ae))) ae)))) (ah (aw eU)) aH) (ah (aw (Vp (eQ b7 (pv 2) av (aI _)) (jH (eQ b7 (dR (L:=[(a.bR,jT a K),(a.aL,jT a K),(a.aU,jT a K)]) (aS (pv 0) T.aj T.bU (Fb T) (hr.mono (by decide)) T.JT .nil aB (aa (pv 1) ae)) (List.forall_mem_cons.mpr ⟨⟨_,_,_,_,T.dq,T.B5,lU T,hr.mono (by decide),T.pD⟩,List.forall_mem_cons.mpr ⟨⟨_,_,_,_,T.aP,T.c8,lU T,hr.mono (by decide),T.pD⟩,List.forall_mem_cons.mpr ⟨⟨_,_,_,_,T.bM,T.dm,lU T,hr.mono (by decide),T.pD⟩,List.forall_mem_nil _⟩⟩⟩) .nil aB) (pv 2) (aI _))))))),?_⟩
  obtain⟨dx,h1⟩:=h.ob
  have f1:=aT (rv:=A.rv) (hd:=A.hd) (md:=A.md) (n:="root")
  have f2:=aT (rv:=A.rv) (hd:=A.hd) (md:=A.md) (n:="thing_in")
  dsimp! [h1,HO.ins.injEq,f1,f2]
  refine⟨Pr,A,W.g,W.ts,W.hs,x,rfl,h,fun u hu=>⟨u,_,rfl,hu,_,rfl,?_⟩⟩
  rcases ok.tg x with ⟨i,t,e1,e2,e3⟩ | ⟨e1,e2⟩
  ·have e4:(W.g x).Mj=true:=by rw [e1]; rfl
   have e5:W.has x s=(decide (s="any") || decide (t.sort=s)):=by unfold Wd.has; rw [e3]
   rw [e4]
   refine bu (fun z=>by cases z) fun _=>bu (fun z=>?_) fun z=>?_
   ·rw [e5,z] at q
    exact q
   ·refine⟨_,_,h1,f2,Pr,A,W.g,W.ts,W.hs,x,i,t,rfl,h,e1,e2,fun p d hT=>?_⟩
    obtain⟨Lr,Cv⟩:=hT.ob
    refine⟨p,rfl,_,_,_,Cv,t.no d,_,t.mem _,p,d,t,rfl,hT,rfl,?_⟩
    rw [e5,Bool.eq_false_iff.mpr z,Bool.false_or] at q
    rw [show decide (V.str t.sort=V.str s)=decide (t.sort=s) from by simp]
    exact q
  ·have e5:W.has x s=false:=by unfold Wd.has; rw [e2]
   rw [e1]
   refine bu (fun _=>?_) fun z=>absurd rfl z
   rw [e5] at q
   exact q
theorem aaX {β:Type}{b D:Addr}{fr:List Nat}{te:TE}{σ:St}{Q:Hp→Prop}{H:Hp}(xs:List V) (bs:List β) (va vb f:β→V) (hz:bs.length≤1000) (hl:bs.length=xs.length) (hS:∀ys,bZ K (upd H D (.lst ys)) b xs)
  (hp:∀(i:Nat) x c,xs[i]?=some x→bs[i]?=some c→∃t,x=.ref t∧∀ys,bZ K (upd H D (.lst ys)) t [va c,vb c]) (he:∀(i:Nat) c ys (R:VK),bs[i]?=some c→R (f c) (upd H D (.lst ys))→te (bE fr σ (some (va c)) (some (vb c))) (upd H D (.lst ys)) R)
  (hq:Q (upd H D (.lst (bs.map f)))):jb K (Z0 K b) fr (fun _ H Q=>Q true H) te σ D Q (upd H D (.lst [])):=by
 refine⟨fun i m H2=>m+i=xs.length∧H2=upd H D (.lst ((bs.take i).map f)),⟨xs.length,rfl,rfl⟩,?_⟩
 rintro i m H2 ⟨hm,rfl⟩
 cases m with
 | zero=>
  have e:i=xs.length:=by omega
  subst e
  refine .inl ⟨⟨xs,hS _,Nat.le_refl _⟩,?_⟩
  rw [←hl,List.take_length]
  exact hq
 | succ m=>
  have hi:i < xs.length:=by omega
  have hb:i < bs.length:=by omega
  refine .inr ⟨⟨xs,xs[i],hS _,List.getElem?_eq_getElem hi⟩,fun v H' y=>?_⟩
  obtain⟨rfl,hv⟩:=y
  have hx:=hv xs (hS _)
  have hbi:bs[i]?=some bs[i]:=List.getElem?_eq_getElem hb
  have et:bs.take (i+1)=bs.take i++[bs[i]]:=by rw [List.take_add_one,hbi]; rfl
  obtain⟨t,e,ht⟩:=hp i v _ hx hbi
  refine⟨t,_,_,e,ht _,?_⟩
  show(if true=true then _ else _)
  rw [if_pos rfl]
  refine he i _ _ _ hbi ⟨_,af,?_,m,Nat.lt_succ_self m,by omega,?_⟩
  ·rw [List.length_map,List.length_take]
   exact aQ (by omega)
  ·rw [og,et,List.map_append]
   rfl
noncomputable def TJ (K:PySem.W.Frag) (d:De) (b:Addr):Prop:=∃(xs:List V) (bs:List (Str×Str×Nat)),bs.map (fun c=>(c.1,c.2.1))=d.wants∧bs.length=xs.length∧bs.length≤2∧(∀H:Hp,bZ K H b xs)∧(∀(i:Nat) x c,xs[i]?=some x→bs[i]?=some c→∃t,x=.ref t∧∀H:Hp,bZ K H t [.int ((c.2.2:Nat):Int),.str c.2.1])∧∀c∈bs,oI d.items ((c.2.2:Nat):Int)=some (.str c.1)
theorem TJ.one {d:De}{b t:Addr}{x s:Str}{k:Nat}(h1:d.wants=[(x,s)]) (h2:∀H:Hp,bZ K H b [.ref t]) (h3:∀H:Hp,bZ K H t [.int ((k:Nat):Int),.str s]) (h4:oI d.items ((k:Nat):Int)=some (.str x)):TJ K d b:=
 ⟨[.ref t],[(x,s,k)],h1.symm,rfl,Nat.le_succ 1,h2,fun i y c hy hc=>by
  cases i with
  | zero=>cases hy; cases hc; exact⟨t,rfl,h3⟩
  | succ i=>simp at hy,fun c hc=>by
  rw [List.mem_singleton.mp hc]
  exact h4⟩
noncomputable abbrev Kn (a:eP):List (Str×Addr):=[("weak",a.dW),("pair",a.dY),("words",a.d3),("put",a.d5),("get",a.d7),("look",a.d9),("find",a.ee)]
theorem Ms (T:Txt K mg a) (d:De):(d.wants=[]∧PyProof.Rows.KTD.datumAt d.word (Kn a)=none)∨∃b,PyProof.Rows.KTD.datumAt d.word (Kn a)=some b∧TJ K d b:=by
 cases d with
 | num x n=>exact .inl ⟨rfl,by kernel_rfl⟩
 | make x n=>exact .inl ⟨rfl,by kernel_rfl⟩
 | weak x y=>exact .inr ⟨a.dW,by kernel_rfl,.one (k:=2) rfl T.pZ T.kU rfl⟩
 | pair x y z=>exact .inr ⟨a.dY,by kernel_rfl,.one (k:=2) rfl T.p0 T.kW rfl⟩
 | words x n=>exact .inr ⟨a.d3,by kernel_rfl,.one (k:=1) rfl T.p9 T.kX rfl⟩
 | put x i y=>exact .inr ⟨a.d5,by kernel_rfl,.one (k:=1) rfl T.p_ T.kY rfl⟩
 | get x y i=>exact .inr ⟨a.d7,by kernel_rfl,.one (k:=2) rfl T.qa T.kZ rfl⟩
 | look x y=>exact .inr ⟨a.d9,by kernel_rfl,.one (k:=2) rfl T.qb T.k8 rfl⟩
 | find x y z=>
  refine .inr ⟨a.ee,by kernel_rfl,[.ref a.dj,.ref a.dk],[(y,"pair",2),(z,"any",3)],rfl,rfl,Nat.le_refl _,T.qc,fun i u c hy hc=>?_,fun c hc=>?_⟩
  ·match i,hy,hc with
   | 0,hy,hc=>cases hy; cases hc; exact⟨_,rfl,T.k_⟩
   | 1,hy,hc=>cases hy; cases hc; exact⟨_,rfl,T.la⟩
   | i+2,hy,hc=>simp at hy
  ·rcases List.mem_cons.mp hc with rfl | hc
   ·rfl
   ·rw [List.mem_singleton.mp hc]
    rfl
 | copy x y=>exact .inl ⟨rfl,by kernel_rfl⟩
 | drop x=>exact .inl ⟨rfl,by kernel_rfl⟩
 | tell x=>exact .inl ⟨rfl,by kernel_rfl⟩
 | same x y=>exact .inl ⟨rfl,by kernel_rfl⟩
 | hear x=>exact .inl ⟨rfl,by kernel_rfl⟩
noncomputable def TK (a:eP) (K:PySem.W.Frag):Sp:=fun vs H Q _=>∃Pr A W t d,vs=[.ref A.p,.ref t]∧Cy a K Pr H A W t d∧∀H',ar H H'→Q (.bl (W.ff d)) H'
theorem TL (T:Txt K mg a):aY P w K mg base cX 6 a.yy a.yz ["heap","deed"] (TK a K):=by
 refine T.pI.ok SN (fun vs H Q E h=>?_) (fun cv A outer s H vs Q E hr h=>?_)
 ·obtain⟨_,_,_,_,_,rfl,_⟩:=h
  rfl
 ·obtain⟨Pr,A,W,t,d,rfl,h,q⟩:=h
  refine⟨_,(ah (aw (aF (FW rfl) rfl T.E5 RX (aa (HJ rfl (Ol (x:="at") (x2:="sort") (ns:=["heap","deed"]) (fr:=[0,1]) rfl (by decide +kernel) rfl (by decide +kernel) rfl rfl (List.forall_mem_cons.mpr ⟨rfl,List.forall_mem_cons.mpr ⟨rfl,List.forall_mem_nil _⟩⟩) rfl rfl (List.forall_mem_cons.mpr ⟨⟨rfl,rfl,.inl rfl⟩,List.forall_mem_cons.mpr ⟨⟨rfl,rfl,.inl rfl⟩,List.forall_mem_nil _⟩⟩) (by decide +kernel)) (Rk (HZ T.zX (bJ (v:=.ref a.fM) rfl T.u9 rfl) (au ao (pv 1) ai (fun _ _=>rfl)) (bf ae) ⟨rfl,rfl,rfl,rfl⟩)) (fun _ _ _ _=>(uI (aM (TH T) (hr.mono (by decide)) rfl T.OK T.pH.kp T.OJ .nil aB (aa (pv 2) (aa (au (LU (K:=K) rfl) (pv 3) (pv 0) (fun _ _=>rfl)) (aa (pv 1) ae)))))) (fun _ _ _ _=>.nil)) ae)))),?_⟩
  dsimp! [HY,T.u9]
  refine⟨t,_,_,_,rfl,rfl,h.de,d.hd,fun p hp=>⟨d.word,rfl,?_⟩⟩
  have s1:=ar.put (o:=.tup []) hp
  have h1:PW a K Pr (upd H p (.tup [])) A W:=h.ph.same s1
  have d1:=s1.bT h.de
  have e1:upd H p (.tup []) p=some (.tup []):=af
  generalize upd H p (.tup [])=H1 at s1 h1 d1 e1 ⊢
  have go:∀(b D:Addr) (xs:List V) (bs:List (Str×Str×Nat)),H1 D=none→bs.map (fun c=>(c.1,c.2.1))=d.wants→bs.length=xs.length→bs.length≤2→bZ K H1 b xs→(∀(i:Nat) x c,xs[i]?=some x→bs[i]?=some c→∃t,x=.ref t∧∀H:Hp,bZ K H t [.int ((c.2.2:Nat):Int),.str c.2.1])→(∀c∈bs,oI d.items ((c.2.2:Nat):Int)=some (.str c.1)) →
    jb K (Z0 K b) [0,1] (fun _ H Q=>Q true H) (GY (EG (Km a K) [] E0 (oH (Bx 2) (oH (U1 (nC K) (Bx 3) (Bx 0)) (oH (Bx 1) xt))))) [some (.ref A.p),some (.ref t)] D (fun H2=>∃x:List Bool,bN K H2 D (List.map V.bl x)∧Q (V.bl (x.any id)) H2) (upd H1 D (.lst [])):=fun b D xs bs hD b1 b2 b3 b4 b5 b6=>by
   refine aaX xs bs (fun c=>.int ((c.2.2:Nat):Int)) (fun c=>.str c.2.1) (fun c=>.bl (!W.has c.1 c.2.1)) (by omega) b2 (fun ys=>(ar.put hD).bT b4) (fun i x c hx hc=>?_) (fun i c ys R hc r=>?_) ⟨bs.map fun c=>!W.has c.1 c.2.1,?_,?_⟩
   ·obtain⟨u,e,hu⟩:=b5 i x c hx hc
    exact⟨u,e,fun ys=>hu _⟩
   ·dsimp! [bE]
    exact⟨_,rfl,_,rfl,t,_,_,_,rfl,rfl,(ar.put hD).bT d1,b6 c (List.mem_of_getElem? hc),Pr,A,W,c.1,c.2.1,rfl,h1.same (ar.put hD),h.ok,_,rfl,r⟩
   ·rw [List.map_map]
    exact bN.of af
   ·have e2:(bs.map fun c=>!W.has c.1 c.2.1).any id=W.ff d:=by
     unfold Wd.ff
     rw [←b1,List.any_map,List.any_map]
     rfl
    rw [e2]
    exact q _ (s1.trans (ar.put hD))
  rcases Ms T d with ⟨w1,w2⟩ | ⟨b,w1,xs,bs,b1,b2,b3,b4,b5,b6⟩
  ·exact .inr ⟨w2,⟨_,bZ.of e1⟩,fun D hD=>go p D [] [] hD w1.symm rfl (by decide) (bZ.of e1) (fun i x c hx=>by simp at hx) (fun c hc=>nomatch hc)⟩
  ·exact .inl ⟨b,w1,⟨_,b4 _⟩,fun D hD=>go b D xs bs hD b1 b2 b3 (b4 _) b5 b6⟩
noncomputable abbrev Fd (a:eP):List (Str×Addr):=[("put",a.bP),("get",a.bQ)]
theorem Mt (T:Txt K mg a) (d:De):(d.jW=none∧PyProof.Rows.KTD.datumAt d.word (Fd a)=none)∨∃(b:Addr) (k1 k2:Int) (x:Str) (i:Nat),PyProof.Rows.KTD.datumAt d.word (Fd a)=some b∧(∀H:Hp,bZ K H b [.int k1,.int k2])∧d.jW=some (x,i)∧oI d.items k1=some (.str x)∧oI d.items k2=some (.int (i:Nat))∧(x,("plain":Str))∈d.wants:=by
 cases d with
 | put x i y=>exact .inr ⟨a.bP,1,2,x,i,by kernel_rfl,T.gc,rfl,rfl,rfl,List.mem_cons_self⟩
 | get x y i=>exact .inr ⟨a.bQ,2,3,y,i,by kernel_rfl,T.gg,rfl,rfl,rfl,List.mem_cons_self⟩
 | num x n=>exact .inl ⟨rfl,by kernel_rfl⟩
 | make x n=>exact .inl ⟨rfl,by kernel_rfl⟩
 | weak x y=>exact .inl ⟨rfl,by kernel_rfl⟩
 | pair x y z=>exact .inl ⟨rfl,by kernel_rfl⟩
 | words x n=>exact .inl ⟨rfl,by kernel_rfl⟩
 | look x y=>exact .inl ⟨rfl,by kernel_rfl⟩
 | find x y z=>exact .inl ⟨rfl,by kernel_rfl⟩
 | copy x y=>exact .inl ⟨rfl,by kernel_rfl⟩
 | drop x=>exact .inl ⟨rfl,by kernel_rfl⟩
 | tell x=>exact .inl ⟨rfl,by kernel_rfl⟩
 | same x y=>exact .inl ⟨rfl,by kernel_rfl⟩
 | hear x=>exact .inl ⟨rfl,by kernel_rfl⟩
theorem Wd.ok.Xo {W:Wd}(h:W.ok) {x s:Str}(hs:W.has x s=true):∃(i:Nat) (t:Tg),W.g x=.th ((i:Int)+1)∧W.ts[i]?=some t∧W.tg x=some (i,t)∧W.fs x=t.fs∧(s="any"∨t.sort=s):=by
 rcases h.tg x with ⟨i,t,e1,e2,e3⟩ | ⟨e1,e2⟩
 ·refine⟨i,t,e1,e2,e3,by unfold Wd.fs; rw [e3],?_⟩
  unfold Wd.has at hs
  rw [e3] at hs
  rcases Bool.or_eq_true_iff.mp hs with z | z
  ·exact .inl (of_decide_eq_true z)
  ·exact .inr (of_decide_eq_true z)
 ·unfold Wd.has at hs
  rw [e2] at hs
  cases hs
theorem Wd.wanted {W:Wd}{d:De}(h:W.ff d=false) {x s:Str}(hm:(x,s)∈d.wants):W.has x s=true:=by
 cases e:W.has x s with
 | true=>rfl
 | false=>
  have:W.ff d=true:=List.any_eq_true.mpr ⟨(x,s),hm,by rw [e]; rfl⟩
  rw [h] at this
  cases this
noncomputable def TM (a:eP) (K:PySem.W.Frag):Sp:=fun vs H Q _=>∃Pr A W t d,vs=[.ref A.p,.ref t]∧Cy a K Pr H A W t d∧W.ff d=false∧∀H',ar H H'→Q (.bl (W.dg d)) H'
theorem TN (T:Txt K mg a):aY P w K mg base cX 4 a.yA a.yB ["heap","deed"] (TM a K):=by
 refine T.pJ.ok B2 (fun vs H Q E h=>?_) (fun cv A outer s H vs Q E hr h=>?_)
 ·obtain⟨_,_,_,_,_,rfl,_⟩:=h
  rfl
 ·obtain⟨Pr,A,W,t,d,rfl,h,hl,q⟩:=h
  refine⟨_,(ag (bc (i:=2) B2.nd rfl (Or.inl rfl) (HR T.iG (bJ (v:=.ref a.cB) rfl T.jF rfl) (au ao (pv 1) ai (fun _ _=>rfl)) ⟨rfl,rfl,rfl,rfl⟩)) (ag (aR (aC iz (pv 2) bV (aI _)) (ah (aw eU)) aH) (ag (bc (i:=3) B2.nd rfl (Or.inl rfl) (aF cF rfl T.eF dI (aa (dR (L:=[(a.bR,dN a K),(a.aL,dN a K),(a.aU,dN a K)]) (aS (pv 0) T.aj T.bU (Fb T) (hr.mono (by decide)) T.JT .nil aB (aa (au ao (pv 1) (au ao (pv 2) ai (fun _ _=>rfl)) (fun _ _=>rfl)) ae)) (List.forall_mem_cons.mpr ⟨⟨_,_,_,_,T.dq,T.lS,dP T,hr.mono (by decide),T.fc⟩,List.forall_mem_cons.mpr ⟨⟨_,_,_,_,T.aP,T.bI,dP T,hr.mono (by decide),T.fc⟩,List.forall_mem_cons.mpr ⟨⟨_,_,_,_,T.bM,T.bO,dP T,hr.mono (by decide),T.fc⟩,List.forall_mem_nil _⟩⟩⟩) .nil aB) ae))) (ah (aw (uI (G5 Vx N5 ai (au ao (pv 1) (au ao (pv 2) ai (fun _ _=>rfl)) (fun _ _=>rfl)) (pv 3)))))))),?_⟩
  dsimp! []
  refine⟨t,_,_,_,rfl,rfl,h.de,d.hd,d.word,rfl,?_⟩
  rcases Mt T d with ⟨w1,w2⟩ | ⟨b,k1,k2,x,i,w1,w2,w3,w4,w5,w6⟩
  ·refine .inr ⟨w2,?_⟩
   have e:W.dg d=false:=by unfold Wd.dg; rw [w1]
   rw [←e]
   exact q H fun _ _ e=>e
  ·have e:W.dg d=!decide (i < (W.fs x).length):=by unfold Wd.dg; rw [w3]
   obtain⟨j,g,g1,g2,g3,g4,_⟩:=h.ok.Xo (W.wanted hl w6)
   obtain⟨dx,h1⟩:=h.ph.ob
   refine .inl ⟨b,w1,dx,_,h1,aT,b,_,_,_,rfl,rfl,w2 _,rfl,t,_,_,_,rfl,rfl,h.de,w4,Pr,A,W.g,W.ts,W.hs,x,j,g,rfl,h.ph,g1,g2,fun p d2 hT=>?_⟩
   obtain⟨Lr,Cv⟩:=hT.ob
   refine⟨p,rfl,_,_,_,Cv,g.no d2,_,g.mem _,p,d2,g,rfl,hT,fun r xs hr ll hz=>?_⟩
   have s1:=ar.put (o:=.lst xs) hr
   refine⟨r,rfl,xs,.inl (bN.of af),b,_,_,_,rfl,rfl,w2 _,rfl,t,_,_,_,rfl,rfl,s1.bT h.de,w5,_,rfl,?_⟩
   refine bu (fun _=>⟨_,rfl,?_⟩) fun z=>absurd (decide_eq_true (Int.natCast_nonneg i)) z
   have e2:(!decide ((i:Int) < (xs.length:Nat)))=W.dg d:=by
    rw [e,g4,ll.1]
    congr 1
    exact decide_eq_decide.mpr Int.ofNat_lt
   rw [e2]
   exact q _ s1
noncomputable def Wd.made (W:Wd):De→Option Tg
 | .make _ n=>some (.plain (List.replicate n .no) none)
 | .weak _ y=>some (.weak (W.g y))
 | .pair _ y z=>some (.pair (W.g y) (W.g z))
 | _=>none
theorem Xp:¬(("weak":Str)="make"):=by decide +kernel
theorem Xq:¬(("pair":Str)="make"):=by decide +kernel
theorem Fe:¬(("pair":Str)="weak"):=by decide +kernel
noncomputable def De.isNew:De→Bool
 | .make ..=>true
 | .weak ..=>true
 | .pair ..=>true
 | _=>false
theorem bF {H:Hp}{t:Addr}{xs:List V}{i:Int}{v:V}{Q:VK}(h:bZ K H t xs) (e:oI xs i=some v) (q:Q v H):nC K (.ref t) (.int i) H Q:=⟨t,xs,i,v,rfl,rfl,h,e,q⟩
theorem GS {H:Hp}{t:Addr}{xs:List V}{i:Int}{v:V}{Q:VK}(h:bN K H t xs) (e:oI xs i=some v) (q:Q v H):Rv K (.ref t) (.int i) H Q:=⟨t,xs,i,v,rfl,rfl,h,e,q⟩
theorem De.at1 (d:De):oI d.items 1=some (.str d.root):=by cases d <;> rfl
theorem xn.log {n:Int}(h:xn n):n.natAbs.log2 < 1920:=by
 by_cases c:n.natAbs=0
 ·rw [c]
  decide
 ·refine(Nat.log2_lt c).mpr (Nat.lt_of_lt_of_le (m:=1000000000000000000000000000000000000000000000000000000000000) ?_ (by decide))
  obtain⟨h1,h2⟩:=h
  omega
theorem gi.rep {H:Hp}{x:V}{v:Vl}(h:dJ K H x v) (n:Nat):gi K H (List.replicate n x) (List.replicate n v):=⟨by simp,fun i y u a b=>by
 rw [List.getElem?_replicate] at a b
 by_cases hi:i < n
 ·rw [if_pos hi] at a b
  cases a
  cases b
  exact h
 ·rw [if_neg hi] at a
  cases a⟩
theorem z_ (x:V):∀n:Nat,(List.replicate n [x]).flatten=List.replicate n x
 | 0=>rfl
 | n+1=>by rw [List.replicate_succ,List.flatten_cons,z_ x n]; rfl
theorem aaY:¬(("plain":Str)="any"):=by decide +kernel
theorem aaZ:¬(("weak":Str)="any"):=by decide +kernel
theorem aba:¬(("pair":Str)="any"):=by decide +kernel
theorem TQ:¬(("plain":Str)="weak"):=by decide +kernel
theorem TR:¬(("plain":Str)="pair"):=by decide +kernel
theorem Wd.ok.Aa {W:Wd}(h:W.ok) {x:Str}(hs:W.has x "plain"=true):∃(i:Nat) (fs:List Vl) (w:Option Int),W.g x=.th ((i:Int)+1)∧W.ts[i]?=some (.plain fs w)∧W.tg x=some (i,.plain fs w)∧W.fs x=fs:=by
 obtain⟨i,t,e1,e2,e3,e4,e5 | e5⟩:=h.Xo hs
 ·exact absurd e5 aaY
 ·cases t with
  | plain fs w=>exact⟨i,fs,w,e1,e2,e3,e4⟩
  | weak f=>exact absurd e5.symm TQ
  | pair k v=>exact absurd e5.symm TR
theorem Wd.ok.Xr {W:Wd}(h:W.ok) {x:Str}(hs:W.has x "weak"=true):∃(i:Nat) (f:Vl),W.g x=.th ((i:Int)+1)∧W.ts[i]?=some (.weak f)∧W.tg x=some (i,.weak f)∧W.fs x=[f]:=by
 obtain⟨i,t,e1,e2,e3,e4,e5 | e5⟩:=h.Xo hs
 ·exact absurd e5 aaZ
 ·cases t with
  | plain fs w=>exact absurd e5 TQ
  | weak f=>exact⟨i,f,e1,e2,e3,e4⟩
  | pair k v=>exact absurd e5 Fe
theorem Wd.ok.Xs {W:Wd}(h:W.ok) {x:Str}(hs:W.has x "pair"=true):∃(i:Nat) (k v:Vl),W.g x=.th ((i:Int)+1)∧W.ts[i]?=some (.pair k v)∧W.tg x=some (i,.pair k v)∧W.fs x=[k,v]:=by
 obtain⟨i,t,e1,e2,e3,e4,e5 | e5⟩:=h.Xo hs
 ·exact absurd e5 aba
 ·cases t with
  | plain fs w=>exact absurd e5 TR
  | weak f=>exact absurd e5.symm Fe
  | pair k v=>exact⟨i,k,v,e1,e2,e3,e4⟩
theorem Wd.uA {W:Wd}{d:De}{tg:Tg}(h:W.made d=some tg):W.step d=(Wd.mk W.g (W.ts++[tg]) W.hs).dD d.root (.th ((W.ts.length:Int)+1))∧W.Bt d="ok":=by
 cases d with
 | make x n=>cases h; exact⟨rfl,rfl⟩
 | weak x n=>cases h; exact⟨rfl,rfl⟩
 | pair x n z=>cases h; exact⟨rfl,rfl⟩
 | _=>cases h
theorem De.isNew.made {d:De}(h:d.isNew=true) (W:Wd):∃tg,W.made d=some tg:=by
 cases d with
 | make x n=>exact⟨_,rfl⟩
 | weak x n=>exact⟨_,rfl⟩
 | pair x n z=>exact⟨_,rfl⟩
 | _=>cases h
noncomputable def TU (a:eP) (K:PySem.W.Frag):Sp:=fun vs H Q _=>∃Pr A W t d tg,vs=[.ref A.p,.ref t]∧Cy a K Pr H A W t d∧d.fits∧W.made d=some tg∧∀p dl H',ar H H'→H p=none→H dl=none→eY a K H' p dl tg→Q (.ref p) H'
theorem TV (T:Txt K mg a):aY P w K mg base cX 5 a.yC a.yD ["heap","deed"] (TU a K):=by
 refine T.pK.ok SO (fun vs H Q E h=>?_) (fun cv A outer s H vs Q E hr h=>?_)
 ·obtain⟨_,_,_,_,_,_,rfl,_⟩:=h
  rfl
 ·obtain⟨Pr,A,W,t,d,tg,rfl,h,hf,hm,q⟩:=h
  refine⟨_,(ag (aR (aC b7 (au ao (pv 1) ai (fun _ _=>rfl)) av (aI _)) (ah (aw (aM (Tn T) (hr.mono (by decide)) rfl T.OG T.pF.kp T.OF .nil aB (aa (bo RA (bG (aa (bJ (v:=.ref a.ba) rfl T.aV rfl) ae)) (au ao (pv 1) ai (fun _ _=>rfl))) (aa bV ae))))) aH) (ag (aR (aC b7 (au ao (pv 1) ai (fun _ _=>rfl)) av (aI _)) (ah (aw (aM (J_ T) (hr.mono (by decide)) rfl T.JP T.mU.kp T.JO .nil aB (aa (by exact(aS (pv 0) T.aj T.aW (iI T) (hr.mono (by decide)) T.nH .nil aB (aa (au ao (pv 1) ai (fun _ _=>rfl)) ae))) ae)))) aH) (ah (aw (aM (Ka T) (hr.mono (by decide)) rfl T.JR T.mV.kp T.JQ .nil aB (aa (by exact(aS (pv 0) T.aj T.aW (iI T) (hr.mono (by decide)) T.nH .nil aB (aa (au ao (pv 1) ai (fun _ _=>rfl)) ae))) (aa (by exact(aS (pv 0) T.aj T.aW (iI T) (hr.mono (by decide)) T.nH .nil aB (aa (au ao (pv 1) ai (fun _ _=>rfl)) ae))) ae))))))),?_⟩
  dsimp! [T.aV]
  refine⟨t,_,_,_,rfl,rfl,h.de,d.hd,rfl,?_⟩
  cases d with
  | make x n=>
   cases hm
   have hn:n≤100:=hf.2
   refine bu (fun _=>⟨by decide,fun p hp=>?_⟩) fun z=>absurd (decide_eq_true rfl) z
   have s1:=ar.put (o:=.lst [.ref a.ba]) hp
   refine bF (s1.bT h.de) rfl ⟨p,_,_,rfl,rfl,af,by omega,by omega,?_,fun r hr=>?_⟩
   ·rw [List.length_singleton,Int.toNat_natCast,Nat.one_mul]
    exact Nat.le_of_lt (aQ (by omega))
   ·have s2:=s1.trans (ar.put (o:=.lst (List.replicate (Int.toNat (n:Nat)) [V.ref a.ba]).flatten) hr)
    rw [Int.toNat_natCast,z_] at s2 ⊢
    have hv:dJ K (upd (upd H p (.lst [.ref a.ba])) r (.lst (List.replicate n (.ref a.ba)))) (.ref a.ba) .no:=⟨_,rfl,T.cZ _⟩
    refine⟨r,_,_,none,rfl,bN.of af,gi.rep hv n,by rw [List.length_replicate]; omega,fun p2 dl H' s3 h2 h3 hT=>q p2 dl H' (s2.trans s3) (s2.free h2) (s2.free h3) hT⟩
  | weak x y=>
   cases hm
   obtain⟨dx,h1⟩:=h.ph.ob
   refine bu (fun z=>absurd (V.str.inj (of_decide_eq_true z)) Xp) fun _=>bF h.de rfl ⟨rfl,bu (fun _=>?_) fun z=>absurd (decide_eq_true rfl) z⟩
   refine⟨dx,_,h1,aT,bF h.de rfl ⟨Pr,A,W.g,W.ts,W.hs,y,rfl,h.ph,fun u hu=>⟨u,_,rfl,hu,q⟩⟩⟩
  | pair x y z=>
   cases hm
   obtain⟨dx,h1⟩:=h.ph.ob
   refine bu (fun z=>absurd (V.str.inj (of_decide_eq_true z)) Xq) fun _=>bF h.de rfl ⟨rfl,bu (fun z=>absurd (V.str.inj (of_decide_eq_true z)) Fe) fun _=>?_⟩
   refine⟨dx,_,h1,aT,bF h.de rfl ⟨Pr,A,W.g,W.ts,W.hs,y,rfl,h.ph,fun u hu=>⟨dx,_,h1,aT,bF h.de rfl ⟨Pr,A,W.g,W.ts,W.hs,z,rfl,h.ph,fun u2 Ko=>⟨u,u2,_,_,rfl,hu,Ko,q⟩⟩⟩⟩⟩
  | _=>cases hm
noncomputable def gj (a:eP) (K:PySem.W.Frag) (Pd:De→Prop):Sp:=fun vs H Q _=>∃Pr A W t d,vs=[.ref A.p,.ref t]∧Cy a K Pr H A W t d∧Pd d∧W.ff d=false∧W.dg d=false∧d.fits∧W.ts.length < 500∧∀H',Kp A.own H H'→PW a K Pr H' A (W.step d)→Q (.str (W.Bt d)) H'
theorem TX (T:Txt K mg a):aY P w K mg base cX 2 a.mH a.yE ["heap","deed"] (gj a K (fun d=>∃x n,d=.num x n)):=by
 refine T.mW.ok SQ (fun vs H Q E h=>?_) (fun cv A outer s H vs Q E hr h=>?_)
 ·obtain⟨_,_,_,_,_,rfl,_⟩:=h
  rfl
 ·obtain⟨Pr,A,W,t,d,rfl,h,⟨x,n,rfl⟩,hl,ku,hf,cw,q⟩:=h
  refine⟨_,(ag (a8 (aS (pv 0) T.aj T.aX (nj T) (hr.mono (by decide)) T.u6 .nil aB (aa (au ao (pv 1) ai (fun _ _=>rfl)) (aa (bf (aa av (aa (au ao (pv 1) ai (fun _ _=>rfl)) ae))) ae)))) (ah (aw av))),?_⟩
  obtain⟨dx,h1⟩:=h.ph.ob
  dsimp! [T.aV]
  refine⟨dx,_,h1,aT,bF h.de rfl (bF h.de rfl ⟨by decide,fun p hp=>?_⟩)⟩
  have s1:=ar.put (o:=.tup [.str "number",.int n]) hp
  exact⟨Pr,A,W.g,W.ts,W.hs,x,_,.num n,rfl,h.ph.same s1,hf.1,⟨p,rfl,bZ.of af⟩,fun H' k ph=>q H' ((ar.kp s1).trans k) ph⟩
theorem TY (T:Txt K mg a):aY P w K mg base cX 6 a.hG a.yF ["heap","deed"] (gj a K (fun d=>d.isNew=true)):=by
 refine T.jC.ok SR (fun vs H Q E h=>?_) (fun cv A outer s H vs Q E hr h=>?_)
 ·obtain⟨_,_,_,_,_,rfl,_⟩:=h
  rfl
 ·obtain⟨Pr,A,W,t,d,rfl,h,hd0,hl,ku,hf,cw,q⟩:=h
  refine⟨_,(ag (a8 (aS (pv 0) T.aj T.aX (nj T) (hr.mono (by decide)) T.u6 .nil aB (aa (au ao (pv 1) ai (fun _ _=>rfl)) (aa (bf (aa av (aa (by exact(aS (pv 0) T.aj T.JX (Tt T) (hr.mono (by decide)) T.O4 .nil aB (aa (aM (TV T) (hr.mono (by decide)) rfl T.OQ T.pK.kp T.OP .nil aB (aa (pv 0) (aa (pv 1) ae))) ae))) ae))) ae)))) (ah (aw av))),?_⟩
  obtain⟨dx,h1⟩:=h.ph.ob
  dsimp! [T.aV]
  obtain⟨tg,hm⟩:=De.isNew.made hd0 W
  obtain⟨e1,e2⟩:=Wd.uA hm
  rw [e1,e2] at q
  refine⟨dx,_,h1,aT,bF h.de d.at1 ⟨dx,_,h1,aT,Pr,A,W,t,d,tg,rfl,h,hf,hm,fun p dl H1 s1 hp hdl hT=>?_⟩⟩
  obtain⟨f1,f2⟩:=h.ph.fresh hdl
  refine⟨Pr,A,W.g,W.ts,W.hs,p,dl,tg,rfl,h.ph.same s1,hT,f1,f2,cw,fun H2 k2 ph2=>⟨by decide,fun r hr=>?_⟩⟩
  have s3:=ar.put (o:=.tup [.str "thing",.int ((W.ts.length:Int)+1)]) hr
  exact⟨Pr,A,_,_,_,d.root,_,.th ((W.ts.length:Int)+1),rfl,ph2.same s3,hf.1,⟨r,rfl,bZ.of af⟩,fun H' k ph=>q H' (((ar.kp s1).trans k2).trans ((ar.kp s3).trans k)) ph⟩
theorem TZ (T:Txt K mg a):aY P w K mg base cX 6 a.mI a.yG ["heap","deed"] (gj a K (fun d=>∃x n,d=.words x n)):=by
 refine T.mX.ok SS (fun vs H Q E h=>?_) (fun cv A outer s H vs Q E hr h=>?_)
 ·obtain⟨_,_,_,_,_,rfl,_⟩:=h
  rfl
 ·obtain⟨Pr,A,W,t,d,rfl,h,⟨x,n,rfl⟩,hl,ku,hf,cw,q⟩:=h
  refine⟨_,(ag (a8 (aS (pv 0) T.aj T.Ci (Kf T) (hr.mono (by decide)) T.JZ .nil aB (aa (by exact(aS (pv 0) T.aj T.cj (E_ T) (hr.mono (by decide)) T.JS .nil aB (aa (au ao (pv 1) ai (fun _ _=>rfl)) ae))) (aa (au ao (pv 1) ai (fun _ _=>rfl)) ae)))) (ah (aw av))),?_⟩
  obtain⟨dx,h1⟩:=h.ph.ob
  dsimp! [T.aV]
  obtain⟨i,fs,w,g1,g2,g3,g4⟩:=h.ok.Aa (W.wanted hl List.mem_cons_self)
  have e:W.step (.words x n)=⟨W.g,W.ts.set i (.plain fs (some n)),W.hs⟩:=by show W.nq n (W.tg x)=_; rw [g3]; rfl
  rw [e] at q
  exact⟨dx,_,h1,aT,dx,_,h1,aT,bF h.de rfl ⟨Pr,A,W.g,W.ts,W.hs,x,_,rfl,h.ph,g1,bF h.de rfl ⟨Pr,A,W.g,W.ts,W.hs,i,fs,w,some n,rfl,h.ph,g2,q⟩⟩⟩
theorem T2 (T:Txt K mg a):aY P w K mg base cX 6 a.mJ a.yH ["heap","deed"] (gj a K (fun d=>∃x i y,d=.put x i y)):=by
 refine T.mY.ok SU (fun vs H Q E h=>?_) (fun cv A outer s H vs Q E hr h=>?_)
 ·obtain⟨_,_,_,_,_,rfl,_⟩:=h
  rfl
 ·obtain⟨Pr,A,W,t,d,rfl,h,⟨x,i,y,rfl⟩,hl,ku,hf,cw,q⟩:=h
  refine⟨_,(ag (a8 (aS (pv 0) T.aj T.JY (Tu T) (hr.mono (by decide)) T.O5 .nil aB (aa (by exact(aS (pv 0) T.aj T.cj (E_ T) (hr.mono (by decide)) T.JS .nil aB (aa (au ao (pv 1) ai (fun _ _=>rfl)) ae))) (aa (au ao (pv 1) ai (fun _ _=>rfl)) (aa (by exact(aS (pv 0) T.aj T.aW (iI T) (hr.mono (by decide)) T.nH .nil aB (aa (au ao (pv 1) ai (fun _ _=>rfl)) ae))) ae))))) (ah (aw av))),?_⟩
  obtain⟨dx,h1⟩:=h.ph.ob
  dsimp! [T.aV]
  obtain⟨j,fs,w,g1,g2,g3,g4⟩:=h.ok.Aa (W.wanted hl List.mem_cons_self)
  have e:W.step (.put x i y)=⟨W.g,W.ts.set j (.plain (fs.set i (W.g y)) w),W.hs⟩:=by show W.nu i (W.g y) (W.tg x)=_; rw [g3]; rfl
  rw [e] at q
  have hi:i < fs.length:=by
   rw [←g4]
   exact of_decide_eq_true (by simpa [Wd.dg,De.jW] using ku)
  exact⟨dx,_,h1,aT,dx,_,h1,aT,bF h.de rfl ⟨Pr,A,W.g,W.ts,W.hs,x,_,rfl,h.ph,g1,bF h.de rfl ⟨dx,_,h1,aT,bF h.de rfl ⟨Pr,A,W.g,W.ts,W.hs,y,rfl,h.ph,fun u hu=>⟨Pr,A,W.g,W.ts,W.hs,j,i,fs,w,u,_,rfl,h.ph,g2,hi,hu,q⟩⟩⟩⟩⟩
theorem T3 (T:Txt K mg a):aY P w K mg base cX 4 a.mK a.yI ["heap","deed"] (gj a K (fun d=>∃x y i,d=.get x y i)):=by
 refine T.mZ.ok SV (fun vs H Q E h=>?_) (fun cv A outer s H vs Q E hr h=>?_)
 ·obtain⟨_,_,_,_,_,rfl,_⟩:=h
  rfl
 ·obtain⟨Pr,A,W,t,d,rfl,h,⟨x,y,i,rfl⟩,hl,ku,hf,cw,q⟩:=h
  refine⟨_,(ag (a8 (aS (pv 0) T.aj T.aX (nj T) (hr.mono (by decide)) T.u6 .nil aB (aa (au ao (pv 1) ai (fun _ _=>rfl)) (aa (au dA (dR (L:=[(a.bR,dN a K),(a.aL,dN a K),(a.aU,dN a K)]) (aS (pv 0) T.aj T.bU (Fb T) (hr.mono (by decide)) T.JT .nil aB (aa (au ao (pv 1) ai (fun _ _=>rfl)) ae)) (List.forall_mem_cons.mpr ⟨⟨_,_,_,_,T.dq,T.lS,dP T,hr.mono (by decide),T.fc⟩,List.forall_mem_cons.mpr ⟨⟨_,_,_,_,T.aP,T.bI,dP T,hr.mono (by decide),T.fc⟩,List.forall_mem_cons.mpr ⟨⟨_,_,_,_,T.bM,T.bO,dP T,hr.mono (by decide),T.fc⟩,List.forall_mem_nil _⟩⟩⟩) .nil aB) (au ao (pv 1) ai (fun _ _=>rfl)) (fun _ _=>rfl)) ae)))) (ah (aw av))),?_⟩
  obtain⟨dx,h1⟩:=h.ph.ob
  dsimp! [T.aV]
  obtain⟨j,fs,w,g1,g2,g3,g4⟩:=h.ok.Aa (W.wanted hl List.mem_cons_self)
  have hi:i < fs.length:=by
   rw [←g4]
   exact of_decide_eq_true (by simpa [Wd.dg,De.jW] using ku)
  have e:W.step (.get x y i)=W.dD x fs[i]:=by
   show W.dD x ((W.fs y).getD i .no)=_
   rw [g4,List.getD_eq_getElem?_getD,List.getElem?_eq_getElem hi]
   rfl
  rw [e] at q
  refine⟨dx,_,h1,aT,bF h.de rfl ⟨dx,_,h1,aT,bF h.de rfl ⟨Pr,A,W.g,W.ts,W.hs,y,j,_,rfl,h.ph,g1,g2,fun p d2 hT=>?_⟩⟩⟩
  obtain⟨Lr,Cv⟩:=hT.ob
  refine⟨p,rfl,_,_,_,Cv,(Tg.plain fs w).no d2,_,(Tg.plain fs w).mem _,p,d2,_,rfl,hT,fun r xs hr ll hz=>?_⟩
  have s1:=ar.put (o:=.lst xs) hr
  have hx:xs[i]?=some (xs[i]'(by have:=ll.1; have e3:(Tg.plain fs w).fs=fs:=rfl; rw [e3] at this; omega)):=List.getElem?_eq_getElem _
  exact bF (s1.bT h.de) rfl (GS (bN.of af) (dz hx) ⟨Pr,A,W.g,W.ts,W.hs,x,_,_,rfl,h.ph.same s1,hf.1,(ll.2 i _ _ hx (List.getElem?_eq_getElem hi)).same s1,fun H' k ph=>q H' ((ar.kp s1).trans k) ph⟩)
theorem T4 (T:Txt K mg a):aY P w K mg base cX 3 a.mL a.yJ ["heap","deed"] (gj a K (fun d=>∃x y,d=.look x y)):=by
 refine T.m3.ok SW (fun vs H Q E h=>?_) (fun cv A outer s H vs Q E hr h=>?_)
 ·obtain⟨_,_,_,_,_,rfl,_⟩:=h
  rfl
 ·obtain⟨Pr,A,W,t,d,rfl,h,⟨x,y,rfl⟩,hl,ku,hf,cw,q⟩:=h
  refine⟨_,(ag (a8 (aS (pv 0) T.aj T.aX (nj T) (hr.mono (by decide)) T.u6 .nil aB (aa (au ao (pv 1) ai (fun _ _=>rfl)) (aa (by exact(aS (pv 0) T.aj T.eE (Xf T) (hr.mono (by decide)) T.W3 .nil aB (aa (by exact(aS (pv 0) T.aj T.cj (E_ T) (hr.mono (by decide)) T.JS .nil aB (aa (au ao (pv 1) ai (fun _ _=>rfl)) ae))) ae))) ae)))) (ah (aw av))),?_⟩
  obtain⟨dx,h1⟩:=h.ph.ob
  dsimp! [T.aV]
  obtain⟨j,f,g1,g2,g3,g4⟩:=h.ok.Xr (W.wanted hl List.mem_cons_self)
  have e:W.step (.look x y)=W.dD x f:=by
   show W.dD x ((W.fs y).getD 0 .no)=_
   rw [g4]
   rfl
  rw [e] at q
  exact⟨dx,_,h1,aT,bF h.de rfl ⟨dx,_,h1,aT,dx,_,h1,aT,bF h.de rfl ⟨Pr,A,W.g,W.ts,W.hs,y,_,rfl,h.ph,g1,Pr,A,W.g,W.ts,W.hs,j,_,f,rfl,h.ph,g2,rfl,fun u H1 s1 hu=>⟨Pr,A,W.g,W.ts,W.hs,x,_,_,rfl,h.ph.same s1,hf.1,hu,fun H' k ph=>q H' ((ar.kp s1).trans k) ph⟩⟩⟩⟩
theorem T5 (T:Txt K mg a):aY P w K mg base cX 4 a.mM a.yK ["heap","deed"] (gj a K (fun d=>∃x y z,d=.find x y z)):=by
 refine T.m4.ok Jp (fun vs H Q E h=>?_) (fun cv A outer s H vs Q E hr h=>?_)
 ·obtain⟨_,_,_,_,_,rfl,_⟩:=h
  rfl
 ·obtain⟨Pr,A,W,t,d,rfl,h,⟨x,y,z,rfl⟩,hl,ku,hf,cw,q⟩:=h
  refine⟨_,(ag (bc (i:=2) Jp.nd rfl (Or.inl rfl) (dR (L:=[(a.bR,dN a K),(a.aL,dN a K),(a.aU,dN a K)]) (aS (pv 0) T.aj T.bU (Fb T) (hr.mono (by decide)) T.JT .nil aB (aa (au ao (pv 1) ai (fun _ _=>rfl)) ae)) (List.forall_mem_cons.mpr ⟨⟨_,_,_,_,T.dq,T.lS,dP T,hr.mono (by decide),T.fc⟩,List.forall_mem_cons.mpr ⟨⟨_,_,_,_,T.aP,T.bI,dP T,hr.mono (by decide),T.fc⟩,List.forall_mem_cons.mpr ⟨⟨_,_,_,_,T.bM,T.bO,dP T,hr.mono (by decide),T.fc⟩,List.forall_mem_nil _⟩⟩⟩) .nil aB)) (ag (a8 (aS (pv 0) T.aj T.aX (nj T) (hr.mono (by decide)) T.u6 .nil aB (aa (au ao (pv 1) ai (fun _ _=>rfl)) (aa (eV (aC (gE hr.units) (au dA (pv 2) ai (fun _ _=>rfl)) (aS (pv 0) T.aj T.aW (iI T) (hr.mono (by decide)) T.nH .nil aB (aa (au ao (pv 1) ai (fun _ _=>rfl)) ae)) (aI _)) (au dA (pv 2) ai (fun _ _=>rfl)) (bJ (v:=.ref a.ba) rfl T.aV rfl)) ae)))) (ah (aw av)))),?_⟩
  obtain⟨dx,h1⟩:=h.ph.ob
  dsimp! [T.aV]
  obtain⟨j,k,v,g1,g2,g3,g4⟩:=h.ok.Xs (W.wanted hl List.mem_cons_self)
  have e:W.step (.find x y z)=W.dD x (if bp (vD k) (vD (W.g z))=true then v else .no):=by
   show W.dD x (if bp (vD ((W.fs y).getD 0 .no)) (vD (W.g z))=true then(W.fs y).getD 1 .no else .no)=_
   rw [g4]
   rfl
  rw [e] at q
  refine⟨dx,_,h1,aT,bF h.de rfl ⟨Pr,A,W.g,W.ts,W.hs,y,j,_,rfl,h.ph,g1,g2,fun p d2 hT=>?_⟩⟩
  obtain⟨Lr,Cv⟩:=hT.ob
  refine⟨p,rfl,_,_,_,Cv,(Tg.pair k v).no d2,_,(Tg.pair k v).mem _,p,d2,_,rfl,hT,fun r xs hr ll hz=>?_⟩
  have s1:=ar.put (o:=.lst xs) hr
  have kG:[k,v].length=xs.length:=ll.1
  have L9:xs[0]?=some (xs[0]'(by rw [←kG,List.length_cons,List.length_singleton]; decide)):=List.getElem?_eq_getElem _
  have Lq:xs[1]?=some (xs[1]'(by rw [←kG,List.length_cons,List.length_singleton]; decide)):=List.getElem?_eq_getElem _
  refine⟨dx,_,s1 _ _ h1,aT,bF (s1.bT h.de) rfl (GS (bN.of af) (dz (j:=0) L9) ⟨dx,_,s1 _ _ h1,aT,bF (s1.bT h.de) rfl ⟨Pr,A,W.g,W.ts,W.hs,z,rfl,h.ph.same s1,fun u hu=>?_⟩⟩)⟩
  refine⟨_,_,((ll.2 0 _ _ L9 rfl).same s1).rG,hu.rG,by rw [jV]; decide,_,rfl,?_⟩
  refine bu (fun c=>?_) fun c=>?_
  ·have c2:bp (vD k) (vD (W.g z))=true:=c
   rw [if_pos c2] at q
   exact GS (bN.of af) (dz (j:=1) Lq) ⟨Pr,A,W.g,W.ts,W.hs,x,_,_,rfl,h.ph.same s1,hf.1,(ll.2 1 _ _ Lq rfl).same s1,fun H' k ph=>q H' ((ar.kp s1).trans k) ph⟩
  ·have c2:¬bp (vD k) (vD (W.g z))=true:=c
   rw [if_neg c2] at q
   exact⟨Pr,A,W.g,W.ts,W.hs,x,_,.no,rfl,h.ph.same s1,hf.1,⟨_,rfl,T.cZ _⟩,fun H' k ph=>q H' ((ar.kp s1).trans k) ph⟩
theorem T6 (T:Txt K mg a):aY P w K mg base cX 2 a.mN a.yL ["heap","deed"] (gj a K (fun d=>∃x y,d=.copy x y)):=by
 refine T.m5.ok SX (fun vs H Q E h=>?_) (fun cv A outer s H vs Q E hr h=>?_)
 ·obtain⟨_,_,_,_,_,rfl,_⟩:=h
  rfl
 ·obtain⟨Pr,A,W,t,d,rfl,h,⟨x,y,rfl⟩,hl,ku,hf,cw,q⟩:=h
  refine⟨_,(ag (a8 (aS (pv 0) T.aj T.aX (nj T) (hr.mono (by decide)) T.u6 .nil aB (aa (au ao (pv 1) ai (fun _ _=>rfl)) (aa (by exact(aS (pv 0) T.aj T.aW (iI T) (hr.mono (by decide)) T.nH .nil aB (aa (au ao (pv 1) ai (fun _ _=>rfl)) ae))) ae)))) (ah (aw av))),?_⟩
  obtain⟨dx,h1⟩:=h.ph.ob
  dsimp! [T.aV]
  exact⟨dx,_,h1,aT,bF h.de rfl ⟨dx,_,h1,aT,bF h.de rfl ⟨Pr,A,W.g,W.ts,W.hs,y,rfl,h.ph,fun u hu=>⟨Pr,A,W.g,W.ts,W.hs,x,_,_,rfl,h.ph,hf.1,hu,q⟩⟩⟩⟩
theorem T7 (T:Txt K mg a):aY P w K mg base cX 2 a.mO a.yM ["heap","deed"] (gj a K (fun d=>∃x,d=.drop x)):=by
 refine T.m6.ok SY (fun vs H Q E h=>?_) (fun cv A outer s H vs Q E hr h=>?_)
 ·obtain⟨_,_,_,_,_,rfl,_⟩:=h
  rfl
 ·obtain⟨Pr,A,W,t,d,rfl,h,⟨x,rfl⟩,hl,ku,hf,cw,q⟩:=h
  refine⟨_,(ag (a8 (aS (pv 0) T.aj T.aX (nj T) (hr.mono (by decide)) T.u6 .nil aB (aa (au ao (pv 1) ai (fun _ _=>rfl)) (aa (bJ (v:=.ref a.ba) rfl T.aV rfl) ae)))) (ah (aw av))),?_⟩
  obtain⟨dx,h1⟩:=h.ph.ob
  dsimp! [T.aV]
  exact⟨dx,_,h1,aT,bF h.de rfl ⟨Pr,A,W.g,W.ts,W.hs,x,_,.no,rfl,h.ph,hf.1,⟨_,rfl,T.cZ _⟩,q⟩⟩
theorem T8 (T:Txt K mg a):aY P w K mg base cX 2 a.mP a.yN ["heap","deed"] (gj a K (fun d=>∃x,d=.tell x)):=by
 refine T.m7.ok Jq (fun vs H Q E h=>?_) (fun cv A outer s H vs Q E hr h=>?_)
 ·obtain⟨_,_,_,_,_,rfl,_⟩:=h
  rfl
 ·obtain⟨Pr,A,W,t,d,rfl,h,⟨x,rfl⟩,hl,ku,hf,cw,q⟩:=h
  refine⟨_,(ag (bc (i:=2) Jq.nd rfl (Or.inl rfl) (aS (pv 0) T.aj T.aW (iI T) (hr.mono (by decide)) T.nH .nil aB (aa (au ao (pv 1) ai (fun _ _=>rfl)) ae))) (ah (aw (eV (aC b7 (au ao (pv 2) ai (fun _ _=>rfl)) av (aI _)) (dy jc rfl T.gh fQ (aa (au ao (pv 2) ai (fun _ _=>rfl)) ae)) (au ao (pv 2) ai (fun _ _=>rfl)))))),?_⟩
  obtain⟨dx,h1⟩:=h.ph.ob
  dsimp! [T.aV]
  refine⟨dx,_,h1,aT,bF h.de rfl ⟨Pr,A,W.g,W.ts,W.hs,x,rfl,h.ph,fun u hu=>?_⟩⟩
  have q:=q H (Kp.refl _ _) h.ph
  have ok:=h.ok.g x
  have e:W.Bt (.tell x)=(W.g x).told:=rfl
  rw [e] at q
  cases e:W.g x with
  | no=>
   rw [e] at hu q
   obtain⟨r,rfl,hr⟩:=hu
   exact bF hr rfl ⟨rfl,bu (fun z=>absurd (V.str.inj (of_decide_eq_true z)) (by decide +kernel)) fun _=>bF hr rfl q⟩
  | th n=>
   rw [e] at hu q
   obtain⟨r,rfl,hr⟩:=hu
   exact bF hr rfl ⟨rfl,bu (fun z=>absurd (V.str.inj (of_decide_eq_true z)) (by decide +kernel)) fun _=>bF hr rfl q⟩
  | num n=>
   rw [e] at hu q ok
   obtain⟨r,rfl,hr⟩:=hu
   exact bF hr rfl ⟨rfl,bu (fun _=>bF hr rfl (.inl ⟨n,rfl,xn.log ok,q⟩)) fun z=>absurd (decide_eq_true rfl) z⟩
theorem T9 (T:Txt K mg a):aY P w K mg base cX 2 a.mQ a.yO ["heap","deed"] (gj a K (fun d=>∃x y,d=.same x y)):=by
 refine T.m8.ok S0 (fun vs H Q E h=>?_) (fun cv A outer s H vs Q E hr h=>?_)
 ·obtain⟨_,_,_,_,_,rfl,_⟩:=h
  rfl
 ·obtain⟨Pr,A,W,t,d,rfl,h,⟨x,y,rfl⟩,hl,ku,hf,cw,q⟩:=h
  refine⟨_,(ah (aw (eV (aC (gE hr.units) (aS (pv 0) T.aj T.aW (iI T) (hr.mono (by decide)) T.nH .nil aB (aa (au ao (pv 1) ai (fun _ _=>rfl)) ae)) (aS (pv 0) T.aj T.aW (iI T) (hr.mono (by decide)) T.nH .nil aB (aa (au ao (pv 1) ai (fun _ _=>rfl)) ae)) (aI _)) av av))),?_⟩
  obtain⟨dx,h1⟩:=h.ph.ob
  dsimp! [T.aV]
  refine⟨dx,_,h1,aT,bF h.de rfl ⟨Pr,A,W.g,W.ts,W.hs,x,rfl,h.ph,fun u hu=>⟨dx,_,h1,aT,bF h.de rfl ⟨Pr,A,W.g,W.ts,W.hs,y,rfl,h.ph,fun u2 Ko=>⟨_,_,hu.rG,Ko.rG,by rw [jV]; decide,_,rfl,?_⟩⟩⟩⟩⟩
  have q:=q H (Kp.refl _ _) h.ph
  have e:W.Bt (.same x y)=if bp (vD (W.g x)) (vD (W.g y))=true then("yes":Str)else("no":Str):=rfl
  rw [e] at q
  refine bu (fun c=>?_) fun c=>?_
  ·have c2:bp (vD (W.g x)) (vD (W.g y))=true:=c
   rw [if_pos c2] at q
   exact q
  ·have c2:¬bp (vD (W.g x)) (vD (W.g y))=true:=c
   rw [if_neg c2] at q
   exact q
theorem T_ (T:Txt K mg a):aY P w K mg base cX 2 a.mR a.yP ["heap","deed"] (gj a K (fun d=>∃x,d=.hear x)):=by
 refine T.m9.ok Jr (fun vs H Q E h=>?_) (fun cv A outer s H vs Q E hr h=>?_)
 ·obtain⟨_,_,_,_,_,rfl,_⟩:=h
  rfl
 ·obtain⟨Pr,A,W,t,d,rfl,h,⟨x,rfl⟩,hl,ku,hf,cw,q⟩:=h
  refine⟨_,(ag (bc (i:=2) Jr.nd rfl (Or.inl rfl) (dO (pv 0) T.aj T.en (Xg T) (hr.mono (by decide)) T.W5 .nil aB)) (ag (a8 (aS (pv 0) T.aj T.aX (nj T) (hr.mono (by decide)) T.u6 .nil aB (aa (au ao (pv 1) ai (fun _ _=>rfl)) (aa (eV (aC iz (pv 2) bV (aI _)) (bJ (v:=.ref a.ba) rfl T.aV rfl) (bf (aa av (aa (au ao (pv 2) ai (fun _ _=>rfl)) ae)))) ae)))) (ah (aw (eV (aC iz (pv 2) bV (aI _)) av (dy jc rfl T.gh fQ (aa (au ao (pv 2) ai (fun _ _=>rfl)) ae))))))),?_⟩
  obtain⟨dx,h1⟩:=h.ph.ob
  dsimp! [T.aV]
  refine⟨dx,_,h1,aT,Pr,A,W.g,W.ts,W.hs,rfl,h.ph,fun e=>?_,fun r jg u H1 e k1 ph1 hu=>?_⟩
  ·have e1:W.step (.hear x)=W.dD x .no:=by show W.qh x W.hs=_; rw [e]; rfl
   have e2:W.Bt (.hear x)="none":=by show z9 W.hs=_; rw [e]; rfl
   rw [e1,e2] at q
   exact⟨dx,_,h1,aT,bF h.de rfl (bu (fun _=>⟨Pr,A,W.g,W.ts,W.hs,x,_,.no,rfl,h.ph,hf.1,⟨_,rfl,T.cZ _⟩,fun H' k ph=>bu (fun _=>q H' k ph) fun z=>absurd (decide_eq_true rfl) z⟩) fun z=>absurd (decide_eq_true rfl) z)⟩
  ·have e1:W.step (.hear x)=(Wd.mk W.g W.ts jg).dD x (.th (r.1:Nat)):=by show W.qh x W.hs=_; rw [e]; rfl
   have e2:W.Bt (.hear x)=(toString r.2:String):=by show z9 W.hs=_; rw [e]; rfl
   rw [e1,e2] at q
   have hn:=(h.ok.hs r (by rw [e]; exact List.mem_cons_self)).2
   have hde:=k1.bT h.ph.mu h.de
   obtain⟨dx1,o1⟩:=ph1.ob
   refine⟨dx1,_,o1,aT,bF hde rfl (bu (fun z=>by cases (of_decide_eq_true z)) fun _=>bF hu rfl ⟨by decide,fun p hp=>?_⟩)⟩
   have s1:=ar.put (o:=.tup [.str "thing",.int (r.1:Int)]) hp
   refine⟨Pr,A,W.g,W.ts,jg,x,_,.th (r.1:Nat),rfl,ph1.same s1,hf.1,⟨p,rfl,bZ.of af⟩,fun H' k ph=>bu (fun z=>by cases (of_decide_eq_true z)) fun _=>?_⟩
   exact bF (k.bT (ph1.same s1).mu (s1.bT hu)) rfl (.inl ⟨_,rfl,xn.log hn,q H' (k1.trans ((ar.kp s1).trans k)) ph⟩)
noncomputable def Wd.refuse (W:Wd) (d:De):Option Str:=if W.ff d=true then some "no thing" else if W.dg d=true then some "no field" else none
noncomputable def oV:Option Str→V
 | none=>.bj
 | some s=>.str s
noncomputable def Cz (a:eP) (K:PySem.W.Frag):Sp:=fun vs H Q _=>∃Pr A W t d,vs=[.ref A.p,.ref t]∧Cy a K Pr H A W t d∧∀H',ar H H'→Q (oV (W.refuse d)) H'
theorem Xt (T:Txt K mg a):aY P w K mg base cX 7 a.Gb a.JH ["self","deed"] (Cz a K):=by
 refine T.Ce.ok WE (fun vs H Q E h=>?_) (fun cv A outer s H vs Q E hr h=>?_)
 ·obtain⟨_,_,_,_,_,rfl,_⟩:=h
  rfl
 ·obtain⟨Pr,A,W,t,d,rfl,h,q⟩:=h
  refine⟨_,(ag (aR (cJ (aM (TL T) (hr.mono (by decide)) rfl T.OM T.pI.kp T.OL .nil aB (aa (pv 0) (aa (pv 1) ae)))) (ah (aw (bJ (v:=.str "no thing") rfl T.fw ⟨_,rfl⟩))) aH) (ag (aR (cJ (aM (TN T) (hr.mono (by decide)) rfl T.OO T.pJ.kp T.ON .nil aB (aa (pv 0) (aa (pv 1) ae)))) (ah (aw (bJ (v:=.str "no field") rfl T.fz ⟨_,rfl⟩))) aH) (ah (aw bV)))),?_⟩
  dsimp! [T.fw,T.fz]
  refine⟨Pr,A,W,t,d,rfl,h,fun H1 s1=>⟨_,rfl,bu (fun c=>?_) fun c=>?_⟩⟩
  ·have e:W.refuse d=some ("no thing":Str):=by unfold Wd.refuse; rw [if_pos c]
   rw [e] at q
   exact q H1 s1
  ·refine⟨Pr,A,W,t,d,rfl,⟨h.ph.same s1,h.ok,s1.bT h.de⟩,Bool.eq_false_iff.mpr c,fun H2 s2=>⟨_,rfl,bu (fun c2=>?_) fun c2=>?_⟩⟩
   ·have e:W.refuse d=some ("no field":Str):=by unfold Wd.refuse; rw [if_neg c,if_pos c2]
    rw [e] at q
    exact q H2 (s1.trans s2)
   ·have e:W.refuse d=none:=by unfold Wd.refuse; rw [if_neg c,if_neg c2]
    rw [e] at q
    exact q H2 (s1.trans s2)
noncomputable def Ff (a:eP) (K:PySem.W.Frag):Sp:=gj a K fun _=>True
theorem Xu (T:Txt K mg a):aY P w K mg base cX 7 a.Gd a.JI ["self","deed"] (Ff a K):=by
 refine T.Cf.ok WG (fun vs H Q E h=>?_) (fun cv A outer s H vs Q E hr h=>?_)
 ·obtain⟨_,_,_,_,_,rfl,_⟩:=h
  rfl
 ·obtain⟨Pr,A,W,t,d,rfl,h,_,hl,ku,hf,cw,q⟩:=h
  refine⟨_,(ah (aw (HV (L:=[(a.mH,_),(a.hG,_),(a.mI,_),(a.mJ,_),(a.mK,_),(a.mL,_),(a.mM,_),(a.mN,_),(a.mO,_),(a.mP,_),(a.mQ,_),(a.mR,_)]) (Me T.zY (bJ (v:=.ref a.fN) rfl T.u_ rfl) (au ao (pv 1) ai (fun _ _=>rfl)) (fun _ _=>rfl)) (List.forall_mem_cons.mpr ⟨⟨_,_,_,T.mW.kp,TX T,hr.mono (by decide),T.OR⟩,List.forall_mem_cons.mpr ⟨⟨_,_,_,T.jC.kp,TY T,hr.mono (by decide),T.OS⟩,List.forall_mem_cons.mpr ⟨⟨_,_,_,T.mX.kp,TZ T,hr.mono (by decide),T.OT⟩,List.forall_mem_cons.mpr ⟨⟨_,_,_,T.mY.kp,T2 T,hr.mono (by decide),T.OU⟩,List.forall_mem_cons.mpr ⟨⟨_,_,_,T.mZ.kp,T3 T,hr.mono (by decide),T.OV⟩,List.forall_mem_cons.mpr ⟨⟨_,_,_,T.m3.kp,T4 T,hr.mono (by decide),T.OW⟩,List.forall_mem_cons.mpr ⟨⟨_,_,_,T.m4.kp,T5 T,hr.mono (by decide),T.OX⟩,List.forall_mem_cons.mpr ⟨⟨_,_,_,T.m5.kp,T6 T,hr.mono (by decide),T.OY⟩,List.forall_mem_cons.mpr ⟨⟨_,_,_,T.m6.kp,T7 T,hr.mono (by decide),T.OZ⟩,List.forall_mem_cons.mpr ⟨⟨_,_,_,T.m7.kp,T8 T,hr.mono (by decide),T.O0⟩,List.forall_mem_cons.mpr ⟨⟨_,_,_,T.m8.kp,T9 T,hr.mono (by decide),T.O1⟩,List.forall_mem_cons.mpr ⟨⟨_,_,_,T.m9.kp,T_ T,hr.mono (by decide),T.O2⟩,List.forall_mem_nil _⟩⟩⟩⟩⟩⟩⟩⟩⟩⟩⟩⟩) .nil aB (aa (pv 0) (aa (pv 1) ae))))),?_⟩
  dsimp! [T.u_,HU]
  refine bF h.de d.hd ⟨d.word,rfl,?_⟩
  cases d with
  | num x n=>exact⟨a.mH,by kernel_rfl,_,.head _,Pr,A,W,t,rfl,_,h,⟨x,n,rfl⟩,hl,ku,hf,cw,q⟩
  | make x n=>exact⟨a.hG,by kernel_rfl,_,.tail _ (.head _),Pr,A,W,t,rfl,_,h,rfl,hl,ku,hf,cw,q⟩
  | weak x y=>exact⟨a.hG,by kernel_rfl,_,.tail _ (.head _),Pr,A,W,t,rfl,_,h,rfl,hl,ku,hf,cw,q⟩
  | pair x y z=>exact⟨a.hG,by kernel_rfl,_,.tail _ (.head _),Pr,A,W,t,rfl,_,h,rfl,hl,ku,hf,cw,q⟩
  | words x n=>exact⟨a.mI,by kernel_rfl,_,.tail _ (.tail _ (.head _)),Pr,A,W,t,rfl,_,h,⟨x,n,rfl⟩,hl,ku,hf,cw,q⟩
  | put x i y=>exact⟨a.mJ,by kernel_rfl,_,.tail _ (.tail _ (.tail _ (.head _))),Pr,A,W,t,rfl,_,h,⟨x,i,y,rfl⟩,hl,ku,hf,cw,q⟩
  | get x y i=>exact⟨a.mK,by kernel_rfl,_,.tail _ (.tail _ (.tail _ (.tail _ (.head _)))),Pr,A,W,t,rfl,_,h,⟨x,y,i,rfl⟩,hl,ku,hf,cw,q⟩
  | look x y=>exact⟨a.mL,by kernel_rfl,_,.tail _ (.tail _ (.tail _ (.tail _ (.tail _ (.head _))))),Pr,A,W,t,rfl,_,h,⟨x,y,rfl⟩,hl,ku,hf,cw,q⟩
  | find x y z=>exact⟨a.mM,by kernel_rfl,_,.tail _ (.tail _ (.tail _ (.tail _ (.tail _ (.tail _ (.head _)))))),Pr,A,W,t,rfl,_,h,⟨x,y,z,rfl⟩,hl,ku,hf,cw,q⟩
  | copy x y=>exact⟨a.mN,by kernel_rfl,_,.tail _ (.tail _ (.tail _ (.tail _ (.tail _ (.tail _ (.tail _ (.head _))))))),Pr,A,W,t,rfl,_,h,⟨x,y,rfl⟩,hl,ku,hf,cw,q⟩
  | drop x=>exact⟨a.mO,by kernel_rfl,_,.tail _ (.tail _ (.tail _ (.tail _ (.tail _ (.tail _ (.tail _ (.tail _ (.head _)))))))),Pr,A,W,t,rfl,_,h,⟨x,rfl⟩,hl,ku,hf,cw,q⟩
  | tell x=>exact⟨a.mP,by kernel_rfl,_,.tail _ (.tail _ (.tail _ (.tail _ (.tail _ (.tail _ (.tail _ (.tail _ (.tail _ (.head _))))))))),Pr,A,W,t,rfl,_,h,⟨x,rfl⟩,hl,ku,hf,cw,q⟩
  | same x y=>exact⟨a.mQ,by kernel_rfl,_,.tail _ (.tail _ (.tail _ (.tail _ (.tail _ (.tail _ (.tail _ (.tail _ (.tail _ (.tail _ (.head _)))))))))),Pr,A,W,t,rfl,_,h,⟨x,y,rfl⟩,hl,ku,hf,cw,q⟩
  | hear x=>exact⟨a.mR,by kernel_rfl,_,.tail _ (.tail _ (.tail _ (.tail _ (.tail _ (.tail _ (.tail _ (.tail _ (.tail _ (.tail _ (.tail _ (.head _))))))))))),Pr,A,W,t,rfl,_,h,⟨x,rfl⟩,hl,ku,hf,cw,q⟩
noncomputable def Mv (a:eP) (z:Str):Addr:=if z="no thing" then a.bW else a.bX
theorem abb:¬(("no field":Str)="no thing"):=by decide +kernel
noncomputable def Ua (a:eP):Sp:=fun vs H _ E=>∃z,vs=[.str z]∧(z="no thing"∨z="no field")∧∀x,H x=none→E (.ref (Mv a z)) (some x) (upd H x (.ext (XO (Mv a z) x none false)))
theorem Ub (T:Txt K mg a):aY P w K mg base (GR P w) 1 a.yu a.yv ["word"] (Ua a):=by
 refine T.pG.Lp SK (fun vs H Q E h=>?_) (fun cv A outer s H vs Q E hr h=>?_)
 ·obtain⟨_,rfl,_⟩:=h
  rfl
 ·obtain⟨z,rfl,hz,q⟩:=h
  refine⟨_,(ag (aR (aC b7 (pv 0) (bJ (v:=.str "no thing") rfl T.fw ⟨_,rfl⟩) (aI _)) (ah (jO (lQ T.gK T.gL rfl T.jQ (aa (pv 0) ae)))) aH) (ag (aR (aC b7 (pv 0) (bJ (v:=.str "no field") rfl T.fz ⟨_,rfl⟩) (aI _)) (ah (jO (lQ T.gM T.gO rfl T.jR (aa (pv 0) ae)))) aH) (ah (jO (lQ T.uw T.je rfl T.lT (aa (pv 0) ae)))))),?_⟩
  dsimp! [T.fw,T.fz,EZ,EY]
  refine bu (fun c=>?_) fun c=>?_
  ·have e:Mv a z=a.bW:=by unfold Mv; rw [if_pos (of_decide_eq_true c)]
   refine⟨by decide,fun x hx=>⟨_,_,T.gK,none,af,?_⟩⟩
   rw [og,←e]
   exact q x hx
  ·have nz:¬z="no thing":=fun y=>c (decide_eq_true y)
   have e:Mv a z=a.bX:=by unfold Mv; rw [if_neg nz]
   refine bu (fun c2=>⟨by decide,fun x hx=>⟨_,_,T.gM,none,af,?_⟩⟩) fun c2=>?_
   ·rw [og,←e]
    exact q x hx
   ·rcases hz with y | y
    ·exact absurd y nz
    ·exact absurd (decide_eq_true y) c2
noncomputable def Uc (a:eP) (K:PySem.W.Frag):Sp:=fun vs H Q E=>∃Pr A W t d,vs=[.ref A.p,.ref t]∧Cy a K Pr H A W t d∧d.fits∧W.ts.length < 500∧(W.refuse d=none→∀H',Kp A.own H H'→PW a K Pr H' A (W.step d)→Q (.str (W.Bt d)) H') ∧
 ∀z x H',W.refuse d=some z→(z="no thing"∨z="no field")→ar H H'→H x=none→H' x=some (.ext (XO (Mv a z) x none false))→E (.ref (Mv a z)) (some x) H'
theorem Ud (T:Txt K mg a):aY P w K mg base (GR P w) 8 a.yS a.yT ["self","deed"] (Uc a K):=by
 refine T.uf.Lp Js (fun vs H Q E h=>?_) (fun cv A outer s H vs Q E hr h=>?_)
 ·obtain⟨_,_,_,_,_,rfl,_⟩:=h
  rfl
 ·obtain⟨Pr,A,W,t,d,rfl,h,hf,cw,q1,q2⟩:=h
  refine⟨_,(ag (bc (i:=2) Js.nd rfl (Or.inl rfl) (aS (pv 0) T.aj T.eX (Xt T) (hr.mono (by decide)) T.W7 .nil aB (aa (pv 1) ae))) (ag (aR (aC uL (pv 2) bV (aI _)) (ah (a8 (aM (Ub T) (hr.mono (by decide)) rfl T.OI T.pG.kp T.OH .nil Wt (aa (pv 2) ae)))) aH) (ah (aw (aS (pv 0) T.aj T.fO (Xu T) (hr.mono (by decide)) T.W9 .nil aB (aa (pv 1) ae)))))),?_⟩
  obtain⟨dx,h1⟩:=h.ph.ob
  have f1:=aT (rv:=A.rv) (hd:=A.hd) (md:=A.md) (n:="refusal")
  dsimp! [h1,HO.ins.injEq,f1]
  refine⟨Pr,A,W,t,d,rfl,h,fun H1 s1=>?_⟩
  have go:W.refuse d=none→∃x x_1,H1 A.p=some (HO.ins a.aO x x_1)∧List.lookup (Str.ofString "done") x_1=none∧Ff a K [V.ref A.p,V.ref t] H1 Q E0:=fun e=>by
   have e1:W.ff d=false:=by
    cases c:W.ff d with
    | false=>rfl
    | true=>
     unfold Wd.refuse at e
     rw [if_pos c] at e
     cases e
   have e2:W.dg d=false:=by
    cases c:W.dg d with
    | false=>rfl
    | true=>
     unfold Wd.refuse at e
     rw [if_neg (by rw [e1]; simp),if_pos c] at e
     cases e
   exact⟨dx,_,s1 _ _ h1,aT,Pr,A,W,t,d,rfl,⟨h.ph.same s1,h.ok,s1.bT h.de⟩,trivial,e1,e2,hf,cw,fun H' k ph=>q1 e H' ((ar.kp s1).trans k) ph⟩
  cases e:W.refuse d with
  | none=>exact bu (fun c=>by cases c) fun _=>go e
  | some z=>
   have hz:z="no thing"∨z="no field":=by
    unfold Wd.refuse at e
    split at e
    ·cases e
     exact .inl rfl
    ·split at e
     ·cases e
      exact .inr rfl
     ·cases e
   refine bu (fun _=>⟨z,rfl,hz,fun x hx=>?_⟩) fun c=>absurd rfl c
   exact q2 z x _ e hz (s1.trans (ar.put hx)) (s1.free hx) af
structure LA where
 st:Addr
 d0:Addr
 d1:Addr
 l2:Addr
noncomputable def LA.own (L:LA) (b:Addr):Prop:=b=L.d0∨b=L.d1∨b=L.l2
noncomputable def Gm (kvs:List (Key×V)) (g:Str→Vl):Prop:=∀x u,bK kvs (Sum.inr x)=some u→g x≠.no
structure eu (K:PySem.W.Frag) (Pr:Addr→Prop) (H:Hp) (L:LA) (W:Wd):Prop where
 tu:bZ K H L.st [.ref L.d0,.ref L.d1,.ref L.l2]
 rt:∃kvs,H L.d0=some (.dK kvs)∧ni K H kvs W.g∧Gm kvs W.g
 th:∃rows:List (Addr×Addr),H L.d1=some (.dK (du rows))∧rows.length=W.ts.length∧(∀(i:Nat) q t,rows[i]?=some q→W.ts[i]?=some t→fI K H q.1 q.2 t)∧∀q∈rows,q.2≠L.l2∧¬Pr q.2
 he:∃xs,H L.l2=some (.lst xs)∧rF K H xs W.hs
 ne:L.d0≠L.d1
 pr:∀b,Pr b→H b≠none∧¬L.own b
 cw:W.ts.length≤500∧W.hs.length≤500
theorem some_of {H H':Hp}{b:Addr}(h:H b≠none) (k:∀o,H b=some o→H' b=some o):H' b≠none:=by
 cases e:H b with
 | none=>exact absurd e h
 | some u=>rw [k u e]; intro z; cases z
theorem fI.kp {S:Addr→Prop}{H H':Hp}{p l:Addr}{t:Tg}(h:fI K H p l t) (k:Kp S H H') (mu:∀b,S b→Mu H b) (hl:¬S l):fI K H' p l t:=by
 obtain⟨h1,xs,h2,h3,h4⟩:=h
 refine⟨k _ _ (fun z=>?_) h1,xs,k _ _ hl h2,h3.kp k mu,h4⟩
 rcases mu _ z with ⟨ys,m⟩ | ⟨ys,m⟩ <;> (rw [m] at h1; cases h1)
section
variable {Pr:Addr→Prop}{H H':Hp}{L:LA}{W:Wd}
theorem eu.same (h:eu K Pr H L W) (k:ar H H'):eu K Pr H' L W:=by
 obtain⟨kvs,h2,h3,Gn⟩:=h.rt
 obtain⟨ps,h4,h5,h6,h7⟩:=h.th
 obtain⟨xs,h8,h9⟩:=h.he
 exact⟨k.bT h.tu,⟨kvs,k _ _ h2,h3.same k,Gn⟩,⟨ps,k _ _ h4,h5,fun i q t a b=>(h6 i q t a b).same k,h7⟩,⟨xs,k _ _ h8,h9.same k⟩,h.ne,fun b hb=>⟨some_of (h.pr b hb).1 fun o=>k b o,(h.pr b hb).2⟩,h.cw⟩
theorem eu.mu (h:eu K Pr H L W):∀b,L.own b→Mu H b:=fun b z=>by
 rcases z with rfl | rfl | rfl
 ·obtain⟨kvs,h2,_⟩:=h.rt
  exact .inr ⟨_,h2⟩
 ·obtain⟨ps,h4,_⟩:=h.th
  exact .inr ⟨_,h4⟩
 ·obtain⟨xs,h8,_⟩:=h.he
  exact .inl ⟨_,h8⟩
theorem eu.kp {S:Addr→Prop}(h:eu K Pr H L W) (k:Kp S H H') (mu:∀b,S b→Mu H b) (sp:∀b,S b→Pr b) (so:∀b,S b→H' b≠none):eu K Pr H' L W:=by
 obtain⟨kvs,h2,h3,Gn⟩:=h.rt
 obtain⟨ps,h4,h5,h6,h7⟩:=h.th
 obtain⟨xs,h8,h9⟩:=h.he
 have no:∀b,L.own b→¬S b:=fun b z y=>(h.pr b (sp b y)).2 z
 refine⟨k.bT mu h.tu,⟨kvs,k _ _ (no _ (.inl rfl)) h2,h3.kp k mu,Gn⟩,⟨ps,k _ _ (no _ (.inr (.inl rfl))) h4,h5,fun i q t a b=>(h6 i q t a b).kp k mu fun z=>(h7 q (List.mem_of_getElem? a)).2 (sp _ z),h7⟩,⟨xs,k _ _ (no _ (.inr (.inr rfl))) h8,h9.kp k mu⟩,h.ne,fun b hb=>⟨?_,(h.pr b hb).2⟩,h.cw⟩
 by_cases z:S b
 ·exact so b z
 ·exact some_of (h.pr b hb).1 fun o=>k b o z
theorem eu.roots (h:eu K Pr H L W) {qg:List (Key×V)}{g':Str→Vl}(hr:ni K H qg g') (hn:Gm qg g'):eu K Pr (upd H L.d0 (.dK qg)) L ⟨g',W.ts,W.hs⟩:=by
 obtain⟨kvs,h2,h3,Gn⟩:=h.rt
 obtain⟨ps,h4,h5,h6,h7⟩:=h.th
 obtain⟨xs,h8,h9⟩:=h.he
 have k:Kp (·=L.d0) H (upd H L.d0 (.dK qg)):=(Kp.refl _ _).set rfl
 have mu:∀b,b=L.d0→Mu H b:=fun b e=>.inr ⟨kvs,by rw [e]; exact h2⟩
 refine⟨k.bT mu h.tu,⟨qg,af,hr.kp k mu,hn⟩,⟨ps,k _ _ h.ne.symm h4,h5,fun i q t a b=>(h6 i q t a b).kp k mu fun z=>?_,h7⟩,⟨xs,k _ _ (fun z=>by rw [z,h2] at h8; cases h8) h8,h9.kp k mu⟩,h.ne,fun b hb=>⟨some_of (h.pr b hb).1 fun o=>k b o fun z=>(h.pr b hb).2 (.inl z),(h.pr b hb).2⟩,h.cw⟩
 obtain⟨_,_,e,_⟩:=h6 i q t a b
 have z2:q.2=L.d0:=z
 rw [z2,h2] at e
 cases e
theorem eu.things (h:eu K Pr H L W) {E9:List (Addr×Addr)}{F0:List Tg}(hl:E9.length=F0.length) (PM:∀(i:Nat) q t,E9[i]?=some q→F0[i]?=some t→fI K H q.1 q.2 t) (hn:∀q∈E9,q.2≠L.l2∧¬Pr q.2) (cw:F0.length≤500):eu K Pr (upd H L.d1 (.dK (du E9))) L ⟨W.g,F0,W.hs⟩:=by
 obtain⟨kvs,h2,h3,Gn⟩:=h.rt
 obtain⟨ps,h4,h5,h6,h7⟩:=h.th
 obtain⟨xs,h8,h9⟩:=h.he
 have k:Kp (·=L.d1) H (upd H L.d1 (.dK (du E9))):=(Kp.refl _ _).set rfl
 have mu:∀b,b=L.d1→Mu H b:=fun b e=>.inr ⟨du ps,by rw [e]; exact h4⟩
 refine⟨k.bT mu h.tu,⟨kvs,k _ _ h.ne h2,h3.kp k mu,Gn⟩,⟨E9,af,hl,fun i q t a b=>(PM i q t a b).kp k mu fun z=>?_,hn⟩,⟨xs,k _ _ (fun z=>by rw [z,h4] at h8; cases h8) h8,h9.kp k mu⟩,h.ne,fun b hb=>⟨some_of (h.pr b hb).1 fun o=>k b o fun z=>(h.pr b hb).2 (.inr (.inl z)),(h.pr b hb).2⟩,cw,h.cw.2⟩
 obtain⟨_,_,e,_⟩:=PM i q t a b
 have z2:q.2=L.d1:=z
 rw [z2,h4] at e
 cases e
theorem eu.qe (h:eu K Pr H L W) {Mp:List V}{jg:List (Nat×Int)}(hr:rF K H Mp jg) (cw:jg.length≤500):eu K Pr (upd H L.l2 (.lst Mp)) L ⟨W.g,W.ts,jg⟩:=by
 obtain⟨kvs,h2,h3,Gn⟩:=h.rt
 obtain⟨ps,h4,h5,h6,h7⟩:=h.th
 obtain⟨xs,h8,h9⟩:=h.he
 have k:Kp (·=L.l2) H (upd H L.l2 (.lst Mp)):=(Kp.refl _ _).set rfl
 have mu:∀b,b=L.l2→Mu H b:=fun b e=>.inl ⟨xs,by rw [e]; exact h8⟩
 exact⟨k.bT mu h.tu,⟨kvs,k _ _ (fun z=>by rw [z,h8] at h2; cases h2) h2,h3.kp k mu,Gn⟩,⟨ps,k _ _ (fun z=>by rw [z,h8] at h4; cases h4) h4,h5,fun i q t a b=>(h6 i q t a b).kp k mu (h7 q (List.mem_of_getElem? a)).1,h7⟩,⟨Mp,af,hr.kp k mu⟩,h.ne,fun b hb=>⟨some_of (h.pr b hb).1 fun o=>k b o fun z=>(h.pr b hb).2 (.inr (.inr z)),(h.pr b hb).2⟩,h.cw.1,cw⟩
theorem eu.fresh (h:eu K Pr H L W) {d:Addr}(hd:H d=none):d≠L.l2∧¬Pr d:=⟨(fun z=>by
 obtain⟨xs,h8,_⟩:=h.he
 rw [←z,hd] at h8
 cases h8),fun z=>(h.pr d z).1 hd⟩
theorem eu.set (h:eu K Pr H L W) {ps:List (Addr×Addr)}{i:Nat}{q q':Addr×Addr}{t':Tg}(GQ:H L.d1=some (.dK (du ps))) (hq:ps[i]?=some q) (ht:fI K H q'.1 q'.2 t') (hn:q'.2≠L.l2∧¬Pr q'.2):eu K Pr (upd H L.d1 (.dK (putK (du ps) (Sum.inl ((i:Int)+1)) (.ref q'.1)))) L ⟨W.g,W.ts.set i t',W.hs⟩:=by
 obtain⟨z6,h4,h5,h6,h7⟩:=h.th
 have e:du z6=du ps:=by
  rw [GQ] at h4
  exact(HO.dK.inj (Option.some.inj h4)).symm
 have el:z6.length=ps.length:=by rw [←bS,←bS,e]
 have hi:=(List.getElem?_eq_some_iff.mp hq).1
 have Mq:z6[i]?=some (z6[i]'(by omega)):=List.getElem?_eq_getElem _
 rw [←e,E8 (q':=q') Mq]
 refine h.things (by rw [List.length_set,List.length_set]; exact h5) (fun j r t hr jM=>?_) (fun r hr=>?_) (by rw [List.length_set]; exact h.cw.1)
 ·rw [List.getElem?_set] at hr jM
  by_cases z:i=j
  ·subst z
   rw [if_pos rfl,if_pos (by omega)] at hr
   rw [if_pos rfl,if_pos (by omega)] at jM
   cases hr
   cases jM
   exact ht
  ·rw [if_neg z] at hr jM
   exact h6 j r t hr jM
 ·rcases List.mem_or_eq_of_mem_set hr with hr | rfl
  ·exact h7 r hr
  ·exact hn
theorem eu.new (h:eu K Pr H L W) {ps:List (Addr×Addr)}{q':Addr×Addr}{t':Tg}(GQ:H L.d1=some (.dK (du ps))) (ht:fI K H q'.1 q'.2 t') (hn:q'.2≠L.l2∧¬Pr q'.2) (cw:W.ts.length < 500):eu K Pr (upd H L.d1 (.dK (putK (du ps) (Sum.inl ((W.ts.length:Int)+1)) (.ref q'.1)))) L ⟨W.g,W.ts++[t'],W.hs⟩:=by
 obtain⟨z6,h4,h5,h6,h7⟩:=h.th
 have e:du z6=du ps:=by
  rw [GQ] at h4
  exact(HO.dK.inj (Option.some.inj h4)).symm
 rw [←e,←h5,vd]
 refine h.things (by rw [List.length_append,List.length_append,h5]; rfl) (fun j r t hr jM=>?_) (fun r hr=>?_) (by rw [List.length_append,List.length_singleton]; omega)
 ·by_cases z:j < z6.length
  ·rw [List.getElem?_append_left z] at hr
   rw [List.getElem?_append_left (by omega)] at jM
   exact h6 j r t hr jM
  ·have ej:j=z6.length:=by
    have:=(List.getElem?_eq_some_iff.mp hr).1
    rw [List.length_append,List.length_singleton] at this
    omega
   subst ej
   rw [List.getElem?_append_right (Nat.le_refl _),Nat.sub_self] at hr
   rw [h5,List.getElem?_append_right (Nat.le_refl _),Nat.sub_self] at jM
   cases hr
   cases jM
   exact ht
 ·rcases List.mem_append.mp hr with hr | hr
  ·exact h7 r hr
  ·rw [List.mem_singleton.mp hr]
   exact hn
theorem eu.at_ (h:eu K Pr H L W) {i:Nat}{t:Tg}(ht:W.ts[i]?=some t):∃rows q,H L.d1=some (.dK (du rows))∧rows[i]?=some q∧fI K H q.1 q.2 t∧fk H L.d1 (.int ((i:Int)+1)) (some (.ref q.1))∧rows.length=W.ts.length∧q.2≠L.l2∧¬Pr q.2:=by
 obtain⟨ps,h4,h5,h6,h7⟩:=h.th
 have hi:ps[i]?=some (ps[i]'(by have:=(List.getElem?_eq_some_iff.mp ht).1; omega)):=List.getElem?_eq_getElem _
 exact⟨ps,_,h4,hi,h6 i _ t hi ht,by rw [←lh hi]; exact fk.k (k:=Sum.inl ((i:Int)+1)) h4,h5,h7 _ (List.getElem_mem _)⟩
end
noncomputable def uB (K:PySem.W.Frag):Sp:=fun vs H Q _=>∃Pr L W x,vs=[.ref L.st,.str x]∧eu K Pr H L W∧∀u H',ar H H'→dJ K H' u (W.g x)→Q u H'
theorem eI (T:Txt K mg a):aY P w K mg base cX 1 a.zo a.zp ["_law_state","_law_root"] (uB K):=by
 refine T.ef.ok Tb (fun vs H Q E h=>?_) (fun cv A outer s H vs Q E hr h=>?_)
 ·obtain⟨_,_,_,_,rfl,_⟩:=h
  rfl
 ·obtain⟨Pr,L,W,x,rfl,h,q⟩:=h
  refine⟨_,(ah (aw (xR (cx hr) (au ao (pv 0) ai (fun _ _=>rfl)) (pv 1) (bf (aa av ae)) ⟨rfl,rfl,rfl,rfl⟩))),?_⟩
  dsimp! []
  obtain⟨kvs,h2,h3,_⟩:=h.rt
  refine bF h.tu rfl ⟨L.d0,rfl,.inl ⟨kvs,.inl h2⟩,by decide,fun p hp=>?_⟩
  have s1:=ar.put (o:=.tup [V.str (Str.ofString "nothing")]) hp
  refine⟨bK kvs (Sum.inr x),fk.k (k:=Sum.inr x) (s1 _ _ h2),?_⟩
  cases e:bK kvs (Sum.inr x)with
  | none=>exact q _ _ s1 (by rw [h3.no x e]; exact⟨p,rfl,bZ.of af⟩)
  | some u=>exact q _ _ s1 ((h3.at_ x u e).same s1)
noncomputable def Wd.Mw (W:Wd) (x s:Str):V:=if W.has x s=true then(match W.tg x with | some q=>.int ((q.1:Int)+1) | none=>.bj)else .bj
noncomputable def Gp (K:PySem.W.Frag):Sp:=fun vs H Q _=>∃Pr L W x s,vs=[.ref L.st,.str x,.str s]∧eu K Pr H L W∧W.ok∧∀H',ar H H'→Q (W.Mw x s) H'
theorem Ue (T:Txt K mg a):aY P w K mg base cX 2 a.zq a.zr ["_law_state","_law_root","_law_sort"] (Gp K):=by
 refine T.pO.ok Jv (fun vs H Q E h=>?_) (fun cv A outer s H vs Q E hr h=>?_)
 ·obtain⟨_,_,_,_,_,rfl,_⟩:=h
  rfl
 ·obtain⟨Pr,L,W,x,s,rfl,h,ok,q⟩:=h
  refine⟨_,(ag (bc (i:=3) Jv.nd rfl (Or.inl rfl) (aM (eI T) (hr.mono (by decide)) rfl T.ft T.ef.kp T.fq .nil aB (aa (pv 0) (aa (pv 1) ae)))) (ag (aR (PW.pt (fX (aC fZ (au ao (pv 3) ai (fun _ _=>rfl)) av (aI _)) (fh (PW.pt (uH (aC fZ (pv 2) av (aI _)) (oh (aC fZ (au ao (c9 (cx hr) (au ao (pv 0) ai (fun _ _=>rfl)) (au ao (pv 3) ai (fun _ _=>rfl)) (fun _ _=>rfl)) ai (fun _ _=>rfl)) (pv 2) (aI _)))))))) (ah (aw bV)) aH) (ah (aw (au ao (pv 3) ai (fun _ _=>rfl)))))),?_⟩
  dsimp! []
  refine⟨Pr,L,W,x,rfl,h,fun u H1 s1 hu=>?_⟩
  have h1:=h.same s1
  rcases ok.tg x with ⟨i,t,e1,e2,e3⟩ | ⟨e1,e2⟩
  ·rw [e1] at hu
   obtain⟨r,rfl,Fg⟩:=hu
   have e5:W.has x s=(decide (s="any") || decide (t.sort=s)):=by unfold Wd.has; rw [e3]
   have e6:W.Mw x s=if (decide (s="any") || decide (t.sort=s))=true then .int ((i:Int)+1)else .bj:=by unfold Wd.Mw; rw [e3,e5]
   have q1:=q H1 s1
   rw [e6] at q1
   refine bF Fg rfl ⟨rfl,bu (fun z=>by simp at z) fun _=>bu (fun z=>?_) fun z=>?_⟩
   ·have ns:¬s="any":=by simpa using z
    obtain⟨rows,qq,r1,r2,r3,r4,_⟩:=h1.at_ e2
    refine bF h1.tu rfl (bF Fg rfl ⟨L.d1,rfl,_,r4,bF (bZ.of r3.1) rfl ⟨rfl,bu (fun z2=>?_) fun z2=>?_⟩⟩)
    ·have nt:¬t.sort=s:=by simpa using z2
     rw [decide_eq_false ns,decide_eq_false nt] at q1
     exact q1
    ·have nt:t.sort=s:=by simpa using z2
     rw [decide_eq_true nt,Bool.or_true] at q1
     exact bF Fg rfl q1
   ·have ns:s="any":=by simpa using z
    rw [decide_eq_true ns,Bool.true_or] at q1
    exact bF Fg rfl q1
  ·have e6:W.Mw x s=.bj:=by
    unfold Wd.Mw Wd.has
    rw [e2]
    rfl
   have q1:=q H1 s1
   rw [e6] at q1
   obtain⟨r,rfl,Fg⟩:=hu
   refine bF Fg (Vl.hd _) ⟨rfl,bu (fun z=>q1) fun z=>?_⟩
   have c:(W.g x).word="thing":=by simpa using z
   rw [←(W.g x).is,c] at e1
   cases e1
theorem qi {kvs:List (Key×V)}{k:Key}:bK (cL kvs k) k=none:=by
 cases e:bK (cL kvs k) k with
 | none=>rfl
 | some u=>
  have h1:=(List.mem_filter.mp (qf e)).2
  exact absurd rfl (of_decide_eq_true h1)
theorem gR {kvs:List (Key×V)}{k j:Key}(h:¬j=k):bK (cL kvs k) j=bK kvs j:=by
 unfold bK cL
 rw [List.find?_filter]
 congr 2
 funext p
 by_cases z:p.1=j
 ·simp [z,h]
 ·simp [z]
theorem ni.drop {H:Hp}{kvs:List (Key×V)}{g:Str→Vl}(h:ni K H kvs g) (x:Str):ni K H (cL kvs (Sum.inr x)) (fun y=>if y=x then .no else g y):=by
 refine⟨oZ h.nd,fun kv hk=>h.ks kv (tW hk),fun y u e=>?_,fun y e=>?_⟩
 ·by_cases z:y=x
  ·rw [z,qi] at e
   cases e
  ·rw [if_neg z]
   rw [gR (fun c=>z (Sum.inr.inj c))] at e
   exact h.at_ y u e
 ·by_cases z:y=x
  ·rw [if_pos z]
  ·rw [if_neg z]
   rw [gR (fun c=>z (Sum.inr.inj c))] at e
   exact h.no y e
noncomputable def Kq (K:PySem.W.Frag):Sp:=fun vs H Q _=>∃Pr L W x u v,vs=[.ref L.st,.str x,u]∧eu K Pr H L W∧x∈Mm∧dJ K H u v∧∀H',Kp L.own H H'→eu K Pr H' L (W.dD x v)→Q .bj H'
theorem vi (T:Txt K mg a):aY P w K mg base cX 1 a.zt a.zu ["_law_state","_law_root","_law_value_here"] (Kq K):=by
 refine T.jD.ok Tc (fun vs H Q E h=>?_) (fun cv A outer s H vs Q E hr h=>?_)
 ·obtain⟨_,_,_,_,_,_,rfl,_⟩:=h
  rfl
 ·obtain⟨Pr,L,W,x,u,v,rfl,h,hx,hu,q⟩:=h
  refine⟨_,(ag (a8 (Hz (au ao (pv 0) ai (fun _ _=>rfl)) (pv 1) bV ⟨rfl,rfl,rfl,rfl⟩)) (ah (aR (aC fZ (au ao (pv 2) ai (fun _ _=>rfl)) av (aI _)) (ah (cP (cx hr) (au ao (pv 0) ai (fun _ _=>rfl)) (pv 1) (pv 2) rfl)) aH))),?_⟩
  dsimp! []
  obtain⟨kvs,h2,h3,Gn⟩:=h.rt
  have mu:∀b,b=L.d0→Mu H b:=fun b e=>.inr ⟨kvs,by rw [e]; exact h2⟩
  obtain⟨ru,rfl,hru⟩:=hu
  have cw:=h3.cw
  have hdl:(cL kvs (Sum.inr x)).length≤26:=Nat.le_trans (oW _ _) cw
  have hd:=h3.drop x
  have hn:Gm (cL kvs (Sum.inr x)) (fun y=>if y=x then .no else W.g y):=fun y u e=>by
   by_cases z:y=x
   ·rw [z,qi] at e
    cases e
   ·rw [gR (fun c=>z (Sum.inr.inj c))] at e
    show(if y=x then Vl.no else W.g y)≠.no
    rw [if_neg z]
    exact Gn y u e
  have go:∀H1,H1=upd H L.d0 (.dK (cL kvs (Sum.inr x)))→nC K (.ref ru) (.int 0) H1 fun x_3 H1=>xr x_3 (V.str (Str.ofString "nothing"))=true∧if (!decide (x_3=V.str (Str.ofString "nothing")))=true then nC K (V.ref L.st) (V.int 0) H1 fun x_4 H2=>∃a,x_4=V.ref a∧∃Xv,gG H2 a (V.str x) (.ref ru) Xv∧Q V.bj Xv else Q V.bj H1:=fun H1 e1=>by
   have l1:eu K Pr H1 L ⟨fun y=>if y=x then .no else W.g y,W.ts,W.hs⟩:=by rw [e1]; exact h.roots hd hn
   have k1:Kp (·=L.d0) H H1:=by rw [e1]; exact(Kp.refl _ _).set rfl
   have k1':Kp L.own H H1:=k1.mono fun b z=>.inl z
   have VR:H1 L.d0=some (.dK (cL kvs (Sum.inr x))):=by rw [e1]; exact af
   have Fg:=k1.bT mu hru
   refine bF Fg (Vl.hd _) ⟨rfl,bu (fun z=>?_) fun z=>?_⟩
   ·have nv:v≠.no:=fun c=>by rw [c] at z; simp [Vl.word] at z
    refine bF l1.tu rfl ⟨L.d0,rfl,_,gG.k (k:=Sum.inr x) VR (aQ (by omega)),q _ (k1'.set (.inl rfl)) ?_⟩
    have HS:ni K H1 (cL kvs (Sum.inr x)) (fun y=>if y=x then .no else W.g y):=hd.kp k1 mu
    have hp:=HS.put (H:=H1) hx ⟨ru,rfl,Fg⟩
    have eg:(fun y=>if y=x then v else(fun y=>if y=x then Vl.no else W.g y) y)=fun y=>if y=x then v else W.g y:=by
     funext y
     by_cases c:y=x
     ·rw [if_pos c,if_pos c]
     ·rw [if_neg c,if_neg c]
      exact if_neg c
    rw [eg] at hp
    refine l1.roots hp fun y u e=>?_
    show(if y=x then v else W.g y)≠.no
    by_cases c:y=x
    ·rw [if_pos c]
     exact nv
    ·rw [if_neg c]
     rw [oS,if_neg (fun d=>c (Sum.inr.inj d)),gR (fun d=>c (Sum.inr.inj d))] at e
     exact Gn y u e
   ·have ev:v=.no:=by
     cases v with
     | no=>rfl
     | num n=>exact absurd (show(!decide (V.str ("number":Str)=V.str ("nothing":Str)))=true by decide +kernel) z
     | th n=>exact absurd (show(!decide (V.str ("thing":Str)=V.str ("nothing":Str)))=true by decide +kernel) z
    subst ev
    exact q _ k1' l1
  refine bF h.tu rfl ⟨L.d0,rfl,.inl ⟨kvs,.inl h2⟩,kvs,h2,Sum.inr x,rfl,fun v' e=>go _ rfl,fun e=>?_⟩
  refine go H ?_
  rw [xS (kL e),uX h2]
noncomputable def PQ:List Str:=["num","make","weak","pair","words","put","get","look","find","copy","drop","tell","same","hear"]
noncomputable def De.tag:De→Nat
 | .num ..=>0 | .make ..=>1 | .weak ..=>2 | .pair ..=>3 | .words ..=>4 | .put ..=>5 | .get ..=>6 | .look ..=>7 | .find ..=>8 | .copy ..=>9 | .drop ..=>10 | .tell ..=>11 | .same ..=>12 | .hear ..=>13
theorem De.Xw (d:De):d.word=PQ.getD d.tag ""∧d.tag < 14:=⟨by cases d <;> rfl,Nat.lt_of_sub_pos (by cases d <;> exact Nat.succ_pos _)⟩
theorem Mx:∀i < 14,∀j < 14,PQ.getD i ""=PQ.getD j ""→i=j:=by decide +kernel
theorem De.is (d:De) {s:Str}{k:Nat}(hk:s=PQ.getD k "") (h:k < 14):d.word=s↔d.tag=k:=by
 obtain⟨h1,h2⟩:=d.Xw
 rw [h1,hk]
 exact⟨Mx _ h2 _ h,fun e=>by rw [e]⟩
theorem Gq {d:De}{s:Str}{X Y:Prop}(k:Nat) (hk:s=PQ.getD k "") (h:k < 14) (h1:(d.tag == k)=true→X) (h2:(d.tag == k)=false→Y):if decide (V.str d.word=V.str s)=true then X else Y:=
 bu (fun z=>h1 (beq_iff_eq.mpr ((d.is hk h).mp (V.str.inj (of_decide_eq_true z))))) fun z=>h2 (beq_eq_false_iff_ne.mpr fun e=>z (decide_eq_true (congrArg V.str ((d.is hk h).mpr e))))
theorem De.inW (d:De) (ks:List Nat) (h:∀k∈ks,k < 14):U4 (.str d.word) ((ks.map fun k=>PQ.getD k "").map V.str)=ks.contains d.tag:=by
 rw [Bool.eq_iff_iff,List.contains_iff_mem]
 unfold U4
 rw [List.any_eq_true]
 constructor
 ·rintro⟨x,hx,e⟩
  obtain⟨y,hy,rfl⟩:=List.mem_map.mp hx
  obtain⟨k,hk,rfl⟩:=List.mem_map.mp hy
  have e2:PQ.getD k ""=d.word:=by simpa [GP] using e
  rw [(d.is e2.symm (h k hk)).mp rfl]
  exact hk
 ·intro z
  refine⟨_,List.mem_map.mpr ⟨_,List.mem_map.mpr ⟨_,z,rfl⟩,rfl⟩,?_⟩
  rw [←d.Xw.1]
  simp [GP]
theorem Kr {H:Hp}{p:Addr}{xs:List V}{d:De}{X Y:Hp→Prop}(ks:List Nat) (hH:H p=some (.lst xs)) (e:xs=(ks.map fun k=>PQ.getD k "").map V.str) (h:∀k∈ks,k < 14) (h1:ks.contains d.tag=true→X H) (h2:ks.contains d.tag=false→Y H):rIn K false (.str d.word) (.ref p) H (fun x H'=>∃k,x=V.bl k∧if k=true then X H' else Y H'):=by
 refine⟨p,xs,rfl,.inl (bN.of hH),rfl,?_,_,rfl,?_⟩
 ·rw [e,List.all_map]
  exact List.all_eq_true.mpr fun _ _=>rfl
 ·rw [e,if_neg Bool.false_ne_true,d.inW ks h]
  exact bu h1 fun z=>h2 (Bool.eq_false_iff.mpr z)
noncomputable def WtL (K:PySem.W.Frag) (H:Hp) (xs:List V) (ws:List (Str×Str)):Prop:=ws.length=xs.length∧∀(i:Nat) x q,xs[i]?=some x→ws[i]?=some q→∃t,x=.ref t∧bZ K H t [.str q.1,.str q.2]
noncomputable def Gr (K:PySem.W.Frag):Sp:=fun vs H Q _=>∃t d,vs=[.ref t]∧bZ K H t (De.items d)∧∀l xs H',ar H H'→H' l=some (.lst xs)→WtL K H' xs d.wants→Q (.ref l) H'
theorem Ug (T:Txt K mg a):aY P w K mg base cX 1 a.zv a.zw ["_law_deed"] (Gr K):=by
 refine T.pP.ok Jw (fun vs H Q E h=>?_) (fun cv A outer s H vs Q E hr h=>?_)
 ·obtain⟨_,_,rfl,_⟩:=h
  rfl
 ·obtain⟨t,d,rfl,h,q⟩:=h
  refine⟨_,(ag (bc (i:=1) Jw.nd rfl (Or.inl rfl) (au ao (pv 0) ai (fun _ _=>rfl))) (ag (aR (aC dQ (pv 1) (bG (aa av (aa av ae))) (by with_unfolding_all rfl)) (ah (aw (bG (aa (bf (aa (au ao (pv 0) ai (fun _ _=>rfl)) (aa av ae))) ae)))) aH) (ag (aR (aC b7 (pv 1) av (aI _)) (ah (aw (bG (aa (bf (aa (au ao (pv 0) ai (fun _ _=>rfl)) (aa av ae))) ae)))) aH) (ag (aR (aC dQ (pv 1) (bG (aa av (aa av ae))) (by with_unfolding_all rfl)) (ah (aw (bG (aa (bf (aa (au ao (pv 0) ai (fun _ _=>rfl)) (aa av ae))) ae)))) aH) (ag (aR (aC b7 (pv 1) av (aI _)) (ah (aw (bG (aa (bf (aa (au ao (pv 0) ai (fun _ _=>rfl)) (aa av ae))) ae)))) aH) (ag (aR (aC b7 (pv 1) av (aI _)) (ah (aw (bG (aa (bf (aa (au ao (pv 0) ai (fun _ _=>rfl)) (aa av ae))) (aa (bf (aa (au ao (pv 0) ai (fun _ _=>rfl)) (aa av ae))) ae))))) aH) (ah (aw (bG ae))))))))),?_⟩
  dsimp! []
  refine bF h d.hd ?_
  have one:∀(H1:Hp) (i:Int) (x s:Str),ar H H1→d.wants=[(x,s)]→oI d.items i=some (.str x)→nC K (.ref t) (.int i) H1 fun x H1=>2≤sizeLine∧∀(p:Addr),H1 p=none→1≤sizeLine∧∀(p_1:Addr),upd H1 p (.tup [x,.str s]) p_1=none→Q (.ref p_1) (upd (upd H1 p (.tup [x,.str s])) p_1 (.lst [.ref p])):=fun H1 i x s s1 e1 e2=>by
   refine bF (s1.bT h) e2 ⟨by decide,fun p hp=>⟨by decide,fun r hr=>q r [.ref p] _ (s1.trans ((ar.put hp).trans (ar.put hr))) af ?_⟩⟩
   rw [e1]
   refine⟨rfl,fun j y qq hy hq=>?_⟩
   cases j with
   | zero=>
    cases hy
    cases hq
    exact⟨p,rfl,bZ.of (ar.put hr _ _ af)⟩
   | succ j=>simp at hy
  refine⟨by decide,fun p hp=>?_⟩
  have s1:=ar.put (o:=.lst [V.str (Str.ofString "words"),V.str (Str.ofString "put")]) hp
  refine Kr [4,5] af rfl (by decide) (fun c=>?_) fun c=>⟨rfl,Gq 6 rfl (by decide) (fun c2=>?_) fun c2=>⟨by decide,fun r hr=>?_⟩⟩
  ·cases d with
   | words x n=>exact one _ _ _ _ s1 rfl rfl
   | put x i y=>exact one _ _ _ _ s1 rfl rfl
   | _=>exact absurd c Bool.false_ne_true
  ·cases d with
   | get x y i=>exact one _ _ _ _ s1 rfl rfl
   | _=>exact absurd c2 Bool.false_ne_true
  have s2:=s1.trans (ar.put (o:=.lst [V.str (Str.ofString "weak"),V.str (Str.ofString "pair")]) hr)
  refine Kr [2,3] af rfl (by decide) (fun c3=>?_) fun c3=>⟨rfl,Gq 7 rfl (by decide) (fun c4=>?_) fun c4=>⟨rfl,Gq 8 rfl (by decide) (fun c5=>?_) fun c5 m hm=>?_⟩⟩
  ·cases d with
   | weak x n=>exact one _ _ _ _ s2 rfl rfl
   | pair x i y=>exact one _ _ _ _ s2 rfl rfl
   | _=>exact absurd c3 Bool.false_ne_true
  ·cases d with
   | look x n=>exact one _ _ _ _ s2 rfl rfl
   | _=>exact absurd c4 Bool.false_ne_true
  ·cases d with
   | find x y z=>
    have hd2:=s2.bT h
    refine bF hd2 rfl ⟨by decide,fun p1 Uh=>bF ((ar.put Uh).bT hd2) rfl ⟨by decide,fun p2 EM=>⟨by decide,fun l hl=>q l _ _ (s2.trans ((ar.put Uh).trans ((ar.put EM).trans (ar.put hl)))) af ⟨rfl,fun j u qq hy hq=>?_⟩⟩⟩⟩
    match j,hy,hq with
    | 0,hy,hq=>
     cases hy
     cases hq
     exact⟨p1,rfl,bZ.of (ar.put hl _ _ (ar.put EM _ _ af))⟩
    | 1,hy,hq=>
     cases hy
     cases hq
     exact⟨p2,rfl,bZ.of (ar.put hl _ _ af)⟩
    | j+2,hy,hq=>simp at hy
   | _=>exact absurd c5 Bool.false_ne_true
  ·have e:d.wants=[]:=by
    cases d with
    | words x n=>exact absurd c.symm Bool.false_ne_true
    | put x i y=>exact absurd c.symm Bool.false_ne_true
    | get x y i=>exact absurd c2.symm Bool.false_ne_true
    | weak x n=>exact absurd c3.symm Bool.false_ne_true
    | pair x i y=>exact absurd c3.symm Bool.false_ne_true
    | look x n=>exact absurd c4.symm Bool.false_ne_true
    | find x y z=>exact absurd c5.symm Bool.false_ne_true
    | _=>rfl
   refine q m [] _ (s2.trans (ar.put hm)) af ?_
   rw [e]
   exact⟨rfl,fun j u qq hy=>by simp at hy⟩
noncomputable def Ab (K:PySem.W.Frag):Sp:=fun vs H Q _=>∃Pr L W t d,vs=[.ref L.st,.ref t]∧eu K Pr H L W∧W.ok∧bZ K H t (De.items d)∧∀H',ar H H'→Q (oV (W.refuse d)) H'
theorem Ui (T:Txt K mg a):aY P w K mg base cX 3 a.zx a.zy ["_law_state","_law_deed"] (Ab K):=by
 refine T.pQ.ok B3 (fun vs H Q E h=>?_) (fun cv A outer s H vs Q E hr h=>?_)
 ·obtain⟨_,_,_,_,_,rfl,_⟩:=h
  rfl
 ·obtain⟨Pr,L,W,t,d,rfl,h,ok,hd,q⟩:=h
  refine⟨_,(ag (gF PassesOwn.never rfl (uK (aM (Ug T) (hr.mono (by decide)) rfl T.Pj T.pP.kp T.Ph .nil aB (aa (pv 1) ae))) (jI (n:=2) rfl (cf (bL (i:=2) B3.nd rfl (Or.inl rfl)) (cf (bL (i:=3) B3.nd rfl (Or.inl rfl)) gv))) az) az),?_⟩
  dsimp! []
  refine⟨t,d,rfl,hd,fun l xs H1 s1 hl hw=>⟨l,rfl,⟨xs,bN.of hl⟩,?_⟩⟩
  have h1:=h.same s1
  have HS:=s1.bT hd
  refine EL xs (fun i σ' H'=>(∃v1 v2,σ'=[some (.ref L.st),some (.ref t),v1,v2])∧ar H1 H'∧∀j < i,∀qq,d.wants[j]?=some qq→W.has qq.1 qq.2=true) ⟨⟨_,_,rfl⟩,fun _ _ e=>e,fun j hj=>absurd hj (Nat.not_lt_zero _)⟩ (fun i σ' H' _ hh=>bN.of (hh.2.1 _ _ hl)) (fun i x σ' H2 hx hh=>?_) fun σ' H2 hh=>?_
  ·obtain⟨⟨v1,v2,rfl⟩,s2,ha⟩:=hh
   have hi:=(List.getElem?_eq_some_iff.mp hx).1
   obtain⟨qq,hq⟩:∃qq,d.wants[i]?=some qq:=⟨_,List.getElem?_eq_getElem (by rw [hw.1]; exact hi)⟩
   obtain⟨r,rfl,Xx⟩:=hw.2 i x qq hx hq
   dsimp! []
   refine⟨[_,_],s2.bT Xx,rfl,?_⟩
   dsimp! []
   refine a9.of (ah (aR (aC iz (aM (Ue T) (hr.mono (by decide)) rfl T.Pg T.pO.kp T.Pf .nil aB (aa (pv 0) (aa (pv 2) (aa (pv 3) ae)))) bV (aI _)) (ah (aw av)) aH)) ?_
   dsimp! []
   refine⟨Pr,L,W,qq.1,qq.2,rfl,h1.same s2,ok,fun H3 s3=>?_⟩
   cases e:W.has qq.1 qq.2 with
   | false=>
    have e1:W.Mw qq.1 qq.2=.bj:=by unfold Wd.Mw; rw [e]; rfl
    have e2:W.refuse d=some ("no thing":Str):=by
     have c:W.ff d=true:=List.any_eq_true.mpr ⟨qq,List.mem_of_getElem? hq,by rw [e]; rfl⟩
     unfold Wd.refuse
     rw [if_pos c]
    rw [e1]
    rw [e2] at q
    exact bu (fun _=>q H3 (s1.trans (s2.trans s3))) fun z=>absurd (decide_eq_true rfl) z
   | true=>
    obtain⟨j,g,g1,g2,g3,_⟩:=ok.Xo e
    have e1:W.Mw qq.1 qq.2=.int ((j:Int)+1):=by unfold Wd.Mw; rw [e,g3]; rfl
    rw [e1]
    refine bu (fun z=>by cases (of_decide_eq_true z)) fun _=>⟨⟨_,rfl⟩,s2.trans s3,fun j2 hj2 q2 Mq=>?_⟩
    by_cases z:j2 < i
    ·exact ha j2 z q2 Mq
    ·have ej:j2=i:=by omega
     subst ej
     rw [hq] at Mq
     cases Mq
     exact e
  ·obtain⟨⟨v1,v2,rfl⟩,s2,ha⟩:=hh
   have jJ:W.ff d=false:=by
    cases e:W.ff d with
    | false=>rfl
    | true=>
     obtain⟨qq,hm,hq⟩:=List.any_eq_true.mp e
     obtain⟨j,hj⟩:=List.mem_iff_getElem?.mp hm
     have:=ha j (by rw [←hw.1]; exact(List.getElem?_eq_some_iff.mp hj).1) qq hj
     rw [this] at hq
     cases hq
   have hrf:W.refuse d=if W.dg d=true then some ("no field":Str)else none:=by unfold Wd.refuse; rw [if_neg (by rw [jJ]; simp)]
   have h2:=h1.same s2
   have hd2:=s2.bT HS
   have q2:∀H3,ar H2 H3→Q (oV (if W.dg d=true then some ("no field":Str)else none)) H3:=fun H3 s3=>by
    rw [←hrf]
    exact q H3 (s1.trans (s2.trans s3))
   refine a9.of (ag (aR (PW.pt (uH (aC b7 (au ao (pv 1) ai (fun _ _=>rfl)) av (aI _)) (oh (aC G3 (au ao (pv 1) ai (fun _ _=>rfl)) (aF cF rfl T.eF dI (aa (au ao (c9 (cx hr) (au ao (pv 0) ai (fun _ _=>rfl)) (au ao (aM (eI T) (hr.mono (by decide)) rfl T.ft T.ef.kp T.fq .nil aB (aa (pv 0) (aa (au ao (pv 1) ai (fun _ _=>rfl)) ae))) ai (fun _ _=>rfl)) (fun _ _=>rfl)) ai (fun _ _=>rfl)) ae)) (aI _))))) (ah (aw av)) aH) az) ?_
   dsimp! []
   refine bF hd2 d.hd ⟨rfl,Gq 5 rfl (by decide) (fun c=>?_) fun c=>?_⟩
   ·cases d with
    | put x i y=>
     obtain⟨j,fs,w,g1,g2,g3,g4⟩:=ok.Aa (W.wanted jJ List.mem_cons_self)
     refine bF hd2 rfl (bF h2.tu rfl (bF hd2 rfl ⟨Pr,L,W,x,rfl,h2,fun u H3 s3 hu=>?_⟩))
     rw [g1] at hu
     obtain⟨r,rfl,Xx⟩:=hu
     obtain⟨rows,qq,r1,r2,⟨r3,cV,r5,r6,_⟩,r4,_⟩:=(h2.same s3).at_ g2
     refine bF Xx rfl ⟨L.d1,rfl,_,r4,bF (bZ.of r3) rfl ⟨qq.2,rfl,cV,.inl (bN.of r5),_,rfl,bu (fun z=>?_) fun z=>?_⟩⟩
     ·have e:W.dg (.put x i y)=true:=by
       show(!decide (i < (W.fs x).length))=true
       have:=of_decide_eq_true z
       have e6:fs.length=cV.length:=r6.1
       rw [g4,decide_eq_false (by omega)]
       rfl
      have:=q2 H3 s3
      rw [if_pos e] at this
      exact this
     ·have e:W.dg (.put x i y)=false:=by
       show(!decide (i < (W.fs x).length))=false
       have:¬(cV.length:Int)≤(i:Int):=fun y=>z (decide_eq_true y)
       have e6:fs.length=cV.length:=r6.1
       rw [g4,decide_eq_true (by omega)]
       rfl
      refine a9.of (ag (aR (PW.pt (uH (aC b7 (au ao (pv 1) ai (fun _ _=>rfl)) av (aI _)) (oh (aC G3 (au ao (pv 1) ai (fun _ _=>rfl)) (aF cF rfl T.eF dI (aa (au ao (c9 (cx hr) (au ao (pv 0) ai (fun _ _=>rfl)) (au ao (aM (eI T) (hr.mono (by decide)) rfl T.ft T.ef.kp T.fq .nil aB (aa (pv 0) (aa (au ao (pv 1) ai (fun _ _=>rfl)) ae))) ai (fun _ _=>rfl)) (fun _ _=>rfl)) ai (fun _ _=>rfl)) ae)) (aI _))))) (ah (aw av)) aH) (ah (aw bV))) ?_
      dsimp! []
      refine bF (s3.bT hd2) (De.hd _) ⟨rfl,Gq 6 rfl (by decide) (fun c2=>absurd c2 Bool.false_ne_true) fun _=>?_⟩
      have:=q2 H3 s3
      rw [if_neg (by rw [e]; simp)] at this
      exact this
    | _=>exact absurd c Bool.false_ne_true
   ·refine a9.of (ag (aR (PW.pt (uH (aC b7 (au ao (pv 1) ai (fun _ _=>rfl)) av (aI _)) (oh (aC G3 (au ao (pv 1) ai (fun _ _=>rfl)) (aF cF rfl T.eF dI (aa (au ao (c9 (cx hr) (au ao (pv 0) ai (fun _ _=>rfl)) (au ao (aM (eI T) (hr.mono (by decide)) rfl T.ft T.ef.kp T.fq .nil aB (aa (pv 0) (aa (au ao (pv 1) ai (fun _ _=>rfl)) ae))) ai (fun _ _=>rfl)) (fun _ _=>rfl)) ai (fun _ _=>rfl)) ae)) (aI _))))) (ah (aw av)) aH) (ah (aw bV))) ?_
    dsimp! []
    refine bF hd2 d.hd ⟨rfl,Gq 6 rfl (by decide) (fun c2=>?_) fun c2=>?_⟩
    ·cases d with
     | get y x i=>
      obtain⟨j,fs,w,g1,g2,g3,g4⟩:=ok.Aa (W.wanted jJ List.mem_cons_self)
      refine bF hd2 rfl (bF h2.tu rfl (bF hd2 rfl ⟨Pr,L,W,x,rfl,h2,fun u H3 s3 hu=>?_⟩))
      rw [g1] at hu
      obtain⟨r,rfl,Xx⟩:=hu
      obtain⟨rows,qq,r1,r2,⟨r3,cV,r5,r6,_⟩,r4,_⟩:=(h2.same s3).at_ g2
      refine bF Xx rfl ⟨L.d1,rfl,_,r4,bF (bZ.of r3) rfl ⟨qq.2,rfl,cV,.inl (bN.of r5),_,rfl,bu (fun z=>?_) fun z=>?_⟩⟩
      ·have e:W.dg (.get y x i)=true:=by
        show(!decide (i < (W.fs x).length))=true
        have:=of_decide_eq_true z
        have e6:fs.length=cV.length:=r6.1
        rw [g4,decide_eq_false (by omega)]
        rfl
       have:=q2 H3 s3
       rw [if_pos e] at this
       exact this
      ·have e:W.dg (.get y x i)=false:=by
        show(!decide (i < (W.fs x).length))=false
        have:¬(cV.length:Int)≤(i:Int):=fun y=>z (decide_eq_true y)
        have e6:fs.length=cV.length:=r6.1
        rw [g4,decide_eq_true (by omega)]
        rfl
       have:=q2 H3 s3
       rw [if_neg (by rw [e]; simp)] at this
       exact this
     | _=>exact absurd c2 Bool.false_ne_true
    ·have e:W.dg d=false:=by
      cases d with
      | put x i y=>exact absurd c.symm Bool.false_ne_true
      | get x y i=>exact absurd c2.symm Bool.false_ne_true
      | _=>rfl
     have:=q2 H2 fun _ _ e=>e
     rw [if_neg (by rw [e]; simp)] at this
     exact this
theorem gi.snoc {H:Hp}{xs:List V}{vl:List Vl}{x:V}{v:Vl}(h:gi K H xs vl) (hx:dJ K H x v):gi K H (xs++[x]) (vl++[v]):=⟨by simp [h.1],fun i y u a b=>by
 have hl:=h.1
 by_cases hi:i < xs.length
 ·rw [List.getElem?_append_left hi] at a
  rw [List.getElem?_append_left (by omega)] at b
  exact h.2 i y u a b
 ·have e:i=xs.length:=by
   have:=(List.getElem?_eq_some_iff.mp a).1
   simp at this
   omega
  subst e
  rw [List.getElem?_append_right (Nat.le_refl _),Nat.sub_self] at a
  rw [←hl,List.getElem?_append_right (Nat.le_refl _),Nat.sub_self] at b
  cases a
  cases b
  exact hx⟩
theorem abd {n:Nat}{D:Addr}{σ:St}{Q:Hp→Prop}{H:Hp}(hD:H D=none) (hz:n≤1000) (hq:∀H2 ys,ar H H2→H2 D=some (.lst ys)→gi K H2 ys (List.replicate n .no)→Q H2):oO (LB 0 n) [] (fun _ H Q=>Q true H) (LF (oH (tC (V.str (Str.ofString "nothing"))) xt)) σ D Q (upd H D (.lst [])):=by
 refine⟨fun i m H2=>m+i=n∧∃ys,ar H H2∧H2 D=some (.lst ys)∧gi K H2 ys (List.replicate i .no),⟨n,rfl,[],ar.put hD,af,gi.nil _ _⟩,?_⟩
 rintro i m H2 ⟨hm,ys,s2,e,hv⟩
 cases m with
 | zero=>
  have ei:i=n:=by omega
  subst ei
  exact .inl ⟨Nat.le_refl _,hq H2 ys s2 e hv⟩
 | succ m=>
  refine .inr ⟨show i < n by omega,fun v H' y=>?_⟩
  obtain⟨rfl,rfl⟩:=y
  show(if true=true then _ else _)
  rw [if_pos rfl]
  refine⟨(by show 1≤sizeLine; decide),fun p hp=>?_⟩
  have s3:=ar.put (o:=.tup [V.str (Str.ofString "nothing")]) hp
  have e3:=s3 _ _ e
  have hlen:ys.length=i:=by rw [←hv.1,List.length_replicate]
  refine⟨ys,e3,aQ (by omega),m,Nat.lt_succ_self m,by omega,ys++[.ref p],fun b u eb=>?_,af,?_⟩
  ·have nb:b≠D:=fun z=>by rw [z,hD] at eb; cases eb
   have:=s3 b u (s2 b u eb)
   exact(ak nb).trans this
  ·have k:Kp (·=D) (upd H' p (.tup [V.str (Str.ofString "nothing")])) (upd (upd H' p (.tup [V.str (Str.ofString "nothing")])) D (.lst (ys++[.ref p]))):=(Kp.refl _ _).set rfl
   have mu:∀b,b=D→Mu (upd H' p (.tup [V.str (Str.ofString "nothing")])) b:=fun b z=>.inl ⟨ys,by rw [z]; exact e3⟩
   have hn:dJ K (upd H' p (.tup [V.str (Str.ofString "nothing")])) (.ref p) .no:=⟨p,rfl,bZ.of af⟩
   have:=((hv.same s3).snoc hn).kp k mu
   rw [List.replicate_succ']
   exact this
theorem abe:¬(("look":Str)="get"):=by decide +kernel
theorem abf:¬(("look":Str)="find"):=by decide +kernel
theorem abg:¬(("find":Str)="get"):=by decide +kernel
theorem abh:¬(("find":Str)="look"):=by decide +kernel
noncomputable def Ks (K:PySem.W.Frag):Sp:=fun vs H Q _=>∃Pr L W t d tg,vs=[.ref L.st,.ref t]∧eu K Pr H L W∧bZ K H t (De.items d)∧W.made d=some tg∧d.fits∧W.ts.length < 500∧∀H',Kp L.own H H'→eu K Pr H' L (W.step d)→Q .bj H'
noncomputable def JMd (K:PySem.W.Frag) (Pr:Addr→Prop) (L:LA) (W:Wd) (tg:Tg) (t:Addr) (H:Hp) (σ':St) (H':Hp):Prop:=σ'=[some (.ref L.st),some (.ref t),some (.int ((W.ts.length:Int)+1))]∧Kp L.own H H'∧eu K Pr H' L ⟨W.g,W.ts++[tg],W.hs⟩
theorem Uj (T:Txt K mg a):aY P w K mg base cX 3 a.zz a.zA ["_law_state","_law_deed"] (Ks K):=by
 refine T.pR.ok Jx (fun vs H Q E h=>?_) (fun cv A outer s H vs Q E hr h=>?_)
 ·obtain⟨_,_,_,_,_,_,rfl,_⟩:=h
  rfl
 ·obtain⟨Pr,L,W,t,d,tg,rfl,h,hd,hm,hf,cw,q⟩:=h
  refine⟨_,(ag (bc (i:=2) Jx.nd rfl (Or.inl rfl) (bo jK (aF dS rfl T.eF dI (aa (au ao (pv 0) ai (fun _ _=>rfl)) ae)) ai)) (ag oR az)),?_⟩
  dsimp! []
  obtain⟨rows,h4,h5,h6,h7⟩:=h.th
  refine bF h.tu rfl ⟨L.d1,rfl,du rows,h4,?_⟩
  rw [bS,h5]
  obtain⟨e1,_⟩:=Wd.uA hm
  rw [e1] at q
  have dn:∀(H1:Hp) (p l:Addr) (xs:List V),ar H H1→H l=none→H1 p=some (.tup [.str tg.sort,.ref l,wV tg.words])→H1 l=some (.lst xs)→gi K H1 xs tg.fs→xs.length≤1000→∃x_2,gG H1 L.d1 (.int ((W.ts.length:Int)+1)) (.ref p) x_2∧JMd K Pr L W tg t H [some (.ref L.st),some (.ref t),some (.int ((W.ts.length:Int)+1))] x_2:=fun H1 p l xs s1 Ws e1 e2 e3 e4=>by
   refine⟨_,gG.k (k:=Sum.inl ((W.ts.length:Int)+1)) (s1 _ _ h4) (aQ (by rw [bS]; omega)),rfl,(ar.kp s1).set (.inr (.inl rfl)),?_⟩
   exact(h.same s1).new (q':=(p,l)) (s1 _ _ h4) ⟨e1,xs,e2,e3,e4⟩ (h.fresh Ws) cw
  refine Hr (JMd K Pr L W tg t H) (Bs.of (aR (aC b7 (au ao (pv 1) ai (fun _ _=>rfl)) av (aI _)) (ah (cP (cx hr) (au ao (pv 0) ai (fun _ _=>rfl)) (pv 2) (bf (aa av (aa (Ob rfl (VV (x:="_law_k") (ns:=[]) (fr:=[]) rfl (by decide +kernel) rfl (by decide +kernel) rfl (List.forall_mem_nil _) rfl rfl (List.forall_mem_nil _) (by decide +kernel)) (tK rfl T.lg (aa (au ao (pv 1) ai (fun _ _=>rfl)) ae)) (fun _ _ _ _=>(bf (aa av ae))) (fun _ _ _ _=>.nil)) (aa bV ae)))) rfl)) (ah (aR (aC b7 (au ao (pv 1) ai (fun _ _=>rfl)) av (aI _)) (ah (cP (cx hr) (au ao (pv 0) ai (fun _ _=>rfl)) (pv 2) (bf (aa av (aa (bG (aa (aM (eI T) (hr.mono (by decide)) rfl T.ft T.ef.kp T.fq .nil aB (aa (pv 0) (aa (au ao (pv 1) ai (fun _ _=>rfl)) ae))) ae)) (aa bV ae)))) rfl)) (ah (cP (cx hr) (au ao (pv 0) ai (fun _ _=>rfl)) (pv 2) (bf (aa av (aa (bG (aa (aM (eI T) (hr.mono (by decide)) rfl T.ft T.ef.kp T.fq .nil aB (aa (pv 0) (aa (au ao (pv 1) ai (fun _ _=>rfl)) ae))) (aa (aM (eI T) (hr.mono (by decide)) rfl T.ft T.ef.kp T.fq .nil aB (aa (pv 0) (aa (au ao (pv 1) ai (fun _ _=>rfl)) ae))) ae))) (aa bV ae)))) rfl))))) ?_) ?_
  ·dsimp! []
   refine bF hd d.hd ⟨rfl,Gq 1 rfl (by decide) (fun c=>?_) fun c=>bF hd d.hd ⟨rfl,Gq 2 rfl (by decide) (fun c2=>?_) fun c2=>?_⟩⟩
   ·cases d with
    | make x n=>
     cases hm
     have hn:n≤100:=hf.2
     refine bF hd rfl ⟨_,rfl,by omega,by omega,fun D hD=>?_⟩
     rw [Int.toNat_natCast]
     refine abd (K:=K) hD (by omega) fun H2 ys s2 e2 hv=>⟨by decide,fun p hp=>?_⟩
     have s3:=ar.put (o:=.tup [V.str (Str.ofString "plain"),V.ref D,V.bj]) hp
     have hlen:ys.length=n:=by rw [←hv.1,List.length_replicate]
     exact bF ((s2.trans s3).bT h.tu) rfl ⟨L.d1,rfl,dn _ p D ys (s2.trans s3) hD af (s3 _ _ e2) (hv.same s3) (by omega)⟩
    | _=>exact absurd c Bool.false_ne_true
   ·cases d with
    | weak x y=>
     cases hm
     refine bF hd rfl ⟨Pr,L,W,y,rfl,h,fun u H1 s1 hu=>⟨by decide,fun l hl=>⟨by decide,fun p hp=>?_⟩⟩⟩
     have s2:=ar.put (o:=.lst [u]) hl
     have s3:=ar.put (o:=.tup [V.str (Str.ofString "weak"),V.ref l,V.bj]) hp
     have s4:=s1.trans (s2.trans s3)
     exact bF (s4.bT h.tu) rfl ⟨L.d1,rfl,dn _ p l [u] s4 (s1.free hl) af (s3 _ _ af) (.cons (hu.same (s2.trans s3)) (.nil _ _)) (Nat.le_of_ble_eq_true rfl)⟩
    | _=>exact absurd c2 Bool.false_ne_true
   ·cases d with
    | pair x y z=>
     cases hm
     refine bF hd rfl ⟨Pr,L,W,y,rfl,h,fun u H1 s1 hu=>bF (s1.bT hd) rfl ⟨Pr,L,W,z,rfl,h.same s1,fun u2 H2 s2 Ko=>⟨by decide,fun l hl=>⟨by decide,fun p hp=>?_⟩⟩⟩⟩
     have s3:=ar.put (o:=.lst [u,u2]) hl
     have s4:=ar.put (o:=.tup [V.str (Str.ofString "pair"),V.ref l,V.bj]) hp
     have s5:=(s1.trans s2).trans (s3.trans s4)
     exact bF (s5.bT h.tu) rfl ⟨L.d1,rfl,dn _ p l [u,u2] s5 ((s1.trans s2).free hl) af (s4 _ _ af) (.cons (hu.same (s2.trans (s3.trans s4))) (.cons (Ko.same (s3.trans s4)) (.nil _ _))) (Nat.le_of_ble_eq_true rfl)⟩
    | make x n=>exact absurd c.symm Bool.false_ne_true
    | weak x n=>exact absurd c2.symm Bool.false_ne_true
    | _=>cases hm
  ·rintro σ' H1 ⟨rfl,k1,l1⟩
   refine a9.of (ah (a8 (aM (vi T) (hr.mono (by decide)) rfl T.zS T.jD.kp T.zR .nil aB (aa (pv 0) (aa (au ao (pv 1) ai (fun _ _=>rfl)) (aa (bf (aa av (aa (pv 2) ae))) ae)))))) ?_
   have HS:=k1.bT h.mu hd
   dsimp! []
   refine bF HS d.at1 ⟨by decide,fun p hp=>?_⟩
   have s1:=ar.put (o:=.tup [.str "thing",.int ((W.ts.length:Int)+1)]) hp
   exact⟨Pr,L,_,d.root,_,.th ((W.ts.length:Int)+1),rfl,l1.same s1,hf.1,⟨p,rfl,bZ.of af⟩,fun H' k l=>q H' (k1.trans ((ar.kp s1).trans k)) l⟩
noncomputable def Wd.PR (W:Wd):De→Option Vl
 | .num _ n=>some (.num n)
 | .copy _ y=>some (W.g y)
 | .drop _=>some .no
 | .get _ y n=>some ((W.fs y).getD n .no)
 | .look _ y=>some ((W.fs y).getD 0 .no)
 | .find _ y z=>some (if bp (vD ((W.fs y).getD 0 .no)) (vD (W.g z))=true then(W.fs y).getD 1 .no else .no)
 | _=>none
noncomputable def Ac (K:PySem.W.Frag):Sp:=fun vs H Q _=>∃Pr L W t d v,vs=[.ref L.st,.ref t]∧eu K Pr H L W∧W.ok∧bZ K H t (De.items d)∧W.PR d=some v∧W.ff d=false∧W.dg d=false∧∀u H',ar H H'→dJ K H' u v→Q u H'
theorem Uk (T:Txt K mg a):aY P w K mg base cX 2 a.zB a.zC ["_law_state","_law_deed"] (Ac K):=by
 refine T.pS.ok B4 (fun vs H Q E h=>?_) (fun cv A outer s H vs Q E hr h=>?_)
 ·obtain⟨_,_,_,_,_,_,rfl,_⟩:=h
  rfl
 ·obtain⟨Pr,L,W,t,d,v,rfl,h,ok,hd,hv,hl,ku,q⟩:=h
  refine⟨_,(ag (bc (i:=2) B4.nd rfl (Or.inl rfl) (au ao (pv 1) ai (fun _ _=>rfl))) (ag (aR (aC b7 (pv 2) av (aI _)) (ah (aw (bf (aa av (aa (au ao (pv 1) ai (fun _ _=>rfl)) ae))))) aH) (ag (aR (aC b7 (pv 2) av (aI _)) (ah (aw (aM (eI T) (hr.mono (by decide)) rfl T.ft T.ef.kp T.fq .nil aB (aa (pv 0) (aa (au ao (pv 1) ai (fun _ _=>rfl)) ae))))) aH) (ag (aR (aC b7 (pv 2) av (aI _)) (ah (aw (bf (aa av ae)))) aH) az)))),?_⟩
  dsimp! []
  refine bF hd d.hd ⟨rfl,Gq 0 rfl (by decide) (fun c=>?_) fun c=>⟨rfl,Gq 9 rfl (by decide) (fun c2=>?_) fun c2=>⟨rfl,Gq 10 rfl (by decide) (fun c3=>?_) fun c3=>?_⟩⟩⟩
  ·cases d with
   | num x n=>
    cases hv
    exact bF hd rfl ⟨by decide,fun p hp=>q _ _ (ar.put hp) ⟨p,rfl,bZ.of af⟩⟩
   | _=>exact absurd c Bool.false_ne_true
  ·cases d with
   | copy x y=>
    cases hv
    exact bF hd rfl ⟨Pr,L,W,y,rfl,h,q⟩
   | _=>exact absurd c2 Bool.false_ne_true
  ·cases d with
   | drop x=>
    cases hv
    exact⟨by decide,fun p hp=>q _ _ (ar.put hp) ⟨p,rfl,bZ.of af⟩⟩
   | _=>exact absurd c3 Bool.false_ne_true
  ·refine a9.of (ag (bc (i:=3) B4.nd rfl (Or.inl rfl) (au ao (c9 (cx hr) (au ao (pv 0) ai (fun _ _=>rfl)) (au ao (aM (eI T) (hr.mono (by decide)) rfl T.ft T.ef.kp T.fq .nil aB (aa (pv 0) (aa (au ao (pv 1) ai (fun _ _=>rfl)) ae))) ai (fun _ _=>rfl)) (fun _ _=>rfl)) ai (fun _ _=>rfl))) (ag (aR (aC b7 (pv 2) av (aI _)) (ah (aw (au dA (pv 3) (au ao (pv 1) ai (fun _ _=>rfl)) (fun _ _=>rfl)))) aH) (ag (aR (PW.pt (fX (aC b7 (pv 2) av (aI _)) (fh (aC (gE hr.units) (au dA (pv 3) ai (fun _ _=>rfl)) (aM (eI T) (hr.mono (by decide)) rfl T.ft T.ef.kp T.fq .nil aB (aa (pv 0) (aa (au ao (pv 1) ai (fun _ _=>rfl)) ae))) (aI _))))) (ah (aw (au dA (pv 3) (dy Fy rfl T.ng oN (aa (eQ b7 (pv 2) av (aI _)) ae)) (fun _ _=>rfl)))) aH) (ah (aw (bf (aa av ae))))))) ?_
   dsimp! []
   have gf:∀(y:Str) (j:Nat) (g:Tg) (R:VK),W.g y=.th ((j:Int)+1)→W.ts[j]?=some g→oI d.items 2=some (.str y)→(∀(l:Addr) (xs:List V) (H3:Hp),ar H H3→H3 l=some (.lst xs)→gi K H3 xs g.fs→R (.ref l) H3)→nC K (.ref L.st) (.int 1) H fun x H1=>nC K (.ref t) (.int 2) H1 fun x_1 H1=>uB K [.ref L.st,x_1] H1 (fun x_2 H1=>nC K x_2 (.int 1) H1 fun y H2=>∃a,x=.ref a∧∃x,fk H2 a y (some x)∧nC K x (.int 1) H2 R) E0:=fun y j g R g1 g2 e2 r=>by
    refine bF h.tu rfl (bF hd e2 ⟨Pr,L,W,y,rfl,h,fun u H1 s1 hu=>?_⟩)
    rw [g1] at hu
    obtain⟨b,rfl,hb⟩:=hu
    obtain⟨rows,qq,r1,r2,⟨r3,cV,r5,r6,_⟩,r4,_⟩:=(h.same s1).at_ g2
    exact bF hb rfl ⟨L.d1,rfl,_,r4,bF (bZ.of r3) rfl (r _ _ _ s1 r5 r6)⟩
   cases d with
   | get x y i=>
    obtain⟨j,fs,w,g1,g2,g3,g4⟩:=ok.Aa (W.wanted hl List.mem_cons_self)
    have hi:i < fs.length:=by
     rw [←g4]
     exact of_decide_eq_true (by simpa [Wd.dg,De.jW] using ku)
    refine gf y j _ _ g1 g2 rfl fun l xs H3 s3 e3 ll=>bu (fun _=>bF (s3.bT hd) rfl ?_) fun z=>absurd (decide_eq_true rfl) z
    have kG:fs.length=xs.length:=ll.1
    have hx:xs[i]?=some (xs[i]'(by omega)):=List.getElem?_eq_getElem _
    have ev:v=fs[i]:=by
     have:some ((W.fs y).getD i .no)=some v:=hv
     rw [g4,List.getD_eq_getElem?_getD,List.getElem?_eq_getElem hi] at this
     exact(Option.some.inj this).symm
    rw [ev] at q
    exact GS (bN.of e3) (dz hx) (q _ _ s3 (ll.2 i _ _ hx (List.getElem?_eq_getElem hi)))
   | look x y=>
    obtain⟨j,f,g1,g2,g3,g4⟩:=ok.Xr (W.wanted hl List.mem_cons_self)
    refine gf y j _ _ g1 g2 rfl fun l xs H3 s3 e3 ll=>bu (fun z=>absurd (of_decide_eq_true z) abe) fun _=>bu (fun _=>?_) fun z=>absurd (decide_eq_true rfl) z
    rw [if_neg (show ¬decide ((De.look x y).word=Str.ofString "find")=true from fun z=>abf (of_decide_eq_true z))]
    have kG:[f].length=xs.length:=ll.1
    have hx:xs[0]?=some (xs[0]'(by rw [←kG,List.length_singleton]; decide)):=List.getElem?_eq_getElem _
    have ev:v=f:=by
     have:some ((W.fs y).getD 0 .no)=some v:=hv
     rw [g4] at this
     exact(Option.some.inj this).symm
    rw [ev] at q
    exact GS (bN.of e3) (dz (j:=0) hx) (q _ _ s3 (ll.2 0 _ _ hx rfl))
   | find x y z=>
    obtain⟨j,k,f,g1,g2,g3,g4⟩:=ok.Xs (W.wanted hl List.mem_cons_self)
    refine gf y j _ _ g1 g2 rfl fun l xs H3 s3 e3 ll=>bu (fun z=>absurd (of_decide_eq_true z) abg) fun _=>bu (fun z=>absurd (of_decide_eq_true z) abh) fun _=>?_
    have kG:[k,f].length=xs.length:=ll.1
    have L9:xs[0]?=some (xs[0]'(by rw [←kG,List.length_cons,List.length_singleton]; decide)):=List.getElem?_eq_getElem _
    have Lq:xs[1]?=some (xs[1]'(by rw [←kG,List.length_cons,List.length_singleton]; decide)):=List.getElem?_eq_getElem _
    have ev:v=if bp (vD k) (vD (W.g z))=true then f else .no:=by
     have:some (if bp (vD ((W.fs y).getD 0 .no)) (vD (W.g z))=true then(W.fs y).getD 1 .no else .no)=some v:=hv
     rw [g4] at this
     exact(Option.some.inj this).symm
    rw [ev] at q
    refine GS (bN.of e3) (dz (j:=0) L9) (bF (s3.bT hd) rfl ⟨Pr,L,W,z,rfl,h.same s3,fun u2 H4 s4 Ko=>⟨_,_,((ll.2 0 _ _ L9 rfl).same s4).rG,Ko.rG,by rw [jV]; decide,_,rfl,bu (fun c5=>?_) fun c5=>⟨by decide,fun p hp=>?_⟩⟩⟩)
    ·have c6:bp (vD k) (vD (W.g z))=true:=c5
     rw [if_pos c6] at q
     rw [if_pos (show decide ((De.find x y z).word=Str.ofString "find")=true from decide_eq_true rfl)]
     exact GS (bN.of (s4 _ _ e3)) (dz (j:=1) Lq) (q _ _ (s3.trans s4) ((ll.2 1 _ _ Lq rfl).same s4))
    ·have c6:¬bp (vD k) (vD (W.g z))=true:=c5
     rw [if_neg c6] at q
     exact q _ _ (s3.trans (s4.trans (ar.put hp))) ⟨p,rfl,bZ.of af⟩
   | num x n=>exact absurd c.symm Bool.false_ne_true
   | copy x n=>exact absurd c2.symm Bool.false_ne_true
   | drop x=>exact absurd c3.symm Bool.false_ne_true
   | _=>cases hv
noncomputable def De.PU:De→Bool
 | .tell ..=>true
 | .same ..=>true
 | .hear ..=>true
 | _=>false
noncomputable def CA (K:PySem.W.Frag):Sp:=fun vs H Q _=>∃Pr L W t d,vs=[.ref L.st,.ref t]∧eu K Pr H L W∧W.ok∧bZ K H t (De.items d)∧d.PU=true∧d.fits∧∀H',Kp L.own H H'→eu K Pr H' L (W.step d)→Q (.str (W.Bt d)) H'
noncomputable def hD (h:Nat×Int):D:=.tup [.int (h.1:Int),.int h.2]
theorem rF.rG {H:Hp}{l:Addr}{xs:List V}{hs:List (Nat×Int)}(hl:bN K H l xs) (h:rF K H xs hs):fH K H (.ref l) (.lst (hs.map hD)):=by
 refine .lst hl (by rw [List.length_map]; exact h.1.symm) fun i x d hx hd=>?_
 rw [List.getElem?_map] at hd
 cases e:hs[i]? with
 | none=>rw [e] at hd; cases hd
 | some v=>
  rw [e] at hd
  cases hd
  obtain⟨t,rfl,ht⟩:=h.2 i x v hx e
  exact .Od (xs:=[.int (v.1:Int),.int v.2]) ht fun x hx=>by
   simp only [List.mem_cons,List.not_mem_nil,or_false] at hx
   rcases hx with rfl | rfl <;> rfl
theorem Ul (h:Nat×Int):(hD h).dep≤1:=by
 unfold hD
 simp [D.dep,eO]
theorem vj:∀hs:List (Nat×Int),eO (hs.map hD)≤1
 | []=>by rw [List.map_nil,eO]; exact Nat.zero_le _
 | h::hs=>by
  rw [List.map_cons,eO]
  have:=vj hs
  have:=Ul h
  omega
theorem Kt (hs:List (Nat×Int)):(D.lst (hs.map hD)).dep≤60:=by
 rw [D.dep]
 have:=vj hs
 omega
theorem Ku {h:Nat×Int}{hs:List (Nat×Int)}:bp (.lst ((h::hs).map hD)) (.lst [])=false:=by
 rw [bp]
 exact eW (by simp)
theorem Um (T:Txt K mg a):aY P w K mg base cX 2 a.zD a.zE ["_law_state","_law_deed"] (CA K):=by
 refine T.pT.ok u3 (fun vs H Q E h=>?_) (fun cv A outer s H vs Q E hr h=>?_)
 ·obtain⟨_,_,_,_,_,rfl,_⟩:=h
  rfl
 ·obtain⟨Pr,L,W,t,d,rfl,h,ok,hd,hv,hf,q⟩:=h
  refine⟨_,(ag (bc (i:=2) u3.nd rfl (Or.inl rfl) (aM (eI T) (hr.mono (by decide)) rfl T.ft T.ef.kp T.fq .nil aB (aa (pv 0) (aa (au ao (pv 1) ai (fun _ _=>rfl)) ae)))) (ag (aR (aC b7 (au ao (pv 1) ai (fun _ _=>rfl)) av (aI _)) (ah (aw (eV (aC b7 (au ao (pv 2) ai (fun _ _=>rfl)) av (aI _)) (dy jc rfl T.gh fQ (aa (au ao (pv 2) ai (fun _ _=>rfl)) ae)) (au ao (pv 2) ai (fun _ _=>rfl))))) aH) az)),?_⟩
  dsimp! []
  refine bF hd d.at1 ⟨Pr,L,W,d.root,rfl,h,fun u H1 s1 hu=>bF (s1.bT hd) d.hd ⟨rfl,Gq 11 rfl (by decide) (fun c=>?_) fun c=>?_⟩⟩
  ·cases d with
   | tell x=>
    have q:=q H1 (ar.kp s1) (h.same s1)
    have okx:=ok.g x
    have e:W.Bt (.tell x)=(W.g x).told:=rfl
    have er:W.g (De.root (.tell x))=W.g x:=rfl
    rw [er] at hu
    rw [e] at q
    cases e:W.g x with
    | no=>
     rw [e] at hu q
     obtain⟨r,rfl,hr⟩:=hu
     exact bF hr rfl ⟨rfl,bu (fun z=>absurd (V.str.inj (of_decide_eq_true z)) (by decide +kernel)) fun _=>bF hr rfl q⟩
    | th n=>
     rw [e] at hu q
     obtain⟨r,rfl,hr⟩:=hu
     exact bF hr rfl ⟨rfl,bu (fun z=>absurd (V.str.inj (of_decide_eq_true z)) (by decide +kernel)) fun _=>bF hr rfl q⟩
    | num n=>
     rw [e] at hu q okx
     obtain⟨r,rfl,hr⟩:=hu
     exact bF hr rfl ⟨rfl,bu (fun _=>bF hr rfl (.inl ⟨n,rfl,xn.log okx,q⟩)) fun z=>absurd (decide_eq_true rfl) z⟩
   | _=>exact absurd c Bool.false_ne_true
  ·refine a9.of (ag (aR (aC b7 (au ao (pv 1) ai (fun _ _=>rfl)) av (aI _)) (ah (aw (eV (aC (gE hr.units) (pv 2) (aM (eI T) (hr.mono (by decide)) rfl T.ft T.ef.kp T.fq .nil aB (aa (pv 0) (aa (au ao (pv 1) ai (fun _ _=>rfl)) ae))) (aI _)) av av))) aH) az) ?_
   dsimp! []
   refine bF (s1.bT hd) d.hd ⟨rfl,Gq 12 rfl (by decide) (fun c2=>?_) fun c2=>?_⟩
   ·cases d with
    | same x y=>
     refine bF (s1.bT hd) rfl ⟨Pr,L,W,y,rfl,h.same s1,fun u2 H2 s2 Ko=>⟨_,_,(hu.same s2).rG,Ko.rG,by rw [jV]; decide,_,rfl,?_⟩⟩
     have q:=q H2 (ar.kp (s1.trans s2)) (h.same (s1.trans s2))
     have e:W.Bt (.same x y)=if bp (vD (W.g x)) (vD (W.g y))=true then("yes":Str)else("no":Str):=rfl
     rw [e] at q
     refine bu (fun c=>?_) fun c=>?_
     ·have c2:bp (vD (W.g x)) (vD (W.g y))=true:=c
      rw [if_pos c2] at q
      exact q
     ·have c2:¬bp (vD (W.g x)) (vD (W.g y))=true:=c
      rw [if_neg c2] at q
      exact q
    | _=>exact absurd c2 Bool.false_ne_true
   ·cases d with
    | hear x=>
     refine a9.of (ag (aR (aC (gE hr.units) (au ao (pv 0) ai (fun _ _=>rfl)) (bG ae) (aI _)) (ag (a8 (aM (vi T) (hr.mono (by decide)) rfl T.zS T.jD.kp T.zR .nil aB (aa (pv 0) (aa (au ao (pv 1) ai (fun _ _=>rfl)) (aa (bf (aa av ae)) ae))))) (ah (aw av))) aH) (ag (uJ (kC PySem.F.plainAttrs_list PySem.F.slot_list_pop PySem.F.type_list_pop xE (au ao (pv 0) ai (fun _ _=>rfl)) (aa ai ae)) (jI (n:=2) rfl (cf (bL (i:=3) u3.nd rfl (Or.inl rfl)) (cf (bL (i:=4) u3.nd rfl (Or.inl rfl)) gv)))) (ag (a8 (aM (vi T) (hr.mono (by decide)) rfl T.zS T.jD.kp T.zR .nil aB (aa (pv 0) (aa (au ao (pv 1) ai (fun _ _=>rfl)) (aa (bf (aa av (aa (pv 3) ae))) ae))))) (ah (aw (dy jc rfl T.gh fQ (aa (pv 4) ae))))))) ?_
     dsimp! []
     have h1:=h.same s1
     have HS:=s1.bT hd
     obtain⟨xs,h8,h9⟩:=h1.he
     refine bF h1.tu rfl fun p hp=>?_
     have s2:=ar.put (o:=.lst []) hp
     have h2:=h1.same s2
     have Xy:=s2 _ _ h8
     have Vb:=h9.same s2
     have EM:upd H1 p (.lst []) p=some (.lst []):=af
     have hd2:=s2.bT HS
     have Bu:=s1.trans s2
     generalize upd H1 p (.lst [])=H2 at s2 h2 Xy Vb EM hd2 Bu ⊢
     refine⟨_,_,rF.rG (bN.of Xy) Vb,.VY (bN.of EM) (fun x hx=>(nomatch hx)),Kt _,_,rfl,?_⟩
     cases e:W.hs with
     | nil=>
      have e1:W.step (.hear x)=W.dD x .no:=by show W.qh x W.hs=_; rw [e]; rfl
      have e2:W.Bt (.hear x)="none":=by show z9 W.hs=_; rw [e]; rfl
      rw [e1,e2] at q
      refine bu (fun _=>bF hd2 rfl ⟨by decide,fun r hr=>?_⟩) fun z=>absurd (by simp [bp,jL]) z
      have s3:=ar.put (o:=.tup [V.str (Str.ofString "nothing")]) hr
      exact⟨Pr,L,W,x,_,.no,rfl,h2.same s3,hf.1,⟨r,rfl,bZ.of af⟩,fun H' k l=>q H' ((ar.kp (Bu.trans s3)).trans k) l⟩
     | cons y jg=>
      have e1:W.step (.hear x)=(Wd.mk W.g W.ts jg).dD x (.th (y.1:Nat)):=by show W.qh x W.hs=_; rw [e]; rfl
      have e2:W.Bt (.hear x)=(toString y.2:String):=by show z9 W.hs=_; rw [e]; rfl
      rw [e1,e2] at q
      have hn:=(ok.hs y (by rw [e]; exact List.mem_cons_self)).2
      rw [e] at Vb
      have kG:=Vb.1
      cases xs with
      | nil=>cases kG
      | cons x0 xs=>
       obtain⟨b,rfl,hb⟩:=Vb.2 0 x0 y rfl rfl
       refine bu (fun z=>?_) fun _=>bF h2.tu rfl ⟨.inl ⟨rfl,_,bN.of Xy⟩,L.l2,_,0,0,_,rfl,rfl,Xy,by decide,by decide,by simp [seqIndex?],rfl,?_⟩
       ·have z2:bp (.lst ((y::jg).map hD)) (.lst [])=true:=z
        rw [Ku] at z2
        cases z2
       ·have hr2:rF K H2 xs jg:=⟨by simpa using kG,fun i x h a b=>Vb.2 (i+1) x h a b⟩
        have k3:Kp (·=L.l2) H2 (upd H2 L.l2 (.lst xs)):=(Kp.refl _ _).set rfl
        have mu3:∀b,b=L.l2→Mu H2 b:=fun c e=>.inl ⟨V.ref b::xs,by rw [e]; exact Xy⟩
        have h3:eu K Pr (upd H2 L.l2 (.lst xs)) L ⟨W.g,W.ts,jg⟩:=h2.qe hr2 (by have:=h2.cw.2; rw [e,List.length_cons] at this; omega)
        have k3':Kp L.own H2 (upd H2 L.l2 (.lst xs)):=k3.mono fun b z=>.inr (.inr z)
        have hb3:=k3.bT mu3 hb
        have My:=k3.bT mu3 hd2
        show ∃a,V.ref b=V.ref a∧_
        refine⟨b,rfl,_,hb3,rfl,_,_,rfl,_,_,rfl,rfl,bF My rfl ⟨by decide,fun r hr=>?_⟩⟩
        have s4:=ar.put (o:=.tup [V.str (Str.ofString "thing"),.int (y.1:Int)]) hr
        refine⟨Pr,L,_,x,_,.th (y.1:Nat),rfl,h3.same s4,hf.1,⟨r,rfl,bZ.of af⟩,fun H' k l=>.inl ⟨_,rfl,xn.log hn,q H' ((ar.kp Bu).trans (k3'.trans ((ar.kp s4).trans k))) l⟩⟩
    | tell x=>exact absurd c.symm Bool.false_ne_true
    | same x y=>exact absurd c2.symm Bool.false_ne_true
    | _=>cases hv
noncomputable def Wd.told (W:Wd) (d:De):Str:=(W.refuse d).getD (W.Bt d)
noncomputable def Wd.after (W:Wd) (d:De):Wd:=if (W.refuse d).isSome=true then W else W.step d
noncomputable def Kv (K:PySem.W.Frag):Sp:=fun vs H Q _=>∃Pr L W t d,vs=[.ref L.st,.ref t]∧eu K Pr H L W∧W.ok∧bZ K H t (De.items d)∧d.fits∧W.ts.length < 500∧∀H',Kp L.own H H'→eu K Pr H' L (W.after d)→Q (.str (W.told d)) H'
theorem Xz:¬(("put":Str)="words"):=by decide +kernel
noncomputable def JDn (K:PySem.W.Frag) (Pr:Addr→Prop) (L:LA) (W:Wd) (d:De) (H:Hp) (σ':St) (H':Hp):Prop:=σ'.length=8∧Kp L.own H H'∧eu K Pr H' L (W.step d)
theorem Uo (T:Txt K mg a):aY P w K mg base cX 4 a.zF a.zG ["_law_state","_law_deed"] (Kv K):=by
 refine T.pU.ok jP (fun vs H Q E h=>?_) (fun cv A outer s H vs Q E hr h=>?_)
 ·obtain⟨_,_,_,_,_,rfl,_⟩:=h
  rfl
 ·obtain⟨Pr,L,W,t,d,rfl,h,ok,hd,hf,cw,q⟩:=h
  refine⟨_,(ag (bc (i:=2) jP.nd rfl (Or.inl rfl) (au ao (pv 1) ai (fun _ _=>rfl))) (ag (bc (i:=3) jP.nd rfl (Or.inl rfl) (aM (Ui T) (hr.mono (by decide)) rfl T.Pl T.pQ.kp T.Pk .nil aB (aa (pv 0) (aa (pv 1) ae)))) (ag (aR (aC uL (pv 3) bV (aI _)) (ah (aw (pv 3))) aH) (ag (aR (aC dQ (pv 2) (bG (aa av (aa av (aa av ae)))) (by with_unfolding_all rfl)) (ah (aw (aM (Um T) (hr.mono (by decide)) rfl T.Pt T.pT.kp T.Pq .nil aB (aa (pv 0) (aa (pv 1) ae))))) aH) az)))),?_⟩
  dsimp! []
  refine bF hd d.hd ⟨Pr,L,W,t,d,rfl,h,ok,hd,fun H1 s1=>?_⟩
  cases e:W.refuse d with
  | some z=>
   refine bu (fun _=>?_) fun c=>absurd rfl c
   have e1:W.told d=z:=by unfold Wd.told; rw [e]; rfl
   have e2:W.after d=W:=by unfold Wd.after; rw [e]; rfl
   rw [e1,e2] at q
   exact q H1 (ar.kp s1) (h.same s1)
  | none=>
   refine bu (fun c=>by cases c) fun _=>⟨by decide,fun p hp=>?_⟩
   have e1:W.told d=W.Bt d:=by unfold Wd.told; rw [e]; rfl
   have e2:W.after d=W.step d:=by unfold Wd.after; rw [e]; rfl
   rw [e1,e2] at q
   have s2:=s1.trans (ar.put (o:=.lst [V.str (Str.ofString "tell"),V.str (Str.ofString "same"),V.str (Str.ofString "hear")]) hp)
   refine Kr [11,12,13] af rfl (by decide) (fun c=>?_) fun c=>?_
   ·have ha:d.PU=true:=by
     cases d with
     | tell x=>rfl
     | same x y=>rfl
     | hear x=>rfl
     | _=>exact absurd c Bool.false_ne_true
    exact⟨Pr,L,W,t,d,rfl,h.same s2,ok,s2.bT hd,ha,hf,fun H' k l=>q H' ((ar.kp s2).trans k) l⟩
   ·have l1:W.ff d=false:=by
     cases c:W.ff d with
     | false=>rfl
     | true=>
      unfold Wd.refuse at e
      rw [if_pos c] at e
      cases e
    have l2:W.dg d=false:=by
     cases c:W.dg d with
     | false=>rfl
     | true=>
      unfold Wd.refuse at e
      rw [if_neg (by rw [l1]; simp),if_pos c] at e
      cases e
    have bw:W.Bt d="ok":=by
     cases d with
     | tell x=>exact absurd c.symm Bool.false_ne_true
     | same x y=>exact absurd c.symm Bool.false_ne_true
     | hear x=>exact absurd c.symm Bool.false_ne_true
     | _=>rfl
    rw [bw] at q
    have h2:=h.same s2
    have hd2:=s2.bT hd
    have q2:∀H',Kp L.own (upd H1 p _) H'→eu K Pr H' L (W.step d)→Q (.str "ok") H':=fun H' k l=>q H' ((ar.kp s2).trans k) l
    generalize upd H1 p (.lst [V.str (Str.ofString "tell"),V.str (Str.ofString "same"),V.str (Str.ofString "hear")])=H2 at h2 hd2 q2 ⊢
    refine a9.of (ag oR az) ?_
    dsimp! []
    refine Hr (JDn K Pr L W d H2) (Bs.of (aR (aC dQ (pv 2) (bG (aa av (aa av (aa av ae)))) (by with_unfolding_all rfl)) (ah (a8 (aM (Uj T) (hr.mono (by decide)) rfl T.Pn T.pR.kp T.Pm .nil aB (aa (pv 0) (aa (pv 1) ae))))) (ah (aR (aC dQ (pv 2) (bG (aa av (aa av ae))) (by with_unfolding_all rfl)) (ag (bc (i:=4) jP.nd rfl (Or.inl rfl) (au ao (aM (eI T) (hr.mono (by decide)) rfl T.ft T.ef.kp T.fq .nil aB (aa (pv 0) (aa (au ao (pv 1) ai (fun _ _=>rfl)) ae))) ai (fun _ _=>rfl))) (ag (uJ (c9 (cx hr) (au ao (pv 0) ai (fun _ _=>rfl)) (pv 4) (fun _ _=>rfl)) (jI (n:=3) rfl (cf (bL (i:=5) jP.nd rfl (Or.inl rfl)) (cf (bL (i:=6) jP.nd rfl (Or.inl rfl)) (cf (bL (i:=7) jP.nd rfl (Or.inl rfl)) gv))))) (ah (aR (aC b7 (pv 2) av (aI _)) (ah (cP (cx hr) (au ao (pv 0) ai (fun _ _=>rfl)) (pv 4) (bf (aa (pv 5) (aa (pv 6) (aa (au ao (pv 1) ai (fun _ _=>rfl)) ae)))) rfl)) (ah (cP (cx hr) (au ao (pv 0) ai (fun _ _=>rfl)) (pv 4) (bf (aa (pv 5) (aa (bo kF (bo kF (iA kB (pv 6) om (i9 (au ao (pv 1) ai (fun _ _=>rfl)))) (bG (aa (aM (eI T) (hr.mono (by decide)) rfl T.ft T.ef.kp T.fq .nil aB (aa (pv 0) (aa (au ao (pv 1) ai (fun _ _=>rfl)) ae))) ae))) (iA kB (pv 6) (i9 (bo jK (au ao (pv 1) ai (fun _ _=>rfl)) ai)) om)) (aa (pv 7) ae)))) rfl)))))) (ah (a8 (aM (vi T) (hr.mono (by decide)) rfl T.zS T.jD.kp T.zR .nil aB (aa (pv 0) (aa (au ao (pv 1) ai (fun _ _=>rfl)) (aa (aM (Uk T) (hr.mono (by decide)) rfl T.Pp T.pS.kp T.Po .nil aB (aa (pv 0) (aa (pv 1) ae))) ae))))))))) ?_) ?_
    ·dsimp! []
     refine⟨by decide,fun p3 hp3=>Kr [1,2,3] af rfl (by decide) (fun c2=>?_) fun c2=>⟨by decide,fun p4 hp4=>?_⟩⟩
     ·have hn:d.isNew=true:=by
       cases d with
       | make x n=>rfl
       | weak x n=>rfl
       | pair x n z=>rfl
       | _=>exact absurd c2 Bool.false_ne_true
      obtain⟨tg,hm⟩:=De.isNew.made hn W
      have s3:=ar.put (o:=.lst [V.str (Str.ofString "make"),V.str (Str.ofString "weak"),V.str (Str.ofString "pair")]) hp3
      exact⟨Pr,L,W,t,d,tg,rfl,h2.same s3,s3.bT hd2,hm,hf,cw,fun H' k l=>⟨rfl,(ar.kp s3).trans k,l⟩⟩
     have s3:=(ar.put (o:=.lst [V.str (Str.ofString "make"),V.str (Str.ofString "weak"),V.str (Str.ofString "pair")]) hp3).trans (ar.put (o:=.lst [V.str (Str.ofString "words"),V.str (Str.ofString "put")]) hp4)
     have h3:=h2.same s3
     have My:=s3.bT hd2
     refine Kr [4,5] af rfl (by decide) (fun c3=>?_) fun c3=>?_
     ·generalize upd (upd H2 p3 (.lst [V.str (Str.ofString "make"),V.str (Str.ofString "weak"),V.str (Str.ofString "pair")])) p4 (.lst [V.str (Str.ofString "words"),V.str (Str.ofString "put")])=H3 at s3 h3 My ⊢
      cases d with
      | words x n=>
       obtain⟨j,fs,w,g1,g2,g3,g4⟩:=ok.Aa (W.wanted l1 List.mem_cons_self)
       refine bF My rfl ⟨Pr,L,W,x,rfl,h3,fun u H4 s4 hu=>?_⟩
       rw [g1] at hu
       obtain⟨b,rfl,hb⟩:=hu
       have h4:=h3.same s4
       obtain⟨rows,qq,r1,r2,⟨r3,cV,r5,r6,r7⟩,r4,r8,r9⟩:=h4.at_ g2
       refine bF hb rfl (bF h4.tu rfl ⟨L.d1,rfl,_,r4,qq.1,rfl,_,bZ.of r3,rfl,_,_,rfl,_,_,rfl,_,_,rfl,rfl,?_⟩)
       refine bu (fun _=>bF (s4.bT My) rfl ⟨by decide,fun p5 hp5=>?_⟩) fun z=>absurd (decide_eq_true rfl) z
       have s5:=ar.put (o:=.tup [.str (Tg.plain fs w).sort,.ref qq.2,.int n]) hp5
       have e:W.step (.words x n)=⟨W.g,W.ts.set j (.plain fs (some n)),W.hs⟩:=by show W.nq n (W.tg x)=_; rw [g3]; rfl
       have Up:=h.cw.1
       refine bF (h4.same s5).tu rfl ⟨L.d1,rfl,_,gG.k (k:=Sum.inl ((j:Int)+1)) (s5 _ _ r1) (aQ (by rw [bS]; omega)),rfl,(ar.kp (s3.trans (s4.trans s5))).set (.inr (.inl rfl)),?_⟩
       rw [e]
       exact(h4.same s5).set (q':=(p5,qq.2)) (t':=.plain fs (some n)) (s5 _ _ r1) r2 ⟨af,cV,s5 _ _ r5,r6.same s5,r7⟩ r9
      | put x i y=>
       obtain⟨j,fs,w,g1,g2,g3,g4⟩:=ok.Aa (W.wanted l1 List.mem_cons_self)
       have hi:i < fs.length:=by
        rw [←g4]
        exact of_decide_eq_true (by simpa [Wd.dg,De.jW] using l2)
       refine bF My rfl ⟨Pr,L,W,x,rfl,h3,fun u H4 s4 hu=>?_⟩
       rw [g1] at hu
       obtain⟨b,rfl,hb⟩:=hu
       have h4:=h3.same s4
       obtain⟨rows,qq,r1,r2,⟨r3,cV,r5,r6,r7⟩,r4,r8,r9⟩:=h4.at_ g2
       refine bF hb rfl (bF h4.tu rfl ⟨L.d1,rfl,_,r4,qq.1,rfl,_,bZ.of r3,rfl,_,_,rfl,_,_,rfl,_,_,rfl,rfl,?_⟩)
       have hd4:=s4.bT My
       have hl:fs.length=cV.length:=r6.1
       have c1:kA cV none (some (i:Int))=cV.take i:=by
        unfold kA
        rw [HT.kz,HT.oj]
        simp
       have c2':kA cV (some ((i:Int)+1)) none=cV.drop (i+1):=by
        unfold kA
        rw [HT.kz,show(i:Int)+1=((i+1:Nat):Int)by simp,HT.oj]
        rw [Nat.min_eq_left (by omega),List.take_of_length_le (by rw [List.length_drop]; omega)]
       refine bu (fun z=>absurd (of_decide_eq_true z) Xz) fun _=>bF hd4 rfl ⟨_,rfl,qq.2,cV,rfl,bN.of r5,fun l6 hl6=>?_⟩
       rw [c1]
       have s6:=ar.put (o:=.lst (cV.take i)) hl6
       have e6:upd H4 l6 (.lst (cV.take i)) l6=some (.lst (cV.take i)):=af
       generalize upd H4 l6 (.lst (cV.take i))=H6 at s6 e6 ⊢
       refine bF (s6.bT hd4) rfl ⟨Pr,L,W,y,rfl,h4.same s6,fun u2 H7 s7 Ko=>⟨by decide,fun l8 hl8=>?_⟩⟩
       have s8:=ar.put (o:=.lst [u2]) hl8
       refine⟨l6,l8,_,_,rfl,rfl,bN.of (s8 _ _ (s7 _ _ e6)),bN.of af,by rw [List.length_take,List.length_singleton]; exact Nat.le_of_lt (aQ (by omega)),fun l9 hl9=>?_⟩
       have s9:=ar.put (o:=.lst (cV.take i++[u2])) hl9
       have e9:upd (upd H7 l8 (.lst [u2])) l9 (.lst (cV.take i++[u2])) l9=some (.lst (cV.take i++[u2])):=af
       have s79:=s7.trans (s8.trans s9)
       have hu9:=Ko.same (s8.trans s9)
       generalize upd (upd H7 l8 (.lst [u2])) l9 (.lst (cV.take i++[u2]))=H9 at s79 e9 hu9 ⊢
       have s69:=s6.trans s79
       refine bF (s69.bT hd4) rfl ⟨_,rfl,qq.2,cV,rfl,bN.of (s69 _ _ r5),fun l10 abi=>?_⟩
       rw [c2']
       have U6:=ar.put (o:=.lst (cV.drop (i+1))) abi
       refine⟨l9,l10,_,_,rfl,rfl,bN.of (U6 _ _ e9),bN.of af,by rw [List.length_append,List.length_take,List.length_singleton,List.length_drop]; exact Nat.le_of_lt (aQ (by omega)),fun Vc XA=>⟨by decide,fun p12 XB=>?_⟩⟩
       have ex:cV.take i++[u2]++cV.drop (i+1)=cV.set i u2:=by
        rw [List.set_eq_take_append_cons_drop,if_pos (by omega),List.append_assoc]
        rfl
       rw [ex] at XB ⊢
       have PV:=ar.put (o:=.lst (cV.set i u2)) XA
       have Bu:=ar.put (o:=.tup [.str (Tg.plain fs w).sort,.ref Vc,wV (Tg.plain fs w).words]) XB
       have Vd:=s69.trans (U6.trans (PV.trans Bu))
       have ll:=((r6.same Vd).set (i:=i) (hu9.same (U6.trans (PV.trans Bu))))
       have el:upd (upd (upd H9 l10 (.lst (cV.drop (i+1)))) Vc (.lst (cV.set i u2))) p12 (.tup [.str (Tg.plain fs w).sort,.ref Vc,wV (Tg.plain fs w).words]) Vc=some (.lst (cV.set i u2)):=Bu _ _ af
       have fr:H4 Vc=none:=(s69.trans U6).free XA
       have e:W.step (.put x i y)=⟨W.g,W.ts.set j (.plain (fs.set i (W.g y)) w),W.hs⟩:=by show W.nu i (W.g y) (W.tg x)=_; rw [g3]; rfl
       have Up:=h.cw.1
       refine bF (h4.same Vd).tu rfl ⟨L.d1,rfl,_,gG.k (k:=Sum.inl ((j:Int)+1)) (Vd _ _ r1) (aQ (by rw [bS]; omega)),rfl,(ar.kp (s3.trans (s4.trans Vd))).set (.inr (.inl rfl)),?_⟩
       rw [e]
       exact(h4.same Vd).set (q':=(p12,Vc)) (t':=.plain (fs.set i (W.g y)) w) (Vd _ _ r1) r2 ⟨af,_,el,ll,by rw [List.length_set]; exact r7⟩ (h4.fresh fr)
      | _=>exact absurd c3 Bool.false_ne_true
     ·have hb:∃v,W.PR d=some v∧W.step d=W.dD d.root v:=by
       cases d with
       | make x n=>exact absurd c2.symm Bool.false_ne_true
       | weak x n=>exact absurd c2.symm Bool.false_ne_true
       | pair x n z=>exact absurd c2.symm Bool.false_ne_true
       | words x n=>exact absurd c3.symm Bool.false_ne_true
       | put x n z=>exact absurd c3.symm Bool.false_ne_true
       | tell x=>exact absurd c.symm Bool.false_ne_true
       | same x y=>exact absurd c.symm Bool.false_ne_true
       | hear x=>exact absurd c.symm Bool.false_ne_true
       | _=>exact⟨_,rfl,rfl⟩
      obtain⟨v,hb1,hb2⟩:=hb
      refine bF My d.at1 ⟨Pr,L,W,t,d,v,rfl,h3,ok,My,hb1,l1,l2,fun u H4 s4 hu=>⟨Pr,L,W,d.root,u,v,rfl,h3.same s4,hf.1,hu,fun H' k l=>⟨rfl,(ar.kp (s3.trans s4)).trans k,?_⟩⟩⟩
      rw [hb2]
      exact l
    ·rintro σ' H3 ⟨hs,k3,l3⟩
     refine a9.of (ah (aw av)) ?_
     dsimp! []
     exact q2 H3 k3 l3
noncomputable def Tg.cleared:Tg→Tg
 | .plain fs w=>.plain (fs.map fun _=>.no) w
 | .weak _=>.weak .no
 | .pair _ _=>.pair .no .no
theorem Tg.XC (t:Tg):t.cleared.fs=List.replicate t.fs.length .no:=by
 cases t with
 | plain fs w=>
  show(fs.map fun _=>Vl.no)=_
  rw [List.map_const']
  rfl
 | weak f=>rfl
 | pair k v=>rfl
theorem Tg.Mz (t:Tg):t.cleared.sort=t.sort:=by cases t <;> rfl
theorem Tg.Kw (t:Tg):t.cleared.words=t.words:=by cases t <;> rfl
theorem XD {xs:List V}{b D:Addr}{σ:St}{Q:Hp→Prop}{H:Hp}(hD:H D=none) (hb:H b=some (.lst xs)) (hz:xs.length≤1000) (hq:∀H2 ys,ar H H2→H2 D=some (.lst ys)→gi K H2 ys (List.replicate xs.length .no)→Q H2):oO (Rj K b) [] (fun _ H Q=>Q true H) (LF (oH (tC (V.str (Str.ofString "nothing"))) xt)) σ D Q (upd H D (.lst [])):=by
 refine⟨fun i m H2=>m+i=xs.length∧∃ys,ar H H2∧H2 D=some (.lst ys)∧gi K H2 ys (List.replicate i .no),⟨xs.length,rfl,[],ar.put hD,af,gi.nil _ _⟩,?_⟩
 rintro i m H2 ⟨hm,ys,s2,e,hv⟩
 cases m with
 | zero=>
  have ei:i=xs.length:=by omega
  subst ei
  exact .inl ⟨⟨xs,bN.of (s2 _ _ hb),Nat.le_refl _⟩,hq H2 ys s2 e hv⟩
 | succ m=>
  refine .inr ⟨⟨xs,xs[i]'(by omega),bN.of (s2 _ _ hb),List.getElem?_eq_getElem _⟩,fun v H' y=>?_⟩
  obtain⟨rfl,_⟩:=y
  show(if true=true then _ else _)
  rw [if_pos rfl]
  refine⟨(by show 1≤sizeLine; decide),fun p hp=>?_⟩
  have s3:=ar.put (o:=.tup [V.str (Str.ofString "nothing")]) hp
  have e3:=s3 _ _ e
  have hlen:ys.length=i:=by rw [←hv.1,List.length_replicate]
  refine⟨ys,e3,aQ (by omega),m,Nat.lt_succ_self m,by omega,ys++[.ref p],fun b u eb=>?_,af,?_⟩
  ·have nb:b≠D:=fun z=>by rw [z,hD] at eb; cases eb
   have:=s3 b u (s2 b u eb)
   exact(ak nb).trans this
  ·have k:Kp (·=D) (upd H' p (.tup [V.str (Str.ofString "nothing")])) (upd (upd H' p (.tup [V.str (Str.ofString "nothing")])) D (.lst (ys++[.ref p]))):=(Kp.refl _ _).set rfl
   have mu:∀b,b=D→Mu (upd H' p (.tup [V.str (Str.ofString "nothing")])) b:=fun b z=>.inl ⟨ys,by rw [z]; exact e3⟩
   have hn:dJ K (upd H' p (.tup [V.str (Str.ofString "nothing")])) (.ref p) .no:=⟨p,rfl,bZ.of af⟩
   have:=(gi.snoc (hv.same s3) hn).kp k mu
   rw [List.replicate_succ']
   exact this
theorem rF.snoc {H:Hp}{xs:List V}{hs:List (Nat×Int)}{t:Addr}{h0:Nat×Int}(h:rF K H xs hs) (ht:bZ K H t [.int (h0.1:Int),.int h0.2]):rF K H (xs++[.ref t]) (hs++[h0]):=⟨by simp [h.1],fun i x y a b=>by
 have hl:=h.1
 by_cases hi:i < xs.length
 ·rw [List.getElem?_append_left hi] at a
  rw [List.getElem?_append_left (by omega)] at b
  exact h.2 i x y a b
 ·have e:i=xs.length:=by
   have:=(List.getElem?_eq_some_iff.mp a).1
   rw [List.length_append,List.length_singleton] at this
   omega
  subst e
  rw [List.getElem?_append_right (Nat.le_refl _),Nat.sub_self] at a
  rw [←hl,List.getElem?_append_right (Nat.le_refl _),Nat.sub_self] at b
  cases a
  cases b
  exact⟨t,rfl,ht⟩⟩
noncomputable def Gs (K:PySem.W.Frag):Sp:=fun vs H Q _=>∃Pr L W,∃(i:Nat) (t:Tg) (wd:Str),vs=[.ref L.st,.str wd,.int ((i:Int)+1)]∧eu K Pr H L W∧W.ts[i]?=some t∧W.hs.length < 500 ∧
 ((wd="due"∧∃fs n,t=.plain fs (some n)∧∀H',Kp L.own H H'→eu K Pr H' L ⟨W.g,W.ts.set i (.plain fs none),W.hs++[(i+1,n)]⟩→Q .bj H')∨(wd≠"due"∧∀H',Kp L.own H H'→eu K Pr H' L ⟨W.g,W.ts.set i t.cleared,W.hs⟩→Q .bj H'))
theorem CB (T:Txt K mg a):aY P w K mg base cX 2 a.zH a.zI ["_law_state","_law_word","_law_serial"] (Gs K):=by
 refine T.kQ.ok u4 (fun vs H Q E h=>?_) (fun cv A outer s H vs Q E hr h=>?_)
 ·obtain⟨_,_,_,_,_,_,rfl,_⟩:=h
  rfl
 ·obtain⟨Pr,L,W,i,t,wd,rfl,h,ht,cw,q⟩:=h
  refine⟨_,(ag (uJ (c9 (cx hr) (au ao (pv 0) ai (fun _ _=>rfl)) (pv 2) (fun _ _=>rfl)) (jI (n:=3) rfl (cf (bL (i:=3) u4.nd rfl (Or.inl rfl)) (cf (bL (i:=4) u4.nd rfl (Or.inl rfl)) (cf (bL (i:=5) u4.nd rfl (Or.inl rfl)) gv))))) (ah (aR (aC b7 (pv 1) av (aI _)) (ag (a8 (kC PySem.F.plainAttrs_list PySem.F.slot_list_append PySem.F.type_list_append eN (au ao (pv 0) ai (fun _ _=>rfl)) (aa (bf (aa (pv 2) (aa (pv 5) ae))) ae))) (ah (cP (cx hr) (au ao (pv 0) ai (fun _ _=>rfl)) (pv 2) (bf (aa (pv 3) (aa (pv 4) (aa bV ae)))) rfl))) (ah (cP (cx hr) (au ao (pv 0) ai (fun _ _=>rfl)) (pv 2) (bf (aa (pv 3) (aa (Ob rfl (VV (x:="_law_value_here") (ns:=[]) (fr:=[]) rfl (by decide +kernel) rfl (by decide +kernel) rfl (List.forall_mem_nil _) rfl rfl (List.forall_mem_nil _) (by decide +kernel)) (uK (pv 4)) (fun _ _ _ _=>(bf (aa av ae))) (fun _ _ _ _=>.nil)) (aa (pv 5) ae)))) rfl))))),?_⟩
  dsimp! []
  obtain⟨rows,qq,r1,r2,⟨r3,cV,r5,r6,r7⟩,r4,r8,r9⟩:=h.at_ ht
  refine bF h.tu rfl ⟨L.d1,rfl,_,r4,qq.1,rfl,_,bZ.of r3,rfl,_,_,rfl,_,_,rfl,_,_,rfl,rfl,bu (fun z=>?_) fun z=>?_⟩
  ·rcases q with ⟨_,fs,n,rfl,q⟩ | ⟨c,_⟩
   ·obtain⟨xs,h8,h9⟩:=h.he
    refine bF h.tu rfl ⟨.inl ⟨rfl,_,bN.of h8⟩,by decide,fun p hp=>?_⟩
    have s1:=ar.put (o:=.tup [.int ((i:Int)+1),.int n]) hp
    refine⟨L.l2,xs,_,rfl,rfl,s1 _ _ h8,aQ (by have:=h9.1; omega),by decide,fun r hr=>?_⟩
    have l1:=(h.same s1).qe ((h9.same s1).snoc (h0:=(i+1,n)) (bZ.of af)) (by rw [List.length_append,List.length_singleton]; omega)
    have k1:Kp L.own (upd H p (.tup [.int ((i:Int)+1),.int n])) (upd (upd H p (.tup [.int ((i:Int)+1),.int n])) L.l2 (.lst (xs++[.ref p]))):=(Kp.refl _ _).set (.inr (.inr rfl))
    have s2:=ar.put (o:=.tup [.str (Tg.plain fs (some n)).sort,.ref qq.2,V.bj]) hr
    have l2:=l1.same s2
    have GQ:(upd (upd H p (.tup [.int ((i:Int)+1),.int n])) L.l2 (.lst (xs++[.ref p]))) L.d1=some (.dK (du rows)):=by
     rw [ak (fun z=>by rw [z,h8] at r1; cases r1)]
     exact s1 _ _ r1
    have Mq:(upd (upd H p (.tup [.int ((i:Int)+1),.int n])) L.l2 (.lst (xs++[.ref p]))) qq.2=some (.lst cV):=by
     rw [ak r9.1]
     exact s1 _ _ r5
    have Up:=h.cw.1
    refine bF l2.tu rfl ⟨L.d1,rfl,_,gG.k (k:=Sum.inl ((i:Int)+1)) (s2 _ _ GQ) (aQ (by rw [bS]; omega)),q _ ((ar.kp s1).trans ((k1.trans (ar.kp s2)).set (.inr (.inl rfl)))) ?_⟩
    have hv6:gi K (upd (upd H p (.tup [.int ((i:Int)+1),.int n])) L.l2 (.lst (xs++[.ref p]))) cV fs:=(r6.same s1).kp ((Kp.refl (·=L.l2) _).set rfl) fun b e=>.inl ⟨xs,by rw [e]; exact s1 _ _ h8⟩
    exact l2.set (q':=(r,qq.2)) (t':=.plain fs none) (s2 _ _ GQ) r2 ⟨af,cV,s2 _ _ Mq,hv6.same s2,r7⟩ ⟨r9.1,r9.2⟩
   ·exact absurd (of_decide_eq_true z) c
  ·rcases q with ⟨c,_⟩ | ⟨_,q⟩
   ·exact absurd (decide_eq_true c) z
   ·refine⟨qq.2,rfl,⟨_,bN.of r5⟩,fun D hD=>XD (K:=K) hD r5 r7 fun H2 ys s2 e2 hv=>⟨by decide,fun p hp=>?_⟩⟩
    have s3:=ar.put (o:=.tup [.str t.sort,.ref D,wV t.words]) hp
    have s4:=s2.trans s3
    have Up:=h.cw.1
    refine bF ((h.same s4).tu) rfl ⟨L.d1,rfl,_,gG.k (k:=Sum.inl ((i:Int)+1)) (s4 _ _ r1) (aQ (by rw [bS]; omega)),q _ ((ar.kp s4).set (.inr (.inl rfl))) ?_⟩
    refine(h.same s4).set (q':=(p,D)) (s4 _ _ r1) r2 ⟨by rw [Tg.Mz,Tg.Kw]; exact af,ys,s3 _ _ e2,?_,by rw [←hv.1,List.length_replicate]; exact r7⟩ (h.fresh hD)
    rw [Tg.XC,r6.1]
    exact hv.same s3
inductive Sm:D→Prop where
 | bj:Sm .bj
 | bl (b:Bool):Sm (.bl b)
 | int (i:Int):Sm (.int i)
 | str (x:Str):Sm (.str x)
 | lst {ds:List D}(h:ds.length≤1000) (hs:∀d∈ds,Sm d):Sm (.lst ds)
 | tup {ds:List D}(h:ds.length≤1000) (hs:∀d∈ds,Sm d):Sm (.tup ds)
noncomputable def DcA (K:PySem.W.Frag) (n:Nat) (H:Hp) (x y:V):Prop:=∃ax ay ka kb,x=.ref ax∧y=.ref ay∧H ax=some (.dK ka)∧H ay=some (.dK kb)∧ax≠ay∧ka.length=kb.length∧∀kv∈kb,∃u d,bK ka kv.1=some u∧bK kb kv.1=some kv.2∧fH K H u d∧fH K H kv.2 d∧d.dep+1≤n∧Sm d
noncomputable def qj (K:PySem.W.Frag):Nat→Sp
 | 0=>fun _ _ _ _=>False
 | n+1=>fun vs H Q _=>∃x y,vs=[x,y]∧((∃d:D,fH K H x d∧fH K H y d∧d.dep≤n∧Sm d)∨DcA K n H x y)∧n≤20∧Q (.bl true) H
theorem Fh:∀{ds:List D}{i:Nat}{d:D},ds[i]?=some d→d.dep≤eO ds
 | [],i,d,h=>by simp at h
 | e::ds,0,d,h=>by
  cases h
  rw [eO]
  omega
 | e::ds,i+1,d,h=>by
  have:=Fh (ds:=ds) (i:=i) (d:=d) (by simpa using h)
  rw [eO]
  omega
theorem vk (K:PySem.W.Frag) (n:String) (b:Bool) (hn:(n="bool"∧b=false)∨(n="str"∧b=false)∨(n="int"∧b=false)∨(n="tuple"∧b=false)∨(n="list"∧b=false)∨n="dict"∧b=true):PySem.W.kitOne K (.type "dict") (.type n)=some b:=by
 rcases hn with ⟨rfl,rfl⟩ | ⟨rfl,rfl⟩ | ⟨rfl,rfl⟩ | ⟨rfl,rfl⟩ | ⟨rfl,rfl⟩ | ⟨rfl,rfl⟩ <;>
  first
  | exact xH K _
  | exact EJ K (by decide +kernel) (by decide +kernel) (by decide +kernel)
theorem Ad (T:Txt K mg a):∀n,aY P w K mg base cX n a.pw a.t9 ["_law_found","_law_due"] (qj K n)
 | 0=>aY.no
 | n+1=>by
  have ih:=Ad T n
  refine T.hJ.ok u5 (fun vs H Q E h=>?_) (fun cv A outer s H vs Q E hr h=>?_)
  ·obtain⟨_,_,rfl,_⟩:=h
   rfl
  ·obtain⟨x,y,rfl,⟨d,hx,hy,hd,hsm⟩ | hdc,hn,q⟩:=h
   rotate_left
   ·refine⟨_,(ag (aR (PW.pt (fX (cJ (aF aN rfl T.aE aD (aa (pv 1) (aa (bx (v:=.ty "bool") rfl T.jS oo rfl) ae)))) (fX (aC iz (pv 1) bV (aI _)) (fh (cJ (aF aN rfl T.aE aD (aa (pv 1) (aa (bx (v:=.ty "str") rfl T.gh fQ rfl) ae)))))))) (ah (aw (ir (eQ (gE hr.units) (pv 0) (pv 1) (aI _)) (jH (eQ b7 (aF aN rfl T.aE aD (aa (pv 0) (aa (bx (v:=.ty "str") rfl T.gh fQ rfl) ae))) (aF aN rfl T.aE aD (aa (pv 1) (aa (bx (v:=.ty "str") rfl T.gh fQ rfl) ae))) (aI _)))))) aH) (ag (aR (cJ (aF aN rfl T.aE aD (aa (pv 1) (aa (bx (v:=.ty "int") rfl T.ng oN rfl) ae)))) (ah (aw (ir (aF aN rfl T.aE aD (aa (pv 0) (aa (bx (v:=.ty "int") rfl T.ng oN rfl) ae))) (ir (uI (aF aN rfl T.aE aD (aa (pv 0) (aa (bx (v:=.ty "bool") rfl T.jS oo rfl) ae)))) (jH (eQ (gE hr.units) (pv 0) (pv 1) (aI _))))))) aH) (ag (aR (PW.pt (fX (aC fZ (aF aN rfl T.aE aD (aa (pv 1) (aa (bx (v:=.ty "tuple") rfl T.gQ kD rfl) ae))) (aF aN rfl T.aE aD (aa (pv 0) (aa (bx (v:=.ty "tuple") rfl T.gQ kD rfl) ae))) (aI _)) (fh (aC fZ (aF aN rfl T.aE aD (aa (pv 1) (aa (bx (v:=.ty "list") rfl T.fS gB rfl) ae))) (aF aN rfl T.aE aD (aa (pv 0) (aa (bx (v:=.ty "list") rfl T.fS gB rfl) ae))) (aI _))))) (ah (aw eU)) aH) (ag (aR (cJ (aF aN rfl T.aE aD (aa (pv 1) (aa (bx (v:=.ty "dict") rfl T.iH kE rfl) ae)))) (ag (aR (PW.pt (fX (fP (cJ (aF aN rfl T.aE aD (aa (pv 0) (aa (bx (v:=.ty "dict") rfl T.iH kE rfl) ae))))) (fh (aC fZ (aF dS rfl T.eF dI (aa (pv 0) ae)) (aF dS rfl T.eF dI (aa (pv 1) ae)) (aI _))))) (ah (aw eU)) aH) (ag (ou (gF PassesOwn.never rfl (ET (pv 1)) (bL (i:=2) u5.nd rfl (Or.inl rfl)) az)) az)) aH) az)))),?_⟩
    obtain⟨ax,ay,ka,kb,rfl,rfl,ha,hb,ne,hlen,hal⟩:=hdc
    have tx:Mi K H (.ref ax) (.type "dict"):=.dct (.inl ha)
    have ty:Mi K H (.ref ay) (.type "dict"):=.dct (.inl hb)
    dsimp! []
    refine⟨_,ty,_,vk K "bool" false (.inl ⟨rfl,rfl⟩),c0 ⟨_,ty,_,vk K "str" false (.inr (.inl ⟨rfl,rfl⟩)),c0 ⟨_,ty,_,vk K "int" false (.inr (.inr (.inl ⟨rfl,rfl⟩))),c0 ⟨_,ty,_,vk K "tuple" false (.inr (.inr (.inr (.inl ⟨rfl,rfl⟩)))),_,tx,_,vk K "tuple" false (.inr (.inr (.inr (.inl ⟨rfl,rfl⟩)))),?_⟩⟩⟩⟩
    rw [decide_eq_true rfl]
    refine c0 ⟨_,ty,_,vk K "list" false (.inr (.inr (.inr (.inr (.inl ⟨rfl,rfl⟩))))),_,tx,_,vk K "list" false (.inr (.inr (.inr (.inr (.inl ⟨rfl,rfl⟩))))),?_⟩
    rw [decide_eq_true rfl]
    refine c0 ⟨_,ty,_,vk K "dict" true (.inr (.inr (.inr (.inr (.inr ⟨rfl,rfl⟩))))),oM ⟨_,tx,_,vk K "dict" true (.inr (.inr (.inr (.inr (.inr ⟨rfl,rfl⟩))))),c0 ⟨ka,ha,kb,hb,?_⟩⟩⟩
    rw [decide_eq_true (show((ka.length:Nat):Int)=(kb.length:Nat)by rw [hlen])]
    refine c0 ⟨kb,hb,fun o=>L0 (fun i σ' H'=>H'=upd H ay (.dF o (.dK kb))∧∃o2:Option V,σ'=[some (.ref ax),some (.ref ay),o2,none]) ⟨rfl,none,rfl⟩ (fun i σ' H' _ hh=>by rw [hh.1]; exact af) (fun i kv σ' H' lj hh=>?_) fun σ' H' hh=>?_⟩
    ·obtain⟨rfl,o2,rfl⟩:=hh
     refine gN ?_
     refine a9.of (ah (aR (PW.pt (fX (GX (tU (cx hr) (pv 2) (pv 0))) (fh (fP (cJ (aM ih (hr.mono (Nat.le_refl _)) rfl T.pW T.hJ.kp T.pV .nil aB (aa (c9 (cx hr) (pv 0) (pv 2) (fun _ _=>rfl)) (aa (c9 (cx hr) (pv 1) (pv 2) (fun _ _=>rfl)) ae)))))))) (ah (aw eU)) aH)) ?_
     dsimp! []
     obtain⟨u,d,v1,v2,v3,v4,v5,v6⟩:=hal kv (List.mem_of_getElem? lj)
     have hfa:upd H ay (.dF o (.dK kb)) ax=some (.dK ka):=by rw [ak ne]; exact ha
     have hfb:Rd (upd H ay (.dF o (.dK kb))) ay (.dK kb):=.inr ⟨o,af⟩
     obtain⟨n',rfl⟩:∃n',n=n'+1:=⟨n - 1,by omega⟩
     refine⟨some u,by rw [←v1]; exact fk.k (k:=kv.1) hfa,c0 ⟨u,by rw [←v1]; exact fk.k (k:=kv.1) hfa,kv.2,by rw [←v2]; exact .inl ⟨kb,kv.1,hfb,rfl,rfl⟩,?_⟩⟩
     exact⟨u,kv.2,rfl,.inl ⟨d,v3.dF hb,v4.dF hb,by omega,v6⟩,by omega,true,rfl,c0 ⟨rfl,_,rfl⟩⟩
    ·obtain⟨rfl,o2,rfl⟩:=hh
     refine .inr ⟨ay,kb,_,⟨fun o u z=>?_,⟨o,af⟩,rfl⟩,a9.of (ah (aw eU)) ?_⟩
     ·have z2:H ay=some (.dF o u):=z
      rw [hb] at z2
      cases z2
     ·dsimp! []
      rw [og,uX hb]
      exact q
   refine⟨_,(ag (aR (PW.pt (fX (cJ (aF aN rfl T.aE aD (aa (pv 1) (aa (bx (v:=.ty "bool") rfl T.jS oo rfl) ae)))) (fX (aC iz (pv 1) bV (aI _)) (fh (cJ (aF aN rfl T.aE aD (aa (pv 1) (aa (bx (v:=.ty "str") rfl T.gh fQ rfl) ae)))))))) (ah (aw (ir (eQ (gE hr.units) (pv 0) (pv 1) (aI _)) (jH (eQ b7 (aF aN rfl T.aE aD (aa (pv 0) (aa (bx (v:=.ty "str") rfl T.gh fQ rfl) ae))) (aF aN rfl T.aE aD (aa (pv 1) (aa (bx (v:=.ty "str") rfl T.gh fQ rfl) ae))) (aI _)))))) aH) (ag (aR (cJ (aF aN rfl T.aE aD (aa (pv 1) (aa (bx (v:=.ty "int") rfl T.ng oN rfl) ae)))) (ah (aw (ir (aF aN rfl T.aE aD (aa (pv 0) (aa (bx (v:=.ty "int") rfl T.ng oN rfl) ae))) (ir (uI (aF aN rfl T.aE aD (aa (pv 0) (aa (bx (v:=.ty "bool") rfl T.jS oo rfl) ae)))) (jH (eQ (gE hr.units) (pv 0) (pv 1) (aI _))))))) aH) (ag (aR (PW.pt (fX (aC fZ (aF aN rfl T.aE aD (aa (pv 1) (aa (bx (v:=.ty "tuple") rfl T.gQ kD rfl) ae))) (aF aN rfl T.aE aD (aa (pv 0) (aa (bx (v:=.ty "tuple") rfl T.gQ kD rfl) ae))) (aI _)) (fh (aC fZ (aF aN rfl T.aE aD (aa (pv 1) (aa (bx (v:=.ty "list") rfl T.fS gB rfl) ae))) (aF aN rfl T.aE aD (aa (pv 0) (aa (bx (v:=.ty "list") rfl T.fS gB rfl) ae))) (aI _))))) (ah (aw eU)) aH) (ag (aR (cJ (aF aN rfl T.aE aD (aa (pv 1) (aa (bx (v:=.ty "dict") rfl T.iH kE rfl) ae)))) (ag (aR (PW.pt (fX (fP (cJ (aF aN rfl T.aE aD (aa (pv 0) (aa (bx (v:=.ty "dict") rfl T.iH kE rfl) ae))))) (fh (aC fZ (aF dS rfl T.eF dI (aa (pv 0) ae)) (aF dS rfl T.eF dI (aa (pv 1) ae)) (aI _))))) (ah (aw eU)) aH) (ag (ou (gF PassesOwn.never rfl (ET (pv 1)) (bL (i:=2) u5.nd rfl (Or.inl rfl)) az)) az)) aH) az)))),?_⟩
   have tx:Mi K H x (.type (RY d)):=.s hx.ty
   have ty:Mi K H y (.type (RY d)):=.s hy.ty
   dsimp! []
   have k1:=FO K d "bool" (.inl rfl)
   have k2:=FO K d "str" (.inr (.inl rfl))
   have k3:=FO K d "int" (.inr (.inr (.inl rfl)))
   have k4:=FO K d "tuple" (.inr (.inr (.inr (.inl rfl))))
   have k5:=FO K d "list" (.inr (.inr (.inr (.inr (.inl rfl)))))
   have k6:=FO K d "dict" (.inr (.inr (.inr (.inr (.inr rfl)))))
   have eqs:LV K false x y H fun x_3 H1=>∃c,x_3=V.bl c∧if c=true then ∃x_4,Mi K H1 x x_4∧∃x,PySem.W.kitOne K x_4 (Value.type "str")=some x∧∃Xv,Mi K H1 y Xv∧∃x_6,PySem.W.kitOne K Xv (Value.type "str")=some x_6∧Q (V.bl (decide (x=x_6))) H1 else Q (V.bl false) H1:=by
    refine⟨d,d,hx,hy,by omega,?_⟩
    rw [if_neg Bool.false_ne_true,f6]
    refine⟨true,rfl,oM ⟨_,tx,_,k2,_,ty,_,k2,?_⟩⟩
    rw [decide_eq_true rfl]
    exact q
   have nn:∀t,RY d=t→t≠"NoneType"→y≠V.bj:=fun t e h z=>by
    subst z
    cases hy
    exact h e.symm
   refine⟨_,ty,_,k1,?_⟩
   have rest:∀(ax ay:Addr) (xs ys:List V) (ds:List D),x=.ref ax→y=.ref ay→(bN K H ax xs∨bZ K H ax xs)→(bN K H ay ys∨bZ K H ay ys)→xs.length=ds.length→ys.length=ds.length→(∀(i:Nat) x d,xs[i]?=some x→ds[i]?=some d→fH K H x d)→(∀(i:Nat) x d,ys[i]?=some x→ds[i]?=some d→fH K H x d)→eO ds+1≤n→ds.length≤1000→(∀d∈ds,Sm d)→a9 (ky cX P w K mg base ["_law_found","_law_due","_law_key","_law_k"] "_law_alike" (aq x9) a.pw cv A outer s H E).Vq ((eR x9).drop 4) {nx:=fun _ H'=>Q V.bj H',rt:=Q} [some x,some y,none,none] H:=by
    intro ax ay xs ys ds ex ey hxs hys l1 l2 i1 i2 hdp hsz hsm
    subst ex ey
    refine a9.of (ag (aR (aC fZ (aF cF rfl T.eF dI (aa (pv 0) ae)) (aF cF rfl T.eF dI (aa (pv 1) ae)) (aI _)) (ah (aw eU)) aH) (ag (gF PassesOwn.never rfl (tK rfl T.lg (aa (aF cF rfl T.eF dI (aa (pv 1) ae)) ae)) (bL (i:=3) u5.nd rfl (Or.inl rfl)) az) az)) ?_
    dsimp! []
    refine⟨xs,hxs,ys,hys,?_⟩
    rw [decide_eq_true (show((xs.length:Nat):Int)=(ys.length:Nat)by rw [l1,l2])]
    refine c0 ⟨ys,hys,by omega,by omega,Hq (fun i σ H'=>H'=H∧∃o3:Option V,σ=[some (.ref ax),some (.ref ay),none,o3]) ⟨rfl,none,rfl⟩ ?_ ?_⟩
    ·rintro i σ H' hi ⟨rfl,o3,rfl⟩
     have hid:i < ds.length:=by omega
     have gx:xs[i]?=some xs[i]:=List.getElem?_eq_getElem (by omega)
     have gy:ys[i]?=some ys[i]:=List.getElem?_eq_getElem (by omega)
     have gd:ds[i]?=some ds[i]:=List.getElem?_eq_getElem hid
     have hdi:=Fh gd
     refine gN ?_
     refine a9.of (ah (aR (fP (cJ (aM ih (hr.mono (Nat.le_refl _)) rfl T.pW T.hJ.kp T.pV .nil aB (aa (au HE (pv 0) (pv 3) (fun _ _=>rfl)) (aa (au HE (pv 1) (pv 3) (fun _ _=>rfl)) ae))))) (ah (aw eU)) aH)) ?_
     dsimp! [Int.zero_add]
     obtain⟨n',rfl⟩:∃n',n=n'+1:=⟨n - 1,by omega⟩
     have fin:qj K (n'+1) [xs[i],ys[i]] H' (fun x H1=>∃c,x=V.bl c∧if (!c)=true then Q (V.bl false) H1 else H1=H'∧∃o3,some (V.int (i:Int))=o3) E0:=⟨_,_,rfl,.inl ⟨ds[i],i1 i _ _ gx gd,i2 i _ _ gy gd,by omega,hsm _ (List.getElem_mem hid)⟩,by omega,true,rfl,c0 ⟨rfl,_,rfl⟩⟩
     have ix:∀(ad:Addr) (zs:List V) (z:V) (R:VK),(bN K H' ad zs∨bZ K H' ad zs)→zs[i]?=some z→R z H'→V5 K (.ref ad) (.int (i:Int)) H' R:=fun ad zs z R hz gz r=>by
      rcases hz with hz | hz
      ·exact .inl ⟨ad,zs,_,z,rfl,rfl,hz,dz gz,r⟩
      ·exact .inr ⟨ad,zs,_,z,rfl,rfl,hz,dz gz,r⟩
     exact ix _ _ _ _ hxs gx (ix _ _ _ _ hys gy fin)
    ·rintro σ H' ⟨rfl,o3,rfl⟩
     refine a9.of (ah (aw eU)) ?_
     dsimp! []
     exact q
   cases d with
   | bl b=>exact oM eqs
   | bj=>
    cases hy
    exact c0 (oM eqs)
   | str z=>
    rw [decide_eq_false (nn "str" rfl (by decide))]
    exact c0 (c0 ⟨_,ty,_,k2,oM eqs⟩)
   | int z=>
    rw [decide_eq_false (nn "int" rfl (by decide))]
    refine c0 (c0 ⟨_,ty,_,k2,c0 ⟨_,ty,_,k3,oM ⟨_,tx,_,k3,oM ⟨_,tx,_,k1,oM ⟨_,_,hx,hy,by omega,?_⟩⟩⟩⟩⟩)
    rw [if_neg Bool.false_ne_true,f6]
    exact q
   | lst ds=>
    rw [decide_eq_false (nn "list" rfl (by decide))]
    refine c0 (c0 ⟨_,ty,_,k2,c0 ⟨_,ty,_,k3,c0 ⟨_,ty,_,k4,_,tx,_,k4,?_⟩⟩⟩)
    rw [decide_eq_true rfl]
    refine c0 ⟨_,ty,_,k5,_,tx,_,k5,?_⟩
    rw [decide_eq_true rfl]
    refine c0 ⟨_,ty,_,k6,c0 ?_⟩
    rw [D.dep] at hd
    cases hsm with
    | lst hm1 Wv=>
    cases hx with
    | lst h1 l1 i1=>
     cases hy with
     | lst h2 l2 i2=>exact rest _ _ _ _ ds rfl rfl (.inl h1) (.inl h2) l1 l2 i1 i2 hd hm1 Wv
   | tup ds=>
    rw [decide_eq_false (nn "tuple" rfl (by decide))]
    refine c0 (c0 ⟨_,ty,_,k2,c0 ⟨_,ty,_,k3,c0 ⟨_,ty,_,k4,_,tx,_,k4,?_⟩⟩⟩)
    rw [decide_eq_true rfl]
    refine c0 ⟨_,ty,_,k5,_,tx,_,k5,?_⟩
    rw [decide_eq_true rfl]
    refine c0 ⟨_,ty,_,k6,c0 ?_⟩
    rw [D.dep] at hd
    cases hsm with
    | tup hm1 Wv=>
    cases hx with
    | tup h1 l1 i1=>
     cases hy with
     | tup h2 l2 i2=>exact rest _ _ _ _ ds rfl rfl (.inr h1) (.inr h2) l1 l2 i1 i2 hd hm1 Wv
noncomputable def Uq (K:PySem.W.Frag):Sp:=qj K 6
theorem vm (T:Txt K mg a):aY P w K mg base cX 6 a.pw a.t9 ["_law_found","_law_due"] (Uq K):=Ad T 6
noncomputable def Kx (a:eP) (K:PySem.W.Frag):Sp:=fun vs H Q _=>∃Pr A W t d,vs=[.ref A.p,.ref t]∧Cy a K Pr H A W t d∧d.fits∧W.ts.length < 500∧∀H',Kp A.own H H'→PW a K Pr H' A (W.after d)→Q (.str (W.told d)) H'
theorem Ur (T:Txt K mg a):aY P w K mg base cX 9 a.zJ a.zK ["_law_heap","_law_deed"] (Kx a K):=by
 refine T.pX.ok lR (fun vs H Q E h=>?_) (fun cv A outer s H vs Q E hr h=>?_)
 ·obtain⟨_,_,_,_,_,rfl,_⟩:=h
  rfl
 ·obtain⟨Pr,A,W,t,d,rfl,h,hf,cw,q⟩:=h
  refine⟨_,(ag (bc (i:=2) lR.nd rfl (Or.inl rfl) bV) (ag (bc (i:=3) lR.nd rfl (Or.inl rfl) bV) (ag (B1 (i:=3) (j:=4) (pv 0) T.aj T.JV (Ud T) (hr.mono (by decide)) T.O3 .nil rfl rfl lR.nd rfl (Or.inl rfl) rfl rfl rfl T.kR (fun _ _ h=>h) (aa (pv 1) ae) (fun _=>(ah (bc (i:=2) lR.nd rfl (Or.inl rfl) (pv 4))))) az))),?_⟩
  dsimp! [Oy]
  obtain⟨dx,h1⟩:=h.ph.ob
  refine⟨dx,_,h1,aT,Pr,A,W,t,d,rfl,h,hf,cw,fun e H' k ph=>?_,fun z x H' e hz s1 hx ex=>?_⟩
  ·have e1:W.told d=W.Bt d:=by unfold Wd.told; rw [e]; rfl
   have e2:W.after d=W.step d:=by unfold Wd.after; rw [e]; rfl
   rw [e1,e2] at q
   refine a9.of (ag (aR (aC iz (pv 2) bV (aI _)) (ah (aw (pv 3))) aH) az) ?_
   dsimp! []
   exact q H' k ph
  ·have e1:W.told d=z:=by unfold Wd.told; rw [e]; rfl
   have e2:W.after d=W:=by unfold Wd.after; rw [e]; rfl
   rw [e1,e2] at q
   have hk:∃C b1 b2,Mv a z=C∧f_ K C a.dU∧PySem.W.kitOne K (.ref C) (.ref a.bW)=some b1∧PySem.W.kitOne K (.ref C) (.ref a.bX)=some b2∧PySem.W.kitOne K (.ref C) (.ref a.fo)=some false∧PySem.W.kitOne K (.ref C) (.ref a.iF)=some false∧PySem.W.kitOne K (.ref C) (.ref a.kO)=some false∧PySem.W.kitOne K (.ref C) (.type "ValueError")=some true∧((b1=true∧b2=false∧z="no thing")∨(b1=false∧b2=true∧z="no field")):=by
    rcases hz with rfl | rfl
    ·exact⟨_,true,false,if_pos rfl,T.gK,T.cQ,T.cR,T.c_,T.da,T.dB,T.PD,.inl ⟨rfl,rfl,rfl⟩⟩
    ·exact⟨_,false,true,if_neg abb,T.gM,T.cS,T.cT,T.dc,T.df,T.dC,T.PF,.inr ⟨rfl,rfl,rfl⟩⟩
   obtain⟨C,b1,b2,eC,xc,i1,i2,i3,i4,i5,i6,hb⟩:=hk
   rw [eC] at ex ⊢
   refine⟨x,C,rfl,rfl,_,xc,.inr rfl,a9.of (ag (aR (aC iz (pv 2) bV (aI _)) (ah (aw (pv 3))) aH) az) ?_⟩
   dsimp! []
   refine a9.of (ag (bc (i:=5) lR.nd rfl (Or.inl rfl) (@bG _ _ _ _ (@aa _ _ _ _ _ (aF cY rfl T.aE aD (aa (pv 2) (aa (bJ (v:=.ref a.bW) rfl T.jQ rfl) ae))) (@aa _ _ _ _ _ (aF cY rfl T.aE aD (aa (pv 2) (aa (bJ (v:=.ref a.bX) rfl T.jR rfl) ae))) (@aa _ _ _ _ _ (aF cY rfl T.aE aD (aa (pv 2) (aa (bJ (v:=.ref a.fo) rfl T.lT rfl) ae))) (@aa _ _ _ _ _ (aF cY rfl T.aE aD (aa (pv 2) (aa (bJ (v:=.ref a.iF) rfl T.ux rfl) ae))) ae rfl) rfl) rfl) rfl))) az) ?_
   dsimp! []
   refine⟨true,C,_,false,ex,xc,_,i1,true,C,_,false,ex,xc,_,i2,true,C,_,false,ex,xc,_,i3,true,C,_,false,ex,xc,_,i4,by decide,fun l hl=>?_⟩
   have s2:=ar.put (o:=.lst [.bl b1,.bl b2,.bl false,.bl false]) hl
   have e2:upd H' l (.lst [.bl b1,.bl b2,.bl false,.bl false]) l=some (.lst [.bl b1,.bl b2,.bl false,.bl false]):=af
   have XE:=s2 _ _ ex
   have Ws:=s1.free hl
   have Bu:=s1.trans s2
   generalize upd H' l (.lst [.bl b1,.bl b2,.bl false,.bl false])=H2 at e2 XE Bu ⊢
   refine a9.of (ag (a8 (kC PySem.F.plainAttrs_list PySem.F.slot_list_append PySem.F.type_list_append eN (pv 5) (aa (aF cY rfl T.aE aD (aa (pv 2) (aa (bJ (v:=.ref a.kO) rfl T.zV rfl) ae))) ae))) az) ?_
   dsimp! []
   refine⟨.inl ⟨rfl,_,bN.of e2⟩,true,C,_,false,XE,xc,_,i5,l,_,_,rfl,rfl,e2,aQ (Nat.le_of_ble_eq_true rfl),?_⟩
   have s3:ar H (upd H2 l (.lst ([.bl b1,.bl b2,.bl false,.bl false]++[.bl false]))):=.putD Bu Ws
   have e3:upd H2 l (.lst ([.bl b1,.bl b2,.bl false,.bl false]++[.bl false])) l=some (.lst ([.bl b1,.bl b2,.bl false,.bl false]++[.bl false])):=af
   have ex3:upd H2 l (.lst ([.bl b1,.bl b2,.bl false,.bl false]++[.bl false])) x=some (.ext (XO C x none false)):=by rw [ak fun z=>by rw [z,e2] at XE; cases XE]; exact XE
   generalize upd H2 l (.lst ([.bl b1,.bl b2,.bl false,.bl false]++[.bl false]))=H3 at s3 e3 ex3 ⊢
   refine a9.of (ag (aR (PW.pt (fX (aC fZ (kC PySem.F.plainAttrs_list PySem.F.slot_list_count PySem.F.type_list_count F1 (pv 5) (aa eU ae)) ai (aI _)) (fh (fP (cJ (aF cY rfl T.aE aD (aa (pv 2) (aa (bx (v:=.ty "ValueError") rfl T.fg PyProof.Rows.Boot.«ValueError» rfl) ae)))))))) (ah (aw bV)) aH) (ah (aw (au dA (@bG _ _ _ _ (@aa _ _ _ _ _ av (@aa _ _ _ _ _ av (@aa _ _ _ _ _ av (@aa _ _ _ _ _ av (@aa _ _ _ _ _ av ae rfl) rfl) rfl) rfl) rfl)) (kC PySem.F.plainAttrs_list PySem.F.slot_list_index PySem.F.type_list_index F2 (pv 5) (aa eU ae)) (fun _ _=>rfl))))) ?_
   dsimp! []
   have abj:List.count true [b1,b2,false,false,false]=1:=by
    rcases hb with ⟨rfl,rfl,_⟩ | ⟨rfl,rfl,_⟩ <;> decide
   refine⟨.inl ⟨rfl,_,bN.of e3⟩,[b1,b2,false,false,false],e3,?_⟩
   rw [abj]
   refine bu (fun c=>by simp at c) fun _=>⟨true,C,_,false,ex3,xc,_,i6,c0 ⟨by decide,fun p hp=>?_⟩⟩
   have s4:=ar.put (o:=.lst [V.str (Str.ofString "no thing"),V.str (Str.ofString "no field"),V.str (Str.ofString "no room"),V.str (Str.ofString "no deed"),V.str (Str.ofString "no log")]) hp
   have sf:=s3.trans s4
   refine⟨.inl ⟨rfl,_,bN.of (s4 _ _ e3)⟩,[b1,b2,false,false,false],s4 _ _ e3,?_⟩
   rcases hb with ⟨rfl,rfl,rfl⟩ | ⟨rfl,rfl,rfl⟩
   ·exact⟨0,by decide,rfl,fun m hm=>absurd hm (Nat.not_lt_zero _),GS (bN.of af) rfl (q _ (ar.kp sf) (h.ph.same sf))⟩
   ·refine⟨1,by decide,rfl,fun m hm=>?_,GS (bN.of af) rfl (q _ (ar.kp sf) (h.ph.same sf))⟩
    obtain rfl:m=0:=by omega
    intro c
    cases c
noncomputable def wD:Option Int→D
 | none=>.bj
 | some n=>.int n
noncomputable def Ve (t:Tg):D:=.tup [.str t.sort,.lst (t.fs.map vD),wD t.words]
theorem fI.rG {H:Hp}{p l:Addr}{t:Tg}(h:fI K H p l t):fH K H (.ref p) (Ve t):=by
 obtain⟨h1,xs,h2,h3,_⟩:=h
 refine .tup (bZ.of h1) rfl fun i x d hx hd=>?_
 match i,hx,hd with
 | 0,hx,hd=>
  cases hx
  cases hd
  exact .str _
 | 1,hx,hd=>
  cases hx
  cases hd
  exact gi.rG (bN.of h2) h3
 | 2,hx,hd=>
  cases hx
  cases hd
  cases t.words with
  | none=>exact .bj
  | some n=>exact .int n
 | i+3,hx,hd=>simp at hx
theorem Us (w:Option Int):(wD w).dep=0:=by cases w <;> rfl
theorem MA (t:Tg):(Ve t).dep≤3:=by
 have h1:=Fc t.fs
 have h2:=Us t.words
 have e:(Ve t).dep=max 0 (max (eO (t.fs.map vD)+1) (max (wD t.words).dep 0))+1:=by
  unfold Ve
  simp only [D.dep,eO]
 omega
theorem Ae (x:Str) (n:Int):Sm (.tup [.str x,.int n]):=.tup (Nat.le_of_ble_eq_true rfl) fun d hd=>by
 rcases List.mem_cons.mp hd with rfl | hd
 ·exact .str _
 ·rw [List.mem_singleton.mp hd]
  exact .int _
theorem PX (v:Vl):Sm (vD v):=by
 cases v with
 | no=>
  refine .tup (by decide) fun d hd=>?_
  rw [List.mem_singleton.mp hd]
  exact .str _
 | num n=>exact Ae _ _
 | th n=>exact Ae _ _
theorem Ut {t:Tg}(h:t.fs.length≤1000):Sm (Ve t):=.tup (Nat.le_of_ble_eq_true rfl) fun d hd=>by
 rcases List.mem_cons.mp hd with rfl | hd
 ·exact .str _
 ·rcases List.mem_cons.mp hd with rfl | hd
  ·exact .lst (by rw [List.length_map]; exact h) fun d hd=>by
    obtain⟨v,_,rfl⟩:=List.mem_map.mp hd
    exact PX v
  ·rw [List.mem_singleton.mp hd]
   cases t.words with
   | none=>exact .bj
   | some n=>exact .int n
theorem Ky (hs:List (Nat×Int)):(D.lst (hs.map hD)).dep≤5:=by
 have:=vj hs
 rw [D.dep]
 omega
theorem Uu {hs:List (Nat×Int)}(h:hs.length≤1000):Sm (.lst (hs.map hD)):=.lst (by rw [List.length_map]; exact h) fun d hd=>by
 obtain⟨v,_,rfl⟩:=List.mem_map.mp hd
 exact .tup (Nat.le_of_ble_eq_true rfl) fun d hd=>by
  rcases List.mem_cons.mp hd with rfl | hd
  ·exact .int _
  ·rw [List.mem_singleton.mp hd]
   exact .int _
theorem Af {H:Hp}{ra rb:Addr}{ka kb:List (Key×V)}{g:Str→Vl}(ha:H ra=some (.dK ka)) (hb:H rb=some (.dK kb)) (ne:ra≠rb) (h1:ni K H ka g) (h2:ni K H kb g) (n1:Gm ka g) (n2:Gm kb g):DcA K 5 H (.ref ra) (.ref rb):=by
 have sub:∀{k1 k2:List (Key×V)},ni K H k1 g→ni K H k2 g→Gm k1 g→∀k∈k1.map (·.1),k∈k2.map (·.1):=fun {k1 k2} a b n k hk=>by
  obtain⟨kv,lj,rfl⟩:=List.mem_map.mp hk
  obtain⟨x,hx,e⟩:=a.ks kv lj
  obtain⟨i,hi⟩:=List.mem_iff_getElem?.mp lj
  have hv:=jf a.nd hi
  rw [e] at hv ⊢
  cases e2:bK k2 (Sum.inr x)with
  | none=>exact absurd (b.no x e2) (n x _ hv)
  | some u=>exact oq e2
 have hl:ka.length=kb.length:=by
  have l1:=vc h1.nd (sub h1 h2 n1)
  have l2:=vc h2.nd (sub h2 h1 n2)
  rw [List.length_map,List.length_map] at l1 l2
  omega
 refine⟨ra,rb,ka,kb,rfl,rfl,ha,hb,ne,hl,fun kv lj=>?_⟩
 obtain⟨x,hx,e⟩:=h2.ks kv lj
 obtain⟨i,hi⟩:=List.mem_iff_getElem?.mp lj
 have hv:=jf h2.nd hi
 cases e2:bK ka (Sum.inr x)with
 | none=>
  have:=h1.no x e2
  rw [e] at hv
  exact absurd this (n2 x _ hv)
 | some u=>
  have hv2:=hv
  rw [e] at hv2
  exact⟨u,vD (g x),by rw [e]; exact e2,hv,(h1.at_ x u e2).rG,(h2.at_ x _ hv2).rG,by rw [jV]; decide,PX _⟩
theorem vn {H:Hp}{ra rb:Addr}{p1 p2:List (Addr×Addr)}{ts:List Tg}(ha:H ra=some (.dK (du p1))) (hb:H rb=some (.dK (du p2))) (ne:ra≠rb) (l1:p1.length=ts.length) (l2:p2.length=ts.length)
  (h1:∀(i:Nat) q t,p1[i]?=some q→ts[i]?=some t→fI K H q.1 q.2 t) (h2:∀(i:Nat) q t,p2[i]?=some q→ts[i]?=some t→fI K H q.1 q.2 t):DcA K 5 H (.ref ra) (.ref rb):=by
 refine⟨ra,rb,_,_,rfl,rfl,ha,hb,ne,by rw [bS,bS,l1,l2],fun kv lj=>?_⟩
 obtain⟨i,hi⟩:=List.mem_iff_getElem?.mp lj
 have hv:=jf (Kb p2) hi
 rw [jU] at hi
 cases e:p2[i]? with
 | none=>rw [e] at hi; cases hi
 | some q2=>
  rw [e] at hi
  cases hi
  have hil:i < ts.length:=by rw [←l2]; exact(List.getElem?_eq_some_iff.mp e).1
  have e1:p1[i]?=some (p1[i]'(by omega)):=List.getElem?_eq_getElem _
  have et:ts[i]?=some ts[i]:=List.getElem?_eq_getElem hil
  have t1:=h1 i _ _ e1 et
  have t2:=h2 i _ _ e et
  obtain⟨_,xs,_,t3,t4⟩:=id t2
  exact⟨_,Ve ts[i],lh e1,hv,t1.rG,t2.rG,by have:=MA ts[i]; omega,Ut (by rw [t3.1]; exact t4)⟩
noncomputable def Kz (a:eP) (K:PySem.W.Frag):Sp:=fun vs H Q _=>∃Pr A Gu L W,vs=[.ref A.p,.ref L.st]∧PW a K Pr H A W∧eu K Gu H L W∧∀H',ar H H'→Q (.bl true) H'
theorem vo (T:Txt K mg a):aY P w K mg base cX 7 a.zL a.zM ["_law_heap","_law_state"] (Kz a K):=by
 refine T.jE.ok Td (fun vs H Q E h=>?_) (fun cv A outer s H vs Q E hr h=>?_)
 ·obtain⟨_,_,_,_,_,rfl,_⟩:=h
  rfl
 ·obtain⟨Pr,A,Gu,L,W,rfl,h,hL,q⟩:=h
  refine⟨_,(ag (aR (PW.pt (fX (fP (cJ (aM (vm T) (hr.mono (by decide)) rfl T.pW T.hJ.kp T.pV .nil aB (aa (dO (pv 0) T.aj T.Cj (Kk T) (hr.mono (by decide)) T.J3 .nil aB) (aa (au ao (pv 1) ai (fun _ _=>rfl)) ae))))) (fh (fP (cJ (aM (vm T) (hr.mono (by decide)) rfl T.pW T.hJ.kp T.pV .nil aB (aa (dO (pv 0) T.aj T.Cm (Kl T) (hr.mono (by decide)) T.J5 .nil aB) (aa (au ao (pv 1) ai (fun _ _=>rfl)) ae)))))))) (ah (aw eU)) aH) (ah (aw (ir (aM (vm T) (hr.mono (by decide)) rfl T.pW T.hJ.kp T.pV .nil aB (aa (dO (pv 0) T.aj T.Ck (Kd T) (hr.mono (by decide)) T.J4 .nil aB) (aa (au ao (pv 1) ai (fun _ _=>rfl)) ae))) (jH (aM (vm T) (hr.mono (by decide)) rfl T.pW T.hJ.kp T.pV .nil aB (aa (dO (pv 0) T.aj T.Cn (Kc T) (hr.mono (by decide)) T.J6 .nil aB) (aa (aF dS rfl T.eF dI (aa (au ao (pv 1) ai (fun _ _=>rfl)) ae)) ae)))))))),?_⟩
  obtain⟨dx,h1⟩:=h.ob
  dsimp! []
  refine⟨dx,_,h1,aT,Pr,A,W.g,W.ts,W.hs,rfl,h,fun r qg H1 s1 Ls Fg hrt Wu=>?_⟩
  have hL1:=hL.same s1
  obtain⟨kvs,h2,h3,Gn⟩:=hL1.rt
  obtain⟨_,o2,_⟩:=hL.rt
  have ner:r≠L.d0:=fun z=>by rw [z,o2] at Ls; cases Ls
  refine bF hL1.tu rfl ⟨_,_,rfl,.inr (Af Fg h2 ner hrt h3 Wu Gn),by decide,true,rfl,c0 ⟨dx,_,s1 _ _ h1,aT,Pr,A,W.g,W.ts,W.hs,rfl,h.same s1,fun r2 rows H2 s2 XF abk hlen htd _=>?_⟩⟩
  have Vf:=hL1.same s2
  obtain⟨ps,h4,h5,h6,h7⟩:=Vf.th
  obtain⟨_,o4,_⟩:=hL1.th
  have abl:r2≠L.d1:=fun z=>by rw [z,o4] at XF; cases XF
  have Bu:=s1.trans s2
  refine bF Vf.tu rfl ⟨_,_,rfl,.inr (vn abk h4 abl hlen h5 (fun i q t a b=>(htd i q t a b).1) h6),by decide,true,rfl,c0 ⟨dx,_,Bu _ _ h1,aT,Pr,A,W.g,W.ts,W.hs,rfl,h.same Bu,fun r3 xs Tz hhr=>?_⟩⟩
  have s3:=ar.put (o:=.lst xs) Tz
  have KA:=Vf.same s3
  obtain⟨ys,h8,h9⟩:=KA.he
  have PY:=Bu.trans s3
  have cw:=h.cw
  refine bF KA.tu rfl ⟨_,_,rfl,.inl ⟨_,rF.rG (bN.of af) (hhr.same s3),rF.rG (bN.of h8) h9,Ky W.hs,Uu (by omega)⟩,by decide,true,rfl,oM ?_⟩
  refine⟨dx,_,PY _ _ h1,aT,Pr,A,W.g,W.ts,W.hs,rfl,h.same PY,?_⟩
  obtain⟨ps3,g4,g5,_⟩:=KA.th
  refine bF KA.tu rfl ⟨L.d1,rfl,_,g4,?_⟩
  rw [bS,g5]
  exact⟨_,_,rfl,.inl ⟨_,.int _,.int _,Nat.zero_le _,.int _⟩,by decide,q _ PY⟩
theorem Mu.some {H:Hp}{b:Addr}(m:Mu H b):H b≠none:=by
 rcases m with ⟨x,m⟩ | ⟨x,m⟩ <;> (rw [m]; intro z; cases z)
theorem Uv:("weak":Str)≠"due":=by decide +kernel
theorem Uw:("pair":Str)≠"due":=by decide +kernel
noncomputable def CC (a:eP) (K:PySem.W.Frag):Sp:=fun vs H Q _=>∃Pr A Gu L W,∃c:Int,vs=[.ref A.p,.ref L.st,.int c]∧PW a K Pr H A W∧eu K Gu H L W∧W.ok∧W.hs.length < 500∧(∀b,L.own b→Pr b)∧(∀b,A.own b→Gu b) ∧
 ∀H' W',Kp (fun b=>A.own b∨L.own b) H H'→PW a K Pr H' A W'→eu K Gu H' L W'→W'.ok→W'.ts.length=W.ts.length→W'.hs.length≤W.hs.length+1→Q .bj H'
theorem Ux (T:Txt K mg a):aY P w K mg base cX 7 a.zN a.zO ["_law_heap","_law_state","_law_cell"] (CC a K):=by
 refine T.pY.ok pj (fun vs H Q E h=>?_) (fun cv A outer s H vs Q E hr h=>?_)
 ·obtain⟨_,_,_,_,_,_,rfl,_⟩:=h
  rfl
 ·obtain⟨Pr,A,Gu,L,W,c,rfl,h,hL,ok,cw,pa,pl,q⟩:=h
  refine⟨_,(ag (bc (i:=3) pj.nd rfl (Or.inl rfl) (bo jK ai (bo dG (bo cy (aF oG rfl T.uy BJ (aa (pv 2) ae)) ai) (aF (Fx rfl) rfl T.E6 RD (aa ai (aa (aF dS rfl T.eF dI (aa (au ao (pv 1) ai (fun _ _=>rfl)) ae)) ae)))))) az),?_⟩
  obtain⟨dx,h1⟩:=h.ob
  dsimp! []
  obtain⟨rows,h4,h5,h6,h7⟩:=hL.th
  refine⟨xG.small (by decide) (by decide),bF hL.tu rfl ⟨L.d1,rfl,_,h4,by split <;> omega,?_⟩⟩
  rw [bS,h5]
  have hs0:∃k:Nat,(1+(if c < 0 then -c else c) / 11 % if (W.ts.length:Int) > 1 then(W.ts.length:Int)else 1)=(k:Int)+1∧(W.ts.length=0∧k=0∨k < W.ts.length):=by
   have hn:(0:Int) < if (W.ts.length:Int) > 1 then(W.ts.length:Int)else 1:=by split <;> omega
   have e1:=Int.emod_nonneg ((if c < 0 then -c else c) / 11) (Int.ne_of_gt hn)
   have e2:=Int.emod_lt_of_pos ((if c < 0 then -c else c) / 11) hn
   generalize (if c < 0 then -c else c) / 11 % (if (W.ts.length:Int) > 1 then(W.ts.length:Int)else 1)=z at e1 e2
   refine⟨z.toNat,by omega,?_⟩
   split at e2 <;> omega
  obtain⟨k,ek,hk⟩:=hs0
  rw [ek]
  refine a9.of (ag (aR (GX (tU (cx hr) (pv 3) (au ao (pv 1) ai (fun _ _=>rfl)))) (ah Lz) aH) az) ?_
  dsimp! []
  rcases hk with ⟨hk0,rfl⟩ | hk
  ·refine bF hL.tu rfl ⟨L.d1,rfl,none,?_,oM (q H W (Kp.refl _ _) h hL ok rfl (Nat.le_succ _))⟩
   rw [←zZ (ps:=rows) (z:=((0:Nat):Int)+1) (.inr (by omega))]
   exact fk.k (k:=Sum.inl (((0:Nat):Int)+1)) h4
  ·obtain⟨t,ht⟩:∃t,W.ts[k]?=some t:=⟨_,List.getElem?_eq_getElem hk⟩
   obtain⟨abN,qq,r1,r2,⟨r3,cV,r5,r6,r7⟩,r4,r8,r9⟩:=hL.at_ ht
   refine bF hL.tu rfl ⟨L.d1,rfl,_,r4,c0 ?_⟩
   refine a9.of (ag (uJ (c9 (cx hr) (au ao (pv 1) ai (fun _ _=>rfl)) (pv 3) (fun _ _=>rfl)) (jI (n:=3) rfl (cf (bL (i:=4) pj.nd rfl (Or.inl rfl)) (cf (bL (i:=5) pj.nd rfl (Or.inl rfl)) (cf (bL (i:=6) pj.nd rfl (Or.inl rfl)) gv))))) az) ?_
   dsimp! []
   refine bF hL.tu rfl ⟨L.d1,rfl,_,r4,qq.1,rfl,_,bZ.of r3,rfl,_,_,rfl,_,_,rfl,_,_,rfl,rfl,?_⟩
   refine a9.of (ah (aR (aC b7 (pv 4) av (aI _)) (ag (a8 (aS (pv 0) T.aj T.J0 (Tv T) (hr.mono (by decide)) T.O6 .nil aB (aa (pv 3) ae))) (ah (a8 (aM (CB T) (hr.mono (by decide)) rfl T.E4 T.kQ.kp T.E3 .nil aB (aa (pv 1) (aa av (aa (pv 3) ae))))))) (ah (aR (aC b7 (pv 4) av (aI _)) (ag (a8 (aS (pv 0) T.aj T.J1 (Tw T) (hr.mono (by decide)) T.O7 .nil aB (aa (pv 3) ae))) (ah (a8 (aM (CB T) (hr.mono (by decide)) rfl T.E4 T.kQ.kp T.E3 .nil aB (aa (pv 1) (aa av (aa (pv 3) ae))))))) (ah (aR (aC uL (pv 6) bV (aI _)) (ag (a8 (aS (pv 0) T.aj T.J2 (Tx T) (hr.mono (by decide)) T.O8 .nil aB (aa (pv 3) ae))) (ah (a8 (aM (CB T) (hr.mono (by decide)) rfl T.E4 T.kQ.kp T.E3 .nil aB (aa (pv 1) (aa av (aa (pv 3) ae))))))) aH)))))) ?_
   dsimp! []
   have cl:∀(t':Tg) (jg:List (Nat×Int)) (H1 H2:Hp),Kp A.own H H1→PH a K Pr H1 A W.g (W.ts.set k t') jg→Kp L.own H1 H2→eu K Gu H1 L W→eu K Gu H2 L ⟨W.g,W.ts.set k t',jg⟩→(∀v∈t'.fs,v.ok W.ts.length)→(∀n,t'.words=some n→xn n)→(∀r∈jg,(1≤r.1∧r.1≤W.ts.length)∧xn r.2)→jg.length≤W.hs.length+1→Q .bj H2:=fun t' jg H1 H2 k1 p1 k2 l1 l2 o1 o2 o3 o4=>by
    refine q H2 ⟨W.g,W.ts.set k t',jg⟩ (fun b u nb e=>k2 b u (fun z=>nb (.inr z)) (k1 b u (fun z=>nb (.inl z)) e)) (p1.kp k2 l1.mu pa fun b hb=>(l2.mu b hb).some) l2 ⟨fun x=>?_,fun g hg=>?_,fun r hr=>?_⟩ (List.length_set ..) o4
    ·show(W.g x).ok (W.ts.set k t').length
     rw [List.length_set]
     exact ok.g x
    ·show(∀v∈g.fs,v.ok (W.ts.set k t').length)∧_
     rw [List.length_set]
     rcases List.mem_or_eq_of_mem_set hg with hg | rfl
     ·exact ok.ts g hg
     ·exact⟨o1,o2⟩
    ·show(1≤r.1∧r.1≤(W.ts.set k t').length)∧_
     rw [List.length_set]
     exact o3 r hr
   have lk:∀(H1:Hp) (g':Str→Vl) (F0:List Tg) (jg:List (Nat×Int)),Kp A.own H H1→PH a K Pr H1 A g' F0 jg→eu K Gu H1 L W:=fun H1 g' F0 jg k1 p1=>hL.kp k1 h.mu pl fun b hb=>(p1.mu b hb).some
   cases t with
   | weak f=>
    refine bu (fun _=>⟨dx,_,h1,aT,Pr,A,W.g,W.ts,W.hs,k,rfl,h,hk,fun H1 k1 p1=>?_⟩) fun z=>absurd (decide_eq_true rfl) z
    have l1:=lk H1 _ _ _ k1 p1
    refine⟨Gu,L,W,k,_,_,rfl,l1,ht,cw,.inr ⟨Uv,fun H2 k2 l2=>cl _ _ H1 H2 k1 p1 k2 l1 l2 (fun v hv=>?_) (fun n e=>by cases e) ok.hs (Nat.le_succ _)⟩⟩
    rw [List.mem_singleton.mp hv]
    trivial
   | pair f1 f2=>
    refine bu (fun z=>absurd (of_decide_eq_true z) Fe) fun _=>bu (fun _=>⟨dx,_,h1,aT,Pr,A,W.g,W.ts,W.hs,k,rfl,h,hk,fun H1 k1 p1=>?_⟩) fun z=>absurd (decide_eq_true rfl) z
    have l1:=lk H1 _ _ _ k1 p1
    refine⟨Gu,L,W,k,_,_,rfl,l1,ht,cw,.inr ⟨Uw,fun H2 k2 l2=>cl _ _ H1 H2 k1 p1 k2 l1 l2 (fun v hv=>?_) (fun n e=>by cases e) ok.hs (Nat.le_succ _)⟩⟩
    rcases List.mem_cons.mp hv with rfl | hv
    ·trivial
    ·rw [List.mem_singleton.mp hv]
     trivial
   | plain fs w=>
    refine bu (fun z=>absurd (of_decide_eq_true z) TQ) fun _=>bu (fun z=>absurd (of_decide_eq_true z) TR) fun _=>?_
    cases w with
    | none=>exact bu (fun z=>by cases z) fun _=>q H W (Kp.refl _ _) h hL ok rfl (Nat.le_succ _)
    | some n=>
     refine bu (fun _=>⟨dx,_,h1,aT,Pr,A,W.g,W.ts,W.hs,k,fs,n,rfl,h,ht,cw,fun H1 k1 p1=>?_⟩) fun z=>absurd rfl z
     have l1:=lk H1 _ _ _ k1 p1
     have okt:=ok.ts _ (List.mem_of_getElem? ht)
     refine⟨Gu,L,W,k,_,_,rfl,l1,ht,cw,.inl ⟨rfl,fs,n,rfl,fun H2 k2 l2=>cl _ _ H1 H2 k1 p1 k2 l1 l2 okt.1 (fun n e=>by cases e) (fun r hr=>?_) (by rw [List.length_append,List.length_singleton]; exact Nat.le_refl _)⟩⟩
     rcases List.mem_append.mp hr with hr | hr
     ·exact ok.hs r hr
     ·rw [List.mem_singleton.mp hr]
      exact⟨⟨Nat.succ_le_succ (Nat.zero_le _),hk⟩,okt.2 n rfl⟩
noncomputable def vp:Sp:=fun vs H Q _=>∃c m:Int,vs=[.int c,.int m]∧∀n:Int,0≤n→Q (.int n) H
theorem Uy (T:Txt K mg a):aY P w K mg base cX 1 a.zj a.zk ["_law_cell","_law_mode"] vp:=by
 refine T.pM.ok Ju (fun vs H Q E h=>?_) (fun cv A outer s H vs Q E hr h=>?_)
 ·obtain⟨_,_,rfl,_⟩:=h
  rfl
 ·obtain⟨c,m,rfl,q⟩:=h
  refine⟨_,(ag (aR (aC b7 (bo dG (pv 1) ai) ai (aI _)) (ah (aw (aF oG rfl T.uy BJ (aa (pv 0) ae)))) aH) (ag (bc (i:=2) Ju.nd rfl (Or.inl rfl) (bo dG (bo jK (bo BA (pv 0) ai) ai) ai)) (ah (aw (bo dG (bo BA (pv 2) ai) ai))))),?_⟩
  dsimp! []
  refine⟨by decide,bu (fun _=>q _ ?_) fun _=>⟨.inr ⟨by decide,by decide⟩,by decide,.inr ⟨by decide,by decide⟩,by decide,q _ (Int.emod_nonneg _ (by decide))⟩⟩
  split <;> omega
noncomputable def fB:List Str:=["make","put","get","drop","weak","pair","put","look","find","copy","words","hear","make"]
noncomputable def jX:List Str:=["tell","same","num","put"]
theorem oy (n z:Int) (h:0 < z):∃d:Nat,n % z=(d:Int)∧(d:Int) < z:=
 ⟨(n % z).toNat,by have:=Int.emod_nonneg n (Int.ne_of_gt h); omega,by have:=Int.emod_nonneg n (Int.ne_of_gt h); have:=Int.emod_lt_of_pos n h; omega⟩
theorem MB:∀j < 26,(Str.ofString "abcdefghijklmnopqrstuvwxyz").cps.toList[j]?=some (97+j):=by decide +kernel
theorem CD:∀wd∈fB++jX,¬wd="make"→¬wd∈(["num","words"]:List Str)→¬wd="put"→¬wd="get"→¬wd∈(["pair","find"]:List Str)→¬wd∈(["weak","look","copy","same"]:List Str)→wd="drop"∨wd="hear"∨wd="tell":=by decide +kernel
theorem KC (w:Str) (ss:List Str):U4 (.str w) (ss.map V.str)=decide (w∈ss):=by
 rw [Bool.eq_iff_iff,decide_eq_true_iff]
 unfold U4
 rw [List.any_eq_true]
 constructor
 ·rintro⟨x,hx,e⟩
  obtain⟨y,hy,rfl⟩:=List.mem_map.mp hx
  have e2:y=w:=by simpa [GP] using e
  rw [←e2]
  exact hy
 ·intro z
  exact⟨_,List.mem_map.mpr ⟨_,z,rfl⟩,by simp [GP]⟩
theorem Uz {H:Hp}{p:Addr}{ss:List Str}{w:Str}{X Y:Hp→Prop}(hH:H p=some (.lst (ss.map V.str))) (h1:w∈ss→X H) (h2:¬w∈ss→Y H):rIn K false (.str w) (.ref p) H (fun x H'=>∃k,x=V.bl k∧if k=true then X H' else Y H'):=by
 refine⟨p,_,rfl,.inl (bN.of hH),rfl,?_,_,rfl,?_⟩
 ·rw [List.all_map]
  exact List.all_eq_true.mpr fun _ _=>rfl
 ·rw [if_neg Bool.false_ne_true,KC]
  exact bu (fun z=>h1 (of_decide_eq_true z)) fun z=>h2 fun y=>z (decide_eq_true y)
noncomputable def CF:Sp:=fun vs H Q _=>∃c m:Int,vs=[.int c,.int m]∧0≤m∧∀(t:Addr) (d:De) H',ar H H'→H' t=some (.tup d.items)→d.fits→Q (.ref t) H'
theorem UA (T:Txt K mg a):aY P w K mg base cX 2 a.zl a.zm ["_law_cell","_law_mode"] CF:=by
 refine T.pN.ok fb (fun vs H Q E h=>?_) (fun cv A outer s H vs Q E hr h=>?_)
 ·obtain⟨_,_,rfl,_⟩:=h
  rfl
 ·obtain⟨c,m,rfl,hm,q⟩:=h
  refine⟨_,@ag _ _ _ _ _ oR az,?_⟩
  dsimp! []
  refine Bs.strs (i:=2) (ws:=fB) fb.nd rfl (.inl rfl) rfl rfl (.inl rfl) (by decide) fun l hl=>?_
  have h1:upd H l (HO.lst (fB.map V.str)) l=some (.lst (fB.map V.str)):=af
  have s1:ar H (upd H l (HO.lst (fB.map V.str))):=.put hl
  generalize upd H l (HO.lst (fB.map V.str))=H1 at h1 s1
  refine a9.of (@ag _ _ _ _ _ oR az) ?_
  dsimp! []
  refine Bs.aaH (i:=2) (j:=2) (ws:=jX) fb.nd rfl (.inl rfl) rfl rfl (.inl rfl) rfl rfl rfl (.inl rfl) (by decide) rfl h1 (by decide) fun l2 H2 s2 h2=>?_
  have s02:=s1.trans s2
  refine a9.of (ag (bc (i:=3) fb.nd rfl (Or.inl rfl) av) az) ?_
  dsimp! []
  refine a9.of (ag (bc (i:=4) fb.nd rfl (Or.inl rfl) (au dA (@bG _ _ _ _ (@aa _ _ _ _ _ ai (@aa _ _ _ _ _ ai (@aa _ _ _ _ _ ai (@aa _ _ _ _ _ ai ae rfl) rfl) rfl) rfl)) (bo dG (bo cy (pv 1) ai) ai) (fun _ _=>rfl))) az) ?_
  dsimp! []
  have XG:∃M:Nat,(M=4∨M=6∨M=26)∧oI [V.int 4,V.int 4,V.int 6,V.int 26] (m / 2 % 4)=some (.int (M:Int)):=by
   obtain⟨d,e,hd⟩:=oy (m / 2) 4 (by decide)
   rw [e]
   have:d=0∨d=1∨d=2∨d=3:=by omega
   rcases this with rfl | rfl | rfl | rfl
   ·exact⟨4,.inl rfl,rfl⟩
   ·exact⟨4,.inl rfl,rfl⟩
   ·exact⟨6,.inr (.inl rfl),rfl⟩
   ·exact⟨26,.inr (.inr rfl),rfl⟩
  obtain⟨M,hM,eM⟩:=XG
  have hM0:0 < M∧M≤26:=by omega
  refine⟨by decide,fun p hp=>⟨.small (by decide) (by decide),by decide,GS (bN.of af) eM ?_⟩⟩
  have s3:=s02.trans (ar.put (o:=.lst [V.int 4,V.int 4,V.int 6,V.int 26]) hp)
  have h3:upd H2 p (.lst [V.int 4,V.int 4,V.int 6,V.int 26]) l2=some (.lst (fB.map V.str++jX.map V.str)):=ar.put hp _ _ h2
  generalize upd H2 p (.lst [V.int 4,V.int 4,V.int 6,V.int 26])=H3 at s3 h3 ⊢
  refine a9.of (ag (bc (i:=5) fb.nd rfl (Or.inl rfl) (aM (Uy T) (hr.mono (by decide)) rfl T.Pb T.pM.kp T.Pa .nil aB (aa (pv 0) (aa (pv 1) ae)))) az) ?_
  dsimp! []
  refine⟨c,m,rfl,fun n hn=>?_⟩
  refine a9.of (ag (bc (i:=6) fb.nd rfl (Or.inl rfl) (au dA (pv 2) (bo dG (pv 5) ai) (fun _ _=>rfl))) az) ?_
  dsimp! []
  have hw:∃wd∈fB++jX,oI (fB.map V.str++jX.map V.str) (n % 17)=some (.str wd):=by
   obtain⟨d,e,hd⟩:=oy n 17 (by decide)
   rw [e,←List.map_append]
   have hd2:d < (fB++jX).length:=by
    have:(fB++jX).length=17:=rfl
    omega
   exact⟨_,List.getElem_mem hd2,dz (by rw [List.getElem?_map,List.getElem?_eq_getElem hd2]; rfl)⟩
  obtain⟨wd,hwd,ewd⟩:=hw
  refine⟨by decide,GS (bN.of h3) ewd ?_⟩
  have lt:∀(z:Int) (R:VK),(∀j:Nat,j < 26→R (.str (⟨#[97+j]⟩:Str)) H3)→VI (.str (Str.ofString "abcdefghijklmnopqrstuvwxyz")) (.int (z % (M:Int))) H3 R:=fun z R r=>by
   obtain⟨d,e,hd⟩:=oy z (M:Int) (by omega)
   rw [e]
   exact⟨_,_,_,rfl,rfl,by decide +kernel,dz (MB d (by omega)),r d (by omega)⟩
  have dM:xG (M:Int):=.small (by omega) (by omega)
  refine a9.of (ag (bc (i:=7) fb.nd rfl (Or.inl rfl) (au BG (pv 3) (bo dG (bo cy (pv 5) ai) (pv 4)) (fun _ _=>rfl))) az) ?_
  dsimp! []
  refine⟨.small (by decide) (by decide),by omega,lt _ _ fun j1 Fi=>?_⟩
  refine a9.of (ag (bc (i:=8) fb.nd rfl (Or.inl rfl) (au BG (pv 3) (bo dG (bo cy (bo cy (pv 5) ai) (pv 4)) (pv 4)) (fun _ _=>rfl))) az) ?_
  dsimp! []
  refine⟨.small (by decide) (by decide),dM,by omega,lt _ _ fun j2 hj2=>?_⟩
  refine a9.of (ag (bc (i:=9) fb.nd rfl (Or.inl rfl) (au BG (pv 3) (bo dG (bo cy (bo cy (bo cy (pv 5) ai) (pv 4)) (pv 4)) (pv 4)) (fun _ _=>rfl))) az) ?_
  dsimp! []
  refine⟨.small (by decide) (by decide),dM,dM,by omega,lt _ _ fun j3 hj3=>?_⟩
  refine a9.of (ag (bc (i:=5) fb.nd rfl (Or.inl rfl) (bo cy (bo cy (bo cy (bo cy (pv 5) ai) (pv 4)) (pv 4)) (pv 4))) az) ?_
  dsimp! []
  refine⟨.small (by decide) (by decide),dM,dM,dM,?_⟩
  have hN:0≤n / 17 / (M:Int) / (M:Int) / (M:Int):=Int.ediv_nonneg (Int.ediv_nonneg (Int.ediv_nonneg (Int.ediv_nonneg hn (by decide)) (by omega)) (by omega)) (by omega)
  generalize n / 17 / (M:Int) / (M:Int) / (M:Int)=N at hN ⊢
  refine a9.of (ag (bc (i:=10) fb.nd rfl (Or.inl rfl) (bo jK (bo dG (pv 5) ai) (bo BA (bo cy (bo dG (bo cy (pv 5) ai) ai) ai) (bo dG (bo cy (pv 5) ai) ai)))) az) ?_
  dsimp! []
  have hA:∃A:Nat,N % 3+N / 3 % 4 / 3*(N / 12 % 6)=(A:Int)∧A≤7:=by
   have z:N / 3 % 4 / 3=0∨N / 3 % 4 / 3=1:=by omega
   refine⟨(N % 3+N / 3 % 4 / 3*(N / 12 % 6)).toNat,?_,?_⟩ <;> rcases z with z | z <;> rw [z] <;> omega
  obtain⟨A,eA,hA⟩:=hA
  refine⟨by decide,.small (by decide) (by decide),by decide,.small (by decide) (by decide),.small (by decide) (by decide),by decide,.inl ⟨by omega,by omega⟩,?_⟩
  rw [eA]
  have ab:∀j:Nat,j < 26→(⟨#[97+j]⟩:Str)∈Mm:=fun j hj=>List.mem_map.mpr ⟨j,List.mem_range.mpr hj,rfl⟩
  have fin:∀(t:Addr) (d:De) (H':Hp),ar H3 H'→H' t=some (.tup d.items)→d.fits→Q (.ref t) H':=fun t d H' s e f=>q t d H' (s3.trans s) e f
  refine a9.of (ag (aR (aC b7 (pv 6) av (aI _)) (ah (aw (bf (aa (pv 6) (aa (pv 7) (aa (pv 10) ae)))))) aH) az) ?_
  dsimp! []
  refine bu (fun z=>⟨by decide,fun t ht=>fin t (.make _ A) _ (ar.put ht) (by rw [of_decide_eq_true z]; exact af) ⟨ab j1 Fi,by show A≤100; omega⟩⟩) fun z1=>?_
  refine a9.of (ag (aR (aC dQ (pv 6) (bG (aa av (aa av ae))) (by with_unfolding_all rfl)) (ah (aw (bf (aa (pv 6) (aa (pv 7) (aa (au dA (bG (aa (bo dG (pv 5) ai) (aa (bo dG (pv 5) (bo Rq ai ai)) ae))) (bo dG (bo cy (pv 5) ai) ai) (fun _ _=>rfl)) ae)))))) aH) az) ?_
  dsimp! []
  refine⟨by decide,fun p1 Uh=>Uz (ss:=["num","words"]) af (fun c1=>?_) fun c1=>?_⟩
  ·refine⟨by decide,⟨by decide,by decide,by decide⟩,by decide,by decide,fun p2 EM=>⟨.small (by decide) (by decide),by decide,?_⟩⟩
   have hv:∃v:Int,xn v∧oI [V.int (N % 5),V.int (N % 10 ^ Int.toNat 60)] (N / 5 % 2)=some (.int v):=by
    obtain⟨d,e,hd⟩:=oy (N / 5) 2 (by decide)
    rw [e]
    have:d=0∨d=1:=by omega
    rcases this with rfl | rfl
    ·exact⟨N % 5,⟨Int.emod_nonneg _ (by decide),Int.lt_trans (Int.emod_lt_of_pos _ (by decide)) (by decide)⟩,rfl⟩
    ·exact⟨N % 10 ^ Int.toNat 60,⟨Int.emod_nonneg _ (by decide),Int.lt_of_lt_of_le (Int.emod_lt_of_pos _ (by decide)) (by decide)⟩,rfl⟩
   obtain⟨v,hv,ev⟩:=hv
   refine GS (bN.of af) ev ⟨by decide,fun t ht=>?_⟩
   have s5:=(ar.put Uh).trans ((ar.put EM).trans (ar.put (o:=.tup [V.str wd,V.str {cps:=#[97+j1]},.int v]) ht))
   rcases List.mem_cons.mp c1 with rfl | c1
   ·exact fin t (.num _ v) _ s5 af ⟨ab j1 Fi,hv⟩
   ·rw [List.mem_singleton.mp c1] at s5 ⊢
    exact fin t (.words _ v) _ s5 af ⟨ab j1 Fi,hv⟩
  have s4:=ar.put (o:=.lst [V.str (Str.ofString "num"),V.str (Str.ofString "words")]) Uh
  have nK:∀(t:Addr) (d:De) (H':Hp),ar (upd H3 p1 (.lst [V.str (Str.ofString "num"),V.str (Str.ofString "words")])) H'→H' t=some (.tup d.items)→d.fits→Q (.ref t) H':=fun t d H' s e f=>fin t d H' (s4.trans s) e f
  generalize upd H3 p1 (.lst [V.str (Str.ofString "num"),V.str (Str.ofString "words")])=H4 at nK ⊢
  refine a9.of (ag (aR (aC b7 (pv 6) av (aI _)) (ah (aw (bf (aa (pv 6) (aa (pv 7) (aa (pv 10) (aa (pv 8) ae))))))) aH) az) ?_
  dsimp! []
  refine bu (fun z=>⟨by decide,fun t ht=>nK t (.put _ A _) _ (ar.put ht) (by rw [of_decide_eq_true z]; exact af) ⟨ab j1 Fi,trivial⟩⟩) fun z2=>?_
  refine a9.of (ag (aR (aC b7 (pv 6) av (aI _)) (ah (aw (bf (aa (pv 6) (aa (pv 7) (aa (pv 8) (aa (pv 10) ae))))))) aH) az) ?_
  dsimp! []
  refine bu (fun z=>⟨by decide,fun t ht=>nK t (.get _ _ A) _ (ar.put ht) (by rw [of_decide_eq_true z]; exact af) ⟨ab j1 Fi,trivial⟩⟩) fun z3=>?_
  refine a9.of (ag (aR (aC dQ (pv 6) (bG (aa av (aa av ae))) (by with_unfolding_all rfl)) (ah (aw (bf (aa (pv 6) (aa (pv 7) (aa (pv 8) (aa (pv 9) ae))))))) aH) az) ?_
  dsimp! []
  refine⟨by decide,fun p5 hp5=>Uz (ss:=["pair","find"]) af (fun c2=>⟨by decide,fun t ht=>?_⟩) fun c2=>?_⟩
  ·have s5:=(ar.put hp5).trans (ar.put (o:=.tup [V.str wd,V.str {cps:=#[97+j1]},V.str {cps:=#[97+j2]},V.str {cps:=#[97+j3]}]) ht)
   rcases List.mem_cons.mp c2 with rfl | c2
   ·exact nK t (.pair _ _ _) _ s5 af ⟨ab j1 Fi,trivial⟩
   ·rw [List.mem_singleton.mp c2] at s5 ⊢
    exact nK t (.find _ _ _) _ s5 af ⟨ab j1 Fi,trivial⟩
  refine a9.of (ag (aR (aC dQ (pv 6) (@bG _ _ _ _ (@aa _ _ _ _ _ av (@aa _ _ _ _ _ av (@aa _ _ _ _ _ av (@aa _ _ _ _ _ av ae rfl) rfl) rfl) rfl)) (by with_unfolding_all rfl)) (ah (aw (bf (aa (pv 6) (aa (pv 7) (aa (pv 8) ae)))))) aH) (ah (aw (bf (aa (pv 6) (aa (pv 7) ae)))))) ?_
  dsimp! []
  have s6:=ar.put (o:=.lst [V.str (Str.ofString "pair"),V.str (Str.ofString "find")]) hp5
  refine⟨by decide,fun p6 hp6=>Uz (ss:=["weak","look","copy","same"]) af (fun c3=>⟨by decide,fun t ht=>?_⟩) fun c3=>⟨by decide,fun t ht=>?_⟩⟩
  ·have s7:=s6.trans ((ar.put hp6).trans (ar.put (o:=.tup [V.str wd,V.str {cps:=#[97+j1]},V.str {cps:=#[97+j2]}]) ht))
   rcases List.mem_cons.mp c3 with rfl | c3
   ·exact nK t (.weak _ _) _ s7 af ⟨ab j1 Fi,trivial⟩
   ·rcases List.mem_cons.mp c3 with rfl | c3
    ·exact nK t (.look _ _) _ s7 af ⟨ab j1 Fi,trivial⟩
    ·rcases List.mem_cons.mp c3 with rfl | c3
     ·exact nK t (.copy _ _) _ s7 af ⟨ab j1 Fi,trivial⟩
     ·rw [List.mem_singleton.mp c3] at s7 ⊢
      exact nK t (.same _ _) _ s7 af ⟨ab j1 Fi,trivial⟩
  ·have s7:=s6.trans ((ar.put hp6).trans (ar.put (o:=.tup [V.str wd,V.str {cps:=#[97+j1]}]) ht))
   have XH:=CD wd hwd (fun e=>z1 (decide_eq_true e)) c1 (fun e=>z2 (decide_eq_true e)) (fun e=>z3 (decide_eq_true e)) c2 c3
   rcases XH with rfl | rfl | rfl
   ·exact nK t (.drop _) _ s7 af ⟨ab j1 Fi,trivial⟩
   ·exact nK t (.hear _) _ s7 af ⟨ab j1 Fi,trivial⟩
   ·exact nK t (.tell _) _ s7 af ⟨ab j1 Fi,trivial⟩
noncomputable def UB (K:PySem.W.Frag):Sp:=fun vs H Q _=>∃(p:Addr) (ns:List Int) (k:Int),vs=[.ref p,.int k]∧bN K H p (ns.map V.int)∧0≤k∧∀z,Q (.int z) H
theorem UC (T:Txt K mg a):aY P w K mg base cX 1 a.zh a.zi ["_law_script","_law_k"] (UB K):=by
 refine T.pL.ok Ta (fun vs H Q E h=>?_) (fun cv A outer s H vs Q E hr h=>?_)
 ·obtain⟨_,_,_,rfl,_⟩:=h
  rfl
 ·obtain⟨p,ns,k,rfl,hS,hk,q⟩:=h
  refine⟨_,(ag (aR (aC N5 (pv 1) (aF cF rfl T.eF dI (aa (pv 0) ae)) (aI _)) (ah (aw (au dA (pv 0) (pv 1) (fun _ _=>rfl)))) aH) (ah (aw ai))),?_⟩
  dsimp! []
  refine⟨_,.inl hS,bu (fun h=>?_) fun _=>q 0⟩
  have jJ:k.toNat < ns.length:=by
   have:=of_decide_eq_true h
   rw [List.length_map] at this
   omega
  have e:k=((k.toNat:Nat):Int):=by omega
  have hx:(ns.map V.int)[k.toNat]?=some (V.int ns[k.toNat]):=by simp [jJ]
  exact⟨p,_,k,_,rfl,rfl,hS,(congrArg (oI _) e).trans (dz hx),q _⟩
theorem Vl.ok.mono {v:Vl}{m n:Nat}(h:v.ok m) (hl:m≤n):v.ok n:=by
 cases v with
 | no=>trivial
 | num k=>exact h
 | th s=>
  obtain⟨i,e,hi⟩:=h
  exact⟨i,e,Nat.lt_of_lt_of_le hi hl⟩
theorem Wd.ok.dD {W:Wd}(h:W.ok) {x:Str}{v:Vl}(hv:v.ok W.ts.length):(W.dD x v).ok:=⟨fun y=>by
 show(if y=x then v else W.g y).ok W.ts.length
 by_cases c:y=x
 ·rw [if_pos c]
  exact hv
 ·rw [if_neg c]
  exact h.g y,h.ts,h.hs⟩
theorem Wd.ok.new {W:Wd}(h:W.ok) {t:Tg}(h1:∀v∈t.fs,v.ok W.ts.length) (h2:∀n,t.words=some n→xn n):(Wd.mk W.g (W.ts++[t]) W.hs).ok:=by
 have hl:(W.ts++[t]).length=W.ts.length+1:=by rw [List.length_append]; rfl
 refine⟨fun y=>?_,fun g hg=>?_,fun r hr=>?_⟩
 ·show(W.g y).ok (W.ts++[t]).length
  rw [hl]
  exact(h.g y).mono (Nat.le_succ _)
 ·show(∀v∈g.fs,v.ok (W.ts++[t]).length)∧_
  rw [hl]
  rcases List.mem_append.mp hg with hg | hg
  ·exact⟨fun v hv=>((h.ts g hg).1 v hv).mono (Nat.le_succ _),(h.ts g hg).2⟩
  ·rw [List.mem_singleton.mp hg]
   exact⟨fun v hv=>(h1 v hv).mono (Nat.le_succ _),h2⟩
 ·show(1≤r.1∧r.1≤(W.ts++[t]).length)∧_
  rw [hl]
  obtain⟨⟨a,b⟩,c⟩:=h.hs r hr
  exact⟨⟨a,Nat.le_succ_of_le b⟩,c⟩
theorem Wd.ok.abm {W:Wd}(h:W.ok) {i:Nat}{t:Tg}(h1:∀v∈t.fs,v.ok W.ts.length) (h2:∀n,t.words=some n→xn n):(Wd.mk W.g (W.ts.set i t) W.hs).ok:=by
 refine⟨fun y=>?_,fun g hg=>?_,fun r hr=>?_⟩
 ·show(W.g y).ok (W.ts.set i t).length
  rw [List.length_set]
  exact h.g y
 ·show(∀v∈g.fs,v.ok (W.ts.set i t).length)∧_
  rw [List.length_set]
  rcases List.mem_or_eq_of_mem_set hg with hg | rfl
  ·exact h.ts g hg
  ·exact⟨h1,h2⟩
 ·show(1≤r.1∧r.1≤(W.ts.set i t).length)∧_
  rw [List.length_set]
  exact h.hs r hr
theorem Wd.ok.fsD {W:Wd}(h:W.ok) (y:Str) (n:Nat):((W.fs y).getD n .no).ok W.ts.length:=by
 rw [List.getD_eq_getElem?_getD]
 cases e:(W.fs y)[n]? with
 | none=>trivial
 | some v=>
  have hm:=List.mem_of_getElem? e
  rcases h.tg y with ⟨i,t,e1,e2,e3⟩ | ⟨e1,e2⟩
  ·have e4:W.fs y=t.fs:=by unfold Wd.fs; rw [e3]
   rw [e4] at hm
   exact(h.ts t (List.mem_of_getElem? e2)).1 v hm
  ·have e4:W.fs y=[]:=by unfold Wd.fs; rw [e2]
   rw [e4] at hm
   exact nomatch hm
theorem Wd.ok.step {W:Wd}{d:De}(h:W.ok) (hf:d.fits):(W.step d).ok∧(W.step d).ts.length≤W.ts.length+1∧(W.step d).hs.length≤W.hs.length:=by
 have nw:∀(x:Str) (t:Tg),(∀v∈t.fs,v.ok W.ts.length)→(∀n,t.words=some n→xn n)→((Wd.mk W.g (W.ts++[t]) W.hs).dD x (.th ((W.ts.length:Int)+1))).ok∧(W.ts++[t]).length≤W.ts.length+1∧W.hs.length≤W.hs.length:=fun x t a b=>⟨(h.new a b).dD ⟨W.ts.length,rfl,by show W.ts.length < (W.ts++[t]).length; rw [List.length_append]; exact Nat.lt_succ_self _⟩,by rw [List.length_append]; exact Nat.le_refl _,Nat.le_refl _⟩
 have sr:∀(x:Str) (v:Vl),v.ok W.ts.length→(W.dD x v).ok∧W.ts.length≤W.ts.length+1∧W.hs.length≤W.hs.length:=fun x v hv=>⟨h.dD hv,Nat.le_succ _,Nat.le_refl _⟩
 have st:∀(i:Nat) (t:Tg),(∀v∈t.fs,v.ok W.ts.length)→(∀n,t.words=some n→xn n)→(Wd.mk W.g (W.ts.set i t) W.hs).ok∧(W.ts.set i t).length≤W.ts.length+1∧W.hs.length≤W.hs.length:=fun i t a b=>⟨h.abm a b,by rw [List.length_set]; exact Nat.le_succ _,Nat.le_refl _⟩
 have PZ:W.ok∧W.ts.length≤W.ts.length+1∧W.hs.length≤W.hs.length:=⟨h,Nat.le_succ _,Nat.le_refl _⟩
 cases d with
 | num x n=>exact sr x _ hf.2
 | make x n=>exact nw x _ (fun v hv=>by rw [(List.mem_replicate.mp hv).2]; trivial) (fun n e=>by cases e)
 | weak x y=>exact nw x _ (fun v hv=>by rw [List.mem_singleton.mp hv]; exact h.g y) (fun n e=>by cases e)
 | pair x y z=>
  refine nw x _ (fun v hv=>?_) (fun n e=>by cases e)
  rcases List.mem_cons.mp hv with rfl | hv
  ·exact h.g y
  ·rw [List.mem_singleton.mp hv]
   exact h.g z
 | words x n=>
  show(W.nq n (W.tg x)).ok∧_
  rcases h.tg x with ⟨i,t,e1,e2,e3⟩ | ⟨e1,e2⟩
  ·have ho:=h.ts t (List.mem_of_getElem? e2)
   have es:W.step (.words x n)=W.nq n (some (i,t)):=by show W.nq n (W.tg x)=_; rw [e3]
   rw [es,e3]
   cases t with
   | plain fs w=>exact st i (.plain fs (some n)) ho.1 (fun m e=>by cases e; exact hf.2)
   | weak f=>exact PZ
   | pair k v=>exact PZ
  ·have es:W.step (.words x n)=W.nq n none:=by show W.nq n (W.tg x)=_; rw [e2]
   rw [es,e2]
   exact PZ
 | put x n y=>
  show(W.nu n (W.g y) (W.tg x)).ok∧_
  rcases h.tg x with ⟨i,t,e1,e2,e3⟩ | ⟨e1,e2⟩
  ·have ho:=h.ts t (List.mem_of_getElem? e2)
   have es:W.step (.put x n y)=W.nu n (W.g y) (some (i,t)):=by show W.nu n (W.g y) (W.tg x)=_; rw [e3]
   rw [es,e3]
   cases t with
   | plain fs w=>
    refine st i (.plain (fs.set n (W.g y)) w) (fun v hv=>?_) ho.2
    rcases List.mem_or_eq_of_mem_set hv with hv | rfl
    ·exact ho.1 v hv
    ·exact h.g y
   | weak f=>exact PZ
   | pair k v=>exact PZ
  ·have es:W.step (.put x n y)=W.nu n (W.g y) none:=by show W.nu n (W.g y) (W.tg x)=_; rw [e2]
   rw [es,e2]
   exact PZ
 | get x y n=>exact sr x _ (h.fsD y n)
 | look x y=>exact sr x _ (h.fsD y 0)
 | find x y z=>
  refine sr x _ ?_
  split
  ·exact h.fsD y 1
  ·trivial
 | copy x y=>exact sr x _ (h.g y)
 | drop x=>exact sr x _ trivial
 | tell x=>exact PZ
 | same x y=>exact PZ
 | hear x=>
  cases e:W.hs with
  | nil=>
   have es:W.step (.hear x)=W.dD x .no:=by show W.qh x W.hs=_; rw [e]; rfl
   rw [es]
   exact⟨h.dD trivial,Nat.le_succ _,by show W.hs.length≤_; rw [e]; exact Nat.le_refl _⟩
  | cons r jg=>
   have es:W.step (.hear x)=(Wd.mk W.g W.ts jg).dD x (.th (r.1:Nat)):=by show W.qh x W.hs=_; rw [e]; rfl
   rw [es]
   obtain⟨⟨r1,r2⟩,_⟩:=h.hs r (by rw [e]; exact List.mem_cons_self)
   have ok':(Wd.mk W.g W.ts jg).ok:=⟨h.g,h.ts,fun q hq=>h.hs q (by rw [e]; exact List.mem_cons_of_mem _ hq)⟩
   refine⟨ok'.dD ⟨r.1 - 1,by omega,by show r.1 - 1 < W.ts.length; omega⟩,Nat.le_succ _,?_⟩
   show jg.length≤(r::jg).length
   exact Nat.le_succ _
theorem Wd.ok.after {W:Wd}{d:De}(h:W.ok) (hf:d.fits):(W.after d).ok∧(W.after d).ts.length≤W.ts.length+1∧(W.after d).hs.length≤W.hs.length:=by
 unfold Wd.after
 split
 ·exact⟨h,Nat.le_succ _,Nat.le_refl _⟩
 ·exact h.step hf
theorem PH.more {Pr Pr':Addr→Prop}{H H':Hp}{A:HA}{g:Str→Vl}{ts:List Tg}{hs:List (Nat×Int)}(h:PH a K Pr H A g ts hs) (s:ar H H') (n:∀b,Pr' b→(Pr b∨H b=none)∧H' b≠none):PH a K Pr' H' A g ts hs:=by
 have h':=h.same s
 obtain⟨ps,h4,h5,h6,h7⟩:=h'.th
 obtain⟨ps0,g4,g5,g6,g7⟩:=h.th
 have ow:∀b,A.own b→H b≠none:=fun b hb=>(h.mu b hb).some
 refine⟨h'.ob,h'.rt,⟨ps0,s _ _ g4,g5,fun i q t a b=>(g6 i q t a b).same s,fun q hq=>⟨(g7 q hq).1,fun z=>?_⟩⟩,h'.he,h'.ne,fun b hb=>⟨(n b hb).2,fun z=>?_⟩,h'.cw⟩
 ·rcases (n _ z).1 with c | c
  ·exact(g7 q hq).2 c
  ·obtain⟨i,hi⟩:=List.mem_iff_getElem?.mp hq
   obtain⟨_,_,e,_⟩:=g6 i q _ hi (List.getElem?_eq_getElem (by rw [←g5]; exact(List.getElem?_eq_some_iff.mp hi).1))
   rw [c] at e
   cases e
 ·rcases (n b hb).1 with c | c
  ·exact(h.pr b c).2 z
  ·exact ow b z c
noncomputable def vq (K:PySem.W.Frag):Sp:=fun vs H Q _=>∃(a:Addr) (ns:List Int),vs=[.ref a]∧bN K H a (ns.map V.int)∧ns.length≤63∧∀H',Q (.bl true) H'
noncomputable def W0:Wd:=⟨fun _=>.no,[],[]⟩
theorem XI:W0.ok:=⟨(fun _=>trivial),(fun t ht=>nomatch ht),fun r hr=>nomatch hr⟩
theorem eu.start {H:Hp}{d0 d1 l2 st:Addr}{Pr:Addr→Prop}(h0:H d0=none) (h1:upd H d0 (.dK []) d1=none) (h2:upd (upd H d0 (.dK [])) d1 (.dK []) l2=none) (h3:upd (upd (upd H d0 (.dK [])) d1 (.dK [])) l2 (.lst []) st=none) (hP:∀b,Pr b→H b≠none) :
  ∃H',upd (upd (upd (upd H d0 (.dK [])) d1 (.dK [])) l2 (.lst [])) st (.tup [.ref d0,.ref d1,.ref l2])=H'∧ar H H'∧eu K Pr H' ⟨st,d0,d1,l2⟩ W0∧∀b,LA.own ⟨st,d0,d1,l2⟩ b→H b=none:=by
 have s0:=ar.put (o:=.dK []) h0
 have s1:=ar.put (o:=.dK []) h1
 have s2:=ar.put (o:=.lst []) h2
 have s3:=ar.put (o:=.tup [.ref d0,.ref d1,.ref l2]) h3
 have e0:=s3 _ _ (s2 _ _ (s1 _ _ (af (H:=H) (a:=d0) (o:=.dK []))))
 have e1:=s3 _ _ (s2 _ _ (af (H:=upd H d0 (.dK [])) (a:=d1) (o:=.dK [])))
 have e2:=s3 _ _ (af (H:=upd (upd H d0 (.dK [])) d1 (.dK [])) (a:=l2) (o:=.lst []))
 have e3:=af (H:=upd (upd (upd H d0 (.dK [])) d1 (.dK [])) l2 (.lst [])) (a:=st) (o:=.tup [.ref d0,.ref d1,.ref l2])
 have sm:=s0.trans (s1.trans (s2.trans s3))
 have n01:d0≠d1:=aG af h1
 have fr:∀b,LA.own ⟨st,d0,d1,l2⟩ b→H b=none:=fun b z=>by
  rcases z with rfl | rfl | rfl
  ·exact h0
  ·exact s0.free h1
  ·exact(s0.trans s1).free h2
 generalize upd (upd (upd (upd H d0 (.dK [])) d1 (.dK [])) l2 (.lst [])) st (.tup [.ref d0,.ref d1,.ref l2])=H' at e0 e1 e2 e3 sm
 refine⟨H',rfl,sm,⟨bZ.of e3,⟨[],e0,⟨List.nodup_nil,(fun kv h=>(nomatch h)),(fun x u e=>by cases e),fun _ _=>rfl⟩,fun x u e=>by cases e⟩,⟨[],e1,rfl,(fun i q t h=>by simp at h),fun q hq=>(nomatch hq)⟩,⟨[],e2,rfl,fun i x h a=>by simp at a⟩,n01,fun b hb=>⟨some_of (hP b hb) fun o e=>sm b o e,fun z=>hP b hb (fr b z)⟩,by decide,by decide⟩,fr⟩
noncomputable def ILw (a:eP) (K:PySem.W.Frag) (A B:HA) (L:LA) (sc lc:Addr) (mode:Int) (cells:List Int) (H0:Hp) (i:Nat) (σ:St) (H:Hp):Prop:=(∃v5 v6 v7,σ=[some (.ref sc),some (.int mode),some (.ref A.p),some (.ref B.p),some (.ref L.st),v5,v6,v7])∧∃W,PW a K L.own H A W∧eu K A.own H L W∧PW a K (fun b=>A.own b∨L.own b) H B W0∧W.ok∧W.ts.length≤i∧W.hs.length≤i∧H lc=some (.lst (cells.map V.int))∧ar H0 H
noncomputable def JLw (a:eP) (K:PySem.W.Frag) (A B:HA) (L:LA) (sc lc:Addr) (mode:Int) (cells:List Int) (c:Int) (v6 v7:Option V) (H0:Hp) (i:Nat) (σ:St) (H:Hp):Prop:=σ=[some (.ref sc),some (.int mode),some (.ref A.p),some (.ref B.p),some (.ref L.st),some (.int c),v6,v7]∧∃W,PW a K L.own H A W∧eu K A.own H L W∧PW a K (fun b=>A.own b∨L.own b) H B W0∧W.ok∧W.ts.length≤i∧W.hs.length≤i+1∧H lc=some (.lst (cells.map V.int))∧ar H0 H
noncomputable def IVl (rows:List (Addr×Addr)) (o:Obj) (r3:Addr) (H0:Hp) (vs:St) (i:Nat) (σ:St) (H:Hp):Prop:=(∃v7,σ=vs++[v7])∧ar H0 H∧H r3=some (.dF o (.dK (du rows)))∧∀q∈rows,(∃s w,H q.1=some (.tup [s,.ref q.2,w]))∧∃ys,H q.2=some (.lst ys)∧ys.length≤1000+i∧H0 q.2=none
theorem UD (T:Txt K mg a):aY P w K mg base cX 10 a.t_ a.OA ["_law_script"] (vq K):=by
 refine T.m_.ok iE (fun vs H Q E h=>?_) (fun cv A outer s H vs Q E hr h=>?_)
 ·obtain⟨_,_,rfl,_⟩:=h
  rfl
 ·obtain⟨sc,ns,rfl,hS,BI,q⟩:=h
  refine⟨_,(ag (bc (i:=1) iE.nd rfl (Or.inl rfl) (aF oG rfl T.uy BJ (aa (aM (UC T) (hr.mono (by decide)) rfl T.O_ T.pL.kp T.O9 .nil aB (aa (pv 0) (aa ai ae))) ae))) (ag (bc (i:=2) iE.nd rfl (Or.inl rfl) (xw T.gJ (Kh T) (hr.mono (by decide)) rfl T.gP T.JU .nil aB)) (ag (bc (i:=3) iE.nd rfl (Or.inl rfl) (xw T.gJ (Kh T) (hr.mono (by decide)) rfl T.gP T.JU .nil aB)) az))),?_⟩
  dsimp! []
  refine⟨sc,ns,0,rfl,hS,by decide,fun first=>⟨first,rfl,fun p1 dx1 Uh abn ne1=>⟨p1,dx1,rfl,af,fun A H1 eA kpA a1 a2 a3 hPA=>⟨rfl,fun p2 Tr EM XJ ne2=>⟨p2,Tr,rfl,af,fun B H2 eB kpB b1 b2 b3 hPB=>⟨rfl,?_⟩⟩⟩⟩⟩⟩
  have hm:0≤(if first < 0 then -first else first):=by split <;> omega
  generalize (if first < 0 then -first else first)=mode at hm ⊢
  have sA:ar H H1:=fA Uh abn kpA
  have sB:ar H1 H2:=fA EM XJ kpB
  have pA1:PH a K (fun _=>False) H1 A (fun _=>.no) [] []:=hPA _ fun b z=>z.elim
  have pB2:PH a K A.own H2 B (fun _=>.no) [] []:=hPB _ fun b hb=>by
   have h0:=(pA1.mu b hb).some
   refine some_of h0 fun o e=>?_
   rw [ak (aG e EM),ak (aG e XJ)]
   exact e
  have Vg:=pA1.same sB
  have hS2:=(sA.trans sB).seq hS
  subst eA eB
  clear hPA hPB kpA kpB
  refine a9.of (ag (bc (i:=4) iE.nd rfl (Or.inl rfl) (bf (aa fm (aa fm (aa (bG ae) ae))))) az) ?_
  dsimp! []
  refine fun d0 h0 d1 h1 l2 h2=>⟨by decide,fun st h3=>?_⟩
  obtain⟨H3,e3,s3,KA,Fv⟩:=eu.start (K:=K) (Pr:=A.own) h0 h1 h2 h3 fun b hb=>(Vg.mu b hb).some
  rw [e3]
  clear e3 h0 h1 h2 h3
  have pA3:PW a K (LA.own ⟨st,d0,d1,l2⟩) H3 A W0:=Vg.more s3 fun b hb=>⟨.inr (Fv b hb),(KA.mu b hb).some⟩
  have pB3:PW a K (fun b=>A.own b∨LA.own ⟨st,d0,d1,l2⟩ b) H3 B W0:=pB2.more s3 fun b hb=>by
   rcases hb with hb | hb
   ·exact⟨.inl hb,some_of (Vg.mu b hb).some fun o e=>s3 b o e⟩
   ·exact⟨.inr (Fv b hb),(KA.mu b hb).some⟩
  have hS3:=s3.seq hS2
  have eL:(⟨st,d0,d1,l2⟩:LA).st=st:=rfl
  generalize (⟨st,d0,d1,l2⟩:LA)=L at KA pA3 pB3 eL Fv
  subst eL
  refine a9.of (ag (aR (fP (cJ (aM (vo T) (hr.mono (by decide)) rfl T.zU T.jE.kp T.zT .nil aB (aa (pv 2) (aa (pv 4) ae))))) (ah (aw eU)) aH) az) ?_
  dsimp! []
  refine⟨_,A,_,L,W0,rfl,pA3,KA,fun H4 s4=>⟨true,rfl,c0 ?_⟩⟩
  refine a9.of (ag (gF PassesOwn.never rfl (uK (iA kB (pv 0) (i9 ai) (i9 ai))) (bL (i:=5) iE.nd rfl (Or.inl rfl)) az) az) ?_
  dsimp! []
  have UE:∃cells:List Int,kA (ns.map V.int) (some 1) (some 64)=cells.map V.int∧cells.length≤63:=by
   unfold kA
   rw [←List.map_drop,←List.map_take]
   refine⟨_,rfl,?_⟩
   rw [List.length_take,List.length_drop]
   omega
  obtain⟨cells,ec,Z5⟩:=UE
  refine⟨sc,_,rfl,s4.seq hS3,fun lc hlc=>?_⟩
  rw [ec]
  have s5:=s4.trans (ar.put (o:=.lst (cells.map V.int)) hlc)
  have UG:upd H4 lc (.lst (cells.map V.int)) lc=some (.lst (cells.map V.int)):=af
  have XM:H3 lc=none:=s4.free hlc
  generalize upd H4 lc (.lst (cells.map V.int))=H5 at s5 UG
  have sH5:ar H H5:=(sA.trans sB).trans (s3.trans s5)
  have oA:∀b,A.own b→∀u,¬H b=some u:=fun b z u e=>by
   have:H b=none:=by
    rcases z with rfl | rfl | rfl
    ·exact cq (cq a1)
    ·exact cq (cq a2)
    ·exact cq (cq a3)
   rw [this] at e
   cases e
  have oL:∀b,L.own b→∀u,¬H b=some u:=fun b z u e=>by
   have:=(sA.trans sB) b u e
   rw [Fv b z] at this
   cases this
  have nA:¬A.own lc:=fun z=>(pA3.mu lc z).some XM
  have nL:¬L.own lc:=fun z=>(KA.mu lc z).some XM
  refine⟨lc,rfl,⟨_,bN.of UG⟩,EL (cells.map V.int) (ILw a K A B L sc lc mode cells H) ⟨⟨_,_,_,rfl⟩,W0,pA3.same s5,KA.same s5,pB3.same s5,XI,Nat.le_refl _,Nat.le_refl _,UG,sH5⟩ (fun i σ' H' _ hh=>?_) (fun i x σ' H6 hx hh=>?_) fun σ' H6 hh=>?_⟩
  ·obtain⟨_,W,_,_,_,_,_,_,e,_⟩:=hh
   exact bN.of e
  ·obtain⟨⟨v5,v6,v7,rfl⟩,W,pA,hL,pB,ok,l1,l2,e6,sH6⟩:=hh
   rw [List.getElem?_map] at hx
   cases ec:cells[i]? with
   | none=>rw [ec] at hx; cases hx
   | some c=>
    rw [ec] at hx
    cases hx
    have hi:i < cells.length:=(List.getElem?_eq_some_iff.mp ec).1
    refine gN ?_
    refine a9.of (ag oR az) ?_
    dsimp! []
    refine Hr (JLw a K A B L sc lc mode cells c v6 v7 H i) (Bs.of (aR (aC b7 (bo dG (pv 5) ai) ai (aI _)) (ah (a8 (aM (Ux T) (hr.mono (by decide)) rfl T.PB T.pY.kp T.Pz .nil aB (aa (pv 2) (aa (pv 4) (aa (pv 5) ae)))))) aH) ?_) ?_
    ·dsimp! []
     refine⟨by decide,bu (fun _=>⟨L.own,A,A.own,L,W,c,rfl,pA,hL,ok,by omega,fun b z=>z,fun b z=>z,fun H7 W2 k7 Vg Vf ok2 e1 e2=>⟨rfl,W2,Vg,Vf,?_,ok2,by omega,by omega,k7 _ _ (fun z=>z.elim nA nL) e6,fun b u e=>k7 b u (fun z=>z.elim (fun z=>oA b z u e) fun z=>oL b z u e) (sH6 b u e)⟩⟩) fun _=>⟨rfl,W,pA,hL,pB,ok,l1,by omega,e6,sH6⟩⟩
     exact pB.kp k7 (fun b z=>z.elim (pA.mu b) (hL.mu b)) (fun b z=>z) fun b z=>z.elim (fun z=>(Vg.mu b z).some) fun z=>(Vf.mu b z).some
    ·clear pA hL pB ok l1 l2 e6 sH6
     rintro σ2 H7 ⟨rfl,W2,pA,hL,pB,ok,l1,l2,e7,sH7⟩
     refine a9.of (ag (bc (i:=6) iE.nd rfl (Or.inl rfl) (aM (UA T) (hr.mono (by decide)) rfl T.Pe T.pN.kp T.Pc .nil aB (aa (pv 5) (aa (pv 1) ae)))) az) ?_
     dsimp! []
     refine⟨c,mode,rfl,hm,fun t d H8 s8 et fd=>?_⟩
     refine a9.of (ag (aR (aC fZ (aM (Ur T) (hr.mono (by decide)) rfl T.Py T.pX.kp T.Px .nil aB (aa (pv 2) (aa (pv 6) ae))) (aM (Uo T) (hr.mono (by decide)) rfl T.Pw T.pU.kp T.Pu .nil aB (aa (pv 4) (aa (pv 6) ae))) (aI _)) (ah (aw eU)) aH) az) ?_
     have pA8:=pA.same s8
     have hL8:=hL.same s8
     have pB8:=pB.same s8
     have e8:=s8 _ _ e7
     dsimp! []
     refine⟨L.own,A,W2,t,d,rfl,⟨pA8,ok,bZ.of et⟩,fd,by omega,fun H9 k9 pA9=>?_⟩
     have hL9:eu K A.own H9 L W2:=hL8.kp k9 pA8.mu (fun b z=>z) fun b z=>(pA9.mu b z).some
     have pB9:=pB8.kp k9 pA8.mu (fun b z=>.inl z) fun b z=>(pA9.mu b z).some
     have e9:=k9 _ _ nA e8
     refine⟨A.own,L,W2,t,d,rfl,hL9,ok,k9.bT pA8.mu (bZ.of et),fd,by omega,fun Z7 k10 MC=>?_⟩
     have XN:PW a K L.own Z7 A (W2.after d):=pA9.kp k10 hL9.mu (fun b z=>z) fun b z=>(MC.mu b z).some
     have abo:=pB9.kp k10 hL9.mu (fun b z=>.inr z) fun b z=>(MC.mu b z).some
     have e10:=k10 _ _ nL e9
     have abp:ar H Z7:=fun b u e=>k10 b u (fun z=>oL b z u e) (k9 b u (fun z=>oA b z u e) (s8 b u (sH7 b u e)))
     obtain⟨abq,m1,m2⟩:=ok.after fd
     refine⟨rfl,bu (fun z=>by simp at z) fun _=>?_⟩
     refine a9.of (ag (aR (fP (cJ (aM (vo T) (hr.mono (by decide)) rfl T.zU T.jE.kp T.zT .nil aB (aa (pv 2) (aa (pv 4) ae))))) (ah (aw eU)) aH) az) ?_
     dsimp! []
     refine⟨_,A,_,L,_,rfl,XN,MC,fun MD PV=>⟨true,rfl,c0 ?_⟩⟩
     have CG:=XN.same PV
     have abr:=MC.same PV
     have abt:=abo.same PV
     have e11:=PV _ _ e10
     obtain⟨dx,o11⟩:=CG.ob
     refine a9.of (ag (a8 (uQ PySem.F.plainAttrs_dict PySem.F.slot_dict_clear PySem.F.type_dict_clear FP (dO (pv 2) T.aj T.Cj (Kk T) (hr.mono (by decide)) T.J3 .nil aB))) az) ?_
     dsimp! []
     refine⟨dx,_,o11,aT,L.own,A,_,_,_,rfl,CG,fun r qg H12 Bu Ls Fg _ _=>?_⟩
     refine⟨.inr (.inr (.inl ⟨rfl,.inl ⟨_,Fg⟩⟩)),r,rfl,_,Fg,?_⟩
     have PY:ar MD (upd H12 r (.dK [])):=.putD Bu Ls
     generalize upd H12 r (.dK [])=H13 at PY
     refine a9.of (ag (a8 (kC PySem.F.plainAttrs_list PySem.F.slot_list_append PySem.F.type_list_append eN (dO (pv 2) T.aj T.Ck (Kd T) (hr.mono (by decide)) T.J4 .nil aB) (aa av ae))) az) ?_
     dsimp! []
     refine⟨dx,_,PY _ _ o11,aT,L.own,A,_,_,_,rfl,CG.same PY,fun r2 xs hr2 hhr=>?_⟩
     refine⟨.inl ⟨rfl,_,bN.of af⟩,r2,_,_,rfl,rfl,af,?_,?_⟩
     ·have f1:=CG.cw.2
      have f2:=hhr.1
      exact aQ (by omega)
     have Vh:ar MD (upd (upd H13 r2 (.lst xs)) r2 (.lst (xs++[V.str (Str.ofString "more")]))):=PY.trans (.putD (ar.put hr2) hr2)
     generalize upd (upd H13 r2 (.lst xs)) r2 (.lst (xs++[V.str (Str.ofString "more")]))=H14 at Vh
     refine a9.of (ah (ou (gF PassesOwn.never rfl (F3 (uQ PySem.F.plainAttrs_dict PySem.F.slot_dict_values PySem.F.type_dict_values FQ (dO (pv 2) T.aj T.Cm (Kl T) (hr.mono (by decide)) T.J5 .nil aB))) (bL (i:=7) iE.nd rfl (Or.inl rfl)) az))) ?_
     dsimp! [Oz]
     refine⟨dx,_,Vh _ _ o11,aT,L.own,A,_,_,_,rfl,CG.same Vh,fun r3 rows Vi s15 abu KD hlen htd hnd=>?_⟩
     have Tz:MD r3=none:=Vh.free abu
     refine⟨.inr (.inr (.inl ⟨rfl,.inl ⟨_,KD⟩⟩)),r3,rfl,_,.inl KD,fun p hp=>⟨r3,af,_,ar.put hp _ _ KD,fun o=>?_⟩⟩
     have RL:∀q∈rows,(∃s w,Vi q.1=some (.tup [s,.ref q.2,w]))∧∃ys,Vi q.2=some (.lst ys)∧ys.length≤1000∧MD q.2=none:=fun q hq=>by
      obtain⟨j,hj⟩:=List.mem_iff_getElem?.mp hq
      have hjl:=(List.getElem?_eq_some_iff.mp hj).1
      obtain⟨⟨t1,ys,t2,_,t4⟩,t5⟩:=htd j q _ hj (List.getElem?_eq_getElem (by rw [←hlen]; exact hjl))
      exact⟨⟨_,_,t1⟩,ys,t2,t4,Vh.free t5⟩
     have abv:=Vh.trans s15
     have k16:ar MD (upd (upd Vi p (.ext fun h=>h.IsValuesView p r3)) r3 (.dF o (.dK (du rows)))):=.putD (abv.trans (ar.put hp)) Tz
     have f16:upd (upd Vi p (.ext fun h=>h.IsValuesView p r3)) r3 (.dF o (.dK (du rows))) r3=some (.dF o (.dK (du rows))):=af
     have h16:IVl rows o r3 MD [some (.ref sc),some (.int mode),some (.ref A.p),some (.ref B.p),some (.ref L.st),some (.int c),some (.ref t)] 0 [some (.ref sc),some (.int mode),some (.ref A.p),some (.ref B.p),some (.ref L.st),some (.int c),some (.ref t),v7] (upd (upd Vi p (.ext fun h=>h.IsValuesView p r3)) r3 (.dF o (.dK (du rows)))):=⟨⟨_,rfl⟩,k16,f16,fun q hq=>by
      obtain⟨⟨s0,w0,g1⟩,ys,g2,g3,g4⟩:=RL q hq
      refine⟨⟨s0,w0,?_⟩,ys,?_,g3,g4⟩
      ·rw [ak fun z=>by rw [z,KD] at g1; cases g1]
       exact ar.put hp _ _ g1
      ·rw [ak fun z=>by rw [z,KD] at g2; cases g2]
       exact ar.put hp _ _ g2⟩
     generalize upd (upd Vi p (.ext fun h=>h.IsValuesView p r3)) r3 (.dF o (.dK (du rows)))=H16 at h16
     refine F4 (IVl rows o r3 MD [some (.ref sc),some (.int mode),some (.ref A.p),some (.ref B.p),some (.ref L.st),some (.int c),some (.ref t)]) h16 (fun i σ' H' _ hh=>hh.2.2.1) (fun j kv σ' H17 lj hh=>?_) fun σ' H17 hh=>?_
     ·obtain⟨⟨v8,rfl⟩,k17,XQ,g17⟩:=hh
      rw [jU] at lj
      cases e:rows[j]? with
      | none=>rw [e] at lj; cases lj
      | some qq=>
       rw [e] at lj
       cases lj
       obtain⟨⟨s0,w0,g1⟩,ys,g2,g3,g4⟩:=g17 qq (List.mem_of_getElem? e)
       have hj:j < rows.length:=(List.getElem?_eq_some_iff.mp e).1
       refine gN ?_
       refine a9.of (ah (a8 (kC PySem.F.plainAttrs_list PySem.F.slot_list_append PySem.F.type_list_append eN (au ao (pv 7) ai (fun _ _=>rfl)) (aa av ae)))) ?_
       dsimp! []
       have hsz:ys.length < sizeLine:=by
        have f1:=CG.cw.1
        rw [sizeLine_eq]
        omega
       refine bF (bZ.of g1) rfl ⟨.inl ⟨rfl,_,bN.of g2⟩,qq.2,ys,_,rfl,rfl,g2,hsz,⟨_,rfl⟩,.putD k17 g4,?_,fun q hq=>?_⟩
       ·rw [ak fun z=>by rw [z,g2] at XQ; cases XQ]
        exact XQ
       ·obtain⟨⟨s1,w1,q1⟩,zs,q2,q3,q4⟩:=g17 q hq
        refine⟨⟨s1,w1,?_⟩,?_⟩
        ·rw [ak fun z=>by rw [z,g2] at q1; cases q1]
         exact q1
        ·by_cases z:q.2=qq.2
         ·rw [z]
          exact⟨_,af,by rw [List.length_append,List.length_singleton]; omega,g4⟩
         ·exact⟨zs,by rw [ak z]; exact q2,by omega,q4⟩
     ·obtain⟨⟨v8,rfl⟩,k17,XQ,_⟩:=hh
      have XR:ar H MD:=abp.trans PV
      refine .inr ⟨r3,du rows,_,⟨fun o u z=>?_,⟨o,XQ⟩,rfl⟩,?_⟩
      ·have z2:H r3=some (.dF o u):=z
       have:=XR _ _ z2
       rw [Tz] at this
       cases this
      ·have XS:ar MD (upd H17 r3 (.dK (du rows))):=.putD k17 Tz
       exact⟨⟨_,_,_,rfl⟩,W2.after d,CG.same XS,abr.same XS,abt.same XS,abq,by omega,by omega,XS _ _ e11,XR.trans XS⟩
  ·obtain⟨⟨v5,v6,v7,rfl⟩,W,pA,hL,pB,ok,l1,l2,e6,_⟩:=hh
   refine a9.of (ah (aw (ir (aM (vo T) (hr.mono (by decide)) rfl T.zU T.jE.kp T.zT .nil aB (aa (pv 2) (aa (pv 4) ae))) (jH (aM (vo T) (hr.mono (by decide)) rfl T.zU T.jE.kp T.zT .nil aB (aa (pv 3) (aa (bf (aa fm (aa fm (aa (bG ae) ae)))) ae))))))) ?_
   dsimp! []
   refine⟨_,A,_,L,W,rfl,pA,hL,fun H7 s7=>⟨true,rfl,oM ?_⟩⟩
   refine fun d0 h0 d1 h1 l2 h2=>⟨by decide,fun st h3=>?_⟩
   obtain⟨H8,e8,s8,hL8,_⟩:=eu.start (K:=K) (Pr:=fun _=>False) h0 h1 h2 h3 fun b hb=>hb.elim
   rw [e8]
   exact⟨_,B,_,_,W0,rfl,(pB.same s7).same s8,hL8,fun H9 _=>q H9⟩
end
theorem jY {P:List Value→Prop}(h:∀x0,P [x0]):∀us:List Value,us.length=1→P us
 | [x0],_=>h x0
theorem cH {P:List Value→Prop}(h:∀x0 x1,P [x0,x1]):∀us:List Value,us.length=2→P us
 | [x0,x1],_=>h x0 x1
theorem qk {P:List Value→Prop}(h:∀x0 x1 x2,P [x0,x1,x2]):∀us:List Value,us.length=3→P us
 | [x0,x1,x2],_=>h x0 x1 x2
theorem abw {P:List Value→Prop}(h:∀x0 x1 x2 x3,P [x0,x1,x2,x3]):∀us:List Value,us.length=4→P us
 | [x0,x1,x2,x3],_=>h x0 x1 x2 x3
noncomputable def gu (K:PySem.W.Frag) (x qual:Str) (st:Stmt) (f:Addr):Prop:=PySem.W.keepIn K (.ref f)=true∧∃fd,cU K x qual st f fd
noncomputable def jZ (K:PySem.W.Frag) (x qual:Str) (st:Stmt) (f:Addr):Prop:=PySem.W.isFn K (.ref f)=true∧gu K x qual st f
theorem dE {K:PySem.W.Frag}{x qual:Str}{st:Stmt}{f:Addr}{oc:Value}{od an:Option Addr}{xy:Array (Option Value)}{kV doc pm cv ct:Value}(l:K.lookup f=some ⟨oc,od,.func (PySem.W.fnOf x qual (gA st) (eR st) (aq st) .none kV doc pm an cv ct),xy⟩) (c:PySem.W.codeIn K cv qual=true) (k:PySem.W.keepIn K (.ref f)=true):gu K x qual st f:=⟨k,_,Hg l c k⟩
theorem all_mk {l:PySem.W.OpenLaw}{w:World}{K:PySem.W.Frag}{h:Heap}{mg:Str→Option Value}{fa:Addr}(X:K.In h) (G:h.Ns mainGlobals mg) (hfa:mg "law"=some (.ref fa))
  {pz pC mS mT pE ua ub uc ud Ge pF mU mV pG pH pI pJ pK mW jC mX mY mZ m3 m4 m5 m6 m7 m8 m9 B7 B8 B9 B_ Ca Cc Cd Ce Cf ue uf ug uh ui uj uk um uo uq ur uu uv pL pM pN ef pO jD pP pQ pR pS pT pU kQ hJ pX jE pY m_ cm lp oz bA bB cN cG aZ bD bb aJ:Addr}
  {gH gI vt:Tok}
  {ba fM cB fN:Addr}
  {dW dY d3 d5 d7 d9 ee dX dZ d4 d6 d8 d_ dj dk:Addr}{CH CI CJ CK CL CM CN vv vw vx vy vz vA vB vC:Array (Option Value)}{CO CP CQ CS CT CU CV vE vF vG vH vI vJ vK vL:Nat}{KG:Nat}{CW CY CZ C0 C1 C3 C4:Int}{C5 C6 C7 C8 C9 C_ Dc:Tok}{ql qm qo qp qr qu qv qw qx qy qz qA qB qC qD qE:Tok}
  {bP bQ:Addr}{lV lW:Array (Option Value)}{lX lY:Nat}{qF:Nat}{lZ l0:Int}{l7 l_:Tok}{j4 j6 j7 j8:Tok}
  {KH:Nat}{Dd Df Dg Dh Di Dj Dk Dl Dm Dn Ag Ah Ai Aj:Int}{Dp Dq Dr Ds Dt Du Dv Dw Dx Dy Ak Al Am An:Tok}
  {Dz:Nat}{DA:Array (Option Value)}
  {UH KI:Option Addr}
  {UI:Array (Option Value)}
  {UJ KJ KL KN DB KO:Value}
  {Ao Ap Aq Ar DC DD rR rS:Str}{DE DF Gv vM:Addr}{As vN Au vO DG Av rT qG:List Value}{Aw Ax DH rV:List Str}{Ay Az DI rW:Bool}{vP vQ AA qH:Option Bool}{AB AD DJ rX:Option Addr}{AE AF AG AH AI AJ AK AL AM AN DK DL DM DN DO rY rZ r0 r_ sd:Option Value}{se:Bool}
  (vR:PySem.W.nsIn K mainGlobals "HeapError"=some (some (.ref cm)))
  (Gw:PySem.W.nsIn K mainGlobals "NoDeed"=some (some (.ref lp)))
  (KP:PySem.W.nsIn K mainGlobals "NoLog"=some (some (.ref oz)))
  (DP:PySem.W.nsIn K mainGlobals "NoThing"=some (some (.ref bA)))
  (DQ:PySem.W.nsIn K mainGlobals "NoField"=some (some (.ref bB)))
  (Gx:PySem.W.nsIn K mainGlobals "NoRoom"=some (some (.ref cN)))
  (KQ:PySem.W.nsIn K mainGlobals "Thing"=some (some (.ref cG)))
  (sg:PySem.W.nsIn K mainGlobals "PlainThing"=some (some (.ref aZ)))
  (vS:PySem.W.nsIn K mainGlobals "PairThing"=some (some (.ref bD)))
  (AO:PySem.W.nsIn K mainGlobals "DeedHeap"=some (some (.ref bb)))
  (vT:PySem.W.nsIn K mainGlobals "PlainHeap"=some (some (.ref aJ)))
  (x_:PySem.W.nsIn K mainGlobals "is_thing"=some (some (.ref pz)))
  (DR:gu K "is_thing" "is_thing" Ib pz)
  (t7:PySem.W.findIn K (.ref cG) "__init__"=some (some (.ref pC)))
  (vU:jZ K "__init__" "Thing.__init__" Ic pC)
  (pk:PySem.W.findIn K (.ref cG) "sort_of"=some (some (.ref mS)))
  (nM:jZ K "sort_of" "Thing.sort_of" Ie mS)
  (pq:PySem.W.findIn K (.ref cG) "fields"=some (some (.ref mT)))
  (qI:jZ K "fields" "Thing.fields" Ig mT)
  (t8:PySem.W.findIn K (.ref cG) "words"=some (some (.ref pE)))
  (sh:jZ K "words" "Thing.words" Ih pE)
  (yf:PySem.W.findIn K (.ref aZ) "__init__"=some (some (.ref ua)))
  (lq:jZ K "__init__" "PlainThing.__init__" Ii ua)
  (yh:PySem.W.findIn K (.ref aZ) "words"=some (some (.ref ub)))
  (j9:jZ K "words" "PlainThing.words" Ij ub)
  (yj:PySem.W.findIn K (.ref aZ) "with_field"=some (some (.ref uc)))
  (gk:jZ K "with_field" "PlainThing.with_field" Ik uc)
  (yl:PySem.W.findIn K (.ref aZ) "with_words"=some (some (.ref ud)))
  (gm:jZ K "with_words" "PlainThing.with_words" Il ud)
  (Jy:PySem.W.findIn K (.ref bD) "__init__"=some (some (.ref Ge)))
  (ma:jZ K "__init__" "PairThing.__init__" Sj Ge)
  (yn:PySem.W.nsIn K mainGlobals "plain"=some (some (.ref pF)))
  (ME:gu K "plain" "plain" Im pF)
  (yp:PySem.W.nsIn K mainGlobals "weak"=some (some (.ref mU)))
  (UK:gu K "weak" "weak" Io mU)
  (yr:PySem.W.nsIn K mainGlobals "pair"=some (some (.ref mV)))
  (UL:gu K "pair" "pair" Ip mV)
  (yu:PySem.W.nsIn K mainGlobals "refuse"=some (some (.ref pG)))
  (KR:gu K "refuse" "refuse" Iq pG)
  (yw:PySem.W.nsIn K mainGlobals "has_sort"=some (some (.ref pH)))
  (DS:gu K "has_sort" "has_sort" Ir pH)
  (yy:PySem.W.nsIn K mainGlobals "lacks_thing"=some (some (.ref pI)))
  (si:gu K "lacks_thing" "lacks_thing" Iu pI)
  (yA:PySem.W.nsIn K mainGlobals "lacks_field"=some (some (.ref pJ)))
  (sj:gu K "lacks_field" "lacks_field" Iv pJ)
  (yC:PySem.W.nsIn K mainGlobals "new_thing"=some (some (.ref pK)))
  (AQ:gu K "new_thing" "new_thing" Iw pK)
  (mH:PySem.W.nsIn K mainGlobals "do_num"=some (some (.ref mW)))
  (KS:gu K "do_num" "do_num" Iy mW)
  (hG:PySem.W.nsIn K mainGlobals "do_new"=some (some (.ref jC)))
  (KU:gu K "do_new" "do_new" Iz jC)
  (mI:PySem.W.nsIn K mainGlobals "do_words"=some (some (.ref mX)))
  (DT:gu K "do_words" "do_words" IA mX)
  (mJ:PySem.W.nsIn K mainGlobals "do_put"=some (some (.ref mY)))
  (KW:gu K "do_put" "do_put" IB mY)
  (mK:PySem.W.nsIn K mainGlobals "do_get"=some (some (.ref mZ)))
  (KY:gu K "do_get" "do_get" IC mZ)
  (mL:PySem.W.nsIn K mainGlobals "do_look"=some (some (.ref m3)))
  (Gy:gu K "do_look" "do_look" ID m3)
  (mM:PySem.W.nsIn K mainGlobals "do_find"=some (some (.ref m4)))
  (Gz:gu K "do_find" "do_find" IE m4)
  (mN:PySem.W.nsIn K mainGlobals "do_copy"=some (some (.ref m5)))
  (GA:gu K "do_copy" "do_copy" IF m5)
  (mO:PySem.W.nsIn K mainGlobals "do_drop"=some (some (.ref m6)))
  (GB:gu K "do_drop" "do_drop" IG m6)
  (mP:PySem.W.nsIn K mainGlobals "do_tell"=some (some (.ref m7)))
  (GC:gu K "do_tell" "do_tell" IH m7)
  (mQ:PySem.W.nsIn K mainGlobals "do_same"=some (some (.ref m8)))
  (GD:gu K "do_same" "do_same" II m8)
  (mR:PySem.W.nsIn K mainGlobals "do_hear"=some (some (.ref m9)))
  (GF:gu K "do_hear" "do_hear" IJ m9)
  (F5:PySem.W.findIn K (.ref bb) "__init__"=some (some (.ref B7)))
  (nN:jZ K "__init__" "DeedHeap.__init__" Sk B7)
  (F6:PySem.W.findIn K (.ref bb) "root"=some (some (.ref B8)))
  (nO:jZ K "root" "DeedHeap.root" Sl B8)
  (F7:PySem.W.findIn K (.ref bb) "set_root"=some (some (.ref B9)))
  (jh:jZ K "set_root" "DeedHeap.set_root" Sn B9)
  (F8:PySem.W.findIn K (.ref bb) "name_in"=some (some (.ref B_)))
  (j_:jZ K "name_in" "DeedHeap.name_in" So B_)
  (F9:PySem.W.findIn K (.ref bb) "thing_in"=some (some (.ref Ca)))
  (ji:jZ K "thing_in" "DeedHeap.thing_in" Sq Ca)
  (F_:PySem.W.findIn K (.ref bb) "looked_at"=some (some (.ref Cc)))
  (iJ:jZ K "looked_at" "DeedHeap.looked_at" Sr Cc)
  (Ga:PySem.W.findIn K (.ref bb) "hear_first"=some (some (.ref Cd)))
  (hV:jZ K "hear_first" "DeedHeap.hear_first" Ss Cd)
  (Gb:PySem.W.findIn K (.ref bb) "refusal"=some (some (.ref Ce)))
  (kc:jZ K "refusal" "DeedHeap.refusal" Su Ce)
  (Gd:PySem.W.findIn K (.ref bb) "done"=some (some (.ref Cf)))
  (nP:jZ K "done" "DeedHeap.done" Sv Cf)
  (yQ:PySem.W.findIn K (.ref aJ) "__init__"=some (some (.ref ue)))
  (me:jZ K "__init__" "PlainHeap.__init__" IK ue)
  (yS:PySem.W.findIn K (.ref aJ) "do"=some (some (.ref uf)))
  (qJ:jZ K "do" "PlainHeap.do" IL uf)
  (yU:PySem.W.findIn K (.ref aJ) "thing_of"=some (some (.ref ug)))
  (iK:jZ K "thing_of" "PlainHeap.thing_of" IM ug)
  (yW:PySem.W.findIn K (.ref aJ) "take_in"=some (some (.ref uh)))
  (jj:jZ K "take_in" "PlainHeap.take_in" IP uh)
  (yY:PySem.W.findIn K (.ref aJ) "change_field"=some (some (.ref ui)))
  (fT:jZ K "change_field" "PlainHeap.change_field" IQ ui)
  (y0:PySem.W.findIn K (.ref aJ) "change_words"=some (some (.ref uj)))
  (fU:jZ K "change_words" "PlainHeap.change_words" IS uj)
  (y2:PySem.W.findIn K (.ref aJ) "clear"=some (some (.ref uk)))
  (lr:jZ K "clear" "PlainHeap.clear" IT uk)
  (y4:PySem.W.findIn K (.ref aJ) "drop_pair"=some (some (.ref um)))
  (hW:jZ K "drop_pair" "PlainHeap.drop_pair" IU um)
  (y8:PySem.W.findIn K (.ref aJ) "make_due"=some (some (.ref uo)))
  (iL:jZ K "make_due" "PlainHeap.make_due" IV uo)
  (y_:PySem.W.findIn K (.ref aJ) "roots"=some (some (.ref uq)))
  (lu:jZ K "roots" "PlainHeap.roots" IW uq)
  (zb:PySem.W.findIn K (.ref aJ) "heard_row"=some (some (.ref ur)))
  (hX:jZ K "heard_row" "PlainHeap.heard_row" IY ur)
  (zd:PySem.W.findIn K (.ref aJ) "things"=some (some (.ref uu)))
  (kd:jZ K "things" "PlainHeap.things" IZ uu)
  (zf:PySem.W.findIn K (.ref aJ) "last"=some (some (.ref uv)))
  (mf:jZ K "last" "PlainHeap.last" I0 uv)
  (zh:PySem.W.nsIn K mainGlobals "_law_cell_at"=some (some (.ref pL)))
  (sk:gu K "_law_cell_at" "_law_cell_at" I_ pL)
  (zj:PySem.W.nsIn K mainGlobals "_law_number_by"=some (some (.ref pM)))
  (nQ:gu K "_law_number_by" "_law_number_by" Ja pM)
  (zl:PySem.W.nsIn K mainGlobals "_law_deed_by"=some (some (.ref pN)))
  (sq:gu K "_law_deed_by" "_law_deed_by" Jb pN)
  (zo:PySem.W.nsIn K mainGlobals "_law_value"=some (some (.ref ef)))
  (AR:gu K "_law_value" "_law_value" Jc ef)
  (zq:PySem.W.nsIn K mainGlobals "_law_thing"=some (some (.ref pO)))
  (AS:gu K "_law_thing" "_law_thing" Jd pO)
  (zt:PySem.W.nsIn K mainGlobals "_law_give"=some (some (.ref jD)))
  (DU:gu K "_law_give" "_law_give" Je jD)
  (zv:PySem.W.nsIn K mainGlobals "_law_wants"=some (some (.ref pP)))
  (AU:gu K "_law_wants" "_law_wants" Jf pP)
  (zx:PySem.W.nsIn K mainGlobals "_law_refusal"=some (some (.ref pQ)))
  (su:gu K "_law_refusal" "_law_refusal" Jg pQ)
  (zz:PySem.W.nsIn K mainGlobals "_law_made"=some (some (.ref pR)))
  (DV:gu K "_law_made" "_law_made" Jh pR)
  (zB:PySem.W.nsIn K mainGlobals "_law_brought"=some (some (.ref pS)))
  (sv:gu K "_law_brought" "_law_brought" Ji pS)
  (zD:PySem.W.nsIn K mainGlobals "_law_answer"=some (some (.ref pT)))
  (vV:gu K "_law_answer" "_law_answer" Jj pT)
  (zF:PySem.W.nsIn K mainGlobals "_law_done"=some (some (.ref pU)))
  (DW:gu K "_law_done" "_law_done" Jk pU)
  (zH:PySem.W.nsIn K mainGlobals "_law_event"=some (some (.ref kQ)))
  (AV:gu K "_law_event" "_law_event" Jl kQ)
  (pw:PySem.W.nsIn K mainGlobals "_law_alike"=some (some (.ref hJ)))
  (AW:gu K "_law_alike" "_law_alike" x9 hJ)
  (zJ:PySem.W.nsIn K mainGlobals "_law_told"=some (some (.ref pX)))
  (DX:gu K "_law_told" "_law_told" Jm pX)
  (zL:PySem.W.nsIn K mainGlobals "_law_same_state"=some (some (.ref jE)))
  (mh:gu K "_law_same_state" "_law_same_state" Jn jE)
  (zN:PySem.W.nsIn K mainGlobals "_law_told_event"=some (some (.ref pY)))
  (mi:gu K "_law_told_event" "_law_told_event" Jo pY)
  (t_:PySem.W.nsIn K mainGlobals "law"=some (some (.ref m_)))
  (XT:K.lookup m_=some ⟨UJ,UH,.func (PySem.W.fnOf "law" "law" (gA kN) (eR kN) (aq kN) .none KJ KL KN KI DB KO),UI⟩)
  (UM:PySem.W.codeIn K DB "law"=true)
  (XU:PySem.W.keepIn K (.ref m_)=true)
  (KZ:PySem.W.plainGet K cG Str.empty=true)
  (K0:PySem.W.hasDictIn K cG=true)
  (K1:PySem.W.plainOver K cG=true)
  (K2:PySem.W.findIn K (.ref cG) "__setattr__"=some (some (.builtin "object.__setattr__")))
  (K3:PySem.W.makesIn K cG=true)
  (K4:PySem.W.keepIn K (.ref cG)=true)
  (cW:PySem.W.findIn K (.ref cG) "called"=some none)
  (dr:PySem.W.findIn K (.ref cG) "parts"=some none)
  (sx:PySem.W.plainGet K aZ Str.empty=true)
  (sy:PySem.W.hasDictIn K aZ=true)
  (sC:PySem.W.plainOver K aZ=true)
  (sD:PySem.W.findIn K (.ref aZ) "__setattr__"=some (some (.builtin "object.__setattr__")))
  (sE:PySem.W.makesIn K aZ=true)
  (sF:PySem.W.keepIn K (.ref aZ)=true)
  (ck:PySem.W.findIn K (.ref aZ) "called"=some none)
  (bh:PySem.W.findIn K (.ref aZ) "parts"=some none)
  (bg:PySem.W.findIn K (.ref aZ) "last_words"=some none)
  (vW:PySem.W.plainGet K bD Str.empty=true)
  (vX:PySem.W.hasDictIn K bD=true)
  (vY:PySem.W.plainOver K bD=true)
  (vZ:PySem.W.findIn K (.ref bD) "__setattr__"=some (some (.builtin "object.__setattr__")))
  (v_:PySem.W.makesIn K bD=true)
  (wa:PySem.W.keepIn K (.ref bD)=true)
  (cz:PySem.W.findIn K (.ref bD) "called"=some none)
  (cC:PySem.W.findIn K (.ref bD) "parts"=some none)
  (AX:PySem.W.plainGet K bb Str.empty=true)
  (AY:PySem.W.hasDictIn K bb=true)
  (AZ:PySem.W.plainOver K bb=true)
  (A0:PySem.W.findIn K (.ref bb) "__setattr__"=some (some (.builtin "object.__setattr__")))
  (A1:PySem.W.makesIn K bb=true)
  (A2:PySem.W.keepIn K (.ref bb)=true)
  (wb:PySem.W.plainGet K aJ Str.empty=true)
  (wc:PySem.W.hasDictIn K aJ=true)
  (we:PySem.W.plainOver K aJ=true)
  (wg:PySem.W.findIn K (.ref aJ) "__setattr__"=some (some (.builtin "object.__setattr__")))
  (wj:PySem.W.makesIn K aJ=true)
  (wk:PySem.W.keepIn K (.ref aJ)=true)
  (a7:PySem.W.findIn K (.ref aJ) "root_values"=some none)
  (bH:PySem.W.findIn K (.ref aJ) "heard"=some none)
  (aK:PySem.W.findIn K (.ref aJ) "made"=some none)
  (GG:PySem.W.nsIn K mainGlobals "NOTHING"=some (some (.ref ba)))
  (qK:K.lookup ba=some ⟨.type "tuple",none,.seq #[.str "nothing" vt] Dz,DA⟩)
  (DY:PySem.W.nsIn K mainGlobals "NO_THING"=some (some (.str "no thing" gH)))
  (DZ:PySem.W.nsIn K mainGlobals "NO_FIELD"=some (some (.str "no field" gI)))
  (MF:PySem.W.nsIn K mainGlobals "WANTS"=some (some (.ref fM)))
  (K5:(fM == sysModules)=false)
  (K6:K.lookup fM=some ⟨.type "dict",none,.dict #[⟨CW,.str "weak" C5,.ref dW⟩,⟨CY,.str "pair" C6,.ref dY⟩,⟨CZ,.str "words" C7,.ref d3⟩,⟨C0,.str "put" C8,.ref d5⟩,⟨C1,.str "get" C9,.ref d7⟩,⟨C3,.str "look" C_,.ref d9⟩,⟨C4,.str "find" Dc,.ref ee⟩] KG,#[]⟩)
  (D0:K.lookup dW=some ⟨.type "tuple",none,.seq #[.ref dX] CO,CH⟩)
  (wm:K.lookup dX=some ⟨.type "tuple",none,.seq #[.int 2 ql,.str "any" qm] vE,vv⟩)
  (D1:K.lookup dY=some ⟨.type "tuple",none,.seq #[.ref dZ] CP,CI⟩)
  (wo:K.lookup dZ=some ⟨.type "tuple",none,.seq #[.int 2 qo,.str "any" qp] vF,vw⟩)
  (D2:K.lookup d3=some ⟨.type "tuple",none,.seq #[.ref d4] CQ,CJ⟩)
  (wq:K.lookup d4=some ⟨.type "tuple",none,.seq #[.int 1 qr,.str "plain" qu] vG,vx⟩)
  (D3:K.lookup d5=some ⟨.type "tuple",none,.seq #[.ref d6] CS,CK⟩)
  (wt:K.lookup d6=some ⟨.type "tuple",none,.seq #[.int 1 qv,.str "plain" qw] vH,vy⟩)
  (D4:K.lookup d7=some ⟨.type "tuple",none,.seq #[.ref d8] CT,CL⟩)
  (wu:K.lookup d8=some ⟨.type "tuple",none,.seq #[.int 2 qx,.str "plain" qy] vI,vz⟩)
  (D5:K.lookup d9=some ⟨.type "tuple",none,.seq #[.ref d_] CU,CM⟩)
  (wx:K.lookup d_=some ⟨.type "tuple",none,.seq #[.int 2 qz,.str "weak" qA] vJ,vA⟩)
  (D6:K.lookup ee=some ⟨.type "tuple",none,.seq #[.ref dj,.ref dk] CV,CN⟩)
  (wy:K.lookup dj=some ⟨.type "tuple",none,.seq #[.int 2 qB,.str "pair" qC] vK,vB⟩)
  (wz:K.lookup dk=some ⟨.type "tuple",none,.seq #[.int 3 qD,.str "any" qE] vL,vC⟩)
  (sG:PySem.W.nsIn K mainGlobals "WANTS_FIELD"=some (some (.ref cB)))
  (qL:(cB == sysModules)=false)
  (qM:K.lookup cB=some ⟨.type "dict",none,.dict #[⟨lZ,.str "put" l7,.ref bP⟩,⟨l0,.str "get" l_,.ref bQ⟩] qF,#[]⟩)
  (mj:K.lookup bP=some ⟨.type "tuple",none,.seq #[.int 1 j4,.int 2 j6] lX,lV⟩)
  (ml:K.lookup bQ=some ⟨.type "tuple",none,.seq #[.int 2 j7,.int 3 j8] lY,lW⟩)
  (MG:PySem.W.nsIn K mainGlobals "DOERS"=some (some (.ref fN)))
  (K7:(fN == sysModules)=false)
  (K8:K.lookup fN=some ⟨.type "dict",none,.dict #[⟨Dd,.str "num" Dp,.ref mW⟩,⟨Df,.str "make" Dq,.ref jC⟩,⟨Dg,.str "weak" Dr,.ref jC⟩,⟨Dh,.str "pair" Ds,.ref jC⟩,⟨Di,.str "words" Dt,.ref mX⟩,⟨Dj,.str "put" Du,.ref mY⟩,⟨Dk,.str "get" Dv,.ref mZ⟩,⟨Dl,.str "look" Dw,.ref m3⟩,⟨Dm,.str "find" Dx,.ref m4⟩,⟨Dn,.str "copy" Dy,.ref m5⟩,⟨Ag,.str "drop" Ak,.ref m6⟩,⟨Ah,.str "tell" Al,.ref m7⟩,⟨Ai,.str "same" Am,.ref m8⟩,⟨Aj,.str "hear" An,.ref m9⟩] KH,#[]⟩)
  (iM:PySem.W.findIn K (.ref aZ) "sort_of"=some (some (.ref mS)))
  (jk:PySem.W.findIn K (.ref aZ) "fields"=some (some (.ref mT)))
  (jl:PySem.W.findIn K (.ref bD) "sort_of"=some (some (.ref mS)))
  (ke:PySem.W.findIn K (.ref bD) "fields"=some (some (.ref mT)))
  (lx:PySem.W.findIn K (.ref bD) "words"=some (some (.ref pE)))
  (mn:PySem.W.findIn K (.ref aJ) "root"=some (some (.ref B8)))
  (iN:PySem.W.findIn K (.ref aJ) "set_root"=some (some (.ref B9)))
  (jm:PySem.W.findIn K (.ref aJ) "name_in"=some (some (.ref B_)))
  (iO:PySem.W.findIn K (.ref aJ) "thing_in"=some (some (.ref Ca)))
  (hZ:PySem.W.findIn K (.ref aJ) "looked_at"=some (some (.ref Cc)))
  (gS:PySem.W.findIn K (.ref aJ) "hear_first"=some (some (.ref Cd)))
  (jn:PySem.W.findIn K (.ref aJ) "refusal"=some (some (.ref Ce)))
  (mq:PySem.W.findIn K (.ref aJ) "done"=some (some (.ref Cf)))
  (tyg:PySem.W.specialIn K (.builtin "object.__class__") "__get__"=some (some (.builtin "getset_descriptor.__get__")))
  (tyt:PySem.W.takesIn K (.builtin "object.__class__")=some true)
  (gT:K.lookup cm=some (PySem.excClassObj rR rS cm vM rT L2.tY se rV qG rW qH rX rY rZ r0 r_ sd "ValueError.__new__"))
  (gU:PySem.W.excIn K cm L2.tY "ValueError.__new__"=true)
  (sH:PySem.W.specialIn K (.ref cm) "__getattribute__"=some (some (.builtin "type.__getattribute__")))
  (sI:PySem.W.readsIn K cm (.type "type")=true)
  (sJ:PySem.W.findCls K (.ref cm) (.type "type") "__init__"=some (.val (.builtin "ValueError.__init__")))
  (D7:K.lookup bA=some (PySem.excClassObj Ao Ap bA DE As (.ref cm::L2.tY) true Aw vN Ay vP AB AE AF AG AH AI "ValueError.__new__"))
  (A3:PySem.W.findIn K (.ref bA) "__setattr__"=some (some (.builtin "object.__setattr__")))
  (A4:PySem.W.findIn K (.ref bA) "__getattribute__"=some (some (.builtin "BaseException.__getattribute__")))
  (A5:PySem.W.findIn K (.ref bA) "__getattr__"=some none)
  (A6:PySem.W.findIn K (.ref bA) "__class__"=some (some (.builtin "object.__class__")))
  (gL:PySem.W.findIn K (.ref bA) "__init__"=some (some (.builtin "ValueError.__init__")))
  (A7:PySem.W.mroIn K bA (.type "object")=some true)
  (A8:PySem.W.keepIn K (.ref bA)=true)
  (D8:K.lookup bB=some (PySem.excClassObj Aq Ar bB DF Au (.ref cm::L2.tY) true Ax vO Az vQ AD AJ AK AL AM AN "ValueError.__new__"))
  (A9:PySem.W.findIn K (.ref bB) "__setattr__"=some (some (.builtin "object.__setattr__")))
  (A_:PySem.W.findIn K (.ref bB) "__getattribute__"=some (some (.builtin "BaseException.__getattribute__")))
  (Ba:PySem.W.findIn K (.ref bB) "__getattr__"=some none)
  (Bb:PySem.W.findIn K (.ref bB) "__class__"=some (some (.builtin "object.__class__")))
  (gO:PySem.W.findIn K (.ref bB) "__init__"=some (some (.builtin "ValueError.__init__")))
  (Bc:PySem.W.mroIn K bB (.type "object")=some true)
  (Bd:PySem.W.keepIn K (.ref bB)=true)
  (GH:K.lookup cN=some (PySem.excClassObj DC DD cN Gv DG (.ref cm::L2.tY) true DH Av DI AA DJ DK DL DM DN DO "ValueError.__new__"))
  (D9:PySem.W.findIn K (.ref cN) "__setattr__"=some (some (.builtin "object.__setattr__")))
  (D_:PySem.W.findIn K (.ref cN) "__getattribute__"=some (some (.builtin "BaseException.__getattribute__")))
  (Ea:PySem.W.findIn K (.ref cN) "__getattr__"=some none)
  (Eb:PySem.W.findIn K (.ref cN) "__class__"=some (some (.builtin "object.__class__")))
  (je:PySem.W.findIn K (.ref cN) "__init__"=some (some (.builtin "ValueError.__init__")))
  (Ec:PySem.W.mroIn K cN (.type "object")=some true)
  (Ed:PySem.W.keepIn K (.ref cN)=true)
  (qN:PySem.W.specialIn K (.ref cG) "__getattribute__"=some (some (.builtin "type.__getattribute__")))
  (qO:PySem.W.readsIn K cG (.type "type")=true)
  (qP:PySem.W.findCls K (.ref cG) (.type "type") "__init__"=some (.val (.ref pC)))
  (ly:PySem.W.specialIn K (.ref bb) "__getattribute__"=some (some (.builtin "type.__getattribute__")))
  (lz:PySem.W.readsIn K bb (.type "type")=true)
  (lA:PySem.W.findCls K (.ref bb) (.type "type") "__init__"=some (.val (.ref B7)))
  (cQ:PySem.W.kitOne K (.ref bA) (.ref bA)=some true)
  (cR:PySem.W.kitOne K (.ref bA) (.ref bB)=some false)
  (c_:PySem.W.kitOne K (.ref bA) (.ref cN)=some false)
  (da:PySem.W.kitOne K (.ref bA) (.ref lp)=some false)
  (dB:PySem.W.kitOne K (.ref bA) (.ref oz)=some false)
  (cS:PySem.W.kitOne K (.ref bB) (.ref bA)=some false)
  (cT:PySem.W.kitOne K (.ref bB) (.ref bB)=some true)
  (dc:PySem.W.kitOne K (.ref bB) (.ref cN)=some false)
  (df:PySem.W.kitOne K (.ref bB) (.ref lp)=some false)
  (dC:PySem.W.kitOne K (.ref bB) (.ref oz)=some false)
  (fg:PySem.W.nsIn K mainGlobals "ValueError"=some none)
  (uy:PySem.W.nsIn K mainGlobals "abs"=some none)
  (E5:PySem.W.nsIn K mainGlobals "any"=some none)
  (jS:PySem.W.nsIn K mainGlobals "bool"=some none)
  (iH:PySem.W.nsIn K mainGlobals "dict"=some none)
  (ng:PySem.W.nsIn K mainGlobals "int"=some none)
  (aE:PySem.W.nsIn K mainGlobals "isinstance"=some none)
  (eF:PySem.W.nsIn K mainGlobals "len"=some none)
  (fS:PySem.W.nsIn K mainGlobals "list"=some none)
  (E6:PySem.W.nsIn K mainGlobals "max"=some none)
  (lg:PySem.W.nsIn K mainGlobals "range"=some none)
  (gh:PySem.W.nsIn K mainGlobals "str"=some none)
  (gQ:PySem.W.nsIn K mainGlobals "tuple"=some none)
  (UN:PySem.W.kitOne K (.ref bA) (.type "ValueError")=some true)
  (UO:PySem.W.kitOne K (.ref bB) (.type "ValueError")=some true)
  : ∃fd:FuncData,(∀(s:Shared) (v:Value),BindsTo s fd ⟨[v],[]⟩ [("_law_script",v)])∧∀base:Heap,K.In base→base.Ns mainGlobals mg→aY l.prog w K mg base cX 10 fa fd ["_law_script"] (vq K):=by
 have e:m_=fa:=by
  have e:=hfa.symm.trans (PySem.W.mg_of X G t_)
  cases e
  rfl
 subst e
 obtain⟨abO,ya,P0⟩:=DR
 obtain⟨XW,XX,yb,P1⟩:=vU
 obtain⟨K9,K_,yc,P2⟩:=nM
 obtain⟨La,Lb,yd,P4⟩:=qI
 obtain⟨P5,P6,ye,P7⟩:=sh
 obtain⟨XY,abP,yg,P8⟩:=lq
 obtain⟨XZ,X0,yi,P9⟩:=j9
 obtain⟨X1,X2,yk,P_⟩:=gk
 obtain⟨X3,X4,ym,Qa⟩:=gm
 obtain⟨abx,acM,Jz,X5⟩:=ma
 obtain⟨abQ,yo,Qb⟩:=ME
 obtain⟨abR,yq,Qc⟩:=UK
 obtain⟨abS,yt,Qd⟩:=UL
 obtain⟨abT,yv,Qf⟩:=KR
 obtain⟨abU,yx,Qg⟩:=DS
 obtain⟨abV,yz,Qh⟩:=si
 obtain⟨abW,yB,Qi⟩:=sj
 obtain⟨abX,yD,Qj⟩:=AQ
 obtain⟨abY,yE,Qk⟩:=KS
 obtain⟨abZ,yF,Ql⟩:=KU
 obtain⟨aca,yG,Qm⟩:=DT
 obtain⟨acb,yH,Qn⟩:=KW
 obtain⟨acd,yI,Qo⟩:=KY
 obtain⟨ace,yJ,Qp⟩:=Gy
 obtain⟨acf,yK,Qq⟩:=Gz
 obtain⟨acg,yL,Qr⟩:=GA
 obtain⟨ach,yM,Qs⟩:=GB
 obtain⟨aci,yN,Qt⟩:=GC
 obtain⟨acj,yO,Qu⟩:=GD
 obtain⟨ack,yP,Qv⟩:=GF
 obtain⟨aby,abz,JA,X6⟩:=nN
 obtain⟨X7,X8,JB,X9⟩:=nO
 obtain⟨X_,Ya,JC,Yb⟩:=jh
 obtain⟨Yc,Yd,JD,Ye⟩:=j_
 obtain⟨Yf,Yg,JE,Yh⟩:=ji
 obtain⟨Yi,Yj,JF,Yk⟩:=iJ
 obtain⟨Yl,Ym,JG,Yn⟩:=hV
 obtain⟨Yo,Yp,JH,Yq⟩:=kc
 obtain⟨Yr,Ys,JI,Yt⟩:=nP
 obtain⟨Yu,acm,yR,Qw⟩:=me
 obtain⟨Yv,Yw,yT,Qx⟩:=qJ
 obtain⟨Yx,Yy,yV,Qy⟩:=iK
 obtain⟨Yz,YA,yX,Qz⟩:=jj
 obtain⟨YB,YC,yZ,QA⟩:=fT
 obtain⟨YD,YE,y1,QB⟩:=fU
 obtain⟨YF,YG,y3,QC⟩:=lr
 obtain⟨YH,YI,y7,QD⟩:=hW
 obtain⟨YJ,YK,y9,QE⟩:=iL
 obtain⟨YL,YM,za,QF⟩:=lu
 obtain⟨YN,YO,zc,QG⟩:=hX
 obtain⟨YQ,YR,ze,QH⟩:=kd
 obtain⟨YS,YT,zg,QI⟩:=mf
 obtain⟨acn,zi,QJ⟩:=sk
 obtain⟨aco,zk,QK⟩:=nQ
 obtain⟨acp,zm,QL⟩:=sq
 obtain⟨acq,zp,QM⟩:=AR
 obtain⟨acr,zr,QN⟩:=AS
 obtain⟨acs,zu,QO⟩:=DU
 obtain⟨acu,zw,QP⟩:=AU
 obtain⟨acv,zy,QQ⟩:=su
 obtain⟨acw,zA,QR⟩:=DV
 obtain⟨acx,zC,QS⟩:=sv
 obtain⟨acy,zE,QT⟩:=vV
 obtain⟨acz,zG,QU⟩:=DW
 obtain⟨acA,zI,QV⟩:=AV
 obtain⟨acB,t9,QW⟩:=AW
 obtain⟨acC,zK,QX⟩:=DX
 obtain⟨acD,zM,QY⟩:=mh
 obtain⟨acE,zO,QZ⟩:=mi
 have YU:=Hg (st:=kN) XT UM XU
 have YV:=P0.binds (ps:=["value"]) fun _ _ _ _ _ _=>jY fun _=>rfl
 have YW:=P1.binds (ps:=["self","sort","some"]) fun _ _ _ _ _ _=>qk fun _ _ _=>rfl
 have YX:=P2.binds (ps:=["self"]) fun _ _ _ _ _ _=>jY fun _=>rfl
 have YY:=P4.binds (ps:=["self"]) fun _ _ _ _ _ _=>jY fun _=>rfl
 have YZ:=P7.binds (ps:=["self"]) fun _ _ _ _ _ _=>jY fun _=>rfl
 have Y0:=P8.binds (ps:=["self","some","last_words"]) fun _ _ _ _ _ _=>qk fun _ _ _=>rfl
 have Y1:=P9.binds (ps:=["self"]) fun _ _ _ _ _ _=>jY fun _=>rfl
 have Y2:=P_.binds (ps:=["self","at","value"]) fun _ _ _ _ _ _=>qk fun _ _ _=>rfl
 have Y3:=Qa.binds (ps:=["self","words"]) fun _ _ _ _ _ _=>cH fun _ _=>rfl
 have abA:=X5.binds (ps:=["self","key","value"]) fun _ _ _ _ _ _=>qk fun _ _ _=>rfl
 have Y4:=Qb.binds (ps:=["fields","words"]) fun _ _ _ _ _ _=>cH fun _ _=>rfl
 have Y5:=Qc.binds (ps:=["field"]) fun _ _ _ _ _ _=>jY fun _=>rfl
 have Y6:=Qd.binds (ps:=["key","value"]) fun _ _ _ _ _ _=>cH fun _ _=>rfl
 have Y7:=Qf.binds (ps:=["word"]) fun _ _ _ _ _ _=>jY fun _=>rfl
 have Y8:=Qg.binds (ps:=["heap","letter","sort"]) fun _ _ _ _ _ _=>qk fun _ _ _=>rfl
 have Y9:=Qh.binds (ps:=["heap","deed"]) fun _ _ _ _ _ _=>cH fun _ _=>rfl
 have Y_:=Qi.binds (ps:=["heap","deed"]) fun _ _ _ _ _ _=>cH fun _ _=>rfl
 have Za:=Qj.binds (ps:=["heap","deed"]) fun _ _ _ _ _ _=>cH fun _ _=>rfl
 have Zb:=Qk.binds (ps:=["heap","deed"]) fun _ _ _ _ _ _=>cH fun _ _=>rfl
 have Zc:=Ql.binds (ps:=["heap","deed"]) fun _ _ _ _ _ _=>cH fun _ _=>rfl
 have Zd:=Qm.binds (ps:=["heap","deed"]) fun _ _ _ _ _ _=>cH fun _ _=>rfl
 have Ze:=Qn.binds (ps:=["heap","deed"]) fun _ _ _ _ _ _=>cH fun _ _=>rfl
 have Zf:=Qo.binds (ps:=["heap","deed"]) fun _ _ _ _ _ _=>cH fun _ _=>rfl
 have Zg:=Qp.binds (ps:=["heap","deed"]) fun _ _ _ _ _ _=>cH fun _ _=>rfl
 have Zh:=Qq.binds (ps:=["heap","deed"]) fun _ _ _ _ _ _=>cH fun _ _=>rfl
 have Zi:=Qr.binds (ps:=["heap","deed"]) fun _ _ _ _ _ _=>cH fun _ _=>rfl
 have Zj:=Qs.binds (ps:=["heap","deed"]) fun _ _ _ _ _ _=>cH fun _ _=>rfl
 have Zk:=Qt.binds (ps:=["heap","deed"]) fun _ _ _ _ _ _=>cH fun _ _=>rfl
 have Zl:=Qu.binds (ps:=["heap","deed"]) fun _ _ _ _ _ _=>cH fun _ _=>rfl
 have Zm:=Qv.binds (ps:=["heap","deed"]) fun _ _ _ _ _ _=>cH fun _ _=>rfl
 have abB:=X6.binds (ps:=["self"]) fun _ _ _ _ _ _=>jY fun _=>rfl
 have abC:=X9.binds (ps:=["self","letter"]) fun _ _ _ _ _ _=>cH fun _ _=>rfl
 have abD:=Yb.binds (ps:=["self","letter","value"]) fun _ _ _ _ _ _=>qk fun _ _ _=>rfl
 have abE:=Ye.binds (ps:=["self","letter"]) fun _ _ _ _ _ _=>cH fun _ _=>rfl
 have abF:=Yh.binds (ps:=["self","letter"]) fun _ _ _ _ _ _=>cH fun _ _=>rfl
 have abG:=Yk.binds (ps:=["self","name"]) fun _ _ _ _ _ _=>cH fun _ _=>rfl
 have abH:=Yn.binds (ps:=["self"]) fun _ _ _ _ _ _=>jY fun _=>rfl
 have abI:=Yq.binds (ps:=["self","deed"]) fun _ _ _ _ _ _=>cH fun _ _=>rfl
 have abJ:=Yt.binds (ps:=["self","deed"]) fun _ _ _ _ _ _=>cH fun _ _=>rfl
 have Zn:=Qw.binds (ps:=["self"]) fun _ _ _ _ _ _=>jY fun _=>rfl
 have Zo:=Qx.binds (ps:=["self","deed"]) fun _ _ _ _ _ _=>cH fun _ _=>rfl
 have Zp:=Qy.binds (ps:=["self","name"]) fun _ _ _ _ _ _=>cH fun _ _=>rfl
 have Zq:=Qz.binds (ps:=["self","thing"]) fun _ _ _ _ _ _=>cH fun _ _=>rfl
 have Zr:=QA.binds (ps:=["self","name","at","value"]) fun _ _ _ _ _ _=>abw fun _ _ _ _=>rfl
 have Zs:=QB.binds (ps:=["self","name","words"]) fun _ _ _ _ _ _=>qk fun _ _ _=>rfl
 have Zt:=QC.binds (ps:=["self","serial"]) fun _ _ _ _ _ _=>cH fun _ _=>rfl
 have Zu:=QD.binds (ps:=["self","serial"]) fun _ _ _ _ _ _=>cH fun _ _=>rfl
 have Zv:=QE.binds (ps:=["self","serial"]) fun _ _ _ _ _ _=>cH fun _ _=>rfl
 have Zw:=QF.binds (ps:=["self"]) fun _ _ _ _ _ _=>jY fun _=>rfl
 have Zx:=QG.binds (ps:=["self"]) fun _ _ _ _ _ _=>jY fun _=>rfl
 have Zy:=QH.binds (ps:=["self"]) fun _ _ _ _ _ _=>jY fun _=>rfl
 have Zz:=QI.binds (ps:=["self"]) fun _ _ _ _ _ _=>jY fun _=>rfl
 have ZA:=QJ.binds (ps:=["_law_script","_law_k"]) fun _ _ _ _ _ _=>cH fun _ _=>rfl
 have ZC:=QK.binds (ps:=["_law_cell","_law_mode"]) fun _ _ _ _ _ _=>cH fun _ _=>rfl
 have ZD:=QL.binds (ps:=["_law_cell","_law_mode"]) fun _ _ _ _ _ _=>cH fun _ _=>rfl
 have ZE:=QM.binds (ps:=["_law_state","_law_root"]) fun _ _ _ _ _ _=>cH fun _ _=>rfl
 have ZF:=QN.binds (ps:=["_law_state","_law_root","_law_sort"]) fun _ _ _ _ _ _=>qk fun _ _ _=>rfl
 have ZG:=QO.binds (ps:=["_law_state","_law_root","_law_value_here"]) fun _ _ _ _ _ _=>qk fun _ _ _=>rfl
 have ZH:=QP.binds (ps:=["_law_deed"]) fun _ _ _ _ _ _=>jY fun _=>rfl
 have ZI:=QQ.binds (ps:=["_law_state","_law_deed"]) fun _ _ _ _ _ _=>cH fun _ _=>rfl
 have ZJ:=QR.binds (ps:=["_law_state","_law_deed"]) fun _ _ _ _ _ _=>cH fun _ _=>rfl
 have ZK:=QS.binds (ps:=["_law_state","_law_deed"]) fun _ _ _ _ _ _=>cH fun _ _=>rfl
 have ZL:=QT.binds (ps:=["_law_state","_law_deed"]) fun _ _ _ _ _ _=>cH fun _ _=>rfl
 have ZM:=QU.binds (ps:=["_law_state","_law_deed"]) fun _ _ _ _ _ _=>cH fun _ _=>rfl
 have ZN:=QV.binds (ps:=["_law_state","_law_word","_law_serial"]) fun _ _ _ _ _ _=>qk fun _ _ _=>rfl
 have ZO:=QW.binds (ps:=["_law_found","_law_due"]) fun _ _ _ _ _ _=>cH fun _ _=>rfl
 have ZP:=QX.binds (ps:=["_law_heap","_law_deed"]) fun _ _ _ _ _ _=>cH fun _ _=>rfl
 have ZQ:=QY.binds (ps:=["_law_heap","_law_state"]) fun _ _ _ _ _ _=>cH fun _ _=>rfl
 have ZR:=QZ.binds (ps:=["_law_heap","_law_state","_law_cell"]) fun _ _ _ _ _ _=>qk fun _ _ _=>rfl
 have T:Txt K mg ⟨pz,ya,pC,yb,mS,yc,mT,yd,pE,ye,ua,yg,ub,yi,uc,yk,ud,ym,Ge,Jz,pF,yo,mU,yq,mV,yt,pG,yv,pH,yx,pI,yz,pJ,yB,pK,yD,mW,yE,jC,yF,mX,yG,mY,yH,mZ,yI,m3,yJ,m4,yK,m5,yL,m6,yM,m7,yN,m8,yO,m9,yP,B7,JA,B8,JB,B9,JC,B_,JD,Ca,JE,Cc,JF,Cd,JG,Ce,JH,Cf,JI,ue,yR,uf,yT,ug,yV,uh,yX,ui,yZ,uj,y1,uk,y3,um,y7,uo,y9,uq,za,ur,zc,uu,ze,uv,zg,pL,zi,pM,zk,pN,zm,ef,zp,pO,zr,jD,zu,pP,zw,pQ,zy,pR,zA,pS,zC,pT,zE,pU,zG,kQ,zI,hJ,t9,pX,zK,jE,zM,pY,zO,m_,PySem.W.fnOf "law" "law" (gA kN) (eR kN) (aq kN) .none KJ KL KN KI DB KO,cm,lp,oz,bA,bB,cN,cG,aZ,bD,bb,aJ,ba,gH,gI,fM,dW,dX,dY,dZ,d3,d4,d5,d6,d7,d8,d9,d_,ee,dj,dk,cB,bP,bQ,fN⟩:=by
  exact {
   pz:=P0,
   OB:=YV,
   OC:=PySem.W.mg_of X G x_,
   pC:=P1,
   E1:=YW,
   zP:=⟨K3,t7,XW,K4⟩,
   mS:=P2,
   pD:=YX,
   B5:=⟨pk,K9,K_⟩,
   mT:=P4,
   fc:=YY,
   lS:=⟨pq,La,Lb⟩,
   pE:=P7,
   JJ:=YZ,
   JK:=⟨t8,P5,P6⟩,
   ua:=P8,
   E2:=Y0,
   eS:=⟨sE,yf,XY,sF⟩,
   ub:=P9,
   JL:=Y1,
   B6:=⟨yh,XZ,X0⟩,
   uc:=P_,
   OD:=Y2,
   JM:=⟨yj,X1,X2⟩,
   ud:=Qa,
   OE:=Y3,
   JN:=⟨yl,X3,X4⟩,
   Ge:=X5,
   WH:=abA,
   kP:=⟨v_,Jy,abx,wa⟩,
   pF:=Qb,
   OF:=Y4,
   OG:=PySem.W.mg_of X G yn,
   mU:=Qc,
   JO:=Y5,
   JP:=PySem.W.mg_of X G yp,
   mV:=Qd,
   JQ:=Y6,
   JR:=PySem.W.mg_of X G yr,
   pG:=Qf,
   OH:=Y7,
   OI:=PySem.W.mg_of X G yu,
   pH:=Qg,
   OJ:=Y8,
   OK:=PySem.W.mg_of X G yw,
   pI:=Qh,
   OL:=Y9,
   OM:=PySem.W.mg_of X G yy,
   pJ:=Qi,
   ON:=Y_,
   OO:=PySem.W.mg_of X G yA,
   pK:=Qj,
   OP:=Za,
   OQ:=PySem.W.mg_of X G yC,
   mW:=Qk,
   OR:=Zb,
   WI:=PySem.W.mg_of X G mH,
   jC:=Ql,
   OS:=Zc,
   WJ:=PySem.W.mg_of X G hG,
   mX:=Qm,
   OT:=Zd,
   WK:=PySem.W.mg_of X G mI,
   mY:=Qn,
   OU:=Ze,
   WL:=PySem.W.mg_of X G mJ,
   mZ:=Qo,
   OV:=Zf,
   WM:=PySem.W.mg_of X G mK,
   m3:=Qp,
   OW:=Zg,
   WN:=PySem.W.mg_of X G mL,
   m4:=Qq,
   OX:=Zh,
   WO:=PySem.W.mg_of X G mM,
   m5:=Qr,
   OY:=Zi,
   WQ:=PySem.W.mg_of X G mN,
   m6:=Qs,
   OZ:=Zj,
   WR:=PySem.W.mg_of X G mO,
   m7:=Qt,
   O0:=Zk,
   WS:=PySem.W.mg_of X G mP,
   m8:=Qu,
   O1:=Zl,
   WT:=PySem.W.mg_of X G mQ,
   m9:=Qv,
   O2:=Zm,
   WU:=PySem.W.mg_of X G mR,
   B7:=X6,
   WV:=abB,
   zQ:=⟨A1,F5,aby,A2⟩,
   B8:=X9,
   nH:=abC,
   WW:=⟨F6,X7,X8⟩,
   B9:=Yb,
   u6:=abD,
   WX:=⟨F7,X_,Ya⟩,
   B_:=Ye,
   JS:=abE,
   WY:=⟨F8,Yc,Yd⟩,
   Ca:=Yh,
   JT:=abF,
   WZ:=⟨F9,Yf,Yg⟩,
   Cc:=Yk,
   W3:=abG,
   W4:=⟨F_,Yi,Yj⟩,
   Cd:=Yn,
   W5:=abH,
   W6:=⟨Ga,Yl,Ym⟩,
   Ce:=Yq,
   W7:=abI,
   W8:=⟨Gb,Yo,Yp⟩,
   Cf:=Yt,
   W9:=abJ,
   W_:=⟨Gd,Yr,Ys⟩,
   ue:=Qw,
   JU:=Zn,
   gJ:=⟨wj,yQ,Yu,wk⟩,
   uf:=Qx,
   O3:=Zo,
   JV:=⟨yS,Yv,Yw⟩,
   ug:=Qy,
   JW:=Zp,
   Cg:=⟨yU,Yx,Yy⟩,
   uh:=Qz,
   O4:=Zq,
   JX:=⟨yW,Yz,YA⟩,
   ui:=QA,
   O5:=Zr,
   JY:=⟨yY,YB,YC⟩,
   uj:=QB,
   JZ:=Zs,
   Ci:=⟨y0,YD,YE⟩,
   uk:=QC,
   O6:=Zt,
   J0:=⟨y2,YF,YG⟩,
   um:=QD,
   O7:=Zu,
   J1:=⟨y4,YH,YI⟩,
   uo:=QE,
   O8:=Zv,
   J2:=⟨y8,YJ,YK⟩,
   uq:=QF,
   J3:=Zw,
   Cj:=⟨y_,YL,YM⟩,
   ur:=QG,
   J4:=Zx,
   Ck:=⟨zb,YN,YO⟩,
   uu:=QH,
   J5:=Zy,
   Cm:=⟨zd,YQ,YR⟩,
   uv:=QI,
   J6:=Zz,
   Cn:=⟨zf,YS,YT⟩,
   pL:=QJ,
   O9:=ZA,
   O_:=PySem.W.mg_of X G zh,
   pM:=QK,
   Pa:=ZC,
   Pb:=PySem.W.mg_of X G zj,
   pN:=QL,
   Pc:=ZD,
   Pe:=PySem.W.mg_of X G zl,
   ef:=QM,
   fq:=ZE,
   ft:=PySem.W.mg_of X G zo,
   pO:=QN,
   Pf:=ZF,
   Pg:=PySem.W.mg_of X G zq,
   jD:=QO,
   zR:=ZG,
   zS:=PySem.W.mg_of X G zt,
   pP:=QP,
   Ph:=ZH,
   Pj:=PySem.W.mg_of X G zv,
   pQ:=QQ,
   Pk:=ZI,
   Pl:=PySem.W.mg_of X G zx,
   pR:=QR,
   Pm:=ZJ,
   Pn:=PySem.W.mg_of X G zz,
   pS:=QS,
   Po:=ZK,
   Pp:=PySem.W.mg_of X G zB,
   pT:=QT,
   Pq:=ZL,
   Pt:=PySem.W.mg_of X G zD,
   pU:=QU,
   Pu:=ZM,
   Pw:=PySem.W.mg_of X G zF,
   kQ:=QV,
   E3:=ZN,
   E4:=PySem.W.mg_of X G zH,
   hJ:=QW,
   pV:=ZO,
   pW:=PySem.W.mg_of X G pw,
   pX:=QX,
   Px:=ZP,
   Py:=PySem.W.mg_of X G zJ,
   jE:=QY,
   zT:=ZQ,
   zU:=PySem.W.mg_of X G zL,
   pY:=QZ,
   Pz:=ZR,
   PB:=PySem.W.mg_of X G zN,
   m_:=YU,
   Xa:=PySem.W.mg_of X G t_,
   c8:=⟨iM,K9,K_⟩,
   bI:=⟨jk,La,Lb⟩,
   dm:=⟨jl,K9,K_⟩,
   bO:=⟨ke,La,Lb⟩,
   fu:=⟨lx,P5,P6⟩,
   aW:=⟨mn,X7,X8⟩,
   aX:=⟨iN,X_,Ya⟩,
   cj:=⟨jm,Yc,Yd⟩,
   bU:=⟨iO,Yf,Yg⟩,
   eE:=⟨hZ,Yi,Yj⟩,
   en:=⟨gS,Yl,Ym⟩,
   eX:=⟨jn,Yo,Yp⟩,
   fO:=⟨mq,Yr,Ys⟩,
   gK:=⟨⟨_,_,_,_,_,_,_,_,_,_,_,_,_,_,D7⟩,⟨_,_,_,_,_,_,_,_,_,_,_,_,_,_,_,gT⟩,gU,A3,A4,A5,A6,tyg,tyt,A7,A8⟩,
   jQ:=PySem.W.mg_of X G DP,
   gL:=gL,
   gM:=⟨⟨_,_,_,_,_,_,_,_,_,_,_,_,_,_,D8⟩,⟨_,_,_,_,_,_,_,_,_,_,_,_,_,_,_,gT⟩,gU,A9,A_,Ba,Bb,tyg,tyt,Bc,Bd⟩,
   jR:=PySem.W.mg_of X G DQ,
   gO:=gO,
   uw:=⟨⟨_,_,_,_,_,_,_,_,_,_,_,_,_,_,GH⟩,⟨_,_,_,_,_,_,_,_,_,_,_,_,_,_,_,gT⟩,gU,D9,D_,Ea,Eb,tyg,tyt,Ec,Ed⟩,
   lT:=PySem.W.mg_of X G Gx,
   je:=je,
   ux:=PySem.W.mg_of X G Gw,
   zV:=PySem.W.mg_of X G KP,
   u7:=⟨sH,sI,sJ⟩,
   kR:=PySem.W.mg_of X G vR,
   fR:=⟨qN,qO,qP,XX⟩,
   gb:=⟨ly,lz,lA,abz⟩,
   cQ:=cQ,
   cR:=cR,
   c_:=c_,
   da:=da,
   dB:=dB,
   cS:=cS,
   cT:=cT,
   dc:=dc,
   df:=df,
   dC:=dC,
   dq:=⟨KZ,K0,K1,K2⟩,
   kS:=PySem.W.mg_of X G KQ,
   cW:=cW,
   dr:=dr,
   aP:=⟨sx,sy,sC,sD⟩,
   eT:=PySem.W.mg_of X G sg,
   ck:=ck,
   bh:=bh,
   bg:=bg,
   bM:=⟨vW,vX,vY,vZ⟩,
   kT:=PySem.W.mg_of X G vS,
   cz:=cz,
   cC:=cC,
   zW:=⟨AX,AY,AZ,A0⟩,
   nc:=PySem.W.mg_of X G AO,
   aj:=⟨wb,wc,we,wg⟩,
   gP:=PySem.W.mg_of X G vT,
   a7:=a7,
   bH:=bH,
   aK:=aK,
   aV:=PySem.W.mg_of X G GG,
   Gf:=⟨_,qK,rfl,rfl⟩,
   cZ:=fun H=>.inr ⟨_,_,_,qK,rfl,rfl,(by show 1≤sizeLine; decide),(.cons ⟨_,rfl⟩ Paired.nil)⟩,
   fw:=PySem.W.mg_of X G DY,
   fz:=PySem.W.mg_of X G DZ,
   u9:=PySem.W.mg_of X G MF,
   zX:=.mk K5 K6 (a_ (a_ (a_ (a_ (a_ (a_ (a_ rfl))))))),
   pZ:=fun H=>.inr ⟨_,_,_,D0,rfl,rfl,(by show 1≤sizeLine; decide),(.cons rfl Paired.nil)⟩,
   kU:=fun H=>.inr ⟨_,_,_,wm,rfl,rfl,(by show 2≤sizeLine; decide),(.cons ⟨_,rfl⟩ (.cons ⟨_,rfl⟩ Paired.nil))⟩,
   p0:=fun H=>.inr ⟨_,_,_,D1,rfl,rfl,(by show 1≤sizeLine; decide),(.cons rfl Paired.nil)⟩,
   kW:=fun H=>.inr ⟨_,_,_,wo,rfl,rfl,(by show 2≤sizeLine; decide),(.cons ⟨_,rfl⟩ (.cons ⟨_,rfl⟩ Paired.nil))⟩,
   p9:=fun H=>.inr ⟨_,_,_,D2,rfl,rfl,(by show 1≤sizeLine; decide),(.cons rfl Paired.nil)⟩,
   kX:=fun H=>.inr ⟨_,_,_,wq,rfl,rfl,(by show 2≤sizeLine; decide),(.cons ⟨_,rfl⟩ (.cons ⟨_,rfl⟩ Paired.nil))⟩,
   p_:=fun H=>.inr ⟨_,_,_,D3,rfl,rfl,(by show 1≤sizeLine; decide),(.cons rfl Paired.nil)⟩,
   kY:=fun H=>.inr ⟨_,_,_,wt,rfl,rfl,(by show 2≤sizeLine; decide),(.cons ⟨_,rfl⟩ (.cons ⟨_,rfl⟩ Paired.nil))⟩,
   qa:=fun H=>.inr ⟨_,_,_,D4,rfl,rfl,(by show 1≤sizeLine; decide),(.cons rfl Paired.nil)⟩,
   kZ:=fun H=>.inr ⟨_,_,_,wu,rfl,rfl,(by show 2≤sizeLine; decide),(.cons ⟨_,rfl⟩ (.cons ⟨_,rfl⟩ Paired.nil))⟩,
   qb:=fun H=>.inr ⟨_,_,_,D5,rfl,rfl,(by show 1≤sizeLine; decide),(.cons rfl Paired.nil)⟩,
   k8:=fun H=>.inr ⟨_,_,_,wx,rfl,rfl,(by show 2≤sizeLine; decide),(.cons ⟨_,rfl⟩ (.cons ⟨_,rfl⟩ Paired.nil))⟩,
   qc:=fun H=>.inr ⟨_,_,_,D6,rfl,rfl,(by show 2≤sizeLine; decide),(.cons rfl (.cons rfl Paired.nil))⟩,
   k_:=fun H=>.inr ⟨_,_,_,wy,rfl,rfl,(by show 2≤sizeLine; decide),(.cons ⟨_,rfl⟩ (.cons ⟨_,rfl⟩ Paired.nil))⟩,
   la:=fun H=>.inr ⟨_,_,_,wz,rfl,rfl,(by show 2≤sizeLine; decide),(.cons ⟨_,rfl⟩ (.cons ⟨_,rfl⟩ Paired.nil))⟩,
   jF:=PySem.W.mg_of X G sG,
   iG:=.mk qL qM (a_ (a_ rfl)),
   gc:=fun H=>.inr ⟨_,_,_,mj,rfl,rfl,(by show 2≤sizeLine; decide),(.cons ⟨_,rfl⟩ (.cons ⟨_,rfl⟩ Paired.nil))⟩,
   gg:=fun H=>.inr ⟨_,_,_,ml,rfl,rfl,(by show 2≤sizeLine; decide),(.cons ⟨_,rfl⟩ (.cons ⟨_,rfl⟩ Paired.nil))⟩,
   u_:=PySem.W.mg_of X G MG,
   zY:=.mk K7 K8 (a_ (a_ (a_ (a_ (a_ (a_ (a_ (a_ (a_ (a_ (a_ (a_ (a_ (a_ rfl)))))))))))))),
   fg:=PySem.W.mg_none_of X G fg,
   uy:=PySem.W.mg_none_of X G uy,
   E5:=PySem.W.mg_none_of X G E5,
   jS:=PySem.W.mg_none_of X G jS,
   iH:=PySem.W.mg_none_of X G iH,
   ng:=PySem.W.mg_none_of X G ng,
   aE:=PySem.W.mg_none_of X G aE,
   eF:=PySem.W.mg_none_of X G eF,
   fS:=PySem.W.mg_none_of X G fS,
   E6:=PySem.W.mg_none_of X G E6,
   lg:=PySem.W.mg_none_of X G lg,
   gh:=PySem.W.mg_none_of X G gh,
   gQ:=PySem.W.mg_none_of X G gQ,
   PD:=UN,
   PF:=UO}
 exact⟨_,fun s v=>.of_eq rfl,fun base _ _=>UD T⟩
theorem walk {l:PySem.W.OpenLaw}{q:Program}{loose:List Str}{XP:(Str→Option Value)→Heap→Prop}{YP:World→Heap→Prop}{d:DefRec}{K:Params→PySem.W.Frag}(hn:l.most=some 63) (N_:d.params.defaults=[])
  (hY:∀(w:World) (h:Heap),YP w h→(K w.params).In h)
  (F:∀(w:World) (mg:Str→Option Value) (fa:Addr) (h:Heap),(K w.params).In h→h.Ns mainGlobals mg→mg d.name=some (.ref fa) →
   ∃fd:FuncData,(∀(s:Shared) (u:Value),BindsTo s fd ⟨[u],[]⟩ [("_law_script",u)])∧∀base:Heap,(K w.params).In base→base.Ns mainGlobals mg→aY l.prog w (K w.params) mg base cX 10 fa fd ["_law_script"] (vq (K w.params))) :
  PySem.W.WalkO q loose XP YP l.row.toRowW d [] (fun f vs=>PySem.call f vs):=
 L2.LM (n:=63) (k:=10) (x:="_law_script") (CX:=fun _=>cX) (sp:=fun w=>vq (K w.params)) hn (by decide) N_ ⟨rfl,by decide,by decide⟩ hY F (fun _ _ a ns hl _ hS=>⟨a,ns,rfl,hS,hl,fun _=>rfl⟩) fun _ _ _ _ _ z=>z
end c7
namespace PySem.W.Fast
theorem tw1000553447322375839:True:=⟨⟩
theorem tw1001293314690357635:True:=⟨⟩
theorem tw10042112508729372691:True:=⟨⟩
theorem tw10055148942172646442:True:=⟨⟩
theorem tw10095924727215607219:True:=⟨⟩
theorem tw10176224827245230592:True:=⟨⟩
theorem tw10188062400311461952:True:=⟨⟩
theorem tw10194668803001366826:True:=⟨⟩
theorem tw10207293067890155348:True:=⟨⟩
theorem tw10210892132717232253:True:=⟨⟩
theorem tw10248919277608061396:True:=⟨⟩
theorem tw10252203537561147015:True:=⟨⟩
theorem tw10266399355486694200:True:=⟨⟩
theorem tw10298872360224295743:True:=⟨⟩
theorem tw10342928851629789978:True:=⟨⟩
theorem tw10363522838431096849:True:=⟨⟩
theorem tw10367677773918086745:True:=⟨⟩
theorem tw10450433711396631271:True:=⟨⟩
theorem tw10462424684925647276:True:=⟨⟩
theorem tw10475014666784721082:True:=⟨⟩
theorem tw10484080795344196857:True:=⟨⟩
theorem tw10500197770501918246:True:=⟨⟩
theorem tw10545325062676888244:True:=⟨⟩
theorem tw105640680625045084:True:=⟨⟩
theorem tw10591137079205916547:True:=⟨⟩
theorem tw10633796234683293909:True:=⟨⟩
theorem tw10662122807389530934:True:=⟨⟩
theorem tw10678386984767074296:True:=⟨⟩
theorem tw10715631393514299601:True:=⟨⟩
theorem tw10728897248960433362:True:=⟨⟩
theorem tw10768129842119338821:True:=⟨⟩
theorem tw10770471213950768695:True:=⟨⟩
theorem tw10843977784473166004:True:=⟨⟩
theorem tw10859963363347959986:True:=⟨⟩
theorem tw10898684859941387302:True:=⟨⟩
theorem tw10933781024064320648:True:=⟨⟩
theorem tw10937407524717731227:True:=⟨⟩
theorem tw10964616000669887491:True:=⟨⟩
theorem tw10990938123828888841:True:=⟨⟩
theorem tw11030996863694202574:True:=⟨⟩
theorem tw11128251295096059152:True:=⟨⟩
theorem tw11178752496432178202:True:=⟨⟩
theorem tw11240200578014388302:True:=⟨⟩
theorem tw1125110444058298056:True:=⟨⟩
theorem tw11289678004235424616:True:=⟨⟩
theorem tw11290665429707695516:True:=⟨⟩
theorem tw11315426116152912721:True:=⟨⟩
theorem tw11325604149154388894:True:=⟨⟩
theorem tw1132764860414504942:True:=⟨⟩
theorem tw11340462071883854866:True:=⟨⟩
theorem tw11359968746887300464:True:=⟨⟩
theorem tw11378407816316492003:True:=⟨⟩
theorem tw11402257636662111736:True:=⟨⟩
theorem tw11403510192031321180:True:=⟨⟩
theorem tw11445302571659628942:True:=⟨⟩
theorem tw1144697655878341209:True:=⟨⟩
theorem tw11479193439929422551:True:=⟨⟩
theorem tw11483036669825304241:True:=⟨⟩
theorem tw11495379323222996383:True:=⟨⟩
theorem tw11513796281835071603:True:=⟨⟩
theorem tw11548169478770241781:True:=⟨⟩
theorem tw11553190475025614029:True:=⟨⟩
theorem tw11595307239347846509:True:=⟨⟩
theorem tw11644143812072698142:True:=⟨⟩
theorem tw11668468776055056066:True:=⟨⟩
theorem tw11682129194382516847:True:=⟨⟩
theorem tw11708117905758777845:True:=⟨⟩
theorem tw11715738683998204740:True:=⟨⟩
theorem tw11732843459319962340:True:=⟨⟩
theorem tw11753436631304621676:True:=⟨⟩
theorem tw1175445704717669748:True:=⟨⟩
theorem tw11881751740220630537:True:=⟨⟩
theorem tw11912676676371519004:True:=⟨⟩
theorem tw11922176725721721106:True:=⟨⟩
theorem tw11931397373750909545:True:=⟨⟩
theorem tw11987177106578711743:True:=⟨⟩
theorem tw12037384700966089550:True:=⟨⟩
theorem tw12084953450820134694:True:=⟨⟩
theorem tw12086789453335486550:True:=⟨⟩
theorem tw12091281103116076717:True:=⟨⟩
theorem tw12155760658031032829:True:=⟨⟩
theorem tw12165418792261513180:True:=⟨⟩
theorem tw12173800010649278666:True:=⟨⟩
theorem tw12258383811394135744:True:=⟨⟩
theorem tw12258930667061909027:True:=⟨⟩
theorem tw12268571947857602304:True:=⟨⟩
theorem tw12283604177075041740:True:=⟨⟩
theorem tw12392126432153294596:True:=⟨⟩
theorem tw1248030161160604761:True:=⟨⟩
theorem tw12485285214227415668:True:=⟨⟩
theorem tw1248822300844096412:True:=⟨⟩
theorem tw12517175361941122810:True:=⟨⟩
theorem tw1254117686717852820:True:=⟨⟩
theorem tw1255961240485932407:True:=⟨⟩
theorem tw1256142325245592802:True:=⟨⟩
theorem tw12566137986126014688:True:=⟨⟩
theorem tw12566576523723718185:True:=⟨⟩
theorem tw1257299295347209547:True:=⟨⟩
theorem tw12649295059213192753:True:=⟨⟩
theorem tw12649313183192393795:True:=⟨⟩
theorem tw1267808379090187536:True:=⟨⟩
theorem tw12679854981999308726:True:=⟨⟩
theorem tw12682609904570189289:True:=⟨⟩
theorem tw12695649226297359012:True:=⟨⟩
theorem tw12713613577739261879:True:=⟨⟩
theorem tw12756070872262054249:True:=⟨⟩
theorem tw12848136017823465966:True:=⟨⟩
theorem tw12879292433443838851:True:=⟨⟩
theorem tw12880196015651414828:True:=⟨⟩
theorem tw1288820248311257216:True:=⟨⟩
theorem tw12913769108417500743:True:=⟨⟩
theorem tw1291742620633021703:True:=⟨⟩
theorem tw12965741729193928510:True:=⟨⟩
theorem tw1298563070983700018:True:=⟨⟩
theorem tw1302458153965891576:True:=⟨⟩
theorem tw13059340925328105542:True:=⟨⟩
theorem tw13083515444364848197:True:=⟨⟩
theorem tw13105853072741667502:True:=⟨⟩
theorem tw13116073051828395531:True:=⟨⟩
theorem tw13118423716069681524:True:=⟨⟩
theorem tw13207901637244595149:True:=⟨⟩
theorem tw13214724990412619251:True:=⟨⟩
theorem tw13216888589595550007:True:=⟨⟩
theorem tw13230944324141471753:True:=⟨⟩
theorem tw13233670687966088866:True:=⟨⟩
theorem tw13287049586114558403:True:=⟨⟩
theorem tw13302014495556518301:True:=⟨⟩
theorem tw13313013371136420137:True:=⟨⟩
theorem tw13327727394888642856:True:=⟨⟩
theorem tw13334385166530292182:True:=⟨⟩
theorem tw1335486907676105926:True:=⟨⟩
theorem tw13375636512380223987:True:=⟨⟩
theorem tw13396993906109914452:True:=⟨⟩
theorem tw13411014871023012136:True:=⟨⟩
theorem tw13412237709653424299:True:=⟨⟩
theorem tw13416888872046350418:True:=⟨⟩
theorem tw13439354810199501478:True:=⟨⟩
theorem tw13442585456175527791:True:=⟨⟩
theorem tw1349954213846043993:True:=⟨⟩
theorem tw13514764010350744237:True:=⟨⟩
theorem tw13516360721085832766:True:=⟨⟩
theorem tw13518286568589986256:True:=⟨⟩
theorem tw13535413379015557070:True:=⟨⟩
theorem tw13539763072606421668:True:=⟨⟩
theorem tw13621155828133816577:True:=⟨⟩
theorem tw1366559920955980409:True:=⟨⟩
theorem tw13668842536167823092:True:=⟨⟩
theorem tw13674256419445340750:True:=⟨⟩
theorem tw13694999030566752092:True:=⟨⟩
theorem tw13736705572993258202:True:=⟨⟩
theorem tw13755686798119113231:True:=⟨⟩
theorem tw13772417146576667123:True:=⟨⟩
theorem tw13775789282685615882:True:=⟨⟩
theorem tw1381455686928245823:True:=⟨⟩
theorem tw13818728737208615396:True:=⟨⟩
theorem tw13820681871076502780:True:=⟨⟩
theorem tw13838215180018754492:True:=⟨⟩
theorem tw13839061136075075693:True:=⟨⟩
theorem tw13873731122624950558:True:=⟨⟩
theorem tw13884352156805424961:True:=⟨⟩
theorem tw13895735145714950440:True:=⟨⟩
theorem tw13901876843289914631:True:=⟨⟩
theorem tw13910810784517008766:True:=⟨⟩
theorem tw13915404262832244326:True:=⟨⟩
theorem tw13956586649248857084:True:=⟨⟩
theorem tw13971247389999597690:True:=⟨⟩
theorem tw13979607894844338152:True:=⟨⟩
theorem tw14015353355123459825:True:=⟨⟩
theorem tw14047863947757963286:True:=⟨⟩
theorem tw1410191633422824376:True:=⟨⟩
theorem tw14104702109709694399:True:=⟨⟩
theorem tw14131592540306512402:True:=⟨⟩
theorem tw1413996951738037714:True:=⟨⟩
theorem tw14141557913266925687:True:=⟨⟩
theorem tw14150674804876919745:True:=⟨⟩
theorem tw14152761623938058291:True:=⟨⟩
theorem tw14169418681863109552:True:=⟨⟩
theorem tw14194212067241170456:True:=⟨⟩
theorem tw14217671833778671326:True:=⟨⟩
theorem tw1422808865623873966:True:=⟨⟩
theorem tw14247283407159158647:True:=⟨⟩
theorem tw14255407610828394947:True:=⟨⟩
theorem tw14257872510591288570:True:=⟨⟩
theorem tw14262902349925391104:True:=⟨⟩
theorem tw14274715732748516120:True:=⟨⟩
theorem tw1441332802404573763:True:=⟨⟩
theorem tw14470595687619124494:True:=⟨⟩
theorem tw14481233503721810625:True:=⟨⟩
theorem tw14495538128413916984:True:=⟨⟩
theorem tw14496103810280476285:True:=⟨⟩
theorem tw14547451603975454056:True:=⟨⟩
theorem tw14599438386279427184:True:=⟨⟩
theorem tw14611916336197233154:True:=⟨⟩
theorem tw14623522486635886065:True:=⟨⟩
theorem tw1464706304785661364:True:=⟨⟩
theorem tw14649427706842482278:True:=⟨⟩
theorem tw14655497074393550237:True:=⟨⟩
theorem tw14663455845157987117:True:=⟨⟩
theorem tw14713398590842825279:True:=⟨⟩
theorem tw14717508049993479201:True:=⟨⟩
theorem tw14748677945984377873:True:=⟨⟩
theorem tw14751370747657916667:True:=⟨⟩
theorem tw14774621069833415484:True:=⟨⟩
theorem tw14785752134669636169:True:=⟨⟩
theorem tw14790394783176813254:True:=⟨⟩
theorem tw14790652353156612282:True:=⟨⟩
theorem tw14807410835843189200:True:=⟨⟩
theorem tw14837957632065093601:True:=⟨⟩
theorem tw14877735694792238888:True:=⟨⟩
theorem tw14921543009487763567:True:=⟨⟩
theorem tw1495503518393657374:True:=⟨⟩
theorem tw14958891107636507611:True:=⟨⟩
theorem tw14966406307338774527:True:=⟨⟩
theorem tw14971778113302439374:True:=⟨⟩
theorem tw15019996809628373528:True:=⟨⟩
theorem tw15060947645732285188:True:=⟨⟩
theorem tw15079431109467895461:True:=⟨⟩
theorem tw15121371376597818400:True:=⟨⟩
theorem tw15156205027268223913:True:=⟨⟩
theorem tw15160784809948668449:True:=⟨⟩
theorem tw1518277916107414085:True:=⟨⟩
theorem tw15208448906828151892:True:=⟨⟩
theorem tw15246583334741013626:True:=⟨⟩
theorem tw15275395610493032685:True:=⟨⟩
theorem tw1529350530468379795:True:=⟨⟩
theorem tw15365278797242055519:True:=⟨⟩
theorem tw15378357820900679264:True:=⟨⟩
theorem tw15438327350852992398:True:=⟨⟩
theorem tw15452006509188853948:True:=⟨⟩
theorem tw15509778787681176115:True:=⟨⟩
theorem tw15511340364971331597:True:=⟨⟩
theorem tw15512422775165748585:True:=⟨⟩
theorem tw15514010926962717867:True:=⟨⟩
theorem tw15523262784613247176:True:=⟨⟩
theorem tw15546774933681634408:True:=⟨⟩
theorem tw15556705314271681915:True:=⟨⟩
theorem tw15576743535659758462:True:=⟨⟩
theorem tw15578407245675783634:True:=⟨⟩
theorem tw15584983330117687333:True:=⟨⟩
theorem tw15594313072486648058:True:=⟨⟩
theorem tw15614477105586802153:True:=⟨⟩
theorem tw1564371259053784928:True:=⟨⟩
theorem tw15660478555444998210:True:=⟨⟩
theorem tw156661485734929988:True:=⟨⟩
theorem tw15680486909123661120:True:=⟨⟩
theorem tw15760457199145942626:True:=⟨⟩
theorem tw15773085377401924863:True:=⟨⟩
theorem tw15797840566834448922:True:=⟨⟩
theorem tw15805851172192815857:True:=⟨⟩
theorem tw15808574029423473483:True:=⟨⟩
theorem tw15852516402821972881:True:=⟨⟩
theorem tw15867808676994523283:True:=⟨⟩
theorem tw15909458014774839867:True:=⟨⟩
theorem tw15930487684804981050:True:=⟨⟩
theorem tw15960790151538959155:True:=⟨⟩
theorem tw15997093145390928460:True:=⟨⟩
theorem tw15999764265348947805:True:=⟨⟩
theorem tw16004878931505251432:True:=⟨⟩
theorem tw16028420138688539954:True:=⟨⟩
theorem tw16083299893917432622:True:=⟨⟩
theorem tw16148736698282331961:True:=⟨⟩
theorem tw162393529358536727:True:=⟨⟩
theorem tw16239378279546317440:True:=⟨⟩
theorem tw16297986410185399971:True:=⟨⟩
theorem tw16315644061423463217:True:=⟨⟩
theorem tw16321837251557919659:True:=⟨⟩
theorem tw16364483504069477864:True:=⟨⟩
theorem tw16367513203208420066:True:=⟨⟩
theorem tw16374733942556525007:True:=⟨⟩
theorem tw16386910650170916922:True:=⟨⟩
theorem tw164275185537852679:True:=⟨⟩
theorem tw16439577568771948495:True:=⟨⟩
theorem tw16442344191811262265:True:=⟨⟩
theorem tw16443738302819027447:True:=⟨⟩
theorem tw1644977231941466757:True:=⟨⟩
theorem tw1645993182584057110:True:=⟨⟩
theorem tw1648194023219836759:True:=⟨⟩
theorem tw16537558095263443931:True:=⟨⟩
theorem tw16583419334797133202:True:=⟨⟩
theorem tw16606735790007326093:True:=⟨⟩
theorem tw16611730967078118415:True:=⟨⟩
theorem tw16623899866717660578:True:=⟨⟩
theorem tw16625316498897258893:True:=⟨⟩
theorem tw16643986173428378045:True:=⟨⟩
theorem tw16645696775507482855:True:=⟨⟩
theorem tw16662705041060364292:True:=⟨⟩
theorem tw16675016547118599463:True:=⟨⟩
theorem tw16685920507297486226:True:=⟨⟩
theorem tw1670187984987782323:True:=⟨⟩
theorem tw16732868857859620379:True:=⟨⟩
theorem tw1676421639591666407:True:=⟨⟩
theorem tw16780159307910039463:True:=⟨⟩
theorem tw16788440050071535861:True:=⟨⟩
theorem tw16802036916750678783:True:=⟨⟩
theorem tw16815388896487173294:True:=⟨⟩
theorem tw16861883918045520832:True:=⟨⟩
theorem tw16875683247463134494:True:=⟨⟩
theorem tw16882899693893501583:True:=⟨⟩
theorem tw16925838296544760997:True:=⟨⟩
theorem tw16968877810656674894:True:=⟨⟩
theorem tw16969014993085042857:True:=⟨⟩
theorem tw16982608755921529036:True:=⟨⟩
theorem tw17026448415490643091:True:=⟨⟩
theorem tw17054250394442274898:True:=⟨⟩
theorem tw17071522919198715958:True:=⟨⟩
theorem tw1707174339072742222:True:=⟨⟩
theorem tw17084932375221968718:True:=⟨⟩
theorem tw17088681252975630574:True:=⟨⟩
theorem tw17096267371935604635:True:=⟨⟩
theorem tw17102332235684280304:True:=⟨⟩
theorem tw17110902796356101309:True:=⟨⟩
theorem tw17123710098463867191:True:=⟨⟩
theorem tw17126843594218206677:True:=⟨⟩
theorem tw17136094819716516560:True:=⟨⟩
theorem tw17169516271633177409:True:=⟨⟩
theorem tw17247756314100611111:True:=⟨⟩
theorem tw17275885800962007854:True:=⟨⟩
theorem tw17299667679036537726:True:=⟨⟩
theorem tw17300465535152315200:True:=⟨⟩
theorem tw1732658085745598805:True:=⟨⟩
theorem tw17340818748855988468:True:=⟨⟩
theorem tw17342622252308502453:True:=⟨⟩
theorem tw17344445913877155343:True:=⟨⟩
theorem tw17357798731454368021:True:=⟨⟩
theorem tw17366273659536166623:True:=⟨⟩
theorem tw17371284285051538730:True:=⟨⟩
theorem tw17376243833860515779:True:=⟨⟩
theorem tw17414023704114875859:True:=⟨⟩
theorem tw17496915094180762321:True:=⟨⟩
theorem tw17509363672268729643:True:=⟨⟩
theorem tw17535295945893224602:True:=⟨⟩
theorem tw17545100337572566846:True:=⟨⟩
theorem tw17586600704751657016:True:=⟨⟩
theorem tw17643870330912532067:True:=⟨⟩
theorem tw17821876865399674076:True:=⟨⟩
theorem tw17843190640475353768:True:=⟨⟩
theorem tw17854594861727200737:True:=⟨⟩
theorem tw1787938632603548077:True:=⟨⟩
theorem tw17922176241292832252:True:=⟨⟩
theorem tw17943750686180259975:True:=⟨⟩
theorem tw17948848044611016211:True:=⟨⟩
theorem tw17956855308482656044:True:=⟨⟩
theorem tw17971075587365616656:True:=⟨⟩
theorem tw17974095841360921921:True:=⟨⟩
theorem tw17992170464836031083:True:=⟨⟩
theorem tw18033276744230814184:True:=⟨⟩
theorem tw18050615136971465018:True:=⟨⟩
theorem tw18116905043698781531:True:=⟨⟩
theorem tw18208434487778176593:True:=⟨⟩
theorem tw1822829425880814292:True:=⟨⟩
theorem tw18230757008145008014:True:=⟨⟩
theorem tw18240276266624320691:True:=⟨⟩
theorem tw1824534145056480043:True:=⟨⟩
theorem tw18271044338790417635:True:=⟨⟩
theorem tw18272044284042339956:True:=⟨⟩
theorem tw18292121489690698675:True:=⟨⟩
theorem tw18329433900665645024:True:=⟨⟩
theorem tw18366405382459526463:True:=⟨⟩
theorem tw18375559125625766378:True:=⟨⟩
theorem tw18386360207410562433:True:=⟨⟩
theorem tw18388292671078243496:True:=⟨⟩
theorem tw18389482874073008061:True:=⟨⟩
theorem tw18403718854621701610:True:=⟨⟩
theorem tw18404925519608701147:True:=⟨⟩
theorem tw18417558249334248943:True:=⟨⟩
theorem tw1843864236906717828:True:=⟨⟩
theorem tw184474223467760387:True:=⟨⟩
theorem tw1853532808578603568:True:=⟨⟩
theorem tw1938054516312723884:True:=⟨⟩
theorem tw1948967046758995670:True:=⟨⟩
theorem tw1996190439499875694:True:=⟨⟩
theorem tw2016614569299302430:True:=⟨⟩
theorem tw203276133197588307:True:=⟨⟩
theorem tw2044888073790682881:True:=⟨⟩
theorem tw2074170930288251871:True:=⟨⟩
theorem tw2102012386433479594:True:=⟨⟩
theorem tw2113904364628541525:True:=⟨⟩
theorem tw2131284875339099856:True:=⟨⟩
theorem tw215263832270861521:True:=⟨⟩
theorem tw2164044213648009869:True:=⟨⟩
theorem tw2193443615440136012:True:=⟨⟩
theorem tw2210765845978094469:True:=⟨⟩
theorem tw2222362523290910429:True:=⟨⟩
theorem tw2236297091099324031:True:=⟨⟩
theorem tw2288967340204876399:True:=⟨⟩
theorem tw2296996576923874496:True:=⟨⟩
theorem tw2303742621112867032:True:=⟨⟩
theorem tw2310801833589463994:True:=⟨⟩
theorem tw2369544282630244254:True:=⟨⟩
theorem tw2387060174180903814:True:=⟨⟩
theorem tw240082140499685569:True:=⟨⟩
theorem tw2427702819928918714:True:=⟨⟩
theorem tw2453996353015031909:True:=⟨⟩
theorem tw2455514940040178603:True:=⟨⟩
theorem tw2507497993516574170:True:=⟨⟩
theorem tw2556484915918997210:True:=⟨⟩
theorem tw2559856327266293752:True:=⟨⟩
theorem tw2590527867122583151:True:=⟨⟩
theorem tw2599603151662590166:True:=⟨⟩
theorem tw2622578568455690209:True:=⟨⟩
theorem tw2643525898942987964:True:=⟨⟩
theorem tw2649373226714356529:True:=⟨⟩
theorem tw2683183626249350458:True:=⟨⟩
theorem tw2684049229949468405:True:=⟨⟩
theorem tw2688998720374294999:True:=⟨⟩
theorem tw2697195467130972321:True:=⟨⟩
theorem tw2727901308123020547:True:=⟨⟩
theorem tw2778819936756300079:True:=⟨⟩
theorem tw2797897065661923910:True:=⟨⟩
theorem tw2808694816369418960:True:=⟨⟩
theorem tw2928278456449140956:True:=⟨⟩
theorem tw2928844261657496450:True:=⟨⟩
theorem tw3007587282974302761:True:=⟨⟩
theorem tw3030702955104209305:True:=⟨⟩
theorem tw3062960404814057011:True:=⟨⟩
theorem tw3082455921078593110:True:=⟨⟩
theorem tw3095301773036853013:True:=⟨⟩
theorem tw3096227624198530256:True:=⟨⟩
theorem tw3132503854612534659:True:=⟨⟩
theorem tw3188186362739869044:True:=⟨⟩
theorem tw3191919976072772558:True:=⟨⟩
theorem tw3219790671770681398:True:=⟨⟩
theorem tw3227438464249074883:True:=⟨⟩
theorem tw3238709499885631502:True:=⟨⟩
theorem tw3247738198810084060:True:=⟨⟩
theorem tw3274099261043430195:True:=⟨⟩
theorem tw3331264815968841875:True:=⟨⟩
theorem tw334889105500259640:True:=⟨⟩
theorem tw3374229167747713646:True:=⟨⟩
theorem tw3395402366533233879:True:=⟨⟩
theorem tw34101550380142377:True:=⟨⟩
theorem tw3411713787763259459:True:=⟨⟩
theorem tw3422023851485900462:True:=⟨⟩
theorem tw3422714085351702663:True:=⟨⟩
theorem tw3429403023250553241:True:=⟨⟩
theorem tw3452978805712373420:True:=⟨⟩
theorem tw3457135218701124829:True:=⟨⟩
theorem tw3457910797839940300:True:=⟨⟩
theorem tw3468132509896807205:True:=⟨⟩
theorem tw3534807227541296341:True:=⟨⟩
theorem tw3594448749169270238:True:=⟨⟩
theorem tw3614056556789124053:True:=⟨⟩
theorem tw3620767600264539393:True:=⟨⟩
theorem tw3626978718131975430:True:=⟨⟩
theorem tw3642489861712711550:True:=⟨⟩
theorem tw3649969795372069969:True:=⟨⟩
theorem tw3687726593747754817:True:=⟨⟩
theorem tw3702084066665715811:True:=⟨⟩
theorem tw3774300973697848342:True:=⟨⟩
theorem tw3824929864503138111:True:=⟨⟩
theorem tw3825640766653561140:True:=⟨⟩
theorem tw3851150167570048083:True:=⟨⟩
theorem tw3889900942725578527:True:=⟨⟩
theorem tw3892706833003290575:True:=⟨⟩
theorem tw3911149742483727139:True:=⟨⟩
theorem tw3939141791158183289:True:=⟨⟩
theorem tw3959940547820705891:True:=⟨⟩
theorem tw3985329261548744132:True:=⟨⟩
theorem tw4015965397981064910:True:=⟨⟩
theorem tw4027082326991484028:True:=⟨⟩
theorem tw4043111511418151475:True:=⟨⟩
theorem tw4066177047860021296:True:=⟨⟩
theorem tw407284693423037378:True:=⟨⟩
theorem tw4073757090107776982:True:=⟨⟩
theorem tw4074636909488551417:True:=⟨⟩
theorem tw4081065793969406160:True:=⟨⟩
theorem tw417316001803507911:True:=⟨⟩
theorem tw4202985769434761110:True:=⟨⟩
theorem tw4234600242961695843:True:=⟨⟩
theorem tw4278020985427956042:True:=⟨⟩
theorem tw4282311000226003879:True:=⟨⟩
theorem tw4305176671660672031:True:=⟨⟩
theorem tw4323767675381695087:True:=⟨⟩
theorem tw4325612620875028672:True:=⟨⟩
theorem tw4336244294093246089:True:=⟨⟩
theorem tw4374637089285571469:True:=⟨⟩
theorem tw4376819138613954987:True:=⟨⟩
theorem tw4389809575839269757:True:=⟨⟩
theorem tw4390283496526111557:True:=⟨⟩
theorem tw4403238403693058768:True:=⟨⟩
theorem tw4434330036681826596:True:=⟨⟩
theorem tw4449390593734043527:True:=⟨⟩
theorem tw4462287421656871025:True:=⟨⟩
theorem tw4510822614784633342:True:=⟨⟩
theorem tw4514901263133583384:True:=⟨⟩
theorem tw4527826908526595983:True:=⟨⟩
theorem tw4572698552895302264:True:=⟨⟩
theorem tw4639583691581962871:True:=⟨⟩
theorem tw4639946863511486657:True:=⟨⟩
theorem tw465680204909624640:True:=⟨⟩
theorem tw4685107463145801264:True:=⟨⟩
theorem tw4686563012959997738:True:=⟨⟩
theorem tw4688637748452540573:True:=⟨⟩
theorem tw4699518690999099174:True:=⟨⟩
theorem tw4726116497029906458:True:=⟨⟩
theorem tw475331894051449353:True:=⟨⟩
theorem tw4776323069747065917:True:=⟨⟩
theorem tw4777381206149962289:True:=⟨⟩
theorem tw4796005183401302911:True:=⟨⟩
theorem tw487309539690854174:True:=⟨⟩
theorem tw4963285156706391637:True:=⟨⟩
theorem tw4976461424793692878:True:=⟨⟩
theorem tw5018626660966512886:True:=⟨⟩
theorem tw5044467376384068325:True:=⟨⟩
theorem tw5106451317479235951:True:=⟨⟩
theorem tw5132404848714164451:True:=⟨⟩
theorem tw5135876025282091989:True:=⟨⟩
theorem tw5146401438397008757:True:=⟨⟩
theorem tw5147077495989636794:True:=⟨⟩
theorem tw5167913904297254584:True:=⟨⟩
theorem tw5185002103443827659:True:=⟨⟩
theorem tw5217342621202190305:True:=⟨⟩
theorem tw5233767345425548340:True:=⟨⟩
theorem tw5236600276328922170:True:=⟨⟩
theorem tw5242689217615996752:True:=⟨⟩
theorem tw5251294302531811115:True:=⟨⟩
theorem tw5260315262512606894:True:=⟨⟩
theorem tw5272652653992885793:True:=⟨⟩
theorem tw52993590788860803:True:=⟨⟩
theorem tw5323083846174044503:True:=⟨⟩
theorem tw5349105394349405026:True:=⟨⟩
theorem tw5423353809940168022:True:=⟨⟩
theorem tw5427131525500086198:True:=⟨⟩
theorem tw5442725699990847166:True:=⟨⟩
theorem tw54482533947101098:True:=⟨⟩
theorem tw5452857503972003581:True:=⟨⟩
theorem tw5454909424316032228:True:=⟨⟩
theorem tw5474736523950495054:True:=⟨⟩
theorem tw5505166311845595960:True:=⟨⟩
theorem tw5520900903137670585:True:=⟨⟩
theorem tw5522780069656359266:True:=⟨⟩
theorem tw5529215664924581286:True:=⟨⟩
theorem tw5537840718613579313:True:=⟨⟩
theorem tw5550791987895551867:True:=⟨⟩
theorem tw5598705682355869701:True:=⟨⟩
theorem tw5687759268718990313:True:=⟨⟩
theorem tw5697521784973018273:True:=⟨⟩
theorem tw5705640125616571721:True:=⟨⟩
theorem tw5710223318930461021:True:=⟨⟩
theorem tw5712879016009260789:True:=⟨⟩
theorem tw5737297823599375999:True:=⟨⟩
theorem tw5746508692105878477:True:=⟨⟩
theorem tw5751193529585597737:True:=⟨⟩
theorem tw5755411482680850350:True:=⟨⟩
theorem tw5770377164158200169:True:=⟨⟩
theorem tw5781619590682018490:True:=⟨⟩
theorem tw5789613080835813458:True:=⟨⟩
theorem tw5798857344989137905:True:=⟨⟩
theorem tw5839772326382757743:True:=⟨⟩
theorem tw5866470075481775751:True:=⟨⟩
theorem tw5892810078827247645:True:=⟨⟩
theorem tw5921429896062607601:True:=⟨⟩
theorem tw5981043038972822449:True:=⟨⟩
theorem tw5997363642898579933:True:=⟨⟩
theorem tw6003660498078752146:True:=⟨⟩
theorem tw610203303166715068:True:=⟨⟩
theorem tw6112294608825174434:True:=⟨⟩
theorem tw6115877245410186544:True:=⟨⟩
theorem tw6119263801190754192:True:=⟨⟩
theorem tw6125358559380810520:True:=⟨⟩
theorem tw6142540610700601001:True:=⟨⟩
theorem tw6149199046804843392:True:=⟨⟩
theorem tw6174185971472559739:True:=⟨⟩
theorem tw619082775358513697:True:=⟨⟩
theorem tw6218690415403537718:True:=⟨⟩
theorem tw6231171029766004033:True:=⟨⟩
theorem tw6296551941501087880:True:=⟨⟩
theorem tw6314750353535448835:True:=⟨⟩
theorem tw6333216329500373957:True:=⟨⟩
theorem tw6375209912067458916:True:=⟨⟩
theorem tw6394478467283546146:True:=⟨⟩
theorem tw6449328005288327734:True:=⟨⟩
theorem tw6467233282763709231:True:=⟨⟩
theorem tw6478318141486647656:True:=⟨⟩
theorem tw6520117607396454541:True:=⟨⟩
theorem tw6531260542980225296:True:=⟨⟩
theorem tw6539286523806586854:True:=⟨⟩
theorem tw6574589284237277121:True:=⟨⟩
theorem tw6605429739878904227:True:=⟨⟩
theorem tw6621309755784738313:True:=⟨⟩
theorem tw6639859789556916511:True:=⟨⟩
theorem tw6653661161513946915:True:=⟨⟩
theorem tw6664799352809017406:True:=⟨⟩
theorem tw6665240795543555863:True:=⟨⟩
theorem tw6692271063071129139:True:=⟨⟩
theorem tw6695712153729628274:True:=⟨⟩
theorem tw6703603462828168554:True:=⟨⟩
theorem tw6706864520089056814:True:=⟨⟩
theorem tw6711166084347848796:True:=⟨⟩
theorem tw6717623192068789489:True:=⟨⟩
theorem tw6731399379679570094:True:=⟨⟩
theorem tw6757461509215482294:True:=⟨⟩
theorem tw6767778885983639970:True:=⟨⟩
theorem tw6807585923901652134:True:=⟨⟩
theorem tw6821762989684582955:True:=⟨⟩
theorem tw6850084725945557600:True:=⟨⟩
theorem tw6860589795626783719:True:=⟨⟩
theorem tw6878498366838603723:True:=⟨⟩
theorem tw692328510524271483:True:=⟨⟩
theorem tw6939794446323293030:True:=⟨⟩
theorem tw7003750797327217948:True:=⟨⟩
theorem tw7021393621874295204:True:=⟨⟩
theorem tw7047585413245426389:True:=⟨⟩
theorem tw7071268620538694115:True:=⟨⟩
theorem tw7106349338034512552:True:=⟨⟩
theorem tw7119471349077421548:True:=⟨⟩
theorem tw713454794498503254:True:=⟨⟩
theorem tw7152894431756448220:True:=⟨⟩
theorem tw7199557439769772938:True:=⟨⟩
theorem tw720134701571117057:True:=⟨⟩
theorem tw7207438097466413999:True:=⟨⟩
theorem tw7224892181076518467:True:=⟨⟩
theorem tw7230176914046957629:True:=⟨⟩
theorem tw7231253318137369478:True:=⟨⟩
theorem tw7246618920102129753:True:=⟨⟩
theorem tw7247612645344648367:True:=⟨⟩
theorem tw7277871350589095433:True:=⟨⟩
theorem tw7295608255081286699:True:=⟨⟩
theorem tw733217605840648176:True:=⟨⟩
theorem tw7451421791473439817:True:=⟨⟩
theorem tw7459281407530407076:True:=⟨⟩
theorem tw7499384225231866771:True:=⟨⟩
theorem tw7503217933579028424:True:=⟨⟩
theorem tw7520752055836140645:True:=⟨⟩
theorem tw7547209409743545184:True:=⟨⟩
theorem tw7609204048033347577:True:=⟨⟩
theorem tw762217011081555933:True:=⟨⟩
theorem tw7639660907761538997:True:=⟨⟩
theorem tw7684185296552863086:True:=⟨⟩
theorem tw7714332416948290628:True:=⟨⟩
theorem tw773222466474002142:True:=⟨⟩
theorem tw7771609943746391128:True:=⟨⟩
theorem tw7836369799195800190:True:=⟨⟩
theorem tw784663540879873602:True:=⟨⟩
theorem tw7856934510028585356:True:=⟨⟩
theorem tw7878422949231188447:True:=⟨⟩
theorem tw7894597177058102071:True:=⟨⟩
theorem tw7908572331098062931:True:=⟨⟩
theorem tw7911477695897246965:True:=⟨⟩
theorem tw7926454658182486556:True:=⟨⟩
theorem tw7959484844776492003:True:=⟨⟩
theorem tw7992471724718341893:True:=⟨⟩
theorem tw8023699749073170866:True:=⟨⟩
theorem tw8135268875133302365:True:=⟨⟩
theorem tw813846881526434425:True:=⟨⟩
theorem tw8169478912317648178:True:=⟨⟩
theorem tw8196493797522766386:True:=⟨⟩
theorem tw8227206176736391442:True:=⟨⟩
theorem tw8233545099250210946:True:=⟨⟩
theorem tw8290618426468453004:True:=⟨⟩
theorem tw8295447164024892177:True:=⟨⟩
theorem tw830093283398712782:True:=⟨⟩
theorem tw8302408676276698544:True:=⟨⟩
theorem tw8304535373161327029:True:=⟨⟩
theorem tw8322277423774192874:True:=⟨⟩
theorem tw8381221327251350331:True:=⟨⟩
theorem tw8382606521985879628:True:=⟨⟩
theorem tw8467390377205816309:True:=⟨⟩
theorem tw8471473006218868356:True:=⟨⟩
theorem tw8605171779310316229:True:=⟨⟩
theorem tw8614576864608386743:True:=⟨⟩
theorem tw8682853883482987506:True:=⟨⟩
theorem tw8688418420800642495:True:=⟨⟩
theorem tw8710621258144581207:True:=⟨⟩
theorem tw8743602103607137730:True:=⟨⟩
theorem tw8776608683009278032:True:=⟨⟩
theorem tw8793540566069688440:True:=⟨⟩
theorem tw8829229965856458503:True:=⟨⟩
theorem tw8873685099045262801:True:=⟨⟩
theorem tw8879487932485216231:True:=⟨⟩
theorem tw8900831804882397862:True:=⟨⟩
theorem tw89234399328121528:True:=⟨⟩
theorem tw892699153719402954:True:=⟨⟩
theorem tw8927386550056858374:True:=⟨⟩
theorem tw8951259132045847748:True:=⟨⟩
theorem tw8975277062023456495:True:=⟨⟩
theorem tw8995133265608707457:True:=⟨⟩
theorem tw9018244537318879005:True:=⟨⟩
theorem tw903278670076994180:True:=⟨⟩
theorem tw9078514544768255383:True:=⟨⟩
theorem tw9079705848459632700:True:=⟨⟩
theorem tw908996481997367499:True:=⟨⟩
theorem tw912040581040796873:True:=⟨⟩
theorem tw9125611647568223036:True:=⟨⟩
theorem tw9126117886080081580:True:=⟨⟩
theorem tw9153575864769666470:True:=⟨⟩
theorem tw918856860491105597:True:=⟨⟩
theorem tw9243945270737156549:True:=⟨⟩
theorem tw9272827144617016824:True:=⟨⟩
theorem tw9280487470167088472:True:=⟨⟩
theorem tw928065119465886565:True:=⟨⟩
theorem tw9322517390222041458:True:=⟨⟩
theorem tw9329661622398964272:True:=⟨⟩
theorem tw933945956364385833:True:=⟨⟩
theorem tw9344020718584023430:True:=⟨⟩
theorem tw938965048192266016:True:=⟨⟩
theorem tw9442136955499688047:True:=⟨⟩
theorem tw9457103887961637734:True:=⟨⟩
theorem tw9462753117925383401:True:=⟨⟩
theorem tw9468179529160665447:True:=⟨⟩
theorem tw9468998759384681048:True:=⟨⟩
theorem tw9539637171494501956:True:=⟨⟩
theorem tw9540211099265934598:True:=⟨⟩
theorem tw9545564722994208381:True:=⟨⟩
theorem tw9563518947821634234:True:=⟨⟩
theorem tw9603261565229704738:True:=⟨⟩
theorem tw9612593107216798897:True:=⟨⟩
theorem tw963797967963103631:True:=⟨⟩
theorem tw964653089738224375:True:=⟨⟩
theorem tw9673047635737684368:True:=⟨⟩
theorem tw9698857294776921161:True:=⟨⟩
theorem tw9756751857679269060:True:=⟨⟩
theorem tw9764089498348609024:True:=⟨⟩
theorem tw9785443024981226316:True:=⟨⟩
theorem tw9803872098157960411:True:=⟨⟩
theorem tw9837029247769903333:True:=⟨⟩
theorem tw9839491965004882331:True:=⟨⟩
theorem tw9843259338806165064:True:=⟨⟩
theorem tw9847007444636834798:True:=⟨⟩
theorem tw9896519970947486167:True:=⟨⟩
theorem tw9918923577397655890:True:=⟨⟩
theorem tw992124014853450043:True:=⟨⟩
theorem tw9958261445034669900:True:=⟨⟩
end PySem.W.Fast
namespace c7
end c7
open PySem PySem.W PyProof.Rows
set_option maxRecDepth 100000 in
set_option maxHeartbeats 0 in
theorem PySem.Challenge.cw_heapsafe_k12_plain_deeds_holds : PySem.Challenge.rw_heapsafe_k12_plain_deeds.Holds := by
 w_on; o_law; k_head; (case hw=>w_witness2)
 k_fill
 refine c7.walk (l:=PySem.Challenge.rw_heapsafe_k12_plain_deeds) rfl rfl (fun w h Y=>PySem.W.kIn_of Y) ?F
 case F=>
  intro w mg fa h KX G VO
  refine' c7.all_mk KX G VO ?qQ ?Be ?Ee ?wA ?wB ?Bf ?Ef ?nR ?qR ?sL ?qS ?MH ?wC ?MI ?qT ?MJ ?lB ?MK ?mr ?ML ?nS ?MM ?jo ?MN ?iP ?MO ?fJ ?MP ?fK ?UP ?kf ?MQ ?GI ?MR ?Lc ?MS ?Ld ?MT ?Eg ?MU ?wF ?MV ?nT ?MW ?nU ?MX ?sM ?MY ?Eh ?MZ ?Ei ?M0 ?wG ?M3 ?Ej ?M4 ?Ek ?M5 ?Bg ?M6 ?Bh ?M7 ?Bi ?M8 ?Bj ?M9 ?Bk ?M_ ?Bl ?Na ?Bm ?UQ ?lC ?UR ?lD ?US ?h_ ?UT ?iQ ?UU ?ia ?UW ?gW ?UX ?gp ?UY ?iR ?UZ ?lE ?Nb ?kg ?Nc ?mv ?Nd ?gX ?Nf ?ib ?Ng ?fC ?Nh ?fE ?Ni ?jq ?Nj ?gq ?Nk ?gY ?Nl ?jr ?Nm ?gr ?Nn ?iS ?Np ?kh ?Nq ?nV ?Nr ?lF ?Nt ?nW ?Nu ?sN ?Nv ?sO ?Nw ?wH ?Nx ?sP ?Ny ?nX ?Nz ?wI ?NA ?nY ?NB ?qU ?NC ?wJ ?ND ?sQ ?NF ?sR ?NG ?wK ?NH ?ki ?NI ?kj ?NJ ?NK ?Lf ?NL ?El ?Em ?En ?Eo ?Ep ?Er ?lG ?mw ?nZ ?n0 ?n3 ?n4 ?n5 ?n6 ?gZ ?ic ?fF ?qV ?qW ?qX ?qY ?qZ ?q0 ?ie ?iT ?sS ?sT ?sU ?sV ?sW ?sX ?q5 ?q_ ?rf ?rg ?rh ?ri ?fG ?iU ?js ?Bo ?wL ?wM ?wN ?GJ ?Es ?Et ?wO ?rj ?wQ ?rl ?wR ?rm ?wU ?rn ?wW ?ro ?wX ?rp ?wY ?rq ?rA ?n8 ?mx ?my ?kl ?km ?GK ?Eu ?Ew ?gq0 ?ig ?ij ?iV ?jt ?kn ?g8 ?ik ?g9 ?gs ?fV ?il ?ko ?ZS ?ZT ?rB ?rC ?n9 ?n_ ?oa ?wZ ?sY ?sZ ?s_ ?tj ?w9 ?tm ?tq ?w_ ?tw ?tD ?tE ?tF ?xa ?tG ?tH ?Bp ?xf ?xg ?xh ?xi ?Bq ?xj ?xk ?mz ?mB ?mC ?ju ?jv ?jw ?iW ?iX ?jx ?jy ?kq ?iY ?iZ ?jz ?jA ?kr ?rD ?NM ?NN ?Lg ?Lh ?NO ?rE ?NP ?Li ?NQ ?GL ?NR ?GN ?Lj ?Lk
  (case qQ=>k_is)
  (case Be=>k_is)
  (case Ee=>k_is)
  (case wA=>k_is)
  (case wB=>k_is)
  (case Bf=>k_is)
  (case Ef=>k_is)
  (case nR=>k_is)
  (case qR=>k_is)
  (case sL=>k_is)
  (case qS=>k_is)
  (case MH=>k_is)
  (case wC=>exact c7.dE (by k_is) (by k_is) (by k_is))
  (case MI=>k_is)
  (case qT=>exact⟨by k_is,c7.dE (by k_is) (by k_is) (by k_is)⟩)
  (case MJ=>k_is)
  (case lB=>exact⟨by k_is,c7.dE (by k_is) (by k_is) (by k_is)⟩)
  (case MK=>k_is)
  (case mr=>exact⟨by k_is,c7.dE (by k_is) (by k_is) (by k_is)⟩)
  (case ML=>k_is)
  (case nS=>exact⟨by k_is,c7.dE (by k_is) (by k_is) (by k_is)⟩)
  (case MM=>k_is)
  (case jo=>exact⟨by k_is,c7.dE (by k_is) (by k_is) (by k_is)⟩)
  (case MN=>k_is)
  (case iP=>exact⟨by k_is,c7.dE (by k_is) (by k_is) (by k_is)⟩)
  (case MO=>k_is)
  (case fJ=>exact⟨by k_is,c7.dE (by k_is) (by k_is) (by k_is)⟩)
  (case MP=>k_is)
  (case fK=>exact⟨by k_is,c7.dE (by k_is) (by k_is) (by k_is)⟩)
  (case UP=>k_is)
  (case kf=>exact⟨by k_is,c7.dE (by k_is) (by k_is) (by k_is)⟩)
  (case MQ=>k_is)
  (case GI=>exact c7.dE (by k_is) (by k_is) (by k_is))
  (case MR=>k_is)
  (case Lc=>exact c7.dE (by k_is) (by k_is) (by k_is))
  (case MS=>k_is)
  (case Ld=>exact c7.dE (by k_is) (by k_is) (by k_is))
  (case MT=>k_is)
  (case Eg=>exact c7.dE (by k_is) (by k_is) (by k_is))
  (case MU=>k_is)
  (case wF=>exact c7.dE (by k_is) (by k_is) (by k_is))
  (case MV=>k_is)
  (case nT=>exact c7.dE (by k_is) (by k_is) (by k_is))
  (case MW=>k_is)
  (case nU=>exact c7.dE (by k_is) (by k_is) (by k_is))
  (case MX=>k_is)
  (case sM=>exact c7.dE (by k_is) (by k_is) (by k_is))
  (case MY=>k_is)
  (case Eh=>exact c7.dE (by k_is) (by k_is) (by k_is))
  (case MZ=>k_is)
  (case Ei=>exact c7.dE (by k_is) (by k_is) (by k_is))
  (case M0=>k_is)
  (case wG=>exact c7.dE (by k_is) (by k_is) (by k_is))
  (case M3=>k_is)
  (case Ej=>exact c7.dE (by k_is) (by k_is) (by k_is))
  (case M4=>k_is)
  (case Ek=>exact c7.dE (by k_is) (by k_is) (by k_is))
  (case M5=>k_is)
  (case Bg=>exact c7.dE (by k_is) (by k_is) (by k_is))
  (case M6=>k_is)
  (case Bh=>exact c7.dE (by k_is) (by k_is) (by k_is))
  (case M7=>k_is)
  (case Bi=>exact c7.dE (by k_is) (by k_is) (by k_is))
  (case M8=>k_is)
  (case Bj=>exact c7.dE (by k_is) (by k_is) (by k_is))
  (case M9=>k_is)
  (case Bk=>exact c7.dE (by k_is) (by k_is) (by k_is))
  (case M_=>k_is)
  (case Bl=>exact c7.dE (by k_is) (by k_is) (by k_is))
  (case Na=>k_is)
  (case Bm=>exact c7.dE (by k_is) (by k_is) (by k_is))
  (case UQ=>k_is)
  (case lC=>exact⟨by k_is,c7.dE (by k_is) (by k_is) (by k_is)⟩)
  (case UR=>k_is)
  (case lD=>exact⟨by k_is,c7.dE (by k_is) (by k_is) (by k_is)⟩)
  (case US=>k_is)
  (case h_=>exact⟨by k_is,c7.dE (by k_is) (by k_is) (by k_is)⟩)
  (case UT=>k_is)
  (case iQ=>exact⟨by k_is,c7.dE (by k_is) (by k_is) (by k_is)⟩)
  (case UU=>k_is)
  (case ia=>exact⟨by k_is,c7.dE (by k_is) (by k_is) (by k_is)⟩)
  (case UW=>k_is)
  (case gW=>exact⟨by k_is,c7.dE (by k_is) (by k_is) (by k_is)⟩)
  (case UX=>k_is)
  (case gp=>exact⟨by k_is,c7.dE (by k_is) (by k_is) (by k_is)⟩)
  (case UY=>k_is)
  (case iR=>exact⟨by k_is,c7.dE (by k_is) (by k_is) (by k_is)⟩)
  (case UZ=>k_is)
  (case lE=>exact⟨by k_is,c7.dE (by k_is) (by k_is) (by k_is)⟩)
  (case Nb=>k_is)
  (case kg=>exact⟨by k_is,c7.dE (by k_is) (by k_is) (by k_is)⟩)
  (case Nc=>k_is)
  (case mv=>exact⟨by k_is,c7.dE (by k_is) (by k_is) (by k_is)⟩)
  (case Nd=>k_is)
  (case gX=>exact⟨by k_is,c7.dE (by k_is) (by k_is) (by k_is)⟩)
  (case Nf=>k_is)
  (case ib=>exact⟨by k_is,c7.dE (by k_is) (by k_is) (by k_is)⟩)
  (case Ng=>k_is)
  (case fC=>exact⟨by k_is,c7.dE (by k_is) (by k_is) (by k_is)⟩)
  (case Nh=>k_is)
  (case fE=>exact⟨by k_is,c7.dE (by k_is) (by k_is) (by k_is)⟩)
  (case Ni=>k_is)
  (case jq=>exact⟨by k_is,c7.dE (by k_is) (by k_is) (by k_is)⟩)
  (case Nj=>k_is)
  (case gq=>exact⟨by k_is,c7.dE (by k_is) (by k_is) (by k_is)⟩)
  (case Nk=>k_is)
  (case gY=>exact⟨by k_is,c7.dE (by k_is) (by k_is) (by k_is)⟩)
  (case Nl=>k_is)
  (case jr=>exact⟨by k_is,c7.dE (by k_is) (by k_is) (by k_is)⟩)
  (case Nm=>k_is)
  (case gr=>exact⟨by k_is,c7.dE (by k_is) (by k_is) (by k_is)⟩)
  (case Nn=>k_is)
  (case iS=>exact⟨by k_is,c7.dE (by k_is) (by k_is) (by k_is)⟩)
  (case Np=>k_is)
  (case kh=>exact⟨by k_is,c7.dE (by k_is) (by k_is) (by k_is)⟩)
  (case Nq=>k_is)
  (case nV=>exact c7.dE (by k_is) (by k_is) (by k_is))
  (case Nr=>k_is)
  (case lF=>exact c7.dE (by k_is) (by k_is) (by k_is))
  (case Nt=>k_is)
  (case nW=>exact c7.dE (by k_is) (by k_is) (by k_is))
  (case Nu=>k_is)
  (case sN=>exact c7.dE (by k_is) (by k_is) (by k_is))
  (case Nv=>k_is)
  (case sO=>exact c7.dE (by k_is) (by k_is) (by k_is))
  (case Nw=>k_is)
  (case wH=>exact c7.dE (by k_is) (by k_is) (by k_is))
  (case Nx=>k_is)
  (case sP=>exact c7.dE (by k_is) (by k_is) (by k_is))
  (case Ny=>k_is)
  (case nX=>exact c7.dE (by k_is) (by k_is) (by k_is))
  (case Nz=>k_is)
  (case wI=>exact c7.dE (by k_is) (by k_is) (by k_is))
  (case NA=>k_is)
  (case nY=>exact c7.dE (by k_is) (by k_is) (by k_is))
  (case NB=>k_is)
  (case qU=>exact c7.dE (by k_is) (by k_is) (by k_is))
  (case NC=>k_is)
  (case wJ=>exact c7.dE (by k_is) (by k_is) (by k_is))
  (case ND=>k_is)
  (case sQ=>exact c7.dE (by k_is) (by k_is) (by k_is))
  (case NF=>k_is)
  (case sR=>exact c7.dE (by k_is) (by k_is) (by k_is))
  (case NG=>k_is)
  (case wK=>exact c7.dE (by k_is) (by k_is) (by k_is))
  (case NH=>k_is)
  (case ki=>exact c7.dE (by k_is) (by k_is) (by k_is))
  (case NI=>k_is)
  (case kj=>exact c7.dE (by k_is) (by k_is) (by k_is))
  (case NJ=>k_is)
  (case NK=>k_is)
  (case Lf=>k_is)
  (case NL=>k_is)
  (case El=>k_is)
  (case Em=>k_is)
  (case En=>k_is)
  (case Eo=>k_is)
  (case Ep=>k_is)
  (case Er=>k_is)
  (case lG=>k_is)
  (case mw=>k_is)
  (case nZ=>k_is)
  (case n0=>k_is)
  (case n3=>k_is)
  (case n4=>k_is)
  (case n5=>k_is)
  (case n6=>k_is)
  (case gZ=>k_is)
  (case ic=>k_is)
  (case fF=>k_is)
  (case qV=>k_is)
  (case qW=>k_is)
  (case qX=>k_is)
  (case qY=>k_is)
  (case qZ=>k_is)
  (case q0=>k_is)
  (case ie=>k_is)
  (case iT=>k_is)
  (case sS=>k_is)
  (case sT=>k_is)
  (case sU=>k_is)
  (case sV=>k_is)
  (case sW=>k_is)
  (case sX=>k_is)
  (case q5=>k_is)
  (case q_=>k_is)
  (case rf=>k_is)
  (case rg=>k_is)
  (case rh=>k_is)
  (case ri=>k_is)
  (case fG=>k_is)
  (case iU=>k_is)
  (case js=>k_is)
  (case Bo=>k_is)
  (case wL=>k_is)
  (case wM=>k_is)
  (case wN=>k_is)
  (case GJ=>k_is)
  (case Es=>decide)
  (case Et=>k_is)
  (case wO=>k_is)
  (case rj=>k_is)
  (case wQ=>k_is)
  (case rl=>k_is)
  (case wR=>k_is)
  (case rm=>k_is)
  (case wU=>k_is)
  (case rn=>k_is)
  (case wW=>k_is)
  (case ro=>k_is)
  (case wX=>k_is)
  (case rp=>k_is)
  (case wY=>k_is)
  (case rq=>k_is)
  (case rA=>k_is)
  (case n8=>k_is)
  (case mx=>decide)
  (case my=>k_is)
  (case kl=>k_is)
  (case km=>k_is)
  (case GK=>k_is)
  (case Eu=>decide)
  (case Ew=>k_is)
  (case gq0=>k_is)
  (case ig=>k_is)
  (case ij=>k_is)
  (case iV=>k_is)
  (case jt=>k_is)
  (case kn=>k_is)
  (case g8=>k_is)
  (case ik=>k_is)
  (case g9=>k_is)
  (case gs=>k_is)
  (case fV=>k_is)
  (case il=>k_is)
  (case ko=>k_is)
  (case ZS=>k_is)
  (case ZT=>k_is)
  (case rB=>k_is)
  (case rC=>k_exc)
  (case n9=>k_is)
  (case n_=>k_is)
  (case oa=>k_is)
  (case wZ=>k_is)
  (case sY=>k_is)
  (case sZ=>k_is)
  (case s_=>k_is)
  (case tj=>k_is)
  (case w9=>k_is)
  (case tm=>k_is)
  (case tq=>k_is)
  (case w_=>k_is)
  (case tw=>k_is)
  (case tD=>k_is)
  (case tE=>k_is)
  (case tF=>k_is)
  (case xa=>k_is)
  (case tG=>k_is)
  (case tH=>k_is)
  (case Bp=>k_is)
  (case xf=>k_is)
  (case xg=>k_is)
  (case xh=>k_is)
  (case xi=>k_is)
  (case Bq=>k_is)
  (case xj=>k_is)
  (case xk=>k_is)
  (case mz=>k_is)
  (case mB=>k_is)
  (case mC=>k_is)
  (case ju=>k_is)
  (case jv=>k_is)
  (case jw=>k_is)
  (case iW=>kit_is)
  (case iX=>kit_is)
  (case jx=>kit_is)
  (case jy=>kit_is)
  (case kq=>kit_is)
  (case iY=>kit_is)
  (case iZ=>kit_is)
  (case jz=>kit_is)
  (case jA=>kit_is)
  (case kr=>kit_is)
  (case rD=>k_is)
  (case NM=>k_is)
  (case NN=>k_is)
  (case Lg=>k_is)
  (case Lh=>k_is)
  (case NO=>k_is)
  (case rE=>k_is)
  (case NP=>k_is)
  (case Li=>k_is)
  (case NQ=>k_is)
  (case GL=>k_is)
  (case NR=>k_is)
  (case GN=>k_is)
  (case Lj=>kit_is)
  (case Lk=>kit_is)
