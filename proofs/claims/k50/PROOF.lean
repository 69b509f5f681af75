import PyProof.Rows.All
import Wide.All
import OpenK.AllK
import Wide.FinOn
import Lean
import PyProof.EqAt
import PyProof.EqKinds
import PyProof.TupleCall
import PySem.Challenge.RW_heapsafe_k50_the_turn
set_option Elab.async false
set_option linter.all false
set_option maxRecDepth 100000
namespace L2
open PySem PySem.Spec PyProof.Rows
noncomputable abbrev Key:=Sum Int Str
noncomputable def n9:Key→Value→Bool
 | .inl k,v=>Value.isInt k v
 | .inr x,v=>Value.isStrOf x v
noncomputable def afb (w:World):Key→Int
 | .inl k=>hashInt k
 | .inr x=>hashStr w x
theorem bY:∀{k:Key}{v:Value},n9 k v=true→(∃i t,k=Sum.inl i∧v=Value.int i t)∨(∃x t,k=Sum.inr x∧v=Value.str x t)
 | .inl i,v,h=>by
  obtain⟨t,e⟩:=Value.isInt_shape (k:=i) (v:=v) h
  exact .inl ⟨i,t,rfl,e⟩
 | .inr x,v,h=>by
  obtain⟨t,e⟩:=Value.isStrOf_shape (x:=x) (v:=v) h
  exact .inr ⟨x,t,rfl,e⟩
theorem De (i:Int) (t:Tok):n9 (.inl i) (.int i t)=true:=by simp [n9,Value.isInt]
theorem Df (x:Str) (t:Tok):n9 (.inr x) (.str x t)=true:=by simp [n9,Value.isStrOf]
theorem Ti (a b:Int):decide ((Sum.inl a:Key)=Sum.inl b)=(a == b):=by
 by_cases e:a=b
 ·subst e; simp
 ·have h:¬(Sum.inl a:Key)=Sum.inl b:=fun q=>e (Sum.inl.inj q)
  rw [decide_eq_false h]
  exact(beq_eq_false_iff_ne.mpr e).symm
theorem Tj (a b:Str):decide ((Sum.inr a:Key)=Sum.inr b)=decide (a=b):=by
 by_cases e:a=b
 ·subst e; simp
 ·have h:¬(Sum.inr a:Key)=Sum.inr b:=fun q=>e (Sum.inr.inj q)
  rw [decide_eq_false h,decide_eq_false e]
theorem Tn (a:Int) (b:Str):decide ((Sum.inl a:Key)=Sum.inr b)=false:=decide_eq_false (fun q=>nomatch q)
theorem To (a:Str) (b:Int):decide ((Sum.inr a:Key)=Sum.inl b)=false:=decide_eq_false (fun q=>nomatch q)
noncomputable def cj (prog:Program) (w:World):PySem.KeyKind prog w Key where
 is:=n9
 hash:=afb w
 inj:=fun v a b ha hb=>by
  rcases bY ha with ⟨i,t,rfl,rfl⟩ | ⟨x,t,rfl,rfl⟩
  ·rcases bY hb with ⟨j,u,rfl,e⟩ | ⟨y,u,rfl,e⟩
   ·injection e with e1 _; rw [e1]
   ·exact nomatch e
  ·rcases bY hb with ⟨j,u,rfl,e⟩ | ⟨y,u,rfl,e⟩
   ·exact nomatch e
   ·injection e with e1 _; rw [e1]
 byValue:=fun k v h=>by
  rcases bY h with ⟨i,t,rfl,rfl⟩ | ⟨x,t,rfl,rfl⟩ <;> rfl
 pyHash:=fun hv h=>by
  rcases bY hv with ⟨i,t,rfl,rfl⟩ | ⟨x,t,rfl,rfl⟩
  ·exact wpAny_pyHash_int h
  ·exact wpAny_pyHash_str h
 eqBool:=fun hu hv h=>by
  rcases bY hu with ⟨i,t,rfl,rfl⟩ | ⟨x,t,rfl,rfl⟩
  ·rcases bY hv with ⟨j,u,rfl,rfl⟩ | ⟨y,u,rfl,rfl⟩
   ·rw [Ti] at h; exact wpAny_eqBool_int h
   ·rw [Tn] at h; exact SeqAt.EqAt.int_str i t y u _ _ _ _ h
  ·rcases bY hv with ⟨j,u,rfl,rfl⟩ | ⟨y,u,rfl,rfl⟩
   ·rw [To] at h; exact SeqAt.EqAt.str_int x t j u _ _ _ _ h
   ·rw [Tj] at h; exact wpAny_eqBool_str h
 «strs»:=fun k x t v h=>by
  rcases bY h with ⟨i,u,rfl,e⟩ | ⟨y,u,rfl,e⟩
  ·exact nomatch e
  ·injection e with e1 _
   subst e1
   cases v <;> rfl
theorem vF (prog:Program) (w:World) (i:Int) (t:Tok):(cj prog w).is (.inl i) (.int i t)=true:=De i t
theorem vG (prog:Program) (w:World) (x:Str) (t:Tok):(cj prog w).is (.inr x) (.str x t)=true:=Df x t
end L2
namespace L2
open PySem PySem.Spec PyProof.Rows
inductive V where
 | bf | bl (b:Bool) | int (i:Int) | str (x:Str) | EK (b:Array UInt8) | YR (b:UInt64) | ref (a:Addr) | ty (n:String)
 deriving DecidableEq
noncomputable def RelV:V→Value→Prop
 | .bf,u=>u=Value.none
 | .bl b,u=>u=Value.bool b
 | .int i,u=>∃t,u=Value.int i t
 | .str x,u=>∃t,u=Value.str x t
 | .EK b,u=>∃t,u=Value.bytes b t
 | .YR b,u=>∃t,u=Value.float b t
 | .ref a,u=>u=Value.ref a
 | .ty n,u=>u=Value.type n
noncomputable abbrev Vals:List V→List Value→Prop:=Paired RelV
theorem Vals.length {xs:List V}{us:List Value}(r:Vals xs us):xs.length=us.length:=Paired.length r
theorem Vals.get:∀{xs:List V}{us:List Value}{i:Nat}{x:V},Vals xs us→xs[i]?=some x→∃u,us[i]?=some u∧RelV x u
 | _,_,_,_,.nil,e=>by simp at e
 | _,_,0,_,.cons r _,e=>by simp at e; subst e; exact⟨_,rfl,r⟩
 | _,_,i+1,x,.cons _ t,e=>by
  obtain⟨u,h1,h2⟩:=Vals.get (i:=i) (x:=x) t (by simpa using e)
  exact⟨u,by simpa using h1,h2⟩
theorem Vals.set {x:V}{u:Value}(r:RelV x u):∀{xs:List V}{us:List Value}(i:Nat),Vals xs us→Vals (xs.set i x) (us.set i u)
 | _,_,_,.nil=>.nil
 | _,_,0,.cons _ t=>.cons r t
 | _,_,i+1,.cons q t=>.cons q (Vals.set r i t)
theorem Vals.append:∀{xs ys:List V}{us ws:List Value},Vals xs us→Vals ys ws→Vals (xs++ys) (us++ws)
 | _,_,_,_,.nil,s=>s
 | _,_,_,_,.cons r t,s=>.cons r (Vals.append t s)
theorem Vals.take:∀{xs:List V}{us:List Value}(n:Nat),Vals xs us→Vals (xs.take n) (us.take n)
 | _,_,0,_=>.nil
 | _,_,_+1,.nil=>.nil
 | _,_,n+1,.cons r t=>.cons r (Vals.take n t)
theorem Vals.drop:∀{xs:List V}{us:List Value}(n:Nat),Vals xs us→Vals (xs.drop n) (us.drop n)
 | _,_,0,r=>r
 | _,_,_+1,.nil=>.nil
 | _,_,n+1,.cons _ t=>Vals.drop n t
noncomputable def jr:Option V→Option Value→Prop
 | some v,some u=>RelV v u
 | none,none=>True
 | _,_=>False
noncomputable def KV {κ:Type}:List (κ×V)→List (κ×Value)→Prop:=Paired fun(p:κ×V) (q:κ×Value)=>p.1=q.1∧RelV p.2 q.2
noncomputable def kV:Key→V
 | .inl i=>.int i
 | .inr x=>.str x
inductive HO where
 
 | lst (xs:List V)
 
 | tup (xs:List V)
 
 | dK (kvs:List (Key×V)) | dT (kvs:List (List Key×V))
 
 | set (S:Int→Bool) (n:Nat)
 
 | ins (C dx:Addr) (fs:List (Str×V))
 
 | own (x:Addr)
 
 | xd (fs:List (Str×V))
 
 | met (f x:Addr)
 
 | rng (lo hi:Int)
 
 | vt (o:Obj) (u:HO)
 
 | dS (ps:Array Value)
 
 | ext (φ:Heap→Prop)
noncomputable abbrev Hp:=Addr→Option HO
noncomputable def upd (H:Hp) (a:Addr) (o:HO):Hp:=fun b=>if b=a then some o else H b
theorem ae {H:Hp}{a:Addr}{o:HO}:upd H a o a=some o:=by unfold upd; rw [if_pos rfl]
theorem ai {H:Hp}{a b:Addr}{o:HO}(h:b≠a):upd H a o b=H b:=by unfold upd; rw [if_neg h]
theorem jY {H:Hp}{a:Addr}{o u:HO}:upd (upd H a o) a u=upd H a u:=by
 funext b; unfold upd; split <;> rfl
theorem cu {H:Hp}{a b:Addr}{o u:HO}(h:H a=some o) (h':H b=some u) (d:o≠u):a≠b:=by
 intro e; subst e; rw [h] at h'; exact d (Option.some.inj h')
theorem ao {H:Hp}{a b:Addr}{o:HO}(h:H a=some o) (h':H b=none):a≠b:=by
 intro e; subst e; rw [h] at h'; cases h'
section
variable (P:Program) (w:World)
noncomputable def cw (H:Hp) (h:Heap) (a:Addr):HO→Prop
 | .lst xs=>xs.length≤sizeLine∧∃(aO:List Value) (n:Nat),Vals xs aO∧h.get? a=some {cls:=.type "list",data:=.seq aO.toArray n}
 | .tup xs=>xs.length≤sizeLine∧∃aO:List Value,Vals xs aO∧IsTup h a aO.toArray
 | .dK kvs=>kvs.length≤sizeLine∧(a == sysModules)=false∧∃vs,KV kvs vs∧h.DictOf (cj P w) a vs
 | .dT kvs=>kvs.length≤sizeLine∧(a == sysModules)=false∧∃xs:List (List Key×Addr×Value),
   Paired (fun(p:List Key×V) (q:List Key×Addr×Value)=>p.1=q.1∧H q.2.1=some (.tup (p.1.map kV))∧RelV p.2 q.2.2) kvs xs ∧
   ∃o es ep,h.get? a=some o∧o.ExactDict∧o.data=.dict es ep∧es.toList=xs.map (entryOfKey (tupleKind (cj P w)))∧(xs.map (·.1)).Nodup
 | .set S n=>h.SetOf (intKind P w) a S n
 | .ins C dx fs=>H dx=some (.own a)∧fs.length≤1000∧dx≠a∧h.get? a=some (PySem.W.instObj C dx) ∧
   ∃mA,h.Ns1 dx mA∧(∀f,jr (fs.lookup f) (mA f))∧PySem.Within mA (fs.map (·.1))
 | .own _=>∃o,h.get? a=some o
 | .xd fs=>∃mA,h.Ns1 a mA∧∀f,jr (fs.lookup f) (mA f)
 | .rng lo hi=>∃t u v,h.get? a=some {cls:=.type "range",data:=.fields #[.int lo t,.int hi u,.int 1 v]}
 | .vt o u=>h.get? a=some o∧cw H h a u
 | .dS ps=>h.get? a=some {cls:=.none,data:=.fields ps}
 | .met f x=>h.get? a=some (PySem.W.methodObj (.ref f) (.ref x))
 | .ext φ=>φ h∧(∃o,h.get? a=some o)∧∀h1 h2:Heap,φ h1→(∀o,h1.get? a=some o→h2.get? a=some o)→φ h2
noncomputable def jt (H:Hp) (h:Heap):Prop:=∀a o,H a=some o→cw P w H h a o
end
section
variable {P:Program}{w:World}{H H':Hp}{h h':Heap}{a:Addr}{o:HO}
theorem cw.lt (x:cw P w H h a o):a < h.objs.size:=by
 cases o with
 | lst xs=>obtain⟨_,_,_,_,e⟩:=x; exact Heap.lt_size e
 | tup xs=>obtain⟨_,_,_,p⟩:=x; exact p.lt
 | dK kvs=>obtain⟨_,_,_,_,o,_,_,e,_⟩:=x; exact Heap.lt_size e
 | dT kvs=>obtain⟨_,_,_,_,o,_,_,e,_⟩:=x; exact Heap.lt_size e
 | set S n=>obtain⟨o,_,_,_,e,_⟩:=x; exact Heap.lt_size e
 | ins C dx fs=>obtain⟨_,_,_,e,_⟩:=x; exact Heap.lt_size e
 | own y=>obtain⟨_,e⟩:=x; exact Heap.lt_size e
 | xd fs=>obtain⟨_,⟨_,_,_,e,_⟩,_⟩:=x; exact Heap.lt_size e
 | rng lo hi=>obtain⟨_,_,_,e⟩:=x; exact Heap.lt_size e
 | vt ob u=>obtain⟨e,_⟩:=x; exact Heap.lt_size e
 | dS ps=>exact Heap.lt_size (show h.get? a=some _ from x)
 | met f y=>exact Heap.lt_size (show h.get? a=some _ from x)
 | ext φ=>obtain⟨_,⟨_,e⟩,_⟩:=x; exact Heap.lt_size e
theorem Paired.Tp {α β:Type}{F G:α→β→Prop}:∀{l₁:List α}{l₂:List β},Paired F l₁ l₂→(∀a b,F a b→G a b)→Paired G l₁ l₂
 | _,_,.nil,_=>.nil
 | _,_,.cons r t,f=>.cons (f _ _ r) (Paired.Tp t f)
theorem cw.fW (x:cw P w H h a o) (k:∀b u,(b=a∨H b=some (.own a))→h.get? b=some u→h'.get? b=some u)
  (ho:∀b,H b=some (.own a)→H' b=some (.own a)) (ht:∀b xs,H b=some (.tup xs)→H' b=some (.tup xs)):cw P w H' h' a o:=by
 induction o with
 | lst xs=>obtain⟨z,aO,n,r,e⟩:=x; exact⟨z,aO,n,r,k _ _ (.inl rfl) e⟩
 | tup xs=>obtain⟨z,aO,r,ob,e,c⟩:=x; exact⟨z,aO,r,ob,k _ _ (.inl rfl) e,c⟩
 | dK kvs=>obtain⟨z,y,vs,r,ob,es,ep,e,c⟩:=x; exact⟨z,y,vs,r,ob,es,ep,k _ _ (.inl rfl) e,c⟩
 | dT kvs=>
  obtain⟨z,y,xs,r,ob,es,ep,e,c⟩:=x
  exact⟨z,y,xs,Paired.Tp r fun p q z=>⟨z.1,ht _ _ z.2.1,z.2.2⟩,ob,es,ep,k _ _ (.inl rfl) e,c⟩
 | set S n=>obtain⟨ob,es,ep,t,e,c⟩:=x; exact⟨ob,es,ep,t,k _ _ (.inl rfl) e,c⟩
 | ins C dx fs=>
  obtain⟨d,z,ne,e,mA,⟨od,es,ep,e2,c⟩,r⟩:=x
  exact⟨ho _ d,z,ne,k _ _ (.inl rfl) e,mA,⟨od,es,ep,k _ _ (.inr d) e2,c⟩,r⟩
 | own y=>obtain⟨ob,e⟩:=x; exact⟨ob,k _ _ (.inl rfl) e⟩
 | xd fs=>obtain⟨mA,⟨od,es,ep,e,c⟩,r⟩:=x; exact⟨mA,⟨od,es,ep,k _ _ (.inl rfl) e,c⟩,r⟩
 | rng lo hi=>obtain⟨t,u,v,e⟩:=x; exact⟨t,u,v,k _ _ (.inl rfl) e⟩
 | vt ob u ih=>obtain⟨e,q⟩:=x; exact⟨k _ _ (.inl rfl) e,ih q⟩
 | dS ps=>
  have e:h.get? a=some {cls:=.none,data:=.fields ps}:=x
  show h'.get? a=some {cls:=.none,data:=.fields ps}
  exact k a _ (.inl rfl) e
 | met f y=>
  have e:h.get? a=some (PySem.W.methodObj (.ref f) (.ref y)):=x
  show h'.get? a=some (PySem.W.methodObj (.ref f) (.ref y))
  exact k a _ (.inl rfl) e
 | ext φ=>obtain⟨p,⟨o,e⟩,st⟩:=x; exact⟨st _ _ p fun o q=>k _ _ (.inl rfl) q,⟨o,k _ _ (.inl rfl) e⟩,st⟩
theorem jt.lt (x:jt P w H h) (e:H a=some o):a < h.objs.size:=(x a o e).lt
theorem jt.fresh (x:jt P w H h) (e:h.objs.size≤a):H a=none:=by
 cases q:H a with
 | none=>rfl
 | some u=>exact absurd (Nat.lt_of_lt_of_le (x.lt q) e) (Nat.lt_irrefl _)
theorem jt.kept (x:jt P w H h) (k:∀b u,h.get? b=some u→h'.get? b=some u):jt P w H h':=fun a o e=>
 (x a o e).fW (fun b u _ q=>k b u q) (fun _ q=>q) fun _ _ q=>q
theorem jt.laid (x:jt P w H h) (k:∀b u,h.get? b=some u→h'.get? b=some u) (hp:h.objs.size≤a) (new:cw P w (upd H a o) h' a o):jt P w (upd H a o) h':=fun b u e=>by
 have hn:=x.fresh hp
 by_cases hb:b=a
 ·subst hb; rw [ae] at e; cases e; exact new
 ·rw [ai hb] at e
  exact(x b u e).fW (fun c v _ q=>k c v q) (fun c q=>by rw [ai (ao q hn)]; exact q) fun c xs q=>by rw [ai (ao q hn)]; exact q
end
noncomputable def Rd (H:Hp) (a:Addr) (u:HO):Prop:=H a=some u∨∃o,H a=some (.vt o u)
theorem Rd.ok {P:Program}{w:World}{H:Hp}{h:Heap}{a:Addr}{u:HO}(r:Rd H a u) (x:jt P w H h):cw P w H h a u:=by
 rcases r with r | ⟨o,r⟩
 ·exact x a u r
 ·obtain⟨_,q⟩:=x a _ r
  exact q
noncomputable def Zk:Option HO→Prop
 | some (.lst _)=>True
 | some (.dK _)=>True
 | some (.dT _)=>True
 | some (.set _ _)=>True
 | some (.ins _ _ _)=>True
 | some (.ext _)=>True
 | _=>False
section
variable {P:Program}{w:World}{H:Hp}{h h':Heap}{x e:Addr}{o':HO}
theorem jt.write (ok:jt P w H h) (mu:Zk (H x)) (he:e=x∨H e=some (.own x)) (k:∀b u,b≠e→h.get? b=some u→h'.get? b=some u) (YS:∃u,h'.get? e=some u)
  (new:cw P w (upd H x o') h' x o'):jt P w (upd H x o') h':=fun b u q=>by
 have gP:∀c y,H c=some (.own y)→c≠x:=fun c y r z=>by subst z; rw [r] at mu; exact mu
 have Tq:∀c xs,H c=some (.tup xs)→c≠x:=fun c xs r z=>by subst z; rw [r] at mu; exact mu
 by_cases hb:b=x
 ·subst hb; rw [ae] at q; cases q; exact new
 ·rw [ai hb] at q
  by_cases Tr:b=e
  ·have q':H b=some (.own x):=by
    rcases he with z | z
    ·exact absurd (Tr.trans z) hb
    ·rw [Tr]; exact z
   rw [q] at q'; cases q'
   obtain⟨v,hv⟩:=YS
   exact⟨v,by rw [Tr]; exact hv⟩
  ·refine(ok b u q).fW (fun c v hc r=>k c v ?_ r) (fun c r=>by rw [ai (gP c b r)]; exact r) fun c xs r=>by rw [ai (Tq c xs r)]; exact r
   rcases hc with rfl | hc
   ·exact Tr
   ·rintro rfl
    rcases he with z | z
    ·exact gP c b hc z
    ·rw [hc] at z; cases z; exact hb rfl
end
structure Un (fs ex:List Addr) (H H':Hp) (h h':Heap):Prop where
 keep:∀b o,h.get? b=some o→H b=none→b∉fs→b∉ex→h'.get? b=some o
 slot:∀b o,h.get? b=some o→H b=none→b∈fs→b∉ex→∃sl,h'.get? b=some {o with slots:=sl}
 free:∀b o,h.get? b=some o→H b=none→b∉ex→H' b=none
 there:∀b o,h.get? b=some o→b∉ex→∃o',h'.get? b=some o'
 vH:∀b xs,H b=some (.tup xs)→H' b=some (.tup xs)
 sU:∀b o u,H b=some (.vt o u)→H' b=some (.vt o u)
 sV:∀b ps,H b=some (.dS ps)→∃more,H' b=some (.dS (ps++more))
section
variable {fs fs' ex ex':List Addr}{H H1 H2:Hp}{h h1 h2 h':Heap}{a x e:Addr}{o:HO}
theorem Un.any (u:Un fs ex H H1 h h1) {b:Addr}{ob:Obj}(q:h.get? b=some ob) (n:H b=none) (hx:b∉ex):∃sl,h1.get? b=some {ob with slots:=sl}:=by
 by_cases hb:b∈fs
 ·exact u.slot b ob q n hb hx
 ·exact⟨ob.slots,u.keep b ob q n hb hx⟩
theorem Un.kept (k:∀b u,h.get? b=some u→h'.get? b=some u):Un fs ex H H h h':=
 ⟨fun b ob q _ _ _=>k b ob q,fun b ob q _ _ _=>⟨ob.slots,k b ob q⟩,fun _ _ _ n _=>n,fun b ob q _=>⟨ob,k b ob q⟩,fun _ _ q=>q,fun _ _ _ q=>q,fun _ ps q=>⟨#[],by rw [q]; simp⟩⟩
theorem Un.refl:Un fs ex H H h h:=Un.kept fun _ _ q=>q
theorem Un.laid (k:∀b u,h.get? b=some u→h'.get? b=some u) (hp:h.objs.size≤a) (hn:H a=none):Un fs ex H (upd H a o) h h' where
 keep:=fun b u q _ _ _=>k b u q
 slot:=fun b u q _ _ _=>⟨u.slots,k b u q⟩
 free:=fun b u q n _=>by rw [ai (Nat.ne_of_lt (Nat.lt_of_lt_of_le (Heap.lt_size q) hp))]; exact n
 there:=fun b u q _=>⟨u,k b u q⟩
 vH:=fun b xs q=>by rw [ai (ao q hn)]; exact q
 sU:=fun b u xs q=>by rw [ai (ao q hn)]; exact q
 sV:=fun b ps q=>⟨#[],by rw [ai (ao q hn),q]; simp⟩
theorem Un.write (mu:Zk (H x)) (he:e=x∨H e=some (.own x)) (k:∀b u,b≠e→h.get? b=some u→h'.get? b=some u) (YS:∃u,h'.get? e=some u):Un fs ex H (upd H x o) h h':=by
 have hx:∀b,H b=none→b≠x:=fun b n z=>by subst z; rw [n] at mu; exact mu
 have hb:∀b,H b=none→b≠e:=fun b n z=>by
  subst z
  rcases he with r | r
  ·exact hx b n r
  ·rw [n] at r; cases r
 have hm:∀b u,H b=some u→¬Zk (some u)→b≠x:=fun b u q nm z=>by subst z; rw [q] at mu; exact nm mu
 refine⟨fun b u q n _ _=>k b u (hb b n) q,fun b u q n _ _=>⟨u.slots,k b u (hb b n) q⟩,fun b u q n _=>by rw [ai (hx b n)]; exact n,fun b u q _=>?_,
  fun b xs q=>by rw [ai (hm b _ q fun z=>z)]; exact q,fun b u xs q=>by rw [ai (hm b _ q fun z=>z)]; exact q,fun b ps q=>⟨#[],by rw [ai (hm b _ q fun z=>z),q]; simp⟩⟩
 by_cases Tr:b=e
 ·subst Tr; exact YS
 ·exact⟨u,k b u Tr q⟩
end
noncomputable def trk (h:Heap) (H:Hp):List Addr:=(List.range h.objs.size).filter fun a=>(H a).isSome
noncomputable def qr (h:Heap) (H:Hp):Heap:=PySem.W.hideAll h (trk h H)
theorem Dg (h:Heap) (H:Hp):(qr h H).objs.size=h.objs.size:=PySem.W.hideAll_size _ _
theorem EV {h:Heap}{H:Hp}{b:Addr}{o:Obj}(e:h.get? b=some o) (n:H b=none):(qr h H).get? b=some o:=
 PySem.W.hideAll_get _ e fun hm=>by
  have q:(H b).isSome=true:=(List.mem_filter.mp hm).2
  rw [n] at q; simp at q
theorem Lz {h:Heap}{H:Hp}{b:Addr}{o:Obj}(e:(qr h H).get? b=some o):h.get? b=some o∧H b=none:=by
 have e':h.get? b=some o:=PySem.W.of_hideAll (trk h H) e
 refine⟨e',?_⟩
 cases q:H b with
 | none=>rfl
 | some x=>
  have hm:b∈trk h H:=List.mem_filter.mpr ⟨List.mem_range.mpr (Heap.lt_size e'),by simp [q]⟩
  have z:(qr h H).get? b=none:=PySem.W.hideAll_none (trk h H) hm
  rw [z] at e; cases e
noncomputable def LA (g h:Heap) (L:Addr):List (Addr×Obj):=(List.range h.objs.size).filterMap fun a=>if a=L∨(g.get? a).isSome=true then none else(h.get? a).map fun o=>(a,o)
noncomputable def rest (g h:Heap) (L d:Addr):List (Addr×Obj):=(LA g h L).filter fun p=>decide (p.1≠d)
end L2
namespace L2
open PySem PySem.Spec PyProof.Rows
structure Mod (K:PySem.W.Frag) (mg:Str→Option Value) (base:Heap):Prop where
 YU:K.In base
 glob:base.Ns mainGlobals mg
 blt:∃mb,base.Ns builtinsNs mb∧∀x:Str,x≠"__name__"→mb x=bootBuiltins x
 nolimit:base.NoLimit
structure Cx where
 prog:Program
 w:World
 K:PySem.W.Frag
 mg:Str→Option Value
 base:Heap
 A:Around
 N:List Str
 s₀:Shared
 H₀:Hp
 env:Env
 outer:List Env
 stack:List Env
 ex:List Addr
 fn:Str→Bool
 calm:Bool
 pn:List (Addr×Obj)
 xe:Value→Shared→Prop
noncomputable def B5 (l:List Env):List Addr:=l.filterMap (·.frame)
noncomputable abbrev Cx.fs (X:Cx):List Addr:=B5 X.outer
noncomputable def Vis (sc:Scope) (x:Str):Prop:=sc.names.lookup x=some .local∨sc.names.lookup x=some .cell∨sc.names.lookup x=some .free
noncomputable def Loc (sc:Scope) (x:Str):Prop:=sc.names.lookup x=some .local∨sc.names.lookup x=some .cell
noncomputable def Look (env:Env) (h:Heap) (m:Str→Option Value) (x:Str) (u:Value):Prop:=
 (env.kindOf x=some .local∧m x=some u)∨((env.kindOf x=some .cell∨env.kindOf x=some .free)∧∃c,env.cells.lookup x=some c∧h.IsCell c (some u))
structure Cx.Ok (X:Cx):Prop where
 mod:Mod X.K X.mg X.base
 kind:X.env.scope.kind=.function
 glob:X.env.globals=mainGlobals
 blt:X.env.builtins=builtinsNs
 above:X.s₀.heap.objs.size≤X.env.locals
 inj:∀x y c,X.env.cells.lookup x=some c→X.env.cells.lookup y=some c→x=y
 has:∀x,(X.env.kindOf x=some .cell∨X.env.kindOf x=some .free)→∃c,X.env.cells.lookup x=some c
 Ts:∀x c,X.fn x=true→X.env.cells.lookup x=some c→X.s₀.heap.objs.size≤c
 hd:X.calm=true→X.A.handled=none
 frames:X.A.frames=some X.stack
 YV:X.stack=X.outer∨(X.stack=X.env::X.outer∧X.env.frame=some X.env.locals)
 Pf:∀b∈X.ex,b≠X.env.locals∧∀x c,X.env.cells.lookup x=some c→c≠b
 bs:∀b o,X.base.get? b=some o→X.s₀.heap.get? b=some o∧X.H₀ b=none
 B6:X.base.objs.size≤X.s₀.heap.objs.size
 vI:∀b o,X.base.get? b=some o→b∉X.ex
 vJ:∀b∈X.ex,b∉X.fs
 jZ:X.s₀.heap.FunFrames X.base X.outer
 LB:∀b∈X.fs,X.H₀ b=none
structure Inv (X:Cx) (pins:List (Addr×Obj)) (σ:List (Option V)) (H:Hp) (s:Shared):Prop where
 ok:X.Ok
 os:s.os=X.s₀.os
 bare:AllBare s.gens
 base:Un X.fs X.ex X.H₀ H X.s₀.heap s.heap
 loc:∃m,s.heap.Ns X.env.locals m∧∀(i:Nat) (x:Str) (v:V),X.N[i]?=some x→σ[i]?=some (some v)→Vis X.env.scope x→∃u,RelV v u∧Look X.env s.heap m x u
 cell:∀x c,X.env.cells.lookup x=some c→∃v,s.heap.IsCell c v
 free:H X.env.locals=none
 fB:∀x c,X.env.cells.lookup x=some c→H c=none
 pin:∀p∈X.pn++pins,s.heap.get? p.1=some p.2∧H p.1=none∧p.1≠X.env.locals∧p.1∉X.fs∧∀v,p.2.data≠.cell v
 bS:jt X.prog X.w H s.heap
 len:σ.length=X.N.length
section
variable {X:Cx}{pins:List (Addr×Obj)}{σ:List (Option V)}{H H':Hp}{s:Shared}{h':Heap}
theorem Cx.Ok.afc (ok:X.Ok) {b:Addr}{o:Obj}(e:X.base.get? b=some o):b∉X.fs:=fun hb=>by
 have:=(ok.jZ.mem hb).1
 rw [e] at this; cases this
theorem Inv.bs (I:Inv X pins σ H s):∀b o,X.base.get? b=some o→s.heap.get? b=some o∧H b=none:=fun b o e=>
 ⟨I.base.keep b o (I.ok.bs b o e).1 (I.ok.bs b o e).2 (I.ok.afc e) (I.ok.vI b o e),I.base.free b o (I.ok.bs b o e).1 (I.ok.bs b o e).2 (I.ok.vI b o e)⟩
theorem Inv.bk (I:Inv X pins σ H s):∀b o,X.base.get? b=some o→s.heap.get? b=some o:=fun b o e=>(I.bs b o e).1
theorem Inv.mod (I:Inv X pins σ H s):Mod X.K X.mg X.base:=I.ok.mod
theorem Inv.sX (I:Inv X pins σ H s):X.K.In s.heap:=I.ok.mod.YU.keeps I.bk
theorem Inv.nolimit (I:Inv X pins σ H s):s.heap.NoLimit:=I.ok.mod.nolimit.keeps I.bk
theorem Inv.lt (I:Inv X pins σ H s):X.env.locals < s.heap.objs.size:=let ⟨_,hn,_⟩:=I.loc; hn.lt
theorem Inv.sz (I:Inv X pins σ H s):X.s₀.heap.objs.size≤s.heap.objs.size:=Nat.le_trans I.ok.above (Nat.le_of_lt I.lt)
theorem Inv.LC (I:Inv X pins σ H s) {a:Addr}(h:s.heap.objs.size≤a):a∉X.fs:=fun hb=>by
 obtain⟨_,o,ho,_⟩:=I.ok.jZ.mem hb
 exact absurd (Nat.lt_of_lt_of_le (Heap.lt_size ho) (Nat.le_trans I.sz h)) (Nat.lt_irrefl _)
theorem Inv.Tt (I:Inv X pins σ H s):∀x c,X.env.cells.lookup x=some c→c≠X.env.locals:=fun x c e z=>by
 obtain⟨v,o,ho,hd⟩:=I.cell x c e
 obtain⟨m,⟨o',es,ep,EW,LD,_⟩,_⟩:=I.loc
 rw [z,EW] at ho; cases ho; rw [LD] at hd; cases hd
theorem Inv.jZ (I:Inv X pins σ H s):s.heap.FunFrames X.base X.outer:=by
 have all:∀(l:List Env),(∀b∈B5 l,b∈X.fs)→X.s₀.heap.FunFrames X.base l→s.heap.FunFrames X.base l:=by
  intro l
  induction l with
  | nil=>intro _ _; trivial
  | cons env r ih=>
   intro hs hl
   obtain⟨hk,⟨L,o,hf,hn,ho,hd⟩,hr⟩:=hl
   have hL:L∈X.fs:=hs L (by unfold B5; rw [List.filterMap_cons,hf]; exact List.mem_cons_self)
   obtain⟨sl,e⟩:=I.base.slot L o ho (I.ok.LB L hL) hL fun z=>I.ok.vJ L z hL
   exact⟨hk,⟨L,_,hf,hn,e,hd⟩,ih (fun b hb=>hs b (by unfold B5; rw [List.filterMap_cons,hf]; exact List.mem_cons_of_mem _ hb)) hr⟩
 exact all X.outer (fun _ hb=>hb) I.ok.jZ
theorem Inv.stack (I:Inv X pins σ H s):s.heap.FunFrames X.base X.stack:=by
 rcases I.ok.YV with e | ⟨e,hf⟩
 ·rw [e]; exact I.jZ
 ·rw [e]
  obtain⟨m,hn,_⟩:=I.loc
  refine .cons (by rw [I.ok.kind]; decide) hf hn ?_ I.jZ
  exact Heap.get?_none_of_le (Nat.le_trans I.ok.B6 I.ok.above)
theorem Inv.sY (I:Inv X pins σ H s):∀b∈B5 X.stack,b∈X.env.locals::X.fs:=fun b hb=>by
 rcases I.ok.YV with e | ⟨e,hf⟩
 ·rw [e] at hb; exact List.mem_cons_of_mem _ hb
 ·rw [e] at hb
  unfold B5 at hb
  rw [List.filterMap_cons,hf] at hb
  exact hb
theorem Inv.nK (I:Inv X pins σ H s):∀b∈B5 X.stack,H b=none:=fun b hb=>by
 rcases List.mem_cons.mp (I.sY b hb)with e | hb
 ·rw [e]; exact I.free
 ·obtain⟨_,o,ho,_⟩:=I.ok.jZ.mem hb
  exact I.base.free b o ho (I.ok.LB b hb) fun z=>I.ok.vJ b z hb
theorem Inv.step {g':Array GenState}{t':Nat}{d':Drawn}{ch:List Addr}(I:Inv X pins σ H s)
  (Lc:∀b∈ch,(b∈X.ex∨X.s₀.heap.objs.size≤b)∧b≠X.env.locals∧(∀x c,X.env.cells.lookup x=some c→c≠b)∧∀p∈X.pn++pins,p.1≠b)
  (keep:∀b o,b≠X.env.locals→b∉X.fs→b∉ch→s.heap.get? b=some o→H b=none→h'.get? b=some o)
  (slot:∀b o,b≠X.env.locals→b∈X.fs→b∉ch→s.heap.get? b=some o→H b=none→∃sl,h'.get? b=some {o with slots:=sl}) (free:∀b o,b∉ch→s.heap.get? b=some o→H b=none→H' b=none)
  (there:∀b o,b∉ch→s.heap.get? b=some o→∃o',h'.get? b=some o')
  (vH:∀b xs,H b=some (.tup xs)→H' b=some (.tup xs)) (sU:∀b o u,H b=some (.vt o u)→H' b=some (.vt o u)) (sV:∀b ps,H b=some (.dS ps)→∃more,H' b=some (.dS (ps++more)))
  (ns:∀m,s.heap.Ns X.env.locals m→h'.Ns X.env.locals m) (bS:jt X.prog X.w H' h') (hg:AllBare g') :
  Inv X pins σ H' {s with heap:=h',gens:=g',drawn:=d',toks:=t'}:=by
 have neL:∀b o,X.s₀.heap.get? b=some o→b≠X.env.locals:=fun b o e=>Nat.ne_of_lt (Nat.lt_of_lt_of_le (Heap.lt_size e) I.ok.above)
 have neC:∀b o,X.s₀.heap.get? b=some o→b∉X.ex→b∉ch:=fun b o e hx hb=>by
  rcases (Lc b hb).1 with z | z
  ·exact hx z
  ·exact absurd (Nat.lt_of_lt_of_le (Heap.lt_size e) z) (Nat.lt_irrefl _)
 have cellK:∀x c,X.env.cells.lookup x=some c→∀v,s.heap.IsCell c v→h'.IsCell c v:=fun x c e v ⟨o,ho,hd⟩=>by
  have EL:c∉ch:=fun z=>(Lc c z).2.2.1 x c e rfl
  by_cases hc:c∈X.fs
  ·obtain⟨sl,q⟩:=slot c o (I.Tt x c e) hc EL ho (I.fB x c e)
   exact⟨_,q,hd⟩
  ·exact⟨o,keep c o (I.Tt x c e) hc EL ho (I.fB x c e),hd⟩
 refine⟨I.ok,I.os,hg,⟨fun b o e n hb hx=>?_,fun b o e n hb hx=>?_,fun b o e n hx=>?_,fun b o e hx=>?_,fun b xs e=>vH b xs (I.base.vH b xs e),fun b o xs e=>sU b o xs (I.base.sU b o xs e),fun b ps e=>?_⟩,?_,fun x c e=>?_,?_,fun x c e=>?_,fun p hp=>?_,bS,I.len⟩
 ·exact keep b o (neL b o e) hb (neC b o e hx) (I.base.keep b o e n hb hx) (I.base.free b o e n hx)
 ·obtain⟨sl,e1⟩:=I.base.slot b o e n hb hx
  obtain⟨sl',e2⟩:=slot b _ (neL b o e) hb (neC b o e hx) e1 (I.base.free b o e n hx)
  exact⟨sl',e2⟩
 ·obtain⟨o',e1⟩:=I.base.there b o e hx
  exact free b o' (neC b o e hx) e1 (I.base.free b o e n hx)
 ·obtain⟨o',e1⟩:=I.base.there b o e hx
  exact there b o' (neC b o e hx) e1
 ·obtain⟨m1,e1⟩:=I.base.sV b ps e
  obtain⟨m2,e2⟩:=sV b _ e1
  exact⟨m1++m2,by rw [e2,Array.append_assoc]⟩
 ·obtain⟨m,hn,hl⟩:=I.loc
  refine⟨m,ns m hn,fun i x v e1 e2 e3=>?_⟩
  obtain⟨u,r,l⟩:=hl i x v e1 e2 e3
  refine⟨u,r,?_⟩
  rcases l with l | ⟨k,c,e,z⟩
  ·exact .inl l
  ·exact .inr ⟨k,c,e,cellK x c e _ z⟩
 ·obtain⟨v,z⟩:=I.cell x c e
  exact⟨v,cellK x c e v z⟩
 ·obtain⟨m,⟨o,_,_,ho,_⟩,_⟩:=I.loc
  exact free _ o (fun z=>(Lc _ z).2.1 rfl) ho I.free
 ·obtain⟨v,o,ho,hd⟩:=I.cell x c e
  exact free c o (fun z=>(Lc c z).2.2.1 x c e rfl) ho (I.fB x c e)
 ·obtain⟨e,n,ne,nf,d⟩:=I.pin p hp
  have EL:p.1∉ch:=fun z=>(Lc p.1 z).2.2.2 p hp rfl
  exact⟨keep p.1 p.2 ne nf EL e n,free p.1 p.2 EL e n,ne,nf,d⟩
theorem Inv.un {t':Nat}(I:Inv X pins σ H s) (u:Un X.fs [] H H' s.heap h') (bS:jt X.prog X.w H' h'):Inv X pins σ H' {s with heap:=h',toks:=t'}:=by
 obtain⟨m,⟨o,es,ep,ho,r⟩,_⟩:=id I.loc
 obtain⟨sl,hL⟩:=u.any ho I.free (by simp)
 exact I.step (g':=s.gens) (d':=s.drawn) (ch:=[]) (fun _ z=>nomatch z) (fun b o _ hb _ e n=>u.keep b o e n hb (by simp)) (fun b o _ hb _ e n=>u.slot b o e n hb (by simp)) (fun b o _ e n=>u.free b o e n (by simp)) (fun b o _ e=>u.there b o e (by simp)) u.vH u.sU u.sV (fun m' hm=>by
  obtain⟨o',B7,ep',EW,r'⟩:=hm
  rw [ho] at EW; cases EW
  exact⟨_,B7,ep',hL,r'⟩) bS I.bare
theorem Inv.call {g':Array GenState}{t':Nat}{d':Drawn}{ch:List Addr}(I:Inv X pins σ H s) (u:Un (B5 X.stack) ch H H' s.heap h') (bS:jt X.prog X.w H' h') (hg:AllBare g')
  (Lc:∀b∈ch,(b∈X.ex∨X.s₀.heap.objs.size≤b)∧b≠X.env.locals∧(∀x c,X.env.cells.lookup x=some c→c≠b)∧∀p∈X.pn++pins,p.1≠b) :
  Inv X pins σ H' {s with heap:=h',gens:=g',drawn:=d',toks:=t'}:=by
 obtain⟨m,⟨o,es,ep,ho,r⟩,_⟩:=id I.loc
 obtain⟨sl,hL⟩:=u.any ho I.free fun z=>(Lc _ z).2.1 rfl
 exact I.step (ch:=ch) Lc (fun b o hL hb hc e n=>u.keep b o e n (fun z=>(List.mem_cons.mp (I.sY b z)).elim hL hb) hc) (fun b o _ _ hc e n=>u.any e n hc) (fun b o hc e n=>u.free b o e n hc) (fun b o hc e=>u.there b o e hc) u.vH u.sU u.sV (fun m' hm=>by
  obtain⟨o',B7,ep',EW,r'⟩:=hm
  rw [ho] at EW; cases EW
  exact⟨_,B7,ep',hL,r'⟩) bS hg
theorem Inv.turned {t':Nat}{it:Addr}(I:Inv X pins σ H s) (k:∀b o,b≠it→s.heap.get? b=some o→h'.get? b=some o) (hn:H it=none) (hL:it≠X.env.locals)
  (h1:it∈X.ex∨X.s₀.heap.objs.size≤it) (h2:∀x c,X.env.cells.lookup x=some c→c≠it) (h3:∀p∈X.pn++pins,p.1≠it):Inv X pins σ H {s with heap:=h',toks:=t'}:=by
 have nit:∀b u,H b=some u→b≠it:=fun b u e z=>by rw [z,hn] at e; cases e
 refine I.step (g':=s.gens) (d':=s.drawn) (ch:=[it]) (fun b hb=>?_) (fun b o _ _ hc e _=>k b o (fun z=>hc (by simp [z])) e) (fun b o _ _ hc e _=>⟨o.slots,k b o (fun z=>hc (by simp [z])) e⟩) (fun _ _ _ _ n=>n)
  (fun b o hc e=>⟨o,k b o (fun z=>hc (by simp [z])) e⟩) (fun _ _ e=>e) (fun _ _ _ e=>e) (fun b ps e=>⟨#[],by rw [e]; simp⟩) (fun m hm=>?_) (fun b u e=>?_) I.bare
 ·have e:b=it:=by simpa using hb
  subst e
  exact⟨h1,hL,h2,h3⟩
 ·obtain⟨o,es,ep,ho,r⟩:=hm
  exact⟨o,es,ep,k _ o (Ne.symm hL) ho,r⟩
 ·refine(I.bS b u e).fW (fun c v hc q=>k c v ?_ q) (fun _ q=>q) fun _ _ q=>q
  rcases hc with z | z
  ·rw [z]; exact nit b u e
  ·exact nit c _ z
theorem Inv.tok (I:Inv X pins σ H s) (t:Nat):Inv X pins σ H {s with toks:=t}:=I.un (h':=s.heap) (t':=t) Un.refl I.bS
theorem Inv.kept {t':Nat}(I:Inv X pins σ H s) (k:∀b u,s.heap.get? b=some u→h'.get? b=some u):Inv X pins σ H {s with heap:=h',toks:=t'}:=I.un (Un.kept k) (I.bS.kept k)
theorem Inv.laid {a:Addr}{o:HO}{t':Nat}(I:Inv X pins σ H s) (k:∀b u,s.heap.get? b=some u→h'.get? b=some u) (hp:s.heap.objs.size≤a) (new:cw X.prog X.w (upd H a o) h' a o) :
  Inv X pins σ (upd H a o) {s with heap:=h',toks:=t'}:=I.un (Un.laid k hp (I.bS.fresh hp)) (I.bS.laid k hp new)
theorem Inv.write {x e:Addr}{o:HO}{t':Nat}(I:Inv X pins σ H s) (mu:Zk (H x)) (he:e=x∨H e=some (.own x)) (k:∀b u,b≠e→s.heap.get? b=some u→h'.get? b=some u) (YS:∃u,h'.get? e=some u)
  (new:cw X.prog X.w (upd H x o) h' x o):Inv X pins σ (upd H x o) {s with heap:=h',toks:=t'}:=I.un (Un.write mu he k YS) (I.bS.write mu he k YS new)
theorem Inv.fC {rp:List (Addr×Obj)}(I:Inv X pins σ H s) (h:∀p∈rp,s.heap.get? p.1=some p.2∧H p.1=none∧p.1≠X.env.locals∧p.1∉X.fs∧∀v,p.2.data≠.cell v):Inv X rp σ H s:=
 ⟨I.ok,I.os,I.bare,I.base,I.loc,I.cell,I.free,I.fB,fun p hp=>(List.mem_append.mp hp).elim (fun z=>I.pin p (List.mem_append_left _ z)) (h p),I.bS,I.len⟩
theorem vK {N:List Str}(hN:N.Nodup) {i j:Nat}{x:Str}(a:N[i]?=some x) (b:N[j]?=some x):i=j:=by
 obtain⟨h1,e1⟩:=List.getElem?_eq_some_iff.mp a
 obtain⟨h2,e2⟩:=List.getElem?_eq_some_iff.mp b
 exact(List.getElem_inj hN).mp (e1.trans e2.symm)
theorem Dh {M:Model}{A:Around}{E:Value→Shared→Prop}{i:Nat}{x:Str}{v:V}{u:Value}{Q:Unit→Shared→Prop}(I:Inv X pins σ H s) (hN:X.N.Nodup) (hi:X.N[i]?=some x) (hx:Loc X.env.scope x) (r:RelV v u)
  (h:∀s',Inv X pins (σ.set i (some v)) H s'→(∃a,Heap.SameBut a s.heap s'.heap∧(a=X.env.locals∨X.env.cells.lookup x=some a))→Q () s') (hf:X.fn x=true∨X.env.scope.names.lookup x=some .local:=by first | exact .inl rfl | exact .inr rfl | assumption):wpAny M A (storeName X.env x u) Q E s:=by
 obtain⟨m,hn,hl⟩:=id I.loc
 have Ae:(X.env.scope.kind == .class || (X.env.scope.kind == .module&&X.env.locals != X.env.globals))=false:=by rw [I.ok.kind]; rfl
 have Zl:i < σ.length:=by rw [I.len]; exact(List.getElem?_eq_some_iff.mp hi).1
 have Tt:=I.Tt
 have tracked:∀{a:Addr}{h':Heap},(∃o,s.heap.get? a=some o∧H a=none)→Heap.SameBut a s.heap h'→jt X.prog X.w H h':=fun {a h'} ha hs b ob e=>by
  obtain⟨_,_,Pg⟩:=ha
  refine(I.bS b ob e).fW (fun c w' hc q=>(hs.2 c ?_).trans q) (fun _ q=>q) fun _ _ q=>q
  rintro rfl
  rcases hc with rfl | hc
  ·rw [Pg] at e; cases e
  ·rw [Pg] at hc; cases hc
 rcases hx with hk | hk
 ·refine wpAny_storeName_local hk hn (fun h' Af hs=>?_) Ae
  obtain⟨oL,_,_,EX,_⟩:=id hn
  refine h _ ⟨I.ok,I.os,I.bare,⟨fun b o e n hb hx=>?_,fun b o e n hb hx=>?_,I.base.free,fun b o e hx=>?_,I.base.vH,I.base.sU,I.base.sV⟩,⟨_,Af,fun j y v' e1 e2 e3=>?_⟩,fun y c e=>?_,I.free,I.fB,fun p hp=>?_,tracked ⟨oL,EX,I.free⟩ hs,by simpa using I.len⟩ ⟨_,hs,.inl rfl⟩
  ·exact(hs.2 b (Nat.ne_of_lt (Nat.lt_of_lt_of_le (Heap.lt_size e) I.ok.above))).trans (I.base.keep b o e n hb hx)
  ·obtain⟨sl,e1⟩:=I.base.slot b o e n hb hx
   exact⟨sl,(hs.2 b (Nat.ne_of_lt (Nat.lt_of_lt_of_le (Heap.lt_size e) I.ok.above))).trans e1⟩
  ·obtain⟨o',e1⟩:=I.base.there b o e hx
   exact⟨o',(hs.2 b (Nat.ne_of_lt (Nat.lt_of_lt_of_le (Heap.lt_size e) I.ok.above))).trans e1⟩
  ·by_cases hj:j=i
   ·subst hj
    rw [hi] at e1; cases e1
    rw [List.getElem?_set_self Zl] at e2
    cases e2
    exact⟨u,r,.inl ⟨hk,by simp⟩⟩
   ·rw [List.getElem?_set_ne (Ne.symm hj)] at e2
    obtain⟨u',r',q⟩:=hl j y v' e1 e2 e3
    refine⟨u',r',?_⟩
    rcases q with ⟨k,e⟩ | ⟨k,c,e,z⟩
    ·refine .inl ⟨k,?_⟩
     have:y≠x:=fun e=>hj (vK hN e1 (e▸hi))
     simp [this,e]
    ·exact .inr ⟨k,c,e,z.sameBut hs (Tt y c e)⟩
  ·obtain⟨w',z⟩:=I.cell y c e
   exact⟨w',z.sameBut hs (Tt y c e)⟩
  ·obtain⟨e,n,ne,nf,d⟩:=I.pin p hp
   exact⟨(hs.2 p.1 ne).trans e,n,ne,nf,d⟩
 ·have B8:X.fn x=true:=by
   rcases hf with z | z
   ·exact z
   ·rw [z] at hk; cases hk
  obtain⟨c,hc⟩:=I.ok.has x (.inl hk)
  obtain⟨w',z⟩:=I.cell x c hc
  refine wpAny_storeName_cell I.ok.kind hk hc z (fun h' Ld hs=>?_)
  obtain⟨oc,hoc,afd⟩:=id z
  refine h {s with heap:=h'} ⟨I.ok,I.os,I.bare,⟨fun b o e n hb hx=>?_,fun b o e n hb hx=>?_,I.base.free,fun b o e hx=>?_,I.base.vH,I.base.sU,I.base.sV⟩,⟨m,hn.sameBut hs (Ne.symm (Tt x c hc)),fun j y v' e1 e2 e3=>?_⟩,fun y c' e=>?_,I.free,I.fB,fun p hp=>?_,tracked ⟨oc,hoc,I.fB x c hc⟩ hs,by simpa using I.len⟩ ⟨c,hs,.inr hc⟩
  ·exact(hs.2 b (Nat.ne_of_lt (Nat.lt_of_lt_of_le (Heap.lt_size e) (I.ok.Ts x c B8 hc)))).trans (I.base.keep b o e n hb hx)
  ·obtain⟨sl,e1⟩:=I.base.slot b o e n hb hx
   exact⟨sl,(hs.2 b (Nat.ne_of_lt (Nat.lt_of_lt_of_le (Heap.lt_size e) (I.ok.Ts x c B8 hc)))).trans e1⟩
  ·obtain⟨o',e1⟩:=I.base.there b o e hx
   exact⟨o',(hs.2 b (Nat.ne_of_lt (Nat.lt_of_lt_of_le (Heap.lt_size e) (I.ok.Ts x c B8 hc)))).trans e1⟩
  ·by_cases hj:j=i
   ·subst hj
    rw [hi] at e1; cases e1
    rw [List.getElem?_set_self Zl] at e2
    cases e2
    exact⟨u,r,.inr ⟨.inl hk,c,hc,Ld⟩⟩
   ·rw [List.getElem?_set_ne (Ne.symm hj)] at e2
    obtain⟨u',r',q⟩:=hl j y v' e1 e2 e3
    refine⟨u',r',?_⟩
    rcases q with q | ⟨k,c',e,z'⟩
    ·exact .inl q
    ·refine .inr ⟨k,c',e,z'.sameBut hs ?_⟩
     rintro rfl
     exact hj (vK hN e1 (I.ok.inj _ _ _ e hc▸hi))
  ·by_cases hcc:c'=c
   ·subst hcc; exact⟨_,Ld⟩
   ·obtain⟨w2,z2⟩:=I.cell y c' e
    exact⟨w2,z2.sameBut hs hcc⟩
  ·obtain⟨e,n,ne,nf,d⟩:=I.pin p hp
   refine⟨(hs.2 p.1 ?_).trans e,n,ne,nf,d⟩
   intro q
   rw [q,hoc] at e
   have q':oc=p.2:=Option.some.inj e
   exact d w' (by rw [←q']; exact afd)
theorem j4 {M:Model}{A:Around}{E:Value→Shared→Prop}{i:Nat}{x:Str}{v:V}{u:Value}{Q:Unit→Shared→Prop}(I:Inv X pins σ H s) (hN:X.N.Nodup) (hi:X.N[i]?=some x) (hx:Loc X.env.scope x) (r:RelV v u)
  (h:∀s',Inv X pins (σ.set i (some v)) H s'→Q () s') (hf:X.fn x=true∨X.env.scope.names.lookup x=some .local:=by first | exact .inl rfl | exact .inr rfl | assumption):wpAny M A (storeName X.env x u) Q E s:=
 Dh I hN hi hx r (fun s' I' _=>h s' I') hf
theorem Inv.Ph {s':Shared}{ch:List Addr}(I:Inv X pins σ H s) (ho:s'.os=s.os) (u:Un (B5 X.stack) ch H H' s.heap s'.heap) (bS:jt X.prog X.w H' s'.heap) (hg:AllBare s'.gens)
  (Lc:∀b∈ch,(b∈X.ex∨X.s₀.heap.objs.size≤b)∧b≠X.env.locals∧(∀x c,X.env.cells.lookup x=some c→c≠b)∧∀p∈X.pn++pins,p.1≠b):Inv X pins σ H' s':=by
 obtain⟨h',g',d',t',o'⟩:=s'
 have e:o'=s.os:=ho
 subst e
 exact I.call (g':=g') (t':=t') (d':=d') u bS hg Lc
end
noncomputable abbrev XK:=Value→Option Addr→Hp→Prop
noncomputable abbrev St:=List (Option V)
noncomputable abbrev VK:=V→Hp→Prop
noncomputable abbrev TE:=St→Hp→VK→Prop
noncomputable abbrev TT:=St→Hp→(Bool→Hp→Prop)→Prop
noncomputable abbrev TA:=St→Hp→(List V→Hp→Prop)→Prop
structure Ends where
 nx:St→Hp→Prop
 rt:VK
 bk:St→Hp→Prop:=fun _ _=>False
 ct:St→Hp→Prop:=fun _ _=>False
noncomputable abbrev TS:=Ends→St→Hp→Prop
noncomputable def EP (X:Cx) (pins:List (Addr×Obj)) (σ:St) (Q:VK) (u:Value) (s':Shared):Prop:=∃v H',Inv X pins σ H' s'∧RelV v u∧Q v H'
noncomputable def TP (X:Cx) (pins:List (Addr×Obj)) (σ:St) (Q:Bool→Hp→Prop) (b:Bool) (s':Shared):Prop:=∃H',Inv X pins σ H' s'∧Q b H'
noncomputable def AP (X:Cx) (pins:List (Addr×Obj)) (σ:St) (Q:List V→Hp→Prop) (us:List Value) (s':Shared):Prop:=∃vs H',Inv X pins σ H' s'∧Vals vs us∧Q vs H'
noncomputable def SP (X:Cx) (pins:List (Addr×Obj)) (D:Ends) (f:Flow) (s':Shared):Prop:=
 match f with
 | .next=>∃σ' H',Inv X pins σ' H' s'∧D.nx σ' H'
 | .brk=>∃σ' H',Inv X pins σ' H' s'∧D.bk σ' H'
 | .cont=>∃σ' H',Inv X pins σ' H' s'∧D.ct σ' H'
 | .ret u=>∃v σ' H',Inv X pins σ' H' s'∧RelV v u∧D.rt v H'
noncomputable def PE (X:Cx) (e:Expr) (t:TE):Prop:=
 ∀(pins:List (Addr×Obj)) (s:Shared) (σ:St) (H:Hp) (Q:VK),Inv X pins σ H s→t σ H Q→wpAny (model X.prog X.w) X.A (eval e X.env) (EP X pins σ Q) X.xe s
noncomputable def PT (X:Cx) (e:Expr) (t:TT):Prop:=
 ∀(pins:List (Addr×Obj)) (s:Shared) (σ:St) (H:Hp) (Q:Bool→Hp→Prop),Inv X pins σ H s→t σ H Q→wpAny (model X.prog X.w) X.A (isTrue e X.env (eval e X.env)) (TP X pins σ Q) X.xe s
noncomputable def PW (X:Cx) (e:Expr) (t:TT):Prop:=
 ∀(whole:Sem Value) (pins:List (Addr×Obj)) (s:Shared) (σ:St) (H:Hp) (Q:Bool→Hp→Prop),Inv X pins σ H s→t σ H Q→wpAny (model X.prog X.w) X.A (isTrue e X.env whole) (TP X pins σ Q) X.xe s
theorem PW.pt {X:Cx}{e:Expr}{t:TT}(h:PW X e t):PT X e t:=h _
noncomputable def PA (X:Cx) (es:List Expr) (t:TA):Prop:=
 ∀(pos:Pos) (pins:List (Addr×Obj)) (s:Shared) (σ:St) (H:Hp) (Q:List V→Hp→Prop),Inv X pins σ H s→t σ H Q→wpAny (model X.prog X.w) X.A (spliced (backTo pos (starEach es X.env))) (AP X pins σ Q) X.xe s
noncomputable def PS (X:Cx) (st:Stmt) (t:TS):Prop:=
 ∀(pins:List (Addr×Obj)) (s:Shared) (σ:St) (H:Hp) (D:Ends),Inv X pins σ H s→t D σ H→wpAny (model X.prog X.w) X.A (exec st X.env) (SP X pins D) X.xe s
noncomputable def sZ (X:Cx) (st:List Stmt) (t:TS):Prop:=
 ∀(pins:List (Addr×Obj)) (s:Shared) (σ:St) (H:Hp) (D:Ends),Inv X pins σ H s→t D σ H→wpAny (model X.prog X.w) X.A (execs st X.env) (SP X pins D) X.xe s
theorem b9 {α:Type}{t:Sem α}{Q Q':α→Shared→Prop}{M:Model}{A:Around}{E:Value→Shared→Prop}{s:Shared}(h:wpAny M A t Q E s) (hQ:∀a s,Q a s→Q' a s):wpAny M A t Q' E s:=wpAny_mono h hQ fun _ _ x=>x
end L2
namespace L2
open PySem PySem.Spec PyProof.Rows
section
variable {X:Cx}
theorem bin {a b:Expr}{ta tb:TE}(ha:PE X a ta) (hb:PE X b tb) {pins:List (Addr×Obj)}{s:Shared}{σ:St}{H:Hp}{R:V→V→Hp→Prop}(I:Inv X pins σ H s) (h:ta σ H fun x H1=>tb σ H1 fun y H2=>R x y H2)
  {α:Type}{Q:α→Shared→Prop}{f:Value→Value→Sem α}
  (hf:∀v u s2 x y H2,Inv X pins σ H2 s2→RelV x v→RelV y u→R x y H2→wpAny (model X.prog X.w) X.A (f v u) Q X.xe s2) :
  wpAny (model X.prog X.w) X.A (eval a X.env) (fun v s₁=>wpAny (model X.prog X.w) X.A (eval b X.env) (fun u s₂=>wpAny (model X.prog X.w) X.A (f v u) Q X.xe s₂) X.xe s₁) X.xe s:=by
 refine b9 (ha pins s σ H _ I h) fun v s1 ⟨x,H1,I1,r1,q1⟩=>?_
 refine b9 (hb pins s1 σ H1 _ I1 q1) fun u s2 ⟨y,H2,I2,r2,q2⟩=>?_
 exact hf v u s2 x y H2 I2 r1 r2 q2
noncomputable def n_ (i:Nat):TE:=fun σ H Q=>∃v,σ[i]?=some (some v)∧Q v H
noncomputable def tC (v:V):TE:=fun _ H Q=>Q v H
theorem Tu {i:Nat}{x:Str}{pos:Pos}(hN:X.N[i]?=some x) (hv:Vis X.env.scope x) (hd:(x == ("__debug__":Str))=false:=by decide) (s_:(x == ("__classdict__":Str))=false:=by decide):PE X (.Name x pos) (n_ i):=by
 intro pins s σ H Q I h
 obtain⟨v,e,h⟩:=h
 obtain⟨m,hn,hl⟩:=I.loc
 obtain⟨u,r,l⟩:=hl i x v hN e hv
 have fin:EP X pins σ Q u s:=⟨v,H,I,r,h⟩
 rcases l with ⟨hk,hm⟩ | ⟨hk,c,hc,gL⟩
 ·exact wpAny_Name (wpAny_loadName_local I.ok.kind hk hn hm fin) hd
 ·rcases hk with hk | hk
  ·exact wpAny_Name (wpAny_loadName_cell I.ok.kind hk hc gL fin) hd
  ·exact wpAny_Name (wpAny_loadName_free I.ok.kind hk hc gL fin s_) hd
theorem aq {i j pos}:PE X (.Constant (.int i) j pos) (tC (.int i)):=fun _ _ _ H _ I h=>wpAny_Constant_int ⟨.int i,H,I.tok _,⟨_,rfl⟩,h⟩
theorem gM {b j pos}:PE X (.Constant (.bool b) j pos) (tC (.bl b)):=fun _ _ _ H _ I h=>Constant_bool ⟨.bl b,H,I,rfl,h⟩
theorem dc {j pos}:PE X (.Constant .none j pos) (tC .bf):=fun _ _ _ H _ I h=>Constant_none ⟨.bf,H,I,rfl,h⟩
theorem aT {x j pos}:PE X (.Constant (.str x) j pos) (tC (.str x)):=fun _ _ _ H _ I h=>Calls.Constant_str ⟨.str x,H,I.tok _,⟨_,rfl⟩,h⟩
noncomputable def Gl (X:Cx) (x:Str):Prop:=X.env.kindOf x=some .globalImplicit
theorem tj {E:Value→Shared→Prop}{pins:List (Addr×Obj)}{s:Shared}{σ:St}{H:Hp}{x:Str}{u:Value}{pos:Pos}{Q:Value→Shared→Prop}(I:Inv X pins σ H s) (hg:Gl X x) (hm:X.mg x=some u) (h:Q u s)
  (hd:(x == ("__debug__":Str))=false:=by decide):wpAny (model X.prog X.w) X.A (eval (.Name x pos) X.env) Q E s:=
 Calls.Name_function_global I.ok.kind hg (Calls.loadGlobal_global (by rw [I.ok.glob]; exact I.mod.glob.keeps I.bk) hm h) hd
theorem lD {E:Value→Shared→Prop}{pins:List (Addr×Obj)}{s:Shared}{σ:St}{H:Hp}{x:Str}{u:Value}{pos:Pos}{Q:Value→Shared→Prop}(I:Inv X pins σ H s) (hg:Gl X x) (hm:X.mg x=none) (hv:bootBuiltins x=some u) (h:Q u s)
  (hn:x≠"__name__":=by decide) (hd:(x == ("__debug__":Str))=false:=by decide):wpAny (model X.prog X.w) X.A (eval (.Name x pos) X.env) Q E s:=by
 obtain⟨mb,h1,h2⟩:=I.mod.blt
 exact Calls.Name_function_global I.ok.kind hg (Calls.loadGlobal_builtin (by rw [I.ok.glob]; exact I.mod.glob.keeps I.bk) hm (by rw [I.ok.blt]; exact h1.keeps I.bk) ((h2 x hn).trans hv) h) hd
theorem cE {x:Str}{v:V}{u:Value}{pos:Pos}(hg:Gl X x) (hm:X.mg x=some u) (r:RelV v u) (hd:(x == ("__debug__":Str))=false:=by decide):PE X (.Name x pos) (tC v):=
 fun _ _ _ H _ I h=>tj I hg hm ⟨v,H,I,r,h⟩ hd
variable {a b:Expr}{ta tb:TE}{pos:Pos}
noncomputable def PC (X:Cx) (op:CmpOp) (a b:Expr) (t:TE):Prop:=
 ∀(pins:List (Addr×Obj)) (s:Shared) (σ:St) (H:Hp) (Q:VK),Inv X pins σ H s→t σ H Q →
  wpAny (model X.prog X.w) X.A (eval a X.env) (fun v s₁=>wpAny (model X.prog X.w) X.A (eval b X.env) (fun u s₂=>wpAny (model X.prog X.w) X.A (compareOp op v u) (EP X pins σ Q) X.xe s₂) X.xe s₁) X.xe s
theorem vL (b:Expr) {op:CmpOp}(h:op≠.In) (h2:op≠.NotIn):behindInMarks op b=false:=by
 have e1:(op == CmpOp.In)=false:=by cases op <;> first | rfl | exact absurd rfl h
 have e2:(op == CmpOp.NotIn)=false:=by cases op <;> first | rfl | exact absurd rfl h2
 cases b <;> simp [behindInMarks,e1,e2]
noncomputable def tB (t:TE):TT:=fun σ H Q=>t σ H fun x H1=>∃c,x=.bl c∧Q c H1
theorem Tv {op:CmpOp}{t:TE}(h:PC X op a b t) (h1:behindInMarks op b=false:=by first | exact vL _ (by decide) (by decide) | rfl):PE X (.Compare a [op] [b] pos) t:=fun pins s σ H Q I hw=>wpAny_Compare1 (h pins s σ H Q I hw) h1
theorem afe {op:CmpOp}{t:TE}(h:PC X op a b t) (h1:behindInMarks op b=false:=by first | exact vL _ (by decide) (by decide) | rfl):PT X (.Compare a [op] [b] pos) (tB t):=by
 intro pins s σ H Q I hw
 refine wpAny_isTrue_Compare1 (b9 (h pins s σ H _ I hw) fun v s1 h1=>b9 h1 fun u s2 h2=>b9 h2 fun c s3 ⟨x,H1,I1,r1,q1⟩=>?_) h1
 obtain⟨d,rfl,q⟩:=q1
 cases r1
 exact wpAny_truthy_bool ⟨H1,I1,q⟩
theorem dU {e:Expr}{t:TE}(h:PE X e t) (he:∀whole,isTrue e X.env whole=(do let v ←whole; standAt e.pos; holding [v] (truthy v)):=by intro _; rfl):PT X e (tB t):=by
 intro pins s σ H Q I hw
 refine isTrue_plain (b9 (h pins s σ H _ I hw) fun v s1 ⟨x,H1,I1,r1,q1⟩=>?_) (he _)
 obtain⟨d,rfl,q⟩:=q1
 cases r1
 exact wpAny_truthy_bool ⟨H1,I1,q⟩
variable {tA tB':TT}{rest:List Expr}
noncomputable def Zm (t u:TT):TT:=fun σ H Q=>t σ H fun c H1=>if c=true then u σ H1 Q else Q false H1
noncomputable def tOr (t u:TT):TT:=fun σ H Q=>t σ H fun c H1=>if c=true then Q true H1 else u σ H1 Q
noncomputable def Zn (t:TT):TT:=fun σ H Q=>t σ H fun c H1=>Q (!c) H1
theorem gp (ha:PT X a tA):PW X (.BoolOp .And [a] pos) tA:=by
 intro wh pins s σ H Q I h
 refine isTrue_and (b9 (ha pins s σ H Q I h) fun c s1 e=>?_)
 cases c with
 | true=>exact isTrue_and_nil e
 | false=>exact e
theorem Ag (ha:PT X a tA):PW X (.BoolOp .Or [a] pos) tA:=by
 intro wh pins s σ H Q I h
 refine isTrue_or (b9 (ha pins s σ H Q I h) fun c s1 e=>?_)
 cases c with
 | false=>exact isTrue_or_nil e
 | true=>exact e
theorem eZ (ha:PT X a tA) (hb:PW X (.BoolOp .And (b::rest) pos) tB'):PW X (.BoolOp .And (a::b::rest) pos) (Zm tA tB'):=by
 intro wh pins s σ H Q I h
 refine isTrue_and (b9 (ha pins s σ H _ I h) fun c s1 ⟨H1,I1,q1⟩=>?_)
 cases c with
 | true=>exact hb wh pins s1 σ H1 Q I1 q1
 | false=>exact⟨H1,I1,q1⟩
theorem EY (ha:PT X a tA) (hb:PW X (.BoolOp .Or (b::rest) pos) tB'):PW X (.BoolOp .Or (a::b::rest) pos) (tOr tA tB'):=by
 intro wh pins s σ H Q I h
 refine isTrue_or (b9 (ha pins s σ H _ I h) fun c s1 ⟨H1,I1,q1⟩=>?_)
 cases c with
 | true=>exact⟨H1,I1,q1⟩
 | false=>exact hb wh pins s1 σ H1 Q I1 q1
theorem EZ (ha:PT X a tA):PT X (.UnaryOp .Not a pos) (Zn tA):=by
 intro pins s σ H Q I h
 exact isTrue_not (ha pins s σ H (fun c H1=>Q (!c) H1) I h)
noncomputable def Pj (ta tb:TE):TE:=fun σ H Q=>ta σ H fun x H1=>∃c,x=.bl c∧if c=true then tb σ H1 Q else Q (.bl false) H1
noncomputable def aff (ta tb:TE):TE:=fun σ H Q=>ta σ H fun x H1=>∃c,x=.bl c∧if c=true then Q (.bl true) H1 else tb σ H1 Q
noncomputable def Pk (ta:TE):TE:=fun σ H Q=>ta σ H fun x H1=>∃c,x=.bl c∧Q (.bl (!c)) H1
theorem Tw {op} {t:TE}(h:PE X a t):PE X (.BoolOp op [a] pos) t:=fun pins s σ H Q I hw=>BoolOp_one (h pins s σ H Q I hw)
theorem Tx (ha:PE X a ta) (hb:PE X (.BoolOp .And (b::rest) pos) tb):PE X (.BoolOp .And (a::b::rest) pos) (Pj ta tb):=by
 intro pins s σ H Q I h
 refine BoolOp_and (b9 (ha pins s σ H _ I h) fun v s1 ⟨x,H1,I1,r1,q1⟩=>?_)
 obtain⟨c,rfl,q1⟩:=q1
 cases r1
 refine wpAny_truthy_bool ?_
 cases c with
 | true=>exact hb pins s1 σ H1 Q I1 q1
 | false=>exact⟨.bl false,H1,I1,rfl,q1⟩
theorem Tz (ha:PE X a ta):PE X (.UnaryOp .Not a pos) (Pk ta):=by
 intro pins s σ H Q I h
 refine UnaryOp_ (b9 (ha pins s σ H _ I h) fun v s1 ⟨x,H1,I1,r1,q1⟩=>?_)
 obtain⟨c,rfl,q1⟩:=q1
 cases r1
 exact not_of (wpAny_truthy_bool ⟨.bl (!c),H1,I1,rfl,q1⟩)
noncomputable def tIf (t:TT) (ta tb:TE):TE:=fun σ H Q=>t σ H fun c H1=>if c=true then ta σ H1 Q else tb σ H1 Q
theorem e5 {c:Expr}(hc:PT X c tA) (ha:PE X a ta) (hb:PE X b tb):PE X (.IfExp c a b pos) (tIf tA ta tb):=by
 intro pins s σ H Q I h
 refine wpAny_IfExp (b9 (hc pins s σ H _ I h) fun d s1 ⟨H1,I1,q1⟩=>?_)
 cases d with
 | true=>exact ha pins s1 σ H1 Q I1 q1
 | false=>exact hb pins s1 σ H1 Q I1 q1
end
end L2
namespace L2
open PySem PySem.Spec PyProof.Rows
noncomputable def aF (K:PySem.W.Frag) (H:Hp) (a:Addr) (xs:List V):Prop:=
 Rd H a (.lst xs) ∨
  ∃(o:Obj) (aO:Array Value) (n:Nat),K.lookup a=some o∧o.cls=.type "list"∧o.dict=none∧o.data=.seq aO n∧aO.size≤sizeLine∧Vals xs aO.toList
noncomputable def dO (K:PySem.W.Frag) (H:Hp) (a:Addr) (xs:List V):Prop:=
 Rd H a (.tup xs) ∨
  ∃(o:Obj) (aO:Array Value) (n:Nat),K.lookup a=some o∧o.cls=.type "tuple"∧o.data=.seq aO n∧aO.size≤sizeLine∧Vals xs aO.toList
noncomputable def afg:Value→Option V
 | .none=>some .bf
 | .bool b=>some (.bl b)
 | .int i _=>some (.int i)
 | .str x _=>some (.str x)
 | .bytes b _=>some (.EK b)
 | .float b _=>some (.YR b)
 | .ref a=>some (.ref a)
 | .type n=>some (.ty n)
 | _=>none
theorem RelV.abs {x:V}{u:Value}(r:RelV x u):afg u=some x:=by
 cases x with
 | bf=>cases r; rfl
 | bl _=>cases r; rfl
 | int _=>obtain⟨t,rfl⟩:=r; rfl
 | str _=>obtain⟨t,rfl⟩:=r; rfl
 | EK _=>obtain⟨t,rfl⟩:=r; rfl
 | YR _=>obtain⟨t,rfl⟩:=r; rfl
 | ref _=>cases r; rfl
 | ty _=>cases r; rfl
theorem RelV.inj {x y:V}{u:Value}(r:RelV x u) (q:RelV y u):x=y:=Option.some.inj (r.abs.symm.trans q.abs)
theorem Vals.inj:∀{xs ys:List V}{us:List Value},Vals xs us→Vals ys us→xs=ys
 | _,_,_,.nil,.nil=>rfl
 | _,_,_,.cons r t,.cons r' t'=>by rw [r.inj r',Vals.inj t t']
section
variable {X:Cx}{pins:List (Addr×Obj)}{σ:St}{H:Hp}{s:Shared}{a:Addr}{xs ys:List V}
theorem aF.of {K:PySem.W.Frag}(h:H a=some (.lst xs)):aF K H a xs:=.inl (.inl h)
theorem dO.of {K:PySem.W.Frag}(h:H a=some (.tup xs)):dO K H a xs:=.inl (.inl h)
theorem Inv.list (I:Inv X pins σ H s) (h:aF X.K H a xs):∃aO:List Value,Vals xs aO∧PlainL s.heap a aO.toArray∧xs.length≤sizeLine:=by
 rcases h with h | ⟨o,aO,n,hk,hc,hd,hs,hz,r⟩
 ·obtain⟨z,aO,n,r,e⟩:=h.ok I.bS
  exact⟨aO,r,⟨_,n,e,rfl,rfl,rfl⟩,z⟩
 ·refine⟨aO.toList,r,⟨o,n,I.sX a o hk,hc,hd,by simpa using hs⟩,?_⟩
  have e:=r.length
  simp only [Array.length_toList] at e
  omega
theorem Inv.tuple (I:Inv X pins σ H s) (h:dO X.K H a xs):∃aO:List Value,Vals xs aO∧IsTup s.heap a aO.toArray∧xs.length≤sizeLine:=by
 rcases h with h | ⟨o,aO,n,hk,hc,hs,hz,r⟩
 ·obtain⟨z,aO,r,p⟩:=h.ok I.bS
  exact⟨aO,r,p,z⟩
 ·refine⟨aO.toList,r,⟨o,I.sX a o hk,hc,n,by simpa using hs⟩,?_⟩
  have e:=r.length
  simp only [Array.length_toList] at e
  omega
theorem Inv.oa (I:Inv X pins σ H s) (h:aF X.K H a xs) (h':aF X.K H a ys):xs=ys:=by
 obtain⟨aO,r,⟨o,n,e,_,_,d⟩,_⟩:=I.list h
 obtain⟨its',r',⟨o',n',e',_,_,d'⟩,_⟩:=I.list h'
 rw [e] at e'; cases e'
 rw [d] at d'
 injection d' with d1 _
 have:aO=its':=by simpa using congrArg Array.toList d1
 subst this
 exact r.inj r'
theorem Inv.Di (I:Inv X pins σ H s) (h:dO X.K H a xs) (h':dO X.K H a ys):xs=ys:=by
 obtain⟨aO,r,⟨o,e,_,n,d⟩,_⟩:=I.tuple h
 obtain⟨its',r',⟨o',e',_,n',d'⟩,_⟩:=I.tuple h'
 rw [e] at e'; cases e'
 rw [d] at d'
 injection d' with d1 _
 have:aO=its':=by simpa using congrArg Array.toList d1
 subst this
 exact r.inj r'
end
noncomputable abbrev Cx.qt (X:Cx) (E:Value→Shared→Prop):Cx:={X with xe:=E}
noncomputable abbrev Cx.YW (X:Cx):Cx:=X.qt fun _ _=>False
theorem Cx.Ok.qt {X:Cx}(ok:X.Ok) (E:Value→Shared→Prop):(X.qt E).Ok:=
 ⟨ok.mod,ok.kind,ok.glob,ok.blt,ok.above,ok.inj,ok.has,ok.Ts,ok.hd,ok.frames,ok.YV,ok.Pf,ok.bs,ok.B6,ok.vI,ok.vJ,ok.jZ,ok.LB⟩
theorem Cx.Ok.g6 {X:Cx}{E:Value→Shared→Prop}(ok:(X.qt E).Ok):X.Ok:=
 ⟨ok.mod,ok.kind,ok.glob,ok.blt,ok.above,ok.inj,ok.has,ok.Ts,ok.hd,ok.frames,ok.YV,ok.Pf,ok.bs,ok.B6,ok.vI,ok.vJ,ok.jZ,ok.LB⟩
section
variable {X:Cx}{pins:List (Addr×Obj)}{σ:St}{H:Hp}{s:Shared}{E:Value→Shared→Prop}
theorem Inv.qt (I:Inv X pins σ H s) (E:Value→Shared→Prop):Inv (X.qt E) pins σ H s:=⟨I.ok.qt E,I.os,I.bare,I.base,I.loc,I.cell,I.free,I.fB,I.pin,I.bS,I.len⟩
theorem Inv.g6 (I:Inv (X.qt E) pins σ H s):Inv X pins σ H s:=⟨I.ok.g6,I.os,I.bare,I.base,I.loc,I.cell,I.free,I.fB,I.pin,I.bS,I.len⟩
theorem SP.g6 {D:Ends}{f:Flow}{s':Shared}(h:SP (X.qt E) pins D f s'):SP X pins D f s':=by
 cases f with
 | next=>obtain⟨σ',H',I,q⟩:=h; exact⟨σ',H',I.g6,q⟩
 | brk=>obtain⟨σ',H',I,q⟩:=h; exact⟨σ',H',I.g6,q⟩
 | cont=>obtain⟨σ',H',I,q⟩:=h; exact⟨σ',H',I.g6,q⟩
 | ret u=>obtain⟨v,σ',H',I,r,q⟩:=h; exact⟨v,σ',H',I.g6,r,q⟩
theorem sZ.YW {st:List Stmt}{t:TS}(h:sZ X.YW st t):sZ X st t:=fun pins s σ H D I hw=>
 wpAny_mono (h pins s σ H D (I.qt _) hw) (fun _ _ q=>q.g6) fun _ _ z=>False.elim z
end
section
variable {X:Cx}{st:Stmt}{rest:List Stmt}{t u:TS}{e:Expr}{te:TE}{pos:Pos}
noncomputable def Pl:TS:=fun D σ H=>D.nx σ H
noncomputable def Zo (t u:TS):TS:=fun D σ H=>t {D with nx:=u D} σ H
theorem bB:sZ X [] Pl:=fun _ _ σ H _ I h=>wpAny_execs_nil ⟨σ,H,I,h⟩
theorem ag (h1:PS X st t) (h2:sZ X rest u):sZ X (st::rest) (Zo t u):=by
 intro pins s σ H D I h
 refine wpAny_execs_cons (b9 (h1 pins s σ H {D with nx:=u D} I h) fun f s1 q=>?_)
 cases f with
 | next=>
  obtain⟨σ',H',I',q⟩:=q
  exact h2 pins s1 σ' H' D I' q
 | ret v=>exact q
 | brk=>exact q
 | cont=>exact q
theorem ah (h1:PS X st t):sZ X [st] t:=by
 intro pins s σ H D I h
 refine wpAny_execs_cons (b9 (h1 pins s σ H D I h) fun f s1 q=>?_)
 cases f with
 | next=>exact wpAny_execs_nil q
 | ret v=>exact q
 | brk=>exact q
 | cont=>exact q
theorem Inv.quiet {pins:List (Addr×Obj)}{σ:St}{H:Hp}{s:Shared}(I:Inv X pins σ H s):interactive X.env=false:=by simp [interactive,I.ok.kind]
noncomputable def Pm (te:TE):TS:=fun D σ H=>te σ H fun _ H1=>D.nx σ H1
theorem aV (he:PE X e te) (hs:swapsWith e none pos.line X.env=pure false:=by rfl):PS X (.Expr e pos) (Pm te):=by
 intro pins s σ H D I h
 exact wpAny_Expr_any (b9 (he pins s σ H _ I h) fun v s1 ⟨x,H1,I1,r1,q1⟩=>⟨σ,H1,I1,q1⟩) I.quiet hs
noncomputable def Zp (te:TE):TS:=fun D σ H=>te σ H D.rt
theorem aE (he:PE X e te):PS X (.Return (some e) pos) (Zp te):=by
 intro pins s σ H D I h
 exact wpAny_Return_some (b9 (he pins s σ H _ I h) fun v s1 ⟨x,H1,I1,r1,q1⟩=>⟨x,σ,H1,I1,r1,q1⟩)
noncomputable def Zq:TS:=fun D _ H=>D.rt .bf H
noncomputable def Zr (c:TT) (t u:TS):TS:=fun D σ H=>c σ H fun b H1=>if b=true then t D σ H1 else u D σ H1
theorem cO {c:Expr}{a b:List Stmt}{tc:TT}(hc:PT X c tc) (ha:sZ X a t) (hb:sZ X b u):PS X (.If c a b pos) (Zr tc t u):=by
 intro pins s σ H D I h
 refine wpAny_If (b9 (hc pins s σ H _ I h) fun d s1 ⟨H1,I1,q1⟩=>?_)
 cases d with
 | true=>exact ha pins s1 σ H1 D I1 q1
 | false=>exact hb pins s1 σ H1 D I1 q1
noncomputable def TB:TS:=fun _ _ _=>False
end
noncomputable abbrev TG:=V→St→Hp→(St→Hp→Prop)→Prop
noncomputable abbrev LG:=List V→St→Hp→(St→Hp→Prop)→Prop
noncomputable def PG (X:Cx) (target:Expr) (t:TG):Prop:=
 ∀(pins:List (Addr×Obj)) (s:Shared) (σ:St) (H:Hp) (v:V) (u:Value) (Q:St→Hp→Prop),Inv X pins σ H s→RelV v u→t v σ H Q →
  wpAny (model X.prog X.w) X.A (assign target X.env u) (fun _ s'=>∃σ' H',Inv X pins σ' H' s'∧Q σ' H') X.xe s
noncomputable def Zs (X:Cx) (ts:List Expr) (t:LG):Prop:=
 ∀(pins:List (Addr×Obj)) (s:Shared) (σ:St) (H:Hp) (vs:List V) (us:List Value) (Q:St→Hp→Prop),Inv X pins σ H s→Vals vs us→t vs σ H Q →
  wpAny (model X.prog X.w) X.A (assignInOrder ((assignEach ts X.env).map (·.2)) us) (fun _ s'=>∃σ' H',Inv X pins σ' H' s'∧Q σ' H') X.xe s
noncomputable abbrev TC:=V→V→V→Hp→(Hp→Prop)→Prop
noncomputable def Zt (X:Cx) (t:TC):Prop:=
 ∀(pins:List (Addr×Obj)) (s:Shared) (σ:St) (H:Hp) (o i v:V) (ov iv u:Value) (Q:Hp→Prop),Inv X pins σ H s→RelV o ov→RelV i iv→RelV v u→t o i v H Q →
  wpAny (model X.prog X.w) X.A (setItem ov iv u) (fun _ s'=>∃H',Inv X pins σ H' s'∧Q H') X.xe s
noncomputable abbrev TIp:=V→V→Hp→VK→Prop
section
variable {X:Cx}{pos:Pos}
noncomputable def j6 (i:Nat):TG:=fun v σ H Q=>Q (σ.set i (some v)) H
theorem a7 {i:Nat}{x:Str}(hN:X.N.Nodup) (hi:X.N[i]?=some x) (hx:Loc X.env.scope x) (hf:X.fn x=true∨X.env.scope.names.lookup x=some .local:=by first | exact .inl rfl | exact .inr rfl | assumption):PG X (.Name x pos) (j6 i):=by
 intro pins s σ H v u Q I r h
 exact wpAny_assign_Name (j4 I hN hi hx r (fun s' I'=>⟨_,H,I',h⟩) hf)
noncomputable def TF:LG:=fun vs σ H Q=>vs=[]∧Q σ H
noncomputable def B9 (t:TG) (u:LG):LG:=fun vs σ H Q=>∃v r,vs=v::r∧t v σ H fun σ' H'=>u r σ' H' Q
theorem j7:Zs X [] TF:=by
 intro pins s σ H vs us Q I r h
 obtain⟨e,h⟩:=h
 subst e
 cases r
 exact assignInOrder_nil ⟨σ,H,I,h⟩
theorem cP {e:Expr}{es:List Expr}{t:TG}{u:LG}(h1:PG X e t) (h2:Zs X es u)
  (hs:(assignEach (e::es) X.env).map (·.2)=assign e X.env::(assignEach es X.env).map (·.2):=by rfl):Zs X (e::es) (B9 t u):=by
 intro pins s σ H vs us Q I r h
 obtain⟨v,vr,e1,h⟩:=h
 subst e1
 cases r with
 | cons r rr=>
  rw [hs]
  refine assignInOrder_cons (b9 (h1 pins s σ H _ _ _ I r h) fun _ s1 ⟨σ1,H1,I1,q1⟩=>?_)
  exact h2 pins s1 σ1 H1 _ _ Q I1 rr q1
noncomputable def TH (K:PySem.W.Frag) (n:Nat) (t:LG):TG:=fun v σ H Q=>∃a xs,v=.ref a∧dO K H a xs∧xs.length=n∧t xs σ H Q
theorem tD {es:List Expr}{k:Nat}{t:LG}{n:Nat}(hc:X.calm=true) (h:Zs X es t)
  (hn:(assignEach es X.env).length=n:=by rfl) (ju:(assignEach es X.env).findIdx? (·.1)=none:=by rfl):PG X (.Tuple es k pos) (TH X.K n t):=by
 intro pins s σ H v u Q I r hw
 obtain⟨a,xs,e1,hq,hl,hw⟩:=hw
 subst e1
 cases r
 obtain⟨aO,rv,ht,hz⟩:=I.tuple hq
 refine assign_Tuple_tuple (I.ok.hd hc) ht (by simp [hn,←hl,rv.length]) ju fun h' hx=>?_
 have I1:Inv X pins σ H {s with heap:=h'}:=I.kept (t':=s.toks) fun b o e=>hx b o (Nat.ne_of_lt (Heap.lt_size e)) e
 exact h pins _ σ H xs _ Q I1 (by simpa using rv) hw
noncomputable def Zu (to ti:TE) (t:TC):TG:=fun v σ H Q=>to σ H fun o H1=>ti σ H1 fun i H2=>t o i v H2 fun H3=>Q σ H3
theorem og {o i:Expr}{to ti:TE}{t:TC}(ho:PE X o to) (hi:PE X i ti) (hs:Zt X t)
  (ha:∀v,assign (.Subscript o i pos) X.env v=(do
   let ov ←holding [v] (eval o X.env)
   let iv ←holding [v,ov] (eval i X.env)
   standAt pos
   holding [v,ov,iv] (setItem ov iv v)
   release [v,ov,iv] []):=by intro _; rfl):PG X (.Subscript o i pos) (Zu to ti t):=by
 intro pins s σ H v u Q I r h
 rw [ha]
 refine wpAny_bind (wpAny_holding (b9 (ho pins s σ H _ I h) fun ov s1 ⟨x,H1,I1,r1,q1⟩=>?_))
 refine wpAny_bind (wpAny_holding (b9 (hi pins s1 σ H1 _ I1 q1) fun iv s2 ⟨y,H2,I2,r2,q2⟩=>?_))
 refine wpAny_bind (wpAny_standAt (wpAny_bind (wpAny_holding (b9 (hs pins s2 σ H2 x y v ov iv u _ I2 r1 r2 r q2) fun _ s3 ⟨H3,I3,q3⟩=>?_))))
 exact wpAny_release ⟨σ,H3,I3,q3⟩
noncomputable def E8 (te:TE) (g:TG):TS:=fun D σ H=>te σ H fun x H1=>g x σ H1 D.nx
theorem jv {tg e:Expr}{te:TE}{g:TG}(he:PE X e te) (hg:PG X tg g) (hs:swapsWithSole [tg] e pos.line X.env=pure false:=by rfl) (hw:swappedStores [tg] e X.env=pure none:=by rfl)
  (h1:(assignEach [tg] X.env).map (·.2)=[assign tg X.env]:=by rfl):PS X (.Assign [tg] e pos) (E8 te g):=by
 intro pins s σ H D I h
 refine wpAny_Assign_stores (b9 (he pins s σ H _ I h) fun v s1 ⟨x,H1,I1,r1,q1⟩=>?_) hs hw
 rw [h1]
 exact b9 (hg pins s1 σ H1 x v _ I1 r1 q1) fun _ s2 q=>q
theorem aN {i:Nat}{x:Str}{e:Expr}{te:TE}{pos':Pos}(hN:X.N.Nodup) (hi:X.N[i]?=some x) (hx:Loc X.env.scope x) (he:PE X e te) (hs:swapsWith e (some (.Name x pos')) pos.line X.env=pure false:=by rfl) (hf:X.fn x=true∨X.env.scope.names.lookup x=some .local:=by first | exact .inl rfl | exact .inr rfl | assumption) :
  PS X (.Assign [.Name x pos'] e pos) (E8 te (j6 i)):=by
 intro pins s σ H D I h
 refine wpAny_Assign_Name (b9 (he pins s σ H _ I h) fun v s1 ⟨y,H1,I1,r1,q1⟩=>?_) hs
 exact j4 I1 hN hi hx r1 (fun s2 I2=>⟨_,H1,I2,q1⟩) hf
noncomputable def afh (i:Nat) (te:TE) (ti:TIp):TS:=fun D σ H=>∃x,σ[i]?=some (some x)∧te σ H fun y H1=>ti x y H1 fun z H2=>D.nx (σ.set i (some z)) H2
noncomputable def ipI (f:Int→Int→Int):TIp:=fun x y H Q=>∃i j,x=.int i∧y=.int j∧Q (.int (f i j)) H
end
section
variable {X:Cx}{pos:Pos}
noncomputable def E9 (c:TT) (tb:TS):TS:=fun D σ H=>∃W:Nat→St→Hp→Prop,(∃m,W m σ H)∧∀m σ H,W m σ H →
 c σ H fun b H1=>if b=true then ∃N:St→Hp→Prop,(∀σ' H',N σ' H'→∃m',m' < m∧W m' σ' H')∧tb {D with nx:=N,ct:=N,bk:=D.nx} σ H1 else D.nx σ H1
theorem E_ {c:Expr}{body:List Stmt}{tc:TT}{tb:TS}(hp:PassesOwn (model X.prog X.w) X.A X.env X.xe) (hc:PT X c tc) (hb:sZ X body tb):PS X (.While c body [] pos) (E9 tc tb):=by
 intro pins s σ H D I h
 obtain⟨W,⟨m0,w0⟩,turn⟩:=h
 refine wpAny_While (codeAny_whileLoop (fun n s'=>∃σ' H',Inv X pins σ' H' s'∧W n σ' H') ?_ m0 ⟨σ,H,I,w0⟩)
 rintro n s1 ⟨σ1,H1,I1,w1⟩
 refine wpAny_passesOwn hp (b9 (hc pins s1 σ1 H1 _ I1 (turn n σ1 H1 w1)) fun b s2 ⟨H2,I2,q2⟩=>?_)
 cases b with
 | true=>
  obtain⟨N,hN,q2⟩:=q2
  rw [if_pos rfl]
  refine wpAny_passesOwn hp (b9 (hb pins s2 σ1 H2 _ I2 q2) fun f s3 q3=>?_)
  cases f with
  | next=>
   obtain⟨σ3,H3,I3,n3⟩:=q3
   obtain⟨m',hm,w3⟩:=hN σ3 H3 n3
   exact⟨m',hm,σ3,H3,I3,w3⟩
  | cont=>
   obtain⟨σ3,H3,I3,n3⟩:=q3
   obtain⟨m',hm,w3⟩:=hN σ3 H3 n3
   exact⟨m',hm,σ3,H3,I3,w3⟩
  | brk=>exact q3
  | ret v=>exact q3
 | false=>
  rw [if_neg Bool.false_ne_true]
  exact wpAny_execs_nil ⟨σ1,H2,I2,q2⟩
end
structure It where
 go:Nat→Hp→Prop
 Pn:Nat→Hp→V→Hp→Prop
 stop:Nat→Hp→Prop
noncomputable def fX (X:Cx) (pins:List (Addr×Obj)) (H:Hp) (b:Addr):Prop:=
 H b=none∧b≠X.env.locals∧b∉X.fs∧(b∈X.ex∨X.s₀.heap.objs.size≤b)∧(∀x c,X.env.cells.lookup x=some c→c≠b)∧∀p∈X.pn++pins,p.1≠b
theorem Inv.LH {X:Cx}{pins:List (Addr×Obj)}{σ:St}{H H':Hp}{s:Shared}{b:Addr}(I:Inv X pins σ H s) (hb:s.heap.objs.size≤b) (hn:H' b=none):fX X pins H' b:=by
 refine⟨hn,Nat.ne_of_gt (Nat.lt_of_lt_of_le I.lt hb),I.LC hb,.inr (Nat.le_trans I.sz hb),fun x c e z=>?_,fun p hp z=>?_⟩
 ·obtain⟨v,q⟩:=I.cell x c e
  exact absurd (Nat.lt_of_lt_of_le q.lt (by rw [z]; exact hb)) (Nat.lt_irrefl _)
 ·exact absurd (Nat.lt_of_lt_of_le (Heap.lt_size (I.pin p hp).1) (by rw [z]; exact hb)) (Nat.lt_irrefl _)
structure Turn (P:Program) (w:World) (K:PySem.W.Frag) (tg:Expr) (J:It) (fp:List Addr) (it:Addr) (tn:Nat→Heap→Prop):Prop where
 mem:it∈fp
 obj:∀i h,tn i h→∀b∈fp,∃o,h.get? b=some o∧∀v,o.data≠.cell v
 keep:∀i h h',tn i h→(∀b∈fp,∀o,h.get? b=some o→h'.get? b=some o)→tn i h'
 item:∀(X:Cx),X.prog=P→X.w=w→X.K=K→X.calm=true→∀(i:Nat) (pins:List (Addr×Obj)) (s:Shared) (σ:St) (H:Hp) (E:Value→Shared→Prop),Inv X pins σ H s→(∀b∈fp,fX X pins H b)→tn i s.heap→J.go i H →
  wpAny (model P w) X.A (pyNext (.ref it)) (fun r s1=>∃u,r=some u ∧
   wpAny (model P w) X.A (letOwnedTupleGo tg (.ref it) u) (fun _ s2=>∃x H',Inv X pins σ H' s2∧RelV x u∧J.Pn i H x H'∧tn (i+1) s2.heap∧∀b∈fp,H' b=none) E s1) E s
 done:∀(X:Cx),X.prog=P→X.w=w→X.K=K→X.calm=true→∀(i:Nat) (pins:List (Addr×Obj)) (s:Shared) (σ:St) (H:Hp) (E:Value→Shared→Prop),Inv X pins σ H s→(∀b∈fp,fX X pins H b)→tn i s.heap→J.stop i H →
  wpAny (model P w) X.A (pyNext (.ref it)) (fun r s1=>r=none∧Inv X pins σ H s1) E s
 self:∀(A:Around) (i:Nat) (s:Shared) (Q:Value→Shared→Prop) (E:Value→Shared→Prop),tn i s.heap→Q (.ref it) s→wpAny (model P w) A (pyIter (.ref it)) Q E s
noncomputable abbrev TI:=St→Hp→(It→Hp→Prop)→Prop
noncomputable def PIE (X:Cx) (pins:List (Addr×Obj)) (σ:St) (tg:Expr) (R:It→Hp→Prop) (YX:Value) (s2:Shared):Prop:=
 ∃(it:Addr) (fp:List Addr) (tn:Nat→Heap→Prop) (J:It) (H':Hp),YX=.ref it∧Inv X pins σ H' s2∧Turn X.prog X.w X.K tg J fp it tn∧tn 0 s2.heap∧(∀b∈fp,fX X pins H' b)∧R J H'
noncomputable def PI (X:Cx) (tg iter:Expr) (wi:TI):Prop:=
 ∀(pins:List (Addr×Obj)) (s:Shared) (σ:St) (H:Hp) (R:It→Hp→Prop),Inv X pins σ H s→wi σ H R →
  wpAny (model X.prog X.w) X.A (eval iter X.env) (fun v s1=>wpAny (model X.prog X.w) X.A (pyIter v) (PIE X pins σ tg R) X.xe s1) X.xe s
theorem Po {M:Model}{A:Around}{E:Value→Shared→Prop}{s:Shared}{tg:Expr}{it:Addr}{u:Value}{o:Obj}{n:String}{vs:Array Value}{Q:Unit→Shared→Prop}(ho:s.heap.get? it=some o) (hc:o.cls=.type n) (hd:o.data=.fields vs)
    (hn:["enumerate","zip","dict_itemiterator","dict_reverseitemiterator","odict_iterator","itertools.zip_longest","itertools.pairwise"].contains n=false) (hQ:Q () s):wpAny M A (letOwnedTupleGo tg (.ref it) u) Q E s:=by
  unfold letOwnedTupleGo
  cases tg <;> first
    | exact wpAny_pure hQ
    | (cases u <;> first
        | exact wpAny_pure hQ
        | (refine wpAny_bind (wpAny_load ho ?_)
           rw [hc,hd]
           show wpAny M A (if (["enumerate","zip","dict_itemiterator","dict_reverseitemiterator","odict_iterator","itertools.zip_longest","itertools.pairwise"].contains n&&vs[0]? == some (rawInt _))=true then _ else _) Q E s
           rw [if_neg (by intro h; rw [hn,Bool.false_and] at h; cases h)]
           exact wpAny_pure hQ))
noncomputable def EM (K:PySem.W.Frag) (a:Addr):It:=
 ⟨fun i H=>∃xs x,aF K H a xs∧xs[i]?=some x,fun i H x H'=>H'=H∧∀xs,aF K H a xs→xs[i]?=some x,fun i H=>∃xs,aF K H a xs∧xs.length≤i⟩
noncomputable def Itt (K:PySem.W.Frag) (a:Addr):It:=
 ⟨fun i H=>∃xs x,dO K H a xs∧xs[i]?=some x,fun i H x H'=>H'=H∧∀xs,dO K H a xs→xs[i]?=some x,fun i H=>∃xs,dO K H a xs∧xs.length≤i⟩
noncomputable def LI (lo:Int) (n:Nat):It:=⟨fun i _=>i < n,fun i H x H'=>H'=H∧x=.int (lo+i),fun i _=>n≤i⟩
theorem Dj {P:Program}{w:World}{K:PySem.W.Frag}{tg:Expr}(a it:Addr):Turn P w K tg (EM K a) [it] it (fun i h=>h.IsListIter it a i) where
 mem:=by simp
 obj:=fun i h st b hb=>by
  have e:b=it:=by simpa using hb
  subst e
  obtain⟨o,e,c,d⟩:=st
  exact⟨o,e,fun v z=>by rw [d] at z; cases z⟩
 keep:=fun i h h' st k=>st.at fun o e=>k it (by simp) o e
 item:=by
  intro X hP hw hK hc i pins s σ H E I hf st hg
  subst hP hw hK
  obtain⟨xs,x,hq,hx⟩:=hg
  obtain⟨aO,rv,p,hz⟩:=I.list hq
  obtain⟨u,hu,ru⟩:=rv.get hx
  obtain⟨f0,f1,f2,f3,f4,f5⟩:=hf it (by simp)
  refine wpAny_pyNext_list_item st p.isList (x:=u) (by simpa using hu) fun h' TJ sb=>?_
  have I1:Inv X pins σ H {s with heap:=h'}:=I.turned (t':=s.toks) (fun b o hb e=>(sb.2 b hb).trans e) f0 f1 f3 f4 f5
  obtain⟨o,e,c,d⟩:=id TJ
  exact⟨u,rfl,Po (s:={s with heap:=h'}) e c d (by decide) ⟨x,H,I1,ru,⟨rfl,fun ys hy=>by rw [I.oa hy hq]; exact hx⟩,TJ,fun b hb=>(hf b hb).1⟩⟩
 done:=by
  intro X hP hw hK hc i pins s σ H E I hf st hg
  subst hP hw hK
  obtain⟨xs,hq,hx⟩:=hg
  obtain⟨aO,rv,p,hz⟩:=I.list hq
  obtain⟨f0,f1,f2,f3,f4,f5⟩:=hf it (by simp)
  have hl:=rv.length
  exact wpAny_pyNext_list_end (I.ok.hd hc) st p.isList (by simp; omega) fun h' eb=>⟨rfl,I.turned (t':=s.toks) (fun b o hb e=>eb b o hb e) f0 f1 f3 f4 f5⟩
 self:=fun _ _ _ _ _ st h=>wpAny_pyIter_listiter st h
theorem Ah {P:Program}{w:World}{K:PySem.W.Frag}{tg:Expr}(it:Addr) (lo:Int) (n:Nat):Turn P w K tg (LI lo n) [it] it (fun i h=>IsRangeIter h it (lo+(i:Nat)*1) ((n:Int) - (i:Nat)) 1) where
 mem:=by simp
 obj:=fun i h st b hb=>by
  have e:b=it:=by simpa using hb
  subst e
  exact⟨_,st,fun v z=>by
   have z':Data.fields _=Data.cell v:=z
   cases z'⟩
 keep:=fun i h h' st k=>k it (by simp) _ st
 item:=by
  intro X hP hw hK hc i pins s σ H E I hf st hg
  subst hP hw hK
  obtain⟨f0,f1,f2,f3,f4,f5⟩:=hf it (by simp)
  have W:=Walks.range (prog:=X.prog) (w:=X.w) (I.ok.hd hc) it lo 1 n
  refine W.item i s _ _ hg st fun v h' tk hv TJ kk=>?_
  obtain⟨t,rfl⟩:=hv
  have I1:Inv X pins σ H {s with heap:=h',toks:=tk}:=I.turned (fun b o hb e=>kk b o (by simpa using hb) e) f0 f1 f3 f4 f5
  refine⟨_,rfl,Po (s:={s with heap:=h',toks:=tk}) (n:="range_iterator") TJ rfl rfl (by decide) ⟨.int (lo+i),H,I1,⟨t,?_⟩,⟨rfl,rfl⟩,TJ,fun b hb=>(hf b hb).1⟩⟩
  rw [Int.mul_one]
 done:=by
  intro X hP hw hK hc i pins s σ H E I hf st hg
  subst hP hw hK
  obtain⟨f0,f1,f2,f3,f4,f5⟩:=hf it (by simp)
  exact wpAny_pyNext_range_end (I.ok.hd hc) st (by have:n≤i:=hg; omega) fun h' eb=>⟨rfl,I.turned (t':=s.toks) (fun b o hb e=>eb b o hb e) f0 f1 f3 f4 f5⟩
 self:=fun _ _ _ _ _ st h=>wpAny_pyIter_rangeiter st h
end L2
namespace L2
open PySem PySem.Spec PyProof.Rows
section
variable {X:Cx}{tg:Expr}
noncomputable def vM (K:PySem.W.Frag) (tl:TE):TI:=fun σ H R=>tl σ H fun x H1=>∃a,x=.ref a∧(∃xs,aF K H1 a xs)∧R (EM K a) H1
noncomputable def afi (K:PySem.W.Frag) (tl:TE):TI:=fun σ H R=>tl σ H fun x H1=>∃a,x=.ref a∧(∃xs,dO K H1 a xs)∧R (Itt K a) H1
theorem bg {l:Expr}{tl:TE}(hl:PE X l tl):PI X tg l (vM X.K tl):=by
 intro pins s σ H R I h
 refine b9 (hl pins s σ H _ I h) fun v s1 ⟨x,H1,I1,r1,q1⟩=>?_
 obtain⟨a,e,⟨xs,hq⟩,q⟩:=q1
 subst e
 cases r1
 obtain⟨aO,rv,p,hz⟩:=I1.list hq
 refine wpAny_pyIter_list p.isList ?_
 refine⟨s1.heap.objs.size,[s1.heap.objs.size],_,_,H1,rfl,I1.kept (t':=s1.toks) fun b o e=>Heap.get?_push_of_some _ e,Dj a _,⟨_,Heap.get?_push_size _ rfl,rfl,rfl⟩,fun b hb=>?_,q⟩
 have e:b=s1.heap.objs.size:=by simpa using hb
 subst e
 exact I1.LH (Nat.le_refl _) (I1.bS.fresh (Nat.le_refl _))
theorem vN {pins:List (Addr×Obj)}{σ:St}{H:Hp}{s:Shared}{R:It→Hp→Prop}{E:Value→Shared→Prop}{lo hi:Int}{t u v:Tok}{tk:Nat}(I:Inv X pins σ H s) (h1:-(2 ^ 62)≤lo) (h2:lo < 2 ^ 62) (h3:-(2 ^ 62)≤hi) (h4:hi < 2 ^ 62)
  (q:R (LI lo (hi - lo).toNat) H):wpAny (model X.prog X.w) X.A (pyIter (.ref s.heap.objs.size)) (PIE X pins σ tg R) E {s with heap:=s.heap.push {cls:=.type "range",data:=.fields #[.int lo t,.int hi u,.int 1 v]},toks:=tk}:=by
 refine wpAny_pyIter_range (IsRange.new ..) (small_one h1 h2 h3 h4) ?_
 have I1:Inv X pins σ H {s with heap:=s.heap.push {cls:=.type "range",data:=.fields #[.int lo t,.int hi u,.int 1 v]},toks:=tk}:=I.kept fun b o e=>Heap.get?_push_of_some _ e
 refine⟨(s.heap.push {cls:=.type "range",data:=.fields #[.int lo t,.int hi u,.int 1 v]}).objs.size,[(s.heap.push {cls:=.type "range",data:=.fields #[.int lo t,.int hi u,.int 1 v]}).objs.size],_,_,H,rfl,
  I1.kept (t':=tk) fun b o e=>Heap.get?_push_of_some _ e,Ah _ lo (hi - lo).toNat,?_,fun b hb=>?_,q⟩
 ·have e1:lo+((0:Nat):Int)*1=lo:=by simp
  have e2:(((hi - lo).toNat:Nat):Int) - ((0:Nat):Int)=Builtin.Range.rangeSize lo hi 1:=by rw [rangeSize_one]; split <;> omega
  show IsRangeIter _ _ (lo+((0:Nat):Int)*1) ((((hi - lo).toNat:Nat):Int) - ((0:Nat):Int)) 1
  rw [e1,e2]
  exact Heap.get?_push_size _ rfl
 ·have e:b=(s.heap.push {cls:=.type "range",data:=.fields #[.int lo t,.int hi u,.int 1 v]}).objs.size:=by simpa using hb
  subst e
  exact I1.LH (Nat.le_refl _) (I1.bS.fresh (Nat.le_refl _))
noncomputable def Pp (ta:TA):TI:=fun σ H R=>ta σ H fun vs H1=>∃j:Int,vs=[.int j]∧-(2 ^ 62)≤j∧j < 2 ^ 62∧R (LI 0 j.toNat) H1
noncomputable def Pq (ta:TA):TI:=fun σ H R=>ta σ H fun vs H1=>∃i j:Int,vs=[.int i,.int j]∧(-(2 ^ 62)≤i∧i < 2 ^ 62∧-(2 ^ 62)≤j∧j < 2 ^ 62)∧R (LI i (j - i).toNat) H1
theorem cG {a:Expr}{ta:TA}{p pos:Pos}(hg:Gl X "range") (hm:X.mg "range"=none) (ha:PA X [a] ta) (hs:starEach [a] X.env=[(false,eval a X.env)]:=by rfl):PI X tg (.Call (.Name "range" p) [a] [] pos) (Pp ta):=by
 intro pins s σ H R I h
 refine Call_ (lD I hg hm boot_range (PyProof.Rows.callWith_type1 (b9 (ha pos pins s σ H _ I h) fun us s1 ⟨vs,H1,I1,r1,q1⟩=>?_) hs rfl))
 obtain⟨j,e,q1,q2,q⟩:=q1
 subst e
 cases r1 with
 | cons r rr=>
  cases rr
  obtain⟨t,rfl⟩:=r
  exact call_range_1 (vN I1 (by omega) (by omega) q1 q2 (by simpa using q))
theorem rq {a b:Expr}{ta:TA}{p pos:Pos}(hg:Gl X "range") (hm:X.mg "range"=none) (ha:PA X [a,b] ta) (hs:starEach [a,b] X.env=[(false,eval a X.env),(false,eval b X.env)]:=by rfl) (Ai:starEach [b] X.env=[(false,eval b X.env)]:=by rfl) :
  PI X tg (.Call (.Name "range" p) [a,b] [] pos) (Pq ta):=by
 intro pins s σ H R I h
 refine Call_ (lD I hg hm boot_range (PyProof.Rows.callWith_type1 (b9 (ha pos pins s σ H _ I h) fun us s1 ⟨vs,H1,I1,r1,q1⟩=>?_) (by rw [hs,Ai]) (by rw [Ai]; rfl)))
 obtain⟨i,j,e,⟨q1,q2,q3,q4⟩,q⟩:=q1
 subst e
 cases r1 with
 | cons r rr=>
  cases rr with
  | cons r' rr=>
   cases rr
   obtain⟨t,rfl⟩:=r
   obtain⟨t',rfl⟩:=r'
   exact call_range_2 (vN I1 q1 q2 q3 q4 q)
noncomputable def afj (wi:TI) (g:TG) (tb:TS):TS:=fun D σ H=>wi σ H fun J H1=>∃W:Nat→Nat→St→Hp→Prop,(∃m,W 0 m σ H1)∧∀i m σ H,W i m σ H →
 (J.stop i H∧D.nx σ H)∨(J.go i H∧∃N:St→Hp→Prop,(∀σ' H',N σ' H'→∃m',m' < m∧W (i+1) m' σ' H')∧∀x H',J.Pn i H x H'→g x σ H' fun σ2 H2=>tb {D with nx:=N,ct:=N,bk:=D.nx} σ2 H2)
noncomputable def g7 (fp:List Addr) (h:Heap):List (Addr×Obj):=fp.filterMap fun b=>(h.get? b).map fun o=>(b,o)
theorem dW {fp:List Addr}{h:Heap}{b:Addr}{o:Obj}(hb:b∈fp) (e:h.get? b=some o):(b,o)∈g7 fp h:=List.mem_filterMap.mpr ⟨b,hb,by rw [e]; rfl⟩
theorem Dk {fp:List Addr}{h:Heap}{p:Addr×Obj}(hp:p∈g7 fp h):p.1∈fp∧h.get? p.1=some p.2:=by
 obtain⟨b,hb,e⟩:=List.mem_filterMap.mp hp
 cases q:h.get? b with
 | none=>rw [q] at e; cases e
 | some o=>
  rw [q] at e
  have e':(b,o)=p:=Option.some.inj e
  subst e'
  exact⟨hb,q⟩
theorem Inv.pinned {pins:List (Addr×Obj)}{σ:St}{H:Hp}{s:Shared}{fp:List Addr}(I:Inv X pins σ H s) (hf:∀b∈fp,fX X pins H b) (ho:∀b∈fp,∃o,s.heap.get? b=some o∧∀v,o.data≠.cell v):Inv X (pins++g7 fp s.heap) σ H s:=
 I.fC fun p hp=>(List.mem_append.mp hp).elim (fun z=>I.pin p (List.mem_append_right _ z)) fun z=>by
  obtain⟨hb,e⟩:=Dk z
  obtain⟨f0,f1,f2,_⟩:=hf p.1 hb
  obtain⟨o,e',d⟩:=ho p.1 hb
  rw [e] at e'; cases e'
  exact⟨e,f0,f1,f2,d⟩
theorem Inv.e8 {pins pl:List (Addr×Obj)}{σ:St}{H:Hp}{s:Shared}(I:Inv X (pins++pl) σ H s):Inv X pins σ H s:=I.fC fun p hp=>I.pin p (List.mem_append_right _ (List.mem_append_left _ hp))
theorem TK {iter:Expr}{body:List Stmt}{wi:TI}{g:TG}{tb:TS}{pos:Pos}(hp:PassesOwn (model X.prog X.w) X.A X.env X.xe) (hc:X.calm=true) (hi:PI X tg iter wi) (hg:PG X tg g) (hb:sZ X body tb)
  (hs:∀x,foldedSetIterable iter X.env x=pure x:=by intro _; rfl):PS X (.For tg iter body [] pos) (afj wi g tb):=by
 intro pins s σ H D I h
 refine wpAny_For (b9 (hi pins s σ H _ I h) fun v s1 h1=>b9 h1 fun YX s2 h2=>?_) hs
 obtain⟨it,fp,tn,J,H2,e,I2,T,Fb,f2,W,⟨m0,w0⟩,turn⟩:=h2
 subst e
 have bC:∀{H':Hp},(∀b∈fp,H' b=none)→∀b∈fp,fX X pins H' b:=fun hn b hb=>⟨hn b hb,(f2 b hb).2⟩
 refine codeAny_forLoop_any (fun n s'=>∃i σ' H',Inv X pins σ' H' s'∧tn i s'.heap∧(∀b∈fp,H' b=none)∧W i n σ' H') ?_ m0 ⟨0,σ,H2,I2,Fb,fun b hb=>(f2 b hb).1,w0⟩
 rintro n s3 ⟨i,σ3,H3,I3,Pt,B_,w3⟩
 rcases turn i n σ3 H3 w3 with ⟨stop,qn⟩ | ⟨go,N,hN,step⟩
 ·refine wpAny_passesOwn hp (b9 (T.done X rfl rfl rfl hc i pins s3 σ3 H3 X.xe I3 (bC B_) Pt stop) fun r s4 ⟨hr,I4⟩=>?_)
  subst hr
  exact wpAny_execs_nil ⟨σ3,H3,I4,qn⟩
 ·refine wpAny_passesOwn hp (b9 (T.item X rfl rfl rfl hc i pins s3 σ3 H3 X.xe I3 (bC B_) Pt go) fun r s4 ⟨u,hr,h4⟩=>?_)
  subst hr
  refine wpAny_passesOwn hp (b9 h4 fun _ s5 ⟨x,H5,I5,r5,y5,LJ,fr5⟩=>?_)
  have I5':=I5.pinned (bC fr5) (T.obj _ _ LJ)
  refine wpAny_passesOwn hp (b9 (hg _ s5 σ3 H5 x u _ I5' r5 (step x H5 y5)) fun _ s6 ⟨σ6,H6,I6,q6⟩=>?_)
  refine wpAny_passesOwn hp (b9 (hb _ s6 σ6 H6 _ I6 q6) fun f s7 q7=>?_)
  have again:∀{σ7:St}{H7:Hp},Inv X (pins++g7 fp s5.heap) σ7 H7 s7→N σ7 H7→∃m,m < n∧∃i σ' H',Inv X pins σ' H' s7∧tn i s7.heap∧(∀b∈fp,H' b=none)∧W i m σ' H':=fun {σ7 H7} I7 n7=>by
   obtain⟨m',hm,w7⟩:=hN σ7 H7 n7
   refine⟨m',hm,i+1,σ7,H7,I7.e8,T.keep _ _ _ LJ fun b hb o e=>(I7.pin (b,o) (List.mem_append_right _ (List.mem_append_right _ (dW hb e)))).1,fun b hb=>?_,w7⟩
   obtain⟨o,e,d⟩:=T.obj _ _ LJ b hb
   exact(I7.pin (b,o) (List.mem_append_right _ (List.mem_append_right _ (dW hb e)))).2.1
  cases f with
  | next=>obtain⟨σ7,H7,I7,n7⟩:=q7; exact again I7 n7
  | cont=>obtain⟨σ7,H7,I7,n7⟩:=q7; exact again I7 n7
  | brk=>obtain⟨σ7,H7,I7,q7⟩:=q7; exact⟨σ7,H7,I7.e8,q7⟩
  | ret v=>obtain⟨x7,σ7,H7,I7,r7,q7⟩:=q7; exact⟨x7,σ7,H7,I7.e8,r7,q7⟩
end
theorem Fc {K:PySem.W.Frag}{a:Addr}{xs:List V}{g:TG}{tb:TS}{D:Ends}{σ:St}{H:Hp}(Pv:Nat→St→Hp→Prop) (h0:Pv 0 σ H) (hl:∀i σ H,i≤xs.length→Pv i σ H→aF K H a xs)
  (hs:∀i x σ H,xs[i]?=some x→Pv i σ H→g x σ H fun σ2 H2=>tb {D with nx:=Pv (i+1),ct:=Pv (i+1),bk:=D.nx} σ2 H2) (hd:∀σ H,Pv xs.length σ H→D.nx σ H) :
  ∃W:Nat→Nat→St→Hp→Prop,(∃m,W 0 m σ H)∧∀i m σ H,W i m σ H →
   ((EM K a).stop i H∧D.nx σ H)∨((EM K a).go i H∧∃N:St→Hp→Prop,(∀σ' H',N σ' H'→∃m',m' < m∧W (i+1) m' σ' H')∧∀x H',(EM K a).Pn i H x H'→g x σ H' fun σ2 H2=>tb {D with nx:=N,ct:=N,bk:=D.nx} σ2 H2):=by
 refine⟨fun i m σ H=>m=xs.length - i∧i≤xs.length∧Pv i σ H,⟨xs.length,by simp,Nat.zero_le _,h0⟩,?_⟩
 rintro i m σ H ⟨rfl,hi,p⟩
 have q:=hl i σ H hi p
 by_cases fo:i < xs.length
 ·refine .inr ⟨⟨xs,xs[i],q,by simp [fo]⟩,Pv (i+1),fun σ' H' p'=>⟨xs.length - (i+1),by omega,rfl,fo,p'⟩,fun x H' y=>?_⟩
  obtain⟨e,y⟩:=y
  subst e
  exact hs i x σ _ (y xs q) p
 ·have e:i=xs.length:=by omega
  subst e
  exact .inl ⟨⟨xs,q,Nat.le_refl _⟩,hd σ H p⟩
theorem Dl {lo:Int}{n:Nat}{g:TG}{tb:TS}{D:Ends}{σ:St}{H:Hp}(Pv:Nat→St→Hp→Prop) (h0:Pv 0 σ H)
  (hs:∀i σ H,i < n→Pv i σ H→g (.int (lo+i)) σ H fun σ2 H2=>tb {D with nx:=Pv (i+1),ct:=Pv (i+1),bk:=D.nx} σ2 H2) (hd:∀σ H,Pv n σ H→D.nx σ H) :
  ∃W:Nat→Nat→St→Hp→Prop,(∃m,W 0 m σ H)∧∀i m σ H,W i m σ H →
   ((LI lo n).stop i H∧D.nx σ H)∨((LI lo n).go i H∧∃N:St→Hp→Prop,(∀σ' H',N σ' H'→∃m',m' < m∧W (i+1) m' σ' H')∧∀x H',(LI lo n).Pn i H x H'→g x σ H' fun σ2 H2=>tb {D with nx:=N,ct:=N,bk:=D.nx} σ2 H2):=by
 refine⟨fun i m σ H=>m=n - i∧i≤n∧Pv i σ H,⟨n,by simp,Nat.zero_le _,h0⟩,?_⟩
 rintro i m σ H ⟨rfl,hi,p⟩
 by_cases fo:i < n
 ·refine .inr ⟨fo,Pv (i+1),fun σ' H' p'=>⟨n - (i+1),by omega,rfl,fo,p'⟩,fun x H' y=>?_⟩
  obtain⟨e,y⟩:=y
  subst e y
  exact hs i σ _ fo p
 ·have e:i=n:=by omega
  subst e
  exact .inl ⟨Nat.le_refl _,hd σ H p⟩
end L2
namespace L2
open PySem PySem.Spec PyProof.Rows
noncomputable abbrev R2:=V→V→Hp→VK→Prop
noncomputable def j8 (X:Cx) (f:Value→Value→Sem Value) (r:R2):Prop:=
 ∀(pins:List (Addr×Obj)) (s:Shared) (σ:St) (H:Hp) (x y:V) (v u:Value) (Q:VK),Inv X pins σ H s→RelV x v→RelV y u→r x y H Q →
  wpAny (model X.prog X.w) X.A (f v u) (EP X pins σ Q) X.xe s
noncomputable def gO (X:Cx) (f:Value) (r:List V→Hp→VK→Prop):Prop:=
 ∀(pins:List (Addr×Obj)) (s:Shared) (σ:St) (H:Hp) (xs:List V) (us:List Value) (Q:VK),Inv X pins σ H s→Vals xs us→r xs H Q →
  wpAny (model X.prog X.w) X.A (call f us) (EP X pins σ Q) X.xe s
noncomputable def LL (r:R2) (ta tb:TE):TE:=fun σ H Q=>ta σ H fun x H1=>tb σ H1 fun y H2=>r x y H2 Q
noncomputable def tUn (r:V→Hp→VK→Prop) (ta:TE):TE:=fun σ H Q=>ta σ H fun x H1=>r x H1 Q
noncomputable def rI (C:Int→Int→Prop) (g:Int→Int→V):R2:=fun x y H Q=>∃i j,x=.int i∧y=.int j∧C i j∧Q (g i j) H
noncomputable def Lf (g:Int→Int→V):R2:=fun x y H Q=>∃i j,x=.int i∧y=.int j∧Q (g i j) H
noncomputable def rU (g:Int→V):V→Hp→VK→Prop:=fun x H Q=>∃i,x=.int i∧Q (g i) H
section
variable {X:Cx}{a b c:Expr}{ta tb tc:TE}{pos:Pos}
theorem TL (ha:PE X a ta) (hb:PE X b tb) {pins:List (Addr×Obj)}{s:Shared}{σ:St}{H:Hp}{R:V→V→Hp→Prop}(I:Inv X pins σ H s)
  (h:ta σ H fun x H1=>tb σ H1 fun y H2=>R x y H2) {Q:Value→Shared→Prop}{f:Value→Value→Sem Value}
  (hf:∀v u s2 x y H2,Inv X pins σ H2 s2→RelV x v→RelV y u→R x y H2→wpAny (model X.prog X.w) X.A (f v u) Q X.xe s2) :
  wpAny (model X.prog X.w) X.A (eval a X.env) (fun v s₁=>wpAny (model X.prog X.w) X.A (eval b X.env) (fun u s₂=>wpAny (model X.prog X.w) X.A (f v u) Q X.xe s₂) X.xe s₁) X.xe s:=by
 refine b9 (ha pins s σ H _ I h) fun v s1 ⟨x,H1,I1,r1,q1⟩=>?_
 refine b9 (hb pins s1 σ H1 _ I1 q1) fun u s2 ⟨y,H2,I2,r2,q2⟩=>?_
 exact hf v u s2 x y H2 I2 r1 r2 q2
theorem aL {op:Operator}{r:R2}(ho:j8 X (binaryOp op) r) (ha:PE X a ta) (hb:PE X b tb):PE X (.BinOp a op b pos) (LL r ta tb):=by
 intro pins s σ H Q I h
 exact wpAny_BinOp (TL ha hb I h fun v u s2 x y H2 I2 rx ry q=>ho pins s2 σ H2 x y v u Q I2 rx ry q)
theorem YY {f:Value→Value→Sem Value}{C:Int→Int→Prop}{g:Int→Int→Int}
  (rule:∀(i j:Int) (t u:Tok) (s:Shared) (Q:Value→Shared→Prop) (E:Value→Shared→Prop),C i j→Q (.int (g i j) s.toks) {s with toks:=s.toks+1}→wpAny (model X.prog X.w) X.A (f (.int i t) (.int j u)) Q E s) :
  j8 X f (rI C fun i j=>.int (g i j)):=by
 intro pins s σ H x y v u Q I rx ry h
 obtain⟨i,j,rfl,rfl,hc,q⟩:=h
 obtain⟨t,rfl⟩:=rx
 obtain⟨t',rfl⟩:=ry
 exact rule i j t t' s _ _ hc ⟨.int (g i j),H,I.tok _,⟨_,rfl⟩,q⟩
theorem LM {f:Value→Value→Sem Value}{g:Int→Int→Int}
  (rule:∀(i j:Int) (t u:Tok) (s:Shared) (Q:Value→Shared→Prop) (E:Value→Shared→Prop),Q (.int (g i j) s.toks) {s with toks:=s.toks+1}→wpAny (model X.prog X.w) X.A (f (.int i t) (.int j u)) Q E s) :
  j8 X f (Lf fun i j=>.int (g i j)):=by
 intro pins s σ H x y v u Q I rx ry h
 obtain⟨i,j,rfl,rfl,q⟩:=h
 obtain⟨t,rfl⟩:=rx
 obtain⟨t',rfl⟩:=ry
 exact rule i j t t' s _ _ ⟨.int (g i j),H,I.tok _,⟨_,rfl⟩,q⟩
theorem Zv {f:Value→Value→Sem Value}{g:Int→Int→Bool}
  (rule:∀(i j:Int) (t u:Tok) (s:Shared) (Q:Value→Shared→Prop) (E:Value→Shared→Prop),Q (.bool (g i j)) s→wpAny (model X.prog X.w) X.A (f (.int i t) (.int j u)) Q E s) :
  j8 X f (Lf fun i j=>.bl (g i j)):=by
 intro pins s σ H x y v u Q I rx ry h
 obtain⟨i,j,rfl,rfl,q⟩:=h
 obtain⟨t,rfl⟩:=rx
 obtain⟨t',rfl⟩:=ry
 exact rule i j t t' s _ _ ⟨.bl (g i j),H,I,rfl,q⟩
noncomputable def afk (i j:Int):Prop:=0≤j∧j≤1000000∧i.natAbs < 2 ^ 64
noncomputable def LN (i j:Int):Prop:=(-(2 ^ 64) < i∧i < 2 ^ 64)∨(-(2 ^ 64) < j∧j < 2 ^ 64)
theorem LN.ok {i j:Int}(h:LN i j):IntMulOk i j:=by
 rcases h with ⟨h1,h2⟩ | ⟨h1,h2⟩
 ·exact .of_left (intBits_le_64 h1 h2)
 ·exact .of_right (intBits_le_64 h1 h2)
theorem Aj (k:Nat):(0:Int)≤2 ^ k:=by
 rw [two_pow_cast]
 exact Int.natCast_nonneg _
theorem de:j8 X (binaryOp .Add) (Lf fun i j=>.int (i+j)):=LM fun _ _ _ _ _ _ _ q=>add_int q
theorem Fd:j8 X (binaryOp .Sub) (Lf fun i j=>.int (i - j)):=LM fun _ _ _ _ _ _ _ q=>sub_int q
theorem g8:j8 X (binaryOp .Mult) (rI LN fun i j=>.int (i*j)):=YY fun _ _ _ _ _ _ _ hc q=>mul_int q hc.ok
theorem df:j8 X (binaryOp .Mod) (rI (fun _ j=>0 < j) fun i j=>.int (i % j)):=YY fun i j _ _ _ _ _ hc q=>by
 have h1:(0:Int) < j:=hc
 exact mod_int' (by omega) (by rw [Int.fmod_eq_emod_of_nonneg i (by omega)]; exact q)
theorem Ak:j8 X (binaryOp .Pow) (rI afk fun i j=>.int (i ^ j.toNat)):=YY fun _ _ _ _ _ _ _ hc q=>pow_int_small hc.1 hc.2.1 hc.2.2 q
theorem TN:j8 X (binaryOp .RShift) (rI (fun _ j=>0≤j) fun i j=>.int (i / 2 ^ j.toNat)):=YY fun i j _ _ _ _ _ hc q=>
 rshift_int hc (by rw [Int.fdiv_eq_ediv_of_nonneg i (Aj _)]; exact q)
theorem tE:j8 X (binaryOp .BitAnd) (Lf fun i j=>.int (Builtin.bitAnd i j)):=LM fun _ _ _ _ _ _ _ q=>and_int q
theorem Pu:j8 X (binaryOp .BitOr) (Lf fun i j=>.int (Builtin.bitOr i j)):=LM fun _ _ _ _ _ _ _ q=>or_int q
end
noncomputable def Al:V→V→Bool
 | .bf,.bf=>true | .bf,.int _=>true | .int _,.bf=>true | .bf,.bl _=>true | .bl _,.bf=>true | .bf,.str _=>true | .str _,.bf=>true
 | .int _,.int _=>true | .bl _,.bl _=>true | .str _,.str _=>true | .EK _,.EK _=>true
 | .int _,.str _=>true | .str _,.int _=>true | .bl _,.str _=>true | .str _,.bl _=>true
 | _,_=>false
noncomputable def rEq:R2:=fun x y H Q=>Al x y=true∧Q (.bl (decide (x=y))) H
noncomputable def rNe:R2:=fun x y H Q=>Al x y=true∧Q (.bl (!decide (x=y))) H
theorem Ca {i j:Int}:decide (V.int i=V.int j)=(i == j):=by
 rw [Bool.eq_iff_iff]
 simp
theorem Fe {i j:Bool}:decide (V.bl i=V.bl j)=(i == j):=by
 rw [Bool.eq_iff_iff]
 simp
theorem Cc {i j:Str}:decide (V.str i=V.str j)=(i == j):=by
 rw [Bool.eq_iff_iff]
 simp
theorem Cd {i j:Array UInt8}:decide (V.EK i=V.EK j)=(i.toList == j.toList):=by
 rw [Bool.eq_iff_iff]
 cases i
 cases j
 simp
section
variable {X:Cx}{a b c:Expr}{ta tb tc:TE}{pos:Pos}
theorem bo {pins:List (Addr×Obj)}{σ:St}{H:Hp}{s:Shared}{Q:VK}{k k':Bool}(I:Inv X pins σ H s) (q:Q (.bl k) H) (e:k=k'):EP X pins σ Q (.bool k') s:=by
 subst e
 exact⟨.bl k,H,I,rfl,q⟩
theorem cX:j8 X (compareOp .Eq) rEq:=by
 intro pins s σ H x y v u Q I rx ry h
 obtain⟨hs,q⟩:=h
 cases x with
 | bf=>
  cases rx
  cases y with
  | bf=>cases ry; exact PySem.EqNone.eq_none_none (bo I q (by simp))
  | bl j=>cases ry; exact PySem.EqNone.eq_none_bool (bo I q (by simp))
  | int j=>obtain⟨t',rfl⟩:=ry; exact PySem.EqNone.eq_none_int (bo I q (by simp))
  | str j=>obtain⟨t',rfl⟩:=ry; exact PySem.EqNone.eq_none_str (bo I q (by simp))
  | _=>exact absurd (show false=true from hs) Bool.false_ne_true
 | bl i=>
  cases rx
  cases y with
  | bf=>cases ry; exact PySem.EqNone.eq_bool_none (bo I q (by simp))
  | bl j=>cases ry; exact eq_bool (bo I q Fe)
  | str j=>obtain⟨t',rfl⟩:=ry; exact PySem.EqMixed.eq_bool_str (bo I q (by simp))
  | _=>exact absurd (show false=true from hs) Bool.false_ne_true
 | int i=>
  obtain⟨t,rfl⟩:=rx
  cases y with
  | bf=>cases ry; exact PySem.EqNone.eq_int_none (bo I q (by simp))
  | int j=>obtain⟨t',rfl⟩:=ry; exact eq_int (bo I q Ca)
  | str j=>obtain⟨t',rfl⟩:=ry; exact PySem.EqMixed.eq_int_str (bo I q (by simp))
  | _=>exact absurd (show false=true from hs) Bool.false_ne_true
 | str i=>
  obtain⟨t,rfl⟩:=rx
  cases y with
  | bf=>cases ry; exact PySem.EqNone.eq_str_none (bo I q (by simp))
  | bl j=>cases ry; exact PySem.EqMixed.eq_str_bool (bo I q (by simp))
  | int j=>obtain⟨t',rfl⟩:=ry; exact PySem.EqMixed.eq_str_int (bo I q (by simp))
  | str j=>obtain⟨t',rfl⟩:=ry; exact eq_str (bo I q Cc)
  | _=>exact absurd (show false=true from hs) Bool.false_ne_true
 | EK i=>
  obtain⟨t,rfl⟩:=rx
  cases y with
  | EK j=>obtain⟨t',rfl⟩:=ry; exact PySem.W.eq_bytes (bo I q Cd)
  | _=>exact absurd (show false=true from hs) Bool.false_ne_true
 | _=>cases y <;> exact absurd (show false=true from hs) Bool.false_ne_true
theorem rz:j8 X (compareOp .NotEq) rNe:=by
 intro pins s σ H x y v u Q I rx ry h
 obtain⟨hs,q⟩:=h
 cases x with
 | bf=>
  cases rx
  cases y with
  | bf=>cases ry; exact PySem.EqNone.ne_none_none (bo I q (by simp))
  | bl j=>cases ry; exact PySem.EqNone.ne_none_bool (bo I q (by simp))
  | int j=>obtain⟨t',rfl⟩:=ry; exact PySem.EqNone.ne_none_int (bo I q (by simp))
  | str j=>obtain⟨t',rfl⟩:=ry; exact PySem.EqNone.ne_none_str (bo I q (by simp))
  | _=>exact absurd (show false=true from hs) Bool.false_ne_true
 | bl i=>
  cases rx
  cases y with
  | bf=>cases ry; exact PySem.EqNone.ne_bool_none (bo I q (by simp))
  | bl j=>cases ry; exact ne_bool (bo I q (congrArg not Fe))
  | str j=>obtain⟨t',rfl⟩:=ry; exact PySem.EqMixed.ne_bool_str (bo I q (by simp))
  | _=>exact absurd (show false=true from hs) Bool.false_ne_true
 | int i=>
  obtain⟨t,rfl⟩:=rx
  cases y with
  | bf=>cases ry; exact PySem.EqNone.ne_int_none (bo I q (by simp))
  | int j=>obtain⟨t',rfl⟩:=ry; exact ne_int (bo I q (congrArg not Ca))
  | str j=>obtain⟨t',rfl⟩:=ry; exact PySem.EqMixed.ne_int_str (bo I q (by simp))
  | _=>exact absurd (show false=true from hs) Bool.false_ne_true
 | str i=>
  obtain⟨t,rfl⟩:=rx
  cases y with
  | bf=>cases ry; exact PySem.EqNone.ne_str_none (bo I q (by simp))
  | bl j=>cases ry; exact PySem.EqMixed.ne_str_bool (bo I q (by simp))
  | int j=>obtain⟨t',rfl⟩:=ry; exact PySem.EqMixed.ne_str_int (bo I q (by simp))
  | str j=>obtain⟨t',rfl⟩:=ry; exact ne_str (bo I q (congrArg not Cc))
  | _=>exact absurd (show false=true from hs) Bool.false_ne_true
 | EK i=>
  obtain⟨t,rfl⟩:=rx
  cases y with
  | EK j=>obtain⟨t',rfl⟩:=ry; exact PySem.W.ne_bytes (bo I q (congrArg not Cd))
  | _=>exact absurd (show false=true from hs) Bool.false_ne_true
 | _=>cases y <;> exact absurd (show false=true from hs) Bool.false_ne_true
theorem Zw:j8 X (compareOp .Lt) (Lf fun i j=>.bl (decide (i < j))):=Zv fun _ _ _ _ _ _ _ q=>lt_int q
theorem Pw:j8 X (compareOp .Gt) (Lf fun i j=>.bl (decide (j < i))):=Zv fun _ _ _ _ _ _ _ q=>gt_int q
theorem Ff:j8 X (compareOp .Is) (fun x y H Q=>y=.bf∧Q (.bl (decide (x=.bf))) H):=by
 intro pins s σ H x y v u Q I rx ry h
 obtain⟨rfl,q⟩:=h
 cases ry
 refine is_none_gen (bo I q ?_)
 cases x <;> first
  | (cases rx; rfl)
  | (obtain⟨t,rfl⟩:=rx; rfl)
theorem gq:j8 X (compareOp .IsNot) (fun x y H Q=>y=.bf∧Q (.bl (!decide (x=.bf))) H):=by
 intro pins s σ H x y v u Q I rx ry h
 obtain⟨rfl,q⟩:=h
 cases ry
 refine isnot_none_gen (bo I q ?_)
 cases x <;> first
  | (cases rx; rfl)
  | (obtain⟨t,rfl⟩:=rx; rfl)
theorem aQ (b:Expr) {op:CmpOp}(h:op≠.In:=by decide) (h2:op≠.NotIn:=by decide):behindInMarks op b=false:=by
 have e1:(op == CmpOp.In)=false:=by cases op <;> first | rfl | exact absurd rfl h
 have e2:(op == CmpOp.NotIn)=false:=by cases op <;> first | rfl | exact absurd rfl h2
 cases b <;> simp [behindInMarks,e1,e2]
theorem fE {op:CmpOp}{r:R2}(ho:j8 X (compareOp op) r) (ha:PE X a ta) (hb:PE X b tb) (hm:behindInMarks op b=false):PE X (.Compare a [op] [b] pos) (LL r ta tb):=by
 intro pins s σ H Q I h
 exact wpAny_Compare1 (TL ha hb I h fun v u s2 x y H2 I2 rx ry q=>ho pins s2 σ H2 x y v u Q I2 rx ry q) hm
noncomputable def Px (t:TE):TT:=fun σ H Q=>t σ H fun x H'=>∃k,x=.bl k∧Q k H'
theorem aH {op:CmpOp}{r:R2}(ho:j8 X (compareOp op) r) (ha:PE X a ta) (hb:PE X b tb) (hm:behindInMarks op b=false):PT X (.Compare a [op] [b] pos) (Px (LL r ta tb)):=by
 intro pins s σ H Q I h
 refine wpAny_isTrue_Compare1 (b9 (ha pins s σ H _ I h) fun v s1 ⟨x,H1,I1,r1,q1⟩=>b9 (hb pins s1 σ H1 _ I1 q1) fun u s2 ⟨y,H2,I2,r2,q2⟩=>
  b9 (ho pins s2 σ H2 x y v u _ I2 r1 r2 q2) fun c s3 ⟨z,H3,I3,r3,k,e,q3⟩=>?_) hm
 subst e
 cases r3
 exact wpAny_truthy_bool ⟨H3,I3,q3⟩
noncomputable def TQ (r r':R2) (ta tb tc:TE):TE:=fun σ H Q=>ta σ H fun x H1=>tb σ H1 fun y H2=>r x y H2 fun z H3=>∃k,z=.bl k ∧
 (if k=true then tc σ H3 fun w' H4=>r' y w' H4 Q else Q (.bl false) H3)
theorem tF:(sizeLine:Nat) < 2 ^ 63:=by rw [sizeLine_eq]; decide
theorem vals1 {x:V}{us:List Value}(r:Vals [x] us):∃u,us=[u]∧RelV x u:=by
 cases r with
 | cons r1 r2=>cases r2; exact⟨_,rfl,r1⟩
theorem vals2 {x y:V}{us:List Value}(r:Vals [x,y] us):∃u w',us=[u,w']∧RelV x u∧RelV y w':=by
 cases r with
 | cons r1 r2=>
  cases r2 with
  | cons r3 r4=>cases r4; exact⟨_,_,rfl,r1,r3⟩
theorem rA (hc:X.calm=true):gO X (.builtin "min") (fun xs H Q=>∃i j,xs=[.int i,.int j]∧Q (.int (if j < i then j else i)) H):=by
 intro pins s σ H xs us Q I r h
 obtain⟨i,j,rfl,q⟩:=h
 obtain⟨u,w',rfl,⟨t,rfl⟩,⟨t',rfl⟩⟩:=vals2 r
 refine min_two_ints (I.ok.hd hc) fun h' tk k=>⟨_,H,I.kept k,?_,q⟩
 by_cases hj:j < i
 ·rw [if_pos hj,if_pos hj]; exact⟨_,rfl⟩
 ·rw [if_neg hj,if_neg hj]; exact⟨_,rfl⟩
theorem Dm:gO X (.type "int") (fun xs H Q=>(∃i,xs=[.int i]∧Q (.int i) H)∨∃k,xs=[.bl k]∧Q (.int (if k then 1 else 0)) H):=by
 intro pins s σ H xs us Q I r h
 rcases h with ⟨i,rfl,q⟩ | ⟨k,rfl,q⟩
 ·obtain⟨u,rfl,t,rfl⟩:=vals1 r
  exact call_int_int ⟨.int i,H,I,⟨_,rfl⟩,q⟩
 ·obtain⟨u,rfl,r1⟩:=vals1 r
  cases r1
  exact call_int_bool ⟨.int (if k then 1 else 0),H,I.tok _,⟨_,rfl⟩,q⟩
end
end L2
namespace L2
open PySem PySem.Spec PyProof.Rows
structure Am (h:Heap) (x dx C:Addr) (mA:Str→Option Value):Prop where
 obj:h.get? x=some (PySem.W.instObj C dx)
 ns:h.Ns1 dx mA
 ne:dx≠x
theorem Dp {h:Heap}{dx:Addr}{mA:Str→Option Value}(n:h.Ns1 dx mA):∃od,h.get? dx=some od∧∀name,PySem.W.lookIn name od=some (mA name):=by
 obtain⟨o,es,ep,ho,hd,hk,_,hm⟩:=n
 refine⟨o,ho,fun name=>?_⟩
 have e:=hm name
 unfold nsFind findBy at e
 rw [←Array.find?_toList] at e
 unfold PySem.W.lookIn
 rw [hd]
 dsimp only
 split
 ·rename_i y q
  rw [q] at e
  exact congrArg some e
 ·rename_i q
  rw [q] at e
  have a:es.toList.any (·.refKey)=false:=by
   rw [List.any_eq_false]
   intro y hy
   obtain⟨z,t,afl⟩:=hk y (Array.mem_toList_iff.mp hy)
   simp [DictEntry.refKey,afl]
  have a':¬es.toList.any (·.refKey)=true:=by rw [a]; exact Bool.false_ne_true
  rw [if_neg a']
  exact congrArg some e
theorem Am.look {h:Heap}{x dx C:Addr}{mA:Str→Option Value}(I:Am h x dx C mA):∃od,PySem.W.InstAt h x (PySem.W.instObj C dx) C (some od)∧∀name,PySem.W.lookIn name od=some (mA name):=
 let ⟨od,ho,hl⟩:=Dp I.ns
 ⟨od,⟨I.obj,rfl,rfl,ho⟩,hl⟩
section
variable {prog:Program}{w:World}{A:Around}{E:Value→Shared→Prop}{s:Shared}{K:PySem.W.Frag}{x dx C f:Addr}{mA:Str→Option Value}{name:Str}{v:Value}
theorem get_map {expr:Bool}{Q:Value→Shared→Prop}(X:K.In s.heap) (I:Am s.heap x dx C mA) (hg:PySem.W.plainGet K C name=true) (hh:PySem.W.hasDictIn K C=true)
  (ha:PySem.W.findIn K (.ref C) name=some none) (hv:mA name=some v) (hv':PySem.W.handedIn v=true) (h:Q v {s with toks:=s.toks+1}) :
  wpAny (model prog w) A (getAttr (.ref x) name expr) Q E s:=by
 obtain⟨od,J,hl⟩:=I.look
 exact PySem.W.get_value X J (PySem.W.plainGet_of hg).1 (PySem.W.findObj_own hh ha rfl (by rw [hl,hv])) hv' h
theorem Fg {pl:Sem Bool}{Q:Value×List Value→Shared→Prop}(X:K.In s.heap) (I:Am s.heap x dx C mA) (hg:PySem.W.plainGet K C name=true)
  (hf:PySem.W.findIn K (.ref C) name=some (some (.ref f))) (ht:PySem.W.isFn K (.ref f)=true) (hv:mA name=none) (h:Q (.ref f,[.ref x]) s) :
  wpAny (model prog w) A (getMethod (.ref x) name pl) Q E s:=by
 obtain⟨od,J,hl⟩:=I.look
 exact PySem.W.method_fn X J (PySem.W.plainGet_of hg).1 (PySem.W.plainGet_of hg).2 hf (beq_iff_eq.mp ht) (by show(PySem.W.lookIn name od).map (·.isSome)=some false; rw [hl,hv]; rfl) h
theorem LO {ns:List Str}{Q:Unit→Shared→Prop}(X:K.In s.heap) (I:Am s.heap x dx C mA)
  (hs:PySem.W.findIn K (.ref C) "__setattr__"=some (some (.builtin "object.__setattr__"))) (hp:PySem.W.plainOver K C=true) (ht:PySem.W.takerIn K C name=some none) (hh:PySem.W.hasDictIn K C=true)
  (hw:PySem.Within mA ns) (hsz:ns.length≤sizeLine)
  (h:∀h',Am h' x dx C (fun y=>if y=name then some v else mA y)→Heap.SameBut dx s.heap h'→Q () {s with heap:=h',toks:=s.toks+2}) :
  wpAny (model prog w) A (setAttr (.ref x) name v) Q E s:=by
 obtain⟨od,J,hl⟩:=I.look
 refine PySem.W.set_plain X J hs (PySem.W.osa_open (s:={s with toks:=s.toks+1}) (r:=none) X J hp ht fun b=>?_)
 obtain⟨cd,hc,LD⟩:=PySem.W.any_some hh
 have hx:s.heap.get? x=some ⟨.ref C,some dx,.plain,#[]⟩:=I.obj
 refine wpAny_bind (wpAny_pure (wpAny_bind (wpAny_bind (wpAny_loadPart hx (wpAny_bind (PySem.W.Looks.here (s:={s with toks:=s.toks+1}) (PySem.W.looks_clsIn X hc) ?_))))))
 rw [LD]
 refine wpAny_pure (a:=some dx) (wpAny_bind (wpAny_pure (wpAny_bind ?_)))
 refine wpAny_nsSet1 (s:={s with toks:=s.toks+1}) I.ns fun h' ql Ai=>?_
 obtain⟨oD,esD,epD,hoD,hdD,hcD⟩:=ql.count (PySem.Within.cons name v hw)
 refine wpAny_bind (wpAny_lookBehind hoD (by rw [hdD]; exact pastItsLine_dict (Nat.le_trans hcD (by rw [List.length_cons]; omega))) ?_)
 exact wpAny_pure (h _ ⟨(Ai.2 _ (Ne.symm I.ne)).trans I.obj,ql,I.ne⟩ Ai)
theorem Fh {R:Result→Shared→Prop}{vs:List Value}{kw:List (Str×Value)}(X:K.In s.heap) (hm:PySem.W.makesIn K C=true)
  (hi:PySem.W.findIn K (.ref C) "__init__"=some (some (.ref f))) (hf:PySem.W.typeIn K (.ref f)=some (.type "function"))
  (h:codeAny (model prog w) (A.under (.builtin "type.__call__" ⟨.ref C::vs,kw⟩)) (.call (.ref f) ⟨.ref (s.heap.objs.size+1)::vs,kw⟩) (PySem.W.InitBack (s.heap.objs.size+1) R)
   {s with heap:=(s.heap.push PySem.W.emptyDict).push (PySem.W.instObj C s.heap.objs.size)}) :
  codeAny (model prog w) A (.call (.ref C) ⟨vs,kw⟩) R s:=by
 obtain⟨hh,g,d,t,os⟩:=s
 exact PySem.W.make_core (PySem.W.makes_of X hm) (PySem.W.looks_findIn X hi) (fun self=>PySem.W.bind_fn X self hf) (.inl rfl) h
end
noncomputable def cK (f:Str) (v:V):List (Str×V)→List (Str×V)
 | []=>[(f,v)]
 | (g,x)::r=>if g=f then(g,v)::r else(g,x)::cK f v r
theorem aI (f g:Str) (v:V):∀fs:List (Str×V),(cK f v fs).lookup g=if g=f then some v else fs.lookup g
 | []=>by
  show List.lookup g [(f,v)]=_
  by_cases h:g=f
  ·have hb:(g == f)=true:=beq_iff_eq.mpr h
   simp only [List.lookup,hb,if_pos h]
  ·have hb:(g == f)=false:=beq_eq_false_iff_ne.mpr h
   simp only [List.lookup,hb,if_neg h]
 | (k,x)::r=>by
  have ih:=aI f g v r
  rw [show cK f v ((k,x)::r)=(if k=f then(k,v)::r else(k,x)::cK f v r) from rfl]
  by_cases hk:k=f
  ·rw [if_pos hk]
   by_cases h:g=k
   ·have hb:(g == k)=true:=beq_iff_eq.mpr h
    simp only [List.lookup,hb,if_pos (h.trans hk)]
   ·have hb:(g == k)=false:=beq_eq_false_iff_ne.mpr h
    simp only [List.lookup,hb,if_neg (fun e:g=f=>h (e.trans hk.symm))]
  ·rw [if_neg hk]
   by_cases h:g=k
   ·have hb:(g == k)=true:=beq_iff_eq.mpr h
    simp only [List.lookup,hb,if_neg (fun e:g=f=>hk (h.symm.trans e))]
   ·have hb:(g == k)=false:=beq_eq_false_iff_ne.mpr h
    simp only [List.lookup,hb]
    exact ih
theorem lE (f:Str) (v:V):∀fs:List (Str×V),f∈(cK f v fs).map (·.1)∧∀g,g∈fs.map (·.1)→g∈(cK f v fs).map (·.1)
 | []=>⟨by simp [cK],fun g h=>by simp at h⟩
 | (k,x)::r=>by
  obtain⟨i1,i2⟩:=lE f v r
  rw [show cK f v ((k,x)::r)=(if k=f then(k,v)::r else(k,x)::cK f v r) from rfl]
  by_cases hk:k=f
  ·rw [if_pos hk]
   subst hk
   exact⟨by simp,fun g h=>by simpa using h⟩
  ·rw [if_neg hk]
   refine⟨?_,fun g h=>?_⟩
   ·rw [List.map_cons]
    exact List.mem_cons_of_mem _ i1
   ·rw [List.map_cons] at h ⊢
    rcases List.mem_cons.mp h with e | e
    ·exact List.mem_cons.mpr (.inl e)
    ·exact List.mem_cons_of_mem _ (i2 g e)
theorem bZ (f:Str) (v:V):∀fs:List (Str×V),(cK f v fs).length≤fs.length+1
 | []=>by simp [cK]
 | (k,x)::r=>by
  have ih:=bZ f v r
  rw [show cK f v ((k,x)::r)=(if k=f then(k,v)::r else(k,x)::cK f v r) from rfl]
  by_cases hk:k=f
  ·rw [if_pos hk,List.length_cons,List.length_cons]; omega
  ·rw [if_neg hk,List.length_cons,List.length_cons]; omega
theorem jr.some_of {v:V}{o:Option Value}(r:jr (some v) o):∃u,o=some u∧RelV v u:=by
 cases o with
 | none=>exact(show False from r).elim
 | some u=>exact⟨u,rfl,r⟩
theorem jr.none_of {o:Option Value}(r:jr none o):o=none:=by
 cases o with
 | none=>rfl
 | some u=>exact(show False from r).elim
theorem Dq {v:V}{u:Value}(r:RelV v u):PySem.W.handedIn u=true:=by
 cases v with
 | bf=>cases (show u=Value.none from r); rfl
 | bl b=>cases (show u=Value.bool b from r); rfl
 | int i=>obtain⟨t,e⟩:=(show ∃t,u=Value.int i t from r); cases e; rfl
 | str x=>obtain⟨t,e⟩:=(show ∃t,u=Value.str x t from r); cases e; rfl
 | EK b=>obtain⟨t,e⟩:=(show ∃t,u=Value.bytes b t from r); cases e; rfl
 | YR b=>obtain⟨t,e⟩:=(show ∃t,u=Value.float b t from r); cases e; rfl
 | ref a=>cases (show u=Value.ref a from r); rfl
 | ty n=>cases (show u=Value.type n from r); rfl
section
variable {P:Program}{w:World}{H H':Hp}{h h':Heap}{a C dx:Addr}{fs fs':List (Str×V)}
theorem tG (bS:jt P w H h) (e:H a=some (.ins C dx fs)):∃mA,Am h a dx C mA∧(∀f,jr (fs.lookup f) (mA f))∧PySem.Within mA (fs.map (·.1))∧fs.length≤1000∧H dx=some (.own a):=by
 obtain⟨d,z,ne,ob,mA,n,r,q⟩:=(show cw P w H h a (.ins C dx fs) from bS a _ e)
 exact⟨mA,⟨ob,n,ne⟩,r,q,z,d⟩
end
structure fu (K:PySem.W.Frag) (C:Addr):Prop where
 pg:PySem.W.plainGet K C Str.empty=true
 hd:PySem.W.hasDictIn K C=true
 po:PySem.W.plainOver K C=true
 sa:PySem.W.findIn K (.ref C) "__setattr__"=some (some (.builtin "object.__setattr__"))
theorem fu.get {K:PySem.W.Frag}{C:Addr}(c:fu K C) (f:Str):PySem.W.plainGet K C f=true:=c.pg
noncomputable def bW (K:PySem.W.Frag) (C:Addr) (f:Str):Prop:=PySem.W.findIn K (.ref C) f=some none
theorem bW.Zx {K:PySem.W.Frag}{C:Addr}{f:Str}(n:bW K C f):PySem.W.takerIn K C f=some none:=by
 unfold PySem.W.takerIn
 rw [show PySem.W.findIn K (.ref C) f=some none from n]
 rfl
structure Con (K:PySem.W.Frag) (C:Addr) (f:Str) (v:V) (u:Value):Prop where
 at_:PySem.W.findIn K (.ref C) f=some (some u)
 rel:RelV v u
 get:PySem.W.specialIn K u "__get__"=some none
 cp:PySem.W.copiedNames.contains f=false
structure Meth (K:PySem.W.Frag) (C:Addr) (m:Str) (f:Addr):Prop where
 at_:PySem.W.findIn K (.ref C) m=some (some (.ref f))
 fn:PySem.W.isFn K (.ref f)=true
 kp:PySem.W.keepIn K (.ref f)=true
section
variable {X:Cx}{pins:List (Addr×Obj)}{σ:St}{H:Hp}{s:Shared}{a C dx:Addr}{fs:List (Str×V)}{f:Str}{v:V}{A:Around}{E:Value→Shared→Prop}
theorem An {b:Bool}{Q:Value→Shared→Prop}(I:Inv X pins σ H s) (e:H a=some (.ins C dx fs)) (c:fu X.K C) (n:bW X.K C f) (l:fs.lookup f=some v)
  (h:∀u s',Inv X pins σ H s'→RelV v u→Q u s'):wpAny (model X.prog X.w) A (getAttr (.ref a) f b) Q E s:=by
 obtain⟨mA,O,r,_,_,_⟩:=tG I.bS e
 obtain⟨u,hu,ru⟩:=jr.some_of (v:=v) (o:=mA f) (by rw [←l]; exact r f)
 exact get_map I.sX O (c.get f) c.hd n hu (Dq ru) (h u _ (I.tok _) ru)
theorem gr {m:Str}{g:Addr}{pl:Sem Bool}{Q:Value×List Value→Shared→Prop}(I:Inv X pins σ H s) (e:H a=some (.ins C dx fs)) (c:fu X.K C) (k:Meth X.K C m g) (l:fs.lookup m=none)
  (h:Q (.ref g,[.ref a]) s):wpAny (model X.prog X.w) A (getMethod (.ref a) m pl) Q E s:=by
 obtain⟨mA,O,r,_,_,_⟩:=tG I.bS e
 have hn:mA m=none:=jr.none_of (by rw [←l]; exact r m)
 exact Fg I.sX O (c.get m) k.at_ k.fn hn h
theorem Ao {y:V}{u:Value}{Q:Unit→Shared→Prop}(I:Inv X pins σ H s) (e:H a=some (.ins C dx fs)) (c:fu X.K C) (n:bW X.K C f) (hl:fs.length < 1000) (ry:RelV y u)
  (h:∀s',Inv X pins σ (upd H a (.ins C dx (cK f y fs))) s'→Q () s'):wpAny (model X.prog X.w) A (setAttr (.ref a) f u) Q E s:=by
 obtain⟨mA,O,r,wi,_,ho⟩:=tG I.bS e
 have hz:(fs.map (·.1)).length≤sizeLine:=by rw [List.length_map,sizeLine_eq]; omega
 refine LO I.sX O c.sa c.po n.Zx c.hd wi hz fun h' O' sb=>h _ ?_
 have hd:∃o,h'.get? dx=some o:=let ⟨o,_,_,e',_⟩:=O'.ns; ⟨o,e'⟩
 refine I.write (x:=a) (e:=dx) (by rw [e]; exact True.intro) (.inr ho) (fun b q hb z=>(sb.2 b hb).trans z) hd ?_
 refine⟨by rw [ai O.ne]; exact ho,?_,O.ne,O'.obj,_,O'.ns,fun g=>?_,fun g hg=>?_⟩
 ·have:=bZ f y fs; omega
 ·show jr ((cK f y fs).lookup g) (if g=f then some u else mA g)
  rw [aI]
  by_cases q:g=f
  ·rw [if_pos q,if_pos q]; exact ry
  ·rw [if_neg q,if_neg q]; exact r g
 ·by_cases q:g=f
  ·rw [q]; exact(lE f y fs).1
  ·refine(lE f y fs).2 g (wi g fun z=>hg ?_)
   show(if g=f then some u else mA g)=none
   rw [if_neg q]; exact z
theorem Inv.made (I:Inv X pins σ H s):Inv X pins σ (upd (upd H s.heap.objs.size (.own (s.heap.objs.size+1))) (s.heap.objs.size+1) (.ins C s.heap.objs.size []))
  {s with heap:=(s.heap.push PySem.W.emptyDict).push (PySem.W.instObj C s.heap.objs.size)}:=by
 have e1:(s.heap.push PySem.W.emptyDict).get? s.heap.objs.size=some PySem.W.emptyDict:=Heap.get?_push_size s.heap rfl
 have e2:((s.heap.push PySem.W.emptyDict).push (PySem.W.instObj C s.heap.objs.size)).get? (s.heap.objs.size+1)=some (PySem.W.instObj C s.heap.objs.size):=by
  have:=Heap.get?_push_size (s.heap.push PySem.W.emptyDict) (o:=PySem.W.instObj C s.heap.objs.size) rfl
  rwa [Heap.size_push] at this
 have e3:(s.heap.push PySem.W.emptyDict).Ns s.heap.objs.size (fun _=>none):=⟨PySem.W.emptyDict,#[],_,e1,rfl,(fun e he=>absurd he (by simp)),fun _=>rfl⟩
 have I1:=I.laid (a:=s.heap.objs.size) (o:=.own (s.heap.objs.size+1)) (h':=s.heap.push PySem.W.emptyDict) (t':=s.toks) (fun b u q=>Heap.get?_push_of_some _ q) (Nat.le_refl _) ⟨_,e1⟩
 refine I1.laid (a:=s.heap.objs.size+1) (o:=.ins C s.heap.objs.size []) (t':=s.toks) (fun b u q=>Heap.get?_push_of_some _ q) (Nat.le_of_eq (Heap.size_push _ _)) ?_
 have ne:s.heap.objs.size≠s.heap.objs.size+1:=Nat.ne_of_lt (Nat.lt_succ_self _)
 refine⟨by rw [ai ne,ae],Nat.zero_le _,ne,e2,fun _=>none,(Heap.Ns1.of_empty e3).at fun o q=>Heap.get?_push_of_some _ q,fun _=>True.intro,fun y hy=>absurd rfl hy⟩
theorem LP {prog:Program}{w:World}{env:Env}{e:Expr}{f:Str}{pos:Pos}{s:Shared}{Q:Value→Shared→Prop}(hb:attributeBase e f env (eval e env)=eval e env)
  (h:wpAny (model prog w) A (eval e env) (fun o s₁=>wpAny (model prog w) A (getAttr o f true) Q E s₁) E s):wpAny (model prog w) A (eval (.Attribute e f pos) env) Q E s:=
 Attribute_any_ h (by rw [arm_eval_Attribute,hb])
end
noncomputable def TR (K:PySem.W.Frag) (ta:TE) (f:Str):TE:=fun σ H Q=>ta σ H fun x H1=>∃a C dx fs v,x=.ref a∧H1 a=some (.ins C dx fs)∧fu K C∧bW K C f∧fs.lookup f=some v∧Q v H1
noncomputable def Zy (K:PySem.W.Frag) (ta tv:TE) (f:Str):TS:=fun D σ H=>tv σ H fun y H1=>ta σ H1 fun x H2=>∃a C dx fs,x=.ref a∧H2 a=some (.ins C dx fs)∧fu K C∧bW K C f∧fs.length < 1000 ∧
 D.nx σ (upd H2 a (.ins C dx (cK f y fs)))
section
variable {X:Cx}{o e value:Expr}{f:Str}{pos pos' TU:Pos}{ta tv:TE}
theorem a8 (he:PE X e ta) (hb:attributeBase e f X.env (eval e X.env)=eval e X.env):PE X (.Attribute e f pos) (TR X.K ta f):=by
 intro pins s σ H Q I h
 refine LP hb (b9 (he pins s σ H _ I h) fun u s1 ⟨x,H1,I1,rx,a,C,dx,fs,v,ex,ea,c,n,l,q⟩=>?_)
 subst ex
 obtain rfl:u=Value.ref a:=rx
 exact An I1 ea c n l fun u' s2 I2 ru=>⟨v,H1,I2,ru,q⟩
theorem fM (ha:PE X o ta) (hv:PE X value tv) (hs:swapsWith value (some (.Attribute o f pos')) pos.line X.env=pure false):PS X (.Assign [.Attribute o f pos'] value pos) (Zy X.K ta tv f):=by
 intro pins s σ H D I h
 refine plainObj_wpAny_Assign_Attribute (b9 (hv pins s σ H _ I h) fun u s1 ⟨y,H1,I1,ry,q⟩=>b9 (ha pins s1 σ H1 _ I1 q) fun ov s2 ⟨x,H2,I2,rx,a,C,dx,fs,ex,ea,c,n,l,q2⟩=>?_) hs
 subst ex
 obtain rfl:ov=Value.ref a:=rx
 exact Ao I2 ea c n l ry fun s3 I3=>⟨σ,_,I3,q2⟩
theorem Py {pl:Sem Bool}{m:Str}{apos:Pos}{args:List Expr}{pins:List (Addr×Obj)}{s:Shared}{σ:St}{H:Hp}{Q:Value→Shared→Prop}{te:TE}(he:PE X e te) (I:Inv X pins σ H s)
  (h:te σ H fun x H1=>∃a C dx fs g,x=.ref a∧H1 a=some (.ins C dx fs)∧fu X.K C∧Meth X.K C m g∧fs.lookup m=none ∧
   ∀s1,Inv X pins σ H1 s1→wpAny (model X.prog X.w) X.A (callWith pos (.ref g) [.ref a] (backTo pos (starEach args X.env)) (backToKw pos (keywordEach [] X.env))) Q X.xe s1)
  (ht:eval (.Call (.Attribute e m apos) args [] pos) X.env=(do
   let ov ←eval e X.env
   standAt apos.atName
   let (f,first) ←holding [ov] (getMethod ov m pl)
   callWith pos f first (backTo pos (starEach args X.env)) (backToKw pos (keywordEach [] X.env)))) :
  wpAny (model X.prog X.w) X.A (eval (.Call (.Attribute e m apos) args [] pos) X.env) Q X.xe s:=by
 refine PySem.W.methodCall_KW (pl:=pl) (b9 (he pins s σ H _ I h) fun u s1 ⟨x,H1,I1,rx,a,C,dx,fs,g,ex,ea,c,k,l,q⟩=>?_) ht
 subst ex
 obtain rfl:u=Value.ref a:=rx
 exact gr I1 ea c k l (q s1 I1)
end
section
variable {X:Cx}{pins:List (Addr×Obj)}{σ:St}{H:Hp}{s:Shared}{A:Around}{E:Value→Shared→Prop}{Q:Value→Shared→Prop}{c:Value}{b:Bool}
inductive mN (K:PySem.W.Frag) (H:Hp):V→Value→Prop where
 | bf:mN K H .bf (.type "NoneType")
 | bl (x:Bool):mN K H (.bl x) (.type "bool")
 | int (i:Int):mN K H (.int i) (.type "int")
 | str (x:Str):mN K H (.str x) (.type "str")
 | YR (x:UInt64):mN K H (.YR x) (.type "float")
 | lst {a:Addr}{xs:List V}(e:H a=some (.lst xs)):mN K H (.ref a) (.type "list")
 | vt {a:Addr}{o:Obj}{xs:List V}(e:H a=some (.vt o (.lst xs))):mN K H (.ref a) (.type "list")
 | tup {a:Addr}{xs:List V}(e:H a=some (.tup xs)):mN K H (.ref a) (.type "tuple")
 | dK {a:Addr}{kvs:List (Key×V)}(e:H a=some (.dK kvs)):mN K H (.ref a) (.type "dict")
 | dT {a:Addr}{kvs:List (List Key×V)}(e:H a=some (.dT kvs)):mN K H (.ref a) (.type "dict")
 | ins {a C dx:Addr}{fs:List (Str×V)}(e:H a=some (.ins C dx fs)) (cl:fu K C) (ha:PySem.W.findIn K (.ref C) "__class__"=some (some (.builtin "object.__class__")))
   (hn:PySem.W.specialIn K (.builtin "object.__class__") "__get__"=some (some (.builtin "getset_descriptor.__get__"))) (htk:PySem.W.takesIn K (.builtin "object.__class__")=some true)
   (hm:PySem.W.mroIn K C (.type "object")=some true):mN K H (.ref a) (.ref C)
end
end L2
namespace L2
open PySem PySem.Spec PyProof.Rows
structure cL (k:Nat) (A:Around):Prop where
 hd:A.handled=none
 dp:A.depth+3*k+5 < recursionLimit
 un:A.units+16*k+200 < cLine
theorem cL.mono {j k:Nat}{A:Around}(r:cL k A) (h:j≤k):cL j A:=⟨r.hd,by have:=r.dp; omega,by have:=r.un; omega⟩
theorem cL.deeper {k:Nat}{A:Around}(r:cL (k+1) A) (env:Env):cL k (A.deeper env):=
 ⟨r.hd,by have:=r.dp; show A.depth+1+3*k+5 < _; omega,by have:=r.un; show A.units+3+16*k+200 < _; omega⟩
theorem cL.in1 {k:Nat}{A:Around}(r:cL (k+1) A):cL k A.in1:=
 ⟨r.hd,by have:=r.dp; show A.depth+3*k+5 < _; omega,by have:=r.un; show A.units+1+16*k+200 < _; omega⟩
theorem Ap {A:Around}{C:Addr}{us:List Value}{kw:List (Str×Value)}:(A.under (.builtin "type.__call__" ⟨.ref C::us,kw⟩)).depth=A.depth+1:=by
 first | rfl | simp [Around.under,Code.weight,Code.isCreation,Code.isGuard,Code.isCaller,Code.frames,Code.isFrame,guardIds]
theorem Aq {A:Around}{C:Addr}{us:List Value}{kw:List (Str×Value)}:(A.under (.builtin "type.__call__" ⟨.ref C::us,kw⟩)).units=A.units+1:=by
 first | rfl | simp [Around.under,Code.cUnits,Code.frames,Code.isFrame]
theorem cL.make {k:Nat}{A:Around}(r:cL (k+1) A) (C:Addr) (us:List Value) (kw:List (Str×Value)):cL k (A.under (.builtin "type.__call__" ⟨.ref C::us,kw⟩)):=
 ⟨r.hd,by have:=r.dp; rw [Ap]; omega,by have:=r.un; rw [Aq]; omega⟩
theorem cL.depth {k:Nat}{A:Around}(r:cL k A):A.depth < recursionLimit:=by have:=r.dp; omega
theorem cL.units {k:Nat}{A:Around}(r:cL k A):A.units+64 < cLine:=by have:=r.un; omega
noncomputable def tH:TA:=fun _ H Q=>Q [] H
noncomputable def j9 (ta:TE) (tr:TA):TA:=fun σ H Q=>ta σ H fun x H1=>tr σ H1 fun xs H2=>Q (x::xs) H2
section
variable {X:Cx}{e:Expr}{es:List Expr}{te:TE}{t:TA}{pos:Pos}
theorem af:PA X [] tH:=fun _ _ _ _ H Q I h=>Calls.spliced_nil ⟨[],H,I,.nil,h⟩
theorem aa (ha:PE X e te) (hr:PA X es t) (hs:starEach (e::es) X.env=(false,eval e X.env)::starEach es X.env:=by rfl):PA X (e::es) (j9 te t):=by
 intro pos pins s σ H Q I h
 rw [hs]
 show wpAny _ _ (spliced ((false,eval e X.env)::backTo pos (starEach es X.env))) _ _ s
 refine Calls.spliced_cons (b9 (ha pins s σ H _ I h) fun u s1 ⟨x,H1,I1,r1,q1⟩=>?_)
 exact b9 (hr pos pins s1 σ H1 _ I1 q1) fun us s2 ⟨xs,H2,I2,r2,q2⟩=>⟨x::xs,H2,I2,.cons r1 r2,q2⟩
noncomputable def LQ (t:TA):TE:=fun σ H Q=>t σ H fun xs H1=>xs.length≤sizeLine∧∀p,H1 p=none→Q (.ref p) (upd H1 p (.tup xs))
noncomputable def Zz (t:TA):TE:=fun σ H Q=>t σ H fun xs H1=>xs.length≤sizeLine∧∀p,H1 p=none→Q (.ref p) (upd H1 p (.lst xs))
theorem dg {x1} (h:PA X es t):PE X (.Tuple es x1 pos) (LQ t):=by
 intro pins s σ H Q I hq
 refine wpAny_Tuple_spliced (b9 (h pos pins s σ H _ I hq) fun us s1 ⟨xs,H1,I1,r,z,q⟩=>⟨by rw [←r.length]; exact z,?_⟩)
 have hf:H1 s1.heap.objs.size=none:=I1.bS.fresh (Nat.le_refl _)
 refine⟨.ref s1.heap.objs.size,upd H1 s1.heap.objs.size (.tup xs),I1.laid (t':=s1.toks) (fun b u e=>Heap.get?_push_of_some _ e) (Nat.le_refl _) ?_,rfl,q _ hf⟩
 exact⟨z,us,r,⟨_,Heap.get?_push_size _ rfl,rfl,_,rfl⟩⟩
theorem bD (h:PA X es t):PE X (.List es pos) (Zz t):=by
 intro pins s σ H Q I hq
 refine wpAny_List_spliced (b9 (h pos pins s σ H _ I hq) fun us s1 ⟨xs,H1,I1,r,z,q⟩=>⟨by rw [←r.length]; exact z,?_⟩)
 have hf:H1 s1.heap.objs.size=none:=I1.bS.fresh (Nat.le_refl _)
 refine⟨.ref s1.heap.objs.size,upd H1 s1.heap.objs.size (.lst xs),I1.laid (t':=s1.toks) (fun b u e=>Heap.get?_push_of_some _ e) (Nat.le_refl _) ?_,rfl,q _ hf⟩
 exact⟨z,us,0,r,Heap.get?_push_size _ rfl⟩
end
noncomputable abbrev Sp:=List V→Hp→VK→XK→Prop
noncomputable abbrev vO:=List Env→Hp→Shared→XK→Value→Shared→Prop
structure vP (P:Program) (w:World) (K:PySem.W.Frag) (mg:Str→Option Value) (base:Heap) (A:Around) (outer:List Env) (s:Shared) (H:Hp):Prop where
 frames:A.frames=some outer
 mod:Mod K mg base
 bs:∀b o,base.get? b=some o→s.heap.get? b=some o∧H b=none
 B6:base.objs.size≤s.heap.objs.size
 jZ:s.heap.FunFrames base outer
 LB:∀b∈B5 outer,H b=none
 bS:jt P w H s.heap
 bare:AllBare s.gens
noncomputable def CE (outer:List Env) (P:Program) (w:World) (H:Hp) (s:Shared) (Q:VK) (u:Value) (s':Shared):Prop:=
 ∃v H',s'.os=s.os∧AllBare s'.gens∧Un (B5 outer) [] H H' s.heap s'.heap∧jt P w H' s'.heap∧RelV v u∧Q v H'
noncomputable def CR (CX:vO) (outer:List Env) (P:Program) (w:World) (H:Hp) (s:Shared) (Q:VK) (E:XK) (r:Result) (s':Shared):Prop:=
 match r with
 | .ok (.ret u)=>CE outer P w H s Q u s'
 | .ok _=>False
 | .error e=>CX outer H s E e s'
structure aU (P:Program) (w:World) (K:PySem.W.Frag) (mg:Str→Option Value) (base:Heap) (CX:vO) (k:Nat) (f:Addr) (fd:FuncData) (ps:List Str) (sp:Sp):Prop where
 len:∀vs H Q E,sp vs H Q E→vs.length=ps.length
 run:∀(A:Around) (outer:List Env) (s:Shared) (H:Hp) (args:Args) (us:List Value) (vs:List V) (Q:VK) (E:XK),cL k A→vP P w K mg base A outer s H→BindsTo s fd args (ps.zip us)→Vals vs us→sp vs H Q E →
  codeAny (model P w) A (.call (.ref f) args) (CR CX outer P w H s Q E) s
theorem vP.make {P:Program}{w:World}{K:PySem.W.Frag}{mg:Str→Option Value}{base:Heap}{A:Around}{outer:List Env}{s:Shared}{H:Hp}(e:vP P w K mg base A outer s H) (C:Addr) (us:List Value) (kw:List (Str×Value)) :
  vP P w K mg base (A.under (.builtin "type.__call__" ⟨.ref C::us,kw⟩)) outer s H:=⟨by first | exact e.frames | (simpa [Around.under,Code.envs,Code.isFrame,pushEnvs] using e.frames),e.mod,e.bs,e.B6,e.jZ,e.LB,e.bS,e.bare⟩
section
variable {X:Cx}{pins:List (Addr×Obj)}{σ:St}{H:Hp}{s s':Shared}
theorem Inv.ZA (I:Inv X pins σ H s):vP X.prog X.w X.K X.mg X.base X.A X.stack s H:=
 ⟨I.ok.frames,I.ok.mod,I.bs,Nat.le_trans I.ok.B6 I.sz,I.stack,I.nK,I.bS,I.bare⟩
theorem Inv.after {Q:VK}{u:Value}(I:Inv X pins σ H s) (h:CE X.stack X.prog X.w H s Q u s'):EP X pins σ Q u s':=by
 obtain⟨v,H',os,bare,un,bS,r,q⟩:=h
 obtain⟨hh,g,d,t,os'⟩:=s'
 obtain rfl:os'=s.os:=os
 exact⟨v,H',I.call (h':=hh) (g':=g) (d':=d) (t':=t) (ch:=[]) un bS bare (fun b z=>absurd z (by simp)),r,q⟩
end
noncomputable def Ce (sp:Sp) (gs:List V) (E:XK) (t:TA):TE:=fun σ H Q=>t σ H fun vs H1=>sp (vs++gs) H1 Q E
noncomputable def Fi (C:Addr) (m:Str) (sp:Sp) (gs:List V) (E:XK) (ta:TE) (t:TA):TE:=fun σ H Q=>ta σ H fun x H1=>∃a dx fs,x=.ref a∧H1 a=some (.ins C dx fs)∧fs.lookup m=none ∧
 t σ H1 fun vs H2=>sp (x::(vs++gs)) H2 Q E
noncomputable def Pz (C:Addr) (sp:Sp) (gs:List V) (E:XK) (t:TA):TE:=fun σ H Q=>t σ H fun vs H1=>∀x dx,H1 x=none→H1 dx=none→dx≠x →
 sp (.ref x::(vs++gs)) (upd (upd H1 dx (.own x)) x (.ins C dx [])) (fun v H2=>v=.bf∧Q (.ref x) H2) E
noncomputable def Binds (K:PySem.W.Frag) (fd:FuncData) (ps:List Str) (ds:List Value):Prop:=
 ∀(s:Shared) (us:List Value),K.In s.heap→(us++ds).length=ps.length→BindsTo s fd ⟨us,[]⟩ (ps.zip (us++ds))
theorem Binds.all {K:PySem.W.Frag}{fd:FuncData}{ps:List Str}(h:∀us:List Value,us.length=ps.length→bindArgs fd ⟨us,[]⟩=pure (ps.zip us)):Binds K fd ps []:=fun s us _ hl=>by
 rw [List.append_nil] at hl ⊢
 exact .of_eq (h us hl)
noncomputable def Passes (CX:vO) (X:Cx) (E:XK):Prop:=∀(pins:List (Addr×Obj)) (σ:St) (H:Hp) (s:Shared) (e:Value) (s':Shared),Inv X pins σ H s→CX X.stack H s E e s'→X.xe e s'
section
variable {X:Cx}{CX:vO}{k:Nat}{f C:Addr}{fd:FuncData}{ps:List Str}{sp:Sp}{gs:List V}{ds:List Value}{E:XK}{x m:Str}{p pos apos:Pos}{e o:Expr}{es:List Expr}{ta:TE}{t:TA}
theorem oh {pins:List (Addr×Obj)}{σ:St}{H:Hp}{s:Shared}{Q:VK}{us:List Value}{vs:List V}(F:aU X.prog X.w X.K X.mg X.base CX k f fd ps sp) (hr:cL k X.A) (hb:Binds X.K fd ps ds) (hd:Vals gs ds) (hx:Passes CX X E)
  (I:Inv X pins σ H s) (r:Vals vs us) (h:sp (vs++gs) H Q E):wpAny (model X.prog X.w) X.A (call (.ref f) us) (EP X pins σ Q) X.xe s:=by
 have r2:Vals (vs++gs) (us++ds):=r.append hd
 have hl:(us++ds).length=ps.length:=by rw [←r2.length]; exact F.len _ _ _ _ h
 refine wpAny_call (codeAny_mono (F.run X.A X.stack s H ⟨us,[]⟩ (us++ds) (vs++gs) Q E hr I.ZA (hb s us I.sX hl) r2 h) fun r s' hq=>?_)
 cases r with
 | error e=>exact hx pins σ H s e s' I hq
 | ok fl=>
  cases fl with
  | ret u=>exact I.after hq
  | next=>exact False.elim hq
  | brk=>exact False.elim hq
  | cont=>exact False.elim hq
theorem aD (F:aU X.prog X.w X.K X.mg X.base CX k f fd ps sp) (hr:cL k X.A) (hg:Gl X x) (hm:X.mg x=some (.ref f)) (hk:PySem.W.keepIn X.K (.ref f)=true) (hb:Binds X.K fd ps ds) (hd:Vals gs ds) (hx:Passes CX X E)
  (ha:PA X (e::es) t) (TV:(x == ("__debug__":Str))=false:=by decide) (he:starEach (e::es) X.env=(false,eval e X.env)::starEach es X.env:=by rfl) (jX:(backTo pos (starEach es X.env)).any (·.1)=false:=by rfl) :
  PE X (.Call (.Name x p) (e::es) [] pos) (Ce sp gs E t):=by
 intro pins s σ H Q I h
 refine wpAny_Call_Name_kw (tj I hg hm ?_ TV)
 refine PySem.W.callWith_K (h₀:=X.base) I.ok.mod.YU hk (b9 (ha pos pins s σ H _ I h) fun us s1 ⟨vs,H1,I1,r,q⟩=>⟨I1.sX,?_⟩) he jX
 exact oh F hr hb hd hx I1 r q
theorem aC {pl:Sem Bool}(he:PE X o ta) (c:fu X.K C) (hm:Meth X.K C m f) (F:aU X.prog X.w X.K X.mg X.base CX k f fd ps sp) (hr:cL k X.A) (hb:Binds X.K fd ps ds) (hd:Vals gs ds) (hx:Passes CX X E) (ha:PA X (e::es) t)
  (ju:starEach (e::es) X.env=(false,eval e X.env)::starEach es X.env:=by rfl) (jX:(backTo pos (starEach es X.env)).any (·.1)=false:=by rfl)
  (ht:eval (.Call (.Attribute o m apos) (e::es) [] pos) X.env=(do
   let ov ←eval o X.env
   standAt apos.atName
   let (f,first) ←holding [ov] (getMethod ov m pl)
   callWith pos f first (backTo pos (starEach (e::es) X.env)) (backToKw pos (keywordEach [] X.env))):=by rfl) :
  PE X (.Call (.Attribute o m apos) (e::es) [] pos) (Fi C m sp gs E ta t):=by
 intro pins s σ H Q I h
 refine PySem.W.methodCall_KW (pl:=pl) (b9 (he pins s σ H _ I h) fun u s1 ⟨x,H1,I1,rx,a,dx,fs,ex,ea,l,q⟩=>?_) ht
 subst ex
 obtain rfl:u=Value.ref a:=rx
 refine gr I1 ea c hm l ?_
 refine PySem.W.callWith_K (first:=[.ref a]) (h₀:=X.base) I.ok.mod.YU hm.kp (b9 (ha pos pins s1 σ H1 _ I1 q) fun us s2 ⟨vs,H2,I2,r,q2⟩=>⟨I2.sX,?_⟩) ju jX
 exact oh (us:=.ref a::us) (vs:=.ref a::vs) F hr hb hd hx I2 (.cons rfl r) q2
theorem bT {pl:Sem Bool}(he:PE X o ta) (c:fu X.K C) (hm:Meth X.K C m f) (F:aU X.prog X.w X.K X.mg X.base CX k f fd ps sp) (hr:cL k X.A) (hb:Binds X.K fd ps ds) (hd:Vals gs ds) (hx:Passes CX X E)
  (ht:eval (.Call (.Attribute o m apos) [] [] pos) X.env=(do
   let ov ←eval o X.env
   standAt apos.atName
   let (f,first) ←holding [ov] (getMethod ov m pl)
   callWith pos f first (backTo pos (starEach [] X.env)) (backToKw pos (keywordEach [] X.env))):=by rfl) :
  PE X (.Call (.Attribute o m apos) [] [] pos) (Fi C m sp gs E ta tH):=by
 intro pins s σ H Q I h
 refine PySem.W.methodCall_KW (pl:=pl) (b9 (he pins s σ H _ I h) fun u s1 ⟨x,H1,I1,rx,a,dx,fs,ex,ea,l,q⟩=>?_) ht
 subst ex
 obtain rfl:u=Value.ref a:=rx
 refine gr I1 ea c hm l ?_
 exact PySem.W.callWith_K0 (first:=[.ref a]) I1.sX hm.kp (oh (us:=[.ref a]) (vs:=[.ref a]) F hr hb hd hx I1 (.cons rfl .nil) q)
structure Mk (K:PySem.W.Frag) (C f:Addr):Prop where
 makes:PySem.W.makesIn K C=true
 init:PySem.W.findIn K (.ref C) "__init__"=some (some (.ref f))
 fn:PySem.W.isFn K (.ref f)=true
 kp:PySem.W.keepIn K (.ref C)=true
theorem Fj {pins:List (Addr×Obj)}{σ:St}{H:Hp}{s:Shared}{Q:VK}{us:List Value}{vs:List V}(M:Mk X.K C f) (F:aU X.prog X.w X.K X.mg X.base CX k f fd ps sp) (hr:cL (k+1) X.A) (hb:Binds X.K fd ps ds) (hd:Vals gs ds)
  (hx:Passes CX X E) (I:Inv X pins σ H s) (r:Vals vs us)
  (h:∀x dx,H x=none→H dx=none→dx≠x→sp (.ref x::(vs++gs)) (upd (upd H dx (.own x)) x (.ins C dx [])) (fun v H2=>v=.bf∧Q (.ref x) H2) E) :
  wpAny (model X.prog X.w) X.A (call (.ref C) us) (EP X pins σ Q) X.xe s:=by
 have hq:=h (s.heap.objs.size+1) s.heap.objs.size (I.bS.fresh (Nat.le_succ _)) (I.bS.fresh (Nat.le_refl _)) (Nat.ne_of_lt (Nat.lt_succ_self _))
 have I2:=Inv.made (C:=C) I
 have r2:Vals (V.ref (s.heap.objs.size+1)::(vs++gs)) (Value.ref (s.heap.objs.size+1)::(us++ds)):=.cons rfl (r.append hd)
 have hl:(Value.ref (s.heap.objs.size+1)::us++ds).length=ps.length:=by
  have e:=r2.length
  rw [F.len _ _ _ _ hq] at e
  exact e.symm
 refine wpAny_call (Fh (f:=f) I.sX M.makes M.init (beq_iff_eq.mp M.fn) (codeAny_mono (F.run _ X.stack _ _ ⟨Value.ref (s.heap.objs.size+1)::us,[]⟩ (Value.ref (s.heap.objs.size+1)::(us++ds)) _ _ E (hr.make C us [])
  (I2.ZA.make C us []) (hb _ (Value.ref (s.heap.objs.size+1)::us) I2.sX hl) r2 hq) fun r s' TX=>?_))
 cases r with
 | error e=>exact hx pins σ _ _ e s' I2 TX
 | ok fl=>
  cases fl with
  | ret u=>
   obtain⟨v,H',I3,rv,ev,q3⟩:=I2.after TX
   subst ev
   exact⟨rv,⟨V.ref (s.heap.objs.size+1),H',I3,rfl,q3⟩⟩
  | next=>exact False.elim TX
  | brk=>exact False.elim TX
  | cont=>exact False.elim TX
theorem iM (M:Mk X.K C f) (F:aU X.prog X.w X.K X.mg X.base CX k f fd ps sp) (hr:cL (k+1) X.A) (hg:Gl X x) (hm:X.mg x=some (.ref C)) (hb:Binds X.K fd ps ds) (hd:Vals gs ds) (hx:Passes CX X E)
  (ha:PA X (e::es) t) (TV:(x == ("__debug__":Str))=false:=by decide) (he:starEach (e::es) X.env=(false,eval e X.env)::starEach es X.env:=by rfl) (jX:(backTo pos (starEach es X.env)).any (·.1)=false:=by rfl) :
  PE X (.Call (.Name x p) (e::es) [] pos) (Pz C sp gs E t):=by
 intro pins s σ H Q I h
 refine wpAny_Call_Name_kw (tj I hg hm ?_ TV)
 refine PySem.W.callWith_K (h₀:=X.base) I.ok.mod.YU M.kp (b9 (ha pos pins s σ H _ I h) fun us s1 ⟨vs,H1,I1,r,q⟩=>⟨I1.sX,?_⟩) he jX
 exact Fj M F hr hb hd hx I1 r q
end
section
variable {X:Cx}{CX:vO}{k:Nat}{f C:Addr}{fd:FuncData}{ps ks:List Str}{sp:Sp}{E:XK}{x m:Str}{p pos apos aiq:Pos}{e o:Expr}{es:List Expr}{TY:List Keyword}{te ta:TE}{t tk:TA}{nm:Option Str}
structure afm (K:PySem.W.Frag) (fd:FuncData) (ps ks:List Str) (g:List Value→List Value→List Value) (gV:List V→List V→List V):Prop where
 to:∀(s:Shared) (us ws:List Value),K.In s.heap→(g us ws).length=ps.length→BindsTo s fd ⟨us,ks.zip ws⟩ (ps.zip (g us ws))
 rel:∀{vs:List V}{us:List Value}{zs:List V}{ws:List Value},Vals vs us→Vals zs ws→Vals (gV vs zs) (g us ws)
variable {g:List Value→List Value→List Value}{gV:List V→List V→List V}
end
structure av (N P:List Str) (sc:Scope):Prop where
 kind:sc.kind=.function
 co:sc.isCoroutine=false
 gen:sc.isGenerator=false
 nd:N.Nodup
 pre:N.take P.length=P
 par:∀x∈P,sc.names.lookup x=some .local∨sc.names.lookup x=some .cell
 TZ:∀y∈sc.names,y.2≠.free
theorem rB {kindOf:Str→Option NameKind}{x:Str}:∀{binds:List (Str×Value)}{m:Str→Option Value},(∀v,(x,v)∉binds)→bindL kindOf binds m x=m x
 | [],_,_=>rfl
 | (n,v)::r,m,h=>by
  unfold bindL
  rw [rB fun w hw=>h w (List.mem_cons_of_mem _ hw)]
  split
  ·have:x≠n:=by rintro rfl; exact h v List.mem_cons_self
   simp [this]
  ·rfl
theorem rC {kindOf:Str→Option NameKind}{x:Str}:∀{binds:List (Str×Value)}{m:Str→Option Value},(∀v,(x,v)∉binds)→bindC kindOf binds m x=m x
 | [],_,_=>rfl
 | (n,v)::r,m,h=>by
  unfold bindC
  rw [rC fun w hw=>h w (List.mem_cons_of_mem _ hw)]
  split
  ·rfl
  ·have:x≠n:=by rintro rfl; exact h v List.mem_cons_self
   simp [this]
theorem rD {kindOf:Str→Option NameKind}{x:Str}{v:Value}:∀{P:List Str}{vs:List Value}{i:Nat}{m:Str→Option Value},P.Nodup→P[i]?=some x→vs[i]?=some v→kindOf x=some .local →
  bindL kindOf (P.zip vs) m x=some v
 | [],_,_,_,_,h,_,_=>by simp at h
 | _::_,[],_,_,_,_,h,_=>by simp at h
 | p::P,w::vs,0,m,nd,h1,h2,hk=>by
  simp at h1 h2; subst h1; subst h2
  show bindL kindOf ((p,w)::P.zip vs) m p=_
  unfold bindL
  rw [rB fun v hv=>(List.nodup_cons.mp nd).1 (List.of_mem_zip hv).1,if_pos hk]
  simp
 | p::P,w::vs,i+1,m,nd,h1,h2,hk=>by
  show bindL kindOf ((p,w)::P.zip vs) m x=_
  unfold bindL
  exact rD (i:=i) (List.nodup_cons.mp nd).2 (by simpa using h1) (by simpa using h2) hk
theorem rE {kindOf:Str→Option NameKind}{x:Str}{v:Value}:∀{P:List Str}{vs:List Value}{i:Nat}{m:Str→Option Value},P.Nodup→P[i]?=some x→vs[i]?=some v→kindOf x≠some .local →
  bindC kindOf (P.zip vs) m x=some v
 | [],_,_,_,_,h,_,_=>by simp at h
 | _::_,[],_,_,_,_,h,_=>by simp at h
 | p::P,w::vs,0,m,nd,h1,h2,hk=>by
  simp at h1 h2; subst h1; subst h2
  show bindC kindOf ((p,w)::P.zip vs) m p=_
  unfold bindC
  rw [rC fun v hv=>(List.nodup_cons.mp nd).1 (List.of_mem_zip hv).1,if_neg hk]
  simp
 | p::P,w::vs,i+1,m,nd,h1,h2,hk=>by
  show bindC kindOf ((p,w)::P.zip vs) m x=_
  unfold bindC
  exact rE (i:=i) (List.nodup_cons.mp nd).2 (by simpa using h1) (by simpa using h2) hk
noncomputable def start (N:List Str) (vs:List V):St:=vs.map some++List.replicate (N.length - vs.length) none
noncomputable def vQ (CX:vO) (P:Program) (w:World) (K:PySem.W.Frag) (mg:Str→Option Value) (base:Heap) (N:List Str) (qual:Str) (scope:Scope) (f:Addr) (cd:Value) (A:Around) (outer:List Env) (s:Shared) (H:Hp) (E:XK):Cx where
 prog:=P
 w:=w
 K:=K
 mg:=mg
 base:=base
 A:=A.deeper (envOfC qual scope s.heap.objs.size f cd)
 N:=N
 s₀:=s
 H₀:=H
 env:=envOfC qual scope s.heap.objs.size f cd
 outer:=outer
 stack:=envOfC qual scope s.heap.objs.size f cd::outer
 ex:=[]
 calm:=true
 fn:=fun _=>true
 pn:=[]
 xe:=fun e s'=>wpAny (model P w) (A.deeper (envOfC qual scope s.heap.objs.size f cd)) (leaving (envOfC qual scope s.heap.objs.size f cd) e) (fun _ s''=>CX outer H s E e s'') (fun e' s''=>CX outer H s E e' s'') s'
theorem vR {sc:Scope}{n:Nat}{x:Str}(h:sc.names.lookup x=some .cell):∃c,(cellsFrom n sc.names []).lookup x=some c:=by
 have q:=PySem.W.cellsFrom_some sc.names n [] (.inl h)
 exact Option.isSome_iff_exists.mp q
theorem Dr {CX:vO}{P:Program}{w:World}{K:PySem.W.Frag}{mg:Str→Option Value}{base:Heap}{N ps:List Str}{qual:Str}{scope:Scope}{f:Addr}{cd:Value}{A:Around}{outer:List Env}{s s1:Shared}{H:Hp}{E:XK}{us:List Value}{vs:List V}
  (S:av N ps scope) (hd:A.handled=none) (e0:vP P w K mg base A outer s H) (hl:vs.length=ps.length) (r:Vals vs us)
  (x:InCallC s s.heap.objs.size (bindL (envOfC qual scope s.heap.objs.size f cd).kindOf (ps.zip us) fun _=>none) (cellsFrom (s.heap.objs.size+1) scope.names []) (bindC (envOfC qual scope s.heap.objs.size f cd).kindOf (ps.zip us) fun _=>none) s1) :
  Inv (vQ CX P w K mg base N qual scope f cd A outer s H E) [] (start N vs) H s1:=by
 have jX:ps.length≤N.length:=by have:=congrArg List.length S.pre; rw [List.length_take] at this; omega
 obtain⟨h1,tk,rfl,hk⟩:=x.done
 have noA:∀b:Addr,b∉(vQ CX P w K mg base N qual scope f cd A outer s H E).ex:=fun b z=>absurd (show b∈([]:List Addr) from z) (by simp)
 refine⟨⟨e0.mod,S.kind,rfl,rfl,Nat.le_refl _,fun y z c h1 h2=>?_,fun y hy=>?_,fun y c _ h=>?_,fun _=>hd,Around.frames_deeper e0.frames,.inr ⟨rfl,rfl⟩,fun b z=>absurd z (noA b),e0.bs,e0.B6,fun b _ _=>noA b,fun b z=>absurd z (noA b),e0.jZ,e0.LB⟩,
  rfl,e0.bare,Un.kept hk,⟨_,x.toInCall.ns,fun i y v h1 h2 h3=>?_⟩,fun y c h=>⟨_,x.cell y c h⟩,e0.bS.fresh (Nat.le_refl _),fun y c h=>?_,fun p hp=>absurd (show p∈([]:List (Addr×Obj)) from hp) (by simp),e0.bS.kept hk,?_⟩
 ·exact name_of_addr x.apart (PySem.mem_of_lookup h1) (PySem.mem_of_lookup h2)
 ·have hy:scope.names.lookup y=some .cell∨scope.names.lookup y=some .free:=hy
  rcases hy with hy | hy
  ·exact vR hy
  ·exact absurd rfl (S.TZ _ (PySem.mem_of_lookup hy))
 ·exact Nat.le_of_lt (x.above y c (PySem.mem_of_lookup h))
 ·have hi:i < vs.length:=by
   unfold start at h2
   by_cases hi:i < vs.length
   ·exact hi
   ·rw [List.getElem?_append_right (by simpa using hi)] at h2
    rw [List.getElem?_replicate] at h2
    split at h2 <;> cases h2
  have ha:vs[i]?=some v:=by
   unfold start at h2
   rw [List.getElem?_append_left (by simpa using hi),List.getElem?_map] at h2
   cases e:vs[i]? with
   | none=>rw [e] at h2; cases h2
   | some a=>rw [e] at h2; cases h2; rfl
  obtain⟨u,hu,rv⟩:=r.get ha
  have hp:ps[i]?=some y:=by
   rw [←S.pre,List.getElem?_take_of_lt (by omega)]; exact h1
  have ndP:ps.Nodup:=by rw [←S.pre]; exact S.nd.sublist (List.take_sublist _ _)
  refine⟨u,rv,?_⟩
  rcases S.par y (List.mem_of_getElem? hp)with k | k
  ·exact .inl ⟨k,rD ndP hp hu k⟩
  ·obtain⟨c,e⟩:=vR (n:=s.heap.objs.size+1) k
   refine .inr ⟨.inl k,c,e,?_⟩
   have q:=x.cell y c e
   rw [rE ndP hp hu (by show scope.names.lookup y≠_; rw [k]; decide)] at q
   exact q
 ·exact e0.bS.fresh (Nat.le_of_lt (x.above y c (PySem.mem_of_lookup h)))
 ·unfold start
  show _=N.length
  rw [List.length_append,List.length_map,List.length_replicate]
  omega
theorem PB {CX:vO}{P:Program}{w:World}{K:PySem.W.Frag}{mg:Str→Option Value}{base:Heap}{k:Nat}{f:Addr}{name qual:Str}{params:Arguments}{body:List Stmt}{scope:Scope}{dV kV doc pm bL ct oc:Value}{an od:Option Addr}
  {Fl:Array (Option Value)}{N ps:List Str}{sp:Sp}(lk:K.lookup f=some ⟨oc,od,.func (PySem.W.fnOf name qual params body scope dV kV doc pm an bL ct),Fl⟩) (s_:PySem.W.codeIn K bL qual=true) (S:av N ps scope)
  (len:∀vs H Q E,sp vs H Q E→vs.length=ps.length)
  (vS:∀(A:Around) (outer:List Env) (s:Shared) (H:Hp) (vs:List V) (Q:VK) (E:XK),cL k (A.deeper (envOfC qual scope s.heap.objs.size f bL))→sp vs H Q E →
   ∃t,sZ (vQ CX P w K mg base N qual scope f bL A outer s H E) body t∧t {nx:=fun _ H'=>Q .bf H',rt:=Q} (start N vs) H) :
  aU P w K mg base CX (k+1) f (PySem.W.fnOf name qual params body scope dV kV doc pm an bL ct) ps sp:=by
 refine⟨len,fun A outer s H args us vs Q E hr e0 hb r Lg=>?_⟩
 have hl:=len _ _ _ _ Lg
 have KX:K.In s.heap:=e0.mod.YU.keeps fun b o e=>(e0.bs b o e).1
 have lim:s.heap.NoLimit:=e0.mod.nolimit.keeps fun b o e=>(e0.bs b o e).1
 have ZC:∀y∈ps.zip us,scope.names.lookup y.1=some .local∨(scope.names.lookup y.1=some .cell∧((cellsFrom (s.heap.objs.size+1) scope.names []).lookup y.1).isSome=true):=fun⟨n,v⟩ hy=>by
  rcases S.par n (List.of_mem_zip hy).1 with q | q
  ·exact .inl q
  ·exact .inr ⟨q,PySem.W.cellsFrom_some _ _ _ (.inl q)⟩
 refine codeAny_call_function hr.depth (KX _ _ lk) rfl S.co S.gen rfl (PySem.W.codeRec_of KX s_) (hb _ _ _ _ ?_)
 refine wpAny_newFunctionEnv_cells S.kind ZC fun env he s1 x=>?_
 subst he
 refine⟨lim.keeps x.toInCall.keep,codeAny_func ?_⟩
 obtain⟨t,ht,hq⟩:=vS A outer s H vs Q E (hr.deeper _) Lg
 have I:Inv (vQ CX P w K mg base N qual scope f bL A outer s H E) [] (start N vs) H s1:=Dr S hr.hd e0 hl r x
 refine wpAny_mono (ht [] s1 (start N vs) H _ I hq) (fun fl s' hs=>?_) fun e s' hs=>hs
 have fin:∀{σ':St}{H':Hp}{v:V}{u:Value},Inv (vQ CX P w K mg base N qual scope f bL A outer s H E) [] σ' H' s'→RelV v u→Q v H'→CE outer P w H s Q u s':=
  fun {σ' H' v u} J rv q=>⟨v,H',J.os,J.bare,J.base,J.bS,rv,q⟩
 cases fl with
 | ret u=>
  obtain⟨v,σ',H',J,rv,q⟩:=hs
  exact fin J rv q
 | next=>
  obtain⟨σ',H',J,q⟩:=hs
  exact fin (v:=V.bf) (u:=Value.none) J rfl q
 | brk=>
  obtain⟨_,_,_,q⟩:=hs
  exact False.elim q
 | cont=>
  obtain⟨_,_,_,q⟩:=hs
  exact False.elim q
end L2
namespace L2
open PySem PySem.Spec PyProof.Rows
section
variable {X:Cx}{x:Str}{p pos:Pos}{e:Expr}{es:List Expr}{t:TA}{id T:String}{r:List V→Hp→VK→Prop}
noncomputable def tCB (r:List V→Hp→VK→Prop) (t:TA):TE:=fun σ H Q=>t σ H fun vs H1=>r vs H1 Q
theorem bh (hc:gO X (.builtin id) r) (hg:Gl X x) (hm:X.mg x=none) (hv:bootBuiltins x=some (.builtin id)) (ha:PA X (e::es) t) (hn:x≠"__name__":=by decide) (TV:(x == ("__debug__":Str))=false:=by decide)
  (he:starEach (e::es) X.env=(false,eval e X.env)::starEach es X.env:=by rfl) (jX:(backTo pos (starEach es X.env)).any (·.1)=false:=by rfl):PE X (.Call (.Name x p) (e::es) [] pos) (tCB r t):=by
 intro pins s σ H Q I h
 refine wpAny_Call_Name_kw (lD I hg hm hv ?_ hn TV)
 exact PyProof.Rows.callWith_builtin1 (b9 (ha pos pins s σ H _ I h) fun us s1 ⟨vs,H1,I1,r1,q1⟩=>hc pins s1 σ H1 vs us Q I1 r1 q1) he jX
theorem dX (hc:gO X (.type T) r) (hg:Gl X x) (hm:X.mg x=none) (hv:bootBuiltins x=some (.type T)) (ha:PA X (e::es) t) (hn:x≠"__name__":=by decide) (TV:(x == ("__debug__":Str))=false:=by decide)
  (he:starEach (e::es) X.env=(false,eval e X.env)::starEach es X.env:=by rfl) (jX:(backTo pos (starEach es X.env)).any (·.1)=false:=by rfl):PE X (.Call (.Name x p) (e::es) [] pos) (tCB r t):=by
 intro pins s σ H Q I h
 refine wpAny_Call_Name_kw (lD I hg hm hv ?_ hn TV)
 exact PyProof.Rows.callWith_type1 (b9 (ha pos pins s σ H _ I h) fun us s1 ⟨vs,H1,I1,r1,q1⟩=>hc pins s1 σ H1 vs us Q I1 r1 q1) he jX
end
end L2
namespace HT
open PySem PyProof.Rows
section
open PySem.SeqAt
open PySem.AutoSeq1 (wpAny_loadPart')
open PySem.MeetsSeq PySem.MeetsSeq2 PySem.MeetsSeq3
end
section
variable {prog:Program}{w:World}{A:Around}{E:Value→Shared→Prop}{s:Shared}
noncomputable def vT (n d:Nat):Option Int→Nat
 | none=>d
 | some v=>if v < 0 then(v+(n:Int)).toNat else min v.toNat n
theorem tI (n d k:Nat):vT n d (some (k:Int))=min k n:=by
 show(if (k:Int) < 0 then((k:Int)+(n:Int)).toNat else min (k:Int).toNat n)=min k n
 rw [if_neg (by omega),Int.toNat_natCast]
end
end HT
namespace L2
open PySem PySem.Spec PyProof.Rows
noncomputable abbrev TO:=St→Hp→(Option Int→Hp→Prop)→Prop
noncomputable def PO (X:Cx) (e:Option Expr) (t:TO):Prop:=
 ∀(pins:List (Addr×Obj)) (s:Shared) (σ:St) (H:Hp) (Q:Option Int→Hp→Prop),Inv X pins σ H s→t σ H Q →
  wpAny (model X.prog X.w) X.A (evalPart e X.env) (fun u s'=>∃o H',Inv X pins σ H' s'∧IsPart u o∧Q o H') X.xe s
noncomputable def Cf:TO:=fun _ H Q=>Q none H
noncomputable def PD (t:TE):TO:=fun σ H Q=>t σ H fun x H1=>∃i,x=.int i∧Q (some i) H1
theorem intsAre_of {ns:List Int}:∀{us:List Value},Vals (ns.map V.int) us→IntsAre us ns:=by
 induction ns with
 | nil=>intro us r; rw [List.map_nil] at r; cases r; exact .nil
 | cons n ns ih=>
  intro us r
  rw [List.map_cons] at r
  cases r with
  | cons r1 r2=>
   obtain⟨t,e⟩:=r1
   subst e
   exact .cons n t (ih r2)
section
variable {X:Cx}{e:Expr}{te:TE}{lo hi:Option Expr}{tl th:TO}{pos p2:Pos}
theorem Ci:PO X none Cf:=by
 intro pins s σ H Q I h
 rw [evalPart_none]
 exact wpAny_pure ⟨none,H,I,.none,h⟩
theorem iN (h:PE X e te):PO X (some e) (PD te):=by
 intro pins s σ H Q I hw
 rw [evalPart_some]
 refine b9 (h pins s σ H _ I hw) fun u s1 ⟨x,H1,I1,r1,q1⟩=>?_
 obtain⟨i,rfl,q⟩:=q1
 obtain⟨t,rfl⟩:=r1
 exact⟨some i,H1,I1,.int i t,q⟩
noncomputable def SlR (X:Cx) (r:V→Option Int→Option Int→Hp→VK→Prop):Prop:=
 ∀(pins:List (Addr×Obj)) (s:Shared) (σ:St) (H:Hp) (x:V) (v vl vu:Value) (lo hi:Option Int) (sl:Addr) (Q:VK),Inv X pins σ H s→RelV x v→s.heap.IsSliceOf sl vl vu .none→IsPart vl lo→IsPart vu hi→r x lo hi H Q →
  ∃T id,typeLookup (.type T) "__getitem__"=pure (some (.builtin id))∧s.TypeIs v T∧wpAny (model X.prog X.w) X.A (getItem v (.ref sl)) (EP X pins σ Q) X.xe s
noncomputable def tSl (r:V→Option Int→Option Int→Hp→VK→Prop) (te:TE) (tl th:TO):TE:=fun σ H Q=>te σ H fun x H1=>tl σ H1 fun l H2=>th σ H2 fun u H3=>r x l u H3 Q
theorem j_ {r:V→Option Int→Option Int→Hp→VK→Prop}(hr:SlR X r) (he:PE X e te) (hl:PO X lo tl) (hu:PO X hi th):PE X (.Subscript e (.Slice lo hi none p2) pos) (tSl r te tl th):=by
 intro pins s σ H Q I h
 refine Subscript_ (b9 (he pins s σ H _ I h) fun v s1 ⟨x,H1,I1,r1,q1⟩=>?_)
 refine wpAny_Slice (b9 (hl pins s1 σ H1 _ I1 q1) fun vl s2 ⟨l,H2,I2,pl,q2⟩=>b9 (hu pins s2 σ H2 _ I2 q2) fun vu s3 ⟨u,H3,I3,pu,q3⟩=>?_)
 rw [evalPart_none]
 refine wpAny_pure ?_
 have I4:Inv X pins σ H3 {s3 with heap:=s3.heap.push {cls:=.type "slice",data:=.fields #[vl,vu,.none]}}:=I3.kept (t':=s3.toks) fun b ob q=>Heap.get?_push_of_some _ q
 obtain⟨T,id,hT,ht,hg⟩:=hr pins {s3 with heap:=s3.heap.push {cls:=.type "slice",data:=.fields #[vl,vu,.none]}} σ H3 x v vl vu l u s3.heap.objs.size Q I4 r1 (Heap.IsSliceOf.new ..) pl pu q3
 show wpAny (model X.prog X.w) X.A (subscriptTail e (.Slice lo hi none p2) v (.ref s3.heap.objs.size)) (EP X pins σ Q) X.xe {s3 with heap:=s3.heap.push {cls:=.type "slice",data:=.fields #[vl,vu,.none]}}
 exact tail_any (ops:=[.ref s3.heap.objs.size,v]) ht hT hg (by with_unfolding_all rfl)
noncomputable def qu (xs:List V) (lo hi:Option Int):List V:=(xs.drop (HT.vT xs.length 0 lo)).take (HT.vT xs.length xs.length hi - HT.vT xs.length 0 lo)
theorem vU (xs:List V) (lo hi:Option Int):(qu xs lo hi).length≤xs.length:=by
 unfold qu
 rw [List.length_take,List.length_drop]
 omega
end
end L2
namespace L2
open PySem PySem.Spec PyProof.Rows
noncomputable def Lh (n:Nat) (i:Int):Option Nat:=if 0≤i then(if i < n then some i.toNat else none)else if -(n:Int)≤i then some (i+n).toNat else none
noncomputable def qm {α:Type}(xs:List α) (i:Int):Option α:=(Lh xs.length i).bind fun j=>xs[j]?
theorem Cj {n:Nat}{i:Int}{j:Nat}(h:Lh n i=some j):seqIndex? i n=some j∧j < n∧-(n:Int)≤i∧i < n:=by
 unfold Lh at h
 by_cases h0:0≤i
 ·rw [if_pos h0] at h
  by_cases h1:i < n
  ·rw [if_pos h1] at h
   have e:i.toNat=j:=Option.some.inj h
   exact⟨by rw [seqIndex_of h0 h1,e],by omega,by omega,h1⟩
  ·rw [if_neg h1] at h; cases h
 ·rw [if_neg h0] at h
  by_cases h1:-(n:Int)≤i
  ·rw [if_pos h1] at h
   have e:(i+n).toNat=j:=Option.some.inj h
   exact⟨by rw [seqIndex_neg (by omega) h1,e],by omega,h1,by omega⟩
  ·rw [if_neg h1] at h; cases h
theorem Ck {α:Type}{xs:List α}{i:Int}{v:α}(h:qm xs i=some v):∃j,seqIndex? i xs.length=some j∧xs[j]?=some v∧j < xs.length∧-(xs.length:Int)≤i∧i < xs.length:=by
 unfold qm at h
 cases e:Lh xs.length i with
 | none=>rw [e] at h; cases h
 | some j=>
  rw [e] at h
  obtain⟨h1,h2,h3,h4⟩:=Cj e
  exact⟨j,h1,h,h2,h3,h4⟩
theorem bp {α:Type}{xs:List α}{j:Nat}{v:α}(h:xs[j]?=some v):qm xs (j:Int)=some v:=by
 have hj:j < xs.length:=(List.getElem?_eq_some_iff.mp h).1
 have e:Lh xs.length (j:Int)=some j:=by
  unfold Lh
  rw [if_pos (by omega),if_pos (by omega)]; simp
 unfold qm; rw [e]; exact h
noncomputable def LR (b:Expr):Prop:=∀o i,subscripted b false o i=operate [o,i] (getItem o i)
noncomputable def ZD (X:Cx) (r:R2):Prop:=
 ∀(value slice:Expr) (pins:List (Addr×Obj)) (s:Shared) (σ:St) (H:Hp) (x y:V) (v u:Value) (Q:VK),Inv X pins σ H s→RelV x v→RelV y u→r x y H Q →
  subscripted slice false v u=operate [v,u] (getItem v u)→wpAny (model X.prog X.w) X.A (subscriptTail value slice v u) (EP X pins σ Q) X.xe s
noncomputable def MtR (X:Cx) (id:String) (r:V→List V→Hp→VK→Prop):Prop:=
 ∀(pins:List (Addr×Obj)) (s:Shared) (σ:St) (H:Hp) (x:V) (xs:List V) (v:Value) (us:List Value) (Q:VK),Inv X pins σ H s→RelV x v→Vals xs us→r x xs H Q →
  wpAny (model X.prog X.w) X.A (call (.builtin id) (v::us)) (EP X pins σ Q) X.xe s
section
variable {X:Cx}{a b:Expr}{ta tb:TE}{pos:Pos}
theorem aG {r:R2}(hr:ZD X r) (ha:PE X a ta) (hb:PE X b tb) (hs:LR b):PE X (.Subscript a b pos) (LL r ta tb):=by
 intro pins s σ H Q I h
 exact Subscript_ (TL ha hb I h fun v u s2 x y H2 I2 rx ry q=>hr a b pins s2 σ H2 x y v u Q I2 rx ry q (hs _ _))
noncomputable def Ar (K:PySem.W.Frag):R2:=fun x y H Q=>∃p xs i v,x=.ref p∧y=.int i∧aF K H p xs∧qm xs i=some v∧Q v H
noncomputable def ZE (K:PySem.W.Frag):R2:=fun x y H Q=>∃p xs i v,x=.ref p∧y=.int i∧dO K H p xs∧qm xs i=some v∧Q v H
theorem ay:ZD X (Ar X.K):=by
 intro value slice pins s σ H x y v u Q I rx ry h hs
 obtain⟨p,xs,i,z,rfl,rfl,hq,he,q⟩:=h
 cases rx
 obtain⟨t,rfl⟩:=ry
 obtain⟨aO,r,pl,hz⟩:=I.list hq
 obtain⟨j,h1,h2,h3,h4,h5⟩:=Ck he
 obtain⟨w,ew,T3⟩:=r.get h2
 have hl:=r.length
 have hn:=tF
 have fin:EP X pins σ Q w s:=⟨z,H,I,T3,q⟩
 by_cases h0:0≤i
 ·have hj:i.toNat=j:=by
   rw [seqIndex_of h0 h5] at h1
   exact Option.some.inj h1
  exact item_listR pl.isList h0 (by omega) (by rw [hj]; simpa using ew) fin hs
 ·have hj:(i+(aO.toArray.size:Int)).toNat=j:=by
   rw [seqIndex_neg (by omega) h4] at h1
   rw [List.size_toArray,←hl]
   exact Option.some.inj h1
  exact subscriptTail_builtinR (x:=w) pl.isList.typeIs slot_list_getitem.lookup
   (wpAny_getItem_list_neg (Q:=fun r s'=>r=w∧EP X pins σ Q r s') pl.isList (by omega) (by rw [List.size_toArray] <;> omega) (by omega) (by rw [hj]; simpa using ew) ⟨rfl,fin⟩) hs
theorem dy:ZD X (ZE X.K):=by
 intro value slice pins s σ H x y v u Q I rx ry h hs
 obtain⟨p,xs,i,z,rfl,rfl,hq,he,q⟩:=h
 cases rx
 obtain⟨t,rfl⟩:=ry
 obtain⟨aO,r,pl,hz⟩:=I.tuple hq
 obtain⟨j,h1,h2,h3,h4,h5⟩:=Ck he
 obtain⟨w,ew,T3⟩:=r.get h2
 have hl:=r.length
 have hn:=tF
 have fin:EP X pins σ Q w s:=⟨z,H,I,T3,q⟩
 exact subscriptTail_builtinR (x:=w) pl.typeIs slot_tuple_getitem.lookup
  (getItem_tuple (j:=j) (Q:=fun r s'=>r=w∧EP X pins σ Q r s') pl (by omega) (by omega) (by rw [List.size_toArray,←hl]; exact h1) (by simpa using ew) ⟨rfl,fin⟩) hs
theorem As (aO:List Value) (n j:Nat) (u:Value):Obj.mapSeq (·.setIfInBounds j u) {cls:=.type "list",data:=.seq aO.toArray n}={cls:=.type "list",data:=.seq (aO.set j u).toArray n}:=by
 simp [Obj.mapSeq]
theorem Inv.lst {pins:List (Addr×Obj)}{σ:St}{H:Hp}{s:Shared}{p:Addr}{xs:List V}(I:Inv X pins σ H s) (h:H p=some (.lst xs)) :
  ∃(aO:List Value) (n:Nat),Vals xs aO∧s.heap.get? p=some {cls:=.type "list",data:=.seq aO.toArray n}∧xs.length≤sizeLine:=by
 obtain⟨z,aO,n,r,e⟩:=I.bS p _ h
 exact⟨aO,n,r,e,z⟩
theorem Inv.T4 {pins:List (Addr×Obj)}{σ:St}{H:Hp}{s:Shared}{p:Addr}{xs ys:List V}{aO its':List Value}{n n':Nat}{f:Obj→Obj}(I:Inv X pins σ H s) (h:H p=some (.lst xs))
  (ho:s.heap.get? p=some {cls:=.type "list",data:=.seq aO.toArray n}) (hf:f {cls:=.type "list",data:=.seq aO.toArray n}={cls:=.type "list",data:=.seq its'.toArray n'}) (r:Vals ys its') (hz:ys.length≤sizeLine) (t:Nat) :
  Inv X pins σ (upd H p (.lst ys)) {s with heap:=s.heap.update p f,toks:=t}:=by
 have e:(s.heap.update p f).get? p=some {cls:=.type "list",data:=.seq its'.toArray n'}:=by
  rw [Heap.get?_update_self f ho (by rw [hf] <;> rfl),hf]
 refine I.write (x:=p) (e:=p) (by rw [h]; trivial) (.inl rfl) (fun b u hb q=>(Heap.get?_update_other _ _ (Ne.symm hb)).trans q) ⟨_,e⟩ ?_
 exact⟨hz,its',n',r,e⟩
noncomputable def ZF:V→V→V→Hp→(Hp→Prop)→Prop:=fun o i v H Q=>∃p xs k j,o=.ref p∧i=.int k∧H p=some (.lst xs)∧Lh xs.length k=some j∧Q (upd H p (.lst (xs.set j v)))
theorem set_list:Zt X ZF:=by
 intro pins s σ H o i v ov iv u Q I ro ri rv h
 obtain⟨p,xs,k,j,rfl,rfl,hp,hj,q⟩:=h
 cases ro
 obtain⟨t,rfl⟩:=ri
 obtain⟨aO,n,r,ho,hz⟩:=I.lst hp
 obtain⟨h1,h2,h3,h4⟩:=Cj hj
 have hl:=r.length
 have hn:=tF
 have I':Inv X pins σ (upd H p (.lst (xs.set j v))) {s with heap:=s.heap.update p (Obj.mapSeq (·.setIfInBounds j u))}:=
  I.T4 hp ho (As aO n j u) (r.set rv j) (by rw [List.length_set]; exact hz) s.toks
 by_cases h0:0≤k
 ·have hk:k.toNat=j:=by
   rw [seqIndex_of h0 h4] at h1
   exact Option.some.inj h1
  exact PySem.W.ki_setAt ho h0 (by omega) (by rw [List.size_toArray,←hl]; exact h4) (by rw [hk]; exact⟨_,I',q⟩)
 ·have hk:(k+(aO.toArray.size:Int)).toNat=j:=by
   rw [seqIndex_neg (by omega) h3] at h1
   rw [List.size_toArray,←hl]
   exact Option.some.inj h1
  exact PySem.W.ki_setBack ho (by omega) (by rw [List.size_toArray,←hl]; exact h3) (by omega) (by rw [hk]; exact⟨_,I',q⟩)
theorem tJ (lo hi:Option Int) (n:Nat):(sliceBounds lo hi none n).1=((HT.vT n 0 lo:Nat):Int)∧(sliceBounds lo hi none n).2.1=((HT.vT n n hi:Nat):Int)∧(sliceBounds lo hi none n).2.2=1:=by
 refine⟨?_,?_,rfl⟩
 ·cases lo with
  | none=>simp [sliceBounds,HT.vT]
  | some i=>
   simp only [sliceBounds,HT.vT,Option.getD_none,show(1:Int) > 0 by decide,if_true]
   by_cases h:i < 0
   ·simp only [h,if_true] <;> omega
   ·simp only [h,if_false] <;> omega
 ·cases hi with
  | none=>simp [sliceBounds,HT.vT]
  | some i=>
   simp only [sliceBounds,HT.vT,Option.getD_none,show(1:Int) > 0 by decide,if_true]
   by_cases h:i < 0
   ·simp only [h,if_true] <;> omega
   ·simp only [h,if_false] <;> omega
theorem qv (aO:List Value) (lo hi:Option Int):slicePick aO.toArray lo hi none=((aO.drop (HT.vT aO.length 0 lo)).take (HT.vT aO.length aO.length hi - HT.vT aO.length 0 lo)).toArray:=by
 obtain⟨h1,h2,h3⟩:=tJ lo hi aO.toArray.size
 unfold slicePick
 rw [h1,h2,h3]
 simp only [sliceRange_one,pick_run,List.size_toArray] <;> rfl
noncomputable def afn (K:PySem.W.Frag):V→Option Int→Option Int→Hp→VK→Prop:=fun x lo hi H Q=>∃a xs,x=.ref a∧aF K H a xs∧∀p,H p=none→Q (.ref p) (upd H p (.lst (qu xs lo hi)))
theorem nM:SlR X (afn X.K):=by
 intro pins s σ H x v vl vu lo hi sl Q I rx hs pl pu h
 obtain⟨a,xs,rfl,hx,q⟩:=h
 cases rx
 obtain⟨aO,r,ht,hz⟩:=I.list hx
 have hlen:=r.length
 refine⟨"list",_,slot_list_getitem.lookup,ht.isList.typeIs,?_⟩
 refine wpAny_getItem_list_slice ht.isList hs pl pu .none (by simp) ?_ (by rw [List.size_toArray] <;> omega)
 rw [qv,←hlen]
 refine⟨.ref s.heap.objs.size,_,I.laid (t':=s.toks) (o:=.lst (qu xs lo hi)) (fun b ob q=>Heap.get?_push_of_some _ q) (Nat.le_refl _) ?_,rfl,q _ (I.bS.fresh (Nat.le_refl _))⟩
 exact⟨Nat.le_trans (vU xs lo hi) hz,_,0,(r.drop (HT.vT xs.length 0 lo)).take (HT.vT xs.length xs.length hi - HT.vT xs.length 0 lo),Heap.get?_push_size _ rfl⟩
noncomputable def fF:V→Bool
 | .bf=>true
 | .bl _=>true
 | .int _=>true
 | .str _=>true
 | _=>false
noncomputable def Li:V→V→Bool
 | .bf,.bf=>true
 | .bl a,.bl b=>a == b
 | .bl a,.int b=>(if a then 1 else 0) == b
 | .int a,.bl b=>a == (if b then 1 else 0)
 | .int a,.int b=>a == b
 | .str a,.str b=>a == b
 | _,_=>false
theorem T5 {A:Around}{s:Shared}{y x:V}{u v:Value}(ry:RelV y u) (rx:RelV x v) (fy:fF y=true) (fx:fF x=true):SeqAt.EqAt A s u v (Li y x):=by
 cases y with
 | bf=>
  cases ry
  cases x with
  | bf=>cases rx; exact SeqAt.EqAt.same _
  | bl b=>cases rx; exact SeqAt.EqAt.none_bool b
  | int b=>obtain⟨t,rfl⟩:=rx; exact SeqAt.EqAt.none_int b t
  | str b=>obtain⟨t,rfl⟩:=rx; exact SeqAt.EqAt.none_str b t
  | _=>exact absurd (show false=true from fx) Bool.false_ne_true
 | bl a=>
  cases ry
  cases x with
  | bf=>cases rx; exact SeqAt.EqAt.bool_none a
  | bl b=>cases rx; exact SeqAt.EqAt.bool_bool a b
  | int b=>obtain⟨t,rfl⟩:=rx; exact SeqAt.EqAt.bool_int a b t
  | str b=>obtain⟨t,rfl⟩:=rx; exact SeqAt.EqAt.bool_str a b t
  | _=>exact absurd (show false=true from fx) Bool.false_ne_true
 | int a=>
  obtain⟨t',rfl⟩:=ry
  cases x with
  | bf=>cases rx; exact SeqAt.EqAt.int_none a t'
  | bl b=>cases rx; exact SeqAt.EqAt.int_bool a t' b
  | int b=>obtain⟨t,rfl⟩:=rx; exact SeqAt.EqAt.int_int a t' b t
  | str b=>obtain⟨t,rfl⟩:=rx; exact SeqAt.EqAt.int_str a t' b t
  | _=>exact absurd (show false=true from fx) Bool.false_ne_true
 | str a=>
  obtain⟨t',rfl⟩:=ry
  cases x with
  | bf=>cases rx; exact SeqAt.EqAt.str_none a t'
  | bl b=>cases rx; exact SeqAt.EqAt.str_bool a t' b
  | int b=>obtain⟨t,rfl⟩:=rx; exact SeqAt.EqAt.str_int a t' b t
  | str b=>obtain⟨t,rfl⟩:=rx; exact SeqAt.EqAt.str_str a t' b t
  | _=>exact absurd (show false=true from fx) Bool.false_ne_true
 | _=>exact absurd (show false=true from fy) Bool.false_ne_true
noncomputable def Au (x:V) (u:Value):Bool:=match u with
 | .none=>Li .bf x
 | .bool b=>Li (.bl b) x
 | .int i _=>Li (.int i) x
 | .str z _=>Li (.str z) x
 | _=>false
theorem Fm {x y:V}{u:Value}(r:RelV y u) (f:fF y=true):Au x u=Li y x:=by
 cases y with
 | bf=>cases r; rfl
 | bl b=>cases r; rfl
 | int i=>obtain⟨t,rfl⟩:=r; rfl
 | str z=>obtain⟨t,rfl⟩:=r; rfl
 | _=>exact absurd (show false=true from f) Bool.false_ne_true
theorem ka {x:V}:∀{xs:List V}{us:List Value},Vals xs us→xs.all fF=true→us.any (Au x)=xs.any fun y=>Li y x
 | _,_,.nil,_=>rfl
 | y::xs,u::us,.cons r t,f=>by
  rw [List.all_cons,Bool.and_eq_true] at f
  rw [List.any_cons,List.any_cons,Fm r f.1,ka t f.2]
theorem g9 {A:Around}{s:Shared}{x:V}{v:Value}(rx:RelV x v) (fx:fF x=true):∀{xs:List V}{us:List Value},Vals xs us→xs.all fF=true→∀u∈us,SeqAt.EqAt A s u v (Au x u)
 | _,_,.nil,_=>fun u hu=>by cases hu
 | y::xs,u::us,.cons r t,f=>fun u' hu=>by
  rw [List.all_cons,Bool.and_eq_true] at f
  rcases List.mem_cons.mp hu with rfl | hu
  ·rw [Fm r f.1]; exact T5 r rx f.1 fx
  ·exact g9 rx fx t f.2 u' hu
noncomputable def inV (x:V) (xs:List V):Bool:=xs.any fun y=>Li y x
noncomputable def rIn (K:PySem.W.Frag) (neg:Bool):R2:=fun x y H Q=>∃p xs,y=.ref p∧(aF K H p xs∨dO K H p xs)∧fF x=true∧xs.all fF=true∧Q (.bl (if neg then !inV x xs else inV x xs)) H
theorem rF:j8 X (compareOp .In) (rIn X.K false):=by
 intro pins s σ H x y v u Q I rx ry h
 obtain⟨p,xs,rfl,hq,fx,fs,q⟩:=h
 cases ry
 rcases hq with hq | hq
 ·obtain⟨aO,r,pl,hz⟩:=I.list hq
  refine SeqAt.in_listAt (Au x) pl.isList (fun w hw=>g9 rx fx r fs w (by simpa using hw)) ⟨.bl _,H,I,rfl,?_⟩
  rw [show aO.toArray.any (Au x)=aO.any (Au x)by simp,ka r fs]
  exact q
 ·obtain⟨aO,r,pl,hz⟩:=I.tuple hq
  refine SeqAt.in_tupleAt (Au x) pl (fun w hw=>g9 rx fx r fs w (by simpa using hw)) ⟨.bl _,H,I,rfl,?_⟩
  rw [show aO.toArray.any (Au x)=aO.any (Au x)by simp,ka r fs]
  exact q
theorem gu:j8 X (compareOp .NotIn) (rIn X.K true):=by
 intro pins s σ H x y v u Q I rx ry h
 obtain⟨p,xs,rfl,hq,fx,fs,q⟩:=h
 cases ry
 rcases hq with hq | hq
 ·obtain⟨aO,r,pl,hz⟩:=I.list hq
  refine SeqAt.notIn_listAt (Au x) pl.isList (fun w hw=>g9 rx fx r fs w (by simpa using hw)) ⟨.bl _,H,I,rfl,?_⟩
  rw [show aO.toArray.any (Au x)=aO.any (Au x)by simp,ka r fs]
  exact q
 ·obtain⟨aO,r,pl,hz⟩:=I.tuple hq
  refine SeqAt.notIn_tupleAt (Au x) pl (fun w hw=>g9 rx fx r fs w (by simpa using hw)) ⟨.bl _,H,I,rfl,?_⟩
  rw [show aO.toArray.any (Au x)=aO.any (Au x)by simp,ka r fs]
  exact q
theorem a9:gO X (.builtin "len") (fun xs H Q=>∃p ys,xs=[.ref p]∧(aF X.K H p ys∨dO X.K H p ys)∧Q (.int ys.length) H):=by
 intro pins s σ H xs us Q I r h
 obtain⟨p,ys,rfl,hq,q⟩:=h
 obtain⟨u,rfl,rx⟩:=vals1 r
 cases rx
 have hn:=tF
 rcases hq with hq | hq
 ·obtain⟨aO,r',pl,hz⟩:=I.list hq
  have hlen:=r'.length
  exact Calls.call_len_list pl.isList (by simp only [List.size_toArray] <;> omega) ⟨.int ys.length,H,I.tok _,⟨s.toks+1,by rw [List.size_toArray,hlen]⟩,q⟩
 ·obtain⟨aO,r',pl,hz⟩:=I.tuple hq
  have hlen:=r'.length
  exact len_tuple pl (by simp only [List.size_toArray] <;> omega) ⟨.int ys.length,H,I.tok _,⟨s.toks+1,by rw [List.size_toArray,hlen]⟩,q⟩
theorem eS:gO X (.type "list") (fun xs H Q=>∃p ys,xs=[.ref p]∧(aF X.K H p ys∨dO X.K H p ys)∧∀l,H l=none→Q (.ref l) (upd H l (.lst ys))):=by
 intro pins s σ H xs us Q I r h
 obtain⟨p,ys,rfl,hq,q⟩:=h
 obtain⟨u,rfl,rx⟩:=vals1 r
 cases rx
 have fin:∀(aO:List Value),Vals ys aO→ys.length≤sizeLine→∀(h':Heap) (c':Nat),(∀b o',s.heap.get? b=some o'→h'.get? b=some o') →
   h'.get? s.heap.objs.size=some {cls:=.type "list",dict:=none,data:=.seq aO.toArray c',slots:=#[]}→EP X pins σ Q (.ref s.heap.objs.size) {s with heap:=h'}:=fun aO r' hz h' c' kp e=>
  ⟨.ref s.heap.objs.size,_,I.laid (t':=s.toks) kp (Nat.le_refl _) (show cw X.prog X.w _ h' _ (.lst ys) from⟨hz,aO,c',r',e⟩),rfl,q _ (I.bS.fresh (Nat.le_refl _))⟩
 rcases hq with hq | hq
 ·obtain⟨aO,r',pl,hz⟩:=I.list hq
  have hlen:=r'.length
  obtain⟨o,ho,hc,n,hd⟩:=pl.isList
  exact call_list_seq p (.inl rfl) ho hc hd (fun h' c' kp e=>fin aO r' hz h' c' kp e) (by simp only [List.size_toArray] <;> omega)
 ·obtain⟨aO,r',pl,hz⟩:=I.tuple hq
  have hlen:=r'.length
  obtain⟨o,ho,hc,n,hd⟩:=pl
  exact call_list_seq p (.inr rfl) ho hc hd (fun h' c' kp e=>fin aO r' hz h' c' kp e) (by simp only [List.size_toArray] <;> omega)
theorem qw:gO X (.type "tuple") (fun xs H Q=>∃p ys,xs=[.ref p]∧((aF X.K H p ys∧∀l,H l=none→Q (.ref l) (upd H l (.tup ys)))∨(dO X.K H p ys∧Q (.ref p) H))):=by
 intro pins s σ H xs us Q I r h
 obtain⟨p,ys,rfl,h⟩:=h
 obtain⟨u,rfl,rx⟩:=vals1 r
 cases rx
 rcases h with ⟨hq,q⟩ | ⟨hq,q⟩
 ·obtain⟨aO,r',pl,hz⟩:=I.list hq
  have hlen:=r'.length
  refine call_tuple_list pl.isList (fun h' kp=>?_) (by simp only [List.size_toArray] <;> omega)
  have I1:Inv X pins σ H {s with heap:=h'}:=I.kept (t':=s.toks) kp
  have I2:Inv X pins σ (upd H h'.objs.size (.tup ys)) {s with heap:=h'.push {cls:=.type "tuple",data:=.seq aO.toArray}}:=
   I1.laid (t':=s.toks) (fun b o e=>Heap.get?_push_of_some _ e) (Nat.le_refl _) (show cw X.prog X.w _ _ _ (.tup ys) from⟨hz,aO,r',IsTup.new _ _⟩)
  exact⟨.ref h'.objs.size,_,I2,rfl,q _ (I1.bS.fresh (Nat.le_refl _))⟩
 ·obtain⟨aO,r',pl,hz⟩:=I.tuple hq
  exact call_tuple_same pl ⟨.ref p,H,I,rfl,q⟩
noncomputable def tyV (K:PySem.W.Frag) (T:String) (x:V) (H:Hp):Prop:=match x with
 | .str _=>T="str"
 | .int _=>T="int"
 | .ref p=>(T="list"∧∃xs,aF K H p xs)∨(T="tuple"∧∃o,K.lookup p=some o∧o.cls=.type "tuple"∧o.dict=none) ∨
   (T="dict"∧((∃kvs,H p=some (.dK kvs))∨∃kvs,H p=some (.dT kvs)))∨(T="set"∧∃S n,H p=some (.set S n))
 | _=>False
theorem T6 {pins:List (Addr×Obj)}{σ:St}{H:Hp}{s:Shared}{T:String}{x:V}{v:Value}(I:Inv X pins σ H s) (r:RelV x v) (ty:tyV X.K T x H) :
  s.TypeIs v T∧∀a,v=.ref a→∃ob,s.heap.get? a=some ob∧ob.dict=none:=by
 cases x with
 | str z=>
  obtain⟨t,rfl⟩:=r
  cases (show T="str" from ty)
  exact⟨typeIs_str s z t,fun _ e=>nomatch e⟩
 | int i=>
  obtain⟨t,rfl⟩:=r
  cases (show T="int" from ty)
  exact⟨typeIs_int s i t,fun _ e=>nomatch e⟩
 | ref p=>
  cases r
  rcases ty with ⟨rfl,xs,hq⟩ | ⟨rfl,o,hk,hc,hd⟩ | ⟨rfl,hk⟩ | ⟨rfl,S,n,hk⟩
  ·obtain⟨aO,_,pl,_⟩:=I.list hq
   refine⟨pl.isList.typeIs,fun a e=>?_⟩
   cases e
   obtain⟨o,n,e,c,hd,_⟩:=pl
   exact⟨o,e,hd⟩
  ·refine⟨⟨o,I.sX p o hk,hc⟩,fun a e=>?_⟩
   cases e
   exact⟨o,I.sX _ o hk,hd⟩
  ·have z:∃o,s.heap.get? p=some o∧o.ExactDict:=by
    rcases hk with ⟨kvs,hk⟩ | ⟨kvs,hk⟩
    ·obtain⟨_,_,_,_,o,_,_,e,ex,_⟩:=I.bS p _ hk
     exact⟨o,e,ex⟩
    ·obtain⟨_,_,_,_,o,_,_,e,ex,_⟩:=I.bS p _ hk
     exact⟨o,e,ex⟩
   obtain⟨o,e,ex⟩:=z
   refine⟨⟨o,e,ex.1⟩,fun a e2=>?_⟩
   cases e2
   exact⟨o,e,ex.2.1⟩
  ·obtain⟨o,_,_,_,e,ex,_⟩:=I.bS p _ hk
   refine⟨⟨o,e,ex.1⟩,fun a e2=>?_⟩
   cases e2
   exact⟨o,e,ex.2.1⟩
 | _=>exact False.elim ty
noncomputable def afo (K:PySem.W.Frag) (T:String) (r:V→List V→Hp→VK→Prop) (to:TE):TE:=fun σ H Q=>to σ H fun x H1=>tyV K T x H1∧r x [] H1 Q
noncomputable def tBM (K:PySem.W.Frag) (T:String) (r:V→List V→Hp→VK→Prop) (to:TE) (t:TA):TE:=fun σ H Q=>to σ H fun x H1=>tyV K T x H1∧t σ H1 fun xs H2=>r x xs H2 Q
variable {o e:Expr}{es:List Expr}{to:TE}{t:TA}{name:Str}{apos fw:Pos}{T id:String}{r:V→List V→Hp→VK→Prop}
theorem jh (pa:PlainAttrs T) (slot:Slot T name id) (PF:typeOf (.builtin id)=pure (.type "method_descriptor")) (hm:MtR X id r) (ho:PE X o to) (ha:PA X (e::es) t)
  (ZG:attributeBase o name X.env (eval o X.env)=eval o X.env:=by rfl)
  (afp:((backTo fw (starEach (e::es) X.env)).all (fun x=>!x.1)&&(backToKw fw (keywordEach [] X.env)).all (fun x=>x.1.isSome)
   && decide ((e::es).length+([]:List Keyword).length+(if ([]:List Keyword).isEmpty then 0 else 1) < 30))=true:=by rfl)
  (ZH:(apos.endLine == fw.line)=true:=by rfl) (hs:starEach (e::es) X.env=(false,eval e X.env)::starEach es X.env:=by rfl) (T7:(backTo fw (starEach es X.env)).any (·.1)=false:=by rfl) :
  PE X (.Call (.Attribute o name apos) (e::es) [] fw) (tBM X.K T r to t):=by
 intro pins s σ H Q I h
 refine wpAny_Call_method_late ZG afp ZH rfl (b9 (ho pins s σ H _ I h) fun v s1 ⟨x,H1,I1,r1,ty,q1⟩=>?_)
 obtain⟨h1,h2⟩:=T6 I1 r1 ty
 refine⟨T,id,pa,slot,PF,h1,h2,?_⟩
 have hA:=ha fw pins s1 σ H1 _ I1 q1
 rw [hs] at hA ⊢
 refine Calls.callWith_builtin (by show(false || (backTo fw (starEach es X.env)).any (·.1))=false; rw [T7] <;> rfl) (Calls.evalArgs_plain ?_)
 exact b9 hA fun us s2 ⟨vs,H2,I2,r2,q2⟩=>hm pins s2 σ H2 x vs v us Q I2 r1 r2 q2
end
end L2
namespace L2
open PySem PySem.Spec PyProof.Rows
noncomputable def MtM (X:Cx) (id:String) (r:V→List V→Hp→VK→Prop):Prop:=
 ∀(pins:List (Addr×Obj)) (s:Shared) (σ:St) (H:Hp) (x:V) (xs:List V) (v:Value) (us:List Value) (Q:VK),Inv X pins σ H s→RelV x v→Vals xs us→r x xs H Q →
  wpAny (model X.prog X.w) X.A (call (.builtin id) (v::us)) (EP X pins σ Q) X.xe s
theorem Vals.one:∀{x:V}{us:List Value},Vals [x] us→∃u,us=[u]∧RelV x u
 | _,_,.cons r .nil=>⟨_,rfl,r⟩
theorem Vals.rep {xs:List V}{us:List Value}(h:Vals xs us):∀k:Nat,Vals (List.replicate k xs).flatten (List.replicate k us).flatten
 | 0=>.nil
 | k+1=>by
  rw [List.replicate_succ,List.replicate_succ,List.flatten_cons,List.flatten_cons]
  exact Vals.append h (Vals.rep h k)
theorem foldl_rep (aO:List Value):∀(k:Nat) (acc:List Value),
  List.foldl (fun x1 x2=>x1++x2) acc.toArray (List.replicate k aO.toArray)=(acc++(List.replicate k aO).flatten).toArray
 | 0,acc=>by simp
 | k+1,acc=>by
  have e:acc.toArray++aO.toArray=(acc++aO).toArray:=by simp
  have e2:(acc++aO)++(List.replicate k aO).flatten=acc++(List.replicate (k+1) aO).flatten:=by
   rw [List.replicate_succ,List.flatten_cons,List.append_assoc]
  rw [←e2,←foldl_rep aO k (acc++aO),←e,List.replicate_succ,List.foldl_cons]
section
variable {X:Cx}{pins:List (Addr×Obj)}{σ:St}{H:Hp}{s:Shared}{l b:Addr}{xs ys zs:List V}
theorem Inv.ZI {aO its':List Value}{n:Nat}{f:Array Value→Array Value}{t':Nat}(I:Inv X pins σ H s) (hH:H l=some (.lst xs))
  (e:s.heap.get? l=some {cls:=.type "list",data:=.seq aO.toArray n}) (hf:f aO.toArray=its'.toArray) (hv:Vals ys its') (hz:ys.length≤sizeLine) :
  Inv X pins σ (upd H l (.lst ys)) {s with heap:=s.heap.update l (Obj.mapSeq f),toks:=t'}:=by
 have q:=PySem.IsL.update e f
 rw [hf] at q
 refine I.write (x:=l) (e:=l) (by rw [hH]; exact trivial) (.inl rfl) (fun b' u hb hu=>(Heap.get?_update_other s.heap (Obj.mapSeq f) (Ne.symm hb)).trans hu) ⟨_,q⟩ ?_
 exact⟨hz,its',_,hv,q⟩
theorem Inv.LS {aO:List Value}{t':Nat}(I:Inv X pins σ H s) (hv:Vals ys aO) (hz:ys.length≤sizeLine) :
  Inv X pins σ (upd H s.heap.objs.size (.lst ys)) {s with heap:=s.heap.push {cls:=.type "list",data:=.seq aO.toArray},toks:=t'}:=
 I.laid (fun _ _ q=>Heap.get?_push_of_some _ q) (Nat.le_refl _) ⟨hz,aO,0,hv,Heap.get?_push_size _ rfl⟩
theorem Inv.fresh (I:Inv X pins σ H s):H s.heap.objs.size=none:=I.bS.fresh (Nat.le_refl _)
theorem Inv.Fn (I:Inv X pins σ H s) (hH:H l=some (.lst xs)):xs.length≤sizeLine∧∃(aO:List Value) (n:Nat),Vals xs aO∧xs.length=aO.length∧s.heap.get? l=some {cls:=.type "list",data:=.seq aO.toArray n}:=by
 obtain⟨z,aO,n,r,e⟩:=I.bS l _ hH
 exact⟨z,aO,n,r,r.length,e⟩
theorem vV {n:Nat}(h:n≤sizeLine):Builtin.List.listTooLong n=false:=by
 unfold Builtin.List.listTooLong
 exact decide_eq_false (by omega)
end
section
variable {X:Cx}
noncomputable def LU:V→List V→Hp→VK→Prop:=fun x vs H Q=>∃l xs y,x=.ref l∧vs=[y]∧H l=some (.lst xs)∧xs.length < sizeLine∧Q .bf (upd H l (.lst (xs++[y])))
theorem dj:MtM X "list.append" LU:=by
 intro pins s σ H x vs v us Q I rx rv h
 obtain⟨l,xs,y,rfl,rfl,hH,hz,q⟩:=h
 cases rx
 obtain⟨u,rfl,ru⟩:=rv.one
 obtain⟨z,aO,n,r,hl,e⟩:=I.Fn hH
 refine call_meets F.slot_list_append ⟨_,e,rfl⟩ F.entry_list_append (F.args_list_append_2 _ _) (PySem.list_append l aO.toArray n u (by rw [List.size_toArray]; omega)) ⟨e,?_⟩
 refine⟨.bf,_,I.ZI (its':=aO++[u]) hH e (by simp) (r.append (.cons ru .nil)) ?_,rfl,q⟩
 rw [List.length_append,List.length_singleton]
 omega
noncomputable def LV:V→List V→Hp→VK→Prop:=fun x vs H Q=>∃l b xs zs,x=.ref l∧vs=[.ref b]∧H l=some (.lst xs)∧H b=some (.lst zs)∧xs.length+zs.length≤sizeLine∧Q .bf (upd H l (.lst (xs++zs)))
theorem Ds:MtM X "list.extend" LV:=by
 intro pins s σ H x vs v us Q I rx rv h
 obtain⟨l,b,xs,zs,rfl,rfl,hH,hB,hz,q⟩:=h
 cases rx
 obtain⟨u,rfl,ru⟩:=rv.one
 cases ru
 obtain⟨z,aO,n,r,hl,e⟩:=I.Fn hH
 obtain⟨z2,bE,n2,r2,eM,e2⟩:=I.Fn hB
 have hsz:aO.toArray.size+bE.toArray.size≤sizeLine:=by rw [List.size_toArray,List.size_toArray]; omega
 have Fo:¬(!aO.toArray.isEmpty&&Builtin.List.listTooLong (aO.toArray.size+bE.toArray.size))=true:=by
  rw [vV hsz,Bool.and_false]
  exact Bool.false_ne_true
 refine call_meets F.slot_list_extend ⟨_,e,rfl⟩ F.entry_list_extend (F.args_list_extend_2 _ _)
  (AutoSeq1.list_extend_list_list_0 l aO.toArray n b bE.toArray n2 Fo (by rw [List.size_toArray]; omega) (by omega)) ⟨e,e2,?_⟩
 refine⟨.bf,_,I.ZI (its':=aO++bE) hH e (by simp) (r.append r2) ?_,rfl,q⟩
 rw [List.length_append]
 omega
noncomputable def afq:R2:=fun x y H Q=>∃l k xs,x=.ref l∧y=.int k∧H l=some (.lst xs)∧-(2 ^ 63)≤k∧k < 2 ^ 63∧xs.length*k.toNat≤sizeLine ∧
 ∀p,H p=none→Q (.ref p) (upd H p (.lst (List.replicate k.toNat xs).flatten))
theorem len_rep {α:Type}(xs:List α) (k:Nat):(List.replicate k xs).flatten.length=k*xs.length:=by
 induction k with
 | zero=>simp
 | succ k ih=>rw [List.replicate_succ,List.flatten_cons,List.length_append,ih,Nat.succ_mul,Nat.add_comm]
theorem Av:j8 X (binaryOp .Mult) afq:=by
 intro pins s σ H x y v u Q I rx ry h
 obtain⟨l,k,xs,rfl,rfl,hH,h1,h2,hz,q⟩:=h
 cases rx
 obtain⟨t,rfl⟩:=ry
 obtain⟨z,aO,n,r,hl,e⟩:=I.Fn hH
 have hlen:aO.toArray.size*k.toNat≤sizeLine:=by rw [List.size_toArray,←hl]; exact hz
 have afr:¬aO.toArray.size*k.toNat > (2 ^ 63 - 1) / 8:=by
  have:(sizeLine:Nat)≤(2 ^ 63 - 1) / 8:=by decide
  omega
 have afs:¬(!Builtin.List.listFitsIndex k)=true:=by
  rw [fitsIndex_both h1 h2]
  exact Bool.false_ne_true
 have Fo:¬Builtin.List.listTooLong (aO.toArray.size*k.toNat)=true:=by
  rw [vV hlen]
  exact Bool.false_ne_true
 have oi:List.foldl (fun x1 x2=>x1++x2) #[] (List.replicate (if aO.toArray.isEmpty=true then 0 else k.toNat) aO.toArray)=(List.replicate k.toNat aO).flatten.toArray:=by
  have f0:∀m:Nat,List.foldl (fun x1 x2=>x1++x2) #[] (List.replicate m aO.toArray)=(List.replicate m aO).flatten.toArray:=fun m=>by
   have:=foldl_rep aO m []
   rw [List.nil_append] at this
   exact this
  rw [f0]
  cases aO with
  | nil=>simp
  | cons a r'=>rw [if_neg (by simp)]
 refine wpAny_binaryOp_repeat_ref (T:="list") (U:="int") (by decide) ⟨_,e,rfl⟩ (fun s'=>typeIs_int s' k t) noFill_list_mul F.fills_int_mul F.slot_int_rmul repeat_list F.slot_int_index.lookup
  (call_meets F.slot_int_rmul (typeIs_int s k t) F.entry_int_rmul (F.args_int_rmul_2 _ _) (int___rmul___int_list k t l aO.toArray n)
   ⟨e,rfl,⟨_,e,rfl⟩,call_meets F.slot_list_mul ⟨_,e,rfl⟩ F.entry_list_mul (F.args_list_mul_2 _ _) (AutoListH.list___mul___list_int_3 l aO.toArray n k t afs afr Fo) ⟨e,?_⟩⟩)
 rw [oi]
 exact⟨.ref _,_,I.LS (t':=s.toks) (r.rep k.toNat) (by rw [len_rep,Nat.mul_comm]; exact hz),rfl,q _ I.fresh⟩
end
section
variable {prog:Program}{w:World}{A:Around}{E:Value→Shared→Prop}{s:Shared}
set_option maxRecDepth 100000 in
end
section
variable {X:Cx}
end
end L2
namespace T8
open PySem PySem.W PySem.Calls PyProof.Rows
theorem mO {P:Params}{h:Heap}:∀(ns:List Int) (vs:List Value),WellAll P h vs (ns.map WData.int)→IntsAre vs ns:=by
 intro ns
 induction ns with
 | nil=>
  intro vs w
  rw [List.map_nil] at w
  cases w
  exact .nil
 | cons n ns ih=>
  intro vs w
  rw [List.map_cons] at w
  cases w with
  | cons a b=>
   cases a
   exact .cons _ _ (ih _ b)
theorem Dt {l:OpenLaw}{n:Nat}(hn:l.most=some n) {P:Params}{h:Heap}{args:List WData}{vals:List Value}
  (LW:l.row.toRowW.claim.pre args=true) (hwl:WellAll P h vals args) :
  ∃a vs ns,vals=[Value.ref a]∧args=[WData.list (ns.map WData.int)]∧h.get? a=some {cls:=.type "list",data:=.seq vs.toArray}∧IntsAre vs ns∧ns.length≤n:=by
 have hsh:WShape.hasAll [] args [.list .int]=true:=(pre_splitW LW).1
 have hc:l.pre.holds [] {args:=args}=true:=(pre_splitW LW).2
 obtain⟨d,r,rfl,h1,h2⟩:=hasAllW_cons hsh
 obtain rfl:=hasAllW_nil h2
 obtain⟨xs,rfl,h3⟩:=hasW_list h1
 obtain⟨ns,rfl⟩:=items_int h3
 have hlen:ns.length≤n:=by
  unfold OpenLaw.pre at hc
  have h4:(WTm.not (.lt (.lit (.int (n:Int))) (.len (.arg 0)))).holds [] {args:=[.list (ns.map .int)]}=true:=by
   have h4:=(holds_andW hc).1
   rw [hn] at h4
   exact h4
  have h5:=condW_of h4 (w_not (w_lt w_lit (w_len_list (w_arg rfl))))
  rw [List.length_map] at h5
  refine Nat.le_of_not_lt fun q=>?_
  have q':(n:Int) < ((ns.length:Nat):Int):=by omega
  first
   | (rw [decide_eq_true q'] at h5; exact absurd h5 (by decide))
   | (simp at h5; omega)
 cases hwl with
 | cons w1 w2=>
  cases w2
  cases w1 with
  | list ho Fp=>exact⟨_,_,ns,rfl,rfl,ho,mO ns _ Fp,hlen⟩
theorem Du (l:OpenLaw) (args:List WData):l.row.toRowW.claim.post args (.bool true) args=true:=
 postW_of (r:=l.row.toRowW) (X:=(true == true))
  (show WShape.has [] (.bool true) .bool=true by first | rfl | decide | simp [WShape.has,WShape.arms,WShape.armsAll])
  (show(WTm.eq .res (.lit (.bool true))).value [] {args:=args,res:=some (.bool true),after:=args}=some (.bool (true == true)) from w_eq_bool (w_res rfl) w_lit) rfl
theorem vW {l:OpenLaw}{n:Nat}{q:Program}{loose:List Str}{XP:(Str→Option Value)→Heap→Prop}{YP:World→Heap→Prop}{d:DefRec}
  (hn:l.most=some n) (ZJ:d.params.defaults=[])
  (call:∀(w:World) (s₀ s₁:Shared) (mg mb:Str→Option Value) (fa:Addr) (o:Obj) (pm cd doc:Value) (a:Addr) (vs:List Value) (ns:List Int),
   Ground q loose [] XP w s₀ mg mb s₁.heap→YP w s₁.heap →
   s₁.heap.get? fa=some o→o.data=.func (docDef d.name d.params d.body d.scope pm cd doc)→s₁.heap.CodeRec cd d.name→mg d.name=some (.ref fa) →
   s₁.heap.get? a=some {cls:=.type "list",data:=.seq vs.toArray}→IntsAre vs ns→ns.length≤n→s₁.gens=#[] →
   codeAny (model l.prog w) callerA (.call (.ref fa) ⟨[.ref a],[]⟩) (fun r s'=>r=.ok (.ret (.bool true))∧OldK s₁.heap s'.heap∧s'.os=s₁.os∧AllBare s'.gens) s₁) :
  WalkO q loose XP YP l.row.toRowW d [] (fun f vs=>PySem.call f vs):=by
 intro w s₀ s₁ mg mb G Y fa o pm cd doc dV kV ho hd s_ hD ZK hg args vals as LW air hrd hwl hlo
 obtain rfl:dV=.none:=Dflts.none hD ZJ
 obtain rfl:kV=.none:=Dflts.noKw hD
 obtain⟨a,vs,ns,rfl,rfl,T_,hints,hlen⟩:=Dt hn LW hwl
 refine enter_call (codeAny_mono (call w s₀ s₁ mg mb fa o pm cd doc a vs ns G Y ho (fd_plain hd) s_ ZK T_ hints hlen hg) fun r s' hq=>?_)
 obtain⟨rfl,h2,h3,h4⟩:=hq
 exact⟨.inl ⟨.bool true,.bool true,[],rfl,fun _=>rfl,.bool true,Du l _,fun _=>⟨List.Pairwise.nil,fun _ hm=>(nomatch hm)⟩⟩,h2,h3,h4⟩
section
variable {prog:Program}{w:World}{A:Around}{E:Value→Shared→Prop}{s:Shared}{K:Frag}
noncomputable def lF (h:Heap):Heap:={h with objs:=#[]}
theorem dY (h:Heap) (b:Addr):(lF h).get? b=none:=by
 cases e:(lF h).get? b with
 | none=>rfl
 | some o=>exact absurd (Heap.lt_size e) (Nat.not_lt_zero _)
noncomputable def ledger (h:Heap) (L d:Addr):List (Addr×Obj):=(List.range h.objs.size).filterMap fun a=>if a=L∨a=d then none else(h.get? a).map fun o=>(a,o)
theorem jw {h:Heap}{L d a:Addr}{o:Obj}:(a,o)∈ledger h L d↔a≠L∧a≠d∧h.get? a=some o:=by
 unfold ledger
 rw [List.mem_filterMap]
 constructor
 ·rintro⟨b,_,e⟩
  split at e
  ·cases e
  ·rename_i hb
   obtain⟨o',ho,e'⟩:=Option.map_eq_some_iff.mp e
   cases e'
   exact⟨fun q=>hb (.inl q),fun q=>hb (.inr q),ho⟩
 ·rintro⟨n1,n2,ho⟩
  refine⟨a,List.mem_range.mpr (Heap.lt_size ho),?_⟩
  rw [if_neg (show ¬(a=L∨a=d) from fun q=>q.elim n1 n2),ho] <;> rfl
theorem vX {h:Heap}{L d:Addr}{od:Obj}(oj:d≠L) (ho:h.get? d=some od):News (lF h) L h ([]++(d,od)::ledger h L d):=by
 rintro⟨a,o⟩ hp
 rcases List.mem_cons.mp hp with e | hp
 ·cases e
  exact⟨ho,oj,dY _ _⟩
 ·obtain⟨n1,n2,e⟩:=jw.mp hp
  exact⟨e,n1,dY _ _⟩
theorem Fq {h:Heap}{L:Addr}{m:Str→Option Value}(n:h.Ns L m):Fr (lF h) L h m:=
 ⟨n,fun b o e=>(by rw [dY] at e; cases e),Nat.zero_le _⟩
theorem set_field {x C dx L:Addr}{ox:Obj}{m:Str→Option Value}{es B7:List DictEntry}{n n':Nat}{name:Str}{v:Value}{Q:Unit→Shared→Prop}
  (X:K.In s.heap) (I:PySem.W.InstAt s.heap x ox C (some (dictOf es n))) (hd:ox.dict=some dx) (hL:s.heap.Ns L m) (oj:dx≠L)
  (hs:findIn K (.ref C) "__setattr__"=some (some (.builtin "object.__setattr__"))) (hp:plainOver K C=true) (ht:takerIn K C name=some none) (hh:hasDictIn K C=true) (hl:(getL name es).isSome=true)
  (e:(putL name (PyData.keyHash w.params name) (.str name (s.toks+1)) v es,putN name es n)=(B7,n')) (hz:B7.length≤1000)
  (h:∀h':Heap,h'.Ns L m→h'.get? dx=some (dictOf B7 n')→(∀b o,b≠dx→b≠L→s.heap.get? b=some o→h'.get? b=some o)→Q () {s with heap:=h',toks:=s.toks+2}) :
  wpAny (model prog w) A (setAttr (.ref x) name v) Q E s:=by
 obtain⟨e1,e2⟩:=Prod.mk.inj e
 have LX:s.heap.get? dx=some (dictOf es n):=by
  have:=I.dict
  rw [hd] at this
  exact this
 refine set_plain X I hs (osa_dict (s:={s with toks:=s.toks+1}) (h₀:=lF s.heap) (L:=L) (m:=m) (od:=dictOf es n) (od':=dictOf B7 n') (es:=B7) (n:=n') (pre:=[]) (post:=ledger s.heap L dx)
  (Fq hL) (vX oj LX) X I hd hp ht hh hl (fun _ q=>nomatch q) (fun⟨_,_⟩ q=>(jw.mp q).2.1) (by rw [putName_dict,e1,e2]) rfl hz fun h' F' N'=>?_)
 exact h h' F'.ns (N'.get (List.Mem.head _)) fun b o n1 n2 ho=>N'.get (List.Mem.tail _ (jw.mpr ⟨n2,n1,ho⟩))
end
end T8
namespace L2
open PySem PySem.Spec PyProof.Rows
theorem fY:∀{vs:List Value}{ns:List Int},IntsAre vs ns→Vals (ns.map V.int) vs
 | _,_,.nil=>.nil
 | _,_,.cons n t h=>.cons ⟨t,rfl⟩ (fY h)
end L2
namespace L2
open PySem PySem.Spec PyProof.Rows
end L2
namespace L2
open PySem PySem.Spec PyProof.Rows
noncomputable def inClass (s:Stmt) (j:Nat):Stmt:=match s with
 | .ClassDef _ _ _ body _ _ _ _ _ _ _=>body.getD j (.Pass ⟨0,0,0,0⟩)
 | _=>.Pass ⟨0,0,0,0⟩
noncomputable def dG (s:Stmt):Arguments:=match s with
 | .FunctionDef _ a _ _ _ _ _ _ _ _=>a
 | _=>{posonlyargs:=[],args:=[],vararg:=none,kwonlyargs:=[],kw_defaults:=[],kwarg:=none,defaults:=[]}
noncomputable def dk (s:Stmt):List Stmt:=match s with
 | .FunctionDef _ _ b _ _ _ _ _ _ _=>b
 | _=>[]
noncomputable def aj (s:Stmt):Scope:=match s with
 | .FunctionDef _ _ _ _ _ _ sc _ _ _=>sc
 | _=>{kind:=.function,names:=[],isGenerator:=false,isCoroutine:=false}
noncomputable abbrev cC:vO:=fun _ _ _ _ _ _=>False
noncomputable abbrev E0:XK:=fun _ _ _=>False
theorem ar {X:Cx}:Passes cC X E0:=fun _ _ _ _ _ _ _ h=>h.elim
structure cD (K:PySem.W.Frag) (x qual:Str) (st:Stmt) (f:Addr) (fd:FuncData):Prop where
 ex:∃(oc:Value) (od:Option Addr) (kV doc pm:Value) (an:Option Addr) (bL ct:Value) (Fl:Array (Option Value)),
  fd=PySem.W.fnOf x qual (dG st) (dk st) (aj st) .none kV doc pm an bL ct∧K.lookup f=some ⟨oc,od,.func fd,Fl⟩∧PySem.W.codeIn K bL qual=true
 kp:PySem.W.keepIn K (.ref f)=true
section
variable {P:Program}{w:World}{K:PySem.W.Frag}{mg:Str→Option Value}{base:Heap}
theorem cD.ok {x qual:Str}{st:Stmt}{f:Addr}{fd:FuncData}{N ps:List Str}{k:Nat}{sp:Sp}(F:cD K x qual st f fd) (S:av N ps (aj st)) (len:∀vs H Q E,sp vs H Q E→vs.length=ps.length)
  (vS:∀(bL:Value) (A:Around) (outer:List Env) (s:Shared) (H:Hp) (vs:List V) (Q:VK) (E:XK),cL k (A.deeper (envOfC qual (aj st) s.heap.objs.size f bL))→sp vs H Q E →
   ∃t,sZ (vQ cC P w K mg base N qual (aj st) f bL A outer s H E).YW (dk st) t∧t {nx:=fun _ H'=>Q .bf H',rt:=Q} (start N vs) H):aU P w K mg base cC (k+1) f fd ps sp:=by
 obtain⟨oc,od,kV,doc,pm,an,bL,ct,Fl,rfl,lk,s_⟩:=F.ex
 refine PB lk s_ S len fun A outer s H vs Q E hr Lg=>?_
 obtain⟨t,h,q⟩:=vS bL A outer s H vs Q E hr Lg
 exact⟨t,h.YW,q⟩
theorem cD.binds {x qual:Str}{st:Stmt}{f:Addr}{fd:FuncData}{ps:List Str}(F:cD K x qual st f fd)
  (h:∀(kV doc pm:Value) (an:Option Addr) (bL ct:Value) (us:List Value),us.length=ps.length→bindArgs (PySem.W.fnOf x qual (dG st) (dk st) (aj st) .none kV doc pm an bL ct) ⟨us,[]⟩=pure (ps.zip us)):Binds K fd ps []:=by
 obtain⟨oc,od,kV,doc,pm,an,bL,ct,Fl,rfl,lk,s_⟩:=F.ex
 exact .all (h kV doc pm an bL ct)
theorem tK {x qual:Str}{st:Stmt}{f:Addr}{oc:Value}{od an:Option Addr}{Fl:Array (Option Value)}{kV doc pm bL ct:Value}(l:K.lookup f=some ⟨oc,od,.func (PySem.W.fnOf x qual (dG st) (dk st) (aj st) .none kV doc pm an bL ct),Fl⟩)
  (c:PySem.W.codeIn K bL qual=true) (k:PySem.W.keepIn K (.ref f)=true):cD K x qual st f (PySem.W.fnOf x qual (dG st) (dk st) (aj st) .none kV doc pm an bL ct):=⟨⟨oc,od,kV,doc,pm,an,bL,ct,Fl,rfl,l,c⟩,k⟩
end
theorem Fs {A:Around}{k:Nat}(hr:cL k A):A.units+1 < cLine:=Nat.lt_of_le_of_lt (Nat.add_le_add_left (by decide:1≤64) _) hr.units
theorem a5 {n:Nat}(h:n≤1000):n < sizeLine:=Nat.lt_of_le_of_lt h (by decide)
section
variable {X:Cx}
theorem pv (i:Nat) {x:Str}{pos:Pos}(hN:X.N[i]?=some x:=by rfl) (hv:Vis X.env.scope x:=by first | exact Or.inl rfl | exact Or.inr (Or.inl rfl) | exact Or.inr (Or.inr rfl)) (hd:(x == ("__debug__":Str))=false:=by decide)
  (s_:(x == ("__classdict__":Str))=false:=by decide):PE X (.Name x pos) (n_ i):=Tu hN hv hd s_
end
theorem dH {A B:Prop}(h:B):if false=true then A else B:=by
 rw [if_neg Bool.false_ne_true]
 exact h
theorem e9 {A B:Prop}(h:A):if true=true then A else B:=by
 rw [if_pos rfl]
 exact h
theorem mP {c A B:Prop} [Decidable c] (h1:c→A) (h2:¬c→B):if c then A else B:=by
 by_cases h:c
 ·rw [if_pos h]
  exact h1 h
 ·rw [if_neg h]
  exact h2 h
noncomputable def ak (H H':Hp):Prop:=∀b o,H b=some o→H' b=some o
theorem ak.refl (H:Hp):ak H H:=fun _ _ h=>h
theorem ak.trans {H H1 H2:Hp}(a:ak H H1) (b:ak H1 H2):ak H H2:=fun c o h=>b c o (a c o h)
theorem ak.free {H H':Hp}(e:ak H H') {l:Addr}(h:H' l=Option.none):H l=Option.none:=by
 cases q:H l with
 | none=>rfl
 | some o=>
  rw [e l o q] at h
  cases h
theorem ak.seq {K:PySem.W.Frag}{H H':Hp}{a:Addr}{xs:List V}(e:ak H H') (h:aF K H a xs):aF K H' a xs:=by
 rcases h with (h | ⟨o,h⟩) | h
 ·exact .inl (.inl (e _ _ h))
 ·exact .inl (.inr ⟨o,e _ _ h⟩)
 ·exact .inr h
end L2
set_option maxHeartbeats 4000000
namespace L2
open PySem PySem.Spec PyProof.Rows
theorem dr:bootBuiltins "len"=some (.builtin "len"):=by decide +kernel
theorem Ft:bootBuiltins "min"=some (.builtin "min"):=by decide +kernel
theorem Ua:bootBuiltins "int"=some (.type "int"):=by decide +kernel
theorem kb:bootBuiltins "list"=some (.type "list"):=by decide +kernel
theorem Fu:bootBuiltins "tuple"=some (.type "tuple"):=by decide +kernel
section
variable {X:Cx}{pos:Pos}
noncomputable def Fv (j:Int):Prop:=0 < j∧(j < 1073741824∨j.natAbs.log2 < 9000)
theorem Fv.small {j:Int}(h:0 < j) (h2:j < 1073741824):Fv j:=⟨h,.inl h2⟩
theorem cQ:j8 X (binaryOp .FloorDiv) (rI (fun _ j=>Fv j) fun i j=>.int (i / j)):=YY fun i j _ _ _ _ _ hc q=>by
 have h1:(0:Int) < j:=hc.1
 refine floordiv_int (by omega) (by rw [Int.fdiv_eq_ediv_of_nonneg i (by omega)]; exact q) (.inl ?_)
 rcases hc.2 with h2 | h2
 ·exact PyProof.noPylong_small (by omega)
 ·exact PyProof.noPylong_of_log2 h2
noncomputable def ZL (i j:Int):Prop:=0≤j∧j≤1000∧i.natAbs < 2 ^ 1000
theorem LY:j8 X (binaryOp .LShift) (rI ZL fun i j=>.int (i*2 ^ j.toNat)):=YY fun i j _ _ _ _ _ hc q=>by
 obtain⟨h1,h2,h3⟩:=hc
 refine lshift_int h1 ?_ q
 have h4:Builtin.Int.intBits i≤1000:=intBits_le_iff.mpr h3
 have h5:(2:Int) ^ 27=134217728:=by decide
 omega
noncomputable def Fw (K:PySem.W.Frag):R2:=fun x y H Q=>∃l b xs zs,x=.ref l∧y=.ref b∧aF K H l xs∧aF K H b zs∧xs.length+zs.length≤sizeLine∧∀p,H p=none→Q (.ref p) (upd H p (.lst (xs++zs)))
theorem kd:j8 X (binaryOp .Add) (Fw X.K):=by
 intro pins s σ H x y v u Q I rx ry h
 obtain⟨l,b,xs,zs,rfl,rfl,hH,hB,hz,q⟩:=h
 cases rx
 cases ry
 obtain⟨aO,r,hl,z⟩:=I.list hH
 obtain⟨bE,r2,eM,z2⟩:=I.list hB
 obtain⟨⟨cls,dd,data,sl⟩,n,ho,hc,hdd,hd⟩:=hl
 obtain⟨⟨ais,dd2,data2,sl2⟩,n2,z_,LZ,ait,hd2⟩:=eM
 simp only at hc hd LZ hd2
 subst hc hd LZ hd2
 have l1:=r.length
 have l2:=r2.length
 have ea:aO.toArray++bE.toArray=(aO++bE).toArray:=by simp
 refine concat_meets ⟨_,ho,rfl⟩ ⟨_,z_,rfl⟩ noFill_list_add seq_list_add PySem.F.slot_list_add PySem.F.entry_list_add (PySem.F.args_list_add_2 _ _) (list_addW l b aO.toArray bE.toArray n n2 dd dd2 sl sl2 (by rw [List.size_toArray,List.size_toArray]; omega)) ⟨ho,z_,?_⟩
 rw [ea]
 exact⟨.ref _,_,I.LS (t':=s.toks) (r.append r2) (by rw [List.length_append]; omega),rfl,q _ I.fresh⟩
noncomputable def ZM (K:PySem.W.Frag) (n:Nat) (t:LG):TG:=fun v σ H Q=>∃a xs,v=.ref a∧aF K H a xs∧xs.length=n∧t xs σ H Q
theorem Ub {es:List Expr}{k:Nat}{t:LG}{n:Nat}(hc:X.calm=true) (h:Zs X es t)
  (hn:(assignEach es X.env).length=n:=by rfl) (ju:(assignEach es X.env).findIdx? (·.1)=none:=by rfl):PG X (.Tuple es k pos) (ZM X.K n t):=by
 intro pins s σ H v u Q I r hw
 obtain⟨a,xs,e1,hq,hl,hw⟩:=hw
 subst e1
 cases r
 obtain⟨aO,rv,ht,hz⟩:=I.list hq
 have ZN:s.heap.IsList a aO.toArray:=by
  obtain⟨o,m,e,h1,_,h2⟩:=ht
  exact⟨o,e,h1,m,h2⟩
 rw [assign_Tuple]
 refine wpAny_bind (wpAny_standAt ?_)
 unfold unpack
 have e2:(assignEach es X.env).length=aO.toArray.size:=by rw [hn,←hl,rv.length]; simp
 rw [e2,ju]
 refine wpAny_bind (wpAny_holding (PySem.W.kun_itemsOf (I.ok.hd hc) ZN fun h' hx=>?_))
 have I1:Inv X pins σ H {s with heap:=h'}:=I.kept (t':=s.toks) fun b o e=>hx b o (Nat.ne_of_lt (Heap.lt_size e)) e
 exact h pins _ σ H xs _ Q I1 (by simpa using rv) hw
end
theorem om (x:Int):Builtin.bitAnd x 4=x / 4 % 2*4:=PySem.W.kbt_bit x 2
theorem oo (x:Int):Builtin.bitAnd x 8=x / 8 % 2*8:=PySem.W.kbt_bit x 3
theorem L0 (x:Int):Builtin.bitAnd x 3=x % 4:=PySem.W.kbt_mask x 2
theorem L_ (x:Int):Builtin.bitOr x 4=x+4 - x / 4 % 2*4:=by rw [bitOr_and,om]
theorem Ma (x:Int):Builtin.bitOr x 8=x+8 - x / 8 % 2*8:=by rw [bitOr_and,oo]
theorem Dv (a d:Nat) (h:d < 16):d &&& (a*16)=0:=by
 have e1:d &&& 15=d % 16:=Nat.and_two_pow_sub_one_eq_mod d 4
 have e2:(a*16) &&& 15=(a*16) % 16:=Nat.and_two_pow_sub_one_eq_mod (a*16) 4
 have e3:d % 16=d:=Nat.mod_eq_of_lt h
 have e4:(a*16) % 16=0:=by omega
 have f1:d &&& 15=d:=e1.trans e3
 have f2:(d &&& 15) &&& (a*16)=d &&& ((a*16) &&& 15):=by rw [Nat.and_assoc,Nat.and_comm 15 (a*16)]
 rw [f1,e2,e4,Nat.and_zero] at f2
 exact f2
theorem Fx {k s:Int}(h0:0≤k) (h1:k < 16) (hs:0≤s):Builtin.bitOr k (s*16)=k+s*16:=by
 have e:k.toNat &&& (s*16).toNat=0:=by
  have q:(s*16).toNat=s.toNat*16:=by omega
  rw [q]
  exact Dv _ _ (by omega)
 rw [bitOr_and,bitAnd_pp h0 (by omega),e]
 exact Int.sub_zero _
end L2
namespace L2
open PySem PySem.Spec PyProof.Rows
section
variable {X:Cx}
end
end L2
namespace L2
open PySem PySem.Spec PyProof.Rows
end L2
namespace L2
open PySem PySem.Spec PyProof.Rows
theorem Uc (CX:vO) (P:Program) (w:World) (K:PySem.W.Frag) (mg:Str→Option Value) (base:Heap) (N:List Str) (qual:Str) (scope:Scope) (f:Addr) (cd:Value) (A:Around) (outer:List Env) (s:Shared) (H:Hp) (E:XK) :
  (vQ CX P w K mg base N qual scope f cd A outer s H E).K=K:=rfl
end L2
namespace L2
open PySem PySem.Spec PyProof.Rows
end L2
namespace L2
open PySem PySem.Spec PyProof.Rows
theorem ak.put {H:Hp}{b:Addr}{o:HO}(h:H b=none):ak H (upd H b o):=fun c u e=>by
 rw [ai (ao e h)]
 exact e
end L2
namespace L2
theorem Mb (i j:Int):Al (.int i) (.int j)=true:=rfl
theorem Mc (i j:Bool):Al (.bl i) (.bl j)=true:=rfl
theorem Md (i j:PySem.Str):Al (.str i) (.str j)=true:=rfl
theorem Me (i:Int):Al (.int i) .bf=true:=rfl
theorem Mf (i:Int):Al .bf (.int i)=true:=rfl
end L2
namespace L2
open PySem PySem.Spec PyProof.Rows
noncomputable def bU (X:Cx) (N:List Str) (scope:Scope) (cl:List (Str×Addr)) (C:Addr) (s:Shared) (H:Hp) (fp:List Addr):Cx:=
 {X with N:=N,s₀:=s,H₀:=H,env:=compEnvC scope cl C X.env,outer:=X.stack,stack:=X.stack,ex:=fp,fn:=fun _=>false,pn:=[],xe:=fun _ _=>False}
noncomputable def aP (fr:List Nat) (σ:St) (v:Option V):St:=v::fr.map fun j=>(σ[j]?).join
structure Aw (X:Cx) (x:Str) (ns:List Str) (fr:List Nat) (scope:Scope) (cl:List (Str×Addr)):Prop where
 oq:closureFor scope X.env=pure cl
 gv:∀y∈scope.names,y.2≠.cell
 kind:scope.kind=.function
 own:∀y∈scope.names,y.2=.local→scope.names.lookup y.1=some .local
 var:scope.names.lookup x=some .local
 sub:∀z c,cl.lookup z=some c→X.env.cells.lookup z=some c
 has:∀z,((relabel scope X.env).names.lookup z=some .cell∨(relabel scope X.env).names.lookup z=some .free)→∃c,cl.lookup z=some c
 len:ns.length=fr.length
 vY:∀(k:Nat) z j,ns[k]?=some z→fr[k]?=some j→X.N[j]?=some z∧X.env.scope.names.lookup z=some .cell∧((relabel scope X.env).names.lookup z=some .cell∨(relabel scope X.env).names.lookup z=some .free)
 nd:(x::ns).Nodup
inductive qx (P:Expr→TT→Prop):List Expr→TT→Prop where
 | nil:qx P [] fun _ H Q=>Q true H
 | one {c:Expr}{t:TT}(h:P c t):qx P [c] t
noncomputable def g_ (J:It) (fr:List Nat) (tt:TT) (te:TE) (σ:St) (D:Addr) (Q:Hp→Prop) (H:Hp):Prop:=
 ∃W:Nat→Nat→Hp→Prop,(∃m,W 0 m H)∧∀i m H2,W i m H2→(J.stop i H2∧Q H2)∨(J.go i H2∧∀v H',J.Pn i H2 v H'→tt (aP fr σ (some v)) H' fun b H3=>
  if b=true then te (aP fr σ (some v)) H3 fun y H4=>∃ys,H4 D=some (.lst ys)∧ys.length < sizeLine∧∃m',m' < m∧W (i+1) m' (upd H4 D (.lst (ys++[y])))else ∃m',m' < m∧W (i+1) m' H3)
theorem vZ {A B:Prop}(h:if true=true then A else B):A:=by
 rw [if_pos rfl] at h
 exact h
section
variable {X:Cx}{pins:List (Addr×Obj)}{σ:St}{H:Hp}{s:Shared}{x:Str}{ns:List Str}{fr:List Nat}{scope:Scope}{cl:List (Str×Addr)}{fp:List Addr}
theorem PH (I:Inv X pins σ H s) (L:Aw X x ns fr scope cl) (hf:∀b∈fp,fX X pins H b) (ho:∀b∈fp,b < s.heap.objs.size):(bU X (x::ns) scope cl s.heap.objs.size s H fp).Ok where
 mod:=I.ok.mod
 kind:=L.kind
 glob:=I.ok.glob
 blt:=I.ok.blt
 above:=Nat.le_refl _
 inj:=fun a b c h1 h2=>I.ok.inj a b c (L.sub a c h1) (L.sub b c h2)
 has:=fun z h=>L.has z h
 Ts:=fun _ _ h=>nomatch h
 hd:=I.ok.hd
 frames:=I.ok.frames
 YV:=.inl rfl
 Pf:=fun b hb=>⟨Nat.ne_of_lt (ho b hb),fun z c h=>(hf b hb).2.2.2.2.1 z c (L.sub z c h)⟩
 bs:=I.bs
 B6:=Nat.le_trans I.ok.B6 I.sz
 vI:=fun b o e hb=>by
  rcases (hf b hb).2.2.2.1 with h | h
  ·exact I.ok.vI b o e h
  ·exact absurd (Nat.lt_of_lt_of_le (Heap.lt_size e) (Nat.le_trans I.ok.B6 h)) (Nat.lt_irrefl _)
 vJ:=fun b hb hs=>by
  rcases List.mem_cons.mp (I.sY b hs)with h | h
  ·exact(hf b hb).2.1 h
  ·exact(hf b hb).2.2.1 h
 jZ:=I.stack
 LB:=I.nK
theorem Mg {fr:List Nat}{σ:St}{v:Option V}{k:Nat}{u:V}(h:(aP fr σ v)[k+1]?=some (some u)):∃j,fr[k]?=some j∧σ[j]?=some (some u):=by
 unfold aP at h
 rw [List.getElem?_cons_succ,List.getElem?_map] at h
 cases e:fr[k]? with
 | none=>rw [e] at h; cases h
 | some j=>
  rw [e] at h
  refine⟨j,rfl,?_⟩
  cases e2:σ[j]? with
  | none=>simp [e2] at h
  | some o=>simp [e2] at h; rw [h]
theorem Fy {h':Heap}{t':Nat}(I:Inv X pins σ H s) (L:Aw X x ns fr scope cl) (hf:∀b∈fp,fX X pins H b) (ho:∀b∈fp,b < s.heap.objs.size)
  (hn:h'.Ns s.heap.objs.size fun _=>none) (hk:∀b o,s.heap.get? b=some o→h'.get? b=some o) :
  Inv (bU X (x::ns) scope cl s.heap.objs.size s H fp) [] (aP fr σ none) H {s with heap:=h',toks:=t'} where
 ok:=PH I L hf ho
 os:=rfl
 bare:=I.bare
 base:=Un.kept hk
 loc:=by
  refine⟨_,hn,fun i z v e1 e2 e3=>?_⟩
  cases i with
  | zero=>cases e2
  | succ k=>
   have e1':ns[k]?=some z:=e1
   obtain⟨j,ej,ev⟩:=Mg e2
   obtain⟨hN,hc,hy⟩:=L.vY k z j e1' ej
   obtain⟨m,hm,hl⟩:=I.loc
   obtain⟨u,r,l⟩:=hl j z v hN ev (.inr (.inl hc))
   refine⟨u,r,.inr ⟨hy,?_⟩⟩
   rcases l with ⟨l,_⟩ | ⟨_,c,nN,⟨o,z_,hd⟩⟩
   ·have:X.env.scope.names.lookup z=some .local:=l
    rw [hc] at this
    cases this
   ·obtain⟨c',Ld⟩:=L.has z hy
    have e:=L.sub z c' Ld
    rw [nN] at e
    cases e
    exact⟨c,Ld,o,hk c o z_,hd⟩
 cell:=fun z c e=>by
  obtain⟨v,o,z_,hd⟩:=I.cell z c (L.sub z c e)
  exact⟨v,o,hk c o z_,hd⟩
 free:=I.fresh
 fB:=fun z c e=>I.fB z c (L.sub z c e)
 pin:=fun p hp=>nomatch hp
 bS:=I.bS.kept hk
 len:=by
  show(aP fr σ none).length=(x::ns).length
  unfold aP
  rw [List.length_cons,List.length_map,List.length_cons,L.len]
theorem Fz {elt iter:Expr}{px:Pos}{ifs:List Expr}{pos:Pos}{J:It}{it D:Addr}{tn:Nat→Heap→Prop}{tt:TT}{te:TE}{Qe:Hp→Prop}{R:Result→Shared→Prop}{s4:Shared}
  (hc:X.calm=true) (L:Aw X x ns fr scope cl) (T:Turn X.prog X.w X.K (.Name x px) J fp it tn) (hf:∀b∈fp,fX X pins H b) (ho:∀b∈fp,b < s.heap.objs.size) (I:Inv X pins σ H s)
  (hE:PE (bU X (x::ns) scope cl s.heap.objs.size s H fp) elt te) (hT:qx (PT (bU X (x::ns) scope cl s.heap.objs.size s H fp)) ifs tt) (hw:g_ J fr tt te σ D Qe H)
  (I4:Inv (bU X (x::ns) scope cl s.heap.objs.size s H fp) [] (aP fr σ none) H s4) (ZO:tn 0 s4.heap)
  (hR:∀(s':Shared) (H':Hp) (v:Option V),Inv (bU X (x::ns) scope cl s.heap.objs.size s H fp) [] (aP fr σ v) H' s'→Qe H'→R (.ok .next) s') :
  codeAny (model X.prog X.w) X.A (.compStart (.ListComp elt [⟨.Name x px,iter,ifs,0⟩] scope pos) 0 (.ref it) (.ref D) (compEnvC scope cl s.heap.objs.size X.env)) R s4:=by
 obtain⟨W,⟨m0,w0⟩,turn⟩:=hw
 have Ud:=PH I L hf ho
 have Mh:Loc (bU X (x::ns) scope cl s.heap.objs.size s H fp).env.scope x:=.inl (lookup_relabel_local L.var)
 have bC:∀{H':Hp},(∀b∈fp,H' b=none)→∀b∈fp,fX (bU X (x::ns) scope cl s.heap.objs.size s H fp) [] H' b:=fun hn b hb=>
  ⟨hn b hb,(Ud.Pf b hb).1,Ud.vJ b hb,.inl hb,(Ud.Pf b hb).2,fun p hp=>nomatch hp⟩
 have fr0:∀b∈fp,H b=none:=fun b hb=>(hf b hb).1
 have loop:codeAny (model X.prog X.w) X.A (.compLoop (.ListComp elt [⟨.Name x px,iter,ifs,0⟩] scope pos) 0 (.ref it) (.ref D) (compEnvC scope cl s.heap.objs.size X.env)) R s4:=by
  refine codeAny_loop rfl (fun n s'=>∃i v H',Inv (bU X (x::ns) scope cl s.heap.objs.size s H fp) [] (aP fr σ v) H' s'∧tn i s'.heap∧(∀b∈fp,H' b=none)∧W i n H') (fun n s3 hI=>?_) m0 ⟨0,none,H,I4,ZO,fr0,w0⟩
  obtain⟨i,v0,H3,I3,Pt,B_,w3⟩:=hI
  show wpAny _ X.A ((compTurn (.ListComp elt [⟨.Name x px,iter,ifs,0⟩] scope pos) 0 (.ref it) (.ref D) (compEnvC scope cl s.heap.objs.size X.env)).onRaise (fun y=>do noteFrame y (compEnvC scope cl s.heap.objs.size X.env); theTreesLotGoes y)) _ _ s3
  refine wpAny_noted ?_
  rw [compTurn_list]
  have low:∀{α:Type}{t:Sem α}{Q Q':α→Shared→Prop}{E:Value→Shared→Prop}{s5:Shared},wpAny (model X.prog X.w) X.A t Q (fun _ _=>False) s5→(∀a s6,Q a s6→Q' a s6)→wpAny (model X.prog X.w) X.A t Q' E s5:=
   fun h hq=>wpAny_mono h hq fun _ _ z=>z.elim
  rcases turn i n H3 w3 with ⟨stop,q⟩ | ⟨go,step⟩
  ·refine wpAny_bind (wpAny_standAt (wpAny_bind (low (T.done (bU X (x::ns) scope cl s.heap.objs.size s H fp) rfl rfl rfl hc i [] s3 _ H3 (fun _ _=>False) I3 (bC B_) Pt stop) fun r s5 hr=>?_)))
   obtain⟨hr,I5⟩:=hr
   subst hr
   exact wpAny_pure (hR s5 H3 v0 I5 q)
  ·refine wpAny_bind (wpAny_standAt (wpAny_bind (low (T.item (bU X (x::ns) scope cl s.heap.objs.size s H fp) rfl rfl rfl hc i [] s3 _ H3 (fun _ _=>False) I3 (bC B_) Pt go) fun r s5 hr=>?_)))
   obtain⟨u,hr,h5⟩:=hr
   subst hr
   refine wpAny_bind (low h5 fun _ s6 h6=>?_)
   obtain⟨y,H6,I6,r6,y6,Ue,fr6⟩:=h6
   have I6':=I6.pinned (bC fr6) (T.obj _ _ Ue)
   have hg:PG (bU X (x::ns) scope cl s.heap.objs.size s H fp) (.Name x px) (j6 0):=a7 (i:=0) L.nd rfl Mh (.inr (lookup_relabel_local L.var))
   refine wpAny_bind (low (hg _ s6 _ H6 y u (fun σ' H'=>σ'=aP fr σ (some y)∧H'=H6) I6' r6 ⟨rfl,rfl⟩) fun _ s7 h7=>?_)
   obtain⟨σ7,H7,I7,e7,e7'⟩:=h7
   subst e7 e7'
   have back:∀{H8:Hp}{s8:Shared},Inv (bU X (x::ns) scope cl s.heap.objs.size s H fp) ([]++g7 fp s6.heap) (aP fr σ (some y)) H8 s8→(∃m',m' < n∧W (i+1) m' H8) →
     ∃m,m < n∧∃i v H',Inv (bU X (x::ns) scope cl s.heap.objs.size s H fp) [] (aP fr σ v) H' s8∧tn i s8.heap∧(∀b∈fp,H' b=none)∧W i m H':=fun {H8 s8} I8 hm=>by
    obtain⟨m',hm,w8⟩:=hm
    refine⟨m',hm,i+1,some y,H8,I8.e8,T.keep _ _ _ Ue fun b hb o e=>(I8.pin (b,o) (List.mem_append_right _ (List.mem_append_right _ (dW hb e)))).1,fun b hb=>?_,w8⟩
    obtain⟨o,e,d⟩:=T.obj _ _ Ue b hb
    exact(I8.pin (b,o) (List.mem_append_right _ (List.mem_append_right _ (dW hb e)))).2.1
   have ke:=step y _ y6
   have emit:∀{H8:Hp}{s8:Shared},Inv (bU X (x::ns) scope cl s.heap.objs.size s H fp) ([]++g7 fp s6.heap) (aP fr σ (some y)) H8 s8 →
     te (aP fr σ (some y)) H8 (fun y H4=>∃ys,H4 D=some (.lst ys)∧ys.length < sizeLine∧∃m',m' < n∧W (i+1) m' (upd H4 D (.lst (ys++[y])))) →
     wpAny (model X.prog X.w) X.A (do let _ ←call (.builtin "list.append") [.ref D,←eval elt (compEnvC scope cl s.heap.objs.size X.env)]) (fun _ s9=>∃m,m < n∧∃i v H',Inv (bU X (x::ns) scope cl s.heap.objs.size s H fp) [] (aP fr σ v) H' s9∧tn i s9.heap∧(∀b∈fp,H' b=none)∧W i m H') (fun _ _=>False) s8:=fun {H8 s8} I8 h8=>by
    refine wpAny_bind (b9 (hE _ s8 _ H8 _ I8 h8) fun v9 s9 h9=>?_)
    obtain⟨z,H9,I9,r9,ys,hD,hlen,hm⟩:=h9
    refine wpAny_bind (b9 (dj (X:=bU X (x::ns) scope cl s.heap.objs.size s H fp) _ s9 _ H9 (.ref D) [z] (.ref D) [v9] (fun _ H'=>∃m',m' < n∧W (i+1) m' H') I9 rfl (.cons r9 .nil) ⟨D,ys,z,rfl,rfl,hD,hlen,hm⟩) fun v10 Cm Cn=>?_)
    obtain⟨_,Aa,I10,_,Ug⟩:=Cn
    exact wpAny_pure (back I10 Ug)
   cases hT with
   | nil=>
    refine wpAny_bind (wpAny_tests_nil ?_)
    refine wpAny_bind (low (emit I7 (vZ ke)) fun _ s9 h9=>wpAny_pure ⟨rfl,h9⟩)
   | one hP=>
    refine wpAny_bind (wpAny_tests_one (low (hP _ s7 _ _ _ I7 ke) fun b s8 h8=>?_))
    obtain⟨H8,I8,q8⟩:=h8
    cases b with
    | false=>
     have q9:∃m',m' < n∧W (i+1) m' H8:=q8
     exact wpAny_pure ⟨rfl,back I8 q9⟩
    | true=>
     exact wpAny_bind (low (emit I8 q8) fun _ s9 h9=>wpAny_pure ⟨rfl,h9⟩)
 exact codeAny_compStart_list loop (T.self X.A 0 _ _ _ ZO loop)
theorem FA {s':Shared}{H':Hp}{σ':St}(I:Inv X pins σ H s) (hf:∀b∈fp,fX X pins H b) (I':Inv (bU X (x::ns) scope cl s.heap.objs.size s H fp) [] σ' H' s'):Inv X pins σ H' s':=
 I.Ph (ch:=fp) I'.os I'.base I'.bS I'.bare fun b hb=>⟨(hf b hb).2.2.2.1,(hf b hb).2.1,(hf b hb).2.2.2.2.1,(hf b hb).2.2.2.2.2⟩
theorem FC {elt iter:Expr}{px:Pos}{ifs:List Expr}{pos:Pos}{J:It}{it:Addr}{tn:Nat→Heap→Prop}{tt:TT}{te:TE}{Qe:Addr→Hp→Prop}{R:Value→Addr→Result→Shared→Prop}{E:Value→Shared→Prop}
  (hc:X.calm=true) (L:Aw X x ns fr scope cl) (T:Turn X.prog X.w X.K (.Name x px) J fp it tn) (hf:∀b∈fp,fX X pins H b) (I:Inv X pins σ H s) (st:tn 0 s.heap)
  (hE:∀C s H,PE (bU X (x::ns) scope cl C s H fp) elt te) (hT:∀C s H,qx (PT (bU X (x::ns) scope cl C s H fp)) ifs tt) (hw:∀D,H D=none→g_ J fr tt te σ D (Qe D) (upd H D (.lst [])))
  (hR:∀(D C:Addr) (s':Shared) (H':Hp),Inv X pins σ H' s'→Qe D H'→(∃m o,s'.heap.get? C=some o∧(∀v,o.data≠.cell v)∧∀h':Heap,h'.get? C=some o→h'.Ns C m)→H' C=none→C≠X.env.locals→C∉X.fs→X.s₀.heap.objs.size≤C →
   (∀z c,X.env.cells.lookup z=some c→c≠C)→(∀p∈X.pn++pins,p.1≠C)→R (.ref D) C (.ok .next) s') :
  wpAny (model X.prog X.w) X.A (newList []) (fun acc s₃=>wpAny (model X.prog X.w) X.A (newFunctionEnv scope X.env.globals cl [] X.env.qual none .none (some X.env)) (fun FD s₄=>
   codeAny (model X.prog X.w) X.A (.compStart (.ListComp elt [⟨.Name x px,iter,ifs,0⟩] scope pos) 0 (.ref it) acc {FD with scope:=relabel scope X.env}) (R acc FD.locals) s₄) E s₃) E s:=by
 have ho:∀b∈fp,b < s.heap.objs.size:=fun b hb=>by
  obtain⟨o,e,_⟩:=T.obj _ _ st b hb
  exact Heap.lt_size e
 have I3:Inv X pins σ (upd H s.heap.objs.size (.lst [])) {s with heap:=s.heap.push {cls:=.type "list",dict:=none,data:=.seq ([]:List Value).toArray}}:=I.LS (t':=s.toks) (.nil) (Nat.zero_le _)
 refine wpAny_newObj_type (wpAny_newFunctionEnv L.gv (by intro y hy; simp at hy) (fun h1 ji rG=>?_) L.kind)
 dsimp only at ji rG ⊢
 generalize Uh:({s with heap:=s.heap.push {cls:=.type "list",dict:=none,data:=.seq ([]:List Value).toArray}}:Shared)=s3 at I3
 have eh:s.heap.push {cls:=.type "list",dict:=none,data:=.seq ([]:List Value).toArray}=s3.heap:=by rw [←Uh]
 rw [eh] at ji rG ⊢
 have hz:s3.heap.objs.size=s.heap.objs.size+1:=by rw [←eh,Heap.size_push]
 have hk:∀b o,s3.heap.get? b=some o→h1.get? b=some o:=fun b o e=>rG.extBut b o (Nat.ne_of_lt (Heap.lt_size e)) (Heap.get?_push_of_some _ e)
 have Ui:∀b∈fp,fX X pins (upd H s.heap.objs.size (.lst [])) b:=fun b hb=>⟨by rw [ai (Nat.ne_of_lt (ho b hb))]; exact(hf b hb).1,(hf b hb).2⟩
 have Mi:∀b∈fp,b < s3.heap.objs.size:=fun b hb=>by rw [hz]; exact Nat.lt_succ_of_lt (ho b hb)
 have es:∀tk,({s with heap:=h1,toks:=tk}:Shared)={s3 with heap:=h1,toks:=tk}:=fun tk=>by rw [←Uh]
 rw [es]
 have I4:=Fy (t':=s.toks+([]:List (Str×Value)).length) I3 L Ui Mi ji hk
 refine Fz hc L T Ui Mi I3 (hE _ _ _) (hT _ _ _) (hw _ I.fresh) I4 ?_ fun s' H' v I' q=>?_
 ·refine T.keep _ _ _ st fun b hb o e=>hk b o ?_
  rw [←eh]
  exact Heap.get?_push_of_some _ e
 ·have IX:=FA I3 Ui I'
  obtain⟨m,⟨o,B7,ep,EW,LD,YZ⟩,_⟩:=I'.loc
  refine hR _ _ s' H' IX q ⟨m,o,EW,fun v z=>?_,fun h' e=>⟨o,B7,ep,e,LD,YZ⟩⟩ I'.free (Nat.ne_of_gt I3.lt) (I3.LC (Nat.le_refl _)) I3.sz (fun z c e=>?_) fun p hp=>?_
  ·rw [LD] at z
   cases z
  ·obtain⟨v,o2,e2,_⟩:=I3.cell z c e
   exact Nat.ne_of_lt (Heap.lt_size e2)
  ·exact Nat.ne_of_lt (Heap.lt_size (I3.pin p hp).1)
noncomputable def ZP (wi:TI) (fr:List Nat) (tt:TT) (te:TE):TE:=fun σ H Q=>wi σ H fun J H1=>∀D,H1 D=none→g_ J fr tt te σ D (fun H2=>Q (.ref D) H2) (upd H1 D (.lst []))
theorem mi {elt iter:Expr}{px pos:Pos}{ifs:List Expr}{wi:TI}{tt:TT}{te:TE}(hc:X.calm=true) (L:Aw X x ns fr scope cl) (hi:PI X (.Name x px) iter wi)
  (hE:∀C s H fp,PE (bU X (x::ns) scope cl C s H fp) elt te) (hT:∀C s H fp,qx (PT (bU X (x::ns) scope cl C s H fp)) ifs tt)
  (hs:∀v,foldedSetIterable iter X.env v=pure v:=by intro _; rfl):PE X (.ListComp elt [⟨.Name x px,iter,ifs,0⟩] scope pos) (ZP wi fr tt te):=by
 intro pins s σ H Q I h
 rw [eval_ListComp]
 refine wpAny_comprehension_free (use:=none) rfl hs L.oq L.kind L.own (b9 (hi pins s σ H _ I h) fun v s1 h1=>b9 h1 fun YX s2 h2=>?_)
 obtain⟨it,fp,tn,J,H2,e,I2,T,Fb,f2,q⟩:=h2
 subst e
 refine FC (R:=fun acc C=>compPost (model X.prog X.w) X.A X.xe none (EP X pins σ Q) acc C) hc L T f2 I2 Fb (fun C s H=>hE C s H fp) (fun C s H=>hT C s H fp) q ?_
 intro D C s' H' I' q' ji hn hl qy hz gL Ax
 obtain⟨m,o,e,hd,hk⟩:=ji
 refine⟨m,hk _ e,fun h' rG=>?_⟩
 exact⟨.ref D,H',I'.turned (t':=s'.toks) (fun b o hb e=>rG.extBut b o hb e) hn hl (.inr hz) gL Ax,rfl,q'⟩
theorem hJ {elt iter:Expr}{y:Str}{j:Nat}{px py pos FE:Pos}{ifs:List Expr}{wi:TI}{tt:TT}{te:TE}(hc:X.calm=true) (hN:X.N.Nodup) (hj:X.N[j]?=some y) (hy:X.env.scope.names.lookup y=some .local) (L:Aw X x ns fr scope cl) (hi:PI X (.Name x px) iter wi)
  (hE:∀C s H fp,PE (bU X (x::ns) scope cl C s H fp) elt te) (hT:∀C s H fp,qx (PT (bU X (x::ns) scope cl C s H fp)) ifs tt)
  (Y0:swapsWith (.ListComp elt [⟨.Name x px,iter,ifs,0⟩] scope pos) (some (.Name y py)) FE.line X.env=pure true:=by rfl)
  (hs:∀v,foldedSetIterable iter X.env v=pure v:=by intro _; rfl):PS X (.Assign [.Name y py] (.ListComp elt [⟨.Name x px,iter,ifs,0⟩] scope pos) FE) (E8 (ZP wi fr tt te) (j6 j)):=by
 intro pins s σ H Dn I h
 rw [exec_Assign_Name_used _ _ _ _ Y0]
 refine wpAny_bind (wpAny_standAt (wpAny_bind ?_))
 show wpAny _ X.A (do let _ ←comprehension (.ListComp elt [⟨.Name x px,iter,ifs,0⟩] scope pos) scope X.env _ (newList []) false (eval iter X.env) (some (assign (.Name y py) X.env))) _ _ s
 refine wpAny_bind (b9 (wpAny_comprehension_free (use:=some (assign (.Name y py) X.env)) (Q:=fun _ s'=>SP X pins Dn .next s') rfl hs L.oq L.kind L.own (b9 (hi pins s σ H _ I h) fun v s1 h1=>b9 h1 fun YX s2 h2=>?_)) fun _ s' q=>wpAny_pure (wpAny_pure q))
 obtain⟨it,fp,tn,J,H2,e,I2,T,Fb,f2,q⟩:=h2
 subst e
 refine FC (R:=fun acc C=>compPost (model X.prog X.w) X.A X.xe (some (assign (.Name y py) X.env)) (fun _ s'=>SP X pins Dn .next s') acc C) hc L T f2 I2 Fb (fun C s H=>hE C s H fp) (fun C s H=>hT C s H fp) q ?_
 intro D C s' H' I' q' ji hn hl qy hz gL Ax
 obtain⟨m,o,e,hd,hk⟩:=ji
 have I'':Inv X (pins++[(C,o)]) σ H' s':=I'.fC fun p hp=>by
  rcases List.mem_append.mp hp with h | h
  ·exact I'.pin p (List.mem_append_right _ h)
  ·have ep:p=(C,o):=by simpa using h
   subst ep
   exact⟨e,hn,hl,qy,hd⟩
 refine wpAny_assign_Name (j4 I'' hN hj (.inl hy) (show RelV (.ref D) (.ref D) from rfl) (fun s2 I2=>?_) (.inr hy))
 obtain⟨e2,n2,_⟩:=I2.pin (C,o) (List.mem_append_right _ (List.mem_append_right _ (List.mem_singleton.mpr rfl)))
 refine⟨m,hk _ e2,fun h' rG=>?_⟩
 exact⟨σ.set j (some (.ref D)),H',I2.e8.turned (t':=s2.toks) (fun b o hb e=>rG.extBut b o hb e) hn hl (.inr hz) gL Ax,q'⟩
end
section
variable {X:Cx}{x:Str}{ns:List Str}{fr:List Nat}{scope:Scope}{cl:List (Str×Addr)}
theorem ot {α:Type}{z:Str}{c:α}:∀{l:List (Str×α)},l.lookup z=some c→(z,c)∈l
 | [],h=>by simp at h
 | (y,d)::l,h=>by
  rw [List.lookup_cons] at h
  cases e:z == y with
  | true=>
   rw [e] at h
   have e2:z=y:=by simpa using e
   cases h
   rw [e2]
   exact List.mem_cons_self
  | false=>
   rw [e] at h
   exact List.mem_cons_of_mem _ (ot h)
theorem gw (oq:closureFor scope X.env=pure cl) (gv:scope.names.all (fun y=>y.2 != .cell)=true) (kind:scope.kind=.function)
  (own:scope.names.all (fun y=>y.2 != .local || scope.names.lookup y.1 == some .local)=true) (var:scope.names.lookup x=some .local) (sub:∀p∈cl,X.env.cells.lookup p.1=some p.2)
  (has:(relabel scope X.env).names.all (fun y=>!(y.2 == .cell || y.2 == .free) || (cl.lookup y.1).isSome)=true) (len:ns.length=fr.length)
  (fr_:∀p∈ns.zip fr,X.N[p.2]?=some p.1∧X.env.scope.names.lookup p.1=some .cell∧((relabel scope X.env).names.lookup p.1=some .cell∨(relabel scope X.env).names.lookup p.1=some .free)) (nd:(x::ns).Nodup):Aw X x ns fr scope cl where
 oq:=oq
 gv:=fun y hy=>by simpa using List.all_eq_true.mp gv y hy
 kind:=kind
 own:=fun y hy h=>by
  have:=List.all_eq_true.mp own y hy
  rw [h] at this
  simpa using this
 var:=var
 sub:=fun z c h=>sub _ (ot h)
 has:=fun z h=>by
  have k:∀t,(relabel scope X.env).names.lookup z=some t→(t=.cell∨t=.free)→∃c,cl.lookup z=some c:=fun t ht hk=>by
   have:=List.all_eq_true.mp has _ (ot ht)
   rcases hk with rfl | rfl <;> simpa [Option.isSome_iff_exists] using this
  rcases h with h | h
  ·exact k _ h (.inl rfl)
  ·exact k _ h (.inr rfl)
 len:=len
 vY:=fun k z j h1 h2=>fr_ (z,j) (List.mem_of_getElem? (i:=k) (by rw [List.getElem?_zip_eq_some]; exact⟨h1,h2⟩))
 nd:=nd
end
end L2
namespace L2
end L2
namespace L2
open PySem PySem.Spec PyProof.Rows
theorem fZ {X:Cx}{K:PySem.W.Frag}(h:X.K=K):ZD X (Ar K):=by
 subst h
 exact ay
theorem tL {X:Cx}{K:PySem.W.Frag}(h:X.K=K):ZD X (ZE K):=by
 subst h
 exact dy
theorem nO {X:Cx}{K:PySem.W.Frag}{e:Expr}{f:Str}{pos:Pos}{ta:TE}(h:X.K=K) (he:PE X e ta) (hb:attributeBase e f X.env (eval e X.env)=eval e X.env):PE X (.Attribute e f pos) (TR K ta f):=by
 subst h
 exact a8 he hb
end L2
namespace L2
open PySem PySem.Spec PyProof.Rows
open AutoSeq1 (wpAny_loadPart')
section
variable {prog:Program}{w:World}{A:Around}{E:Value→Shared→Prop}{s:Shared}
noncomputable abbrev FF (p:Int) (t:Tok):List (Str×Value):=[("start",.int p t)]
theorem Mj (l:Value) (p:Int) (t:Tok):checkTypeCall "enumerate" ⟨[l],FF p t⟩=pure ():=by kernel_rfl
theorem Ml (l:Value) (p:Int) (t:Tok):checkBuiltinCall "enumerate.__new__" ⟨[.type "enumerate",l],FF p t⟩=pure ():=by kernel_rfl
theorem Mm (o l:Value) (p:Int) (t:Tok):argsOk "object.__init__" ⟨[o,l],FF p t⟩:=by
 first | exact⟨rfl⟩ | decide | (unfold argsOk; kernel_rfl) | trivial
theorem Uj (l:Addr) (xs:Array Value) (n:Nat) (dct:Option Addr) (sl:Array (Option Value)) (p:Int) (t:Tok) (hp:(!Builtin.SmallTypes.fitsIndex p)=false) :
  Meets (Builtin.«enumerate.__new__» ⟨[.type "enumerate",.ref l],FF p t⟩) (fun _ R s=>s.heap.get? l=some {cls:=.type "list",dict:=dct,data:=.seq xs n,slots:=sl} ∧
   R (.ok (.ret (.ref (s.heap.push {cls:=.type "list_iterator",data:=.fields #[.ref l,.int 0 0]}).objs.size)))
    {s with heap:=(s.heap.push {cls:=.type "list_iterator",data:=.fields #[.ref l,.int 0 0]}).push {cls:=.type "enumerate",data:=.fields #[.none,.bool false,.ref s.heap.objs.size,rawInt p,.none,.none]}}):=
 .of_wp fun prog w A R s h=>by
  obtain⟨ZQ,g,d,tk,os⟩:=s
  obtain⟨hl,h⟩:=h
  have sub:=sub_enumerate
  have isl:Heap.IsList (Shared.heap ⟨ZQ,g,d,tk,os⟩) l xs:=⟨_,hl,rfl,n,rfl⟩
  wp_walk using wpAny_loadPart' hl
  refine wpAny_stack_any fun st=>wpAny_pure ?_
  split
  ·rename_i c _ _ _ _ _
   cases (c == Value.type "enumerate") <;> (wp_walk using wpAny_loadPart' hl,wpAny_pyIter_list isl; exact⟨_,rfl,h⟩)
  ·wp_walk using wpAny_loadPart' hl,wpAny_pyIter_list isl
   exact⟨_,rfl,h⟩
theorem Mn {T ni ii:String}{Bn Bi:Builtin}{as:List Value}{kw:List (Str×Value)}{S:PySem.Spec}{Q Q1:Value→Shared→Prop}(ft:TypeCalled T ni ii) (c1:checkTypeCall T ⟨as,kw⟩=pure ())
  (c2:checkBuiltinCall ni ⟨.type T::as,kw⟩=pure ()) (en:entryFor table ni=some Bn) (ei:entryFor table ii=some Bi) (g:Meets (Bn ⟨.type T::as,kw⟩) S) (h:S A.in1 (wants Q1 E) s)
  (nx:∀o s1,Q1 o s1→s1.TypeIs o T∧argsOk ii ⟨o::as,kw⟩∧∃Si,Meets (Bi ⟨o::as,kw⟩) Si∧Si A.in1 (wants (fun r s2=>r=.none∧Q o s2) E) s1):wpAny (model prog w) A (call (.type T) as kw) Q E s:=by
 obtain⟨c,tl,mr⟩:=ft.mro
 have made:=ft.made; have sub:=ft.sub; have nt:=ft.notType; have cc:=ft.canCreate
 refine wpAny_call (codeAny_of_tree ?_); show wpAny _ _ (callAny (.type T) _) _ _ _
 refine wpAny_pure ⟨Code.quiet_builtin _ (by decide +kernel),codeAny_builtin F.entry_type_call ?_⟩; rw [Around.under_plain (weight_type_call_type T as kw) (units_type_call_type T as kw)]
 repeat (any_goals (first | assumption | wp_step))
 refine codeAny_mono (codeAny_call_builtin ft.plain en (wpAny_of_eq c2 (g prog w A.in1 _ s h))) fun r s1 hr=>?_
 cases r with
 | error e=>exact hr
 | ok fl=>
  cases fl with
  | ret o=>
   obtain⟨hT,ok,Si,gi,hs⟩:=nx _ _ hr
   have li:=ft.init.lookup; have bi:=ft.init.bind o
   repeat (any_goals (first | assumption | wp_step))
   refine codeAny_mono (codeAny_call_builtin ft.init.plain ei (ft.init.check _ _ _ _ _ _ _ _ hT ok (gi prog w A.in1 _ s1 hs))) fun r2 s2 nQ=>?_
   cases r2 with
   | error e=>exact nQ
   | ok fl2=>
    cases fl2 with
    | ret r=>
     obtain⟨rfl,hq⟩:=nQ
     repeat (any_goals (first | assumption | wp_step))
    | _=>exact nQ.elim
  | _=>exact hr.elim
theorem Uk {T ni:String}{o a:Value}{as:List Value}{kw:List (Str×Value)}(hl:typeLookup (.type T) "__init__"=pure (some (.builtin "object.__init__"))) (hm:Bind.madeBy (.type T)=pure (some ni)) (oj:(some ni != some "object.__new__")=true) :
  Meets (Builtin.«object.__init__» ⟨o::a::as,kw⟩) (fun _ R s=>s.TypeIs o T∧R (.ok (.ret .none)) s):=by
 refine Meets.of_wp fun prog w A R s hs=>?_
 obtain⟨hT,hq⟩:=hs
 repeat (any_goals (first | assumption | wp_step))
 exact⟨_,rfl,hq⟩
theorem Mo {l:Addr}{xs:Array Value}{p:Int}{t:Tok}{Q:Value→Shared→Prop}(hL:s.heap.IsList l xs) (hp:(!Builtin.SmallTypes.fitsIndex p)=false)
  (h:∀h',IsEnum h' (s.heap.objs.size+1) s.heap.objs.size p .none→h'.IsListIter s.heap.objs.size l 0→h'.objs.size=s.heap.objs.size+2→(∀b o,s.heap.get? b=some o→h'.get? b=some o)→Q (.ref (s.heap.objs.size+1)) {s with heap:=h'}) :
  wpAny (model prog w) A (call (.type "enumerate") [.ref l] (FF p t)) Q E s:=by
 obtain⟨⟨c,dct,dt,sl⟩,hl,hc,n,hd⟩:=hL
 replace hc:c=.type "list":=hc
 replace hd:dt=.seq xs n:=hd
 subst hc hd
 refine Mn (Q1:=fun o s1=>s1.TypeIs o "enumerate"∧Q o s1) F.called_enumerate (Mj _ _ _) (Ml _ _ _) F.entry_enumerate_new F.entry_object_init (Uj l xs n dct sl p t hp) ⟨hl,?_⟩ fun o s1 hq=>
  ⟨hq.1,Mm _ _ _ _,_,Uk F.called_enumerate.init.lookup F.called_enumerate.made (by decide),hq.1,rfl,hq.2⟩
 have hz:(s.heap.push {cls:=.type "list_iterator",data:=.fields #[.ref l,.int 0 0]}).objs.size=s.heap.objs.size+1:=Heap.size_push ..
 show _∧_; rw [hz]
 have he:=Heap.get?_push_size (s.heap.push {cls:=.type "list_iterator",data:=.fields #[.ref l,.int 0 0]}) (o:={cls:=.type "enumerate",data:=.fields #[.none,.bool false,.ref s.heap.objs.size,rawInt p,.none,.none]}) rfl
 rw [hz] at he
 exact⟨⟨_,he,rfl⟩,h _ he ⟨_,Heap.get?_push_of_some _ (Heap.get?_push_size _ rfl),rfl,rfl⟩ (by rw [Heap.size_push,hz]) fun b o x=>Heap.get?_push_of_some _ (Heap.get?_push_of_some _ x)⟩
theorem v8 {it:Addr}{fp:List Addr}{n:Nat}{P:Nat→Value→Prop}{St:Nat→Heap→Prop}(p:Nat) (D:Draws prog w A it fp n P St) :
  Draws prog w A it fp (p+n) (fun j v=>∃i,j=p+i∧P i v) (fun j h=>∃i,j=p+i∧St i h) where
 live:=fun j h ⟨i,_,st⟩=>D.live i h st
 frame:=fun j h h' ⟨i,e,st⟩ k=>⟨i,e,D.frame i h h' st k⟩
 item:=fun j s Q E hj ⟨i,e,st⟩ hQ=>D.item i s Q E (by omega) st fun x h' tk hP TJ hs=>hQ x h' tk ⟨i,e,hP⟩ ⟨i+1,by omega,TJ⟩ hs
 done:=fun s Q E ⟨i,e,st⟩ hE=>by
  have ei:i=n:=by omega
  subst ei
  exact D.done s Q E st hE
end
noncomputable def PJ (K:PySem.W.Frag) (l:Addr) (p:Nat):It:=
 ⟨fun i H=>∃xs x,aF K H l xs∧xs[i]?=some x,fun i H x H'=>∃t v,H t=none∧x=.ref t∧(∀xs,aF K H l xs→xs[i]?=some v)∧H'=upd H t (.tup [.int ((p+i:Nat):Int),v]),fun i H=>∃xs,aF K H l xs∧xs.length=i⟩
theorem Dw {P:Program}{w:World}{K:PySem.W.Frag}{es:List Expr}{k:Nat}{tp:Pos}(l e it:Addr) (p:Nat) (hei:e≠it) (hle:l≠e) (hli:l≠it) :
  Turn P w K (.Tuple es k tp) (PJ K l p) [e,it] e (fun i h=>(∃old,IsEnum h e it ((p+i:Nat):Int) old)∧h.IsListIter it l i) where
 mem:=by simp
 obj:=fun i h st b hb=>by
  obtain⟨⟨old,he⟩,o,ho,hc,hd⟩:=st
  rcases List.mem_cons.mp hb with rfl | hb
  ·exact⟨_,he,fun v z=>by cases z⟩
  ·have eb:b=it:=by simpa using hb
   subst eb
   exact⟨o,ho,fun v z=>by rw [hd] at z; cases z⟩
 keep:=fun i h h' st kk=>by
  obtain⟨⟨old,he⟩,hit⟩:=st
  exact⟨⟨old,kk e (by simp) _ he⟩,hit.at fun o z=>kk it (by simp) o z⟩
 item:=by
  intro X hP hw hK hc i pins s σ H E I hf st hg
  subst hP hw hK
  obtain⟨xs,x,hq,hx⟩:=hg
  obtain⟨aO,rv,pl,hz⟩:=I.list hq
  obtain⟨u,hu,ru⟩:=rv.get hx
  obtain⟨⟨old,he⟩,hit⟩:=st
  have hlen:=rv.length
  have hi:i < aO.toArray.size:=by
   have:=(List.getElem?_eq_some_iff.mp hu).1
   simpa using this
  refine wpAny_pyNext_enum_itemD (v8 p (Draws.list (prog:=X.prog) (w:=X.w) (A:=X.A.in1) (I.ok.hd hc) it l hli aO.toArray)) he ⟨i,rfl,hit,pl.isList⟩ (by omega) hei
   (by simp only [List.mem_cons,List.not_mem_nil,or_false]; rintro(z | z); exact hei z; exact hle z.symm) fun y h' tk hy ho ju hT hsz hk=>?_
  obtain⟨i',ei,hy⟩:=hy
  have ei':i'=i:=by omega
  subst ei'
  have eu:y=u:=by
   have h1:aO.toArray[i']?=some y:=hy
   rw [List.getElem?_toArray,hu] at h1
   exact(Option.some.inj h1).symm
  subst eu
  refine⟨_,rfl,wpAny_letOwnedTupleGo_enum (s:={s with heap:=h',toks:=tk+1}) ho fun h2 FG Ai=>?_⟩
  have hel:e < s.heap.objs.size:=Heap.lt_size he
  have hn:H s.heap.objs.size=none:=I.fresh
  have kp:∀b o,b≠e→b≠it→s.heap.get? b=some o→h2.get? b=some o:=fun b o h1 h3 z=>(Ai.2 b h1).trans (hk b o h1 h3 z)
  have EN:h2.get? s.heap.objs.size=some {cls:=.type "tuple",data:=.seq #[.int ((p+i':Nat):Int) tk,y]}:=(Ai.2 _ (Nat.ne_of_gt hel)).trans hT
  have fe:=hf e (by simp)
  have fi:=hf it (by simp)
  have ne:∀b o,H b=some o→b≠e∧b≠it:=fun b o z=>⟨fun z2=>(by subst z2; rw [fe.1] at z; cases z),fun z2=>(by subst z2; rw [fi.1] at z; cases z)⟩
  have lt:∀b o,H b=some o→b≠s.heap.objs.size:=fun b o z=>Nat.ne_of_lt (I.bS.lt z)
  have bS:jt X.prog X.w (upd H s.heap.objs.size (.tup [.int ((p+i':Nat):Int),x])) h2:=fun b o z=>by
   by_cases hb:b=s.heap.objs.size
   ·subst hb
    rw [ae] at z
    cases z
    exact⟨by show 2≤_; decide,[.int ((p+i':Nat):Int) tk,y],.cons ⟨tk,rfl⟩ (.cons ru .nil),⟨_,EN,rfl,_,rfl⟩⟩
   ·rw [ai hb] at z
    refine(I.bS b o z).fW (fun c v hc q=>?_) (fun c q=>by rw [ai (lt c _ q)]; exact q) fun c ys q=>by rw [ai (lt c _ q)]; exact q
    rcases hc with rfl | hc
    ·exact kp _ v (ne _ o z).1 (ne _ o z).2 q
    ·exact kp c v (ne c _ hc).1 (ne c _ hc).2 q
  have ZR:∀b o,s.heap.get? b=some o→b≠s.heap.objs.size:=fun b o z=>Nat.ne_of_lt (Heap.lt_size z)
  have U:Un (B5 X.stack) [e,it] H (upd H s.heap.objs.size (.tup [.int ((p+i':Nat):Int),x])) s.heap h2:=by
   have EL:∀b,b∉[e,it]→b≠e∧b≠it:=fun b hb=>⟨fun z=>hb (by simp [z]),fun z=>hb (by simp [z])⟩
   refine⟨fun b o z _ _ hb=>kp b o (EL b hb).1 (EL b hb).2 z,fun b o z _ _ hb=>⟨o.slots,kp b o (EL b hb).1 (EL b hb).2 z⟩,fun b o z n hb=>by rw [ai (ZR b o z)]; exact n,fun b o z hb=>?_,fun b ys z=>by rw [ai (lt b _ z)]; exact z,fun b o u z=>by rw [ai (lt b _ z)]; exact z,fun b ps z=>⟨#[],by rw [ai (lt b _ z),z]; simp⟩⟩
   exact⟨o,kp b o (EL b hb).1 (EL b hb).2 z⟩
  have I2:Inv X pins σ (upd H s.heap.objs.size (.tup [.int ((p+i':Nat):Int),x])) {s with heap:=h2,toks:=tk+1}:=I.call (g':=s.gens) (t':=tk+1) (d':=s.drawn) (ch:=[e,it]) U bS I.bare fun b hb=>by
   have f:=hf b hb
   exact⟨f.2.2.2.1,f.2.1,f.2.2.2.2.1,f.2.2.2.2.2⟩
  obtain⟨i2,ei2,aft,_⟩:=ju
  have ei3:i2=i'+1:=by omega
  subst ei3
  refine⟨.ref s.heap.objs.size,_,I2,rfl,⟨s.heap.objs.size,x,hn,rfl,fun ys hy=>by rw [I.oa hy hq]; exact hx,rfl⟩,⟨⟨y,?_⟩,aft.at fun o z=>(Ai.2 it hei.symm).trans z⟩,fun b hb=>?_⟩
  ·have ec:(((p+i':Nat):Int)+1)=((p+(i'+1):Nat):Int):=by omega
   rw [←ec]
   exact FG
  ·have f:=(hf b hb).1
   obtain⟨ob,zb,_⟩:∃o,s.heap.get? b=some o∧True:=by
    rcases List.mem_cons.mp hb with rfl | hb
    ·exact⟨_,he,trivial⟩
    ·have eb:b=it:=by simpa using hb
     subst eb
     obtain⟨o,z_,_⟩:=hit
     exact⟨o,z_,trivial⟩
   rw [ai (ZR b ob zb)]
   exact f
 done:=by
  intro X hP hw hK hc i pins s σ H E I hf st hg
  subst hP hw hK
  obtain⟨xs,hq,hx⟩:=hg
  obtain⟨aO,rv,pl,hz⟩:=I.list hq
  obtain⟨⟨old,he⟩,hit⟩:=st
  have hlen:=rv.length
  have fi:=hf it (by simp)
  have ei:i=aO.toArray.size:=by simp; omega
  subst ei
  exact wpAny_pyNext_enum_endD (v8 p (Draws.list (prog:=X.prog) (w:=X.w) (A:=X.A.in1) (I.ok.hd hc) it l hli aO.toArray)) he ⟨aO.toArray.size,rfl,hit,pl.isList⟩
   fun h' eb=>⟨rfl,I.turned (t':=s.toks) (fun b o hb z=>eb b o hb z) fi.1 fi.2.1 fi.2.2.2.1 fi.2.2.2.2.1 fi.2.2.2.2.2⟩
 self:=fun _ _ _ _ _ st h=>by
  obtain⟨⟨old,he⟩,_⟩:=st
  exact wpAny_pyIter_enum he h
theorem tM:bootBuiltins "enumerate"=some (.type "enumerate"):=by decide +kernel
section
variable {M:Model}{A:Around}{E:Value→Shared→Prop}{s:Shared}{env:Env}
theorem Mp {pos:Pos}{T:String}{e:Expr}{TY:List Keyword}{Q:Value→Shared→Prop}
  (h:wpAny M A (spliced (backTo pos (starEach [e] env))) (fun vs s1=>wpAny M A (evalAll ((backToKw pos (keywordEach TY env)).map (·.2)))
   (fun kvs s2=>wpAny M A (call (.type T) vs (((backToKw pos (keywordEach TY env)).filterMap (·.1)).zip kvs)) Q E s2) E s1) E s)
  (he:starEach [e] env=[(false,eval e env)]) (Fp:(backToKw pos (keywordEach TY env)).all (·.1.isSome)=true:=by rfl)
  (hkw:(backToKw pos (keywordEach TY env)).any (·.1.isNone)=false:=by rfl) :
  wpAny M A (callWith pos (.type T) [] (backTo pos (starEach [e] env)) (backToKw pos (keywordEach TY env))) Q E s:=by
 rw [he] at h ⊢
 have hp:(backTo pos [(false,eval e env)]).any (·.1)=false:=rfl
 unfold callWith
 have h2:wpAny M A (evalArgs (.type T) true (backTo pos [(false,eval e env)]) (backToKw pos (keywordEach TY env))) (fun a s1=>wpAny M A (call (.type T) ([]++a.pos) a.kw) Q E s1) E s:=evalArgs_kwB Fp h
 refine wpAny_bind (wpAny_holding (b9 h2 fun a s3 h3=>wpAny_bind (wpAny_standAt ?_)))
 simp only [hp,hkw,Bool.or_false]
 refine wpAny_bind (wpAny_pure ?_)
 exact wpAny_bind (b9 h3 fun r s4 hr=>wpAny_bind (wpAny_holding (wpAny_point (wpAny_pure hr))))
end
section
variable {X:Cx}
noncomputable def PK (K:PySem.W.Frag) (tl tp:TE):TI:=fun σ H R=>tl σ H fun x H1=>tp σ H1 fun y H2=>∃(a:Addr) (p:Nat),x=.ref a∧y=.int p∧(∃xs,aF K H2 a xs)∧p < 2 ^ 62∧R (PJ K a p) H2
theorem Mq {p:Nat}(h:p < 2 ^ 62):(!Builtin.SmallTypes.fitsIndex (p:Int))=false:=by
 have h1:(p:Int) < 2 ^ 62:=by exact_mod_cast h
 unfold Builtin.SmallTypes.fitsIndex
 simp
 omega
theorem Mr {l st:Expr}{tl tp:TE}{es:List Expr}{k:Nat}{TU p kp pos:Pos}(hg:Gl X "enumerate") (hm:X.mg "enumerate"=none) (hl:PE X l tl) (ju:PE X st tp)
  (he:starEach [l] X.env=[(false,eval l X.env)]:=by rfl):PI X (.Tuple es k TU) (.Call (.Name "enumerate" p) [l] [⟨some "start",st,kp⟩] pos) (PK X.K tl tp):=by
 intro pins s σ H R I h
 refine wpAny_Call_Name_kw (lD I hg hm tM (Mp ?_ he))
 have hA:PA X [l] (j9 tl tH):=aa hl af he
 refine b9 (hA pos pins s σ H (fun vs H1=>match vs with
  | [x]=>tp σ H1 fun y H2=>∃(a:Addr) (p:Nat),x=.ref a∧y=.int p∧(∃xs,aF X.K H2 a xs)∧p < 2 ^ 62∧R (PJ X.K a p) H2
  | _=>False) I h) fun us s1 ⟨vs,H1,I1,r1,q1⟩=>?_
 match vs,r1,q1 with
 | [x],.cons (b:=u) ra .nil,q1=>
  refine kws_cons (b9 (ju pins s1 σ H1 _ I1 q1) fun v s2 ⟨y,H2,I2,r2,q2⟩=>kws_nil ?_)
  obtain⟨a,p,e1,e2,⟨xs,hq⟩,hp,qq⟩:=q2
  subst e1 e2
  cases ra
  obtain⟨t,rfl⟩:=r2
  obtain⟨aO,rv,pl,hz⟩:=I2.list hq
  have fo:a < s2.heap.objs.size:=by
   obtain⟨o,e,_⟩:=pl.isList
   exact Heap.lt_size e
  refine Mo pl.isList (Mq hp) fun h' hen hit hsz hk=>wpAny_pyIter_enum hen ?_
  refine⟨s2.heap.objs.size+1,[s2.heap.objs.size+1,s2.heap.objs.size],_,_,H2,rfl,I2.kept (t':=s2.toks) hk,Dw a _ _ p (Nat.succ_ne_self _) (Nat.ne_of_lt (Nat.lt_succ_of_lt fo)) (Nat.ne_of_lt fo),⟨⟨.none,hen⟩,hit⟩,fun b hb=>?_,qq⟩
  rcases List.mem_cons.mp hb with rfl | hb
  ·exact I2.LH (Nat.le_succ _) (I2.bS.fresh (Nat.le_succ _))
  ·have eb:b=s2.heap.objs.size:=by simpa using hb
   subst eb
   exact I2.LH (Nat.le_refl _) (I2.bS.fresh (Nat.le_refl _))
theorem FH {K:PySem.W.Frag}{a:Addr}{p:Nat}{xs:List V}{g:TG}{tb:TS}{D:Ends}{σ:St}{H:Hp}(Pv:Nat→St→Hp→Prop) (h0:Pv 0 σ H) (hl:∀i σ H,i≤xs.length→Pv i σ H→aF K H a xs)
  (hs:∀i x t σ H,xs[i]?=some x→Pv i σ H→H t=none→g (.ref t) σ (upd H t (.tup [.int ((p+i:Nat):Int),x])) fun σ2 H2=>tb {D with nx:=Pv (i+1),ct:=Pv (i+1),bk:=D.nx} σ2 H2) (hd:∀σ H,Pv xs.length σ H→D.nx σ H) :
  ∃W:Nat→Nat→St→Hp→Prop,(∃m,W 0 m σ H)∧∀i m σ H,W i m σ H →
   ((PJ K a p).stop i H∧D.nx σ H)∨((PJ K a p).go i H∧∃N:St→Hp→Prop,(∀σ' H',N σ' H'→∃m',m' < m∧W (i+1) m' σ' H')∧∀x H',(PJ K a p).Pn i H x H'→g x σ H' fun σ2 H2=>tb {D with nx:=N,ct:=N,bk:=D.nx} σ2 H2):=by
 refine⟨fun i m σ H=>m+i=xs.length∧Pv i σ H,⟨xs.length,rfl,h0⟩,?_⟩
 rintro i m σ H ⟨hm,pv⟩
 have q:=hl i σ H (by omega) pv
 cases m with
 | zero=>
  have ei:i=xs.length:=by omega
  subst ei
  exact .inl ⟨⟨xs,q,rfl⟩,hd σ H pv⟩
 | succ m=>
  have fo:i < xs.length:=by omega
  refine .inr ⟨⟨xs,xs[i],q,by simp [fo]⟩,Pv (i+1),fun σ' H' p'=>⟨m,by omega,by omega,p'⟩,fun x H' y=>?_⟩
  obtain⟨t,v,hn,rfl,hv,rfl⟩:=y
  exact hs i v t σ H (hv xs q) pv hn
end
end L2
namespace L2
open PySem PySem.Spec PyProof.Rows
inductive D where
 | bf | bl (b:Bool) | int (i:Int) | str (x:Str) | lst (ds:List D) | tup (ds:List D)
mutual
noncomputable def bw:D→D→Bool
 | .bf,.bf=>true
 | .bl a,.bl b=>a == b
 | .bl a,.int b=>(if a then 1 else 0) == b
 | .int a,.bl b=>a == (if b then 1 else 0)
 | .int a,.int b=>a == b
 | .str a,.str b=>a == b
 | .lst a,.lst b=>iY a b
 | .tup a,.tup b=>iY a b
 | _,_=>false
noncomputable def iY:List D→List D→Bool
 | [],[]=>true
 | a::x,b::y=>bw a b&&iY x y
 | _,_=>false
end
mutual
noncomputable def D.dep:D→Nat
 | .lst a=>dP a+1
 | .tup a=>dP a+1
 | _=>0
noncomputable def dP:List D→Nat
 | []=>0
 | a::x=>max a.dep (dP x)
end
mutual
theorem e_:∀d:D,bw d d=true
 | .bf=>by simp [bw]
 | .bl b=>by simp [bw]
 | .int i=>by simp [bw]
 | .str x=>by simp [bw]
 | .lst ds=>by rw [bw]; exact lG ds
 | .tup ds=>by rw [bw]; exact lG ds
theorem lG:∀ds:List D,iY ds ds=true
 | []=>by simp [iY]
 | d::ds=>by rw [iY,e_ d,lG ds]; rfl
end
theorem gx:∀{ds:List D}{i:Nat}{d:D},ds[i]?=some d→d.dep≤dP ds
 | [],_,_,h=>by simp at h
 | e::ds,0,d,h=>by
  simp at h
  subst h
  rw [dP]
  exact Nat.le_max_left _ _
 | e::ds,i+1,d,h=>by
  rw [dP]
  exact Nat.le_trans (gx (i:=i) (by simpa using h)) (Nat.le_max_right _ _)
theorem hV:∀{ds es:List D},ds.length≠es.length→iY ds es=false
 | [],[],h=>absurd rfl h
 | [],_::_,_=>by simp [iY]
 | _::_,[],_=>by simp [iY]
 | d::ds,e::es,h=>by rw [iY,hV (by simpa using h),Bool.and_false]
theorem hW:∀{ds es:List D},ds.length=es.length→iY ds es=(List.range ds.length).all fun j=>bw (ds.getD j .bf) (es.getD j .bf)
 | [],[],_=>by simp [iY]
 | [],_::_,h=>by simp at h
 | _::_,[],h=>by simp at h
 | d::ds,e::es,h=>by
  rw [iY,hW (by simpa using h),List.length_cons,List.range_succ_eq_map,List.all_cons,List.all_map]
  rfl
inductive gQ (K:PySem.W.Frag) (H:Hp):V→D→Prop where
 | bf:gQ K H .bf .bf
 | bl (b:Bool):gQ K H (.bl b) (.bl b)
 | int (i:Int):gQ K H (.int i) (.int i)
 | str (x:Str):gQ K H (.str x) (.str x)
 | lst {a:Addr}{xs:List V}{ds:List D}(h:aF K H a xs) (hl:xs.length=ds.length) (hi:∀(i:Nat) (x:V) (d:D),xs[i]?=some x→ds[i]?=some d→gQ K H x d):gQ K H (.ref a) (.lst ds)
 | tup {a:Addr}{xs:List V}{ds:List D}(h:dO K H a xs) (hl:xs.length=ds.length) (hi:∀(i:Nat) (x:V) (d:D),xs[i]?=some x→ds[i]?=some d→gQ K H x d):gQ K H (.ref a) (.tup ds)
section
variable {X:Cx}{pins:List (Addr×Obj)}{s:Shared}{σ:St}{H:Hp}
theorem Inv.v_ (I:Inv X pins σ H s) {a:Addr}{xs ys:List V}(h:aF X.K H a xs) (h':dO X.K H a ys):False:=by
 obtain⟨aO,_,p,_⟩:=I.list h
 obtain⟨bE,_,q,_⟩:=I.tuple h'
 obtain⟨o,e,c,_⟩:=p.isList
 obtain⟨o2,e2,c2,_⟩:=q
 rw [e] at e2
 cases e2
 rw [c] at c2
 injection c2 with h3
 exact absurd h3 (by decide)
theorem PL {xs:List V}{ds es:List D}(hl:xs.length=ds.length) (eM:xs.length=es.length) (h:∀(i:Nat) x d e,xs[i]?=some x→ds[i]?=some d→es[i]?=some e→d=e):ds=es:=by
 refine List.ext_getElem (by omega) fun i h1 h2=>?_
 exact h i _ _ _ (List.getElem?_eq_getElem (by omega)) (List.getElem?_eq_getElem h1) (List.getElem?_eq_getElem h2)
theorem gQ.one (I:Inv X pins σ H s) {x:V}{d:D}(h:gQ X.K H x d):∀{e:D},gQ X.K H x e→d=e:=by
 induction h with
 | bf=>intro e h; cases h; rfl
 | bl b=>intro e h; cases h; rfl
 | int b=>intro e h; cases h; rfl
 | str b=>intro e h; cases h; rfl
 | lst q hl hi ih=>
  intro e h
  cases h with
  | lst q2 eM Ab=>
   cases I.oa q q2
   rw [PL hl eM fun i x d e h1 h2 h3=>ih i x d h1 h2 (Ab i x e h1 h3)]
  | tup q2 eM Ab=>exact(I.v_ q q2).elim
 | tup q hl hi ih=>
  intro e h
  cases h with
  | tup q2 eM Ab=>
   cases I.Di q q2
   rw [PL hl eM fun i x d e h1 h2 h3=>ih i x d h1 h2 (Ab i x e h1 h3)]
  | lst q2 eM Ab=>exact(I.v_ q2 q).elim
theorem Co {ds:List D}{i:Nat}(h:i < ds.length):ds[i]?=some (ds.getD i .bf):=by simp [List.getD,h]
theorem iO {xs ys:List V}{ds es:List D}{aO bE:List Value}{A:Around}(r1:Vals xs aO) (r2:Vals ys bE) (hl:xs.length=ds.length) (eM:ys.length=es.length)
  (ih:∀(i:Nat) x d,xs[i]?=some x→ds[i]?=some d→∀{y:V}{e:D}{u v:Value},gQ X.K H y e→RelV x u→RelV y v→SeqAt.EqAt A s u v (bw d e)) (Ab:∀(i:Nat) y e,ys[i]?=some y→es[i]?=some e→gQ X.K H y e) :
  ∀j (h1:j < aO.toArray.size) (h2:j < bE.toArray.size),SeqAt.EqAt A s aO.toArray[j] bE.toArray[j] (bw (ds.getD j .bf) (es.getD j .bf)):=by
 intro j h1 h2
 have l1:=r1.length
 have l2:=r2.length
 have j1:j < xs.length:=by simp at h1; omega
 have j2:j < ys.length:=by simp at h2; omega
 obtain⟨u1,e1,q1⟩:=r1.get (List.getElem?_eq_getElem j1)
 obtain⟨u2,e2,q2⟩:=r2.get (List.getElem?_eq_getElem j2)
 have i1:aO.toArray[j]=u1:=by
  obtain⟨_,e⟩:=List.getElem?_eq_some_iff.mp e1
  simpa using e
 have i2:bE.toArray[j]=u2:=by
  obtain⟨_,e⟩:=List.getElem?_eq_some_iff.mp e2
  simpa using e
 rw [i1,i2]
 exact ih j _ _ (List.getElem?_eq_getElem j1) (Co (by omega)) (Ab j _ _ (List.getElem?_eq_getElem j2) (Co (by omega))) q1 q2
theorem FI {ds es:List D}:(((List.range (min ds.length es.length)).all fun j=>bw (ds.getD j .bf) (es.getD j .bf))&&(ds.length == es.length))=iY ds es:=by
 by_cases h:ds.length=es.length
 ·rw [hW h,h]
  simp
 ·rw [hV h]
  have:(ds.length == es.length)=false:=by simpa using h
  rw [this,Bool.and_false]
theorem tN (I:Inv X pins σ H s) {x:V}{d:D}(h:gQ X.K H x d):∀{A:Around},A.units+d.dep < cLine→∀{y:V}{e:D}{u v:Value},gQ X.K H y e→RelV x u→RelV y v→SeqAt.EqAt A s u v (bw d e):=by
 induction h with
 | bf=>
  intro A hu y e u v h2 r1 r2
  cases r1
  have bt:A.units < cLine:=Nat.lt_of_le_of_lt (Nat.le_add_right _ _) hu
  cases h2 with
  | bf=>
   cases r2
   first | exact SeqAt.EqAt.same _ | (rw [bw] <;> first | exact SeqAt.EqAt.same _ | nofun)
  | bl b2=>
   cases r2
   first | exact SeqAt.EqAt.none_bool b2 | (rw [bw] <;> first | exact SeqAt.EqAt.none_bool b2 | nofun)
  | int b2=>
   obtain⟨t2,rfl⟩:=r2
   first | exact SeqAt.EqAt.none_int b2 t2 | (rw [bw] <;> first | exact SeqAt.EqAt.none_int b2 t2 | nofun)
  | str b2=>
   obtain⟨t2,rfl⟩:=r2
   first | exact SeqAt.EqAt.none_str b2 t2 | (rw [bw] <;> first | exact SeqAt.EqAt.none_str b2 t2 | nofun)
  | @lst a2 gR f6 q2 l2 i2=>
   cases r2
   obtain⟨bE,v2,p2,z2⟩:=I.list q2
   first | exact SeqAt.EqAt.none_list p2.isList bt | (rw [bw] <;> first | exact SeqAt.EqAt.none_list p2.isList bt | nofun)
  | @tup a2 gR f6 q2 l2 i2=>
   cases r2
   obtain⟨bE,v2,p2,z2⟩:=I.tuple q2
   first | exact SeqAt.EqAt.none_tuple p2 bt | (rw [bw] <;> first | exact SeqAt.EqAt.none_tuple p2 bt | nofun)
 | bl b1=>
  intro A hu y e u v h2 r1 r2
  cases r1
  have bt:A.units < cLine:=Nat.lt_of_le_of_lt (Nat.le_add_right _ _) hu
  cases h2 with
  | bf=>
   cases r2
   first | exact SeqAt.EqAt.bool_none b1 | (rw [bw] <;> first | exact SeqAt.EqAt.bool_none b1 | nofun)
  | bl b2=>
   cases r2
   first | exact SeqAt.EqAt.bool_bool b1 b2 | (rw [bw] <;> first | exact SeqAt.EqAt.bool_bool b1 b2 | nofun)
  | int b2=>
   obtain⟨t2,rfl⟩:=r2
   first | exact SeqAt.EqAt.bool_int b1 b2 t2 | (rw [bw] <;> first | exact SeqAt.EqAt.bool_int b1 b2 t2 | nofun)
  | str b2=>
   obtain⟨t2,rfl⟩:=r2
   first | exact SeqAt.EqAt.bool_str b1 b2 t2 | (rw [bw] <;> first | exact SeqAt.EqAt.bool_str b1 b2 t2 | nofun)
  | @lst a2 gR f6 q2 l2 i2=>
   cases r2
   obtain⟨bE,v2,p2,z2⟩:=I.list q2
   first | exact SeqAt.EqAt.bool_list b1 p2.isList bt | (rw [bw] <;> first | exact SeqAt.EqAt.bool_list b1 p2.isList bt | nofun)
  | @tup a2 gR f6 q2 l2 i2=>
   cases r2
   obtain⟨bE,v2,p2,z2⟩:=I.tuple q2
   first | exact SeqAt.EqAt.bool_tuple b1 p2 bt | (rw [bw] <;> first | exact SeqAt.EqAt.bool_tuple b1 p2 bt | nofun)
 | int b1=>
  intro A hu y e u v h2 r1 r2
  obtain⟨t1,rfl⟩:=r1
  have bt:A.units < cLine:=Nat.lt_of_le_of_lt (Nat.le_add_right _ _) hu
  cases h2 with
  | bf=>
   cases r2
   first | exact SeqAt.EqAt.int_none b1 t1 | (rw [bw] <;> first | exact SeqAt.EqAt.int_none b1 t1 | nofun)
  | bl b2=>
   cases r2
   first | exact SeqAt.EqAt.int_bool b1 t1 b2 | (rw [bw] <;> first | exact SeqAt.EqAt.int_bool b1 t1 b2 | nofun)
  | int b2=>
   obtain⟨t2,rfl⟩:=r2
   first | exact SeqAt.EqAt.int_int b1 t1 b2 t2 | (rw [bw] <;> first | exact SeqAt.EqAt.int_int b1 t1 b2 t2 | nofun)
  | str b2=>
   obtain⟨t2,rfl⟩:=r2
   first | exact SeqAt.EqAt.int_str b1 t1 b2 t2 | (rw [bw] <;> first | exact SeqAt.EqAt.int_str b1 t1 b2 t2 | nofun)
  | @lst a2 gR f6 q2 l2 i2=>
   cases r2
   obtain⟨bE,v2,p2,z2⟩:=I.list q2
   first | exact SeqAt.EqAt.int_list b1 t1 p2.isList bt | (rw [bw] <;> first | exact SeqAt.EqAt.int_list b1 t1 p2.isList bt | nofun)
  | @tup a2 gR f6 q2 l2 i2=>
   cases r2
   obtain⟨bE,v2,p2,z2⟩:=I.tuple q2
   first | exact SeqAt.EqAt.int_tuple b1 t1 p2 bt | (rw [bw] <;> first | exact SeqAt.EqAt.int_tuple b1 t1 p2 bt | nofun)
 | str b1=>
  intro A hu y e u v h2 r1 r2
  obtain⟨t1,rfl⟩:=r1
  have bt:A.units < cLine:=Nat.lt_of_le_of_lt (Nat.le_add_right _ _) hu
  cases h2 with
  | bf=>
   cases r2
   first | exact SeqAt.EqAt.str_none b1 t1 | (rw [bw] <;> first | exact SeqAt.EqAt.str_none b1 t1 | nofun)
  | bl b2=>
   cases r2
   first | exact SeqAt.EqAt.str_bool b1 t1 b2 | (rw [bw] <;> first | exact SeqAt.EqAt.str_bool b1 t1 b2 | nofun)
  | int b2=>
   obtain⟨t2,rfl⟩:=r2
   first | exact SeqAt.EqAt.str_int b1 t1 b2 t2 | (rw [bw] <;> first | exact SeqAt.EqAt.str_int b1 t1 b2 t2 | nofun)
  | str b2=>
   obtain⟨t2,rfl⟩:=r2
   first | exact SeqAt.EqAt.str_str b1 t1 b2 t2 | (rw [bw] <;> first | exact SeqAt.EqAt.str_str b1 t1 b2 t2 | nofun)
  | @lst a2 gR f6 q2 l2 i2=>
   cases r2
   obtain⟨bE,v2,p2,z2⟩:=I.list q2
   first | exact SeqAt.EqAt.str_list b1 t1 p2.isList bt | (rw [bw] <;> first | exact SeqAt.EqAt.str_list b1 t1 p2.isList bt | nofun)
  | @tup a2 gR f6 q2 l2 i2=>
   cases r2
   obtain⟨bE,v2,p2,z2⟩:=I.tuple q2
   first | exact SeqAt.EqAt.str_tuple b1 t1 p2 bt | (rw [bw] <;> first | exact SeqAt.EqAt.str_tuple b1 t1 p2 bt | nofun)
 | @lst a1 Y1 ou q1 l1 i1 ih=>
  intro A hu y e u v h2 r1 r2
  cases r1
  have bt:A.units < cLine:=Nat.lt_of_le_of_lt (Nat.le_add_right _ _) hu
  obtain⟨kf,v1,p1,z1⟩:=I.list q1
  have n1:kf.toArray.size=ou.length:=by rw [List.size_toArray,←v1.length,l1]
  have FJ:∀(i:Nat) (d:D),ou[i]?=some d→A.in1.units+d.dep < cLine:=fun i d h=>by
   have e1:=gx h
   have e2:A.units+(dP ou+1) < cLine:=by simpa only [D.dep] using hu
   show A.units+1+d.dep < cLine
   omega
  cases h2 with
  | bf=>
   cases r2
   first | exact SeqAt.EqAt.list_none p1.isList bt | (rw [bw] <;> first | exact SeqAt.EqAt.list_none p1.isList bt | nofun)
  | bl b2=>
   cases r2
   first | exact SeqAt.EqAt.list_bool b2 p1.isList bt | (rw [bw] <;> first | exact SeqAt.EqAt.list_bool b2 p1.isList bt | nofun)
  | int b2=>
   obtain⟨t2,rfl⟩:=r2
   first | exact SeqAt.EqAt.list_int b2 t2 p1.isList bt | (rw [bw] <;> first | exact SeqAt.EqAt.list_int b2 t2 p1.isList bt | nofun)
  | str b2=>
   obtain⟨t2,rfl⟩:=r2
   first | exact SeqAt.EqAt.list_str b2 t2 p1.isList bt | (rw [bw] <;> first | exact SeqAt.EqAt.list_str b2 t2 p1.isList bt | nofun)
  | @lst a2 gR f6 q2 l2 i2=>
   cases r2
   obtain⟨bE,v2,p2,z2⟩:=I.list q2
   have n2:bE.toArray.size=f6.length:=by rw [List.size_toArray,←v2.length,l2]
   have it:=iO (X:=X) (A:=A.in1) v1 v2 l1 l2 (fun i x d ha hb=>ih i x d ha hb (FJ i d hb)) i2
   by_cases oj:a1=a2
   ·subst oj
    cases (gQ.lst q1 l1 i1).one I (gQ.lst q2 l2 i2)
    rw [e_]
    exact SeqAt.EqAt.same _
   refine SeqAt.EqAt.of_refs oj ?_
   rw [bw]
   by_cases hlen:kf.toArray.size=bE.toArray.size
   ·rw [hW (by omega),←n1]
    exact SeqAt.RcAt.lists p1.isList p2.isList hlen bt it
   ·rw [hV (by omega)]
    exact SeqAt.RcAt.lists_lengths p1.isList p2.isList (by simpa using hlen) bt
  | @tup a2 gR f6 q2 l2 i2=>
   cases r2
   obtain⟨bE,v2,p2,z2⟩:=I.tuple q2
   first | exact SeqAt.EqAt.list_tuple p1.isList p2 bt | (rw [bw] <;> first | exact SeqAt.EqAt.list_tuple p1.isList p2 bt | nofun)
 | @tup a1 Y1 ou q1 l1 i1 ih=>
  intro A hu y e u v h2 r1 r2
  cases r1
  have bt:A.units < cLine:=Nat.lt_of_le_of_lt (Nat.le_add_right _ _) hu
  obtain⟨kf,v1,p1,z1⟩:=I.tuple q1
  have n1:kf.toArray.size=ou.length:=by rw [List.size_toArray,←v1.length,l1]
  have FJ:∀(i:Nat) (d:D),ou[i]?=some d→A.in1.units+d.dep < cLine:=fun i d h=>by
   have e1:=gx h
   have e2:A.units+(dP ou+1) < cLine:=by simpa only [D.dep] using hu
   show A.units+1+d.dep < cLine
   omega
  cases h2 with
  | bf=>
   cases r2
   first | exact SeqAt.EqAt.tuple_none p1 bt | (rw [bw] <;> first | exact SeqAt.EqAt.tuple_none p1 bt | nofun)
  | bl b2=>
   cases r2
   first | exact SeqAt.EqAt.tuple_bool b2 p1 bt | (rw [bw] <;> first | exact SeqAt.EqAt.tuple_bool b2 p1 bt | nofun)
  | int b2=>
   obtain⟨t2,rfl⟩:=r2
   first | exact SeqAt.EqAt.tuple_int b2 t2 p1 bt | (rw [bw] <;> first | exact SeqAt.EqAt.tuple_int b2 t2 p1 bt | nofun)
  | str b2=>
   obtain⟨t2,rfl⟩:=r2
   first | exact SeqAt.EqAt.tuple_str b2 t2 p1 bt | (rw [bw] <;> first | exact SeqAt.EqAt.tuple_str b2 t2 p1 bt | nofun)
  | @lst a2 gR f6 q2 l2 i2=>
   cases r2
   obtain⟨bE,v2,p2,z2⟩:=I.list q2
   first | exact SeqAt.EqAt.tuple_list p1 p2.isList bt | (rw [bw] <;> first | exact SeqAt.EqAt.tuple_list p1 p2.isList bt | nofun)
  | @tup a2 gR f6 q2 l2 i2=>
   cases r2
   obtain⟨bE,v2,p2,z2⟩:=I.tuple q2
   have n2:bE.toArray.size=f6.length:=by rw [List.size_toArray,←v2.length,l2]
   have it:=iO (X:=X) (A:=A.in1) v1 v2 l1 l2 (fun i x d ha hb=>ih i x d ha hb (FJ i d hb)) i2
   by_cases oj:a1=a2
   ·subst oj
    cases (gQ.tup q1 l1 i1).one I (gQ.tup q2 l2 i2)
    rw [e_]
    exact SeqAt.EqAt.same _
   refine SeqAt.EqAt.of_refs oj ?_
   rw [bw]
   rw [←FI,←n1,←n2]
   exact SeqAt.RcAt.tuples p1 p2 bt it
theorem Ul (I:Inv X pins σ H s) {A:Around}{x y:V}{d e:D}{u v:Value}(h:gQ X.K H x d) (h2:gQ X.K H y e) (hu:A.units+d.dep < cLine) (r1:RelV x u) (r2:RelV y v):SeqAt.RcAt A s u v (bw d e):=by
 cases h with
 | bf=>
  cases r1
  have bt:A.units < cLine:=Nat.lt_of_le_of_lt (Nat.le_add_right _ _) hu
  cases h2 with
  | bf=>
   cases r2
   first | exact SeqAt.RcAt.none_none | (rw [bw] <;> first | exact SeqAt.RcAt.none_none | nofun)
  | bl b2=>
   cases r2
   first | exact SeqAt.RcAt.none_bool b2 | (rw [bw] <;> first | exact SeqAt.RcAt.none_bool b2 | nofun)
  | int b2=>
   obtain⟨t2,rfl⟩:=r2
   first | exact SeqAt.RcAt.none_int b2 t2 | (rw [bw] <;> first | exact SeqAt.RcAt.none_int b2 t2 | nofun)
  | str b2=>
   obtain⟨t2,rfl⟩:=r2
   first | exact SeqAt.RcAt.none_str b2 t2 | (rw [bw] <;> first | exact SeqAt.RcAt.none_str b2 t2 | nofun)
  | @lst a2 gR f6 q2 l2 i2=>
   cases r2
   obtain⟨bE,v2,p2,z2⟩:=I.list q2
   first | exact SeqAt.RcAt.none_list p2.isList bt | (rw [bw] <;> first | exact SeqAt.RcAt.none_list p2.isList bt | nofun)
  | @tup a2 gR f6 q2 l2 i2=>
   cases r2
   obtain⟨bE,v2,p2,z2⟩:=I.tuple q2
   first | exact SeqAt.RcAt.none_tuple p2 bt | (rw [bw] <;> first | exact SeqAt.RcAt.none_tuple p2 bt | nofun)
 | bl b1=>
  cases r1
  have bt:A.units < cLine:=Nat.lt_of_le_of_lt (Nat.le_add_right _ _) hu
  cases h2 with
  | bf=>
   cases r2
   first | exact SeqAt.RcAt.bool_none b1 | (rw [bw] <;> first | exact SeqAt.RcAt.bool_none b1 | nofun)
  | bl b2=>
   cases r2
   first | exact SeqAt.RcAt.bool_bool b1 b2 | (rw [bw] <;> first | exact SeqAt.RcAt.bool_bool b1 b2 | nofun)
  | int b2=>
   obtain⟨t2,rfl⟩:=r2
   first | exact SeqAt.RcAt.bool_int b1 b2 t2 | (rw [bw] <;> first | exact SeqAt.RcAt.bool_int b1 b2 t2 | nofun)
  | str b2=>
   obtain⟨t2,rfl⟩:=r2
   first | exact SeqAt.RcAt.bool_str b1 b2 t2 | (rw [bw] <;> first | exact SeqAt.RcAt.bool_str b1 b2 t2 | nofun)
  | @lst a2 gR f6 q2 l2 i2=>
   cases r2
   obtain⟨bE,v2,p2,z2⟩:=I.list q2
   first | exact SeqAt.RcAt.bool_list b1 p2.isList bt | (rw [bw] <;> first | exact SeqAt.RcAt.bool_list b1 p2.isList bt | nofun)
  | @tup a2 gR f6 q2 l2 i2=>
   cases r2
   obtain⟨bE,v2,p2,z2⟩:=I.tuple q2
   first | exact SeqAt.RcAt.bool_tuple b1 p2 bt | (rw [bw] <;> first | exact SeqAt.RcAt.bool_tuple b1 p2 bt | nofun)
 | int b1=>
  obtain⟨t1,rfl⟩:=r1
  have bt:A.units < cLine:=Nat.lt_of_le_of_lt (Nat.le_add_right _ _) hu
  cases h2 with
  | bf=>
   cases r2
   first | exact SeqAt.RcAt.int_none b1 t1 | (rw [bw] <;> first | exact SeqAt.RcAt.int_none b1 t1 | nofun)
  | bl b2=>
   cases r2
   first | exact SeqAt.RcAt.int_bool b1 t1 b2 | (rw [bw] <;> first | exact SeqAt.RcAt.int_bool b1 t1 b2 | nofun)
  | int b2=>
   obtain⟨t2,rfl⟩:=r2
   first | exact SeqAt.RcAt.int_int b1 t1 b2 t2 | (rw [bw] <;> first | exact SeqAt.RcAt.int_int b1 t1 b2 t2 | nofun)
  | str b2=>
   obtain⟨t2,rfl⟩:=r2
   first | exact SeqAt.RcAt.int_str b1 t1 b2 t2 | (rw [bw] <;> first | exact SeqAt.RcAt.int_str b1 t1 b2 t2 | nofun)
  | @lst a2 gR f6 q2 l2 i2=>
   cases r2
   obtain⟨bE,v2,p2,z2⟩:=I.list q2
   first | exact SeqAt.RcAt.int_list b1 t1 p2.isList bt | (rw [bw] <;> first | exact SeqAt.RcAt.int_list b1 t1 p2.isList bt | nofun)
  | @tup a2 gR f6 q2 l2 i2=>
   cases r2
   obtain⟨bE,v2,p2,z2⟩:=I.tuple q2
   first | exact SeqAt.RcAt.int_tuple b1 t1 p2 bt | (rw [bw] <;> first | exact SeqAt.RcAt.int_tuple b1 t1 p2 bt | nofun)
 | str b1=>
  obtain⟨t1,rfl⟩:=r1
  have bt:A.units < cLine:=Nat.lt_of_le_of_lt (Nat.le_add_right _ _) hu
  cases h2 with
  | bf=>
   cases r2
   first | exact SeqAt.RcAt.str_none b1 t1 | (rw [bw] <;> first | exact SeqAt.RcAt.str_none b1 t1 | nofun)
  | bl b2=>
   cases r2
   first | exact SeqAt.RcAt.str_bool b1 t1 b2 | (rw [bw] <;> first | exact SeqAt.RcAt.str_bool b1 t1 b2 | nofun)
  | int b2=>
   obtain⟨t2,rfl⟩:=r2
   first | exact SeqAt.RcAt.str_int b1 t1 b2 t2 | (rw [bw] <;> first | exact SeqAt.RcAt.str_int b1 t1 b2 t2 | nofun)
  | str b2=>
   obtain⟨t2,rfl⟩:=r2
   first | exact SeqAt.RcAt.str_str b1 t1 b2 t2 | (rw [bw] <;> first | exact SeqAt.RcAt.str_str b1 t1 b2 t2 | nofun)
  | @lst a2 gR f6 q2 l2 i2=>
   cases r2
   obtain⟨bE,v2,p2,z2⟩:=I.list q2
   first | exact SeqAt.RcAt.str_list b1 t1 p2.isList bt | (rw [bw] <;> first | exact SeqAt.RcAt.str_list b1 t1 p2.isList bt | nofun)
  | @tup a2 gR f6 q2 l2 i2=>
   cases r2
   obtain⟨bE,v2,p2,z2⟩:=I.tuple q2
   first | exact SeqAt.RcAt.str_tuple b1 t1 p2 bt | (rw [bw] <;> first | exact SeqAt.RcAt.str_tuple b1 t1 p2 bt | nofun)
 | @lst a1 Y1 ou q1 l1 i1=>
  cases r1
  have bt:A.units < cLine:=Nat.lt_of_le_of_lt (Nat.le_add_right _ _) hu
  obtain⟨kf,v1,p1,z1⟩:=I.list q1
  have n1:kf.toArray.size=ou.length:=by rw [List.size_toArray,←v1.length,l1]
  have FJ:∀(i:Nat) (d:D),ou[i]?=some d→A.in1.units+d.dep < cLine:=fun i d h=>by
   have e1:=gx h
   have e2:A.units+(dP ou+1) < cLine:=by simpa only [D.dep] using hu
   show A.units+1+d.dep < cLine
   omega
  cases h2 with
  | bf=>
   cases r2
   first | exact SeqAt.RcAt.list_none p1.isList bt | (rw [bw] <;> first | exact SeqAt.RcAt.list_none p1.isList bt | nofun)
  | bl b2=>
   cases r2
   first | exact SeqAt.RcAt.list_bool b2 p1.isList bt | (rw [bw] <;> first | exact SeqAt.RcAt.list_bool b2 p1.isList bt | nofun)
  | int b2=>
   obtain⟨t2,rfl⟩:=r2
   first | exact SeqAt.RcAt.list_int b2 t2 p1.isList bt | (rw [bw] <;> first | exact SeqAt.RcAt.list_int b2 t2 p1.isList bt | nofun)
  | str b2=>
   obtain⟨t2,rfl⟩:=r2
   first | exact SeqAt.RcAt.list_str b2 t2 p1.isList bt | (rw [bw] <;> first | exact SeqAt.RcAt.list_str b2 t2 p1.isList bt | nofun)
  | @lst a2 gR f6 q2 l2 i2=>
   cases r2
   obtain⟨bE,v2,p2,z2⟩:=I.list q2
   have n2:bE.toArray.size=f6.length:=by rw [List.size_toArray,←v2.length,l2]
   have it:=iO (X:=X) (A:=A.in1) v1 v2 l1 l2 (fun i x d ha hb=>tN I (i1 i x d ha hb) (FJ i d hb)) i2
   rw [bw]
   by_cases hlen:kf.toArray.size=bE.toArray.size
   ·rw [hW (by omega),←n1]
    exact SeqAt.RcAt.lists p1.isList p2.isList hlen bt it
   ·rw [hV (by omega)]
    exact SeqAt.RcAt.lists_lengths p1.isList p2.isList (by simpa using hlen) bt
  | @tup a2 gR f6 q2 l2 i2=>
   cases r2
   obtain⟨bE,v2,p2,z2⟩:=I.tuple q2
   first | exact SeqAt.RcAt.list_tuple p1.isList p2 bt | (rw [bw] <;> first | exact SeqAt.RcAt.list_tuple p1.isList p2 bt | nofun)
 | @tup a1 Y1 ou q1 l1 i1=>
  cases r1
  have bt:A.units < cLine:=Nat.lt_of_le_of_lt (Nat.le_add_right _ _) hu
  obtain⟨kf,v1,p1,z1⟩:=I.tuple q1
  have n1:kf.toArray.size=ou.length:=by rw [List.size_toArray,←v1.length,l1]
  have FJ:∀(i:Nat) (d:D),ou[i]?=some d→A.in1.units+d.dep < cLine:=fun i d h=>by
   have e1:=gx h
   have e2:A.units+(dP ou+1) < cLine:=by simpa only [D.dep] using hu
   show A.units+1+d.dep < cLine
   omega
  cases h2 with
  | bf=>
   cases r2
   first | exact SeqAt.RcAt.tuple_none p1 bt | (rw [bw] <;> first | exact SeqAt.RcAt.tuple_none p1 bt | nofun)
  | bl b2=>
   cases r2
   first | exact SeqAt.RcAt.tuple_bool b2 p1 bt | (rw [bw] <;> first | exact SeqAt.RcAt.tuple_bool b2 p1 bt | nofun)
  | int b2=>
   obtain⟨t2,rfl⟩:=r2
   first | exact SeqAt.RcAt.tuple_int b2 t2 p1 bt | (rw [bw] <;> first | exact SeqAt.RcAt.tuple_int b2 t2 p1 bt | nofun)
  | str b2=>
   obtain⟨t2,rfl⟩:=r2
   first | exact SeqAt.RcAt.tuple_str b2 t2 p1 bt | (rw [bw] <;> first | exact SeqAt.RcAt.tuple_str b2 t2 p1 bt | nofun)
  | @lst a2 gR f6 q2 l2 i2=>
   cases r2
   obtain⟨bE,v2,p2,z2⟩:=I.list q2
   first | exact SeqAt.RcAt.tuple_list p1 p2.isList bt | (rw [bw] <;> first | exact SeqAt.RcAt.tuple_list p1 p2.isList bt | nofun)
  | @tup a2 gR f6 q2 l2 i2=>
   cases r2
   obtain⟨bE,v2,p2,z2⟩:=I.tuple q2
   have n2:bE.toArray.size=f6.length:=by rw [List.size_toArray,←v2.length,l2]
   have it:=iO (X:=X) (A:=A.in1) v1 v2 l1 l2 (fun i x d ha hb=>tN I (i1 i x d ha hb) (FJ i d hb)) i2
   rw [bw]
   rw [←FI,←n1,←n2]
   exact SeqAt.RcAt.tuples p1 p2 bt it
theorem FK (I:Inv X pins σ H s) {A:Around}{x y:V}{d e:D}{u v:Value}(h:gQ X.K H x d) (h2:gQ X.K H y e) (hu:A.units+d.dep < cLine) (r1:RelV x u) (r2:RelV y v):SeqAt.RcNeAt A s u v (!bw d e):=by
 cases h with
 | bf=>
  cases r1
  have bt:A.units < cLine:=Nat.lt_of_le_of_lt (Nat.le_add_right _ _) hu
  cases h2 with
  | bf=>
   cases r2
   first | exact SeqAt.RcNeAt.none_none | (rw [bw] <;> first | exact SeqAt.RcNeAt.none_none | nofun)
  | bl b2=>
   cases r2
   first | exact SeqAt.RcNeAt.none_bool b2 | (rw [bw] <;> first | exact SeqAt.RcNeAt.none_bool b2 | nofun)
  | int b2=>
   obtain⟨t2,rfl⟩:=r2
   first | exact SeqAt.RcNeAt.none_int b2 t2 | (rw [bw] <;> first | exact SeqAt.RcNeAt.none_int b2 t2 | nofun)
  | str b2=>
   obtain⟨t2,rfl⟩:=r2
   first | exact SeqAt.RcNeAt.none_str b2 t2 | (rw [bw] <;> first | exact SeqAt.RcNeAt.none_str b2 t2 | nofun)
  | @lst a2 gR f6 q2 l2 i2=>
   cases r2
   obtain⟨bE,v2,p2,z2⟩:=I.list q2
   first | exact SeqAt.RcNeAt.none_list p2.isList bt | (rw [bw] <;> first | exact SeqAt.RcNeAt.none_list p2.isList bt | nofun)
  | @tup a2 gR f6 q2 l2 i2=>
   cases r2
   obtain⟨bE,v2,p2,z2⟩:=I.tuple q2
   first | exact SeqAt.RcNeAt.none_tuple p2 bt | (rw [bw] <;> first | exact SeqAt.RcNeAt.none_tuple p2 bt | nofun)
 | bl b1=>
  cases r1
  have bt:A.units < cLine:=Nat.lt_of_le_of_lt (Nat.le_add_right _ _) hu
  cases h2 with
  | bf=>
   cases r2
   first | exact SeqAt.RcNeAt.bool_none b1 | (rw [bw] <;> first | exact SeqAt.RcNeAt.bool_none b1 | nofun)
  | bl b2=>
   cases r2
   first | exact SeqAt.RcNeAt.bool_bool b1 b2 | (rw [bw] <;> first | exact SeqAt.RcNeAt.bool_bool b1 b2 | nofun)
  | int b2=>
   obtain⟨t2,rfl⟩:=r2
   first | exact SeqAt.RcNeAt.bool_int b1 b2 t2 | (rw [bw] <;> first | exact SeqAt.RcNeAt.bool_int b1 b2 t2 | nofun)
  | str b2=>
   obtain⟨t2,rfl⟩:=r2
   first | exact SeqAt.RcNeAt.bool_str b1 b2 t2 | (rw [bw] <;> first | exact SeqAt.RcNeAt.bool_str b1 b2 t2 | nofun)
  | @lst a2 gR f6 q2 l2 i2=>
   cases r2
   obtain⟨bE,v2,p2,z2⟩:=I.list q2
   first | exact SeqAt.RcNeAt.bool_list b1 p2.isList bt | (rw [bw] <;> first | exact SeqAt.RcNeAt.bool_list b1 p2.isList bt | nofun)
  | @tup a2 gR f6 q2 l2 i2=>
   cases r2
   obtain⟨bE,v2,p2,z2⟩:=I.tuple q2
   first | exact SeqAt.RcNeAt.bool_tuple b1 p2 bt | (rw [bw] <;> first | exact SeqAt.RcNeAt.bool_tuple b1 p2 bt | nofun)
 | int b1=>
  obtain⟨t1,rfl⟩:=r1
  have bt:A.units < cLine:=Nat.lt_of_le_of_lt (Nat.le_add_right _ _) hu
  cases h2 with
  | bf=>
   cases r2
   first | exact SeqAt.RcNeAt.int_none b1 t1 | (rw [bw] <;> first | exact SeqAt.RcNeAt.int_none b1 t1 | nofun)
  | bl b2=>
   cases r2
   first | exact SeqAt.RcNeAt.int_bool b1 t1 b2 | (rw [bw] <;> first | exact SeqAt.RcNeAt.int_bool b1 t1 b2 | nofun)
  | int b2=>
   obtain⟨t2,rfl⟩:=r2
   first | exact SeqAt.RcNeAt.int_int b1 t1 b2 t2 | (rw [bw] <;> first | exact SeqAt.RcNeAt.int_int b1 t1 b2 t2 | nofun)
  | str b2=>
   obtain⟨t2,rfl⟩:=r2
   first | exact SeqAt.RcNeAt.int_str b1 t1 b2 t2 | (rw [bw] <;> first | exact SeqAt.RcNeAt.int_str b1 t1 b2 t2 | nofun)
  | @lst a2 gR f6 q2 l2 i2=>
   cases r2
   obtain⟨bE,v2,p2,z2⟩:=I.list q2
   first | exact SeqAt.RcNeAt.int_list b1 t1 p2.isList bt | (rw [bw] <;> first | exact SeqAt.RcNeAt.int_list b1 t1 p2.isList bt | nofun)
  | @tup a2 gR f6 q2 l2 i2=>
   cases r2
   obtain⟨bE,v2,p2,z2⟩:=I.tuple q2
   first | exact SeqAt.RcNeAt.int_tuple b1 t1 p2 bt | (rw [bw] <;> first | exact SeqAt.RcNeAt.int_tuple b1 t1 p2 bt | nofun)
 | str b1=>
  obtain⟨t1,rfl⟩:=r1
  have bt:A.units < cLine:=Nat.lt_of_le_of_lt (Nat.le_add_right _ _) hu
  cases h2 with
  | bf=>
   cases r2
   first | exact SeqAt.RcNeAt.str_none b1 t1 | (rw [bw] <;> first | exact SeqAt.RcNeAt.str_none b1 t1 | nofun)
  | bl b2=>
   cases r2
   first | exact SeqAt.RcNeAt.str_bool b1 t1 b2 | (rw [bw] <;> first | exact SeqAt.RcNeAt.str_bool b1 t1 b2 | nofun)
  | int b2=>
   obtain⟨t2,rfl⟩:=r2
   first | exact SeqAt.RcNeAt.str_int b1 t1 b2 t2 | (rw [bw] <;> first | exact SeqAt.RcNeAt.str_int b1 t1 b2 t2 | nofun)
  | str b2=>
   obtain⟨t2,rfl⟩:=r2
   first | exact SeqAt.RcNeAt.str_str b1 t1 b2 t2 | (rw [bw] <;> first | exact SeqAt.RcNeAt.str_str b1 t1 b2 t2 | nofun)
  | @lst a2 gR f6 q2 l2 i2=>
   cases r2
   obtain⟨bE,v2,p2,z2⟩:=I.list q2
   first | exact SeqAt.RcNeAt.str_list b1 t1 p2.isList bt | (rw [bw] <;> first | exact SeqAt.RcNeAt.str_list b1 t1 p2.isList bt | nofun)
  | @tup a2 gR f6 q2 l2 i2=>
   cases r2
   obtain⟨bE,v2,p2,z2⟩:=I.tuple q2
   first | exact SeqAt.RcNeAt.str_tuple b1 t1 p2 bt | (rw [bw] <;> first | exact SeqAt.RcNeAt.str_tuple b1 t1 p2 bt | nofun)
 | @lst a1 Y1 ou q1 l1 i1=>
  cases r1
  have bt:A.units < cLine:=Nat.lt_of_le_of_lt (Nat.le_add_right _ _) hu
  obtain⟨kf,v1,p1,z1⟩:=I.list q1
  have n1:kf.toArray.size=ou.length:=by rw [List.size_toArray,←v1.length,l1]
  have FJ:∀(i:Nat) (d:D),ou[i]?=some d→A.in1.units+d.dep < cLine:=fun i d h=>by
   have e1:=gx h
   have e2:A.units+(dP ou+1) < cLine:=by simpa only [D.dep] using hu
   show A.units+1+d.dep < cLine
   omega
  cases h2 with
  | bf=>
   cases r2
   first | exact SeqAt.RcNeAt.list_none p1.isList bt | (rw [bw] <;> first | exact SeqAt.RcNeAt.list_none p1.isList bt | nofun)
  | bl b2=>
   cases r2
   first | exact SeqAt.RcNeAt.list_bool b2 p1.isList bt | (rw [bw] <;> first | exact SeqAt.RcNeAt.list_bool b2 p1.isList bt | nofun)
  | int b2=>
   obtain⟨t2,rfl⟩:=r2
   first | exact SeqAt.RcNeAt.list_int b2 t2 p1.isList bt | (rw [bw] <;> first | exact SeqAt.RcNeAt.list_int b2 t2 p1.isList bt | nofun)
  | str b2=>
   obtain⟨t2,rfl⟩:=r2
   first | exact SeqAt.RcNeAt.list_str b2 t2 p1.isList bt | (rw [bw] <;> first | exact SeqAt.RcNeAt.list_str b2 t2 p1.isList bt | nofun)
  | @lst a2 gR f6 q2 l2 i2=>
   cases r2
   obtain⟨bE,v2,p2,z2⟩:=I.list q2
   have n2:bE.toArray.size=f6.length:=by rw [List.size_toArray,←v2.length,l2]
   have it:=iO (X:=X) (A:=A.in1) v1 v2 l1 l2 (fun i x d ha hb=>tN I (i1 i x d ha hb) (FJ i d hb)) i2
   rw [bw]
   by_cases hlen:kf.toArray.size=bE.toArray.size
   ·rw [hW (by omega),←n1]
    exact SeqAt.RcNeAt.lists p1.isList p2.isList hlen bt it
   ·rw [hV (by omega)]
    exact SeqAt.RcNeAt.lists_lengths p1.isList p2.isList (by simpa using hlen) bt
  | @tup a2 gR f6 q2 l2 i2=>
   cases r2
   obtain⟨bE,v2,p2,z2⟩:=I.tuple q2
   first | exact SeqAt.RcNeAt.list_tuple p1.isList p2 bt | (rw [bw] <;> first | exact SeqAt.RcNeAt.list_tuple p1.isList p2 bt | nofun)
 | @tup a1 Y1 ou q1 l1 i1=>
  cases r1
  have bt:A.units < cLine:=Nat.lt_of_le_of_lt (Nat.le_add_right _ _) hu
  obtain⟨kf,v1,p1,z1⟩:=I.tuple q1
  have n1:kf.toArray.size=ou.length:=by rw [List.size_toArray,←v1.length,l1]
  have FJ:∀(i:Nat) (d:D),ou[i]?=some d→A.in1.units+d.dep < cLine:=fun i d h=>by
   have e1:=gx h
   have e2:A.units+(dP ou+1) < cLine:=by simpa only [D.dep] using hu
   show A.units+1+d.dep < cLine
   omega
  cases h2 with
  | bf=>
   cases r2
   first | exact SeqAt.RcNeAt.tuple_none p1 bt | (rw [bw] <;> first | exact SeqAt.RcNeAt.tuple_none p1 bt | nofun)
  | bl b2=>
   cases r2
   first | exact SeqAt.RcNeAt.tuple_bool b2 p1 bt | (rw [bw] <;> first | exact SeqAt.RcNeAt.tuple_bool b2 p1 bt | nofun)
  | int b2=>
   obtain⟨t2,rfl⟩:=r2
   first | exact SeqAt.RcNeAt.tuple_int b2 t2 p1 bt | (rw [bw] <;> first | exact SeqAt.RcNeAt.tuple_int b2 t2 p1 bt | nofun)
  | str b2=>
   obtain⟨t2,rfl⟩:=r2
   first | exact SeqAt.RcNeAt.tuple_str b2 t2 p1 bt | (rw [bw] <;> first | exact SeqAt.RcNeAt.tuple_str b2 t2 p1 bt | nofun)
  | @lst a2 gR f6 q2 l2 i2=>
   cases r2
   obtain⟨bE,v2,p2,z2⟩:=I.list q2
   first | exact SeqAt.RcNeAt.tuple_list p1 p2.isList bt | (rw [bw] <;> first | exact SeqAt.RcNeAt.tuple_list p1 p2.isList bt | nofun)
  | @tup a2 gR f6 q2 l2 i2=>
   cases r2
   obtain⟨bE,v2,p2,z2⟩:=I.tuple q2
   have n2:bE.toArray.size=f6.length:=by rw [List.size_toArray,←v2.length,l2]
   have it:=iO (X:=X) (A:=A.in1) v1 v2 l1 l2 (fun i x d ha hb=>tN I (i1 i x d ha hb) (FJ i d hb)) i2
   rw [bw]
   rw [←FI,←n1,←n2]
   exact SeqAt.RcNeAt.tuples p1 p2 bt it
noncomputable def ZS (K:PySem.W.Frag) (neg:Bool):R2:=fun x y H Q=>∃d e,gQ K H x d∧gQ K H y e∧d.dep≤60∧Q (.bl (if neg=true then !bw d e else bw d e)) H
theorem afu (hu:X.A.units+64 < cLine):j8 X (compareOp .Eq) (ZS X.K false):=by
 intro pins s σ H x y v u Q I rx ry h
 obtain⟨d,e,h1,h2,hd,q⟩:=h
 exact Ul I h1 h2 (by omega) rx ry _ _ _ _ (bo I q rfl)
theorem jx (hu:X.A.units+64 < cLine):j8 X (compareOp .NotEq) (ZS X.K true):=by
 intro pins s σ H x y v u Q I rx ry h
 obtain⟨d,e,h1,h2,hd,q⟩:=h
 exact FK I h1 h2 (by omega) rx ry _ _ _ _ (bo I q rfl)
noncomputable def fD:V→D
 | .bf=>.bf
 | .bl b=>.bl b
 | .int i=>.int i
 | .str x=>.str x
 | _=>.bf
theorem gQ.flat {K:PySem.W.Frag}{x:V}(h:fF x=true):gQ K H x (fD x):=by
 cases x with
 | bf=>exact .bf
 | bl b=>exact .bl b
 | int i=>exact .int i
 | str z=>exact .str z
 | _=>exact absurd (show false=true from h) Bool.false_ne_true
theorem gQ.mj {K:PySem.W.Frag}{a:Addr}{xs:List V}(h:aF K H a xs) (hf:∀x∈xs,fF x=true):gQ K H (.ref a) (.lst (xs.map fD)):=by
 refine .lst h (by simp) fun i x d h1 h2=>?_
 rw [List.getElem?_map,h1] at h2
 cases h2
 exact .flat (hf x (List.mem_of_getElem? h1))
theorem gQ.PM {K:PySem.W.Frag}{a:Addr}{xs:List V}(h:dO K H a xs) (hf:∀x∈xs,fF x=true):gQ K H (.ref a) (.tup (xs.map fD)):=by
 refine .tup h (by simp) fun i x d h1 h2=>?_
 rw [List.getElem?_map,h1] at h2
 cases h2
 exact .flat (hf x (List.mem_of_getElem? h1))
theorem FL (x:V):(fD x).dep=0:=by cases x <;> rfl
theorem iP (xs:List V):dP (xs.map fD)=0:=by
 induction xs with
 | nil=>rfl
 | cons x xs ih=>rw [List.map_cons,dP,FL,ih]; rfl
end
end L2
namespace L2
open PySem PySem.Spec PyProof.Rows
structure Ends.Le (D D':Ends):Prop where
 nx:∀σ H,D.nx σ H→D'.nx σ H
 rt:∀v H,D.rt v H→D'.rt v H
 bk:∀σ H,D.bk σ H→D'.bk σ H
 ct:∀σ H,D.ct σ H→D'.ct σ H
theorem Ends.Le.refl (D:Ends):D.Le D:=⟨fun _ _ h=>h,fun _ _ h=>h,fun _ _ h=>h,fun _ _ h=>h⟩
noncomputable def a6 (X:Cx) (Um:List Stmt):TS:=fun D σ H=>∃t D',sZ X Um t∧t D' σ H∧D'.Le D
theorem aw {X:Cx}{Um:List Stmt}:sZ X Um (a6 X Um):=fun pins s σ H D I h=>by
 obtain⟨t,D',h1,h2,le⟩:=h
 refine b9 (h1 pins s σ H D' I h2) fun f s' h=>?_
 cases f with
 | next=>obtain⟨a,b,c,d⟩:=h; exact⟨a,b,c,le.nx _ _ d⟩
 | brk=>obtain⟨a,b,c,d⟩:=h; exact⟨a,b,c,le.bk _ _ d⟩
 | cont=>obtain⟨a,b,c,d⟩:=h; exact⟨a,b,c,le.ct _ _ d⟩
 | ret u=>obtain⟨v,a,b,c,r,d⟩:=h; exact⟨v,a,b,c,r,le.rt _ _ d⟩
theorem a6.of {X:Cx}{Um:List Stmt}{D:Ends}{σ:St}{H:Hp}{t:TS}(h:sZ X Um t) (q:t D σ H):a6 X Um D σ H:=⟨t,D,h,q,.refl D⟩
noncomputable def hX (X:Cx) (e:Expr):TT:=fun σ H Q=>∃t Q',PT X e t∧t σ H Q'∧∀b H1,Q' b H1→Q b H1
theorem FN {X:Cx}{e:Expr}:PT X e (hX X e):=fun pins s σ H Q I h=>by
 obtain⟨t,Q',h1,h2,le⟩:=h
 refine b9 (h1 pins s σ H Q' I h2) fun b s' h=>?_
 obtain⟨H1,i,q⟩:=h
 exact⟨H1,i,le _ _ q⟩
theorem hX.of {X:Cx}{e:Expr}{σ:St}{H:Hp}{Q:Bool→Hp→Prop}{t:TT}(h:PT X e t) (q:t σ H Q):hX X e σ H Q:=⟨t,Q,h,q,fun _ _ h=>h⟩
noncomputable def Ms (J:It) (g:TG) (tb:TS) (D:Ends) (σ:St) (H:Hp):Prop:=∃W:Nat→Nat→St→Hp→Prop,(∃m,W 0 m σ H)∧∀i m σ H,W i m σ H →
 (J.stop i H∧D.nx σ H)∨(J.go i H∧∃N:St→Hp→Prop,(∀σ' H',N σ' H'→∃m',m' < m∧W (i+1) m' σ' H')∧∀x H',J.Pn i H x H'→g x σ H' fun σ2 H2=>tb {D with nx:=N,ct:=N,bk:=D.nx} σ2 H2)
noncomputable def PN (wi:TI) (g:TG) (tb:TS):TS:=fun D σ H=>wi σ H fun J H1=>Ms J g tb D σ H1
theorem bM {X:Cx}{tg iter:Expr}{body:List Stmt}{wi:TI}{g:TG}{tb:TS}{pos:Pos}(hp:PassesOwn (model X.prog X.w) X.A X.env X.xe) (hc:X.calm=true) (hi:PI X tg iter wi) (hg:PG X tg g) (hb:sZ X body tb)
  (hs:∀x,foldedSetIterable iter X.env x=pure x:=by intro _; rfl):PS X (.For tg iter body [] pos) (PN wi g tb):=TK hp hc hi hg hb hs
section
variable {K:PySem.W.Frag}{a:Addr}{p:Nat}{xs:List V}{lo:Int}{n:Nat}{g:TG}{tb:TS}{D:Ends}{σ:St}{H:Hp}
theorem dw (xs:List V) (Pv:Nat→St→Hp→Prop) (h0:Pv 0 σ H) (hl:∀i σ H,i≤xs.length→Pv i σ H→aF K H a xs)
  (hs:∀i x σ H,xs[i]?=some x→Pv i σ H→g x σ H fun σ2 H2=>tb {D with nx:=Pv (i+1),ct:=Pv (i+1),bk:=D.nx} σ2 H2) (hd:∀σ H,Pv xs.length σ H→D.nx σ H):Ms (EM K a) g tb D σ H:=Fc Pv h0 hl hs hd
theorem ee (Pv:Nat→St→Hp→Prop) (h0:Pv 0 σ H) (hs:∀i σ H,i < n→Pv i σ H→g (.int (lo+i)) σ H fun σ2 H2=>tb {D with nx:=Pv (i+1),ct:=Pv (i+1),bk:=D.nx} σ2 H2) (hd:∀σ H,Pv n σ H→D.nx σ H):Ms (LI lo n) g tb D σ H:=Dl Pv h0 hs hd
theorem Mt (xs:List V) (Pv:Nat→St→Hp→Prop) (h0:Pv 0 σ H) (hl:∀i σ H,i≤xs.length→Pv i σ H→aF K H a xs)
  (hs:∀i x t σ H,xs[i]?=some x→Pv i σ H→H t=none→g (.ref t) σ (upd H t (.tup [.int ((p+i:Nat):Int),x])) fun σ2 H2=>tb {D with nx:=Pv (i+1),ct:=Pv (i+1),bk:=D.nx} σ2 H2) (hd:∀σ H,Pv xs.length σ H→D.nx σ H):Ms (PJ K a p) g tb D σ H:=FH Pv h0 hl hs hd
end
noncomputable def Ay (c:TT) (tb:TS) (D:Ends) (σ:St) (H:Hp):Prop:=E9 c tb D σ H
noncomputable def Cp (c:TT) (tb:TS):TS:=fun D σ H=>Ay c tb D σ H
theorem lH {X:Cx}{c:Expr}{body:List Stmt}{tb:TS}{pos:Pos}(hp:PassesOwn (model X.prog X.w) X.A X.env X.xe) (hb:sZ X body tb):PS X (.While c body [] pos) (Cp (hX X c) tb):=E_ hp FN hb
theorem ww {X:Cx}{c:Expr}{tb:TS}{D:Ends}{σ:St}{H:Hp}(Pv:Nat→St→Hp→Prop) (m0:Nat) (h0:Pv m0 σ H)
  (hs:∀m σ H,Pv m σ H→hX X c σ H fun b H1=>if b=true then tb {D with nx:=fun σ' H'=>∃m',m' < m∧Pv m' σ' H',ct:=fun σ' H'=>∃m',m' < m∧Pv m' σ' H',bk:=D.nx} σ H1 else D.nx σ H1):Ay (hX X c) tb D σ H:=by
 refine⟨Pv,⟨m0,h0⟩,fun m σ H h=>?_⟩
 obtain⟨t,Q',h1,h2,le⟩:=hs m σ H h
 refine⟨t,Q',h1,h2,fun b H1 q=>?_⟩
 have q:=le b H1 q
 cases b with
 | true=>exact⟨_,fun _ _ h=>h,q⟩
 | false=>exact q
theorem ww2 {X:Cx}{c:Expr}{tb:TS}{D:Ends}{σ:St}{H:Hp}(Pv:Nat→St→Hp→Prop) (Pe:St→Hp→Prop) (m0:Nat) (h0:Pv m0 σ H)
  (hs:∀m σ H,Pv m σ H→hX X c σ H fun b H1=>if b=true then tb {D with nx:=fun σ' H'=>∃m',m' < m∧Pv m' σ' H',ct:=fun σ' H'=>∃m',m' < m∧Pv m' σ' H',bk:=D.nx} σ H1 else Pe σ H1)
  (hd:∀σ H,Pe σ H→D.nx σ H):Ay (hX X c) tb D σ H:=by
 refine ww Pv m0 h0 fun m σ H h=>?_
 obtain⟨t,Q',h1,h2,le⟩:=hs m σ H h
 refine⟨t,Q',h1,h2,fun b H1 q=>?_⟩
 have q:=le b H1 q
 cases b with
 | true=>exact q
 | false=>exact hd σ H1 q
noncomputable def Mv (X:Cx) (st:Stmt):TS:=fun D σ H=>∃t D',PS X st t∧t D' σ H∧D'.Le D
theorem tO {X:Cx}{st:Stmt}:PS X st (Mv X st):=fun pins s σ H D I h=>by
 obtain⟨t,D',h1,h2,le⟩:=h
 refine b9 (h1 pins s σ H D' I h2) fun f s' h=>?_
 cases f with
 | next=>obtain⟨a,b,c,d⟩:=h; exact⟨a,b,c,le.nx _ _ d⟩
 | brk=>obtain⟨a,b,c,d⟩:=h; exact⟨a,b,c,le.bk _ _ d⟩
 | cont=>obtain⟨a,b,c,d⟩:=h; exact⟨a,b,c,le.ct _ _ d⟩
 | ret u=>obtain⟨v,a,b,c,r,d⟩:=h; exact⟨v,a,b,c,r,le.rt _ _ d⟩
theorem Mv.of {X:Cx}{st:Stmt}{D:Ends}{σ:St}{H:Hp}{t:TS}(h:PS X st t) (q:t D σ H):Mv X st D σ H:=⟨t,D,h,q,.refl D⟩
theorem Cq {X:Cx}{st:Stmt}{D:Ends}{σ:St}{H:Hp}(M:St→Hp→Prop) (h:Mv X st {D with nx:=M} σ H) (q:∀σ H,M σ H→D.nx σ H):Mv X st D σ H:=by
 obtain⟨t,D',h1,h2,le⟩:=h
 exact⟨t,D',h1,h2,fun σ H z=>q σ H (le.nx σ H z),le.rt,le.bk,le.ct⟩
end L2
namespace L2
open PySem PySem.Spec PyProof.Rows
structure PQ (K:PySem.W.Frag) (C:Addr) (m:Str) (f:Addr):Prop where
 sp:PySem.W.specialIn K (.ref C) "__getattribute__"=some (some (.builtin "type.__getattribute__"))
 rd:PySem.W.readsIn K C (.type "type")=true
 fd:PySem.W.findCls K (.ref C) (.type "type") m=some (.val (.ref f))
 kp:PySem.W.keepIn K (.ref f)=true
structure Tyc (K:PySem.W.Frag) (C:Addr):Prop where
 ha:PySem.W.findIn K (.ref C) "__class__"=some (some (.builtin "object.__class__"))
 hn:PySem.W.specialIn K (.builtin "object.__class__") "__get__"=some (some (.builtin "getset_descriptor.__get__"))
 htk:PySem.W.takesIn K (.builtin "object.__class__")=some true
 hm:PySem.W.mroIn K C (.type "object")=some true
noncomputable def FO (L:List (Addr×Sp)) (m:Str) (gs:List V) (E:XK) (ta:TE) (t:TA):TE:=fun σ H Q=>ta σ H fun x H1=>∃a C dx fs,x=.ref a∧H1 a=some (.ins C dx fs)∧fs.lookup m=none∧∃sp,(C,sp)∈L ∧
 t σ H1 fun vs H2=>sp (x::(vs++gs)) H2 Q E
noncomputable def VM (X:Cx) (CX:vO) (m:Str) (ds:List Value) (q:Addr×Sp):Prop:=∃(f:Addr) (fd:FuncData) (ps:List Str) (k:Nat),fu X.K q.1∧Meth X.K q.1 m f∧aU X.prog X.w X.K X.mg X.base CX k f fd ps q.2∧cL k X.A∧Binds X.K fd ps ds
section
variable {X:Cx}{CX:vO}{k:Nat}{f C:Addr}{fd:FuncData}{ps:List Str}{sp:Sp}{gs:List V}{ds:List Value}{E:XK}{x m:Str}{p pos apos:Pos}{e o:Expr}{es:List Expr}{ta:TE}{t:TA}{L:List (Addr×Sp)}
theorem Cr {pl:Sem Bool}(he:PE X o (tC (.ref C))) (hm:PQ X.K C m f) (F:aU X.prog X.w X.K X.mg X.base CX k f fd ps sp) (hr:cL k X.A) (hb:Binds X.K fd ps ds) (hd:Vals gs ds) (hx:Passes CX X E) (ha:PA X (e::es) t)
  (ju:starEach (e::es) X.env=(false,eval e X.env)::starEach es X.env:=by rfl) (jX:(backTo pos (starEach es X.env)).any (·.1)=false:=by rfl)
  (ht:eval (.Call (.Attribute o m apos) (e::es) [] pos) X.env=(do
   let ov ←eval o X.env
   standAt apos.atName
   let (f,first) ←holding [ov] (getMethod ov m pl)
   callWith pos f first (backTo pos (starEach (e::es) X.env)) (backToKw pos (keywordEach [] X.env))):=by rfl) :
  PE X (.Call (.Attribute o m apos) (e::es) [] pos) (Ce sp gs E t):=by
 intro pins s σ H Q I h
 refine PySem.W.methodCall_KW (pl:=pl) (b9 (he pins s σ H (fun v H1=>v=.ref C∧H1=H) I ⟨rfl,rfl⟩) fun u s1 ⟨x,H1,I1,rx,ex,eH⟩=>?_) ht
 subst ex
 subst eH
 obtain rfl:u=Value.ref C:=rx
 refine PySem.W.method_cls I1.sX hm.sp (PySem.W.cls_value I1.sX hm.rd hm.fd rfl ?_)
 refine PySem.W.callWith_K (first:=[]) (h₀:=X.base) I.ok.mod.YU hm.kp (b9 (ha pos pins _ σ _ _ (I1.tok _) h) fun us s2 ⟨vs,H2,I2,r,q2⟩=>⟨I2.sX,?_⟩) ju jX
 exact oh F hr hb hd hx I2 r q2
theorem bQ {pl:Sem Bool}(he:PE X o ta) (hL:∀q∈L,VM X CX m ds q) (hd:Vals gs ds) (hx:Passes CX X E)
  (ht:eval (.Call (.Attribute o m apos) [] [] pos) X.env=(do
   let ov ←eval o X.env
   standAt apos.atName
   let (f,first) ←holding [ov] (getMethod ov m pl)
   callWith pos f first (backTo pos (starEach [] X.env)) (backToKw pos (keywordEach [] X.env))):=by rfl) :
  PE X (.Call (.Attribute o m apos) [] [] pos) (FO L m gs E ta tH):=by
 intro pins s σ H Q I h
 refine PySem.W.methodCall_KW (pl:=pl) (b9 (he pins s σ H _ I h) fun u s1 ⟨x,H1,I1,rx,a,C,dx,fs,ex,ea,l,sp,hC,q⟩=>?_) ht
 subst ex
 obtain rfl:u=Value.ref a:=rx
 obtain⟨f,fd,ps,k,c,hm,F,hr,hb⟩:=hL _ hC
 refine gr I1 ea c hm l ?_
 exact PySem.W.callWith_K0 (first:=[.ref a]) I1.sX hm.kp (oh (us:=[.ref a]) (vs:=[.ref a]) F hr hb hd hx I1 (.cons rfl .nil) q)
end
theorem ak.Dx {K:PySem.W.Frag}{H H':Hp}(k:ak H H') {a:Addr}{xs:List V}(h:dO K H a xs):dO K H' a xs:=by
 rcases h with (h | ⟨o,h⟩) | h
 ·exact .inl (.inl (k _ _ h))
 ·exact .inl (.inr ⟨o,k _ _ h⟩)
 ·exact .inr h
theorem gN {i:Nat}{v:V}{σ:St}{H:Hp}{Q:St→Hp→Prop}(h:Q (σ.set i (some v)) H):j6 i v σ H Q:=h
section
variable {K:PySem.W.Frag}{a D:Addr}{fr:List Nat}{tt:TT}{te:TE}{σ:St}{Q:Hp→Prop}{H:Hp}
noncomputable def qz (D:Addr) (Pv:Nat→List V→Hp→Prop) (n m i:Nat):VK:=fun y H4=>∃ys,H4 D=some (.lst ys)∧ys.length < sizeLine∧∃m',m' < m∧(m'+(i+1)=n∧∃zs,Pv (i+1) zs (upd H4 D (.lst (ys++[y]))))
noncomputable def Cs (Pv:Nat→List V→Hp→Prop) (n m i:Nat) (H3:Hp):Prop:=∃m',m' < m∧(m'+(i+1)=n∧∃zs,Pv (i+1) zs H3)
theorem qz.mk {Pv:Nat→List V→Hp→Prop}{n m i:Nat}{y:V}{H4:Hp}{ys:List V}(hm:m+1+i=n) (h:H4 D=some (.lst ys)) (hz:ys.length≤1000) (p:Pv (i+1) (ys++[y]) (upd H4 D (.lst (ys++[y])))):qz D Pv n (m+1) i y H4:=
 ⟨ys,h,a5 hz,m,by omega,by omega,_,p⟩
theorem Cs.mk {Pv:Nat→List V→Hp→Prop}{n m i:Nat}{H3:Hp}{ys:List V}(hm:m+1+i=n) (p:Pv (i+1) ys H3):Cs Pv n (m+1) i H3:=⟨m,by omega,by omega,_,p⟩
theorem EO (xs:List V) (Pv:Nat→List V→Hp→Prop) (h0:Pv 0 [] H) (hl:∀i ys H,i≤xs.length→Pv i ys H→aF K H a xs)
  (hs:∀i m x ys H,m+1+i=xs.length→xs[i]?=some x→Pv i ys H→tt (aP fr σ (some x)) H fun b H3=>if b=true then te (aP fr σ (some x)) H3 (qz D Pv xs.length (m+1) i)else Cs Pv xs.length (m+1) i H3)
  (hq:∀ys H,Pv xs.length ys H→Q H):g_ (EM K a) fr tt te σ D Q H:=by
 refine⟨fun i m H2=>m+i=xs.length∧∃ys,Pv i ys H2,⟨xs.length,rfl,[],h0⟩,?_⟩
 rintro i m H2 ⟨hm,ys,hp⟩
 have hS:=hl i ys H2 (by omega) hp
 cases m with
 | zero=>
  have e:i=xs.length:=by omega
  subst e
  exact .inl ⟨⟨xs,hS,Nat.le_refl _⟩,hq ys H2 hp⟩
 | succ m=>
  have hi:i < xs.length:=by omega
  refine .inr ⟨⟨xs,xs[i],hS,List.getElem?_eq_getElem hi⟩,fun v H' y=>?_⟩
  obtain⟨rfl,hv⟩:=y
  exact hs i m v ys H' hm (hv xs hS) hp
theorem ZT {lo:Int}{n:Nat}(Pv:Nat→List V→Hp→Prop) (h0:Pv 0 [] H)
  (hs:∀i m ys H,m+1+i=n→i < n→Pv i ys H→tt (aP fr σ (some (.int (lo+i)))) H fun b H3=>if b=true then te (aP fr σ (some (.int (lo+i)))) H3 (qz D Pv n (m+1) i)else Cs Pv n (m+1) i H3)
  (hq:∀ys H,Pv n ys H→Q H):g_ (LI lo n) fr tt te σ D Q H:=by
 refine⟨fun i m H2=>m+i=n∧∃ys,Pv i ys H2,⟨n,rfl,[],h0⟩,?_⟩
 rintro i m H2 ⟨hm,ys,hp⟩
 cases m with
 | zero=>
  have e:i=n:=by omega
  subst e
  exact .inl ⟨Nat.le_refl _,hq ys H2 hp⟩
 | succ m=>
  have hi:i < n:=by omega
  refine .inr ⟨hi,fun v H' y=>?_⟩
  obtain⟨rfl,rfl⟩:=y
  exact hs i m ys H' hm hi hp
theorem hZ {β:Type}(xs:List V) (bs:List β) (g:β→Option V) (hz:xs.length≤1000) (hl:bs.length=xs.length) (hS:∀ys,aF K (upd H D (.lst ys)) a xs)
  (ht:∀(i:Nat) x b ys (R:Bool→Hp→Prop),xs[i]?=some x→bs[i]?=some b→R (g b).isSome (upd H D (.lst ys))→tt (aP fr σ (some x)) (upd H D (.lst ys)) R)
  (he:∀(i:Nat) x b y ys (R:VK),xs[i]?=some x→bs[i]?=some b→g b=some y→R y (upd H D (.lst ys))→te (aP fr σ (some x)) (upd H D (.lst ys)) R)
  (hq:Q (upd H D (.lst (bs.filterMap g)))):g_ (EM K a) fr tt te σ D Q (upd H D (.lst [])):=by
 refine⟨fun i m H2=>m+i=xs.length∧H2=upd H D (.lst ((bs.take i).filterMap g)),⟨xs.length,rfl,rfl⟩,?_⟩
 rintro i m H2 ⟨hm,rfl⟩
 cases m with
 | zero=>
  have e:i=xs.length:=by omega
  subst e
  refine .inl ⟨⟨xs,hS _,Nat.le_refl _⟩,?_⟩
  rw [←hl,List.take_length]
  exact hq
 | succ m=>
  have hi:i < xs.length:=by omega
  have hb:i < bs.length:=by omega
  refine .inr ⟨⟨xs,xs[i],hS _,List.getElem?_eq_getElem hi⟩,fun v H' y=>?_⟩
  obtain⟨rfl,hv⟩:=y
  have hx:=hv xs (hS _)
  have hbi:bs[i]?=some bs[i]:=List.getElem?_eq_getElem hb
  have et:bs.take (i+1)=bs.take i++[bs[i]]:=by rw [List.take_add_one,hbi]; rfl
  have ll:((bs.take i).filterMap g).length≤1000:=by
   have h1:=List.length_filterMap_le g (bs.take i)
   have h2:=List.length_take_le i bs
   omega
  have l2:((bs.take i).filterMap g).length < 1000:=by
   have h1:=List.length_filterMap_le g (bs.take i)
   have h2:=List.length_take_le i bs
   omega
  refine ht i v _ _ _ hx hbi ?_
  cases eg:g bs[i] with
  | none=>
   rw [Option.isSome_none,if_neg Bool.false_ne_true]
   refine⟨m,by omega,by omega,?_⟩
   rw [et,List.filterMap_append]
   simp [eg]
  | some y=>
   rw [Option.isSome_some,if_pos rfl]
   refine he i v _ y _ _ hx hbi eg ⟨_,ae,a5 (by omega),m,by omega,by omega,?_⟩
   rw [jY,et,List.filterMap_append]
   simp [eg]
end
end L2
namespace L2
open PySem PySem.Spec PyProof.Rows
inductive TyS (K:PySem.W.Frag) (H:Hp):V→Value→Prop where
 | ty {x:V}{t:Value}(h:mN K H x t):TyS K H x t
 | lst {a:Addr}{xs:List V}(h:aF K H a xs):TyS K H (.ref a) (.type "list")
 | tup {a:Addr}{xs:List V}(h:dO K H a xs):TyS K H (.ref a) (.type "tuple")
end L2
namespace L2
open PySem PySem.Spec PyProof.Rows
section
variable {κ:Type} [DecidableEq κ]
noncomputable def dZ (kvs:List (κ×V)) (k:κ):Option V:=(kvs.find? fun kv=>decide (kv.1=k)).map (·.2)
noncomputable def putK (kvs:List (κ×V)) (k:κ) (v:V):List (κ×V):=
 if (kvs.any fun kv=>decide (kv.1=k))=true then kvs.map (fun kv=>if kv.1=k then(kv.1,v)else kv)else kvs++[(k,v)]
noncomputable def kg (kvs:List (κ×V)) (k:κ):List (κ×V):=kvs.filter fun kv=>decide (kv.1≠k)
theorem ow {p:κ×V}{r:List (κ×V)}{k:κ}(e:p.1=k):dZ (p::r) k=some p.2:=by simp [dZ,List.find?_cons,e]
theorem oy {p:κ×V}{r:List (κ×V)}{k:κ}(e:¬p.1=k):dZ (p::r) k=dZ r k:=by simp [dZ,List.find?_cons,e]
theorem f9 (k:κ):∀kvs:List (κ×V),(kvs.any fun kv=>decide (kv.1=k))=(dZ kvs k).isSome
 | []=>rfl
 | p::r=>by
  rw [List.any_cons]
  by_cases e:p.1=k
  ·simp only [ow e,decide_eq_true e,Bool.true_or,Option.isSome_some]
  ·rw [oy e,decide_eq_false e,Bool.false_or]; exact f9 k r
theorem ml (kvs:List (κ×V)) (k:κ) (v:V):(putK kvs k v).length≤kvs.length+1:=by
 unfold putK
 split
 ·rw [List.length_map]; omega
 ·rw [List.length_append,List.length_cons,List.length_nil]; omega
theorem wa {kvs:List (κ×V)}{k:κ}(v:V) (h:dZ kvs k=none):putK kvs k v=kvs++[(k,v)]:=by
 unfold putK
 rw [f9,h]
 exact if_neg (by decide)
theorem jr.iQ {o:Option V}{u:Option Value}(r:jr o u):o.isSome=u.isSome:=by
 cases o with
 | none=>cases u with
  | none=>rfl
  | some _=>exact(show False from r).elim
 | some _=>cases u with
  | none=>exact(show False from r).elim
  | some _=>rfl
theorem KV.val {kvs:List (κ×V)}{vs:List (κ×Value)}(r:KV kvs vs) (k:κ):jr (dZ kvs k) (valueAt vs k):=by
 unfold KV at r
 induction r with
 | nil=>exact True.intro
 | @cons p q ps qs h t ih=>
  obtain⟨h1,h2⟩:=h
  by_cases e:p.1=k
  ·have e':q.1=k:=h1.symm.trans e
   have b:valueAt (q::qs) k=some q.2:=by simp [valueAt,List.find?_cons,e']
   rw [ow e,b]; exact h2
  ·have e':¬q.1=k:=fun z=>e (h1.trans z)
   have b:valueAt (q::qs) k=valueAt qs k:=by simp [valueAt,List.find?_cons,e']
   rw [oy e,b]; exact ih
theorem KV.any {kvs:List (κ×V)}{vs:List (κ×Value)}(r:KV kvs vs) (k:κ):(kvs.any fun kv=>decide (kv.1=k))=vs.any fun kv=>decide (kv.1=k):=by
 unfold KV at r
 induction r with
 | nil=>rfl
 | cons h t ih=>rw [List.any_cons,List.any_cons,ih,h.1]
theorem KV.fz {kvs:List (κ×V)}{vs:List (κ×Value)}(r:KV kvs vs) (k:κ) {y:V}{u:Value}(ry:RelV y u) :
  KV (kvs.map fun kv=>if kv.1=k then(kv.1,y)else kv) (vs.map fun kv=>if kv.1=k then(kv.1,u)else kv):=by
 unfold KV at r ⊢
 induction r with
 | nil=>exact .nil
 | @cons p q ps qs h t ih=>
  rw [List.map_cons,List.map_cons]
  refine .cons ?_ ih
  obtain⟨h1,h2⟩:=h
  by_cases e:p.1=k
  ·rw [if_pos e,if_pos (h1.symm.trans e)]; exact⟨h1,ry⟩
  ·rw [if_neg e,if_neg (fun z=>e (h1.trans z))]; exact⟨h1,h2⟩
theorem KV.put {kvs:List (κ×V)}{vs:List (κ×Value)}(r:KV kvs vs) (k:κ) {y:V}{u:Value}(ry:RelV y u):KV (putK kvs k y) (stored vs k u):=by
 unfold putK stored
 rw [r.any k]
 by_cases e:(vs.any fun kv=>decide (kv.1=k))=true
 ·rw [if_pos e,if_pos e]; exact r.fz k ry
 ·rw [if_neg e,if_neg e]; exact Paired.snoc r ⟨rfl,ry⟩
theorem KV.drop {kvs:List (κ×V)}{vs:List (κ×Value)}(r:KV kvs vs) (k:κ):KV (kg kvs k) (without vs k):=by
 unfold KV at r ⊢
 unfold kg without
 induction r with
 | nil=>exact .nil
 | @cons p q ps qs h t ih=>
  obtain⟨h1,h2⟩:=h
  rw [List.filter_cons,List.filter_cons]
  by_cases e:p.1=k
  ·have a:¬decide (p.1≠k)=true:=by simp [e]
   have b:¬decide (q.1≠k)=true:=by simp [h1.symm.trans e]
   rw [if_neg a,if_neg b]; exact ih
  ·have e':¬q.1=k:=fun z=>e (h1.trans z)
   have a:decide (p.1≠k)=true:=by simp [e]
   have b:decide (q.1≠k)=true:=by simp [e']
   rw [if_pos a,if_pos b]; exact .cons ⟨h1,h2⟩ ih
theorem KV.length {kvs:List (κ×V)}{vs:List (κ×Value)}(r:KV kvs vs):kvs.length=vs.length:=Paired.length r
theorem wb (kvs:List (κ×V)) (k:κ):(kg kvs k).length≤kvs.length:=List.length_filter_le _ _
end
theorem wc {P:Program}{w:World}{k:Key}{u:Value}(r:RelV (kV k) u):(cj P w).is k u=true:=by
 cases k with
 | inl i=>obtain⟨t,e⟩:=(show ∃t,u=Value.int i t from r); subst e; exact vF P w i t
 | inr x=>obtain⟨t,e⟩:=(show ∃t,u=Value.str x t from r); subst e; exact vG P w x t
theorem rH {P:Program}{w:World}:∀{ks:List Key}{us:List Value},Vals (ks.map kV) us→ItemsAre (cj P w) ks us
 | [],_,r=>by rw [List.map_nil] at r; cases r; exact .nil
 | k::ks,_,r=>by
  rw [List.map_cons] at r
  cases r with
  | cons h t=>exact .cons (wc h) (rH t)
noncomputable abbrev KT (H:Hp):List (List Key×V)→List (List Key×Addr×Value)→Prop:=Paired fun p q=>p.1=q.1∧H q.2.1=some (.tup (p.1.map kV))∧RelV p.2 q.2.2
theorem KT.val {H:Hp}{kvs:List (List Key×V)}{xs:List (List Key×Addr×Value)}(r:KT H kvs xs) (k:List Key):jr (dZ kvs k) ((atKey xs k).map (·.2)):=by
 induction r with
 | nil=>exact True.intro
 | @cons p q ps qs h t ih=>
  obtain⟨h1,_,h2⟩:=h
  by_cases e:p.1=k
  ·have e':q.1=k:=h1.symm.trans e
   have b:atKey (q::qs) k=some q.2:=by simp [atKey,List.find?_cons,e']
   rw [ow e,b]; exact h2
  ·have e':¬q.1=k:=fun z=>e (h1.trans z)
   have b:atKey (q::qs) k=atKey qs k:=by simp [atKey,List.find?_cons,e']
   rw [oy e,b]; exact ih
theorem KT.fz {H:Hp}{kvs:List (List Key×V)}{xs:List (List Key×Addr×Value)}(r:KT H kvs xs) (k:List Key) {y:V}{u:Value}(ry:RelV y u) :
  KT H (kvs.map fun kv=>if kv.1=k then(kv.1,y)else kv) (xs.map (putAt k u)):=by
 induction r with
 | nil=>exact .nil
 | @cons p q ps qs h t ih=>
  rw [List.map_cons,List.map_cons]
  refine .cons ?_ ih
  obtain⟨h1,h2,h3⟩:=h
  unfold putAt
  by_cases e:p.1=k
  ·rw [if_pos e,if_pos (h1.symm.trans e)]; exact⟨h1,h2,ry⟩
  ·rw [if_neg e,if_neg (fun z=>e (h1.trans z))]; exact⟨h1,h2,h3⟩
theorem KT.put {H:Hp}{kvs:List (List Key×V)}{xs:List (List Key×Addr×Value)}(r:KT H kvs xs) (k:List Key) {b:Addr}{y:V}{u:Value}(hb:H b=some (.tup (k.map kV))) (ry:RelV y u) :
  KT H (putK kvs k y) (storedH xs k b u):=by
 have e:(kvs.any fun kv=>decide (kv.1=k))=(atKey xs k).isSome:=by
  rw [f9,(r.val k).iQ,Option.isSome_map]
 unfold putK storedH
 rw [e]
 by_cases q:(atKey xs k).isSome=true
 ·rw [if_pos q,if_pos q]; exact r.fz k ry
 ·rw [if_neg q,if_neg q]; exact Paired.snoc r ⟨rfl,hb,ry⟩
theorem KT.keeps {H H':Hp}{kvs:List (List Key×V)}{xs:List (List Key×Addr×Value)}(r:KT H kvs xs) (ht:∀b ys,H b=some (.tup ys)→H' b=some (.tup ys)):KT H' kvs xs:=
 Paired.Tp r fun _ _ z=>⟨z.1,ht _ _ z.2.1,z.2.2⟩
section
variable {P:Program}{w:World}{H:Hp}{h:Heap}{a:Addr}
theorem PR {u:HO}(ok:jt P w H h) (e:Rd H a u):cw P w H h a u:=e.ok ok
theorem rJ {kvs:List (Key×V)}(ok:jt P w H h) (e:Rd H a (.dK kvs)):kvs.length≤sizeLine∧(a == sysModules)=false∧∃vs,KV kvs vs∧h.DictOf (cj P w) a vs:=
 show cw P w H h a (.dK kvs) from PR ok e
theorem FP {kvs:List (Key×V)}(ok:jt P w H h) (e:H a=some (.dK kvs)):kvs.length≤sizeLine∧(a == sysModules)=false∧∃vs,KV kvs vs∧h.DictOf (cj P w) a vs:=rJ ok (.inl e)
theorem Az {ks:List Key}(ok:jt P w H h) (e:H a=some (.tup (ks.map kV))):(tupleKind (cj P w)).is h ks a:=by
 obtain⟨_,aO,r,o,h1,h2,n,h3⟩:=(show cw P w H h a (.tup (ks.map kV)) from ok a _ e)
 exact⟨o,aO.toArray,n,h1,h2,h3,by simpa using rH r⟩
theorem FQ {kvs:List (List Key×V)}(ok:jt P w H h) (e:Rd H a (.dT kvs)):kvs.length≤sizeLine∧(a == sysModules)=false ∧
  ∃xs,KT H kvs xs∧h.DictOfH (tupleKind (cj P w)) a xs:=by
 obtain⟨z,y,xs,r,o,es,ep,h1,h2,h3,h4,h5⟩:=(show cw P w H h a (.dT kvs) from PR ok e)
 refine⟨z,y,xs,r,o,es,ep,h1,h2,h3,h4,fun x hx=>?_,h5⟩
 have all:∀{l:List (List Key×V)}{m:List (List Key×Addr×Value)},KT H l m→∀x∈m,(tupleKind (cj P w)).is h x.1 x.2.1:=by
  intro l m q
  induction q with
  | nil=>intro x hx; exact nomatch hx
  | @cons p q ps qs hq t ih=>
   intro x hx
   rcases List.mem_cons.mp hx with e | hx
   ·subst e
    exact Az ok (by rw [←hq.1]; exact hq.2.1)
   ·exact ih x hx
 exact all r x hx
theorem ZU {kvs:List (List Key×V)}(ok:jt P w H h) (e:H a=some (.dT kvs)):kvs.length≤sizeLine∧(a == sysModules)=false ∧
  ∃xs,KT H kvs xs∧h.DictOfH (tupleKind (cj P w)) a xs:=FQ ok (.inl e)
end
noncomputable def tP (H:Hp) (a:Addr) (y:V) (r:Option V):Prop:=
 (∃kvs k,Rd H a (.dK kvs)∧y=kV k∧r=dZ kvs k)∨∃kvs k b,Rd H a (.dT kvs)∧y=.ref b∧H b=some (.tup (k.map kV))∧r=dZ kvs k
noncomputable def Dy (H:Hp) (a:Addr) (y v:V) (H':Hp):Prop:=
 (∃kvs k,H a=some (.dK kvs)∧y=kV k∧kvs.length < sizeLine∧H'=upd H a (.dK (putK kvs k v))) ∨
 ∃kvs k b,H a=some (.dT kvs)∧y=.ref b∧H b=some (.tup (k.map kV))∧kvs.length < sizeLine∧H'=upd H a (.dT (putK kvs k v))
theorem tP.k {H:Hp}{a:Addr}{kvs:List (Key×V)}{k:Key}(e:H a=some (.dK kvs)):tP H a (kV k) (dZ kvs k):=.inl ⟨kvs,k,.inl e,rfl,rfl⟩
theorem Dy.k {H:Hp}{a:Addr}{kvs:List (Key×V)}{k:Key}{v:V}(e:H a=some (.dK kvs)) (hl:kvs.length < sizeLine):Dy H a (kV k) v (upd H a (.dK (putK kvs k v))):=.inl ⟨kvs,k,e,rfl,hl,rfl⟩
section
variable {X:Cx}{pins:List (Addr×Obj)}{σ:St}{H:Hp}{s:Shared}{a:Addr}{y v:V}{u r:Value}{o:Option V}{A:Around}{E:Value→Shared→Prop}
theorem Inv.big (I:Inv X pins σ H s):sysModules < s.heap.objs.size:=by
 have h:mainGlobals < s.heap.objs.size:=(I.mod.glob.keeps I.bk).lt
 exact Nat.lt_trans (by decide) h
theorem afv {Q:Value→Shared→Prop}(hu:A.units+1 < cLine) (I:Inv X pins σ H s) (g:tP H a y o) (ry:RelV y u) (h:∀s',Inv X pins σ H s'→Q (.bool o.isSome) s') :
  wpAny (model X.prog X.w) A (compareOp .In u (.ref a)) Q E s:=by
 rcases g with ⟨kvs,k,e,ey,l⟩ | ⟨kvs,k,b,e,ey,eb,l⟩
 ·subst ey
  obtain⟨z,hd,vs,rel,dd⟩:=rJ I.bS e
  refine wpAny_in_of (wc ry) hd dd.mapOf ?_
  rw [←(rel.val k).iQ,←l]
  exact h _ (I.tok _)
 ·subst ey
  cases (show u=Value.ref b from ry)
  obtain⟨z,hd,xs,rel,dd⟩:=FQ I.bS e
  refine wpAny_in_heap (tupleKind_room_in1 hu) (Az I.bS eb) hd dd ?_
  have q:=(rel.val k).iQ
  rw [Option.isSome_map] at q
  rw [←q,←l]
  exact h _ (I.tok _)
theorem nR {h':Heap}{t':Nat}{ob:HO}(I:Inv X pins σ H s) (mu:Zk (H a)) (hs:Heap.SameBut a s.heap h') (he:∃q,h'.get? a=some q) (new:cw X.prog X.w (upd H a ob) h' a ob) :
  Inv X pins σ (upd H a ob) {s with heap:=h',toks:=t'}:=
 I.write (x:=a) (e:=a) mu (.inl rfl) (fun b q hb z=>(hs.2 b hb).trans z) he new
theorem AA {P:Program}{w:World}{H':Hp}{h':Heap}{kvs:List (Key×V)}{vs:List (Key×Value)}(z:kvs.length≤sizeLine) (hd:(a == sysModules)=false) (rel:KV kvs vs) (dd:h'.DictOf (cj P w) a vs) :
  cw P w H' h' a (.dK kvs):=⟨z,hd,vs,rel,dd⟩
theorem Dz {H':Hp}{Q:Unit→Shared→Prop}(hu:A.units+1 < cLine) (I:Inv X pins σ H s) (g:Dy H a y v H') (ry:RelV y u) (rv:RelV v r) (h:∀s',Inv X pins σ H' s'→Q () s') :
  wpAny (model X.prog X.w) A (setItem (.ref a) u r) Q E s:=by
 rcases g with ⟨kvs,k,e,ey,l,eH⟩ | ⟨kvs,k,b,e,ey,eb,l,eH⟩
 ·subst ey eH
  obtain⟨z,hd,vs,rel,dd⟩:=FP I.bS e
  have hz:vs.length≤sizeLine:=by rw [←rel.length]; exact z
  have hl:(putK kvs k v).length≤sizeLine:=by have:=ml kvs k v; omega
  refine wpAny_setItem_pairs (hsz:=hz) (wc ry) dd fun h' Lj hs=>h _ ?_
  have he:∃q,h'.get? a=some q:=let ⟨q,_,_,hq,_⟩:=Lj; ⟨q,hq⟩
  exact nR I (by rw [e]; exact True.intro) hs he (AA hl hd (rel.put k rv) Lj)
 ·subst ey eH
  cases (show u=Value.ref b from ry)
  obtain⟨z,hd,xs,rel,dd⟩:=ZU I.bS e
  have hz:xs.length≤sizeLine:=by rw [←Paired.length rel]; exact z
  have hl:(putK kvs k v).length≤sizeLine:=by have:=ml kvs k v; omega
  refine wpAny_setItem_heap (hsz:=hz) (tupleKind_room_in1 hu) (Az I.bS eb) dd fun h' Lj hs=>h _ ?_
  obtain⟨q,es,ep,hq,h2,h3,h4,_,h5⟩:=Lj
  refine nR I (by rw [e]; exact True.intro) hs ⟨q,hq⟩ ⟨hl,hd,_,(rel.put k eb rv).keeps fun c ys ec=>?_,q,es,ep,hq,h2,h3,h4,h5⟩
  rw [ai (cu ec e (fun z=>nomatch z))]
  exact ec
end
section
variable {X:Cx}{pins:List (Addr×Obj)}{σ:St}{H:Hp}{s:Shared}{a:Addr}{kvs:List (Key×V)}{k:Key}{u:Value}{A:Around}{E:Value→Shared→Prop}
theorem Y2 {Q:Unit→Shared→Prop}(I:Inv X pins σ H s) (e:H a=some (.dK kvs)) (ry:RelV (kV k) u) (l:(dZ kvs k).isSome=true) (h:∀s',Inv X pins σ (upd H a (.dK (kg kvs k))) s'→Q () s') :
  wpAny (model X.prog X.w) A (delItem (.ref a) u) Q E s:=by
 obtain⟨z,hd,vs,rel,dd⟩:=FP I.bS e
 refine wpAny_delItem_slot dd.typeIs (by decide) PySem.F.slot_dict_delitem
  (call_meetsIn PySem.F.slot_dict_delitem dd.typeIs PySem.F.entry_dict_delitem (PySem.F.args_dict_delitem_2 _ _) (meets_dict_delitem_pairs (cj X.prog X.w) a (wc ry)) ⟨vs,dd,by rw [←rel.length]; exact z,by rw [←(rel.val k).iQ]; exact l,fun h' Lj hs=>h _ ?_⟩)
 have he:∃q,h'.get? a=some q:=let ⟨q,_,_,hq,_⟩:=Lj; ⟨q,hq⟩
 exact nR I (by rw [e]; exact True.intro) hs he (AA (Nat.le_trans (wb kvs k) z) hd (rel.drop k) Lj)
theorem ZV {v:V}{more:List Value}{Q:Value→Shared→Prop}(I:Inv X pins σ H s) (e:H a=some (.dK kvs)) (ry:RelV (kV k) u) (l:dZ kvs k=some v) (hm:more=[]∨∃x,more=[x])
  (h:∀w' s',Inv X pins σ (upd H a (.dK (kg kvs k))) s'→RelV v w'→Q w' s'):wpAny (model X.prog X.w) A (call (.builtin "dict.pop") (.ref a::u::more)) Q E s:=by
 obtain⟨z,hd,vs,rel,dd⟩:=FP I.bS e
 obtain⟨w',hw,T3⟩:=jr.some_of (v:=v) (o:=valueAt vs k) (by rw [←l]; exact rel.val k)
 have hp:(keyPart u).isSome=true:=by
  cases k with
  | inl i=>obtain⟨t,q⟩:=(show ∃t,u=Value.int i t from ry); subst q; rfl
  | inr x=>obtain⟨t,q⟩:=(show ∃t,u=Value.str x t from ry); subst q; rfl
 have ha:argsOk "dict.pop" ⟨.ref a::u::more,[]⟩:=by
  rcases hm with q | ⟨x,q⟩
  ·subst q; exact PySem.F.args_dict_pop_2 _ _
  ·subst q; exact PySem.F.args_dict_pop_3 _ _ _
 refine call_meetsIn PySem.F.slot_dict_pop dd.typeIs PySem.F.entry_dict_pop ha (meets_dict_pop_there (cj X.prog X.w) a (wc ry) more hm hp)
  ⟨vs,w',dd,by rw [←rel.length]; exact z,hw,fun h' Lj hs=>h w' _ ?_ T3⟩
 have he:∃q,h'.get? a=some q:=let ⟨q,_,_,hq,_⟩:=Lj; ⟨q,hq⟩
 exact nR I (by rw [e]; exact True.intro) hs he (AA (Nat.le_trans (wb kvs k) z) hd (rel.drop k) Lj)
theorem ZW {Q:Value→Shared→Prop}(I:Inv X pins σ H s) (e:Rd H a (.dK kvs)) (h:∀t s',Inv X pins σ H s'→Q (.int kvs.length t) s'):wpAny (model X.prog X.w) A (call (.builtin "len") [.ref a]) Q E s:=by
 obtain⟨z,hd,vs,rel,dd⟩:=rJ I.bS e
 refine call_len_dict hd dd (by rw [←rel.length]; rw [sizeLine_eq] at z; omega) ?_
 rw [←rel.length]
 exact h _ _ (I.tok _)
end
noncomputable def ZX (td ty:TE):TE:=fun σ H Q=>td σ H fun x H1=>ty σ H1 fun y H2=>∃a v,x=.ref a∧tP H2 a y (some v)∧Q v H2
noncomputable def ZY (ty td:TE):TE:=fun σ H Q=>ty σ H fun y H1=>td σ H1 fun x H2=>∃a o,x=.ref a∧tP H2 a y o∧Q (.bl o.isSome) H2
noncomputable def Mw (ty td:TE):TE:=fun σ H Q=>ty σ H fun y H1=>td σ H1 fun x H2=>∃a o,x=.ref a∧tP H2 a y o∧Q (.bl (!o.isSome)) H2
noncomputable def PU (td ty tv:TE):TS:=fun D σ H=>tv σ H fun v H1=>td σ H1 fun x H2=>ty σ H2 fun y H3=>∃a H4,x=.ref a∧Dy H3 a y v H4∧D.nx σ H4
section
variable {X:Cx}{o i e value:Expr}{pos pos' TU:Pos}{td ty tv:TE}
theorem Uo (hu:X.A.units+1 < cLine) (hi:PE X i ty) (ho:PE X o td):PC X .In i o (ZY ty td):=by
 intro pins s σ H Q I h
 refine b9 (hi pins s σ H _ I h) fun iv s1 ⟨y,H1,I1,ry,q1⟩=>b9 (ho pins s1 σ H1 _ I1 q1) fun u s2 ⟨x,H2,I2,rx,a,ov,ex,g,q2⟩=>?_
 subst ex
 obtain rfl:u=Value.ref a:=rx
 exact afv hu I2 g ry fun s3 I3=>⟨.bl ov.isSome,H2,I3,rfl,q2⟩
theorem Ct (hu:X.A.units+1 < cLine) (ho:PE X o td) (hi:PE X i ty) (hv:PE X value tv) (hs:swapsWith value (some (.Subscript o i pos')) pos.line X.env=pure false) :
  PS X (.Assign [.Subscript o i pos'] value pos) (PU td ty tv):=by
 intro pins s σ H D I h
 refine wpAny_Assign_Subscript (b9 (hv pins s σ H _ I h) fun r s1 ⟨v,H1,I1,rv,q1⟩=>b9 (ho pins s1 σ H1 _ I1 q1) fun u s2 ⟨x,H2,I2,rx,q2⟩=>b9 (hi pins s2 σ H2 _ I2 q2) fun iv s3 ⟨y,H3,I3,ry,a,H4,ex,g,q3⟩=>?_) hs
 subst ex
 obtain rfl:u=Value.ref a:=rx
 exact Dz hu I3 g ry rv fun s4 I4=>⟨σ,H4,I4,q3⟩
end
theorem FR {P:Program}{w:World}{H:Hp}(h:Heap) (hb:sysModules < h.objs.size):cw P w H (h.push {cls:=.type "dict",data:=.dict #[]}) h.objs.size (.dK []):=
 ⟨Nat.zero_le _,beq_eq_false_iff_ne.mpr (Ne.symm (Nat.ne_of_lt hb)),[],.nil,Heap.DictOf.new h⟩
noncomputable def FT:TE:=fun _ H Q=>∀p,H p=none→Q (.ref p) (upd H p (.dK []))
section
variable {X:Cx}{pos:Pos}
theorem we:PE X (.Dict [] [] pos) FT:=fun pins s σ H Q I h=>
 wpAny_Dict_empty ⟨.ref s.heap.objs.size,_,I.laid (a:=s.heap.objs.size) (o:=.dK []) (t':=s.toks) (fun _ _ q=>Heap.get?_push_of_some _ q) (Nat.le_refl _) (FR s.heap I.big),rfl,h _ (I.bS.fresh (Nat.le_refl _))⟩
end
noncomputable def AB:List (TE×TE)→St→Hp→(List (V×V)→Hp→Prop)→Prop
 | [],_,H,Q=>Q [] H
 | (tk,tv)::r,σ,H,Q=>tk σ H fun x H1=>tv σ H1 fun y H2=>AB r σ H2 fun ps H3=>Q ((x,y)::ps) H3
noncomputable def Up (kvs more:List (Key×V)):List (Key×V):=more.foldl (fun acc kv=>putK acc kv.1 kv.2) kvs
noncomputable def ZZ (trs:List (TE×TE)):TE:=fun σ H Q=>∀p,H p=none→AB trs σ (upd H p (.dK [])) fun ps H2=>H2 p=some (.dK [])∧∃kvs:List (Key×V),ps=kvs.map (fun kv=>(kV kv.1,kv.2))∧kvs.length≤15∧Q (.ref p) (upd H2 p (.dK (Up [] kvs)))
structure M1 (X:Cx) (o:Expr) (m:Str) (apos:Pos) (e:Expr) (fw:Pos):Prop where
 base:attributeBase o m X.env (eval o X.env)=eval o X.env
 DA:((backTo fw (starEach [e] X.env)).all (fun x=>!x.1)&&(backToKw fw (keywordEach [] X.env)).all (fun x=>x.1.isSome)
  && decide (([e]:List Expr).length+([]:List Keyword).length+(if ([]:List Keyword).isEmpty then 0 else 1) < 30))=true
 line:(apos.endLine == fw.line)=true
 trees:backTo fw (starEach [e] X.env)=[(false,eval e X.env)]
structure M2 (X:Cx) (o:Expr) (m:Str) (apos:Pos) (e f:Expr) (fw:Pos):Prop where
 base:attributeBase o m X.env (eval o X.env)=eval o X.env
 DA:((backTo fw (starEach [e,f] X.env)).all (fun x=>!x.1)&&(backToKw fw (keywordEach [] X.env)).all (fun x=>x.1.isSome)
  && decide (([e,f]:List Expr).length+([]:List Keyword).length+(if ([]:List Keyword).isEmpty then 0 else 1) < 30))=true
 line:(apos.endLine == fw.line)=true
 trees:backTo fw (starEach [e,f] X.env)=[(false,eval e X.env),(false,eval f X.env)]
noncomputable def wg (H:Hp) (a:Addr):Prop:=(∃kvs,Rd H a (.dK kvs))∨∃kvs,Rd H a (.dT kvs)
theorem Uq {X:Cx}{pins:List (Addr×Obj)}{σ:St}{H:Hp}{s:Shared}{a:Addr}(I:Inv X pins σ H s) (d:wg H a) :
  s.TypeIs (.ref a) "dict"∧(∀b,Value.ref a=.ref b→∃ob,s.heap.get? b=some ob∧ob.dict=none)∧(a == sysModules)=false:=by
 rcases d with ⟨kvs,e⟩ | ⟨kvs,e⟩
 ·obtain⟨_,hd,vs,_,dd⟩:=rJ I.bS e
  refine⟨dd.typeIs,fun b q=>?_,hd⟩
  cases q
  obtain⟨ob,_,_,h1,h2,_⟩:=dd
  exact⟨ob,h1,h2.2.1⟩
 ·obtain⟨_,hd,xs,_,dd⟩:=FQ I.bS e
  refine⟨dd.typeIs,fun b q=>?_,hd⟩
  cases q
  obtain⟨ob,_,_,h1,h2,_⟩:=dd
  exact⟨ob,h1,h2.2.1⟩
section
variable {X:Cx}{pins:List (Addr×Obj)}{σ:St}{H:Hp}{s:Shared}{a:Addr}{y d:V}{u r:Value}{o:Option V}{A:Around}{E:Value→Shared→Prop}
end
noncomputable def Ur (td ty:TE):TE:=fun σ H Q=>td σ H fun x H1=>∃a,x=.ref a∧wg H1 a∧ty σ H1 fun y H2=>∃o,tP H2 a y o∧Q (o.getD .bf) H2
noncomputable def Us (td ty tx:TE):TE:=fun σ H Q=>td σ H fun x H1=>∃a,x=.ref a∧wg H1 a∧ty σ H1 fun y H2=>tx σ H2 fun z H3=>∃o,tP H3 a y o∧Q (o.getD z) H3
noncomputable def FU (td ty:TE):TE:=fun σ H Q=>td σ H fun x H1=>∃a,x=.ref a∧wg H1 a∧ty σ H1 fun y H2=>∃kvs k v,H2 a=some (.dK kvs)∧y=kV k∧dZ kvs k=some v∧Q v (upd H2 a (.dK (kg kvs k)))
noncomputable def Ut (td ty tx:TE):TE:=fun σ H Q=>td σ H fun x H1=>∃a,x=.ref a∧wg H1 a∧ty σ H1 fun y H2=>tx σ H2 fun z H3=>∃kvs k,H3 a=some (.dK kvs)∧y=kV k ∧
 (∀v,dZ kvs k=some v→Q v (upd H3 a (.dK (kg kvs k))))∧(dZ kvs k=none→Q z H3)
section
variable {X:Cx}{o e f:Expr}{apos fw:Pos}{td ty tx:TE}
theorem FV (ho:PE X o td) (he:PE X e ty) (m:M1 X o "pop" apos e fw):PE X (.Call (.Attribute o "pop" apos) [e] [] fw) (FU td ty):=by
 intro pins s σ H Q I h
 refine wpAny_Call_method m.base m.DA m.line PySem.F.plainAttrs_dict PySem.F.slot_dict_pop PySem.F.type_dict_pop (b9 (ho pins s σ H _ I h) fun u s1 ⟨x,H1,I1,rx,a,ex,d,q1⟩=>?_)
 subst ex
 obtain rfl:u=Value.ref a:=rx
 obtain⟨t1,t2,_⟩:=Uq I1 d
 refine⟨t1,t2,?_⟩
 rw [m.trees]
 refine Calls.callWith_builtin rfl (Calls.evalArgs_plain (Calls.spliced_cons (b9 (he pins s1 σ H1 _ I1 q1) fun iv s2 ⟨y,H2,I2,ry,kvs,k,v,ea,ey,l,q2⟩=>Calls.spliced_nil ?_)))
 subst ey
 exact ZV I2 ea ry l (.inl rfl) fun w' s3 I3 T3=>⟨v,_,I3,T3,q2⟩
end
section
variable {X:Cx}{pins:List (Addr×Obj)}{σ:St}{H:Hp}{s:Shared}{a:Addr}{kvs:List (Key×V)}{A:Around}{E:Value→Shared→Prop}
end
section
variable {X:Cx}{pins:List (Addr×Obj)}{σ:St}{H:Hp}{s:Shared}{a:Addr}{y:V}{u:Value}{A:Around}{E:Value→Shared→Prop}
end
end L2
namespace L2
open PySem PySem.Spec PyProof.Rows
section
variable {X:Cx}
theorem DB:gO X (.builtin "len") (fun xs H Q=>∃a kvs,xs=[V.ref a]∧H a=some (.dK kvs)∧Q (.int kvs.length) H):=by
 intro pins s σ H xs us Q I r h
 obtain⟨a,kvs,rfl,ha,q⟩:=h
 obtain⟨u,rfl,ru⟩:=vals1 r
 cases ru
 exact ZW I (.inl ha) fun t s' I'=>⟨.int kvs.length,H,I',⟨t,rfl⟩,q⟩
end
section
variable {κ:Type} [DecidableEq κ]
theorem Mx {kvs:List (κ×V)}{k:κ}{v:V}(h:dZ kvs k=some v):k∈kvs.map (·.1):=by
 have q:(kvs.any fun kv=>decide (kv.1=k))=true:=by
  rw [f9,h]
  all_goals rfl
 obtain⟨p,hp,e⟩:=List.any_eq_true.mp q
 exact List.mem_map.mpr ⟨p,hp,of_decide_eq_true e⟩
theorem nU:∀{l:List κ}{k:κ},l.Nodup→¬k∈l→(l++[k]).Nodup
 | [],k,_,_=>by simp
 | a::r,k,h,hk=>by
  obtain⟨h1,h2⟩:=List.nodup_cons.mp h
  show(a::(r++[k])).Nodup
  refine List.nodup_cons.mpr ⟨fun m=>?_,nU h2 fun m=>hk (List.mem_cons.mpr (Or.inr m))⟩
  rcases List.mem_append.mp m with q | q
  ·exact h1 q
  ·exact hk (List.mem_cons.mpr (Or.inl (List.mem_singleton.mp q).symm))
end
end L2
namespace L2
open PySem PySem.Spec PyProof.Rows
theorem f_:bootBuiltins "sorted"=some (.builtin "sorted"):=by decide +kernel
theorem Uu:bootBuiltins "any"=some (.builtin "any"):=by decide +kernel
theorem wj:∀{xs:List V}{us:List Value},xs.length=us.length→(∀(i:Nat) x u,xs[i]?=some x→us[i]?=some u→RelV x u)→Vals xs us
 | [],[],_,_=>.nil
 | [],_::_,h,_=>by simp at h
 | _::_,[],h,_=>by simp at h
 | x::xs,u::us,h,k=>.cons (k 0 x u rfl rfl) (wj (by simpa using h) fun i y v a b=>k (i+1) y v (by simpa using a) (by simpa using b))
theorem My {k:Key}{v:Value}(h:n9 k v=true):RelV (kV k) v:=by
 rcases bY h with ⟨i,t,rfl,rfl⟩ | ⟨x,t,rfl,rfl⟩ <;> exact⟨t,rfl⟩
theorem KV.get:∀{kvs:List (Key×V)}{vs:List (Key×Value)}{i:Nat}{p:Key×V}{q:Key×Value},KV kvs vs→kvs[i]?=some p→vs[i]?=some q→p.1=q.1
 | _,_,_,_,_,.nil,h,_=>by simp at h
 | _,_,0,_,_,.cons r _,h,h'=>by
  simp at h h'
  subst h h'
  exact r.1
 | _,_,i+1,_,_,.cons _ t,h,h'=>KV.get (i:=i) t (by simpa using h) (by simpa using h')
noncomputable def gb (kvs:List (Key×V)):List V:=kvs.map fun kv=>kV kv.1
theorem rK {P:Program}{w:World}{kvs:List (Key×V)}{vs:List (Key×Value)}{us:List Value}(rel:KV kvs vs) (hl:us.length=vs.length) (h:∀(j:Nat) v,us[j]?=some v→∃k x,vs[j]?=some (k,x)∧(cj P w).is k v=true):Vals (gb kvs) us:=by
 refine wj (by rw [gb,List.length_map,rel.length,hl]) fun i x u hx hu=>?_
 obtain⟨k,z,h1,h2⟩:=h i u hu
 rw [gb,List.getElem?_map] at hx
 cases e:kvs[i]? with
 | none=>rw [e] at hx; cases hx
 | some p=>
  rw [e] at hx
  cases hx
  have:=rel.get e h1
  dsimp only at this ⊢
  rw [this]
  exact My h2
section
variable {X:Cx}
theorem AD (hc:X.calm=true):gO X (.type "list") (fun xs H Q=>∃p kvs,xs=[.ref p]∧Rd H p (.dK kvs)∧∀l,H l=none→Q (.ref l) (upd H l (.lst (gb kvs)))):=by
 intro pins s σ H xs us Q I r h
 obtain⟨p,kvs,rfl,hq,q⟩:=h
 obtain⟨u,rfl,rx⟩:=vals1 r
 cases rx
 obtain⟨z,hd,vs,rel,dd⟩:=rJ I.bS hq
 obtain⟨ep,dat⟩:=dd.dictAt
 refine PySem.W.kdl_call (PySem.W.kdl_dict hd) (I.ok.hd hc) dat (by rw [←rel.length]; exact z) fun h' tk Z0 c' kp e it=>?_
 have hv:Vals (gb kvs) Z0.toList:=rK (P:=X.prog) (w:=X.w) rel (by rw [Array.length_toList]; exact it.1) fun j v hj=>it.2 j v (by rw [←Array.getElem?_toList]; exact hj)
 exact⟨.ref s.heap.objs.size,_,I.laid (t':=tk) kp (Nat.le_refl _) (show cw X.prog X.w _ h' _ (.lst (gb kvs)) from⟨by rw [gb,List.length_map]; exact z,Z0.toList,c',hv,by simpa using e⟩),rfl,q _ (I.bS.fresh (Nat.le_refl _))⟩
theorem gy:gO X (.builtin "sorted") (fun xs H Q=>∃(p:Addr) (ns:List Int),xs=[.ref p]∧aF X.K H p (ns.map V.int)∧ns.length < 64∧∀(l:Addr) (fb:List Int),H l=none→fb.Perm ns→fb.Pairwise (·≤·)→Q (.ref l) (upd H l (.lst (fb.map V.int)))):=by
 intro pins s σ H xs us Q I r h
 obtain⟨p,ns,rfl,hq,lI,q⟩:=h
 obtain⟨u,rfl,rx⟩:=vals1 r
 cases rx
 obtain⟨aO,rv,pl,hz⟩:=I.list hq
 have hl:=rv.length
 rw [List.length_map] at hl
 refine sorted_ints (vs:=aO) pl.isList (intsAre_of rv) (by omega) fun out fb a1 a2 a3=>?_
 obtain⟨e,he⟩:=sortedAll_at s.heap aO out
 have hp:=a2.length_eq
 exact⟨.ref (s.heap.objs.size+1),_,I.laid (t':=s.toks) (fun b o hb=>sortedAll_old hb) (Nat.le_succ _) (show cw X.prog X.w _ _ _ (.lst (fb.map V.int)) from⟨by rw [List.length_map]; exact Nat.le_of_lt (a5 (by omega)),out.toList,e,fY a1,by simpa [seqObj] using he⟩),rfl,q _ fb (I.bS.fresh (Nat.le_succ _)) a2 a3⟩
end
section
variable {X:Cx}{pins:List (Addr×Obj)}{σ:St}{H:Hp}{s:Shared}{a:Addr}{kvs:List (Key×V)}{o:Obj}
noncomputable def Uv (H₀:Hp) (a:Addr) (kvs:List (Key×V)) (H H':Hp):Prop:=(∀o u,H₀ a≠some (.vt o u))∧(∃o,H a=some (.vt o (.dK kvs)))∧H'=upd H a (.dK kvs)
end
noncomputable def Itd (a:Addr) (o:Obj) (kvs:List (Key×V)):It:=
 ⟨fun i H=>i < kvs.length∧H a=some (.vt o (.dK kvs)),fun i H x H'=>H'=H∧∃kv,kvs[i]?=some kv∧x=kV kv.1,fun i H=>kvs.length≤i∧H a=some (.vt o (.dK kvs))⟩
noncomputable def Z1 (tl:TE):TI:=fun σ H R=>tl σ H fun x H1=>∃a kvs,x=.ref a∧H1 a=some (.dK kvs)∧∀o,R (Itd a o kvs) (upd H1 a (.vt o (.dK kvs)))
noncomputable def Z2 (H₀:Hp) (D:Ends):Ends:={nx:=fun σ H=>D.nx σ H∨∃a kvs H',Uv H₀ a kvs H H'∧D.nx σ H',rt:=fun v H=>D.rt v H∨∃a kvs H',Uv H₀ a kvs H H'∧D.rt v H',bk:=D.bk,ct:=D.ct}
noncomputable def Z3 (H₀:Hp) (t:TS):TS:=fun D σ H=>t (Z2 H₀ D) σ H
end L2
namespace L2
open PySem PySem.Spec PyProof.Rows
section
variable {prog:Program}{w:World}{A:Around}{E:Value→Shared→Prop}{s:Shared}
theorem tQ {d:Addr}{kvs:List (Key×Value)}{ep:Nat}{Q:List Value→Shared→Prop}(hh:A.handled=none) (lo:(d == sysModules)=false) (dat:s.heap.DictAt (cj prog w) d kvs ep) (hn:kvs.length≤sizeLine)
  (h:∀h' tk (vs:List Value),(∀b o,s.heap.get? b=some o→h'.get? b=some o)→s.heap.objs.size < h'.objs.size→vs.length=kvs.length→(∀(j:Nat) v,vs[j]?=some v→∃k x,kvs[j]?=some (k,x)∧(cj prog w).is k v=true)→Q vs {s with heap:=h',toks:=tk}) :
  wpAny (model prog w) A (collect (.ref d)) Q E s:=by
 unfold collect
 refine wpAny_bind (wpAny_runValue (codeAny_builtin entry_proto_collect' ?_))
 show wpAny _ _ (do again (.builtin "list.__iadd__" ⟨[←newList [],.ref d],[]⟩)) _ _ s
 refine wpAny_bind (wpAny_newList (wpAny_pure ⟨Code.quiet_builtin _ (by decide +kernel),codeAny_builtin entry_list_iadd' ?_⟩))
 show wpAny _ _ (Builtin.List.listExtendWith (.ref s.heap.objs.size) (.ref d) (.ref s.heap.objs.size)) _ _ {s with heap:=s.heap.push (seqObj "list" #[] 0)}
 rw [Around.under_plainId (by decide +kernel)]
 have fo:=dat.lt_size
 refine PySem.W.kdl_extend (s:={s with heap:=s.heap.push (seqObj "list" #[] 0)}) (R:=fun r s'=>match r with
  | .ok (.ret v)=>wpAny (model prog w) A (match v with
   | .ref a=>do
    let o ←load a
    match o.data with
    | .seq xs _=>pure xs.toList
    | _=>unsupported "internal:collect"
   | _=>unsupported "internal:collect") Q E s'
  | .ok _=>False
  | .error e=>E e s') (PySem.W.kdl_dict (kvs:=kvs) (ep:=ep) lo) hh (dat.push _) s.heap.objs.size (Nat.ne_of_gt fo) (Nat.ne_of_gt fo) (.ref s.heap.objs.size) 0 (Heap.get?_push_size _ rfl) (fun h' tk acc c kp hS it=>?_) hn
 show wpAny (model prog w) A (do
   let o ←load s.heap.objs.size
   match o.data with
   | .seq xs _=>pure xs.toList
   | _=>unsupported "internal:collect") Q E {s with heap:=h',toks:=tk}
 refine wpAny_bind (wpAny_load hS ?_)
 exact wpAny_pure (h h' tk acc.toList (fun b o e=>kp b o (Nat.ne_of_lt (Heap.lt_size e)) (Heap.get?_push_of_some _ e)) (Heap.lt_size hS) (by rw [Array.length_toList]; exact it.1) fun j v e=>it.2 j v (by rw [←Array.getElem?_toList]; exact e))
end
section
variable {X:Cx}
theorem tR (hc:X.calm=true):gO X (.builtin "sorted") (fun xs H Q=>∃(p:Addr) (kvs:List (Key×V)) (ns:List Int),xs=[.ref p]∧Rd H p (.dK kvs)∧gb kvs=ns.map V.int∧ns.length < 64∧∀(l:Addr) (fb:List Int),H l=none→fb.Perm ns→fb.Pairwise (·≤·)→Q (.ref l) (upd H l (.lst (fb.map V.int)))):=by
 intro pins s σ H xs us Q I r h
 obtain⟨p,kvs,ns,rfl,hq,hk,lI,q⟩:=h
 obtain⟨u,rfl,rx⟩:=vals1 r
 cases rx
 obtain⟨z,hd,vs,rel,dd⟩:=rJ I.bS hq
 obtain⟨ep,dat⟩:=dd.dictAt
 have hl:=rel.length
 have eM:kvs.length=ns.length:=by
  have:=congrArg List.length hk
  simpa [gb] using this
 refine Calls.call_function_entry kind_sorted plain_sorted entry_sorted (args_sorted1 _) ?_
 unfold Builtin.«sorted»
 refine wpAny_bind (m:=checkCount "sorted" 1 1 _) (wpAny_pure ?_)
 refine wpAny_bind (tQ (I.ok.hd hc) hd dat (by rw [←hl]; exact z) fun h' tk ws kp hsz hlen hws=>?_)
 refine wpAny_bind (wpAny_newList ?_)
 have hv:Vals (ns.map V.int) ws:=by
  rw [←hk]
  exact rK (P:=X.prog) (w:=X.w) rel hlen hws
 have hI:IntsAre ws ns:=intsAre_of hv
 have EX:(h'.push (seqObj "list" ws.toArray 0)).get? h'.objs.size=some (seqObj "list" ws.toArray 0):=Heap.get?_push_size _ rfl
 refine wpAny_bind (wpAny_holding (wpAny_call_entry slot_list_sort ⟨_,EX,rfl⟩ entry_list_sort (list_sort_tree EX hI (by omega) fun out fb a1 a2 a3=>⟨_,rfl,?_⟩) (args_list_sort _)))
 obtain⟨e,he⟩:=sortedHeap_at (out:=out) EX
 have hp:=a2.length_eq
 refine wpAny_pure ⟨_,rfl,?_⟩
 refine⟨.ref h'.objs.size,_,I.laid (t':=tk) (fun b o hb=>?_) (Nat.le_of_lt hsz) (show cw X.prog X.w _ _ _ (.lst (fb.map V.int)) from⟨by rw [List.length_map]; exact Nat.le_of_lt (a5 (by omega)),out.toList,e,fY a1,by simpa [seqObj] using he⟩),rfl,q _ fb (I.bS.fresh (Nat.le_of_lt hsz)) a2 a3⟩
 have AE:=kp b o hb
 have fo:=Heap.lt_size AE
 rw [sortedHeap_old (Nat.ne_of_lt fo) (by rw [Heap.size_push]; exact Nat.lt_succ_of_lt fo)]
 exact Heap.get?_push_of_some _ AE
end
section
variable {X:Cx}
theorem DC:MtR X "tuple.index" (fun x vs H Q=>∃(p:Addr) (xs:List Str) (z:Str) (j:Nat),x=.ref p∧vs=[.str z]∧dO X.K H p (xs.map V.str)∧xs[j]?=some z∧(∀(i:Nat) y,i < j→xs[i]?=some y→y≠z)∧Q (.int (j:Nat)) H):=by
 intro pins s σ H x vs v us Q I rx rv h
 obtain⟨p,xs,z,j,rfl,rfl,hq,hj,hn,q⟩:=h
 cases rx
 obtain⟨u,rfl,ru⟩:=rv.one
 obtain⟨t,rfl⟩:=ru
 obtain⟨aO,r,pl,hz⟩:=I.tuple hq
 obtain⟨o,ho,hc,n,hd⟩:=id pl
 refine wpAny_call_entry PySem.F.slot_tuple_index ⟨o,ho,hc⟩ PySem.F.entry_tuple_index ?_ (PySem.F.args_tuple_index_2 _ _)
 unfold Builtin.«tuple.index»
 refine wpAny_bind (wpAny_pure ?_)
 dsimp only
 refine wpAny_bind (wpAny_tupleItemsOf ho hd ?_)
 refine wpAny_bind (wpAny_pure ?_)
 refine wpAny_bind (wpAny_pure ?_)
 refine wpAny_bind ?_
 rw [Std.Legacy.Range.forIn_eq_forIn_range']
 have hlen:aO.length=xs.length:=by
  have:=r.length
  rw [List.length_map] at this
  exact this.symm
 have Mz:=(List.getElem?_eq_some_iff.mp hj).1
 have hsz:(List.range' [:min aO.toArray.size aO.toArray.size].start [:min aO.toArray.size aO.toArray.size].size [:min aO.toArray.size aO.toArray.size].step)=List.range' 0 xs.length:=by
  simp [Std.Legacy.Range.size,hlen]
 rw [hsz]
 refine wpAny_forIn_list _ (fun rest b s'=>s'=s∧b=(none,())∧∃i,rest=List.range' i (xs.length - i)∧i≤j) _ ?_ ?_ _ _ ⟨rfl,rfl,0,rfl,Nat.zero_le _⟩
 ·rintro x rest b s' ⟨rfl,rfl,i,hr,hi⟩
  have PV:i < xs.length:=by omega
  obtain⟨rfl,Z4⟩:x=i∧rest=List.range' (i+1) (xs.length - (i+1)):=by
   have e:xs.length - i=(xs.length - (i+1))+1:=by omega
   rw [e,List.range'_succ] at hr
   injection hr with h1 h2
   exact⟨h1,h2⟩
  obtain⟨u,hu,ru⟩:=r.get (i:=x) (x:=V.str xs[x]) (by simp [PV])
  obtain⟨t2,rfl⟩:=ru
  have hu2:aO.toArray[x]?=some (Value.str xs[x] t2):=by simpa using hu
  rw [hu2]
  dsimp only
  refine wpAny_bind (wpAny_eqBool_str ?_)
  by_cases hx:x=j
  ·subst hx
   have ez:xs[x]=z:=by
    have:=List.getElem?_eq_getElem PV
    rw [hj] at this
    exact(Option.some.inj this).symm
   rw [ez,decide_eq_true rfl,if_pos rfl]
   unfold retInt
   refine wpAny_bind (wpAny_bind (wpAny_mkInt ?_))
   refine wpAny_pure (wpAny_pure ?_)
   exact wpAny_pure ⟨_,rfl,.int x,H,I.tok _,⟨_,rfl⟩,q⟩
  ·have oj:=hn x xs[x] (by omega) (List.getElem?_eq_getElem PV)
   rw [decide_eq_false oj,if_neg Bool.false_ne_true]
   exact wpAny_pure ⟨rfl,rfl,x+1,Z4,by omega⟩
 ·rintro b s' ⟨rfl,rfl,i,hr,hi⟩
  have:=congrArg List.length hr
  simp at this
  omega
end
end L2
namespace L2
open PySem PySem.Spec PyProof.Rows
section
variable {X:Cx}
end
end L2
namespace L2
open PySem PySem.Spec PyProof.Rows
noncomputable def Z5 (H₀:Hp) (Q:VK):VK:=fun v H=>Q v H∨∃a kvs H',Uv H₀ a kvs H H'∧Q v H'
noncomputable def Uw (H₀:Hp) (t:TE):TE:=fun σ H Q=>t σ H (Z5 H₀ Q)
section
variable {a D:Addr}{o:Obj}{kvs:List (Key×V)}{fr:List Nat}{tt:TT}{te:TE}{σ:St}{H:Hp}{Q:Hp→Prop}
end
end L2
namespace L2
open PySem PySem.Spec PyProof.Rows
section
variable {X:Cx}
end
end L2
namespace L2
open PySem PySem.Spec PyProof.Rows
section
variable {X:Cx}
noncomputable def isS (z:Str):Value→Bool
 | .str s _=>s == z
 | _=>false
theorem DD:MtM X "list.index" (fun x vs H Q=>∃(l:Addr) (xs:List Str) (z:Str) (j:Nat),x=.ref l∧vs=[.str z]∧H l=some (.lst (xs.map V.str))∧xs[j]?=some z∧(∀(i:Nat) y,i < j→xs[i]?=some y→y≠z)∧xs.length≤1000∧Q (.int (j:Nat)) H):=by
 intro pins s σ H x vs v us Q I rx rv h
 obtain⟨l,xs,z,j,rfl,rfl,hH,hj,hn,hz,q⟩:=h
 cases rx
 obtain⟨u,rfl,ru⟩:=rv.one
 obtain⟨t,rfl⟩:=ru
 obtain⟨_,aO,n,r,hl,e⟩:=I.Fn hH
 have hlen:aO.length=xs.length:=by
  have:=r.length
  rw [List.length_map] at this
  exact this.symm
 have Mz:=(List.getElem?_eq_some_iff.mp hj).1
 have PX:∀(i:Nat) (hi:i < aO.length) (hx:i < xs.length),∃t2,aO[i]=Value.str xs[i] t2:=fun i hi hx=>by
  obtain⟨u,hu,ru⟩:=r.get (i:=i) (x:=V.str xs[i]) (by simp [hx])
  obtain⟨t2,rfl⟩:=ru
  rw [List.getElem?_eq_getElem hi] at hu
  exact⟨t2,Option.some.inj hu⟩
 refine call_meets F.slot_list_index ⟨_,e,rfl⟩ F.entry_list_index (F.args_list_index_2 _ _) (MeetsSeq.list_index l aO.toArray n (.str z t) (isS z) (fun y hy=>?_) j (by rw [List.size_toArray]; omega) (by omega) ?_ ?_) ⟨e,?_⟩
 ·have hy2:y∈aO:=by simpa using hy
  obtain⟨i,hi,rfl⟩:=List.mem_iff_getElem.mp hy2
  obtain⟨t2,e2⟩:=PX i hi (by omega)
  rw [e2]
  exact eqGives_str _ _ _ _
 ·obtain⟨t2,e2⟩:=PX j (by omega) Mz
  have e3:xs[j]=z:=by
   rw [List.getElem?_eq_getElem Mz] at hj
   exact Option.some.inj hj
  show isS z aO[j]=true
  rw [e2,e3]
  exact beq_self_eq_true z
 ·intro m hm fo
  have eN:m < aO.length:=by simpa using hm
  obtain⟨t2,e2⟩:=PX m eN (by omega)
  show isS z aO[m]=false
  rw [e2]
  have:=hn m xs[m] fo (List.getElem?_eq_getElem (by omega))
  show(xs[m] == z)=false
  rw [beq_eq_false_iff_ne]
  exact this
 ·exact⟨.int j,H,I.tok _,⟨_,rfl⟩,q⟩
end
end L2
namespace L2
open PySem PySem.Spec PyProof.Rows
end L2
namespace L2
open PySem PySem.Spec PyProof.Rows
open AutoSeq1 (wpAny_loadPart')
section
variable {X:Cx}
end
section
variable {prog:Program}{w:World}{A:Around}{E:Value→Shared→Prop}{s:Shared}
end
section
variable {X:Cx}
end
section
variable {prog:Program}{w:World}{A:Around}{E:Value→Shared→Prop}{s:Shared}
end
section
variable {X:Cx}
noncomputable def Ux (K:PySem.W.Frag) (tl:TE):TI:=fun σ H R=>tl σ H fun x H1=>∃a:Addr,x=.ref a∧(∃xs,aF K H1 a xs)∧R (PJ K a 0) H1
end
end L2
namespace L2
open PySem PySem.Spec PyProof.Rows
noncomputable def bF (fr:List Nat) (σ:St) (v v2:Option V):St:=v::v2::fr.map fun j=>(σ[j]?).join
structure oz (X:Cx) (x x2:Str) (ns:List Str) (fr:List Nat) (scope:Scope) (cl:List (Str×Addr)):Prop where
 oq:closureFor scope X.env=pure cl
 gv:∀y∈scope.names,y.2≠.cell
 kind:scope.kind=.function
 own:∀y∈scope.names,y.2=.local→scope.names.lookup y.1=some .local
 var:scope.names.lookup x=some .local
 FW:scope.names.lookup x2=some .local
 sub:∀z c,cl.lookup z=some c→X.env.cells.lookup z=some c
 has:∀z,((relabel scope X.env).names.lookup z=some .cell∨(relabel scope X.env).names.lookup z=some .free)→∃c,cl.lookup z=some c
 len:ns.length=fr.length
 vY:∀(k:Nat) z j,ns[k]?=some z→fr[k]?=some j→X.N[j]?=some z∧X.env.scope.names.lookup z=some .cell∧((relabel scope X.env).names.lookup z=some .cell∨(relabel scope X.env).names.lookup z=some .free)
 nd:(x::x2::ns).Nodup
noncomputable def kh (K:PySem.W.Frag) (J:It) (fr:List Nat) (tt:TT) (te:TE) (σ:St) (D:Addr) (Q:Hp→Prop) (H:Hp):Prop:=
 ∃W:Nat→Nat→Hp→Prop,(∃m,W 0 m H)∧∀i m H2,W i m H2→(J.stop i H2∧Q H2)∨(J.go i H2∧∀v H',J.Pn i H2 v H'→∃t va vb,v=.ref t∧dO K H' t [va,vb]∧tt (bF fr σ (some va) (some vb)) H' fun b H3=>
  if b=true then te (bF fr σ (some va) (some vb)) H3 fun y H4=>∃ys,H4 D=some (.lst ys)∧ys.length < sizeLine∧∃m',m' < m∧W (i+1) m' (upd H4 D (.lst (ys++[y])))else ∃m',m' < m∧W (i+1) m' H3)
section
variable {X:Cx}{pins:List (Addr×Obj)}{σ:St}{H:Hp}{s:Shared}{x x2:Str}{ns:List Str}{fr:List Nat}{scope:Scope}{cl:List (Str×Addr)}{fp:List Addr}
theorem FX (I:Inv X pins σ H s) (L:oz X x x2 ns fr scope cl) (hf:∀b∈fp,fX X pins H b) (ho:∀b∈fp,b < s.heap.objs.size):(bU X (x::x2::ns) scope cl s.heap.objs.size s H fp).Ok where
 mod:=I.ok.mod
 kind:=L.kind
 glob:=I.ok.glob
 blt:=I.ok.blt
 above:=Nat.le_refl _
 inj:=fun a b c h1 h2=>I.ok.inj a b c (L.sub a c h1) (L.sub b c h2)
 has:=fun z h=>L.has z h
 Ts:=fun _ _ h=>nomatch h
 hd:=I.ok.hd
 frames:=I.ok.frames
 YV:=.inl rfl
 Pf:=fun b hb=>⟨Nat.ne_of_lt (ho b hb),fun z c h=>(hf b hb).2.2.2.2.1 z c (L.sub z c h)⟩
 bs:=I.bs
 B6:=Nat.le_trans I.ok.B6 I.sz
 vI:=fun b o e hb=>by
  rcases (hf b hb).2.2.2.1 with h | h
  ·exact I.ok.vI b o e h
  ·exact absurd (Nat.lt_of_lt_of_le (Heap.lt_size e) (Nat.le_trans I.ok.B6 h)) (Nat.lt_irrefl _)
 vJ:=fun b hb hs=>by
  rcases List.mem_cons.mp (I.sY b hs)with h | h
  ·exact(hf b hb).2.1 h
  ·exact(hf b hb).2.2.1 h
 jZ:=I.stack
 LB:=I.nK
theorem FY {fr:List Nat}{σ:St}{v v2:Option V}{k:Nat}{u:V}(h:(bF fr σ v v2)[k+2]?=some (some u)):∃j,fr[k]?=some j∧σ[j]?=some (some u):=by
 unfold bF at h
 rw [List.getElem?_cons_succ,List.getElem?_cons_succ,List.getElem?_map] at h
 cases e:fr[k]? with
 | none=>rw [e] at h; cases h
 | some j=>
  rw [e] at h
  refine⟨j,rfl,?_⟩
  cases e2:σ[j]? with
  | none=>simp [e2] at h
  | some o=>simp [e2] at h; rw [h]
theorem DE {h':Heap}{t':Nat}(I:Inv X pins σ H s) (L:oz X x x2 ns fr scope cl) (hf:∀b∈fp,fX X pins H b) (ho:∀b∈fp,b < s.heap.objs.size)
  (hn:h'.Ns s.heap.objs.size fun _=>none) (hk:∀b o,s.heap.get? b=some o→h'.get? b=some o) :
  Inv (bU X (x::x2::ns) scope cl s.heap.objs.size s H fp) [] (bF fr σ none none) H {s with heap:=h',toks:=t'} where
 ok:=FX I L hf ho
 os:=rfl
 bare:=I.bare
 base:=Un.kept hk
 loc:=by
  refine⟨_,hn,fun i z v e1 e2 e3=>?_⟩
  match i,e1,e2 with
  | 0,_,e2=>cases e2
  | 1,_,e2=>cases e2
  | k+2,e1,e2=>
   have e1':ns[k]?=some z:=e1
   obtain⟨j,ej,ev⟩:=FY e2
   obtain⟨hN,hc,hy⟩:=L.vY k z j e1' ej
   obtain⟨m,hm,hl⟩:=I.loc
   obtain⟨u,r,l⟩:=hl j z v hN ev (.inr (.inl hc))
   refine⟨u,r,.inr ⟨hy,?_⟩⟩
   rcases l with ⟨l,_⟩ | ⟨_,c,nN,⟨o,z_,hd⟩⟩
   ·have:X.env.scope.names.lookup z=some .local:=l
    rw [hc] at this
    cases this
   ·obtain⟨c',Ld⟩:=L.has z hy
    have e:=L.sub z c' Ld
    rw [nN] at e
    cases e
    exact⟨c,Ld,o,hk c o z_,hd⟩
 cell:=fun z c e=>by
  obtain⟨v,o,z_,hd⟩:=I.cell z c (L.sub z c e)
  exact⟨v,o,hk c o z_,hd⟩
 free:=I.fresh
 fB:=fun z c e=>I.fB z c (L.sub z c e)
 pin:=fun p hp=>nomatch hp
 bS:=I.bS.kept hk
 len:=by
  show(bF fr σ none none).length=(x::x2::ns).length
  unfold bF
  rw [List.length_cons,List.length_cons,List.length_map,List.length_cons,List.length_cons,L.len]
theorem DF {elt iter:Expr}{px Ac tp:Pos}{kt:Nat}{ifs:List Expr}{pos:Pos}{J:It}{it D:Addr}{tn:Nat→Heap→Prop}{tt:TT}{te:TE}{Qe:Hp→Prop}{R:Result→Shared→Prop}{s4:Shared}
  (hc:X.calm=true) (L:oz X x x2 ns fr scope cl) (T:Turn X.prog X.w X.K (.Tuple [.Name x px,.Name x2 Ac] kt tp) J fp it tn) (hf:∀b∈fp,fX X pins H b) (ho:∀b∈fp,b < s.heap.objs.size) (I:Inv X pins σ H s)
  (hE:PE (bU X (x::x2::ns) scope cl s.heap.objs.size s H fp) elt te) (hT:qx (PT (bU X (x::x2::ns) scope cl s.heap.objs.size s H fp)) ifs tt) (hw:kh X.K J fr tt te σ D Qe H)
  (I4:Inv (bU X (x::x2::ns) scope cl s.heap.objs.size s H fp) [] (bF fr σ none none) H s4) (ZO:tn 0 s4.heap)
  (hR:∀(s':Shared) (H':Hp) (v v2:Option V),Inv (bU X (x::x2::ns) scope cl s.heap.objs.size s H fp) [] (bF fr σ v v2) H' s'→Qe H'→R (.ok .next) s') :
  codeAny (model X.prog X.w) X.A (.compStart (.ListComp elt [⟨.Tuple [.Name x px,.Name x2 Ac] kt tp,iter,ifs,0⟩] scope pos) 0 (.ref it) (.ref D) (compEnvC scope cl s.heap.objs.size X.env)) R s4:=by
 obtain⟨W,⟨m0,w0⟩,turn⟩:=hw
 have Ud:=FX I L hf ho
 have Mh:Loc (bU X (x::x2::ns) scope cl s.heap.objs.size s H fp).env.scope x:=.inl (lookup_relabel_local L.var)
 have bC:∀{H':Hp},(∀b∈fp,H' b=none)→∀b∈fp,fX (bU X (x::x2::ns) scope cl s.heap.objs.size s H fp) [] H' b:=fun hn b hb=>
  ⟨hn b hb,(Ud.Pf b hb).1,Ud.vJ b hb,.inl hb,(Ud.Pf b hb).2,fun p hp=>nomatch hp⟩
 have fr0:∀b∈fp,H b=none:=fun b hb=>(hf b hb).1
 have loop:codeAny (model X.prog X.w) X.A (.compLoop (.ListComp elt [⟨.Tuple [.Name x px,.Name x2 Ac] kt tp,iter,ifs,0⟩] scope pos) 0 (.ref it) (.ref D) (compEnvC scope cl s.heap.objs.size X.env)) R s4:=by
  refine codeAny_loop rfl (fun n s'=>∃i v v2 H',Inv (bU X (x::x2::ns) scope cl s.heap.objs.size s H fp) [] (bF fr σ v v2) H' s'∧tn i s'.heap∧(∀b∈fp,H' b=none)∧W i n H') (fun n s3 hI=>?_) m0 ⟨0,none,none,H,I4,ZO,fr0,w0⟩
  obtain⟨i,v0,v02,H3,I3,Pt,B_,w3⟩:=hI
  show wpAny _ X.A ((compTurn (.ListComp elt [⟨.Tuple [.Name x px,.Name x2 Ac] kt tp,iter,ifs,0⟩] scope pos) 0 (.ref it) (.ref D) (compEnvC scope cl s.heap.objs.size X.env)).onRaise (fun y=>do noteFrame y (compEnvC scope cl s.heap.objs.size X.env); theTreesLotGoes y)) _ _ s3
  refine wpAny_noted ?_
  rw [compTurn_list]
  have low:∀{α:Type}{t:Sem α}{Q Q':α→Shared→Prop}{E:Value→Shared→Prop}{s5:Shared},wpAny (model X.prog X.w) X.A t Q (fun _ _=>False) s5→(∀a s6,Q a s6→Q' a s6)→wpAny (model X.prog X.w) X.A t Q' E s5:=
   fun h hq=>wpAny_mono h hq fun _ _ z=>z.elim
  rcases turn i n H3 w3 with ⟨stop,q⟩ | ⟨go,step⟩
  ·refine wpAny_bind (wpAny_standAt (wpAny_bind (low (T.done (bU X (x::x2::ns) scope cl s.heap.objs.size s H fp) rfl rfl rfl hc i [] s3 _ H3 (fun _ _=>False) I3 (bC B_) Pt stop) fun r s5 hr=>?_)))
   obtain⟨hr,I5⟩:=hr
   subst hr
   exact wpAny_pure (hR s5 H3 v0 v02 I5 q)
  ·refine wpAny_bind (wpAny_standAt (wpAny_bind (low (T.item (bU X (x::x2::ns) scope cl s.heap.objs.size s H fp) rfl rfl rfl hc i [] s3 _ H3 (fun _ _=>False) I3 (bC B_) Pt go) fun r s5 hr=>?_)))
   obtain⟨u,hr,h5⟩:=hr
   subst hr
   refine wpAny_bind (low h5 fun _ s6 h6=>?_)
   obtain⟨y,H6,I6,r6,y6,Ue,fr6⟩:=h6
   have I6':=I6.pinned (bC fr6) (T.obj _ _ Ue)
   obtain⟨t,va,vb,ey,hsq,ke⟩:=step y _ y6
   subst ey
   have afw:Loc (bU X (x::x2::ns) scope cl s.heap.objs.size s H fp).env.scope x2:=.inl (lookup_relabel_local L.FW)
   have hg:PG (bU X (x::x2::ns) scope cl s.heap.objs.size s H fp) (.Tuple [.Name x px,.Name x2 Ac] kt tp) (TH X.K 2 (B9 (j6 0) (B9 (j6 1) TF))):=
    tD (X:=bU X (x::x2::ns) scope cl s.heap.objs.size s H fp) hc (cP (a7 (i:=0) L.nd rfl Mh (.inr (lookup_relabel_local L.var))) (cP (a7 (i:=1) L.nd rfl afw (.inr (lookup_relabel_local L.FW))) j7))
   refine wpAny_bind (low (hg _ s6 _ H6 (.ref t) u (fun σ' H'=>σ'=bF fr σ (some va) (some vb)∧H'=H6) I6' r6 ⟨t,[va,vb],rfl,hsq,rfl,va,[vb],rfl,vb,[],rfl,rfl,rfl,rfl⟩) fun _ s7 h7=>?_)
   obtain⟨σ7,H7,I7,e7,e7'⟩:=h7
   subst e7 e7'
   have back:∀{H8:Hp}{s8:Shared},Inv (bU X (x::x2::ns) scope cl s.heap.objs.size s H fp) ([]++g7 fp s6.heap) (bF fr σ (some va) (some vb)) H8 s8→(∃m',m' < n∧W (i+1) m' H8) →
     ∃m,m < n∧∃i v v2 H',Inv (bU X (x::x2::ns) scope cl s.heap.objs.size s H fp) [] (bF fr σ v v2) H' s8∧tn i s8.heap∧(∀b∈fp,H' b=none)∧W i m H':=fun {H8 s8} I8 hm=>by
    obtain⟨m',hm,w8⟩:=hm
    refine⟨m',hm,i+1,some va,some vb,H8,I8.e8,T.keep _ _ _ Ue fun b hb o e=>(I8.pin (b,o) (List.mem_append_right _ (List.mem_append_right _ (dW hb e)))).1,fun b hb=>?_,w8⟩
    obtain⟨o,e,d⟩:=T.obj _ _ Ue b hb
    exact(I8.pin (b,o) (List.mem_append_right _ (List.mem_append_right _ (dW hb e)))).2.1
   have emit:∀{H8:Hp}{s8:Shared},Inv (bU X (x::x2::ns) scope cl s.heap.objs.size s H fp) ([]++g7 fp s6.heap) (bF fr σ (some va) (some vb)) H8 s8 →
     te (bF fr σ (some va) (some vb)) H8 (fun y H4=>∃ys,H4 D=some (.lst ys)∧ys.length < sizeLine∧∃m',m' < n∧W (i+1) m' (upd H4 D (.lst (ys++[y])))) →
     wpAny (model X.prog X.w) X.A (do let _ ←call (.builtin "list.append") [.ref D,←eval elt (compEnvC scope cl s.heap.objs.size X.env)]) (fun _ s9=>∃m,m < n∧∃i v v2 H',Inv (bU X (x::x2::ns) scope cl s.heap.objs.size s H fp) [] (bF fr σ v v2) H' s9∧tn i s9.heap∧(∀b∈fp,H' b=none)∧W i m H') (fun _ _=>False) s8:=fun {H8 s8} I8 h8=>by
    refine wpAny_bind (b9 (hE _ s8 _ H8 _ I8 h8) fun v9 s9 h9=>?_)
    obtain⟨z,H9,I9,r9,ys,hD,hlen,hm⟩:=h9
    refine wpAny_bind (b9 (dj (X:=bU X (x::x2::ns) scope cl s.heap.objs.size s H fp) _ s9 _ H9 (.ref D) [z] (.ref D) [v9] (fun _ H'=>∃m',m' < n∧W (i+1) m' H') I9 rfl (.cons r9 .nil) ⟨D,ys,z,rfl,rfl,hD,hlen,hm⟩) fun v10 Cm Cn=>?_)
    obtain⟨_,Aa,I10,_,Ug⟩:=Cn
    exact wpAny_pure (back I10 Ug)
   cases hT with
   | nil=>
    refine wpAny_bind (wpAny_tests_nil ?_)
    refine wpAny_bind (low (emit I7 (vZ ke)) fun _ s9 h9=>wpAny_pure ⟨rfl,h9⟩)
   | one hP=>
    refine wpAny_bind (wpAny_tests_one (low (hP _ s7 _ _ _ I7 ke) fun b s8 h8=>?_))
    obtain⟨H8,I8,q8⟩:=h8
    cases b with
    | false=>
     have q9:∃m',m' < n∧W (i+1) m' H8:=q8
     exact wpAny_pure ⟨rfl,back I8 q9⟩
    | true=>
     exact wpAny_bind (low (emit I8 q8) fun _ s9 h9=>wpAny_pure ⟨rfl,h9⟩)
 exact codeAny_compStart_list loop (T.self X.A 0 _ _ _ ZO loop)
theorem DG {s':Shared}{H':Hp}{σ':St}(I:Inv X pins σ H s) (hf:∀b∈fp,fX X pins H b) (I':Inv (bU X (x::x2::ns) scope cl s.heap.objs.size s H fp) [] σ' H' s'):Inv X pins σ H' s':=
 I.Ph (ch:=fp) I'.os I'.base I'.bS I'.bare fun b hb=>⟨(hf b hb).2.2.2.1,(hf b hb).2.1,(hf b hb).2.2.2.2.1,(hf b hb).2.2.2.2.2⟩
theorem Cu {elt iter:Expr}{px Ac tp:Pos}{kt:Nat}{ifs:List Expr}{pos:Pos}{J:It}{it:Addr}{tn:Nat→Heap→Prop}{tt:TT}{te:TE}{Qe:Addr→Hp→Prop}{R:Value→Addr→Result→Shared→Prop}{E:Value→Shared→Prop}
  (hc:X.calm=true) (L:oz X x x2 ns fr scope cl) (T:Turn X.prog X.w X.K (.Tuple [.Name x px,.Name x2 Ac] kt tp) J fp it tn) (hf:∀b∈fp,fX X pins H b) (I:Inv X pins σ H s) (st:tn 0 s.heap)
  (hE:∀C s H,PE (bU X (x::x2::ns) scope cl C s H fp) elt te) (hT:∀C s H,qx (PT (bU X (x::x2::ns) scope cl C s H fp)) ifs tt) (hw:∀D,H D=none→kh X.K J fr tt te σ D (Qe D) (upd H D (.lst [])))
  (hR:∀(D C:Addr) (s':Shared) (H':Hp),Inv X pins σ H' s'→Qe D H'→(∃m o,s'.heap.get? C=some o∧(∀v,o.data≠.cell v)∧∀h':Heap,h'.get? C=some o→h'.Ns C m)→H' C=none→C≠X.env.locals→C∉X.fs→X.s₀.heap.objs.size≤C →
   (∀z c,X.env.cells.lookup z=some c→c≠C)→(∀p∈X.pn++pins,p.1≠C)→R (.ref D) C (.ok .next) s') :
  wpAny (model X.prog X.w) X.A (newList []) (fun acc s₃=>wpAny (model X.prog X.w) X.A (newFunctionEnv scope X.env.globals cl [] X.env.qual none .none (some X.env)) (fun FD s₄=>
   codeAny (model X.prog X.w) X.A (.compStart (.ListComp elt [⟨.Tuple [.Name x px,.Name x2 Ac] kt tp,iter,ifs,0⟩] scope pos) 0 (.ref it) acc {FD with scope:=relabel scope X.env}) (R acc FD.locals) s₄) E s₃) E s:=by
 have ho:∀b∈fp,b < s.heap.objs.size:=fun b hb=>by
  obtain⟨o,e,_⟩:=T.obj _ _ st b hb
  exact Heap.lt_size e
 have I3:Inv X pins σ (upd H s.heap.objs.size (.lst [])) {s with heap:=s.heap.push {cls:=.type "list",dict:=none,data:=.seq ([]:List Value).toArray}}:=I.LS (t':=s.toks) (.nil) (Nat.zero_le _)
 refine wpAny_newObj_type (wpAny_newFunctionEnv L.gv (by intro y hy; simp at hy) (fun h1 ji rG=>?_) L.kind)
 dsimp only at ji rG ⊢
 generalize Uh:({s with heap:=s.heap.push {cls:=.type "list",dict:=none,data:=.seq ([]:List Value).toArray}}:Shared)=s3 at I3
 have eh:s.heap.push {cls:=.type "list",dict:=none,data:=.seq ([]:List Value).toArray}=s3.heap:=by rw [←Uh]
 rw [eh] at ji rG ⊢
 have hz:s3.heap.objs.size=s.heap.objs.size+1:=by rw [←eh,Heap.size_push]
 have hk:∀b o,s3.heap.get? b=some o→h1.get? b=some o:=fun b o e=>rG.extBut b o (Nat.ne_of_lt (Heap.lt_size e)) (Heap.get?_push_of_some _ e)
 have Ui:∀b∈fp,fX X pins (upd H s.heap.objs.size (.lst [])) b:=fun b hb=>⟨by rw [ai (Nat.ne_of_lt (ho b hb))]; exact(hf b hb).1,(hf b hb).2⟩
 have Mi:∀b∈fp,b < s3.heap.objs.size:=fun b hb=>by rw [hz]; exact Nat.lt_succ_of_lt (ho b hb)
 have es:∀tk,({s with heap:=h1,toks:=tk}:Shared)={s3 with heap:=h1,toks:=tk}:=fun tk=>by rw [←Uh]
 rw [es]
 have I4:=DE (t':=s.toks+([]:List (Str×Value)).length) I3 L Ui Mi ji hk
 refine DF hc L T Ui Mi I3 (hE _ _ _) (hT _ _ _) (hw _ I.fresh) I4 ?_ fun s' H' v v2 I' q=>?_
 ·refine T.keep _ _ _ st fun b hb o e=>hk b o ?_
  rw [←eh]
  exact Heap.get?_push_of_some _ e
 ·have IX:=DG I3 Ui I'
  obtain⟨m,⟨o,B7,ep,EW,LD,YZ⟩,_⟩:=I'.loc
  refine hR _ _ s' H' IX q ⟨m,o,EW,fun v z=>?_,fun h' e=>⟨o,B7,ep,e,LD,YZ⟩⟩ I'.free (Nat.ne_of_gt I3.lt) (I3.LC (Nat.le_refl _)) I3.sz (fun z c e=>?_) fun p hp=>?_
  ·rw [LD] at z
   cases z
  ·obtain⟨v,o2,e2,_⟩:=I3.cell z c e
   exact Nat.ne_of_lt (Heap.lt_size e2)
  ·exact Nat.ne_of_lt (Heap.lt_size (I3.pin p hp).1)
noncomputable def Uy (K:PySem.W.Frag) (wi:TI) (fr:List Nat) (tt:TT) (te:TE):TE:=fun σ H Q=>wi σ H fun J H1=>∀D,H1 D=none→kh K J fr tt te σ D (fun H2=>Q (.ref D) H2) (upd H1 D (.lst []))
theorem Uz {elt iter:Expr}{px Ac tp pos:Pos}{kt:Nat}{ifs:List Expr}{wi:TI}{tt:TT}{te:TE}(hc:X.calm=true) (L:oz X x x2 ns fr scope cl) (hi:PI X (.Tuple [.Name x px,.Name x2 Ac] kt tp) iter wi)
  (hE:∀C s H fp,PE (bU X (x::x2::ns) scope cl C s H fp) elt te) (hT:∀C s H fp,qx (PT (bU X (x::x2::ns) scope cl C s H fp)) ifs tt)
  (hs:∀v,foldedSetIterable iter X.env v=pure v:=by intro _; rfl):PE X (.ListComp elt [⟨.Tuple [.Name x px,.Name x2 Ac] kt tp,iter,ifs,0⟩] scope pos) (Uy X.K wi fr tt te):=by
 intro pins s σ H Q I h
 rw [eval_ListComp]
 refine wpAny_comprehension_free (use:=none) rfl hs L.oq L.kind L.own (b9 (hi pins s σ H _ I h) fun v s1 h1=>b9 h1 fun YX s2 h2=>?_)
 obtain⟨it,fp,tn,J,H2,e,I2,T,Fb,f2,q⟩:=h2
 subst e
 refine Cu (R:=fun acc C=>compPost (model X.prog X.w) X.A X.xe none (EP X pins σ Q) acc C) hc L T f2 I2 Fb (fun C s H=>hE C s H fp) (fun C s H=>hT C s H fp) q ?_
 intro D C s' H' I' q' ji hn hl qy hz gL Ax
 obtain⟨m,o,e,hd,hk⟩:=ji
 refine⟨m,hk _ e,fun h' rG=>?_⟩
 exact⟨.ref D,H',I'.turned (t':=s'.toks) (fun b o hb e=>rG.extBut b o hb e) hn hl (.inr hz) gL Ax,rfl,q'⟩
theorem UA {elt iter:Expr}{y:Str}{j:Nat}{px Ac tp py pos FE:Pos}{kt:Nat}{ifs:List Expr}{wi:TI}{tt:TT}{te:TE}(hc:X.calm=true) (hN:X.N.Nodup) (hj:X.N[j]?=some y) (hy:X.env.scope.names.lookup y=some .local) (L:oz X x x2 ns fr scope cl) (hi:PI X (.Tuple [.Name x px,.Name x2 Ac] kt tp) iter wi)
  (hE:∀C s H fp,PE (bU X (x::x2::ns) scope cl C s H fp) elt te) (hT:∀C s H fp,qx (PT (bU X (x::x2::ns) scope cl C s H fp)) ifs tt)
  (Y0:swapsWith (.ListComp elt [⟨.Tuple [.Name x px,.Name x2 Ac] kt tp,iter,ifs,0⟩] scope pos) (some (.Name y py)) FE.line X.env=pure true:=by rfl)
  (hs:∀v,foldedSetIterable iter X.env v=pure v:=by intro _; rfl):PS X (.Assign [.Name y py] (.ListComp elt [⟨.Tuple [.Name x px,.Name x2 Ac] kt tp,iter,ifs,0⟩] scope pos) FE) (E8 (Uy X.K wi fr tt te) (j6 j)):=by
 intro pins s σ H Dn I h
 rw [exec_Assign_Name_used _ _ _ _ Y0]
 refine wpAny_bind (wpAny_standAt (wpAny_bind ?_))
 show wpAny _ X.A (do let _ ←comprehension (.ListComp elt [⟨.Tuple [.Name x px,.Name x2 Ac] kt tp,iter,ifs,0⟩] scope pos) scope X.env _ (newList []) false (eval iter X.env) (some (assign (.Name y py) X.env))) _ _ s
 refine wpAny_bind (b9 (wpAny_comprehension_free (use:=some (assign (.Name y py) X.env)) (Q:=fun _ s'=>SP X pins Dn .next s') rfl hs L.oq L.kind L.own (b9 (hi pins s σ H _ I h) fun v s1 h1=>b9 h1 fun YX s2 h2=>?_)) fun _ s' q=>wpAny_pure (wpAny_pure q))
 obtain⟨it,fp,tn,J,H2,e,I2,T,Fb,f2,q⟩:=h2
 subst e
 refine Cu (R:=fun acc C=>compPost (model X.prog X.w) X.A X.xe (some (assign (.Name y py) X.env)) (fun _ s'=>SP X pins Dn .next s') acc C) hc L T f2 I2 Fb (fun C s H=>hE C s H fp) (fun C s H=>hT C s H fp) q ?_
 intro D C s' H' I' q' ji hn hl qy hz gL Ax
 obtain⟨m,o,e,hd,hk⟩:=ji
 have I'':Inv X (pins++[(C,o)]) σ H' s':=I'.fC fun p hp=>by
  rcases List.mem_append.mp hp with h | h
  ·exact I'.pin p (List.mem_append_right _ h)
  ·have ep:p=(C,o):=by simpa using h
   subst ep
   exact⟨e,hn,hl,qy,hd⟩
 refine wpAny_assign_Name (j4 I'' hN hj (.inl hy) (show RelV (.ref D) (.ref D) from rfl) (fun s2 I2=>?_) (.inr hy))
 obtain⟨e2,n2,_⟩:=I2.pin (C,o) (List.mem_append_right _ (List.mem_append_right _ (List.mem_singleton.mpr rfl)))
 refine⟨m,hk _ e2,fun h' rG=>?_⟩
 exact⟨σ.set j (some (.ref D)),H',I2.e8.turned (t':=s2.toks) (fun b o hb e=>rG.extBut b o hb e) hn hl (.inr hz) gL Ax,q'⟩
end
section
variable {X:Cx}{x x2:Str}{ns:List Str}{fr:List Nat}{scope:Scope}{cl:List (Str×Addr)}
theorem PY (oq:closureFor scope X.env=pure cl) (gv:scope.names.all (fun y=>y.2 != .cell)=true) (kind:scope.kind=.function)
  (own:scope.names.all (fun y=>y.2 != .local || scope.names.lookup y.1 == some .local)=true) (var:scope.names.lookup x=some .local) (FW:scope.names.lookup x2=some .local) (sub:∀p∈cl,X.env.cells.lookup p.1=some p.2)
  (has:(relabel scope X.env).names.all (fun y=>!(y.2 == .cell || y.2 == .free) || (cl.lookup y.1).isSome)=true) (len:ns.length=fr.length)
  (fr_:∀p∈ns.zip fr,X.N[p.2]?=some p.1∧X.env.scope.names.lookup p.1=some .cell∧((relabel scope X.env).names.lookup p.1=some .cell∨(relabel scope X.env).names.lookup p.1=some .free)) (nd:(x::x2::ns).Nodup):oz X x x2 ns fr scope cl where
 oq:=oq
 gv:=fun y hy=>by simpa using List.all_eq_true.mp gv y hy
 kind:=kind
 own:=fun y hy h=>by
  have:=List.all_eq_true.mp own y hy
  rw [h] at this
  simpa using this
 var:=var
 FW:=FW
 sub:=fun z c h=>sub _ (ot h)
 has:=fun z h=>by
  have k:∀t,(relabel scope X.env).names.lookup z=some t→(t=.cell∨t=.free)→∃c,cl.lookup z=some c:=fun t ht hk=>by
   have:=List.all_eq_true.mp has _ (ot ht)
   rcases hk with rfl | rfl <;> simpa [Option.isSome_iff_exists] using this
  rcases h with h | h
  ·exact k _ h (.inl rfl)
  ·exact k _ h (.inr rfl)
 len:=len
 vY:=fun k z j h1 h2=>fr_ (z,j) (List.mem_of_getElem? (i:=k) (by rw [List.getElem?_zip_eq_some]; exact⟨h1,h2⟩))
 nd:=nd
end
end L2
namespace L2
open PySem PySem.Spec PyProof.Rows
open AutoSeq1 (wpAny_loadPart')
section
variable {prog:Program}{w:World}{A:Around}{E:Value→Shared→Prop}{s:Shared}
end
end L2
namespace L2
open PySem PySem.Spec PyProof.Rows
open AutoSeq1 (wpAny_loadPart')
section
variable {prog:Program}{w:World}{A:Around}{E:Value→Shared→Prop}{s:Shared}
end
end L2
namespace L2
open PySem PySem.Spec PyProof.Rows
open AutoSeq1 (wpAny_loadPart')
section
variable {prog:Program}{w:World}{A:Around}{E:Value→Shared→Prop}{s:Shared}
end
end L2
namespace L2
open PySem PySem.Spec PyProof.Rows
noncomputable def Itz (K:PySem.W.Frag) (l1 l2:Addr):It:=
  ⟨fun i H=>∃xs ys x y,aF K H l1 xs∧dO K H l2 ys∧xs[i]?=some x∧ys[i]?=some y,
   fun i H v H'=>∃t x y,H t=none∧v=.ref t∧(∀xs,aF K H l1 xs→xs[i]?=some x)∧(∀ys,dO K H l2 ys→ys[i]?=some y)∧H'=upd H t (.tup [x,y]),
   fun i H=>∃xs,aF K H l1 xs∧xs.length=i⟩
section
variable {X:Cx}
noncomputable def afx (K:PySem.W.Frag) (tl tp:TE):TI:=fun σ H R=>tl σ H fun x H1=>tp σ H1 fun y H2=>∃a b:Addr,x=.ref a∧y=.ref b∧(∃xs,aF K H2 a xs)∧(∃ys,dO K H2 b ys)∧R (Itz K a b) H2
end
end L2
namespace L2
open PySem PySem.Spec PyProof.Rows
section
variable {X:Cx}
end
section
variable {X:Cx}
theorem DH {bs:List Bool}{us:List Value}(h:Vals (bs.map V.bl) us) {i:Nat}{v:Value}(hv:us[i]?=some v):v=.bool (bs.getD i false):=by
 have hl:=h.length
 rw [List.length_map] at hl
 have hi:=(List.getElem?_eq_some_iff.mp hv).1
 obtain⟨u,hu,ru⟩:=h.get (i:=i) (x:=V.bl (bs[i]'(by omega))) (by rw [List.getElem?_map,List.getElem?_eq_getElem (by omega)]; rfl)
 rw [hv] at hu
 cases hu
 have e:bs.getD i false=bs[i]'(by omega):=by simp [List.getD,show i < bs.length by omega]
 rw [e]
 cases ru
 rfl
theorem range_any (bs:List Bool):((List.range bs.length).any fun i=>bs.getD i false)=bs.any id:=by
 rw [Bool.eq_iff_iff,List.any_eq_true,List.any_eq_true]
 constructor
 ·rintro⟨i,hi,h⟩
  have hi:=List.mem_range.mp hi
  exact⟨_,List.getElem_mem hi,by simpa [List.getD,hi] using h⟩
 ·rintro⟨x,hx,h⟩
  obtain⟨i,hi,rfl⟩:=List.mem_iff_getElem.mp hx
  exact⟨i,List.mem_range.mpr hi,by simpa [List.getD,hi] using h⟩
theorem DI (hc:X.calm=true):gO X (.builtin "any") (fun xs H Q=>∃(p:Addr) (bs:List Bool),xs=[.ref p]∧aF X.K H p (bs.map V.bl)∧Q (.bl (bs.any id)) H):=by
 intro pins s σ H xs us Q I r h
 obtain⟨p,bs,rfl,hq,q⟩:=h
 obtain⟨u,rfl,rx⟩:=vals1 r
 cases rx
 obtain⟨aO,rv,pl,hz⟩:=I.list hq
 have fo:p < s.heap.objs.size:=by
  obtain⟨o,e,_⟩:=pl.isList
  exact Heap.lt_size e
 have hl:=rv.length
 rw [List.length_map] at hl
 refine call_any_walk (wpAny_pyIter_list pl.isList ⟨s.heap.objs.size,_,_,_,_,_,fun i=>bs.getD i false,rfl,Walks.list (A:=X.A.in1) (I.ok.hd hc) s.heap.objs.size p (Nat.ne_of_lt fo) aO.toArray,⟨⟨_,Heap.get?_push_size _ rfl,rfl,rfl⟩,?_⟩,fun i v s' Q' E' hP hQ=>?_,fun h' tk hk=>?_⟩)
 ·obtain⟨o,e,q2⟩:=pl.isList
  exact⟨o,Heap.get?_push_of_some _ e,q2⟩
 ·have hP:aO.toArray[i]?=some v:=hP
  have hP2:aO[i]?=some v:=by simpa using hP
  have ev:=DH rv hP2
  subst ev
  exact wpAny_pure hQ
 ·have e:aO.toArray.size=bs.length:=by simp [hl]
  rw [e,range_any]
  refine⟨.bl _,H,I.kept (t':=tk) (fun b o hb=>hk b o ?_ (Heap.get?_push_of_some _ hb)),rfl,q⟩
  intro z
  have z:b=s.heap.objs.size:=by simpa using z
  exact absurd (Heap.lt_size hb) (by rw [z]; exact Nat.lt_irrefl _)
end
end L2
namespace L2
open PySem PySem.Spec PyProof.Rows
open AutoSeq1 (wpAny_loadPart')
section
variable {prog:Program}{w:World}{A:Around}{E:Value→Shared→Prop}{s:Shared}
end
section
variable {X:Cx}
noncomputable def Z6 (a:Addr) (D:List (Str×Addr)) (td ty:TE):TE:=fun σ H Q=>td σ H fun x H1=>x=.ref a∧ty σ H1 fun y H2=>∃k b,y=.str k∧KTD.datumAt k D=some b∧Q (.ref b) H2
end
noncomputable def Its (z:Str):It:=⟨fun i _=>i < z.cps.size,fun i H v H'=>(∃c,z.cps[i]?=some c∧v=.str ⟨#[c]⟩)∧H'=H,fun i _=>z.cps.size≤i⟩
section
variable {X:Cx}
noncomputable def afy (tl:TE):TI:=fun σ H R=>tl σ H fun x H1=>∃z,x=.str z∧(z.cps.all fun x=>decide (x < 128))=true∧R (Its z) H1
end
end L2
namespace L2
open PySem PySem.Spec PyProof.Rows
open PySem.NumText (AllDigits digitsVal)
noncomputable def nt (n:Nat):Str:=Str.ofString (toString (n:Int))
end L2
namespace L2
open PySem PySem.Spec PyProof.Rows
theorem ak.putD {H H3:Hp}{D:PySem.Addr}{o:HO}(h:ak H H3) (hD:H D=none):ak H (upd H3 D o):=fun b u e=>by
 have n:b≠D:=fun q=>by rw [q,hD] at e; cases e
 rw [ai n]
 exact h b u e
end L2
namespace L2
open PySem PySem.Spec PyProof.Rows
section
variable {X:Cx}
noncomputable def tFs (c:Str) (te:TE):TE:=fun σ H Q=>c.length≤sizeLine∧te σ H fun v H1=>∃n:Int,v=.int n∧n.natAbs.log2 < 1920∧(c++(Str.ofString (toString n))).length≤sizeLine∧Q (.str (c++Str.ofString (toString n))) H1
end
theorem FZ {X:Cx}{tg l:Expr}{tl:TE}{K:PySem.W.Frag}(h:X.K=K) (hl:PE X l tl):PI X tg l (vM K tl):=by
 subst h
 exact bg hl
end L2
namespace L2
open PySem PySem.Spec PyProof.Rows
section
variable {M:Model}{A:Around}{E:Value→Shared→Prop}{s:Shared}
structure Lft (l:List Env) (e:Addr) (oe:Obj) (T0:Option Addr) (h h':Heap):Prop where
 keep:∀b o,h.get? b=some o→b∉B5 l→b≠e→some b≠T0→h'.get? b=some o
 slot:∀b o,h.get? b=some o→b∈B5 l→∃sl,h'.get? b=some {o with slots:=sl}
 there:∀b o,h.get? b=some o→∃o',h'.get? b=some o'
 at_:∃T oT ts,h.objs.size≤T∧h'.get? e=some (Obj.mapFields (·.setIfInBounds 1 (.ref T)) oe)∧h'.get? T=some oT∧oT.data=.fields ts∧ts[3]?=some .none
end
end L2
namespace L2
open PySem PySem.Spec PyProof.Rows
section
variable {prog:Program}{w:World}{A:Around}{R:Result→Shared→Prop}{h:Heap}{g:Array GenState}{d:Drawn}{t:Nat}{os:OsState}
variable {nm q:Str}{C N:Addr}{bs bm bmB:List Value}{Z7:Bool}{sn:List Str}{sub:List Value}{ab:Bool}{col:Option Bool}{dd:Option Addr}{k0 k1 k2 k3 k5:Option Value}{B Bn newId nid UB inN:String}{bmN:List Value}
end
noncomputable abbrev bmV:List Value:=[.type "ValueError",.type "Exception",.type "BaseException",.type "object"]
section
variable {M:Model}{A:Around}{E:Value→Shared→Prop}{env:Env}
variable {nm q:Str}{C N:Addr}{bs bm:List Value}{Z7:Bool}{sn:List Str}{sub:List Value}{ab:Bool}{col:Option Bool}{dd:Option Addr}{k0 k1 k2 k3 k5:Option Value}{newId:String}
variable {nm2 q2:Str}{C2 N2:Addr}{bs2 bm2:List Value}{ahA:Bool}{sn2:List Str}{aiu:List Value}{ab2:Bool}{aiv:Option Bool}{dd2:Option Addr}{j0 j1 j2 j3 j5:Option Value}{afz:String}
end
section
variable {prog:Program}{w:World}{A:Around}{E:Value→Shared→Prop}{h:Heap}{g:Array GenState}{d:Drawn}{t:Nat}{os:OsState}
variable {nm q:Str}{C N:Addr}{bs bm bmB:List Value}{Z7:Bool}{sn:List Str}{sub:List Value}{ab:Bool}{col:Option Bool}{dd:Option Addr}{k0 k1 k2 k3 k5:Option Value}{B newId nid UB:String}
end
end L2
namespace L2
open PySem PySem.Spec PyProof.Rows
section
variable {K:PySem.W.Frag}{prog:Program}{w:World}{A:Around}{R:Result→Shared→Prop}{s:Shared}{x C Cb:Addr}
open PySem.W PySem.Builtin PySem.Builtin.ObjectAttr PySem.Builtin.Getset_descriptor in
open PySem.W PySem.Builtin PySem.Builtin.ObjectAttr PySem.Builtin.Getset_descriptor in
open PySem.W PySem.Builtin PySem.Builtin.ObjectAttr PySem.Builtin.Getset_descriptor in
open PySem.W PySem.Builtin PySem.Builtin.ObjectAttr PySem.Builtin.Getset_descriptor in
open PySem.W in
end
end L2
namespace L2
open PySem PySem.Spec PyProof.Rows
structure DJ (K:PySem.W.Frag) (C Cb:Addr):Prop where
 lk:∃nm qn N bs sn sub ab col dd k0 k1 k2 k3 k5,K.lookup C=some (excClassObj nm qn C N bs (.ref Cb::bmV) true sn sub ab col dd k0 k1 k2 k3 k5 "ValueError.__new__")
 lb:∃nm qn N bs hd sn sub ab col dd k0 k1 k2 k3 k5,K.lookup Cb=some (excClassObj nm qn Cb N bs bmV hd sn sub ab col dd k0 k1 k2 k3 k5 "ValueError.__new__")
 xb:PySem.W.excIn K Cb bmV "ValueError.__new__"=true
 sa:PySem.W.findIn K (.ref C) "__setattr__"=some (some (.builtin "object.__setattr__"))
 ga:PySem.W.findIn K (.ref C) "__getattribute__"=some (some (.builtin "BaseException.__getattribute__"))
 gn:PySem.W.findIn K (.ref C) "__getattr__"=some none
 cl:PySem.W.findIn K (.ref C) "__class__"=some (some (.builtin "object.__class__"))
 cg:PySem.W.specialIn K (.builtin "object.__class__") "__get__"=some (some (.builtin "getset_descriptor.__get__"))
 ct:PySem.W.takesIn K (.builtin "object.__class__")=some true
 mo:PySem.W.mroIn K C (.type "object")=some true
 kp:PySem.W.keepIn K (.ref C)=true
noncomputable def XOc (cb:Bool) (C x:Addr) (dx:Option Addr) (raw:Bool) (h:Heap):Prop:=∃vs sl a0,h.get? x=some ⟨.ref C,dx,.fields vs,sl⟩∧vs[0]?=some (.ref a0)∧4 < vs.size∧(raw=true→vs[1]?=some .none)∧(cb=true→vs[2]?=some .none)
noncomputable abbrev XO (C x:Addr) (dx:Option Addr) (raw:Bool):Heap→Prop:=XOc true C x dx raw
section
variable {X:Cx}{CX:vO}{k:Nat}{f C Cb:Addr}{fd:FuncData}{ps:List Str}{sp:Sp}{gs:List V}{ds:List Value}{E:XK}{x m:Str}{p pos apos:Pos}{e o:Expr}{es:List Expr}{ta:TE}{t:TA}
noncomputable def UC (C:Addr) (sp:Sp) (gs:List V) (E:XK) (t:TA):TE:=fun σ H Q=>t σ H fun vs H1=>vs.length≤1000∧∀x,H1 x=none→sp (.ref x::(vs++gs)) (upd H1 x (.ext (XO C x none true))) (fun v H2=>v=.bf∧Q (.ref x) H2) E
noncomputable def Z8 (K:PySem.W.Frag) (ta tv:TE) (f:Str):TS:=fun D σ H=>tv σ H fun y H1=>ta σ H1 fun x H2=>∃a C Cb,x=.ref a∧H2 a=some (.ext (XO C a none true))∧DJ K C Cb∧PySem.W.takerIn K C f=some none ∧
 ∀dx,H2 dx=none→D.nx σ (upd (upd H2 a (.ext (XO C a (some dx) true))) dx (.xd [(f,y)]))
structure ahB (K:PySem.W.Frag) (Cb:Addr):Prop where
 sp:PySem.W.specialIn K (.ref Cb) "__getattribute__"=some (some (.builtin "type.__getattribute__"))
 rd:PySem.W.readsIn K Cb (.type "type")=true
 fd:PySem.W.findCls K (.ref Cb) (.type "type") "__init__"=some (.val (.builtin "ValueError.__init__"))
noncomputable def UD (K:PySem.W.Frag) (t:TA):TE:=fun σ H Q=>t σ H fun vs H1=>∃a C Cb z dx,vs=[.ref a,.str z]∧H1 a=some (.ext (XO C a dx true))∧DJ K C Cb∧Q .bf H1
end
end L2
namespace L2
open PySem PySem.Spec PyProof.Rows
noncomputable def TBk (h:Heap) (H:Hp) (a:Addr):Prop:=∃o vs T oT ts,h.get? a=some o∧o.data=.fields vs∧vs[1]?=some (.ref T)∧T≠a∧h.get? T=some oT∧oT.data=.fields ts∧ts[3]?=some .none∧H T=none
section
variable {P:Program}{w:World}{K:PySem.W.Frag}{mg:Str→Option Value}{base:Heap}
noncomputable def UE (K:PySem.W.Frag) (E:XK) (te:TE):TS:=fun _ σ H=>te σ H fun v H1=>∃a C Cb dx,v=.ref a∧DJ K C Cb∧H1 a=some (.ext (XO C a (some dx) true))∧E (.ref C) (some a) (upd H1 a (.ext (XO C a (some dx) false)))
end
end L2
namespace L2
open PySem PySem.Spec PyProof.Rows
section
variable {M:Model}{A:Around}{E:Value→Shared→Prop}{s:Shared}
end
section
variable {X:Cx}{k:Nat}{f C:Addr}{fd:FuncData}{ps:List Str}{sp:Sp}{gs:List V}{ds:List Value}{E:XK}
noncomputable def XP (X:Cx) (pins:List (Addr×Obj)) (σ:St) (E:XK) (e:Value) (s':Shared):Prop:=∃a C dx cb H',e=.ref a∧Inv X pins σ H' s'∧H' a=some (.ext (XOc cb C a (some dx) false))∧TBk s'.heap H' a∧E (.ref C) (some a) H'
end
end L2
namespace L2
open PySem PySem.Spec PyProof.Rows
section
variable {prog:Program}{w:World}{A:Around}{E:Value→Shared→Prop}{s:Shared}{env:Env}
end
section
variable {X:Cx}{k:Nat}{f C2:Addr}{fd:FuncData}{ps:List Str}{sp:Sp}{gs:List V}{ds:List Value}{x y n cn:Str}{p np pos apos F0 fw afA:Pos}{e:Expr}{es:List Expr}{t:TA}{ts:TS}{b0:Stmt}{Z9:List Stmt}{i j:Nat}
noncomputable def afB (K:PySem.W.Frag) (C2:Addr) (i j:Nat) (sp:Sp) (gs:List V) (t:TA) (ts:TS):TS:=fun D σ H=>t σ H fun vs H1=>sp (vs++gs) H1 (fun v H2=>D.nx (σ.set i (some v)) H2)
 (fun cls a H2=>∃b C Cb,cls=.ref C∧a=some b∧DJ K C Cb∧(C2=C∨C2=Cb)∧ts {nx:=fun σ' H'=>D.nx (σ'.set j none) H',rt:=D.rt} (σ.set j (some (.ref b))) H2)
noncomputable def Z_ (K:PySem.W.Frag) (C2:Addr) (i:Nat) (sp:Sp) (gs:List V) (t:TA) (ts:TS):TS:=fun D σ H=>t σ H fun vs H1=>sp (vs++gs) H1 (fun v H2=>D.nx (σ.set i (some v)) H2)
 (fun cls a H2=>∃b C Cb,cls=.ref C∧a=some b∧DJ K C Cb∧(C2=C∨C2=Cb)∧ts D σ H2)
noncomputable def aaa (K:PySem.W.Frag) (ta:TE) (g:Str):TE:=fun σ H Q=>ta σ H fun x H1=>∃a C Cb dx fs raw i,x=.ref a∧H1 a=some (.ext (XO C a (some dx) raw))∧H1 dx=some (.xd fs)∧DJ K C Cb∧PySem.W.findIn K (.ref C) g=some none∧fs.lookup g=some (.int i)∧Q (.int i) H1
end
section
variable {prog:Program}{w:World}{A:Around}{E:Value→Shared→Prop}{s:Shared}
end
section
variable {X:Cx}
noncomputable def UG (a:Addr) (D:List (Str×Addr)) (td ty:TE):TE:=fun σ H Q=>td σ H fun x H1=>x=.ref a∧ty σ H1 fun y H2=>∃k,y=.str k∧((∃b,KTD.datumAt k D=some b∧Q (.ref b) H2)∨(KTD.datumAt k D=none∧Q .bf H2))
noncomputable def afC (c c2:Str) (te:TE):TE:=fun σ H Q=>c.length≤sizeLine∧te σ H fun v H1=>∃n:Int,v=.int n∧n.natAbs.log2 < 1920∧(c++(Str.ofString (toString n))).length≤sizeLine∧(c++(Str.ofString (toString n))++c2).length≤sizeLine∧Q (.str (c++Str.ofString (toString n)++c2)) H1
end
end L2
namespace L2
open PySem PySem.Spec PyProof.Rows
section
variable {X:Cx}
end
end L2
namespace L2
open PySem PySem.Spec PyProof.Rows
section
variable {X:Cx}
inductive wk:List (Option Expr)→List Expr→List (Key×V)→Prop
 | nil:wk [] [] []
 | int {x n u1 p1 u2 p2 ks vs r}:wk ks vs r→wk (some (.Constant (.str x) u1 p1)::ks) (.Constant (.int n) u2 p2::vs) ((.inr x,.int n)::r)
 | str {x y u1 p1 u2 p2 ks vs r}:wk ks vs r→wk (some (.Constant (.str x) u1 p1)::ks) (.Constant (.str y) u2 p2::vs) ((.inr x,.str y)::r)
end
end L2
namespace L2
open PySem PySem.Spec PyProof.Rows
noncomputable abbrev aab (A:Around):Around:={A with handled:=none}
structure ahC (P:Program) (w:World) (K:PySem.W.Frag) (mg:Str→Option Value) (base:Heap) (CX:vO) (k:Nat) (f:Addr) (fd:FuncData) (ps:List Str) (sp:Sp):Prop where
 len:∀vs H Q E,sp vs H Q E→vs.length=ps.length
 run:∀(A:Around) (outer:List Env) (s:Shared) (H:Hp) (args:Args) (us:List Value) (vs:List V) (Q:VK) (E:XK),cL k (aab A)→vP P w K mg base A outer s H→BindsTo s fd args (ps.zip us)→Vals vs us→sp vs H Q E →
  codeAny (model P w) A (.call (.ref f) args) (CR CX outer P w H s Q E) s
section
variable {P:Program}{w:World}{K:PySem.W.Frag}{mg:Str→Option Value}{base:Heap}
end
section
variable {X:Cx}{CX:vO}{k:Nat}{f C Cb:Addr}{fd:FuncData}{ps:List Str}{sp:Sp}{gs:List V}{ds:List Value}{E:XK}{x m:Str}{p pos apos:Pos}{e o:Expr}{es:List Expr}{ta:TE}{t:TA}
end
section
variable {prog:Program}{w:World}{A:Around}{E:Value→Shared→Prop}{s:Shared}{env:Env}
end
section
variable {P:Program}{w:World}{K:PySem.W.Frag}{mg:Str→Option Value}{base:Heap}
end
section
variable {prog:Program}{w:World}{A:Around}{E:Value→Shared→Prop}{s:Shared}{env:Env}
end
section
variable {X:Cx}{k:Nat}{f C2:Addr}{fd:FuncData}{ps:List Str}{sp:Sp}{gs:List V}{ds:List Value}{x y n cn:Str}{p np pos apos F0 fw afA:Pos}{e:Expr}{es:List Expr}{t:TA}{b0:Stmt}{body Z9:List Stmt}{i j:Nat}
end
section
variable {X:Cx}{pos:Pos}
end
end L2
namespace L2
open PySem PySem.Spec PyProof.Rows
theorem UH {h:Heap}{L:Addr}{m m':Str→Option Value}(a:h.Ns L m) (b:h.Ns L m'):m=m':=by
 obtain⟨o,es,ep,e,d,k,f⟩:=a
 obtain⟨o',B7,ep',e',d',k',f'⟩:=b
 rw [e] at e'
 cases e'
 rw [d] at d'
 cases d'
 funext x
 rw [←f,←f']
noncomputable def led (h:Heap) (T:List Addr):List (Addr×Obj):=(List.range h.objs.size).filterMap fun a=>if a∈T then none else(h.get? a).map fun o=>(a,o)
theorem nV {h:Heap}{T:List Addr}{a:Addr}{o:Obj}:(a,o)∈led h T↔a∉T∧h.get? a=some o:=by
 unfold led
 rw [List.mem_filterMap]
 constructor
 ·rintro⟨b,_,e⟩
  split at e
  ·cases e
  ·next hb=>
   obtain⟨o',ho,e'⟩:=Option.map_eq_some_iff.mp e
   cases e'
   exact⟨hb,ho⟩
 ·rintro⟨n,ho⟩
  refine⟨a,List.mem_range.mpr (Heap.lt_size ho),?_⟩
  rw [if_neg n,ho]
  rfl
section
variable {X:Cx}{pins:List (Addr×Obj)}{σ:St}{H:Hp}{s:Shared}
structure Cv (X:Cx) (pins:List (Addr×Obj)) (b:Addr):Prop where
 sz:X.s₀.heap.objs.size≤b
 loc:b≠X.env.locals
 cell:∀x c,X.env.cells.lookup x=some c→c≠b
 pin:∀p∈X.pn++pins,p.1≠b
 fs:b∉X.fs
theorem Inv.F1 {b:Addr}(I:Inv X pins σ H s) (h:s.heap.objs.size≤b):Cv X pins b where
 sz:=Nat.le_trans I.sz h
 loc:=Nat.ne_of_gt (Nat.lt_of_lt_of_le I.lt h)
 cell:=fun x c e=>by
  obtain⟨v,o,ho,_⟩:=I.cell x c e
  exact Nat.ne_of_lt (Nat.lt_of_lt_of_le (Heap.lt_size ho) h)
 pin:=fun p hp=>Nat.ne_of_lt (Nat.lt_of_lt_of_le (Heap.lt_size (I.pin p hp).1) h)
 fs:=I.LC h
theorem Inv.adopt {T:List Addr}{a:Addr}{o:HO}{h':Heap}{t':Nat}(I:Inv X pins σ H s) (hT:∀b∈T,Cv X pins b∧H b=none) (ha:a∈T)
  (k:∀b u,b∉T→b≠X.env.locals→s.heap.get? b=some u→h'.get? b=some u) (hL:∀m,s.heap.Ns X.env.locals m→h'.Ns X.env.locals m)
  (new:cw X.prog X.w (upd H a o) h' a o):Inv X pins σ (upd H a o) {s with heap:=h',toks:=t'}:=by
 have nT:∀b u,H b=some u→b∉T:=fun b u e z=>by rw [(hT b z).2] at e; cases e
 have na:∀b u,H b=some u→b≠a:=fun b u e z=>nT b u e (z▸ha)
 have nL:∀b u,H b=some u→b≠X.env.locals:=fun b u e z=>by rw [z,I.free] at e; cases e
 obtain⟨m,hn,_⟩:=id I.loc
 refine I.step (g':=s.gens) (d':=s.drawn) (ch:=T) (fun b hb=>⟨.inr (hT b hb).1.sz,(hT b hb).1.loc,(hT b hb).1.cell,(hT b hb).1.pin⟩) (fun b u h1 _ h2 e _=>k b u h2 h1 e) (fun b u h1 _ h2 e _=>⟨u.slots,k b u h2 h1 e⟩)
  (fun b u h2 e n=>by rw [ai (fun z:b=a=>h2 (by rw [z]; exact ha))]; exact n) (fun b u h2 e=>?_) (fun b xs e=>by rw [ai (na b _ e)]; exact e) (fun b u xs e=>by rw [ai (na b _ e)]; exact e) (fun b ps e=>⟨#[],by rw [ai (na b _ e),e]; simp⟩) hL (fun b u e=>?_) I.bare
 ·by_cases z:b=X.env.locals
  ·subst z
   obtain⟨o',_,_,ho,_⟩:=hL m hn
   exact⟨o',ho⟩
  ·exact⟨u,k b u h2 z e⟩
 ·by_cases z:b=a
  ·subst z
   rw [ae] at e
   cases e
   exact new
  ·rw [ai z] at e
   refine(I.bS b u e).fW (fun c v hc q=>?_) (fun c q=>by rw [ai (na c _ q)]; exact q) fun c xs q=>by rw [ai (na c _ q)]; exact q
   rcases hc with rfl | hc
   ·exact k c v (nT _ _ e) (nL _ _ e) q
   ·exact k c v (nT _ _ hc) (nL _ _ hc) q
theorem F2 {aO out:List Value}{ns:List Int}{g:Int→Int}(hi:IntsAre aO ns) (ko:KskOut false (ns.map g) aO out):∃fb:List Int,IntsAre out fb∧fb.Perm ns∧fb.Pairwise (fun x y=>g x≤g y):=by
 obtain⟨ps,hp,rfl,hs⟩:=ko
 have UI:∀p∈(ns.map g).zip aO,p.1=g (numOf p.2)∧p.2∈aO:=by
  rw [←hi.nums,List.map_map,List.zip_map_left]
  intro p hp
  obtain⟨⟨u,v⟩,hq,rfl⟩:=List.mem_map.mp hp
  obtain⟨h1,h2⟩:=mem_zip_self hq
  have h1:u=v:=h1
  have h2:u∈aO:=h2
  subst h1
  exact⟨rfl,h2⟩
 refine⟨(ps.map Prod.snd).map numOf,intsAre_map _ fun v hv=>?_,?_,?_⟩
 ·obtain⟨p,hp',rfl⟩:=List.mem_map.mp hv
  exact hi.all _ (UI p (hp.mem_iff.mp hp')).2
 ·have h1:=(hp.map Prod.snd).map numOf
  have hl:=hi.length
  rw [List.map_snd_zip (by rw [List.length_map]; omega),hi.nums] at h1
  exact h1
 ·rw [List.pairwise_map,List.pairwise_map]
  refine hs.imp_of_mem fun {p q} hp' TX hr=>?_
  have YZ:p.1≤q.1:=by simpa using hr
  rw [(UI p (hp.mem_iff.mp hp')).1,(UI q (hp.mem_iff.mp TX)).1] at YZ
  exact YZ
theorem F4 {l f:Addr}{ns:List Int}{g:Int→Int}{Q:VK}{E:Value→Shared→Prop}{fp:List (Addr×Obj)}(I:Inv X (fp++pins) σ H s) (hl:aF X.K H l (ns.map V.int)) (lI:ns.length < 64)
  (turn:∀(n:Int) (t:Tok) (rp:List (Addr×Obj)) (s':Shared),n∈ns→Inv X (rp++(fp++pins)) σ H s'→wpAny (model X.prog X.w) X.A.in1.in1 (call (.ref f) [.int n t]) (EP X (rp++(fp++pins)) σ (fun v H2=>v=.int (g n)∧H2=H)) (fun _ _=>False) s')
  (q:∀(D:Addr) (fb:List Int),H D=none→fb.Perm ns→fb.Pairwise (fun x y=>g x≤g y)→Q (.ref D) (upd H D (.lst (fb.map V.int)))) :
  wpAny (model X.prog X.w) X.A (call (.builtin "sorted") [.ref l] [(Str.ofString "key",.ref f)]) (EP X pins σ Q) E s:=by
 obtain⟨aO,rv,pl,hz⟩:=I.list hl
 have hI:=intsAre_of rv
 have hlen:=hI.length
 have afD:aO.length < 64:=by omega
 refine call_function_entry_kw kind_sorted plain_sorted entry_sorted (ksk_s1 _ _) ?_
 unfold Builtin.«sorted»
 refine wpAny_bind (m:=checkCount "sorted" 1 1 _) (wpAny_pure ?_)
 refine wpAny_bind (collect_list pl.isList ?_ (by rw [sizeLine_eq]; omega))
 refine wpAny_bind (wpAny_newList ?_ (by rw [sizeLine_eq]; omega))
 have hsz:((s.heap.push (seqObj "list" #[] 0)).update s.heap.objs.size (Obj.mapSeq (·++aO.toArray))).objs.size=s.heap.objs.size+1:=by
  rw [Heap.size_update,size_push']
 have EX:(((s.heap.push (seqObj "list" #[] 0)).update s.heap.objs.size (Obj.mapSeq (·++aO.toArray))).push (seqObj "list" aO.toArray 0)).get? (s.heap.objs.size+1)=some (seqObj "list" aO.toArray 0):=by
  rw [←hsz]; exact Heap.get?_push_size _ rfl
 have keep:∀b o,s.heap.get? b=some o→(((s.heap.push (seqObj "list" #[] 0)).update s.heap.objs.size (Obj.mapSeq (·++aO.toArray))).push (seqObj "list" aO.toArray 0)).get? b=some o:=fun b o q=>by
  have fo:b < s.heap.objs.size:=Heap.lt_size q
  rw [Heap.get?_push_ne _ _ _ (by rw [hsz]; exact Nat.ne_of_lt (Nat.lt_succ_of_lt fo)),Heap.get?_update_ne _ _ _ _ (Nat.ne_of_lt fo),Heap.get?_push_ne _ _ _ (Nat.ne_of_lt fo)]
  exact q
 have sz1:(((s.heap.push (seqObj "list" #[] 0)).update s.heap.objs.size (Obj.mapSeq (·++aO.toArray))).push (seqObj "list" aO.toArray 0)).objs.size=s.heap.objs.size+2:=by
  rw [size_push',hsz]
 show wpAny _ _ _ _ _ {s with heap:=((s.heap.push (seqObj "list" #[] 0)).update s.heap.objs.size (Obj.mapSeq (·++aO.toArray))).push (seqObj "list" aO.toArray 0)}
 rw [hsz]
 have MB:H (s.heap.objs.size+1)=none:=I.bS.fresh (Nat.le_succ _)
 have lJ:=I.F1 (b:=s.heap.objs.size+1) (Nat.le_succ _)
 have I1:=I.kept (t':=s.toks) keep
 generalize ((s.heap.push (seqObj "list" #[] 0)).update s.heap.objs.size (Obj.mapSeq (·++aO.toArray))).push (seqObj "list" aO.toArray 0)=hA at EX sz1 I1
 refine wpAny_bind (wpAny_holding (wpAny_call_entry_kw slot_list_sort ⟨_,EX,rfl⟩ entry_list_sort ?body (ksk_l1 _ _)))
 case body=>
  show wpAny (model X.prog X.w) X.A.in1.in1 (Builtin.«list.sort» ⟨[.ref (s.heap.objs.size+1)],[(Str.ofString "key",.ref f)]⟩) _ _ _
  rw [ksk_t1]
  unfold ksk_tree
  refine wpAny_bind (listItems_at EX rfl ?_)
  refine wpAny_bind (listUpdate_at EX rfl ?_ (by rw [List.size_toArray,sizeLine_eq]; omega) (Nat.zero_le _))
  have s1:=Heap.SameBut.update hA (s.heap.objs.size+1) (Obj.mapSeq fun _=>(#[]:Array Value))
  obtain⟨e1,ho1⟩:∃e1,(hA.update (s.heap.objs.size+1) (Obj.mapSeq fun _=>(#[]:Array Value))).get? (s.heap.objs.size+1)=some (seqObj "list" #[] e1):=⟨_,get?_update_seq EX fun _=>#[]⟩
  have I2:=I1.turned (t':=s.toks) (it:=s.heap.objs.size+1) (h':=hA.update (s.heap.objs.size+1) (Obj.mapSeq fun _=>(#[]:Array Value))) (fun b o n e=>(s1.2 b n).trans e) MB lJ.loc (.inr lJ.sz) lJ.cell lJ.pin
  have sz2:(hA.update (s.heap.objs.size+1) (Obj.mapSeq fun _=>(#[]:Array Value))).objs.size=s.heap.objs.size+2:=by rw [Heap.size_update,sz1]
  generalize hA.update (s.heap.objs.size+1) (Obj.mapSeq fun _=>(#[]:Array Value))=hB at ho1 I2 sz2
  refine wpAny_bind (seqEpoch_at ho1 rfl ?_)
  refine wpAny_bind (wpAny_newTuple ?_ (by show aO.length≤_; rw [sizeLine_eq]; omega))
  refine wpAny_bind (wpAny_newList ?_ (Nat.zero_le _))
  refine wpAny_holding ?_
  have hkS:(hB.push (seqObj "tuple" aO.toArray 0)).objs.size=s.heap.objs.size+3:=by rw [size_push',sz2]
  have k3:∀b o,hB.get? b=some o→((hB.push (seqObj "tuple" aO.toArray 0)).push (seqObj "list" #[] 0)).get? b=some o:=fun b o e=>Heap.get?_push_of_some _ (Heap.get?_push_of_some _ e)
  have Mi:((hB.push (seqObj "tuple" aO.toArray 0)).push (seqObj "list" #[] 0)).get? (s.heap.objs.size+3)=some (seqObj "list" #[] 0):=by
   rw [←hkS]
   exact Heap.get?_push_size _ rfl
  have I3:=I2.kept (t':=s.toks) k3
  have z_:=k3 _ _ ho1
  have hnk:H (s.heap.objs.size+3)=none:=I.bS.fresh (by omega)
  have lK:=I.F1 (b:=s.heap.objs.size+3) (by omega)
  show wpAny (model X.prog X.w) X.A.in1.in1 (ksk_rest _ _ _ _ _ (.ref (hB.push (seqObj "tuple" aO.toArray 0)).objs.size)) _ _ {s with heap:=(hB.push (seqObj "tuple" aO.toArray 0)).push (seqObj "list" #[] 0)}
  rw [hkS]
  generalize (hB.push (seqObj "tuple" aO.toArray 0)).push (seqObj "list" #[] 0)=hC at I3 z_ Mi
  have hka:s.heap.objs.size+3≠s.heap.objs.size+1:=by omega
  generalize s.heap.objs.size+3=kS at Mi hnk lK hka
  generalize s.heap.objs.size+1=a at z_ MB lJ hka
  have aac:∀{s':Shared}{kA:Array Value}{e:Nat},Inv X (fp++pins) σ H s'→s'.heap.get? kS=some (seqObj "list" kA e)→s'.heap.get? a=some (seqObj "list" #[] e1)→Inv X ([(kS,seqObj "list" kA e),(a,seqObj "list" #[] e1)]++(fp++pins)) σ H s':=fun {s' kA e} J h1 h2=>by
   refine J.fC fun p hp=>?_
   rcases List.mem_append.mp hp with hp | hp
   ·rcases List.mem_cons.mp hp with rfl | hp
    ·exact⟨h1,hnk,lK.loc,lK.fs,fun v z=>by cases z⟩
    ·rw [List.mem_singleton.mp hp]
     exact⟨h2,MB,lJ.loc,lJ.fs,fun v z=>by cases z⟩
   ·exact J.pin p (List.mem_append_right _ hp)
  have PZ:∀{s':Shared}{kA:Array Value}{e:Nat},Inv X ([(kS,seqObj "list" kA e),(a,seqObj "list" #[] e1)]++(fp++pins)) σ H s'→Inv X (fp++pins) σ H s'∧s'.heap.get? kS=some (seqObj "list" kA e)∧s'.heap.get? a=some (seqObj "list" #[] e1):=fun {s' kA e} J=>
   ⟨J.fC fun p hp=>J.pin p (List.mem_append_right _ (List.mem_append_right _ hp)),(J.pin (kS,seqObj "list" kA e) (List.mem_append_right _ (by simp))).1,(J.pin (a,seqObj "list" #[] e1) (List.mem_append_right _ (by simp))).1⟩
  unfold ksk_rest
  refine wpAny_bind (wpAny_rule ?_)
  first
   | rw [List.forIn_toArray]
   | (rw [←Array.forIn_toList]; simp only [List.toList_toArray])
   | rw [←Array.forIn_toList]
  refine wpAny_bind (ksk_fold (fun i s'=>∃kA e,Inv X ([(kS,seqObj "list" kA e),(a,seqObj "list" #[] e1)]++(fp++pins)) σ H s'∧IntsAre kA.toList ((ns.map g).take i)) aO 0 _ ⟨#[],0,aac I3 Mi z_,by simpa using IntsAre.nil⟩ ?step ?done)
  case step=>
   rintro j x s' hx ⟨kA,e,J,hk⟩
   simp only [Nat.zero_add] at hk ⊢
   have hj:j < aO.length:=(List.getElem?_eq_some_iff.mp hx).1
   obtain⟨n,t,rfl,hn⟩:=hI.at j x hx
   have hz:kA.size≤aO.length:=by
    have h1:=hk.length
    rw [Array.length_toList,List.length_take,List.length_map] at h1
    omega
   refine wpAny_bind (wpAny_attempt (wpAny_mono (turn n t _ s' (List.mem_of_getElem? hn) J) (fun v s2 he=>?_) fun _ _ hF=>hF.elim))
   obtain⟨v',H2,J2,rv,ev,eH⟩:=he
   subst ev
   subst eH
   obtain⟨t2,rfl⟩:=rv
   try dsimp only
   obtain⟨J3,nk,na⟩:=PZ J2
   have s1:=Heap.SameBut.update s2.heap kS (Obj.mapSeq (·.push (.int (g n) t2)))
   obtain⟨c2,LZ⟩:∃c2,(s2.heap.update kS (Obj.mapSeq (·.push (.int (g n) t2)))).get? kS=some (seqObj "list" (kA.push (.int (g n) t2)) c2):=⟨_,get?_update_seq nk (·.push (.int (g n) t2))⟩
   have ek:(ns.map g).take (j+1)=(ns.map g).take j++[g n]:=by rw [List.take_add_one,List.getElem?_map,hn]; rfl
   have ea:(kA.push (Value.int (g n) t2)).toList=kA.toList++[Value.int (g n) t2]:=by simp
   refine wpAny_bind (listUpdate_at nk rfl ?_ (by rw [sizeLine_eq]; omega) (Nat.le_trans (Nat.le_of_eq (Array.size_push ..)) (by rw [sizeLine_eq]; omega)))
   refine wpAny_pure ⟨rfl,kA.push (.int (g n) t2),c2,aac (J3.turned (t':=s2.toks) (it:=kS) (fun b o n e=>(s1.2 b n).trans e) hnk lK.loc (.inr lK.sz) lK.cell lK.pin) LZ ((s1.2 a hka.symm).trans na),by rw [ea,ek]; exact ksk_snoc hk⟩
  case done=>
   rintro s' ⟨kA,e,J,hk⟩
   have hk':IntsAre kA.toList (ns.map g):=by
    have e3:(ns.map g).take (0+aO.length)=ns.map g:=List.take_of_length_le (by rw [List.length_map]; omega)
    rw [e3] at hk
    exact hk
   obtain⟨J3,nk,na⟩:=PZ J
   try dsimp only
   refine wpAny_bind (listItems_at nk rfl ?_)
   obtain⟨m,hn,_⟩:=id J3.loc
   refine ksk_end_ (e:=e) (e1:=e1) (h₀:=T8.lF s'.heap) (L:=X.env.locals) (m:=m) (news:=led s'.heap [X.env.locals,kS,a]) (T8.Fq hn) (fun p hp=>?_) hka (fun p hp=>?_) (fun p hp=>?_) hk' (by rw [List.length_map,hlen]) afD fun h' tk out c F3 N3 ko=>⟨_,rfl,?_⟩
   ·rcases List.mem_append.mp hp with hp | hp
    ·obtain⟨b,o⟩:=p
     obtain⟨n1,n2⟩:=nV.mp hp
     exact⟨n2,fun z=>n1 (by simp [show b=_ from z]),T8.dY _ _⟩
    ·rcases List.mem_cons.mp hp with rfl | hp
     ·exact⟨nk,lK.loc,T8.dY _ _⟩
     ·rw [List.mem_singleton.mp hp]
      exact⟨na,lJ.loc,T8.dY _ _⟩
   ·obtain⟨b,o⟩:=p
    exact fun z=>(nV.mp hp).1 (by simp [show b=_ from z])
   ·obtain⟨b,o⟩:=p
    exact fun z=>(nV.mp hp).1 (by simp [show b=_ from z])
   obtain⟨fb,o1,o2,o3⟩:=F2 hI ko
   have hlo:=o2.length_eq
   have J4:Inv X pins σ H s':=J3.fC fun p hp=>J3.pin p (List.mem_append_right _ (List.mem_append_right _ hp))
   have aad:Cv X pins a:=⟨lJ.sz,lJ.loc,lJ.cell,fun p hp=>lJ.pin p ((List.mem_append.mp hp).elim (fun z=>List.mem_append_left _ z) fun z=>List.mem_append_right _ (List.mem_append_right _ z)),lJ.fs⟩
   have aae:Cv X pins kS:=⟨lK.sz,lK.loc,lK.cell,fun p hp=>lK.pin p ((List.mem_append.mp hp).elim (fun z=>List.mem_append_left _ z) fun z=>List.mem_append_right _ (List.mem_append_right _ z)),lK.fs⟩
   have J5:=J4.adopt (T:=[kS,a]) (a:=a) (o:=.lst (fb.map V.int)) (h':=h') (t':=tk) (fun b hb=>by
    rcases List.mem_cons.mp hb with rfl | hb
    ·exact⟨aae,hnk⟩
    ·rw [List.mem_singleton.mp hb]
     exact⟨aad,MB⟩) (by simp) (fun b u n1 n2 e=>(N3 (b,u) (List.mem_cons_of_mem _ (nV.mpr ⟨by simp only [List.mem_cons,List.not_mem_nil,or_false,not_or] at n1 ⊢; exact⟨n2,n1⟩,e⟩))).1) (fun m' hm'=>by rw [UH hm' hn]; exact F3.ns)
    ⟨by rw [List.length_map,sizeLine_eq]; omega,out.toList,c,fY o1,by rw [Array.toArray_toList]; exact(N3 _ (List.mem_cons_self ..)).1⟩
   exact wpAny_pure ⟨_,rfl,.ref a,_,J5,rfl,q a fb MB o2 o3⟩
structure F5 (scope:Scope) (p fv:Str):Prop where
 kind:scope.kind=.function
 co:scope.isCoroutine=false
 gen:scope.isGenerator=false
 par:scope.names.lookup p=some .local
 free:scope.names.lookup fv=some .free
 only:∀x∈scope.names,x.2=.free→x.1=fv
 cell:∀x∈scope.names,x.2≠.cell
 ne:p≠fv
noncomputable def F6 (X:Cx) (p fv:Str) (env:Env) (s:Shared) (H:Hp):Cx:={X with A:=X.A.in1.in1.deeper env,N:=[p,fv],s₀:=s,H₀:=H,env:=env,outer:=X.stack,stack:=env::X.stack,ex:=[],fn:=fun _=>false,pn:=[],xe:=fun _ _=>False}
theorem MC {p fv qual:Str}{scope:Scope}{f cv:Addr}{cd:Value}{i:Nat}{v vf:V}{u:Value}{h1:Heap}{tk:Nat}(I:Inv X pins σ H s) (S:F5 scope p fv) (hi:X.N[i]?=some fv) (hσ:σ[i]?=some (some vf)) (hk:X.env.scope.names.lookup fv=some .cell) (hc:X.env.cells.lookup fv=some cv) (ru:RelV v u)
  (ji:h1.Ns s.heap.objs.size (fun x=>[(p,u)].reverse.lookup x)) (rG:Heap.SameBut s.heap.objs.size (s.heap.push {cls:=.type "frame",data:=.dict #[]}) h1) :
  Inv (F6 X p fv (PySem.W.envX qual scope s.heap.objs.size f cd [(fv,cv)]) s H) [] [some v,some vf] H {s with heap:=h1,toks:=tk}:=by
 have all:∀b o,s.heap.get? b=some o→h1.get? b=some o:=fun b o e=>(rG.2 b (Nat.ne_of_lt (Heap.lt_size e))).trans (Heap.get?_push_of_some _ e)
 have one:∀x c,List.lookup x [(fv,cv)]=some c→x=fv∧c=cv:=fun x c e=>by
  rw [List.lookup_cons] at e
  split at e
  ·next z=>exact⟨by simpa using z,by cases e; rfl⟩
  ·cases e
 have onl:∀x,scope.names.lookup x=some .free→x=fv:=fun x e=>S.only _ (PySem.mem_of_lookup e) rfl
 have ncl:∀x,scope.names.lookup x≠some .cell:=fun x e=>S.cell _ (PySem.mem_of_lookup e) rfl
 obtain⟨m,hm,hl⟩:=I.loc
 obtain⟨uf,rf,l⟩:=hl i fv vf hi hσ (.inr (.inl hk))
 have gL:s.heap.IsCell cv (some uf):=by
  rcases l with ⟨z,_⟩ | ⟨_,c,e,z⟩
  ·rw [show X.env.kindOf fv=some .cell from hk] at z
   cases z
  ·rw [hc] at e
   cases e
   exact z
 have F7:h1.IsCell cv (some uf):=by
  obtain⟨o,ho,hd⟩:=gL
  exact⟨o,all _ _ ho,hd⟩
 refine⟨⟨I.ok.mod,S.kind,rfl,rfl,Nat.le_refl _,fun x y c e1 e2=>by rw [(one x c e1).1,(one y c e2).1],fun x hx=>?_,(fun x c z=>by cases z),I.ok.hd,Around.frames_deeper I.ok.frames,.inr ⟨rfl,rfl⟩,(fun b z=>nomatch z),I.bs,Nat.le_trans I.ok.B6 I.sz,(fun b o e z=>nomatch z),(fun b z=>nomatch z),I.stack,I.nK⟩,
  rfl,I.bare,Un.kept all,⟨_,ji,fun j x w e1 e2 e3=>?_⟩,fun x c e=>?_,I.bS.fresh (Nat.le_refl _),fun x c e=>?_,(fun q z=>nomatch z),I.bS.kept all,rfl⟩
 ·rcases hx with hx | hx
  ·exact absurd hx (ncl x)
  ·rw [onl x hx]
   exact⟨cv,by show List.lookup fv [(fv,cv)]=_; simp [List.lookup]⟩
 ·match j,e1,e2 with
  | 0,e1,e2=>
   cases e1
   cases e2
   exact⟨u,ru,.inl ⟨S.par,by show List.lookup p [(p,u)]=_; simp [List.lookup]⟩⟩
  | 1,e1,e2=>
   cases e1
   cases e2
   exact⟨uf,rf,.inr ⟨.inr S.free,cv,by show List.lookup fv [(fv,cv)]=_; simp [List.lookup],F7⟩⟩
 ·obtain⟨rfl,rfl⟩:=one x c e
  exact⟨_,F7⟩
 ·obtain⟨rfl,rfl⟩:=one x c e
  exact I.fB _ _ hc
theorem F8 {p fv name qual:Str}{params:Arguments}{body:Expr}{scope:Scope}{pm wm:Value}{f cv c':Addr}{i k:Nat}{v vf:V}{u:Value}{tb:TE}{Q:VK}(I:Inv X pins σ H s) (hr:cL (k+2) X.A) (S:F5 scope p fv) (hi:X.N[i]?=some fv) (hσ:σ[i]?=some (some vf)) (hk:X.env.scope.names.lookup fv=some .cell) (hc:X.env.cells.lookup fv=some cv)
  (ho:s.heap.get? f=some (PySem.W.kla_obj name qual params body scope [(fv,cv)] pm c' wm)) (s_:s.heap.CodeRec (.ref c') qual) (wq:bindArgs (PySem.W.kla_fn name qual params body scope [(fv,cv)] pm (.ref c') wm) ⟨[u],[]⟩=pure [(p,u)]) (ru:RelV v u)
  (hb:PE (F6 X p fv (PySem.W.envX qual scope s.heap.objs.size f (.ref c') [(fv,cv)]) s H) body tb) (h:tb [some v,some vf] H Q) :
  wpAny (model X.prog X.w) X.A.in1.in1 (call (.ref f) [u]) (EP X pins σ Q) (fun _ _=>False) s:=by
 refine wpAny_call (PySem.W.kla_callFunE (by have:=hr.in1.in1; exact this.depth) ho rfl S.co S.gen rfl s_ ?_)
 rw [wq]
 refine wpAny_pure (wpAny_newFunctionEnv S.cell (fun y hy=>by rw [List.mem_singleton.mp hy]; exact S.par) (fun h1 ji rG=>⟨?_,?_⟩) S.kind)
 ·exact I.nolimit.keeps fun b o e=>(rG.2 b (Nat.ne_of_lt (Heap.lt_size e))).trans (Heap.get?_push_of_some _ e)
 have J:=MC (qual:=qual) (f:=f) (cd:=.ref c') (tk:=s.toks+[(p,u)].length) I S hi hσ hk hc ru ji rG
 refine PySem.W.kla_codeExpr (wpAny_mono (hb [] _ _ H _ J h) (fun w s2 ⟨x,H2,J2,rx,q⟩=>?_) fun _ _ z=>z.elim)
 exact I.after ⟨x,H2,J2.os,J2.bare,J2.base,J2.bS,rx,q⟩
class BM (mg:Str→Option Value) (base:Heap):Prop where
 ex:∃bm ob,mg "__builtins__"=some (.ref bm)∧bm≠builtinsNs∧bm≠mainGlobals∧base.get? bm=some ob∧ob.cls=.type "module"∧ob.dict=some builtinsNs∧ob.data=.plain
noncomputable def dC (P:Addr) (H H':Hp):Prop:=∀b o,b≠P→H b=some o→H' b=some o
theorem dC.refl (P:Addr) (H:Hp):dC P H H:=fun _ _ _ e=>e
theorem dC.trans {P:Addr}{H H' H2:Hp}(a:dC P H H') (b:dC P H' H2):dC P H H2:=fun c o n e=>b c o n (a c o n e)
theorem dC.of {P:Addr}{H H':Hp}(s:ak H H'):dC P H H':=fun b o _ e=>s b o e
noncomputable def Tb (P:Addr) (dD:Pos) (lq:Str) (H:Hp):Prop:=H P=some (.dS #[])∨∃c',H P=some (.dS #[rawInt dD.line,rawInt dD.col,.ref c'])∧H c'=some (.ext fun h=>h.CodeRec (.ref c') lq)
theorem Tb.dS {P:Addr}{dD:Pos}{lq:Str}{H:Hp}(t:Tb P dD lq H):∃ps,H P=some (.dS ps):=by
 rcases t with t | ⟨c',t,_⟩
 ·exact⟨_,t⟩
 ·exact⟨_,t⟩
theorem Tb.same {P:Addr}{dD:Pos}{lq:Str}{H H':Hp}(t:Tb P dD lq H) (s:ak H H'):Tb P dD lq H':=by
 rcases t with t | ⟨c',t,u⟩
 ·exact .inl (s _ _ t)
 ·exact .inr ⟨c',s _ _ t,s _ _ u⟩
theorem dC.seq {P:Addr}{K:PySem.W.Frag}{H H':Hp}{a:Addr}{xs:List V}{ps:Array Value}(s:dC P H H') (t:H P=some (.dS ps)) (h:aF K H a xs):aF K H' a xs:=by
 rcases h with h | h
 ·refine .inl ?_
  rcases h with h | ⟨o,h⟩
  ·exact .inl (s _ _ (fun z=>by rw [z,t] at h; cases h) h)
  ·exact .inr ⟨o,s _ _ (fun z=>by rw [z,t] at h; cases h) h⟩
 ·exact .inr h
theorem AF {P:Program}{w:World}{H:Hp}{h:Heap}{c':Addr}{lq:Str}(e:h.CodeRec (.ref c') lq):cw P w H h c' (.ext fun h=>h.CodeRec (.ref c') lq):=by
 refine⟨e,?_,fun h1 h2 z k=>?_⟩
 ·obtain⟨c,oc,vs,tq,e1,e2,_⟩:=e
  cases e1
  exact⟨_,e2⟩
 ·obtain⟨c,oc,vs,tq,e1,e2,r⟩:=z
  cases e1
  exact⟨_,oc,vs,tq,rfl,k _ e2,r⟩
theorem UJ {P c cv:Addr}{fv name qual:Str}{params:Arguments}{body:Expr}{scope:Scope}{dD:Pos}{fl:Nat}{Q:Value→Shared→Prop}{E:Value→Shared→Prop} [B:BM X.mg X.base] (I:Inv X pins σ H s) (Cw:X.env.code=.ref c) (C:PySem.W.codeHdIn X.K c P=true) (tb:Tb P dD qual H) (nN:closureFor scope X.env=pure [(fv,cv)])
  (h:∀f c' wm H' s',Inv X ([(f,PySem.W.kla_obj name qual params body scope [(fv,cv)] ((X.mg "__name__").getD .none) c' wm)]++pins) σ H' s'→dC P H H'→Tb P dD qual H'→H' c'=some (.ext fun h=>h.CodeRec (.ref c') qual)→Q (.ref f) s') :
  wpAny (model X.prog X.w) X.A (makeFunction name qual params (.expr body) scope X.env [] [] [] dD fl) Q E s:=by
 obtain⟨ps,eP⟩:=tb.dS
 have hP:s.heap.get? P=some (PySem.W.tabObj ps):=I.bS P _ eP
 have CH:PySem.W.CodeHd s.heap c P:=PySem.W.codeHd_of_K I.sX C
 have nP:∀b o,X.base.get? b=some o→b≠P:=fun b o e z=>by
  have:=(I.bs b o e).2
  rw [z,eP] at this
  cases this
 have hg:s.heap.Ns mainGlobals X.mg:=I.mod.glob.keeps I.bk
 have hgP:mainGlobals≠P:=by
  obtain⟨o,_,_,e,_⟩:=I.mod.glob
  exact nP _ _ e
 obtain⟨bm,ob,b1,b2,b3,b4,b5⟩:=B.ex
 have hb:s.heap.BuiltinsAt X.mg P:=⟨bm,ob,b1,b2,b3,nP _ _ b4,I.bk _ _ b4,b5⟩
 have aaf:∀{h2:Heap}{f:Addr}{o:Obj}{H':Hp}{tk:Nat},Inv X pins σ H' {s with heap:=h2,toks:=tk}→h2.get? f=some o→H' f=none→s.heap.objs.size≤f→(∀v,o.data≠.cell v)→Inv X ([(f,o)]++pins) σ H' {s with heap:=h2,toks:=tk}:=fun {h2 f o H' tk} J e n hf hd=>by
  have nw:=I.F1 hf
  refine J.fC fun p hp=>?_
  rcases List.mem_append.mp hp with hp | hp
  ·rw [List.mem_singleton.mp hp]
   exact⟨e,n,nw.loc,nw.fs,hd⟩
  ·exact J.pin p (List.mem_append_right _ hp)
 rcases tb with t | ⟨c',t,u⟩
 ·rw [t] at eP
  cases eP
  refine PySem.W.kla_makeFunction (mg:=X.mg) nN I.ok.glob hg Cw CH hP trivial rfl hgP hb fun c' wm h' tk hx hge fo afE htb=>?_
  have hcn:H c'=none:=I.bS.fresh hge
  have B8:H h'.objs.size=none:=I.bS.fresh (Nat.le_of_lt (Nat.lt_of_le_of_lt hge fo))
  have ncP:c'≠P:=fun z=>by rw [z,t] at hcn; cases hcn
  have nfP:h'.objs.size≠P:=fun z=>by rw [z,t] at B8; cases B8
  have k:∀b o,b≠P→s.heap.get? b=some o→(h'.push (PySem.W.kla_obj name qual params body scope [(fv,cv)] ((X.mg "__name__").getD .none) c' wm)).get? b=some o:=fun b o n e=>Heap.get?_push_of_some _ (hx b o n e)
  have old:∀b o,s.heap.get? b=some o→b≠c':=fun b o e=>Nat.ne_of_lt (Nat.lt_of_lt_of_le (Heap.lt_size e) hge)
  have nn:∀b,H b=none→b≠P:=fun b e z=>by rw [z,t] at e; cases e
  have nc:∀b o,H b=some o→b≠c':=fun b o e z=>by rw [z,hcn] at e; cases e
  have np:∀b o,H b=some o→(∀ps,o≠.dS ps)→b≠P:=fun b o e n z=>by rw [z,t] at e; cases e; exact n _ rfl
  have hP2:(h'.push (PySem.W.kla_obj name qual params body scope [(fv,cv)] ((X.mg "__name__").getD .none) c' wm)).get? P=some (PySem.W.tabObj #[rawInt dD.line,rawInt dD.col,.ref c']):=Heap.get?_push_of_some _ (by simpa using htb)
  have aag:(h'.push (PySem.W.kla_obj name qual params body scope [(fv,cv)] ((X.mg "__name__").getD .none) c' wm)).CodeRec (.ref c') qual:=by
   obtain⟨c2,oc,vs,tq,e1,e2,r⟩:=afE
   exact⟨c2,oc,vs,tq,e1,Heap.get?_push_of_some _ e2,r⟩
  have J:Inv X pins σ (upd (upd H P (.dS #[rawInt dD.line,rawInt dD.col,.ref c'])) c' (.ext fun h=>h.CodeRec (.ref c') qual)) {s with heap:=h'.push (PySem.W.kla_obj name qual params body scope [(fv,cv)] ((X.mg "__name__").getD .none) c' wm),toks:=tk}:=by
   refine I.un ⟨fun b o e n _ _=>k b o (nn b n) e,fun b o e n _ _=>⟨o.slots,k b o (nn b n) e⟩,fun b o e n _=>by rw [ai (old b o e),ai (nn b n)]; exact n,fun b o e _=>?_,fun b xs e=>by rw [ai (nc b _ e),ai (np b _ e (fun _ z=>by cases z))]; exact e,fun b o xs e=>by rw [ai (nc b _ e),ai (np b _ e (fun _ z=>by cases z))]; exact e,fun b ps e=>?_⟩ fun b o e=>?_
   ·by_cases z:b=P
    ·subst z
     exact⟨_,hP2⟩
    ·exact⟨o,k b o z e⟩
   ·by_cases z:b=P
    ·subst z
     rw [t] at e
     cases e
     exact⟨#[rawInt dD.line,rawInt dD.col,.ref c'],by rw [ai ncP.symm,ae]; simp⟩
    ·exact⟨#[],by rw [ai (nc b _ e),ai z,e]; simp⟩
   ·by_cases z1:b=c'
    ·subst z1
     rw [ae] at e
     cases e
     exact AF aag
    ·rw [ai z1] at e
     by_cases z2:b=P
     ·subst z2
      rw [ae] at e
      cases e
      exact hP2
     ·rw [ai z2] at e
      refine(I.bS b o e).fW (fun d v hd r=>k d v ?_ r) (fun d r=>by rw [ai (nc d _ r),ai (np d _ r (fun _ z=>by cases z))]; exact r) fun d xs r=>by rw [ai (nc d _ r),ai (np d _ r (fun _ z=>by cases z))]; exact r
      rcases hd with rfl | hd
      ·exact z2
      ·exact np d _ hd (fun _ z=>by cases z)
  have hf':upd (upd H P (.dS #[rawInt dD.line,rawInt dD.col,.ref c'])) c' (.ext fun h=>h.CodeRec (.ref c') qual) h'.objs.size=none:=by rw [ai (Nat.ne_of_gt fo),ai nfP]; exact B8
  exact h _ c' wm _ _ (aaf J (Heap.get?_push_size _ rfl) hf' (Nat.le_of_lt (Nat.lt_of_le_of_lt hge fo)) (fun v z=>by cases z)) (fun b o n e=>by rw [ai (nc b _ e),ai n]; exact e) (.inr ⟨c',by rw [ai ncP.symm,ae],ae⟩) ae
 ·rw [t] at eP
  cases eP
  have hcu:s.heap.CodeRec (.ref c') qual:=(show cw X.prog X.w H s.heap c' (.ext fun h=>h.CodeRec (.ref c') qual) from I.bS c' _ u).1
  refine PySem.W.kla_makeFunctionHit (mg:=X.mg) nN I.ok.glob hg Cw CH hP ?_ (cv:=.ref c') ?_ hb fun wm h' tk hk hsz=>?_
  ·simp [TriplesOk,rawInt]
  ·simp [codeAmong,rawInt]
  ·have J:=I.kept (t':=tk) (h':=h'.push (PySem.W.kla_obj name qual params body scope [(fv,cv)] ((X.mg "__name__").getD .none) c' wm)) fun b o e=>Heap.get?_push_of_some _ (hk b o e)
   exact h _ c' wm H _ (aaf J (Heap.get?_push_size _ rfl) (I.bS.fresh hsz) hsz (fun v z=>by cases z)) (.refl _ _) (.inr ⟨c',t,u⟩) u
noncomputable def wu (K:PySem.W.Frag) (P:Addr) (dD:Pos) (lq:Str) (i:Nat) (tb tl:TE):TE:=fun σ H Q=>tl σ H fun x H1=>∃(a:Addr) (ns:List Int) (vf:V) (g:Int→Int),x=.ref a∧aF K H1 a (ns.map V.int)∧ns.length < 64∧σ[i]?=some (some vf)∧Tb P dD lq H1 ∧
 (∀H2,dC P H1 H2→∀n∈ns,tb [some (.int n),some vf] H2 fun v H3=>v=.int (g n)∧H3=H2) ∧
 ∀(D:Addr) (H2:Hp) (fb:List Int),H1 D=none→dC P H1 H2→Tb P dD lq H2→H2 D=some (.lst (fb.map V.int))→fb.Perm ns→fb.Pairwise (fun x y=>g x≤g y)→Q (.ref D) H2
theorem oA {l body:Expr}{tl tb:TE}{p fv:Str}{np kp dD pos:Pos}{params:Arguments}{scope:Scope}{P c cv:Addr}{i k:Nat} [B:BM X.mg X.base] (hg:Gl X "sorted") (hm:X.mg "sorted"=none) (hl:PE X l tl) (hr:cL (k+2) X.A) (S:F5 scope p fv) (hi:X.N[i]?=some fv) (hk:X.env.scope.names.lookup fv=some .cell) (hc:X.env.cells.lookup fv=some cv)
  (Cw:X.env.code=.ref c) (C:PySem.W.codeHdIn X.K c P=true) (nN:closureFor scope X.env=pure [(fv,cv)]) (afF:defaultsOf params X.env=([],[]))
  (wq:∀(pm cd wm u:Value),bindArgs (PySem.W.kla_fn "<lambda>" (X.env.qual++"<lambda>") params body scope [(fv,cv)] pm cd wm) ⟨[u],[]⟩=pure [(p,u)])
  (hb:∀(s:Shared) (f c':Addr) (H2:Hp),PE (F6 X p fv (PySem.W.envX (X.env.qual++"<lambda>") scope s.heap.objs.size f (.ref c') [(fv,cv)]) s H2) body tb)
  (he:starEach [l] X.env=[(false,eval l X.env)]:=by rfl) :
  PE X (.Call (.Name "sorted" np) [l] [⟨some "key",.Lambda params body scope dD,kp⟩] pos) (wu X.K P dD (X.env.qual++"<lambda>") i tb tl):=by
 intro pins s σ H Q I h
 refine wpAny_Call_Name_kw (lD I hg hm f_ (callWith_kw ?_ (by rw [he]; rfl) (by rw [he]; rfl) rfl rfl))
 have hA:PA X [l] (j9 tl tH):=aa hl af he
 refine b9 (hA pos pins s σ H (fun vs H1=>match vs with
  | [x]=>∃(a:Addr) (ns:List Int) (vf:V) (g:Int→Int),x=.ref a∧aF X.K H1 a (ns.map V.int)∧ns.length < 64∧σ[i]?=some (some vf)∧Tb P dD (X.env.qual++"<lambda>") H1 ∧
   (∀H2,dC P H1 H2→∀n∈ns,tb [some (.int n),some vf] H2 fun v H3=>v=.int (g n)∧H3=H2) ∧
   ∀(D:Addr) (H2:Hp) (fb:List Int),H1 D=none→dC P H1 H2→Tb P dD (X.env.qual++"<lambda>") H2→H2 D=some (.lst (fb.map V.int))→fb.Perm ns→fb.Pairwise (fun x y=>g x≤g y)→Q (.ref D) H2
  | _=>False) I h) fun us s1 ⟨vs,H1,I1,r1,q1⟩=>?_
 match vs,r1,q1 with
 | [x],.cons (b:=u) ra .nil,q1=>
  obtain⟨a,ns,vf,g,ex,hL,lI,hσ,ht,hbt,hq⟩:=q1
  subst ex
  obtain rfl:u=Value.ref a:=ra
  refine kws_cons (PySem.W.kla_eval afF (UJ I1 Cw C ht nN fun f c' wm H2 s2 J hS P0 Ld=>kws_nil ?_))
  obtain⟨ps,eP⟩:=ht.dS
  show wpAny (model X.prog X.w) X.A (call (.builtin "sorted") [.ref a] [(Str.ofString "key",.ref f)]) _ _ _
  refine F4 (g:=g) J (hS.seq eP hL) lI (fun n t rp s' hn J'=>?_) fun D fb hD h1 h2=>?_
  ·have hcr:s'.heap.CodeRec (.ref c') (X.env.qual++"<lambda>"):=(show cw X.prog X.w H2 s'.heap c' (.ext fun h=>h.CodeRec (.ref c') (X.env.qual++"<lambda>")) from J'.bS c' _ Ld).1
   exact F8 (v:=.int n) J' hr S hi hσ hk hc (J'.pin (f,PySem.W.kla_obj "<lambda>" (X.env.qual++"<lambda>") params body scope [(fv,cv)] ((X.mg "__name__").getD .none) c' wm) (by simp)).1 hcr (wq _ _ _ _) ⟨t,rfl⟩ (hb s' f c' H2) (hbt H2 hS n hn)
  ·have sD:=ak.put (o:=.lst (fb.map V.int)) hD
   refine hq D _ fb ?_ (hS.trans (.of sD)) (P0.same sD) ae h1 h2
   cases e:H1 D with
   | none=>rfl
   | some o=>
    by_cases z:D=P
    ·obtain⟨ps2,e2⟩:=P0.dS
     rw [z,e2] at hD
     cases hD
    ·rw [hS D o z e] at hD
     cases hD
end
section
variable {P:Program}{w:World}{K:PySem.W.Frag}{mg:Str→Option Value}{base:Heap}
theorem cD.okC {x qual:Str}{st:Stmt}{f:Addr}{fd:FuncData}{N ps:List Str}{k:Nat}{sp:Sp}(F:cD K x qual st f fd) (S:av N ps (aj st)) (len:∀vs H Q E,sp vs H Q E→vs.length=ps.length)
  (vS:∀(bL:Value) (A:Around) (outer:List Env) (s:Shared) (H:Hp) (vs:List V) (Q:VK) (E:XK),fd.code=bL→cL k (A.deeper (envOfC qual (aj st) s.heap.objs.size f bL))→sp vs H Q E →
   ∃t,sZ (vQ cC P w K mg base N qual (aj st) f bL A outer s H E).YW (dk st) t∧t {nx:=fun _ H'=>Q .bf H',rt:=Q} (start N vs) H):aU P w K mg base cC (k+1) f fd ps sp:=by
 obtain⟨oc,od,kV,doc,pm,an,bL,ct,Fl,rfl,lk,s_⟩:=F.ex
 refine PB lk s_ S len fun A outer s H vs Q E hr Lg=>?_
 obtain⟨t,h,q⟩:=vS bL A outer s H vs Q E rfl hr Lg
 exact⟨t,h.YW,q⟩
end
noncomputable def F9 (ts:List Addr) (H:Hp):Prop:=(∀b,H b=none∨(∃o xs,H b=some (.vt o (.lst xs)))∨(b∈ts∧H b=some (.dS #[])))∧∀b∈ts,H b=some (.dS #[])
theorem DK {P:Program}{w:World}{K:PySem.W.Frag}{mg mb:Str→Option Value}{CX:vO}{k:Nat}{fa a:Addr}{fd:FuncData}{x:Str}{sp:Sp}{s₁:Shared}{vs:List Value}{ns:List Int}{ts:List Addr}
  (KX:K.In s₁.heap) (ji:s₁.heap.Ns mainGlobals mg) (hb:s₁.heap.Ns builtinsNs mb) (hbb:∀x:Str,x≠"__name__"→mb x=bootBuiltins x) (afG:s₁.heap.NoLimit) (hg:s₁.gens=#[])
  (wx:∀b∈ts,s₁.heap.get? b=some (PySem.W.tabObj #[])) (hKt:∀b∈ts,K.lookup b=none) (hct:∀b∈ts,∃c,s₁.heap.TableAt c b #[]) (ju:∀b∈ts,b≠cStatics)
  (hB:∃bm ob,mg "__builtins__"=some (.ref bm)∧bm≠builtinsNs∧bm≠mainGlobals∧s₁.heap.get? bm=some ob∧ob.cls=.type "module"∧ob.dict=some builtinsNs∧ob.data=.plain)
  (ha:s₁.heap.get? a=some {cls:=.type "list",data:=.seq vs.toArray}) (hi:IntsAre vs ns) (hl:ns.length≤sizeLine) (hr:cL k callerA)
  (F:∀base:Heap,K.In base→base.Ns mainGlobals mg→BM mg base→aU P w K mg base CX k fa fd [x] sp) (wq:∀(s:Shared) (u:Value),BindsTo s fd ⟨[u],[]⟩ [(x,u)])
  (Lg:∀H:Hp,F9 ts H→aF K H a (ns.map V.int)→sp [.ref a] H (fun v _=>v=.bl true) fun _ _ _=>False)
  (hCX:∀H e s',CX [] H s₁ (fun _ _ _=>False) e s'→False) :
  codeAny (model P w) callerA (.call (.ref fa) ⟨[.ref a],[]⟩) (fun r s'=>r=.ok (.ret (.bool true))∧OldK s₁.heap s'.heap∧s'.os=s₁.os∧AllBare s'.gens) s₁:=by
 have rv:=fY hi
 have afH:=hi.length
 have nat:∀b∈ts,b≠a:=fun b hb z=>by
  have:=wx b hb
  rw [z,ha] at this
  cases this
 have core:∀H:Hp,F9 ts H→aF K H a (ns.map V.int)→jt P w H s₁.heap→(∀b,H b≠none→b=a∨b∈ts)→(H a≠none→K.lookup a=none) →
   codeAny (model P w) callerA (.call (.ref fa) ⟨[.ref a],[]⟩) (fun r s'=>r=.ok (.ret (.bool true))∧OldK s₁.heap s'.heap∧s'.os=s₁.os∧AllBare s'.gens) s₁:=by
  intro H hO hS bS hA hK
  have tS:∀{b:Addr}{o:Obj},s₁.heap.get? b=some o→H b=none→(qr s₁.heap H).get? b=some o:=fun e n=>EV e n
  have free:∀{b:Addr}{o:Obj},s₁.heap.get? b=some o→(∀xs n,o.data≠.seq xs n)→(∀xs,o.data≠.fields xs)→H b=none:=fun {b o} e d1 d2=>by
   cases q:H b with
   | none=>rfl
   | some u=>
    rcases hA b (by rw [q]; simp)with z | z
    ·subst z
     rw [ha] at e
     cases e
     exact absurd rfl (d1 _ _)
    ·rw [wx b z] at e
     cases e
     exact absurd rfl (d2 _)
  have nsK:∀{b:Addr}{m:Str→Option Value},s₁.heap.Ns b m→(qr s₁.heap H).Ns b m:=fun {b m} ⟨o,es,ep,e,d,r⟩=>⟨o,es,ep,tS e (free e (fun _ _ z=>by rw [d] at z; cases z) (fun _ z=>by rw [d] at z; cases z)),d,r⟩
  have hKb:K.In (qr s₁.heap H):=fun b o e=>tS (KX b o e) (by
   cases q:H b with
   | none=>rfl
   | some u=>
    rcases hA b (by rw [q]; simp)with z | z
    ·subst z
     rw [hK (by rw [q]; simp)] at e
     cases e
    ·rw [hKt b z] at e
     cases e)
  have hM:Mod K mg (qr s₁.heap H):=⟨hKb,nsK ji,⟨mb,nsK hb,hbb⟩,let ⟨mc,h1,h2⟩:=afG; ⟨mc,nsK h1,h2⟩⟩
  have hBM:BM mg (qr s₁.heap H):=by
   obtain⟨bm,ob,b1,b2,b3,b4,b5,b6,b7⟩:=hB
   exact⟨bm,ob,b1,b2,b3,tS b4 (free b4 (fun _ _ z=>by rw [b7] at z; cases z) (fun _ z=>by rw [b7] at z; cases z)),b5,b6,b7⟩
  have e0:vP P w K mg (qr s₁.heap H) callerA [] s₁ H:=⟨rfl,hM,fun b o e=>Lz e,Nat.le_of_eq (Dg _ _),trivial,fun b hb=>absurd (show b∈([]:List Addr) from hb) (by simp),bS,.of_eq hg⟩
  refine codeAny_mono ((F _ hKb (nsK ji) hBM).run callerA [] s₁ H ⟨[.ref a],[]⟩ [.ref a] [.ref a] _ _ hr e0 (wq s₁ (.ref a)) (.cons rfl .nil) (Lg H hO hS)) fun r s' h=>?_
  cases r with
  | error e=>exact(hCX H e s' h).elim
  | ok fl=>
   cases fl with
   | next=>exact False.elim h
   | brk=>exact False.elim h
   | cont=>exact False.elim h
   | ret u=>
    obtain⟨v,H',os,bare,un,aah,r',q⟩:=h
    have q':v=.bl true:=q
    subst q'
    obtain rfl:u=Value.bool true:=r'
    have one:∀b o,s₁.heap.get? b=some o→b∉ts→s'.heap.get? b=some o:=fun b o e nt=>by
     cases q:H b with
     | none=>exact un.keep b o e q (by intro z; exact absurd (show b∈([]:List Addr) from z) (by simp)) (by simp)
     | some u=>
      rcases hO.1 b with z | ⟨ob,xs,z⟩ | ⟨z,_⟩
      ·rw [q] at z
       cases z
      ·have z2:=un.sU b ob _ z
       obtain⟨e1,_⟩:=bS b _ z
       obtain⟨e2,_⟩:=aah b _ z2
       rw [e] at e1
       cases e1
       exact e2
      ·exact absurd z nt
    have two:∀b∈ts,∃more,s'.heap.get? b=some (PySem.W.tabObj (#[]++more)):=fun b hb=>by
     obtain⟨more,z⟩:=un.sV b _ (hO.2 b hb)
     exact⟨more,aah b _ z⟩
    refine⟨rfl,⟨fun b o e=>?_,fun b o e=>?_⟩,os,bare⟩
    ·by_cases nt:b∈ts
     ·obtain⟨more,z⟩:=two b nt
      have e2:=wx b nt
      rw [e] at e2
      cases e2
      obtain⟨c,tc⟩:=hct b nt
      exact .inr (.inl ⟨tc.isCodeTable,rfl,#[],more,rfl,z⟩)
     ·exact .inl (one b o e nt)
    ·by_cases nt:b∈ts
     ·obtain⟨more,z⟩:=two b nt
      exact⟨_,z⟩
     ·exact⟨o,one b o e nt⟩
 cases hk:K.lookup a with
 | some o=>
  have e:=KX a o hk
  rw [ha] at e
  cases e
  refine core (fun b=>if b∈ts then some (.dS #[])else none) ⟨fun b=>?_,fun b hb=>if_pos hb⟩ (.inr ⟨_,vs.toArray,_,hk,rfl,rfl,rfl,by rw [List.size_toArray,afH]; exact hl,by simpa using rv⟩) (fun b u z=>?_) (fun b z=>?_) fun z=>absurd (if_neg (fun h=>nat a h rfl)) z
  ·by_cases hb:b∈ts
   ·exact .inr (.inr ⟨hb,if_pos hb⟩)
   ·exact .inl (if_neg hb)
  ·by_cases hb:b∈ts
   ·have z':=(if_pos hb).symm.trans z
    cases z'
    exact wx b hb
   ·have z':=(if_neg hb).symm.trans z
    cases z'
  ·by_cases hb:b∈ts
   ·exact .inr hb
   ·exact absurd (if_neg hb) z
 | none=>
  refine core (fun b=>if b=a then some (.vt {cls:=.type "list",data:=.seq vs.toArray} (.lst (ns.map V.int)))else if b∈ts then some (.dS #[])else none) ⟨fun b=>?_,fun b hb=>?_⟩ (.inl (.inr ⟨{cls:=.type "list",data:=.seq vs.toArray},if_pos rfl⟩)) (fun b u z=>?_) (fun b z=>?_) fun _=>hk
  ·by_cases hb:b=a
   ·exact .inr (.inl ⟨_,_,if_pos hb⟩)
   ·by_cases AE:b∈ts
    ·exact .inr (.inr ⟨AE,(if_neg hb).trans (if_pos AE)⟩)
    ·exact .inl ((if_neg hb).trans (if_neg AE))
  ·exact(if_neg (nat b hb)).trans (if_pos hb)
  ·have z:(if b=a then some (HO.vt {cls:=.type "list",data:=.seq vs.toArray} (.lst (ns.map V.int)))else if b∈ts then some (.dS #[])else none)=some u:=z
   by_cases hb:b=a
   ·rw [if_pos hb] at z
    cases z
    subst hb
    exact⟨ha,by rw [List.length_map]; exact hl,vs,_,rv,ha⟩
   ·rw [if_neg hb] at z
    by_cases AE:b∈ts
    ·rw [if_pos AE] at z
     cases z
     exact wx b AE
    ·rw [if_neg AE] at z
     cases z
  ·by_cases hb:b=a
   ·exact .inl hb
   ·by_cases AE:b∈ts
    ·exact .inr AE
    ·exact absurd ((if_neg hb).trans (if_neg AE)) z
theorem F_ {l:PySem.W.OpenLaw}{n k:Nat}{q:Program}{loose:List Str}{XP:(Str→Option Value)→Heap→Prop}{YP:World→Heap→Prop}{d:DefRec}{K:Params→PySem.W.Frag}{CX:vO}{sp:PySem.W.Frag→Sp}{x:Str}{ts:List Addr}
  (hn:l.most=some n) (ql:n≤sizeLine) (ZJ:d.params.defaults=[]) (hr:cL k callerA)
  (hY:∀(w:World) (h:Heap),YP w h→(K w.params).In h) (hY2:∀(w:World) (h:Heap),YP w h→∀b∈ts,h.get? b=some (PySem.W.tabObj #[]))
  (hKt:∀(w:World),∀b∈ts,(K w.params).lookup b=none) (ju:∀b∈ts,b≠cStatics)
  (F:∀(w:World) (mg:Str→Option Value) (fa:Addr) (h:Heap),(K w.params).In h→h.Ns mainGlobals mg→mg d.name=some (.ref fa) →
   ∃fd:FuncData,(∀(s:Shared) (u:Value),BindsTo s fd ⟨[u],[]⟩ [(x,u)])∧(∀b∈ts,∃c,PySem.W.codeHdIn (K w.params) c b=true) ∧
    ∀base:Heap,(K w.params).In base→base.Ns mainGlobals mg→BM mg base→aU l.prog w (K w.params) mg base CX k fa fd [x] (sp (K w.params)))
  (Lg:∀(K:PySem.W.Frag) (H:Hp) (a:Addr) (ns:List Int),ns.length≤n→F9 ts H→aF K H a (ns.map V.int)→sp K [.ref a] H (fun v _=>v=.bl true) fun _ _ _=>False)
  (hCX:∀(H:Hp) (s:Shared) (e:Value) (s':Shared),CX [] H s (fun _ _ _=>False) e s'→False) :
  PySem.W.WalkO q loose XP YP l.row.toRowW d [] (fun f vs=>PySem.call f vs):=by
 refine T8.vW hn ZJ fun w s₀ s₁ mg mb fa o pm cd doc a vs ns G Y ho hd s_ ZK T_ hints hlen hg=>?_
 have KX:=hY w _ Y
 have YT:=hY2 w _ Y
 obtain⟨fd,hb,qA,hF⟩:=F w mg fa _ KX G.T.g ZK
 have hB:∃bm ob,mg "__builtins__"=some (.ref bm)∧bm≠builtinsNs∧bm≠mainGlobals∧s₁.heap.get? bm=some ob∧ob.cls=.type "module"∧ob.dict=some builtinsNs∧ob.data=.plain:=by
  obtain⟨bm,ob,b1,b2,b3,b4,b5,b6⟩:=G.T.bmain
  refine⟨bm,ob,b1,b2,fun z=>?_,b3,b4,b5,b6⟩
  obtain⟨o2,es,ep,e,hd2,_⟩:=G.T.g
  rw [z,e] at b3
  cases b3
  rw [hd2] at b6
  cases b6
 exact DK (ts:=ts) KX G.T.g G.T.b G.T.builtins G.T.nolimit hg YT (hKt w) (fun b hb=>(qA b hb).elim fun c hc=>⟨c,(PySem.W.codeHd_of_K KX hc).tab (YT b hb)⟩) ju hB T_ hints (Nat.le_trans hlen ql) hr hF hb (fun H hO hS=>Lg _ H a ns hlen hO hS) fun H e s'=>hCX H s₁ e s'
end L2
set_option Elab.async false
set_option linter.all false
set_option maxRecDepth 100000
set_option maxHeartbeats 4000000
namespace bI
open PySem L2
local macro_rules | `(tactic| dsimp! [$xs,*]) => do
  let ls ← ("Zo Pl Zp Zq Zr tIf tB Px LL tUn n_ tC Lf rI rU E8 j6 TF B9 ZM TH Zu Pm j9 tH Ce tCB tBM afo Fi Pz tSl PD Cf TR Zy Zm tOr Zn Pj aff Pk _root_.L2.start rEq rNe Mb Mc Md Me Mf Zz LQ Uc List.map_cons List.map_nil List.length_cons List.length_nil List.replicate_succ List.replicate_zero Nat.reduceAdd Nat.reduceSub Nat.zero_add Nat.sub_self Nat.zero_le List.cons_append List.nil_append List.append_nil List.set_cons_zero List.set_cons_succ List.getElem?_cons_zero List.getElem?_cons_succ Option.some.injEq V.int.injEq V.bl.injEq V.ref.injEq V.ty.injEq V.str.injEq List.cons.injEq exists_eq_left' exists_eq_left exists_eq_right exists_and_left exists_const true_and and_true Bool.not_true Bool.not_false Bool.false_eq_true if_true if_false reduceCtorEq false_and and_false false_or or_false exists_false decide_true decide_false eq_self and_assoc Int.toNat_natCast ZP PN Cp Pp Pq vM afi PK Ux afx afy Uy Z6 TB TQ afh ipI FO ZX ZY Mw PU FT Ur Us FU Ut Z1 Z3 Uw tFs afC UG UC UD Z8 UE afB Z_ aaa ZZ AB wu".splitOn " ").toArray.mapM fun s => `(Lean.Parser.Tactic.simpLemma| $(Lean.mkIdent s.toName):ident)
  `(tactic| simp only [$ls,*, $xs,*])
noncomputable def top (i:Nat):Stmt:=PySem.Challenge.pw_heapsafe_k50_the_turn.main.body.getD i (.Pass ⟨0,0,0,0⟩)
noncomputable abbrev Ga:Stmt:=top 3
noncomputable abbrev Gb:Stmt:=top 4
noncomputable abbrev Gd:Stmt:=inClass (top 5) 0
noncomputable abbrev Ge:Stmt:=inClass (top 5) 1
noncomputable abbrev Gf:Stmt:=inClass (top 5) 2
noncomputable abbrev Gg:Stmt:=inClass (top 5) 3
noncomputable abbrev Gh:Stmt:=inClass (top 5) 4
noncomputable abbrev Gi:Stmt:=inClass (top 5) 5
noncomputable abbrev Gj:Stmt:=inClass (top 6) 0
noncomputable abbrev Gk:Stmt:=inClass (top 6) 1
noncomputable abbrev Gm:Stmt:=inClass (top 6) 2
noncomputable abbrev Gp:Stmt:=inClass (top 7) 0
noncomputable abbrev Gq:Stmt:=inClass (top 7) 1
noncomputable abbrev Gr:Stmt:=top 8
noncomputable abbrev Gs:Stmt:=top 9
noncomputable abbrev Gu:Stmt:=top 10
noncomputable abbrev Gv:Stmt:=top 12
noncomputable abbrev Gw:Stmt:=top 13
noncomputable abbrev Gx:Stmt:=top 14
noncomputable abbrev Gy:Stmt:=top 15
noncomputable abbrev ki:Stmt:=top 16
noncomputable abbrev Gz:Stmt:=top 17
noncomputable abbrev GA:Stmt:=top 18
noncomputable abbrev UK:Stmt:=inClass (top 20) 0
noncomputable abbrev UL:Stmt:=inClass (top 20) 1
noncomputable abbrev UM:Stmt:=inClass (top 20) 2
noncomputable abbrev UN:Stmt:=inClass (top 20) 3
noncomputable abbrev GB:Stmt:=inClass (top 20) 4
noncomputable abbrev UO:Stmt:=inClass (top 20) 5
noncomputable abbrev UP:Stmt:=inClass (top 20) 6
noncomputable abbrev tT:Stmt:=inClass (top 20) 7
noncomputable abbrev UQ:Stmt:=inClass (top 20) 8
noncomputable abbrev UR:Stmt:=inClass (top 20) 9
noncomputable abbrev US:Stmt:=inClass (top 20) 10
noncomputable abbrev GC:Stmt:=top 26
noncomputable abbrev GD:Stmt:=top 27
noncomputable abbrev GF:Stmt:=top 28
noncomputable abbrev GG:Stmt:=top 29
noncomputable abbrev GH:Stmt:=top 30
noncomputable abbrev GI:Stmt:=top 31
noncomputable abbrev GJ:Stmt:=top 32
noncomputable abbrev GK:Stmt:=top 33
noncomputable abbrev GL:Stmt:=inClass (top 35) 0
noncomputable abbrev GN:Stmt:=inClass (top 35) 1
noncomputable abbrev GO:Stmt:=inClass (top 35) 2
noncomputable abbrev GP:Stmt:=inClass (top 35) 3
noncomputable abbrev GQ:Stmt:=inClass (top 35) 5
noncomputable abbrev GS:Stmt:=inClass (top 35) 6
noncomputable abbrev GU:Stmt:=inClass (top 35) 7
noncomputable abbrev GV:Stmt:=top 40
noncomputable abbrev GW:Stmt:=top 41
noncomputable abbrev GX:Stmt:=top 42
noncomputable abbrev GY:Stmt:=top 43
noncomputable abbrev GZ:Stmt:=inClass (top 44) 0
noncomputable abbrev G_:Stmt:=inClass (top 44) 1
noncomputable abbrev Ha:Stmt:=inClass (top 44) 2
noncomputable abbrev Hb:Stmt:=inClass (top 44) 3
noncomputable abbrev Hc:Stmt:=inClass (top 44) 4
noncomputable abbrev Hd:Stmt:=inClass (top 44) 5
noncomputable abbrev He:Stmt:=inClass (top 44) 6
noncomputable abbrev Hf:Stmt:=inClass (top 44) 7
noncomputable abbrev Hg:Stmt:=inClass (top 44) 8
noncomputable abbrev Hh:Stmt:=inClass (top 44) 9
noncomputable abbrev Hi:Stmt:=inClass (top 44) 10
noncomputable abbrev Hj:Stmt:=inClass (top 44) 11
noncomputable abbrev Hk:Stmt:=inClass (top 44) 12
noncomputable abbrev Hl:Stmt:=inClass (top 44) 15
noncomputable abbrev Hm:Stmt:=inClass (top 44) 16
noncomputable abbrev Hn:Stmt:=top 46
noncomputable abbrev Ho:Stmt:=top 47
noncomputable abbrev Hq:Stmt:=top 48
noncomputable abbrev Hr:Stmt:=top 49
noncomputable abbrev Hs:Stmt:=top 50
noncomputable abbrev Ht:Stmt:=top 51
noncomputable abbrev Hu:Stmt:=top 52
noncomputable abbrev Hv:Stmt:=top 53
noncomputable abbrev kj:Stmt:=top 54
theorem cR {N P:List Str}{sc:Scope}(h1:sc.kind=.function:=by rfl) (h2:sc.isCoroutine=false:=by rfl) (h3:sc.isGenerator=false:=by rfl) (h5:N.take P.length=P:=by rfl) (h:(decide N.Nodup&&(P.all (fun x=>sc.names.lookup x == some .local || sc.names.lookup x == some .cell)&&sc.names.all fun y=>y.2 != .free))=true:=by decide +kernel):av N P sc:=by
 simp only [Bool.and_eq_true,List.all_eq_true,Bool.or_eq_true,decide_eq_true_eq,beq_iff_eq,bne_iff_ne] at h
 exact⟨h1,h2,h3,h.1,h5,h.2.1,h.2.2⟩
theorem UT:av ["value"] ["value"] (aj Ga):=cR
theorem UU:av ["some"] ["some"] (aj Gb):=cR
theorem UW:av ["self","sort","some"] ["self","sort","some"] (aj Gd):=cR
theorem UX:av ["self"] ["self"] (aj Ge):=cR
theorem UY:av ["self"] ["self"] (aj Gf):=cR
theorem UZ:av ["self"] ["self"] (aj Gg):=cR
theorem U3:av ["self"] ["self"] (aj Gh):=cR
theorem U4:av ["self"] ["self"] (aj Gi):=cR
theorem U5:av ["self","some","last_words"] ["self","some","last_words"] (aj Gj):=cR
theorem U6:av ["self"] ["self"] (aj Gk):=cR
theorem U7:av ["self"] ["self"] (aj Gm):=cR
theorem U8:av ["self","key","value"] ["self","key","value"] (aj Gp):=cR
theorem U9:av ["self"] ["self"] (aj Gq):=cR
theorem U_:av ["fields","words"] ["fields","words"] (aj Gr):=cR
theorem Va:av ["field"] ["field"] (aj Gs):=cR
theorem Vb:av ["key","value"] ["key","value"] (aj Gu):=cR
theorem Vc:av ["memory","places"] ["memory","places"] (aj Gv):=cR
theorem Vd:av ["memory"] ["memory"] (aj Gw):=cR
theorem Hw:av ["memory","place","first"] ["memory","place"] (aj Gx):=cR
theorem oB:av ["memory","sort","of_sort","blind","place","at"] ["memory","sort"] (aj Gy):=cR
theorem AG:av ["memory","unmarked","due"] ["memory"] (aj ki):=cR
theorem AH:av ["memory","marking","heard","due","place"] ["memory","marking","heard"] (aj Gz):=cR
theorem h_:av ["memory","marking","heard","kept","cleared","dropped","due","stays","cleared_too","dropped_too"] ["memory","marking","heard"] (aj GA):=cR
theorem aai:av ["self","memory"] ["self","memory"] (aj UK):=cR
theorem aaj:av ["self","place"] ["self","place"] (aj UL):=cR
theorem P1:av ["self","places","place"] ["self","places"] (aj UM):=cR
theorem aak:av ["self"] ["self"] (aj UN):=cR
theorem Hy:av ["self","place"] ["self"] (aj GB):=cR
theorem P2:av ["self","pairs"] ["self"] (aj UO):=cR
theorem aal:av ["self"] ["self"] (aj UP):=cR
theorem P4:av ["self","places"] ["self"] (aj tT):=cR
theorem P5:av ["self","pairs","place"] ["self","pairs"] (aj UQ):=cR
theorem Hz:av ["self","place","key","value"] ["self","place"] (aj UR):=cR
theorem aam:av ["self"] ["self"] (aj US):=cR
theorem HA:av ["kind","marked","words","size","bare"] ["kind","marked","words","size"] (aj GC):=cR
theorem Ve:av ["number"] ["number"] (aj GD):=cR
theorem Vf:av ["number"] ["number"] (aj GF):=cR
theorem Vg:av ["number"] ["number"] (aj GG):=cR
theorem Vh:av ["number"] ["number"] (aj GH):=cR
theorem Vi:av ["number","marked"] ["number","marked"] (aj GI):=cR
theorem Vj:av ["number","words"] ["number","words"] (aj GJ):=cR
theorem Vk:av ["number","bit","is_set"] ["number","bit","is_set"] (aj GK):=cR
theorem Vm:av ["self","many","cells"] ["self","many","cells"] (aj GL):=cR
theorem AI:av ["self","length","room","place"] ["self","length"] (aj GN):=cR
theorem oC:av ["self","room","length","first","free","place"] ["self","room","length"] (aj GO):=cR
theorem AJ:av ["self","place","some","at","value"] ["self","place","some"] (aj GP):=cR
theorem Vn:av ["self","place"] ["self","place"] (aj GQ):=cR
theorem Vo:av ["self","place","value"] ["self","place","value"] (aj GS):=cR
theorem Vp:av ["self","place"] ["self","place"] (aj GU):=cR
theorem Vq:av ["sort"] ["sort"] (aj GV):=cR
theorem Vr:av ["thing"] ["thing"] (aj GW):=cR
theorem Vs:av ["words"] ["words"] (aj GX):=cR
theorem tU:av ["thing","serial","marked","words","head","between"] ["thing","serial","marked"] (aj GY):=cR
theorem Vt:av ["self","many","cells"] ["self","many","cells"] (aj GZ):=cR
theorem HB:av ["self","thing","serial","marked","place"] ["self","thing","serial","marked"] (aj G_):=cR
theorem Vu:av ["self","place","some"] ["self","place","some"] (aj Ha):=cR
theorem Vv:av ["self","place"] ["self","place"] (aj Hb):=cR
theorem AK:av ["self","place","sort","some"] ["self","place"] (aj Hc):=cR
theorem Vw:av ["self","place"] ["self","place"] (aj Hd):=cR
theorem Vx:av ["self","place"] ["self","place"] (aj He):=cR
theorem Vy:av ["self","place"] ["self","place"] (aj Hf):=cR
theorem Vz:av ["self","place"] ["self","place"] (aj Hg):=cR
theorem VA:av ["self","place"] ["self","place"] (aj Hh):=cR
theorem VB:av ["self","place","marked"] ["self","place","marked"] (aj Hi):=cR
theorem VC:av ["self","place","at","value"] ["self","place","at","value"] (aj Hj):=cR
theorem VD:av ["self","place","words"] ["self","place","words"] (aj Hk):=cR
theorem AL:av ["self","told","room"] ["self"] (aj Hl):=cR
theorem VF:av ["self","room"] ["self","room"] (aj Hm):=cR
theorem VG:av ["_law_script","_law_k"] ["_law_script","_law_k"] (aj Hn):=cR
theorem tV:av ["_law_cell","_law_number_here"] ["_law_cell"] (aj Ho):=cR
theorem cU:av ["_law_script","_law_memory","_law_start","_law_rows","_law_places","_law_cell","_law_number_here","_law_sort","_law_size","_law_words","_law_fields","_law_place","_law_k","_law_at","_law_value_here"] ["_law_script","_law_memory","_law_start"] (aj Hq):=cR
theorem VH:av ["_law_sort","_law_fields","_law_words"] ["_law_sort","_law_fields","_law_words"] (aj Hr):=cR
theorem d0:av ["_law_rows","_law_some","_law_there","_law_going","_law_k","_law_sort","_law_fields","_law_words","_law_number_here","_law_more","_law_other"] ["_law_rows","_law_some"] (aj Hs):=cR
theorem tW:av ["_law_rows","_law_some","_law_gone","_law_k"] ["_law_rows","_law_some"] (aj Ht):=cR
theorem jy:av ["_law_rows","_law_dark","_law_heard","_law_kept","_law_gone","_law_due","_law_k","_law_stays","_law_too"] ["_law_rows","_law_dark","_law_heard"] (aj Hu):=cR
theorem VI:av ["_law_value_here","_law_places"] ["_law_value_here","_law_places"] (aj Hv):=cR
theorem du:av ["_law_script","_law_cell","_law_memory","_law_rows","_law_places","_law_marking","_law_heard","_law_k","_law_dark","_law_line","_law_due","_law_found","_law_thing_here","_law_fields"] ["_law_script"] (aj kj):=cR
set_option genInjectivity false in
set_option genSizeOfSpec false in
structure cN where
 wy:Addr
 wz:FuncData
 wA:Addr
 wB:FuncData
 rL:Addr
 wC:FuncData
 oE:Addr
 wD:FuncData
 oF:Addr
 wF:FuncData
 rM:Addr
 wG:FuncData
 rN:Addr
 wH:FuncData
 rO:Addr
 wI:FuncData
 wJ:Addr
 wK:FuncData
 wL:Addr
 wM:FuncData
 wN:Addr
 wO:FuncData
 wQ:Addr
 wR:FuncData
 wU:Addr
 wW:FuncData
 wX:Addr
 wY:FuncData
 wZ:Addr
 w4:FuncData
 w5:Addr
 w6:FuncData
 w9:Addr
 w_:FuncData
 xa:Addr
 xc:FuncData
 xf:Addr
 xg:FuncData
 xh:Addr
 xi:FuncData
 xj:Addr
 Cy:FuncData
 xk:Addr
 xm:FuncData
 xn:Addr
 xo:FuncData
 HC:Addr
 HD:FuncData
 HE:Addr
 HF:FuncData
 HG:Addr
 HH:FuncData
 HI:Addr
 HJ:FuncData
 xp:Addr
 xq:FuncData
 HK:Addr
 HL:FuncData
 HM:Addr
 HN:FuncData
 HP:Addr
 MD:FuncData
 HQ:Addr
 HR:FuncData
 HS:Addr
 HU:FuncData
 HV:Addr
 HW:FuncData
 xt:Addr
 xu:FuncData
 xv:Addr
 xw:FuncData
 xx:Addr
 xy:FuncData
 xA:Addr
 xB:FuncData
 xC:Addr
 xD:FuncData
 xE:Addr
 xF:FuncData
 xG:Addr
 xH:FuncData
 xI:Addr
 xJ:FuncData
 xK:Addr
 xM:FuncData
 xN:Addr
 xO:FuncData
 xP:Addr
 xQ:FuncData
 xR:Addr
 xS:FuncData
 xT:Addr
 xU:FuncData
 xV:Addr
 xW:FuncData
 xX:Addr
 xY:FuncData
 xZ:Addr
 x4:FuncData
 x5:Addr
 x6:FuncData
 x8:Addr
 x9:FuncData
 x_:Addr
 ya:FuncData
 yb:Addr
 yc:FuncData
 yd:Addr
 ye:FuncData
 yf:Addr
 yg:FuncData
 yh:Addr
 yj:FuncData
 yk:Addr
 yl:FuncData
 ym:Addr
 yn:FuncData
 yo:Addr
 yp:FuncData
 yq:Addr
 yr:FuncData
 yt:Addr
 yu:FuncData
 yv:Addr
 yw:FuncData
 yx:Addr
 yy:FuncData
 yz:Addr
 yA:FuncData
 yB:Addr
 yC:FuncData
 yD:Addr
 yE:FuncData
 yF:Addr
 yG:FuncData
 yH:Addr
 yI:FuncData
 yJ:Addr
 yK:FuncData
 yL:Addr
 yM:FuncData
 yN:Addr
 yO:FuncData
 yP:Addr
 yQ:FuncData
 yR:Addr
 yS:FuncData
 yT:Addr
 yU:FuncData
 yV:Addr
 yW:FuncData
 rP:Addr
 P6:FuncData
 aZ:Addr
 ax:Addr
 az:Addr
 bq:Addr
 bN:Addr
 aY:Addr
 dm:Addr
 fG:Tok
 gz:Tok
 fH:Tok
 fI:Tok
 eV:Addr
 fJ:Tok
 gA:Tok
 oG:Addr
 cY:Addr
 jz:Addr
 cH:Addr
structure Txt (K:PySem.W.Frag) (mg:Str→Option Value) (a:cN):Prop where
 P7:a.MD.code=.ref a.oG
 Cz:PySem.W.codeHdIn K a.oG a.cY=true
 HX:a.Cy.code=.ref a.jz
 tX:PySem.W.codeHdIn K a.jz a.cH=true
 oH:cD K "is_thing" "is_thing" Ga a.wy a.wz
 P8:Binds K a.wz ["value"] []
 P9:mg "is_thing"=some (.ref a.wy)
 jj:cD K "names_in" "names_in" Gb a.wA a.wB
 yX:Binds K a.wB ["some"] []
 yY:mg "names_in"=some (.ref a.wA)
 oI:cD K "__init__" "Thing.__init__" Gd a.rL a.wC
 CA:Binds K a.wC ["self","sort","some"] []
 yZ:Mk K a.aZ a.rL
 mm:cD K "sort_of" "Thing.sort_of" Ge a.oE a.wD
 jk:Binds K a.wD ["self"] []
 tY:Meth K a.aZ "sort_of" a.oE
 mn:cD K "fields" "Thing.fields" Gf a.oF a.wF
 eO:Binds K a.wF ["self"] []
 lL:Meth K a.aZ "fields" a.oF
 oJ:cD K "holds" "Thing.holds" Gg a.rM a.wG
 HY:Binds K a.wG ["self"] []
 HZ:Meth K a.aZ "holds" a.rM
 oK:cD K "waits" "Thing.waits" Gh a.rN a.wH
 H_:Binds K a.wH ["self"] []
 Ia:Meth K a.aZ "waits" a.rN
 oM:cD K "words" "Thing.words" Gi a.rO a.wI
 kl:Binds K a.wI ["self"] []
 oN:Meth K a.aZ "words" a.rO
 rQ:cD K "__init__" "PlainThing.__init__" Gj a.wJ a.wK
 P_:Binds K a.wK ["self","some","last_words"] []
 jl:Mk K a.ax a.wJ
 rR:cD K "holds" "PlainThing.holds" Gk a.wL a.wM
 Qa:Binds K a.wM ["self"] []
 Ib:Meth K a.ax "holds" a.wL
 rS:cD K "words" "PlainThing.words" Gm a.wN a.wO
 y0:Binds K a.wO ["self"] []
 oO:Meth K a.ax "words" a.wN
 rT:cD K "__init__" "PairThing.__init__" Gp a.wQ a.wR
 Qb:Binds K a.wR ["self","key","value"] []
 kq:Mk K a.az a.wQ
 rV:cD K "waits" "PairThing.waits" Gq a.wU a.wW
 Qc:Binds K a.wW ["self"] []
 Ic:Meth K a.az "waits" a.wU
 mq:cD K "plain" "plain" Gr a.wX a.wY
 Ie:Binds K a.wY ["fields","words"] []
 Ig:mg "plain"=some (.ref a.wX)
 mv:cD K "weak" "weak" Gs a.wZ a.w4
 Ih:Binds K a.w4 ["field"] []
 Ii:mg "weak"=some (.ref a.wZ)
 mw:cD K "pair" "pair" Gu a.w5 a.w6
 Ij:Binds K a.w6 ["key","value"] []
 Ik:mg "pair"=some (.ref a.w5)
 jm:cD K "serials_of" "serials_of" Gv a.w9 a.w_
 y3:Binds K a.w_ ["memory","places"] []
 y4:mg "serials_of"=some (.ref a.w9)
 kr:cD K "marked_places" "marked_places" Gw a.xa a.xc
 CB:Binds K a.xc ["memory"] []
 CC:mg "marked_places"=some (.ref a.xa)
 oP:cD K "is_blind" "is_blind" Gx a.xf a.xg
 Qd:Binds K a.xg ["memory","place"] []
 Qf:mg "is_blind"=some (.ref a.xf)
 jn:cD K "empty_blind" "empty_blind" Gy a.xh a.xi
 y7:Binds K a.xi ["memory","sort"] []
 y8:mg "empty_blind"=some (.ref a.xh)
 mx:cD K "due_places" "due_places" ki a.xj a.Cy
 Qg:Binds K a.Cy ["memory"] []
 Qh:mg "due_places"=some (.ref a.xj)
 oQ:cD K "bring_back" "bring_back" Gz a.xk a.xm
 Qi:Binds K a.xm ["memory","marking","heard"] []
 Qj:mg "bring_back"=some (.ref a.xk)
 oR:cD K "turn" "turn" GA a.xn a.xo
 Qk:Binds K a.xo ["memory","marking","heard"] []
 Ql:mg "turn"=some (.ref a.xn)
 DL:cD K "__init__" "Marking.__init__" UK a.HC a.HD
 aan:Binds K a.HD ["self","memory"] []
 oS:Mk K a.bq a.HC
 DM:cD K "shade" "Marking.shade" UL a.HE a.HF
 ME:Binds K a.HF ["self","place"] []
 CD:Meth K a.bq "shade" a.HE
 DN:cD K "shade_all" "Marking.shade_all" UM a.HG a.HH
 VJ:Binds K a.HH ["self","places"] []
 Il:Meth K a.bq "shade_all" a.HG
 DO:cD K "has_grey" "Marking.has_grey" UN a.HI a.HJ
 VL:Binds K a.HJ ["self"] []
 Im:Meth K a.bq "has_grey" a.HI
 rW:cD K "step" "Marking.step" GB a.xp a.xq
 Io:Binds K a.xq ["self"] []
 AM:Meth K a.bq "step" a.xp
 DP:cD K "drain" "Marking.drain" UO a.HK a.HL
 VN:Binds K a.HL ["self"] []
 Ip:Meth K a.bq "drain" a.HK
 DQ:cD K "empty_row" "Marking.empty_row" UP a.HM a.HN
 VO:Binds K a.HN ["self"] []
 Iq:Meth K a.bq "empty_row" a.HM
 y9:cD K "pairs_by_serial" "Marking.pairs_by_serial" tT a.HP a.MD
 aao:Binds K a.MD ["self"] []
 Qm:Meth K a.bq "pairs_by_serial" a.HP
 DR:cD K "shade_values" "Marking.shade_values" UQ a.HQ a.HR
 VP:Binds K a.HR ["self","pairs"] []
 Ir:Meth K a.bq "shade_values" a.HQ
 DS:cD K "shade_value" "Marking.shade_value" UR a.HS a.HU
 aap:Binds K a.HU ["self","place"] []
 Qn:Meth K a.bq "shade_value" a.HS
 DT:cD K "grey" "Marking.grey" US a.HV a.HW
 MF:Binds K a.HW ["self"] []
 CF:Meth K a.bq "grey" a.HV
 oU:cD K "header" "header" GC a.xt a.xu
 Qo:Binds K a.xu ["kind","marked","words","size"] []
 Qq:mg "header"=some (.ref a.xt)
 oV:cD K "kind_in" "kind_in" GD a.xv a.xw
 Qr:Binds K a.xw ["number"] []
 Qs:mg "kind_in"=some (.ref a.xv)
 oW:cD K "size_in" "size_in" GF a.xx a.xy
 Qt:Binds K a.xy ["number"] []
 Qu:mg "size_in"=some (.ref a.xx)
 oX:cD K "is_marked" "is_marked" GG a.xA a.xB
 Qv:Binds K a.xB ["number"] []
 Qw:mg "is_marked"=some (.ref a.xA)
 oY:cD K "has_words" "has_words" GH a.xC a.xD
 Qx:Binds K a.xD ["number"] []
 Qy:mg "has_words"=some (.ref a.xC)
 my:cD K "with_mark" "with_mark" GI a.xE a.xF
 Iu:Binds K a.xF ["number","marked"] []
 Iv:mg "with_mark"=some (.ref a.xE)
 mz:cD K "with_words" "with_words" GJ a.xG a.xH
 Iw:Binds K a.xH ["number","words"] []
 Iy:mg "with_words"=some (.ref a.xG)
 mB:cD K "with_bit" "with_bit" GK a.xI a.xJ
 Iz:Binds K a.xJ ["number","bit","is_set"] []
 IA:mg "with_bit"=some (.ref a.xI)
 rX:cD K "__init__" "Rooms.__init__" GL a.xK a.xM
 Qz:Binds K a.xM ["self","many","cells"] []
 y_:Mk K a.bN a.xK
 rY:cD K "gap" "Rooms.gap" GN a.xN a.xO
 QA:Binds K a.xO ["self","length"] []
 IB:Meth K a.bN "gap" a.xN
 rZ:cD K "gap_in" "Rooms.gap_in" GO a.xP a.xQ
 QB:Binds K a.xQ ["self","room","length"] []
 IC:Meth K a.bN "gap_in" a.xP
 r0:cD K "fill_in" "Rooms.fill_in" GP a.xR a.xS
 QC:Binds K a.xS ["self","place","some"] []
 ID:Meth K a.bN "fill_in" a.xR
 r8:cD K "read" "Rooms.read" GQ a.xT a.xU
 za:Binds K a.xU ["self","place"] []
 oZ:Meth K a.bN "read" a.xT
 r_:cD K "write" "Rooms.write" GS a.xV a.xW
 zc:Binds K a.xW ["self","place","value"] []
 o_:Meth K a.bN "write" a.xV
 sd:cD K "room_of" "Rooms.room_of" GU a.xX a.xY
 IE:Binds K a.xY ["self","place"] []
 AN:Meth K a.bN "room_of" a.xX
 ku:cD K "first_field" "first_field" GV a.xZ a.x4
 CG:Binds K a.x4 ["sort"] []
 CI:mg "first_field"=some (.ref a.xZ)
 mC:cD K "size_of" "size_of" GW a.x5 a.x6
 IF:Binds K a.x6 ["thing"] []
 IG:mg "size_of"=some (.ref a.x5)
 mD:cD K "words_cell" "words_cell" GX a.x8 a.x9
 IH:Binds K a.x9 ["words"] []
 II:mg "words_cell"=some (.ref a.x8)
 pb:cD K "cells_of" "cells_of" GY a.x_ a.ya
 QD:Binds K a.ya ["thing","serial","marked"] []
 QE:mg "cells_of"=some (.ref a.x_)
 se:cD K "__init__" "Memory.__init__" GZ a.yb a.yc
 QF:Binds K a.yc ["self","many","cells"] []
 sg:Mk K a.aY a.yb
 sh:cD K "put_in" "Memory.put_in" G_ a.yd a.ye
 QG:Binds K a.ye ["self","thing","serial","marked"] []
 IJ:Meth K a.aY "put_in" a.yd
 si:cD K "fill_from" "Memory.fill_from" Ha a.yf a.yg
 QH:Binds K a.yg ["self","place","some"] []
 IK:Meth K a.aY "fill_from" a.yf
 sj:cD K "head_at" "Memory.head_at" Hb a.yh a.yj
 pd:Binds K a.yj ["self","place"] []
 jA:Meth K a.aY "head_at" a.yh
 sk:cD K "thing_at" "Memory.thing_at" Hc a.yk a.yl
 mE:Binds K a.yl ["self","place"] []
 ia:Meth K a.aY "thing_at" a.yk
 so:cD K "words_at" "Memory.words_at" Hd a.ym a.yn
 QI:Binds K a.yn ["self","place"] []
 IL:Meth K a.aY "words_at" a.ym
 sq:cD K "serial_at" "Memory.serial_at" He a.yo a.yp
 CJ:Binds K a.yp ["self","place"] []
 tZ:Meth K a.aY "serial_at" a.yo
 sr:cD K "size_at" "Memory.size_at" Hf a.yq a.yr
 QJ:Binds K a.yr ["self","place"] []
 IM:Meth K a.aY "size_at" a.yq
 su:cD K "sort_at" "Memory.sort_at" Hg a.yt a.yu
 zd:Binds K a.yu ["self","place"] []
 pe:Meth K a.aY "sort_at" a.yt
 sv:cD K "marked_at" "Memory.marked_at" Hh a.yv a.yw
 ky:Binds K a.yw ["self","place"] []
 gB:Meth K a.aY "marked_at" a.yv
 sy:cD K "set_mark" "Memory.set_mark" Hi a.yx a.yy
 QK:Binds K a.yy ["self","place","marked"] []
 IP:Meth K a.aY "set_mark" a.yx
 sA:cD K "set_field" "Memory.set_field" Hj a.yz a.yA
 CK:Binds K a.yA ["self","place","at","value"] []
 t4:Meth K a.aY "set_field" a.yz
 sC:cD K "set_words" "Memory.set_words" Hk a.yB a.yC
 QL:Binds K a.yC ["self","place","words"] []
 IQ:Meth K a.aY "set_words" a.yB
 sE:cD K "places" "Memory.places" Hl a.yD a.yE
 ze:Binds K a.yE ["self"] []
 pf:Meth K a.aY "places" a.yD
 sF:cD K "places_in" "Memory.places_in" Hm a.yF a.yG
 QM:Binds K a.yG ["self","room"] []
 IS:Meth K a.aY "places_in" a.yF
 kz:cD K "_law_cell_at" "_law_cell_at" Hn a.yH a.yI
 CL:Binds K a.yI ["_law_script","_law_k"] []
 CM:mg "_law_cell_at"=some (.ref a.yH)
 ph:cD K "_law_number" "_law_number" Ho a.yJ a.yK
 QN:Binds K a.yK ["_law_cell"] []
 QO:mg "_law_number"=some (.ref a.yJ)
 pj:cD K "_law_graph" "_law_graph" Hq a.yL a.yM
 QP:Binds K a.yM ["_law_script","_law_memory","_law_start"] []
 QQ:mg "_law_graph"=some (.ref a.yL)
 pk:cD K "_law_thing" "_law_thing" Hr a.yN a.yO
 QR:Binds K a.yO ["_law_sort","_law_fields","_law_words"] []
 QS:mg "_law_thing"=some (.ref a.yN)
 mF:cD K "_law_closed" "_law_closed" Hs a.yP a.yQ
 IT:Binds K a.yQ ["_law_rows","_law_some"] []
 IU:mg "_law_closed"=some (.ref a.yP)
 mG:cD K "_law_clean" "_law_clean" Ht a.yR a.yS
 IV:Binds K a.yS ["_law_rows","_law_some"] []
 IW:mg "_law_clean"=some (.ref a.yR)
 pq:cD K "_law_expected" "_law_expected" Hu a.yT a.yU
 QT:Binds K a.yU ["_law_rows","_law_dark","_law_heard"] []
 QU:mg "_law_expected"=some (.ref a.yT)
 pw:cD K "_law_value" "_law_value" Hv a.yV a.yW
 QV:Binds K a.yW ["_law_value_here","_law_places"] []
 QW:mg "_law_value"=some (.ref a.yV)
 mH:cD K "law" "law" kj a.rP a.P6
 aaq:mg "law"=some (.ref a.rP)
 ck:Meth K a.ax "sort_of" a.oE
 bA:Meth K a.ax "fields" a.oF
 eQ:Meth K a.ax "waits" a.rN
 cy:Meth K a.az "sort_of" a.oE
 bG:Meth K a.az "fields" a.oF
 fc:Meth K a.az "holds" a.rM
 b_:Meth K a.az "words" a.rO
 fN:PQ K a.aZ "__init__" a.rL
 bO:fu K a.aZ
 kB:mg "Thing"=some (.ref a.aZ)
 cT:bW K a.aZ "called"
 dh:bW K a.aZ "parts"
 aK:fu K a.ax
 jo:mg "PlainThing"=some (.ref a.ax)
 bP:bW K a.ax "called"
 bH:bW K a.ax "parts"
 bu:bW K a.ax "last_words"
 aR:fu K a.az
 kC:mg "PairThing"=some (.ref a.az)
 bV:bW K a.az "called"
 bz:bW K a.az "parts"
 aB:fu K a.bq
 pz:mg "Marking"=some (.ref a.bq)
 aM:bW K a.bq "memory"
 aS:bW K a.bq "grey_places"
 bj:fu K a.bN
 zf:mg "Rooms"=some (.ref a.bN)
 dv:bW K a.bN "many"
 cI:bW K a.bN "cells"
 bx:bW K a.bN "inside"
 au:fu K a.aY
 sH:mg "Memory"=some (.ref a.aY)
 aJ:bW K a.aY "rooms"
 br:bW K a.aY "begins"
 iR:mg "NOTHING"=some (.ref a.dm)
 DU:∃o,K.lookup a.dm=some o∧o.cls=.type "tuple"∧o.dict=none
 lM:∀H:Hp,dO K H a.dm [.str "nothing"]
 mI:mg "KIND_BITS"=some (.int 3 a.fG)
 jB:mg "MARK_BIT"=some (.int 4 a.gz)
 ib:mg "WORDS_BIT"=some (.int 8 a.fH)
 ic:mg "SIZE_FROM"=some (.int 4 a.fI)
 t5:mg "SORTS"=some (.ref a.eV)
 CO:∃o,K.lookup a.eV=some o∧o.cls=.type "tuple"∧o.dict=none
 t6:∀H:Hp,dO K H a.eV [.str "plain",.str "weak",.str "pair"]
 mJ:mg "SERIAL_AT"=some (.int 1 a.fJ)
 jC:mg "WORDS_AT"=some (.int 2 a.gA)
 CP:mg "any"=none
 fK:mg "enumerate"=none
 CQ:mg "int"=none
 dI:mg "len"=none
 ie:mg "list"=none
 zg:mg "min"=none
 cF:mg "range"=none
 dJ:mg "sorted"=none
 nW:mg "tuple"=none
noncomputable def cZ (xs:List V) (p L:Nat):Prop:=∀j,j < L→xs[p+j]?=some V.bf
noncomputable def Fits (xs:List V) (c L p:Nat):Prop:=p+L≤xs.length∧p / c=(p+L - 1) / c∧cZ xs p L
noncomputable def zh (xs:List V) (c L:Nat):Option Nat→Prop
 | none=>∀p,¬Fits xs c L p
 | some p=>Fits xs c L p∧∀q,q < p→¬Fits xs c L q
theorem sI {xs:List V}{c L p r:Nat}(hc:0 < c) (hL:0 < L) (h:Fits xs c L p) (hr:p / c=r):r*c≤p∧p+L≤r*c+c:=by
 obtain⟨_,e,_⟩:=h
 have h1:c*(p / c)≤p:=Nat.mul_div_le p c
 have h2:p+L - 1 < c*((p+L - 1) / c+1):=Nat.lt_mul_div_succ _ hc
 rw [←e,hr,Nat.mul_add,Nat.mul_one] at h2
 rw [hr] at h1
 rw [Nat.mul_comm r c]
 constructor <;> omega
theorem DV {xs:List V}{c L p r m:Nat}(hc:0 < c) (hL:0 < L) (hx:xs.length=m*c) (hr:r < m) (h1:r*c≤p) (h2:p+L≤r*c+c) (h:cZ xs p L):Fits xs c L p:=by
 have e1:p / c=r:=by
  apply Nat.div_eq_of_lt_le <;> (try rw [Nat.succ_mul]) <;> omega
 have e2:(p+L - 1) / c=r:=by
  apply Nat.div_eq_of_lt_le <;> (try rw [Nat.succ_mul]) <;> omega
 refine⟨?_,by rw [e1,e2],h⟩
 have:(r+1)*c≤m*c:=Nat.mul_le_mul_right c hr
 rw [Nat.succ_mul] at this
 omega
structure ig (xs:List V) (b i f L:Nat):Prop where
 le:f≤i
 lt:f < L
 free:∀j,j < f→xs[b+i - 1 - j]?=some V.bf
 stop:f < i→∃v,xs[b+i - 1 - f]?=some v∧v≠V.bf
 no:∀p,b≤p→p+L≤b+i→¬cZ xs p L
theorem ig.zero {xs:List V}{b L:Nat}(hL:0 < L):ig xs b 0 0 L:=
 ⟨Nat.le_refl _,hL,fun j h=>absurd h (Nat.not_lt_zero _),fun h=>absurd h (Nat.lt_irrefl _),fun p h1 h2 _=>by omega⟩
theorem ig.DW {xs:List V}{b i f L:Nat}(h:ig xs b i f L) (hx:xs[b+i]?=some V.bf) (oj:f+1≠L):ig xs b (i+1) (f+1) L where
 le:=by have:=h.le; omega
 lt:=by have:=h.lt; omega
 free:=fun j hj=>by
  cases j with
  | zero=>simpa using hx
  | succ k=>
   have e:b+(i+1) - 1 - (k+1)=b+i - 1 - k:=by omega
   rw [e]
   exact h.free k (by omega)
 stop:=fun hf=>by
  have e:b+(i+1) - 1 - (f+1)=b+i - 1 - f:=by omega
  rw [e]
  exact h.stop (by omega)
 no:=fun p h1 h2 ha=>by
  by_cases hp:p+L≤b+i
  ·exact h.no p h1 hp ha
  ·have hle:=h.le
   have fo:=h.lt
   have hf:f < i:=by omega
   obtain⟨v,hv,hn⟩:=h.stop hf
   have:=ha (b+i - 1 - f - p) (by omega)
   have e:p+(b+i - 1 - f - p)=b+i - 1 - f:=by omega
   rw [e,hv] at this
   exact hn (Option.some.inj this)
theorem ig.DX {xs:List V}{b i f L:Nat}{v:V}(h:ig xs b i f L) (hx:xs[b+i]?=some v) (hv:v≠V.bf):ig xs b (i+1) 0 L where
 le:=Nat.zero_le _
 lt:=by have:=h.lt; omega
 free:=fun j hj=>absurd hj (Nat.not_lt_zero _)
 stop:=fun _=>⟨v,by simpa using hx,hv⟩
 no:=fun p h1 h2 ha=>by
  by_cases hp:p+L≤b+i
  ·exact h.no p h1 hp ha
  ·have fo:=h.lt
   have:=ha (b+i - p) (by omega)
   have e:p+(b+i - p)=b+i:=by omega
   rw [e,hx] at this
   exact hv (Option.some.inj this)
theorem ig.found {xs:List V}{b i f L:Nat}(h:ig xs b i f L) (hx:xs[b+i]?=some V.bf) (he:f+1=L):b≤b+i+1 - L∧cZ xs (b+i+1 - L) L∧∀p,b≤p→p < b+i+1 - L→¬cZ xs p L:=by
 have hle:=h.le
 refine⟨by omega,fun j hj=>?_,fun p h1 h2=>h.no p h1 (by omega)⟩
 by_cases Y3:j=f
 ·have e:b+i+1 - L+j=b+i:=by omega
  rw [e]
  exact hx
 ·have:=h.free (f - 1 - j) (by omega)
  have e:b+i - 1 - (f - 1 - j)=b+i+1 - L+j:=by omega
  rw [e] at this
  exact this
noncomputable def cA:List V→Nat→List V→List V
 | xs,_,[]=>xs
 | xs,p,y::ys=>cA (xs.set p y) (p+1) ys
theorem d9:∀(ys xs:List V) (p:Nat),(cA xs p ys).length=xs.length
 | [],_,_=>rfl
 | y::ys,xs,p=>by rw [cA,d9 ys,List.length_set]
theorem mK (y:V):∀(ys xs:List V) (p:Nat),(cA xs p ys).set (p+ys.length) y=cA xs p (ys++[y])
 | [],_,_=>rfl
 | z::ys,xs,p=>by
  rw [List.cons_append,cA,cA,←mK y ys,List.length_cons]
  congr 1
  omega
theorem zj {ys xs:List V}{p i:Nat}{y:V}(h:ys[i]?=some y):(cA xs p (ys.take i)).set (p+i) y=cA xs p (ys.take (i+1)):=by
 obtain⟨fo,e⟩:=List.getElem?_eq_some_iff.mp h
 have hl:(ys.take i).length=i:=by rw [List.length_take]; omega
 have:=mK y (ys.take i) xs p
 rw [hl] at this
 rw [this,List.take_succ_eq_append_getElem fo,e]
theorem DY {xs:List V}{c m L i q:Nat}(hc:0 < c) (hL:0 < L) (hx:xs.length=m*c) (hi:i < m) (inv:∀r,r < i→∀p,r*c≤p→p+L≤r*c+c→¬cZ xs p L)
  (h1:i*c≤q) (h2:q+L≤i*c+c) (ha:cZ xs q L) (least:∀p,i*c≤p→p < q→¬cZ xs p L):zh xs c L (some q):=by
 refine⟨DV hc hL hx hi h1 h2 ha,fun p hp hf=>?_⟩
 obtain⟨a1,a2⟩:=sI hc hL hf rfl
 by_cases hr:p / c < i
 ·exact inv _ hr p a1 a2 hf.2.2
 ·have:i*c≤p / c*c:=Nat.mul_le_mul_right c (by omega)
  exact least p (by omega) hp hf.2.2
theorem IY {xs:List V}{c m L:Nat}(hc:0 < c) (hL:0 < L) (hx:xs.length=m*c) (inv:∀r,r < m→∀p,r*c≤p→p+L≤r*c+c→¬cZ xs p L):zh xs c L none:=by
 intro p hf
 obtain⟨a1,a2⟩:=sI hc hL hf rfl
 refine inv (p / c) ?_ p a1 a2 hf.2.2
 have h1:=hf.1
 rw [hx] at h1
 rw [Nat.div_lt_iff_lt_mul hc]
 omega
theorem gC:∀(ys xs:List V) (p j:Nat),(j < p∨p+ys.length≤j)→(cA xs p ys)[j]?=xs[j]?
 | [],_,_,_,_=>rfl
 | y::ys,xs,p,j,h=>by
  rw [List.length_cons] at h
  rw [cA,gC ys _ _ j (by omega),List.getElem?_set_ne (by omega)]
theorem sJ:∀(ys xs:List V) (p i:Nat) (v:V),p+ys.length≤xs.length→ys[i]?=some v→(cA xs p ys)[p+i]?=some v
 | [],_,_,_,_,_,h=>by simp at h
 | y::ys,xs,p,0,v,hl,h=>by
  simp at h
  subst h
  rw [List.length_cons] at hl
  rw [cA,gC ys _ _ _ (.inl (by omega)),Nat.add_zero,List.getElem?_set_self (by omega)]
 | y::ys,xs,p,i+1,v,hl,h=>by
  rw [List.length_cons] at hl
  have:=sJ ys (xs.set p y) (p+1) i v (by rw [List.length_set]; omega) (by simpa using h)
  rw [cA,show p+(i+1)=p+1+i by omega]
  exact this
structure Lay (xs:List V) (c:Nat) (es:List (Nat×List V)):Prop where
 one:∀b∈es,0 < b.2.length∧b.1 / c=(b.1+b.2.length - 1) / c
 at_:∀b∈es,∀(i:Nat) v,b.2[i]?=some v→v≠.bf∧xs[b.1+i]?=some v
 full:∀(j:Nat) v,xs[j]?=some v→v≠.bf→∃b∈es,b.1≤j∧j < b.1+b.2.length
 QX:es.Pairwise fun b d=>b.1+b.2.length≤d.1∨d.1+d.2.length≤b.1
theorem Lay.nil (n c:Nat):Lay (List.replicate n V.bf) c [] where
 one:=fun b hb=>(nomatch hb)
 at_:=fun b hb=>(nomatch hb)
 full:=fun j v h hv=>absurd (List.eq_of_mem_replicate (List.mem_of_getElem? h)) hv
 QX:=.nil
theorem Lay.le {xs:List V}{c:Nat}{es:List (Nat×List V)}(L:Lay xs c es) {b:Nat×List V}(hb:b∈es):b.1+b.2.length≤xs.length:=by
 have h0:=(L.one b hb).1
 have:=(L.at_ b hb (b.2.length - 1) _ (List.getElem?_eq_getElem (by omega))).2
 have:=(List.getElem?_eq_some_iff.mp this).1
 omega
theorem Lay.apart {xs:List V}{c:Nat}{es:List (Nat×List V)}(L:Lay xs c es) {b:Nat×List V}(hb:b∈es) {g n:Nat}(h:cZ xs g n) (hn:0 < n):b.1+b.2.length≤g∨g+n≤b.1:=by
 have h0:=(L.one b hb).1
 by_cases h1:b.1+b.2.length≤g
 ·exact .inl h1
 ·by_cases h2:g+n≤b.1
  ·exact .inr h2
  ·exfalso
   have key:∀i j,i < b.2.length→j < n→b.1+i=g+j→False:=fun i j hi hj e=>by
    obtain⟨hv,hx⟩:=L.at_ b hb i _ (List.getElem?_eq_getElem hi)
    have:=h j hj
    rw [←e,hx] at this
    exact hv (Option.some.inj this)
   by_cases h3:b.1≤g
   ·exact key (g - b.1) 0 (by omega) hn (by omega)
   ·exact key 0 (b.1 - g) h0 (by omega) (by omega)
theorem Lay.put {xs:List V}{c:Nat}{es:List (Nat×List V)}(L:Lay xs c es) {g:Nat}{ys:List V}(F:Fits xs c ys.length g) (h0:0 < ys.length) (hn:∀v∈ys,v≠.bf):Lay (cA xs g ys) c (es++[(g,ys)]) where
 one:=fun b hb=>by
  rcases List.mem_append.mp hb with h | h
  ·exact L.one b h
  ·rw [List.mem_singleton.mp h]
   exact⟨h0,F.2.1⟩
 at_:=fun b hb i v hv=>by
  rcases List.mem_append.mp hb with h | h
  ·obtain⟨h1,h2⟩:=L.at_ b h i v hv
   refine⟨h1,?_⟩
   have hi:=(List.getElem?_eq_some_iff.mp hv).1
   rw [gC]
   ·exact h2
   ·rcases L.apart h F.2.2 h0 with z | z
    ·exact .inl (by omega)
    ·exact .inr (by omega)
  ·rw [List.mem_singleton.mp h] at hv ⊢
   exact⟨hn v (List.mem_of_getElem? hv),sJ ys xs g i v F.1 hv⟩
 full:=fun j v hj hv=>by
  by_cases h:j < g∨g+ys.length≤j
  ·rw [gC _ _ _ _ h] at hj
   obtain⟨b,hb,h1⟩:=L.full j v hj hv
   exact⟨b,List.mem_append_left _ hb,h1⟩
  ·exact⟨(g,ys),List.mem_append_right _ (List.mem_singleton.mpr rfl),by dsimp only; omega,by dsimp only; omega⟩
 QX:=by
  rw [List.pairwise_append]
  refine⟨L.QX,by simp,fun b hb d hd=>?_⟩
  rw [List.mem_singleton.mp hd]
  exact L.apart hb F.2.2 h0
theorem Lay.same {xs:List V}{c:Nat}{es:List (Nat×List V)}(L:Lay xs c es) {b d:Nat×List V}(hb:b∈es) (hd:d∈es) (e:b.1=d.1):b=d:=by
 have h:=L.QX
 have hb0:=(L.one b hb).1
 have hd0:=(L.one d hd).1
 have:es.Pairwise fun x y=>x∈es→y∈es→x.1=y.1→x=y:=h.imp_of_mem (fun {x y} hx hy hxy _ _ e=>by
  have h1:=(L.one x hx).1
  have h2:=(L.one y hy).1
  omega)
 by_cases z:b=d
 ·exact z
 ·exfalso
  rcases List.mem_iff_getElem.mp hb with ⟨i,hi,ei⟩
  rcases List.mem_iff_getElem.mp hd with ⟨j,hj,ej⟩
  rcases Nat.lt_trichotomy i j with q | q | q
  ·have:=List.pairwise_iff_getElem.mp h i j hi hj q
   rw [ei,ej] at this
   omega
  ·subst q
   exact z (ei.symm.trans ej)
  ·have:=List.pairwise_iff_getElem.mp h j i hj hi q
   rw [ei,ej] at this
   omega
theorem Lay.set {xs:List V}{c:Nat}{es:List (Nat×List V)}(L:Lay xs c es) {b:Nat×List V}(hb:b∈es) {i:Nat}{v:V}(hi:i < b.2.length) (hv:v≠.bf) :
  Lay (xs.set (b.1+i) v) c (es.map fun d=>if d.1=b.1 then(d.1,d.2.set i v)else d):=by
 have hl:=L.le hb
 have len:∀d:Nat×List V,(if d.1=b.1 then(d.1,d.2.set i v)else d).1=d.1∧(if d.1=b.1 then(d.1,d.2.set i v)else d).2.length=d.2.length:=fun d=>by
  split
  ·exact⟨rfl,List.length_set⟩
  ·exact⟨rfl,rfl⟩
 refine⟨fun d hd=>?_,fun d hd k u hu=>?_,fun j u hj hu=>?_,?_⟩
 ·obtain⟨e,he,rfl⟩:=List.mem_map.mp hd
  rw [(len e).1,(len e).2]
  exact L.one e he
 ·obtain⟨e,he,rfl⟩:=List.mem_map.mp hd
  by_cases z:e.1=b.1
  ·have:=L.same he hb z
   subst this
   rw [if_pos rfl] at hu ⊢
   dsimp only at hu ⊢
   by_cases y:i=k
   ·subst y
    rw [List.getElem?_set_self hi] at hu
    cases hu
    exact⟨hv,by rw [List.getElem?_set_self (by omega)]⟩
   ·rw [List.getElem?_set_ne y] at hu
    rw [List.getElem?_set_ne (by omega)]
    exact L.at_ e he k u hu
  ·rw [if_neg z] at hu ⊢
   obtain⟨h1,h2⟩:=L.at_ e he k u hu
   refine⟨h1,?_⟩
   rw [List.getElem?_set_ne,h2]
   intro q
   have hk:=(List.getElem?_eq_some_iff.mp hu).1
   rcases List.mem_iff_getElem.mp hb with ⟨m,hm,em⟩
   rcases List.mem_iff_getElem.mp he with ⟨j,hj,ej⟩
   rcases Nat.lt_trichotomy m j with w | w | w
   ·have:=List.pairwise_iff_getElem.mp L.QX m j hm hj w
    rw [em,ej] at this
    omega
   ·subst w
    rw [em] at ej
    exact z (by rw [ej])
   ·have:=List.pairwise_iff_getElem.mp L.QX j m hj hm w
    rw [em,ej] at this
    omega
 ·by_cases y:b.1+i=j
  ·refine⟨_,List.mem_map.mpr ⟨b,hb,rfl⟩,?_⟩
   rw [(len b).1,(len b).2]
   omega
  ·rw [List.getElem?_set_ne y] at hj
   obtain⟨d,hd,h1⟩:=L.full j u hj hu
   refine⟨_,List.mem_map.mpr ⟨d,hd,rfl⟩,?_⟩
   rw [(len d).1,(len d).2]
   exact h1
 ·rw [List.pairwise_map]
  refine L.QX.imp fun {x y} h=>?_
  rw [(len x).1,(len x).2,(len y).1,(len y).2]
  exact h
section
variable {P:Program}{w:World}{K:PySem.W.Frag}{mg:Str→Option Value}{base:Heap}{a:cN}
noncomputable def mQ (n b:Int) (z:Bool):Int:=if z=true then Builtin.bitOr n b else n - Builtin.bitAnd n b
noncomputable def hd (k:Int) (m w:Bool) (z:Int):Int:=k+16*z+(if m=true then 4 else 0)+(if w=true then 8 else 0)
theorem QY (n:Int) (z:Bool):mQ n 4 z=n - n / 4 % 2*4+(if z=true then 4 else 0):=by
 unfold mQ
 cases z
 ·rw [if_neg Bool.false_ne_true,if_neg Bool.false_ne_true,om]; omega
 ·rw [if_pos rfl,if_pos rfl,L_]; omega
theorem QZ (n:Int) (z:Bool):mQ n 8 z=n - n / 8 % 2*8+(if z=true then 8 else 0):=by
 unfold mQ
 cases z
 ·rw [if_neg Bool.false_ne_true,if_neg Bool.false_ne_true,oo]; omega
 ·rw [if_pos rfl,if_pos rfl,Ma]; omega
theorem MG {k z:Int}(m w:Bool) (h0:0≤k) (h1:k < 3) (hz:0≤z):mQ (mQ (Builtin.bitOr k (z*16)) 4 m) 8 w=hd k m w z:=by
 rw [Fx h0 (by omega) hz,QZ,QY]
 unfold hd
 cases m <;> cases w <;> simp only [if_true,Bool.false_eq_true,if_false] <;> omega
theorem MH {k z:Int}{m w:Bool}(h0:0≤k) (h1:k < 3):hd k m w z % 4=k:=by
 unfold hd
 cases m <;> cases w <;> simp only [if_true,Bool.false_eq_true,if_false] <;> omega
theorem MI {k z:Int}{m w:Bool}(h0:0≤k) (h1:k < 3):hd k m w z / 16=z:=by
 unfold hd
 cases m <;> cases w <;> simp only [if_true,Bool.false_eq_true,if_false] <;> omega
theorem MJ {k z:Int}{m w:Bool}(h0:0≤k) (h1:k < 3):decide (hd k m w z / 4 % 2=1)=m:=by
 unfold hd
 cases m <;> cases w <;> simp only [if_true,Bool.false_eq_true,if_false,decide_eq_true_eq,decide_eq_false_iff_not] <;> omega
theorem IZ {k z:Int}{m w:Bool}(h0:0≤k) (h1:k < 3):decide (hd k m w z / 8 % 2=1)=w:=by
 unfold hd
 cases m <;> cases w <;> simp only [if_true,Bool.false_eq_true,if_false,decide_eq_true_eq,decide_eq_false_iff_not] <;> omega
theorem VQ {k z:Int}(m w y:Bool) (h0:0≤k) (h1:k < 3):mQ (hd k m w z) 4 y=hd k y w z:=by
 rw [QY]
 unfold hd
 cases m <;> cases w <;> cases y <;> simp only [if_true,Bool.false_eq_true,if_false] <;> omega
theorem VR {k z:Int}(m w y:Bool) (h0:0≤k) (h1:k < 3):mQ (hd k m w z) 8 y=hd k m y z:=by
 rw [QZ]
 unfold hd
 cases m <;> cases w <;> cases y <;> simp only [if_true,Bool.false_eq_true,if_false] <;> omega
theorem MK (n:Int):(!decide (V.int (Builtin.bitAnd n 4)=V.int 0))=decide (n / 4 % 2=1):=by
 rw [om]
 by_cases h:n / 4 % 2=1
 ·rw [h]; rfl
 ·have e:n / 4 % 2=0:=by omega
  rw [e]; rfl
theorem ML (n:Int):(!decide (V.int (Builtin.bitAnd n 8)=V.int 0))=decide (n / 8 % 2=1):=by
 rw [oo]
 by_cases h:n / 8 % 2=1
 ·rw [h]; rfl
 ·have e:n / 8 % 2=0:=by omega
  rw [e]; rfl
theorem VS {z:Int}(h0:0≤z) (h:z < 10 ^ 60):z.natAbs < 2 ^ 1000:=by
 have e:z.natAbs < 10 ^ 60:=by
  have e2:(z.natAbs:Int) < ((10 ^ 60:Nat):Int):=by rw [Int.natAbs_of_nonneg h0]; exact h
  exact Int.ofNat_lt.mp e2
 exact Nat.lt_trans e (by decide +kernel)
noncomputable def VT:Sp:=fun vs H Q _=>∃n b z,vs=[.int n,.int b,.bl z]∧Q (.int (mQ n b z)) H
theorem I0 (T:Txt K mg a):aU P w K mg base cC 1 a.xI a.xJ ["number","bit","is_set"] VT:=by
 refine T.mB.ok Vk (fun vs H Q E h=>?_) (fun bL A outer s H vs Q E hr h=>?_)
 ·obtain⟨_,_,_,rfl,_⟩:=h
  rfl
 ·obtain⟨n,b,z,rfl,q⟩:=h
  refine⟨_,(ah (aE (e5 (dU (pv 2)) (aL Pu (pv 0) (pv 1)) (aL Fd (pv 0) (aL tE (pv 0) (pv 1)))))),?_⟩
  dsimp! []
  unfold mQ at q
  cases z with
  | true=>simpa using q
  | false=>simpa using q
noncomputable def VU:Sp:=fun vs H Q _=>∃n z,vs=[.int n,.bl z]∧Q (.int (mQ n 4 z)) H
theorem I_ (T:Txt K mg a):aU P w K mg base cC 2 a.xE a.xF ["number","marked"] VU:=by
 refine T.my.ok Vi (fun vs H Q E h=>?_) (fun bL A outer s H vs Q E hr h=>?_)
 ·obtain⟨_,_,rfl,_⟩:=h
  rfl
 ·obtain⟨n,z,rfl,q⟩:=h
  refine⟨_,(ah (aE (aD (I0 T) (hr.mono (by decide)) rfl T.IA T.mB.kp T.Iz .nil ar (aa (pv 0) (aa (cE (v:=.int 4) rfl T.jB ⟨_,rfl⟩) (aa (pv 1) af)))))),?_⟩
  dsimp! []
  exact⟨_,_,_,rfl,q⟩
noncomputable def VV:Sp:=fun vs H Q _=>∃n z,vs=[.int n,.bl z]∧Q (.int (mQ n 8 z)) H
theorem Ja (T:Txt K mg a):aU P w K mg base cC 2 a.xG a.xH ["number","words"] VV:=by
 refine T.mz.ok Vj (fun vs H Q E h=>?_) (fun bL A outer s H vs Q E hr h=>?_)
 ·obtain⟨_,_,rfl,_⟩:=h
  rfl
 ·obtain⟨n,z,rfl,q⟩:=h
  refine⟨_,(ah (aE (aD (I0 T) (hr.mono (by decide)) rfl T.IA T.mB.kp T.Iz .nil ar (aa (pv 0) (aa (cE (v:=.int 8) rfl T.ib ⟨_,rfl⟩) (aa (pv 1) af)))))),?_⟩
  dsimp! []
  exact⟨_,_,_,rfl,q⟩
noncomputable def VW:Sp:=fun vs H Q _=>∃k m w z,vs=[.int k,.bl m,.bl w,.int z]∧(0≤k∧k < 3)∧0≤z∧z < 10 ^ 60∧Q (.int (hd k m w z)) H
theorem VX (T:Txt K mg a):aU P w K mg base cC 3 a.xt a.xu ["kind","marked","words","size"] VW:=by
 refine T.oU.ok HA (fun vs H Q E h=>?_) (fun bL A outer s H vs Q E hr h=>?_)
 ·obtain⟨_,_,_,_,rfl,_⟩:=h
  rfl
 ·obtain⟨k,m,w,z,rfl,⟨h0,h1⟩,hz,hz2,q⟩:=h
  refine⟨_,(ag (aN (i:=4) HA.nd rfl (Or.inl rfl) (aL Pu (pv 0) (aL LY (pv 3) (cE (v:=.int 4) rfl T.ic ⟨_,rfl⟩)))) (ah (aE (aD (Ja T) (hr.mono (by decide)) rfl T.Iy T.mz.kp T.Iw .nil ar (aa (aD (I_ T) (hr.mono (by decide)) rfl T.Iv T.my.kp T.Iu .nil ar (aa (pv 4) (aa (pv 1) af))) (aa (pv 2) af)))))),?_⟩
  dsimp! []
  have e16:(2:Int) ^ (4:Int).toNat=16:=by decide
  refine⟨⟨by decide,by decide,VS hz hz2⟩,?_⟩
  rw [e16]
  refine⟨_,_,rfl,_,_,rfl,?_⟩
  rw [MG m w h0 h1 hz]
  exact q
noncomputable def VY:Sp:=fun vs H Q _=>∃n,vs=[.int n]∧Q (.int (n % 4)) H
theorem VZ (T:Txt K mg a):aU P w K mg base cC 1 a.xv a.xw ["number"] VY:=by
 refine T.oV.ok Ve (fun vs H Q E h=>?_) (fun bL A outer s H vs Q E hr h=>?_)
 ·obtain⟨_,rfl,_⟩:=h
  rfl
 ·obtain⟨n,rfl,q⟩:=h
  refine⟨_,(ah (aE (aL tE (pv 0) (cE (v:=.int 3) rfl T.mI ⟨_,rfl⟩)))),?_⟩
  dsimp! []
  rw [L0]
  exact q
noncomputable def V0:Sp:=fun vs H Q _=>∃n,vs=[.int n]∧Q (.int (n / 16)) H
theorem V2 (T:Txt K mg a):aU P w K mg base cC 1 a.xx a.xy ["number"] V0:=by
 refine T.oW.ok Vf (fun vs H Q E h=>?_) (fun bL A outer s H vs Q E hr h=>?_)
 ·obtain⟨_,rfl,_⟩:=h
  rfl
 ·obtain⟨n,rfl,q⟩:=h
  refine⟨_,(ah (aE (aL TN (pv 0) (cE (v:=.int 4) rfl T.ic ⟨_,rfl⟩)))),?_⟩
  dsimp! []
  have e16:(2:Int) ^ (4:Int).toNat=16:=by decide
  rw [e16]
  exact⟨by decide,q⟩
noncomputable def V3:Sp:=fun vs H Q _=>∃n,vs=[.int n]∧Q (.bl (decide (n / 4 % 2=1))) H
theorem V4 (T:Txt K mg a):aU P w K mg base cC 1 a.xA a.xB ["number"] V3:=by
 refine T.oX.ok Vg (fun vs H Q E h=>?_) (fun bL A outer s H vs Q E hr h=>?_)
 ·obtain⟨_,rfl,_⟩:=h
  rfl
 ·obtain⟨n,rfl,q⟩:=h
  refine⟨_,(ah (aE (fE rz (aL tE (pv 0) (cE (v:=.int 4) rfl T.jB ⟨_,rfl⟩)) aq (aQ _)))),?_⟩
  rw [←MK] at q
  exact⟨_,rfl,_,_,rfl,rfl,rfl,q⟩
noncomputable def V6:Sp:=fun vs H Q _=>∃n,vs=[.int n]∧Q (.bl (decide (n / 8 % 2=1))) H
theorem V7 (T:Txt K mg a):aU P w K mg base cC 1 a.xC a.xD ["number"] V6:=by
 refine T.oY.ok Vh (fun vs H Q E h=>?_) (fun bL A outer s H vs Q E hr h=>?_)
 ·obtain⟨_,rfl,_⟩:=h
  rfl
 ·obtain⟨n,rfl,q⟩:=h
  refine⟨_,(ah (aE (fE rz (aL tE (pv 0) (cE (v:=.int 8) rfl T.ib ⟨_,rfl⟩)) aq (aQ _)))),?_⟩
  rw [←ML] at q
  exact⟨_,rfl,_,_,rfl,rfl,rfl,q⟩
noncomputable def iZ (m c:Int) (d:Addr):List (Str×V):=cK "inside" (.ref d) (cK "cells" (.int c) (cK "many" (.int m) []))
theorem afI:¬(("many":Str)="cells"):=by decide +kernel
theorem afJ:¬(("many":Str)="inside"):=by decide +kernel
theorem afK:¬(("cells":Str)="inside"):=by decide +kernel
theorem DZ (m c:Int) (d:Addr):(iZ m c d).lookup ("many":Str)=some (.int m):=by
 unfold iZ
 rw [aI,if_neg afJ,aI,if_neg afI,aI,if_pos rfl]
theorem pA (m c:Int) (d:Addr):(iZ m c d).lookup ("cells":Str)=some (.int c):=by
 unfold iZ
 rw [aI,if_neg afK,aI,if_pos rfl]
theorem fL (m c:Int) (d:Addr):(iZ m c d).lookup ("inside":Str)=some (.ref d):=by
 unfold iZ
 rw [aI,if_pos rfl]
theorem MM (m c:Int) (d:Addr) {n:Str}(h1:¬n="inside") (h2:¬n="cells") (h3:¬n="many"):(iZ m c d).lookup n=none:=by
 unfold iZ
 rw [aI,if_neg h1,aI,if_neg h2,aI,if_neg h3]
 all_goals rfl
structure cz (C:Addr) (H:Hp) (p d:Addr) (m c:Nat) (xs:List V):Prop where
 ob:∃dx,H p=some (.ins C dx (iZ m c d))
 li:H d=some (.lst xs)
 len:xs.length=m*c
 m0:0 < m
 c0:0 < c
 sm:m*c≤1000
theorem cz.ne {C:Addr}{H:Hp}{p d:Addr}{m c:Nat}{xs:List V}(R:cz C H p d m c xs):p≠d:=by
 obtain⟨dx,h⟩:=R.ob
 exact cu h R.li (by intro z; cases z)
theorem cz.keep {C:Addr}{H H':Hp}{p d:Addr}{m c:Nat}{xs ys:List V}(R:cz C H p d m c xs) (k:∀b o,b≠d→H b=some o→H' b=some o) (h:H' d=some (.lst ys)) (hl:ys.length=xs.length):cz C H' p d m c ys where
 ob:=by
  obtain⟨dx,e⟩:=R.ob
  exact⟨dx,k p _ R.ne e⟩
 li:=h
 len:=hl.trans R.len
 m0:=R.m0
 c0:=R.c0
 sm:=R.sm
theorem cz.same {C:Addr}{H H':Hp}{p d:Addr}{m c:Nat}{xs:List V}(R:cz C H p d m c xs) (k:ak H H'):cz C H' p d m c xs:=R.keep (fun b o _ e=>k b o e) (k d _ R.li) rfl
noncomputable def V8:Option Nat→V
 | none=>.bf
 | some q=>.int q
theorem lN {m c:Int}{d:Addr}{n:Str}(h1:¬n="inside":=by decide +kernel) (h2:¬n="cells":=by decide +kernel) (h3:¬n="many":=by decide +kernel):(iZ m c d).lookup n=none:=MM m c d h1 h2 h3
theorem V9 (m c:Int) (d:Addr):(iZ m c d).lookup ("gap":Str)=none:=lN
theorem D0 (m c:Int) (d:Addr):(iZ m c d).lookup ("gap_in":Str)=none:=lN
theorem AO (m c:Int) (d:Addr):(iZ m c d).lookup ("fill_in":Str)=none:=lN
theorem kE (m c:Int) (d:Addr):(iZ m c d).lookup ("read":Str)=none:=lN
theorem kF (m c:Int) (d:Addr):(iZ m c d).lookup ("write":Str)=none:=lN
theorem pB (m c:Int) (d:Addr):(iZ m c d).lookup ("room_of":Str)=none:=lN
noncomputable def V_ (C:Addr):Sp:=fun vs H Q _=>∃p d m c xs r L,vs=[.ref p,.int (r:Nat),.int (L:Nat)]∧cz C H p d m c xs∧r < m∧0 < L ∧
 ((∀p,r*c≤p→p+L≤r*c+c→¬cZ xs p L)→Q .bf H) ∧
 (∀q:Nat,r*c≤q→q+L≤r*c+c→cZ xs q L→(∀p,r*c≤p→p < q→¬cZ xs p L)→Q (.int q) H)
theorem Wa (T:Txt K mg a):aU P w K mg base cC 1 a.xP a.xQ ["self","room","length"] (V_ a.bN):=by
 refine T.rZ.ok oC (fun vs H Q E h=>?_) (fun bL A outer s H vs Q E hr h=>?_)
 ·obtain⟨_,_,_,_,_,_,_,rfl,_⟩:=h
  rfl
 ·obtain⟨p,d,m,c,xs,r,L,rfl,R,hrm,hL,k1,k2⟩:=h
  obtain⟨dx,h1⟩:=R.ob
  have hle:(r+1)*c≤m*c:=Nat.mul_le_mul_right c hrm
  rw [Nat.succ_mul] at hle
  have hsm:=R.sm
  have hlen:=R.len
  have t7:m≤1000:=Nat.le_trans (Nat.le_mul_of_pos_right m R.c0) hsm
  have afL:c≤1000:=Nat.le_trans (Nat.le_mul_of_pos_left c R.m0) hsm
  have erc:(r:Int)*(c:Int)=((r*c:Nat):Int):=by simp
  refine⟨_,(ag (aN (i:=3) oC.nd rfl (Or.inl rfl) (aL g8 (pv 1) (a8 (pv 0) rfl))) (ag (aN (i:=4) oC.nd rfl (Or.inl rfl) aq) (ag (bM PassesOwn.never rfl (rq rfl T.cF (aa (pv 3) (aa (aL de (pv 3) (a8 (pv 0) rfl)) af))) (a7 (i:=5) oC.nd rfl (Or.inl rfl)) aw) aw))),?_⟩
  dsimp! [h1,HO.ins.injEq,T.bj,T.cI,pA,erc]
  have e2:((((r*c:Nat):Int)+(c:Int)) - ((r*c:Nat):Int)).toNat=c:=by omega
  rw [e2]
  refine⟨.inl ⟨by omega,by omega⟩,by omega,by omega,by omega,by omega,ee (fun i σ H2=>H2=H∧∃(f:Nat) (o5:Option V),σ=[some (.ref p),some (.int r),some (.int L),some (.int ((r*c:Nat):Int)),some (.int f),o5]∧ig xs (r*c) i f L)
   ⟨rfl,0,none,rfl,.zero hL⟩ ?_ ?_⟩
  ·rintro i σ H2 hi ⟨rfl,f,o5,rfl,RA⟩
   have hx:r*c+i < xs.length:=by omega
   have ht:qm xs (((r*c:Nat):Int)+(i:Int))=some xs[r*c+i]:=by
    have:=bp (xs:=xs) (List.getElem?_eq_getElem hx)
    simpa using this
   refine a6.of (ag (aN (i:=4) oC.nd rfl (Or.inl rfl) (e5 (aH Ff (aG ay (a8 (pv 0) rfl) (pv 5) (fun _ _=>rfl)) dc (aQ _)) (aL de (pv 4) aq) aq)) (ah (cO (aH cX (pv 4) (pv 2) (aQ _)) (ah (aE (aL de (aL Fd (pv 5) (pv 2)) aq))) bB))) ?_
   dsimp! [h1,HO.ins.injEq,T.bj,T.bx,fL]
   refine⟨d,xs,_,_,rfl,rfl,aF.of R.li,ht,?_⟩
   have hgx:xs[r*c+i]?=some xs[r*c+i]:=List.getElem?_eq_getElem hx
   generalize xs[r*c+i]=v at hgx
   by_cases hv:v=.bf
   ·subst hv
    dsimp! []
    have aiw:=RA.le
    refine mP (fun h=>?_) fun h=>?_
    ·have sL:f+1=L:=by
      have:=of_decide_eq_true h
      omega
     obtain⟨b1,b2,b3⟩:=RA.found hgx sL
     have e:((r*c:Nat):Int)+(i:Int) - (L:Int)+1=((r*c+i+1 - L:Nat):Int):=by omega
     rw [e]
     exact k2 _ b1 (by omega) b2 b3
    ·exact⟨f+1,by simp,RA.DW hgx fun z=>h (decide_eq_true (by omega))⟩
   ·dsimp! [hv]
    refine mP (fun h=>?_) fun h=>?_
    ·have:=of_decide_eq_true h
     omega
    ·exact⟨0,rfl,RA.DX hgx hv⟩
  ·rintro σ H2 ⟨rfl,f,o5,rfl,RA⟩
   refine a6.of (ah (aE dc)) ?_
   dsimp! []
   exact k1 RA.no
noncomputable def Wb (C:Addr):Sp:=fun vs H Q _=>∃p d m c xs L,vs=[.ref p,.int (L:Nat)]∧cz C H p d m c xs∧0 < L∧∀r,zh xs c L r→Q (V8 r) H
theorem Wc (T:Txt K mg a):aU P w K mg base cC 2 a.xN a.xO ["self","length"] (Wb a.bN):=by
 refine T.rY.ok AI (fun vs H Q E h=>?_) (fun bL A outer s H vs Q E hr h=>?_)
 ·obtain⟨_,_,_,_,_,_,rfl,_⟩:=h
  rfl
 ·obtain⟨p,d,m,c,xs,L,rfl,R,hL,k⟩:=h
  obtain⟨dx,h1⟩:=R.ob
  have hsm:=R.sm
  have t7:m≤1000:=Nat.le_trans (Nat.le_mul_of_pos_right m R.c0) hsm
  refine⟨_,(ag (bM PassesOwn.never rfl (cG rfl T.cF (aa (a8 (pv 0) rfl) af)) (a7 (i:=2) AI.nd rfl (Or.inl rfl)) aw) aw),?_⟩
  dsimp! [h1,HO.ins.injEq,T.bj,T.dv,DZ]
  refine⟨by omega,by omega,ee (fun i σ H2=>H2=H∧∃(o2 o3:Option V),σ=[some (.ref p),some (.int L),o2,o3]∧∀r,r < i→∀q,r*c≤q→q+L≤r*c+c→¬cZ xs q L)
   ⟨rfl,none,none,rfl,fun r h=>absurd h (Nat.not_lt_zero _)⟩ ?_ ?_⟩
  ·rintro i σ H2 hi ⟨rfl,o2,o3,rfl,inv⟩
   have him:i < m:=by omega
   refine a6.of (ag (aN (i:=3) AI.nd rfl (Or.inl rfl) (aC (pv 0) T.bj T.IC (Wa T) (hr.mono (by decide)) T.QB .nil ar (aa (pv 2) (aa (pv 1) af)))) (ah (cO (aH gq (pv 3) dc (aQ _)) (ah (aE (pv 3))) bB))) ?_
   dsimp! [h1,HO.ins.injEq,D0]
   refine⟨p,d,m,c,xs,i,L,by simp,R,him,hL,fun hn=>?_,fun q q1 q2 q3 q4=>?_⟩
   ·dsimp! []
    refine fun r nQ=>?_
    rcases Nat.lt_succ_iff_lt_or_eq.mp nQ with h | h
    ·exact inv r h
    ·subst h
     exact hn
   ·dsimp! []
    exact k (some q) (DY R.c0 hL R.len him inv q1 q2 q3 q4)
  ·rintro σ H2 ⟨rfl,o2,o3,rfl,inv⟩
   refine a6.of (ah (aE dc)) ?_
   dsimp! []
   exact k none (IY R.c0 hL R.len (fun r nQ=>inv r (by omega)))
noncomputable def Wd (C:Addr):Sp:=fun vs H Q _=>∃p d m c xs i v,vs=[.ref p,.int (i:Nat)]∧cz C H p d m c xs∧xs[i]?=some v∧Q v H
theorem t8 (T:Txt K mg a):aU P w K mg base cC 1 a.xT a.xU ["self","place"] (Wd a.bN):=by
 refine T.r8.ok Vn (fun vs H Q E h=>?_) (fun bL A outer s H vs Q E hr h=>?_)
 ·obtain⟨_,_,_,_,_,_,_,rfl,_⟩:=h
  rfl
 ·obtain⟨p,d,m,c,xs,i,v,rfl,R,hv,q⟩:=h
  obtain⟨dx,h1⟩:=R.ob
  refine⟨_,(ah (aE (aG ay (a8 (pv 0) rfl) (pv 1) (fun _ _=>rfl)))),?_⟩
  dsimp! [h1,HO.ins.injEq,T.bj,T.bx,fL]
  exact⟨d,xs,_,v,rfl,rfl,aF.of R.li,bp hv,q⟩
theorem CS {n i:Nat}(h:i < n):Lh n (i:Int)=some i:=by
 unfold Lh
 rw [if_pos (by omega),if_pos (by omega)]
 simp
noncomputable def eX (d:Addr) (H H':Hp):Prop:=∀b o,b≠d→H b=some o→H' b=some o
theorem eX.refl (d:Addr) (H:Hp):eX d H H:=fun _ _ _ h=>h
theorem eX.put {d l:Addr}{H H':Hp}{o:HO}(k:eX d H H') (h:H' l=none):eX d H (upd H' l o):=fun b u hb e=>by
 have:=k b u hb e
 rw [ai (ao this h)]
 exact this
theorem eX.set {d:Addr}{H H':Hp}{o:HO}(k:eX d H H'):eX d H (upd H' d o):=fun b u hb e=>by
 rw [ai hb]
 exact k b u hb e
noncomputable def We (K:PySem.W.Frag) (C:Addr):Sp:=fun vs H Q _=>∃p d m c xs i l ys,vs=[.ref p,.int (i:Nat),.ref l]∧cz C H p d m c xs∧H l=some (.lst ys)∧l≠d∧i+ys.length≤xs.length ∧
 ∀H',eX d H H'→H' d=some (.lst (cA xs i ys))→Q .bf H'
theorem Wf (T:Txt K mg a):aU P w K mg base cC 1 a.xR a.xS ["self","place","some"] (We K a.bN):=by
 refine T.r0.ok AJ (fun vs H Q E h=>?_) (fun bL A outer s H vs Q E hr h=>?_)
 ·obtain⟨_,_,_,_,_,_,_,_,rfl,_⟩:=h
  rfl
 ·obtain⟨p,d,m,c,xs,i,l,ys,rfl,R,hl,hld,jq,k⟩:=h
  have hsm:=R.sm
  have hlen:=R.len
  refine⟨_,(ah (bM PassesOwn.never rfl (Mr rfl T.fK (pv 2) (pv 1)) (tD (n:=2) rfl (cP (a7 (i:=3) AJ.nd rfl (Or.inl rfl)) (cP (a7 (i:=4) AJ.nd rfl (Or.inl rfl)) j7))) aw)),?_⟩
  dsimp! []
  refine⟨i,rfl,⟨ys,aF.of hl⟩,by omega,Mt ys (fun j σ H2=>∃(o3 o4:Option V),σ=[some (.ref p),some (.int i),some (.ref l),o3,o4]∧eX d H H2∧H2 d=some (.lst (cA xs i (ys.take j))))
   ⟨none,none,rfl,.refl d H,R.li⟩ ?_ ?_ ?_⟩
  ·rintro j σ H2 hj ⟨o3,o4,rfl,kp,hd⟩
   exact aF.of (kp l _ hld hl)
  ·rintro j x t σ H2 hx ⟨o3,o4,rfl,kp,hd⟩ ht
   have Mz:=(List.getElem?_eq_some_iff.mp hx).1
   have nd:d≠t:=ao hd ht
   have R2:=R.keep (kp.put (o:=.tup [.int ((i+j:Nat):Int),x]) ht) (by rw [ai nd]; exact hd) (d9 _ _ _)
   obtain⟨dx,h1⟩:=R2.ob
   refine⟨t,_,rfl,dO.of ae,rfl,?_⟩
   dsimp! []
   refine a6.of (ah (jv (pv 4) (og (a8 (pv 0) rfl) (pv 3) set_list))) ?_
   dsimp! [h1,HO.ins.injEq,T.bj,T.bx,fL]
   have e3:Lh (cA xs i (ys.take j)).length ((i+j:Nat):Int)=some (i+j):=CS (by rw [d9]; omega)
   refine⟨d,_,_,_,rfl,rfl,R2.li,e3,(kp.put ht).set,?_⟩
   rw [ae,zj hx]
  ·rintro σ H2 ⟨o3,o4,rfl,kp,hd⟩
   dsimp! []
   refine k H2 kp ?_
   rw [hd,List.take_of_length_le (Nat.le_refl _)]
noncomputable def Wg (C:Addr):Sp:=fun vs H Q _=>∃p d m c xs i v,vs=[.ref p,.int (i:Nat),v]∧cz C H p d m c xs∧i < xs.length∧Q .bf (upd H d (.lst (xs.set i v)))
theorem t9 (T:Txt K mg a):aU P w K mg base cC 1 a.xV a.xW ["self","place","value"] (Wg a.bN):=by
 refine T.r_.ok Vo (fun vs H Q E h=>?_) (fun bL A outer s H vs Q E hr h=>?_)
 ·obtain⟨_,_,_,_,_,_,_,rfl,_⟩:=h
  rfl
 ·obtain⟨p,d,m,c,xs,i,v,rfl,R,hv,q⟩:=h
  obtain⟨dx,h1⟩:=R.ob
  refine⟨_,(ah (jv (pv 2) (og (a8 (pv 0) rfl) (pv 1) set_list))),?_⟩
  dsimp! [h1,HO.ins.injEq,T.bj,T.bx,fL]
  exact⟨d,xs,_,i,rfl,rfl,R.li,CS hv,q⟩
theorem afM (f:Str) (v:V):(cK f v []).length < 1000:=Nat.lt_of_le_of_lt (bZ f v []) (by decide)
theorem aar (f g:Str) (v u:V):(cK g u (cK f v [])).length < 1000:=Nat.lt_of_le_of_lt (bZ g u _) (Nat.lt_of_le_of_lt (Nat.succ_le_succ (bZ f v [])) (by decide))
theorem len0:([]:List (Str×V)).length < 1000:=by decide
theorem MN (n:Nat):(List.replicate n [V.bf]).flatten=List.replicate n V.bf:=by
 induction n with
 | zero=>rfl
 | succ n ih=>rw [List.replicate_succ,List.replicate_succ,List.flatten_cons,ih]; rfl
noncomputable def Wh (C:Addr):Sp:=fun vs H Q _=>∃p dx m c,vs=[.ref p,.int (m:Nat),.int (c:Nat)]∧H p=some (.ins C dx [])∧0 < m∧0 < c∧m*c≤1000 ∧
 ∀H' d,cz C H' p d m c (List.replicate (m*c) .bf)→(∀b o,b≠p→H b=some o→H' b=some o)→H d=none→Q .bf H'
theorem Wi (T:Txt K mg a):aU P w K mg base cC 1 a.xK a.xM ["self","many","cells"] (Wh a.bN):=by
 refine T.rX.ok Vm (fun vs H Q E h=>?_) (fun bL A outer s H vs Q E hr h=>?_)
 ·obtain⟨_,_,_,_,rfl,_⟩:=h
  rfl
 ·obtain⟨p,dx,m,c,rfl,hp,hm,hc,Q0,k⟩:=h
  refine⟨_,(ag (fM (pv 0) (pv 1) rfl) (ag (fM (pv 0) (pv 2) rfl) (ah (fM (pv 0) (aL Av (bD (aa dc af)) (aL g8 (pv 1) (pv 2))) rfl)))),?_⟩
  have t7:m≤1000:=Nat.le_trans (Nat.le_mul_of_pos_right m hc) Q0
  have emc:(m:Int)*(c:Int)=((m*c:Nat):Int):=by simp
  dsimp! [hp,ae,HO.ins.injEq,T.bj,T.dv,T.cI,T.bx,len0,afM,aar,emc,jY]
  refine⟨by decide,by decide,fun l hl=>⟨.inl ⟨by omega,by omega⟩,l,_,[.bf],rfl,rfl,ae,by omega,by omega,by rw [Int.toNat_natCast,List.length_singleton,Nat.one_mul]; exact Nat.le_of_lt (a5 Q0),fun d hd=>?_⟩⟩
  have npl:p≠l:=ao ae hl
  have Jb:p≠d:=ao (by rw [ai npl]; exact ae) hd
  have nld:l≠d:=ao ae hd
  rw [Int.toNat_natCast,MN]
  refine⟨_,_,_,by rw [ai Jb,ai npl,ae],T.bj,T.bx,aar _ _ _ _,k _ d ⟨⟨dx,ae⟩,by rw [ai Jb.symm,ae],by simp,hm,hc,Q0⟩ (fun b o hb e=>?_) ?_⟩
  ·have Q8:b≠l:=fun z=>by
    subst z
    rw [ai hb] at hl
    rw [hl] at e
    cases e
   have hbd:b≠d:=fun z=>by
    subst z
    rw [ai Q8,ai hb] at hd
    rw [hd] at e
    cases e
   rw [ai hb,ai hbd,ai Q8,ai hb]
   exact e
  ·rw [ai nld.symm,ai Jb.symm] at hd
   exact hd
noncomputable def Kp (S:Addr→Prop) (H H':Hp):Prop:=∀b o,¬S b→H b=some o→H' b=some o
theorem Kp.refl (S:Addr→Prop) (H:Hp):Kp S H H:=fun _ _ _ h=>h
theorem Kp.trans {S:Addr→Prop}{H H1 H2:Hp}(k:Kp S H H1) (k2:Kp S H1 H2):Kp S H H2:=fun b o n h=>k2 b o n (k b o n h)
theorem Kp.mono {S S':Addr→Prop}{H H':Hp}(k:Kp S H H') (i:∀b,S b→S' b):Kp S' H H':=fun b o n h=>k b o (fun z=>n (i b z)) h
theorem ak.kp {S:Addr→Prop}{H H':Hp}(k:ak H H'):Kp S H H':=fun b o _ h=>k b o h
theorem Kp.set {S:Addr→Prop}{H H':Hp}{l:Addr}{o:HO}(k:Kp S H H') (h:S l):Kp S H (upd H' l o):=fun b u n e=>by
 rw [ai (fun z=>n (by rw [z]; exact h))]
 exact k b u n e
theorem eX.kp {S:Addr→Prop}{d:Addr}{H H':Hp}(k:eX d H H') (h:S d):Kp S H H':=fun b o n e=>k b o (fun z=>n (by rw [z]; exact h)) e
noncomputable def Mu (H:Hp) (b:Addr):Prop:=(∃xs,H b=some (.lst xs))∨∃kvs,H b=some (.dK kvs)
theorem Mu.Tq {H:Hp}{b:Addr}(m:Mu H b) {xs:List V}(h:Rd H b (.tup xs)):False:=by
 rcases m with ⟨ys,m⟩ | ⟨ys,m⟩ <;> rcases h with h | ⟨o,h⟩ <;> (rw [m] at h; cases h)
theorem Kp.Dx {K:PySem.W.Frag}{S:Addr→Prop}{H H':Hp}(k:Kp S H H') (mu:∀b,S b→Mu H b) {a:Addr}{xs:List V}(h:dO K H a xs):dO K H' a xs:=by
 rcases h with h | h
 ·have n:¬S a:=fun z=>(mu a z).Tq h
  rcases h with h | ⟨o,h⟩
  ·exact .inl (.inl (k _ _ n h))
  ·exact .inl (.inr ⟨o,k _ _ n h⟩)
 ·exact .inr h
theorem aF.ins {K:PySem.W.Frag}{H:Hp}{l p C dx:Addr}{xs:List V}{fs:List (Str×V)}{o:HO}(h:aF K H l xs) (hp:H p=some (.ins C dx fs)):aF K (upd H p o) l xs:=by
 rcases h with (h | ⟨u,h⟩) | h
 ·exact .inl (.inl (by rw [ai (cu h hp (by intro z; cases z))]; exact h))
 ·exact .inl (.inr ⟨u,by rw [ai (cu h hp (by intro z; cases z))]; exact h⟩)
 ·exact .inr h
inductive Vl where
 | no | num (n:Int) | th (n:Int)
noncomputable def Vl.items:Vl→List V
 | .no=>[.str "nothing"]
 | .num n=>[.str "number",.int n]
 | .th n=>[.str "thing",.int n]
noncomputable def Vl.word:Vl→Str
 | .no=>"nothing"
 | .num _=>"number"
 | .th _=>"thing"
noncomputable def Vl.Wj:Vl→Bool
 | .th _=>true
 | _=>false
noncomputable def Vl.nm:Vl→Option V
 | .th n=>some (.int n)
 | _=>none
theorem Vl.hd (v:Vl):qm v.items 0=some (.str v.word):=by cases v <;> rfl
theorem Vl.is:∀v:Vl,decide (v.word=("thing":Str))=v.Wj
 | .no=>(by decide +kernel:decide (("nothing":Str)="thing")=false)
 | .num _=>(by decide +kernel:decide (("number":Str)="thing")=false)
 | .th _=>(by decide +kernel:decide (("thing":Str)="thing")=true)
theorem Vl.afN (v:Vl):v.nm.isSome=v.Wj:=by cases v <;> rfl
noncomputable def c_ (K:PySem.W.Frag) (H:Hp) (x:V) (v:Vl):Prop:=∃t,x=.ref t∧dO K H t v.items
theorem c_.same {K:PySem.W.Frag}{H H':Hp}{x:V}{v:Vl}(h:c_ K H x v) (k:ak H H'):c_ K H' x v:=by
 obtain⟨t,e,h⟩:=h
 exact⟨t,e,k.Dx h⟩
theorem c_.kp {K:PySem.W.Frag}{S:Addr→Prop}{H H':Hp}{x:V}{v:Vl}(h:c_ K H x v) (k:Kp S H H') (mu:∀b,S b→Mu H b):c_ K H' x v:=by
 obtain⟨t,e,h⟩:=h
 exact⟨t,e,k.Dx mu h⟩
noncomputable def Wk (K:PySem.W.Frag):Sp:=fun vs H Q _=>∃x v,vs=[x]∧c_ K H x v∧Q (.bl v.Wj) H
theorem Wl (T:Txt K mg a):aU P w K mg base cC 1 a.wy a.wz ["value"] (Wk K):=by
 refine T.oH.ok UT (fun vs H Q E h=>?_) (fun bL A outer s H vs Q E hr h=>?_)
 ·obtain⟨_,_,rfl,_⟩:=h
  rfl
 ·obtain⟨x,v,rfl,⟨t,rfl,hv⟩,q⟩:=h
  refine⟨_,(ah (aE (fE cX (aG dy (pv 0) aq (fun _ _=>rfl)) aT (aQ _)))),?_⟩
  dsimp! []
  refine⟨t,_,_,_,rfl,rfl,hv,v.hd,?_⟩
  dsimp! []
  rw [v.is]
  exact q
noncomputable def AQ (K:PySem.W.Frag):Sp:=fun vs H Q _=>∃(l:Addr) (xs:List V) (vl:List Vl),vs=[.ref l]∧aF K H l xs∧xs.length≤1000∧vl.length=xs.length∧(∀(i:Nat) x v,xs[i]?=some x→vl[i]?=some v→c_ K H x v) ∧
 ∀r,H r=none→Q (.ref r) (upd H r (.lst (vl.filterMap Vl.nm)))
theorem t_ (T:Txt K mg a):aU P w K mg base cC 3 a.wA a.wB ["some"] (AQ K):=by
 refine T.jj.ok UU (fun vs H Q E h=>?_) (fun bL A outer s H vs Q E hr h=>?_)
 ·obtain⟨_,_,_,rfl,_⟩:=h
  rfl
 ·obtain⟨l,xs,vl,rfl,hl,hz,hlen,hv,q⟩:=h
  refine⟨_,(ah (aE (mi rfl (gw (x:="value") (ns:=[]) (fr:=[]) rfl (by decide +kernel) rfl (by decide +kernel) rfl (List.forall_mem_nil _) rfl rfl (List.forall_mem_nil _) (by decide +kernel)) (bg (pv 0)) (fun _ _ _ _=>(aG (tL (K:=K) rfl) (pv 0) aq (fun _ _=>rfl))) (fun _ _ _ _=>(.one (dU (aD (Wl T) (hr.mono (by decide)) rfl T.P9 T.oH.kp T.P8 .nil ar (aa (pv 0) af)))))))),?_⟩
  dsimp! []
  refine⟨⟨_,hl⟩,fun D hD=>hZ xs vl Vl.nm hz hlen (fun ys=>(ak.put hD).seq hl) ?_ ?_ (q D hD)⟩
  ·intro i x v ys R hx hb r
   rw [v.afN] at r
   have:=(hv i x v hx hb).same (ak.put (o:=.lst ys) hD)
   dsimp! [aP]
   exact⟨_,v,rfl,this,_,rfl,r⟩
  ·intro i x v y ys R hx hb hy r
   obtain⟨t,rfl,ht⟩:=(hv i x v hx hb).same (ak.put (o:=.lst ys) hD)
   cases v with
   | no=>cases hy
   | num n=>cases hy
   | th n=>
    cases hy
    dsimp! [aP]
    exact⟨t,_,_,_,rfl,rfl,ht,rfl,r⟩
inductive Tg where
 | plain (fs:List Vl) (w:Option Int) | weak (f:Vl) | pair (k v:Vl)
noncomputable def Tg.fs:Tg→List Vl
 | .plain fs _=>fs
 | .weak f=>[f]
 | .pair k v=>[k,v]
noncomputable def Tg.sort:Tg→Str
 | .plain _ _=>"plain"
 | .weak _=>"weak"
 | .pair _ _=>"pair"
noncomputable def Tg.words:Tg→Option Int
 | .plain _ w=>w
 | _=>none
noncomputable def wV:Option Int→V
 | none=>.bf
 | some n=>.int n
noncomputable def eC (K:PySem.W.Frag) (H:Hp) (xs:List V) (vl:List Vl):Prop:=vl.length=xs.length∧∀(i:Nat) x v,xs[i]?=some x→vl[i]?=some v→c_ K H x v
theorem eC.same {K:PySem.W.Frag}{H H':Hp}{xs:List V}{vl:List Vl}(h:eC K H xs vl) (k:ak H H'):eC K H' xs vl:=⟨h.1,fun i x v a b=>(h.2 i x v a b).same k⟩
theorem eC.kp {K:PySem.W.Frag}{S:Addr→Prop}{H H':Hp}{xs:List V}{vl:List Vl}(h:eC K H xs vl) (k:Kp S H H') (mu:∀b,S b→Mu H b):eC K H' xs vl:=⟨h.1,fun i x v a b=>(h.2 i x v a b).kp k mu⟩
theorem eC.nil (K:PySem.W.Frag) (H:Hp):eC K H [] []:=⟨rfl,fun i x v a _=>by simp at a⟩
theorem eC.cons {K:PySem.W.Frag}{H:Hp}{x:V}{v:Vl}{xs:List V}{vl:List Vl}(h:c_ K H x v) (t:eC K H xs vl):eC K H (x::xs) (v::vl):=⟨by simp [t.1],fun i y u a b=>by
 cases i with
 | zero=>
  simp at a b
  subst a b
  exact h
 | succ i=>exact t.2 i y u (by simpa using a) (by simpa using b)⟩
noncomputable def Lk (s:Str) (d:Addr):List (Str×V):=cK "parts" (.ref d) (cK "called" (.str s) [])
noncomputable def Ll (d:Addr) (w:Option Int):List (Str×V):=cK "last_words" (wV w) (Lk "plain" d)
theorem afO:¬(("called":Str)="parts"):=by decide +kernel
theorem afP:¬(("called":Str)="last_words"):=by decide +kernel
theorem afQ:¬(("parts":Str)="last_words"):=by decide +kernel
noncomputable def Tg.cls (a:cN):Tg→Addr
 | .plain _ _=>a.ax
 | .weak _=>a.aZ
 | .pair _ _=>a.az
noncomputable def Tg.fl (d:Addr):Tg→List (Str×V)
 | .plain _ w=>Ll d w
 | .weak _=>Lk "weak" d
 | .pair _ _=>Lk "pair" d
theorem Tg.called (t:Tg) (d:Addr):(t.fl d).lookup ("called":Str)=some (.str t.sort):=by
 cases t <;> simp only [Tg.fl,Ll,Lk,aI,if_neg afP,if_neg afO,if_true,Tg.sort]
theorem Tg.parts (t:Tg) (d:Addr):(t.fl d).lookup ("parts":Str)=some (.ref d):=by
 cases t <;> simp only [Tg.fl,Ll,Lk,aI,if_neg afQ,if_true]
theorem Tg.no (t:Tg) (d:Addr) {n:Str}(h1:¬n="called":=by decide +kernel) (h2:¬n="parts":=by decide +kernel) (h3:¬n="last_words":=by decide +kernel):(t.fl d).lookup n=none:=by
 cases t <;> simp only [Tg.fl,Ll,Lk,aI,if_neg h1,if_neg h2,if_neg h3] <;> rfl
theorem Wm (d:Addr) (w:Option Int):(Ll d w).lookup ("last_words":Str)=some (wV w):=by
 unfold Ll
 rw [aI,if_pos rfl]
structure gc (a:cN) (K:PySem.W.Frag) (H:Hp) (p d:Addr) (t:Tg):Prop where
 ob:∃dx,H p=some (.ins (t.cls a) dx (t.fl d))
 li:∃xs,H d=some (.lst xs)∧eC K H xs t.fs∧xs.length≤1000
theorem gc.same {a:cN}{K:PySem.W.Frag}{H H':Hp}{p d:Addr}{t:Tg}(h:gc a K H p d t) (k:ak H H'):gc a K H' p d t:=by
 obtain⟨⟨dx,h1⟩,xs,h2,h3,h4⟩:=h
 exact⟨⟨dx,k _ _ h1⟩,xs,k _ _ h2,h3.same k,h4⟩
theorem Tg.na (T:Txt K mg a) (t:Tg):fu K (t.cls a)∧bW K (t.cls a) "called"∧bW K (t.cls a) "parts":=by
 cases t
 ·exact⟨T.aK,T.bP,T.bH⟩
 ·exact⟨T.bO,T.cT,T.dh⟩
 ·exact⟨T.aR,T.bV,T.bz⟩
theorem Tg.mem (t:Tg) (s:Sp):(t.cls a,s)∈[(a.aZ,s),(a.ax,s),(a.az,s)]:=by
 cases t
 ·exact .tail _ (.head _)
 ·exact .head _
 ·exact .tail _ (.tail _ (.head _))
noncomputable def Wn (K:PySem.W.Frag):Sp:=fun vs H Q _=>∃p C dx s l xs,vs=[.ref p,.str s,.ref l]∧fu K C∧bW K C "called"∧bW K C "parts"∧H p=some (.ins C dx [])∧aF K H l xs ∧
 ∀d H',eX p H H'→H d=none→H' p=some (.ins C dx (Lk s d))→H' d=some (.lst xs)→Q .bf H'
theorem AR (T:Txt K mg a):aU P w K mg base cC 1 a.rL a.wC ["self","sort","some"] (Wn K):=by
 refine T.oI.ok UW (fun vs H Q E h=>?_) (fun bL A outer s H vs Q E hr h=>?_)
 ·obtain⟨_,_,_,_,_,_,rfl,_⟩:=h
  rfl
 ·obtain⟨p,C,dx,s,l,xs,rfl,hC,hN1,hN2,h1,hl,q⟩:=h
  refine⟨_,(ag (fM (pv 0) (pv 1) rfl) (ah (fM (pv 0) (dX eS rfl T.ie kb (aa (pv 2) af)) rfl))),?_⟩
  dsimp! [h1,HO.ins.injEq,hC,hN1,hN2]
  refine⟨by decide,xs,.inl (aF.ins hl h1),fun d hd=>?_⟩
  have Jb:p≠d:=ao ae hd
  refine⟨C,dx,cK "called" (.str s) [],by rw [ai Jb]; exact ae,hC,hN2,Nat.lt_of_le_of_lt (bZ _ _ _) (by decide),q d _ ?_ ?_ ae ?_⟩
  ·intro b o hb e
   rw [ai hb,ai (ao (by rw [ai hb]; exact e) hd),ai hb]
   exact e
  ·rw [ai Jb.symm] at hd
   exact hd
  ·rw [ai Jb.symm]
   exact ae
noncomputable def fO (a:cN) (K:PySem.W.Frag):Sp:=fun vs H Q _=>∃p d t,vs=[.ref p]∧gc a K H p d t∧Q (.str t.sort) H
theorem gE (T:Txt K mg a):aU P w K mg base cC 1 a.oE a.wD ["self"] (fO a K):=by
 refine T.mm.ok UX (fun vs H Q E h=>?_) (fun bL A outer s H vs Q E hr h=>?_)
 ·obtain⟨_,_,_,rfl,_⟩:=h
  rfl
 ·obtain⟨p,d,t,rfl,⟨⟨dx,h1⟩,_⟩,q⟩:=h
  obtain⟨hC,hN1,hN2⟩:=t.na T
  refine⟨_,(ah (aE (a8 (pv 0) rfl))),?_⟩
  dsimp! [h1,HO.ins.injEq,hC,hN1,t.called]
  exact q
noncomputable def cM (a:cN) (K:PySem.W.Frag):Sp:=fun vs H Q _=>∃p d t,vs=[.ref p]∧gc a K H p d t∧∀r xs,H r=none→eC K H xs t.fs→xs.length≤1000→Q (.ref r) (upd H r (.lst xs))
theorem dz (T:Txt K mg a):aU P w K mg base cC 1 a.oF a.wF ["self"] (cM a K):=by
 refine T.mn.ok UY (fun vs H Q E h=>?_) (fun bL A outer s H vs Q E hr h=>?_)
 ·obtain⟨_,_,_,rfl,_⟩:=h
  rfl
 ·obtain⟨p,d,t,rfl,⟨⟨dx,h1⟩,xs,h2,h3,h4⟩,q⟩:=h
  obtain⟨hC,hN1,hN2⟩:=t.na T
  refine⟨_,(ah (aE (dX eS rfl T.ie kb (aa (a8 (pv 0) rfl) af)))),?_⟩
  dsimp! [h1,HO.ins.injEq,hC,hN2,t.parts]
  exact⟨xs,.inl (aF.of h2),fun l hl=>q l xs hl h3 h4⟩
noncomputable def ff:Sp:=fun vs H Q _=>∃p,vs=[.ref p]∧Q .bf H
theorem ij (T:Txt K mg a):aU P w K mg base cC 1 a.rO a.wI ["self"] ff:=by
 refine T.oM.ok U4 (fun vs H Q E h=>?_) (fun bL A outer s H vs Q E hr h=>?_)
 ·obtain⟨_,rfl,_⟩:=h
  rfl
 ·obtain⟨p,rfl,q⟩:=h
  refine⟨_,(ah (aE dc)),?_⟩
  dsimp! []
  exact q
noncomputable def lO (a:cN) (K:PySem.W.Frag):Sp:=fun vs H Q _=>∃p d fs w,vs=[.ref p]∧gc a K H p d (.plain fs w)∧Q (wV w) H
theorem ua (T:Txt K mg a):aU P w K mg base cC 1 a.wN a.wO ["self"] (lO a K):=by
 refine T.rS.ok U7 (fun vs H Q E h=>?_) (fun bL A outer s H vs Q E hr h=>?_)
 ·obtain⟨_,_,_,_,rfl,_⟩:=h
  rfl
 ·obtain⟨p,d,fs,w,rfl,⟨⟨dx,h1⟩,_⟩,q⟩:=h
  have h2:H p=some (.ins a.ax dx (Ll d w)):=h1
  refine⟨_,(ah (aE (a8 (pv 0) rfl))),?_⟩
  dsimp! [h2,HO.ins.injEq,T.aK,T.bu,Wm]
  exact q
theorem iS (t:Tg) {p d:Addr}{H:Hp}{Q:VK}{E:XK}(h:gc a K H p d t) (q:Q (wV t.words) H):∃sp,(t.cls a,sp)∈[(a.aZ,ff),(a.ax,lO a K),(a.az,ff)]∧sp [.ref p] H Q E:=by
 cases t with
 | plain fs w=>exact⟨_,.tail _ (.head _),p,d,fs,w,rfl,h,q⟩
 | weak f=>exact⟨_,.head _,p,rfl,q⟩
 | pair k v=>exact⟨_,.tail _ (.tail _ (.head _)),p,rfl,q⟩
noncomputable def Wo (a:cN) (K:PySem.W.Frag):Sp:=fun vs H Q _=>∃p dx l xs w,vs=[.ref p,.ref l,wV w]∧H p=some (.ins a.ax dx [])∧aF K H l xs ∧
 ∀d H',eX p H H'→H d=none→H' p=some (.ins a.ax dx (Ll d w))→H' d=some (.lst xs)→Q .bf H'
theorem Wq (T:Txt K mg a):aU P w K mg base cC 6 a.wJ a.wK ["self","some","last_words"] (Wo a K):=by
 refine T.rQ.ok U5 (fun vs H Q E h=>?_) (fun bL A outer s H vs Q E hr h=>?_)
 ·obtain⟨_,_,_,_,_,rfl,_⟩:=h
  rfl
 ·obtain⟨p,dx,l,xs,w,rfl,h1,hl,q⟩:=h
  refine⟨_,(ag (aV (Cr (cE (v:=.ref a.aZ) rfl T.kB rfl) T.fN (AR T) (hr.mono (by decide)) T.CA .nil ar (aa (pv 0) (aa aT (aa (pv 1) af))))) (ah (fM (pv 0) (pv 2) rfl))),?_⟩
  dsimp! []
  refine⟨p,_,dx,_,l,xs,rfl,T.aK,T.bP,T.bH,h1,hl,fun d H' k hd hp h2=>?_⟩
  have Jb:d≠p:=cu h2 hp (by intro z; cases z)
  refine⟨_,dx,_,hp,T.aK,T.bu,?_,q d _ (fun b o hb e=>?_) hd ae ?_⟩
  ·refine Nat.lt_of_le_of_lt (bZ _ _ _) (Nat.lt_of_le_of_lt (Nat.succ_le_succ (bZ _ _ _)) (by decide))
  ·rw [ai hb]
   exact k b o hb e
  ·rw [ai Jb]
   exact h2
noncomputable def Wr (a:cN) (K:PySem.W.Frag):Sp:=fun vs H Q _=>∃p dx x y,vs=[.ref p,x,y]∧H p=some (.ins a.az dx []) ∧
 ∀d H',eX p H H'→H d=none→H' p=some (.ins a.az dx (Lk "pair" d))→H' d=some (.lst [x,y])→Q .bf H'
theorem cm {H:Hp}{b l:Addr}{o:HO}(h:upd H l o b=none):H b=none:=by
 by_cases z:b=l
 ·rw [z,ae] at h
  cases h
 ·rw [ai z] at h
  exact h
theorem Ws (T:Txt K mg a):aU P w K mg base cC 5 a.wQ a.wR ["self","key","value"] (Wr a K):=by
 refine T.rT.ok U8 (fun vs H Q E h=>?_) (fun bL A outer s H vs Q E hr h=>?_)
 ·obtain⟨_,_,_,_,rfl,_⟩:=h
  rfl
 ·obtain⟨p,dx,x,y,rfl,h1,q⟩:=h
  refine⟨_,(ah (aV (Cr (cE (v:=.ref a.aZ) rfl T.kB rfl) T.fN (AR T) (hr.mono (by decide)) T.CA .nil ar (aa (pv 0) (aa aT (aa (bD (aa (pv 1) (aa (pv 2) af))) af)))))),?_⟩
  dsimp! []
  refine⟨by decide,fun l hl=>⟨p,_,dx,_,l,[x,y],rfl,T.aR,T.bV,T.bz,by rw [ai (ao h1 hl)]; exact h1,aF.of ae,fun d H' k hd hp h2=>?_⟩⟩
  exact q d H' (fun b o hb e=>k b o hb (ak.put hl b o e)) (cm hd) hp h2
theorem ik {H H':Hp}{x dx:Addr}{o u:HO}(h1:H x=none) (h2:H dx=none) (k:eX x (upd (upd H dx o) x u) H'):ak H H':=fun b c e=>by
 have n:=ao e h1
 exact k b c n (by rw [ai n,ai (ao e h2)]; exact e)
noncomputable def Wt (a:cN) (K:PySem.W.Frag):Sp:=fun vs H Q _=>∃l xs vl w,vs=[.ref l,wV w]∧aF K H l xs∧eC K H xs vl∧xs.length≤1000 ∧
 ∀p d H',ak H H'→H p=none→H d=none→gc a K H' p d (.plain vl w)→Q (.ref p) H'
theorem Jc (T:Txt K mg a):aU P w K mg base cC 8 a.wX a.wY ["fields","words"] (Wt a K):=by
 refine T.mq.ok U_ (fun vs H Q E h=>?_) (fun bL A outer s H vs Q E hr h=>?_)
 ·obtain⟨_,_,_,_,rfl,_⟩:=h
  rfl
 ·obtain⟨l,xs,vl,w,rfl,hl,hv,hz,q⟩:=h
  refine⟨_,(ah (aE (iM T.jl (Wq T) (hr.mono (by decide)) rfl T.jo T.P_ .nil ar (aa (pv 0) (aa (pv 1) af))))),?_⟩
  dsimp! []
  refine fun x dx hx LX ne=>⟨x,dx,l,xs,w,rfl,ae,?_,fun d H' k hd hp h2=>?_⟩
  ·exact((ak.put LX).trans (ak.put (by rw [ai ne.symm]; exact hx))).seq hl
  ·have sm:=ik hx LX k
   exact⟨rfl,q x d H' sm hx (cm (cm hd)) ⟨⟨dx,hp⟩,xs,h2,hv.same sm,hz⟩⟩
noncomputable def Wu (a:cN) (K:PySem.W.Frag):Sp:=fun vs H Q _=>∃x v,vs=[x]∧c_ K H x v∧∀p d H',ak H H'→H p=none→H d=none→gc a K H' p d (.weak v)→Q (.ref p) H'
theorem Jd (T:Txt K mg a):aU P w K mg base cC 3 a.wZ a.w4 ["field"] (Wu a K):=by
 refine T.mv.ok Va (fun vs H Q E h=>?_) (fun bL A outer s H vs Q E hr h=>?_)
 ·obtain⟨_,_,rfl,_⟩:=h
  rfl
 ·obtain⟨y,v,rfl,hv,q⟩:=h
  refine⟨_,(ah (aE (iM T.yZ (AR T) (hr.mono (by decide)) rfl T.kB T.CA .nil ar (aa aT (aa (bD (aa (pv 0) af)) af))))),?_⟩
  dsimp! []
  refine⟨by decide,fun l hl=>fun x dx hx LX ne=>⟨x,_,dx,_,l,[y],rfl,T.bO,T.cT,T.dh,ae,?_,fun d H' k hd hp h2=>?_⟩⟩
  ·exact((ak.put LX).trans (ak.put (by rw [ai ne.symm]; exact hx))).seq (aF.of ae)
  ·have sm:=(ak.put hl).trans (ik hx LX k)
   exact⟨rfl,q x d H' sm (cm hx) (cm (cm (cm hd))) ⟨⟨dx,hp⟩,[y],h2,.cons (hv.same sm) (.nil _ _),by simp⟩⟩
noncomputable def Wv (a:cN) (K:PySem.W.Frag):Sp:=fun vs H Q _=>∃x y u v,vs=[x,y]∧c_ K H x u∧c_ K H y v∧∀p d H',ak H H'→H p=none→H d=none→gc a K H' p d (.pair u v)→Q (.ref p) H'
theorem Je (T:Txt K mg a):aU P w K mg base cC 7 a.w5 a.w6 ["key","value"] (Wv a K):=by
 refine T.mw.ok Vb (fun vs H Q E h=>?_) (fun bL A outer s H vs Q E hr h=>?_)
 ·obtain⟨_,_,_,_,rfl,_⟩:=h
  rfl
 ·obtain⟨y,z,u,v,rfl,hu,hv,q⟩:=h
  refine⟨_,(ah (aE (iM T.kq (Ws T) (hr.mono (by decide)) rfl T.kC T.Qb .nil ar (aa (pv 0) (aa (pv 1) af))))),?_⟩
  dsimp! []
  refine fun x dx hx LX ne=>⟨x,dx,y,z,rfl,ae,fun d H' k hd hp h2=>?_⟩
  have sm:=ik hx LX k
  exact⟨rfl,q x d H' sm hx (cm (cm hd)) ⟨⟨dx,hp⟩,[y,z],h2,.cons (hu.same sm) (.cons (hv.same sm) (.nil _ _)),by simp⟩⟩
structure MA where
 p:Addr
 pr:Addr
 d:Addr
 lb:Addr
 bs:List Addr
 m:Nat
 c:Nat
noncomputable def Q9 (pr lb:Addr):List (Str×V):=cK "begins" (.ref lb) (cK "rooms" (.ref pr) [])
theorem afR:¬(("rooms":Str)="begins"):=by decide +kernel
theorem b8 (pr lb:Addr):(Q9 pr lb).lookup ("rooms":Str)=some (.ref pr):=by
 unfold Q9
 rw [aI,if_neg afR,aI,if_pos rfl]
theorem fg (pr lb:Addr):(Q9 pr lb).lookup ("begins":Str)=some (.ref lb):=by
 unfold Q9
 rw [aI,if_pos rfl]
theorem aW {pr lb:Addr}{n:Str}(h1:¬n="begins":=by decide +kernel) (h2:¬n="rooms":=by decide +kernel):(Q9 pr lb).lookup n=none:=by
 unfold Q9
 rw [aI,if_neg h1,aI,if_neg h2]
 all_goals rfl
noncomputable def il (es:List (Nat×List V)) (c r:Nat):List (Key×V):=(es.filter fun b=>decide (b.1 / c=r)).map fun b=>((Sum.inl (b.1:Int):Key),V.bl true)
theorem zk {es:List (Nat×List V)}{c r p:Nat}:(dZ (il es c r) (Sum.inl (p:Int))).isSome=true↔∃b∈es,b.1=p∧p / c=r:=by
 rw [←f9,List.any_eq_true]
 constructor
 ·rintro⟨x,hx,hk⟩
  obtain⟨b,hb,rfl⟩:=List.mem_map.mp hx
  obtain⟨h1,h2⟩:=List.mem_filter.mp hb
  have e:(b.1:Int)=(p:Int):=Sum.inl.inj (of_decide_eq_true hk)
  have e2:b.1=p:=by omega
  exact⟨b,h1,e2,by rw [←e2]; exact of_decide_eq_true h2⟩
 ·rintro⟨b,hb,rfl,hr⟩
  exact⟨_,List.mem_map.mpr ⟨b,List.mem_filter.mpr ⟨hb,decide_eq_true hr⟩,rfl⟩,decide_eq_true rfl⟩
theorem MO {es:List (Nat×List V)}{c r p:Nat}(h:¬∃b∈es,b.1=p∧p / c=r):dZ (il es c r) (Sum.inl (p:Int))=none:=by
 cases e:dZ (il es c r) (Sum.inl (p:Int))with
 | none=>rfl
 | some v=>exact absurd (zk.mp (by rw [e]; rfl)) h
theorem Jf {es:List (Nat×List V)}{c r g:Nat}{cs:List V}:il (es++[(g,cs)]) c r=if g / c=r then il es c r++[(Sum.inl (g:Int),V.bl true)] else il es c r:=by
 unfold il
 rw [List.filter_append,List.map_append]
 by_cases h:g / c=r
 ·rw [if_pos h]
  simp [h]
 ·rw [if_neg h]
  simp [h]
theorem Jg {es:List (Nat×List V)}{c r:Nat}:(il es c r).length≤es.length:=by
 unfold il
 rw [List.length_map]
 exact List.length_filter_le _ _
noncomputable def MA.own (M:MA) (b:Addr):Prop:=b=M.d∨b∈M.bs
structure cf (a:cN) (H:Hp) (M:MA) (xs:List V) (es:List (Nat×List V)):Prop where
 ob:∃dx,H M.p=some (.ins a.aY dx (Q9 M.pr M.lb))
 R:cz a.bN H M.pr M.d M.m M.c xs
 li:H M.lb=some (.lst (M.bs.map V.ref))
 nl:M.lb≠M.d
 bl:M.bs.length=M.m
 bd:∀(r:Nat) b,M.bs[r]?=some b→H b=some (.dK (il es M.c r))
 bi:M.bs.Nodup
 lay:Lay xs M.c es
 DA:es.length≤1000
theorem cf.mu {a:cN}{H:Hp}{M:MA}{xs:List V}{es:List (Nat×List V)}(h:cf a H M xs es) (b:Addr) (hb:M.own b):Mu H b:=by
 rcases hb with rfl | hb
 ·exact .inl ⟨_,h.R.li⟩
 ·obtain⟨r,hr⟩:=List.mem_iff_getElem?.mp hb
  exact .inr ⟨_,h.bd r b hr⟩
theorem cf.same {a:cN}{H H':Hp}{M:MA}{xs:List V}{es:List (Nat×List V)}(h:cf a H M xs es) (k:ak H H'):cf a H' M xs es where
 ob:=by
  obtain⟨dx,e⟩:=h.ob
  exact⟨dx,k _ _ e⟩
 R:=h.R.same k
 li:=k _ _ h.li
 nl:=h.nl
 bl:=h.bl
 bd:=fun r b e=>k _ _ (h.bd r b e)
 bi:=h.bi
 lay:=h.lay
 DA:=h.DA
theorem cf.off {a:cN}{S:Addr→Prop}{H H':Hp}{M:MA}{xs:List V}{es:List (Nat×List V)}(h:cf a H M xs es) (k:Kp S H H') (n1:¬S M.p) (n2:¬S M.pr) (n3:¬S M.lb) (n4:∀b,M.own b→¬S b):cf a H' M xs es where
 ob:=by
  obtain⟨dx,e⟩:=h.ob
  exact⟨dx,k _ _ n1 e⟩
 R:=by
  obtain⟨dx,e⟩:=h.R.ob
  exact⟨⟨dx,k _ _ n2 e⟩,k _ _ (n4 _ (.inl rfl)) h.R.li,h.R.len,h.R.m0,h.R.c0,h.R.sm⟩
 li:=k _ _ n3 h.li
 nl:=h.nl
 bl:=h.bl
 bd:=fun r b e=>k _ _ (n4 b (.inr (List.mem_of_getElem? e))) (h.bd r b e)
 bi:=h.bi
 lay:=h.lay
 DA:=h.DA
structure En where
 t:Tg
 bJ:Int
 bR:Bool
noncomputable def Tg.kn:Tg→Nat
 | .plain _ _=>0
 | .weak _=>1
 | .pair _ _=>2
noncomputable def Tg.kind (t:Tg):Int:=(t.kn:Int)
noncomputable def Tg.first:Tg→Nat
 | .plain _ _=>3
 | _=>2
theorem Tg.f2 (t:Tg):2≤t.first∧t.first≤3:=by cases t <;> (constructor <;> simp [Tg.first])
noncomputable def Tg.size (t:Tg):Nat:=t.first+t.fs.length
noncomputable def wVl:Option Int→Vl
 | none=>.no
 | some n=>.num n
structure Cells (K:PySem.W.Frag) (H:Hp) (cs:List V) (e:En):Prop where
 ex:∃mid fx,cs=.int (hd e.t.kind e.bR e.t.words.isSome (e.t.size:Nat))::.int e.bJ::(mid++fx)∧eC K H fx e.t.fs∧mid.length+2=e.t.first∧∀x∈mid,c_ K H x (wVl e.t.words)
theorem Cells.len {K:PySem.W.Frag}{H:Hp}{cs:List V}{e:En}(h:Cells K H cs e):cs.length=e.t.size:=by
 obtain⟨mid,fx,rfl,h2,h3,_⟩:=h.ex
 have:=h2.1
 simp only [List.length_cons,List.length_append,Tg.size]
 omega
theorem Cells.pos {K:PySem.W.Frag}{H:Hp}{cs:List V}{e:En}(h:Cells K H cs e):0 < cs.length:=by
 rw [h.len]
 unfold Tg.size
 cases e.t <;> simp [Tg.first] <;> omega
theorem Cells.nn {K:PySem.W.Frag}{H:Hp}{cs:List V}{e:En}(h:Cells K H cs e):∀v∈cs,v≠.bf:=by
 obtain⟨mid,fx,rfl,h2,h3,h4⟩:=h.ex
 intro v hv
 rcases List.mem_cons.mp hv with rfl | hv
 ·exact fun z=>nomatch z
 ·rcases List.mem_cons.mp hv with rfl | hv
  ·exact fun z=>nomatch z
  ·rcases List.mem_append.mp hv with hv | hv
   ·obtain⟨t,rfl,_⟩:=h4 v hv
    exact fun z=>nomatch z
   ·obtain⟨i,hi⟩:=List.mem_iff_getElem?.mp hv
    have hl:=(List.getElem?_eq_some_iff.mp hi).1
    have:=h2.1
    obtain⟨t,rfl,_⟩:=h2.2 i v _ hi (List.getElem?_eq_getElem (by omega))
    exact fun z=>nomatch z
theorem Cells.same {K:PySem.W.Frag}{H H':Hp}{cs:List V}{e:En}(h:Cells K H cs e) (k:ak H H'):Cells K H' cs e:=by
 obtain⟨mid,fx,e1,h2,h3,h4⟩:=h.ex
 exact⟨mid,fx,e1,h2.same k,h3,fun x hx=>(h4 x hx).same k⟩
theorem Cells.kp {K:PySem.W.Frag}{S:Addr→Prop}{H H':Hp}{cs:List V}{e:En}(h:Cells K H cs e) (k:Kp S H H') (mu:∀b,S b→Mu H b):Cells K H' cs e:=by
 obtain⟨mid,fx,e1,h2,h3,h4⟩:=h.ex
 exact⟨mid,fx,e1,h2.kp k mu,h3,fun x hx=>(h4 x hx).kp k mu⟩
theorem Tg.k0 (t:Tg):0≤t.kind∧t.kind < 3:=by cases t <;> (constructor <;> simp [Tg.kind,Tg.kn])
theorem Tg.ix (t:Tg):(["plain","weak","pair"]:List Str)[t.kn]?=some t.sort:=by cases t <;> rfl
theorem CT (w:Option Int):(!decide (wV w=V.bf))=w.isSome:=by cases w <;> rfl
noncomputable def Ww:Sp:=fun vs H Q _=>∃t:Tg,vs=[.str t.sort]∧Q (.int (t.first:Nat)) H
theorem AS:¬(("weak":Str)="plain"):=by decide +kernel
theorem ub:¬(("pair":Str)="plain"):=by decide +kernel
theorem Wx:¬(("pair":Str)="weak"):=by decide +kernel
theorem aas:¬(("plain":Str)="weak"):=by decide +kernel
theorem AU (T:Txt K mg a):aU P w K mg base cC 1 a.xZ a.x4 ["sort"] Ww:=by
 refine T.ku.ok Vq (fun vs H Q E h=>?_) (fun bL A outer s H vs Q E hr h=>?_)
 ·obtain⟨_,rfl,_⟩:=h
  rfl
 ·obtain⟨t,rfl,q⟩:=h
  refine⟨_,(ah (aE (e5 (aH cX (pv 0) aT (aQ _)) aq aq))),?_⟩
  cases t with
  | plain fs w=>
   dsimp! [Tg.sort]
   exact q
  | weak f=>
   dsimp! [Tg.sort,AS]
   exact q
  | pair k v=>
   dsimp! [Tg.sort,ub]
   exact q
theorem Tg.ixn (t:Tg):∀(i:Nat) y,i < t.kn→(["plain","weak","pair"]:List Str)[i]?=some y→y≠t.sort:=by
 intro i y hi hy
 cases t with
 | plain fs w=>exact absurd hi (Nat.not_lt_zero _)
 | weak f=>
  have e:i=0:=Nat.lt_one_iff.mp hi
  subst e
  cases hy
  exact aas
 | pair k v=>
  have h2:i < 2:=hi
  match i,h2,hy with
  | 0,_,hy=>
   cases hy
   exact fun z=>ub z.symm
  | 1,_,hy=>
   cases hy
   exact fun z=>Wx z.symm
noncomputable def Wy (a:cN) (K:PySem.W.Frag):Sp:=fun vs H Q _=>∃p d t,vs=[.ref p]∧gc a K H p d t∧∀H',ak H H'→Q (.int (t.size:Nat)) H'
theorem Jh (T:Txt K mg a):aU P w K mg base cC 2 a.x5 a.x6 ["thing"] (Wy a K):=by
 refine T.mC.ok Vr (fun vs H Q E h=>?_) (fun bL A outer s H vs Q E hr h=>?_)
 ·obtain⟨_,_,_,rfl,_⟩:=h
  rfl
 ·obtain⟨p,d,t,rfl,h,q⟩:=h
  obtain⟨dx,h1⟩:=h.ob
  refine⟨_,(ah (aE (aL de (aD (AU T) (hr.mono (by decide)) rfl T.CI T.ku.kp T.CG .nil ar (aa (bQ (L:=[(a.aZ,fO a K),(a.ax,fO a K),(a.az,fO a K)]) (pv 0) (List.forall_mem_cons.mpr ⟨⟨_,_,_,_,T.bO,T.tY,gE T,hr.mono (by decide),T.jk⟩,List.forall_mem_cons.mpr ⟨⟨_,_,_,_,T.aK,T.ck,gE T,hr.mono (by decide),T.jk⟩,List.forall_mem_cons.mpr ⟨⟨_,_,_,_,T.aR,T.cy,gE T,hr.mono (by decide),T.jk⟩,List.forall_mem_nil _⟩⟩⟩) .nil ar) af)) (bh a9 rfl T.dI dr (aa (bQ (L:=[(a.aZ,cM a K),(a.ax,cM a K),(a.az,cM a K)]) (pv 0) (List.forall_mem_cons.mpr ⟨⟨_,_,_,_,T.bO,T.lL,dz T,hr.mono (by decide),T.eO⟩,List.forall_mem_cons.mpr ⟨⟨_,_,_,_,T.aK,T.bA,dz T,hr.mono (by decide),T.eO⟩,List.forall_mem_cons.mpr ⟨⟨_,_,_,_,T.aR,T.bG,dz T,hr.mono (by decide),T.eO⟩,List.forall_mem_nil _⟩⟩⟩) .nil ar) af))))),?_⟩
  have f2:=t.no d (n:="sort_of")
  have f3:=t.no d (n:="fields")
  dsimp! [h1,HO.ins.injEq,f2,f3]
  refine⟨_,t.mem _,p,d,t,rfl,h,t,rfl,_,_,_,h1,f3,_,t.mem _,p,d,t,rfl,h,fun r xs nQ hv hz=>?_⟩
  refine⟨r,rfl,xs,.inl (aF.of ae),?_⟩
  have:=q _ (ak.put (o:=.lst xs) nQ)
  rw [←hv.1]
  simpa [Tg.size] using this
noncomputable def Wz (K:PySem.W.Frag):Sp:=fun vs H Q _=>∃w,vs=[wV w]∧∀x H',ak H H'→c_ K H' x (wVl w)→Q x H'
theorem Ji (T:Txt K mg a):aU P w K mg base cC 1 a.x8 a.x9 ["words"] (Wz K):=by
 refine T.mD.ok Vs (fun vs H Q E h=>?_) (fun bL A outer s H vs Q E hr h=>?_)
 ·obtain⟨_,rfl,_⟩:=h
  rfl
 ·obtain⟨w,rfl,q⟩:=h
  refine⟨_,(ah (aE (e5 (aH Ff (pv 0) dc (aQ _)) (cE (v:=.ref a.dm) rfl T.iR rfl) (dg (aa aT (aa (pv 0) af)))))),?_⟩
  cases w with
  | none=>
   dsimp! [wV]
   exact q _ H (.refl H) ⟨_,rfl,T.lM H⟩
  | some n=>
   dsimp! [wV]
   exact⟨by decide,fun t ht=>q _ _ (ak.put ht) ⟨t,rfl,dO.of ae⟩⟩
noncomputable def WA (C:Addr):Sp:=fun vs H Q _=>∃p d m c xs i,vs=[.ref p,.int (i:Nat)]∧cz C H p d m c xs∧Q (.int ((i / c:Nat):Int)) H
theorem Jj (T:Txt K mg a):aU P w K mg base cC 1 a.xX a.xY ["self","place"] (WA a.bN):=by
 refine T.sd.ok Vp (fun vs H Q E h=>?_) (fun bL A outer s H vs Q E hr h=>?_)
 ·obtain⟨_,_,_,_,_,_,rfl,_⟩:=h
  rfl
 ·obtain⟨p,d,m,c,xs,i,rfl,R,q⟩:=h
  obtain⟨dx,h1⟩:=R.ob
  have hc0:=R.c0
  have qA:c≤1000:=Nat.le_trans (Nat.le_mul_of_pos_left c R.m0) R.sm
  refine⟨_,(ah (aE (aL cQ (pv 1) (a8 (pv 0) rfl)))),?_⟩
  dsimp! [h1,HO.ins.injEq,T.bj,T.cI,pA]
  refine⟨.small (by omega) (by omega),?_⟩
  rw [←Int.natCast_ediv]
  exact q
theorem lP {t:Tg}{bJ:Int}{mk:Bool}{H:Hp}{p d l1 l2:Addr}{mid:List V}{Q:VK}{E:XK}{Jk:Int}(eh:Jk=hd t.kind mk t.words.isSome (t.size:Nat)) (em:mid.length+2=t.first) (hf:t.fs.length≤900)
  (f3:(t.fl d).lookup ("fields":Str)=none) (h:gc a K H p d t) (d_:H l1=none) (eM:upd H l1 (.lst mid) l2=none) (hx:∀x∈mid,c_ K H x (wVl t.words)) (hml:mid.length≤1)
  (q:∀r cs H',ak H H'→H r=none→H' r=some (.lst cs)→Cells K H' cs (⟨t,bJ,mk⟩:En)→Q (.ref r) H') :
  Fw K (.ref l2) (.ref l1) (upd (upd H l1 (.lst mid)) l2 (.lst [.int Jk,.int bJ])) fun x H1=>
   ∃C dx fs,H1 p=some (.ins C dx fs)∧fs.lookup ("fields":Str)=none∧∃sp,(C,sp)∈[(a.aZ,cM a K),(a.ax,cM a K),(a.az,cM a K)]∧sp [.ref p] H1 (fun y H2=>Fw K x y H2 Q) E:=by
 have n12:l1≠l2:=ao ae eM
 have k1:=(ak.put (o:=.lst mid) d_).trans (ak.put (o:=.lst [V.int Jk,V.int bJ]) eM)
 refine⟨l2,l1,[.int Jk,.int bJ],mid,rfl,rfl,aF.of ae,aF.of (by rw [ai n12]; exact ae),Nat.le_of_lt (a5 (by simp; omega)),fun l3 uc=>?_⟩
 have k2:=k1.trans (ak.put (o:=.lst ([V.int Jk,V.int bJ]++mid)) uc)
 have aat:upd (upd (upd H l1 (.lst mid)) l2 (.lst [V.int Jk,V.int bJ])) l3 (.lst ([V.int Jk,V.int bJ]++mid)) l3=some (.lst ([V.int Jk,V.int bJ]++mid)):=ae
 generalize upd (upd (upd H l1 (.lst mid)) l2 (.lst [V.int Jk,V.int bJ])) l3 (.lst ([V.int Jk,V.int bJ]++mid))=H3 at k2 aat
 have h3:=h.same k2
 obtain⟨dx,h4⟩:=h3.ob
 refine⟨_,dx,_,h4,f3,_,t.mem _,p,d,t,rfl,h3,fun l4 fx AV hv hz=>?_⟩
 have k4:=ak.put (o:=.lst fx) AV
 have fl:fx.length≤900:=by rw [←hv.1]; exact hf
 refine⟨l3,l4,_,fx,rfl,rfl,aF.of (k4 _ _ aat),aF.of ae,Nat.le_of_lt (a5 (by simp; omega)),fun r hr=>?_⟩
 have k5:=ak.put (o:=.lst (([V.int Jk,V.int bJ]++mid)++fx)) hr
 have kk:=k2.trans (k4.trans k5)
 refine q r _ _ kk (k2.free (cm hr)) ae ⟨mid,fx,by rw [eh]; rfl,hv.same (k4.trans k5),em,fun x hx2=>(hx x hx2).same kk⟩
noncomputable def WB (a:cN) (K:PySem.W.Frag):Sp:=fun vs H Q _=>∃p d t bJ mk,vs=[.ref p,.int bJ,.bl mk]∧gc a K H p d t∧t.fs.length≤900∧∀r cs H',ak H H'→H r=none→H' r=some (.lst cs)→Cells K H' cs (⟨t,bJ,mk⟩:En)→Q (.ref r) H'
theorem WC (T:Txt K mg a):aU P w K mg base cC 4 a.x_ a.ya ["thing","serial","marked"] (WB a K):=by
 refine T.pb.ok tU (fun vs H Q E h=>?_) (fun bL A outer s H vs Q E hr h=>?_)
 ·obtain⟨_,_,_,_,_,rfl,_⟩:=h
  rfl
 ·obtain⟨p,d,t,bJ,mk,rfl,h,hf,q⟩:=h
  obtain⟨dx,h1⟩:=h.ob
  refine⟨_,(ag (aN (i:=3) tU.nd rfl (Or.inl rfl) (bQ (L:=[(a.aZ,ff),(a.ax,lO a K),(a.az,ff)]) (pv 0) (List.forall_mem_cons.mpr ⟨⟨_,_,_,_,T.bO,T.oN,ij T,hr.mono (by decide),T.kl⟩,List.forall_mem_cons.mpr ⟨⟨_,_,_,_,T.aK,T.oO,ua T,hr.mono (by decide),T.y0⟩,List.forall_mem_cons.mpr ⟨⟨_,_,_,_,T.aR,T.b_,ij T,hr.mono (by decide),T.kl⟩,List.forall_mem_nil _⟩⟩⟩) .nil ar)) (ag (aN (i:=4) tU.nd rfl (Or.inl rfl) (aD (VX T) (hr.mono (by decide)) rfl T.Qq T.oU.kp T.Qo .nil ar (aa (jh PySem.F.plainAttrs_tuple PySem.F.slot_tuple_index PySem.F.type_tuple_index DC (cE (v:=.ref a.eV) rfl T.t5 rfl) (aa (bQ (L:=[(a.aZ,fO a K),(a.ax,fO a K),(a.az,fO a K)]) (pv 0) (List.forall_mem_cons.mpr ⟨⟨_,_,_,_,T.bO,T.tY,gE T,hr.mono (by decide),T.jk⟩,List.forall_mem_cons.mpr ⟨⟨_,_,_,_,T.aK,T.ck,gE T,hr.mono (by decide),T.jk⟩,List.forall_mem_cons.mpr ⟨⟨_,_,_,_,T.aR,T.cy,gE T,hr.mono (by decide),T.jk⟩,List.forall_mem_nil _⟩⟩⟩) .nil ar) af)) (aa (pv 2) (aa (fE gq (pv 3) dc (aQ _)) (aa (aD (Jh T) (hr.mono (by decide)) rfl T.IG T.mC.kp T.IF .nil ar (aa (pv 0) af)) af)))))) (ag (aN (i:=5) tU.nd rfl (Or.inl rfl) (e5 (aH cX (bQ (L:=[(a.aZ,fO a K),(a.ax,fO a K),(a.az,fO a K)]) (pv 0) (List.forall_mem_cons.mpr ⟨⟨_,_,_,_,T.bO,T.tY,gE T,hr.mono (by decide),T.jk⟩,List.forall_mem_cons.mpr ⟨⟨_,_,_,_,T.aK,T.ck,gE T,hr.mono (by decide),T.jk⟩,List.forall_mem_cons.mpr ⟨⟨_,_,_,_,T.aR,T.cy,gE T,hr.mono (by decide),T.jk⟩,List.forall_mem_nil _⟩⟩⟩) .nil ar) aT (aQ _)) (bD (aa (aD (Ji T) (hr.mono (by decide)) rfl T.II T.mD.kp T.IH .nil ar (aa (pv 3) af)) af)) (bD af))) (ah (aE (aL kd (aL kd (bD (aa (pv 4) (aa (pv 1) af))) (pv 5)) (bQ (L:=[(a.aZ,cM a K),(a.ax,cM a K),(a.az,cM a K)]) (pv 0) (List.forall_mem_cons.mpr ⟨⟨_,_,_,_,T.bO,T.lL,dz T,hr.mono (by decide),T.eO⟩,List.forall_mem_cons.mpr ⟨⟨_,_,_,_,T.aK,T.bA,dz T,hr.mono (by decide),T.eO⟩,List.forall_mem_cons.mpr ⟨⟨_,_,_,_,T.aR,T.bG,dz T,hr.mono (by decide),T.eO⟩,List.forall_mem_nil _⟩⟩⟩) .nil ar))))))),?_⟩
  have f1:=t.no d (n:="words")
  have f2:=t.no d (n:="sort_of")
  have f3:=t.no d (n:="fields")
  dsimp! [h1,HO.ins.injEq,f1,f2,f3]
  refine iS t h ?_
  dsimp! [h1,HO.ins.injEq,f2,f3,CT]
  have hsz:(t.size:Int) < 10 ^ 60:=by
   have:t.size≤903:=by
    unfold Tg.size
    have:=t.f2.2
    omega
   exact Int.lt_of_lt_of_le (b:=1000) (by omega) (by decide)
  refine⟨.inr (.inl ⟨rfl,T.CO⟩),_,t.mem _,p,d,t,rfl,h,["plain","weak","pair"],_,rfl,T.t6 H,t.kn,t.ix,t.ixn,p,d,t,rfl,h,fun H1 s1=>⟨_,_,_,_,rfl,t.k0,by omega,hsz,_,_,_,s1 _ _ h1,f2,_,t.mem _,p,d,t,rfl,h.same s1,?_⟩⟩
  have pC:=h.same s1
  have Q_:=s1 _ _ h1
  cases t with
  | plain fs w=>
   dsimp! [Tg.sort]
   refine⟨w,rfl,fun x H2 s2 hx=>⟨by simp [sizeLine_eq],fun l1 d_=>⟨by decide,fun l2 eM=>?_⟩⟩⟩
   exact lP (mid:=[x]) rfl rfl hf f3 (h.same (s1.trans s2)) d_ eM (fun y hy=>by rw [List.mem_singleton.mp hy]; exact hx) (by simp) fun r cs H' s3 Ra hr4 hc=>q r cs H' ((s1.trans s2).trans s3) ((s1.trans s2).free Ra) hr4 hc
  | weak f=>
   dsimp! [Tg.sort,AS]
   refine fun l1 d_=>⟨by decide,fun l2 eM=>?_⟩
   exact lP (mid:=[]) rfl rfl hf f3 pC d_ eM (fun y hy=>(nomatch hy)) (by simp) fun r cs H' s3 Ra hr4 hc=>q r cs H' (s1.trans s3) (s1.free Ra) hr4 hc
  | pair k v=>
   dsimp! [Tg.sort,ub]
   refine fun l1 d_=>⟨by decide,fun l2 eM=>?_⟩
   exact lP (mid:=[]) rfl rfl hf f3 pC d_ eM (fun y hy=>(nomatch hy)) (by simp) fun r cs H' s3 Ra hr4 hc=>q r cs H' (s1.trans s3) (s1.free Ra) hr4 hc
noncomputable def WD (a:cN):Sp:=fun vs H Q _=>∃p dx m c,vs=[.ref p,.int (m:Nat),.int (c:Nat)]∧H p=some (.ins a.aY dx [])∧0 < m∧0 < c∧m*c≤1000 ∧
 ∀M H',M.p=p→M.m=m→M.c=c→cf a H' M (List.replicate (m*c) .bf) []→eX p H H'→(∀b,M.own b→H b=none)→H M.lb=none→H M.pr=none→Q .bf H'
theorem WE (T:Txt K mg a):aU P w K mg base cC 4 a.yb a.yc ["self","many","cells"] (WD a):=by
 refine T.se.ok Vt (fun vs H Q E h=>?_) (fun bL A outer s H vs Q E hr h=>?_)
 ·obtain⟨_,_,_,_,rfl,_⟩:=h
  rfl
 ·obtain⟨p,dx,m,c,rfl,h1,hm,hc,Q0,q⟩:=h
  refine⟨_,(ag (fM (pv 0) (iM T.y_ (Wi T) (hr.mono (by decide)) rfl T.zf T.Qz .nil ar (aa (pv 1) (aa (pv 2) af))) rfl) (ah (fM (pv 0) (mi rfl (gw (x:="room") (ns:=[]) (fr:=[]) rfl (by decide +kernel) rfl (by decide +kernel) rfl (List.forall_mem_nil _) rfl rfl (List.forall_mem_nil _) (by decide +kernel)) (cG rfl T.cF (aa (pv 1) af)) (fun _ _ _ _=>we) (fun _ _ _ _=>.nil)) rfl))),?_⟩
  dsimp! [h1,HO.ins.injEq]
  refine fun x qo hx afS ne=>⟨x,qo,m,c,rfl,ae,hm,hc,Q0,fun H2 d R2 k2 hd2=>?_⟩
  have t7:m≤1000:=Nat.le_trans (Nat.le_mul_of_pos_right m hc) Q0
  have kH:ak H H2:=fun b o e=>k2 b o (ao e hx) (by rw [ai (ao e hx),ai (ao e afS)]; exact e)
  have gh:=kH _ _ h1
  have hd0:H d=none:=cm (cm hd2)
  refine⟨rfl,_,_,_,gh,T.au,T.aJ,by decide,by omega,by omega,fun D hD=>?_⟩
  have hDp:D≠p:=fun z=>by rw [z,ae] at hD; cases hD
  have kp3:eX p H2 (upd H2 p (.ins a.aY dx (cK "rooms" (.ref x) []))):=(eX.refl p H2).set
  have ud:upd H2 p (.ins a.aY dx (cK "rooms" (.ref x) [])) p=some (.ins a.aY dx (cK "rooms" (.ref x) [])):=ae
  have n3:∀b,upd H2 p (.ins a.aY dx (cK "rooms" (.ref x) [])) b=none→H b=none:=fun b hb=>by
   have h0:=cm hb
   cases e:H b with
   | none=>rfl
   | some o=>
    rw [kH b o e] at h0
    cases h0
  generalize upd H2 p (.ins a.aY dx (cK "rooms" (.ref x) []))=H3 at hD kp3 ud n3
  have hdp:d≠p:=cu R2.li gh (by intro z; cases z)
  have hxp:x≠p:=(ao h1 hx).symm
  have R3:cz a.bN H3 x d m c (List.replicate (m*c) V.bf):=by
   obtain⟨ER,h5⟩:=R2.ob
   exact⟨⟨ER,kp3 _ _ hxp h5⟩,kp3 _ _ hdp R2.li,R2.len,R2.m0,R2.c0,R2.sm⟩
  refine ZT (fun i ys H4=>∃bs:List Addr,ys=bs.map V.ref∧bs.length=i∧bs.Nodup∧H4 D=some (.lst ys)∧(∀b∈bs,H4 b=some (.dK [])∧H3 b=none∧b≠D)∧ak H3 H4)
   ⟨[],rfl,rfl,List.nodup_nil,ae,fun b hb=>(nomatch hb),ak.put hD⟩ ?_ ?_
  ·rintro i m' ys H4 hmm hi ⟨bs,rfl,Q8,Jl,D4,Lm,k4⟩
   dsimp! [aP]
   refine fun b hb=>qz.mk hmm (by rw [ai (ao D4 hb)]; exact D4) (by rw [List.length_map]; omega) ⟨bs++[b],by rw [List.map_append]; rfl,by simp [Q8],?_,ae,fun b' hb'=>?_,?_⟩
   ·refine nU Jl fun z=>?_
    rw [(Lm b z).1] at hb
    cases hb
   ·have nb:b≠D:=(ao D4 hb).symm
    have h3b:H3 b=none:=by
     cases e:H3 b with
     | none=>rfl
     | some o=>
      rw [k4 b o e] at hb
      cases hb
    rcases List.mem_append.mp hb' with z | z
    ·obtain⟨z1,z2,z3⟩:=Lm b' z
     refine⟨?_,z2,z3⟩
     rw [ai z3,ai (ao z1 hb)]
     exact z1
    ·rw [List.mem_singleton.mp z]
     refine⟨?_,h3b,nb⟩
     rw [ai nb]
     exact ae
   ·intro b' o e
    rw [ai (ao e hD),ai (ao (k4 b' o e) hb)]
    exact k4 b' o e
  ·rintro ys H4 ⟨bs,rfl,Q8,Jl,D4,Lm,k4⟩
   have hp4:=k4 _ _ ud
   refine⟨_,_,_,hp4,T.au,T.br,Nat.lt_of_le_of_lt (bZ _ _ _) (by decide),?_⟩
   have kp5:eX p H4 (upd H4 p (.ins a.aY dx (cK "begins" (.ref D) (cK "rooms" (.ref x) [])))):=(eX.refl p H4).set
   refine q ⟨p,x,d,D,bs,m,c⟩ _ rfl rfl rfl ⟨⟨dx,ae⟩,?_,kp5 _ _ hDp D4,?_,Q8,fun r b nQ=>?_,Jl,Lay.nil _ _,Nat.zero_le _⟩ ?_ ?_ (n3 D hD) hx
   ·have R4:=R3.same k4
    obtain⟨ER,h5⟩:=R4.ob
    exact⟨⟨ER,kp5 _ _ hxp h5⟩,kp5 _ _ hdp R4.li,R4.len,R4.m0,R4.c0,R4.sm⟩
   ·exact(ao R3.li hD).symm
   ·have hb:=Lm b (List.mem_of_getElem? nQ)
    exact kp5 _ _ (cu hb.1 hp4 (by intro z; cases z)) hb.1
   ·intro b o hb e
    exact kp5 b o hb (k4 b o (kp3 b o hb (kH b o e)))
   ·rintro b (rfl | hb)
    ·exact hd0
    ·exact n3 b (Lm b hb).2.1
theorem zl {α:Type}{l:List α}(h:l.Nodup) {i j:Nat}(hi:i < l.length) (hj:j < l.length) (e:l[i]=l[j]):i=j:=by
 rcases Nat.lt_trichotomy i j with q | q | q
 ·exact absurd e (List.pairwise_iff_getElem.mp h i j hi hj q)
 ·exact q
 ·exact absurd e.symm (List.pairwise_iff_getElem.mp h j i hj hi q)
noncomputable def WG (a:cN):Sp:=fun vs H Q _=>∃M xs es g l cs,vs=[.ref M.p,.int (g:Nat),.ref l]∧cf a H M xs es∧H l=some (.lst cs)∧l≠M.d∧Fits xs M.c cs.length g∧0 < cs.length∧(∀v∈cs,v≠.bf)∧es.length < 1000 ∧
 ∀H',Kp M.own H H'→cf a H' M (cA xs g cs) (es++[(g,cs)])→Q .bf H'
theorem WH (T:Txt K mg a):aU P w K mg base cC 2 a.yf a.yg ["self","place","some"] (WG a):=by
 refine T.si.ok Vu (fun vs H Q E h=>?_) (fun bL A outer s H vs Q E hr h=>?_)
 ·obtain⟨_,_,_,_,_,_,rfl,_⟩:=h
  rfl
 ·obtain⟨M,xs,es,g,l,cs,rfl,hM,hl,nld,hF,qA,hnn,hes,q⟩:=h
  obtain⟨dx,h1⟩:=hM.ob
  obtain⟨qo,h2⟩:=hM.R.ob
  refine⟨_,(ag (aV (aC (a8 (pv 0) rfl) T.bj T.ID (Wf T) (hr.mono (by decide)) T.QC .nil ar (aa (pv 1) (aa (pv 2) af)))) (ah (Ct (Fs hr) (aG ay (a8 (pv 0) rfl) (aC (a8 (pv 0) rfl) T.bj T.AN (Jj T) (hr.mono (by decide)) T.IE .nil ar (aa (pv 1) af)) (fun _ _=>rfl)) (pv 1) gM rfl))),?_⟩
  have f1:=aW (pr:=M.pr) (lb:=M.lb) (n:="fill_in")
  dsimp! [h1,h2,HO.ins.injEq,T.au,T.aJ,b8,AO]
  have hR:=hM.R
  have Rb:=hR.li
  refine⟨M.pr,M.d,M.m,M.c,xs,g,l,cs,rfl,hR,hl,nld,hF.1,fun H1 k1 WI=>?_⟩
  have Jb:M.p≠M.d:=cu h1 Rb (by intro z; cases z)
  have Jm:=k1 _ _ Jb h1
  have h2':=k1 _ _ hR.ne h2
  have R1:=hR.keep k1 WI (d9 cs xs g)
  have WJ:=k1 _ _ hM.nl hM.li
  have Jn:g / M.c < M.m:=by
   rw [Nat.div_lt_iff_lt_mul hR.c0,←hR.len]
   have:=hF.1
   omega
  have WK:g / M.c < M.bs.length:=by rw [hM.bl]; exact Jn
  have MP:M.bs[g / M.c]?=some M.bs[g / M.c]:=List.getElem?_eq_getElem WK
  have hbd:=hM.bd _ _ MP
  have nbd:M.bs[g / M.c]≠M.d:=cu hbd Rb (by intro z; cases z)
  have MQ:=k1 _ _ nbd hbd
  refine⟨_,_,_,Jm,T.au,T.br,_,fg _ _,_,_,_,Jm,T.au,T.aJ,_,b8 _ _,_,rfl,_,_,h2',pB _ _ _,M.pr,M.d,M.m,M.c,cA xs g cs,g,rfl,R1,?_⟩
  have Rc:dZ (il es M.c (g / M.c)) (Sum.inl (g:Int))=none:=MO fun⟨b,hb,e1,_⟩=>by
   have h3:=hM.lay.apart hb hF.2.2 qA
   have h4:=(hM.lay.one b hb).1
   omega
  refine⟨M.lb,_,_,.ref M.bs[g / M.c],rfl,rfl,aF.of WJ,bp (by rw [List.getElem?_map,MP]; rfl),_,rfl,_,Dy.k (k:=Sum.inl (g:Int)) MQ (a5 (Nat.le_trans Jg (Nat.le_of_lt hes))),?_⟩
  rw [wa _ Rc]
  refine q _ ?_ ⟨⟨dx,?_⟩,?_,?_,hM.nl,hM.bl,fun r b hb=>?_,hM.bi,hM.lay.put hF qA hnn,by simp; omega⟩
  ·exact(eX.kp k1 (.inl rfl)).set (.inr (List.getElem_mem WK))
  ·rw [ai (cu Jm MQ (by intro z; cases z))]
   exact Jm
  ·exact⟨⟨qo,by rw [ai (cu h2' MQ (by intro z; cases z))]; exact h2'⟩,by rw [ai nbd.symm]; exact WI,R1.len,R1.m0,R1.c0,R1.sm⟩
  ·rw [ai (cu WJ MQ (by intro z; cases z))]
   exact WJ
  ·rw [Jf]
   by_cases nQ:g / M.c=r
   ·subst nQ
    rw [MP] at hb
    cases hb
    rw [if_pos rfl,ae]
   ·have hrl:=(List.getElem?_eq_some_iff.mp hb).1
    have hrb:=(List.getElem?_eq_some_iff.mp hb).2
    have nb:b≠M.bs[g / M.c]:=fun z=>by
     rw [←hrb] at z
     exact nQ (zl hM.bi hrl WK z).symm
    have h5:=hM.bd r b hb
    rw [if_neg nQ,ai nb]
    exact k1 _ _ (cu h5 Rb (by intro z; cases z)) h5
noncomputable def WL (a:cN) (K:PySem.W.Frag):Sp:=fun vs H Q _=>∃M xs es p d t bJ mk,vs=[.ref M.p,.ref p,.int bJ,.bl mk]∧cf a H M xs es∧gc a K H p d t∧t.fs.length≤900∧es.length < 1000 ∧
 (∀g cs H',zh xs M.c t.size (some g)→Kp M.own H H'→cf a H' M (cA xs g cs) (es++[(g,cs)])→Cells K H' cs (⟨t,bJ,mk⟩:En)→Q (.int (g:Nat)) H')∧(∀H',zh xs M.c t.size none→ak H H'→Q .bf H')
theorem WM (T:Txt K mg a):aU P w K mg base cC 5 a.yd a.ye ["self","thing","serial","marked"] (WL a K):=by
 refine T.sh.ok HB (fun vs H Q E h=>?_) (fun bL A outer s H vs Q E hr h=>?_)
 ·obtain⟨_,_,_,_,_,_,_,_,rfl,_⟩:=h
  rfl
 ·obtain⟨M,xs,es,p,d,t,bJ,mk,rfl,hM,hT,hf,hes,q1,q2⟩:=h
  obtain⟨dx,h1⟩:=hM.ob
  obtain⟨qo,h2⟩:=hM.R.ob
  refine⟨_,(ag (aN (i:=4) HB.nd rfl (Or.inl rfl) (aC (a8 (pv 0) rfl) T.bj T.IB (Wc T) (hr.mono (by decide)) T.QA .nil ar (aa (aD (Jh T) (hr.mono (by decide)) rfl T.IG T.mC.kp T.IF .nil ar (aa (pv 1) af)) af))) (ag (cO (aH gq (pv 4) dc (aQ _)) (ah (aV (aC (pv 0) T.au T.IK (WH T) (hr.mono (by decide)) T.QH .nil ar (aa (pv 4) (aa (aD (WC T) (hr.mono (by decide)) rfl T.QE T.pb.kp T.QD .nil ar (aa (pv 1) (aa (pv 2) (aa (pv 3) af)))) af))))) bB) (ah (aE (pv 4))))),?_⟩
  dsimp! [h1,h2,HO.ins.injEq,T.au,T.aJ,b8,V9]
  have F0:0 < t.size:=by
   unfold Tg.size
   have:=t.f2.1
   omega
  refine⟨p,d,t,rfl,hT,fun H1 s1=>?_⟩
  have MR:=hM.same s1
  refine⟨M.pr,M.d,M.m,M.c,xs,t.size,rfl,MR.R,F0,fun r hg=>?_⟩
  cases r with
  | none=>
   dsimp! [V8]
   exact q2 H1 hg s1
  | some g=>
   dsimp! [V8]
   refine⟨_,_,s1 _ _ h1,aW,p,d,t,bJ,mk,rfl,hT.same s1,hf,fun r cs H2 s2 nQ afT hc=>?_⟩
   have WN:=MR.same s2
   have hl:=hc.len
   refine⟨M,xs,es,g,r,cs,rfl,WN,afT,?_,by rw [hl]; exact hg.1,hc.pos,hc.nn,hes,fun H3 k3 hM3=>?_⟩
   ·exact(ao MR.R.li nQ).symm
   ·exact q1 g cs H3 hg ((ak.kp (s1.trans s2)).trans k3) hM3 (hc.kp k3 WN.mu)
noncomputable def WO (a:cN):Sp:=fun vs H Q _=>∃M xs es i v,vs=[.ref M.p,.int (i:Nat)]∧cf a H M xs es∧xs[i]?=some v∧Q v H
theorem lQ (T:Txt K mg a):aU P w K mg base cC 2 a.yh a.yj ["self","place"] (WO a):=by
 refine T.sj.ok Vv (fun vs H Q E h=>?_) (fun bL A outer s H vs Q E hr h=>?_)
 ·obtain⟨_,_,_,_,_,rfl,_⟩:=h
  rfl
 ·obtain⟨M,xs,es,i,v,rfl,hM,hv,q⟩:=h
  obtain⟨dx,h1⟩:=hM.ob
  obtain⟨qo,h2⟩:=hM.R.ob
  refine⟨_,(ah (aE (aC (a8 (pv 0) rfl) T.bj T.oZ (t8 T) (hr.mono (by decide)) T.za .nil ar (aa (pv 1) af)))),?_⟩
  dsimp! [h1,h2,HO.ins.injEq,T.au,T.aJ,b8,kE]
  exact⟨M.pr,M.d,M.m,M.c,xs,i,v,rfl,hM.R,hv,q⟩
structure c5 (a:cN) (K:PySem.W.Frag) (H:Hp) (M:MA) (xs:List V) (es:List (Nat×List V)) (pl:Nat) (e:En):Prop where
 mem:cf a H M xs es
 has:∃cs,(pl,cs)∈es∧Cells K H cs e
theorem c5.head {H:Hp}{M:MA}{xs:List V}{es:List (Nat×List V)}{pl:Nat}{e:En}(h:c5 a K H M xs es pl e):xs[pl]?=some (.int (hd e.t.kind e.bR e.t.words.isSome (e.t.size:Nat))):=by
 obtain⟨cs,h1,h2⟩:=h.has
 obtain⟨mid,fx,rfl,_⟩:=h2.ex
 exact(h.mem.lay.at_ _ h1 0 _ rfl).2
theorem c5.serial {H:Hp}{M:MA}{xs:List V}{es:List (Nat×List V)}{pl:Nat}{e:En}(h:c5 a K H M xs es pl e):xs[pl+1]?=some (.int e.bJ):=by
 obtain⟨cs,h1,h2⟩:=h.has
 obtain⟨mid,fx,rfl,_⟩:=h2.ex
 exact(h.mem.lay.at_ _ h1 1 _ rfl).2
theorem c5.words {H:Hp}{M:MA}{xs:List V}{es:List (Nat×List V)}{pl:Nat}{e:En}(h:c5 a K H M xs es pl e) (hp:e.t.first=3):∃x,xs[pl+2]?=some x∧c_ K H x (wVl e.t.words):=by
 obtain⟨cs,h1,h2⟩:=h.has
 obtain⟨mid,fx,rfl,_,h3,h4⟩:=h2.ex
 cases mid with
 | nil=>simp at h3; omega
 | cons x r=>exact⟨x,(h.mem.lay.at_ _ h1 2 x rfl).2,h4 x List.mem_cons_self⟩
theorem c5.field {H:Hp}{M:MA}{xs:List V}{es:List (Nat×List V)}{pl:Nat}{e:En}(h:c5 a K H M xs es pl e) {i:Nat}(hi:i < e.t.fs.length):∃x,xs[pl+e.t.first+i]?=some x∧c_ K H x e.t.fs[i]:=by
 obtain⟨cs,h1,h2⟩:=h.has
 obtain⟨mid,fx,rfl,hv,h3,h4⟩:=h2.ex
 have hl:i < fx.length:=by
  have:=hv.1
  omega
 refine⟨fx[i],?_,hv.2 i _ _ (List.getElem?_eq_getElem hl) (List.getElem?_eq_getElem hi)⟩
 have:=(h.mem.lay.at_ _ h1 (e.t.first+i) fx[i] ?_).2
 ·rw [Nat.add_assoc]
  exact this
 ·show(V.int _::V.int _::(mid++fx))[e.t.first+i]?=_
  rw [show e.t.first+i=mid.length+i+1+1 by omega,List.getElem?_cons_succ,List.getElem?_cons_succ,List.getElem?_append_right (by omega)]
  rw [show mid.length+i - mid.length=i by omega]
  exact List.getElem?_eq_getElem hl
theorem c5.same {H H':Hp}{M:MA}{xs:List V}{es:List (Nat×List V)}{pl:Nat}{e:En}(h:c5 a K H M xs es pl e) (k:ak H H'):c5 a K H' M xs es pl e:=by
 obtain⟨cs,h1,h2⟩:=h.has
 exact⟨h.mem.same k,cs,h1,h2.same k⟩
theorem c5.room {H:Hp}{M:MA}{xs:List V}{es:List (Nat×List V)}{pl:Nat}{e:En}(h:c5 a K H M xs es pl e):pl / M.c < M.m:=by
 obtain⟨cs,h1,h2⟩:=h.has
 have h3:=h.mem.lay.le h1
 have h4:=h2.pos
 rw [h.mem.R.len] at h3
 rw [Nat.div_lt_iff_lt_mul h.mem.R.c0]
 dsimp only at h3
 omega
noncomputable def WQ (a:cN) (K:PySem.W.Frag):Sp:=fun vs H Q _=>∃M xs es pl e,vs=[.ref M.p,.int (pl:Nat)]∧c5 a K H M xs es pl e∧Q (.int e.bJ) H
theorem AW (T:Txt K mg a):aU P w K mg base cC 2 a.yo a.yp ["self","place"] (WQ a K):=by
 refine T.sq.ok Vx (fun vs H Q E h=>?_) (fun bL A outer s H vs Q E hr h=>?_)
 ·obtain⟨_,_,_,_,_,rfl,_⟩:=h
  rfl
 ·obtain⟨M,xs,es,pl,e,rfl,h,q⟩:=h
  obtain⟨dx,h1⟩:=h.mem.ob
  obtain⟨qo,h2⟩:=h.mem.R.ob
  refine⟨_,(ah (aE (aC (a8 (pv 0) rfl) T.bj T.oZ (t8 T) (hr.mono (by decide)) T.za .nil ar (aa (aL de (pv 1) (cE (v:=.int 1) rfl T.mJ ⟨_,rfl⟩)) af)))),?_⟩
  dsimp! [h1,h2,HO.ins.injEq,T.au,T.aJ,b8,kE]
  exact⟨M.pr,M.d,M.m,M.c,xs,pl+1,_,by simp,h.mem.R,h.serial,q⟩
noncomputable def WR (a:cN) (K:PySem.W.Frag):Sp:=fun vs H Q _=>∃M xs es pl e,vs=[.ref M.p,.int (pl:Nat)]∧c5 a K H M xs es pl e∧Q (.int (e.t.size:Nat)) H
theorem WS (T:Txt K mg a):aU P w K mg base cC 3 a.yq a.yr ["self","place"] (WR a K):=by
 refine T.sr.ok Vy (fun vs H Q E h=>?_) (fun bL A outer s H vs Q E hr h=>?_)
 ·obtain⟨_,_,_,_,_,rfl,_⟩:=h
  rfl
 ·obtain⟨M,xs,es,pl,e,rfl,h,q⟩:=h
  obtain⟨dx,h1⟩:=h.mem.ob
  refine⟨_,(ah (aE (aD (V2 T) (hr.mono (by decide)) rfl T.Qu T.oW.kp T.Qt .nil ar (aa (by exact(aC (pv 0) T.au T.jA (lQ T) (hr.mono (by decide)) T.pd .nil ar (aa (pv 1) af))) af)))),?_⟩
  have f1:=aW (pr:=M.pr) (lb:=M.lb) (n:="head_at")
  dsimp! [h1,HO.ins.injEq,f1]
  refine⟨M,xs,es,pl,_,rfl,h.mem,h.head,_,rfl,?_⟩
  rw [MI e.t.k0.1 e.t.k0.2]
  exact q
noncomputable def WT (a:cN) (K:PySem.W.Frag):Sp:=fun vs H Q _=>∃M xs es pl e,vs=[.ref M.p,.int (pl:Nat)]∧c5 a K H M xs es pl e∧Q (.str e.t.sort) H
theorem ue (T:Txt K mg a):aU P w K mg base cC 3 a.yt a.yu ["self","place"] (WT a K):=by
 refine T.su.ok Vz (fun vs H Q E h=>?_) (fun bL A outer s H vs Q E hr h=>?_)
 ·obtain⟨_,_,_,_,_,rfl,_⟩:=h
  rfl
 ·obtain⟨M,xs,es,pl,e,rfl,h,q⟩:=h
  obtain⟨dx,h1⟩:=h.mem.ob
  refine⟨_,(ah (aE (aG dy (cE (v:=.ref a.eV) rfl T.t5 rfl) (aD (VZ T) (hr.mono (by decide)) rfl T.Qs T.oV.kp T.Qr .nil ar (aa (by exact(aC (pv 0) T.au T.jA (lQ T) (hr.mono (by decide)) T.pd .nil ar (aa (pv 1) af))) af)) (fun _ _=>rfl)))),?_⟩
  have f1:=aW (pr:=M.pr) (lb:=M.lb) (n:="head_at")
  dsimp! [h1,HO.ins.injEq,f1]
  refine⟨M,xs,es,pl,_,rfl,h.mem,h.head,_,rfl,?_⟩
  rw [MH e.t.k0.1 e.t.k0.2]
  refine⟨_,_,_,.str e.t.sort,rfl,rfl,T.t6 H,?_,q⟩
  cases e.t <;> rfl
noncomputable def WU (a:cN) (K:PySem.W.Frag):Sp:=fun vs H Q _=>∃M xs es pl e,vs=[.ref M.p,.int (pl:Nat)]∧c5 a K H M xs es pl e∧e.t.first=3∧Q (wV e.t.words) H
theorem WV (T:Txt K mg a):aU P w K mg base cC 3 a.ym a.yn ["self","place"] (WU a K):=by
 refine T.so.ok Vw (fun vs H Q E h=>?_) (fun bL A outer s H vs Q E hr h=>?_)
 ·obtain⟨_,_,_,_,_,rfl,_⟩:=h
  rfl
 ·obtain⟨M,xs,es,pl,e,rfl,h,h3,q⟩:=h
  obtain⟨dx,h1⟩:=h.mem.ob
  obtain⟨qo,h2⟩:=h.mem.R.ob
  refine⟨_,(ah (aE (e5 (dU (aD (V7 T) (hr.mono (by decide)) rfl T.Qy T.oY.kp T.Qx .nil ar (aa (by exact(aC (pv 0) T.au T.jA (lQ T) (hr.mono (by decide)) T.pd .nil ar (aa (pv 1) af))) af))) (aG dy (aC (a8 (pv 0) rfl) T.bj T.oZ (t8 T) (hr.mono (by decide)) T.za .nil ar (aa (aL de (pv 1) (cE (v:=.int 2) rfl T.jC ⟨_,rfl⟩)) af)) aq (fun _ _=>rfl)) dc))),?_⟩
  have f1:=aW (pr:=M.pr) (lb:=M.lb) (n:="head_at")
  dsimp! [h1,h2,HO.ins.injEq,f1,T.au,T.aJ,b8,kE]
  refine⟨M,xs,es,pl,_,rfl,h.mem,h.head,_,rfl,?_⟩
  rw [IZ e.t.k0.1 e.t.k0.2]
  obtain⟨x,hx,t,rfl,ht⟩:=h.words h3
  cases ew:e.t.words with
  | none=>
   rw [ew] at q
   refine⟨_,rfl,dH q⟩
  | some n=>
   rw [ew] at q ht
   refine⟨_,rfl,e9 ⟨_,_,_,h1,T.au,T.aJ,_,b8 _ _,_,rfl,_,_,h2,kE _ _ _,M.pr,M.d,M.m,M.c,xs,pl+2,_,by simp,h.mem.R,hx,t,_,_,_,rfl,rfl,ht,rfl,q⟩⟩
noncomputable def WW (a:cN) (K:PySem.W.Frag):Sp:=fun vs H Q _=>∃M xs es pl e,vs=[.ref M.p,.int (pl:Nat)]∧c5 a K H M xs es pl e∧Q (.bl e.bR) H
theorem ip (T:Txt K mg a):aU P w K mg base cC 3 a.yv a.yw ["self","place"] (WW a K):=by
 refine T.sv.ok VA (fun vs H Q E h=>?_) (fun bL A outer s H vs Q E hr h=>?_)
 ·obtain⟨_,_,_,_,_,rfl,_⟩:=h
  rfl
 ·obtain⟨M,xs,es,pl,e,rfl,h,q⟩:=h
  obtain⟨dx,h1⟩:=h.mem.ob
  obtain⟨qo,h2⟩:=h.mem.R.ob
  refine⟨_,(ah (aE (Tx (Tv (Uo (Fs hr) (pv 1) (aG ay (a8 (pv 0) rfl) (aC (a8 (pv 0) rfl) T.bj T.AN (Jj T) (hr.mono (by decide)) T.IE .nil ar (aa (pv 1) af)) (fun _ _=>rfl)))) (Tw (aD (V4 T) (hr.mono (by decide)) rfl T.Qw T.oX.kp T.Qv .nil ar (aa (by exact(aC (pv 0) T.au T.jA (lQ T) (hr.mono (by decide)) T.pd .nil ar (aa (pv 1) af))) af)))))),?_⟩
  have f1:=aW (pr:=M.pr) (lb:=M.lb) (n:="head_at")
  dsimp! [h1,h2,HO.ins.injEq,f1,T.au,T.aJ,T.br,b8,fg,pB]
  obtain⟨cs,qA,hc⟩:=h.has
  have Jn:=h.room
  have WK:pl / M.c < M.bs.length:=by rw [h.mem.bl]; exact Jn
  have MP:M.bs[pl / M.c]?=some M.bs[pl / M.c]:=List.getElem?_eq_getElem WK
  have jq:(dZ (il es M.c (pl / M.c)) (Sum.inl (pl:Int))).isSome=true:=zk.mpr ⟨(pl,cs),qA,rfl,rfl⟩
  refine⟨M.pr,M.d,M.m,M.c,xs,pl,rfl,h.mem.R,M.lb,_,_,.ref M.bs[pl / M.c],rfl,rfl,aF.of h.mem.li,bp (by rw [List.getElem?_map,MP]; rfl),_,rfl,_,tP.k (k:=Sum.inl (pl:Int)) (h.mem.bd _ _ MP),?_⟩
  rw [jq]
  refine e9 ⟨_,_,h1,f1,M,xs,es,pl,_,rfl,h.mem,h.head,_,rfl,?_⟩
  rw [MJ e.t.k0.1 e.t.k0.2]
  exact q
noncomputable def WX (a:cN) (K:PySem.W.Frag):Sp:=fun vs H Q _=>∃M xs es pl e,vs=[.ref M.p,.int (pl:Nat)]∧c5 a K H M xs es pl e∧∀p d H',ak H H'→H p=none→H d=none→gc a K H' p d e.t→Q (.ref p) H'
theorem jD (T:Txt K mg a):aU P w K mg base cC 10 a.yk a.yl ["self","place"] (WX a K):=by
 refine T.sk.ok AK (fun vs H Q E h=>?_) (fun bL A outer s H vs Q E hr h=>?_)
 ·obtain⟨_,_,_,_,_,rfl,_⟩:=h
  rfl
 ·obtain⟨M,xs,es,pl,e,rfl,h,q⟩:=h
  obtain⟨dx,h1⟩:=h.mem.ob
  refine⟨_,(ag (aN (i:=2) AK.nd rfl (Or.inl rfl) (aC (pv 0) T.au T.pe (ue T) (hr.mono (by decide)) T.zd .nil ar (aa (pv 1) af))) (ag (hJ (j:=3) rfl AK.nd rfl rfl (gw (x:="at") (ns:=["self"]) (fr:=[0]) rfl (by decide +kernel) rfl (by decide +kernel) rfl (List.forall_mem_cons.mpr ⟨rfl,List.forall_mem_nil _⟩) rfl rfl (List.forall_mem_cons.mpr ⟨⟨rfl,rfl,.inl rfl⟩,List.forall_mem_nil _⟩) (by decide +kernel)) (rq rfl T.cF (aa (aL de (pv 1) (aD (AU T) (hr.mono (by decide)) rfl T.CI T.ku.kp T.CG .nil ar (aa (pv 2) af))) (aa (aL de (pv 1) (aC (pv 0) T.au T.IM (WS T) (hr.mono (by decide)) T.QJ .nil ar (aa (pv 1) af))) af))) (fun _ _ _ _=>(aC (nO (K:=K) rfl (pv 1) rfl) T.bj T.oZ (t8 T) (hr.mono (by decide)) T.za .nil ar (aa (pv 0) af))) (fun _ _ _ _=>.nil)) (ag (cO (aH cX (pv 2) aT (aQ _)) (ah (aE (aD (Jc T) (hr.mono (by decide)) rfl T.Ig T.mq.kp T.Ie .nil ar (aa (pv 3) (aa (by exact(aC (pv 0) T.au T.IL (WV T) (hr.mono (by decide)) T.QI .nil ar (aa (pv 1) af))) af))))) bB) (ah (aE (e5 (aH cX (pv 2) aT (aQ _)) (aD (Jd T) (hr.mono (by decide)) rfl T.Ii T.mv.kp T.Ih .nil ar (aa (aG ay (pv 3) aq (fun _ _=>rfl)) af)) (aD (Je T) (hr.mono (by decide)) rfl T.Ik T.mw.kp T.Ij .nil ar (aa (aG ay (pv 3) aq (fun _ _=>rfl)) (aa (aG ay (pv 3) aq (fun _ _=>rfl)) af))))))))),?_⟩
  have f1:=aW (pr:=M.pr) (lb:=M.lb) (n:="sort_at")
  have f2:=aW (pr:=M.pr) (lb:=M.lb) (n:="size_at")
  dsimp! [h1,HO.ins.injEq,f1,f2]
  have hsz:e.t.size≤1000:=by
   obtain⟨cs,qA,hc⟩:=h.has
   have h3:=h.mem.lay.le qA
   have h4:=h.mem.R.sm
   rw [h.mem.R.len,hc.len] at h3
   dsimp only at h3
   omega
  have jX:pl≤1000:=by
   obtain⟨cs,qA,hc⟩:=h.has
   have h3:=h.mem.lay.le qA
   have h4:=h.mem.R.sm
   rw [h.mem.R.len] at h3
   dsimp only at h3
   omega
  have hf2:=e.t.f2
  have esz:e.t.size=e.t.first+e.t.fs.length:=rfl
  refine⟨M,xs,es,pl,e,rfl,h,e.t,rfl,_,rfl,_,_,h1,f2,M,xs,es,pl,e,rfl,h,_,rfl,by omega,by omega,by omega,by omega,fun D hD=>?_⟩
  rw [show((pl:Int)+(e.t.size:Int) - ((pl:Int)+(e.t.first:Int))).toNat=e.t.fs.length by omega]
  refine ZT (fun i ys H4=>ak H H4∧H4 D=some (.lst ys)∧ys.length=i∧∀(j:Nat) x v,ys[j]?=some x→e.t.fs[j]?=some v→c_ K H4 x v) ⟨ak.put hD,ae,rfl,fun j x v h=>by simp at h⟩ ?_ ?_
  ·rintro i m' ys H4 hmm hi ⟨k4,D4,hy4,ok4⟩
   have h4:=h.same k4
   have ES:=k4 _ _ h1
   obtain⟨ER,h5⟩:=h4.mem.R.ob
   obtain⟨x,hx,hv⟩:=h4.field hi
   dsimp! [aP,Option.join_some,ES,h5,HO.ins.injEq,T.au,T.aJ,b8,kE]
   refine⟨M.pr,M.d,M.m,M.c,xs,pl+e.t.first+i,x,?_,h4.mem.R,hx,qz.mk hmm D4 (by omega) ⟨?_,ae,by simp [hy4],fun j y v hj hv2=>?_⟩⟩
   ·simp
   ·intro b o e2
    rw [ai (ao e2 hD)]
    exact k4 b o e2
   ·have kD:Kp (·=D) H4 (upd H4 D (.lst (ys++[x]))):=(Kp.refl _ _).set rfl
    have mu:∀b,b=D→Mu H4 b:=fun b e=>.inl ⟨ys,by rw [e]; exact D4⟩
    by_cases Mz:j < ys.length
    ·rw [List.getElem?_append_left Mz] at hj
     exact(ok4 j y v hj hv2).kp kD mu
    ·have ej:j=ys.length:=by
      have:=(List.getElem?_eq_some_iff.mp hj).1
      simp at this
      omega
     subst ej
     rw [List.getElem?_append_right (Nat.le_refl _),Nat.sub_self] at hj
     cases hj
     have ev:e.t.fs[i]=v:=by
      rw [hy4,List.getElem?_eq_getElem hi] at hv2
      exact Option.some.inj hv2
     rw [←ev]
     exact hv.kp kD mu
  ·rintro ys H4 ⟨k4,D4,hy4,ok4⟩
   have vl:eC K H4 ys e.t.fs:=⟨hy4.symm,ok4⟩
   have h4:=h.same k4
   have ES:=k4 _ _ h1
   have hys:ys.length≤1000:=by omega
   cases et:e.t with
   | plain fs w=>
    rw [et] at vl
    dsimp! [Tg.sort,ES,HO.ins.injEq]
    refine⟨aW,M,xs,es,pl,e,rfl,h4,by rw [et]; rfl,D,ys,fs,e.t.words,rfl,aF.of D4,vl,hys,fun p d H' s5 hp hd hT=>q p d H' (k4.trans s5) (k4.free hp) (k4.free hd) ?_⟩
    rw [et] at hT ⊢
    exact hT
   | weak f=>
    rw [et] at vl
    dsimp! [Tg.sort,AS]
    have d_:0 < ys.length:=by rw [←vl.1]; show 0 < 1; decide
    have g0:ys[0]?=some ys[0]:=List.getElem?_eq_getElem d_
    refine⟨D,ys,_,ys[0],rfl,rfl,aF.of D4,bp (j:=0) g0,_,f,rfl,vl.2 0 _ _ g0 rfl,fun p d H' s5 hp hd hT=>q p d H' (k4.trans s5) (k4.free hp) (k4.free hd) ?_⟩
    rw [et]
    exact hT
   | pair k v=>
    rw [et] at vl
    dsimp! [Tg.sort,ub,Wx]
    have eM:1 < ys.length:=by rw [←vl.1]; show 1 < 2; decide
    have g0:ys[0]?=some ys[0]:=List.getElem?_eq_getElem (by omega)
    have g1:ys[1]?=some ys[1]:=List.getElem?_eq_getElem eM
    refine⟨D,ys,_,ys[0],rfl,rfl,aF.of D4,bp (j:=0) g0,D,ys,_,ys[1],rfl,rfl,aF.of D4,bp (j:=1) g1,_,_,k,v,rfl,vl.2 0 _ _ g0 rfl,vl.2 1 _ _ g1 rfl,fun p d H' s5 hp hd hT=>q p d H' (k4.trans s5) (k4.free hp) (k4.free hd) ?_⟩
    rw [et]
    exact hT
noncomputable def WY (K:PySem.W.Frag):Sp:=fun vs H Q _=>∃(p:Addr) (ns:List Int) (k:Int),vs=[.ref p,.int k]∧aF K H p (ns.map V.int)∧0≤k∧∀z,Q (.int z) H
theorem AX (T:Txt K mg a):aU P w K mg base cC 1 a.yH a.yI ["_law_script","_law_k"] (WY K):=by
 refine T.kz.ok VG (fun vs H Q E h=>?_) (fun bL A outer s H vs Q E hr h=>?_)
 ·obtain⟨_,_,_,rfl,_⟩:=h
  rfl
 ·obtain⟨p,ns,k,rfl,hS,hk,q⟩:=h
  refine⟨_,(ag (cO (aH Zw (pv 1) (bh a9 rfl T.dI dr (aa (pv 0) af)) (aQ _)) (ah (aE (aG ay (pv 0) (pv 1) (fun _ _=>rfl)))) bB) (ah (aE aq))),?_⟩
  dsimp! []
  refine⟨_,.inl hS,mP (fun h=>?_) fun _=>q 0⟩
  have fo:k.toNat < ns.length:=by
   have:=of_decide_eq_true h
   rw [List.length_map] at this
   omega
  have e:k=((k.toNat:Nat):Int):=by omega
  have hx:(ns.map V.int)[k.toNat]?=some (V.int ns[k.toNat]):=by simp [fo]
  exact⟨p,_,k,_,rfl,rfl,hS,(congrArg (qm _) e).trans (bp hx),q _⟩
noncomputable def fz (es:List (Nat×List V)) (pl:Nat) (cs:List V):List (Nat×List V):=es.map fun b=>if b.1=pl then(pl,cs)else b
theorem D7 (es:List (Nat×List V)) (pl c r:Nat) (cs:List V):il (fz es pl cs) c r=il es c r:=by
 unfold il fz
 rw [List.filter_map,List.map_map]
 have e:(fun b:Nat×List V=>decide (b.1 / c=r)) ∘ (fun b=>if b.1=pl then(pl,cs)else b)=fun b=>decide (b.1 / c=r):=by
  funext b
  show decide ((if b.1=pl then(pl,cs)else b).1 / c=r)=decide (b.1 / c=r)
  split
  ·rename_i h
   rw [h]
  ·rfl
 rw [e]
 refine List.map_congr_left fun b _=>?_
 show((Sum.inl (((if b.1=pl then(pl,cs)else b).1:Nat):Int):Key),V.bl true)=_
 split
 ·rename_i h
  rw [h]
 ·rfl
theorem D8 (es:List (Nat×List V)) (pl:Nat) (cs ds:List V):fz (fz es pl cs) pl ds=fz es pl ds:=by
 unfold fz
 rw [List.map_map]
 refine List.map_congr_left fun b _=>?_
 show(if (if b.1=pl then(pl,cs)else b).1=pl then(pl,ds)else(if b.1=pl then(pl,cs)else b))=_
 by_cases h:b.1=pl
 ·rw [if_pos h,if_pos h,if_pos rfl]
 ·rw [if_neg h,if_neg h]
theorem Jo {es:List (Nat×List V)}{pl:Nat}{cs ds:List V}(h:(pl,cs)∈es):(pl,ds)∈fz es pl ds:=List.mem_map.mpr ⟨_,h,if_pos rfl⟩
theorem Lay.write {xs:List V}{c:Nat}{es:List (Nat×List V)}(L:Lay xs c es) {pl:Nat}{cs:List V}(hb:(pl,cs)∈es) {i:Nat}{v:V}(hi:i < cs.length) (hv:v≠.bf):Lay (xs.set (pl+i) v) c (fz es pl (cs.set i v)):=by
 have h:=L.set hb (i:=i) (v:=v) hi hv
 have e:(es.map fun d=>if d.1=pl then(d.1,d.2.set i v)else d)=fz es pl (cs.set i v):=by
  unfold fz
  refine List.map_congr_left fun b AE=>?_
  by_cases z:b.1=pl
  ·rw [if_pos z,if_pos z]
   have:=L.same AE hb z
   rw [this]
  ·rw [if_neg z,if_neg z]
 rw [←e]
 exact h
theorem cf.write {H:Hp}{M:MA}{xs:List V}{es:List (Nat×List V)}(h:cf a H M xs es) {pl:Nat}{cs:List V}(hb:(pl,cs)∈es) {i:Nat}{v:V}(hi:i < cs.length) (hv:v≠.bf) :
  cf a (upd H M.d (.lst (xs.set (pl+i) v))) M (xs.set (pl+i) v) (fz es pl (cs.set i v)) where
 ob:=by
  obtain⟨dx,e⟩:=h.ob
  exact⟨dx,by rw [ai (cu e h.R.li (by intro z; cases z))]; exact e⟩
 R:=h.R.keep (fun b o hb e=>by rw [ai hb]; exact e) ae (List.length_set ..)
 li:=by rw [ai h.nl]; exact h.li
 nl:=h.nl
 bl:=h.bl
 bd:=fun r b e=>by
  have:=h.bd r b e
  rw [D7,ai (cu this h.R.li (by intro z; cases z))]
  exact this
 bi:=h.bi
 lay:=h.lay.write hb hi hv
 DA:=by unfold fz; rw [List.length_map]; exact h.DA
noncomputable def Tg.zm:Tg→Nat→Vl→Tg
 | .plain fs w,i,v=>.plain (fs.set i v) w
 | .weak _,_,v=>.weak v
 | .pair _ u,0,v=>.pair v u
 | .pair k _,_+1,v=>.pair k v
theorem Tg.ug {t:Tg}{i:Nat}{v:Vl}(h:i < t.fs.length):(t.zm i v).fs=t.fs.set i v:=by
 cases t with
 | plain fs w=>rfl
 | weak f=>
  have:i=0:=Nat.lt_one_iff.mp h
  subst this
  rfl
 | pair k u=>
  have h2:i < 2:=h
  match i,h2 with
  | 0,_=>rfl
  | 1,_=>rfl
theorem Tg.iT (t:Tg) (i:Nat) (v:Vl):(t.zm i v).sort=t.sort∧(t.zm i v).words=t.words∧(t.zm i v).first=t.first∧(t.zm i v).kind=t.kind:=by
 cases t with
 | plain fs w=>exact⟨rfl,rfl,rfl,rfl⟩
 | weak f=>exact⟨rfl,rfl,rfl,rfl⟩
 | pair k u=>cases i <;> exact⟨rfl,rfl,rfl,rfl⟩
theorem eC.set {H:Hp}{xs:List V}{vl:List Vl}{i:Nat}{x:V}{v:Vl}(h:eC K H xs vl) (hx:c_ K H x v):eC K H (xs.set i x) (vl.set i v):=⟨by simp [h.1],fun j y u a b=>by
 by_cases e:i=j
 ·subst e
  have hl:=(List.getElem?_eq_some_iff.mp a).1
  rw [List.length_set] at hl
  have eM:=h.1
  rw [List.getElem?_set_self hl] at a
  rw [List.getElem?_set_self (by omega)] at b
  cases a
  cases b
  exact hx
 ·rw [List.getElem?_set_ne e] at a b
  exact h.2 j y u a b⟩
noncomputable def WZ (a:cN) (K:PySem.W.Frag):Sp:=fun vs H Q _=>∃M xs es pl e m',vs=[.ref M.p,.int (pl:Nat),.bl m']∧c5 a K H M xs es pl e∧∀H' vv uh,Kp (·=M.d) H H'→cf a H' M vv (fz es pl uh)→Cells K H' uh (⟨e.t,e.bJ,m'⟩:En)→Q .bf H'
theorem W0 (T:Txt K mg a):aU P w K mg base cC 3 a.yx a.yy ["self","place","marked"] (WZ a K):=by
 refine T.sy.ok VB (fun vs H Q E h=>?_) (fun bL A outer s H vs Q E hr h=>?_)
 ·obtain⟨_,_,_,_,_,_,rfl,_⟩:=h
  rfl
 ·obtain⟨M,xs,es,pl,e,m',rfl,h,q⟩:=h
  obtain⟨dx,h1⟩:=h.mem.ob
  obtain⟨qo,h2⟩:=h.mem.R.ob
  refine⟨_,(ah (aV (aC (a8 (pv 0) rfl) T.bj T.o_ (t9 T) (hr.mono (by decide)) T.zc .nil ar (aa (pv 1) (aa (aD (I_ T) (hr.mono (by decide)) rfl T.Iv T.my.kp T.Iu .nil ar (aa (by exact(aC (pv 0) T.au T.jA (lQ T) (hr.mono (by decide)) T.pd .nil ar (aa (pv 1) af))) (aa (pv 2) af))) af))))),?_⟩
  have f1:=aW (pr:=M.pr) (lb:=M.lb) (n:="head_at")
  dsimp! [h1,h2,HO.ins.injEq,f1,T.au,T.aJ,b8,kF]
  obtain⟨cs,qA,hc⟩:=h.has
  have hle:=h.mem.lay.le qA
  have F0:=hc.pos
  dsimp only at hle
  refine⟨M,xs,es,pl,_,rfl,h.mem,h.head,_,_,rfl,M.pr,M.d,M.m,M.c,xs,pl,_,rfl,h.mem.R,by omega,?_⟩
  rw [VQ _ _ _ e.t.k0.1 e.t.k0.2]
  have kD:Kp (·=M.d) H (upd H M.d (.lst (xs.set pl (.int (hd e.t.kind m' e.t.words.isSome (e.t.size:Nat)))))):=(Kp.refl _ _).set rfl
  have hm:=h.mem.write qA (i:=0) (v:=.int (hd e.t.kind m' e.t.words.isSome (e.t.size:Nat))) F0 (fun z=>nomatch z)
  refine q _ _ _ kD hm ?_
  obtain⟨mid,fx,rfl,b1,b2,b3⟩:=(hc.kp kD fun b eb=>.inl ⟨xs,by rw [eb]; exact h.mem.R.li⟩).ex
  exact⟨mid,fx,rfl,b1,b2,b3⟩
noncomputable def AY (a:cN) (K:PySem.W.Frag):Sp:=fun vs H Q _=>∃M xs es pl e at_ x v,vs=[.ref M.p,.int (pl:Nat),.int (at_:Nat),x]∧c5 a K H M xs es pl e∧at_ < e.t.fs.length∧c_ K H x v ∧
 ∀H' vv uh,Kp (·=M.d) H H'→cf a H' M vv (fz es pl uh)→Cells K H' uh (⟨e.t.zm at_ v,e.bJ,e.bR⟩:En)→Q .bf H'
theorem AZ (T:Txt K mg a):aU P w K mg base cC 4 a.yz a.yA ["self","place","at","value"] (AY a K):=by
 refine T.sA.ok VC (fun vs H Q E h=>?_) (fun bL A outer s H vs Q E hr h=>?_)
 ·obtain⟨_,_,_,_,_,_,_,_,rfl,_⟩:=h
  rfl
 ·obtain⟨M,xs,es,pl,e,at_,x,v,rfl,h,PX,hx,q⟩:=h
  obtain⟨dx,h1⟩:=h.mem.ob
  obtain⟨qo,h2⟩:=h.mem.R.ob
  refine⟨_,(ah (aV (aC (a8 (pv 0) rfl) T.bj T.o_ (t9 T) (hr.mono (by decide)) T.zc .nil ar (aa (aL de (aL de (pv 1) (aD (AU T) (hr.mono (by decide)) rfl T.CI T.ku.kp T.CG .nil ar (aa (by exact(aC (pv 0) T.au T.pe (ue T) (hr.mono (by decide)) T.zd .nil ar (aa (pv 1) af))) af))) (pv 2)) (aa (pv 3) af))))),?_⟩
  have f1:=aW (pr:=M.pr) (lb:=M.lb) (n:="sort_at")
  dsimp! [h1,h2,HO.ins.injEq,f1,T.au,T.aJ,b8,kF]
  obtain⟨cs,qA,hc⟩:=h.has
  have hle:=h.mem.lay.le qA
  have hlen:=hc.len
  have esz:e.t.size=e.t.first+e.t.fs.length:=rfl
  dsimp only at hle
  refine⟨M,xs,es,pl,e,rfl,h,e.t,rfl,_,rfl,M.pr,M.d,M.m,M.c,xs,pl+(e.t.first+at_),x,?_,h.mem.R,by omega,?_⟩
  ·simp
   omega
  have hi:e.t.first+at_ < cs.length:=by omega
  have kD:Kp (·=M.d) H (upd H M.d (.lst (xs.set (pl+(e.t.first+at_)) x))):=(Kp.refl _ _).set rfl
  have mu:∀b,b=M.d→Mu H b:=fun b eb=>.inl ⟨xs,by rw [eb]; exact h.mem.R.li⟩
  have hm:=h.mem.write qA hi (v:=x) (by
   obtain⟨t,rfl,_⟩:=hx
   exact fun z=>nomatch z)
  refine q _ _ _ kD hm ?_
  obtain⟨mid,fx,rfl,b1,b2,b3⟩:=(hc.kp kD mu).ex
  obtain⟨s1,s2,s3,s4⟩:=e.t.iT at_ v
  have sf:=Tg.ug (v:=v) PX
  have ssz:(e.t.zm at_ v).size=e.t.size:=by
   unfold Tg.size
   rw [s3,sf,List.length_set]
  refine⟨mid,fx.set at_ x,?_,by dsimp only; rw [sf]; exact b1.set (hx.kp kD mu),by dsimp only; rw [s3]; exact b2,by dsimp only; rw [s2]; exact b3⟩
  dsimp only
  rw [s2,s4,ssz,show e.t.first+at_=mid.length+at_+1+1 by omega,List.set_cons_succ,List.set_cons_succ,List.set_append_right _ _ (by omega),show mid.length+at_ - mid.length=at_ by omega]
noncomputable def Jp (a:cN) (K:PySem.W.Frag):Sp:=fun vs H Q _=>∃M xs es pl fs w bJ mk w',vs=[.ref M.p,.int (pl:Nat),wV w']∧c5 a K H M xs es pl (⟨.plain fs w,bJ,mk⟩:En) ∧
 ∀H' vv uh,Kp (·=M.d) H H'→cf a H' M vv (fz es pl uh)→Cells K H' uh (⟨.plain fs w',bJ,mk⟩:En)→Q .bf H'
theorem W2 (T:Txt K mg a):aU P w K mg base cC 3 a.yB a.yC ["self","place","words"] (Jp a K):=by
 refine T.sC.ok VD (fun vs H Q E h=>?_) (fun bL A outer s H vs Q E hr h=>?_)
 ·obtain⟨_,_,_,_,_,_,_,_,_,rfl,_⟩:=h
  rfl
 ·obtain⟨M,xs,es,pl,fs,w,bJ,mk,w',rfl,h,q⟩:=h
  obtain⟨dx,h1⟩:=h.mem.ob
  obtain⟨qo,h2⟩:=h.mem.R.ob
  refine⟨_,(ag (aV (aC (a8 (pv 0) rfl) T.bj T.o_ (t9 T) (hr.mono (by decide)) T.zc .nil ar (aa (pv 1) (aa (aD (Ja T) (hr.mono (by decide)) rfl T.Iy T.mz.kp T.Iw .nil ar (aa (by exact(aC (pv 0) T.au T.jA (lQ T) (hr.mono (by decide)) T.pd .nil ar (aa (pv 1) af))) (aa (fE gq (pv 2) dc (aQ _)) af))) af)))) (ah (aV (aC (a8 (pv 0) rfl) T.bj T.o_ (t9 T) (hr.mono (by decide)) T.zc .nil ar (aa (aL de (pv 1) (cE (v:=.int 2) rfl T.jC ⟨_,rfl⟩)) (aa (aD (Ji T) (hr.mono (by decide)) rfl T.II T.mD.kp T.IH .nil ar (aa (pv 2) af)) af)))))),?_⟩
  have f1:=aW (pr:=M.pr) (lb:=M.lb) (n:="head_at")
  dsimp! [h1,h2,HO.ins.injEq,f1,T.au,T.aJ,b8,kF,CT]
  obtain⟨cs,qA,hc⟩:=h.has
  have hle:=h.mem.lay.le qA
  have hlen:=hc.len
  have uc:3≤cs.length:=by
   rw [hlen]
   show 3≤3+fs.length
   omega
  dsimp only at hle
  refine⟨M,xs,es,pl,_,rfl,h.mem,h.head,_,_,rfl,M.pr,M.d,M.m,M.c,xs,pl,_,rfl,h.mem.R,by omega,?_⟩
  rw [VR _ _ _ (Tg.k0 _).1 (Tg.k0 _).2]
  have kD:Kp (·=M.d) H (upd H M.d (.lst (xs.set pl (.int (hd (Tg.plain fs w).kind mk w'.isSome ((Tg.plain fs w).size:Nat)))))):=(Kp.refl _ _).set rfl
  have mu:∀b,b=M.d→Mu H b:=fun b eb=>.inl ⟨xs,by rw [eb]; exact h.mem.R.li⟩
  have hm:=h.mem.write qA (i:=0) (v:=.int (hd (Tg.plain fs w).kind mk w'.isSome ((Tg.plain fs w).size:Nat))) (by omega) (fun z=>nomatch z)
  have W3:=hc.kp kD mu
  dsimp only
  generalize hv0:V.int (hd (Tg.plain fs w).kind mk w'.isSome ((Tg.plain fs w).size:Nat))=v0 at kD hm W3
  have Mh:(xs.set (pl+0) v0).length=xs.length:=List.length_set ..
  generalize upd H M.d (.lst (xs.set pl v0))=H1 at kD hm W3
  obtain⟨dx',Jm⟩:=hm.ob
  obtain⟨aix,h2'⟩:=hm.R.ob
  refine⟨_,_,_,Jm,T.au,T.aJ,_,b8 _ _,_,rfl,_,_,h2',kF _ _ _,w',rfl,fun x H2 s2 hx=>?_⟩
  have eN:=hm.same s2
  refine⟨M.pr,M.d,M.m,M.c,_,pl+2,x,by simp,eN.R,by omega,?_⟩
  have hm3:=eN.write (Jo qA) (i:=2) (v:=x) (by rw [List.length_set]; omega) (by
   obtain⟨t,rfl,_⟩:=hx
   exact fun z=>nomatch z)
  rw [D8] at hm3
  have k2:Kp (·=M.d) H H2:=kD.trans (ak.kp s2)
  have k3:Kp (·=M.d) H2 (upd H2 M.d (.lst ((xs.set (pl+0) v0).set (pl+2) x))):=(Kp.refl _ _).set rfl
  have mu2:∀b,b=M.d→Mu H2 b:=fun b eb=>.inl ⟨((xs.set (pl+0) v0)),by rw [eb]; exact eN.R.li⟩
  refine q _ _ _ (k2.trans k3) hm3 ?_
  obtain⟨mid,fx,rfl,b1,b2,b3⟩:=((W3.same s2).kp k3 mu2).ex
  have hx3:=hx.kp k3 mu2
  cases mid with
  | nil=>
   have:0+2=3:=b2
   omega
  | cons y r=>
   have Rf:r=[]:=by
    have:r.length+1+2=3:=b2
    exact List.eq_nil_of_length_eq_zero (by omega)
   subst Rf
   exact⟨[x],fx,by rw [←hv0]; rfl,b1,rfl,fun z hz=>by rw [List.mem_singleton.mp hz]; exact hx3⟩
noncomputable def kG (es:List (Nat×List V)) (c r:Nat):List Int:=(es.filter fun b=>decide (b.1 / c=r)).map fun b=>(b.1:Int)
theorem D9 (es:List (Nat×List V)) (c r:Nat):gb (il es c r)=(kG es c r).map V.int:=by
 unfold gb il kG
 rw [List.map_map,List.map_map]
 rfl
noncomputable def W4 (a:cN):Sp:=fun vs H Q _=>∃M xs es r,vs=[.ref M.p,.int (r:Nat)]∧cf a H M xs es∧r < M.m∧es.length < 64∧∀(l:Addr) (fb:List Int),H l=none→fb.Perm (kG es M.c r)→fb.Pairwise (·≤·)→Q (.ref l) (upd H l (.lst (fb.map V.int)))
theorem W5 (T:Txt K mg a):aU P w K mg base cC 1 a.yF a.yG ["self","room"] (W4 a):=by
 refine T.sF.ok VF (fun vs H Q E h=>?_) (fun bL A outer s H vs Q E hr h=>?_)
 ·obtain⟨_,_,_,_,rfl,_⟩:=h
  rfl
 ·obtain⟨M,xs,es,r,rfl,hM,hrm,lI,q⟩:=h
  obtain⟨dx,h1⟩:=hM.ob
  refine⟨_,(ah (aE (bh (tR rfl) rfl T.dJ f_ (aa (aG ay (a8 (pv 0) rfl) (pv 1) (fun _ _=>rfl)) af)))),?_⟩
  dsimp! [h1,HO.ins.injEq,T.au,T.br,fg]
  have WK:r < M.bs.length:=by rw [hM.bl]; exact hrm
  have MP:M.bs[r]?=some M.bs[r]:=List.getElem?_eq_getElem WK
  refine⟨M.lb,_,_,.ref M.bs[r],rfl,rfl,aF.of hM.li,bp (by rw [List.getElem?_map,MP]; rfl),_,rfl,_,.inl (hM.bd _ _ MP),kG es M.c r,D9 _ _ _,?_,q⟩
  unfold kG
  rw [List.length_map]
  have:=List.length_filter_le (fun b:Nat×List V=>decide (b.1 / M.c=r)) es
  omega
noncomputable def fP (es:List (Nat×List V)) (c r:Nat):List Int:=(es.filter fun b=>decide (b.1 / c < r)).map fun b=>(b.1:Int)
theorem mL (c r:Nat):∀es:List (Nat×List V),(fP es c (r+1)).Perm (fP es c r++kG es c r)
 | []=>.refl _
 | b::es=>by
  have ih:=mL c r es
  unfold fP kG at ih ⊢
  rw [List.filter_cons,List.filter_cons,List.filter_cons]
  by_cases h1:b.1 / c < r
  ·rw [if_pos (decide_eq_true (by omega)),if_pos (decide_eq_true h1),if_neg (by simp; omega)]
   exact ih.cons _
  ·by_cases h2:b.1 / c=r
   ·rw [if_pos (decide_eq_true (by omega)),if_neg (by simpa using h1),if_pos (decide_eq_true h2)]
    exact(ih.cons _).trans List.perm_middle.symm
   ·rw [if_neg (by simp; omega),if_neg (by simpa using h1),if_neg (by simpa using h2)]
    exact ih
noncomputable def D_ (es:List (Nat×List V)):List Int:=es.map fun b=>(b.1:Int)
theorem A0 {es:List (Nat×List V)}{c m:Nat}(h:∀b∈es,b.1 / c < m):fP es c m=D_ es:=by
 unfold fP D_
 rw [List.filter_eq_self.mpr fun b hb=>decide_eq_true (h b hb)]
noncomputable def Jq (a:cN):Sp:=fun vs H Q _=>∃M xs es,vs=[.ref M.p]∧cf a H M xs es∧es.length < 64∧∀(l:Addr) (fb:List Int) H',ak H H'→H l=none→H' l=some (.lst (fb.map V.int))→fb.Perm (D_ es)→fb.Pairwise (·≤·)→Q (.ref l) H'
theorem ui (T:Txt K mg a):aU P w K mg base cC 2 a.yD a.yE ["self"] (Jq a):=by
 refine T.sE.ok AL (fun vs H Q E h=>?_) (fun bL A outer s H vs Q E hr h=>?_)
 ·obtain⟨_,_,_,rfl,_⟩:=h
  rfl
 ·obtain⟨M,xs,es,rfl,hM,lI,q⟩:=h
  obtain⟨dx,h1⟩:=hM.ob
  refine⟨_,(ag (aN (i:=1) AL.nd rfl (Or.inl rfl) (bD af)) (ag (bM PassesOwn.never rfl (cG rfl T.cF (aa (bh a9 rfl T.dI dr (aa (a8 (pv 0) rfl) af)) af)) (a7 (i:=2) AL.nd rfl (Or.inl rfl)) aw) aw)),?_⟩
  dsimp! [h1,HO.ins.injEq,T.au,T.br,fg]
  refine fun l hl=>?_
  have s1:=ak.put (o:=.lst []) hl
  have MR:=hM.same s1
  have t7:M.m≤1000:=Nat.le_trans (Nat.le_mul_of_pos_right M.m hM.R.c0) hM.R.sm
  have Q8:(M.bs.map V.ref).length=M.m:=by rw [List.length_map]; exact hM.bl
  refine⟨_,_,_,s1 _ _ h1,T.au,T.br,_,fg _ _,M.lb,rfl,_,.inl (aF.of (s1 _ _ hM.li)),by omega,by omega,?_⟩
  rw [Q8]
  have b0:fP es M.c 0=[]:=by
   unfold fP
   rw [List.filter_eq_nil_iff.mpr fun b _=>by simp]
   rfl
  refine ee (fun i σ H2=>∃(o2:Option V) (L:List Int),σ=[some (.ref M.p),some (.ref l),o2]∧ak H H2∧H2 l=some (.lst (L.map V.int))∧L.Perm (fP es M.c i)∧L.Pairwise (·≤·)) ⟨none,[],rfl,s1,ae,by rw [b0],.nil⟩ ?_ ?_
  ·rintro i σ H2 hi ⟨o2,L,rfl,k2,eM,gh,Ai⟩
   have WN:=hM.same k2
   obtain⟨qo,lA⟩:=WN.ob
   refine gN ?_
   refine a6.of (ah (aV (jh PySem.F.plainAttrs_list PySem.F.slot_list_extend PySem.F.type_list_extend Ds (pv 1) (aa (by exact(aC (pv 0) T.au T.IS (W5 T) (hr.mono (by decide)) T.QM .nil ar (aa (pv 2) af))) af)))) ?_
   have f1:=aW (pr:=M.pr) (lb:=M.lb) (n:="places_in")
   dsimp! [lA,HO.ins.injEq,f1]
   refine⟨.inl ⟨rfl,_,aF.of eM⟩,M,xs,es,i,by simp,WN,hi,lI,fun l3 fb uc ud Uh=>?_⟩
   have hLl:L.length≤64:=by
    rw [gh.length_eq]
    unfold fP
    rw [List.length_map]
    have:=List.length_filter_le (fun b:Nat×List V=>decide (b.1 / M.c < i)) es
    omega
   have hnl:fb.length≤64:=by
    rw [ud.length_eq]
    unfold kG
    rw [List.length_map]
    have:=List.length_filter_le (fun b:Nat×List V=>decide (b.1 / M.c=i)) es
    omega
   refine⟨l,l3,_,_,rfl,rfl,ak.put uc _ _ eM,ae,Nat.le_of_lt (a5 (by simp only [List.length_map]; omega)),?_⟩
   rw [←List.map_append]
   refine⟨fun b o e=>?_,_,ae,(gh.append ud).trans (mL _ _ _).symm,?_⟩
   ·rw [ai (ao e hl)]
    exact ak.put uc b o (k2 b o e)
   ·refine List.pairwise_append.mpr ⟨Ai,Uh,fun x hx y hy=>?_⟩
    have hx2:=gh.mem_iff.mp hx
    have hy2:=ud.mem_iff.mp hy
    unfold fP at hx2
    unfold kG at hy2
    obtain⟨b,hb,rfl⟩:=List.mem_map.mp hx2
    obtain⟨d,hd,rfl⟩:=List.mem_map.mp hy2
    have h5:b.1 / M.c < i:=of_decide_eq_true (List.mem_filter.mp hb).2
    have h6:d.1 / M.c=i:=of_decide_eq_true (List.mem_filter.mp hd).2
    have h7:b.1 < i*M.c:=(Nat.div_lt_iff_lt_mul hM.R.c0).mp h5
    have h8:i*M.c≤d.1:=by
     rw [←h6]
     exact Nat.div_mul_le_self _ _
    omega
  ·rintro σ H2 ⟨o2,L,rfl,k2,eM,gh,Ai⟩
   refine a6.of (ah (aE (pv 1))) ?_
   dsimp! []
   refine q l L H2 k2 hl eM ?_ Ai
   rw [A0 fun b hb=>?_] at gh
   ·exact gh
   ·rw [Nat.div_lt_iff_lt_mul hM.R.c0]
    have h3:=hM.lay.le hb
    have h4:=(hM.lay.one b hb).1
    rw [hM.R.len] at h3
    omega
structure Rw where
 pl:Nat
 cs:List V
 x:V
 e:En
noncomputable def Rw.b (r:Rw):Nat×List V:=(r.pl,r.cs)
structure RM (a:cN) (K:PySem.W.Frag) (H:Hp) (M:MA) (xs:List V) (R:List Rw):Prop where
 mem:cf a H M xs (R.map Rw.b)
 ok:∀r∈R,Cells K H r.cs r.e
theorem RM.same {H H':Hp}{M:MA}{xs:List V}{R:List Rw}(h:RM a K H M xs R) (k:ak H H'):RM a K H' M xs R:=⟨h.mem.same k,fun r hr=>(h.ok r hr).same k⟩
noncomputable def MT (R:List Rw):List Int:=R.map fun r=>(r.pl:Int)
theorem A1 (R:List Rw):D_ (R.map Rw.b)=MT R:=by
 unfold D_ MT
 rw [List.map_map]
 rfl
theorem RM.there {H:Hp}{M:MA}{xs:List V}{R:List Rw}(h:RM a K H M xs R) {r:Rw}(hr:r∈R):c5 a K H M xs (R.map Rw.b) r.pl r.e:=
 ⟨h.mem,r.cs,List.mem_map.mpr ⟨r,hr,rfl⟩,h.ok r hr⟩
noncomputable def Apart (R:List Rw):Prop:=R.Pairwise fun r q=>r.pl≠q.pl
theorem RM.nd {H:Hp}{M:MA}{xs:List V}{R:List Rw}(h:RM a K H M xs R):Apart R:=by
 have h1:=List.pairwise_map.mp h.mem.lay.QX
 refine h1.imp_of_mem fun {r q} hr hq z e=>?_
 have l1:=(h.mem.lay.one _ (List.mem_map.mpr ⟨r,hr,rfl⟩)).1
 have l2:=(h.mem.lay.one _ (List.mem_map.mpr ⟨q,hq,rfl⟩)).1
 dsimp only [Rw.b] at z l1 l2
 omega
theorem cf.afU {a:cN}{S:Addr→Prop}{H H':Hp}{M:MA}{xs:List V}{es:List (Nat×List V)}(h:cf a H M xs es) (k:Kp S H H') (mu:∀b,S b→Mu H b) (n3:¬S M.lb) (n4:∀b,M.own b→¬S b):cf a H' M xs es:=by
 obtain⟨ER,h5⟩:=h.ob
 obtain⟨dx6,h6⟩:=h.R.ob
 refine h.off k (fun z=>?_) (fun z=>?_) n3 n4
 ·rcases mu _ z with ⟨y,e⟩ | ⟨y,e⟩ <;> (rw [e] at h5; cases h5)
 ·rcases mu _ z with ⟨y,e⟩ | ⟨y,e⟩ <;> (rw [e] at h6; cases h6)
theorem cf.gP {H:Hp}{M:MA}{xs:List V}{es:List (Nat×List V)}(h:cf a H M xs es) {b:Addr}(hb:H b=none):¬M.own b:=fun z=>by
 rcases h.mu _ z with ⟨y,e⟩ | ⟨y,e⟩ <;> (rw [e] at hb; cases hb)
theorem CU {l m:List Int}(h:l.Perm m) (h1:l.Pairwise (·≤·)) (h2:m.Pairwise (·≤·)):l=m:=List.Perm.eq_of_pairwise (fun x y _ _ h1 h2=>Int.le_antisymm h1 h2) h1 h2 h
theorem dn (ns:List Int):∀x∈ns.map V.int,fF x=true:=fun x hx=>by
 obtain⟨z,_,rfl⟩:=List.mem_map.mp hx
 rfl
theorem zo (ns:List Int):bw (D.lst ((ns.map V.int).map fD)) (D.lst (([]:List V).map fD))=ns.isEmpty:=by
 cases ns <;> simp [bw,iY]
theorem pD (ns:List Int):(D.lst ((ns.map V.int).map fD)).dep≤60:=by
 rw [D.dep,iP]
 decide
noncomputable def Rw.v (r:Rw):Nat×En:=(r.pl,r.e)
noncomputable def TM (a:cN) (K:PySem.W.Frag) (H:Hp) (M:MA) (E:List (Nat×En)):Prop:=∃xs R,RM a K H M xs R∧R.map Rw.v=E
theorem TM.same {H H':Hp}{M:MA}{E:List (Nat×En)}(h:TM a K H M E) (k:ak H H'):TM a K H' M E:=by
 obtain⟨xs,R,h1,h2⟩:=h
 exact⟨xs,R,h1.same k,h2⟩
theorem TM.mu {H:Hp}{M:MA}{E:List (Nat×En)}(h:TM a K H M E):∀b,M.own b→Mu H b:=by
 obtain⟨xs,R,h1,h2⟩:=h
 exact h1.mem.mu
theorem TM.ob {H:Hp}{M:MA}{E:List (Nat×En)}(h:TM a K H M E):∃dx,H M.p=some (.ins a.aY dx (Q9 M.pr M.lb)):=by
 obtain⟨xs,R,h1,h2⟩:=h
 exact h1.mem.ob
theorem TM.lb {H:Hp}{M:MA}{E:List (Nat×En)}(h:TM a K H M E):H M.lb=some (.lst (M.bs.map V.ref)):=by
 obtain⟨xs,R,h1,h2⟩:=h
 exact h1.mem.li
theorem TM.gP {H:Hp}{M:MA}{E:List (Nat×En)}(h:TM a K H M E) {b:Addr}(hb:H b=none):¬M.own b:=by
 obtain⟨xs,R,h1,h2⟩:=h
 exact h1.mem.gP hb
theorem TM.off {S:Addr→Prop}{H H':Hp}{M:MA}{E:List (Nat×En)}(h:TM a K H M E) (k:Kp S H H') (mu:∀b,S b→Mu H b) (n3:¬S M.lb) (n4:∀b,M.own b→¬S b):TM a K H' M E:=by
 obtain⟨xs,R,h1,h2⟩:=h
 exact⟨xs,R,⟨h1.mem.afU k mu n3 n4,fun r hr=>(h1.ok r hr).kp k mu⟩,h2⟩
theorem TM.there {H:Hp}{M:MA}{E:List (Nat×En)}(h:TM a K H M E) {p:Nat}{e:En}(hp:(p,e)∈E):∃xs es,c5 a K H M xs es p e:=by
 obtain⟨xs,R,h1,rfl⟩:=h
 obtain⟨r,hr,e1⟩:=List.mem_map.mp hp
 cases e1
 exact⟨xs,_,h1.there hr⟩
noncomputable def zp (E:List (Nat×En)):Prop:=E.Pairwise fun p q=>p.1≠q.1
theorem TM.nd {H:Hp}{M:MA}{E:List (Nat×En)}(h:TM a K H M E):zp E:=by
 obtain⟨xs,R,h1,rfl⟩:=h
 exact List.pairwise_map.mpr h1.nd
theorem zp.same {E:List (Nat×En)}(h:zp E) {p q:Nat×En}(hp:p∈E) (hq:q∈E) (e:p.1=q.1):p=q:=by
 obtain⟨i,hi,rfl⟩:=List.mem_iff_getElem.mp hp
 obtain⟨j,hj,rfl⟩:=List.mem_iff_getElem.mp hq
 rcases Nat.lt_trichotomy i j with z | z | z
 ·exact absurd e (List.pairwise_iff_getElem.mp h i j hi hj z)
 ·subst z
  rfl
 ·exact absurd e.symm (List.pairwise_iff_getElem.mp h j i hj hi z)
noncomputable def dA (E:List (Nat×En)) (pl:Nat) (e':En):List (Nat×En):=E.map fun p=>if p.1=pl then(pl,e')else p
theorem RM.set {H H':Hp}{M:MA}{xs vv:List V}{R:List Rw}{pl:Nat}{uh:List V}{e':En}(h:RM a K H M xs R) (k:Kp (·=M.d) H H') (hM:cf a H' M vv (fz (R.map Rw.b) pl uh)) (hc:Cells K H' uh e'):TM a K H' M (dA (R.map Rw.v) pl e'):=by
 have mu0:∀b,b=M.d→Mu H b:=fun b e=>.inl ⟨xs,by rw [e]; exact h.mem.R.li⟩
 refine⟨vv,R.map fun r=>if r.pl=pl then⟨pl,uh,r.x,e'⟩else r,⟨?_,fun r hr=>?_⟩,?_⟩
 ·have e1:(R.map fun r=>if r.pl=pl then(⟨pl,uh,r.x,e'⟩:Rw)else r).map Rw.b=fz (R.map Rw.b) pl uh:=by
   unfold fz
   rw [List.map_map,List.map_map]
   refine List.map_congr_left fun r _=>?_
   show Rw.b (if r.pl=pl then⟨pl,uh,r.x,e'⟩else r)=(if r.b.1=pl then(pl,uh)else r.b)
   by_cases z:r.pl=pl
   ·rw [if_pos z,if_pos (show r.b.1=pl from z)]
    rfl
   ·rw [if_neg z,if_neg (show ¬r.b.1=pl from z)]
  rw [e1]
  exact hM
 ·obtain⟨q,hq,rfl⟩:=List.mem_map.mp hr
  by_cases e:q.pl=pl
  ·rw [if_pos e]
   exact hc
  ·rw [if_neg e]
   exact(h.ok q hq).kp k mu0
 ·unfold dA
  rw [List.map_map,List.map_map]
  refine List.map_congr_left fun r _=>?_
  show Rw.v (if r.pl=pl then⟨pl,uh,r.x,e'⟩else r)=(if r.v.1=pl then(pl,e')else r.v)
  by_cases z:r.pl=pl
  ·rw [if_pos z,if_pos (show r.v.1=pl from z)]
   rfl
  ·rw [if_neg z,if_neg (show ¬r.v.1=pl from z)]
theorem RM.more {H H':Hp}{M:MA}{xs vv:List V}{R:List Rw}{g:Nat}{cs:List V}{e:En}(h:RM a K H M xs R) (k:Kp M.own H H') (hM:cf a H' M vv (R.map Rw.b++[(g,cs)])) (hc:Cells K H' cs e):TM a K H' M (R.map Rw.v++[(g,e)]):=by
 refine⟨vv,R++[⟨g,cs,.bf,e⟩],⟨by rw [List.map_append]; exact hM,fun r hr=>?_⟩,by rw [List.map_append]; rfl⟩
 rcases List.mem_append.mp hr with hr | hr
 ·exact(h.ok r hr).kp k h.mem.mu
 ·rw [List.mem_singleton.mp hr]
  exact hc
noncomputable def Vl.na:Vl→Option Int
 | .th n=>some n
 | _=>none
noncomputable def Tg.hold:Tg→List Int
 | .plain fs _=>fs.filterMap Vl.na
 | _=>[]
theorem Rg:∀fs:List Vl,fs.filterMap Vl.nm=(fs.filterMap Vl.na).map V.int
 | []=>rfl
 | v::fs=>by
  rw [List.filterMap_cons,List.filterMap_cons,Rg fs]
  cases v <;> rfl
noncomputable def pE:Sp:=fun vs H Q _=>∃p,vs=[.ref p]∧∀r,H r=none→Q (.ref r) (upd H r (.lst []))
theorem Jr (T:Txt K mg a):aU P w K mg base cC 1 a.rM a.wG ["self"] pE:=by
 refine T.oJ.ok UZ (fun vs H Q E h=>?_) (fun bL A outer s H vs Q E hr h=>?_)
 ·obtain⟨_,rfl,_⟩:=h
  rfl
 ·obtain⟨p,rfl,q⟩:=h
  refine⟨_,(ah (aE (bD af))),?_⟩
  dsimp! []
  exact q
noncomputable def A2 (a:cN) (K:PySem.W.Frag):Sp:=fun vs H Q _=>∃p d fs w,vs=[.ref p]∧gc a K H p d (.plain fs w)∧∀r,H r=none→Q (.ref r) (upd H r (.lst ((fs.filterMap Vl.na).map V.int)))
theorem W6 (T:Txt K mg a):aU P w K mg base cC 4 a.wL a.wM ["self"] (A2 a K):=by
 refine T.rR.ok U6 (fun vs H Q E h=>?_) (fun bL A outer s H vs Q E hr h=>?_)
 ·obtain⟨_,_,_,_,rfl,_⟩:=h
  rfl
 ·obtain⟨p,d,fs,w,rfl,⟨⟨dx,h1⟩,xs,h2,h3,h4⟩,q⟩:=h
  refine⟨_,(ah (aE (aD (t_ T) (hr.mono (by decide)) rfl T.yY T.jj.kp T.yX .nil ar (aa (a8 (pv 0) rfl) af)))),?_⟩
  have Jm:H p=some (.ins a.ax dx (Ll d w)):=h1
  have f2:(Ll d w).lookup ("parts":Str)=some (.ref d):=(Tg.plain fs w).parts d
  dsimp! [Jm,HO.ins.injEq,T.aK,T.bH,f2]
  refine⟨d,xs,fs,rfl,aF.of h2,h4,h3.1,h3.2,fun r hr=>?_⟩
  rw [Rg]
  exact q r hr
theorem Ea (t:Tg) {p d:Addr}{H:Hp}{Q:VK}{E:XK}(h:gc a K H p d t) (q:∀r,H r=none→Q (.ref r) (upd H r (.lst (t.hold.map V.int)))):∃sp,(t.cls a,sp)∈[(a.aZ,pE),(a.ax,A2 a K),(a.az,pE)]∧sp [.ref p] H Q E:=by
 cases t with
 | plain fs w=>exact⟨_,.tail _ (.head _),p,d,fs,w,rfl,h,q⟩
 | weak f=>exact⟨_,.head _,p,rfl,q⟩
 | pair k v=>exact⟨_,.tail _ (.tail _ (.head _)),p,rfl,q⟩
noncomputable def W7 (m g:Addr):List (Str×V):=cK "grey_places" (.ref g) (cK "memory" (.ref m) [])
theorem afV:¬(("memory":Str)="grey_places"):=by decide +kernel
theorem cB (m g:Addr):(W7 m g).lookup ("memory":Str)=some (.ref m):=by
 unfold W7
 rw [aI,if_neg afV,aI,if_pos rfl]
theorem kI (m g:Addr):(W7 m g).lookup ("grey_places":Str)=some (.ref g):=by
 unfold W7
 rw [aI,if_pos rfl]
theorem cV {m g:Addr}{n:Str}(h1:¬n="grey_places":=by decide +kernel) (h2:¬n="memory":=by decide +kernel):(W7 m g).lookup n=none:=by
 unfold W7
 rw [aI,if_neg h1,aI,if_neg h2]
 all_goals rfl
noncomputable def gk (G:List Nat):List (Key×V):=G.map fun(p:Nat)=>((Sum.inl (p:Int):Key),V.bl true)
theorem Rh {G:List Nat}{p:Nat}(h:p∉G):dZ (gk G) (Sum.inl (p:Int))=none:=by
 cases e:dZ (gk G) (Sum.inl (p:Int))with
 | none=>rfl
 | some v=>
  obtain⟨kv,hkv,e1⟩:=List.mem_map.mp (Mx e)
  obtain⟨q,hq,rfl⟩:=List.mem_map.mp hkv
  have:(q:Int)=(p:Int):=Sum.inl.inj e1
  have e2:q=p:=by omega
  subst e2
  exact absurd hq h
theorem W8 {G:List Nat}{p:Nat}:(dZ (gk G) (Sum.inl (p:Int))).isSome=decide (p∈G):=by
 by_cases h:p∈G
 ·rw [decide_eq_true h,←f9,List.any_eq_true]
  exact⟨_,List.mem_map.mpr ⟨p,h,rfl⟩,decide_eq_true rfl⟩
 ·rw [decide_eq_false h,Rh h]
  rfl
theorem MU (G:List Nat):gb (gk G)=(G.map fun(p:Nat)=>(p:Int)).map V.int:=by
 unfold gb gk
 rw [List.map_map,List.map_map]
 rfl
theorem MV {p:Nat}{G:List Nat}(h:p∉G):kg (gk (p::G)) (Sum.inl (p:Int))=gk G:=by
 unfold kg gk
 rw [List.map_cons,List.filter_cons,if_neg (by simp)]
 refine List.filter_eq_self.mpr fun x hx=>?_
 obtain⟨q,hq,rfl⟩:=List.mem_map.mp hx
 refine decide_eq_true fun z=>?_
 have:(q:Int)=(p:Int):=Sum.inl.inj z
 have e2:q=p:=by omega
 subst e2
 exact h hq
theorem uj {α:Type} [DecidableEq α]:∀{l m:List α},l.Nodup→(∀x∈l,x∈m)→l.length≤m.length
 | [],_,_,_=>Nat.zero_le _
 | x::l,m,h,s=>by
  obtain⟨h1,h2⟩:=List.nodup_cons.mp h
  have hx:=s x List.mem_cons_self
  have:=uj (m:=m.erase x) h2 fun y hy=>(List.mem_erase_of_ne (fun z=>h1 (by rw [←z]; exact hy))).mpr (s y (List.mem_cons_of_mem _ hy))
  rw [List.length_erase_of_mem hx] at this
  have:=List.length_pos_of_mem hx
  rw [List.length_cons]
  omega
structure MS (a:cN) (K:PySem.W.Frag) (H:Hp) (M:MA) (k gd:Addr) (E:List (Nat×En)) (G:List Nat):Prop where
 tm:TM a K H M E
 ob:∃dx,H k=some (.ins a.bq dx (W7 M.p gd))
 di:H gd=some (.dK (gk G))
 no:¬M.own gd
 gm:∀p∈G,∃e,(p,e)∈E∧e.bR=true
 nd:G.Nodup
theorem MS.same {H H':Hp}{M:MA}{k gd:Addr}{E:List (Nat×En)}{G:List Nat}(h:MS a K H M k gd E G) (s:ak H H'):MS a K H' M k gd E G:=by
 obtain⟨dx,h1⟩:=h.ob
 exact⟨h.tm.same s,⟨dx,s _ _ h1⟩,s _ _ h.di,h.no,h.gm,h.nd⟩
theorem MS.lst {H H':Hp}{M:MA}{k gd l:Addr}{xs:List V}{E:List (Nat×En)}{G:List Nat}(h:MS a K H M k gd E G) (s:Kp (·=l) H H') (hl:H l=some (.lst xs)) (n1:¬M.own l) (n2:M.lb≠l):MS a K H' M k gd E G:=by
 obtain⟨dx,h1⟩:=h.ob
 exact⟨h.tm.off s (fun b e=>.inl ⟨xs,by rw [e]; exact hl⟩) n2 fun b hb z=>n1 (z▸hb),⟨dx,s _ _ (cu h1 hl (by intro z; cases z)) h1⟩,s _ _ (cu h.di hl (by intro z; cases z)) h.di,h.no,h.gm,h.nd⟩
theorem MS.afW {H:Hp}{M:MA}{k gd:Addr}{E:List (Nat×En)}{G:List Nat}(h:MS a K H M k gd E G):G.length≤E.length:=by
 have:=uj (m:=E.map (·.1)) h.nd fun p hp=>by
  obtain⟨e,he,_⟩:=h.gm p hp
  exact List.mem_map.mpr ⟨_,he,rfl⟩
 rwa [List.length_map] at this
noncomputable def cJ (E:List (Nat×En)) (pl:Nat):Bool:=E.any fun p=>decide (p.1=pl)&&p.2.bR
noncomputable def setM (E:List (Nat×En)) (pl:Nat):List (Nat×En):=E.map fun p=>if p.1=pl then(p.1,⟨p.2.t,p.2.bJ,true⟩)else p
noncomputable def gj (S:List (Nat×En)×List Nat) (pl:Nat):List (Nat×En)×List Nat:=if cJ S.1 pl=true then S else(setM S.1 pl,S.2++[pl])
theorem zp.mk {E:List (Nat×En)}(h:zp E) {p:Nat}{e:En}(he:(p,e)∈E):cJ E p=e.bR:=by
 rw [Bool.eq_iff_iff]
 unfold cJ
 rw [List.any_eq_true]
 constructor
 ·rintro⟨q,hq,z⟩
  rw [Bool.and_eq_true] at z
  have:=h.same hq he (of_decide_eq_true z.1)
  subst this
  exact z.2
 ·intro z
  exact⟨_,he,by rw [decide_eq_true rfl,z]; rfl⟩
theorem Js (E:List (Nat×En)) (pl:Nat):(setM E pl).map (·.1)=E.map (·.1):=by
 unfold setM
 rw [List.map_map]
 refine List.map_congr_left fun p _=>?_
 show(if p.1=pl then(p.1,(⟨p.2.t,p.2.bJ,true⟩:En))else p).1=p.1
 split <;> rfl
theorem MW (S:List (Nat×En)×List Nat) (pl:Nat):(gj S pl).1.map (·.1)=S.1.map (·.1):=by
 unfold gj
 split
 ·rfl
 ·exact Js _ _
theorem zq:∀(ps:List Nat) (S:List (Nat×En)×List Nat),(ps.foldl gj S).1.map (·.1)=S.1.map (·.1)
 | [],_=>rfl
 | p::ps,S=>by
  rw [List.foldl_cons,zq ps,MW]
theorem zr {E:List (Nat×En)}(h:zp E) {p:Nat}{e:En}(he:(p,e)∈E):dA E p ⟨e.t,e.bJ,true⟩=setM E p:=by
 unfold dA setM
 refine List.map_congr_left fun q hq=>?_
 by_cases z:q.1=p
 ·have:=h.same hq he z
  subst this
  simp
 ·rw [if_neg z,if_neg z]
noncomputable def aau (a:cN) (K:PySem.W.Frag):Sp:=fun vs H Q _=>∃p dx M E H0,vs=[.ref p,.ref M.p]∧H p=some (.ins a.bq dx [])∧ak H0 H∧H0 p=none∧TM a K H0 M E∧∀gd H',eX p H H'→H gd=none→MS a K H' M p gd E []→Q .bf H'
theorem aav (T:Txt K mg a):aU P w K mg base cC 1 a.HC a.HD ["self","memory"] (aau a K):=by
 refine T.DL.ok aai (fun vs H Q E h=>?_) (fun bL A outer s H vs Q E hr h=>?_)
 ·obtain⟨_,_,_,_,_,rfl,_⟩:=h
  rfl
 ·obtain⟨p,dx,M,E,H0,rfl,h1,s0,ZQ,hT,q⟩:=h
  refine⟨_,(ag (fM (pv 0) (pv 1) rfl) (ah (fM (pv 0) we rfl))),?_⟩
  dsimp! [h1,HO.ins.injEq,T.aB,T.aM,T.aS]
  refine⟨by decide,fun gd W9=>?_⟩
  have ngp:gd≠p:=fun z=>by rw [z,ae] at W9; cases W9
  have W_:H gd=none:=by rw [ai ngp] at W9; exact W9
  refine⟨_,dx,_,by rw [ai ngp.symm]; exact ae,T.aB,T.aS,Nat.lt_of_le_of_lt (bZ _ _ _) (by decide),?_⟩
  have k1:eX p H (upd (upd (upd H p (.ins a.bq dx (cK "memory" (.ref M.p) []))) gd (.dK [])) p (.ins a.bq dx (cK "grey_places" (.ref gd) (cK "memory" (.ref M.p) [])))):=fun b u n e=>by
   rw [ai n,ai (ao e W_),ai n]
   exact e
  refine q gd _ k1 W_ ⟨hT.same fun b u e=>k1 b u (ao e ZQ) (s0 b u e),⟨dx,ae⟩,by rw [ai ngp,ae]; rfl,hT.gP (s0.free W_),fun p hp=>(nomatch hp),List.nodup_nil⟩
noncomputable def aaw (a:cN) (K:PySem.W.Frag):Sp:=fun vs H Q _=>∃M k gd E G pl,vs=[.ref k,.int (pl:Nat)]∧MS a K H M k gd E G∧pl∈E.map (·.1)∧E.length≤900 ∧
 ∀H',Kp (fun b=>M.own b∨b=gd) H H'→MS a K H' M k gd (gj (E,G) pl).1 (gj (E,G) pl).2→Q .bf H'
theorem Jt (T:Txt K mg a):aU P w K mg base cC 4 a.HE a.HF ["self","place"] (aaw a K):=by
 refine T.DM.ok aaj (fun vs H Q E h=>?_) (fun bL A outer s H vs Q E hr h=>?_)
 ·obtain⟨_,_,_,_,_,_,rfl,_⟩:=h
  rfl
 ·obtain⟨M,k,gd,E,G,pl,rfl,h,jX,Eb,q⟩:=h
  refine⟨_,(ah (cO (EZ (dU (aC (a8 (pv 0) rfl) T.au T.gB (ip T) (hr.mono (by decide)) T.ky .nil ar (aa (pv 1) af)))) (ag (aV (aC (a8 (pv 0) rfl) T.au T.IP (W0 T) (hr.mono (by decide)) T.QK .nil ar (aa (pv 1) (aa gM af)))) (ah (Ct (Fs hr) (a8 (pv 0) rfl) (pv 1) gM rfl))) bB)),?_⟩
  obtain⟨dx,h1⟩:=h.ob
  obtain⟨qo,h2⟩:=h.tm.ob
  have f1:=aW (pr:=M.pr) (lb:=M.lb) (n:="marked_at")
  have f2:=aW (pr:=M.pr) (lb:=M.lb) (n:="set_mark")
  dsimp! [h1,h2,HO.ins.injEq,T.aB,T.aM,cB,f1]
  obtain⟨⟨_,e⟩,he,rfl⟩:=List.mem_map.mp jX
  have hA:=h.tm.nd
  have zt:=hA.mk he
  have hgl:=h.afW
  obtain⟨xs,R,hR,eR⟩:=id h.tm
  subst eR
  obtain⟨r,nQ,er⟩:=List.mem_map.mp he
  cases er
  have iq:=hR.there nQ
  refine⟨M,xs,_,r.pl,r.e,rfl,iq,_,rfl,?_⟩
  cases em:r.e.bR with
  | true=>
   refine dH ?_
   have e1:gj (R.map Rw.v,G) r.pl=(R.map Rw.v,G):=by
    unfold gj
    rw [if_pos (by dsimp only at zt ⊢; rw [zt]; exact em)]
   dsimp only at q
   rw [e1] at q
   exact q H (Kp.refl _ _) h
  | false=>
   have hnG:r.pl∉G:=fun z=>by
    obtain⟨e2,FG,eN⟩:=h.gm _ z
    have:=hA.same FG he rfl
    rw [Prod.mk.injEq] at this
    rw [this.2,em] at eN
    cases eN
   have e1:gj (R.map Rw.v,G) r.pl=(setM (R.map Rw.v) r.pl,G++[r.pl]):=by
    unfold gj
    rw [if_neg (by dsimp only at zt ⊢; rw [zt,em]; exact Bool.false_ne_true)]
   dsimp only at q
   rw [e1] at q
   refine e9 ⟨_,_,_,h1,T.aB,T.aM,_,cB _ _,_,rfl,_,_,h2,f2,M,xs,_,r.pl,r.e,true,rfl,iq,fun H1 Y1 cs1 k1 MR W3=>?_⟩
   have pC:=hR.set k1 MR W3
   rw [zr hA he] at pC
   have WI:=k1 _ _ (fun z=>h.no (.inl z)) h.di
   have Q_:=k1 _ _ (cu h1 hR.mem.R.li (by intro z; cases z)) h1
   refine⟨_,_,_,Q_,T.aB,T.aS,_,kI _ _,_,rfl,_,Dy.k (k:=Sum.inl (r.pl:Int)) WI (a5 (by unfold gk; rw [List.length_map]; omega)),?_⟩
   rw [wa _ (Rh hnG)]
   have eg:gk G++[((Sum.inl (r.pl:Int):Key),V.bl true)]=gk (G++[r.pl]):=by
    unfold gk
    rw [List.map_append]
    rfl
   rw [eg]
   have k2:Kp (·=gd) H1 (upd H1 gd (.dK (gk (G++[r.pl])))):=(Kp.refl _ _).set rfl
   refine q _ ((k1.mono fun b z=>.inl (.inl z)).trans (k2.mono fun b z=>.inr z)) ⟨pC.off k2 (fun b e=>.inr ⟨gk G,by rw [e]; exact WI⟩) (fun z=>?_) (fun b hb z=>h.no (z▸hb)),⟨dx,k2 _ _ (cu Q_ WI (by intro z; cases z)) Q_⟩,ae,h.no,fun p hp=>?_,?_⟩
   ·have:=pC.lb
    rw [show M.lb=gd from z,WI] at this
    cases this
   ·have aax:∀q∈R.map Rw.v,q.2.bR=true∨q.1=r.pl→∃e,(q.1,e)∈setM (R.map Rw.v) r.pl∧e.bR=true:=fun q hq hm=>by
     by_cases z:q.1=r.pl
     ·exact⟨⟨q.2.t,q.2.bJ,true⟩,List.mem_map.mpr ⟨q,hq,by rw [if_pos z]⟩,rfl⟩
     ·exact⟨q.2,List.mem_map.mpr ⟨q,hq,by rw [if_neg z]⟩,hm.resolve_right z⟩
    rcases List.mem_append.mp hp with hp | hp
    ·obtain⟨e2,FG,eN⟩:=h.gm p hp
     exact aax (p,e2) FG (.inl eN)
    ·rw [List.mem_singleton.mp hp]
     exact aax (r.pl,r.e) he (.inr rfl)
   ·exact nU h.nd hnG
noncomputable def aay (a:cN) (K:PySem.W.Frag):Sp:=fun vs H Q _=>∃M k gd E G l,∃ps:List Nat,vs=[.ref k,.ref l]∧MS a K H M k gd E G∧H l=some (.lst ((ps.map fun(p:Nat)=>(p:Int)).map V.int))∧¬M.own l∧(∀p∈ps,p∈E.map (·.1))∧E.length≤900 ∧
 ∀H',Kp (fun b=>M.own b∨b=gd) H H'→MS a K H' M k gd (ps.foldl gj (E,G)).1 (ps.foldl gj (E,G)).2→Q .bf H'
theorem Ri (T:Txt K mg a):aU P w K mg base cC 5 a.HG a.HH ["self","places"] (aay a K):=by
 refine T.DN.ok P1 (fun vs H Q E h=>?_) (fun bL A outer s H vs Q E hr h=>?_)
 ·obtain⟨_,_,_,_,_,_,_,rfl,_⟩:=h
  rfl
 ·obtain⟨M,k,gd,E,G,l,ps,rfl,h,hl,nl,hps,Eb,q⟩:=h
  refine⟨_,(ah (bM PassesOwn.never rfl (bg (pv 1)) (a7 (i:=2) P1.nd rfl (Or.inl rfl)) aw)),?_⟩
  dsimp! []
  have Xa:l≠gd:=cu hl h.di (by intro z; cases z)
  refine⟨⟨_,aF.of hl⟩,dw ((ps.map fun(p:Nat)=>(p:Int)).map V.int) (fun i σ H1=>∃o2:Option V,σ=[some (.ref k),some (.ref l),o2]∧Kp (fun b=>M.own b∨b=gd) H H1∧H1 l=some (.lst ((ps.map fun(p:Nat)=>(p:Int)).map V.int))∧MS a K H1 M k gd ((ps.take i).foldl gj (E,G)).1 ((ps.take i).foldl gj (E,G)).2) ⟨none,rfl,Kp.refl _ _,hl,h⟩ ?_ ?_ ?_⟩
  ·rintro i σ H1 _ ⟨o2,rfl,_,d_,_⟩
   exact aF.of d_
  ·rintro i x σ H1 hx ⟨o2,rfl,k1,d_,h1⟩
   obtain⟨p,hp,rfl⟩:∃p,ps[i]?=some p∧x=V.int (p:Nat):=by
    rw [List.getElem?_map,List.getElem?_map] at hx
    cases e:ps[i]? with
    | none=>rw [e] at hx; cases hx
    | some w=>rw [e] at hx; cases hx; exact⟨w,rfl,rfl⟩
   obtain⟨dx,hk⟩:=h1.ob
   have f1:=cV (m:=M.p) (g:=gd) (n:="shade")
   refine gN ?_
   refine a6.of (ah (aV (aC (pv 0) T.aB T.CD (Jt T) (hr.mono (by decide)) T.ME .nil ar (aa (pv 2) af)))) ?_
   dsimp! [hk,HO.ins.injEq,f1]
   have efs:=zq (ps.take i) (E,G)
   refine⟨M,k,gd,_,_,p,rfl,h1,by rw [efs]; exact hps p (List.mem_of_getElem? hp),?_,fun H2 k2 h2=>⟨k1.trans k2,k2 _ _ (fun z=>?_) d_,?_⟩⟩
   ·have:=congrArg List.length efs
    rw [List.length_map,List.length_map] at this
    rw [this]
    exact Eb
   ·rcases z with z | z
    ·exact nl z
    ·exact Xa z
   ·rw [List.take_add_one,hp,List.foldl_append]
    exact h2
  ·rintro σ H1 ⟨o2,rfl,k1,d_,h1⟩
   rw [List.length_map,List.length_map,List.take_length] at h1
   exact q H1 k1 h1
noncomputable def aaz (a:cN) (K:PySem.W.Frag):Sp:=fun vs H Q _=>∃M k gd E G,vs=[.ref k]∧MS a K H M k gd E G∧∀l,H l=none→Q (.ref l) (upd H l (.lst ((G.map fun(p:Nat)=>(p:Int)).map V.int)))
theorem Ju (T:Txt K mg a):aU P w K mg base cC 1 a.HV a.HW ["self"] (aaz a K):=by
 refine T.DT.ok aam (fun vs H Q E h=>?_) (fun bL A outer s H vs Q E hr h=>?_)
 ·obtain⟨_,_,_,_,_,rfl,_⟩:=h
  rfl
 ·obtain⟨M,k,gd,E,G,rfl,h,q⟩:=h
  refine⟨_,(ah (aE (dX (AD rfl) rfl T.ie kb (aa (a8 (pv 0) rfl) af)))),?_⟩
  obtain⟨dx,h1⟩:=h.ob
  dsimp! [h1,HO.ins.injEq,T.aB,T.aS,kI]
  refine⟨_,.inl h.di,fun l hl=>?_⟩
  rw [MU]
  exact q l hl
noncomputable def Xb (a:cN) (K:PySem.W.Frag):Sp:=fun vs H Q _=>∃M k gd E G p e,∃hn:List Nat,vs=[.ref k]∧MS a K H M k gd E (p::G)∧(p,e)∈E∧e.t.hold=List.map (fun(n:Nat)=>(n:Int)) hn∧(∀n∈hn,n∈E.map (·.1))∧E.length≤900 ∧
 ∀H',Kp (fun b=>M.own b∨b=gd) H H'→MS a K H' M k gd (hn.foldl gj (E,G)).1 (hn.foldl gj (E,G)).2→Q (.int (p:Nat)) H'
theorem Jv (T:Txt K mg a):aU P w K mg base cC 11 a.xp a.xq ["self"] (Xb a K):=by
 refine T.rW.ok Hy (fun vs H Q E h=>?_) (fun bL A outer s H vs Q E hr h=>?_)
 ·obtain⟨_,_,_,_,_,_,_,_,rfl,_⟩:=h
  rfl
 ·obtain⟨M,k,gd,E,G,p,e,hn,rfl,h,he,aaA,jq,Eb,q⟩:=h
  refine⟨_,(ag (aN (i:=1) Hy.nd rfl (Or.inl rfl) (aG ay (bT (pv 0) T.aB T.CF (Ju T) (hr.mono (by decide)) T.MF .nil ar) aq (fun _ _=>rfl))) (ag (aV (FV (a8 (pv 0) rfl) (pv 1) ⟨rfl,rfl,rfl,rfl⟩)) (ag (aV (aC (pv 0) T.aB T.Il (Ri T) (hr.mono (by decide)) T.VJ .nil ar (aa (bQ (L:=[(a.aZ,pE),(a.ax,A2 a K),(a.az,pE)]) (aC (a8 (pv 0) rfl) T.au T.ia (jD T) (hr.mono (by decide)) T.mE .nil ar (aa (pv 1) af)) (List.forall_mem_cons.mpr ⟨⟨_,_,_,_,T.bO,T.HZ,Jr T,hr.mono (by decide),T.HY⟩,List.forall_mem_cons.mpr ⟨⟨_,_,_,_,T.aK,T.Ib,W6 T,hr.mono (by decide),T.Qa⟩,List.forall_mem_cons.mpr ⟨⟨_,_,_,_,T.aR,T.fc,Jr T,hr.mono (by decide),T.HY⟩,List.forall_mem_nil _⟩⟩⟩) .nil ar) af))) (ah (aE (pv 1)))))),?_⟩
  obtain⟨dx,h1⟩:=h.ob
  have f1:=cV (m:=M.p) (g:=gd) (n:="grey")
  dsimp! [h1,HO.ins.injEq,f1]
  refine⟨M,k,gd,E,_,rfl,h,fun l hl=>⟨l,_,_,V.int (p:Nat),rfl,rfl,aF.of ae,bp (j:=0) rfl,?_⟩⟩
  have s2:=ak.put (o:=.lst (((p::G).map fun(p:Nat)=>(p:Int)).map V.int)) hl
  have h2:=h.same s2
  have lA:=s2 _ _ h1
  generalize upd H l (.lst (((p::G).map fun(p:Nat)=>(p:Int)).map V.int))=H2 at s2 h2 lA
  have hpG:p∉G:=(List.nodup_cons.mp h.nd).1
  obtain⟨v,hv⟩:∃v,dZ (gk (p::G)) (Sum.inl (p:Int))=some v:=Option.isSome_iff_exists.mp (by rw [W8]; simp)
  refine⟨_,_,_,lA,T.aB,T.aS,_,kI _ _,_,rfl,.inl ⟨_,.inl h2.di⟩,_,h2.di,Sum.inl (p:Int),rfl,v,hv,?_⟩
  rw [MV hpG]
  have k3:Kp (·=gd) H2 (upd H2 gd (.dK (gk G))):=(Kp.refl _ _).set rfl
  have h3:MS a K (upd H2 gd (.dK (gk G))) M k gd E G:=⟨h2.tm.off k3 (fun b e=>.inr ⟨gk (p::G),by rw [e]; exact h2.di⟩) (fun z=>by
   have:=h2.tm.lb
   rw [show M.lb=gd from z,h2.di] at this
   cases this) (fun b hb z=>h.no (z▸hb)),⟨dx,k3 _ _ (cu lA h2.di (by intro z; cases z)) lA⟩,ae,h.no,fun q hq=>h.gm q (List.mem_cons_of_mem _ hq),(List.nodup_cons.mp h.nd).2⟩
  generalize upd H2 gd (.dK (gk G))=H3 at k3 h3
  obtain⟨dx3,ET⟩:=h3.ob
  obtain⟨Y4,hM3⟩:=h3.tm.ob
  obtain⟨xs,es,iq⟩:=h3.tm.there he
  have k03:Kp (fun b=>M.own b∨b=gd) H H3:=(ak.kp s2).trans (k3.mono fun b z=>.inr z)
  refine⟨_,_,ET,cV,_,_,_,ET,T.aB,T.aM,_,cB _ _,_,rfl,_,_,hM3,aW,M,xs,es,p,e,rfl,iq,fun tp td H4 s4 Ln Xc lB=>?_⟩
  obtain⟨ER,A3⟩:=lB.ob
  refine⟨tp,rfl,_,_,_,A3,e.t.no td,Ea e.t lB fun r Rj=>?_⟩
  have s5:=ak.put (o:=.lst (e.t.hold.map V.int)) Rj
  have h5:=h3.same (s4.trans s5)
  have Rf:H3 r=none:=s4.free Rj
  refine⟨M,k,gd,E,G,r,hn,rfl,h5,by rw [←aaA]; exact ae,h3.tm.gP Rf,jq,Eb,fun H6 k6 h6=>?_⟩
  exact q H6 ((k03.trans (ak.kp (s4.trans s5))).trans k6) h6
theorem eC.snoc {H:Hp}{xs:List V}{vl:List Vl}{x:V}{v:Vl}(h:eC K H xs vl) (hx:c_ K H x v):eC K H (xs++[x]) (vl++[v]):=⟨by simp [h.1],fun i y u a b=>by
 have hl:=h.1
 by_cases hi:i < xs.length
 ·rw [List.getElem?_append_left hi] at a
  rw [List.getElem?_append_left (by omega)] at b
  exact h.2 i y u a b
 ·have e:i=xs.length:=by
   have:=(List.getElem?_eq_some_iff.mp a).1
   simp at this
   omega
  subst e
  rw [List.getElem?_append_right (Nat.le_refl _),Nat.sub_self] at a
  rw [←hl,List.getElem?_append_right (Nat.le_refl _),Nat.sub_self] at b
  cases a
  cases b
  exact hx⟩
noncomputable def Xd:Sp:=fun vs H Q _=>∃c,vs=[.int c]∧∀z,Q (.int z) H
theorem Xe (T:Txt K mg a):aU P w K mg base cC 1 a.yJ a.yK ["_law_cell"] Xd:=by
 refine T.ph.ok tV (fun vs H Q E h=>?_) (fun bL A outer s H vs Q E hr h=>?_)
 ·obtain⟨_,rfl,_⟩:=h
  rfl
 ·obtain⟨c,rfl,q⟩:=h
  refine⟨_,(ag (aN (i:=1) tV.nd rfl (Or.inl rfl) (aL cQ (pv 0) aq)) (ag tO aw)),?_⟩
  dsimp! []
  refine⟨.small (by decide) (by decide),Cq (fun σ' H'=>H'=H∧∃z:Int,σ'=[some (.int c),some (.int z)]) (Mv.of (cO (aH cX (aL df (pv 0) aq) aq (aQ _)) (ag (aN (i:=1) tV.nd rfl (Or.inl rfl) (aL df (aL g8 (aL de (aL df (pv 1) aq) aq) aq) aq)) (ah (aN (i:=1) tV.nd rfl (Or.inl rfl) (aL cQ (aL g8 (aL df (aL g8 (pv 1) aq) aq) (aL Ak aq aq)) aq)))) bB) ?_) ?_⟩
  ·dsimp! []
   have c0:=Int.emod_nonneg (c / 2) (show(2147483647:Int)≠0 by decide)
   have c1:=Int.emod_lt_of_pos (c / 2) (show(0:Int) < 2147483647 by decide)
   refine⟨by decide,mP (fun _=>?_) fun _=>⟨_,rfl⟩⟩
   exact⟨by decide,.inr ⟨by decide,by decide⟩,by decide,.inr ⟨by decide,by decide⟩,by decide,⟨by decide,by decide,by decide⟩,.inl ⟨by omega,by omega⟩,.small (by decide) (by decide),_,rfl⟩
  ·rintro σ' H' ⟨rfl,z,rfl⟩
   refine a6.of (ah (aE (pv 1))) ?_
   dsimp! []
   exact q z
noncomputable def Xf (a:cN) (K:PySem.W.Frag):Sp:=fun vs H Q _=>∃fl fx,∃t:Tg,vs=[.str t.sort,.ref fl,wV t.words]∧aF K H fl fx∧eC K H fx t.fs∧fx.length≤1000∧∀p d H',ak H H'→H p=none→H d=none→gc a K H' p d t→Q (.ref p) H'
theorem Xg (T:Txt K mg a):aU P w K mg base cC 9 a.yN a.yO ["_law_sort","_law_fields","_law_words"] (Xf a K):=by
 refine T.pk.ok VH (fun vs H Q E h=>?_) (fun bL A outer s H vs Q E hr h=>?_)
 ·obtain⟨_,_,_,rfl,_⟩:=h
  rfl
 ·obtain⟨fl,fx,t,rfl,hl,hv,hz,q⟩:=h
  refine⟨_,(ag (cO (aH cX (pv 0) aT (aQ _)) (ah (aE (aD (Jc T) (hr.mono (by decide)) rfl T.Ig T.mq.kp T.Ie .nil ar (aa (pv 1) (aa (pv 2) af))))) bB) (ag (cO (aH cX (pv 0) aT (aQ _)) (ah (aE (aD (Jd T) (hr.mono (by decide)) rfl T.Ii T.mv.kp T.Ih .nil ar (aa (aG ay (pv 1) aq (fun _ _=>rfl)) af)))) bB) (ah (aE (aD (Je T) (hr.mono (by decide)) rfl T.Ik T.mw.kp T.Ij .nil ar (aa (aG ay (pv 1) aq (fun _ _=>rfl)) (aa (aG ay (pv 1) aq (fun _ _=>rfl)) af))))))),?_⟩
  cases t with
  | plain fs w=>
   dsimp! [Tg.sort]
   exact⟨fl,fx,fs,w,rfl,hl,hv,hz,q⟩
  | weak f=>
   dsimp! [Tg.sort,AS]
   have d_:0 < fx.length:=by rw [←hv.1]; show 0 < 1; decide
   have g0:fx[0]?=some fx[0]:=List.getElem?_eq_getElem d_
   exact⟨fl,fx,_,fx[0],rfl,rfl,hl,bp (j:=0) g0,_,f,rfl,hv.2 0 _ _ g0 rfl,q⟩
  | pair k v=>
   dsimp! [Tg.sort,ub,Wx]
   have eM:1 < fx.length:=by rw [←hv.1]; show 1 < 2; decide
   have g0:fx[0]?=some fx[0]:=List.getElem?_eq_getElem (by omega)
   have g1:fx[1]?=some fx[1]:=List.getElem?_eq_getElem eM
   exact⟨fl,fx,_,fx[0],rfl,rfl,hl,bp (j:=0) g0,fl,fx,_,fx[1],rfl,rfl,hl,bp (j:=1) g1,_,_,k,v,rfl,hv.2 0 _ _ g0 rfl,hv.2 1 _ _ g1 rfl,q⟩
structure Gn where
 ra:Addr
 fl:Addr
 t:Tg
 num:Int
structure Gn.ok (K:PySem.W.Frag) (H:Hp) (n:Gn):Prop where
 row:H n.ra=some (.lst [.str n.t.sort,.ref n.fl,wV n.t.words,.int n.num])
 EU:∃fx,H n.fl=some (.lst fx)∧eC K H fx n.t.fs∧fx.length≤3
noncomputable def pF (ps:List Nat):Vl→Vl
 | .th n=>.th ((ps.getD n.toNat 0:Nat):Int)
 | v=>v
noncomputable def da (lr lp:Addr) (N:List Gn):List Addr:=lr::lp::(N.map Gn.ra++N.map Gn.fl)
structure GR (a:cN) (K:PySem.W.Frag) (H:Hp) (M:MA) (lr lp:Addr) (E:List (Nat×En)) (N:List Gn) (x:Nat):Prop where
 tm:TM a K H M E
 hr:H lr=some (.lst (N.map fun n=>V.ref n.ra))
 hp:H lp=some (.lst (E.map fun p=>V.int (p.1:Nat)))
 ok:∀n∈N,n.ok K H
 len:E.length=N.length
 rel:∀(i:Nat) p n,i≠x→E[i]?=some p→N[i]?=some n→p.2.t.sort=n.t.sort∧p.2.t.fs=n.t.fs.map (pF (E.map (·.1)))
 nd:(da lr lp N).Nodup
 no:∀b∈da lr lp N,¬M.own b∧M.lb≠b
 sw:∀(i:Nat) p n,E[i]?=some p→N[i]?=some n→p.2.bJ=2*(i:Int)+1∧p.2.t.words=n.t.words
theorem Gn.ok.kp {S:Addr→Prop}{H H':Hp}{n:Gn}(h:n.ok K H) (k:Kp S H H') (mu:∀b,S b→Mu H b) (n1:¬S n.ra) (n2:¬S n.fl):n.ok K H':=by
 obtain⟨fx,h1,h2,h3⟩:=h.EU
 exact⟨k _ _ n1 h.row,fx,k _ _ n2 h1,h2.kp k mu,h3⟩
theorem fQ {lr lp:Addr}{N:List Gn}{n:Gn}(h:n∈N):n.ra∈da lr lp N:=List.mem_cons_of_mem _ (List.mem_cons_of_mem _ (List.mem_append_left _ (List.mem_map.mpr ⟨n,h,rfl⟩)))
theorem lR {lr lp:Addr}{N:List Gn}{n:Gn}(h:n∈N):n.fl∈da lr lp N:=List.mem_cons_of_mem _ (List.mem_cons_of_mem _ (List.mem_append_right _ (List.mem_map.mpr ⟨n,h,rfl⟩)))
theorem GR.kp {S:Addr→Prop}{H H':Hp}{M:MA}{lr lp:Addr}{E:List (Nat×En)}{N:List Gn}{x:Nat}(h:GR a K H M lr lp E N x) (k:Kp S H H') (mu:∀b,S b→Mu H b) (ns:∀b∈da lr lp N,¬S b) (hT:TM a K H' M E):GR a K H' M lr lp E N x:=
 ⟨hT,k _ _ (ns _ List.mem_cons_self) h.hr,k _ _ (ns _ (List.mem_cons_of_mem _ List.mem_cons_self)) h.hp,fun n hn=>(h.ok n hn).kp k mu (ns _ (fQ hn)) (ns _ (lR hn)),h.len,h.rel,h.nd,h.no,h.sw⟩
theorem GR.same {H H':Hp}{M:MA}{lr lp:Addr}{E:List (Nat×En)}{N:List Gn}{x:Nat}(h:GR a K H M lr lp E N x) (k:ak H H'):GR a K H' M lr lp E N x:=
 h.kp (S:=fun _=>False) (ak.kp k) (fun _ z=>z.elim) (fun _ _ z=>z) (h.tm.same k)
theorem GR.kJ {H:Hp}{M:MA}{lr lp:Addr}{E:List (Nat×En)}{N:List Gn}{x:Nat}(h:GR a K H M lr lp E N x):∀b∈da lr lp N,∃xs,H b=some (.lst xs):=fun b hb=>by
 rcases List.mem_cons.mp hb with rfl | hb
 ·exact⟨_,h.hr⟩
 rcases List.mem_cons.mp hb with rfl | hb
 ·exact⟨_,h.hp⟩
 rcases List.mem_append.mp hb with hb | hb
 ·obtain⟨n,hn,rfl⟩:=List.mem_map.mp hb
  exact⟨_,(h.ok n hn).row⟩
 ·obtain⟨n,hn,rfl⟩:=List.mem_map.mp hb
  obtain⟨fx,h1,_⟩:=(h.ok n hn).EU
  exact⟨fx,h1⟩
theorem uk (x:V):∀n:Nat,(List.replicate n [x]).flatten=List.replicate n x
 | 0=>rfl
 | n+1=>by rw [List.replicate_succ,List.flatten_cons,uk x n]; rfl
theorem eC.nos {H:Hp}{x:V}(h:c_ K H x .no) {fs:List Vl}(hf:∀v∈fs,v=Vl.no):eC K H (List.replicate fs.length x) fs:=⟨by rw [List.length_replicate],fun i y v hy hv=>by
 have e1:=List.eq_of_mem_replicate (List.mem_of_getElem? hy)
 have e2:=hf v (List.mem_of_getElem? hv)
 rw [e1,e2]
 exact h⟩
theorem Jw {ps:List Nat}{fs:List Vl}(hf:∀v∈fs,v=Vl.no):fs.map (pF ps)=fs:=by
 refine(List.map_congr_left fun v hv=>?_).trans (List.map_id fs)
 rw [hf v hv]
 rfl
theorem GR.more {H H1 H2:Hp}{M:MA}{lr lp ra fl:Addr}{E:List (Nat×En)}{N:List Gn}{x:Nat}{g:Nat}{t:Tg}{bJ num:Int}{mk:Bool}{fx:List V}(h:GR a K H M lr lp E N x) (k:Kp M.own H H1) (hT:TM a K H1 M (E++[(g,⟨t,bJ,mk⟩)])) (sL:H1 fl=some (.lst fx)) (A4:eC K H1 fx t.fs) (afX:fx.length≤3)
  (Rk:∀b∈da lr lp N,b≠fl) (ofl:¬M.own fl∧M.lb≠fl) (zu:H1 ra=none)
  (Rl:∀v∈t.fs,v=Vl.no) (hn:∀n∈N,∀v∈n.t.fs,v=Vl.no) (afY:bJ=2*(E.length:Int)+1)
  (e2:H2=upd (upd (upd H1 ra (.lst [.str t.sort,.ref fl,wV t.words,.int num])) lr (.lst ((N.map fun n=>V.ref n.ra)++[.ref ra]))) lp (.lst ((E.map fun p=>V.int (p.1:Nat))++[.int (g:Nat)]))) :
  GR a K H2 M lr lp (E++[(g,⟨t,bJ,mk⟩)]) (N++[⟨ra,fl,t,num⟩]) x∧Kp (fun b=>b=lr∨b=lp) H1 H2:=by
 have aaB:H1 lr=some (.lst (N.map fun n=>V.ref n.ra)):=k _ _ (h.no lr List.mem_cons_self).1 h.hr
 have aaC:H1 lp=some (.lst (E.map fun p=>V.int (p.1:Nat))):=k _ _ (h.no lp (List.mem_cons_of_mem _ List.mem_cons_self)).1 h.hp
 have Y5:lr≠lp:=fun z=>by
  have:=h.nd
  unfold da at this
  rw [z] at this
  simp at this
 have Ec:∀b u,H1 b=some u→b≠ra:=fun b u e=>ao e zu
 have k2:Kp (fun b=>b=lr∨b=lp) H1 H2:=fun b u n e=>by
  rw [e2,ai (fun z=>n (.inr z)),ai (fun z=>n (.inl z)),ai (Ec b u e)]
  exact e
 have mu:∀b,(b=lr∨b=lp)→Mu H1 b:=fun b hb=>by
  rcases hb with rfl | rfl
  ·exact .inl ⟨_,aaB⟩
  ·exact .inl ⟨_,aaC⟩
 have Xh:∀b∈da lr lp N,∃u,H1 b=some u:=fun b hb=>by
  obtain⟨xs,e⟩:=h.kJ b hb
  exact⟨_,k _ _ (h.no b hb).1 e⟩
 have afZ:∀n∈N,¬(n.ra=lr∨n.ra=lp)∧¬(n.fl=lr∨n.fl=lp):=fun n hn=>by
  have hd:=h.nd
  unfold da at hd
  obtain⟨d1,d2⟩:=List.nodup_cons.mp hd
  obtain⟨d3,_⟩:=List.nodup_cons.mp d2
  have m1:n.ra∈N.map Gn.ra++N.map Gn.fl:=List.mem_append_left _ (List.mem_map.mpr ⟨n,hn,rfl⟩)
  have m2:n.fl∈N.map Gn.ra++N.map Gn.fl:=List.mem_append_right _ (List.mem_map.mpr ⟨n,hn,rfl⟩)
  constructor
  ·rintro(z | z)
   ·exact d1 (List.mem_cons_of_mem _ (z▸m1))
   ·exact d3 (z▸m1)
  ·rintro(z | z)
   ·exact d1 (List.mem_cons_of_mem _ (z▸m2))
   ·exact d3 (z▸m2)
 have aga:ra≠lr:=(Ec lr _ aaB).symm
 have agb:ra≠lp:=(Ec lp _ aaC).symm
 have nrf:fl≠ra:=Ec fl _ sL
 have nfr:¬(fl=lr∨fl=lp):=fun z=>by
  rcases z with z | z
  ·exact Rk lr List.mem_cons_self z.symm
  ·exact Rk lp (List.mem_cons_of_mem _ List.mem_cons_self) z.symm
 have WJ:M.lb≠ra:=Ec _ _ hT.lb
 refine⟨⟨hT.off k2 mu (fun z=>?_) (fun b hb z=>?_),?_,?_,fun n hn=>?_,?_,fun i p n hx hp hn=>?_,?_,fun b hb=>?_,fun i p n hp hn=>?_⟩,k2⟩
 ·rcases z with z | z
  ·exact(h.no lr List.mem_cons_self).2 z
  ·exact(h.no lp (List.mem_cons_of_mem _ List.mem_cons_self)).2 z
 ·rcases z with rfl | rfl
  ·exact(h.no _ List.mem_cons_self).1 hb
  ·exact(h.no _ (List.mem_cons_of_mem _ List.mem_cons_self)).1 hb
 ·rw [e2,ai Y5,ae,List.map_append]
  rfl
 ·rw [e2,ae,List.map_append]
  rfl
 ·rcases List.mem_append.mp hn with hn | hn
  ·obtain⟨n1,n2⟩:=afZ n hn
   exact((h.ok n hn).kp k h.tm.mu (h.no _ (fQ hn)).1 (h.no _ (lR hn)).1).kp k2 mu n1 n2
  ·rw [List.mem_singleton.mp hn]
   refine⟨?_,fx,k2 _ _ nfr sL,A4.kp k2 mu,afX⟩
   rw [e2,ai agb,ai aga,ae]
 ·rw [List.length_append,List.length_append,h.len]
  rfl
 ·by_cases hi:i < E.length
  ·rw [List.getElem?_append_left hi] at hp
   rw [List.getElem?_append_left (by rw [←h.len]; exact hi)] at hn
   obtain⟨r1,r2⟩:=h.rel i p n hx hp hn
   have hh:=‹∀n∈N,∀v∈n.t.fs,v=Vl.no› n (List.mem_of_getElem? hn)
   rw [Jw hh] at r2 ⊢
   exact⟨r1,r2⟩
  ·have ei:i=E.length:=by
    have:=(List.getElem?_eq_some_iff.mp hp).1
    rw [List.length_append,List.length_singleton] at this
    omega
   subst ei
   rw [List.getElem?_append_right (Nat.le_refl _),Nat.sub_self] at hp
   rw [h.len,List.getElem?_append_right (Nat.le_refl _),Nat.sub_self] at hn
   cases hp
   cases hn
   exact⟨rfl,(Jw Rl).symm⟩
 ·have hd:=h.nd
  unfold da at hd ⊢
  have agc:ra∉lr::lp::(N.map Gn.ra++N.map Gn.fl):=fun z=>by
   obtain⟨u,e⟩:=Xh ra z
   rw [zu] at e
   cases e
  have agd:fl∉lr::lp::(N.map Gn.ra++N.map Gn.fl):=fun z=>Rk fl z rfl
  rw [List.map_append,List.map_append]
  have hp:(lr::lp::(N.map Gn.ra++[ra]++(N.map Gn.fl++[fl]))).Perm (ra::fl::(lr::lp::(N.map Gn.ra++N.map Gn.fl))):=by
   have e1:N.map Gn.ra++[ra]++(N.map Gn.fl++[fl])=N.map Gn.ra++(ra::(N.map Gn.fl++[fl])):=by simp
   rw [e1]
   refine(((List.perm_middle (l₁:=N.map Gn.ra)).cons lp).cons lr).trans ?_
   refine(((List.Perm.swap ra lp _).cons lr).trans (List.Perm.swap ra lr _)).trans (List.Perm.cons ra ?_)
   have e2:N.map Gn.ra++(N.map Gn.fl++[fl])=(N.map Gn.ra++N.map Gn.fl)++[fl]:=by simp
   rw [e2]
   exact(List.perm_append_singleton fl (lr::lp::(N.map Gn.ra++N.map Gn.fl)))
  refine hp.nodup_iff.mpr (List.nodup_cons.mpr ⟨fun z=>?_,List.nodup_cons.mpr ⟨agd,hd⟩⟩)
  rcases List.mem_cons.mp z with z | z
  ·exact nrf z.symm
  ·exact agc z
 ·have hm:b∈da lr lp N∨b=ra∨b=fl:=by
   unfold da at hb ⊢
   rw [List.map_append,List.map_append] at hb
   simp only [List.mem_cons,List.mem_append,List.map_cons,List.map_nil,List.not_mem_nil,or_false] at hb ⊢
   rcases hb with z | z | (z | z) | (z | z)
   ·exact .inl (.inl z)
   ·exact .inl (.inr (.inl z))
   ·exact .inl (.inr (.inr (.inl z)))
   ·exact .inr (.inl z)
   ·exact .inl (.inr (.inr (.inr z)))
   ·exact .inr (.inr z)
  rcases hm with hm | rfl | rfl
  ·exact h.no b hm
  ·exact⟨hT.gP zu,WJ⟩
  ·exact ofl
 ·by_cases hi:i < E.length
  ·rw [List.getElem?_append_left hi] at hp
   rw [List.getElem?_append_left (by rw [←h.len]; exact hi)] at hn
   exact h.sw i p n hp hn
  ·have ei:i=E.length:=by
    have:=(List.getElem?_eq_some_iff.mp hp).1
    rw [List.length_append,List.length_singleton] at this
    omega
   subst ei
   rw [List.getElem?_append_right (Nat.le_refl _),Nat.sub_self] at hp
   rw [h.len,List.getElem?_append_right (Nat.le_refl _),Nat.sub_self] at hn
   cases hp
   cases hn
   exact⟨afY,rfl⟩
theorem pG (E:List (Nat×En)) (pl:Nat) (e':En):(dA E pl e').map (·.1)=E.map (·.1):=by
 unfold dA
 rw [List.map_map]
 refine List.map_congr_left fun p _=>?_
 show(if p.1=pl then(pl,e')else p).1=p.1
 by_cases z:p.1=pl
 ·rw [if_pos z]
  exact z.symm
 ·rw [if_neg z]
theorem um {E:List (Nat×En)}(h:zp E) {k:Nat}{pl:Nat}{e e':En}(hk:E[k]?=some (pl,e)) (i:Nat):(dA E pl e')[i]?=if i=k then some (pl,e')else E[i]?:=by
 unfold dA
 rw [List.getElem?_map]
 by_cases z:i=k
 ·subst z
  rw [hk,if_pos rfl,Option.map_some,if_pos rfl]
 ·rw [if_neg z]
  cases e1:E[i]? with
  | none=>rfl
  | some p=>
   rw [Option.map_some,if_neg fun y=>?_]
   obtain⟨hi,e2⟩:=List.getElem?_eq_some_iff.mp e1
   obtain⟨A5,e3⟩:=List.getElem?_eq_some_iff.mp hk
   rcases Nat.lt_or_gt_of_ne z with q | q
   ·exact List.pairwise_iff_getElem.mp h i k hi A5 q (by rw [e2,e3]; exact y)
   ·exact List.pairwise_iff_getElem.mp h k i A5 hi q (by rw [e2,e3]; exact y.symm)
theorem GR.set {H H':Hp}{M:MA}{lr lp:Addr}{E:List (Nat×En)}{N:List Gn}{k:Nat}{pl:Nat}{e e':En}(h:GR a K H M lr lp E N k) (kk:Kp (·=M.d) H H') (hT:TM a K H' M (dA E pl e')) (hk:E[k]?=some (pl,e)) (hd:Mu H M.d) (Y0:e'.bJ=e.bJ∧e'.t.words=e.t.words):GR a K H' M lr lp (dA E pl e') N k where
 tm:=hT
 hr:=kk _ _ (fun z=>(h.no lr List.mem_cons_self).1 (.inl z)) h.hr
 hp:=by
  have e1:(dA E pl e').map (fun p=>V.int (p.1:Nat))=E.map fun p=>V.int (p.1:Nat):=by
   have:=congrArg (List.map fun(n:Nat)=>V.int (n:Int)) (pG E pl e')
   rw [List.map_map,List.map_map] at this
   exact this
  rw [e1]
  exact kk _ _ (fun z=>(h.no lp (List.mem_cons_of_mem _ List.mem_cons_self)).1 (.inl z)) h.hp
 ok:=fun n hn=>(h.ok n hn).kp kk (fun b z=>by rw [z]; exact hd) (fun z=>(h.no _ (fQ hn)).1 (.inl z)) (fun z=>(h.no _ (lR hn)).1 (.inl z))
 len:=by
  rw [←h.len]
  exact List.length_map _
 rel:=fun i p n hi hp hn=>by
  rw [um h.tm.nd hk,if_neg hi] at hp
  rw [pG]
  exact h.rel i p n hi hp hn
 nd:=h.nd
 no:=h.no
 sw:=fun i p n hp hn=>by
  rw [um h.tm.nd hk] at hp
  split at hp
  ·next hi=>
   subst hi
   cases hp
   obtain⟨s1,s2⟩:=h.sw i _ n hk hn
   exact⟨Y0.1.trans s1,Y0.2.trans s2⟩
  ·exact h.sw i p n hp hn
noncomputable def Tg.zv:Tg→List Vl→Tg
 | .plain _ w,fs=>.plain fs w
 | .weak _,[f]=>.weak f
 | .pair _ _,[k,v]=>.pair k v
 | t,_=>t
theorem Tg.zw (t:Tg) (fs:List Vl) (h:fs.length=t.fs.length):(t.zv fs).sort=t.sort∧(t.zv fs).words=t.words∧(t.zv fs).fs=fs:=by
 cases t with
 | plain _ w=>exact⟨rfl,rfl,rfl⟩
 | weak f=>
  match fs,h with
  | [x],_=>exact⟨rfl,rfl,rfl⟩
 | pair k v=>
  match fs,h with
  | [x,y],_=>exact⟨rfl,rfl,rfl⟩
theorem Xi {α:Type}{l:List α}{x:α}(h:l.Nodup) (hx:x∉l) (i:Nat):(l.set i x).Nodup:=by
 refine List.pairwise_iff_getElem.mpr fun p q hp hq hpq=>?_
 rw [List.length_set] at hp hq
 rw [List.getElem_set,List.getElem_set]
 by_cases h1:i=p
 ·rw [if_pos h1,if_neg (by omega)]
  exact fun z=>hx (z▸List.getElem_mem hq)
 ·rw [if_neg h1]
  by_cases h2:i=q
  ·rw [if_pos h2]
   exact fun z=>hx (z▸List.getElem_mem hp)
  ·rw [if_neg h2]
   exact List.pairwise_iff_getElem.mp h p q hp hq hpq
theorem pH {lr lp:Addr}{N:List Gn}{k:Nat}{n:Gn}(hn:N[k]?=some n) (fU:Addr) (t':Tg) (num:Int):da lr lp (N.set k ⟨n.ra,fU,t',num⟩)=(da lr lp N).set (2+(N.length+k)) fU:=by
 have e1:(N.set k ⟨n.ra,fU,t',num⟩).map Gn.ra=N.map Gn.ra:=by
  rw [List.map_set]
  obtain⟨hk,e⟩:=List.getElem?_eq_some_iff.mp hn
  have:(N.map Gn.ra).set k n.ra=N.map Gn.ra:=by
   have h2:(N.map Gn.ra)[k]?=some n.ra:=by rw [List.getElem?_map,hn]; rfl
   refine List.ext_getElem? fun i=>?_
   by_cases z:k=i
   ·subst z
    rw [List.getElem?_set_self (by rw [List.length_map]; exact hk),h2]
   ·rw [List.getElem?_set_ne z]
  exact this
 unfold da
 rw [e1,List.map_set,show 2+(N.length+k)=(N.length+k)+1+1 by omega,List.set_cons_succ,List.set_cons_succ,List.set_append_right _ _ (by rw [List.length_map]; omega),List.length_map,Nat.add_sub_cancel_left]
theorem GR.row {H H2:Hp}{M:MA}{lr lp fU:Addr}{E:List (Nat×En)}{N:List Gn}{k:Nat}{n:Gn}{p:Nat×En}{fx:List V}{vs:List Vl}(h:GR a K H M lr lp E N k) (hn:N[k]?=some n) (hp:E[k]?=some p) (sL:H fU=some (.lst fx)) (sM:eC K H fx vs) (h3:fx.length≤3) (hvn:vs.length=n.t.fs.length)
  (Rk:fU∉da lr lp N) (ofl:¬M.own fU∧M.lb≠fU) (rk:p.2.t.sort=n.t.sort∧p.2.t.fs=vs.map (pF (E.map (·.1)))) (e2:H2=upd H n.ra (.lst [.str n.t.sort,.ref fU,wV n.t.words,.int n.num])) :
  GR a K H2 M lr lp E (N.set k ⟨n.ra,fU,n.t.zv vs,n.num⟩) 1000∧Kp (·=n.ra) H H2:=by
 have fV:n∈N:=List.mem_of_getElem? hn
 obtain⟨hk,ek⟩:=List.getElem?_eq_some_iff.mp hn
 have zu:=(h.ok n fV).row
 have k2:Kp (·=n.ra) H H2:=by
  rw [e2]
  exact(Kp.refl _ _).set rfl
 have mu:∀b,b=n.ra→Mu H b:=fun b e=>.inl ⟨[.str n.t.sort,.ref n.fl,wV n.t.words,.int n.num],by rw [e]; exact zu⟩
 obtain⟨w1,w2,w3⟩:=n.t.zw vs hvn
 have hd:=h.nd
 unfold da at hd
 obtain⟨d1,d2⟩:=List.nodup_cons.mp hd
 obtain⟨d3,d4⟩:=List.nodup_cons.mp d2
 obtain⟨d5,d6,d7⟩:=List.pairwise_append.mp d4
 have m1:∀m∈N,m.ra∈N.map Gn.ra:=fun m hm=>List.mem_map.mpr ⟨m,hm,rfl⟩
 have m2:∀m∈N,m.fl∈N.map Gn.fl:=fun m hm=>List.mem_map.mpr ⟨m,hm,rfl⟩
 have nlr:lr≠n.ra:=fun z=>d1 (List.mem_cons_of_mem _ (List.mem_append_left _ (z▸m1 n fV)))
 have nlp:lp≠n.ra:=fun z=>d3 (List.mem_append_left _ (z▸m1 n fV))
 have Xj:∀m∈N,m.fl≠n.ra:=fun m hm z=>d7 _ (m1 n fV) _ (m2 m hm) z.symm
 have nfr:fU≠n.ra:=fun z=>Rk (z▸fQ fV)
 refine⟨⟨h.tm.off k2 mu (h.no _ (fQ fV)).2 fun b hb z=>(h.no _ (fQ fV)).1 (z▸hb),?_,k2 _ _ nlp h.hp,fun m hm=>?_,by rw [List.length_set]; exact h.len,fun i q m hi hq hm=>?_,?_,fun b hb=>?_,fun i q m hq hm=>?_⟩,k2⟩
 ·have e1:(N.set k ⟨n.ra,fU,n.t.zv vs,n.num⟩).map (fun n=>V.ref n.ra)=N.map fun n=>V.ref n.ra:=by
   refine List.ext_getElem? fun i=>?_
   rw [List.getElem?_map,List.getElem?_map]
   by_cases z:k=i
   ·subst z
    rw [List.getElem?_set_self hk,hn]
    rfl
   ·rw [List.getElem?_set_ne z]
  rw [e1]
  exact k2 _ _ nlr h.hr
 ·obtain⟨i,hi⟩:=List.mem_iff_getElem?.mp hm
  by_cases z:k=i
  ·subst z
   rw [List.getElem?_set_self hk] at hi
   cases hi
   refine⟨?_,fx,k2 _ _ nfr sL,?_,h3⟩
   ·dsimp only
    rw [e2,ae,w1,w2]
   ·dsimp only
    rw [w3]
    exact sM.kp k2 mu
  ·rw [List.getElem?_set_ne z] at hi
   have hmN:=List.mem_of_getElem? hi
   refine(h.ok m hmN).kp k2 mu (fun y=>?_) (Xj m hmN)
   obtain⟨Ab,ei⟩:=List.getElem?_eq_some_iff.mp hi
   have:=zl d5 (i:=i) (j:=k) (by rw [List.length_map]; exact Ab) (by rw [List.length_map]; exact hk) (by rw [List.getElem_map,List.getElem_map,ei,ek]; exact y)
   exact z this.symm
 ·by_cases z:k=i
  ·subst z
   rw [List.getElem?_set_self hk] at hm
   cases hm
   rw [hp] at hq
   cases hq
   dsimp only
   rw [w1,w3]
   exact rk
  ·rw [List.getElem?_set_ne z] at hm
   exact h.rel i q m (fun y=>z y.symm) hq hm
 ·rw [pH hn]
  exact Xi h.nd Rk _
 ·rw [pH hn] at hb
  rcases List.mem_or_eq_of_mem_set hb with hb | rfl
  ·exact h.no b hb
  ·exact ofl
 ·by_cases z:k=i
  ·subst z
   rw [List.getElem?_set_self hk] at hm
   cases hm
   obtain⟨s1,s2⟩:=h.sw k q n hq hn
   exact⟨s1,by rw [s2]; exact w2.symm⟩
  ·rw [List.getElem?_set_ne z] at hm
   exact h.sw i q m hq hm
theorem GR.ex {H:Hp}{M:MA}{lr lp:Addr}{E:List (Nat×En)}{N:List Gn}(h:GR a K H M lr lp E N 1000) (he:E.length≤24) (k:Nat):GR a K H M lr lp E N k:=
 ⟨h.tm,h.hr,h.hp,h.ok,h.len,fun i p n _ hp hn=>h.rel i p n (by have:=(List.getElem?_eq_some_iff.mp hp).1; omega) hp hn,h.nd,h.no,h.sw⟩
theorem GR.list {H H':Hp}{M:MA}{lr lp l:Addr}{ys:List V}{E:List (Nat×En)}{N:List Gn}{x:Nat}(h:GR a K H M lr lp E N x) (k:Kp (·=l) H H') (hl:H l=some (.lst ys)) (n1:l∉da lr lp N) (n2:¬M.own l∧M.lb≠l):GR a K H' M lr lp E N x:=by
 have mu:∀b,b=l→Mu H b:=fun b e=>.inl ⟨ys,by rw [e]; exact hl⟩
 exact h.kp k mu (fun b hb z=>n1 (z▸hb)) (h.tm.off k mu n2.2 fun b hb z=>n2.1 (z▸hb))
theorem CV {A B:List Vl}{j:Nat}{x:Vl}(hA:A.length=j) (hj:j < B.length):(A++B.drop j).set j x=A++[x]++B.drop (j+1):=by
 rw [List.set_append_right _ _ (by omega),hA,Nat.sub_self,List.drop_eq_getElem_cons hj,List.set_cons_zero,List.append_assoc]
 rfl
noncomputable def Tg.Jx:Tg→Option Int→Tg
 | .plain fs _,w=>.plain fs w
 | t,_=>t
theorem e62:(10:Int) ^ Int.toNat 62=100000000000000000000000000000000000000000000000000000000000000:=by decide +kernel
theorem e60:(10:Int) ^ Int.toNat 60=1000000000000000000000000000000000000000000000000000000000000:=by decide +kernel
noncomputable def Xk (a:cN) (K:PySem.W.Frag):Sp:=fun vs H Q _=>∃sc ns M,∃st:Nat,vs=[.ref sc,.ref M.p,.int (st:Nat)]∧aF K H sc (List.map V.int ns)∧TM a K H M [] ∧
 ∀(t lr lp:Addr) (H':Hp) (E:List (Nat×En)) (N:List Gn),Kp M.own H H'→GR a K H' M lr lp E N 1000→E.length≤24→H' t=some (.tup [.ref lr,.ref lp])→(∀b∈da lr lp N,H b=none)→(∀n∈N,∀z,Vl.th z∈n.t.fs→0≤z∧z < E.length)→(∀p∈E,p.2.bR=false)→Q (.ref t) H'
noncomputable def IG1 (a:cN) (K:PySem.W.Frag) (M:MA) (sc lr lp lc:Addr) (st:Nat) (cs:List V) (H:Hp) (i:Nat) (σ:List (Option V)) (H4:Hp):Prop:=∃(o5 o6 o7 o8 o9 jE vw:Option V) (E:List (Nat×En)) (N:List Gn),σ=[some (.ref sc),some (.ref M.p),some (.int (st:Nat)),some (.ref lr),some (.ref lp),o5,o6,o7,o8,o9,jE,vw,none,none,none]∧Kp M.own H H4∧H4 lc=some (.lst cs)∧GR a K H4 M lr lp E N 1000∧E.length≤i∧(∀n∈N,∀v∈n.t.fs,v=Vl.no)∧(∀b∈da lr lp N,H b=none)∧∀p∈E,p.2.bR=false
noncomputable def JG1 (M:MA) (sc lr lp:Addr) (st:Nat) (c z:Int) (t1:Tg) (H6:Hp) (σ':List (Option V)) (H':Hp):Prop:=∃(w:Option Int) (jE vw:Option V),σ'=[some (.ref sc),some (.ref M.p),some (.int (st:Nat)),some (.ref lr),some (.ref lp),some (.int c),some (.int z),some (.str t1.sort),some (.int (t1.fs.length:Nat)),some (wV w),jE,vw,none,none,none]∧(t1.Jx w).words=w∧H'=H6
noncomputable def IG2 (a:cN) (K:PySem.W.Frag) (M:MA) (sc lr lp:Addr) (st L:Nat) (H:Hp) (i:Nat) (σ:List (Option V)) (H5:Hp):Prop:=∃(o5 o6 o7 o8 o9 jE vw Xl Ad Rm:Option V) (E:List (Nat×En)) (N:List Gn),σ=[some (.ref sc),some (.ref M.p),some (.int (st:Nat)),some (.ref lr),some (.ref lp),o5,o6,o7,o8,o9,jE,vw,Xl,Ad,Rm]∧Kp M.own H H5∧GR a K H5 M lr lp E N 1000∧E.length=L∧(∀n∈N,∀z,Vl.th z∈n.t.fs→0≤z∧z < (L:Int))∧(∀b∈da lr lp N,H b=none)∧∀p∈E,p.2.bR=false
noncomputable def IR3 (a:cN) (K:PySem.W.Frag) (M:MA) (lr lp fU:Addr) (L k:Nat) (N:List Gn) (n:Gn) (pl:Nat) (e:En) (E:List (Nat×En)) (H:Hp) (j:Nat) (H7:Hp):Prop:=∃(E':List (Nat×En)) (e':En) (fx:List V) (vs:List Vl),Kp M.own H H7∧GR a K H7 M lr lp E' N k∧E'.map (·.1)=E.map (·.1)∧E'[k]?=some (pl,e')∧e'.t.sort=n.t.sort∧e'.t.fs=vs.map (pF (E.map (·.1)))++e.t.fs.drop j∧H7 fU=some (.lst fx)∧eC K H7 fx vs∧vs.length=j∧(∀z,Vl.th z∈vs→0≤z∧z < (L:Int))∧∀p∈E',p.2.bR=false
noncomputable def IS3 (M:MA) (sc lr lp fU:Addr) (st k:Nat) (σ:List (Option V)):Prop:=∃(num:Int) (o5 o7 o8 o9 vw Ad Rm:Option V),σ=[some (.ref sc),some (.ref M.p),some (.int (st:Nat)),some (.ref lr),some (.ref lp),o5,some (.int num),o7,o8,o9,some (.ref fU),vw,some (.int (k:Nat)),Ad,Rm]
noncomputable def JG3 (K:PySem.W.Frag) (M:MA) (sc lr lp fU:Addr) (st k j L:Nat) (num:Int) (H8:Hp) (σ':List (Option V)) (H':Hp):Prop:=∃(o5 o7 o8 o9 vw:Option V) (y:V) (v:Vl),σ'=[some (.ref sc),some (.ref M.p),some (.int (st:Nat)),some (.ref lr),some (.ref lp),o5,some (.int num),o7,o8,o9,some (.ref fU),vw,some (.int (k:Nat)),some (.int (j:Nat)),some y]∧ak H8 H'∧c_ K H' y v∧∀z,v=Vl.th z→0≤z∧z < (L:Int)
theorem Xm (T:Txt K mg a):aU P w K mg base cC 10 a.yL a.yM ["_law_script","_law_memory","_law_start"] (Xk a K):=by
 refine T.pj.ok cU (fun vs H Q E h=>?_) (fun bL A outer s H vs Q E hr h=>?_)
 ·obtain⟨_,_,_,_,rfl,_⟩:=h
  rfl
 ·obtain⟨sc,ns,M,st,rfl,hS,hT,q⟩:=h
  refine⟨_,(ag (aN (i:=3) cU.nd rfl (Or.inl rfl) (bD af)) (ag (aN (i:=4) cU.nd rfl (Or.inl rfl) (bD af)) (ag (bM PassesOwn.never rfl (bg (j_ nM (pv 0) (iN (pv 2)) (iN (aL de (pv 2) aq)))) (a7 (i:=5) cU.nd rfl (Or.inl rfl)) aw) aw))),?_⟩
  dsimp! []
  refine fun lr Xn lp hlp=>?_
  have s1:=ak.put (o:=.lst []) Xn
  have s2:=s1.trans (ak.put (o:=.lst []) hlp)
  have MX:H lp=none:=s1.free hlp
  have Y5:lr≠lp:=ao ae hlp
  have nQ:upd (upd H lr (.lst [])) lp (.lst []) lr=some (.lst []):=by rw [ai Y5,ae]
  have gh:upd (upd H lr (.lst [])) lp (.lst []) lp=some (.lst []):=ae
  generalize upd (upd H lr (.lst [])) lp (.lst [])=H2 at s2 nQ gh
  refine⟨sc,_,rfl,s2.seq hS,fun lc vy=>?_⟩
  obtain⟨cs,Y6⟩:∃cs,qu (ns.map V.int) (some ((st:Nat):Int)) (some ((st:Int)+24))=cs:=⟨_,rfl⟩
  rw [Y6]
  have ci:∀x∈cs,∃z,x=V.int z:=fun x hx=>by
   rw [←Y6] at hx
   have h1:=List.mem_of_mem_drop (List.mem_of_mem_take hx)
   obtain⟨z,_,e⟩:=List.mem_map.mp h1
   exact⟨z,e.symm⟩
  have nN:cs.length≤24:=by
   rw [←Y6]
   unfold qu
   rw [show(st:Int)+24=((st+24:Nat):Int)by simp,HT.tI,HT.tI,List.length_take]
   omega
  have s3:=s2.trans (ak.put (o:=.lst cs) vy)
  have MY:upd H2 lc (.lst cs) lc=some (.lst cs):=ae
  have Ra:=(ak.put (o:=.lst cs) vy) _ _ nQ
  have ud:=(ak.put (o:=.lst cs) vy) _ _ gh
  have age:H lc=none:=s2.free vy
  have ncr:lc≠lr:=(ao nQ vy).symm
  have ncp:lc≠lp:=(ao gh vy).symm
  generalize upd H2 lc (.lst cs)=H3 at s3 MY Ra ud
  have nlb:∀b,H b=none→M.lb≠b:=fun b hb z=>by
   have:=hT.lb
   rw [z,hb] at this
   cases this
  have G0:GR a K H3 M lr lp [] [] 1000:=⟨hT.same s3,Ra,ud,fun n hn=>(nomatch hn),rfl,fun i p n _ h=>by simp at h,by simp [da,Y5],(fun b hb=>by
   rcases List.mem_cons.mp hb with rfl | hb
   ·exact⟨hT.gP Xn,nlb _ Xn⟩
   ·rcases List.mem_cons.mp hb with rfl | hb
    ·exact⟨hT.gP MX,nlb _ MX⟩
    ·simp at hb),fun i p n h=>by simp at h⟩
  refine⟨lc,rfl,⟨_,aF.of MY⟩,dw cs (IG1 a K M sc lr lp lc st cs H)
   ⟨none,none,none,none,none,none,none,[],[],rfl,ak.kp s3,MY,G0,Nat.zero_le _,fun n hn=>(nomatch hn),fun b hb=>?_,fun p hp=>(nomatch hp)⟩ ?_ ?_ ?_⟩
  ·rcases List.mem_cons.mp hb with rfl | hb
   ·exact Xn
   ·rcases List.mem_cons.mp hb with rfl | hb
    ·exact MX
    ·simp at hb
  ·rintro i σ H4 _ ⟨_,_,_,_,_,_,_,_,_,rfl,_,A6,_⟩
   exact aF.of A6
  ·rintro i x σ H4 hi ⟨o5,o6,o7,o8,o9,jE,vw,E,N,rfl,k4,A6,G4,Eb,Rc,Ed,zt⟩
   obtain⟨c,rfl⟩:=ci x (List.mem_of_getElem? hi)
   have PV:=(List.getElem?_eq_some_iff.mp hi).1
   refine gN ?_
   refine a6.of (ag (aN (i:=6) cU.nd rfl (Or.inl rfl) (aD (Xe T) (hr.mono (by decide)) rfl T.QO T.ph.kp T.QN .nil ar (aa (pv 5) af))) (ag (aN (i:=7) cU.nd rfl (Or.inl rfl) (aG ay (@bD _ _ _ _ (@aa _ _ _ _ _ aT (@aa _ _ _ _ _ aT (@aa _ _ _ _ _ aT (@aa _ _ _ _ _ aT af rfl) rfl) rfl) rfl)) (aL df (pv 6) aq) (fun _ _=>rfl))) (ag (aN (i:=8) cU.nd rfl (Or.inl rfl) (aG ay (bD (aa (aL df (aL cQ (pv 6) aq) aq) (aa aq (aa aq af)))) (jh PySem.F.plainAttrs_list PySem.F.slot_list_index PySem.F.type_list_index DD (bD (aa aT (aa aT (aa aT af)))) (aa (pv 7) af)) (fun _ _=>rfl))) (ag (aN (i:=9) cU.nd rfl (Or.inl rfl) dc) (ag tO aw))))) ?_
   dsimp! []
   refine⟨c,rfl,fun z=>⟨by simp [sizeLine_eq],fun l1 d_=>⟨z,rfl,by decide,?_⟩⟩⟩
   obtain⟨t1,hso,hsz,Rl,aaD,hw1⟩:∃t1:Tg,qm [V.str "plain",V.str "plain",V.str "weak",V.str "pair"] (z % 4)=some (.str t1.sort)∧qm [V.int (z / 4 % 4),V.int 1,V.int 2] (t1.kn:Int)=some (.int (t1.fs.length:Nat))∧(∀v∈t1.fs,v=Vl.no)∧t1.fs.length≤3∧t1.words=none:=by
    have jX:∀k:Int,(k=0∨k=1)→∃t1:Tg,qm [V.str "plain",V.str "plain",V.str "weak",V.str "pair"] k=some (.str t1.sort)∧qm [V.int (z / 4 % 4),V.int 1,V.int 2] (t1.kn:Int)=some (.int (t1.fs.length:Nat))∧(∀v∈t1.fs,v=Vl.no)∧t1.fs.length≤3∧t1.words=none:=fun k hk=>by
     refine⟨.plain (List.replicate (z / 4 % 4).toNat .no) none,?_,?_,fun v hv=>List.eq_of_mem_replicate hv,?_,rfl⟩
     ·rcases hk with rfl | rfl <;> rfl
     ·show some (V.int (z / 4 % 4))=_
      congr 2
      show _=(((List.replicate (z / 4 % 4).toNat Vl.no).length:Nat):Int)
      rw [List.length_replicate]
      omega
     ·show(List.replicate (z / 4 % 4).toNat Vl.no).length≤3
      rw [List.length_replicate]
      omega
    rcases (by omega:z % 4=0∨z % 4=1∨z % 4=2∨z % 4=3)with e | e | e | e <;> rw [e]
    ·exact jX 0 (.inl rfl)
    ·exact jX 1 (.inr rfl)
    ·exact⟨.weak .no,rfl,rfl,fun v hv=>List.mem_singleton.mp hv,by decide,rfl⟩
    ·exact⟨.pair .no .no,rfl,rfl,fun v hv=>by
      have:v∈[Vl.no,Vl.no]:=hv
      simpa using this,by decide,rfl⟩
   have s5:=ak.put (o:=.lst [V.str "plain",V.str "plain",V.str "weak",V.str "pair"]) d_
   have aaE:upd H4 l1 (.lst [V.str "plain",V.str "plain",V.str "weak",V.str "pair"]) l1=some (.lst [V.str "plain",V.str "plain",V.str "weak",V.str "pair"]):=ae
   generalize upd H4 l1 (.lst [V.str "plain",V.str "plain",V.str "weak",V.str "pair"])=H5 at s5 aaE
   refine⟨l1,_,_,_,rfl,rfl,aF.of aaE,hso,z,rfl,.small (by decide) (by decide),by decide,by simp [sizeLine_eq],fun l2 eM=>⟨by simp [sizeLine_eq],fun l3 uc=>?_⟩⟩
   have s6:=s5.trans ((ak.put (o:=.lst [V.int (z / 4 % 4),V.int 1,V.int 2]) eM).trans (ak.put (o:=.lst [V.str "plain",V.str "weak",V.str "pair"]) uc))
   have aaF:upd (upd H5 l2 (.lst [V.int (z / 4 % 4),V.int 1,V.int 2])) l3 (.lst [V.str "plain",V.str "weak",V.str "pair"]) l2=some (.lst [V.int (z / 4 % 4),V.int 1,V.int 2]):=(ak.put (o:=.lst [V.str "plain",V.str "weak",V.str "pair"]) uc) _ _ ae
   have Xo:upd (upd H5 l2 (.lst [V.int (z / 4 % 4),V.int 1,V.int 2])) l3 (.lst [V.str "plain",V.str "weak",V.str "pair"]) l3=some (.lst [V.str "plain",V.str "weak",V.str "pair"]):=ae
   generalize upd (upd H5 l2 (.lst [V.int (z / 4 % 4),V.int 1,V.int 2])) l3 (.lst [V.str "plain",V.str "weak",V.str "pair"])=H6 at s6 aaF Xo
   refine⟨.inl ⟨rfl,_,aF.of Xo⟩,["plain","weak","pair"],t1.sort,rfl,Xo,t1.kn,t1.ix,t1.ixn,by decide,l2,_,_,_,rfl,rfl,aF.of aaF,hsz,?_⟩
   refine Cq (JG1 M sc lr lp st c z t1 H6) (Mv.of (cO (PW.pt (eZ (aH cX (pv 7) aT (aQ _)) (gp (aH cX (aL df (aL cQ (pv 6) aq) aq) aq (aQ _))))) (ah (aN (i:=9) cU.nd rfl (Or.inl rfl) (aL df (aL cQ (pv 6) aq) (aL Ak aq aq)))) bB) ?_) ?_
   ·have CW:(t1.Jx none).words=none:=by
     cases t1 <;> rfl
    dsimp! [e60]
    refine mP (fun hp=>⟨.small (by decide) (by decide),by decide,mP (fun _=>?_) fun _=>⟨none,_,_,rfl,CW,rfl⟩⟩) fun _=>⟨none,_,_,rfl,CW,rfl⟩
    have gh:t1.sort="plain":=of_decide_eq_true hp
    refine⟨.small (by decide) (by decide),⟨by decide,by decide,by decide⟩,by decide,some (z / 48 % 1000000000000000000000000000000000000000000000000000000000000),_,_,rfl,?_,rfl⟩
    cases t1 with
    | plain fs w=>rfl
    | weak f=>exact absurd gh AS
    | pair k v=>exact absurd gh ub
   ·rintro σ' H' ⟨w,jE,vw,rfl,hw,rfl⟩
    obtain⟨t,et⟩:∃t,t1.Jx w=t:=⟨_,rfl⟩
    have ets:t.sort=t1.sort:=by
     rw [←et]
     cases t1 <;> rfl
    have etf:t.fs=t1.fs:=by
     rw [←et]
     cases t1 <;> rfl
    rw [et] at hw
    rw [←etf] at Rl aaD ⊢
    rw [←ets]
    refine a6.of (ag (aN (i:=10) cU.nd rfl (Or.inl rfl) (aL Av (bD (aa (dg (aa aT af)) af)) (pv 8))) (ag (aN (i:=11) cU.nd rfl (Or.inl rfl) (aC (pv 1) T.au T.IJ (WM T) (hr.mono (by decide)) T.QG .nil ar (aa (aD (Xg T) (hr.mono (by decide)) rfl T.QS T.pk.kp T.QR .nil ar (aa (pv 7) (aa (pv 10) (aa (pv 9) af)))) (aa (aL de (aL g8 aq (bh a9 rfl T.dI dr (aa (pv 3) af))) aq) (aa gM af))))) (ah (cO (aH gq (pv 11) dc (aQ _)) (ag (aV (jh PySem.F.plainAttrs_list PySem.F.slot_list_append PySem.F.type_list_append dj (pv 3) (@aa _ _ _ _ _ (@bD _ _ _ _ (@aa _ _ _ _ _ (pv 7) (@aa _ _ _ _ _ (pv 10) (@aa _ _ _ _ _ (pv 9) (@aa _ _ _ _ _ (aL cQ (pv 6) (aL Ak aq aq)) af rfl) rfl) rfl) rfl)) af rfl))) (ah (aV (jh PySem.F.plainAttrs_list PySem.F.slot_list_append PySem.F.type_list_append dj (pv 4) (aa (pv 11) af))))) bB)))) ?_
    dsimp! [e62]
    refine⟨by simp [sizeLine_eq],fun tn htn=>⟨by simp [sizeLine_eq],fun ln hln=>?_⟩⟩
    have s7:=s6.trans ((ak.put (o:=.tup [V.str "nothing"]) htn).trans (ak.put (o:=.lst [V.ref tn]) hln))
    have aaG:upd (upd H' tn (.tup [V.str "nothing"])) ln (.lst [V.ref tn]) tn=some (.tup [V.str "nothing"]):=(ak.put (o:=.lst [V.ref tn]) hln) _ _ ae
    have aaH:upd (upd H' tn (.tup [V.str "nothing"])) ln (.lst [V.ref tn]) ln=some (.lst [V.ref tn]):=ae
    generalize upd (upd H' tn (.tup [V.str "nothing"])) ln (.lst [V.ref tn])=H7 at s7 aaG aaH
    refine⟨ln,_,_,rfl,rfl,aaH,by omega,by omega,by rw [Int.toNat_natCast,List.length_singleton,Nat.one_mul]; exact Nat.le_of_lt (a5 (by omega)),fun fl sL=>?_⟩
    rw [Int.toNat_natCast,uk]
    have s8:=s7.trans (ak.put (o:=.lst (List.replicate t.fs.length (V.ref tn))) sL)
    have Jy:upd H7 fl (.lst (List.replicate t.fs.length (V.ref tn))) fl=some (.lst (List.replicate t.fs.length (V.ref tn))):=ae
    have aaI:=(ak.put (o:=.lst (List.replicate t.fs.length (V.ref tn))) sL) _ _ aaG
    have Jz:H4 fl=none:=s7.free sL
    generalize upd H7 fl (.lst (List.replicate t.fs.length (V.ref tn)))=H8 at s8 Jy aaI
    have MZ:eC K H8 (List.replicate t.fs.length (V.ref tn)) t.fs:=eC.nos ⟨tn,rfl,dO.of aaI⟩ Rl
    have G8:=G4.same s8
    obtain⟨dx8,hM8⟩:=G8.tm.ob
    refine⟨_,_,hM8,aW,fl,_,t,by rw [hw],aF.of Jy,MZ,by rw [List.length_replicate]; omega,fun p d H9 s9 hp hd hT9=>?_⟩
    have s09:=s8.trans s9
    have G9:=G8.same s9
    have Xq:=G4.len
    refine⟨_,.inl (aF.of G9.hr),.inl ⟨by decide,by decide⟩,?_⟩
    obtain⟨xs,R,hR,eR⟩:=id G9.tm
    have hRl:R.length=E.length:=by
     rw [←eR,List.length_map]
    refine⟨M,xs,_,p,d,t,_,_,rfl,hR.mem,hT9,by omega,by rw [List.length_map]; omega,?_⟩
    have hc9:=s09 _ _ A6
    have aaJ:H fl=none:=by
     cases e:H fl with
     | none=>rfl
     | some u=>
      by_cases z:M.own fl
      ·exact absurd z (G4.tm.gP Jz)
      ·rw [k4 fl u z e] at Jz
       cases Jz
    constructor
    ·intro g csx Aa hg vz JA agf
     have Xr:=hR.more vz JA agf
     rw [eR] at Xr
     have nof:¬M.own fl:=G4.tm.gP Jz
     have CY:=vz _ _ nof (s9 _ _ Jy)
     have CZ:=(MZ.same s9).kp vz G9.tm.mu
     have aaK:=vz _ _ (hT.gP age) hc9
     have JB:=vz _ _ (G9.no lr List.mem_cons_self).1 G9.hr
     have JC:=vz _ _ (G9.no lp (List.mem_cons_of_mem _ List.mem_cons_self)).1 G9.hp
     dsimp! []
     refine⟨.inl ⟨rfl,_,aF.of JB⟩,⟨by decide,by decide,by decide⟩,⟨by decide,.inr (by decide +kernel)⟩,by simp [sizeLine_eq],fun ra zu=>?_⟩
     have agg:lr≠ra:=ao JB zu
     have aaL:lp≠ra:=ao JC zu
     refine⟨lr,_,_,rfl,rfl,by rw [ai agg]; exact JB,a5 (by rw [List.length_map]; omega),.inl ⟨rfl,_,aF.of (by rw [ai Y5.symm,ai aaL]; exact JC)⟩,lp,_,_,rfl,rfl,by rw [ai Y5.symm,ai aaL]; exact JC,a5 (by rw [List.length_map]; omega),?_⟩
     have M0:∀b∈da lr lp N,b≠fl:=fun b hb=>by
      obtain⟨u,e⟩:=G4.kJ b hb
      exact ao e Jz
     rw [←hw]
     obtain⟨G11,Lo⟩:=G9.more (ra:=ra) (num:=z / 100000000000000000000000000000000000000000000000000000000000000) vz Xr CY CZ (by rw [List.length_replicate]; exact aaD) M0 ⟨nof,nlb _ aaJ⟩ zu Rl Rc (by rw [List.length_map,Xq]) rfl
     have kk:Kp M.own H Aa:=(k4.trans (ak.kp s09)).trans vz
     refine⟨_,_,_,_,_,_,_,_,_,rfl,fun b u n e=>?_,Lo _ _ (fun z=>?_) aaK,G11,by rw [List.length_append,List.length_singleton]; omega,fun n hn=>?_,fun b hb=>?_,fun p hp=>?_⟩
     ·refine Lo b u (fun z=>?_) (kk b u n e)
      rcases z with rfl | rfl
      ·rw [Xn] at e
       cases e
      ·rw [MX] at e
       cases e
     ·rcases z with z | z
      ·exact ncr z
      ·exact ncp z
     ·rcases List.mem_append.mp hn with hn | hn
      ·exact Rc n hn
      ·rw [List.mem_singleton.mp hn]
       exact Rl
     ·have Xs:H ra=none:=by
       cases e:H ra with
       | none=>rfl
       | some u=>
        by_cases z:M.own ra
        ·exact absurd z (Xr.gP zu)
        ·rw [kk ra u z e] at zu
         cases zu
      unfold da at hb Ed
      rw [List.map_append,List.map_append] at hb
      simp only [List.mem_cons,List.mem_append,List.map_cons,List.map_nil,List.not_mem_nil,or_false] at hb Ed
      rcases hb with z | z | (z | z) | (z | z)
      ·exact Ed b (.inl z)
      ·exact Ed b (.inr (.inl z))
      ·exact Ed b (.inr (.inr (.inl z)))
      ·rw [z]
       exact Xs
      ·exact Ed b (.inr (.inr (.inr z)))
      ·rw [z]
       exact aaJ
     ·rcases List.mem_append.mp hp with hp | hp
      ·exact zt p hp
      ·rw [List.mem_singleton.mp hp]
    ·intro Aa hg Cm
     dsimp! []
     exact⟨_,_,_,_,_,_,_,E,N,rfl,(k4.trans (ak.kp s09)).trans (ak.kp Cm),Cm _ _ hc9,G9.same Cm,by omega,Rc,Ed,zt⟩
  ·rintro σ H4 ⟨o5,o6,o7,o8,o9,jE,vw,E,N,rfl,k4,A6,G4,Eb,Rc,Ed,zt⟩
   have aaM:E.length≤24:=by omega
   refine a6.of (ag (bM PassesOwn.never rfl (cG rfl T.cF (aa (bh a9 rfl T.dI dr (aa (pv 3) af)) af)) (a7 (i:=12) cU.nd rfl (Or.inl rfl)) aw) aw) ?_
   dsimp! []
   have Xq:=G4.len
   refine⟨_,.inl (aF.of G4.hr),by rw [List.length_map]; omega,by rw [List.length_map]; omega,?_⟩
   rw [List.length_map]
   have aaN:∀n∈N,∀z,Vl.th z∈n.t.fs→0≤z∧z < (E.length:Int):=fun n hn z hz=>by
    have:=Rc n hn _ hz
    cases this
   obtain⟨L,hLE⟩:∃L,E.length=L:=⟨_,rfl⟩
   rw [hLE] at aaN aaM Xq
   rw [←Xq]
   clear Rc Eb
   refine ee (IG2 a K M sc lr lp st L H)
    ⟨o5,o6,o7,o8,o9,jE,vw,none,none,none,E,N,rfl,k4,G4,hLE,aaN,Ed,zt⟩ ?_ ?_
   ·rintro k σ H5 hk ⟨o5,o6,o7,o8,o9,jE,vw,Xl,Ad,Rm,E,N,rfl,k5,G5,hE5,Xt,M3,Xu⟩
    have vA:k < N.length:=by rw [←G5.len,hE5]; exact hk
    have hkE:k < E.length:=by rw [hE5]; exact hk
    obtain⟨n,en⟩:∃n,N[k]=n:=⟨_,rfl⟩
    obtain⟨⟨pl,e⟩,ep⟩:∃p,E[k]=p:=⟨_,rfl⟩
    have hn:N[k]?=some n:=by rw [List.getElem?_eq_getElem vA,en]
    have hp:E[k]?=some (pl,e):=by rw [List.getElem?_eq_getElem hkE,ep]
    have fV:=List.mem_of_getElem? hn
    have A7:=(G5.ok n fV).row
    obtain⟨fx0,agh,aaO,zx⟩:=(G5.ok n fV).EU
    have A8:qm (N.map fun n=>V.ref n.ra) (k:Int)=some (V.ref n.ra):=bp (by rw [List.getElem?_map,hn]; rfl)
    refine gN ?_
    refine a6.of (ag (aN (i:=6) cU.nd rfl (Or.inl rfl) (aG ay (aG ay (pv 3) (pv 12) (fun _ _=>rfl)) aq (fun _ _=>rfl))) (ag (aN (i:=10) cU.nd rfl (Or.inl rfl) (bD af)) (ag (bM PassesOwn.never rfl (cG rfl T.cF (aa (bh a9 rfl T.dI dr (aa (aG ay (aG ay (pv 3) (pv 12) (fun _ _=>rfl)) aq (fun _ _=>rfl)) af)) af)) (a7 (i:=13) cU.nd rfl (Or.inl rfl)) aw) aw))) ?_
    dsimp! [Int.zero_add]
    refine⟨lr,_,_,_,rfl,rfl,aF.of G5.hr,A8,n.ra,_,_,_,rfl,rfl,aF.of A7,rfl,fun fU uo=>?_⟩
    have s6:=ak.put (o:=.lst []) uo
    have G6:=G5.same s6
    have JD:upd H5 fU (.lst []) fU=some (.lst []):=ae
    have B8:fU∉da lr lp N:=fun z=>by
     obtain⟨u,e⟩:=G5.kJ _ z
     rw [e] at uo
     cases uo
    have hfo:¬M.own fU∧M.lb≠fU:=⟨G5.tm.gP uo,fun z=>by
     have:=G5.tm.lb
     rw [z,uo] at this
     cases this⟩
    have Rn:=s6 _ _ A7
    have aaP:=s6 _ _ agh
    have k6:=k5.trans (ak.kp (S:=M.own) s6)
    generalize upd H5 fU (.lst [])=H6 at s6 G6 JD Rn aaP k6
    refine⟨lr,_,_,_,rfl,rfl,aF.of G6.hr,A8,n.ra,_,_,_,rfl,rfl,aF.of Rn,rfl,n.fl,rfl,_,.inl (aF.of aaP),by omega,by omega,?_⟩
    obtain⟨r1,r2⟩:=G5.rel k _ _ (by omega) hp hn
    have agi:fx0.length=e.t.fs.length:=by
     rw [r2,List.length_map]
     exact aaO.1.symm
    refine ee (fun j σ H7=>IS3 M sc lr lp fU st k σ∧IR3 a K M lr lp fU L k N n pl e E H j H7)
     ⟨⟨n.num,_,_,_,_,_,Ad,Rm,rfl⟩,E,e,[],[],k6,G6.ex (by omega) k,rfl,hp,r1,rfl,JD,eC.nil _ _,rfl,fun z hz=>(nomatch hz),Xu⟩ ?_ ?_
    ·rintro j σ H7 hj ⟨⟨num,o5,o7,o8,o9,vw,Ad,Rm,rfl⟩,E',e',fx,vs,k7,G7,Y7,M4,hs7,hf7,Xv,M5,hvj,qB,M6⟩
     have aaQ:E'.length=L:=by
      have:=congrArg List.length Y7
      rw [List.length_map,List.length_map] at this
      omega
     have ahD:=A8
     have Ro:=(G7.ok n fV).row
     refine gN ?_
     refine a6.of (ag (aN (i:=14) cU.nd rfl (Or.inl rfl) (aG ay (bD (aa (dg (aa aT af)) (aa (dg (aa aT (aa (aL df (pv 6) aq) af))) (aa (dg (aa aT (aa (aL df (aL cQ (pv 6) aq) (bh a9 rfl T.dI dr (aa (pv 3) af))) af))) af)))) (bh (rA rfl) rfl T.zg Ft (aa aq (aa (aL df (pv 6) aq) af))) (fun _ _=>rfl))) (ag tO aw)) ?_
     dsimp! [Int.zero_add]
     have ahE:0 < L:=by omega
     refine⟨by simp [sizeLine_eq],fun t1 Xw=>⟨by decide,by simp [sizeLine_eq],fun t2 P0=>⟨.small (by decide) (by decide),N.map fun n=>V.ref n.ra,.inl (((ak.put Xw).trans (ak.put P0)).seq (aF.of G7.hr)),by rw [List.length_map]; omega,by simp [sizeLine_eq],fun t3 ht3=>⟨by simp [sizeLine_eq],fun l4 AV=>⟨by decide,?_⟩⟩⟩⟩⟩
     rw [List.length_map,←G7.len,aaQ] at AV ⊢
     have s1':=(ak.put (o:=.tup [V.str "nothing"]) Xw)
     have s2':=(ak.put (o:=.tup [V.str "number",V.int (num % 7)]) P0)
     have s3':=(ak.put (o:=.tup [V.str "thing",V.int (num / 5 % (L:Int))]) ht3)
     have s4':=(ak.put (o:=.lst [V.ref t1,V.ref t2,V.ref t3]) AV)
     have s8:=((s1'.trans s2').trans s3').trans s4'
     have i1:=(s2'.trans (s3'.trans s4')) _ _ (ae (H:=H7) (a:=t1) (o:=.tup [V.str "nothing"]))
     have i2:=(s3'.trans s4') _ _ (ae (H:=upd H7 t1 (.tup [V.str "nothing"])) (a:=t2) (o:=.tup [V.str "number",V.int (num % 7)]))
     have i3:=s4' _ _ (ae (H:=upd (upd H7 t1 (.tup [V.str "nothing"])) t2 (.tup [V.str "number",V.int (num % 7)])) (a:=t3) (o:=.tup [V.str "thing",V.int (num / 5 % (L:Int))]))
     have i4:upd (upd (upd (upd H7 t1 (.tup [V.str "nothing"])) t2 (.tup [V.str "number",V.int (num % 7)])) t3 (.tup [V.str "thing",V.int (num / 5 % (L:Int))])) l4 (.lst [V.ref t1,V.ref t2,V.ref t3]) l4=some (.lst [V.ref t1,V.ref t2,V.ref t3]):=ae
     generalize upd (upd (upd (upd H7 t1 (.tup [V.str "nothing"])) t2 (.tup [V.str "number",V.int (num % 7)])) t3 (.tup [V.str "thing",V.int (num / 5 % (L:Int))])) l4 (.lst [V.ref t1,V.ref t2,V.ref t3])=H8 at s8 i1 i2 i3 i4
     clear s1' s2' s3' s4'
     have m0:=Int.emod_nonneg (num / 5) (show(L:Int)≠0 by omega)
     have m1:=Int.emod_lt_of_pos (num / 5) (show(0:Int) < (L:Int)by omega)
     obtain⟨y,v,PX,hy,Ee⟩:∃y v,qm [V.ref t1,V.ref t2,V.ref t3] (if num % 5 < 2 then num % 5 else 2)=some y∧c_ K H8 y v∧∀z,v=Vl.th z→0≤z∧z < (L:Int):=by
      rcases (by omega:num % 5=0∨num % 5=1∨2≤num % 5)with e | e | e
      ·rw [e]
       exact⟨_,.no,rfl,⟨t1,rfl,dO.of i1⟩,fun z h=>nomatch h⟩
      ·rw [e]
       exact⟨_,.num _,rfl,⟨t2,rfl,dO.of i2⟩,fun z h=>nomatch h⟩
      ·rw [if_neg (by omega)]
       exact⟨_,.th _,rfl,⟨t3,rfl,dO.of i3⟩,fun z h=>by cases h; exact⟨m0,m1⟩⟩
     refine⟨l4,_,_,_,rfl,rfl,aF.of i4,PX,?_⟩
     have G8:=G7.same s8
     have k8:=k7.trans (ak.kp (S:=M.own) s8)
     have Jy:=s8 _ _ Xv
     have MZ:=M5.same s8
     clear i1 i2 i3 i4 Xw P0 ht3 AV PX
     refine Cq (JG3 K M sc lr lp fU st k j L num H8) (Mv.of (cO (PW.pt (eZ (aH rz (aG ay (aG ay (pv 3) (pv 12) (fun _ _=>rfl)) aq (fun _ _=>rfl)) aT (aQ _)) (eZ (aH cX (pv 13) aq (aQ _)) (gp (aH cX (aG dy (pv 14) aq (fun _ _=>rfl)) aT (aQ _)))))) (ah (aN (i:=14) cU.nd rfl (Or.inl rfl) (dg (aa aT af)))) bB) ?_) ?_
     ·obtain⟨ty,rfl,PF⟩:=id hy
      have aaR:=(G8.ok n fV).row
      dsimp! []
      refine⟨lr,_,_,_,rfl,rfl,aF.of G8.hr,A8,n.ra,_,_,_,rfl,rfl,aF.of aaR,rfl,rfl,mP (fun _=>mP (fun _=>⟨ty,_,_,_,rfl,rfl,PF,v.hd,rfl,mP (fun _=>⟨by simp [sizeLine_eq],fun p hp=>⟨_,_,_,_,_,_,.no,rfl,ak.put hp,⟨p,rfl,dO.of ae⟩,fun z h=>nomatch h⟩⟩) fun _=>⟨_,_,_,_,_,_,v,rfl,.refl _,hy,Ee⟩⟩) fun _=>⟨_,_,_,_,_,_,v,rfl,.refl _,hy,Ee⟩) fun _=>⟨_,_,_,_,_,_,v,rfl,.refl _,hy,Ee⟩⟩
     ·rintro σ' H' ⟨o5,o7,o8,o9,vw,y,v,rfl,s9,hy,Ee⟩
      have G9:=G8.same s9
      have k9:=k8.trans (ak.kp (S:=M.own) s9)
      have M7:=s9 _ _ Jy
      have aaS:=MZ.same s9
      obtain⟨ty,rfl,PF⟩:=id hy
      refine a6.of (ag (aV (jh PySem.F.plainAttrs_list PySem.F.slot_list_append PySem.F.type_list_append dj (pv 10) (aa (pv 14) af))) (ag (aN (i:=6) cU.nd rfl (Or.inl rfl) (aL cQ (aL cQ (pv 6) aq) (bh a9 rfl T.dI dr (aa (pv 3) af)))) (ah (cO (aH cX (aG dy (pv 14) aq (fun _ _=>rfl)) aT (aQ _)) (ah (aV (aC (pv 1) T.au T.t4 (AZ T) (hr.mono (by decide)) T.CK .nil ar (aa (aG ay (pv 4) (pv 12) (fun _ _=>rfl)) (aa (pv 13) (aa (dg (aa aT (aa (aG ay (pv 4) (aG dy (pv 14) aq (fun _ _=>rfl)) (fun _ _=>rfl)) af))) af)))))) (ah (aV (aC (pv 1) T.au T.t4 (AZ T) (hr.mono (by decide)) T.CK .nil ar (aa (aG ay (pv 4) (pv 12) (fun _ _=>rfl)) (aa (pv 13) (aa (pv 14) af)))))))))) ?_
      dsimp! []
      have aiy:=aaS.1
      refine⟨.inl ⟨rfl,_,aF.of M7⟩,fU,_,_,rfl,rfl,M7,a5 (by omega),.small (by decide) (by decide),?_⟩
      have vz:Kp (·=fU) H' (upd H' fU (.lst (fx++[V.ref ty]))):=(Kp.refl _ _).set rfl
      have mu9:∀b,b=fU→Mu H' b:=fun b e=>.inl ⟨fx,by rw [e]; exact M7⟩
      have M8:=G9.list vz M7 B8 hfo
      have CZ:=(aaS.snoc hy).kp vz mu9
      have M9:=hy.kp vz mu9
      have CY:upd H' fU (.lst (fx++[V.ref ty])) fU=some (.lst (fx++[V.ref ty])):=ae
      have aaT:H fU=none:=by
       cases e:H fU with
       | none=>rfl
       | some u=>
        rw [k5 fU u hfo.1 e] at uo
        cases uo
      have aaU:Kp M.own H (upd H' fU (.lst (fx++[V.ref ty]))):=fun b u nb e=>vz b u (ao e aaT) (k9 b u nb e)
      generalize upd H' fU (.lst (fx++[V.ref ty]))=Aa at vz M8 CZ M9 CY aaU
      have Mz:j < e.t.fs.length:=by omega
      have fin:∀(M_:Hp) (x:V) (Qp:VK),ak Aa M_→c_ K M_ x (pF (E.map (·.1)) v)→(∀H1,IR3 a K M lr lp fU L k N n pl e E H (j+1) H1→Qp .bf H1)→AY a K [.ref M.p,.int (pl:Nat),.int (j:Nat),x] M_ Qp E0:=fun M_ x Qp JE hx hq=>by
       have G11:=M8.same JE
       obtain⟨xs,R,hR,eR⟩:=id G11.tm
       have hpm:(pl,e')∈R.map Rw.v:=by
        rw [eR]
        exact List.mem_of_getElem? M4
       obtain⟨r,hrR,er⟩:=List.mem_map.mp hpm
       have er1:r.pl=pl:=congrArg Prod.fst er
       have er2:r.e=e':=congrArg Prod.snd er
       have iq:=hR.there hrR
       rw [er1,er2] at iq
       have hje:j < e'.t.fs.length:=by
        rw [hf7,List.length_append,List.length_map,List.length_drop]
        omega
       refine⟨M,xs,_,pl,e',j,x,_,rfl,iq,hje,hx,fun H12 aiz aiA k12 agj agk=>hq H12 ?_⟩
       have aaV:=hR.set k12 agj agk
       rw [eR] at aaV
       have hmd:Mu M_ M.d:=.inl ⟨xs,hR.mem.R.li⟩
       have G12:=G11.set k12 aaV M4 hmd ⟨rfl,(e'.t.iT j (pF (E.map (·.1)) v)).2.1⟩
       have agl:Kp M.own H H12:=(aaU.trans (ak.kp JE)).trans (k12.mono fun b z=>.inl z)
       obtain⟨z1,_,_,_⟩:=e'.t.iT j (pF (E.map (·.1)) v)
       refine⟨_,_,fx++[V.ref ty],vs++[v],agl,G12,by rw [pG]; exact Y7,by rw [um G11.tm.nd M4,if_pos rfl],?_,?_,?_,?_,by rw [List.length_append,List.length_singleton,hvj],fun z hz=>?_,fun p hp=>?_⟩
       ·dsimp only
        rw [z1]
        exact hs7
       ·dsimp only
        rw [Tg.ug hje,hf7,CV (by rw [List.length_map]; exact hvj) Mz,List.map_append]
        rfl
       ·exact k12 _ _ (fun z=>hfo.1 (.inl z)) (JE _ _ CY)
       ·exact(CZ.same JE).kp k12 fun b e=>by rw [e]; exact hmd
       ·rcases List.mem_append.mp hz with hz | hz
        ·exact qB z hz
        ·exact Ee z (List.mem_singleton.mp hz).symm
       ·obtain⟨p0,ZQ,rfl⟩:=List.mem_map.mp hp
        by_cases y:p0.1=pl
        ·rw [if_pos y]
         exact(M6 (pl,e') (List.mem_of_getElem? M4):e'.bR=false)
        ·rw [if_neg y]
         exact M6 _ ZQ
      have Na:∀(i:Nat) (p:Nat×En),E'[i]?=some p→qm (E'.map fun p=>V.int (p.1:Nat)) (i:Int)=some (V.int (p.1:Nat)):=fun i p hi=>bp (by rw [List.getElem?_map,hi]; rfl)
      obtain⟨_,e0,Rp⟩:=id M9
      cases e0
      obtain⟨aiB,JA⟩:=M8.tm.ob
      refine⟨_,.inl (aF.of M8.hr),?_,ty,_,_,_,rfl,rfl,Rp,v.hd,rfl,?_⟩
      ·rw [List.length_map]
       have:=M8.len
       exact .small (by omega) (by omega)
      cases v with
      | th z=>
       obtain⟨z0,z1⟩:=Ee z rfl
       obtain⟨zi,ez⟩:∃zi:Nat,z=(zi:Int):=⟨z.toNat,by omega⟩
       have hzi:zi < E'.length:=by omega
       have hgz:E'[zi]?=some E'[zi]:=List.getElem?_eq_getElem hzi
       refine e9 ⟨_,_,JA,aW,lp,_,_,_,rfl,rfl,aF.of M8.hp,Na k _ M4,ty,_,_,V.int z,rfl,rfl,Rp,rfl,lp,_,_,_,rfl,rfl,aF.of M8.hp,by rw [ez]; exact Na zi _ hgz,by simp [sizeLine_eq],fun p hp=>?_⟩
       refine fin _ _ _ (ak.put hp) ⟨p,rfl,?_⟩ fun H1 h=>⟨⟨_,_,_,_,_,_,_,_,rfl⟩,h⟩
       have ezz:pF (E.map (·.1)) (Vl.th z)=Vl.th ((E'[zi].1:Nat):Int):=by
        show Vl.th (((E.map (·.1)).getD z.toNat 0:Nat):Int)=_
        rw [ez,Int.toNat_natCast,←Y7,List.getD_eq_getElem?_getD,List.getElem?_map,hgz]
        rfl
       rw [ezz]
       exact dO.of ae
      | no=>
       refine dH ⟨_,_,JA,aW,lp,_,_,_,rfl,rfl,aF.of M8.hp,Na k _ M4,fin _ _ _ (.refl _) M9 fun H1 h=>⟨⟨_,_,_,_,_,_,_,_,rfl⟩,h⟩⟩
      | num m=>
       refine dH ⟨_,_,JA,aW,lp,_,_,_,rfl,rfl,aF.of M8.hp,Na k _ M4,fin _ _ _ (.refl _) M9 fun H1 h=>⟨⟨_,_,_,_,_,_,_,_,rfl⟩,h⟩⟩
    ·rintro σ H7 ⟨⟨num,o5,o7,o8,o9,vw,Ad,Rm,rfl⟩,E',e',fx,vs,k7,G7,Y7,M4,hs7,hf7,Xv,M5,hvj,qB,M6⟩
     refine a6.of (ah (jv (pv 10) (og (aG ay (pv 3) (pv 12) (fun _ _=>rfl)) aq set_list))) ?_
     dsimp! []
     have Ro:=(G7.ok n fV).row
     have hvn:vs.length=n.t.fs.length:=by
      rw [hvj]
      exact aaO.1.symm
     refine⟨lr,_,_,_,rfl,rfl,aF.of G7.hr,A8,n.ra,_,_,1,rfl,rfl,Ro,rfl,?_⟩
     have rk:e'.t.sort=n.t.sort∧e'.t.fs=vs.map (pF (E'.map (·.1))):=⟨hs7,by
      rw [hf7,Y7,agi,List.drop_length,List.append_nil]⟩
     obtain⟨G8,k8⟩:=G7.row hn M4 Xv M5 (by have:=M5.1; omega) hvn B8 hfo rk rfl
     have Xs:H n.ra=none:=M3 _ (fQ fV)
     refine⟨_,_,_,_,_,_,_,_,_,_,E',_,rfl,fun b u nb e=>k8 b u (ao e Xs) (k7 b u nb e),G8,?_,fun m hm z hz=>?_,fun b hb=>?_,M6⟩
     ·have:=congrArg List.length Y7
      rw [List.length_map,List.length_map] at this
      omega
     ·rcases List.mem_or_eq_of_mem_set hm with hm | rfl
      ·exact Xt m hm z hz
      ·have w3:=(n.t.zw vs hvn).2.2
       dsimp only at hz
       rw [w3] at hz
       exact qB z hz
     ·rw [pH hn] at hb
      rcases List.mem_or_eq_of_mem_set hb with hb | hb
      ·exact M3 b hb
      ·rw [hb]
       cases e:H fU with
       | none=>rfl
       | some u=>
        rw [k5 fU u hfo.1 e] at uo
        cases uo
   ·rintro σ H5 ⟨o5,o6,o7,o8,o9,jE,vw,Xl,Ad,Rm,E,N,rfl,k5,G5,hE5,Xt,M3,Xu⟩
    refine a6.of (ah (aE (dg (aa (pv 3) (aa (pv 4) af))))) ?_
    dsimp! []
    refine⟨by simp [sizeLine_eq],fun t ht=>?_⟩
    have s6:=ak.put (o:=.tup [V.ref lr,V.ref lp]) ht
    exact q t lr lp _ E N (k5.trans (ak.kp s6)) (G5.same s6) (by omega) ae M3 (by rw [hE5]; exact Xt) Xu
noncomputable def bC (E:List (Nat×En)):List (Nat×Tg×Int):=E.map fun p=>(p.1,p.2.t,p.2.bJ)
noncomputable def A9 (E:List (Nat×En)):Nat:=(E.filter fun p=>!p.2.bR).length
noncomputable def ms (S:List (Nat×En)×List Nat):Nat:=2*A9 S.1+S.2.length
noncomputable def Tg.wt:Tg→Option (Nat×Option Nat)
 | .pair (.th n) v=>some (n.toNat,v.na.map Int.toNat)
 | _=>none
noncomputable def zy (S:List (Nat×En)×List Nat) (t:Tg):List (Nat×En)×List Nat:=match t.wt with
 | some (kn,some vn)=>if cJ S.1 kn=true then gj S vn else S
 | _=>S
noncomputable def dQ (S:List (Nat×En)×List Nat) (q:Nat×Tg):List (Nat×En)×List Nat:=if cJ S.1 q.1=true then zy S q.2 else S
structure Cl (E:List (Nat×En)) (S:Nat→Prop):Prop where
 hold:∀p e,(p,e)∈E→S p→∀n:Nat,(n:Int)∈e.t.hold→S n
 wait:∀p e,(p,e)∈E→S p→∀kn vn,e.t.wt=some (kn,some vn)→S kn→S vn
theorem ef {E E':List (Nat×En)}(h:bC E'=bC E) {p:Nat}{e:En}(he:(p,e)∈E'):∃e0,(p,e0)∈E∧e0.t=e.t∧e0.bJ=e.bJ:=by
 have h1:(p,e.t,e.bJ)∈bC E:=by
  rw [←h]
  exact List.mem_map.mpr ⟨(p,e),he,rfl⟩
 obtain⟨⟨p2,e2⟩,h2,h3⟩:=List.mem_map.mp h1
 injection h3 with h4 h5
 injection h5 with h6 h7
 have h4:p2=p:=h4
 subst h4
 exact⟨e2,h2,h6,h7⟩
theorem dM {E E':List (Nat×En)}(h:bC E'=bC E):E'.map (·.1)=E.map (·.1):=by
 have:=congrArg (List.map fun(x:Nat×Tg×Int)=>x.1) h
 unfold bC at this
 rw [List.map_map,List.map_map] at this
 exact this
theorem Cl.bC {E E':List (Nat×En)}(h:bC E'=bC E) {S:Nat→Prop}(c:Cl E S):Cl E' S:=by
 refine⟨fun p e he hp n hn=>?_,fun p e he hp kn vn hw hk=>?_⟩
 ·obtain⟨e0,h0,h1,_⟩:=ef h he
  exact c.hold p e0 h0 hp n (by rw [h1]; exact hn)
 ·obtain⟨e0,h0,h1,_⟩:=ef h he
  exact c.wait p e0 h0 hp kn vn (by rw [h1]; exact hw) hk
structure Rel (E E':List (Nat×En)):Prop where
 st:bC E'=bC E
 up:∀p,cJ E p=true→cJ E' p=true
 lo:∀S:Nat→Prop,Cl E S→(∀p,cJ E p=true→S p)→∀p,cJ E' p=true→S p
theorem Rel.refl (E:List (Nat×En)):Rel E E:=⟨rfl,fun _ h=>h,fun _ _ h=>h⟩
theorem Rel.trans {E E1 E2:List (Nat×En)}(a:Rel E E1) (b:Rel E1 E2):Rel E E2:=⟨b.st.trans a.st,fun p h=>b.up p (a.up p h),fun S c h=>b.lo S (c.bC a.st) (a.lo S c h)⟩
theorem dq {E:List (Nat×En)}{p:Nat}:cJ E p=true↔∃e,(p,e)∈E∧e.bR=true:=by
 unfold cJ
 rw [List.any_eq_true]
 constructor
 ·rintro⟨⟨q,e⟩,hq,z⟩
  rw [Bool.and_eq_true] at z
  have h1:q=p:=of_decide_eq_true z.1
  subst h1
  exact⟨e,hq,z.2⟩
 ·rintro⟨e,he,z⟩
  exact⟨_,he,by rw [decide_eq_true rfl,z]; rfl⟩
theorem nX {E:List (Nat×En)}{q p:Nat}:cJ (setM E q) p=true↔cJ E p=true∨(p=q∧p∈E.map (·.1)):=by
 rw [dq,dq]
 constructor
 ·rintro⟨e,he,z⟩
  obtain⟨⟨p2,e2⟩,h2,h3⟩:=List.mem_map.mp he
  by_cases c:p2=q
  ·rw [if_pos c] at h3
   injection h3 with h4 h5
   have h4:p2=p:=h4
   exact .inr ⟨h4.symm.trans c,List.mem_map.mpr ⟨_,h2,h4⟩⟩
  ·rw [if_neg c] at h3
   injection h3 with h4 h5
   subst h4
   subst h5
   exact .inl ⟨_,h2,z⟩
 ·rintro(⟨e,he,z⟩ | ⟨rfl,hp⟩)
  ·by_cases c:p=q
   ·exact⟨⟨e.t,e.bJ,true⟩,List.mem_map.mpr ⟨_,he,by rw [if_pos c]⟩,rfl⟩
   ·exact⟨e,List.mem_map.mpr ⟨_,he,by rw [if_neg c]⟩,z⟩
  ·obtain⟨⟨p2,e2⟩,h2,h3⟩:=List.mem_map.mp hp
   have h3:p2=p:=h3
   subst h3
   exact⟨⟨e2.t,e2.bJ,true⟩,List.mem_map.mpr ⟨_,h2,by rw [if_pos rfl]⟩,rfl⟩
theorem Ef (E:List (Nat×En)) (q:Nat):bC (setM E q)=bC E:=by
 unfold bC setM
 rw [List.map_map]
 refine List.map_congr_left fun p _=>?_
 show(fun p:Nat×En=>(p.1,p.2.t,p.2.bJ)) (if p.1=q then(p.1,(⟨p.2.t,p.2.bJ,true⟩:En))else p)=_
 split <;> rfl
theorem JF:∀(E:List (Nat×En)) (q:Nat),A9 (setM E q)≤A9 E
 | [],_=>Nat.le_refl _
 | p::E,q=>by
  have ih:=JF E q
  unfold A9 setM at ih ⊢
  rw [List.map_cons,List.filter_cons,List.filter_cons]
  by_cases c:p.1=q
  ·rw [if_pos c]
   cases p.2.bR <;> simp <;> omega
  ·rw [if_neg c]
   cases p.2.bR <;> simp <;> omega
theorem JG:∀(E:List (Nat×En)) (q:Nat),(∃e,(q,e)∈E∧e.bR=false)→A9 (setM E q) < A9 E
 | [],_,h=>by
  obtain⟨_,h,_⟩:=h
  cases h
 | p::E,q,h=>by
  obtain⟨e,he,hm⟩:=h
  have le:=JF E q
  by_cases c:p.1=q∧p.2.bR=false
  ·unfold A9 setM at le ⊢
   rw [List.map_cons,List.filter_cons,List.filter_cons,if_pos c.1,c.2]
   simp
   omega
  ·have ih:=JG E q ⟨e,(by
    rcases List.mem_cons.mp he with z | z
    ·exact absurd ⟨by rw [←z],by rw [←z]; exact hm⟩ c
    ·exact z),hm⟩
   unfold A9 setM at ih ⊢
   rw [List.map_cons,List.filter_cons,List.filter_cons]
   by_cases c1:p.1=q
   ·rw [if_pos c1]
    cases h2:p.2.bR
    ·exact absurd ⟨c1,h2⟩ c
    ·simpa using ih
   ·rw [if_neg c1]
    cases p.2.bR <;> simp <;> omega
structure A_ (S S':List (Nat×En)×List Nat):Prop where
 st:bC S'.1=bC S.1
 up:∀p,cJ S.1 p=true→cJ S'.1 p=true
 pre:∃more,S'.2=S.2++more
 new:∀p,cJ S'.1 p=true→cJ S.1 p=true∨p∈S'.2
 ms:ms S'≤ms S
 none:S'.2=S.2→S'=S
theorem A_.refl (S:List (Nat×En)×List Nat):A_ S S:=⟨rfl,fun _ h=>h,⟨[],by simp⟩,fun _ h=>.inl h,Nat.le_refl _,fun _=>rfl⟩
theorem A_.trans {S S1 S2:List (Nat×En)×List Nat}(a:A_ S S1) (b:A_ S1 S2):A_ S S2:=by
 obtain⟨m1,e1⟩:=a.pre
 obtain⟨m2,e2⟩:=b.pre
 refine⟨b.st.trans a.st,fun p h=>b.up p (a.up p h),⟨m1++m2,by rw [e2,e1,List.append_assoc]⟩,fun p h=>?_,Nat.le_trans b.ms a.ms,fun e=>?_⟩
 ·rcases b.new p h with h | h
  ·rcases a.new p h with h | h
   ·exact .inl h
   ·exact .inr (by rw [e2]; exact List.mem_append_left _ h)
  ·exact .inr h
 ·rw [e2,e1,List.append_assoc] at e
  have h0:m1++m2=[]:=List.append_right_eq_self.mp e
  have h1:=List.append_eq_nil_iff.mp h0
  have h2:S2=S1:=b.none (by rw [e2,h1.2,List.append_nil])
  have h3:S1=S:=a.none (by rw [e1,h1.1,List.append_nil])
  rw [h2,h3]
theorem Ba (S:List (Nat×En)×List Nat) {q:Nat}(hq:q∈S.1.map (·.1)):A_ S (gj S q)∧cJ (gj S q).1 q=true∧∀p,cJ (gj S q).1 p=true→cJ S.1 p=true∨p=q:=by
 unfold gj
 by_cases c:cJ S.1 q=true
 ·rw [if_pos c]
  exact⟨.refl S,c,fun _ h=>.inl h⟩
 ·rw [if_neg c]
  have fo:A9 (setM S.1 q) < A9 S.1:=by
   obtain⟨⟨q2,e⟩,he,h2⟩:=List.mem_map.mp hq
   have h2:q2=q:=h2
   subst h2
   refine JG S.1 q2 ⟨e,he,?_⟩
   cases h:e.bR with
   | false=>rfl
   | true=>exact absurd (dq.mpr ⟨e,he,h⟩) c
  refine⟨⟨Ef _ _,fun p h=>nX.mpr (.inl h),⟨[q],rfl⟩,fun p h=>?_,?_,fun e=>?_⟩,nX.mpr (.inr ⟨rfl,hq⟩),fun p h=>?_⟩
  ·rcases nX.mp h with h | ⟨rfl,_⟩
   ·exact .inl h
   ·exact .inr (List.mem_append_right _ (List.mem_singleton_self _))
  ·unfold bI.ms
   show 2*A9 (setM S.1 q)+(S.2++[q]).length≤_
   rw [List.length_append,List.length_singleton]
   omega
  ·have:S.2++[q]=S.2:=e
   simp at this
  ·rcases nX.mp h with h | ⟨rfl,_⟩
   ·exact .inl h
   ·exact .inr rfl
theorem C0:∀(ps:List Nat) (S:List (Nat×En)×List Nat),(∀p∈ps,p∈S.1.map (·.1))→A_ S (ps.foldl gj S)∧(∀p∈ps,cJ (ps.foldl gj S).1 p=true)∧∀p,cJ (ps.foldl gj S).1 p=true→cJ S.1 p=true∨p∈ps
 | [],S,_=>⟨.refl S,(fun _ h=>nomatch h),fun _ h=>.inl h⟩
 | q::ps,S,h=>by
  obtain⟨a1,a2,a3⟩:=Ba S (h q List.mem_cons_self)
  obtain⟨b1,b2,b3⟩:=C0 ps (gj S q) fun p hp=>by
   rw [dM a1.st]
   exact h p (List.mem_cons_of_mem _ hp)
  rw [List.foldl_cons]
  refine⟨a1.trans b1,fun p hp=>?_,fun p hp=>?_⟩
  ·rcases List.mem_cons.mp hp with rfl | hp
   ·exact b1.up p a2
   ·exact b2 p hp
  ·rcases b3 p hp with h2 | h2
   ·rcases a3 p h2 with h3 | rfl
    ·exact .inl h3
    ·exact .inr List.mem_cons_self
   ·exact .inr (List.mem_cons_of_mem _ h2)
noncomputable def BC (E:List (Nat×En)) (G:List Nat):Prop:=∀p e,(p,e)∈E→e.bR=true→p∉G→∀n:Nat,(n:Int)∈e.t.hold→cJ E n=true
theorem BC.gj {S S':List (Nat×En)×List Nat}(hA:zp S.1) (b:BC S.1 S.2) (s:A_ S S'):BC S'.1 S'.2:=fun p e he hm hp n hn=>by
 obtain⟨more,em⟩:=s.pre
 have gh:p∉S.2:=fun z=>hp (by rw [em]; exact List.mem_append_left _ z)
 rcases s.new p (dq.mpr ⟨e,he,hm⟩)with h | h
 ·obtain⟨e0,h0,h1⟩:=dq.mp h
  obtain⟨e1,h2,h3,_⟩:=ef s.st he
  have:=hA.same h0 h2 rfl
  injection this with _ h4
  subst h4
  exact s.up n (b p e0 h0 h1 gh n (by rw [h3]; exact hn))
 ·exact absurd h hp
noncomputable def VE (E:List (Nat×En)):Prop:=∀p e,(p,e)∈E→∀n,Vl.th n∈e.t.fs→∃q:Nat,n=(q:Int)∧q∈E.map (·.1)
theorem VE.bC {E E':List (Nat×En)}(h:bC E'=bC E) (v:VE E):VE E':=fun p e he n hn=>by
 obtain⟨e0,h0,h1,_⟩:=ef h he
 obtain⟨q,h2,h3⟩:=v p e0 h0 n (by rw [h1]; exact hn)
 exact⟨q,h2,by rw [dM h]; exact h3⟩
theorem zz {P:Nat→Prop}:∀l:List Int,(∀n∈l,∃q:Nat,n=(q:Int)∧P q)→∃hn:List Nat,l=hn.map (fun(n:Nat)=>(n:Int))∧∀n∈hn,P n
 | [],_=>⟨[],rfl,(fun _ h=>nomatch h)⟩
 | x::l,h=>by
  obtain⟨q,rfl,hq⟩:=h x List.mem_cons_self
  obtain⟨hn,e,h2⟩:=zz l fun n hn=>h n (List.mem_cons_of_mem _ hn)
  refine⟨q::hn,by rw [e]; rfl,fun n h3=>?_⟩
  rcases List.mem_cons.mp h3 with rfl | h3
  ·exact hq
  ·exact h2 n h3
theorem VE.hold {E:List (Nat×En)}(v:VE E) {p:Nat}{e:En}(he:(p,e)∈E):∃hn:List Nat,e.t.hold=hn.map (fun(n:Nat)=>(n:Int))∧∀n∈hn,n∈E.map (·.1):=by
 refine zz _ fun n hn=>?_
 cases ht:e.t with
 | plain fs w=>
  rw [ht] at hn
  obtain⟨x,hx,e1⟩:=List.mem_filterMap.mp (show n∈fs.filterMap Vl.na from hn)
  cases x with
  | th m=>
   cases e1
   exact v p e he _ (by rw [ht]; exact hx)
  | no=>cases e1
  | num z=>cases e1
 | weak f=>
  rw [ht] at hn
  cases hn
 | pair k u=>
  rw [ht] at hn
  cases hn
theorem VE.wt {E:List (Nat×En)}(v:VE E) {p:Nat}{e:En}(he:(p,e)∈E) {kn:Nat}{ov:Option Nat}(hw:e.t.wt=some (kn,ov)):kn∈E.map (·.1)∧∀vn,ov=some vn→vn∈E.map (·.1):=by
 cases ht:e.t with
 | plain fs w=>rw [ht] at hw; cases hw
 | weak f=>rw [ht] at hw; cases hw
 | pair k u=>
  rw [ht] at hw
  cases k with
  | no=>cases hw
  | num z=>cases hw
  | th n=>
   cases hw
   obtain⟨q,rfl,hq⟩:=v p e he n (by rw [ht]; exact List.mem_cons_self)
   refine⟨hq,fun vn hv=>?_⟩
   cases u with
   | no=>cases hv
   | num z=>cases hv
   | th m=>
    cases hv
    obtain⟨q2,rfl,Lp⟩:=v p e he m (by rw [ht]; exact List.mem_cons_of_mem _ List.mem_cons_self)
    exact Lp
theorem C3 {E:List (Nat×En)}{G:List Nat}{p:Nat}{e:En}{hn:List Nat}(hA:zp E) (he:(p,e)∈E) (hm:e.bR=true) (hh:e.t.hold=hn.map (fun(n:Nat)=>(n:Int))) (jq:∀n∈hn,n∈E.map (·.1)) (b:BC E (p::G)) :
  Rel E (hn.foldl gj (E,G)).1∧BC (hn.foldl gj (E,G)).1 (hn.foldl gj (E,G)).2∧ms (hn.foldl gj (E,G)) < ms (E,p::G):=by
 obtain⟨s,s2,s3⟩:=C0 hn (E,G) jq
 have inh:∀n:Nat,(n:Int)∈e.t.hold↔n∈hn:=fun n=>by
  rw [hh,List.mem_map]
  constructor
  ·rintro⟨m,h1,h2⟩
   have h2:(m:Int)=(n:Int):=h2
   have h3:m=n:=by omega
   subst h3
   exact h1
  ·exact fun h=>⟨n,h,rfl⟩
 refine⟨⟨s.st,s.up,fun S c h q hq=>?_⟩,fun q e2 FG eN hq n ql=>?_,?_⟩
 ·rcases s3 q hq with h1 | h1
  ·exact h q h1
  ·exact c.hold p e he (h p (dq.mpr ⟨e,he,hm⟩)) q ((inh q).mpr h1)
 ·obtain⟨e1,h1,h3,_⟩:=ef s.st FG
  by_cases z:q=p
  ·subst z
   have:=hA.same h1 he rfl
   injection this with _ h4
   subst h4
   exact s2 n ((inh n).mp (by rw [h3]; exact ql))
  ·obtain⟨more,em⟩:=s.pre
   rcases s.new q (dq.mpr ⟨e2,FG,eN⟩)with h | h
   ·obtain⟨e0,h0,h5⟩:=dq.mp h
    have:=hA.same h0 h1 rfl
    injection this with _ h4
    subst h4
    have Lp:q∉p::G:=fun y=>by
     rcases List.mem_cons.mp y with y | y
     ·exact z y
     ·exact hq (by rw [em]; exact List.mem_append_left _ y)
    exact s.up n (b q e0 h0 h5 Lp n (by rw [h3]; exact ql))
   ·exact absurd h hq
 ·have:=s.ms
  unfold bI.ms at this ⊢
  show 2*A9 _+_ < 2*A9 E+(p::G).length
  rw [List.length_cons]
  have h2:2*A9 (hn.foldl gj (E,G)).1+(hn.foldl gj (E,G)).2.length≤2*A9 E+G.length:=this
  omega
theorem Xx {S:List (Nat×En)×List Nat}{p:Nat}{e:En}(v:VE S.1) (he:(p,e)∈S.1) (hm:cJ S.1 p=true):A_ S (zy S e.t)∧Rel S.1 (zy S e.t).1∧(zy S e.t=S→∀kn vn,e.t.wt=some (kn,some vn)→cJ S.1 kn=true→cJ S.1 vn=true):=by
 unfold zy
 cases hw:e.t.wt with
 | none=>exact⟨.refl S,.refl _,fun _ kn vn z=>nomatch z⟩
 | some x=>
  obtain⟨kn,ov⟩:=x
  cases ov with
  | none=>exact⟨.refl S,.refl _,fun _ kn vn z=>nomatch z⟩
  | some vn=>
   show A_ S (if cJ S.1 kn=true then gj S vn else S)∧Rel S.1 (if cJ S.1 kn=true then gj S vn else S).1∧_
   by_cases c:cJ S.1 kn=true
   ·rw [if_pos c]
    obtain⟨a1,a2,a3⟩:=Ba S ((v.wt he hw).2 vn rfl)
    refine⟨a1,⟨a1.st,a1.up,fun T ct h q hq=>?_⟩,fun z kn2 vn2 ew _=>?_⟩
    ·rcases a3 q hq with h1 | rfl
     ·exact h q h1
     ·exact ct.wait p e he (h p hm) kn q hw (h kn c)
    ·cases ew
     have z:(if cJ S.1 kn=true then gj S vn else S)=S:=z
     rw [if_pos c] at z
     rw [z] at a2
     exact a2
   ·rw [if_neg c]
    refine⟨.refl S,.refl _,fun _ kn2 vn2 ew h=>?_⟩
    cases ew
    exact absurd h c
theorem Nb {S:List (Nat×En)×List Nat}{p:Nat}{e:En}(v:VE S.1) (he:(p,e)∈S.1):A_ S (dQ S (p,e.t))∧Rel S.1 (dQ S (p,e.t)).1∧(dQ S (p,e.t)=S→cJ S.1 p=true→∀kn vn,e.t.wt=some (kn,some vn)→cJ S.1 kn=true→cJ S.1 vn=true):=by
 unfold dQ
 by_cases c:cJ S.1 p=true
 ·have h:=Xx v he c
  show A_ S (if cJ S.1 p=true then zy S e.t else S)∧Rel S.1 (if cJ S.1 p=true then zy S e.t else S).1∧((if cJ S.1 p=true then zy S e.t else S)=S→_)
  rw [if_pos c]
  exact⟨h.1,h.2.1,fun z _=>h.2.2 z⟩
 ·show A_ S (if cJ S.1 p=true then zy S e.t else S)∧Rel S.1 (if cJ S.1 p=true then zy S e.t else S).1∧((if cJ S.1 p=true then zy S e.t else S)=S→_)
  rw [if_neg c]
  exact⟨.refl S,.refl _,fun _ h=>absurd h c⟩
noncomputable def Eg (E:List (Nat×En)) (ts:List (Nat×Tg)):Prop:=∀q∈ts,∃e,(q.1,e)∈E∧e.t=q.2
theorem Eg.bC {E E':List (Nat×En)}(h:bC E'=bC E) {ts:List (Nat×Tg)}(t:Eg E ts):Eg E' ts:=fun q hq=>by
 obtain⟨e,h1,h2⟩:=t q hq
 obtain⟨e2,h3,h4,_⟩:=ef h.symm h1
 exact⟨e2,h3,h4.trans h2⟩
theorem nY:∀(ts:List (Nat×Tg)) (S:List (Nat×En)×List Nat),VE S.1→Eg S.1 ts→A_ S (ts.foldl dQ S)∧Rel S.1 (ts.foldl dQ S).1∧((ts.foldl dQ S).2=S.2→ts.foldl dQ S=S∧∀q∈ts,cJ S.1 q.1=true→∀kn vn,q.2.wt=some (kn,some vn)→cJ S.1 kn=true→cJ S.1 vn=true)
 | [],S,_,_=>⟨.refl S,.refl _,fun _=>⟨rfl,(fun _ h=>nomatch h)⟩⟩
 | q::ts,S,v,t=>by
  obtain⟨e,he,ht⟩:=t q List.mem_cons_self
  obtain⟨q1,q2⟩:=q
  have ht:e.t=q2:=ht
  subst ht
  obtain⟨a1,a2,a3⟩:=Nb v he
  obtain⟨b1,b2,b3⟩:=nY ts (dQ S (q1,e.t)) (v.bC a1.st) (Eg.bC a1.st fun x hx=>t x (List.mem_cons_of_mem _ hx))
  rw [List.foldl_cons]
  refine⟨a1.trans b1,a2.trans b2,fun z=>?_⟩
  have hS:ts.foldl dQ (dQ S (q1,e.t))=S:=(a1.trans b1).none z
  obtain⟨m1,e1⟩:=a1.pre
  obtain⟨m2,e2⟩:=b1.pre
  have h0:m1++m2=[]:=by
   rw [e2,e1,List.append_assoc] at z
   exact List.append_right_eq_self.mp z
  have h1:=List.append_eq_nil_iff.mp h0
  have hS1:dQ S (q1,e.t)=S:=a1.none (by rw [e1,h1.1,List.append_nil])
  obtain⟨c1,c2⟩:=b3 (by rw [e2,h1.2,List.append_nil])
  refine⟨hS,fun x hx hp kn vn hw hk=>?_⟩
  rcases List.mem_cons.mp hx with rfl | hx
  ·exact a3 hS1 hp kn vn hw hk
  ·rw [hS1] at c2
   exact c2 x hx hp kn vn hw hk
theorem Xy {E:List (Nat×En)}{ts:List (Nat×Tg)}(b:BC E []) (hp:∀p e,(p,e)∈E→e.t.sort="pair"→(p,e.t)∈ts) (hA:zp E) (h:∀q∈ts,cJ E q.1=true→∀kn vn,q.2.wt=some (kn,some vn)→cJ E kn=true→cJ E vn=true):Cl E (fun p=>cJ E p=true):=by
 refine⟨fun p e he hm n hn=>?_,fun p e he hm kn vn hw hk=>?_⟩
 ·obtain⟨e0,h0,h1⟩:=dq.mp hm
  have:=hA.same h0 he rfl
  injection this with _ h2
  subst h2
  exact b p e0 he h1 (fun z=>nomatch z) n hn
 ·refine h (p,e.t) (hp p e he ?_) hm kn vn hw hk
  cases ht:e.t with
  | plain fs w=>rw [ht] at hw; cases hw
  | weak f=>rw [ht] at hw; cases hw
  | pair k u=>rfl
noncomputable def Tg.nul:Tg→Tg
 | .plain fs w=>.plain (fs.map fun _=>.no) w
 | .weak _=>.weak .no
 | .pair _ _=>.pair .no .no
noncomputable def Tg.JH:Tg→Tg
 | .plain fs _=>.plain fs none
 | t=>t
theorem Tg.cW (t:Tg):t.nul.sort=t.sort∧t.nul.words=t.words∧t.nul.fs=t.fs.map fun _=>Vl.no:=by
 cases t <;> exact⟨rfl,rfl,rfl⟩
theorem Tg.eE (t:Tg):t.JH.sort=t.sort∧t.JH.words=none∧t.JH.fs=t.fs:=by
 cases t <;> exact⟨rfl,rfl,rfl⟩
theorem Tg.ext {t u:Tg}(h1:t.sort=u.sort) (h2:t.words=u.words) (h3:t.fs=u.fs):t=u:=by
 have d1:¬(("plain":Str)="pair"):=by decide +kernel
 have d2:¬(("weak":Str)="pair"):=by decide +kernel
 have d3:¬(("plain":Str)="weak"):=by decide +kernel
 cases t with
 | plain fs w=>
  cases u with
  | plain Y8 w2=>
   have h2:w=w2:=h2
   have h3:fs=Y8:=h3
   rw [h2,h3]
  | weak f=>exact absurd h1 d3
  | pair k v=>exact absurd h1 d1
 | weak f=>
  cases u with
  | plain Y8 w2=>exact absurd h1.symm d3
  | weak f2=>
   have h3:[f]=[f2]:=h3
   cases h3
   rfl
  | pair k v=>exact absurd h1 d2
 | pair k v=>
  cases u with
  | plain Y8 w2=>exact absurd h1.symm d1
  | weak f=>exact absurd h1.symm d2
  | pair k2 v2=>
   have h3:[k,v]=[k2,v2]:=h3
   cases h3
   rfl
noncomputable def qp (E:List (Nat×En)) (t:Tg):Bool:=match t.fs with
 | .th n::_=>!cJ E n.toNat
 | _=>false
noncomputable def bl (E:List (Nat×En)) (s:Str) (p:Nat×En):Bool:=p.2.bR&&(decide (p.2.t.sort=s)&&qp E p.2.t)
noncomputable def zA (E:List (Nat×En)) (S:Nat→Bool):List (Nat×En):=E.map fun p=>if S p.1=true then(p.1,⟨p.2.t.nul,p.2.bJ,p.2.bR⟩)else p
noncomputable def iU (E:List (Nat×En)) (s:Str):List (Nat×En):=E.map fun p=>if bl E s p=true then(p.1,⟨p.2.t.nul,p.2.bJ,p.2.bR⟩)else p
theorem lS {E:List (Nat×En)}{s:Str}{i:Nat}:(iU E s)[i]?=(E[i]?).map fun p=>if bl E s p=true then(p.1,⟨p.2.t.nul,p.2.bJ,p.2.bR⟩)else p:=by
 unfold iU
 rw [List.getElem?_map]
theorem uq (E:List (Nat×En)) (s:Str):(iU E s).map (·.1)=E.map (·.1):=by
 unfold iU
 rw [List.map_map]
 refine List.map_congr_left fun p _=>?_
 show(if bl E s p=true then(p.1,(⟨p.2.t.nul,p.2.bJ,p.2.bR⟩:En))else p).1=p.1
 split <;> rfl
theorem Nc {E:List (Nat×En)}{f:Nat×En→Nat×En}(h:∀p,(f p).1=p.1∧(f p).2.bR=p.2.bR) (q:Nat):cJ (E.map f) q=cJ E q:=by
 unfold cJ
 rw [List.any_map]
 refine congrArg (fun g=>E.any g) (funext fun p=>?_)
 show(decide ((f p).1=q)&&(f p).2.bR)=_
 rw [(h p).1,(h p).2]
theorem JI (E:List (Nat×En)) (s:Str) (q:Nat):cJ (iU E s) q=cJ E q:=by
 refine Nc (fun p=>?_) q
 split <;> exact⟨rfl,rfl⟩
noncomputable def idx (E:List (Nat×En)) (f:Nat×En→Bool):List Nat:=(List.range E.length).filter fun i=>((E[i]?).map f).getD false
theorem ur {E:List (Nat×En)}{f:Nat×En→Bool}{i:Nat}:i∈idx E f↔∃p,E[i]?=some p∧f p=true:=by
 unfold idx
 rw [List.mem_filter,List.mem_range]
 constructor
 ·rintro⟨h1,h2⟩
  rw [List.getElem?_eq_getElem h1] at h2
  exact⟨_,List.getElem?_eq_getElem h1,h2⟩
 ·rintro⟨p,h1,h2⟩
  refine⟨(List.getElem?_eq_some_iff.mp h1).1,?_⟩
  rw [h1]
  exact h2
theorem Bb (E:List (Nat×En)) (f:Nat×En→Bool):(idx E f).Pairwise (· < ·):=(List.pairwise_lt_range (n:=E.length)).filter _
theorem JJ (E:List (Nat×En)) (p:Nat×En) (f:Nat×En→Bool):idx (E++[p]) f=idx E f++if f p=true then [E.length] else []:=by
 unfold idx
 rw [List.length_append,List.length_singleton,List.range_succ,List.filter_append,List.filter_cons,List.filter_nil]
 congr 1
 ·refine List.filter_congr fun i hi=>?_
  rw [List.getElem?_append_left (List.mem_range.mp hi)]
 ·rw [List.getElem?_append_right (Nat.le_refl _),Nat.sub_self]
  rfl
theorem snoc_ind {α:Type}{Pr:List α→Prop}(h0:Pr []) (h1:∀l x,Pr l→Pr (l++[x])) (l:List α):Pr l:=by
 rw [←List.reverse_reverse l]
 induction l.reverse with
 | nil=>exact h0
 | cons x l ih=>
  rw [List.reverse_cons]
  exact h1 _ x ih
theorem jF {β:Type}(g:Nat×En→β) (h:Nat→β) (f:Nat×En→Bool):∀E:List (Nat×En),(∀(i:Nat) p,E[i]?=some p→g p=h i)→(E.filter f).map g=(idx E f).map h:=by
 intro E
 refine snoc_ind (Pr:=fun E=>(∀(i:Nat) p,E[i]?=some p→g p=h i)→(E.filter f).map g=(idx E f).map h) ?_ ?_ E
 ·intro _
  rfl
 ·intro E p ih hh
  rw [List.filter_append,List.map_append,JJ,List.map_append,ih fun i q hq=>hh i q (by rw [List.getElem?_append_left (List.getElem?_eq_some_iff.mp hq).1]; exact hq)]
  congr 1
  rw [List.filter_cons,List.filter_nil]
  have:=hh E.length p (by rw [List.getElem?_append_right (Nat.le_refl _),Nat.sub_self]; rfl)
  split
  ·rw [List.map_singleton,List.map_singleton,this]
  ·rfl
noncomputable def pJ:Sp:=fun vs H Q _=>∃p,vs=[.ref p]∧∀r,H r=none→Q (.ref r) (upd H r (.lst []))
theorem JK (T:Txt K mg a):aU P w K mg base cC 1 a.rN a.wH ["self"] pJ:=by
 refine T.oK.ok U3 (fun vs H Q E h=>?_) (fun bL A outer s H vs Q E hr h=>?_)
 ·obtain⟨_,rfl,_⟩:=h
  rfl
 ·obtain⟨p,rfl,q⟩:=h
  refine⟨_,(ah (aE (bD af))),?_⟩
  dsimp! []
  exact q
noncomputable def aaW (K:PySem.W.Frag) (H:Hp) (ws:List V):Tg→Prop
 | .pair (.th n) v=>∃t vx,ws=[.ref t]∧H t=some (.tup [.int n,vx])∧c_ K H vx v
 | _=>ws=[]
noncomputable def Bc (a:cN) (K:PySem.W.Frag):Sp:=fun vs H Q _=>∃p d k v,vs=[.ref p]∧gc a K H p d (.pair k v)∧∀(l:Addr) (ws:List V) (H':Hp),ak H H'→H l=none→H' l=some (.lst ws)→aaW K H' ws (.pair k v)→Q (.ref l) H'
theorem Xz (T:Txt K mg a):aU P w K mg base cC 5 a.wU a.wW ["self"] (Bc a K):=by
 refine T.rV.ok U9 (fun vs H Q E h=>?_) (fun bL A outer s H vs Q E hr h=>?_)
 ·obtain⟨_,_,_,_,rfl,_⟩:=h
  rfl
 ·obtain⟨p,d,k,v,rfl,h,q⟩:=h
  obtain⟨⟨dx,h1⟩,xs,h2,h3,h4⟩:=id h
  refine⟨_,(ah (aE (mi rfl (gw (x:="name") (ns:=["self"]) (fr:=[0]) rfl (by decide +kernel) rfl (by decide +kernel) rfl (List.forall_mem_cons.mpr ⟨rfl,List.forall_mem_nil _⟩) rfl rfl (List.forall_mem_cons.mpr ⟨⟨rfl,rfl,.inl rfl⟩,List.forall_mem_nil _⟩) (by decide +kernel)) (bg (aD (t_ T) (hr.mono (by decide)) rfl T.yY T.jj.kp T.yX .nil ar (aa (j_ nM (a8 (pv 0) rfl) Ci (iN aq)) af))) (fun _ _ _ _=>(dg (aa (pv 0) (aa (aG (fZ (K:=K) rfl) (nO (K:=K) rfl (pv 1) rfl) aq (fun _ _=>rfl)) af)))) (fun _ _ _ _=>.nil)))),?_⟩
  have Jm:H p=some (.ins a.az dx (Lk "pair" d)):=h1
  have f2:(Lk "pair" d).lookup ("parts":Str)=some (.ref d):=(Tg.pair k v).parts d
  dsimp! [Jm,HO.ins.injEq,T.aR,T.bz,f2]
  have eM:xs.length=2:=h3.1.symm
  obtain⟨kx,vx,rfl⟩:∃kx vx,xs=[kx,vx]:=by
   match xs,eM with
   | [x,y],_=>exact⟨x,y,rfl⟩
  have hk:=h3.2 0 kx k rfl rfl
  have hv:=h3.2 1 vx v rfl rfl
  refine⟨d,_,rfl,aF.of h2,fun l1 d_=>?_⟩
  have ec:qu [kx,vx] none (some 1)=[kx]:=rfl
  rw [ec]
  have s1:=ak.put (o:=.lst [kx]) d_
  have Eh:upd H l1 (.lst [kx]) l1=some (.lst [kx]):=ae
  generalize upd H l1 (.lst [kx])=H1 at s1 Eh
  refine⟨l1,[kx],[k],rfl,aF.of Eh,by simp,rfl,(eC.cons (hk.same s1) (eC.nil _ _)).2,fun r nQ=>⟨r,rfl,⟨_,aF.of ae⟩,fun D hD=>?_⟩⟩
  have s2:=s1.trans (ak.put (o:=.lst ([k].filterMap Vl.nm)) nQ)
  have zB:upd H1 r (.lst ([k].filterMap Vl.nm)) r=some (.lst ([k].filterMap Vl.nm)):=ae
  generalize upd H1 r (.lst ([k].filterMap Vl.nm))=H2 at s2 zB hD
  have hD0:H D=none:=s2.free hD
  cases k with
  | th n=>
   refine EO [V.int n] (fun i ys G=>ak H2 G∧G D=some (.lst ys)∧(i=0∧ys=[]∨i=1∧∃t,ys=[.ref t]∧G t=some (.tup [.int n,vx]))) ⟨ak.put hD,ae,.inl ⟨rfl,rfl⟩⟩ ?_ ?_ ?_
   ·rintro i ys G _ ⟨sG,_⟩
    exact aF.of (sG _ _ zB)
   ·rintro i m x ys G hm hx ⟨sG,Nd,ju⟩
    have ei:i=0:=by
     simp at hm
     omega
    subst ei
    cases hx
    rcases ju with ⟨_,rfl⟩ | ⟨z,_⟩
    ·have h1G:=(s2.trans sG) _ _ Jm
     have h2G:=(s2.trans sG) _ _ h2
     dsimp! [aP,Option.join_some,h1G,HO.ins.injEq,T.aR,T.bz,f2]
     refine⟨d,_,_,vx,rfl,rfl,aF.of h2G,rfl,by simp [sizeLine_eq],fun t ht=>qz.mk hm (by rw [ai (ao Nd ht)]; exact Nd) (by simp) ⟨fun b u e=>?_,ae,.inr ⟨rfl,t,rfl,?_⟩⟩⟩
     ·rw [ai (ao e hD),ai (ao (sG b u e) ht)]
      exact sG b u e
     ·rw [ai (ao Nd ht).symm,ae]
    ·cases z
   ·rintro ys G ⟨sG,Nd,ju⟩
    rcases ju with ⟨z,_⟩ | ⟨_,t,rfl,ht⟩
    ·cases z
    ·exact q D [V.ref t] G (s2.trans sG) hD0 Nd ⟨t,vx,rfl,ht,hv.same (s2.trans sG)⟩
  | no=>
   refine EO [] (fun i ys G=>ak H2 G∧G D=some (.lst ys)∧ys=[]) ⟨ak.put hD,ae,rfl⟩ ?_ ?_ ?_
   ·rintro i ys G _ ⟨sG,_⟩
    exact aF.of (sG _ _ zB)
   ·rintro i m x ys G hm hx _
    simp at hx
   ·rintro ys G ⟨sG,Nd,rfl⟩
    exact q D [] G (s2.trans sG) hD0 Nd rfl
  | num z=>
   refine EO [] (fun i ys G=>ak H2 G∧G D=some (.lst ys)∧ys=[]) ⟨ak.put hD,ae,rfl⟩ ?_ ?_ ?_
   ·rintro i ys G _ ⟨sG,_⟩
    exact aF.of (sG _ _ zB)
   ·rintro i m x ys G hm hx _
    simp at hx
   ·rintro ys G ⟨sG,Nd,rfl⟩
    exact q D [] G (s2.trans sG) hD0 Nd rfl
theorem Ei (t:Tg) {p d:Addr}{H:Hp}{Q:VK}{E:XK}(h:gc a K H p d t) (q:∀(l:Addr) (ws:List V) (H':Hp),ak H H'→H l=none→H' l=some (.lst ws)→aaW K H' ws t→Q (.ref l) H'):∃sp,(t.cls a,sp)∈[(a.aZ,pJ),(a.ax,pJ),(a.az,Bc a K)]∧sp [.ref p] H Q E:=by
 cases t with
 | plain fs w=>exact⟨_,.tail _ (.head _),p,rfl,fun r hr=>q r [] _ (.put hr) hr ae rfl⟩
 | weak f=>exact⟨_,.head _,p,rfl,fun r hr=>q r [] _ (.put hr) hr ae rfl⟩
 | pair k v=>exact⟨_,.tail _ (.tail _ (.head _)),p,d,k,v,rfl,h,q⟩
theorem JL (S:List (Nat×En)×List Nat) (n:Int) (v:Vl):zy S (.pair (.th n) v)=if cJ S.1 n.toNat=true then((v.na.map Int.toNat).toList).foldl gj S else S:=by
 cases v with
 | th m=>rfl
 | no=>show S=if _ then S else S; split <;> rfl
 | num z=>show S=if _ then S else S; split <;> rfl
noncomputable def ir (a:cN) (K:PySem.W.Frag):Sp:=fun vs H Q _=>∃M k gd E G,vs=[.ref k]∧MS a K H M k gd E G∧Q (.bl (decide (0 < G.length))) H
theorem Rq (T:Txt K mg a):aU P w K mg base cC 1 a.HI a.HJ ["self"] (ir a K):=by
 refine T.DO.ok aak (fun vs H Q E h=>?_) (fun bL A outer s H vs Q E hr h=>?_)
 ·obtain⟨_,_,_,_,_,rfl,_⟩:=h
  rfl
 ·obtain⟨M,k,gd,E,G,rfl,h,q⟩:=h
  refine⟨_,(ah (aE (fE Pw (bh DB rfl T.dI dr (aa (a8 (pv 0) rfl) af)) aq (aQ _)))),?_⟩
  obtain⟨dx,h1⟩:=h.ob
  dsimp! [h1,HO.ins.injEq,T.aB,T.aS,kI]
  refine⟨_,h.di,?_⟩
  have e1:decide ((0:Int) < ((gk G).length:Int))=decide (0 < G.length):=by
   unfold gk
   rw [List.length_map]
   by_cases z:0 < G.length
   ·rw [decide_eq_true z,decide_eq_true (by omega)]
   ·rw [decide_eq_false z,decide_eq_false (by omega)]
  rw [e1]
  exact q
noncomputable def pK (a:cN) (K:PySem.W.Frag):Sp:=fun vs H Q _=>∃M k gd E G pl e,vs=[.ref k,.int (pl:Nat)]∧MS a K H M k gd E G∧(pl,e)∈E∧VE E∧E.length≤900 ∧
 ∀H',Kp (fun b=>M.own b∨b=gd) H H'→MS a K H' M k gd (zy (E,G) e.t).1 (zy (E,G) e.t).2→Q .bf H'
theorem aaX (T:Txt K mg a):aU P w K mg base cC 11 a.HS a.HU ["self","place"] (pK a K):=by
 refine T.DS.ok Hz (fun vs H Q E h=>?_) (fun bL A outer s H vs Q E hr h=>?_)
 ·obtain⟨_,_,_,_,_,_,_,rfl,_⟩:=h
  rfl
 ·obtain⟨M,k,gd,E,G,pl,e,rfl,h,he,hv,Eb,q⟩:=h
  refine⟨_,(ah (bM PassesOwn.never rfl (bg (bQ (L:=[(a.aZ,pJ),(a.ax,pJ),(a.az,Bc a K)]) (aC (a8 (pv 0) rfl) T.au T.ia (jD T) (hr.mono (by decide)) T.mE .nil ar (aa (pv 1) af)) (List.forall_mem_cons.mpr ⟨⟨_,_,_,_,T.bO,T.Ia,JK T,hr.mono (by decide),T.H_⟩,List.forall_mem_cons.mpr ⟨⟨_,_,_,_,T.aK,T.eQ,JK T,hr.mono (by decide),T.H_⟩,List.forall_mem_cons.mpr ⟨⟨_,_,_,_,T.aR,T.Ic,Xz T,hr.mono (by decide),T.Qc⟩,List.forall_mem_nil _⟩⟩⟩) .nil ar)) (tD (n:=2) rfl (cP (a7 (i:=2) Hz.nd rfl (Or.inl rfl)) (cP (a7 (i:=3) Hz.nd rfl (Or.inl rfl)) j7))) aw)),?_⟩
  obtain⟨dx,h1⟩:=h.ob
  obtain⟨qo,h2⟩:=h.tm.ob
  have f1:=aW (pr:=M.pr) (lb:=M.lb) (n:="thing_at")
  have f2:=aW (pr:=M.pr) (lb:=M.lb) (n:="marked_at")
  dsimp! [h1,h2,HO.ins.injEq,T.aB,T.aM,cB,f1]
  obtain⟨xs,es,iq⟩:=h.tm.there he
  refine⟨M,xs,es,pl,e,rfl,iq,fun tp td H4 s4 Ln Xc lB=>?_⟩
  obtain⟨ER,A3⟩:=lB.ob
  refine⟨tp,rfl,_,_,_,A3,e.t.no td,Ei e.t lB fun l ws H5 s5 hl uu hw=>?_⟩
  have Y9:=s4.trans s5
  have h5:=h.same Y9
  have JM:H l=none:=s4.free hl
  have nol:¬M.own l:=h.tm.gP JM
  have hA:=h.tm.nd
  refine⟨l,rfl,⟨_,aF.of uu⟩,dw ws (fun i σ H6=>∃o2 o3:Option V,σ=[some (.ref k),some (.int (pl:Nat)),o2,o3]∧(i=0∧H6=H5∨i=1∧Kp (fun b=>M.own b∨b=gd) H5 H6∧MS a K H6 M k gd (zy (E,G) e.t).1 (zy (E,G) e.t).2∧H6 l=some (.lst ws))) ⟨none,none,rfl,.inl ⟨rfl,rfl⟩⟩ ?_ ?_ ?_⟩
  ·rintro i σ H6 _ ⟨o2,o3,rfl,⟨_,rfl⟩ | ⟨_,_,_,Y_⟩⟩
   ·exact aF.of uu
   ·exact aF.of Y_
  ·rintro i x σ H6 hx ⟨o2,o3,rfl,ju⟩
   cases ht:e.t with
   | plain fs w=>
    rw [ht] at hw
    rw [show ws=[] from hw] at hx
    cases hx
   | weak f=>
    rw [ht] at hw
    rw [show ws=[] from hw] at hx
    cases hx
   | pair kv u=>
    rw [ht] at hw
    cases kv with
    | no=>
     rw [show ws=[] from hw] at hx
     cases hx
    | num z=>
     rw [show ws=[] from hw] at hx
     cases hx
    | th n=>
     obtain⟨t,vx,rfl,ht5,hvx⟩:=hw
     have ei:i=0:=by
      have:=(List.getElem?_eq_some_iff.mp hx).1
      simp at this
      exact this
     subst ei
     cases hx
     rcases ju with ⟨_,rfl⟩ | ⟨z,_⟩
     ·refine⟨t,_,rfl,dO.of ht5,rfl,?_⟩
      obtain⟨q2,Lp,hq3⟩:=hv pl e he n (by rw [ht]; exact List.mem_cons_self)
      subst Lp
      obtain⟨⟨q4,e2⟩,FG,eq2⟩:=List.mem_map.mp hq3
      have eq2:q4=q2:=eq2
      subst eq2
      obtain⟨dx6,h16⟩:=h5.ob
      obtain⟨dx7,h26⟩:=h5.tm.ob
      have esh:=JL (E,G) (q4:Int) u
      rw [Int.toNat_natCast] at esh
      have zt:=hA.mk FG
      dsimp! []
      refine a6.of (ah (cO (dU (aC (a8 (pv 0) rfl) T.au T.gB (ip T) (hr.mono (by decide)) T.ky .nil ar (aa (pv 2) af))) (ah (aV (aC (pv 0) T.aB T.Il (Ri T) (hr.mono (by decide)) T.VJ .nil ar (aa (aD (t_ T) (hr.mono (by decide)) rfl T.yY T.jj.kp T.yX .nil ar (aa (bD (aa (pv 3) af)) af)) af)))) bB)) ?_
      dsimp! [h16,h26,HO.ins.injEq,T.aB,T.aM,cB,f2,AQ]
      obtain⟨xs6,es6,agm⟩:=h5.tm.there FG
      refine⟨M,xs6,es6,_,e2,rfl,agm,_,rfl,?_⟩
      cases em:e2.bR with
      | false=>
       rw [if_neg (by dsimp only; rw [zt,em]; exact Bool.false_ne_true)] at esh
       rw [esh]
       exact dH ⟨Kp.refl _ _,h5,uu⟩
      | true=>
       rw [if_pos (by dsimp only; rw [zt,em])] at esh
       rw [esh]
       refine e9 ?_
       have aaY:[u].filterMap Vl.nm=(((u.na.map Int.toNat).toList).map fun(p:Nat)=>(p:Int)).map V.int∧∀p∈(u.na.map Int.toNat).toList,p∈E.map (·.1):=by
        cases u with
        | no=>exact⟨rfl,(fun _ z=>nomatch z)⟩
        | num z=>exact⟨rfl,(fun _ z=>nomatch z)⟩
        | th m=>
         obtain⟨q5,rfl,hq5⟩:=hv pl e he m (by rw [ht]; exact List.mem_cons_of_mem _ List.mem_cons_self)
         refine⟨rfl,fun p hp=>?_⟩
         have hp:p∈[Int.toNat (q5:Int)]:=hp
         rw [List.mem_singleton.mp hp,Int.toNat_natCast]
         exact hq5
       refine⟨_,_,h16,cV,by rw [sizeLine_eq]; decide,fun p hp=>⟨[vx],aF.of ae,by simp,[u],rfl,fun i x v e1 e2=>?_,fun r hr=>?_⟩⟩
       ·match i,e1,e2 with
        | 0,e1,e2=>
         cases e1
         cases e2
         exact hvx.same (.put hp)
       ·have s7:=(ak.put (o:=.lst [vx]) hp).trans (ak.put (o:=.lst ([u].filterMap Vl.nm)) hr)
        have Rf:H6 r=none:=(ak.put (o:=.lst [vx]) hp).free hr
        have nlr:¬M.own r:=h5.tm.gP Rf
        have Xa:l≠gd:=cu uu h5.di (by intro z; cases z)
        refine⟨M,k,gd,E,G,r,(u.na.map Int.toNat).toList,rfl,h5.same s7,by rw [ae,aaY.1],nlr,aaY.2,Eb,fun H7 k7 h7=>⟨(ak.kp s7).trans k7,h7,k7 _ _ (fun z=>?_) (s7 _ _ uu)⟩⟩
        rcases z with z | z
        ·exact nol z
        ·exact Xa z
     ·cases z
  ·rintro σ H6 ⟨o2,o3,rfl,ju⟩
   rcases ju with ⟨hz,rfl⟩ | ⟨_,k6,h6,_⟩
   ·have e0:zy (E,G) e.t=(E,G):=by
     have hws:ws=[]:=List.length_eq_zero_iff.mp hz
     cases ht:e.t with
     | plain fs w=>rfl
     | weak f=>rfl
     | pair kv u=>
      rw [ht] at hw
      cases kv with
      | no=>rfl
      | num z=>rfl
      | th n=>
       obtain⟨t,vx,e1,_⟩:=hw
       rw [hws] at e1
       cases e1
    rw [e0] at q
    exact q _ (ak.kp Y9) h5
   ·exact q _ ((ak.kp Y9).trans k6) h6
noncomputable def mR (a:cN) (K:PySem.W.Frag):Sp:=fun vs H Q _=>∃M k gd E G l,∃ts:List (Nat×Tg),vs=[.ref k,.ref l]∧MS a K H M k gd E G∧H l=some (.lst ((ts.map fun q=>((q.1:Nat):Int)).map V.int))∧¬M.own l∧Eg E ts∧VE E∧E.length≤900 ∧
 ∀H',Kp (fun b=>M.own b∨b=gd) H H'→MS a K H' M k gd (ts.foldl dQ (E,G)).1 (ts.foldl dQ (E,G)).2→Q .bf H'
theorem Rr (T:Txt K mg a):aU P w K mg base cC 12 a.HQ a.HR ["self","pairs"] (mR a K):=by
 refine T.DR.ok P5 (fun vs H Q E h=>?_) (fun bL A outer s H vs Q E hr h=>?_)
 ·obtain⟨_,_,_,_,_,_,_,rfl,_⟩:=h
  rfl
 ·obtain⟨M,k,gd,E,G,l,ts,rfl,h,hl,nl,hT,hv,Eb,q⟩:=h
  refine⟨_,(ah (bM PassesOwn.never rfl (bg (pv 1)) (a7 (i:=2) P5.nd rfl (Or.inl rfl)) aw)),?_⟩
  dsimp! []
  have Xa:l≠gd:=cu hl h.di (by intro z; cases z)
  refine⟨⟨_,aF.of hl⟩,dw ((ts.map fun q=>((q.1:Nat):Int)).map V.int) (fun i σ H1=>∃o2:Option V,σ=[some (.ref k),some (.ref l),o2]∧Kp (fun b=>M.own b∨b=gd) H H1∧H1 l=some (.lst ((ts.map fun q=>((q.1:Nat):Int)).map V.int))∧MS a K H1 M k gd ((ts.take i).foldl dQ (E,G)).1 ((ts.take i).foldl dQ (E,G)).2) ⟨none,rfl,Kp.refl _ _,hl,h⟩ ?_ ?_ ?_⟩
  ·rintro i σ H1 _ ⟨o2,rfl,_,d_,_⟩
   exact aF.of d_
  ·rintro i x σ H1 hx ⟨o2,rfl,k1,d_,h1⟩
   obtain⟨⟨p,t⟩,hp,rfl⟩:∃q,ts[i]?=some q∧x=V.int ((q.1:Nat):Int):=by
    rw [List.getElem?_map,List.getElem?_map] at hx
    cases e:ts[i]? with
    | none=>rw [e] at hx; cases hx
    | some w=>rw [e] at hx; cases hx; exact⟨w,rfl,rfl⟩
   have hTi:Eg E (ts.take i):=fun q hq=>hT q (List.mem_of_mem_take hq)
   obtain⟨c1,c2,_⟩:=nY (ts.take i) (E,G) hv hTi
   have Rt:(ts.take (i+1)).foldl dQ (E,G)=dQ ((ts.take i).foldl dQ (E,G)) (p,t):=by
    rw [List.take_add_one,hp,List.foldl_append]
    rfl
   obtain⟨e,he,ht⟩:=Eg.bC c1.st hT (p,t) (List.mem_of_getElem? hp)
   have he:(p,e)∈((ts.take i).foldl dQ (E,G)).1:=he
   have ht:e.t=t:=ht
   subst ht
   have hlen:((ts.take i).foldl dQ (E,G)).1.length≤900:=by
    have:=congrArg List.length (dM c1.st)
    rw [List.length_map,List.length_map] at this
    rw [this]
    exact Eb
   have hv1:=hv.bC c1.st
   generalize (ts.take i).foldl dQ (E,G)=S1 at h1 Rt he hlen hv1
   obtain⟨dx,hk⟩:=h1.ob
   obtain⟨qo,h2⟩:=h1.tm.ob
   have zt:=h1.tm.nd.mk he
   have f2:=aW (pr:=M.pr) (lb:=M.lb) (n:="marked_at")
   refine gN ?_
   refine a6.of (ah (cO (dU (aC (a8 (pv 0) rfl) T.au T.gB (ip T) (hr.mono (by decide)) T.ky .nil ar (aa (pv 2) af))) (ah (aV (aC (pv 0) T.aB T.Qn (aaX T) (hr.mono (by decide)) T.aap .nil ar (aa (pv 2) af)))) bB)) ?_
   dsimp! [hk,h2,HO.ins.injEq,T.aB,T.aM,cB,f2]
   obtain⟨xs,es,iq⟩:=h1.tm.there he
   refine⟨M,xs,es,p,e,rfl,iq,_,rfl,?_⟩
   rw [Rt]
   unfold dQ
   show if _ then _ else _
   cases em:e.bR with
   | false=>
    refine dH ⟨k1,d_,?_⟩
    rw [if_neg (by show ¬cJ S1.1 p=true; rw [zt,em]; exact Bool.false_ne_true)]
    exact h1
   | true=>
    refine e9 ⟨_,_,hk,cV,M,k,gd,S1.1,S1.2,p,e,rfl,h1,he,hv1,hlen,fun H2 k2 h2=>⟨k1.trans k2,k2 _ _ (fun z=>?_) d_,?_⟩⟩
    ·rcases z with z | z
     ·exact nl z
     ·exact Xa z
    ·rw [if_pos (by show cJ S1.1 p=true; rw [zt,em])]
     exact h2
  ·rintro σ H1 ⟨o2,rfl,k1,d_,h1⟩
   rw [List.length_map,List.length_map,List.take_length] at h1
   exact q H1 k1 h1
noncomputable def gF (a:cN) (K:PySem.W.Frag):Sp:=fun vs H Q _=>∃M k gd E G,vs=[.ref k]∧MS a K H M k gd E G∧BC E G∧VE E∧E.length≤900 ∧
 ∀H' E',Kp (fun b=>M.own b∨b=gd) H H'→MS a K H' M k gd E' []→Rel E E'→BC E' []→ms (E',[])≤ms (E,G)→(G≠[]→ms (E',[]) < ms (E,G))→Q .bf H'
theorem Ru (T:Txt K mg a):aU P w K mg base cC 12 a.HM a.HN ["self"] (gF a K):=by
 refine T.DQ.ok aal (fun vs H Q E h=>?_) (fun bL A outer s H vs Q E hr h=>?_)
 ·obtain⟨_,_,_,_,_,rfl,_⟩:=h
  rfl
 ·obtain⟨M,k,gd,E,G,rfl,h,hb,hv,Eb,q⟩:=h
  refine⟨_,(ah (lH PassesOwn.never aw)),?_⟩
  dsimp! []
  refine ww2 (fun m σ H1=>∃E1 G1,σ=[some (.ref k)]∧Kp (fun b=>M.own b∨b=gd) H H1∧MS a K H1 M k gd E1 G1∧Rel E E1∧BC E1 G1∧m=ms (E1,G1)∧(ms (E1,G1) < ms (E,G)∨(E1,G1)=(E,G)))
   (fun σ H1=>∃E1,σ=[some (.ref k)]∧Kp (fun b=>M.own b∨b=gd) H H1∧MS a K H1 M k gd E1 []∧Rel E E1∧BC E1 []∧(ms (E1,[]) < ms (E,G)∨(E1,[])=(E,G))) (ms (E,G)) ⟨E,G,rfl,Kp.refl _ _,h,.refl _,hb,rfl,.inr rfl⟩ ?_ ?_
  ·rintro m σ H1 ⟨E1,G1,rfl,k1,h1,r1,b1,rfl,hm⟩
   obtain⟨dx,hk⟩:=h1.ob
   have f3:=cV (m:=M.p) (g:=gd) (n:="has_grey")
   refine hX.of (dU (bT (pv 0) T.aB T.Im (Rq T) (hr.mono (by decide)) T.VL .nil ar)) ?_
   dsimp! [hk,HO.ins.injEq,f3,ir]
   refine⟨M,gd,E1,G1,h1,?_⟩
   cases G1 with
   | nil=>
    rw [if_neg (by decide)]
    exact⟨k1,E1,h1,r1,b1,hm⟩
   | cons p G2=>
    rw [if_pos (by simp)]
    obtain⟨e,he,zt⟩:=h1.gm p List.mem_cons_self
    obtain⟨hn,hh,jq⟩:=(hv.bC r1.st).hold he
    obtain⟨c1,c2,c3⟩:=C3 h1.tm.nd he zt hh jq b1
    have hlen:E1.length≤900:=by
     have:=congrArg List.length (dM r1.st)
     rw [List.length_map,List.length_map] at this
     rw [this]
     exact Eb
    have f4:=cV (m:=M.p) (g:=gd) (n:="step")
    refine a6.of (ah (aV (bT (pv 0) T.aB T.AM (Jv T) (hr.mono (by decide)) T.Io .nil ar))) ?_
    dsimp! [hk,HO.ins.injEq,f4]
    refine⟨M,k,gd,E1,G2,p,e,hn,rfl,h1,he,hh,jq,hlen,fun H2 k2 h2=>⟨_,c3,k1.trans k2,_,_,h2,r1.trans c1,c2,rfl,.inl ?_⟩⟩
    rcases hm with hm | hm
    ·exact Nat.lt_trans c3 hm
    ·rw [←hm]
     exact c3
  ·rintro σ H1 ⟨E1,rfl,k1,h1,r1,b1,hm⟩
   refine q H1 E1 k1 h1 r1 b1 ?_ fun hG=>?_
   ·rcases hm with hm | hm
    ·omega
    ·rw [hm]; exact Nat.le_refl _
   ·rcases hm with hm | hm
    ·exact hm
    ·cases hm
     exact absurd rfl hG
theorem Kp.aaZ {K:PySem.W.Frag}{S:Addr→Prop}{H H':Hp}(k:Kp S H H') (tb:∀b,S b→∃ps,H b=some (.dS ps)) {c:Addr}{xs:List V}(h:dO K H c xs):dO K H' c xs:=by
 rcases h with h | h
 ·have n:¬S c:=fun z=>by
   obtain⟨ps,e⟩:=tb c z
   rcases h with h | ⟨o,h⟩ <;> (rw [e] at h; cases h)
  rcases h with h | ⟨o,h⟩
  ·exact .inl (.inl (k _ _ n h))
  ·exact .inl (.inr ⟨o,k _ _ n h⟩)
 ·exact .inr h
theorem c_.kt {S:Addr→Prop}{H H':Hp}{x:V}{v:Vl}(h:c_ K H x v) (k:Kp S H H') (tb:∀b,S b→∃ps,H b=some (.dS ps)):c_ K H' x v:=by
 obtain⟨t,e,h⟩:=h
 exact⟨t,e,k.aaZ tb h⟩
theorem TM.kt {S:Addr→Prop}{H H':Hp}{M:MA}{E:List (Nat×En)}(h:TM a K H M E) (k:Kp S H H') (tb:∀b,S b→∃ps,H b=some (.dS ps)):TM a K H' M E:=by
 obtain⟨xs,R,h1,h2⟩:=h
 have no:∀b u,H b=some u→(∀ps,u≠.dS ps)→¬S b:=fun b u e n z=>by
  obtain⟨ps,e2⟩:=tb b z
  rw [e2] at e
  cases e
  exact n _ rfl
 obtain⟨ER,h5⟩:=h1.mem.ob
 obtain⟨dx6,h6⟩:=h1.mem.R.ob
 refine⟨xs,R,⟨h1.mem.off k (no _ _ h5 (fun _ z=>by cases z)) (no _ _ h6 (fun _ z=>by cases z)) (no _ _ h1.mem.li (fun _ z=>by cases z)) (fun b hb=>?_),fun r hr=>?_⟩,h2⟩
 ·rcases h1.mem.mu b hb with ⟨y,e⟩ | ⟨y,e⟩
  ·exact no _ _ e (fun _ z=>by cases z)
  ·exact no _ _ e (fun _ z=>by cases z)
 ·obtain⟨mid,fx,e1,h7,h3,h4⟩:=(h1.ok r hr).ex
  exact⟨mid,fx,e1,⟨h7.1,fun i x v e1 e2=>(h7.2 i x v e1 e2).kt k tb⟩,h3,fun x hx=>(h4 x hx).kt k tb⟩
theorem MS.kt {S:Addr→Prop}{H H':Hp}{M:MA}{k gd:Addr}{E:List (Nat×En)}{G:List Nat}(h:MS a K H M k gd E G) (kk:Kp S H H') (tb:∀b,S b→∃ps,H b=some (.dS ps)):MS a K H' M k gd E G:=by
 have no:∀b u,H b=some u→(∀ps,u≠.dS ps)→¬S b:=fun b u e n z=>by
  obtain⟨ps,e2⟩:=tb b z
  rw [e2] at e
  cases e
  exact n _ rfl
 obtain⟨dx,h1⟩:=h.ob
 exact⟨h.tm.kt kk tb,⟨dx,kk _ _ (no _ _ h1 (fun _ z=>by cases z)) h1⟩,kk _ _ (no _ _ h.di (fun _ z=>by cases z)) h.di,h.no,h.gm,h.nd⟩
noncomputable abbrev lpP:Pos:=⟨136,34,136,76⟩
noncomputable abbrev lqP:Str:=(Str.ofString "Marking.pairs_by_serial"++Str.ofString ".<locals>.")++Str.ofString "<lambda>"
noncomputable abbrev JN (a:cN) (H:Hp):Prop:=Tb a.cY lpP lqP H
noncomputable def prs (E:List (Nat×En)):List (Nat×Tg):=(E.filter fun p=>decide (p.2.t.sort=("pair":Str))).map fun p=>(p.1,p.2.t)
theorem pL {α β:Type}(f:α→β) {x y:List β}(h:x.Perm y):∀l:List α,y=l.map f→∃l':List α,l'.Perm l∧l'.map f=x:=by
 induction h with
 | nil=>
  intro l e
  cases l with
  | nil=>exact⟨[],.refl _,rfl⟩
  | cons a l=>cases e
 | cons z _ ih=>
  intro l e
  cases l with
  | nil=>cases e
  | cons a l=>
   injection e with e1 e2
   obtain⟨l',h1,h2⟩:=ih l e2
   exact⟨a::l',h1.cons a,by rw [List.map_cons,h2,e1]⟩
 | swap u v r=>
  intro l e
  match l,e with
  | b::c::l,e=>
   injection e with e1 e2
   injection e2 with e2 e3
   exact⟨c::b::l,.swap b c l,by rw [List.map_cons,List.map_cons,e1,e2,e3]⟩
 | trans _ _ ih1 ih2=>
  intro l e
  obtain⟨l1,h1,h2⟩:=ih2 l e
  obtain⟨l2,h3,h4⟩:=ih1 l1 h2.symm
  exact⟨l2,h3.trans h1,h4⟩
noncomputable def Ej (E:List (Nat×En)) (n:Int):Bool:=E.any fun p=>decide ((p.1:Int)=n)&&decide (p.2.t.sort=("pair":Str))
theorem JO {E:List (Nat×En)}(hA:zp E) {p:Nat}{e:En}(he:(p,e)∈E):Ej E (p:Int)=decide (e.t.sort=("pair":Str)):=by
 rw [Bool.eq_iff_iff]
 unfold Ej
 rw [List.any_eq_true]
 constructor
 ·rintro⟨q,hq,z⟩
  rw [Bool.and_eq_true] at z
  have h1:(q.1:Int)=(p:Int):=of_decide_eq_true z.1
  have:=hA.same hq he (show q.1=p by omega)
  subst this
  exact z.2
 ·intro z
  exact⟨_,he,by rw [decide_eq_true rfl,z]; rfl⟩
noncomputable def Nf (E:List (Nat×En)) (n:Int):Int:=((E.find? fun p=>decide ((p.1:Int)=n)).map fun p=>p.2.bJ).getD 0
theorem nZ {E:List (Nat×En)}(hA:zp E) {p:Nat}{e:En}(he:(p,e)∈E):Nf E (p:Int)=e.bJ:=by
 unfold Nf
 cases hf:E.find? fun q=>decide ((q.1:Int)=(p:Int))with
 | none=>
  have:=List.find?_eq_none.mp hf _ he
  simp at this
 | some q=>
  have h0:=List.find?_some hf
  have h1:(q.1:Int)=(p:Int):=by simpa using h0
  have:=hA.same (List.mem_of_find?_eq_some hf) he (show q.1=p by omega)
  subst this
  rfl
theorem JP {E:List (Nat×En)}(hA:zp E):(E.map fun p=>((p.1:Nat):Int)).filter (Ej E)=(prs E).map fun q=>((q.1:Nat):Int):=by
 unfold prs
 rw [List.map_map,List.filter_map]
 have e1:E.filter (Ej E ∘ fun p=>((p.1:Nat):Int))=E.filter fun p=>decide (p.2.t.sort=("pair":Str)):=List.filter_congr fun p hp=>JO hA hp
 rw [e1]
 rfl
noncomputable def zC (a:cN) (K:PySem.W.Frag):Sp:=fun vs H Q _=>∃M k gd E G,vs=[.ref k]∧MS a K H M k gd E G∧E.length < 64∧JN a H ∧
 ∀(l:Addr) (H':Hp) (ts:List (Nat×Tg)),dC a.cY H H'→JN a H'→H l=none→H' l=some (.lst ((ts.map fun q=>((q.1:Nat):Int)).map V.int))→ts.Perm (prs E)→MS a K H' M k gd E G→Q (.ref l) H'
theorem aba (T:Txt K mg a) (B:BM mg base):aU P w K mg base cC 9 a.HP a.MD ["self"] (zC a K):=by
 refine T.y9.okC P4 (fun vs H Q E h=>?_) (fun bL A outer s H vs Q E s_ hr h=>?_)
 ·obtain⟨_,_,_,_,_,rfl,_⟩:=h
  rfl
 ·obtain⟨M,k,gd,E,G,rfl,h,lI,hT,q⟩:=h
  refine⟨_,(ag (hJ (j:=1) rfl P4.nd rfl rfl (gw (x:="place") (ns:=["self"]) (fr:=[0]) rfl (by decide +kernel) rfl (by decide +kernel) rfl (List.forall_mem_cons.mpr ⟨rfl,List.forall_mem_nil _⟩) rfl rfl (List.forall_mem_cons.mpr ⟨⟨rfl,rfl,.inl rfl⟩,List.forall_mem_nil _⟩) (by decide +kernel)) (bg (bT (a8 (pv 0) rfl) T.au T.pf (ui T) (hr.mono (by decide)) T.ze .nil ar)) (fun _ _ _ _=>(pv 0)) (fun _ _ _ _=>(.one (aH cX (aC (nO (K:=K) rfl (pv 1) rfl) T.au T.pe (ue T) (hr.mono (by decide)) T.zd .nil ar (aa (pv 0) af)) aT (aQ _))))) (ah (aE (oA (B:=B) (i:=0) (k:=3) rfl T.dJ (pv 1) (hr.mono (by decide)) ⟨rfl,rfl,rfl,rfl,rfl,by decide,by decide,by decide⟩ rfl rfl rfl (s_.symm.trans T.P7) T.Cz rfl rfl (fun _ _ _ _=>rfl) (fun _ _ _ _=>have hr:=(cL.deeper (cL.in1 (cL.in1 (hr.mono (by decide:5≤8)))) _); (aC (nO (K:=K) rfl (pv 1) rfl) T.au T.tZ (AW T) (hr.mono (by decide)) T.CJ .nil ar (aa (pv 0) af))))))),?_⟩
  obtain⟨dx,h1⟩:=h.ob
  obtain⟨qo,h2⟩:=h.tm.ob
  have f1:=aW (pr:=M.pr) (lb:=M.lb) (n:="places")
  have f2:=aW (pr:=M.pr) (lb:=M.lb) (n:="sort_at")
  have f3:=aW (pr:=M.pr) (lb:=M.lb) (n:="serial_at")
  dsimp! [h1,h2,HO.ins.injEq,T.aB,T.aM,cB,f1]
  obtain⟨xs,R,hR,eR⟩:=id h.tm
  have hA:=h.tm.nd
  have hRl:R.length=E.length:=by rw [←eR,List.length_map]
  refine⟨M,xs,_,rfl,hR.mem,by rw [List.length_map]; omega,fun l ns H1 s1 hl d_ hp hs=>⟨l,rfl,⟨_,aF.of d_⟩,fun D hD=>?_⟩⟩
  rw [A1] at hp
  have ep:MT R=E.map fun p=>((p.1:Nat):Int):=by
   rw [←eR,List.map_map]
   rfl
  rw [ep] at hp
  have hnl:ns.length=E.length:=by rw [hp.length_eq,List.length_map]
  have at_:∀n∈ns,∃p e,n=((p:Nat):Int)∧(p,e)∈E:=fun n hn=>by
   obtain⟨⟨p,e⟩,h3,h4⟩:=List.mem_map.mp (hp.mem_iff.mp hn)
   exact⟨p,e,h4.symm,h3⟩
  have MR:=h.same s1
  have pC:=hT.same s1
  have aiC:H1 D=none:=hD
  refine EO (ns.map V.int) (fun i ys H2=>ak H1 H2∧H2 D=some (.lst ys)∧ys=(((ns.take i).filter (Ej E)).map V.int)) ⟨.put hD,ae,rfl⟩ ?_ ?_ ?_
  ·rintro i ys H2 _ ⟨s2,_⟩
   exact aF.of (s2 _ _ d_)
  ·rintro i m x ys H2 hm hx ⟨s2,fA,rfl⟩
   rw [List.getElem?_map,Option.map_eq_some_iff] at hx
   obtain⟨n,hn,rfl⟩:=hx
   obtain⟨p,e,rfl,he⟩:=at_ n (List.mem_of_getElem? hn)
   have Za:=MR.same s2
   obtain⟨dx3,ET⟩:=Za.ob
   obtain⟨Y4,Bd⟩:=Za.tm.ob
   obtain⟨xs3,es3,iq⟩:=Za.tm.there he
   have Ng:=JO hA he
   rw [List.length_map] at hm
   have Rv:(ns.take (i+1)).filter (Ej E)=(ns.take i).filter (Ej E)++(if Ej E (p:Int)=true then [(p:Int)] else []):=by
    rw [List.take_add_one,hn,List.filter_append]
    congr 1
    show List.filter (Ej E) [(p:Int)]=_
    rw [List.filter_cons,List.filter_nil]
   have fl:((ns.take i).filter (Ej E)).length≤64:=by
    have h5:=List.length_filter_le (Ej E) (ns.take i)
    rw [List.length_take] at h5
    omega
   dsimp! [aP,ET,Bd,HO.ins.injEq,T.aB,T.aM,cB,f2]
   refine⟨_,rfl,k,rfl,_,_,_,ET,T.aB,T.aM,_,cB _ _,M.p,rfl,_,_,Bd,f2,M,xs3,es3,p,e,rfl,iq,?_⟩
   rw [List.length_map]
   dsimp only
   refine⟨rfl,?_⟩
   by_cases sN:e.t.sort=("pair":Str)
   ·rw [if_pos (by rw [sN]; exact decide_eq_true rfl)]
    refine qz.mk hm fA (by rw [List.length_map]; omega) ⟨s2.putD hD,ae,?_⟩
    rw [Rv,Ng,if_pos (decide_eq_true sN),List.map_append]
    rfl
   ·rw [if_neg (fun z=>sN (V.str.inj (of_decide_eq_true z)))]
    refine Cs.mk hm ⟨s2,fA,?_⟩
    rw [Rv,Ng,if_neg (fun z=>sN (of_decide_eq_true z)),List.append_nil]
  ·rintro ys H2 ⟨s2,fA,rfl⟩
   rw [List.length_map,List.take_length] at fA
   have Za:=MR.same s2
   have EN:=pC.same s2
   obtain⟨ps,Nh⟩:=EN.dS
   refine⟨ns.filter (Ej E),aF.of fA,by have:=List.length_filter_le (Ej E) ns; omega,EN,Nf E,fun H3 s3 n hn=>?_,fun D2 H3 ns3 vB s3 Ni uc ud _=>?_⟩
   ·obtain⟨p,e,rfl,he⟩:=at_ n (List.mem_filter.mp hn).1
    have h3M:=Za.kt (S:=(·=a.cY)) (H':=H3) (fun b o n e=>s3 b o n e) (fun b e=>⟨ps,by rw [e]; exact Nh⟩)
    obtain⟨dx3,ET⟩:=h3M.ob
    obtain⟨Y4,Bd⟩:=h3M.tm.ob
    obtain⟨xs3,es3,iq⟩:=h3M.tm.there he
    exact⟨_,_,_,ET,T.aB,T.aM,_,cB _ _,M.p,rfl,_,_,Bd,f3,M,xs3,es3,p,e,rfl,iq,by rw [nZ hA he],rfl⟩
   ·have h3M:=Za.kt (S:=(·=a.cY)) (H':=H3) (fun b o n e=>s3 b o n e) (fun b e=>⟨ps,by rw [e]; exact Nh⟩)
    have hpp:ns3.Perm ((prs E).map fun q=>((q.1:Nat):Int)):=by
     rw [←JP hA]
     exact ud.trans (hp.filter _)
    obtain⟨ts,Xw,P0⟩:=pL (fun q:Nat×Tg=>((q.1:Nat):Int)) hpp (prs E) rfl
    rw [←P0] at uc
    exact q D2 H3 ts ((dC.of (s1.trans s2)).trans s3) Ni ((s1.trans s2).free vB) uc Xw h3M
theorem uv {H H':Hp}{M:MA}{k gd:Addr}{E:List (Nat×En)}{G:List Nat}(t:JN a H) (h:MS a K H M k gd E G) (kk:Kp (fun b=>M.own b∨b=gd) H H'):JN a H':=by
 have no:∀b u,H b=some u→(∀xs,u≠.lst xs)→(∀xs,u≠.dK xs)→¬(M.own b∨b=gd):=fun b u e n1 n2 z=>by
  rcases z with z | rfl
  ·rcases h.tm.mu b z with ⟨y,e2⟩ | ⟨y,e2⟩
   ·rw [e] at e2
    cases e2
    exact n1 _ rfl
   ·rw [e] at e2
    cases e2
    exact n2 _ rfl
  ·have e2:=h.di
   rw [e] at e2
   cases e2
   exact n2 _ rfl
 rcases t with t | ⟨c',t,u⟩
 ·exact .inl (kk _ _ (no _ _ t (fun _ z=>by cases z) (fun _ z=>by cases z)) t)
 ·exact .inr ⟨c',kk _ _ (no _ _ t (fun _ z=>by cases z) (fun _ z=>by cases z)) t,kk _ _ (no _ _ u (fun _ z=>by cases z) (fun _ z=>by cases z)) u⟩
noncomputable def JQ (a:cN) (K:PySem.W.Frag):Sp:=fun vs H Q _=>∃M k gd E G,vs=[.ref k]∧MS a K H M k gd E G∧BC E G∧VE E∧E.length < 64∧JN a H ∧
 ∀H' E',Kp (fun b=>M.own b∨b=gd∨b=a.cY) H H'→JN a H'→MS a K H' M k gd E' []→Rel E E'→Cl E' (fun p=>cJ E' p=true)→Q .bf H'
theorem Rx (T:Txt K mg a) (B:BM mg base):aU P w K mg base cC 13 a.HK a.HL ["self"] (JQ a K):=by
 refine T.DP.ok P2 (fun vs H Q E h=>?_) (fun bL A outer s H vs Q E hr h=>?_)
 ·obtain⟨_,_,_,_,_,rfl,_⟩:=h
  rfl
 ·obtain⟨M,k,gd,E,G,rfl,h,hb,hv,lI,hT,q⟩:=h
  refine⟨_,(ag (aN (i:=1) P2.nd rfl (Or.inl rfl) (bT (pv 0) T.aB T.Qm (aba T B) (hr.mono (by decide)) T.aao .nil ar)) (ag (aV (bT (pv 0) T.aB T.Iq (Ru T) (hr.mono (by decide)) T.VO .nil ar)) (ag (aV (aC (pv 0) T.aB T.Ir (Rr T) (hr.mono (by decide)) T.VP .nil ar (aa (pv 1) af))) (ah (lH PassesOwn.never aw))))),?_⟩
  obtain⟨dx,h1⟩:=h.ob
  have g1:=cV (m:=M.p) (g:=gd) (n:="pairs_by_serial")
  have g2:=cV (m:=M.p) (g:=gd) (n:="empty_row")
  have g3:=cV (m:=M.p) (g:=gd) (n:="shade_values")
  have g4:=cV (m:=M.p) (g:=gd) (n:="has_grey")
  dsimp! [h1,HO.ins.injEq,g1,zC,gF]
  refine⟨M,gd,E,G,h,lI,hT,fun l H1 ts s1 pC hl d_ hp h1M=>?_⟩
  have wx:Eg E ts:=fun x hx=>by
   obtain⟨⟨p,e⟩,h3,rfl⟩:=List.mem_map.mp (hp.mem_iff.mp hx)
   exact⟨e,(List.mem_filter.mp h3).1,rfl⟩
  have Fp:∀E1,bC E1=bC E→∀p e,(p,e)∈E1→e.t.sort=("pair":Str)→(p,e.t)∈ts:=fun E1 hs p e he sN=>by
   obtain⟨e0,h3,h4,_⟩:=ef hs he
   refine hp.mem_iff.mpr (List.mem_map.mpr ⟨(p,e0),List.mem_filter.mpr ⟨h3,decide_eq_true (by rw [h4]; exact sN)⟩,?_⟩)
   rw [←h4]
  have nl:¬M.own l:=h.tm.gP hl
  have len:∀E1,bC E1=bC E→E1.length≤900:=fun E1 hs=>by
   have:=congrArg List.length (dM hs)
   rw [List.length_map,List.length_map] at this
   omega
  have Xa:l≠gd:=cu d_ h1M.di (by intro z; cases z)
  have nlk:¬(M.own l∨l=gd):=fun z=>z.elim nl Xa
  obtain⟨dx1,hk1⟩:=h1M.ob
  refine⟨_,_,hk1,g2,M,gd,E,G,h1M,hb,hv,len E rfl,fun H2 E2 k2 h2 r2 b2 m2 m2'=>?_⟩
  have EN:=uv pC h1M k2
  have eM:=k2 _ _ nlk d_
  obtain⟨qo,A5⟩:=h2.ob
  refine⟨_,_,A5,g3,M,k,gd,E2,[],l,ts,rfl,h2,eM,nl,Eg.bC r2.st wx,hv.bC r2.st,len E2 r2.st,fun H3 k3 h3=>?_⟩
  obtain⟨c1,c2,c3⟩:=nY ts (E2,[]) (hv.bC r2.st) (Eg.bC r2.st wx)
  have Ni:=uv EN h2 k3
  have uc:=k3 _ _ nlk eM
  have b3:=BC.gj (S:=(E2,[])) h2.tm.nd b2 c1
  have cl3:(ts.foldl dQ (E2,[])).2=[]→∀x∈ts,cJ (ts.foldl dQ (E2,[])).1 x.1=true→∀kn vn,x.2.wt=some (kn,some vn)→cJ (ts.foldl dQ (E2,[])).1 kn=true→cJ (ts.foldl dQ (E2,[])).1 vn=true:=fun z=>by
   obtain⟨z1,z2⟩:=c3 z
   rw [z1]
   exact z2
  have r3:=r2.trans c2
  have k03:Kp (fun b=>M.own b∨b=gd∨b=a.cY) H H3:=fun b o n e=>k3 b o (fun z=>n (z.elim .inl fun z=>.inr (.inl z))) (k2 b o (fun z=>n (z.elim .inl fun z=>.inr (.inl z))) (s1 b o (fun z=>n (.inr (.inr z))) e))
  generalize ts.foldl dQ (E2,[])=S3 at h3 b3 cl3 r3
  refine ww2 (fun m σ H4=>∃E1 G1,σ=[some (.ref k),some (.ref l)]∧Kp (fun b=>M.own b∨b=gd∨b=a.cY) H H4∧JN a H4∧H4 l=some (.lst ((ts.map fun q=>((q.1:Nat):Int)).map V.int))∧MS a K H4 M k gd E1 G1∧Rel E E1∧BC E1 G1∧m=ms (E1,G1)∧(G1=[]→∀x∈ts,cJ E1 x.1=true→∀kn vn,x.2.wt=some (kn,some vn)→cJ E1 kn=true→cJ E1 vn=true))
   (fun σ H4=>∃E1,Kp (fun b=>M.own b∨b=gd∨b=a.cY) H H4∧JN a H4∧MS a K H4 M k gd E1 []∧Rel E E1∧BC E1 []∧∀x∈ts,cJ E1 x.1=true→∀kn vn,x.2.wt=some (kn,some vn)→cJ E1 kn=true→cJ E1 vn=true) (ms S3) ⟨S3.1,S3.2,rfl,k03,Ni,uc,h3,r3,b3,rfl,cl3⟩ ?_ ?_
  ·rintro m σ H4 ⟨E1,G1,rfl,k4,lB,AV,h4,r4,b4,rfl,cl4⟩
   obtain⟨Y4,hk4⟩:=h4.ob
   refine hX.of (dU (bT (pv 0) T.aB T.Im (Rq T) (hr.mono (by decide)) T.VL .nil ar)) ?_
   dsimp! [hk4,HO.ins.injEq,g4,ir]
   refine⟨M,gd,E1,G1,h4,?_⟩
   cases hG:G1 with
   | nil=>
    subst hG
    rw [if_neg (by decide)]
    exact⟨k4,lB,E1,h4,r4,b4,cl4 rfl⟩
   | cons p G2=>
    rw [if_pos (by simp)]
    rw [←hG]
    refine a6.of (ag (aV (bT (pv 0) T.aB T.Iq (Ru T) (hr.mono (by decide)) T.VO .nil ar)) (ah (aV (aC (pv 0) T.aB T.Ir (Rr T) (hr.mono (by decide)) T.VP .nil ar (aa (pv 1) af))))) ?_
    dsimp! [hk4,HO.ins.injEq,g2,gF]
    refine⟨M,gd,E1,G1,h4,b4,hv.bC r4.st,len E1 r4.st,fun H5 E5 k5 h5 r5 b5 m5 m5'=>?_⟩
    have hT5:=uv lB h4 k5
    have uu:=k5 _ _ nlk AV
    obtain⟨ER,hk5⟩:=h5.ob
    have LJ:=(r4.trans r5).st
    refine⟨_,_,hk5,g3,M,k,gd,E5,[],l,ts,rfl,h5,uu,nl,Eg.bC LJ wx,hv.bC LJ,len E5 LJ,fun H6 k6 h6=>?_⟩
    obtain⟨d1,d2,d3⟩:=nY ts (E5,[]) (hv.bC LJ) (Eg.bC LJ wx)
    refine⟨_,Nat.lt_of_le_of_lt d1.ms (m5' (by rw [hG]; exact List.cons_ne_nil _ _)),fun b o n e=>k6 b o (fun z=>n (z.elim .inl fun z=>.inr (.inl z))) (k5 b o (fun z=>n (z.elim .inl fun z=>.inr (.inl z))) (k4 b o n e)),uv hT5 h5 k6,k6 _ _ nlk uu,_,_,h6,(r4.trans r5).trans d2,BC.gj (S:=(E5,[])) h5.tm.nd b5 d1,rfl,fun z=>?_⟩
    obtain⟨z1,z2⟩:=d3 z
    rw [z1]
    exact z2
  ·rintro σ H4 ⟨E1,k4,lB,h4,r4,b4,cl4⟩
   exact q H4 E1 k4 lB h4 r4 (Xy b4 (Fp E1 r4.st) h4.tm.nd cl4)
noncomputable def aA (l:List Nat):List V:=(l.map fun(p:Nat)=>(p:Int)).map V.int
theorem bK (l:List Nat):(aA l).length=l.length:=by
 unfold aA
 rw [List.length_map,List.length_map]
theorem iu {k:Nat}{l:List Nat}:inV (V.int (k:Int)) (aA l)=decide (k∈l):=by
 rw [Bool.eq_iff_iff,decide_eq_true_iff]
 unfold inV aA
 rw [List.any_eq_true]
 constructor
 ·rintro⟨x,hx,e⟩
  obtain⟨y,hy,rfl⟩:=List.mem_map.mp hx
  obtain⟨z,hz,rfl⟩:=List.mem_map.mp hy
  have:(z:Int)=(k:Int):=by simpa [Li] using e
  have e2:z=k:=by omega
  rw [←e2]
  exact hz
 ·intro h
  exact⟨_,List.mem_map.mpr ⟨_,List.mem_map.mpr ⟨k,h,rfl⟩,rfl⟩,by simp [Li]⟩
theorem fh (l:List Nat):(aA l).all fF=true:=by
 rw [List.all_eq_true]
 exact fun x hx=>dn _ x hx
noncomputable def kids (n:Gn):List Nat:=if n.t.sort="plain" then(n.t.fs.filterMap Vl.na).map Int.toNat else []
theorem JR (ps:List Nat):∀vs:List Vl,(vs.map (pF ps)).filterMap Vl.na=((vs.filterMap Vl.na).map Int.toNat).map fun k=>((ps.getD k 0:Nat):Int)
 | []=>rfl
 | v::vs=>by
  rw [List.map_cons,List.filterMap_cons,List.filterMap_cons,JR ps vs]
  cases v <;> rfl
theorem sO {t:Tg}{n:Gn}{ps:List Nat}(h1:t.sort=n.t.sort) (h2:t.fs=n.t.fs.map (pF ps)):t.hold=((kids n).map fun k=>ps.getD k 0).map fun(k:Nat)=>(k:Int):=by
 unfold kids
 cases t with
 | plain fs w=>
  have e:n.t.sort="plain":=h1.symm
  have h3:fs=n.t.fs.map (pF ps):=h2
  rw [if_pos e]
  show fs.filterMap Vl.na=_
  rw [h3,JR,List.map_map,List.map_map]
  simp
 | weak f=>
  have e:¬n.t.sort="plain":=by rw [←h1]; exact AS
  rw [if_neg e]
  rfl
 | pair k v=>
  have e:¬n.t.sort="plain":=by rw [←h1]; exact ub
  rw [if_neg e]
  rfl
structure CN (N:List Gn) (S:Nat→Prop):Prop where
 hold:∀(k:Nat) n,N[k]?=some n→S k→∀j∈kids n,S j
 wait:∀(k:Nat) n,N[k]?=some n→S k→∀kn vn,n.t.wt=some (kn,some vn)→S kn→S vn
noncomputable def fu (N:List Gn):Prop:=∀n∈N,∀z,Vl.th z∈n.t.fs→0≤z∧z < (N.length:Int)
theorem fu.kids {N:List Gn}(h:fu N) {n:Gn}(hn:n∈N):∀k∈kids n,k < N.length:=fun k hk=>by
 unfold bI.kids at hk
 split at hk
 ·obtain⟨z,hz,rfl⟩:=List.mem_map.mp hk
  obtain⟨v,hv,MB⟩:=List.mem_filterMap.mp hz
  cases v with
  | th y=>
   cases MB
   have:=h n hn _ hv
   omega
  | no=>cases MB
  | num y=>cases MB
 ·exact absurd hk (List.not_mem_nil)
theorem fu.wt {N:List Gn}(h:fu N) {n:Gn}(hn:n∈N) {kn vn:Nat}(hw:n.t.wt=some (kn,some vn)):kn < N.length∧vn < N.length:=by
 cases ht:n.t with
 | plain fs w=>rw [ht] at hw; cases hw
 | weak f=>rw [ht] at hw; cases hw
 | pair k u=>
  rw [ht] at hw
  cases k with
  | no=>cases hw
  | num z=>cases hw
  | th m=>
   cases u with
   | no=>cases hw
   | num z=>cases hw
   | th y=>
    cases hw
    have h1:=h n hn m (by rw [ht]; exact List.mem_cons_self)
    have h2:=h n hn y (by rw [ht]; exact List.mem_cons_of_mem _ List.mem_cons_self)
    omega
theorem C4:∀fs:List Vl,(∀z,Vl.th z∈fs→0≤z)→aA ((fs.filterMap Vl.na).map Int.toNat)=fs.filterMap fun v=>v.na.map V.int
 | [],_=>rfl
 | v::fs,h=>by
  have ih:=C4 fs fun z hz=>h z (List.mem_cons_of_mem _ hz)
  cases v with
  | no=>exact ih
  | num z=>exact ih
  | th z=>
   show V.int ((z.toNat:Nat):Int)::aA ((fs.filterMap Vl.na).map Int.toNat)=V.int z::_
   rw [ih,Int.toNat_of_nonneg (h z List.mem_cons_self)]
structure sQ (N:List Gn) (sm U0 U:List Nat) (b:Bool):Prop where
 nd:U.Nodup
 lt:∀k∈U,k < N.length
 has:∀k∈sm,k∈U
 sub:∀k∈U0,k∈U
 min:∀S:Nat→Prop,CN N S→(∀k∈sm,S k)→∀k∈U,S k
 XA:b=true→U0.length < U.length
 eq:b=false→U=U0
noncomputable def Jus (N:List Gn) (sm:List Nat) (x:Nat):Prop:=x < N.length∧∀S:Nat→Prop,CN N S→(∀k∈sm,S k)→S x
theorem sQ.len {N:List Gn}{sm U0 U:List Nat}{b:Bool}(h:sQ N sm U0 U b):U.length≤N.length:=by
 have:=uj (m:=List.range N.length) h.nd fun k hk=>List.mem_range.mpr (h.lt k hk)
 rwa [List.length_range] at this
theorem sQ.more {N:List Gn}{sm U0 U:List Nat}{b:Bool}(h:sQ N sm U0 U b) {x:Nat}(hx:x∉U) (j:Jus N sm x):sQ N sm U0 (U++[x]) true:=by
 refine⟨nU h.nd hx,fun k hk=>?_,fun k hk=>List.mem_append_left _ (h.has k hk),fun k hk=>List.mem_append_left _ (h.sub k hk),fun S c hs k hk=>?_,fun _=>?_,fun z=>nomatch z⟩
 ·rcases List.mem_append.mp hk with hk | hk
  ·exact h.lt k hk
  ·rw [List.mem_singleton.mp hk]
   exact j.1
 ·rcases List.mem_append.mp hk with hk | hk
  ·exact h.min S c hs k hk
  ·rw [List.mem_singleton.mp hk]
   exact j.2 S c hs
 ·rw [List.length_append,List.length_singleton]
  cases b with
  | true=>have:=h.XA rfl; omega
  | false=>rw [h.eq rfl]; omega
theorem sQ.start {N:List Gn}{sm U0 U:List Nat}{b:Bool}(h:sQ N sm U0 U b):sQ N sm U U false:=⟨h.nd,h.lt,h.has,fun _ z=>z,h.min,(fun z=>nomatch z),fun _=>rfl⟩
noncomputable def Rcl (N:List Gn) (U:List Nat) (k:Nat):Prop:=∀n,N[k]?=some n→(∀j∈kids n,j∈U)∧∀kn vn,n.t.wt=some (kn,some vn)→kn∈U→vn∈U
noncomputable def eY (E:List (Nat×En)):List Nat:=(List.range E.length).filter fun i=>((E[i]?).map fun p=>p.2.bR).getD false
theorem iV {E:List (Nat×En)}{i:Nat}:i∈eY E↔∃p,E[i]?=some p∧p.2.bR=true:=by
 unfold eY
 rw [List.mem_filter,List.mem_range]
 constructor
 ·rintro⟨h1,h2⟩
  rw [List.getElem?_eq_getElem h1] at h2
  exact⟨_,List.getElem?_eq_getElem h1,h2⟩
 ·rintro⟨p,h1,h2⟩
  refine⟨(List.getElem?_eq_some_iff.mp h1).1,?_⟩
  rw [h1]
  exact h2
theorem XB (E:List (Nat×En)):(eY E).Nodup:=List.Pairwise.filter _ List.nodup_range
noncomputable def XC (a:cN) (K:PySem.W.Frag):Sp:=fun vs H Q _=>∃N lr ls,∃sm:List Nat,vs=[.ref lr,.ref ls]∧H lr=some (.lst (N.map fun n=>V.ref n.ra))∧(∀n∈N,n.ok K H)∧fu N∧N.length≤24∧H ls=some (.lst (aA sm))∧sm.Nodup∧(∀k∈sm,k < N.length) ∧
 ∀(D:Addr) (ns:List Int) (U:List Nat) (H':Hp),ak H H'→H D=none→H' D=some (.lst (ns.map V.int))→ns.Perm (U.map fun(p:Nat)=>(p:Int))→ns.Pairwise (·≤·)→sQ N sm U U false→CN N (·∈U)→Q (.ref D) H'
noncomputable def IC0 (N:List Gn) (sm:List Nat) (lr ls th:Addr) (H:Hp) (m:Nat) (σ:List (Option V)) (H2:Hp):Prop:=∃(o4 o5 o6 o7 o8 o9 jE:Option V) (U:List Nat) (b:Bool),σ=[some (.ref lr),some (.ref ls),some (.ref th),some (.bl b),o4,o5,o6,o7,o8,o9,jE]∧ak H H2∧H2 th=some (.lst (aA U))∧sQ N sm U U false∧(b=false→∀k∈U,Rcl N U k)∧m=(N.length - U.length)+(if b=true then 1 else 0)
noncomputable def IC9 (N:List Gn) (sm:List Nat) (lr ls th:Addr) (H:Hp) (σ:List (Option V)) (H2:Hp):Prop:=∃(o3 o4 o5 o6 o7 o8 o9 jE:Option V) (U:List Nat),σ=[some (.ref lr),some (.ref ls),some (.ref th),o3,o4,o5,o6,o7,o8,o9,jE]∧ak H H2∧H2 th=some (.lst (aA U))∧sQ N sm U U false∧∀k∈U,Rcl N U k
noncomputable def IC1 (N:List Gn) (sm:List Nat) (lr ls th l:Addr) (U:List Nat) (H:Hp) (i:Nat) (σ:List (Option V)) (H4:Hp):Prop:=∃(o4 o5 o6 o7 o8 o9 jE:Option V) (U1:List Nat) (b1:Bool),σ=[some (.ref lr),some (.ref ls),some (.ref th),some (.bl b1),o4,o5,o6,o7,o8,o9,jE]∧ak H H4∧H4 l=some (.lst (aA U))∧H4 th=some (.lst (aA U1))∧sQ N sm U U1 b1∧(b1=false→∀(j k:Nat),j < i→U[j]?=some k→Rcl N U k)
noncomputable def JC1 (N:List Gn) (sm:List Nat) (lr ls th l:Addr) (n:Gn) (k:Nat) (b1:Bool) (U1:List Nat) (H5:Hp) (σ':List (Option V)) (H':Hp):Prop:=∃(jE:Option V) (D':Addr) (js:List Nat),σ'=[some (.ref lr),some (.ref ls),some (.ref th),some (.bl b1),some (.int (k:Nat)),some (.str n.t.sort),some (.ref n.fl),some (wV n.t.words),some (.int n.num),some (.ref D'),jE]∧ak H5 H'∧H' D'=some (.lst (aA js))∧D'≠th∧D'≠l∧js.length≤3∧(∀x∈js,Jus N sm x)∧(∀j∈kids n,j∈js)∧∀kn vn,n.t.wt=some (kn,some vn)→kn∈U1→vn∈js
noncomputable def IC2 (N:List Gn) (sm:List Nat) (lr ls th l D':Addr) (n:Gn) (k:Nat) (b1:Bool) (Nj U:List Nat) (H:Hp) (j:Nat) (σ:List (Option V)) (H7:Hp):Prop:=∃(jE:Option V) (U2:List Nat) (b2:Bool),σ=[some (.ref lr),some (.ref ls),some (.ref th),some (.bl b2),some (.int (k:Nat)),some (.str n.t.sort),some (.ref n.fl),some (wV n.t.words),some (.int n.num),some (.ref D'),jE]∧ak H H7∧H7 D'=some (.lst (aA Nj))∧H7 l=some (.lst (aA U))∧H7 th=some (.lst (aA U2))∧sQ N sm U U2 b2∧(b2=false→b1=false∧∀x∈Nj.take j,x∈U)
theorem JS (T:Txt K mg a):aU P w K mg base cC 2 a.yP a.yQ ["_law_rows","_law_some"] (XC a K):=by
 refine T.mF.ok d0 (fun vs H Q E h=>?_) (fun bL A outer s H vs Q E hr h=>?_)
 ·obtain⟨_,_,_,_,rfl,_⟩:=h
  rfl
 ·obtain⟨N,lr,ls,sm,rfl,Xn,bS,nN,Bd,hls,Jl,fo,q⟩:=h
  refine⟨_,(ag (aN (i:=2) d0.nd rfl (Or.inl rfl) (dX eS rfl T.ie kb (aa (pv 1) af))) (ag (aN (i:=3) d0.nd rfl (Or.inl rfl) gM) (ag (lH PassesOwn.never aw) aw))),?_⟩
  dsimp! []
  refine⟨_,.inl (aF.of hls),fun th iq=>?_⟩
  have s1:=ak.put (o:=.lst (aA sm)) iq
  have JT:upd H th (.lst (aA sm)) th=some (.lst (aA sm)):=ae
  generalize upd H th (.lst (aA sm))=H1 at s1 JT
  have nth:∀b u,H b=some u→b≠th:=fun b u e=>ao e iq
  have c0:sQ N sm sm sm false:=⟨Jl,fo,fun _ z=>z,fun _ z=>z,fun _ _ h=>h,(fun z=>nomatch z),fun _=>rfl⟩
  refine ww2 (IC0 N sm lr ls th H) (IC9 N sm lr ls th H) _ ⟨_,_,_,_,_,_,_,sm,true,rfl,s1,JT,c0,(fun z=>nomatch z),rfl⟩ ?_ ?_
  ·rintro m σ H2 ⟨o4,o5,o6,o7,o8,o9,jE,U,b,rfl,s2,zD,c2,hb,rfl⟩
   refine hX.of (dU (pv 3)) ?_
   dsimp! []
   cases b with
   | false=>
    rw [if_neg Bool.false_ne_true]
    exact⟨_,_,_,_,_,_,_,_,U,rfl,s2,zD,c2,hb rfl⟩
   | true=>
    rw [if_pos rfl]
    refine a6.of (ag (aN (i:=3) d0.nd rfl (Or.inl rfl) gM) (ah (bM PassesOwn.never rfl (bg (dX eS rfl T.ie kb (aa (pv 2) af))) (a7 (i:=4) d0.nd rfl (Or.inl rfl)) aw))) ?_
    dsimp! []
    have hUl:U.length≤N.length:=c2.len
    refine⟨_,.inl (aF.of zD),fun l hl=>?_⟩
    have s3:=ak.put (o:=.lst (aA U)) hl
    have uc:upd H2 l (.lst (aA U)) l=some (.lst (aA U)):=ae
    have Nk:=s3 _ _ zD
    have ntl:th≠l:=ao zD hl
    have nl:∀b u,H b=some u→b≠l:=fun b u e=>ao (s2 _ _ e) hl
    have Be:=s2.trans s3
    generalize upd H2 l (.lst (aA U))=H3 at s3 uc Nk Be
    refine⟨⟨_,aF.of uc⟩,dw (aA U) (IC1 N sm lr ls th l U H) ⟨_,_,_,_,_,_,_,U,false,rfl,Be,uc,Nk,c2,fun _ j k hj=>absurd hj (Nat.not_lt_zero j)⟩ ?_ ?_ ?_⟩
    ·rintro i σ H4 _ ⟨o4,o5,o6,o7,o8,o9,jE,U1,b1,rfl,s4,AV,_⟩
     exact aF.of AV
    ·rintro i x σ H4 hx ⟨o4,o5,o6,o7,o8,o9,jE,U1,b1,rfl,s4,AV,uw,c4,Lm⟩
     obtain⟨k,hk,rfl⟩:∃k,U[i]?=some k∧x=V.int (k:Nat):=by
      unfold aA at hx
      rw [List.getElem?_map,List.getElem?_map] at hx
      cases e:U[i]? with
      | none=>rw [e] at hx; cases hx
      | some w=>rw [e] at hx; cases hx; exact⟨w,rfl,rfl⟩
     have hkU:=List.mem_of_getElem? hk
     have vA:=c2.lt k hkU
     obtain⟨n,en⟩:∃n,N[k]=n:=⟨_,rfl⟩
     have hn:N[k]?=some n:=by rw [List.getElem?_eq_getElem vA,en]
     have fV:=List.mem_of_getElem? hn
     have abb:n.ok K H4:=(bS n fV).kp (S:=fun _=>False) (ak.kp s4) (fun _ z=>z.elim) (fun z=>z) (fun z=>z)
     obtain⟨fx,A4,sM,zx⟩:=abb.EU
     have A8:qm (N.map fun n=>V.ref n.ra) (k:Int)=some (V.ref n.ra):=bp (by rw [List.getElem?_map,hn]; rfl)
     refine gN ?_
     refine a6.of (ag (jv (aG ay (pv 0) (pv 4) (fun _ _=>rfl)) (Ub (n:=4) rfl (cP (a7 (i:=5) d0.nd rfl (Or.inr rfl)) (cP (a7 (i:=6) d0.nd rfl (Or.inl rfl)) (cP (a7 (i:=7) d0.nd rfl (Or.inl rfl)) (cP (a7 (i:=8) d0.nd rfl (Or.inl rfl)) j7)))))) (ag (hJ (j:=9) rfl d0.nd rfl rfl (gw (x:="_law_value_here") (ns:=["_law_sort"]) (fr:=[5]) rfl (by decide +kernel) rfl (by decide +kernel) rfl (List.forall_mem_cons.mpr ⟨rfl,List.forall_mem_nil _⟩) rfl rfl (List.forall_mem_cons.mpr ⟨⟨rfl,rfl,.inl rfl⟩,List.forall_mem_nil _⟩) (by decide +kernel)) (bg (pv 6)) (fun _ _ _ _=>(aG (tL (K:=K) rfl) (pv 0) aq (fun _ _=>rfl))) (fun _ _ _ _=>(.one (PW.pt (eZ (aH cX (aG (tL (K:=K) rfl) (pv 0) aq (fun _ _=>rfl)) aT (aQ _)) (gp (aH cX (pv 1) aT (aQ _)))))))) (ag tO aw))) ?_
     dsimp! []
     refine⟨lr,_,_,_,rfl,rfl,aF.of (s4 _ _ Xn),A8,n.ra,rfl,_,aF.of abb.row,rfl,_,_,rfl,_,_,rfl,_,_,rfl,_,_,rfl,rfl,n.fl,rfl,⟨_,aF.of A4⟩,fun D hD=>?_⟩
     refine hZ fx n.t.fs (fun v=>if n.t.sort="plain" then v.na.map V.int else none) (by omega) sM.1 (fun ys=>(ak.put hD).seq (aF.of A4)) ?_ ?_ ?_
     ·intro i x b ys R' hx hb Lq
      obtain⟨ty,rfl,PF⟩:=sM.2 i x b hx hb
      have Bf:=((c_.same (x:=.ref ty) (v:=b) ⟨ty,rfl,PF⟩ (ak.put (o:=.lst ys) hD)))
      obtain⟨_,e0,Bf⟩:=Bf
      cases e0
      dsimp! [aP,Option.join_some]
      refine⟨ty,_,_,_,rfl,rfl,Bf,b.hd,rfl,?_⟩
      cases b with
      | th z=>
       refine e9 ?_
       by_cases jX:n.t.sort="plain"
       ·rw [if_pos jX] at Lq
        rw [decide_eq_true jX]
        exact Lq
       ·rw [if_neg jX] at Lq
        rw [decide_eq_false jX]
        exact Lq
      | no=>
       refine dH ?_
       split at Lq <;> exact Lq
      | num z=>
       refine dH ?_
       split at Lq <;> exact Lq
     ·intro i x b y ys R' hx hb hy Lq
      obtain⟨ty,rfl,PF⟩:=sM.2 i x b hx hb
      have Bf:=((c_.same (x:=.ref ty) (v:=b) ⟨ty,rfl,PF⟩ (ak.put (o:=.lst ys) hD)))
      obtain⟨_,e0,Bf⟩:=Bf
      cases e0
      split at hy
      ·cases b with
       | th z=>
        cases hy
        dsimp! [aP,Option.join_some]
        exact⟨ty,_,_,_,rfl,rfl,Bf,rfl,Lq⟩
       | no=>cases hy
       | num z=>cases hy
      ·cases hy
     obtain⟨js,ejs,ejk⟩:∃js:List Nat,aA js=n.t.fs.filterMap (fun v=>if n.t.sort="plain" then v.na.map V.int else none)∧js=kids n:=by
      refine⟨_,?_,rfl⟩
      unfold kids
      by_cases jX:n.t.sort="plain"
      ·simp only [if_pos jX]
       exact C4 _ fun z hz=>(nN n fV z hz).1
      ·simp only [if_neg jX]
       rw [List.filterMap_eq_nil_iff.mpr fun _ _=>rfl]
       rfl
     rw [←ejs]
     have hjk:js.length≤3:=by
      have h1:=congrArg List.length ejs
      rw [bK] at h1
      have h2:=List.length_filterMap_le (fun v:Vl=>if n.t.sort="plain" then v.na.map V.int else none) n.t.fs
      have h3:=sM.1
      omega
     have agn:∀x∈js,Jus N sm x:=fun x hx=>by
      rw [ejk] at hx
      exact⟨nN.kids fV x hx,fun S c hs=>c.hold k n hn (c2.min S c hs k hkU) x hx⟩
     have s5:=ak.put (o:=.lst (aA js)) hD
     have vC:upd H4 D (.lst (aA js)) D=some (.lst (aA js)):=ae
     have Nl:=s5 _ _ uw
     have uu:=s5 _ _ AV
     have Y9:=s4.trans s5
     have Ek:=s5 _ _ A4
     have pM:=sM.same s5
     have hD0:H D=none:=s4.free hD
     generalize upd H4 D (.lst (aA js))=H5 at s5 vC Nl uu Y9 Ek pM
     refine Cq (JC1 N sm lr ls th l n k b1 U1 H5) (Mv.of (cO (PW.pt (eZ (aH cX (pv 5) aT (aQ _)) (eZ (aH cX (aG dy (aG ay (pv 6) aq (fun _ _=>rfl)) aq (fun _ _=>rfl)) aT (aQ _)) (eZ (aH rF (aG dy (aG ay (pv 6) aq (fun _ _=>rfl)) aq (fun _ _=>rfl)) (pv 2) (by with_unfolding_all rfl)) (gp (aH cX (aG dy (aG ay (pv 6) aq (fun _ _=>rfl)) aq (fun _ _=>rfl)) aT (aQ _))))))) (ah (aN (i:=9) d0.nd rfl (Or.inl rfl) (bD (aa (aG dy (aG ay (pv 6) aq (fun _ _=>rfl)) aq (fun _ _=>rfl)) af)))) bB) ?_) ?_
     ·dsimp! []
      have nDt:D≠th:=(ao uw hD).symm
      have nDl:D≠l:=(ao AV hD).symm
      have fW:∀Hx,ak H5 Hx→(∀kn vn,n.t.wt=some (kn,some vn)→kn∈U1→vn∈js)→JC1 N sm lr ls th l n k b1 U1 H5 [some (.ref lr),some (.ref ls),some (.ref th),some (.bl b1),some (.int (k:Nat)),some (.str n.t.sort),some (.ref n.fl),some (wV n.t.words),some (.int n.num),some (.ref D),jE] Hx:=fun Hx sx hw=>⟨_,_,js,rfl,sx,sx _ _ vC,nDt,nDl,hjk,agn,fun j hj=>by rw [ejk]; exact hj,hw⟩
      refine mP (fun hp=>?_) fun hp=>?_
      ·have gh:n.t.sort="pair":=of_decide_eq_true hp
       obtain⟨kv,u,ht⟩:∃kv u,n.t=.pair kv u:=by
        cases ht:n.t with
        | plain fs w=>rw [ht] at gh; exact absurd gh (by show ¬(("plain":Str)="pair"); decide +kernel)
        | weak f=>rw [ht] at gh; exact absurd gh (by show ¬(("weak":Str)="pair"); decide +kernel)
        | pair kv u=>exact⟨kv,u,rfl⟩
       have qy:n.t.fs=[kv,u]:=by rw [ht]; rfl
       have hkd:kids n=[]:=by
        unfold kids
        rw [if_neg (by rw [gh]; exact ub)]
       rw [qy] at pM
       have eM:fx.length=2:=pM.1.symm
       obtain⟨kx,ux,rfl⟩:∃kx ux,fx=[kx,ux]:=by
        match fx,eM with
        | [x,y],_=>exact⟨x,y,rfl⟩
       obtain⟨tk,rfl,htk⟩:=pM.2 0 kx kv rfl rfl
       obtain⟨tu,rfl,htu⟩:=pM.2 1 ux u rfl rfl
       refine⟨n.fl,_,_,_,rfl,rfl,aF.of Ek,bp (j:=0) rfl,tk,_,_,_,rfl,rfl,htk,kv.hd,rfl,?_⟩
       cases kv with
       | no=>
        refine dH (fW _ (.refl _) fun kn vn hw=>?_)
        rw [ht] at hw
        cases hw
       | num z=>
        refine dH (fW _ (.refl _) fun kn vn hw=>?_)
        rw [ht] at hw
        cases hw
       | th z=>
        have hz:=nN n fV z (by rw [qy]; exact List.mem_cons_self)
        obtain⟨zi,ez⟩:∃zi:Nat,z=(zi:Int):=⟨z.toNat,by omega⟩
        subst ez
        refine e9 ⟨n.fl,_,_,_,rfl,rfl,aF.of Ek,bp (j:=0) rfl,tk,_,_,V.int (zi:Int),rfl,rfl,htk,rfl,th,_,rfl,.inl (aF.of Nl),rfl,fh U1,_,rfl,?_⟩
        rw [if_neg Bool.false_ne_true,iu]
        have key:∀kn vn,n.t.wt=some (kn,some vn)→kn=zi∧u=.th (vn:Int):=fun kn vn hw=>by
         rw [ht] at hw
         cases u with
         | no=>cases hw
         | num y=>cases hw
         | th y=>
          have hy:=nN n fV y (by rw [qy]; exact List.mem_cons_of_mem _ List.mem_cons_self)
          cases hw
          exact⟨Int.toNat_natCast zi,by rw [Int.toNat_of_nonneg hy.1]⟩
        by_cases jq:zi∈U1
        ·rw [decide_eq_true jq]
         refine e9 ⟨n.fl,_,_,_,rfl,rfl,aF.of Ek,bp (j:=1) rfl,tu,_,_,_,rfl,rfl,htu,u.hd,rfl,?_⟩
         cases u with
         | no=>
          exact dH (fW _ (.refl _) fun kn vn hw=>nomatch (key kn vn hw).2)
         | num y=>
          exact dH (fW _ (.refl _) fun kn vn hw=>nomatch (key kn vn hw).2)
         | th y=>
          have hy:=nN n fV y (by rw [qy]; exact List.mem_cons_of_mem _ List.mem_cons_self)
          obtain⟨yi,ey⟩:∃yi:Nat,y=(yi:Int):=⟨y.toNat,by omega⟩
          subst ey
          refine e9 ⟨n.fl,_,_,_,rfl,rfl,aF.of Ek,bp (j:=1) rfl,tu,_,_,V.int (yi:Int),rfl,rfl,htu,rfl,by rw [sizeLine_eq]; decide,fun p hp=>⟨_,_,[yi],rfl,ak.put hp,ae,(ao Nl hp).symm,(ao uu hp).symm,by simp,fun x hx=>?_,fun j hj=>?_,fun kn vn hw _=>?_⟩⟩
          ·rw [List.mem_singleton.mp hx]
           have hw:n.t.wt=some (zi,some yi):=by
            rw [ht]
            rfl
           exact⟨(nN.wt fV hw).2,fun S c hs=>c.wait k n hn (c2.min S c hs k hkU) zi yi hw (c4.min S c hs zi jq)⟩
          ·rw [hkd] at hj
           cases hj
          ·have:=(key kn vn hw).2
           injection this with this
           rw [List.mem_singleton]
           omega
        ·rw [decide_eq_false jq]
         refine dH (fW _ (.refl _) fun kn vn hw h=>?_)
         rw [(key kn vn hw).1] at h
         exact absurd h jq
      ·refine fW _ (.refl _) fun kn vn hw=>?_
       cases ht:n.t with
       | plain fs w=>rw [ht] at hw; cases hw
       | weak f=>rw [ht] at hw; cases hw
       | pair kv u=>
        rw [ht] at hp
        exact absurd (decide_eq_true rfl) hp
     ·rintro σ' H6 ⟨jE,D',Nj,rfl,s6,hD6,nDt,nDl,Mz,hj1,Y3,hj3⟩
      refine a6.of (ah (bM PassesOwn.never rfl (bg (pv 9)) (a7 (i:=10) d0.nd rfl (Or.inl rfl)) aw)) ?_
      dsimp! []
      have s06:=Y9.trans s6
      refine⟨⟨_,aF.of hD6⟩,dw (aA Nj) (IC2 N sm lr ls th l D' n k b1 Nj U H) ⟨_,U1,b1,rfl,s06,hD6,s6 _ _ uu,s6 _ _ Nl,c4,fun z=>⟨z,fun x hx=>nomatch hx⟩⟩ ?_ ?_ ?_⟩
      ·rintro j σ H7 _ ⟨jE,U2,b2,rfl,s7,Nn,_⟩
       exact aF.of Nn
      ·rintro j x σ H7 hx ⟨jE,U2,b2,rfl,s7,Nn,hl7,qB,c7,hb7⟩
       obtain⟨y,hy,rfl⟩:∃y,Nj[j]?=some y∧x=V.int (y:Nat):=by
        unfold aA at hx
        rw [List.getElem?_map,List.getElem?_map] at hx
        cases e:Nj[j]? with
        | none=>rw [e] at hx; cases hx
        | some w=>rw [e] at hx; cases hx; exact⟨w,rfl,rfl⟩
       have Rv:Nj.take (j+1)=Nj.take j++[y]:=by
        rw [List.take_add_one,hy]
        rfl
       have aiD:U2.length≤24:=Nat.le_trans c7.len Bd
       refine gN ?_
       refine a6.of (ah (cO (aH gu (pv 10) (pv 2) (by with_unfolding_all rfl)) (ag (aV (jh PySem.F.plainAttrs_list PySem.F.slot_list_append PySem.F.type_list_append dj (pv 2) (aa (pv 10) af))) (ah (aN (i:=3) d0.nd rfl (Or.inl rfl) gM))) bB)) ?_
       dsimp! []
       refine⟨th,_,rfl,.inl (aF.of qB),rfl,fh U2,_,rfl,?_⟩
       rw [if_pos rfl,iu]
       by_cases jq:y∈U2
       ·rw [decide_eq_true jq]
        refine dH ⟨_,U2,_,rfl,s7,Nn,hl7,qB,c7,fun z=>⟨(hb7 z).1,fun x hx=>?_⟩⟩
        rw [Rv] at hx
        rcases List.mem_append.mp hx with hx | hx
        ·exact(hb7 z).2 x hx
        ·rw [List.mem_singleton.mp hx,←c7.eq z]
         exact jq
       ·rw [decide_eq_false jq]
        have ea:aA U2++[V.int (y:Int)]=aA (U2++[y]):=by
         unfold aA
         rw [List.map_append,List.map_append]
         rfl
        refine e9 ⟨.inl ⟨rfl,_,aF.of qB⟩,th,_,_,rfl,rfl,qB,a5 (by rw [bK]; omega),?_⟩
        rw [ea]
        exact⟨_,_,_,rfl,fun b u e=>by rw [ai (nth b u e)]; exact s7 b u e,by rw [ai nDt]; exact Nn,by rw [ai ntl.symm]; exact hl7,ae,c7.more jq (hj1 y (List.mem_of_getElem? hy)),(fun z=>nomatch z)⟩
      ·rintro σ H7 ⟨jE,U2,b2,rfl,s7,Nn,hl7,qB,c7,hb7⟩
       refine⟨_,_,_,_,_,_,_,U2,b2,rfl,s7,hl7,qB,c7,fun z j k2 hj A5=>?_⟩
       obtain⟨z1,z2⟩:=hb7 z
       rw [bK,List.take_length] at z2
       rcases Nat.lt_or_ge j i with Ry | Ry
       ·exact Lm z1 j k2 Ry A5
       ·have:j=i:=by omega
        subst this
        rw [hk] at A5
        cases A5
        intro n2 ql
        rw [hn] at ql
        cases ql
        exact⟨fun j hj=>z2 j (Y3 j hj),fun kn vn hw hkn=>z2 vn (hj3 kn vn hw (by rw [c4.eq z1]; exact hkn))⟩
    ·rintro σ H4 ⟨o4,o5,o6,o7,o8,o9,jE,U1,b1,rfl,s4,AV,uw,c4,Lm⟩
     rw [bK] at Lm
     cases b1 with
     | true=>
      have g:=c4.XA rfl
      have g2:=c4.len
      exact⟨_,by rw [if_pos rfl]; omega,_,_,_,_,_,_,_,U1,true,rfl,s4,uw,c4.start,(fun z=>nomatch z),rfl⟩
     | false=>
      have e:=c4.eq rfl
      subst e
      refine⟨_,by rw [if_neg Bool.false_ne_true]; omega,_,_,_,_,_,_,_,U1,false,rfl,s4,uw,c4,fun _ k hk=>?_,rfl⟩
      obtain⟨j,hj⟩:=List.getElem?_of_mem hk
      exact Lm rfl j k (List.getElem?_eq_some_iff.mp hj).1 hj
  ·rintro σ H2 ⟨o3,o4,o5,o6,o7,o8,o9,jE,U,rfl,s2,zD,c2,hb⟩
   refine a6.of (ah (aE (bh gy rfl T.dJ f_ (aa (pv 2) af)))) ?_
   dsimp! []
   have hU:U.length≤24:=Nat.le_trans c2.len Bd
   refine⟨U.map fun(p:Nat)=>(p:Int),aF.of zD,by rw [List.length_map]; omega,fun l fb hl hp hs=>?_⟩
   exact q l fb U _ (s2.trans (ak.put hl)) (s2.free hl) ae hp hs c2 ⟨fun k n hn hk=>(hb k hk n hn).1,fun k n hn hk=>(hb k hk n hn).2⟩
theorem JU {t:Tg}{n:Gn}{ps:List Nat}(h1:t.sort=n.t.sort) (h2:t.fs=n.t.fs.map (pF ps)):t.wt=n.t.wt.map fun q=>(ps.getD q.1 0,q.2.map fun v=>ps.getD v 0):=by
 obtain⟨ra,fl,tn,num⟩:=n
 dsimp only at h1 h2 ⊢
 have d1:¬(("plain":Str)="pair"):=by decide +kernel
 have d2:¬(("weak":Str)="pair"):=by decide +kernel
 cases t with
 | plain fs w=>
  cases tn with
  | plain Y8 w2=>rfl
  | weak f=>rfl
  | pair k v=>exact absurd h1 d1
 | weak f=>
  cases tn with
  | plain Y8 w2=>rfl
  | weak f=>rfl
  | pair k v=>exact absurd h1 d2
 | pair k v=>
  cases tn with
  | plain Y8 w2=>exact absurd h1.symm d1
  | weak f=>exact absurd h1.symm d2
  | pair k2 v2=>
   have h3:[k,v]=[pF ps k2,pF ps v2]:=h2
   injection h3 with h3 h4
   injection h4 with h4 _
   subst h3
   subst h4
   cases k2 with
   | no=>rfl
   | num z=>rfl
   | th z=>
    cases v2 with
    | no=>rfl
    | num y=>rfl
    | th y=>rfl
structure Nm (ps:List Nat) (E:List (Nat×En)) (N:List Gn):Prop where
 fst:E.map (·.1)=ps
 len:E.length=N.length
 rel:∀(i:Nat) p n,E[i]?=some p→N[i]?=some n→p.2.t.sort=n.t.sort∧p.2.t.fs=n.t.fs.map (pF ps)
 nd:ps.Nodup
section
variable {ps:List Nat}{E:List (Nat×En)}{N:List Gn}
theorem Nm.at_ (h:Nm ps E N) {i:Nat}(hi:i < N.length):∃e n,E[i]?=some (ps.getD i 0,e)∧N[i]?=some n∧e.t.sort=n.t.sort∧e.t.fs=n.t.fs.map (pF ps):=by
 have hl:i < E.length:=by rw [h.len]; exact hi
 have hn:N[i]?=some N[i]:=List.getElem?_eq_getElem hi
 have he:E[i]?=some E[i]:=List.getElem?_eq_getElem hl
 have e1:ps.getD i 0=E[i].1:=by
  rw [List.getD_eq_getElem?_getD,←h.fst,List.getElem?_map,he]
  rfl
 obtain⟨r1,r2⟩:=h.rel i _ _ he hn
 exact⟨E[i].2,N[i],by rw [he,e1],hn,r1,r2⟩
theorem Nm.Np (h:Nm ps E N):ps.length=N.length:=by
 rw [←h.fst,List.length_map]
 exact h.len
theorem Nm.inj (h:Nm ps E N) {i j:Nat}(hi:i < N.length) (hj:j < N.length) (e:ps.getD i 0=ps.getD j 0):i=j:=by
 have Ab:i < ps.length:=by rw [h.Np]; exact hi
 have Y3:j < ps.length:=by rw [h.Np]; exact hj
 rw [List.getD_eq_getElem?_getD,List.getD_eq_getElem?_getD,List.getElem?_eq_getElem Ab,List.getElem?_eq_getElem Y3] at e
 have e:ps[i]=ps[j]:=e
 rcases Nat.lt_trichotomy i j with z | z | z
 ·exact absurd e (List.pairwise_iff_getElem.mp h.nd i j Ab Y3 z)
 ·exact z
 ·exact absurd e.symm (List.pairwise_iff_getElem.mp h.nd j i Y3 Ab z)
theorem Nm.aps (h:Nm ps E N):zp E:=by
 have:=h.nd
 rw [←h.fst] at this
 exact List.pairwise_map.mp this
theorem Nm.bR (h:Nm ps E N) {i:Nat}(hi:i < N.length):cJ E (ps.getD i 0)=true↔i∈eY E:=by
 obtain⟨e,n,he,_⟩:=h.at_ hi
 rw [h.aps.mk (List.mem_of_getElem? he),iV]
 constructor
 ·exact fun z=>⟨_,he,z⟩
 ·rintro⟨p,hp,z⟩
  rw [he] at hp
  cases hp
  exact z
theorem Nm.in_ (h:Nm ps E N) {p:Nat}{e:En}(hp:(p,e)∈E):∃i n,i < N.length∧ps.getD i 0=p∧N[i]?=some n∧e.t.sort=n.t.sort∧e.t.fs=n.t.fs.map (pF ps):=by
 obtain⟨i,hi⟩:=List.getElem?_of_mem hp
 have hl:=(List.getElem?_eq_some_iff.mp hi).1
 have hN:i < N.length:=by rw [←h.len]; exact hl
 obtain⟨e2,n,he,hn,r1,r2⟩:=h.at_ hN
 rw [hi] at he
 have:=Option.some.inj he
 injection this with h1 h2
 subst h2
 exact⟨i,n,hN,h1.symm,hn,r1,r2⟩
theorem Nm.dlt (h:Nm ps E N):∀i∈eY E,i < N.length:=fun i hi=>by
 obtain⟨p,hp,_⟩:=iV.mp hi
 rw [←h.len]
 exact(List.getElem?_eq_some_iff.mp hp).1
theorem JV {E':List (Nat×En)}{U:List Nat}(h:Nm ps E N) (h':Nm ps E' N) (hc:fu N) (r:Rel E E') (cl:Cl E' fun p=>cJ E' p=true) (c:sQ N (eY E) U U false) (cn:CN N (·∈U)):∀i,i∈eY E'↔i∈U:=by
 intro i
 constructor
 ·intro hi
  have hiN:=h'.dlt i hi
  have clS:Cl E fun p=>∃k,k∈U∧ps.getD k 0=p:=by
   refine⟨fun p e he hp n hn=>?_,fun p e he hp kn vn hw hk=>?_⟩
   ·obtain⟨k,hk,ek⟩:=hp
    obtain⟨k2,n2,A5,ek2,ql,r1,r2⟩:=h.in_ he
    have:=h.inj (c.lt k hk) A5 (ek.trans ek2.symm)
    subst this
    rw [sO r1 r2] at hn
    obtain⟨y,hy,ey⟩:=List.mem_map.mp hn
    obtain⟨j,hj,rfl⟩:=List.mem_map.mp hy
    exact⟨j,cn.hold k n2 ql hk j hj,by have ey:((ps.getD j 0:Nat):Int)=(n:Int):=ey; omega⟩
   ·obtain⟨k,hk0,ek⟩:=hp
    obtain⟨k2,n2,A5,ek2,ql,r1,r2⟩:=h.in_ he
    have:=h.inj (c.lt k hk0) A5 (ek.trans ek2.symm)
    subst this
    rw [JU r1 r2] at hw
    cases hw2:n2.t.wt with
    | none=>rw [hw2] at hw; cases hw
    | some q=>
     obtain⟨kn2,ov⟩:=q
     rw [hw2] at hw
     cases ov with
     | none=>cases hw
     | some vn2=>
      cases hw
      obtain⟨k3,hk3,ek3⟩:=hk
      have h4:=hc.wt (List.mem_of_getElem? ql) hw2
      have:=h.inj (c.lt k3 hk3) h4.1 ek3
      subst this
      exact⟨vn2,cn.wait k n2 ql hk0 k3 vn2 hw2 hk3,rfl⟩
  obtain⟨k,hk,ek⟩:=r.lo _ clS (fun p hp=>by
   obtain⟨e,he,hm⟩:=dq.mp hp
   obtain⟨k,n,hk,ek,_⟩:=h.in_ he
   exact⟨k,c.has k ((h.bR hk).mp (by rw [ek]; exact hp)),ek⟩) (ps.getD i 0) ((h'.bR hiN).mpr hi)
  have:=h.inj (c.lt k hk) hiN ek
  subst this
  exact hk
 ·intro hi
  refine c.min (fun j=>j∈eY E') ⟨fun k n hn hk j hj=>?_,fun k n hn hk kn vn hw hkn=>?_⟩ (fun k hk=>?_) i hi
  ·have vA:=h'.dlt k hk
   have hjN:=hc.kids (List.mem_of_getElem? hn) j hj
   obtain⟨e,n2,he,ql,r1,r2⟩:=h'.at_ vA
   rw [hn] at ql
   cases ql
   refine(h'.bR hjN).mp (cl.hold _ e (List.mem_of_getElem? he) ((h'.bR vA).mpr hk) _ ?_)
   rw [sO r1 r2]
   exact List.mem_map.mpr ⟨_,List.mem_map.mpr ⟨j,hj,rfl⟩,rfl⟩
  ·have vA:=h'.dlt k hk
   obtain⟨h1,h2⟩:=hc.wt (List.mem_of_getElem? hn) hw
   obtain⟨e,n2,he,ql,r1,r2⟩:=h'.at_ vA
   rw [hn] at ql
   cases ql
   refine(h'.bR h2).mp (cl.wait _ e (List.mem_of_getElem? he) ((h'.bR vA).mpr hk) (ps.getD kn 0) _ ?_ ((h'.bR h1).mpr hkn))
   rw [JU r1 r2,hw]
   rfl
  ·have vA:=h.dlt k hk
   exact(h'.bR vA).mp (r.up _ ((h.bR vA).mpr hk))
end
noncomputable abbrev pI (ts:List (Nat×En)):List V:=(ts.map fun p=>((p.1:Nat):Int)).map V.int
theorem dB (ts:List (Nat×En)):(pI ts).length=ts.length:=by
 rw [List.length_map,List.length_map]
theorem mM {ts:List (Nat×En)}{i:Nat}{x:V}(h:(pI ts)[i]?=some x):∃p,ts[i]?=some p∧x=V.int ((p.1:Nat):Int):=by
 rw [List.getElem?_map,List.getElem?_map] at h
 cases e:ts[i]? with
 | none=>rw [e] at h; cases h
 | some w=>rw [e] at h; cases h; exact⟨w,rfl,rfl⟩
theorem Nq (ts:List (Nat×En)) (p:Nat×En):pI (ts++[p])=pI ts++[V.int ((p.1:Nat):Int)]:=by
 unfold pI
 rw [List.map_append,List.map_append]
 rfl
theorem zE {ts:List (Nat×En)}{i:Nat}{p:Nat×En}(f:Nat×En→Bool) (h:ts[i]?=some p):(ts.take (i+1)).filter f=(ts.take i).filter f++if f p=true then [p] else []:=by
 rw [List.take_add_one,h,List.filter_append]
 congr 1
 show List.filter f [p]=_
 rw [List.filter_cons,List.filter_nil]
theorem kK (ts:List (Nat×En)) (i:Nat) (f:Nat×En→Bool):((ts.take i).filter f).length≤ts.length:=by
 have h5:=List.length_filter_le f (ts.take i)
 rw [List.length_take] at h5
 omega
noncomputable def uy (f:Nat×En→Bool) (ts:List (Nat×En)) (H:Hp) (D:Addr) (i:Nat) (ys:List V) (H2:Hp):Prop:=ak H H2∧H2 D=some (.lst ys)∧ys=pI ((ts.take i).filter f)
theorem uy.put {f:Nat×En→Bool}{ts:List (Nat×En)}{H H2:Hp}{D:Addr}{i:Nat}{p:Nat×En}(hD:H D=none) (hs:ak H H2) (fA:H2 D=some (.lst (pI ((ts.take i).filter f)))) (h:ts[i]?=some p) (hf:f p=true):uy f ts H D (i+1) (pI ((ts.take i).filter f)++[V.int ((p.1:Nat):Int)]) (upd H2 D (.lst (pI ((ts.take i).filter f)++[V.int ((p.1:Nat):Int)]))):=by
 refine⟨fun b u e=>?_,ae,?_⟩
 ·rw [ai (ao e hD)]
  exact hs b u e
 ·rw [zE f h,if_pos hf,Nq]
theorem uy.skip {f:Nat×En→Bool}{ts:List (Nat×En)}{H H2:Hp}{D:Addr}{i:Nat}{p:Nat×En}(hs:ak H H2) (fA:H2 D=some (.lst (pI ((ts.take i).filter f)))) (h:ts[i]?=some p) (hf:¬f p=true):uy f ts H D (i+1) (pI ((ts.take i).filter f)) H2:=by
 refine⟨hs,fA,?_⟩
 rw [zE f h,if_neg hf,List.append_nil]
theorem TM.told {H:Hp}{M:MA}{E:List (Nat×En)}(h:TM a K H M E) (lI:E.length < 64) {Q:VK}{X:XK}(q:∀(l:Addr) (ts:List (Nat×En)) (H':Hp),ak H H'→H l=none→H' l=some (.lst (pI ts))→ts.Perm E→Q (.ref l) H'):Jq a [.ref M.p] H Q X:=by
 obtain⟨xs,R,hR,eR⟩:=id h
 have hRl:R.length=E.length:=by rw [←eR,List.length_map]
 refine⟨M,xs,_,rfl,hR.mem,by rw [List.length_map]; omega,fun l ns H1 s1 hl d_ hp hs=>?_⟩
 rw [A1] at hp
 have ep:MT R=E.map fun p=>((p.1:Nat):Int):=by
  rw [←eR,List.map_map]
  rfl
 rw [ep] at hp
 obtain⟨ts,h1,h2⟩:=pL (fun p:Nat×En=>((p.1:Nat):Int)) hp E rfl
 exact q l ts H1 s1 hl (by rw [d_,←h2]) h1
noncomputable def pN (a:cN) (K:PySem.W.Frag):Sp:=fun vs H Q _=>∃M E l,∃ts:List (Nat×En),vs=[.ref M.p,.ref l]∧TM a K H M E∧H l=some (.lst (pI ts))∧(∀p∈ts,p∈E)∧ts.length < 64 ∧
 ∀(D:Addr) (ns:List Int) (H':Hp),ak H H'→H D=none→H' D=some (.lst (ns.map V.int))→ns.Perm (ts.map fun p=>p.2.bJ)→ns.Pairwise (·≤·)→Q (.ref D) H'
theorem uz (T:Txt K mg a):aU P w K mg base cC 4 a.w9 a.w_ ["memory","places"] (pN a K):=by
 refine T.jm.ok Vc (fun vs H Q E h=>?_) (fun bL A outer s H vs Q E hr h=>?_)
 ·obtain⟨_,_,_,_,rfl,_⟩:=h
  rfl
 ·obtain⟨M,E,l,ts,rfl,h,hl,jq,lI,q⟩:=h
  refine⟨_,(ah (aE (bh gy rfl T.dJ f_ (aa (mi rfl (gw (x:="place") (ns:=["memory"]) (fr:=[0]) rfl (by decide +kernel) rfl (by decide +kernel) rfl (List.forall_mem_cons.mpr ⟨rfl,List.forall_mem_nil _⟩) rfl rfl (List.forall_mem_cons.mpr ⟨⟨rfl,rfl,.inl rfl⟩,List.forall_mem_nil _⟩) (by decide +kernel)) (bg (pv 1)) (fun _ _ _ _=>(aC (pv 1) T.au T.tZ (AW T) (hr.mono (by decide)) T.CJ .nil ar (aa (pv 0) af))) (fun _ _ _ _=>.nil)) af)))),?_⟩
  dsimp! []
  refine⟨⟨_,aF.of hl⟩,fun D hD=>hZ (pI ts) ts (fun p=>some (V.int p.2.bJ)) (by rw [dB]; omega) (dB ts).symm (fun ys=>(ak.put hD).seq (aF.of hl)) (fun i x b ys R hx hb hR=>hR) ?_ ?_⟩
  ·intro i x b y ys R hx hb hy hR
   obtain⟨⟨pl,e⟩,hp,rfl⟩:=mM hx
   rw [hp] at hb
   cases hb
   cases hy
   have h2:=h.same (ak.put (o:=.lst ys) hD)
   obtain⟨dx,h1⟩:=h2.ob
   obtain⟨xs,es,iq⟩:=h2.there (jq _ (List.mem_of_getElem? hp))
   dsimp! [aP,Option.join_some]
   exact⟨_,_,h1,aW,M,xs,es,pl,e,rfl,iq,hR⟩
  ·have e1:ts.filterMap (fun p=>some (V.int p.2.bJ))=(ts.map fun p=>p.2.bJ).map V.int:=by
    rw [List.filterMap_eq_map',List.map_map]
    rfl
   rw [e1]
   refine⟨_,aF.of ae,by rw [List.length_map]; exact lI,fun l2 ns eM hp hs=>?_⟩
   exact q l2 ns _ ((ak.put hD).trans (ak.put eM)) (cm eM) ae hp hs
noncomputable def sR (a:cN) (K:PySem.W.Frag):Sp:=fun vs H Q _=>∃M E,vs=[.ref M.p]∧TM a K H M E∧E.length < 64 ∧
 ∀(D:Addr) (ts:List (Nat×En)) (H':Hp),ak H H'→H D=none→H' D=some (.lst (pI ts))→ts.Perm (E.filter fun p=>p.2.bR)→Q (.ref D) H'
theorem Bg (T:Txt K mg a):aU P w K mg base cC 5 a.xa a.xc ["memory"] (sR a K):=by
 refine T.kr.ok Vd (fun vs H Q E h=>?_) (fun bL A outer s H vs Q E hr h=>?_)
 ·obtain⟨_,_,rfl,_⟩:=h
  rfl
 ·obtain⟨M,E,rfl,h,lI,q⟩:=h
  refine⟨_,(ah (aE (mi rfl (gw (x:="place") (ns:=["memory"]) (fr:=[0]) rfl (by decide +kernel) rfl (by decide +kernel) rfl (List.forall_mem_cons.mpr ⟨rfl,List.forall_mem_nil _⟩) rfl rfl (List.forall_mem_cons.mpr ⟨⟨rfl,rfl,.inl rfl⟩,List.forall_mem_nil _⟩) (by decide +kernel)) (bg (bT (pv 0) T.au T.pf (ui T) (hr.mono (by decide)) T.ze .nil ar)) (fun _ _ _ _=>(pv 0)) (fun _ _ _ _=>(.one (dU (aC (pv 1) T.au T.gB (ip T) (hr.mono (by decide)) T.ky .nil ar (aa (pv 0) af)))))))),?_⟩
  obtain⟨dx,h1⟩:=h.ob
  have f1:=aW (pr:=M.pr) (lb:=M.lb) (n:="places")
  have f2:=aW (pr:=M.pr) (lb:=M.lb) (n:="marked_at")
  dsimp! [h1,HO.ins.injEq,f1]
  refine h.told lI fun l ts H1 s1 hl d_ hp=>⟨l,rfl,⟨_,aF.of d_⟩,fun D hD=>?_⟩
  have htl:ts.length=E.length:=hp.length_eq
  have pC:=h.same s1
  refine EO (pI ts) (uy (fun p=>p.2.bR) ts H1 D) ⟨.put hD,ae,rfl⟩ (fun i ys H2 _ z=>aF.of (z.1 _ _ d_)) ?_ ?_
  ·rintro i m x ys H2 hm hx ⟨s2,fA,rfl⟩
   obtain⟨⟨pl,e⟩,kL,rfl⟩:=mM hx
   have h2:=pC.same s2
   obtain⟨qo,lA⟩:=h2.ob
   obtain⟨xs,es,iq⟩:=h2.there (hp.mem_iff.mp (List.mem_of_getElem? kL))
   have hlen:=kK ts i fun p=>p.2.bR
   dsimp! [aP,Option.join_some]
   refine⟨_,_,lA,f2,M,xs,es,pl,e,rfl,iq,_,rfl,?_⟩
   by_cases eN:e.bR=true
   ·rw [if_pos eN]
    exact qz.mk hm fA (by rw [dB]; omega) (uy.put (p:=(pl,e)) hD s2 fA kL eN)
   ·rw [if_neg eN]
    exact Cs.mk hm (uy.skip (p:=(pl,e)) s2 fA kL eN)
  ·rintro ys H2 ⟨s2,fA,rfl⟩
   rw [dB,List.take_length] at fA
   exact q D _ H2 (s1.trans s2) (s1.free hD) fA (hp.filter _)
noncomputable def JW (a:cN) (K:PySem.W.Frag):Sp:=fun vs H Q _=>∃M E pl e,vs=[.ref M.p,.int (pl:Nat)]∧TM a K H M E∧(pl,e)∈E∧VE E∧∀H',ak H H'→Q (.bl (qp E e.t)) H'
theorem XD (T:Txt K mg a):aU P w K mg base cC 12 a.xf a.xg ["memory","place"] (JW a K):=by
 refine T.oP.ok Hw (fun vs H Q E h=>?_) (fun bL A outer s H vs Q E hr h=>?_)
 ·obtain⟨_,_,_,_,rfl,_⟩:=h
  rfl
 ·obtain⟨M,E,pl,e,rfl,h,he,hv,q⟩:=h
  refine⟨_,(ag (aN (i:=2) Hw.nd rfl (Or.inl rfl) (j_ nM (bQ (L:=[(a.aZ,cM a K),(a.ax,cM a K),(a.az,cM a K)]) (aC (pv 0) T.au T.ia (jD T) (hr.mono (by decide)) T.mE .nil ar (aa (pv 1) af)) (List.forall_mem_cons.mpr ⟨⟨_,_,_,_,T.bO,T.lL,dz T,hr.mono (by decide),T.eO⟩,List.forall_mem_cons.mpr ⟨⟨_,_,_,_,T.aK,T.bA,dz T,hr.mono (by decide),T.eO⟩,List.forall_mem_cons.mpr ⟨⟨_,_,_,_,T.aR,T.bG,dz T,hr.mono (by decide),T.eO⟩,List.forall_mem_nil _⟩⟩⟩) .nil ar) Ci (iN aq))) (ah (aE (bh (DI rfl) rfl T.CP Uu (aa (mi rfl (gw (x:="name") (ns:=["memory"]) (fr:=[0]) rfl (by decide +kernel) rfl (by decide +kernel) rfl (List.forall_mem_cons.mpr ⟨rfl,List.forall_mem_nil _⟩) rfl rfl (List.forall_mem_cons.mpr ⟨⟨rfl,rfl,.inl rfl⟩,List.forall_mem_nil _⟩) (by decide +kernel)) (bg (aD (t_ T) (hr.mono (by decide)) rfl T.yY T.jj.kp T.yX .nil ar (aa (pv 2) af))) (fun _ _ _ _=>(Tz (aC (pv 1) T.au T.gB (ip T) (hr.mono (by decide)) T.ky .nil ar (aa (pv 0) af)))) (fun _ _ _ _=>.nil)) af))))),?_⟩
  obtain⟨dx,h1⟩:=h.ob
  have f1:=aW (pr:=M.pr) (lb:=M.lb) (n:="thing_at")
  have f2:=aW (pr:=M.pr) (lb:=M.lb) (n:="marked_at")
  dsimp! [h1,HO.ins.injEq,f1,AQ]
  obtain⟨xs,es,iq⟩:=h.there he
  refine⟨M,xs,es,pl,e,rfl,iq,fun tp td H4 s4 Ln Xc lB=>?_⟩
  obtain⟨ER,A3⟩:=lB.ob
  refine⟨tp,rfl,_,_,_,A3,e.t.no td,_,e.t.mem _,tp,td,e.t,rfl,lB,fun r fx Rj sM A4=>?_⟩
  have s5:=s4.trans (ak.put (o:=.lst fx) Rj)
  have pM:=sM.same (ak.put (o:=.lst fx) Rj)
  have abc:upd H4 r (.lst fx) r=some (.lst fx):=ae
  generalize upd H4 r (.lst fx)=H5 at s5 pM abc
  refine⟨r,fx,rfl,aF.of abc,fun l6 Y_=>?_⟩
  obtain⟨cx,ecx⟩:∃cx,qu fx none (some 1)=cx:=⟨_,rfl⟩
  rw [ecx]
  have XE:cx=fx.take 1:=by
   rw [←ecx]
   unfold qu
   cases fx with
   | nil=>rfl
   | cons x fx=>
    rw [show(1:Int)=((1:Nat):Int) from rfl,HT.tI]
    have e0:HT.vT (x::fx).length 0 none=0:=rfl
    rw [e0]
    simp
  have s6:=s5.trans (ak.put (o:=.lst cx) Y_)
  have abd:upd H5 l6 (.lst cx) l6=some (.lst cx):=ae
  have El:=pM.same (ak.put (o:=.lst cx) Y_)
  generalize upd H5 l6 (.lst cx)=H6 at s6 abd El
  refine⟨l6,rfl,cx,aF.of abd,?_,e.t.fs.take 1,?_,fun i x v e1 e2=>?_,fun r7 Zb=>⟨⟨_,aF.of ae⟩,fun D hD=>?_⟩⟩
  ·rw [XE,List.length_take]
   omega
  ·rw [XE,List.length_take,List.length_take,sM.1]
  ·rw [XE,List.getElem?_take] at e1
   rw [List.getElem?_take] at e2
   split at e1
   ·rename_i hi
    rw [if_pos hi] at e2
    exact El.2 i x v e1 e2
   ·cases e1
  have s7:=s6.trans (ak.put (o:=.lst ((e.t.fs.take 1).filterMap Vl.nm)) Zb)
  have JX:upd H6 r7 (.lst ((e.t.fs.take 1).filterMap Vl.nm)) r7=some (.lst ((e.t.fs.take 1).filterMap Vl.nm)):=ae
  generalize upd H6 r7 (.lst ((e.t.fs.take 1).filterMap Vl.nm))=H7 at s7 JX hD
  have CW:(∀n r,e.t.fs≠Vl.th n::r)→(e.t.fs.take 1).filterMap Vl.nm=[]∧qp E e.t=false:=fun hn=>by
   unfold qp
   cases hf:e.t.fs with
   | nil=>exact⟨rfl,rfl⟩
   | cons v r=>
    cases v with
    | no=>exact⟨rfl,rfl⟩
    | num z=>exact⟨rfl,rfl⟩
    | th n=>exact absurd hf (hn n r)
  by_cases JT:∃n r,e.t.fs=Vl.th n::r
  ·obtain⟨n,rr,hf⟩:=JT
   obtain⟨q2,rfl,Lp⟩:=hv pl e he n (by rw [hf]; exact List.mem_cons_self)
   obtain⟨⟨q3,e3⟩,he3,eq3⟩:=List.mem_map.mp Lp
   have eq3:q3=q2:=eq3
   subst eq3
   have hb:qp E e.t=!e3.bR:=by
    unfold qp
    rw [hf]
    show(!cJ E (Int.toNat (q3:Int)))=_
    rw [Int.toNat_natCast,h.nd.mk he3]
   have hnm:(e.t.fs.take 1).filterMap Vl.nm=[V.int (q3:Int)]:=by
    rw [hf]
    rfl
   rw [hnm] at JX
   refine hZ [V.int (q3:Int)] [()] (fun _=>some (V.bl (!e3.bR))) (by simp) rfl (fun ys=>(ak.put hD).seq (aF.of JX)) (fun i x b ys R hx hb hR=>hR) ?_ ?_
   ·intro i x b y ys R hx hb hy hR
    have hx:x=V.int (q3:Int):=by
     rw [List.getElem?_singleton] at hx
     split at hx
     ·cases hx
      rfl
     ·cases hx
    subst hx
    cases hy
    have h8:=(h.same s7).same (ak.put (o:=.lst ys) hD)
    obtain⟨dx8,h18⟩:=h8.ob
    obtain⟨xs8,es8,ago⟩:=h8.there he3
    dsimp! [aP,Option.join_some]
    exact⟨_,_,h18,f2,M,xs8,es8,q3,e3,rfl,ago,_,rfl,hR⟩
   ·refine⟨[!e3.bR],aF.of ae,?_⟩
    rw [show [!e3.bR].any id=qp E e.t by rw [hb]; simp]
    exact q _ (s7.trans (ak.put hD))
  ·obtain⟨h8,h9⟩:=CW fun n r z=>JT ⟨n,r,z⟩
   rw [h8] at JX
   refine hZ [] ([]:List Unit) (fun _=>none) (by simp) rfl (fun ys=>(ak.put hD).seq (aF.of JX)) (fun i x b ys R hx hb hR=>by cases hx) (fun i x b y ys R hx hb hy hR=>by cases hx) ?_
   refine⟨[],aF.of ae,?_⟩
   rw [show([]:List Bool).any id=qp E e.t by rw [h9]; rfl]
   exact q _ (s7.trans (ak.put hD))
theorem TM.agp {H:Hp}{M:MA}{E:List (Nat×En)}{pl:Nat}{e:En}{j:Nat}{x:V}{v:Vl}{Q:VK}{X:XK}(h:TM a K H M E) (he:(pl,e)∈E) (hj:j < e.t.fs.length) (hx:c_ K H x v) (q:∀H',Kp (·=M.d) H H'→TM a K H' M (dA E pl ⟨e.t.zm j v,e.bJ,e.bR⟩)→Q .bf H'):AY a K [.ref M.p,.int (pl:Nat),.int (j:Nat),x] H Q X:=by
 obtain⟨xs,R,hR,rfl⟩:=h
 obtain⟨r,hr,e1⟩:=List.mem_map.mp he
 have iq:=hR.there hr
 cases e1
 exact⟨M,xs,_,_,_,j,x,v,rfl,iq,hj,hx,fun H' vv uh k hM hc=>q H' k (hR.set k hM hc)⟩
theorem TM.agq {H:Hp}{M:MA}{E:List (Nat×En)}{pl:Nat}{fs:List Vl}{wd:Option Int}{bJ:Int}{mk:Bool}{w':Option Int}{Q:VK}{X:XK}(h:TM a K H M E) (he:(pl,(⟨.plain fs wd,bJ,mk⟩:En))∈E) (q:∀H',Kp (·=M.d) H H'→TM a K H' M (dA E pl ⟨.plain fs w',bJ,mk⟩)→Q .bf H'):Jp a K [.ref M.p,.int (pl:Nat),wV w'] H Q X:=by
 obtain⟨xs,R,hR,rfl⟩:=h
 obtain⟨r,hr,e1⟩:=List.mem_map.mp he
 have iq:=hR.there hr
 have e2:r.pl=pl:=congrArg Prod.fst e1
 have e3:r.e=⟨.plain fs wd,bJ,mk⟩:=congrArg Prod.snd e1
 rw [e2,e3] at iq
 exact⟨M,xs,_,_,fs,wd,bJ,mk,w',rfl,iq,fun H' vv uh k hM hc=>q H' k (hR.set k hM hc)⟩
theorem Em {E:List (Nat×En)}(hA:zp E) {pl:Nat}{e:En}(he:(pl,e)∈E):dA E pl e=E:=by
 refine(List.map_congr_left fun p hp=>?_).trans (List.map_id E)
 show(if p.1=pl then(pl,e)else p)=p
 by_cases z:p.1=pl
 ·rw [if_pos z]
  exact(hA.same hp he z).symm
 ·rw [if_neg z]
theorem sS (E:List (Nat×En)) (pl:Nat) (e e':En):dA (dA E pl e) pl e'=dA E pl e':=by
 unfold dA
 rw [List.map_map]
 refine List.map_congr_left fun p hp=>?_
 show(if (if p.1=pl then(pl,e)else p).1=pl then(pl,e')else(if p.1=pl then(pl,e)else p))=(if p.1=pl then(pl,e')else p)
 by_cases z:p.1=pl
 ·rw [if_pos z,if_pos rfl,if_pos z]
 ·rw [if_neg z,if_neg z]
theorem zF {E:List (Nat×En)}{pl:Nat}{e e':En}(he:(pl,e)∈E):(pl,e')∈dA E pl e':=List.mem_map.mpr ⟨_,he,if_pos rfl⟩
theorem JY {E:List (Nat×En)}{S:Nat→Bool}{pl:Nat}{e:En}(he:(pl,e)∈E) (h:¬S pl=true):(pl,e)∈zA E S:=List.mem_map.mpr ⟨_,he,if_neg h⟩
theorem Eo {E:List (Nat×En)}{S S':Nat→Bool}(hA:zp E) {pl:Nat}{e:En}(he:(pl,e)∈E) (hS:∀q,S' q=true↔S q=true∨q=pl) (hn:¬S pl=true):dA (zA E S) pl ⟨e.t.nul,e.bJ,e.bR⟩=zA E S':=by
 unfold dA zA
 rw [List.map_map]
 refine List.map_congr_left fun p hp=>?_
 show(if (if S p.1=true then(p.1,(⟨p.2.t.nul,p.2.bJ,p.2.bR⟩:En))else p).1=pl then(pl,(⟨e.t.nul,e.bJ,e.bR⟩:En))else(if S p.1=true then(p.1,(⟨p.2.t.nul,p.2.bJ,p.2.bR⟩:En))else p))=(if S' p.1=true then(p.1,(⟨p.2.t.nul,p.2.bJ,p.2.bR⟩:En))else p)
 by_cases z:p.1=pl
 ·have:=hA.same hp he z
  subst this
  rw [if_neg hn,if_pos rfl,if_pos ((hS _).mpr (.inr rfl))]
 ·by_cases y:S p.1=true
  ·rw [if_pos y,if_neg z,if_pos ((hS _).mpr (.inl y))]
  ·rw [if_neg y,if_neg z,if_neg fun t=>((hS _).mp t).elim y z]
theorem XF {A:List Vl}{j:Nat}(h:j < A.length):(List.replicate j Vl.no++A.drop j).set j Vl.no=List.replicate (j+1) Vl.no++A.drop (j+1):=by
 rw [CV (by rw [List.length_replicate]) h,List.replicate_succ']
noncomputable def JZ (a:cN) (K:PySem.W.Frag):Sp:=fun vs H Q _=>∃M E s,vs=[.ref M.p,.str s]∧TM a K H M E∧VE E∧E.length < 64 ∧
 ∀(l:Addr) (ns:List Int) (H':Hp),Kp (·=M.d) H H'→H l=none→H' l=some (.lst (ns.map V.int))→ns.Perm ((E.filter (bl E s)).map fun p=>p.2.bJ)→ns.Pairwise (·≤·)→TM a K H' M (iU E s)→Q (.ref l) H'
noncomputable def IE1 (a:cN) (K:PySem.W.Frag) (M:MA) (sort:Str) (D D3:Addr) (iw E:List (Nat×En)) (H:Hp) (i:Nat) (σ:List (Option V)) (H4:Hp):Prop:=∃(o4 o5:Option V),σ=[some (.ref M.p),some (.str sort),some (.ref D),some (.ref D3),o4,o5]∧Kp (·=M.d) H H4∧H4 D3=some (.lst (pI iw))∧TM a K H4 M (zA E fun q=>decide (q∈(iw.take i).map (·.1)))
noncomputable def IE2 (a:cN) (K:PySem.W.Frag) (M:MA) (sort:Str) (D D3:Addr) (iw E4:List (Nat×En)) (pl:Nat) (e:En) (H:Hp) (j:Nat) (σ:List (Option V)) (H7:Hp):Prop:=∃(o5:Option V) (t':Tg),σ=[some (.ref M.p),some (.str sort),some (.ref D),some (.ref D3),some (.int (pl:Nat)),o5]∧Kp (·=M.d) H H7∧H7 D3=some (.lst (pI iw))∧TM a K H7 M (dA E4 pl ⟨t',e.bJ,e.bR⟩)∧t'.sort=e.t.sort∧t'.words=e.t.words∧t'.fs=List.replicate j Vl.no++e.t.fs.drop j
theorem uA (T:Txt K mg a):aU P w K mg base cC 14 a.xh a.xi ["memory","sort"] (JZ a K):=by
 refine T.jn.ok oB (fun vs H Q E h=>?_) (fun bL A outer s H vs Q E hr h=>?_)
 ·obtain⟨_,_,_,rfl,_⟩:=h
  rfl
 ·obtain⟨M,E,sort,rfl,h,hv,lI,q⟩:=h
  refine⟨_,(ag (hJ (j:=2) rfl oB.nd rfl rfl (gw (x:="place") (ns:=["sort","memory"]) (fr:=[1,0]) rfl (by decide +kernel) rfl (by decide +kernel) rfl (List.forall_mem_cons.mpr ⟨rfl,List.forall_mem_cons.mpr ⟨rfl,List.forall_mem_nil _⟩⟩) rfl rfl (List.forall_mem_cons.mpr ⟨⟨rfl,rfl,.inl rfl⟩,List.forall_mem_cons.mpr ⟨⟨rfl,rfl,.inl rfl⟩,List.forall_mem_nil _⟩⟩) (by decide +kernel)) (bg (aD (Bg T) (hr.mono (by decide)) rfl T.CC T.kr.kp T.CB .nil ar (aa (pv 0) af))) (fun _ _ _ _=>(pv 0)) (fun _ _ _ _=>(.one (aH cX (aC (pv 2) T.au T.pe (ue T) (hr.mono (by decide)) T.zd .nil ar (aa (pv 0) af)) (pv 1) (aQ _))))) (ag (hJ (j:=3) rfl oB.nd rfl rfl (gw (x:="place") (ns:=["memory"]) (fr:=[0]) rfl (by decide +kernel) rfl (by decide +kernel) rfl (List.forall_mem_cons.mpr ⟨rfl,List.forall_mem_nil _⟩) rfl rfl (List.forall_mem_cons.mpr ⟨⟨rfl,rfl,.inl rfl⟩,List.forall_mem_nil _⟩) (by decide +kernel)) (bg (pv 2)) (fun _ _ _ _=>(pv 0)) (fun _ _ _ _=>(.one (dU (aD (XD T) (hr.mono (by decide)) rfl T.Qf T.oP.kp T.Qd .nil ar (aa (pv 1) (aa (pv 0) af))))))) (ag (bM PassesOwn.never rfl (bg (pv 3)) (a7 (i:=4) oB.nd rfl (Or.inl rfl)) aw) aw))),?_⟩
  obtain⟨dx,h1⟩:=h.ob
  have hA:=h.nd
  obtain⟨XG,hMd⟩:∃xs,H M.d=some (.lst xs):=by
   obtain⟨xs,R,hR,_⟩:=id h
   exact⟨xs,hR.mem.R.li⟩
  have f2:=aW (pr:=M.pr) (lb:=M.lb) (n:="sort_at")
  have f3:=aW (pr:=M.pr) (lb:=M.lb) (n:="thing_at")
  dsimp! []
  refine⟨M,E,rfl,h,lI,fun l1 XH H1 s1 d_ Eh J0=>⟨l1,rfl,⟨_,aF.of Eh⟩,fun D hD=>?_⟩⟩
  have in1:∀p∈XH,p∈E:=fun p hp=>(List.mem_filter.mp (J0.mem_iff.mp hp)).1
  have l1l:XH.length < 64:=by
   have h5:=List.length_filter_le (fun p:Nat×En=>p.2.bR) E
   rw [J0.length_eq]
   omega
  have pC:=h.same s1
  refine EO (pI XH) (uy (fun p=>decide (p.2.t.sort=sort)) XH H1 D) ⟨.put hD,ae,rfl⟩ (fun i ys H2 _ z=>aF.of (z.1 _ _ Eh)) ?_ ?_
  ·rintro i m x ys H2 hm hx ⟨s2,fA,rfl⟩
   obtain⟨⟨pl,e⟩,kL,rfl⟩:=mM hx
   have h2:=pC.same s2
   obtain⟨qo,lA⟩:=h2.ob
   obtain⟨xs,es,iq⟩:=h2.there (in1 _ (List.mem_of_getElem? kL))
   have hlen:=kK XH i fun p=>decide (p.2.t.sort=sort)
   dsimp! [aP,Option.join_some]
   refine⟨_,_,lA,f2,M,xs,es,pl,e,rfl,iq,rfl,?_⟩
   by_cases eN:e.t.sort=sort
   ·rw [if_pos (by rw [eN]; exact decide_eq_true rfl)]
    exact qz.mk hm fA (by rw [dB]; omega) (uy.put (p:=(pl,e)) hD s2 fA kL (decide_eq_true eN))
   ·rw [if_neg (fun z=>eN (V.str.inj (of_decide_eq_true z)))]
    exact Cs.mk hm (uy.skip (p:=(pl,e)) s2 fA kL fun z=>eN (of_decide_eq_true z))
  ·rintro ys H2 ⟨s2,fA,rfl⟩
   rw [dB,List.take_length] at fA
   refine⟨⟨_,aF.of fA⟩,fun D3 vB=>?_⟩
   obtain⟨uB,qC⟩:∃uB,XH.filter (fun p=>decide (p.2.t.sort=sort))=uB:=⟨_,rfl⟩
   rw [qC] at fA
   have Zc:∀p∈uB,p∈E:=fun p hp=>by
    rw [←qC] at hp
    exact in1 p (List.mem_filter.mp hp).1
   have l2l:uB.length < 64:=by
    have h5:=List.length_filter_le (fun p:Nat×En=>decide (p.2.t.sort=sort)) XH
    rw [←qC]
    omega
   have EN:=pC.same s2
   refine EO (pI uB) (uy (fun p=>qp E p.2.t) uB H2 D3) ⟨.put vB,ae,rfl⟩ (fun i ys H2 _ z=>aF.of (z.1 _ _ fA)) ?_ ?_
   ·rintro i m x ys H3 hm hx ⟨s3,gG,rfl⟩
    obtain⟨⟨pl,e⟩,kL,rfl⟩:=mM hx
    have h3:=EN.same s3
    have hlen:=kK uB i fun p=>qp E p.2.t
    dsimp! [aP,Option.join_some]
    refine⟨M,E,pl,e,rfl,h3,Zc _ (List.mem_of_getElem? kL),hv,fun H4 s4=>⟨_,rfl,?_⟩⟩
    by_cases eN:qp E e.t=true
    ·rw [if_pos eN]
     exact qz.mk hm (s4 _ _ gG) (by rw [dB]; omega) (uy.put (p:=(pl,e)) vB (s3.trans s4) (s4 _ _ gG) kL eN)
    ·rw [if_neg eN]
     exact Cs.mk hm (uy.skip (p:=(pl,e)) (s3.trans s4) (s4 _ _ gG) kL eN)
   ·rintro ys H3 ⟨s3,gG,rfl⟩
    rw [dB,List.take_length] at gG
    obtain⟨iw,qD⟩:∃iw,uB.filter (fun p=>qp E p.2.t)=iw:=⟨_,rfl⟩
    rw [qD] at gG
    have ud:iw.Perm (E.filter (bl E sort)):=by
     have h5:=(J0.filter fun p=>decide (p.2.t.sort=sort)).filter fun p=>qp E p.2.t
     rw [qC,qD,List.filter_filter,List.filter_filter] at h5
     refine h5.trans (List.Perm.of_eq (List.filter_congr fun p _=>?_))
     unfold bl
     cases qp E p.2.t <;> cases decide (p.2.t.sort=sort) <;> cases p.2.bR <;> rfl
    have in3:∀p∈iw,p∈E:=fun p hp=>by
     rw [←qD] at hp
     exact Zc p (List.mem_filter.mp hp).1
    have l3l:iw.length < 64:=by
     have h5:=List.length_filter_le (fun p:Nat×En=>qp E p.2.t) uB
     rw [←qD]
     omega
    have nd3:(iw.map (·.1)).Nodup:=by
     have h5:((E.filter (bl E sort)).map (·.1)).Nodup:=List.pairwise_map.mpr (hA.filter _)
     exact(ud.map (·.1)).symm.nodup h5
    have Be:=(s1.trans s2).trans s3
    have nD3:D3≠M.d:=(ao ((s1.trans s2) _ _ hMd) vB).symm
    have e0:zA E (fun q=>decide (q∈(iw.take 0).map (·.1)))=E:=(List.map_congr_left fun p _=>if_neg (by simp)).trans (List.map_id E)
    have aiE:H D3=none:=(s1.trans s2).free vB
    clear J0 in1 Eh fA Zc qC qD pC EN
    refine⟨⟨_,aF.of gG⟩,dw (pI iw) (IE1 a K M sort D D3 iw E H) ⟨_,_,rfl,ak.kp Be,gG,by rw [e0]; exact h.same Be⟩ ?_ ?_ ?_⟩
    ·rintro i σ H4 _ ⟨o4,o5,rfl,_,J1,_⟩
     exact aF.of J1
    ·rintro i x σ H4 hx ⟨o4,o5,rfl,k4,J1,lB⟩
     obtain⟨⟨pl,e⟩,kL,rfl⟩:=mM hx
     have heE:=in3 _ (List.mem_of_getElem? kL)
     have oi:¬decide (pl∈(iw.take i).map (·.1))=true:=fun z=>by
      have z:=of_decide_eq_true z
      rw [List.map_take] at z
      obtain⟨j,hj⟩:=List.getElem?_of_mem z
      rw [List.getElem?_take] at hj
      split at hj
      ·rename_i Ry
       have h6:(iw.map (·.1))[i]?=some pl:=by
        rw [List.getElem?_map,kL]
        rfl
       obtain⟨a1,a2⟩:=List.getElem?_eq_some_iff.mp hj
       obtain⟨b1,b2⟩:=List.getElem?_eq_some_iff.mp h6
       exact List.pairwise_iff_getElem.mp nd3 j i a1 b1 Ry (a2.trans b2.symm)
      ·cases hj
     have ke:∀q:Nat,decide (q∈(iw.take (i+1)).map (·.1))=true↔decide (q∈(iw.take i).map (·.1))=true∨q=pl:=fun q=>by
      rw [decide_eq_true_iff,decide_eq_true_iff,List.take_add_one,kL,List.map_append,List.mem_append]
      simp
     have Nr:=JY (S:=fun q=>decide (q∈(iw.take i).map (·.1))) heE oi
     have ju:=Eo hA heE ke oi
     generalize zA E (fun q=>decide (q∈(iw.take i).map (·.1)))=E4 at lB Nr ju
     obtain⟨Y4,ES⟩:=lB.ob
     obtain⟨uC,es4,uw⟩:=lB.there Nr
     refine gN ?_
     refine a6.of (ah (bM PassesOwn.never rfl (cG rfl T.cF (aa (bh a9 rfl T.dI dr (aa (bQ (L:=[(a.aZ,cM a K),(a.ax,cM a K),(a.az,cM a K)]) (aC (pv 0) T.au T.ia (jD T) (hr.mono (by decide)) T.mE .nil ar (aa (pv 4) af)) (List.forall_mem_cons.mpr ⟨⟨_,_,_,_,T.bO,T.lL,dz T,hr.mono (by decide),T.eO⟩,List.forall_mem_cons.mpr ⟨⟨_,_,_,_,T.aK,T.bA,dz T,hr.mono (by decide),T.eO⟩,List.forall_mem_cons.mpr ⟨⟨_,_,_,_,T.aR,T.bG,dz T,hr.mono (by decide),T.eO⟩,List.forall_mem_nil _⟩⟩⟩) .nil ar) af)) af)) (a7 (i:=5) oB.nd rfl (Or.inl rfl)) aw)) ?_
     dsimp! [ES,HO.ins.injEq,f3]
     refine⟨M,uC,es4,pl,e,rfl,uw,fun tp td H5 s5 Ln Xc hT5=>?_⟩
     obtain⟨ER,agr⟩:=hT5.ob
     refine⟨tp,rfl,_,_,_,agr,e.t.no td,_,e.t.mem _,tp,td,e.t,rfl,hT5,fun r fx Rz sM A4=>?_⟩
     have s6:=s5.trans (ak.put (o:=.lst fx) Rz)
     have abe:upd H5 r (.lst fx) r=some (.lst fx):=ae
     generalize upd H5 r (.lst fx)=H6 at s6 abe
     have sL:fx.length=e.t.fs.length:=sM.1.symm
     refine⟨r,rfl,fx,.inl (aF.of abe),by omega,by omega,?_⟩
     rw [sL]
     refine ee (IE2 a K M sort D D3 iw E4 pl e H)
      ⟨_,e.t,rfl,k4.trans (ak.kp s6),s6 _ _ J1,by rw [show(⟨e.t,e.bJ,e.bR⟩:En)=e from rfl,Em lB.nd Nr]; exact lB.same s6,rfl,rfl,rfl⟩ ?_ ?_
     ·rintro j σ H7 hj ⟨o5,t',rfl,k7,Nn,hT7,z1,z2,z3⟩
      obtain⟨dx7,h17⟩:=hT7.ob
      have f4:=aW (pr:=M.pr) (lb:=M.lb) (n:="set_field")
      refine gN ?_
      refine a6.of (ah (aV (aC (pv 0) T.au T.t4 (AZ T) (hr.mono (by decide)) T.CK .nil ar (aa (pv 4) (aa (pv 5) (aa (cE (v:=.ref a.dm) rfl T.iR rfl) af)))))) ?_
      dsimp! [Int.zero_add,h17,HO.ins.injEq,f4,T.iR]
      have ags:=zF (e':=⟨t',e.bJ,e.bR⟩) Nr
      have hjt:j < t'.fs.length:=by
       rw [z3,List.length_append,List.length_replicate,List.length_drop]
       omega
      refine hT7.agp ags (v:=.no) hjt ⟨_,rfl,T.lM _⟩ fun H8 k8 hT8=>?_
      rw [sS] at hT8
      obtain⟨y1,y2,_⟩:=t'.iT j Vl.no
      refine⟨_,_,rfl,k7.trans k8,k8 _ _ nD3 Nn,hT8,y1.trans z1,y2.trans z2,?_⟩
      rw [Tg.ug hjt,z3,XF hj]
     ·rintro σ H7 ⟨o5,t',rfl,k7,Nn,hT7,z1,z2,z3⟩
      have et:t'=e.t.nul:=by
       obtain⟨n1,n2,n3⟩:=e.t.cW
       refine Tg.ext (z1.trans n1.symm) (z2.trans n2.symm) ?_
       rw [z3,n3,List.drop_length,List.append_nil,List.map_const']
      rw [et,ju] at hT7
      exact⟨_,_,rfl,k7,Nn,hT7⟩
    ·rintro σ H4 ⟨o4,o5,rfl,k4,J1,lB⟩
     refine a6.of (ah (aE (aD (uz T) (hr.mono (by decide)) rfl T.y4 T.jm.kp T.y3 .nil ar (aa (pv 0) (aa (pv 3) af))))) ?_
     rw [dB,List.take_length] at lB
     dsimp! []
     have ec:zA E (fun q=>decide (q∈iw.map (·.1)))=iU E sort:=List.map_congr_left fun p hp=>by
      have h7:p.1∈iw.map (·.1)↔bl E sort p=true:=by
       constructor
       ·intro z
        obtain⟨p2,h8,h9⟩:=List.mem_map.mp z
        have Cn:=List.mem_filter.mp (ud.mem_iff.mp h8)
        have:=hA.same Cn.1 hp h9
        subst this
        exact Cn.2
       ·exact fun z=>List.mem_map.mpr ⟨p,ud.mem_iff.mpr (List.mem_filter.mpr ⟨hp,z⟩),rfl⟩
      by_cases z:bl E sort p=true
      ·rw [if_pos z,if_pos (decide_eq_true (h7.mpr z))]
      ·rw [if_neg z,if_neg fun y=>z (h7.mp (of_decide_eq_true y))]
     rw [ec] at lB
     obtain⟨fn,B8⟩:∃fn:Nat×En→Nat×En,fn=fun p=>(p.1,⟨p.2.t.nul,p.2.bJ,p.2.bR⟩):=⟨_,rfl⟩
     have epI:pI (iw.map fn)=pI iw:=by
      rw [B8]
      unfold pI
      rw [List.map_map (l:=iw)]
      rfl
     refine⟨M,iU E sort,D3,iw.map fn,rfl,lB,by rw [epI]; exact J1,fun p hp=>?_,by rw [List.length_map]; exact l3l,fun D5 ns H5 s5 vC XI ji M0=>?_⟩
     ·obtain⟨p2,h8,rfl⟩:=List.mem_map.mp hp
      obtain⟨h9,Cn⟩:=List.mem_filter.mp (ud.mem_iff.mp h8)
      rw [B8]
      exact List.mem_map.mpr ⟨p2,h9,if_pos Cn⟩
     ·refine q D5 ns H5 (k4.trans (ak.kp s5)) ?_ XI ?_ M0 (lB.same s5)
      ·cases e:H D5 with
       | none=>rfl
       | some u=>
        by_cases z:D5=M.d
        ·obtain⟨xs,R,hR,_⟩:=id lB
         rw [z,hR.mem.R.li] at vC
         cases vC
        ·rw [k4 _ _ z e] at vC
         cases vC
      ·rw [List.map_map,B8] at ji
       exact ji.trans (ud.map _)
noncomputable def Cg (H:Hp) (b:Addr):Prop:=Mu H b∨∃ps,H b=some (.dS ps)
theorem Kp.Ep {K:PySem.W.Frag}{S:Addr→Prop}{H H':Hp}(k:Kp S H H') (cg:∀b,S b→Cg H b) {c:Addr}{xs:List V}(h:dO K H c xs):dO K H' c xs:=by
 rcases h with h | h
 ·have n:¬S c:=fun z=>by
   rcases cg c z with (⟨ys,e⟩ | ⟨ys,e⟩) | ⟨ps,e⟩ <;> rcases h with h | ⟨o,h⟩ <;> (rw [e] at h; cases h)
  rcases h with h | ⟨o,h⟩
  ·exact .inl (.inl (k _ _ n h))
  ·exact .inl (.inr ⟨o,k _ _ n h⟩)
 ·exact .inr h
theorem eC.kc {S:Addr→Prop}{H H':Hp}{xs:List V}{vl:List Vl}(h:eC K H xs vl) (k:Kp S H H') (cg:∀b,S b→Cg H b):eC K H' xs vl:=⟨h.1,fun i x v e1 e2=>by
 obtain⟨t,e,h2⟩:=h.2 i x v e1 e2
 exact⟨t,e,k.Ep cg h2⟩⟩
theorem Tb.kc {P:Addr}{dD:Pos}{lq:Str}{S:Addr→Prop}{H H':Hp}(t:Tb P dD lq H) (k:Kp S H H') (cg:∀b,S b→Cg H b) (n:¬S P):Tb P dD lq H':=by
 rcases t with t | ⟨c',t,u⟩
 ·exact .inl (k _ _ n t)
 ·refine .inr ⟨c',k _ _ n t,k _ _ (fun z=>?_) u⟩
  rcases cg c' z with (⟨ys,e⟩ | ⟨ys,e⟩) | ⟨ps,e⟩ <;> (rw [e] at u; cases u)
noncomputable abbrev ldP:Pos:=⟨78,27,78,64⟩
noncomputable abbrev ldQ:Str:=(Str.ofString "due_places"++Str.ofString ".<locals>.")++Str.ofString "<lambda>"
noncomputable abbrev TbD (a:cN) (H:Hp):Prop:=Tb a.cH ldP ldQ H
noncomputable def dE (p:Nat×En):Bool:=!p.2.bR&&p.2.t.words.isSome
noncomputable def XJ (a:cN) (K:PySem.W.Frag):Sp:=fun vs H Q _=>∃M E,vs=[.ref M.p]∧TM a K H M E∧E.length < 64∧TbD a H ∧
 ∀(l:Addr) (H':Hp) (ts:List (Nat×En)),dC a.cH H H'→TbD a H'→H l=none→H' l=some (.lst (pI ts))→ts.Perm (E.filter dE)→ts.Pairwise (fun p q=>p.2.bJ≤q.2.bJ)→TM a K H' M E→Q (.ref l) H'
theorem XM (T:Txt K mg a) (B:BM mg base):aU P w K mg base cC 16 a.xj a.Cy ["memory"] (XJ a K):=by
 refine T.mx.okC AG (fun vs H Q E h=>?_) (fun bL A outer s H vs Q E s_ hr h=>?_)
 ·obtain⟨_,_,rfl,_⟩:=h
  rfl
 ·obtain⟨M,E,rfl,h,lI,hT,q⟩:=h
  refine⟨_,(ag (hJ (j:=1) rfl AG.nd rfl rfl (gw (x:="place") (ns:=["memory"]) (fr:=[0]) rfl (by decide +kernel) rfl (by decide +kernel) rfl (List.forall_mem_cons.mpr ⟨rfl,List.forall_mem_nil _⟩) rfl rfl (List.forall_mem_cons.mpr ⟨⟨rfl,rfl,.inl rfl⟩,List.forall_mem_nil _⟩) (by decide +kernel)) (bg (bT (pv 0) T.au T.pf (ui T) (hr.mono (by decide)) T.ze .nil ar)) (fun _ _ _ _=>(pv 0)) (fun _ _ _ _=>(.one (EZ (dU (aC (pv 1) T.au T.gB (ip T) (hr.mono (by decide)) T.ky .nil ar (aa (pv 0) af))))))) (ag (hJ (j:=2) rfl AG.nd rfl rfl (gw (x:="place") (ns:=["memory"]) (fr:=[0]) rfl (by decide +kernel) rfl (by decide +kernel) rfl (List.forall_mem_cons.mpr ⟨rfl,List.forall_mem_nil _⟩) rfl rfl (List.forall_mem_cons.mpr ⟨⟨rfl,rfl,.inl rfl⟩,List.forall_mem_nil _⟩) (by decide +kernel)) (bg (pv 1)) (fun _ _ _ _=>(pv 0)) (fun _ _ _ _=>(.one (aH gq (bQ (L:=[(a.aZ,ff),(a.ax,lO a K),(a.az,ff)]) (aC (pv 1) T.au T.ia (jD T) (hr.mono (by decide)) T.mE .nil ar (aa (pv 0) af)) (List.forall_mem_cons.mpr ⟨⟨_,_,_,_,T.bO,T.oN,ij T,hr.mono (by decide),T.kl⟩,List.forall_mem_cons.mpr ⟨⟨_,_,_,_,T.aK,T.oO,ua T,hr.mono (by decide),T.y0⟩,List.forall_mem_cons.mpr ⟨⟨_,_,_,_,T.aR,T.b_,ij T,hr.mono (by decide),T.kl⟩,List.forall_mem_nil _⟩⟩⟩) .nil ar) dc (aQ _))))) (ah (aE (oA (B:=B) (i:=0) (k:=3) rfl T.dJ (pv 2) (hr.mono (by decide)) ⟨rfl,rfl,rfl,rfl,rfl,by decide,by decide,by decide⟩ rfl rfl rfl (s_.symm.trans T.HX) T.tX rfl rfl (fun _ _ _ _=>rfl) (fun _ _ _ _=>have hr:=(cL.deeper (cL.in1 (cL.in1 (hr.mono (by decide:5≤15)))) _); (aC (pv 1) T.au T.tZ (AW T) (hr.mono (by decide)) T.CJ .nil ar (aa (pv 0) af)))))))),?_⟩
  obtain⟨dx,h1⟩:=h.ob
  have f1:=aW (pr:=M.pr) (lb:=M.lb) (n:="places")
  have f2:=aW (pr:=M.pr) (lb:=M.lb) (n:="marked_at")
  have f3:=aW (pr:=M.pr) (lb:=M.lb) (n:="serial_at")
  have f4:=aW (pr:=M.pr) (lb:=M.lb) (n:="thing_at")
  dsimp! [h1,HO.ins.injEq,f1]
  refine h.told lI fun l ts H1 s1 hl d_ hp=>⟨l,rfl,⟨_,aF.of d_⟩,fun D hD=>?_⟩
  have htl:ts.length=E.length:=hp.length_eq
  have pC:=h.same s1
  have in1:∀p∈ts,p∈E:=fun p gh=>hp.mem_iff.mp gh
  refine EO (pI ts) (uy (fun p=>!p.2.bR) ts H1 D) ⟨.put hD,ae,rfl⟩ (fun i ys H2 _ z=>aF.of (z.1 _ _ d_)) ?_ ?_
  ·rintro i m x ys H2 hm hx ⟨s2,fA,rfl⟩
   obtain⟨⟨pl,e⟩,kL,rfl⟩:=mM hx
   have h2:=pC.same s2
   obtain⟨qo,lA⟩:=h2.ob
   obtain⟨xs,es,iq⟩:=h2.there (in1 _ (List.mem_of_getElem? kL))
   have hlen:=kK ts i fun p=>!p.2.bR
   dsimp! [aP,Option.join_some]
   refine⟨_,_,lA,f2,M,xs,es,pl,e,rfl,iq,_,rfl,?_⟩
   by_cases eN:(!e.bR)=true
   ·rw [if_pos eN]
    exact qz.mk hm fA (by rw [dB]; omega) (uy.put (p:=(pl,e)) hD s2 fA kL eN)
   ·rw [if_neg eN]
    exact Cs.mk hm (uy.skip (p:=(pl,e)) s2 fA kL eN)
  ·rintro ys H2 ⟨s2,fA,rfl⟩
   rw [dB,List.take_length] at fA
   refine⟨⟨_,aF.of fA⟩,fun D3 vB=>?_⟩
   obtain⟨uB,qC⟩:∃uB,ts.filter (fun p=>!p.2.bR)=uB:=⟨_,rfl⟩
   rw [qC] at fA
   have Zc:∀p∈uB,p∈E:=fun p hp=>by
    rw [←qC] at hp
    exact in1 p (List.mem_filter.mp hp).1
   have l2l:uB.length < 64:=by
    have h5:=List.length_filter_le (fun p:Nat×En=>!p.2.bR) ts
    rw [←qC]
    omega
   have EN:=pC.same s2
   refine EO (pI uB) (uy (fun p=>p.2.t.words.isSome) uB H2 D3) ⟨.put vB,ae,rfl⟩ (fun i ys H2 _ z=>aF.of (z.1 _ _ fA)) ?_ ?_
   ·rintro i m x ys H3 hm hx ⟨s3,gG,rfl⟩
    obtain⟨⟨pl,e⟩,kL,rfl⟩:=mM hx
    have h3:=EN.same s3
    obtain⟨dx3,ET⟩:=h3.ob
    obtain⟨xs3,es3,Nk⟩:=h3.there (Zc _ (List.mem_of_getElem? kL))
    have hlen:=kK uB i fun p=>p.2.t.words.isSome
    dsimp! [aP,Option.join_some,ET,HO.ins.injEq,f4]
    refine⟨M,xs3,es3,pl,e,rfl,Nk,fun tp td H4 s4 Ln Xc lB=>?_⟩
    obtain⟨Y4,A3⟩:=lB.ob
    refine⟨tp,rfl,_,_,_,A3,e.t.no td,iS e.t lB ?_⟩
    by_cases eN:e.t.words.isSome=true
    ·rw [if_pos (by cases hw:e.t.words with | none=>rw [hw] at eN; cases eN | some z=>rfl)]
     exact qz.mk hm (s4 _ _ gG) (by rw [dB]; omega) (uy.put (p:=(pl,e)) vB (s3.trans s4) (s4 _ _ gG) kL eN)
    ·rw [if_neg (by cases hw:e.t.words with | none=>simp [wV] | some z=>rw [hw] at eN; exact absurd rfl eN)]
     exact Cs.mk hm (uy.skip (p:=(pl,e)) (s3.trans s4) (s4 _ _ gG) kL eN)
   ·rintro ys H3 ⟨s3,gG,rfl⟩
    rw [dB,List.take_length] at gG
    obtain⟨iw,qD⟩:∃iw,uB.filter (fun p=>p.2.t.words.isSome)=iw:=⟨_,rfl⟩
    rw [qD] at gG
    have ud:iw.Perm (E.filter dE):=by
     have h5:=(hp.filter fun p=>!p.2.bR).filter fun p=>p.2.t.words.isSome
     rw [qC,qD,List.filter_filter] at h5
     refine h5.trans (List.Perm.of_eq (List.filter_congr fun p _=>?_))
     unfold dE
     cases p.2.t.words.isSome <;> cases p.2.bR <;> rfl
    have in3:∀p∈iw,p∈E:=fun p hp=>by
     rw [←qD] at hp
     exact Zc p (List.mem_filter.mp hp).1
    have l3l:iw.length < 64:=by
     have h5:=List.length_filter_le (fun p:Nat×En=>p.2.t.words.isSome) uB
     rw [←qD]
     omega
    have Be:=(s1.trans s2).trans s3
    have Ni:=EN.same s3
    have abf:=hT.same Be
    obtain⟨ps,Nh⟩:=abf.dS
    have hA:=h.nd
    have kt:∀H4,dC a.cH H3 H4→TM a K H4 M E:=fun H4 s4=>Ni.kt (S:=(·=a.cH)) (fun b o n e=>s4 b o n e) (fun b e=>⟨ps,by rw [e]; exact Nh⟩)
    refine⟨iw.map fun p=>((p.1:Nat):Int),aF.of gG,by rw [List.length_map]; exact l3l,abf,Nf E,fun H4 s4 n hn=>?_,fun D5 H5 ns vC s5 agt XI hpn hsn=>?_⟩
    ·obtain⟨⟨pl,e⟩,h6,rfl⟩:=List.mem_map.mp hn
     have h4:=kt H4 s4
     obtain⟨Y4,ES⟩:=h4.ob
     obtain⟨uC,es4,uw⟩:=h4.there (in3 _ h6)
     exact⟨_,_,ES,f3,M,uC,es4,pl,e,rfl,uw,by rw [nZ hA (in3 _ h6)],rfl⟩
    ·obtain⟨ts4,h6,h7⟩:=pL (fun p:Nat×En=>((p.1:Nat):Int)) hpn iw rfl
     have in4:∀p∈ts4,p∈E:=fun p hp=>in3 p (h6.mem_iff.mp hp)
     refine q D5 H5 ts4 ((dC.of Be).trans s5) agt (Be.free vC) (by rw [XI,←h7]) (h6.trans ud) ?_ (kt H5 s5)
     rw [←h7] at hsn
     refine List.Pairwise.imp_of_mem (fun {p q} hp hq z=>?_) (List.pairwise_map.mp hsn)
     have e1:=nZ hA (p:=p.1) (e:=p.2) (in4 p hp)
     have e2:=nZ hA (p:=q.1) (e:=q.2) (in4 q hq)
     rw [e1,e2] at z
     exact z
noncomputable def J6 (f:En→En) (E:List (Nat×En)) (S:Nat→Bool):List (Nat×En):=E.map fun p=>if S p.1=true then(p.1,f p.2)else p
noncomputable def pO (e:En):En:=⟨e.t.JH,e.bJ,true⟩
theorem Er {f:En→En}{E:List (Nat×En)}{S S':Nat→Bool}(hA:zp E) {pl:Nat}{e:En}(he:(pl,e)∈E) (hS:∀q,S' q=true↔S q=true∨q=pl) (hn:¬S pl=true):dA (J6 f E S) pl (f e)=J6 f E S':=by
 unfold dA J6
 rw [List.map_map]
 refine List.map_congr_left fun p hp=>?_
 show(if (if S p.1=true then(p.1,f p.2)else p).1=pl then(pl,f e)else(if S p.1=true then(p.1,f p.2)else p))=(if S' p.1=true then(p.1,f p.2)else p)
 by_cases z:p.1=pl
 ·have:=hA.same hp he z
  subst this
  rw [if_neg hn,if_pos rfl,if_pos ((hS _).mpr (.inr rfl))]
 ·by_cases y:S p.1=true
  ·rw [if_pos y,if_neg z,if_pos ((hS _).mpr (.inl y))]
  ·rw [if_neg y,if_neg z,if_neg fun t=>((hS _).mp t).elim y z]
noncomputable def iy (E:List (Nat×En)):List (Nat×En):=E.map fun p=>if dE p=true then(p.1,pO p.2)else p
theorem MS.chg {H H':Hp}{M:MA}{k gd:Addr}{E E':List (Nat×En)}{G:List Nat}(h:MS a K H M k gd E G) (s:Kp (·=M.d) H H') (hT:TM a K H' M E') (hg:∀p∈G,∃e,(p,e)∈E'∧e.bR=true):MS a K H' M k gd E' G:=by
 obtain⟨dx,h1⟩:=h.ob
 obtain⟨xs,R,hR,_⟩:=id h.tm
 have hl:=hR.mem.R.li
 exact⟨hT,⟨dx,s _ _ (cu h1 hl (by intro z; cases z)) h1⟩,s _ _ (cu h.di hl (by intro z; cases z)) h.di,h.no,hg,h.nd⟩
noncomputable def lC (K:PySem.W.Frag) (H:Hp) (xs:List V) (hs:List (Nat×Int)):Prop:=xs.length=hs.length∧∀(i:Nat) x h,xs[i]?=some x→hs[i]?=some h→∃t,x=.ref t∧dO K H t [.int (h.1:Nat),.int h.2]
theorem lC.snoc {H:Hp}{xs:List V}{hs:List (Nat×Int)}{t:Addr}{h:Nat×Int}(z:lC K H xs hs) (ht:dO K H t [.int (h.1:Nat),.int h.2]):lC K H (xs++[.ref t]) (hs++[h]):=by
 refine⟨by rw [List.length_append,List.length_append,z.1]; rfl,fun i x h2 e1 e2=>?_⟩
 rcases Nat.lt_or_ge i xs.length with y | y
 ·rw [List.getElem?_append_left y] at e1
  rw [List.getElem?_append_left (by rw [←z.1]; exact y)] at e2
  exact z.2 i x h2 e1 e2
 ·have:i=xs.length:=by
   have:=(List.getElem?_eq_some_iff.mp e1).1
   rw [List.length_append,List.length_singleton] at this
   omega
  subst this
  rw [List.getElem?_append_right (Nat.le_refl _),Nat.sub_self] at e1
  rw [z.1,List.getElem?_append_right (Nat.le_refl _),Nat.sub_self] at e2
  cases e1
  cases e2
  exact⟨t,rfl,ht⟩
theorem lC.kc {S:Addr→Prop}{H H':Hp}{xs:List V}{hs:List (Nat×Int)}(h:lC K H xs hs) (k:Kp S H H') (cg:∀b,S b→Cg H b):lC K H' xs hs:=⟨h.1,fun i x y e1 e2=>by
 obtain⟨t,e,h2⟩:=h.2 i x y e1 e2
 exact⟨t,e,k.Ep cg h2⟩⟩
theorem lC.same {H H':Hp}{xs:List V}{hs:List (Nat×Int)}(h:lC K H xs hs) (k:ak H H'):lC K H' xs hs:=⟨h.1,fun i x y e1 e2=>by
 obtain⟨t,e,h2⟩:=h.2 i x y e1 e2
 exact⟨t,e,k.Dx h2⟩⟩
noncomputable def uD (a:cN) (M:MA) (gd hl:Addr) (b:Addr):Prop:=M.own b∨b=gd∨b=hl∨b=a.cY∨b=a.cH
structure i0 (a:cN) (K:PySem.W.Frag) (H:Hp) (M:MA) (km gd hl:Addr) (E:List (Nat×En)) (G:List Nat) (hs:List (Nat×Int)):Prop where
 ms:MS a K H M km gd E G
 hr:∃xs,H hl=some (.lst xs)∧lC K H xs hs
 nh:¬M.own hl∧M.lb≠hl
 t1:JN a H
 t2:TbD a H
section
variable {H H':Hp}{M:MA}{km gd hl:Addr}{E E':List (Nat×En)}{G G':List Nat}{hs:List (Nat×Int)}
theorem i0.cg (h:i0 a K H M km gd hl E G hs):∀b,uD a M gd hl b→Cg H b:=fun b z=>by
 rcases z with z | rfl | rfl | rfl | rfl
 ·exact .inl (h.ms.tm.mu b z)
 ·exact .inl (.inr ⟨_,h.ms.di⟩)
 ·obtain⟨xs,e,_⟩:=h.hr
  exact .inl (.inl ⟨_,e⟩)
 ·exact .inr h.t1.dS
 ·exact .inr h.t2.dS
theorem i0.same (h:i0 a K H M km gd hl E G hs) (k:ak H H'):i0 a K H' M km gd hl E G hs:=by
 obtain⟨xs,e,e2⟩:=h.hr
 exact⟨h.ms.same k,⟨xs,k _ _ e,e2.same k⟩,h.nh,h.t1.same k,h.t2.same k⟩
theorem i0.chg (h:i0 a K H M km gd hl E G hs) (k:Kp (·=M.d) H H') (hT:TM a K H' M E') (hg:∀p∈G,∃e,(p,e)∈E'∧e.bR=true):i0 a K H' M km gd hl E' G hs:=by
 obtain⟨xs,e,e2⟩:=h.hr
 obtain⟨ys,R,hR,_⟩:=id h.ms.tm
 have hl:=hR.mem.R.li
 have cg:∀b,b=M.d→Cg H b:=fun b z=>.inl (.inl ⟨ys,by rw [z]; exact hl⟩)
 have no:∀ps b,H b=some (.dS ps)→b≠M.d:=fun ps b e=>cu e hl (by intro z; cases z)
 obtain⟨p1,e1⟩:=h.t1.dS
 obtain⟨p2,e3⟩:=h.t2.dS
 exact⟨h.ms.chg k hT hg,⟨xs,k _ _ (fun z=>h.nh.1 (.inl z)) e,e2.kc k cg⟩,h.nh,Tb.kc h.t1 k cg (no _ _ e1),Tb.kc h.t2 k cg (no _ _ e3)⟩
theorem i0.mark (h:i0 a K H M km gd hl E G hs) (k:Kp (fun b=>M.own b∨b=gd) H H') (ms:MS a K H' M km gd E' G'):i0 a K H' M km gd hl E' G' hs:=by
 obtain⟨xs,e,e2⟩:=h.hr
 have cg:∀b,(M.own b∨b=gd)→Cg H b:=fun b z=>by
  rcases z with z | rfl
  ·exact .inl (h.ms.tm.mu b z)
  ·exact .inl (.inr ⟨_,h.ms.di⟩)
 have no:∀ps b,H b=some (.dS ps)→¬(M.own b∨b=gd):=fun ps b e z=>by
  rcases z with z | rfl
  ·rcases h.ms.tm.mu b z with ⟨_,e2⟩ | ⟨_,e2⟩ <;> (rw [e] at e2; cases e2)
  ·have:=h.ms.di
   rw [e] at this
   cases this
 obtain⟨p1,e1⟩:=h.t1.dS
 obtain⟨p2,e3⟩:=h.t2.dS
 exact⟨ms,⟨xs,k _ _ (fun z=>z.elim h.nh.1 (cu e h.ms.di (by intro z; cases z))) e,e2.kc k cg⟩,h.nh,Tb.kc h.t1 k cg (no _ _ e1),Tb.kc h.t2 k cg (no _ _ e3)⟩
theorem i0.drain (h:i0 a K H M km gd hl E G hs) (oj:a.cY≠a.cH) (k:Kp (fun b=>M.own b∨b=gd∨b=a.cY) H H') (t1:JN a H') (ms:MS a K H' M km gd E' G'):i0 a K H' M km gd hl E' G' hs:=by
 obtain⟨xs,e,e2⟩:=h.hr
 obtain⟨p1,e1⟩:=h.t1.dS
 obtain⟨p2,e3⟩:=h.t2.dS
 have cg:∀b,(M.own b∨b=gd∨b=a.cY)→Cg H b:=fun b z=>by
  rcases z with z | rfl | rfl
  ·exact .inl (h.ms.tm.mu b z)
  ·exact .inl (.inr ⟨_,h.ms.di⟩)
  ·exact .inr ⟨_,e1⟩
 refine⟨ms,⟨xs,k _ _ (fun z=>?_) e,e2.kc k cg⟩,h.nh,t1,Tb.kc h.t2 k cg fun z=>?_⟩
 ·rcases z with z | z | z
  ·exact h.nh.1 z
  ·exact cu e h.ms.di (by intro z; cases z) z
  ·rw [z,e1] at e
   cases e
 ·rcases z with z | z | z
  ·rcases h.ms.tm.mu _ z with ⟨_,e2⟩ | ⟨_,e2⟩ <;> (rw [e3] at e2; cases e2)
  ·have:=h.ms.di
   rw [←z,e3] at this
   cases this
  ·exact oj z.symm
end
noncomputable abbrev RB (E:List (Nat×En)) (ts:List (Nat×En)) (i:Nat):List (Nat×En):=J6 pO E fun q=>decide (q∈(ts.take i).map (·.1))
noncomputable def Bh (ts:List (Nat×En)):List (Nat×Int):=ts.map fun p=>(p.1,p.2.t.words.getD 0)
theorem kM (E:List (Nat×En)):(iy E).map (·.1)=E.map (·.1):=by
 unfold iy
 rw [List.map_map]
 refine List.map_congr_left fun p _=>?_
 show(if dE p=true then(p.1,pO p.2)else p).1=p.1
 split <;> rfl
theorem XN {E:List (Nat×En)}{n:Nat}(h:cJ E n=true):cJ (iy E) n=true:=by
 obtain⟨e,he,hm⟩:=dq.mp h
 refine dq.mpr ⟨e,List.mem_map.mpr ⟨_,he,if_neg ?_⟩,hm⟩
 unfold dE
 rw [hm]
 simp
theorem pick {E':List (Nat×En)}:∀l:List (Nat×En),(∀p∈l,∃q,q∈E'∧q.1=p.1∧q.2.bJ=p.2.bJ)→∃l':List (Nat×En),l'.map (·.1)=l.map (·.1)∧(l'.map fun p=>p.2.bJ)=(l.map fun p=>p.2.bJ)∧∀p∈l',p∈E'
 | [],_=>⟨[],rfl,rfl,(fun _ h=>nomatch h)⟩
 | p::l,h=>by
  obtain⟨q,h1,h2,h3⟩:=h p List.mem_cons_self
  obtain⟨l',h4,h5,h6⟩:=pick l fun p hp=>h p (List.mem_cons_of_mem _ hp)
  refine⟨q::l',by rw [List.map_cons,List.map_cons,h2,h4],by rw [List.map_cons,List.map_cons,h3,h5],fun x hx=>?_⟩
  rcases List.mem_cons.mp hx with rfl | hx
  ·exact h1
  ·exact h6 x hx
noncomputable def J7 (a:cN) (K:PySem.W.Frag):Sp:=fun vs H Q _=>∃M km gd hl E hs,vs=[.ref M.p,.ref km,.ref hl]∧i0 a K H M km gd hl E [] hs∧a.cY≠a.cH∧BC E []∧VE E∧E.length < 64∧hs.length≤800 ∧
 ∀(l:Addr) (ns:List Int) (ts:List (Nat×En)) (E6:List (Nat×En)) (H':Hp),Kp (uD a M gd hl) H H'→H l=none→H' l=some (.lst (ns.map V.int))→ts.Perm (E.filter dE)→ts.Pairwise (fun p q=>p.2.bJ≤q.2.bJ)→ns.Perm (ts.map fun p=>p.2.bJ)→ns.Pairwise (·≤·)→i0 a K H' M km gd hl E6 [] (hs++Bh ts)→Rel (iy E) E6→Cl E6 (fun p=>cJ E6 p=true)→Q (.ref l) H'
noncomputable def IB1 (a:cN) (K:PySem.W.Frag) (M:MA) (km gd hl l:Addr) (ts E:List (Nat×En)) (hs:List (Nat×Int)) (H:Hp) (i:Nat) (σ:List (Option V)) (H2:Hp):Prop:=∃(o4:Option V),σ=[some (.ref M.p),some (.ref km),some (.ref hl),some (.ref l),o4]∧Kp (uD a M gd hl) H H2∧H2 l=some (.lst (pI ts))∧i0 a K H2 M km gd hl (RB E ts i) ((ts.take i).map (·.1)) (hs++Bh (ts.take i))
theorem XQ (T:Txt K mg a) (B:BM mg base):aU P w K mg base cC 17 a.xk a.xm ["memory","marking","heard"] (J7 a K):=by
 refine T.oQ.ok AH (fun vs H Q E h=>?_) (fun bL A outer s H vs Q E hr h=>?_)
 ·obtain⟨_,_,_,_,_,_,rfl,_⟩:=h
  rfl
 ·obtain⟨M,km,gd,hl,E,hs,rfl,h,oj,hb,hv,lI,hsl,q⟩:=h
  refine⟨_,(ag (aN (i:=3) AH.nd rfl (Or.inl rfl) (aD (XM T B) (hr.mono (by decide)) rfl T.Qh T.mx.kp T.Qg .nil ar (aa (pv 0) af))) (ag (bM PassesOwn.never rfl (bg (pv 3)) (a7 (i:=4) AH.nd rfl (Or.inl rfl)) aw) aw)),?_⟩
  have hA:=h.ms.tm.nd
  dsimp! []
  refine⟨M,E,rfl,h.ms.tm,lI,h.t2,fun l H1 ts s1 t21 JM d_ hp M0 pC=>?_⟩
  obtain⟨ps2,XR⟩:=h.t2.dS
  obtain⟨ps1,aiF⟩:=h.t1.dS
  have cg2:∀b,b=a.cH→Cg H b:=fun b z=>.inr ⟨ps2,by rw [z]; exact XR⟩
  have k1:Kp (·=a.cH) H H1:=fun b o n e=>s1 b o n e
  have h1:i0 a K H1 M km gd hl E [] hs:=by
   obtain⟨xs,e,e2⟩:=h.hr
   exact⟨h.ms.kt k1 fun b z=>⟨ps2,by rw [z]; exact XR⟩,⟨xs,k1 _ _ (fun z=>by rw [z,XR] at e; cases e) e,e2.kc k1 cg2⟩,h.nh,Tb.kc h.t1 k1 cg2 oj,t21⟩
  have kk1:Kp (uD a M gd hl) H H1:=k1.mono fun b z=>.inr (.inr (.inr (.inr z)))
  have nl:¬uD a M gd hl l:=fun z=>by
   rcases h.cg l z with (⟨_,e⟩ | ⟨_,e⟩) | ⟨_,e⟩ <;> (rw [JM] at e; cases e)
  have in1:∀p∈ts,p∈E∧dE p=true:=fun p gh=>List.mem_filter.mp (hp.mem_iff.mp gh)
  have ltl:ts.length < 64:=by
   have h5:=List.length_filter_le dE E
   rw [hp.length_eq]
   omega
  have nd1:(ts.map (·.1)).Nodup:=by
   have h5:((E.filter dE).map (·.1)).Nodup:=List.pairwise_map.mpr (hA.filter _)
   exact(hp.map (·.1)).symm.nodup h5
  have e0:RB E ts 0=E:=(List.map_congr_left fun p _=>if_neg (by simp)).trans (List.map_id E)
  clear k1 s1
  refine⟨l,rfl,⟨_,aF.of d_⟩,dw (pI ts) (IB1 a K M km gd hl l ts E hs H) ⟨_,rfl,kk1,d_,by rw [e0]; simpa [Bh] using h1⟩ ?_ ?_ ?_⟩
  ·rintro i σ H2 _ ⟨o4,rfl,_,eM,_⟩
   exact aF.of eM
  ·rintro i x σ H2 hx ⟨o4,rfl,k2,eM,h2⟩
   obtain⟨⟨pl,e⟩,kL,rfl⟩:=mM hx
   refine gN ?_
   refine a6.of (ag (aV (jh PySem.F.plainAttrs_list PySem.F.slot_list_append PySem.F.type_list_append dj (pv 2) (aa (dg (aa (pv 4) (aa (bQ (L:=[(a.aZ,ff),(a.ax,lO a K),(a.az,ff)]) (aC (pv 0) T.au T.ia (jD T) (hr.mono (by decide)) T.mE .nil ar (aa (pv 4) af)) (List.forall_mem_cons.mpr ⟨⟨_,_,_,_,T.bO,T.oN,ij T,hr.mono (by decide),T.kl⟩,List.forall_mem_cons.mpr ⟨⟨_,_,_,_,T.aK,T.oO,ua T,hr.mono (by decide),T.y0⟩,List.forall_mem_cons.mpr ⟨⟨_,_,_,_,T.aR,T.b_,ij T,hr.mono (by decide),T.kl⟩,List.forall_mem_nil _⟩⟩⟩) .nil ar) af))) af))) (ag (aV (aC (pv 0) T.au T.IQ (W2 T) (hr.mono (by decide)) T.QL .nil ar (aa (pv 4) (aa dc af)))) (ah (aV (aC (pv 1) T.aB T.CD (Jt T) (hr.mono (by decide)) T.ME .nil ar (aa (pv 4) af)))))) ?_
   obtain⟨heE,hdu⟩:=in1 _ (List.mem_of_getElem? kL)
   have abg:e.bR=false∧e.t.words.isSome=true:=by
    unfold dE at hdu
    rw [Bool.and_eq_true,Bool.not_eq_true'] at hdu
    exact hdu
   obtain⟨fs,wd,ew⟩:∃fs wd,e=⟨.plain fs (some wd),e.bJ,false⟩:=by
    obtain⟨t,bJ,mk⟩:=e
    have h5:mk=false:=abg.1
    have h6:t.words.isSome=true:=abg.2
    subst h5
    cases t with
    | plain fs wo=>
     cases wo with
     | none=>cases h6
     | some wd=>exact⟨fs,wd,rfl⟩
    | weak f=>cases h6
    | pair k v=>cases h6
   have oi:¬decide (pl∈(ts.take i).map (·.1))=true:=fun z=>by
    have z:=of_decide_eq_true z
    rw [List.map_take] at z
    obtain⟨j,hj⟩:=List.getElem?_of_mem z
    rw [List.getElem?_take] at hj
    split at hj
    ·rename_i Ry
     have h6:(ts.map (·.1))[i]?=some pl:=by
      rw [List.getElem?_map,kL]
      rfl
     obtain⟨a1,a2⟩:=List.getElem?_eq_some_iff.mp hj
     obtain⟨b1,b2⟩:=List.getElem?_eq_some_iff.mp h6
     exact List.pairwise_iff_getElem.mp nd1 j i a1 b1 Ry (a2.trans b2.symm)
    ·cases hj
   have ke:∀q:Nat,decide (q∈(ts.take (i+1)).map (·.1))=true↔decide (q∈(ts.take i).map (·.1))=true∨q=pl:=fun q=>by
    rw [decide_eq_true_iff,decide_eq_true_iff,List.take_add_one,kL,List.map_append,List.mem_append]
    simp
   have Nr:(pl,e)∈RB E ts i:=List.mem_map.mpr ⟨_,heE,if_neg oi⟩
   have ju:dA (RB E ts i) pl (pO e)=RB E ts (i+1):=Er hA heE ke oi
   have eG:(ts.take (i+1)).map (·.1)=(ts.take i).map (·.1)++[pl]:=by
    rw [List.take_add_one,kL,List.map_append]
    rfl
   have eW:Bh (ts.take (i+1))=Bh (ts.take i)++[(pl,wd)]:=by
    unfold Bh
    rw [List.take_add_one,kL,List.map_append]
    show _++[(pl,e.t.words.getD 0)]=_
    rw [ew]
    rfl
   have hlW:(Bh (ts.take i)).length≤64:=by
    unfold Bh
    rw [List.length_map,List.length_take]
    omega
   generalize RB E ts i=E2 at h2 Nr ju
   obtain⟨qo,WN⟩:=h2.ms.tm.ob
   obtain⟨gR,es2,zD⟩:=h2.ms.tm.there Nr
   obtain⟨RC,abh,J8⟩:=h2.hr
   have f1:=aW (pr:=M.pr) (lb:=M.lb) (n:="thing_at")
   dsimp! [WN,HO.ins.injEq,f1]
   refine⟨.inl ⟨rfl,_,aF.of abh⟩,M,gR,es2,pl,e,rfl,zD,fun tp td H3 s3 Ln Xc Ni=>?_⟩
   obtain⟨dx3,agu⟩:=Ni.ob
   refine⟨tp,rfl,_,_,_,agu,e.t.no td,iS e.t Ni ⟨by rw [sizeLine_eq]; decide,fun ta XS=>?_⟩⟩
   have ewd:wV e.t.words=V.int wd:=by rw [ew]; rfl
   rw [ewd]
   have s4:=s3.trans (ak.put (o:=.tup [V.int (pl:Nat),V.int wd]) XS)
   have XT:upd H3 ta (.tup [V.int (pl:Nat),V.int wd]) ta=some (.tup [V.int (pl:Nat),V.int wd]):=ae
   generalize upd H3 ta (.tup [V.int (pl:Nat),V.int wd])=H4 at s4 XT
   have h4:=h2.same s4
   have J9:=s4 _ _ abh
   have Mh:RC.length≤900:=by
    rw [J8.1,List.length_append]
    omega
   refine⟨hl,RC,V.ref ta,rfl,rfl,J9,a5 (by omega),?_⟩
   have k5:Kp (·=hl) H4 (upd H4 hl (.lst (RC++[V.ref ta]))):=(Kp.refl _ _).set rfl
   have cg5:∀b,b=hl→Cg H4 b:=fun b z=>.inl (.inl ⟨RC,by rw [z]; exact J9⟩)
   have no5:∀ps b,H4 b=some (.dS ps)→b≠hl:=fun ps b e=>cu e J9 (by intro z; cases z)
   obtain⟨p1,e1⟩:=h4.t1.dS
   obtain⟨p2,e3⟩:=h4.t2.dS
   have h5:i0 a K (upd H4 hl (.lst (RC++[V.ref ta]))) M km gd hl E2 ((ts.take i).map (·.1)) (hs++(Bh (ts.take i)++[(pl,wd)])):=by
    refine⟨h4.ms.lst k5 J9 h4.nh.1 h4.nh.2,⟨_,ae,?_⟩,h4.nh,Tb.kc h4.t1 k5 cg5 (no5 _ _ e1),Tb.kc h4.t2 k5 cg5 (no5 _ _ e3)⟩
    rw [←List.append_assoc]
    exact lC.snoc (h:=(pl,wd)) ((J8.same s4).kc k5 cg5) (k5.Ep cg5 (dO.of XT))
   have kk5:Kp (uD a M gd hl) H (upd H4 hl (.lst (RC++[V.ref ta]))):=(k2.trans (ak.kp s4)).trans (k5.mono fun b z=>.inr (.inr (.inl z)))
   have uu:upd H4 hl (.lst (RC++[V.ref ta])) l=some (.lst (pI ts)):=k5 _ _ (fun z=>nl (.inr (.inr (.inl z)))) (s4 _ _ eM)
   generalize upd H4 hl (.lst (RC++[V.ref ta]))=H5 at h5 kk5 uu
   clear k5 cg5 no5 e1 e3 h4 J9 XT s4 Ni h2
   obtain⟨ER,hM5⟩:=h5.ms.tm.ob
   refine⟨_,_,hM5,aW,h5.ms.tm.agq (w':=none) (by rw [←ew]; exact Nr) fun H6 k6 hT6=>?_⟩
   have nlm:l≠M.d:=fun z=>nl (.inl (.inl z))
   have h6:i0 a K H6 M km gd hl (dA E2 pl ⟨.plain fs none,e.bJ,false⟩) ((ts.take i).map (·.1)) (hs++(Bh (ts.take i)++[(pl,wd)])):=by
    refine h5.chg k6 hT6 fun p gh=>?_
    obtain⟨e7,h7,h8⟩:=h5.ms.gm p gh
    refine⟨e7,List.mem_map.mpr ⟨_,h7,if_neg fun z=>?_⟩,h8⟩
    have z:p=pl:=z
    subst z
    exact oi (decide_eq_true gh)
   have J_:(pl,(⟨.plain fs none,e.bJ,false⟩:En))∈dA E2 pl ⟨.plain fs none,e.bJ,false⟩:=zF Nr
   have hsh:gj (dA E2 pl ⟨.plain fs none,e.bJ,false⟩,(ts.take i).map (·.1)) pl=(dA E2 pl (pO e),(ts.take i).map (·.1)++[pl]):=by
    unfold gj
    rw [if_neg (by dsimp only; rw [h6.ms.tm.nd.mk J_]; exact Bool.false_ne_true)]
    dsimp only
    rw [←zr h6.ms.tm.nd J_,sS]
    congr 2
    rw [ew]
    rfl
   obtain⟨dx6,hk6⟩:=h6.ms.ob
   have aiG:E2.length=E.length:=by
    have:=congrArg List.length ju
    unfold dA RB J6 at this
    rw [List.length_map,List.length_map] at this
    exact this
   refine⟨_,_,hk6,cV,M,km,gd,_,_,pl,rfl,h6.ms,List.mem_map.mpr ⟨_,J_,rfl⟩,by unfold dA; rw [List.length_map]; omega,fun H7 k7 ms7=>?_⟩
   rw [hsh] at ms7
   have h7:=h6.mark k7 ms7
   have k6':Kp (uD a M gd hl) H5 H6:=k6.mono fun b z=>.inl (.inl z)
   have k7':Kp (uD a M gd hl) H6 H7:=k7.mono fun b z=>z.elim .inl fun z=>.inr (.inl z)
   exact⟨_,rfl,(kk5.trans k6').trans k7',k7' _ _ nl (k6' _ _ nl uu),by rw [eG,eW,←ju]; exact h7⟩
  ·rintro σ H2 ⟨o4,rfl,k2,eM,h2⟩
   have eB:RB E ts (pI ts).length=iy E:=List.map_congr_left fun p gh=>by
    rw [dB,List.take_length]
    have h7:p.1∈ts.map (·.1)↔dE p=true:=by
     constructor
     ·intro z
      obtain⟨p2,h8,h9⟩:=List.mem_map.mp z
      obtain⟨Cn,Q_⟩:=in1 p2 h8
      have:=hA.same Cn gh h9
      subst this
      exact Q_
     ·exact fun z=>List.mem_map.mpr ⟨p,hp.mem_iff.mpr (List.mem_filter.mpr ⟨gh,z⟩),rfl⟩
    by_cases z:dE p=true
    ·rw [if_pos z,if_pos (decide_eq_true (h7.mpr z))]
    ·rw [if_neg z,if_neg fun y=>z (h7.mp (of_decide_eq_true y))]
   rw [eB,dB,List.take_length] at h2
   refine a6.of (ag (aV (bT (pv 1) T.aB T.Ip (Rx T B) (hr.mono (by decide)) T.VN .nil ar)) (ah (aE (aD (uz T) (hr.mono (by decide)) rfl T.y4 T.jm.kp T.y3 .nil ar (aa (pv 0) (aa (pv 3) af)))))) ?_
   obtain⟨qo,A5⟩:=h2.ms.ob
   have f1:=cV (m:=M.p) (g:=gd) (n:="drain")
   dsimp! [A5,HO.ins.injEq,f1]
   have Rb:(iy E).length=E.length:=List.length_map _
   have b5:BC (iy E) (ts.map (·.1)):=fun p e he hm hg n hn=>by
    obtain⟨p0,h3,h4⟩:=List.mem_map.mp he
    by_cases z:dE p0=true
    ·rw [if_pos z] at h4
     injection h4 with h4 h5
     exact absurd (List.mem_map.mpr ⟨p0,hp.mem_iff.mpr (List.mem_filter.mpr ⟨h3,z⟩),h4⟩) hg
    ·rw [if_neg z] at h4
     subst h4
     exact XN (hb p e h3 hm (fun z=>nomatch z) n hn)
   have v5:VE (iy E):=fun p e he n hn=>by
    obtain⟨p0,h3,h4⟩:=List.mem_map.mp he
    have qy:e.t.fs=p0.2.t.fs:=by
     by_cases z:dE p0=true
     ·rw [if_pos z] at h4
      have h5:pO p0.2=e:=congrArg Prod.snd h4
      rw [←h5]
      exact p0.2.t.eE.2.2
     ·rw [if_neg z] at h4
      subst h4
      rfl
    obtain⟨q2,h5,h6⟩:=hv p0.1 p0.2 h3 n (by rw [←qy]; exact hn)
    exact⟨q2,h5,by rw [kM]; exact h6⟩
   refine⟨M,km,gd,iy E,ts.map (·.1),rfl,h2.ms,b5,v5,by omega,h2.t1,fun H3 E6 k3 t13 ms3 r3 cl3=>?_⟩
   have h3:=h2.drain oj k3 t13 ms3
   have k3':Kp (uD a M gd hl) H2 H3:=k3.mono fun b z=>by
    rcases z with z | z | z
    ·exact .inl z
    ·exact .inr (.inl z)
    ·exact .inr (.inr (.inr (.inl z)))
   obtain⟨ts6,q1,q2,q3⟩:=pick ts (E':=E6) fun p gh=>by
    obtain⟨h8,h9⟩:=in1 p gh
    have Cn:(p.1,pO p.2)∈iy E:=List.mem_map.mpr ⟨p,h8,if_pos h9⟩
    obtain⟨e6,Q_,_,lA⟩:=ef r3.st.symm Cn
    exact⟨(p.1,e6),Q_,rfl,lA⟩
   have epI:pI ts6=pI ts:=by
    have:=congrArg (List.map fun(n:Nat)=>V.int (n:Int)) q1
    rw [List.map_map,List.map_map] at this
    unfold pI
    rw [List.map_map,List.map_map]
    exact this
   refine⟨M,E6,l,ts6,rfl,h3.ms.tm,by rw [epI]; exact k3' _ _ nl eM,q3,?_,fun D5 ns H4 s4 vC XU ji agv=>?_⟩
   ·have:=congrArg List.length q1
    rw [List.length_map,List.length_map] at this
    omega
   ·rw [q2] at ji
    refine q D5 ns ts E6 H4 ((k2.trans k3').trans (ak.kp s4)) ?_ XU hp M0 ji agv (h3.same s4) r3 cl3
    cases e:H D5 with
    | none=>rfl
    | some u=>
     by_cases z:uD a M gd hl D5
     ·rcases h3.cg _ z with (⟨_,e⟩ | ⟨_,e⟩) | ⟨_,e⟩ <;> (rw [vC] at e; cases e)
     ·rw [k3' _ _ z (k2 _ _ z e)] at vC
      cases vC
noncomputable def Ls (H:Hp) (l:Addr) (zs:List Int):Prop:=∃ns:List Int,H l=some (.lst (ns.map V.int))∧ns.Perm zs∧ns.Pairwise (·≤·)
theorem Ls.kp {S:Addr→Prop}{H H':Hp}{l:Addr}{zs:List Int}(h:Ls H l zs) (k:Kp S H H') (n:¬S l):Ls H' l zs:=by
 obtain⟨ns,h1,h2⟩:=h
 exact⟨ns,k _ _ n h1,h2⟩
theorem Ls.same {H H':Hp}{l:Addr}{zs:List Int}(h:Ls H l zs) (k:ak H H'):Ls H' l zs:=by
 obtain⟨ns,h1,h2⟩:=h
 exact⟨ns,k _ _ h1,h2⟩
noncomputable def eo (E:List (Nat×En)) (f:Nat×En→Bool):List Int:=(E.filter f).map fun p=>p.2.bJ
noncomputable abbrev sW:Str:="weak"
noncomputable abbrev sP:Str:="pair"
noncomputable abbrev jG (E:List (Nat×En)):List (Nat×En):=iU (iU E sW) sP
theorem Bj {E:List (Nat×En)}(h:VE E) (s:Str):VE (iU E s):=fun p e he n hn=>by
 obtain⟨p0,h3,h4⟩:=List.mem_map.mp he
 by_cases z:bl E s p0=true
 ·rw [if_pos z] at h4
  have h5:(⟨p0.2.t.nul,p0.2.bJ,p0.2.bR⟩:En)=e:=congrArg Prod.snd h4
  rw [←h5,p0.2.t.cW.2.2] at hn
  obtain⟨v,_,h6⟩:=List.mem_map.mp hn
  cases h6
 ·rw [if_neg z] at h4
  subst h4
  obtain⟨q,h5,h6⟩:=h p e h3 n hn
  exact⟨q,h5,by rw [uq]; exact h6⟩
theorem iW (E:List (Nat×En)) (s:Str):(iU E s).length=E.length:=List.length_map _
theorem Ka (t:Tg):t.nul.hold=[]:=by
 cases t with
 | plain fs w=>
  show(fs.map fun _=>Vl.no).filterMap Vl.na=[]
  rw [List.filterMap_map]
  exact List.filterMap_eq_nil_iff.mpr fun _ _=>rfl
 | weak f=>rfl
 | pair k v=>rfl
theorem Kb {E:List (Nat×En)}{G:List Nat}(h:BC E G) (s:Str):BC (iU E s) G:=fun p e he hm hg n hn=>by
 obtain⟨p0,h3,h4⟩:=List.mem_map.mp he
 rw [JI]
 by_cases z:bl E s p0=true
 ·rw [if_pos z] at h4
  have h5:(⟨p0.2.t.nul,p0.2.bJ,p0.2.bR⟩:En)=e:=congrArg Prod.snd h4
  rw [←h5] at hn
  have hn:(n:Int)∈p0.2.t.nul.hold:=hn
  rw [Ka] at hn
  cases hn
 ·rw [if_neg z] at h4
  subst h4
  exact h p e h3 hm hg n hn
theorem abi {E:List (Nat×En)}(h:Cl E fun p=>cJ E p=true):BC E []:=fun p e he hm _ n hn=>h.hold p e he (dq.mpr ⟨e,he,hm⟩) n hn
theorem i0.none_ {H:Hp}{M:MA}{km gd hl:Addr}{E:List (Nat×En)}{G:List Nat}{hs:List (Nat×Int)}(h:i0 a K H M km gd hl E G hs) {l:Addr}(JM:H l=none):¬uD a M gd hl l:=fun z=>by
 rcases h.cg l z with (⟨_,e⟩ | ⟨_,e⟩) | ⟨_,e⟩ <;> (rw [JM] at e; cases e)
section
variable {H:Hp}{M:MA}{km gd hl:Addr}{E:List (Nat×En)}{hs:List (Nat×Int)}{Q:VK}{X X':XK}
theorem sT {G:List Nat}(h:i0 a K H M km gd hl E G hs) (lI:E.length < 64) (q:∀(l:Addr) (H':Hp),ak H H'→H l=none→Ls H' l (eo E fun p=>p.2.bR)→Q (.ref l) H'):sR a K [.ref M.p] H (fun x H1=>pN a K [.ref M.p,x] H1 Q X) X':=by
 refine⟨M,E,rfl,h.ms.tm,lI,fun D ts H1 s1 hD hD1 hp=>⟨M,E,D,ts,rfl,h.ms.tm.same s1,hD1,fun p gh=>(List.mem_filter.mp (hp.mem_iff.mp gh)).1,?_,fun D2 ns H2 s2 fA agw ji M0=>q D2 H2 (s1.trans s2) (s1.free fA) ⟨ns,agw,ji.trans (hp.map _),M0⟩⟩⟩
 have h5:=List.length_filter_le (fun p:Nat×En=>p.2.bR) E
 rw [hp.length_eq]
 omega
theorem gH (h:i0 a K H M km gd hl E [] hs) (hv:VE E) (lI:E.length < 64) (s:Str) (q:∀(l:Addr) (H':Hp),Kp (uD a M gd hl) H H'→H l=none→Ls H' l (eo E (bl E s))→i0 a K H' M km gd hl (iU E s) [] hs→Q (.ref l) H'):JZ a K [.ref M.p,.str s] H Q X:=
 ⟨M,E,s,rfl,h.ms.tm,hv,lI,fun l ns H1 k1 JM d_ ji M0 hT=>q l H1 (k1.mono fun b z=>.inl (.inl z)) JM ⟨ns,d_,ji,M0⟩ (h.chg k1 hT fun p hp=>nomatch hp)⟩
end
noncomputable def XW (a:cN) (K:PySem.W.Frag):Sp:=fun vs H Q _=>∃M km gd hl E G hs,vs=[.ref M.p,.ref km,.ref hl]∧i0 a K H M km gd hl E G hs∧a.cY≠a.cH∧BC E G∧VE E∧E.length < 64∧hs.length≤800 ∧
 ∀(t l1 l2 l3 l4 l5 l6 l7:Addr) (ts E1 E6:List (Nat×En)) (H':Hp),Kp (uD a M gd hl) H H'→H' t=some (.tup [.str "turn",.ref l1,.ref l2,.ref l3,.ref l4,.ref l5,.ref l6,.ref l7]) →
  Rel E E1→Cl E1 (fun p=>cJ E1 p=true)→ts.Perm ((jG E1).filter dE)→ts.Pairwise (fun p q=>p.2.bJ≤q.2.bJ)→Rel (iy (jG E1)) E6→Cl E6 (fun p=>cJ E6 p=true) →
  Ls H' l1 (eo E1 fun p=>p.2.bR)→Ls H' l2 (eo E1 (bl E1 sW))→Ls H' l3 (eo (iU E1 sW) (bl (iU E1 sW) sP))→Ls H' l4 (ts.map fun p=>p.2.bJ)→Ls H' l5 (eo E6 fun p=>p.2.bR)→Ls H' l6 (eo E6 (bl E6 sW))→Ls H' l7 (eo (iU E6 sW) (bl (iU E6 sW) sP)) →
  i0 a K H' M km gd hl (jG E6) [] (hs++Bh ts)→Q (.ref t) H'
theorem XX (T:Txt K mg a) (B:BM mg base):aU P w K mg base cC 18 a.xn a.xo ["memory","marking","heard"] (XW a K):=by
 refine T.oR.ok h_ (fun vs H Q E h=>?_) (fun bL A outer s H vs Q E hr h=>?_)
 ·obtain⟨_,_,_,_,_,_,_,rfl,_⟩:=h
  rfl
 ·obtain⟨M,km,gd,hl,E,G,hs,rfl,h,oj,hb,hv,lI,hsl,q⟩:=h
  refine⟨_,(ag (aV (bT (pv 1) T.aB T.Ip (Rx T B) (hr.mono (by decide)) T.VN .nil ar)) (ag (aN (i:=3) h_.nd rfl (Or.inl rfl) (aD (uz T) (hr.mono (by decide)) rfl T.y4 T.jm.kp T.y3 .nil ar (aa (pv 0) (aa (aD (Bg T) (hr.mono (by decide)) rfl T.CC T.kr.kp T.CB .nil ar (aa (pv 0) af)) af)))) (ag (aN (i:=4) h_.nd rfl (Or.inl rfl) (aD (uA T) (hr.mono (by decide)) rfl T.y8 T.jn.kp T.y7 .nil ar (aa (pv 0) (aa aT af)))) (ag (aN (i:=5) h_.nd rfl (Or.inl rfl) (aD (uA T) (hr.mono (by decide)) rfl T.y8 T.jn.kp T.y7 .nil ar (aa (pv 0) (aa aT af)))) (ag (aN (i:=6) h_.nd rfl (Or.inl rfl) (aD (XQ T B) (hr.mono (by decide)) rfl T.Qj T.oQ.kp T.Qi .nil ar (aa (pv 0) (aa (pv 1) (aa (pv 2) af))))) (ag (aN (i:=7) h_.nd rfl (Or.inl rfl) (aD (uz T) (hr.mono (by decide)) rfl T.y4 T.jm.kp T.y3 .nil ar (aa (pv 0) (aa (aD (Bg T) (hr.mono (by decide)) rfl T.CC T.kr.kp T.CB .nil ar (aa (pv 0) af)) af)))) (ag (aN (i:=8) h_.nd rfl (Or.inl rfl) (aD (uA T) (hr.mono (by decide)) rfl T.y8 T.jn.kp T.y7 .nil ar (aa (pv 0) (aa aT af)))) (ag (aN (i:=9) h_.nd rfl (Or.inl rfl) (aD (uA T) (hr.mono (by decide)) rfl T.y8 T.jn.kp T.y7 .nil ar (aa (pv 0) (aa aT af)))) (ah (aE (dg (aa aT (aa (pv 3) (aa (pv 4) (aa (pv 5) (aa (pv 6) (aa (pv 7) (aa (pv 8) (aa (pv 9) af))))))))))))))))))),?_⟩
  obtain⟨dx,hk⟩:=h.ms.ob
  have f1:=cV (m:=M.p) (g:=gd) (n:="drain")
  dsimp! [hk,HO.ins.injEq,f1]
  refine⟨M,km,gd,E,G,rfl,h.ms,hb,hv,lI,h.t1,fun H1 E1 k1 t11 ms1 r1 cl1=>?_⟩
  have h1:=h.drain oj k1 t11 ms1
  have k01:Kp (uD a M gd hl) H H1:=k1.mono fun b z=>by
   rcases z with z | z | z
   ·exact .inl z
   ·exact .inr (.inl z)
   ·exact .inr (.inr (.inr (.inl z)))
  have l1l:E1.length=E.length:=by
   have:=congrArg List.length (dM r1.st)
   rwa [List.length_map,List.length_map] at this
  have v1:VE E1:=hv.bC r1.st
  refine sT h1 (by omega) fun l1 H2 s2 d_ L1=>?_
  have n1:=h1.none_ d_
  have h2:=h1.same s2
  refine gH h2 v1 (by omega) sW fun l2 H3 k3 eM L2 h3=>?_
  have n2:=h2.none_ eM
  have v3:=Bj v1 sW
  have e3:=iW E1 sW
  refine gH h3 v3 (by omega) sP fun l3 H4 k4 uc L3 h4=>?_
  have n3:=h3.none_ uc
  have v4:=Bj v3 sP
  have e4:=iW (iU E1 sW) sP
  have b4:=Kb (Kb (abi cl1) sW) sP
  refine⟨M,km,gd,hl,_,hs,rfl,h4,oj,b4,v4,by omega,hsl,fun l4 ns4 ts E6 H5 k5 AV agx wx htr agy agz h5 r5 cl5=>?_⟩
  have n4:=h4.none_ AV
  have e6:E6.length=E1.length:=by
   have:=congrArg List.length (dM r5.st)
   rw [kM,List.length_map,List.length_map] at this
   omega
  have v6:VE E6:=VE.bC r5.st fun p e he n hn=>by
   obtain⟨p0,h7,h8⟩:=List.mem_map.mp he
   have qy:e.t.fs=p0.2.t.fs:=by
    by_cases z:dE p0=true
    ·rw [if_pos z] at h8
     have h9:pO p0.2=e:=congrArg Prod.snd h8
     rw [←h9]
     exact p0.2.t.eE.2.2
    ·rw [if_neg z] at h8
     subst h8
     rfl
   obtain⟨q2,h9,Cn⟩:=v4 p0.1 p0.2 h7 n (by rw [←qy]; exact hn)
   exact⟨q2,h9,by rw [kM]; exact Cn⟩
  refine sT h5 (by omega) fun l5 H6 s6 uu L5=>?_
  have n5:=h5.none_ uu
  have h6:=h5.same s6
  refine gH h6 v6 (by omega) sW fun l6 H7 k7 Y_ L6 h7=>?_
  have n6:=h6.none_ Y_
  have v7:=Bj v6 sW
  have e7:=iW E6 sW
  refine gH h7 v7 (by omega) sP fun l7 H8 k8 hl7 L7 h8=>⟨by rw [sizeLine_eq]; decide,fun t ht=>?_⟩
  have s9:=ak.put (o:=.tup [V.str "turn",V.ref l1,V.ref l2,V.ref l3,V.ref l4,V.ref l5,V.ref l6,V.ref l7]) ht
  refine q t l1 l2 l3 l4 l5 l6 l7 ts E1 E6 _ ?_ ae r1 cl1 wx htr r5 cl5 ?_ ?_ ?_ ?_ ?_ ?_ (L7.same s9) (h8.same s9)
  ·exact((((((k01.trans (ak.kp s2)).trans k3).trans k4).trans k5).trans ((ak.kp s6).trans k7)).trans k8).trans (ak.kp s9)
  ·exact(((((L1.kp k3 n1).kp k4 n1).kp k5 n1).same s6).kp k7 n1).kp k8 n1 |>.same s9
  ·exact((((L2.kp k4 n2).kp k5 n2).same s6).kp k7 n2).kp k8 n2 |>.same s9
  ·exact(((L3.kp k5 n3).same s6).kp k7 n3).kp k8 n3 |>.same s9
  ·have L4:Ls H5 l4 (ts.map fun p=>p.2.bJ):=⟨ns4,agx,agy,agz⟩
   exact((L4.same s6).kp k7 n4).kp k8 n4 |>.same s9
  ·exact(L5.kp k7 n5).kp k8 n5 |>.same s9
  ·exact(L6.kp k8 n6).same s9
structure RS (K:PySem.W.Frag) (H:Hp) (lr:Addr) (N:List Gn):Prop where
 hr:H lr=some (.lst (N.map fun n=>V.ref n.ra))
 ok:∀n∈N,n.ok K H
 nd:(N.map Gn.ra).Nodup
noncomputable def fq (N:List Gn) (b:Addr):Prop:=b∈N.map Gn.ra
section
variable {H H':Hp}{lr:Addr}{N:List Gn}
theorem RS.mu (h:RS K H lr N):∀b,fq N b→Mu H b:=fun b hb=>by
 obtain⟨n,hn,rfl⟩:=List.mem_map.mp hb
 exact .inl ⟨_,(h.ok n hn).row⟩
theorem RS.kp {S:Addr→Prop}(h:RS K H lr N) (k:Kp S H H') (cg:∀b,S b→Cg H b) (n1:¬S lr) (n2:∀n∈N,¬S n.ra∧¬S n.fl):RS K H' lr N:=
 ⟨k _ _ n1 h.hr,fun n hn=>by
  obtain⟨fx,h1,h2,h3⟩:=(h.ok n hn).EU
  exact⟨k _ _ (n2 n hn).1 (h.ok n hn).row,fx,k _ _ (n2 n hn).2 h1,eC.kc h2 k cg,h3⟩,h.nd⟩
theorem RS.same (h:RS K H lr N) (k:ak H H'):RS K H' lr N:=
 ⟨k _ _ h.hr,fun n hn=>(h.ok n hn).kp (S:=fun _=>False) (ak.kp k) (fun _ z=>z.elim) (fun z=>z) (fun z=>z),h.nd⟩
theorem RS.nats (h:RS K H lr N) {b:Addr}{ns:List Int}(e:H b=some (.lst (ns.map V.int))):¬fq N b:=fun z=>by
 obtain⟨n,hn,rfl⟩:=List.mem_map.mp z
 rw [(h.ok n hn).row] at e
 injection e with e
 injection e with e
 cases ns with
 | nil=>cases e
 | cons n ns=>
  injection e with e _
  cases e
theorem RS.refs (h:RS K H lr N) {b:Addr}{ns:List Addr}(e:H b=some (.lst (ns.map V.ref))):¬fq N b:=fun z=>by
 obtain⟨n,hn,rfl⟩:=List.mem_map.mp z
 rw [(h.ok n hn).row] at e
 injection e with e
 injection e with e
 cases ns with
 | nil=>cases e
 | cons n ns=>
  injection e with e _
  cases e
theorem RS.nlr (h:RS K H lr N):¬fq N lr:=by
 refine h.refs (ns:=N.map Gn.ra) ?_
 rw [h.hr,List.map_map]
 rfl
theorem RS.Rk (h:RS K H lr N) {n:Gn}(hn:n∈N):¬fq N n.fl:=fun z=>by
 obtain⟨m,hm,e⟩:=List.mem_map.mp z
 obtain⟨fx,h1,_,h3⟩:=(h.ok n hn).EU
 have h4:=(h.ok m hm).row
 rw [e,h1] at h4
 injection h4 with h4
 injection h4 with h4
 rw [h4] at h3
 simp at h3
theorem RS.at_ (h:RS K H lr N) {k:Nat}{n:Gn}(hn:N[k]?=some n):qm (N.map fun n=>V.ref n.ra) (k:Int)=some (V.ref n.ra):=bp (by rw [List.getElem?_map,hn]; rfl)
theorem RS.put (h:RS K H lr N) {k:Nat}{n n':Gn}(hn:N[k]?=some n) (e1:n'.ra=n.ra) {fx:List V}(sL:H n'.fl=some (.lst fx)) (hv:eC K H fx n'.t.fs) (h3:fx.length≤3) (hH:H'=upd H n.ra (.lst [.str n'.t.sort,.ref n'.fl,wV n'.t.words,.int n'.num])):RS K H' lr (N.set k n')∧Kp (fq N) H H':=by
 have fV:=List.mem_of_getElem? hn
 have zu:fq N n.ra:=List.mem_map.mpr ⟨n,fV,rfl⟩
 have kp:Kp (·=n.ra) H H':=by rw [hH]; exact(Kp.refl _ _).set rfl
 have mu:∀b,b=n.ra→Mu H b:=fun b e=>by rw [e]; exact h.mu _ zu
 have Ed:n'.fl≠n.ra:=fun z=>by
  have h4:=(h.ok n fV).row
  rw [←z,sL] at h4
  injection h4 with h4
  injection h4 with h4
  rw [h4] at h3
  simp at h3
 have emap:(N.set k n').map Gn.ra=N.map Gn.ra:=by
  rw [List.map_set,e1]
  refine List.ext_getElem? fun i=>?_
  rw [List.getElem?_set]
  split
  ·rename_i z
   subst z
   rw [List.getElem?_map,hn,if_pos (by rw [List.length_map]; exact(List.getElem?_eq_some_iff.mp hn).1)]
   rfl
  ·rfl
 refine⟨⟨?_,fun m hm=>?_,by rw [emap]; exact h.nd⟩,kp.mono fun b z=>by rw [z]; exact zu⟩
 ·have e2:((N.set k n').map fun n=>V.ref n.ra)=N.map fun n=>V.ref n.ra:=by
   have:=congrArg (List.map V.ref) emap
   rw [List.map_map,List.map_map] at this
   exact this
  rw [e2]
  exact kp _ _ (fun z=>h.nlr (by rw [z]; exact zu)) h.hr
 ·obtain⟨i,hi⟩:=List.getElem?_of_mem hm
  rw [List.getElem?_set] at hi
  split at hi
  ·split at hi
   ·cases hi
    refine⟨?_,fx,kp _ _ Ed sL,hv.kp kp mu,h3⟩
    rw [hH,e1,ae]
   ·cases hi
  ·rename_i z
   have hmN:=List.mem_of_getElem? hi
   refine(h.ok m hmN).kp kp mu (fun y=>?_) fun y=>h.Rk hmN (by rw [y]; exact zu)
   have q1:(N.map Gn.ra)[i]?=some n.ra:=by rw [List.getElem?_map,hi,←y]; rfl
   have q2:(N.map Gn.ra)[k]?=some n.ra:=by rw [List.getElem?_map,hn]; rfl
   obtain⟨a1,a2⟩:=List.getElem?_eq_some_iff.mp q1
   obtain⟨b1,b2⟩:=List.getElem?_eq_some_iff.mp q2
   rcases Nat.lt_or_gt_of_ne z with c | c
   ·exact List.pairwise_iff_getElem.mp h.nd k i b1 a1 c (b2.trans a2.symm)
   ·exact List.pairwise_iff_getElem.mp h.nd i k a1 b1 c (a2.trans b2.symm)
end
structure pP (N N':List Gn) (g:Nat→Tg→Tg):Prop where
 ra:N'.map Gn.ra=N.map Gn.ra
 at_:∀(i:Nat) n n',N[i]?=some n→N'[i]?=some n'→n'.t=g i n.t
theorem pP.len {N N':List Gn}{g:Nat→Tg→Tg}(h:pP N N' g):N'.length=N.length:=by
 have:=congrArg List.length h.ra
 rwa [List.length_map,List.length_map] at this
theorem pP.fq {N N':List Gn}{g:Nat→Tg→Tg}(h:pP N N' g):fq N'=fq N:=by
 funext b
 unfold bI.fq
 rw [h.ra]
theorem pP.refl (N:List Gn) {g:Nat→Tg→Tg}(hg:∀i t,g i t=t):pP N N g:=⟨rfl,fun i n n' h1 h2=>by
 rw [h1] at h2
 cases h2
 exact(hg i _).symm⟩
theorem pP.set {N N':List Gn}{g g':Nat→Tg→Tg}(h:pP N N' g) {k:Nat}{n n':Gn}(hn:N'[k]?=some n) (e1:n'.ra=n.ra) (hk:∀t,g k t=n.t→g' k t=n'.t) (hg:∀i t,i≠k→g' i t=g i t):pP N (N'.set k n') g':=by
 refine⟨?_,fun i m m' h1 h2=>?_⟩
 ·rw [←h.ra,List.map_set,e1]
  refine List.ext_getElem? fun i=>?_
  rw [List.getElem?_set]
  split
  ·rename_i z
   subst z
   rw [List.getElem?_map,hn,if_pos (by rw [List.length_map]; exact(List.getElem?_eq_some_iff.mp hn).1)]
   rfl
  ·rfl
 ·rw [List.getElem?_set] at h2
  split at h2
  ·rename_i z
   subst z
   split at h2
   ·cases h2
    exact(hk m.t (h.at_ k m n h1 hn).symm).symm
   ·cases h2
  ·rename_i z
   rw [hg i _ fun y=>z y.symm]
   exact h.at_ i m m' h1 h2
theorem pP.get {N N':List Gn}{g:Nat→Tg→Tg}(h:pP N N' g) {i:Nat}{n:Gn}(hn:N[i]?=some n):∃n',N'[i]?=some n'∧n'.t=g i n.t:=by
 have hi:=(List.getElem?_eq_some_iff.mp hn).1
 have Ab:i < N'.length:=by rw [h.len]; exact hi
 exact⟨_,List.getElem?_eq_getElem Ab,h.at_ i n _ hn (List.getElem?_eq_getElem Ab)⟩
noncomputable def Nt (sm:List Nat) (t:Tg):Bool:=match t.fs with
 | .th z::_=>!decide (z.toNat∈sm)
 | _=>false
noncomputable def gf (N:List Gn) (sm:List Nat) (s:Str) (k:Nat):Bool:=((N[k]?).map fun n=>decide (n.t.sort=s)&&Nt sm n.t).getD false
noncomputable def zG (N:List Gn) (sm:List Nat) (k:Nat) (t:Tg):Tg:=if k∈sm.filter (gf N sm sW)∨k∈sm.filter (gf N sm sP)then t.nul else t
noncomputable def dN (N:List Gn) (sm:List Nat):List Nat:=(List.range N.length).filter fun k=>!decide (k∈sm)&&(((N[k]?).map fun n=>n.t.words.isSome).getD false)
noncomputable def Bk (N:List Gn) (k:Nat):Int:=(((N[k]?).map fun n=>n.t.words.getD 0)).getD 0
theorem Nu (t:Tg):t.nul.nul=t.nul:=Tg.ext (by rw [t.nul.cW.1]) (by rw [t.nul.cW.2.1]) (by rw [t.nul.cW.2.2,t.cW.2.2,List.map_map]; rfl)
theorem Kc {ns:List Int}{U:List Nat}(hp:ns.Perm (U.map fun(p:Nat)=>(p:Int))) (hs:ns.Pairwise (·≤·)) (hU:U.Nodup):∃W:List Nat,ns=W.map (fun(p:Nat)=>(p:Int))∧(∀k,k∈W↔k∈U)∧W.Pairwise (· < ·):=by
 have e:ns=(ns.map Int.toNat).map fun(p:Nat)=>(p:Int):=by
  rw [List.map_map]
  refine((List.map_congr_left fun z hz=>?_).trans (List.map_id ns)).symm
  obtain⟨k,_,rfl⟩:=List.mem_map.mp (hp.mem_iff.mp hz)
  rfl
 have hpW:(ns.map Int.toNat).Perm U:=by
  have:=hp.map Int.toNat
  rw [List.map_map] at this
  refine this.trans (List.Perm.of_eq ((List.map_congr_left fun z _=>?_).trans (List.map_id U)))
  rfl
 refine⟨ns.map Int.toNat,e,fun k=>hpW.mem_iff,?_⟩
 have Jl:(ns.map Int.toNat).Nodup:=hpW.symm.nodup hU
 have hle:(ns.map Int.toNat).Pairwise (·≤·):=by
  refine List.pairwise_map.mpr (hs.imp fun {x y} h=>?_)
  omega
 refine(List.pairwise_and_iff.mpr ⟨hle,Jl⟩).imp fun {x y} h=>?_
 exact Nat.lt_of_le_of_ne h.1 h.2
theorem lt_eq {A B:List Nat}(h1:A.Pairwise (· < ·)) (h2:B.Pairwise (· < ·)) (h:∀k,k∈A↔k∈B):A=B:=by
 have nd:∀{l:List Nat},l.Pairwise (· < ·)→l.Nodup:=fun h=>h.imp fun {x y} z e=>by omega
 have hp:A.Perm B:=(List.perm_ext_iff_of_nodup (nd h1) (nd h2)).mpr h
 exact List.Perm.eq_of_pairwise (fun x y _ _ a b=>by omega) h1 h2 hp
theorem sQ.agA {N:List Gn}{sm sm' U0 U:List Nat}{b:Bool}(h:sQ N sm U0 U b) (e:∀k,k∈sm↔k∈sm'):sQ N sm' U0 U b:=⟨h.nd,h.lt,fun k hk=>h.has k ((e k).mpr hk),h.sub,fun S c hs=>h.min S c fun k hk=>hs k ((e k).mp hk),h.XA,h.eq⟩
structure Clo (N:List Gn) (sm W:List Nat):Prop where
 lt:W.Pairwise (· < ·)
 st:sQ N sm W W false
 cn:CN N (·∈W)
theorem C5 {N:List Gn}{sm U:List Nat}{ns:List Int}(hp:ns.Perm (U.map fun(p:Nat)=>(p:Int))) (hs:ns.Pairwise (·≤·)) (c:sQ N sm U U false) (cn:CN N (·∈U)):∃W:List Nat,ns=W.map (fun(p:Nat)=>(p:Int))∧Clo N sm W:=by
 obtain⟨W,h1,h2,h3⟩:=Kc hp hs c.nd
 refine⟨W,h1,h3,⟨h3.imp fun {x y} z e=>by omega,fun k hk=>c.lt k ((h2 k).mp hk),fun k hk=>(h2 k).mpr (c.has k hk),fun _ z=>z,fun S cS hs k hk=>c.min S cS hs k ((h2 k).mp hk),(fun z=>nomatch z),fun _=>rfl⟩,?_⟩
 have:(fun k=>k∈W)=(fun k=>k∈U):=funext fun k=>propext (h2 k)
 rw [this]
 exact cn
structure NW (ps:List Nat) (E:List (Nat×En)) (N:List Gn):Prop where
 nm:Nm ps E N
 sw:∀(i:Nat) p n,E[i]?=some p→N[i]?=some n→p.2.bJ=2*(i:Int)+1∧p.2.t.words=n.t.words
section
variable {ps:List Nat}{E E':List (Nat×En)}{N N':List Gn}
theorem NW.rel (h:NW ps E N) (r:bC E'=bC E):NW ps E' N:=by
 have hl:E'.length=E.length:=by
  have:=congrArg List.length (dM r)
  rwa [List.length_map,List.length_map] at this
 have key:∀(i:Nat) p,E'[i]?=some p→∃p0,E[i]?=some p0∧p.2.t=p0.2.t∧p.2.bJ=p0.2.bJ:=fun i p hp=>by
  have h1:=congrArg (fun l=>l[i]?) r
  unfold bC at h1
  rw [List.getElem?_map,List.getElem?_map,hp] at h1
  cases e:E[i]? with
  | none=>rw [e] at h1; cases h1
  | some p0=>
   rw [e] at h1
   have h2:(p.1,p.2.t,p.2.bJ)=(p0.1,p0.2.t,p0.2.bJ):=Option.some.inj h1
   injection h2 with h3 h4
   injection h4 with h4 h5
   exact⟨p0,rfl,h4,h5⟩
 refine⟨⟨(dM r).trans h.nm.fst,hl.trans h.nm.len,fun i p n hp hn=>?_,h.nm.nd⟩,fun i p n hp hn=>?_⟩
 ·obtain⟨p0,q1,q2,q3⟩:=key i p hp
  rw [q2]
  exact h.nm.rel i p0 n q1 hn
 ·obtain⟨p0,q1,q2,q3⟩:=key i p hp
  rw [q2,q3]
  exact h.sw i p0 n q1 hn
theorem NW.row (h:NW ps E N) {i:Nat}{p:Nat×En}(hp:E[i]?=some p):∃n,N[i]?=some n:=
 ⟨_,List.getElem?_eq_getElem (by rw [←h.nm.len]; exact(List.getElem?_eq_some_iff.mp hp).1)⟩
theorem NW.ent (h:NW ps E N) {i:Nat}{n:Gn}(hn:N[i]?=some n):∃p,E[i]?=some p∧p.1=ps.getD i 0:=by
 obtain⟨e,_,h1,_⟩:=h.nm.at_ (List.getElem?_eq_some_iff.mp hn).1
 exact⟨_,h1,rfl⟩
theorem NW.pl (h:NW ps E N) {i:Nat}{p:Nat×En}(hp:E[i]?=some p):p.1=ps.getD i 0:=by
 obtain⟨n,hn⟩:=h.row hp
 obtain⟨q,h1,h2⟩:=h.ent hn
 rw [hp] at h1
 cases h1
 exact h2
theorem Bl {i:Nat}{p:Nat×En}(hp:E[i]?=some p):decide (i∈eY E)=p.2.bR:=by
 rw [Bool.eq_iff_iff,decide_eq_true_iff,iV]
 constructor
 ·rintro⟨q,h1,h2⟩
  rw [hp] at h1
  cases h1
  exact h2
 ·exact fun z=>⟨p,hp,z⟩
theorem NW.qp (h:NW ps E N) (hc:fu N) {i:Nat}{p:Nat×En}{n:Gn}(hp:E[i]?=some p) (hn:N[i]?=some n):qp E p.2.t=Nt (eY E) n.t:=by
 obtain⟨_,r2⟩:=h.nm.rel i p n hp hn
 have hz:=hc n (List.mem_of_getElem? hn)
 unfold bI.qp Nt
 rw [r2]
 cases e:n.t.fs with
 | nil=>rfl
 | cons v vs=>
  rw [e] at hz
  cases v with
  | no=>rfl
  | num z=>rfl
  | th z=>
   have h1:=hz z List.mem_cons_self
   show(!cJ E (((ps.getD z.toNat 0:Nat):Int).toNat))=!decide (z.toNat∈eY E)
   rw [Int.toNat_natCast]
   congr 1
   rw [Bool.eq_iff_iff,decide_eq_true_iff]
   exact h.nm.bR (by omega)
theorem NW.bl (h:NW ps E N) (hc:fu N) (s:Str) {i:Nat}{p:Nat×En}{n:Gn}(hp:E[i]?=some p) (hn:N[i]?=some n):bl E s p=(decide (i∈eY E)&&gf N (eY E) s i):=by
 unfold bI.bl gf
 rw [h.qp hc hp hn,Bl hp,hn,(h.nm.rel i p n hp hn).1]
 rfl
theorem Bm (E:List (Nat×En)):(eY E).Pairwise (· < ·):=(List.pairwise_lt_range (n:=E.length)).filter _
theorem NW.Kd (h:NW ps E N) (hc:fu N) (s:Str):idx E (bI.bl E s)=(eY E).filter (gf N (eY E) s):=by
 refine lt_eq (Bb _ _) ((Bm E).filter _) fun k=>?_
 rw [ur,List.mem_filter]
 constructor
 ·rintro⟨p,hp,hb⟩
  obtain⟨n,hn⟩:=h.row hp
  rw [h.bl hc s hp hn,Bool.and_eq_true,decide_eq_true_iff] at hb
  exact hb
 ·rintro⟨h1,h2⟩
  obtain⟨p,hp,_⟩:=iV.mp h1
  obtain⟨n,hn⟩:=h.row hp
  exact⟨p,hp,by rw [h.bl hc s hp hn,Bool.and_eq_true,decide_eq_true_iff]; exact⟨h1,h2⟩⟩
theorem RD:¬((sW:Str)=sP):=by decide +kernel
theorem uE {s:Str}{p:Nat×En}(h:bI.bl E s p=true):p.2.t.sort=s:=by
 unfold bI.bl at h
 rw [Bool.and_eq_true,Bool.and_eq_true] at h
 exact of_decide_eq_true h.2.1
theorem XY (h:∀q,cJ E' q=cJ E q) (t:Tg):bI.qp E' t=bI.qp E t:=by
 unfold bI.qp
 split
 ·rw [h]
 ·rfl
theorem Ke (E:List (Nat×En)) (p:Nat×En):bI.bl (iU E sW) sP (if bI.bl E sW p=true then(p.1,⟨p.2.t.nul,p.2.bJ,p.2.bR⟩)else p)=bI.bl E sP p:=by
 by_cases z:bI.bl E sW p=true
 ·rw [if_pos z]
  have h1:=uE z
  have h2:¬p.2.t.sort=sP:=by rw [h1]; exact RD
  unfold bI.bl
  rw [decide_eq_false h2]
  show(p.2.bR&&(decide (p.2.t.nul.sort=sP)&&_))=_
  rw [p.2.t.cW.1,decide_eq_false h2]
  rfl
 ·rw [if_neg z]
  unfold bI.bl
  rw [XY fun q=>JI E sW q]
theorem Nv (E:List (Nat×En)):idx (iU E sW) (bI.bl (iU E sW) sP)=idx E (bI.bl E sP):=by
 unfold idx
 rw [iW]
 refine List.filter_congr fun i _=>?_
 rw [lS]
 cases e:E[i]? with
 | none=>rfl
 | some p=>
  show bI.bl (iU E sW) sP _=_
  rw [Ke]
  rfl
theorem C6 {i:Nat}{p:Nat×En}(hp:E[i]?=some p):(jG E)[i]?=some (if bI.bl E sW p=true∨bI.bl E sP p=true then(p.1,⟨p.2.t.nul,p.2.bJ,p.2.bR⟩)else p):=by
 rw [lS,lS,hp]
 show some (if bI.bl (iU E sW) sP _=true then _ else _)=_
 rw [Ke]
 dsimp only
 by_cases z:bI.bl E sW p=true
 ·have h2:¬bI.bl E sP p=true:=fun y=>RD ((uE z).symm.trans (uE y))
  rw [if_pos z,if_neg h2,if_pos (.inl z)]
 ·by_cases y:bI.bl E sP p=true
  ·rw [if_neg z,if_pos y,if_pos (.inr y)]
  ·rw [if_neg z,if_neg y,if_neg fun x=>x.elim z y]
theorem pQ (E:List (Nat×En)):(jG E).length=E.length:=by rw [iW,iW]
theorem NW.clean (h:NW ps E N) (hc:fu N) (up:pP N N' (zG N (eY E))):NW ps (jG E) N':=by
 have key:∀(i:Nat) q n',(jG E)[i]?=some q→N'[i]?=some n'→∃p n,E[i]?=some p∧N[i]?=some n∧q.2.bJ=p.2.bJ∧((q.2.t=p.2.t.nul∧n'.t=n.t.nul)∨(q.2.t=p.2.t∧n'.t=n.t)):=fun i q n' hq Af=>by
  have hi:i < E.length:=by rw [←pQ]; exact(List.getElem?_eq_some_iff.mp hq).1
  have hp:E[i]?=some E[i]:=List.getElem?_eq_getElem hi
  obtain⟨n,hn⟩:=h.row hp
  have e:=up.at_ i n n' hn Af
  rw [C6 hp] at hq
  have hq:=Option.some.inj hq
  have hd:(bI.bl E sW E[i]=true∨bI.bl E sP E[i]=true)↔(i∈(eY E).filter (gf N (eY E) sW)∨i∈(eY E).filter (gf N (eY E) sP)):=by
   rw [h.bl hc sW hp hn,h.bl hc sP hp hn,Bool.and_eq_true,Bool.and_eq_true,decide_eq_true_iff,List.mem_filter,List.mem_filter]
  unfold zG at e
  refine⟨_,n,hp,hn,?_⟩
  by_cases z:bI.bl E sW E[i]=true∨bI.bl E sP E[i]=true
  ·rw [if_pos z] at hq
   rw [if_pos (hd.mp z)] at e
   rw [←hq]
   exact⟨rfl,.inl ⟨rfl,e⟩⟩
  ·rw [if_neg z] at hq
   rw [if_neg fun y=>z (hd.mpr y)] at e
   rw [←hq]
   exact⟨rfl,.inr ⟨rfl,e⟩⟩
 refine⟨⟨by rw [uq,uq]; exact h.nm.fst,by rw [pQ,up.len]; exact h.nm.len,fun i q n' hq Af=>?_,h.nm.nd⟩,fun i q n' hq Af=>?_⟩
 ·obtain⟨p,n,hp,hn,_,hh⟩:=key i q n' hq Af
  obtain⟨r1,r2⟩:=h.nm.rel i p n hp hn
  rcases hh with ⟨e1,e2⟩ | ⟨e1,e2⟩
  ·rw [e1,e2,p.2.t.cW.1,n.t.cW.1,p.2.t.cW.2.2,n.t.cW.2.2,r2,List.map_map,List.map_map]
   exact⟨r1,rfl⟩
  ·rw [e1,e2]
   exact⟨r1,r2⟩
 ·obtain⟨p,n,hp,hn,es,hh⟩:=key i q n' hq Af
  obtain⟨r1,r2⟩:=h.sw i p n hp hn
  refine⟨es.trans r1,?_⟩
  rcases hh with ⟨e1,e2⟩ | ⟨e1,e2⟩
  ·rw [e1,e2,p.2.t.cW.2.1,n.t.cW.2.1]
   exact r2
  ·rw [e1,e2]
   exact r2
theorem NW.dE (h:NW ps E N) {i:Nat}{p:Nat×En}(hp:E[i]?=some p):dE p=decide (i∈dN N (eY E)):=by
 obtain⟨n,hn⟩:=h.row hp
 rw [Bool.eq_iff_iff,decide_eq_true_iff]
 unfold dN
 rw [List.mem_filter,List.mem_range,hn,Bl hp]
 unfold bI.dE
 rw [(h.sw i p n hp hn).2]
 exact⟨fun z=>⟨(List.getElem?_eq_some_iff.mp hn).1,z⟩,fun z=>z.2⟩
theorem uF (N:List Gn) (sm:List Nat):(dN N sm).Pairwise (· < ·):=(List.pairwise_lt_range (n:=N.length)).filter _
theorem NW.C7 (h:NW ps E N):idx E bI.dE=dN N (eY E):=by
 refine lt_eq (Bb _ _) (uF _ _) fun k=>?_
 rw [ur]
 constructor
 ·rintro⟨p,hp,hb⟩
  rw [h.dE hp] at hb
  exact of_decide_eq_true hb
 ·intro hk
  have vA:k < N.length:=List.mem_range.mp (List.mem_filter.mp hk).1
  have hkE:k < E.length:=by rw [h.nm.len]; exact vA
  have hp:E[k]?=some E[k]:=List.getElem?_eq_getElem hkE
  exact⟨_,hp,by rw [h.dE hp]; exact decide_eq_true hk⟩
noncomputable def Bo (N:List Gn) (sm:List Nat) (k:Nat) (t:Tg):Tg:=if k∈dN N sm then t.JH else t
theorem n0 {i:Nat}:(iy E)[i]?=(E[i]?).map fun p=>if bI.dE p=true then(p.1,pO p.2)else p:=by
 unfold iy
 rw [List.getElem?_map]
theorem NW.due (h:NW ps E N) (up:pP N N' (Bo N (eY E))):NW ps (iy E) N':=by
 have key:∀(i:Nat) q n',(iy E)[i]?=some q→N'[i]?=some n'→∃p n,E[i]?=some p∧N[i]?=some n∧q.2.bJ=p.2.bJ∧((q.2.t=p.2.t.JH∧n'.t=n.t.JH)∨(q.2.t=p.2.t∧n'.t=n.t)):=fun i q n' hq Af=>by
  rw [n0] at hq
  cases hp:E[i]? with
  | none=>rw [hp] at hq; cases hq
  | some p=>
   rw [hp] at hq
   have hq:(if bI.dE p=true then(p.1,pO p.2)else p)=q:=Option.some.inj hq
   obtain⟨n,hn⟩:=h.row hp
   have e:=up.at_ i n n' hn Af
   unfold Bo at e
   refine⟨p,n,rfl,hn,?_⟩
   have hd:=h.dE hp
   by_cases z:i∈dN N (eY E)
   ·rw [if_pos z] at e
    rw [decide_eq_true z] at hd
    rw [if_pos hd] at hq
    rw [←hq]
    exact⟨rfl,.inl ⟨rfl,e⟩⟩
   ·rw [if_neg z] at e
    rw [decide_eq_false z] at hd
    rw [if_neg (by rw [hd]; exact Bool.false_ne_true)] at hq
    rw [←hq]
    exact⟨rfl,.inr ⟨rfl,e⟩⟩
 refine⟨⟨by rw [kM]; exact h.nm.fst,by rw [up.len,←h.nm.len]; exact List.length_map _,fun i q n' hq Af=>?_,h.nm.nd⟩,fun i q n' hq Af=>?_⟩
 ·obtain⟨p,n,hp,hn,_,hh⟩:=key i q n' hq Af
  obtain⟨r1,r2⟩:=h.nm.rel i p n hp hn
  rcases hh with ⟨e1,e2⟩ | ⟨e1,e2⟩
  ·rw [e1,e2,p.2.t.eE.1,n.t.eE.1,p.2.t.eE.2.2,n.t.eE.2.2]
   exact⟨r1,r2⟩
  ·rw [e1,e2]
   exact⟨r1,r2⟩
 ·obtain⟨p,n,hp,hn,es,hh⟩:=key i q n' hq Af
  obtain⟨r1,r2⟩:=h.sw i p n hp hn
  refine⟨es.trans r1,?_⟩
  rcases hh with ⟨e1,e2⟩ | ⟨e1,e2⟩
  ·rw [e1,e2,p.2.t.eE.2.1,n.t.eE.2.1]
  ·rw [e1,e2]
   exact r2
theorem NW.Nw (h:NW ps E N) (k:Nat):k∈eY E++dN N (eY E)↔k∈eY (iy E):=by
 rw [List.mem_append,iV,iV,←h.C7,ur]
 constructor
 ·rintro(⟨p,hp,hm⟩ | ⟨p,hp,hd⟩)
  ·refine⟨_,by rw [n0,hp]; rfl,?_⟩
   dsimp only
   split
   ·rfl
   ·exact hm
  ·refine⟨_,by rw [n0,hp]; rfl,?_⟩
   dsimp only
   rw [if_pos hd]
   rfl
 ·rintro⟨q,hq,hm⟩
  rw [n0] at hq
  cases hp:E[k]? with
  | none=>rw [hp] at hq; cases hq
  | some p=>
   rw [hp] at hq
   have hq:(if bI.dE p=true then(p.1,pO p.2)else p)=q:=Option.some.inj hq
   by_cases z:bI.dE p=true
   ·exact .inr ⟨p,rfl,z⟩
   ·rw [if_neg z] at hq
    exact .inl ⟨p,rfl,by rw [hq]; exact hm⟩
theorem NW.eo (h:NW ps E N) (f:Nat×En→Bool):eo E f=(idx E f).map fun(i:Nat)=>2*(i:Int)+1:=by
 refine jF _ _ f E fun i p hp=>?_
 obtain⟨n,hn⟩:=h.row hp
 exact(h.sw i p n hp hn).1
theorem NW.ts (h:NW ps E N) {f:Nat×En→Bool}{ts:List (Nat×En)}(hp:ts.Perm (E.filter f)) (hs:ts.Pairwise fun p q=>p.2.bJ≤q.2.bJ):ts=E.filter f:=by
 refine List.Perm.eq_of_pairwise (le:=fun p q=>p.2.bJ≤q.2.bJ) (fun p q J0 hq1 h1 h2=>?_) hs ?_ hp
 ·have hpE:=(List.mem_filter.mp (hp.mem_iff.mp J0)).1
  have hqE:=(List.mem_filter.mp hq1).1
  obtain⟨i,hi⟩:=List.getElem?_of_mem hpE
  obtain⟨j,hj⟩:=List.getElem?_of_mem hqE
  obtain⟨n,hn⟩:=h.row hi
  obtain⟨m,hm⟩:=h.row hj
  have e1:=(h.sw i p n hi hn).1
  have e2:=(h.sw j q m hj hm).1
  have:i=j:=by omega
  subst this
  rw [hi] at hj
  exact Option.some.inj hj
 ·have h1:=h.eo f
  have h2:(bI.eo E f).Pairwise (·≤·):=by
   rw [h1]
   exact List.pairwise_map.mpr ((Bb E f).imp fun {x y} z=>by have z:x < y:=z; omega)
  exact List.pairwise_map.mp h2
theorem NW.Bh (h:NW ps E N) (f:Nat×En→Bool):Bh (E.filter f)=(idx E f).map fun k=>(ps.getD k 0,Bk N k):=by
 refine jF _ _ f E fun i p hp=>?_
 obtain⟨n,hn⟩:=h.row hp
 show(p.1,p.2.t.words.getD 0)=_
 rw [h.pl hp,(h.sw i p n hp hn).2]
 unfold Bk
 rw [hn]
 rfl
theorem Ls.eq {H:Hp}{l:Addr}{zs:List Int}(h:Ls H l zs) (hz:zs.Pairwise (·≤·)):H l=some (.lst (zs.map V.int)):=by
 obtain⟨ns,h1,h2,h3⟩:=h
 rw [h1,CU h2 h3 hz]
noncomputable def lT (l:List Nat):List V:=(l.map fun(k:Nat)=>2*(k:Int)+1).map V.int
theorem Ls.odd {H:Hp}{l:Addr}{zs:List Int}{U:List Nat}(h:Ls H l zs) (e:zs=U.map fun(k:Nat)=>2*(k:Int)+1) (hU:U.Pairwise (· < ·)):H l=some (.lst (lT U)):=by
 subst e
 exact h.eq (List.pairwise_map.mpr (hU.imp fun {x y} z=>by have z:x < y:=z; omega))
theorem fu.up {g:Nat→Tg→Tg}(hc:fu N) (up:pP N N' g) (hg:∀i t z,Vl.th z∈(g i t).fs→Vl.th z∈t.fs):fu N':=fun n' Af z hz=>by
 obtain⟨i,hi⟩:=List.getElem?_of_mem Af
 have hiN:i < N.length:=by rw [←up.len]; exact(List.getElem?_eq_some_iff.mp hi).1
 have hn:=List.getElem?_eq_getElem hiN
 rw [up.at_ i _ _ hn hi] at hz
 rw [up.len]
 exact hc _ (List.mem_of_getElem? hn) z (hg _ _ _ hz)
theorem XZ {t:Tg}{z:Int}(h:Vl.th z∈t.nul.fs):Vl.th z∈t.fs:=by
 rw [t.cW.2.2] at h
 obtain⟨_,_,e⟩:=List.mem_map.mp h
 cases e
theorem uG (N:List Gn) (sm:List Nat):∀i t z,Vl.th z∈(zG N sm i t).fs→Vl.th z∈t.fs:=fun i t z h=>by
 unfold zG at h
 split at h
 ·exact XZ h
 ·exact h
theorem Bp (N:List Gn) (sm:List Nat):∀i t z,Vl.th z∈(Bo N sm i t).fs→Vl.th z∈t.fs:=fun i t z h=>by
 unfold Bo at h
 split at h
 ·rw [t.eE.2.2] at h
  exact h
 ·exact h
end
theorem n8 {l:List Nat}{i:Nat}{x:V}(hx:(aA l)[i]?=some x):∃k,l[i]?=some k∧x=V.int (k:Nat):=by
 unfold aA at hx
 rw [List.getElem?_map,List.getElem?_map] at hx
 cases e:l[i]? with
 | none=>rw [e] at hx; cases hx
 | some w=>rw [e] at hx; cases hx; exact⟨w,rfl,rfl⟩
theorem iX (l m:List Nat):aA l++aA m=aA (l++m):=by
 unfold aA
 rw [List.map_append,List.map_append]
noncomputable def Kf (K:PySem.W.Frag):Sp:=fun vs H Q _=>∃t lp v,∃ps:List Nat,vs=[.ref t,.ref lp]∧dO K H t v.items∧H lp=some (.lst (aA ps))∧(∀z,v=.th z→0≤z∧z < (ps.length:Int))∧∀(x:V) (H':Hp),ak H H'→c_ K H' x (pF ps v)→Q x H'
theorem X0 (T:Txt K mg a):aU P w K mg base cC 1 a.yV a.yW ["_law_value_here","_law_places"] (Kf K):=by
 refine T.pw.ok VI (fun vs H Q E h=>?_) (fun bL A outer s H vs Q E hr h=>?_)
 ·obtain⟨_,_,_,_,rfl,_⟩:=h
  rfl
 ·obtain⟨t,lp,v,ps,rfl,ht,hlp,hz,q⟩:=h
  refine⟨_,(ag (cO (aH cX (aG dy (pv 0) aq (fun _ _=>rfl)) aT (aQ _)) (ah (aE (dg (aa aT (aa (aG ay (pv 1) (aG dy (pv 0) aq (fun _ _=>rfl)) (fun _ _=>rfl)) af))))) bB) (ah (aE (pv 0)))),?_⟩
  dsimp! []
  refine⟨t,_,_,_,rfl,rfl,ht,v.hd,rfl,?_⟩
  cases v with
  | no=>exact dH (q _ _ (.refl _) ⟨t,rfl,ht⟩)
  | num z=>exact dH (q _ _ (.refl _) ⟨t,rfl,ht⟩)
  | th z=>
   obtain⟨z0,z1⟩:=hz z rfl
   obtain⟨zi,ez⟩:∃zi:Nat,z=(zi:Int):=⟨z.toNat,by omega⟩
   subst ez
   have hzi:zi < ps.length:=by omega
   have e1:ps.getD zi 0=ps[zi]:=by rw [List.getD_eq_getElem?_getD,List.getElem?_eq_getElem hzi]; rfl
   have e2:qm (aA ps) (zi:Int)=some (V.int (ps.getD zi 0:Nat)):=bp (by
    unfold aA
    rw [List.getElem?_map,List.getElem?_map,List.getElem?_eq_getElem hzi,e1]
    rfl)
   exact e9 ⟨t,_,_,V.int (zi:Int),rfl,rfl,ht,rfl,lp,_,_,_,rfl,rfl,aF.of hlp,e2,by simp [sizeLine_eq],fun p hp=>q _ _ (ak.put hp) ⟨p,rfl,dO.of ae⟩⟩
theorem Bq:¬(Str.ofString "weak"=Str.ofString "pair")∧¬(Str.ofString "pair"=Str.ofString "weak"):=⟨by decide +kernel,by decide +kernel⟩
noncomputable def Nfl (H:Hp) (N N':List Gn):Prop:=∀n'∈N',(∃n∈N,n.fl=n'.fl)∨H n'.fl=none
theorem RS.free {H H':Hp}{lr:Addr}{N N':List Gn}(h:RS K H' lr N') (e:fq N'=fq N) (k:Kp (fq N) H H'):∀b,H' b=none→H b=none:=fun b hb=>by
 cases eb:H b with
 | none=>rfl
 | some u=>
  by_cases z:fq N b
  ·rw [←e] at z
   rcases h.mu b z with ⟨_,y⟩ | ⟨_,y⟩ <;> (rw [hb] at y; cases y)
  ·rw [k _ _ z eb] at hb
   cases hb
noncomputable def X1 (K:PySem.W.Frag):Sp:=fun vs H Q _=>∃N lr ls,∃sm:List Nat,vs=[.ref lr,.ref ls]∧RS K H lr N∧N.length≤24∧fu N∧H ls=some (.lst (aA sm))∧sm.Nodup∧(∀k∈sm,k < N.length) ∧
 ∀(g g0 g1:Addr) (N':List Gn) (H':Hp),Kp (fq N) H H'→H g=none→H g0=none→H g1=none→H' g=some (.lst [.ref g0,.ref g1])→H' g0=some (.lst (aA (sm.filter (gf N sm sW))))→H' g1=some (.lst (aA (sm.filter (gf N sm sP))))→RS K H' lr N'→pP N N' (zG N sm)→Nfl H N N'→Q (.ref g) H'
noncomputable def IK1 (N:List Gn) (sm:List Nat) (lr ls g g0 g1:Addr) (H:Hp) (i:Nat) (σ:List (Option V)) (H2:Hp):Prop:=∃(o3:Option V),σ=[some (.ref lr),some (.ref ls),some (.ref g),o3]∧ak H H2∧H2 g=some (.lst [.ref g0,.ref g1])∧H2 g0=some (.lst (aA ((sm.take i).filter (gf N sm sW))))∧H2 g1=some (.lst (aA ((sm.take i).filter (gf N sm sP))))
noncomputable def IK2 (K:PySem.W.Frag) (N:List Gn) (A B:List Nat) (lr ls g g0 g1 lc:Addr) (H:Hp) (i:Nat) (σ:List (Option V)) (H4:Hp):Prop:=∃(o3:Option V) (N2:List Gn),σ=[some (.ref lr),some (.ref ls),some (.ref g),o3]∧Kp (fq N) H H4∧H4 lc=some (.lst (aA (A++B)))∧H4 g=some (.lst [.ref g0,.ref g1])∧H4 g0=some (.lst (aA A))∧H4 g1=some (.lst (aA B))∧RS K H4 lr N2∧pP N N2 (fun k t=>if k∈(A++B).take i then t.nul else t)∧Nfl H N N2
theorem Kg (T:Txt K mg a):aU P w K mg base cC 1 a.yR a.yS ["_law_rows","_law_some"] (X1 K):=by
 refine T.mG.ok tW (fun vs H Q E h=>?_) (fun bL A outer s H vs Q E hr h=>?_)
 ·obtain⟨_,_,_,_,rfl,_⟩:=h
  rfl
 ·obtain⟨N,lr,ls,sm,rfl,h,Bd,nN,hls,Jl,fo,q⟩:=h
  refine⟨_,(ag (aN (i:=2) tW.nd rfl (Or.inl rfl) (bD (aa (bD af) (aa (bD af) af)))) (ag (bM PassesOwn.never rfl (bg (pv 1)) (a7 (i:=3) tW.nd rfl (Or.inl rfl)) aw) aw)),?_⟩
  dsimp! []
  refine fun g0 Zd g1 X2=>⟨by simp [sizeLine_eq],fun g hg=>?_⟩
  have s1:=ak.put (o:=.lst []) Zd
  have s2:=s1.trans (ak.put (o:=.lst []) X2)
  have s3:=s2.trans (ak.put (o:=.lst [V.ref g0,V.ref g1]) hg)
  have abj:H g1=none:=s1.free X2
  have hgn:H g=none:=s2.free hg
  have n01:g0≠g1:=ao ae X2
  have e0:upd (upd H g0 (.lst [])) g1 (.lst []) g0=some (.lst []):=by rw [ai n01,ae]
  have e1:upd (upd H g0 (.lst [])) g1 (.lst []) g1=some (.lst []):=ae
  have n0g:g0≠g:=ao e0 hg
  have n1g:g1≠g:=ao e1 hg
  have e0:=ak.put (o:=.lst [V.ref g0,V.ref g1]) hg _ _ e0
  have e1:=ak.put (o:=.lst [V.ref g0,V.ref g1]) hg _ _ e1
  have eg:upd (upd (upd H g0 (.lst [])) g1 (.lst [])) g (.lst [V.ref g0,V.ref g1]) g=some (.lst [V.ref g0,V.ref g1]):=ae
  generalize upd (upd (upd H g0 (.lst [])) g1 (.lst [])) g (.lst [V.ref g0,V.ref g1])=H1 at s3 e0 e1 eg
  clear s1 s2 X2 hg
  have hsl:sm.length≤24:=by
   have:=uj (m:=List.range N.length) Jl fun k hk=>List.mem_range.mpr (fo k hk)
   rw [List.length_range] at this
   omega
  refine⟨⟨_,aF.of (s3 _ _ hls)⟩,dw (aA sm) (IK1 N sm lr ls g g0 g1 H) ⟨_,rfl,s3,eg,e0,e1⟩ ?_ ?_ ?_⟩
  ·rintro i σ H2 _ ⟨o3,rfl,s2,_⟩
   exact aF.of (s2 _ _ hls)
  ·rintro i x σ H2 hx ⟨o3,rfl,s2,Lr,Es,lA⟩
   obtain⟨k,hk,rfl⟩:=n8 hx
   have vA:=fo k (List.mem_of_getElem? hk)
   obtain⟨n,en⟩:∃n,N[k]=n:=⟨_,rfl⟩
   have hn:N[k]?=some n:=by rw [List.getElem?_eq_getElem vA,en]
   have fV:=List.mem_of_getElem? hn
   have h2:=h.same s2
   have bS:=h2.ok n fV
   obtain⟨fx,A4,sM,zx⟩:=bS.EU
   refine gN ?_
   refine a6.of (ah (cO (PW.pt (eZ (aH rz (aG ay (aG ay (pv 0) (pv 3) (fun _ _=>rfl)) aq (fun _ _=>rfl)) aT (aQ _)) (eZ (aH cX (aG dy (aG ay (aG ay (aG ay (pv 0) (pv 3) (fun _ _=>rfl)) aq (fun _ _=>rfl)) aq (fun _ _=>rfl)) aq (fun _ _=>rfl)) aT (aQ _)) (gp (aH gu (aG dy (aG ay (aG ay (aG ay (pv 0) (pv 3) (fun _ _=>rfl)) aq (fun _ _=>rfl)) aq (fun _ _=>rfl)) aq (fun _ _=>rfl)) (pv 1) (by with_unfolding_all rfl)))))) (ah (aV (jh PySem.F.plainAttrs_list PySem.F.slot_list_append PySem.F.type_list_append dj (aG ay (pv 2) (dX Dm rfl T.CQ Ua (aa (fE cX (aG ay (aG ay (pv 0) (pv 3) (fun _ _=>rfl)) aq (fun _ _=>rfl)) aT (aQ _)) af)) (fun _ _=>rfl)) (aa (pv 3) af)))) bB)) ?_
   dsimp! []
   have hbk:∀s,gf N sm s k=(decide (n.t.sort=s)&&Nt sm n.t):=fun s=>by
    unfold gf
    rw [hn]
    rfl
   have Ze:∀s,(sm.take (i+1)).filter (gf N sm s)=(sm.take i).filter (gf N sm s)++if gf N sm s k=true then [k] else []:=fun s=>by
    rw [List.take_add_one,hk,List.filter_append]
    congr 1
    show List.filter _ [k]=_
    rw [List.filter_cons,List.filter_nil]
   have fW:Nt sm n.t=false∨n.t.sort="plain"→IK1 N sm lr ls g g0 g1 H (i+1) [some (.ref lr),some (.ref ls),some (.ref g),some (.int (k:Nat))] H2:=fun z=>by
    have no:∀s:Str,¬s="plain"→¬gf N sm s k=true:=fun s hs y=>by
     rw [hbk,Bool.and_eq_true] at y
     rcases z with z | z
     ·rw [z] at y
      exact Bool.false_ne_true y.2
     ·exact hs ((of_decide_eq_true y.1).symm.trans z)
    refine⟨_,rfl,s2,Lr,?_,?_⟩
    ·rw [Ze,if_neg (no sW AS),List.append_nil]
     exact Es
    ·rw [Ze,if_neg (no sP ub),List.append_nil]
     exact lA
   have A7:∀{Q:VK},Q (.ref n.ra) H2→Ar K (V.ref lr) (V.int (k:Int)) H2 Q:=fun q=>⟨lr,_,_,_,rfl,rfl,aF.of h2.hr,h2.at_ hn,q⟩
   have hso:∀{Q:VK},Q (.str n.t.sort) H2→Ar K (V.ref n.ra) (V.int 0) H2 Q:=fun q=>⟨n.ra,_,_,_,rfl,rfl,aF.of bS.row,rfl,q⟩
   have hfi:∀{Q:VK},Q (.ref n.fl) H2→Ar K (V.ref n.ra) (V.int 1) H2 Q:=fun q=>⟨n.ra,_,_,_,rfl,rfl,aF.of bS.row,rfl,q⟩
   refine A7 (hso ⟨rfl,mP (fun hp=>?_) fun hp=>fW (.inr ?_)⟩)
   ·have jX:¬n.t.sort="plain":=fun z=>by
     rw [z] at hp
     simp at hp
    obtain⟨f,rest,qy⟩:∃f rest,n.t.fs=f::rest:=by
     cases ht:n.t with
     | plain fs w=>exact absurd (by rw [ht]; rfl) jX
     | weak f=>exact⟨f,[],rfl⟩
     | pair k v=>exact⟨k,[v],rfl⟩
    obtain⟨x0,xr,rfl⟩:∃x0 xr,fx=x0::xr:=by
     have:=sM.1
     rw [qy] at this
     cases fx with
     | nil=>cases this
     | cons x xr=>exact⟨x,xr,rfl⟩
    obtain⟨tf,rfl,htf⟩:=sM.2 0 x0 f rfl (by rw [qy]; rfl)
    have hf0:∀{Q:VK},Q (.ref tf) H2→Ar K (V.ref n.fl) (V.int 0) H2 Q:=fun q=>⟨n.fl,_,_,_,rfl,rfl,aF.of A4,bp (j:=0) rfl,q⟩
    refine A7 (hfi (hf0 ⟨tf,_,_,_,rfl,rfl,htf,f.hd,rfl,?_⟩))
    cases f with
    | no=>exact dH (fW (.inl (by unfold Nt; rw [qy])))
    | num z=>exact dH (fW (.inl (by unfold Nt; rw [qy])))
    | th z=>
     have hz:=nN n fV z (by rw [qy]; exact List.mem_cons_self)
     obtain⟨zi,ez⟩:∃zi:Nat,z=(zi:Int):=⟨z.toNat,by omega⟩
     subst ez
     have hbn:Nt sm n.t=!decide (zi∈sm):=by
      unfold Nt
      rw [qy]
      rfl
     refine e9 (A7 (hfi (hf0 ⟨tf,_,_,V.int (zi:Int),rfl,rfl,htf,rfl,ls,_,rfl,.inl (aF.of (s2 _ _ hls)),rfl,fh sm,_,rfl,?_⟩)))
     rw [if_pos rfl,iu]
     by_cases jq:zi∈sm
     ·rw [decide_eq_true jq] at hbn ⊢
      exact dH (fW (.inl hbn))
     ·rw [decide_eq_false jq] at hbn ⊢
      refine e9 (A7 (hso ⟨rfl,?_⟩))
      have hll:∀s,(aA ((sm.take i).filter (gf N sm s))).length≤1000:=fun s=>by
       rw [bK]
       have h1:=List.length_filter_le (gf N sm s) (sm.take i)
       rw [List.length_take] at h1
       omega
      have app:∀l:List Nat,aA l++[V.int (k:Nat)]=aA (l++[k]):=fun l=>by
       unfold aA
       rw [List.map_append,List.map_append]
       rfl
      by_cases Ng:n.t.sort=sP
      ·rw [if_pos (decide_eq_true (by rw [Ng]))]
       refine⟨g,_,_,V.ref g1,rfl,rfl,aF.of Lr,rfl,.inl ⟨rfl,_,aF.of lA⟩,g1,_,_,rfl,rfl,lA,a5 (hll sP),_,rfl,s2.putD abj,?_,?_,?_⟩
       ·rw [ai n1g.symm]
        exact Lr
       ·rw [ai n01,Ze,if_neg (by rw [hbk,Ng]; simp [Bq]),List.append_nil]
        exact Es
       ·rw [ae,Ze,if_pos (by rw [hbk,Ng,hbn]; simp),app]
      ·have hw:n.t.sort=sW:=by
        cases ht:n.t with
        | plain fs w=>exact absurd (by rw [ht]; rfl) jX
        | weak f=>rfl
        | pair k v=>exact absurd (by rw [ht]; rfl) Ng
       rw [if_neg (by rw [hw]; simp [Bq])]
       refine⟨g,_,_,V.ref g0,rfl,rfl,aF.of Lr,rfl,.inl ⟨rfl,_,aF.of Es⟩,g0,_,_,rfl,rfl,Es,a5 (hll sW),_,rfl,s2.putD Zd,?_,?_,?_⟩
       ·rw [ai n0g.symm]
        exact Lr
       ·rw [ae,Ze,if_pos (by rw [hbk,hw,hbn]; simp),app]
       ·rw [ai n01.symm,Ze,if_neg (by rw [hbk,hw]; simp [Bq]),List.append_nil]
        exact lA
   ·cases hd:decide (V.str n.t.sort=V.str (Str.ofString "plain"))with
    | true=>
     have:=of_decide_eq_true hd
     injection this
    | false=>rw [hd] at hp; exact absurd rfl hp
  ·rintro σ H2 ⟨o3,rfl,s2,Lr,Es,lA⟩
   refine a6.of (ag (bM PassesOwn.never rfl (bg (aL kd (aG ay (pv 2) aq (fun _ _=>rfl)) (aG ay (pv 2) aq (fun _ _=>rfl)))) (a7 (i:=3) tW.nd rfl (Or.inl rfl)) aw) aw) ?_
   dsimp! []
   rw [bK,List.take_length] at Es lA
   obtain⟨A,eA⟩:∃A,sm.filter (gf N sm sW)=A:=⟨_,rfl⟩
   obtain⟨B,eB⟩:∃B,sm.filter (gf N sm sP)=B:=⟨_,rfl⟩
   have hcg:∀k,(k∈sm.filter (gf N sm sW)∨k∈sm.filter (gf N sm sP))↔k∈A++B:=fun k=>by rw [eA,eB,List.mem_append]
   have hlW:∀k∈A++B,k < N.length:=fun k hk=>by
    rcases (hcg k).mpr hk with z | z <;> exact fo k (List.mem_filter.mp z).1
   have hll:A.length+B.length≤48:=by
    have h1:=List.length_filter_le (gf N sm sW) sm
    have h3:=List.length_filter_le (gf N sm sP) sm
    rw [eA] at h1
    rw [eB] at h3
    omega
   rw [eA] at Es
   rw [eB] at lA
   rw [eA,eB] at q
   refine⟨g,_,_,V.ref g0,rfl,rfl,aF.of Lr,rfl,g,_,_,V.ref g1,rfl,rfl,aF.of Lr,rfl,g0,g1,_,_,rfl,rfl,aF.of Es,aF.of lA,by rw [bK,bK]; exact Nat.le_of_lt (a5 (by omega)),fun lc vy=>?_⟩
   rw [iX]
   have s3:=ak.put (o:=.lst (aA (A++B))) vy
   have MY:upd H2 lc (.lst (aA (A++B))) lc=some (.lst (aA (A++B))):=ae
   have h3:=h.same (s2.trans s3)
   have hg3:=s3 _ _ Lr
   have h03:=s3 _ _ Es
   have ET:=s3 _ _ lA
   have k3:Kp (fq N) H (upd H2 lc (.lst (aA (A++B)))):=ak.kp (s2.trans s3)
   generalize upd H2 lc (.lst (aA (A++B)))=H3 at s3 MY h3 hg3 h03 ET k3
   clear s3 vy Lr Es lA
   refine⟨lc,rfl,⟨_,aF.of MY⟩,dw (aA (A++B)) (IK2 K N A B lr ls g g0 g1 lc H) ⟨_,N,rfl,k3,MY,hg3,h03,ET,h3,pP.refl N fun i t=>if_neg (by simp),fun n hn=>.inl ⟨n,hn,rfl⟩⟩ ?_ ?_ ?_⟩
   ·rintro i σ H4 _ ⟨o3,N2,rfl,_,A6,_⟩
    exact aF.of A6
   ·rintro i x σ H4 hx ⟨o3,N2,rfl,k4,A6,RE,h04,ES,h4,u4,f4⟩
    obtain⟨k,hk,rfl⟩:=n8 hx
    have vA:k < N2.length:=by rw [u4.len]; exact hlW k (List.mem_of_getElem? hk)
    obtain⟨n,en⟩:∃n,N2[k]=n:=⟨_,rfl⟩
    have hn:N2[k]?=some n:=by rw [List.getElem?_eq_getElem vA,en]
    have fV:=List.mem_of_getElem? hn
    have bS:=h4.ok n fV
    obtain⟨fx,A4,sM,zx⟩:=bS.EU
    refine gN ?_
    refine a6.of (ah (jv (aL Av (bD (aa (dg (aa aT af)) af)) (bh a9 rfl T.dI dr (aa (aG ay (aG ay (pv 0) (pv 3) (fun _ _=>rfl)) aq (fun _ _=>rfl)) af))) (og (aG ay (pv 0) (pv 3) (fun _ _=>rfl)) aq set_list))) ?_
    dsimp! []
    refine⟨by simp [sizeLine_eq],fun tn htn=>⟨by simp [sizeLine_eq],fun ln hln=>?_⟩⟩
    have s5:=(ak.put (o:=.tup [V.str "nothing"]) htn).trans (ak.put (o:=.lst [V.ref tn]) hln)
    have abk:upd (upd H4 tn (.tup [V.str "nothing"])) ln (.lst [V.ref tn]) tn=some (.tup [V.str "nothing"]):=(ak.put (o:=.lst [V.ref tn]) hln) _ _ ae
    have abl:upd (upd H4 tn (.tup [V.str "nothing"])) ln (.lst [V.ref tn]) ln=some (.lst [V.ref tn]):=ae
    generalize upd (upd H4 tn (.tup [V.str "nothing"])) ln (.lst [V.ref tn])=H5 at s5 abk abl
    have h5:=h4.same s5
    refine⟨lr,_,_,_,rfl,rfl,aF.of h5.hr,h5.at_ hn,n.ra,_,_,_,rfl,rfl,aF.of (h5.ok n fV).row,rfl,n.fl,rfl,_,.inl (aF.of (s5 _ _ A4)),ln,_,_,rfl,rfl,abl,by omega,by omega,by rw [Int.toNat_natCast,List.length_singleton,Nat.one_mul]; exact Nat.le_of_lt (a5 (by omega)),fun fl sL=>?_⟩
    rw [Int.toNat_natCast,uk]
    have s6:=ak.put (o:=.lst (List.replicate fx.length (V.ref tn))) sL
    have vE:=s5.trans s6
    have JD:upd H5 fl (.lst (List.replicate fx.length (V.ref tn))) fl=some (.lst (List.replicate fx.length (V.ref tn))):=ae
    have abm:=s6 _ _ abk
    generalize upd H5 fl (.lst (List.replicate fx.length (V.ref tn)))=H6 at s6 vE JD abm
    have h6:=h4.same vE
    have enl:n.t.nul.fs.length=fx.length:=by
     rw [n.t.cW.2.2,List.length_map]
     exact sM.1
    have El:eC K H6 (List.replicate fx.length (V.ref tn)) n.t.nul.fs:=by
     rw [←enl]
     refine eC.nos ⟨tn,rfl,dO.of abm⟩ fun v hv=>?_
     rw [n.t.cW.2.2] at hv
     obtain⟨_,_,e⟩:=List.mem_map.mp hv
     exact e.symm
    obtain⟨h7,k7⟩:=h6.put (H':=upd H6 n.ra (.lst [.str n.t.sort,.ref fl,wV n.t.words,.int n.num])) (n':=⟨n.ra,fl,n.t.nul,n.num⟩) hn rfl JD El (by rw [List.length_replicate]; exact zx) (by rw [n.t.cW.1,n.t.cW.2.1])
    refine⟨lr,_,_,_,rfl,rfl,aF.of h6.hr,h6.at_ hn,n.ra,_,_,1,rfl,rfl,(h6.ok n fV).row,rfl,?_⟩
    have eR:fq N2=fq N:=u4.fq
    refine⟨_,_,rfl,(k4.trans (ak.kp vE)).trans (by rw [←eR]; exact k7),k7 _ _ (h6.nats (vE _ _ A6)) (vE _ _ A6),k7 _ _ (h6.refs (ns:=[g0,g1]) (vE _ _ RE)) (vE _ _ RE),k7 _ _ (h6.nats (vE _ _ h04)) (vE _ _ h04),k7 _ _ (h6.nats (vE _ _ ES)) (vE _ _ ES),h7,?_,fun m hm=>?_⟩
    rotate_left
    ·rcases List.mem_or_eq_of_mem_set hm with hm | rfl
     ·exact f4 m hm
     ·exact .inr (h4.free eR k4 _ (s5.free sL))
    refine u4.set hn rfl (fun t e=>?_) fun j t hj=>?_
    ·rw [if_pos (by rw [List.take_add_one,hk]; simp)]
     show _=n.t.nul
     rw [←e]
     split
     ·rw [Nu]
     ·rfl
    ·rw [List.take_add_one,hk]
     show(if j∈List.take i (A++B)++[k] then _ else _)=_
     by_cases z:j∈List.take i (A++B)
     ·rw [if_pos z,if_pos (List.mem_append_left _ z)]
     ·rw [if_neg z,if_neg fun y=>?_]
      rcases List.mem_append.mp y with y | y
      ·exact z y
      ·exact hj (List.mem_singleton.mp y)
   ·rintro σ H4 ⟨o3,N2,rfl,k4,A6,RE,h04,ES,h4,u4,f4⟩
    refine a6.of (ah (aE (pv 2))) ?_
    dsimp! []
    rw [bK,List.take_length] at u4
    refine q g g0 g1 N2 H4 k4 hgn Zd abj RE h04 ES h4 ⟨u4.ra,fun i n n' a b=>?_⟩ f4
    rw [u4.at_ i n n' a b]
    unfold zG
    by_cases z:i∈A++B
    ·rw [if_pos z,if_pos ((hcg i).mpr z)]
    ·rw [if_neg z,if_neg fun y=>z ((hcg i).mp y)]
theorem qE {X:Cx}{K:PySem.W.Frag}(h:X.K=K):j8 X (compareOp .NotIn) (rIn K true):=by
 subst h
 exact gu
structure NL (H:Hp) (ls:List Addr) (us:List (List Nat)):Prop where
 len:ls.length=us.length
 at_:∀(i:Nat) l u,ls[i]?=some l→us[i]?=some u→H l=some (.lst (aA u))
theorem NL.nil (H:Hp):NL H [] []:=⟨rfl,fun i l u h=>by simp at h⟩
theorem NL.cons {H:Hp}{l:Addr}{u:List Nat}{ls:List Addr}{us:List (List Nat)}(h1:H l=some (.lst (aA u))) (h:NL H ls us):NL H (l::ls) (u::us):=⟨by rw [List.length_cons,List.length_cons,h.len],fun i l' u' a b=>by
 cases i with
 | zero=>
  cases a
  cases b
  exact h1
 | succ i=>exact h.at_ i l' u' a b⟩
theorem NL.hd {H:Hp}{l:Addr}{u:List Nat}{ls:List Addr}{us:List (List Nat)}(h:NL H (l::ls) (u::us)):H l=some (.lst (aA u))∧NL H ls us:=⟨h.at_ 0 l u rfl rfl,by have:=h.len; rwa [List.length_cons,List.length_cons,Nat.add_right_cancel_iff] at this,fun i l' u' a b=>h.at_ (i+1) l' u' a b⟩
theorem NL.kp {S:Addr→Prop}{H H':Hp}{ls:List Addr}{us:List (List Nat)}(h:NL H ls us) (k:Kp S H H') (n:∀l∈ls,¬S l):NL H' ls us:=⟨h.len,fun i l u a b=>k _ _ (n l (List.mem_of_getElem? a)) (h.at_ i l u a b)⟩
theorem NL.same {H H':Hp}{ls:List Addr}{us:List (List Nat)}(h:NL H ls us) (k:ak H H'):NL H' ls us:=⟨h.len,fun i l u a b=>k _ _ (h.at_ i l u a b)⟩
theorem NL.get {H:Hp}{ls:List Addr}{us:List (List Nat)}(h:NL H ls us) {l:Addr}(hl:l∈ls):∃u,H l=some (.lst (aA u)):=by
 obtain⟨i,hi⟩:=List.getElem?_of_mem hl
 have:i < us.length:=by rw [←h.len]; exact(List.getElem?_eq_some_iff.mp hi).1
 exact⟨_,h.at_ i l _ hi (List.getElem?_eq_getElem this)⟩
theorem NL.Ec {H:Hp}{ls:List Addr}{us:List (List Nat)}{lr:Addr}{N:List Gn}(h:NL H ls us) (r:RS K H lr N):∀l∈ls,¬fq N l:=fun l hl=>by
 obtain⟨u,e⟩:=h.get hl
 exact r.nats e
structure Xp (N:List Gn) (sm U1 U2:List Nat) (N1 N2 N3:List Gn):Prop where
 c1:Clo N sm U1
 u1:pP N N1 (zG N U1)
 u2:pP N1 N2 (Bo N1 U1)
 c2:Clo N2 (U1++dN N1 U1) U2
 u3:pP N2 N3 (zG N2 U2)
noncomputable def Zf (N N1 N2:List Gn) (U1 U2:List Nat):List (List Nat):=[U1,U1.filter (gf N U1 sW),U1.filter (gf N U1 sP),dN N1 U1,U2,U2.filter (gf N2 U2 sW),U2.filter (gf N2 U2 sP)]
noncomputable def X3 (K:PySem.W.Frag):Sp:=fun vs H Q _=>∃N lr ld hd xs hs,∃sm:List Nat,vs=[.ref lr,.ref ld,.ref hd]∧RS K H lr N∧N.length≤24∧fu N∧H ld=some (.lst (aA sm))∧sm.Nodup∧(∀k∈sm,k < N.length)∧H hd=some (.lst xs)∧lC K H xs hs∧hs.length≤24∧hd≠lr∧(∀n∈N,n.ra≠hd∧n.fl≠hd) ∧
 ∀(r:Addr) (ls:List Addr) (U1 U2:List Nat) (N1 N2 N3:List Gn) (vv:List V) (H':Hp),Kp (fun b=>fq N b∨b=hd) H H'→H r=none→(∀l∈ls,H l=none)→H' r=some (.lst (ls.map V.ref))→NL H' ls (Zf N N1 N2 U1 U2)→Xp N sm U1 U2 N1 N2 N3→RS K H' lr N3→Nfl H N N3→H' hd=some (.lst vv)→lC K H' vv (hs++(dN N1 U1).map fun k=>(k,Bk N1 k))→Q (.ref r) H'
noncomputable def IX1 (K:PySem.W.Frag) (N N1:List Gn) (U1 dl:List Nat) (hs:List (Nat×Int)) (lr ld hd D1 g g0 g1 D:Addr) (H:Hp) (i:Nat) (σ:List (Option V)) (H4:Hp):Prop:=∃(o6:Option V) (N2:List Gn) (uC:List V),σ=[some (.ref lr),some (.ref ld),some (.ref hd),some (.ref D1),some (.ref g),some (.ref D),o6,none,none]∧Kp (fun b=>fq N b∨b=hd) H H4∧H4 g=some (.lst [.ref g0,.ref g1])∧NL H4 [D1,g0,g1,D] [U1,U1.filter (gf N U1 sW),U1.filter (gf N U1 sP),dl]∧RS K H4 lr N2∧pP N1 N2 (fun k t=>if k∈dl.take i then t.JH else t)∧N2.map Gn.fl=N1.map Gn.fl∧H4 hd=some (.lst uC)∧lC K H4 uC (hs++(dl.take i).map fun k=>(k,Bk N1 k))
theorem X4 (T:Txt K mg a):aU P w K mg base cC 4 a.yT a.yU ["_law_rows","_law_dark","_law_heard"] (X3 K):=by
 refine T.pq.ok jy (fun vs H Q E h=>?_) (fun bL A outer s H vs Q E hr h=>?_)
 ·obtain⟨_,_,_,_,_,_,_,rfl,_⟩:=h
  rfl
 ·obtain⟨N,lr,ld,hd,xs,hs,sm,rfl,h,Bd,nN,hld,Jl,fo,Lu,hHr,hhs,nhr,nhn,q⟩:=h
  refine⟨_,(ag (aN (i:=3) jy.nd rfl (Or.inr rfl) (aD (JS T) (hr.mono (by decide)) rfl T.IU T.mF.kp T.IT .nil ar (aa (pv 0) (aa (pv 1) af)))) (ag (aN (i:=4) jy.nd rfl (Or.inl rfl) (aD (Kg T) (hr.mono (by decide)) rfl T.IW T.mG.kp T.IV .nil ar (aa (pv 0) (aa (pv 3) af)))) (ag (hJ (j:=5) rfl jy.nd rfl rfl (gw (x:="_law_k") (ns:=["_law_kept","_law_rows"]) (fr:=[3,0]) rfl (by decide +kernel) rfl (by decide +kernel) rfl (List.forall_mem_cons.mpr ⟨rfl,List.forall_mem_cons.mpr ⟨rfl,List.forall_mem_nil _⟩⟩) rfl rfl (List.forall_mem_cons.mpr ⟨⟨rfl,rfl,.inl rfl⟩,List.forall_mem_cons.mpr ⟨⟨rfl,rfl,.inl rfl⟩,List.forall_mem_nil _⟩⟩) (by decide +kernel)) (cG rfl T.cF (aa (bh a9 rfl T.dI dr (aa (pv 0) af)) af)) (fun _ _ _ _=>(pv 0)) (fun _ _ _ _=>(.one (PW.pt (eZ (aH (qE (K:=K) rfl) (pv 0) (pv 1) (by with_unfolding_all rfl)) (gp (aH gq (aG (fZ (K:=K) rfl) (aG (fZ (K:=K) rfl) (pv 2) (pv 0) (fun _ _=>rfl)) aq (fun _ _=>rfl)) dc (aQ _)))))))) (ag (bM PassesOwn.never rfl (bg (pv 5)) (a7 (i:=6) jy.nd rfl (Or.inl rfl)) aw) aw)))),?_⟩
  dsimp! []
  refine⟨N,lr,ld,sm,rfl,h.hr,h.ok,nN,Bd,hld,Jl,fo,fun D1 ns1 V1 H1 s1 hD1 Nx J0 hs1 abn cn1=>?_⟩
  obtain⟨U1,rfl,C1⟩:=C5 J0 hs1 abn cn1
  clear J0 hs1 abn cn1
  have h1:=h.same s1
  refine⟨N,lr,D1,U1,rfl,h1,Bd,nN,Nx,C1.st.nd,C1.st.lt,fun g g0 g1 N1 H2 k2 hg Zd X2 abo Es lA h2 u1 f1=>?_⟩
  have l1:N1.length≤24:=by rw [u1.len]; exact Bd
  have agB:fu N1:=nN.up u1 (uG N U1)
  have L2:NL H2 [D1,g0,g1] [U1,U1.filter (gf N U1 sW),U1.filter (gf N U1 sP)]:=.cons (k2 _ _ (h1.nats Nx) Nx) (.cons Es (.cons lA (.nil _)))
  have fr2:∀l∈[D1,g0,g1],H l=none:=fun l hl=>by
   simp only [List.mem_cons,List.not_mem_nil,or_false] at hl
   rcases hl with rfl | rfl | rfl
   ·exact hD1
   ·exact s1.free Zd
   ·exact s1.free X2
  have hgH:H g=none:=s1.free hg
  have k02:Kp (fq N) H H2:=(ak.kp s1).trans k2
  have dm2:∀b,H2 b=none→H b=none:=fun b hb=>s1.free (h2.free u1.fq k2 b hb)
  have Ec:∀b∈N.map Gn.ra,b≠hd:=fun b hb=>by
   obtain⟨n,hn,rfl⟩:=List.mem_map.mp hb
   exact(nhn n hn).1
  have abp:H2 hd=some (.lst xs):=k02 _ _ (fun z=>Ec _ z rfl) Lu
  have J8:lC K H2 xs hs:=hHr.kc k02 fun b z=>.inl (h.mu b z)
  have Xj:∀n∈N1,n.fl≠hd:=fun n hn z=>by
   rcases f1 n hn with ⟨m,hm,e⟩ | e
   ·exact(nhn m hm).2 (e.trans z)
   ·rw [z,s1 _ _ Lu] at e
    cases e
  have f1':Nfl H N N1:=fun n hn=>(f1 n hn).imp id fun e=>s1.free e
  clear hD1 Nx Es lA Zd X2 hg k2 h1 f1
  refine⟨_,.inl (aF.of h2.hr),by rw [List.length_map]; omega,by rw [List.length_map]; omega,fun D hD=>?_⟩
  rw [List.length_map]
  obtain⟨dF,edF⟩:∃dF:Nat→Bool,dF=fun k=>!decide (k∈U1)&&(((N1[k]?).map fun n=>n.t.words.isSome).getD false):=⟨_,rfl⟩
  have edN:dN N1 U1=(List.range N1.length).filter dF:=by rw [edF]; rfl
  refine ZT (fun i ys H3=>H3=upd H2 D (.lst ys)∧ys=aA ((List.range i).filter dF)) ⟨rfl,rfl⟩ ?_ ?_
  ·rintro i m ys H3 hm hi ⟨rfl,rfl⟩
   have s3:=ak.put (o:=.lst (aA ((List.range i).filter dF))) hD
   have h3:=h2.same s3
   obtain⟨n,en⟩:∃n,N1[i]=n:=⟨_,rfl⟩
   have hn:N1[i]?=some n:=by rw [List.getElem?_eq_getElem hi,en]
   have er:(List.range (i+1)).filter dF=(List.range i).filter dF++if dF i=true then [i] else []:=by
    rw [List.range_succ,List.filter_append,List.filter_cons,List.filter_nil]
   have ll:(aA ((List.range i).filter dF)).length≤1000:=by
    rw [bK]
    have:=List.length_filter_le dF (List.range i)
    rw [List.length_range] at this
    omega
   have ed:dF i=(!decide (i∈U1)&&n.t.words.isSome):=by rw [edF]; show(_&&((N1[i]?).map _).getD false)=_; rw [hn]; rfl
   have skip:dF i=false→Cs (fun i ys H3=>H3=upd H2 D (.lst ys)∧ys=aA ((List.range i).filter dF)) N1.length (m+1) i (upd H2 D (.lst (aA ((List.range i).filter dF)))):=fun z=>Cs.mk hm ⟨rfl,by rw [er,z,if_neg Bool.false_ne_true,List.append_nil]⟩
   dsimp! [aP,Option.join_some,Int.zero_add]
   refine⟨D1,_,rfl,.inl (aF.of (s3 _ _ L2.hd.1)),rfl,fh U1,_,rfl,?_⟩
   rw [if_pos rfl,iu]
   by_cases jq:i∈U1
   ·rw [decide_eq_true jq]
    exact dH (skip (by rw [ed,decide_eq_true jq]; rfl))
   ·rw [decide_eq_false jq]
    refine e9 ⟨lr,_,_,_,rfl,rfl,aF.of h3.hr,h3.at_ hn,n.ra,_,_,_,rfl,rfl,aF.of (h3.ok n (List.mem_of_getElem? hn)).row,rfl,?_⟩
    cases hw:n.t.words with
    | none=>exact dH (skip (by rw [ed,hw,Bool.and_comm]; rfl))
    | some wd=>
     refine e9 (qz.mk hm ae ll ⟨jY,?_⟩)
     rw [er,if_pos (by rw [ed,decide_eq_false jq,hw]; rfl),←iX]
     rfl
  ·rintro ys H3 ⟨rfl,rfl⟩
   rw [←edN]
   have s3:=ak.put (o:=.lst (aA (dN N1 U1))) hD
   have vB:upd H2 D (.lst (aA (dN N1 U1))) D=some (.lst (aA (dN N1 U1))):=ae
   generalize upd H2 D (.lst (aA (dN N1 U1)))=H3 at s3 vB
   obtain⟨dl,Ny⟩:∃dl,dN N1 U1=dl:=⟨_,rfl⟩
   have L3:NL H3 [D1,g0,g1,D] [U1,U1.filter (gf N U1 sW),U1.filter (gf N U1 sP),dl]:=.cons (s3 _ _ L2.hd.1) (.cons (s3 _ _ L2.hd.2.hd.1) (.cons (s3 _ _ L2.hd.2.hd.2.hd.1) (.cons (by rw [vB,Ny]) (.nil _))))
   have B_:∀l∈[D1,g0,g1,D],H l=none:=fun l hl=>by
    simp only [List.mem_cons,List.not_mem_nil,or_false] at hl
    rcases hl with z | z | z | rfl
    ·exact fr2 l (by simp [z])
    ·exact fr2 l (by simp [z])
    ·exact fr2 l (by simp [z])
    ·exact dm2 _ hD
   have h3:=h2.same s3
   have agC:=s3 _ _ abp
   have agD:=J8.same s3
   have agE:=s3 _ _ abo
   have k03:Kp (fun b=>fq N b∨b=hd) H H3:=(k02.trans (ak.kp s3)).mono fun b z=>.inl z
   have Rb:∀k∈dl,k < N1.length∧k∉U1∧∃n wd,N1[k]?=some n∧n.t.words=some wd∧Bk N1 k=wd:=fun k hk=>by
    rw [←Ny,edN,List.mem_filter,List.mem_range,edF,Bool.and_eq_true] at hk
    obtain⟨h5,h6,h7⟩:=hk
    rw [List.getElem?_eq_getElem h5] at h7
    obtain⟨wd,ew⟩:=Option.isSome_iff_exists.mp (show N1[k].t.words.isSome=true from h7)
    refine⟨h5,fun z=>?_,_,wd,List.getElem?_eq_getElem h5,ew,?_⟩
    ·rw [decide_eq_true z] at h6
     cases h6
    ·unfold Bk
     rw [List.getElem?_eq_getElem h5]
     show N1[k].t.words.getD 0=wd
     rw [ew]
     rfl
   have aiH:dl.length≤24:=by
    rw [←Ny,edN]
    have:=List.length_filter_le dF (List.range N1.length)
    rw [List.length_range] at this
    omega
   have abq:dl.Pairwise (· < ·):=by rw [←Ny]; exact uF _ _
   rw [Ny] at vB
   clear s3 hD L2 fr2 abo abp J8
   refine⟨⟨_,aF.of vB⟩,dw (aA dl) (IX1 K N N1 U1 dl hs lr ld hd D1 g g0 g1 D H) ⟨_,N1,xs,rfl,k03,agE,L3,h3,pP.refl N1 fun i t=>if_neg (by simp),rfl,agC,by simpa using agD⟩ ?_ ?_ ?_⟩
   ·rintro i σ H4 _ ⟨o6,N2,uC,rfl,_,_,L4,_⟩
    exact aF.of L4.hd.2.hd.2.hd.2.hd.1
   ·rintro i x σ H4 hx ⟨o6,N2,uC,rfl,k4,RE,L4,h4,u4,ef4,Kh,Ki⟩
    obtain⟨k,hk,rfl⟩:=n8 hx
    obtain⟨hk1,A5,n1,wd,Rl,hwd,hwr⟩:=Rb k (List.mem_of_getElem? hk)
    obtain⟨n,hn,hnt⟩:=u4.get Rl
    have fV:=List.mem_of_getElem? hn
    refine gN ?_
    refine a6.of (ag (aV (jh PySem.F.plainAttrs_list PySem.F.slot_list_append PySem.F.type_list_append dj (pv 2) (aa (dg (aa (pv 6) (aa (aG ay (aG ay (pv 0) (pv 6) (fun _ _=>rfl)) aq (fun _ _=>rfl)) af))) af))) (ah (jv dc (og (aG ay (pv 0) (pv 6) (fun _ _=>rfl)) aq set_list)))) ?_
    dsimp! []
    have oi:k∉dl.take i:=fun z=>by
     obtain⟨j,hj⟩:=List.getElem?_of_mem z
     rw [List.getElem?_take] at hj
     split at hj
     ·rename_i Ry
      obtain⟨a1,a2⟩:=List.getElem?_eq_some_iff.mp hj
      obtain⟨b1,b2⟩:=List.getElem?_eq_some_iff.mp hk
      have:=List.pairwise_iff_getElem.mp abq j i a1 b1 Ry
      omega
     ·cases hj
    rw [if_neg oi] at hnt
    have ewd:wV n.t.words=V.int wd:=by
     rw [hnt,hwd]
     rfl
    refine⟨.inl ⟨rfl,_,aF.of Kh⟩,lr,_,_,_,rfl,rfl,aF.of h4.hr,h4.at_ hn,n.ra,_,_,_,rfl,rfl,aF.of (h4.ok n fV).row,rfl,by simp [sizeLine_eq],fun ta XS=>?_⟩
    rw [ewd]
    have s5:=ak.put (o:=.tup [V.int (k:Nat),V.int wd]) XS
    have abr:upd H4 ta (.tup [V.int (k:Nat),V.int wd]) ta=some (.tup [V.int (k:Nat),V.int wd]):=ae
    generalize upd H4 ta (.tup [V.int (k:Nat),V.int wd])=H5 at s5 abr
    have abt:=s5 _ _ Kh
    have Mh:uC.length≤48:=by
     rw [Ki.1,List.length_append,List.length_map,List.length_take]
     omega
    refine⟨hd,uC,V.ref ta,rfl,rfl,abt,a5 (by omega),?_⟩
    have k6:Kp (·=hd) H5 (upd H5 hd (.lst (uC++[V.ref ta]))):=(Kp.refl _ _).set rfl
    have Nz:upd H5 hd (.lst (uC++[V.ref ta])) hd=some (.lst (uC++[V.ref ta])):=ae
    have cg6:∀b,b=hd→Cg H5 b:=fun b z=>.inl (.inl ⟨uC,by rw [z]; exact abt⟩)
    have eR:fq N2=fq N:=u4.fq.trans u1.fq
    have h6:=(h4.same s5).kp k6 cg6 nhr.symm fun m hm=>⟨fun z=>?_,fun z=>?_⟩
    rotate_left
    ·have eN:fq N2 m.ra:=List.mem_map.mpr ⟨m,hm,rfl⟩
     rw [eR] at eN
     exact Ec _ eN z
    ·have eN:m.fl∈N2.map Gn.fl:=List.mem_map.mpr ⟨m,hm,rfl⟩
     rw [ef4] at eN
     obtain⟨m1,hm1,e⟩:=List.mem_map.mp eN
     exact Xj m1 hm1 (e.trans z)
    have abu:lC K (upd H5 hd (.lst (uC++[V.ref ta]))) (uC++[V.ref ta]) ((hs++(dl.take i).map fun k=>(k,Bk N1 k))++[(k,wd)]):=lC.snoc (h:=(k,wd)) ((Ki.same s5).kc k6 cg6) (k6.Ep cg6 (dO.of abr))
    have Zg:∀b,H b=none→b≠hd:=fun b hb z=>by
     rw [z,Lu] at hb
     cases hb
    have L6:=(L4.same s5).kp k6 fun l hl=>Zg l (B_ l hl)
    have Zh:=k6 _ _ (Zg g hgH) (s5 _ _ RE)
    have k06:=(k4.trans (ak.kp s5)).trans (k6.mono (S':=fun b=>fq N b∨b=hd) fun b z=>.inr z)
    generalize upd H5 hd (.lst (uC++[V.ref ta]))=H6 at k6 Nz h6 abu L6 Zh k06
    obtain⟨fx,agF,El,zx⟩:=(h6.ok n fV).EU
    obtain⟨h7,k7⟩:=h6.put (H':=upd H6 n.ra (.lst [.str n.t.sort,.ref n.fl,V.bf,.int n.num])) (n':=⟨n.ra,n.fl,n.t.JH,n.num⟩) hn rfl agF (by show eC K H6 fx n.t.JH.fs; rw [n.t.eE.2.2]; exact El) zx (by rw [n.t.eE.1,n.t.eE.2.1]; rfl)
    refine⟨lr,_,_,_,rfl,rfl,aF.of h6.hr,h6.at_ hn,n.ra,_,_,2,rfl,rfl,(h6.ok n fV).row,rfl,?_⟩
    have Rv:dl.take (i+1)=dl.take i++[k]:=by
     rw [List.take_add_one,hk]
     rfl
    refine⟨_,_,_,rfl,k06.trans (k7.mono fun b z=>.inl (by rw [←eR]; exact z)),k7 _ _ (h6.refs (ns:=[g0,g1]) Zh) Zh,L6.kp k7 (L6.Ec h6),h7,?_,?_,k7 _ _ (fun z=>Ec hd (by rw [eR] at z; exact z) rfl) Nz,?_⟩
    ·refine u4.set hn rfl (fun t e=>?_) fun j t hj=>?_
     ·rw [Rv,if_pos (by simp)]
      show _=n.t.JH
      rw [←e,if_neg oi]
     ·rw [Rv]
      by_cases z:j∈List.take i dl
      ·rw [if_pos z,if_pos (List.mem_append_left _ z)]
      ·rw [if_neg z,if_neg fun y=>?_]
       rcases List.mem_append.mp y with y | y
       ·exact z y
       ·exact hj (List.mem_singleton.mp y)
    ·rw [←ef4,List.map_set]
     refine List.ext_getElem? fun j=>?_
     rw [List.getElem?_set]
     split
     ·rename_i z
      subst z
      rw [List.getElem?_map,hn,if_pos (by rw [List.length_map]; exact(List.getElem?_eq_some_iff.mp hn).1)]
      rfl
     ·rfl
    ·rw [Rv,List.map_append,←List.append_assoc]
     show lC K _ _ (_++[(k,Bk N1 k)])
     rw [hwr]
     exact abu.kc k7 fun b z=>.inl (h6.mu b z)
   ·rintro σ H4 ⟨o6,N2,uC,rfl,k4,RE,L4,h4,u4,ef4,Kh,Ki⟩
    refine a6.of (ag (aN (i:=7) jy.nd rfl (Or.inl rfl) (aD (JS T) (hr.mono (by decide)) rfl T.IU T.mF.kp T.IT .nil ar (aa (pv 0) (aa (aL kd (pv 3) (pv 5)) af)))) (ag (aN (i:=8) jy.nd rfl (Or.inl rfl) (aD (Kg T) (hr.mono (by decide)) rfl T.IW T.mG.kp T.IV .nil ar (aa (pv 0) (aa (pv 7) af)))) (ah (aE (@bD _ _ _ _ (@aa _ _ _ _ _ (pv 3) (@aa _ _ _ _ _ (aG ay (pv 4) aq (fun _ _=>rfl)) (@aa _ _ _ _ _ (aG ay (pv 4) aq (fun _ _=>rfl)) (@aa _ _ _ _ _ (pv 5) (@aa _ _ _ _ _ (pv 7) (@aa _ _ _ _ _ (aG ay (pv 8) aq (fun _ _=>rfl)) (@aa _ _ _ _ _ (aG ay (pv 8) aq (fun _ _=>rfl)) af rfl) rfl) rfl) rfl) rfl) rfl) rfl)))))) ?_
    dsimp! []
    rw [bK,List.take_length] at u4 Ki
    have u4':pP N1 N2 (Bo N1 U1):=⟨u4.ra,fun i n n' a b=>by
     rw [u4.at_ i n n' a b]
     unfold Bo
     rw [Ny]⟩
    have eR:fq N2=fq N:=u4.fq.trans u1.fq
    have hU1:=C1.st.lt
    have hlU:U1.length≤24:=Nat.le_trans C1.st.len Bd
    have l2:N2.length≤24:=by rw [u4.len]; exact l1
    have abv:fu N2:=agB.up u4' (Bp N1 U1)
    refine⟨D1,D,_,_,rfl,rfl,aF.of L4.hd.1,aF.of L4.hd.2.hd.2.hd.2.hd.1,by rw [bK,bK]; exact Nat.le_of_lt (a5 (by omega)),fun lc vy=>?_⟩
    rw [iX]
    have s5:=ak.put (o:=.lst (aA (U1++dl))) vy
    have h5:=h4.same s5
    refine⟨N2,lr,lc,U1++dl,rfl,h5.hr,h5.ok,abv,l2,ae,?_,?_,fun D5 ns5 V5 H6 s6 vC X5 hp5 hs5 abw cn5=>?_⟩
    ·exact List.nodup_append.mpr ⟨C1.st.nd,abq.imp fun {x y} z e=>by omega,fun x hx y hy e=>(Rb y hy).2.1 (by rw [←e]; exact hx)⟩
    ·intro k hk
     rw [u4.len]
     rcases List.mem_append.mp hk with hk | hk
     ·rw [u1.len]
      exact hU1 k hk
     ·exact(Rb k hk).1
    obtain⟨U2,rfl,C2⟩:=C5 hp5 hs5 abw cn5
    clear hp5 hs5 abw cn5
    have h6:=h5.same s6
    have vE:=s5.trans s6
    have XU:H4 D5=none:=s5.free vC
    clear h5 s5
    refine⟨N2,lr,D5,U2,rfl,h6,l2,abv,X5,C2.st.nd,C2.st.lt,fun t t0 t1 N3 H7 k7 ht ht0 Xw abx h07 h17 h7 u7 f7=>?_⟩
    have L6:=L4.same vE
    have L7:=L6.kp k7 (L6.Ec h6)
    have Zh:=vE _ _ RE
    have hg7:=k7 _ _ (h6.refs (ns:=[g0,g1]) Zh) Zh
    have agG:=k7 _ _ (h6.nats X5) X5
    have dm4:∀b,H4 b=none→H b=none:=fun b hb=>by
     cases e:H b with
     | none=>rfl
     | some u=>
      by_cases z:fq N b∨b=hd
      ·rcases z with z | z
       ·rw [←eR] at z
        rcases h4.mu b z with ⟨_,y⟩ | ⟨_,y⟩ <;> (rw [hb] at y; cases y)
       ·rw [z,Kh] at hb
        cases hb
      ·rw [k4 _ _ z e] at hb
       cases hb
    have dm6:∀b,H6 b=none→H b=none:=fun b hb=>dm4 b (vE.free hb)
    have dm7:∀b,H7 b=none→H b=none:=fun b hb=>dm6 b (h7.free u7.fq k7 b hb)
    refine⟨g,_,_,V.ref g0,rfl,rfl,aF.of hg7,rfl,g,_,_,V.ref g1,rfl,rfl,aF.of hg7,rfl,t,_,_,V.ref t0,rfl,rfl,aF.of abx,rfl,t,_,_,V.ref t1,rfl,rfl,aF.of abx,rfl,by simp [sizeLine_eq],fun r hr=>?_⟩
    have s8:=ak.put (o:=.lst [V.ref D1,V.ref g0,V.ref g1,V.ref D,V.ref D5,V.ref t0,V.ref t1]) hr
    have Nz:=vE _ _ Kh
    have agH:¬fq N2 hd:=fun z=>Ec hd (by rw [eR] at z; exact z) rfl
    refine q r [D1,g0,g1,D,D5,t0,t1] U1 U2 N1 N2 N3 uC _ ?_ (dm7 _ hr) (fun l hl=>?_) ae ?_ ⟨C1,u1,u4',by rw [Ny]; exact C2,u7⟩ (h7.same s8) (fun n hn=>?_) (s8 _ _ (k7 _ _ agH Nz)) (by rw [Ny]; exact((Ki.same vE).kc k7 fun b z=>.inl (h6.mu b z)).same s8)
    ·exact((k4.trans (ak.kp vE)).trans (k7.mono fun b z=>.inl (by rw [←eR]; exact z))).trans (ak.kp s8)
    ·simp only [List.mem_cons,List.not_mem_nil,or_false] at hl
     rcases hl with rfl | rfl | rfl | rfl | rfl | rfl | rfl
     ·exact B_ _ (by simp)
     ·exact B_ _ (by simp)
     ·exact B_ _ (by simp)
     ·exact B_ _ (by simp)
     ·exact dm4 _ XU
     ·exact dm6 _ ht0
     ·exact dm6 _ Xw
    ·have L8:=L7.same s8
     unfold Zf
     rw [Ny]
     exact .cons L8.hd.1 (.cons L8.hd.2.hd.1 (.cons L8.hd.2.hd.2.hd.1 (.cons L8.hd.2.hd.2.hd.2.hd.1 (.cons (s8 _ _ agG) (.cons (s8 _ _ h07) (.cons (s8 _ _ h17) (.nil _)))))))
    ·rcases f7 n hn with ⟨m,hm,e⟩ | e
     ·have eN:m.fl∈N2.map Gn.fl:=List.mem_map.mpr ⟨m,hm,rfl⟩
      rw [ef4] at eN
      obtain⟨m1,hm1,e2⟩:=List.mem_map.mp eN
      rw [←e,←e2]
      exact f1' m1 hm1
     ·exact .inr (dm6 _ e)
noncomputable def vD (v:Vl):D:=.tup (v.items.map fD)
theorem c_.Et {H:Hp}{x:V}{v:Vl}(h:c_ K H x v):gQ K H x (vD v):=by
 obtain⟨t,rfl,ht⟩:=h
 refine .PM ht fun x hx=>?_
 cases v with
 | no=>
  rw [List.mem_singleton.mp hx]
  rfl
 | num n=>
  simp only [Vl.items,List.mem_cons,List.not_mem_nil,or_false] at hx
  rcases hx with rfl | rfl <;> rfl
 | th n=>
  simp only [Vl.items,List.mem_cons,List.not_mem_nil,or_false] at hx
  rcases hx with rfl | rfl <;> rfl
theorem X6 (v:Vl):(vD v).dep=1:=by rw [vD,D.dep,iP]
theorem uH:∀vl:List Vl,dP (vl.map vD)≤1
 | []=>by rw [List.map_nil,dP]; exact Nat.zero_le _
 | v::vl=>by
  rw [List.map_cons,dP,X6]
  have:=uH vl
  omega
theorem eC.Et {H:Hp}{l:Addr}{xs:List V}{vl:List Vl}(h:aF K H l xs) (hv:eC K H xs vl):gQ K H (.ref l) (.lst (vl.map vD)):=by
 refine .lst h (by rw [List.length_map]; exact hv.1.symm) fun i x d hx hd=>?_
 rw [List.getElem?_map] at hd
 cases e:vl[i]? with
 | none=>rw [e] at hd; cases hd
 | some v=>
  rw [e] at hd
  cases hd
  exact(hv.2 i x v hx e).Et
theorem NA (w:Option Int):fF (wV w)=true:=by cases w <;> rfl
theorem NB (vl:List Vl):(D.lst (vl.map vD)).dep≤60:=by
 rw [D.dep]
 have:=uH vl
 omega
noncomputable def gD (n:Gn):D:=.lst [.str n.t.sort,.lst (n.t.fs.map vD),fD (wV n.t.words),.int n.num]
theorem Gn.ok.Et {H:Hp}{n:Gn}(h:n.ok K H):gQ K H (.ref n.ra) (gD n):=by
 obtain⟨fx,h1,h2,h3⟩:=h.EU
 refine .lst (aF.of h.row) rfl fun i x d hx hd=>?_
 match i,hx,hd with
 | 0,hx,hd=>
  cases hx
  cases hd
  exact .str _
 | 1,hx,hd=>
  cases hx
  cases hd
  exact eC.Et (aF.of h1) h2
 | 2,hx,hd=>
  cases hx
  cases hd
  exact .flat (NA _)
 | 3,hx,hd=>
  cases hx
  cases hd
  exact .int _
theorem X7 (n:Gn):(gD n).dep≤3:=by
 have:=uH n.t.fs
 have e:(fD (wV n.t.words)).dep=0:=by
  cases n.t.words <;> rfl
 unfold gD
 simp only [D.dep,dP,e]
 omega
theorem C8:∀N:List Gn,dP (N.map gD)≤3
 | []=>by rw [List.map_nil,dP]; exact Nat.zero_le _
 | n::N=>by
  rw [List.map_cons,dP]
  have:=C8 N
  have:=X7 n
  omega
theorem MS.lists {S:Addr→Prop}{H H':Hp}{M:MA}{k gd:Addr}{E:List (Nat×En)}{G:List Nat}(h:MS a K H M k gd E G) (s:Kp S H H') (hl:∀b,S b→∃xs,H b=some (.lst xs)) (n1:∀b,S b→¬M.own b∧M.lb≠b):MS a K H' M k gd E G:=by
 obtain⟨dx,h1⟩:=h.ob
 refine⟨h.tm.off s (fun b e=>.inl (hl b e)) (fun z=>(n1 _ z).2 rfl) fun b hb z=>(n1 b z).1 hb,⟨dx,s _ _ (fun z=>?_) h1⟩,s _ _ (fun z=>?_) h.di,h.no,h.gm,h.nd⟩
 ·obtain⟨xs,e⟩:=hl _ z
  rw [e] at h1
  cases h1
 ·obtain⟨xs,e⟩:=hl _ z
  have:=h.di
  rw [e] at this
  cases this
theorem Kj (N:List Gn):bw (D.lst (N.map gD)) (D.lst (([]:List V).map fD))=N.isEmpty:=by
 cases N <;> simp [bw,iY]
theorem agI {K:PySem.W.Frag}{a D:Addr}{fr:List Nat}{tt:TT}{te:TE}{σ:St}{Q:Hp→Prop}{H:Hp}(xs:List V) (Pv:Nat→List V→Hp→Prop) (h0:Pv 0 [] H) (hl:∀i ys H,i≤xs.length→Pv i ys H→aF K H a xs)
  (hs:∀i m x ys H,m+1+i=xs.length→xs[i]?=some x→Pv i ys H→∃t va vb,x=.ref t∧dO K H t [va,vb]∧tt (bF fr σ (some va) (some vb)) H fun b H3=>if b=true then te (bF fr σ (some va) (some vb)) H3 (qz D Pv xs.length (m+1) i)else Cs Pv xs.length (m+1) i H3)
  (hq:∀ys H,Pv xs.length ys H→Q H):kh K (EM K a) fr tt te σ D Q H:=by
 refine⟨fun i m H2=>m+i=xs.length∧∃ys,Pv i ys H2,⟨xs.length,rfl,[],h0⟩,?_⟩
 rintro i m H2 ⟨hm,ys,hp⟩
 have hS:=hl i ys H2 (by omega) hp
 cases m with
 | zero=>
  have e:i=xs.length:=by omega
  subst e
  exact .inl ⟨⟨xs,hS,Nat.le_refl _⟩,hq ys H2 hp⟩
 | succ m=>
  have hi:i < xs.length:=by omega
  refine .inr ⟨⟨xs,xs[i],hS,List.getElem?_eq_getElem hi⟩,fun v H' y=>?_⟩
  obtain⟨rfl,hv⟩:=y
  exact hs i m v ys H' hm (hv xs hS) hp
theorem NW.ve {ps:List Nat}{E:List (Nat×En)}{N:List Gn}(h:NW ps E N) (hc:fu N):VE E:=fun p e he n hn=>by
 obtain⟨i,hi⟩:=List.getElem?_of_mem he
 obtain⟨m,hm⟩:=h.row hi
 obtain⟨_,r2⟩:=h.nm.rel i _ _ hi hm
 have r2:e.t.fs=m.t.fs.map (pF ps):=r2
 rw [r2] at hn
 obtain⟨v,hv,ev⟩:=List.mem_map.mp hn
 cases v with
 | no=>cases ev
 | num z=>cases ev
 | th z=>
  have hz:=hc _ (List.mem_of_getElem? hm) z hv
  have ev:Vl.th ((ps.getD z.toNat 0:Nat):Int)=Vl.th n:=ev
  injection ev with ev
  refine⟨_,ev.symm,?_⟩
  rw [h.nm.fst,List.getD_eq_getElem?_getD,List.getElem?_eq_getElem (by rw [h.nm.Np]; omega)]
  exact List.getElem_mem _
structure LK (a:cN) (K:PySem.W.Frag) (H:Hp) (M:MA) (km gd lr lp:Addr) (ps:List Nat) (N:List Gn) (E:List (Nat×En)) (G:List Nat):Prop where
 ms:MS a K H M km gd E G
 rs:RS K H lr N
 hp:H lp=some (.lst (aA ps))
 nw:NW ps E N
 bc:BC E G
 t1:JN a H
 t2:TbD a H
section
variable {H H':Hp}{M:MA}{km gd lr lp:Addr}{ps:List Nat}{N:List Gn}{E E':List (Nat×En)}{G G':List Nat}
theorem LK.same (h:LK a K H M km gd lr lp ps N E G) (k:ak H H'):LK a K H' M km gd lr lp ps N E G:=
 ⟨h.ms.same k,h.rs.same k,k _ _ h.hp,h.nw,h.bc,h.t1.same k,h.t2.same k⟩
theorem LK.cg (h:LK a K H M km gd lr lp ps N E G):∀b,(M.own b∨b=gd)→Cg H b:=fun b z=>by
 rcases z with z | rfl
 ·exact .inl (h.ms.tm.mu b z)
 ·exact .inl (.inr ⟨_,h.ms.di⟩)
theorem LK.ntb (h:LK a K H M km gd lr lp ps N E G) {b:Addr}{qs:Array Value}(e:H b=some (.dS qs)):¬(M.own b∨b=gd):=fun z=>by
 rcases z with z | rfl
 ·rcases h.ms.tm.mu b z with ⟨_,e2⟩ | ⟨_,e2⟩ <;> (rw [e] at e2; cases e2)
 ·have:=h.ms.di
  rw [e] at this
  cases this
theorem LK.next (h:LK a K H M km gd lr lp ps N E G) (nS:∀b∈da lr lp N,¬(M.own b∨b=gd)) (k:Kp (fun b=>M.own b∨b=gd) H H') (ms:MS a K H' M km gd E' G') (st:bC E'=bC E) (bc:BC E' G'):LK a K H' M km gd lr lp ps N E' G':=by
 obtain⟨p1,e1⟩:=h.t1.dS
 obtain⟨p2,e2⟩:=h.t2.dS
 exact⟨ms,h.rs.kp k h.cg (nS _ List.mem_cons_self) fun n hn=>⟨nS _ (fQ hn),nS _ (lR hn)⟩,k _ _ (nS _ (List.mem_cons_of_mem _ List.mem_cons_self)) h.hp,h.nw.rel st,bc,Tb.kc h.t1 k h.cg (h.ntb e1),Tb.kc h.t2 k h.cg (h.ntb e2)⟩
theorem LK.none_ (h:LK a K H M km gd lr lp ps N E G) {b:Addr}(hb:H b=none):¬(M.own b∨b=gd):=fun z=>by
 rcases h.cg b z with (⟨_,e⟩ | ⟨_,e⟩) | ⟨_,e⟩ <;> (rw [hb] at e; cases e)
theorem LK.at_ (h:LK a K H M km gd lr lp ps N E G) {i:Nat}{p:Nat×En}(hp:E[i]?=some p):qm (aA ps) (i:Int)=some (V.int (p.1:Nat)):=bp (by
 unfold aA
 rw [←h.nw.nm.fst,List.getElem?_map,List.getElem?_map,List.getElem?_map,hp]
 rfl)
end
theorem LK.kJ {H:Hp}{M:MA}{km gd lr lp:Addr}{ps:List Nat}{N:List Gn}{E:List (Nat×En)}{G:List Nat}(h:LK a K H M km gd lr lp ps N E G):∀b∈da lr lp N,∃xs,H b=some (.lst xs):=fun b hb=>by
 rcases List.mem_cons.mp hb with rfl | hb
 ·exact⟨_,h.rs.hr⟩
 rcases List.mem_cons.mp hb with rfl | hb
 ·exact⟨_,h.hp⟩
 rcases List.mem_append.mp hb with hb | hb
 ·obtain⟨n,hn,rfl⟩:=List.mem_map.mp hb
  exact⟨_,(h.rs.ok n hn).row⟩
 ·obtain⟨n,hn,rfl⟩:=List.mem_map.mp hb
  obtain⟨fx,h1,_⟩:=(h.rs.ok n hn).EU
  exact⟨fx,h1⟩
theorem i0.lists {S:Addr→Prop}{H H':Hp}{M:MA}{km gd hl:Addr}{E:List (Nat×En)}{G:List Nat}{hs:List (Nat×Int)}(h:i0 a K H M km gd hl E G hs) (k:Kp S H H') (hS:∀b,S b→∃xs,H b=some (.lst xs)) (n1:∀b,S b→¬M.own b∧M.lb≠b) (n2:¬S hl):i0 a K H' M km gd hl E G hs:=by
 have cg:∀b,S b→Cg H b:=fun b z=>.inl (.inl (hS b z))
 have no:∀qs b,H b=some (.dS qs)→¬S b:=fun qs b e z=>by
  obtain⟨xs,e2⟩:=hS b z
  rw [e] at e2
  cases e2
 obtain⟨xs,e,e2⟩:=h.hr
 obtain⟨p1,e1⟩:=h.t1.dS
 obtain⟨p2,e3⟩:=h.t2.dS
 exact⟨h.ms.lists k hS n1,⟨xs,k _ _ n2 e,e2.kc k cg⟩,h.nh,Tb.kc h.t1 k cg (no _ _ e1),Tb.kc h.t2 k cg (no _ _ e3)⟩
noncomputable abbrev kN (ps:List Nat) (hs:List (Nat×Int)):List (Nat×Int):=hs.map fun h=>(ps.getD h.1 0,h.2)
theorem C9 {H:Hp}{D lp hd:Addr}{σ:St}{xs:List V}{hs:List (Nat×Int)}{ps:List Nat}{Q:Hp→Prop}(hD:H D=none) (hx:H hd=some (.lst xs)) (hr:lC K H xs hs) (hp:H lp=some (.lst (aA ps))) (fo:∀h∈hs,h.1 < ps.length) (hlen:hs.length≤100) (hσ:(σ[4]?).join=some (.ref lp))
  (q:∀(ys:List V) (H':Hp),ak H H'→H' D=some (.lst ys)→lC K H' ys (kN ps hs)→Q H'):kh K (EM K hd) [4] (fun _ H Q=>Q true H) (LQ (j9 (LL (Ar K) (n_ 2) (n_ 0)) (j9 (n_ 1) tH))) σ D Q (upd H D (.lst [])):=by
 refine agI xs (fun i ys H9=>ak H H9∧H9 D=some (.lst ys)∧lC K H9 ys (kN ps (hs.take i))) ⟨.put hD,ae,rfl,fun i x h e=>by simp at e⟩ (fun i ys H9 _ z=>aF.of (z.1 _ _ hx)) ?_ ?_
 ·rintro i m x ys H9 hm hxi ⟨s9,Lv,RF⟩
  have hi:=(List.getElem?_eq_some_iff.mp hxi).1
  have hih:i < hs.length:=by rw [←hr.1]; exact hi
  have hhi:hs[i]?=some hs[i]:=List.getElem?_eq_getElem hih
  obtain⟨t,rfl,ht⟩:=hr.2 i x _ hxi hhi
  refine⟨t,_,_,rfl,s9.Dx ht,e9 ?_⟩
  have d_:=fo _ (List.mem_of_getElem? hhi)
  obtain⟨p,ep⟩:∃p,hs[i]=p:=⟨_,rfl⟩
  rw [ep] at hhi d_
  rw [ep]
  have eat:qm (aA ps) (p.1:Int)=some (V.int (ps.getD p.1 0:Nat)):=bp (by
   unfold aA
   rw [List.getElem?_map,List.getElem?_map,List.getD_eq_getElem?_getD,List.getElem?_eq_getElem d_]
   rfl)
  dsimp! [bF,hσ,LQ,j9,LL,n_,tH]
  refine⟨lp,_,_,_,rfl,rfl,aF.of (s9 _ _ hp),eat,by simp [sizeLine_eq],fun ta XS=>?_⟩
  have Cm:=ak.put (o:=.tup [V.int (ps.getD p.1 0:Nat),V.int p.2]) XS
  have RG:upd H9 ta (.tup [V.int (ps.getD p.1 0:Nat),V.int p.2]) ta=some (.tup [V.int (ps.getD p.1 0:Nat),V.int p.2]):=ae
  generalize upd H9 ta (.tup [V.int (ps.getD p.1 0:Nat),V.int p.2])=Aa at Cm RG
  have Kk:=Cm _ _ Lv
  have kD:Kp (·=D) Aa (upd Aa D (.lst (ys++[V.ref ta]))):=(Kp.refl _ _).set rfl
  have cg:∀b,b=D→Cg Aa b:=fun b z=>.inl (.inl ⟨ys,by rw [z]; exact Kk⟩)
  have hyl:ys.length≤1000:=by
   rw [RF.1]
   unfold kN
   rw [List.length_map,List.length_take]
   omega
  refine qz.mk hm Kk hyl ⟨(s9.trans Cm).putD hD,ae,?_⟩
  have e1:kN ps (hs.take (i+1))=kN ps (hs.take i)++[(ps.getD p.1 0,p.2)]:=by
   unfold kN
   rw [List.take_add_one,hhi,List.map_append]
   rfl
  rw [e1]
  exact lC.snoc (h:=(ps.getD p.1 0,p.2)) ((RF.same Cm).kc kD cg) (kD.Ep cg (dO.of RG))
 ·rintro ys H9 ⟨s9,Lv,RF⟩
  rw [hr.1,List.take_length] at RF
  exact q ys H9 s9 Lv RF
structure OL (H:Hp) (ls:List Addr) (us:List (List Nat)):Prop where
 len:ls.length=us.length
 at_:∀(i:Nat) l u,ls[i]?=some l→us[i]?=some u→H l=some (.lst (lT u))
theorem OL.nil (H:Hp):OL H [] []:=⟨rfl,fun i l u h=>by simp at h⟩
theorem OL.cons {H:Hp}{l:Addr}{u:List Nat}{ls:List Addr}{us:List (List Nat)}(h1:H l=some (.lst (lT u))) (h:OL H ls us):OL H (l::ls) (u::us):=⟨by rw [List.length_cons,List.length_cons,h.len],fun i l' u' a b=>by
 cases i with
 | zero=>
  cases a
  cases b
  exact h1
 | succ i=>exact h.at_ i l' u' a b⟩
theorem OL.same {H H':Hp}{ls:List Addr}{us:List (List Nat)}(h:OL H ls us) (k:ak H H'):OL H' ls us:=⟨h.len,fun i l u a b=>k _ _ (h.at_ i l u a b)⟩
noncomputable def oD (us:List (List Nat)):D:=.tup (.str "turn"::us.map fun u=>.lst ((lT u).map fD))
theorem OL.Et {H:Hp}{t:Addr}{ls:List Addr}{us:List (List Nat)}(h:OL H ls us) (ht:dO K H t (.str "turn"::ls.map V.ref)):gQ K H (.ref t) (oD us):=by
 refine .tup ht (by rw [List.length_cons,List.length_cons,List.length_map,List.length_map,h.len]) fun i x d hx hd=>?_
 cases i with
 | zero=>
  cases hx
  cases hd
  exact .str _
 | succ i=>
  rw [List.getElem?_cons_succ,List.getElem?_map] at hx hd
  cases e1:ls[i]? with
  | none=>rw [e1] at hx; cases hx
  | some l=>
   cases e2:us[i]? with
   | none=>rw [e2] at hd; cases hd
   | some u=>
    rw [e1] at hx
    rw [e2] at hd
    cases hx
    cases hd
    exact .mj (aF.of (h.at_ i l u e1 e2)) (dn _)
theorem X8 (us:List (List Nat)):(oD us).dep≤60:=by
 unfold oD
 rw [D.dep,dP]
 have e0:(D.str "turn").dep=0:=rfl
 rw [e0]
 have:∀us:List (List Nat),dP (us.map fun u=>D.lst ((lT u).map fD))≤1:=fun us=>by
  induction us with
  | nil=>rw [List.map_nil,dP]; exact Nat.zero_le _
  | cons u us ih=>
   rw [List.map_cons,dP,D.dep,iP]
   omega
 have:=this us
 omega
noncomputable def hD (h:Nat×Int):D:=.tup ([V.int (h.1:Nat),V.int h.2].map fD)
theorem lC.Et {H:Hp}{l:Addr}{xs:List V}{hs:List (Nat×Int)}(h:lC K H xs hs) (hl:aF K H l xs):gQ K H (.ref l) (.lst (hs.map hD)):=by
 refine .lst hl (by rw [List.length_map]; exact h.1) fun i x d hx hd=>?_
 rw [List.getElem?_map] at hd
 cases e:hs[i]? with
 | none=>rw [e] at hd; cases hd
 | some p=>
  rw [e] at hd
  cases hd
  obtain⟨t,rfl,ht⟩:=h.2 i x p hx e
  exact .PM ht (fun x hx=>by
   simp only [List.mem_cons,List.not_mem_nil,or_false] at hx
   rcases hx with rfl | rfl <;> rfl)
theorem X9 (hs:List (Nat×Int)):(D.lst (hs.map hD)).dep≤60:=by
 rw [D.dep]
 have:∀hs:List (Nat×Int),dP (hs.map hD)≤1:=fun hs=>by
  induction hs with
  | nil=>rw [List.map_nil,dP]; exact Nat.zero_le _
  | cons h hs ih=>
   rw [List.map_cons,dP,hD,D.dep,iP]
   omega
 have:=this hs
 omega
theorem C_ (E:List (Nat×En)):eY (jG E)=eY E:=by
 unfold eY
 rw [pQ]
 refine List.filter_congr fun i _=>?_
 cases e:E[i]? with
 | none=>
  rw [lS,lS,e]
  rfl
 | some p=>
  rw [C6 e]
  show(if _ then _ else p:Nat×En).2.bR=p.2.bR
  split <;> rfl
theorem NC {H:Hp}{ps U1 U2:List Nat}{N N1 N2 N3:List Gn}{E E1 E6 ts:List (Nat×En)}{l1 l2 l3 l4 l5 l6 l7:Addr}(h:NW ps E N) (hc:fu N) (X:Xp N (eY E) U1 U2 N1 N2 N3) (r1:Rel E E1) (c1:Cl E1 fun p=>cJ E1 p=true) (hp:ts.Perm ((jG E1).filter dE)) (hs:ts.Pairwise fun p q=>p.2.bJ≤q.2.bJ) (r6:Rel (iy (jG E1)) E6) (c6:Cl E6 fun p=>cJ E6 p=true)
  (L1:Ls H l1 (eo E1 fun p=>p.2.bR)) (L2:Ls H l2 (eo E1 (bl E1 sW))) (L3:Ls H l3 (eo (iU E1 sW) (bl (iU E1 sW) sP))) (L4:Ls H l4 (ts.map fun p=>p.2.bJ)) (L5:Ls H l5 (eo E6 fun p=>p.2.bR)) (L6:Ls H l6 (eo E6 (bl E6 sW))) (L7:Ls H l7 (eo (iU E6 sW) (bl (iU E6 sW) sP))) :
  NW ps (jG E6) N3∧Bh ts=(dN N1 U1).map (fun k=>(ps.getD k 0,Bk N1 k))∧eY (jG E6)=U2∧OL H [l1,l2,l3,l4,l5,l6,l7] (Zf N N1 N2 U1 U2):=by
 have nA:=h.rel r1.st
 have e1:eY E1=U1:=lt_eq (Bm _) X.c1.lt (JV h.nm nA.nm hc r1 c1 X.c1.st X.c1.cn)
 have nB:=nA.clean hc (by rw [e1]; exact X.u1)
 have eB:eY (jG E1)=U1:=(C_ E1).trans e1
 have nC:=nB.due (by rw [eB]; exact X.u2)
 have nD:=nC.rel r6.st
 have LZ:fu N2:=(hc.up X.u1 (uG _ _)).up X.u2 (Bp _ _)
 have e2:eY E6=U2:=lt_eq (Bm _) X.c2.lt (JV nC.nm nD.nm LZ r6 c6 (X.c2.st.agA fun k=>by have:=nB.Nw k; rwa [eB] at this) X.c2.cn)
 have nF:=nD.clean LZ (by rw [e2]; exact X.u3)
 have eT:=nB.ts hp hs
 have eD:idx (jG E1) dE=dN N1 U1:=by rw [nB.C7,eB]
 have fl:∀(U:List Nat) (f:Nat→Bool),U.Pairwise (· < ·)→(U.filter f).Pairwise (· < ·):=fun U f h=>h.filter _
 have odd:∀{E:List (Nat×En)}{N:List Gn}(h:NW ps E N) (s:Str),fu N→eo E (bl E s)=((eY E).filter (gf N (eY E) s)).map fun(k:Nat)=>2*(k:Int)+1:=fun h s hc=>by rw [h.eo,h.Kd hc]
 have aby:∀{E:List (Nat×En)}{N:List Gn}(h:NW ps E N),fu N→eo (iU E sW) (bl (iU E sW) sP)=((eY E).filter (gf N (eY E) sP)).map fun(k:Nat)=>2*(k:Int)+1:=fun {E N} h hc=>by
  have:eo (iU E sW) (bl (iU E sW) sP)=(idx (iU E sW) (bl (iU E sW) sP)).map fun(k:Nat)=>2*(k:Int)+1:=jF _ _ _ _ fun i p hp=>by
   rw [lS] at hp
   cases e:E[i]? with
   | none=>rw [e] at hp; cases hp
   | some p0=>
    rw [e] at hp
    obtain⟨n,hn⟩:=h.row e
    have h1:=(h.sw i p0 n e hn).1
    have hp:(if _ then _ else p0:Nat×En)=p:=Option.some.inj hp
    rw [←hp]
    split <;> exact h1
  rw [this,Nv,h.Kd hc]
 refine⟨nF,by rw [eT,nB.Bh,eD],(C_ E6).trans e2,?_⟩
 refine .cons (L1.odd (by rw [nA.eo]; show(eY E1).map _=_; rw [e1]) X.c1.lt) (.cons (L2.odd (by rw [odd nA sW hc,e1]) (fl _ _ X.c1.lt)) (.cons (L3.odd (by rw [aby nA hc,e1]) (fl _ _ X.c1.lt)) (.cons (L4.odd (by rw [eT]; show eo _ _=_; rw [nB.eo,eD]) (uF _ _)) (.cons (L5.odd (by rw [nD.eo]; show(eY E6).map _=_; rw [e2]) X.c2.lt) (.cons (L6.odd (by rw [odd nD sW LZ,e2]) (fl _ _ X.c2.lt)) (.cons (L7.odd (by rw [aby nD LZ,e2]) (fl _ _ X.c2.lt)) (.nil _)))))))
theorem Kl (u:List Nat):(lT u).length=u.length:=by
 unfold lT
 rw [List.length_map,List.length_map]
theorem X_ {H:Hp}{D l:Addr}{σ:St}{ls:List Addr}{us:List (List Nat)}{Q:Hp→Prop}(hD:H D=none) (hl:H l=some (.lst (ls.map V.ref))) (h:NL H ls us) (hlen:us.length≤100) (Bd:∀u∈us,u.length≤100)
  (q:∀(as:List Addr) (H':Hp),ak H H'→H' D=some (.lst (as.map V.ref))→OL H' as us→Q H'):g_ (EM K l) [] (fun _ H Q=>Q true H) (ZP (vM K (n_ 0)) [] (fun _ H Q=>Q true H) (LL (Lf fun i j=>V.int (i+j)) (LL (rI LN fun i j=>V.int (i*j)) (tC (V.int 2)) (n_ 0)) (tC (V.int 1)))) σ D Q (upd H D (.lst [])):=by
 refine EO (ls.map V.ref) (fun i ys H2=>∃as:List Addr,ys=as.map V.ref∧ak H H2∧H2 D=some (.lst ys)∧OL H2 as (us.take i)∧∀b∈as,b≠D) ⟨[],rfl,.put hD,ae,OL.nil _,fun b hb=>(nomatch hb)⟩ (fun i ys H2 _ ⟨as,_,s2,_⟩=>aF.of (s2 _ _ hl)) ?_ ?_
 ·rintro i m x ys H2 hm hx ⟨as,rfl,s2,fA,o2,n2⟩
  rw [List.getElem?_map] at hx
  cases el:ls[i]? with
  | none=>rw [el] at hx; cases hx
  | some l1=>
   rw [el] at hx
   cases hx
   have PV:=(List.getElem?_eq_some_iff.mp el).1
   have hiu:i < us.length:=by rw [←h.len]; exact PV
   obtain⟨u,eu⟩:∃u,us[i]=u:=⟨_,rfl⟩
   have hu:us[i]?=some u:=by rw [List.getElem?_eq_getElem hiu,eu]
   have d_:=s2 _ _ (h.at_ i l1 u el hu)
   have hul:=Bd u (List.mem_of_getElem? hu)
   refine e9 ?_
   dsimp! [ZP,vM,aP,Option.join_some]
   refine⟨⟨_,aF.of d_⟩,fun D3 vB=>?_⟩
   refine EO (aA u) (fun j zs H3=>H3=upd H2 D3 (.lst zs)∧zs=lT (u.take j)) ⟨rfl,rfl⟩ (fun j zs H3 _ z=>by rw [z.1]; exact aF.of (ak.put vB _ _ d_)) ?_ ?_
   ·rintro j m2 x zs H3 eN hx ⟨rfl,rfl⟩
    obtain⟨k,hk,rfl⟩:=n8 hx
    refine e9 ?_
    dsimp! [aP,Option.join_some]
    refine⟨.inl ⟨by decide,by decide⟩,qz.mk eN ae (by rw [Kl,List.length_take]; omega) ⟨jY,?_⟩⟩
    unfold lT
    rw [List.take_add_one,hk,List.map_append,List.map_append]
    rfl
   ·rintro zs H3 ⟨rfl,rfl⟩
    rw [bK,List.take_length]
    have s3:=ak.put (o:=.lst (lT u)) vB
    have gG:upd H2 D3 (.lst (lT u)) D3=some (.lst (lT u)):=ae
    have nD:D3≠D:=(ao fA vB).symm
    generalize upd H2 D3 (.lst (lT u))=H3 at s3 gG
    have agJ:=s3 _ _ fA
    have kD:Kp (·=D) H3 (upd H3 D (.lst (as.map V.ref++[V.ref D3]))):=(Kp.refl _ _).set rfl
    have hal:as.length=i:=by
     rw [o2.len,List.length_take]
     omega
    refine qz.mk hm agJ (by rw [List.length_map]; omega) ⟨as++[D3],by rw [List.map_append]; rfl,(s2.trans s3).putD hD,ae,⟨?_,fun j l u2 a b=>?_⟩,fun b hb=>?_⟩
    ·rw [List.length_append,hal,List.length_take,List.length_singleton]
     omega
    ·rw [List.take_add_one,hu] at b
     rcases Nat.lt_or_ge j as.length with z | z
     ·rw [List.getElem?_append_left z] at a
      have b:(us.take i++[u])[j]?=some u2:=b
      rw [List.getElem?_append_left (by rw [←o2.len]; exact z)] at b
      exact kD _ _ (n2 l (List.mem_of_getElem? a)) (s3 _ _ (o2.at_ j l u2 a b))
     ·have ej:j=as.length:=by
       have:=(List.getElem?_eq_some_iff.mp a).1
       rw [List.length_append,List.length_singleton] at this
       omega
      subst ej
      have b:(us.take i++[u])[as.length]?=some u2:=b
      rw [List.getElem?_append_right (Nat.le_refl _),Nat.sub_self] at a
      rw [List.getElem?_append_right (by rw [o2.len]; exact Nat.le_refl _),o2.len,Nat.sub_self] at b
      cases a
      cases b
      exact kD _ _ nD gG
    ·rcases List.mem_append.mp hb with hb | hb
     ·exact n2 b hb
     ·rw [List.mem_singleton.mp hb]
      exact nD
 ·rintro ys H2 ⟨as,rfl,s2,fA,o2,_⟩
  rw [List.length_map,h.len,List.take_length] at o2
  exact q as H2 s2 fA o2
theorem Xp.DA {N N1 N2 N3:List Gn}{sm U1 U2:List Nat}(X:Xp N sm U1 U2 N1 N2 N3) (h:N.length≤24):∀u∈Zf N N1 N2 U1 U2,u.length≤100:=fun u hu=>by
 have a1:=X.c1.st.len
 have a2:=X.c2.st.len
 have a3:=X.u1.len
 have a4:=X.u2.len
 have b:∀(U:List Nat) f,(U.filter f).length≤U.length:=fun U f=>List.length_filter_le f U
 have d:(dN N1 U1).length≤N1.length:=by
  unfold dN
  have:=b (List.range N1.length) fun k=>!decide (k∈U1)&&(((N1[k]?).map fun n=>n.t.words.isSome).getD false)
  rwa [List.length_range] at this
 unfold Zf at hu
 simp only [List.mem_cons,List.not_mem_nil,or_false] at hu
 rcases hu with rfl | rfl | rfl | rfl | rfl | rfl | rfl
 ·omega
 ·have:=b U1 (gf N U1 sW); omega
 ·have:=b U1 (gf N U1 sP); omega
 ·omega
 ·omega
 ·have:=b U2 (gf N2 U2 sW); omega
 ·have:=b U2 (gf N2 U2 sP); omega
structure LF (a:cN) (K:PySem.W.Frag) (H:Hp) (M:MA) (km gd hl lr lp hd:Addr) (ps:List Nat) (N:List Gn) (E:List (Nat×En)) (hs lh:List (Nat×Int)):Prop where
 ts:i0 a K H M km gd hl E [] lh
 rs:RS K H lr N
 hp:H lp=some (.lst (aA ps))
 hh:∃xs,H hd=some (.lst xs)∧lC K H xs hs
 nw:NW ps E N
theorem LF.same {H H':Hp}{M:MA}{km gd hl lr lp hd:Addr}{ps:List Nat}{N:List Gn}{E:List (Nat×En)}{hs lh:List (Nat×Int)}(h:LF a K H M km gd hl lr lp hd ps N E hs lh) (k:ak H H'):LF a K H' M km gd hl lr lp hd ps N E hs lh:=by
 obtain⟨xs,h1,h2⟩:=h.hh
 exact⟨h.ts.same k,h.rs.same k,k _ _ h.hp,⟨xs,k _ _ h1,h2.same k⟩,h.nw⟩
theorem LF.at_ {H:Hp}{M:MA}{km gd hl lr lp hd:Addr}{ps:List Nat}{N:List Gn}{E:List (Nat×En)}{hs lh:List (Nat×Int)}(h:LF a K H M km gd hl lr lp hd ps N E hs lh) {i:Nat}{p:Nat×En}(hp:E[i]?=some p):qm (aA ps) (i:Int)=some (V.int (p.1:Nat)):=bp (by
 unfold aA
 rw [←h.nw.nm.fst,List.getElem?_map,List.getElem?_map,List.getElem?_map,hp]
 rfl)
theorem Ya {H:Hp}{D fl lp:Addr}{σ:St}{fx:List V}{vs:List Vl}{ps:List Nat}{Q:Hp→Prop}(hD:H D=none) (sL:H fl=some (.lst fx)) (hv:eC K H fx vs) (hp:H lp=some (.lst (aA ps))) (hz:∀z,Vl.th z∈vs→0≤z∧z < (ps.length:Int)) (h3:fx.length≤3) (hσ:(σ[4]?).join=some (.ref lp))
  (q:∀(ys:List V) (H':Hp),ak H H'→H' D=some (.lst ys)→eC K H' ys (vs.map (pF ps))→Q H'):g_ (EM K fl) [4] (fun _ H Q=>Q true H) (Ce (Kf K) [] E0 (j9 (n_ 0) (j9 (n_ 1) tH))) σ D Q (upd H D (.lst [])):=by
 refine EO fx (fun i ys H9=>ak H H9∧H9 D=some (.lst ys)∧eC K H9 ys ((vs.take i).map (pF ps))) ⟨.put hD,ae,rfl,fun i x h e=>by simp at e⟩ (fun i ys H9 _ z=>aF.of (z.1 _ _ sL)) ?_ ?_
 ·rintro i m x ys H9 hm hxi ⟨s9,Lv,hv9⟩
  have hi:=(List.getElem?_eq_some_iff.mp hxi).1
  have PV:i < vs.length:=by rw [hv.1]; exact hi
  obtain⟨b,eb⟩:∃b,vs[i]=b:=⟨_,rfl⟩
  have hb:vs[i]?=some b:=by rw [List.getElem?_eq_getElem PV,eb]
  obtain⟨t,rfl,ht⟩:=hv.2 i x b hxi hb
  refine e9 ?_
  dsimp! [aP,hσ]
  refine⟨t,lp,b,ps,rfl,s9.Dx ht,s9 _ _ hp,fun z e=>hz z (by rw [←e]; exact List.mem_of_getElem? hb),fun y Aa Cm hy=>?_⟩
  have Kk:=Cm _ _ Lv
  have kD:Kp (·=D) Aa (upd Aa D (.lst (ys++[y]))):=(Kp.refl _ _).set rfl
  have cg:∀b,b=D→Cg Aa b:=fun b z=>.inl (.inl ⟨ys,by rw [z]; exact Kk⟩)
  have hyl:ys.length≤1000:=by
   rw [←hv9.1,List.length_map,List.length_take]
   omega
  refine qz.mk hm Kk hyl ⟨(s9.trans Cm).putD hD,ae,?_⟩
  rw [List.take_add_one,hb,List.map_append]
  exact eC.kc ((hv9.same Cm).snoc hy) kD cg
 ·rintro ys H9 ⟨s9,Lv,hv9⟩
  rw [←hv.1,List.take_length] at hv9
  exact q ys H9 s9 Lv hv9
noncomputable def uI (ts:List Addr) (K:PySem.W.Frag):Sp:=fun vs H Q _=>∃(a:Addr) (ns:List Int),vs=[.ref a]∧aF K H a (ns.map V.int)∧ns.length≤63∧(∀b∈ts,H b=some (.dS #[]))∧∀H',Q (.bl true) H'
noncomputable def IL1 (a:cN) (K:PySem.W.Frag) (M:MA) (km gd sc lr lp:Addr) (ps:List Nat) (N:List Gn) (H4:Hp) (_:Nat) (σ:List (Option V)) (H5:Hp):Prop:=∃(o1:Option V) (E1:List (Nat×En)) (G1:List Nat),σ=[some (.ref sc),o1,some (.ref M.p),some (.ref lr),some (.ref lp),some (.ref km),none,none,none,none,none,none,none,none]∧Kp (fun b=>M.own b∨b=gd) H4 H5∧LK a K H5 M km gd lr lp ps N E1 G1
noncomputable def IL2 (a:cN) (K:PySem.W.Frag) (M:MA) (km gd sc lr lp hd:Addr) (ps:List Nat) (N:List Gn) (XG:List V) (zH:List (Nat×Int)) (_:Nat) (σ:List (Option V)) (H7:Hp):Prop:=∃(o1 o7:Option V) (E2:List (Nat×En)) (G2:List Nat),σ=[some (.ref sc),o1,some (.ref M.p),some (.ref lr),some (.ref lp),some (.ref km),some (.ref hd),o7,none,none,none,none,none,none]∧LK a K H7 M km gd lr lp ps N E2 G2∧H7 hd=some (.lst XG)∧lC K H7 XG zH
noncomputable def IL3 (a:cN) (K:PySem.W.Frag) (M:MA) (km gd sc lr lp hd hl D r t:Addr) (ps:List Nat) (N3:List Gn) (E7:List (Nat×En)) (hA hB:List (Nat×Int)) (ls:List Addr) (X:List (List Nat)) (_:Nat) (σ:List (Option V)) (H19:Hp):Prop:=∃(o1 o7 Xl Ad:Option V),σ=[some (.ref sc),o1,some (.ref M.p),some (.ref lr),some (.ref lp),some (.ref km),some (.ref hd),o7,some (.ref D),some (.ref hl),some (.ref r),some (.ref t),Xl,Ad]∧LF a K H19 M km gd hl lr lp hd ps N3 E7 hA hB∧NL H19 ls X∧H19 r=some (.lst (ls.map V.ref))
theorem Yb (T:Txt K mg a) (B:BM mg base) {ts:List Addr}(wx:a.cY∈ts) (agK:a.cH∈ts) (oj:a.cY≠a.cH):aU P w K mg base cC 20 a.rP a.P6 ["_law_script"] (uI ts K):=by
 refine T.mH.ok du (fun vs H Q E h=>?_) (fun bL A outer s H vs Q E hr h=>?_)
 ·obtain⟨_,_,rfl,_⟩:=h
  rfl
 ·obtain⟨sc,ns,rfl,hS,hl,htb,q⟩:=h
  refine⟨_,(ag (aN (i:=1) du.nd rfl (Or.inl rfl) (aD (AX T) (hr.mono (by decide)) rfl T.CM T.kz.kp T.CL .nil ar (aa (pv 0) (aa aq af)))) (ag (aN (i:=2) du.nd rfl (Or.inr rfl) (iM T.sg (WE T) (hr.mono (by decide)) rfl T.sH T.QF .nil ar (aa (aL de aq (aL df (pv 1) aq)) (aa (aL de aq (aL df (aL cQ (pv 1) aq) aq)) af)))) (ag (jv (aD (Xm T) (hr.mono (by decide)) rfl T.QQ T.pj.kp T.QP .nil ar (aa (pv 0) (aa (pv 2) (aa aq af)))) (tD (n:=2) rfl (cP (a7 (i:=3) du.nd rfl (Or.inl rfl)) (cP (a7 (i:=4) du.nd rfl (Or.inr rfl)) j7)))) (ag (aN (i:=5) du.nd rfl (Or.inl rfl) (iM T.oS (aav T) (hr.mono (by decide)) rfl T.pz T.aan .nil ar (aa (pv 2) af))) aw)))),?_⟩
  dsimp! []
  refine⟨sc,ns,0,rfl,hS,by decide,fun first=>?_⟩
  obtain⟨m,em,hm0,hm1⟩:∃m:Nat,1+first % 4=(m:Int)∧0 < m∧m≤4:=⟨(1+first % 4).toNat,by omega,by omega,by omega⟩
  obtain⟨c,ec,hc0,W3⟩:∃c:Nat,8+first / 4 % 32=(c:Int)∧0 < c∧c≤39:=⟨(8+first / 4 % 32).toNat,by omega,by omega,by omega⟩
  have Q0:m*c≤1000:=Nat.le_trans (Nat.mul_le_mul hm1 W3) (by decide)
  refine⟨first,rfl,by decide,first,rfl,.small (by decide) (by decide),by decide,fun pm dxm hpm agL ne=>?_⟩
  rw [em,ec]
  refine⟨pm,dxm,m,c,rfl,ae,hm0,hc0,Q0,fun M H1 eMp eMm eMc abz kp1 abA WJ Ng=>⟨rfl,?_⟩⟩
  have RH:∀b,M.own b→H b=none:=fun b hb=>cm (cm (abA b hb))
  have s1:=ik hpm agL kp1
  subst eMp
  have pC:TM a K H1 M []:=⟨_,[],⟨abz,fun r hr=>(nomatch hr)⟩,rfl⟩
  refine⟨sc,ns,M,10,rfl,s1.seq hS,pC,fun tt lr lp H2 E N k2 G2 aaM htt Ed nN abB=>?_⟩
  have s2:ak H H2:=fun b u e=>k2 b u (fun z=>by rw [RH b z] at e; cases e) (s1 b u e)
  refine⟨tt,rfl,_,dO.of htt,rfl,_,_,rfl,_,_,rfl,rfl,fun km dxk hkm Yc nek=>?_⟩
  refine⟨km,dxk,M,E,H2,rfl,ae,(ak.put Yc).trans (ak.put (by rw [ai nek.symm]; exact hkm)),hkm,G2.tm,fun gd H3 k3 W9 hMS=>⟨rfl,?_⟩⟩
  have Km:H2 gd=none:=cm (cm W9)
  have s3:=ik hkm Yc k3
  have G3:=G2.same s3
  have Be:=s2.trans s3
  have Xq:=G2.len
  obtain⟨ps,Nh⟩:∃ps,E.map (·.1)=ps:=⟨_,rfl⟩
  have nw0:NW ps E N:=⟨⟨Nh,Xq,fun i p n hp hn=>by rw [←Nh]; exact G2.rel i p n (by have:=(List.getElem?_eq_some_iff.mp hp).1; omega) hp hn,by rw [←Nh]; exact List.pairwise_map.mpr G2.tm.nd⟩,G2.sw⟩
  have jX:ps.length=N.length:=nw0.nm.Np
  have Ae:fu N:=fun n hn z hz=>by rw [←Xq]; exact nN n hn z hz
  have ndR:(N.map Gn.ra).Nodup:=by
   have:=G2.nd
   unfold da at this
   exact(List.nodup_append.mp (List.nodup_cons.mp (List.nodup_cons.mp this).2).2).1
  have elp:(E.map fun p=>V.int (p.1:Nat))=aA ps:=by
   unfold aA
   rw [←Nh,List.map_map,List.map_map]
   rfl
  have L3:LK a K H3 M km gd lr lp ps N E []:=⟨hMS,⟨G3.hr,G3.ok,ndR⟩,by rw [G3.hp,elp],nw0,(fun p e he hm=>by have:=abB _ he; rw [show e.bR=false from this] at hm; cases hm),.inl (Be _ _ (htb _ wx)),.inl (Be _ _ (htb _ agK))⟩
  have nS:∀b∈da lr lp N,¬(M.own b∨b=gd):=fun b hb z=>by
   obtain⟨u2,e2⟩:=G2.kJ b hb
   rcases z with z | rfl
   ·exact(G3.no b hb).1 z
   ·rw [e2] at Km
    cases Km
  have nlb:∀b∈da lr lp N,M.lb≠b:=fun b hb=>(G3.no b hb).2
  have aiI:(da lr lp N).Nodup:=G2.nd
  refine a6.of (ag (bM PassesOwn.never rfl (bg (j_ nM (pv 0) (iN aq) (iN aq))) (a7 (i:=1) du.nd rfl (Or.inl rfl)) aw) aw) ?_
  dsimp! []
  refine⟨sc,_,rfl,Be.seq hS,fun lc vy=>?_⟩
  obtain⟨cs,Y6⟩:∃cs,qu (ns.map V.int) (some 2) (some 9)=cs:=⟨_,rfl⟩
  rw [Y6]
  have ci:∀x∈cs,∃z,x=V.int z:=fun x hx=>by
   rw [←Y6] at hx
   have h1:=List.mem_of_mem_drop (List.mem_of_mem_take hx)
   obtain⟨z,_,e⟩:=List.mem_map.mp h1
   exact⟨z,e.symm⟩
  have s4:=ak.put (o:=.lst cs) vy
  have A6:upd H3 lc (.lst cs) lc=some (.lst cs):=ae
  have L4:=L3.same s4
  have nlc:=L3.none_ vy
  generalize upd H3 lc (.lst cs)=H4 at s4 A6 L4
  have Kn:∀H',Kp (fun b=>M.own b∨b=gd) H4 H'→aF K H' sc (ns.map V.int):=fun H' k=>by
   rcases hS with h | h
   ·have n:¬(M.own sc∨sc=gd):=fun z=>by
     rcases z with z | z
     ·rcases h with h | ⟨o,h⟩ <;> (rw [RH _ z] at h; cases h)
     ·rcases h with h | ⟨o,h⟩ <;> (rw [←z,s2 _ _ h] at Km; cases Km)
    rcases h with h | ⟨o,h⟩
    ·exact .inl (.inl (k _ _ n (s4 _ _ (Be _ _ h))))
    ·exact .inl (.inr ⟨o,k _ _ n (s4 _ _ (Be _ _ h))⟩)
   ·exact .inr h
  have abC:∀E',NW ps E' N→E'.length≤24:=fun E' h=>by have:=h.nm.len; omega
  clear hMS k3 W9 hkm Yc htt abz kp1 abA WJ Ng vy G2 G3 L3 k2 s3 s1 s2 hS pC Km abB Ed
  refine⟨lc,rfl,⟨_,aF.of A6⟩,dw cs (IL1 a K M km gd sc lr lp ps N H4) ⟨_,E,[],rfl,Kp.refl _ _,L4⟩ ?_ ?_ ?_⟩
  ·rintro i σ H5 _ ⟨o1,E1,G1,rfl,k5,_⟩
   exact aF.of (k5 _ _ nlc A6)
  ·rintro i x σ H5 hx ⟨o1,E1,G1,rfl,k5,L5⟩
   obtain⟨z,rfl⟩:=ci x (List.mem_of_getElem? hx)
   refine gN ?_
   refine a6.of (ah (cO (PW.pt (eZ (aH (jx hr.units) (pv 3) (bD af) (aQ _)) (gp (aH Pw (aL df (pv 1) aq) aq (aQ _))))) (ah (aV (aC (pv 5) T.aB T.CD (Jt T) (hr.mono (by decide)) T.ME .nil ar (aa (aG ay (pv 4) (aL df (aL cQ (pv 1) aq) (bh a9 rfl T.dI dr (aa (pv 3) af))) (fun _ _=>rfl)) af)))) bB)) ?_
   dsimp! []
   refine fun p hp=>?_
   have s6:=ak.put (o:=.lst []) hp
   have L6:=L5.same s6
   have hD:gQ K (upd H5 p (.lst [])) (.ref lr) (.lst (N.map gD)):=by
    refine .lst (aF.of L6.rs.hr) (by rw [List.length_map,List.length_map]) fun i x d hx hd=>?_
    rw [List.getElem?_map] at hx hd
    cases e:N[i]? with
    | none=>rw [e] at hx; cases hx
    | some n=>
     rw [e] at hx hd
     cases hx
     cases hd
     exact(L6.rs.ok n (List.mem_of_getElem? e)).Et
   refine⟨_,_,hD,.mj (aF.of ae) (dn []),by rw [D.dep]; have:=C8 N; omega,?_⟩
   rw [if_pos rfl,Kj]
   have k6:=k5.trans (ak.kp (S:=fun b=>M.own b∨b=gd) s6)
   generalize upd H5 p (.lst [])=H6 at s6 L6 hD k6
   cases hN:N.isEmpty with
   | true=>exact⟨false,rfl,dH ⟨_,_,_,rfl,k6,L6⟩⟩
   | false=>
    have ahF:0 < N.length:=by
     cases N with
     | nil=>cases hN
     | cons=>simp
    refine⟨true,rfl,e9 ⟨by decide,mP (fun _=>?_) fun _=>⟨_,_,_,rfl,k6,L6⟩⟩⟩
    obtain⟨dx6,hk6⟩:=L6.ms.ob
    refine⟨_,_,hk6,cV,.small (by decide) (by decide),_,.inl (aF.of L6.rs.hr),by rw [List.length_map]; omega,?_⟩
    rw [List.length_map]
    have m0:=Int.emod_nonneg (z / 4) (show(N.length:Int)≠0 by omega)
    have m1:=Int.emod_lt_of_pos (z / 4) (show(0:Int) < (N.length:Int)by omega)
    obtain⟨kk,ek,hkk⟩:∃kk:Nat,z / 4 % (N.length:Int)=(kk:Int)∧kk < N.length:=⟨(z / 4 % (N.length:Int)).toNat,by omega,by omega⟩
    rw [ek]
    have aiJ:=L6.nw.nm.len
    have hkE:kk < E1.length:=by omega
    obtain⟨⟨pl,e⟩,ep⟩:∃p,E1[kk]=p:=⟨_,rfl⟩
    have he:E1[kk]?=some (pl,e):=by rw [List.getElem?_eq_getElem hkE,ep]
    have hpE:pl∈E1.map (·.1):=List.mem_map.mpr ⟨_,List.mem_of_getElem? he,rfl⟩
    refine⟨lp,_,_,V.int (pl:Nat),rfl,rfl,aF.of L6.hp,L6.at_ he,M,km,gd,E1,G1,pl,rfl,L6.ms,hpE,by omega,fun H7 k7 ms7=>?_⟩
    obtain⟨a1,a2,a3⟩:=Ba (E1,G1) (q:=pl) hpE
    exact⟨_,_,_,rfl,k6.trans k7,L6.next nS k7 ms7 a1.st (BC.gj (S:=(E1,G1)) L6.ms.tm.nd L6.bc a1)⟩
  ·rintro σ H5 ⟨o1,E1,G1,rfl,k5,L5⟩
   refine a6.of (ag (hJ (j:=6) rfl du.nd rfl rfl (gw (x:="_law_k") (ns:=[]) (fr:=[]) rfl (by decide +kernel) rfl (by decide +kernel) rfl (List.forall_mem_nil _) rfl rfl (List.forall_mem_nil _) (by decide +kernel)) (cG rfl T.cF (aa (bh (rA rfl) rfl T.zg Ft (aa (bh a9 rfl T.dI dr (aa (pv 3) af)) (aa (aL df (aD (AX T) (hr.mono (by decide)) rfl T.CM T.kz.kp T.CL .nil ar (aa (pv 0) (aa aq af))) aq) af))) af)) (fun _ _ _ _=>(dg (aa (pv 0) (aa (aL g8 aq (pv 0)) af)))) (fun _ _ _ _=>.nil)) aw) ?_
   dsimp! []
   refine⟨_,.inl (aF.of L5.rs.hr),sc,ns,9,rfl,Kn _ k5,by decide,fun c9=>⟨c9,rfl,by decide,?_⟩⟩
   rw [List.length_map]
   obtain⟨nn,en,ql,fV⟩:∃nn:Nat,(if c9 % 3 < (N.length:Int)then c9 % 3 else(N.length:Int))=(nn:Int)∧nn≤2∧nn≤N.length:=by
    by_cases z:c9 % 3 < (N.length:Int)
    ·rw [if_pos z]
     exact⟨(c9 % 3).toNat,by omega,by omega,by omega⟩
    ·rw [if_neg z]
     exact⟨N.length,rfl,by omega,by omega⟩
   rw [en]
   refine⟨by omega,by omega,fun hd Lu=>?_⟩
   rw [Int.toNat_natCast]
   refine ZT (fun i ys H6=>ak H5 H6∧H6 hd=some (.lst ys)∧lC K H6 ys ((List.range i).map fun(k:Nat)=>(k,7*(k:Int)))) ⟨.put Lu,ae,rfl,fun i x h e=>by simp at e⟩ ?_ ?_
   ·rintro i m ys H6 hm hi ⟨s6,hd6,Rz⟩
    rw [if_pos rfl]
    dsimp! [aP,Option.join_some,Int.zero_add]
    refine⟨.inl ⟨by decide,by decide⟩,by simp [sizeLine_eq],fun ta XS=>?_⟩
    have s7:=ak.put (o:=.tup [V.int (i:Int),V.int (7*(i:Int))]) XS
    have abD:upd H6 ta (.tup [V.int (i:Int),V.int (7*(i:Int))]) ta=some (.tup [V.int (i:Int),V.int (7*(i:Int))]):=ae
    generalize upd H6 ta (.tup [V.int (i:Int),V.int (7*(i:Int))])=H7 at s7 abD
    have Yd:=s7 _ _ hd6
    have kD:Kp (·=hd) H7 (upd H7 hd (.lst (ys++[V.ref ta]))):=(Kp.refl _ _).set rfl
    have cg:∀b,b=hd→Cg H7 b:=fun b z=>.inl (.inl ⟨ys,by rw [z]; exact Yd⟩)
    refine qz.mk hm Yd (by rw [Rz.1,List.length_map,List.length_range]; omega) ⟨(s6.trans s7).putD Lu,ae,?_⟩
    rw [List.range_succ,List.map_append]
    exact lC.snoc (h:=(i,7*(i:Int))) ((Rz.same s7).kc kD cg) (kD.Ep cg (dO.of abD))
   ·rintro XG H6 ⟨s6,hd6,Rz⟩
    refine a6.of (ag (bM PassesOwn.never rfl (cG rfl T.cF (aa (aL df (aD (AX T) (hr.mono (by decide)) rfl T.CM T.kz.kp T.CL .nil ar (aa (pv 0) (aa aq af))) aq) af)) (a7 (i:=7) du.nd rfl (Or.inl rfl)) aw) aw) ?_
    dsimp! []
    obtain⟨zH,ehs⟩:∃zH,((List.range nn).map fun(k:Nat)=>(k,7*(k:Int)))=zH:=⟨_,rfl⟩
    rw [ehs] at Rz
    have L6:=L5.same s6
    have Zg:=L5.none_ Lu
    have k46:=k5.trans (ak.kp (S:=fun b=>M.own b∨b=gd) s6)
    refine⟨sc,ns,1,rfl,Kn _ k46,by decide,fun c1=>⟨_,rfl,by decide,by omega,by omega,?_⟩⟩
    refine ee (IL2 a K M km gd sc lr lp hd ps N XG zH) ⟨_,_,E1,G1,rfl,L6,hd6,Rz⟩ ?_ ?_
    ·rintro i σ H7 hi ⟨o1,o7,E2,G2,rfl,L7,Yd,Zb⟩
     refine gN ?_
     refine a6.of (ah (cO (aH (jx hr.units) (bT (pv 5) T.aB T.CF (Ju T) (hr.mono (by decide)) T.MF .nil ar) (bD af) (aQ _)) (ah (aV (bT (pv 5) T.aB T.AM (Jv T) (hr.mono (by decide)) T.Io .nil ar))) bB)) ?_
     obtain⟨dx7,hk7⟩:=L7.ms.ob
     have f1:=cV (m:=M.p) (g:=gd) (n:="grey")
     dsimp! [hk7,HO.ins.injEq,f1]
     refine⟨M,km,gd,E2,G2,rfl,L7.ms,fun l hl p hp=>?_⟩
     have s8:=(ak.put (o:=.lst ((G2.map fun(p:Nat)=>(p:Int)).map V.int)) hl).trans (ak.put (o:=.lst []) hp)
     have L8:=L7.same s8
     have Lw:=s8 _ _ Yd
     have RI:=Zb.same s8
     refine⟨_,_,.mj (aF.of (ak.put (o:=.lst []) hp _ _ ae)) (dn _),.mj (aF.of ae) (dn []),pD _,?_⟩
     rw [if_pos rfl,zo]
     generalize upd (upd H7 l (.lst ((G2.map fun(p:Nat)=>(p:Int)).map V.int))) p (.lst [])=H8 at s8 L8 Lw RI
     cases G2 with
     | nil=>exact⟨false,rfl,dH ⟨_,_,_,_,rfl,L8,Lw,RI⟩⟩
     | cons pl G3=>
      obtain⟨dx8,hk8⟩:=L8.ms.ob
      obtain⟨e,he,hm⟩:=L8.ms.gm pl List.mem_cons_self
      have aiK:=abC _ L8.nw
      obtain⟨hn,hh,jq⟩:=(L8.nw.ve Ae).hold he
      obtain⟨st1,Fb,_⟩:=C3 L8.ms.tm.nd he hm hh jq L8.bc
      refine⟨true,rfl,e9 ⟨_,_,hk8,cV,M,km,gd,E2,G3,pl,e,hn,rfl,L8.ms,he,hh,jq,by omega,fun H9 k9 ms9=>⟨_,_,_,_,rfl,L8.next nS k9 ms9 st1.st Fb,k9 _ _ Zg Lw,RI.kc k9 L8.cg⟩⟩⟩
    ·rintro σ H7 ⟨o1,o7,E2,G2,rfl,L7,Yd,Zb⟩
     refine a6.of (ag (hJ (j:=8) rfl du.nd rfl rfl (gw (x:="_law_k") (ns:=["_law_memory","_law_places"]) (fr:=[2,4]) rfl (by decide +kernel) rfl (by decide +kernel) rfl (List.forall_mem_cons.mpr ⟨rfl,List.forall_mem_cons.mpr ⟨rfl,List.forall_mem_nil _⟩⟩) rfl rfl (List.forall_mem_cons.mpr ⟨⟨rfl,rfl,.inl rfl⟩,List.forall_mem_cons.mpr ⟨⟨rfl,rfl,.inl rfl⟩,List.forall_mem_nil _⟩⟩) (by decide +kernel)) (cG rfl T.cF (aa (bh a9 rfl T.dI dr (aa (pv 3) af)) af)) (fun _ _ _ _=>(pv 0)) (fun _ _ _ _=>(.one (dU (aC (pv 1) T.au T.gB (ip T) (hr.mono (by decide)) T.ky .nil ar (aa (aG (fZ (K:=K) rfl) (pv 2) (pv 0) (fun _ _=>rfl)) af)))))) aw) ?_
     dsimp! []
     have JM:zH.length≤24∧∀h∈zH,h.1 < ps.length:=by
      rw [←ehs]
      refine⟨by rw [List.length_map,List.length_range]; omega,fun h hh=>?_⟩
      obtain⟨k,hk,rfl⟩:=List.mem_map.mp hh
      have:=List.mem_range.mp hk
      show k < ps.length
      omega
     have ND:∀b∈da lr lp N,b≠hd:=fun b hb z=>by
      obtain⟨xs,e⟩:=L5.kJ b hb
      rw [z,Lu] at e
      cases e
     have agM:M.lb≠hd:=fun z=>by
      have:=L5.ms.tm.lb
      rw [z,Lu] at this
      cases this
     clear Kn Rz hd6 s6 Lu L6 L5 k5 k46 L4 s4 A6 nlc
     have eEl:=L7.nw.nm.len
     refine⟨_,.inl (aF.of L7.rs.hr),by rw [List.length_map]; omega,by rw [List.length_map]; omega,fun D hD=>?_⟩
     rw [List.length_map,←eEl]
     refine ZT (fun i ys H8=>H8=upd H7 D (.lst ys)∧ys=aA ((List.range i).filter fun i=>((E2[i]?).map fun p=>p.2.bR).getD false)) ⟨rfl,rfl⟩ ?_ ?_
     ·rintro i m ys H8 hm hi ⟨rfl,rfl⟩
      obtain⟨⟨pl,e⟩,ep⟩:∃p,E2[i]=p:=⟨_,rfl⟩
      have hp:E2[i]?=some (pl,e):=by rw [List.getElem?_eq_getElem hi,ep]
      have s8:=ak.put (o:=.lst (aA ((List.range i).filter fun i=>((E2[i]?).map fun p=>p.2.bR).getD false))) hD
      have L8:=L7.same s8
      obtain⟨dx,hM⟩:=L8.ms.tm.ob
      obtain⟨xs,es,iq⟩:=L8.ms.tm.there (List.mem_of_getElem? hp)
      have er:(List.range (i+1)).filter (fun i=>((E2[i]?).map fun p=>p.2.bR).getD false)=(List.range i).filter (fun i=>((E2[i]?).map fun p=>p.2.bR).getD false)++if e.bR=true then [i] else []:=by
       rw [List.range_succ,List.filter_append,List.filter_cons,List.filter_nil,hp]
       rfl
      have ll:(aA ((List.range i).filter fun i=>((E2[i]?).map fun p=>p.2.bR).getD false)).length≤1000:=by
       rw [bK]
       have:=List.length_filter_le (fun i=>((E2[i]?).map fun p=>p.2.bR).getD false) (List.range i)
       rw [List.length_range] at this
       omega
      dsimp! [aP,Option.join_some,Int.zero_add]
      refine⟨_,_,hM,aW,lp,_,_,_,rfl,rfl,aF.of L8.hp,L8.at_ hp,M,xs,es,pl,e,rfl,iq,_,rfl,?_⟩
      cases em:e.bR with
      | true=>
       refine e9 (qz.mk hm ae ll ⟨jY,?_⟩)
       rw [er,if_pos em,←iX]
       rfl
      | false=>
       refine dH (Cs.mk hm ⟨rfl,?_⟩)
       rw [er,em,if_neg Bool.false_ne_true,List.append_nil]
     ·rintro ys H8 ⟨rfl,rfl⟩
      have s8:=ak.put (o:=.lst (aA (eY E2))) hD
      have hD8:upd H7 D (.lst (aA (eY E2))) D=some (.lst (aA (eY E2))):=ae
      have L8:=L7.same s8
      have Lw:=s8 _ _ Yd
      have RI:=Zb.same s8
      change a6 _ _ _ _ (upd H7 D (.lst (aA (eY E2))))
      generalize upd H7 D (.lst (aA (eY E2)))=H8 at s8 hD8 L8 Lw RI
      clear L7 Yd Zb hD s8
      refine a6.of (ag (UA (j:=9) rfl du.nd rfl rfl (PY (x:="_law_k") (x2:="_law_words") (ns:=["_law_places"]) (fr:=[4]) rfl (by decide +kernel) rfl (by decide +kernel) rfl rfl (List.forall_mem_cons.mpr ⟨rfl,List.forall_mem_nil _⟩) rfl rfl (List.forall_mem_cons.mpr ⟨⟨rfl,rfl,.inl rfl⟩,List.forall_mem_nil _⟩) (by decide +kernel)) (bg (pv 6)) (fun _ _ _ _=>(dg (aa (aG (fZ (K:=K) rfl) (pv 2) (pv 0) (fun _ _=>rfl)) (aa (pv 1) af)))) (fun _ _ _ _=>.nil)) aw) ?_
      dsimp! []
      refine⟨⟨_,aF.of Lw⟩,fun hl hhl=>?_⟩
      refine C9 hhl Lw RI L8.hp JM.2 (by omega) rfl fun xl H9 s9 hl9 abE=>?_
      have L9:=L8.same s9
      have T9:i0 a K H9 M km gd hl E2 G2 (kN ps zH):=by
       refine⟨L9.ms,⟨_,hl9,abE⟩,⟨fun z=>L8.none_ hhl (.inl z),fun z=>?_⟩,L9.t1,L9.t2⟩
       have:=L8.ms.tm.lb
       rw [z,hhl] at this
       cases this
      have nhl:∀b u,H8 b=some u→b≠hl:=fun b u e=>ao e hhl
      have abF:=nhl _ _ Lw
      have nal:∀b∈da lr lp N,b≠hl:=fun b hb=>by
       obtain⟨xs,e⟩:=L8.kJ b hb
       exact nhl _ _ e
      have hd9:=s9 _ _ Lw
      have RF:=RI.same s9
      have Lv:=s9 _ _ hD8
      clear L8 Lw RI hD8 s9 hl9 abE hhl nhl
      refine a6.of (ag (aN (i:=10) du.nd rfl (Or.inl rfl) (aD (X4 T) (hr.mono (by decide)) rfl T.QU T.pq.kp T.QT .nil ar (aa (pv 3) (aa (pv 8) (aa (pv 6) af))))) aw) ?_
      dsimp! []
      have abG:N.length≤24:=by omega
      have Ko:∀b,fq N b→b∈da lr lp N:=fun b hb=>by
       obtain⟨n,hn,rfl⟩:=List.mem_map.mp hb
       exact fQ hn
      have nT:∀b xs,H9 b=some (.lst xs)→¬(M.own b∨b=gd)→b≠hl→¬uD a M gd hl b:=fun b xs e n1 n2 z=>by
       obtain⟨p1,e1⟩:=T9.t1.dS
       obtain⟨p2,e2⟩:=T9.t2.dS
       rcases z with z | z | z | z | z
       ·exact n1 (.inl z)
       ·exact n1 (.inr z)
       ·exact n2 z
       ·rw [z,e1] at e
        cases e
       ·rw [z,e2] at e
        cases e
      have nTa:∀b∈da lr lp N,¬uD a M gd hl b:=fun b hb=>by
       obtain⟨xs,e⟩:=L9.kJ b hb
       exact nT b xs e (nS b hb) (nal b hb)
      have nTh:=nT hd _ hd9 Zg abF
      refine⟨N,lr,D,hd,XG,zH,eY E2,rfl,L9.rs,abG,Ae,Lv,XB E2,L9.nw.nm.dlt,hd9,RF,JM.1,(ND lr List.mem_cons_self).symm,fun n hn=>⟨ND _ (fQ hn),ND _ (lR hn)⟩,fun r ls U1 U2 N1 N2 N3 vv Aa vz Rf abH abI abJ Kq abK abL abM abN=>?_⟩
      have T10:i0 a K Aa M km gd hl E2 G2 (kN ps zH):=T9.lists vz (fun b z=>z.elim (fun z=>L9.kJ b (Ko b z)) fun z=>⟨XG,by rw [z]; exact hd9⟩) (fun b z=>z.elim (fun z=>⟨fun y=>nS b (Ko b z) (.inl y),nlb b (Ko b z)⟩) fun z=>by rw [z]; exact⟨fun y=>Zg (.inl y),agM⟩) fun z=>z.elim (fun z=>nal hl (Ko hl z) rfl) fun z=>abF z.symm
      have agN:=vz _ _ (fun z=>z.elim (L9.rs.nats L9.hp) (ND lp (List.mem_cons_of_mem _ List.mem_cons_self))) L9.hp
      have eR3:fq N3=fq N:=Kq.u3.fq.trans (Kq.u2.fq.trans Kq.u1.fq)
      have nTr:∀n∈N3,¬uD a M gd hl n.ra∧¬uD a M gd hl n.fl:=fun n hn=>by
       refine⟨nTa _ (Ko _ (by rw [←eR3]; exact List.mem_map.mpr ⟨n,hn,rfl⟩)),?_⟩
       rcases abL n hn with ⟨m,hm,e⟩ | e
       ·rw [←e]
        exact nTa _ (lR hm)
       ·exact T9.none_ e
      have nTl:∀l∈ls,¬uD a M gd hl l:=fun l hl=>T9.none_ (abH l hl)
      have abO:=T9.none_ Rf
      have nw2:=L9.nw
      have bc2:=L9.bc
      clear L9 T9 hd9 RF Lv nT abL abH Rf vz
      refine a6.of (ag (aN (i:=11) du.nd rfl (Or.inl rfl) (aD (XX T B) (hr.mono (by decide)) rfl T.Ql T.oR.kp T.Qk .nil ar (aa (pv 2) (aa (pv 5) (aa (pv 9) af))))) aw) ?_
      dsimp! []
      refine⟨M,km,gd,hl,E2,G2,kN ps zH,rfl,T10,oj,bc2,nw2.ve Ae,by omega,by rw [List.length_map]; omega,fun t l1 l2 l3 l4 l5 l6 l7 tw E3 E6 M_ Lo abP r1 c1 Ln wx r6 c6 Q1 Q2 Q3 Q4 Q5 Q6 Q7 T11=>?_⟩
      obtain⟨nwF,eW,eU,O11⟩:=NC nw2 Ae Kq r1 c1 Ln wx r6 c6 Q1 Q2 Q3 Q4 Q5 Q6 Q7
      rw [eW] at T11
      clear Q1 Q2 Q3 Q4 Q5 Q6 Q7 Ln wx r1 c1 r6 c6
      generalize jG E6=E7 at nwF eU T11
      have F11:LF a K M_ M km gd hl lr lp hd ps N3 E7 (zH++(dN N1 U1).map fun k=>(k,Bk N1 k)) (kN ps zH++(dN N1 U1).map fun k=>(ps.getD k 0,Bk N1 k)):=⟨T11,abK.kp Lo T10.cg (nTa lr List.mem_cons_self) nTr,Lo _ _ (nTa lp (List.mem_cons_of_mem _ List.mem_cons_self)) agN,⟨vv,Lo _ _ nTh abM,abN.kc Lo T10.cg⟩,nwF⟩
      have Ye:=abJ.kp Lo nTl
      have NF:=Lo _ _ abO abI
      have DA:=Kq.DA abG
      clear T11 T10 abK abJ abI abM abN Lo nwF nTa nTh nTl nTr abO bc2
      refine a6.of (ag (cO (PW.pt (EY (aH (jx hr.units) (pv 11) (dX qw rfl T.nW Fu (aa (aL kd (bD (aa aT af)) (mi rfl (gw (x:="_law_part") (ns:=[]) (fr:=[]) rfl (by decide +kernel) rfl (by decide +kernel) rfl (List.forall_mem_nil _) rfl rfl (List.forall_mem_nil _) (by decide +kernel)) (bg (pv 10)) (fun _ _ _ _=>(mi rfl (gw (x:="_law_k") (ns:=[]) (fr:=[]) rfl (by decide +kernel) rfl (by decide +kernel) rfl (List.forall_mem_nil _) rfl rfl (List.forall_mem_nil _) (by decide +kernel)) (FZ (K:=K) rfl (pv 0)) (fun _ _ _ _=>(aL de (aL g8 aq (pv 0)) aq)) (fun _ _ _ _=>.nil))) (fun _ _ _ _=>.nil))) af)) (aQ _)) (Ag (aH (jx hr.units) (bT (pv 5) T.aB T.CF (Ju T) (hr.mono (by decide)) T.MF .nil ar) (bD af) (aQ _))))) (ah (aE gM)) bB) aw) ?_
      dsimp! []
      refine⟨by simp [sizeLine_eq],fun p hp=>⟨⟨_,aF.of ((ak.put hp) _ _ NF)⟩,fun D2 fA=>?_⟩⟩
      have s12:=ak.put (o:=.lst [V.str "turn"]) hp
      have Yf:upd M_ p (.lst [V.str "turn"]) p=some (.lst [V.str "turn"]):=ae
      generalize upd M_ p (.lst [V.str "turn"])=H12 at s12 Yf fA
      refine X_ fA (s12 _ _ NF) (Ye.same s12) (by show 7≤100; decide) DA fun as H13 s13 abQ Ad=>?_
      have hal:as.length=7:=Ad.len
      refine⟨p,D2,_,_,rfl,rfl,aF.of (s13 _ _ Yf),aF.of abQ,by rw [List.length_map,hal]; exact Nat.le_of_lt (a5 (by decide)),fun lc vy=>⟨lc,rfl,_,.inl ⟨aF.of ae,fun tt htt=>?_⟩⟩⟩
      have s14:=(ak.put (o:=.lst ([V.str "turn"]++as.map V.ref)) vy).trans (ak.put (o:=.tup ([V.str "turn"]++as.map V.ref)) htt)
      have Kr:upd (upd H13 lc (.lst ([V.str "turn"]++as.map V.ref))) tt (.tup ([V.str "turn"]++as.map V.ref)) tt=some (.tup ([V.str "turn"]++as.map V.ref)):=ae
      generalize upd (upd H13 lc (.lst ([V.str "turn"]++as.map V.ref))) tt (.tup ([V.str "turn"]++as.map V.ref))=H14 at s14 Kr
      have JE:=(s12.trans s13).trans s14
      refine⟨_,_,OL.Et (O11.same JE) (dO.of (JE _ _ abP)),OL.Et (Ad.same s14) (dO.of Kr),X8 _,?_⟩
      rw [if_pos rfl,e_]
      have F14:=F11.same JE
      have abR:=Ye.same JE
      have abS:=JE _ _ NF
      clear F11 Ye NF JE s12 s13 s14 Kr vy htt Ad abQ fA hp Yf abP O11
      obtain⟨aiL,agO⟩:=F14.ts.ms.ob
      refine⟨false,rfl,dH ⟨_,_,agO,cV,M,km,gd,E7,[],rfl,F14.ts.ms,fun l hl p hp=>?_⟩⟩
      have s15:=(ak.put (o:=.lst ((([]:List Nat).map fun(p:Nat)=>(p:Int)).map V.int)) hl).trans (ak.put (o:=.lst []) hp)
      refine⟨_,_,.mj (aF.of (ak.put (o:=.lst []) hp _ _ ae)) (dn _),.mj (aF.of ae) (dn []),pD _,?_⟩
      rw [if_pos rfl,zo]
      have F15:=F14.same s15
      have Yg:=abR.same s15
      have Yh:=s15 _ _ abS
      generalize upd (upd H14 l (.lst ((([]:List Nat).map fun(p:Nat)=>(p:Int)).map V.int))) p (.lst [])=H15 at s15 F15 Yg Yh
      clear s15 F14 abR abS hl hp
      refine⟨false,rfl,dH ?_⟩
      refine a6.of (ag (cO (PW.pt (EY (aH (jx hr.units) (pv 9) (Uz rfl (PY (x:="_law_k") (x2:="_law_words") (ns:=["_law_places"]) (fr:=[4]) rfl (by decide +kernel) rfl (by decide +kernel) rfl rfl (List.forall_mem_cons.mpr ⟨rfl,List.forall_mem_nil _⟩) rfl rfl (List.forall_mem_cons.mpr ⟨⟨rfl,rfl,.inl rfl⟩,List.forall_mem_nil _⟩) (by decide +kernel)) (bg (pv 6)) (fun _ _ _ _=>(dg (aa (aG (fZ (K:=K) rfl) (pv 2) (pv 0) (fun _ _=>rfl)) (aa (pv 1) af)))) (fun _ _ _ _=>.nil)) (aQ _)) (Ag (aH (jx hr.units) (bT (pv 2) T.au T.pf (ui T) (hr.mono (by decide)) T.ze .nil ar) (bh gy rfl T.dJ f_ (aa (pv 4) af)) (aQ _))))) (ah (aE gM)) bB) aw) ?_
      dsimp! []
      obtain⟨aiM,Yi,abT⟩:=id F15.hh
      have l1:N1.length=N.length:=Kq.u1.len
      have dl1:(dN N1 U1).length≤24∧∀k∈dN N1 U1,k < ps.length:=by
       unfold dN
       refine⟨?_,fun k hk=>?_⟩
       ·have:=List.length_filter_le (fun k=>!decide (k∈U1)&&(((N1[k]?).map fun n=>n.t.words.isSome).getD false)) (List.range N1.length)
        rw [List.length_range] at this
        omega
       ·have:=List.mem_range.mp (List.mem_filter.mp hk).1
        omega
      refine⟨⟨_,aF.of Yi⟩,fun D5 vC=>C9 vC Yi abT F15.hp (fun h hh=>?_) (by rw [List.length_append,List.length_map]; omega) rfl fun ys H16 s16 abU Yj=>?_⟩
      ·rcases List.mem_append.mp hh with hh | hh
       ·exact JM.2 h hh
       ·obtain⟨k,hk,rfl⟩:=List.mem_map.mp hh
        exact dl1.2 k hk
      have eL:kN ps (zH++(dN N1 U1).map fun k=>(k,Bk N1 k))=kN ps zH++(dN N1 U1).map fun k=>(ps.getD k 0,Bk N1 k):=by
       unfold kN
       rw [List.map_append,List.map_map]
       rfl
      rw [eL] at Yj
      have NG:=F15.same s16
      have abV:=Yg.same s16
      have abW:=s16 _ _ Yh
      obtain⟨xl,abX,Mh⟩:=NG.ts.hr
      refine⟨_,_,Mh.Et (aF.of abX),Yj.Et (aF.of abU),X9 _,?_⟩
      rw [if_pos rfl,e_]
      clear F15 Yg Yh s16 Yj abU abX Mh Yi abT vC
      clear eL
      generalize (zH++(dN N1 U1).map fun k=>(k,Bk N1 k))=hA at NG
      generalize (kN ps zH++(dN N1 U1).map fun k=>(ps.getD k 0,Bk N1 k))=hB at NG
      obtain⟨aiN,agP⟩:=NG.ts.ms.tm.ob
      have aaQ:=NG.nw.nm.len
      have aiO:N3.length=N.length:=Kq.u3.len.trans (Kq.u2.len.trans l1)
      obtain⟨xs,R,hR,eRw⟩:=id NG.ts.ms.tm
      have eP:D_ (R.map Rw.b)=ps.map fun(p:Nat)=>(p:Int):=by
       rw [A1,←NG.nw.nm.fst,←eRw,List.map_map,List.map_map]
       rfl
      have hRl:(R.map Rw.b).length < 64:=by
       have:=congrArg List.length eRw
       rw [List.length_map] at this
       rw [List.length_map]
       omega
      refine⟨false,rfl,dH ⟨_,_,agP,aW,M,xs,R.map Rw.b,rfl,hR.mem,hRl,fun q1 ns1 H17 s17 hq1 abY J0 hs1=>?_⟩⟩
      have F17:=NG.same s17
      refine⟨_,aF.of F17.hp,by rw [List.length_map]; omega,fun q2 ns2 Lp gh Ai=>?_⟩
      have e12:ns1=ns2:=CU ((J0.trans (by rw [eP])).trans gh.symm) hs1 Ai
      subst e12
      have Zi:=ak.put (o:=.lst (ns1.map V.int)) Lp
      refine⟨_,_,.mj (aF.of (Zi _ _ abY)) (dn _),.mj (aF.of ae) (dn _),pD _,?_⟩
      rw [if_pos rfl,e_]
      have F18:=F17.same Zi
      have Yk:=(abV.same s17).same Zi
      have Yl:=Zi _ _ (s17 _ _ abW)
      generalize upd H17 q2 (.lst (ns1.map V.int))=H18 at Zi F18 Yk Yl
      clear NG F17 abV abW hR hq1 abY Lp s17 Zi
      refine⟨false,rfl,dH ?_⟩
      refine a6.of (ag (bM PassesOwn.never rfl (cG rfl T.cF (aa (bh a9 rfl T.dI dr (aa (pv 3) af)) af)) (a7 (i:=7) du.nd rfl (Or.inl rfl)) aw) aw) ?_
      dsimp! []
      refine⟨_,.inl (aF.of F18.rs.hr),by rw [List.length_map]; omega,by rw [List.length_map]; omega,?_⟩
      rw [List.length_map]
      have MY:fu N3:=((Ae.up Kq.u1 (uG _ _)).up Kq.u2 (Bp _ _)).up Kq.u3 (uG _ _)
      refine ee (IL3 a K M km gd sc lr lp hd hl D r t ps N3 E7 hA hB ls (Zf N N1 N2 U1 U2)) ⟨_,_,_,_,rfl,F18,Yk,Yl⟩ ?_ ?_
      ·rintro i σ H19 hi ⟨o1,o7,Xl,Ad,rfl,Zj,abZ,aca⟩
       have hiE:i < E7.length:=by omega
       obtain⟨⟨pl,e⟩,ep⟩:∃p,E7[i]=p:=⟨_,rfl⟩
       have he:E7[i]?=some (pl,e):=by rw [List.getElem?_eq_getElem hiE,ep]
       obtain⟨n,en⟩:∃n,N3[i]=n:=⟨_,rfl⟩
       have hn:N3[i]?=some n:=by rw [List.getElem?_eq_getElem hi,en]
       obtain⟨aiP,agQ⟩:=Zj.ts.ms.tm.ob
       obtain⟨agR,agS,acb⟩:=Zj.ts.ms.tm.there (List.mem_of_getElem? he)
       refine gN ?_
       refine a6.of (ag (aN (i:=12) du.nd rfl (Or.inl rfl) (aC (pv 2) T.au T.ia (jD T) (hr.mono (by decide)) T.mE .nil ar (aa (aG ay (pv 4) (pv 7) (fun _ _=>rfl)) af))) (ag (hJ (j:=13) rfl du.nd rfl rfl (gw (x:="_law_value_here") (ns:=["_law_places"]) (fr:=[4]) rfl (by decide +kernel) rfl (by decide +kernel) rfl (List.forall_mem_cons.mpr ⟨rfl,List.forall_mem_nil _⟩) rfl rfl (List.forall_mem_cons.mpr ⟨⟨rfl,rfl,.inl rfl⟩,List.forall_mem_nil _⟩) (by decide +kernel)) (bg (aG ay (aG ay (pv 3) (pv 7) (fun _ _=>rfl)) aq (fun _ _=>rfl))) (fun _ _ _ _=>(aD (X0 T) (hr.mono (by decide)) rfl T.QW T.pw.kp T.QV .nil ar (aa (pv 0) (aa (pv 1) af)))) (fun _ _ _ _=>.nil)) (ag (cO (PW.pt (EY (aH (jx hr.units) (bQ (L:=[(a.aZ,cM a K),(a.ax,cM a K),(a.az,cM a K)]) (pv 12) (List.forall_mem_cons.mpr ⟨⟨_,_,_,_,T.bO,T.lL,dz T,hr.mono (by decide),T.eO⟩,List.forall_mem_cons.mpr ⟨⟨_,_,_,_,T.aK,T.bA,dz T,hr.mono (by decide),T.eO⟩,List.forall_mem_cons.mpr ⟨⟨_,_,_,_,T.aR,T.bG,dz T,hr.mono (by decide),T.eO⟩,List.forall_mem_nil _⟩⟩⟩) .nil ar) (pv 13) (aQ _)) (Ag (aH rz (bQ (L:=[(a.aZ,ff),(a.ax,lO a K),(a.az,ff)]) (pv 12) (List.forall_mem_cons.mpr ⟨⟨_,_,_,_,T.bO,T.oN,ij T,hr.mono (by decide),T.kl⟩,List.forall_mem_cons.mpr ⟨⟨_,_,_,_,T.aK,T.oO,ua T,hr.mono (by decide),T.y0⟩,List.forall_mem_cons.mpr ⟨⟨_,_,_,_,T.aR,T.b_,ij T,hr.mono (by decide),T.kl⟩,List.forall_mem_nil _⟩⟩⟩) .nil ar) (aG ay (aG ay (pv 3) (pv 7) (fun _ _=>rfl)) aq (fun _ _=>rfl)) (aQ _))))) (ah (aE gM)) bB) (ah (cO (aH rz (aC (pv 2) T.au T.gB (ip T) (hr.mono (by decide)) T.ky .nil ar (aa (aG ay (pv 4) (pv 7) (fun _ _=>rfl)) af)) (fE rF (pv 7) (aG ay (pv 10) aq (fun _ _=>rfl)) (by with_unfolding_all rfl)) (aQ _)) (ah (aE gM)) bB))))) ?_
       have f1:=aW (pr:=M.pr) (lb:=M.lb) (n:="thing_at")
       dsimp! [Int.zero_add,agQ,HO.ins.injEq,f1]
       refine⟨lp,_,_,_,rfl,rfl,aF.of Zj.hp,Zj.at_ he,M,agR,agS,pl,e,rfl,acb,fun tp td H20 s20 Ln Xc acd=>?_⟩
       have NH:=Zj.same s20
       have ace:=abZ.same s20
       have acf:=s20 _ _ aca
       have fV:=List.mem_of_getElem? hn
       obtain⟨fx,A4,sM,zx⟩:=(NH.rs.ok n fV).EU
       refine⟨lr,_,_,_,rfl,rfl,aF.of NH.rs.hr,NH.rs.at_ hn,n.ra,_,_,_,rfl,rfl,aF.of (NH.rs.ok n fV).row,rfl,n.fl,rfl,⟨_,aF.of A4⟩,fun D6 hD6=>Ya hD6 A4 sM NH.hp (fun z hz=>by have:=MY n fV z hz; omega) zx rfl fun ys H21 s21 acg Ym=>?_⟩
       obtain⟨r1,r2⟩:=NH.nw.nm.rel i _ _ he hn
       have r2:e.t.fs=n.t.fs.map (pF ps):=r2
       obtain⟨_,w2⟩:=NH.nw.sw i _ _ he hn
       have w2:e.t.words=n.t.words:=w2
       rw [←r2] at Ym
       have F21:=NH.same s21
       have ach:=ace.same s21
       have aci:=s21 _ _ acf
       have NI:=acd.same s21
       clear NH ace acf A4 sM hD6 Zj abZ aca acd s20 s21 F18 Yk Yl Ln Xc
       obtain⟨aiQ,RJ⟩:=NI.ob
       refine⟨tp,rfl,_,_,_,RJ,e.t.no td,_,e.t.mem _,tp,td,e.t,rfl,NI,fun r5 fx5 Rj pM Ek=>?_⟩
       have NJ:=ak.put (o:=.lst fx5) Rj
       refine⟨_,_,eC.Et (aF.of ae) (pM.same NJ),eC.Et (aF.of (NJ _ _ acg)) (Ym.same NJ),NB _,?_⟩
       rw [if_pos rfl,e_]
       have NK:=F21.same NJ
       have NM:=ach.same NJ
       have zB:=NJ _ _ aci
       have Yn:=NI.same NJ
       generalize upd H21 r5 (.lst fx5)=H22 at NJ NK NM zB Yn
       clear F21 ach aci NI NJ pM acg Ym Rj RJ
       obtain⟨aiR,acj⟩:=Yn.ob
       refine⟨false,rfl,dH ⟨tp,rfl,_,_,_,acj,e.t.no td,iS e.t Yn ?_⟩⟩
       rw [w2]
       obtain⟨aiS,agT⟩:=NK.ts.ms.tm.ob
       obtain⟨agU,agV,ack⟩:=NK.ts.ms.tm.there (List.mem_of_getElem? he)
       refine⟨lr,_,_,_,rfl,rfl,aF.of NK.rs.hr,NK.rs.at_ hn,n.ra,_,_,_,rfl,rfl,aF.of (NK.rs.ok n fV).row,rfl,by cases n.t.words <;> rfl,?_⟩
       rw [if_neg (by simp)]
       have hll:ls.length=7:=NM.len
       have h4:ls[4]?=some ls[4]:=List.getElem?_eq_getElem (by omega)
       have uu:=NM.at_ 4 ls[4] U2 h4 rfl
       refine⟨_,_,agT,aW,lp,_,_,_,rfl,rfl,aF.of NK.hp,NK.at_ he,M,agU,agV,pl,e,rfl,ack,?_⟩
       refine⟨r,_,_,V.ref ls[4],rfl,rfl,aF.of zB,bp (j:=4) (by rw [List.getElem?_map,h4]; rfl),ls[4],_,rfl,.inl (aF.of uu),rfl,fh U2,rfl,?_⟩
       have em:decide (i∈U2)=e.bR:=by
        rw [←eU]
        exact Bl he
       rw [if_neg Bool.false_ne_true,iu,em,if_neg (by simp)]
       exact⟨_,_,_,_,rfl,NK,NM,zB⟩
      ·rintro σ H19 ⟨o1,o7,Xl,Ad,rfl,_⟩
       refine a6.of (ah (aE gM)) ?_
       dsimp! []
       exact q _
end
theorem dR {P:List Value→Prop}(h:∀x0,P [x0]):∀us:List Value,us.length=1→P us
 | [x0],_=>h x0
theorem d8 {P:List Value→Prop}(h:∀x0 x1,P [x0,x1]):∀us:List Value,us.length=2→P us
 | [x0,x1],_=>h x0 x1
theorem gS {P:List Value→Prop}(h:∀x0 x1 x2,P [x0,x1,x2]):∀us:List Value,us.length=3→P us
 | [x0,x1,x2],_=>h x0 x1 x2
theorem Yo {P:List Value→Prop}(h:∀x0 x1 x2 x3,P [x0,x1,x2,x3]):∀us:List Value,us.length=4→P us
 | [x0,x1,x2,x3],_=>h x0 x1 x2 x3
noncomputable def i5 (K:PySem.W.Frag) (x qual:Str) (st:Stmt) (f:Addr):Prop:=PySem.W.keepIn K (.ref f)=true∧∃fd,cD K x qual st f fd
noncomputable def fR (K:PySem.W.Frag) (x qual:Str) (st:Stmt) (f:Addr):Prop:=PySem.W.isFn K (.ref f)=true∧i5 K x qual st f
theorem c8 {K:PySem.W.Frag}{x qual:Str}{st:Stmt}{f:Addr}{oc:Value}{od an:Option Addr}{Fl:Array (Option Value)}{kV doc pm bL ct:Value}(l:K.lookup f=some ⟨oc,od,.func (PySem.W.fnOf x qual (dG st) (dk st) (aj st) .none kV doc pm an bL ct),Fl⟩) (c:PySem.W.codeIn K bL qual=true) (k:PySem.W.keepIn K (.ref f)=true):i5 K x qual st f:=⟨k,_,tK l c k⟩
theorem all_mk {l:PySem.W.OpenLaw}{w:World}{K:PySem.W.Frag}{h:Heap}{mg:Str→Option Value}{fa:Addr}(X:K.In h) (G:h.Ns mainGlobals mg) (hfa:mg "law"=some (.ref fa))
  {oH jj oI mm mn oJ oK oM rQ rR rS rT rV mq mv mw jm kr oP jn mx oQ oR DL DM DN DO rW DP DQ y9 DR DS DT oU oV oW oX oY my mz mB rX rY rZ r0 r8 r_ sd ku mC mD pb se sh si sj sk so sq sr su sv sy sA sC sE sF kz ph pj pk mF mG pq pw mH bX aX bb ba cq a_:Addr}
  {fG gz fH fI fJ gA uJ Br Bs Bt:Tok}
  {dm eV:Addr}
  {Bu Ks:Nat}{Bv Kt:Array (Option Value)}
  {Yp Ku acm RK Yq Kv:Option Addr}
  {Yr acn Ys:Array (Option Value)}
  {Yt Kw Kx Ky uK Kz aco RL RN RO Dc RP Yu KA KC KD Bw KG:Value}
  {oG cY jz cH:Addr}{Yv NN:Option Addr}{KH Dd:Array Value}{Yw NO:Array (Option Value)}{ts:List Addr}
  (KI:PySem.W.nsIn K mainGlobals "Thing"=some (some (.ref bX)))
  (qF:PySem.W.nsIn K mainGlobals "PlainThing"=some (some (.ref aX)))
  (uL:PySem.W.nsIn K mainGlobals "PairThing"=some (some (.ref bb)))
  (Bx:PySem.W.nsIn K mainGlobals "Marking"=some (some (.ref ba)))
  (KJ:PySem.W.nsIn K mainGlobals "Rooms"=some (some (.ref cq)))
  (Eu:PySem.W.nsIn K mainGlobals "Memory"=some (some (.ref a_)))
  (wy:PySem.W.nsIn K mainGlobals "is_thing"=some (some (.ref oH)))
  (By:i5 K "is_thing" "is_thing" Ga oH)
  (wA:PySem.W.nsIn K mainGlobals "names_in"=some (some (.ref jj)))
  (Bz:i5 K "names_in" "names_in" Gb jj)
  (rL:PySem.W.findIn K (.ref bX) "__init__"=some (some (.ref oI)))
  (uM:fR K "__init__" "Thing.__init__" Gd oI)
  (oE:PySem.W.findIn K (.ref bX) "sort_of"=some (some (.ref mm)))
  (mS:fR K "sort_of" "Thing.sort_of" Ge mm)
  (oF:PySem.W.findIn K (.ref bX) "fields"=some (some (.ref mn)))
  (pR:fR K "fields" "Thing.fields" Gf mn)
  (rM:PySem.W.findIn K (.ref bX) "holds"=some (some (.ref oJ)))
  (qG:fR K "holds" "Thing.holds" Gg oJ)
  (rN:PySem.W.findIn K (.ref bX) "waits"=some (some (.ref oK)))
  (qH:fR K "waits" "Thing.waits" Gh oK)
  (rO:PySem.W.findIn K (.ref bX) "words"=some (some (.ref oM)))
  (qI:fR K "words" "Thing.words" Gi oM)
  (wJ:PySem.W.findIn K (.ref aX) "__init__"=some (some (.ref rQ)))
  (kO:fR K "__init__" "PlainThing.__init__" Gj rQ)
  (wL:PySem.W.findIn K (.ref aX) "holds"=some (some (.ref rR)))
  (jH:fR K "holds" "PlainThing.holds" Gk rR)
  (wN:PySem.W.findIn K (.ref aX) "words"=some (some (.ref rS)))
  (jI:fR K "words" "PlainThing.words" Gm rS)
  (wQ:PySem.W.findIn K (.ref bb) "__init__"=some (some (.ref rT)))
  (lU:fR K "__init__" "PairThing.__init__" Gp rT)
  (wU:PySem.W.findIn K (.ref bb) "waits"=some (some (.ref rV)))
  (kP:fR K "waits" "PairThing.waits" Gq rV)
  (wX:PySem.W.nsIn K mainGlobals "plain"=some (some (.ref mq)))
  (NP:i5 K "plain" "plain" Gr mq)
  (wZ:PySem.W.nsIn K mainGlobals "weak"=some (some (.ref mv)))
  (Yx:i5 K "weak" "weak" Gs mv)
  (w5:PySem.W.nsIn K mainGlobals "pair"=some (some (.ref mw)))
  (Yy:i5 K "pair" "pair" Gu mw)
  (w9:PySem.W.nsIn K mainGlobals "serials_of"=some (some (.ref jm)))
  (uN:i5 K "serials_of" "serials_of" Gv jm)
  (xa:PySem.W.nsIn K mainGlobals "marked_places"=some (some (.ref kr)))
  (mT:i5 K "marked_places" "marked_places" Gw kr)
  (xf:PySem.W.nsIn K mainGlobals "is_blind"=some (some (.ref oP)))
  (BA:i5 K "is_blind" "is_blind" Gx oP)
  (xh:PySem.W.nsIn K mainGlobals "empty_blind"=some (some (.ref jn)))
  (qJ:i5 K "empty_blind" "empty_blind" Gy jn)
  (xj:PySem.W.nsIn K mainGlobals "due_places"=some (some (.ref mx)))
  (acp:K.lookup mx=some ⟨Yt,Yp,.func (PySem.W.fnOf "due_places" "due_places" (dG ki) (dk ki) (aj ki) .none Kw Kx Ky Ku uK Kz),Yr⟩)
  (Yz:PySem.W.codeIn K uK "due_places"=true)
  (acq:PySem.W.keepIn K (.ref mx)=true)
  (xk:PySem.W.nsIn K mainGlobals "bring_back"=some (some (.ref oQ)))
  (uO:i5 K "bring_back" "bring_back" Gz oQ)
  (xn:PySem.W.nsIn K mainGlobals "turn"=some (some (.ref oR)))
  (YA:i5 K "turn" "turn" GA oR)
  (HC:PySem.W.findIn K (.ref ba) "__init__"=some (some (.ref DL)))
  (pS:fR K "__init__" "Marking.__init__" UK DL)
  (HE:PySem.W.findIn K (.ref ba) "shade"=some (some (.ref DM)))
  (mU:fR K "shade" "Marking.shade" UL DM)
  (HG:PySem.W.findIn K (.ref ba) "shade_all"=some (some (.ref DN)))
  (i6:fR K "shade_all" "Marking.shade_all" UM DN)
  (HI:PySem.W.findIn K (.ref ba) "has_grey"=some (some (.ref DO)))
  (jJ:fR K "has_grey" "Marking.has_grey" UN DO)
  (xp:PySem.W.findIn K (.ref ba) "step"=some (some (.ref rW)))
  (pT:fR K "step" "Marking.step" GB rW)
  (HK:PySem.W.findIn K (.ref ba) "drain"=some (some (.ref DP)))
  (mV:fR K "drain" "Marking.drain" UO DP)
  (HM:PySem.W.findIn K (.ref ba) "empty_row"=some (some (.ref DQ)))
  (i7:fR K "empty_row" "Marking.empty_row" UP DQ)
  (HP:PySem.W.findIn K (.ref ba) "pairs_by_serial"=some (some (.ref y9)))
  (agW:PySem.W.isFn K (.ref y9)=true)
  (agX:K.lookup y9=some ⟨aco,acm,.func (PySem.W.fnOf "pairs_by_serial" "Marking.pairs_by_serial" (dG tT) (dk tT) (aj tT) .none RL RN RO RK Dc RP),acn⟩)
  (acr:PySem.W.codeIn K Dc "Marking.pairs_by_serial"=true)
  (acs:PySem.W.keepIn K (.ref y9)=true)
  (HQ:PySem.W.findIn K (.ref ba) "shade_values"=some (some (.ref DR)))
  (gI:fR K "shade_values" "Marking.shade_values" UQ DR)
  (HS:PySem.W.findIn K (.ref ba) "shade_value"=some (some (.ref DS)))
  (gT:fR K "shade_value" "Marking.shade_value" UR DS)
  (HV:PySem.W.findIn K (.ref ba) "grey"=some (some (.ref DT)))
  (pU:fR K "grey" "Marking.grey" US DT)
  (xt:PySem.W.nsIn K mainGlobals "header"=some (some (.ref oU)))
  (KL:i5 K "header" "header" GC oU)
  (xv:PySem.W.nsIn K mainGlobals "kind_in"=some (some (.ref oV)))
  (Ew:i5 K "kind_in" "kind_in" GD oV)
  (xx:PySem.W.nsIn K mainGlobals "size_in"=some (some (.ref oW)))
  (Ex:i5 K "size_in" "size_in" GF oW)
  (xA:PySem.W.nsIn K mainGlobals "is_marked"=some (some (.ref oX)))
  (zI:i5 K "is_marked" "is_marked" GG oX)
  (xC:PySem.W.nsIn K mainGlobals "has_words"=some (some (.ref oY)))
  (zJ:i5 K "has_words" "has_words" GH oY)
  (xE:PySem.W.nsIn K mainGlobals "with_mark"=some (some (.ref my)))
  (zK:i5 K "with_mark" "with_mark" GI my)
  (xG:PySem.W.nsIn K mainGlobals "with_words"=some (some (.ref mz)))
  (uP:i5 K "with_words" "with_words" GJ mz)
  (xI:PySem.W.nsIn K mainGlobals "with_bit"=some (some (.ref mB)))
  (BB:i5 K "with_bit" "with_bit" GK mB)
  (xK:PySem.W.findIn K (.ref cq) "__init__"=some (some (.ref rX)))
  (uQ:fR K "__init__" "Rooms.__init__" GL rX)
  (xN:PySem.W.findIn K (.ref cq) "gap"=some (some (.ref rY)))
  (zL:fR K "gap" "Rooms.gap" GN rY)
  (xP:PySem.W.findIn K (.ref cq) "gap_in"=some (some (.ref rZ)))
  (pV:fR K "gap_in" "Rooms.gap_in" GO rZ)
  (xR:PySem.W.findIn K (.ref cq) "fill_in"=some (some (.ref r0)))
  (mW:fR K "fill_in" "Rooms.fill_in" GP r0)
  (xT:PySem.W.findIn K (.ref cq) "read"=some (some (.ref r8)))
  (uR:fR K "read" "Rooms.read" GQ r8)
  (xV:PySem.W.findIn K (.ref cq) "write"=some (some (.ref r_)))
  (qK:fR K "write" "Rooms.write" GS r_)
  (xX:PySem.W.findIn K (.ref cq) "room_of"=some (some (.ref sd)))
  (mX:fR K "room_of" "Rooms.room_of" GU sd)
  (xZ:PySem.W.nsIn K mainGlobals "first_field"=some (some (.ref ku)))
  (qL:i5 K "first_field" "first_field" GV ku)
  (x5:PySem.W.nsIn K mainGlobals "size_of"=some (some (.ref mC)))
  (Ey:i5 K "size_of" "size_of" GW mC)
  (x8:PySem.W.nsIn K mainGlobals "words_cell"=some (some (.ref mD)))
  (uS:i5 K "words_cell" "words_cell" GX mD)
  (x_:PySem.W.nsIn K mainGlobals "cells_of"=some (some (.ref pb)))
  (BD:i5 K "cells_of" "cells_of" GY pb)
  (yb:PySem.W.findIn K (.ref a_) "__init__"=some (some (.ref se)))
  (qM:fR K "__init__" "Memory.__init__" GZ se)
  (yd:PySem.W.findIn K (.ref a_) "put_in"=some (some (.ref sh)))
  (mY:fR K "put_in" "Memory.put_in" G_ sh)
  (yf:PySem.W.findIn K (.ref a_) "fill_from"=some (some (.ref si)))
  (jK:fR K "fill_from" "Memory.fill_from" Ha si)
  (yh:PySem.W.findIn K (.ref a_) "head_at"=some (some (.ref sj)))
  (lV:fR K "head_at" "Memory.head_at" Hb sj)
  (yk:PySem.W.findIn K (.ref a_) "thing_at"=some (some (.ref sk)))
  (kQ:fR K "thing_at" "Memory.thing_at" Hc sk)
  (ym:PySem.W.findIn K (.ref a_) "words_at"=some (some (.ref so)))
  (kR:fR K "words_at" "Memory.words_at" Hd so)
  (yo:PySem.W.findIn K (.ref a_) "serial_at"=some (some (.ref sq)))
  (jL:fR K "serial_at" "Memory.serial_at" He sq)
  (yq:PySem.W.findIn K (.ref a_) "size_at"=some (some (.ref sr)))
  (lW:fR K "size_at" "Memory.size_at" Hf sr)
  (yt:PySem.W.findIn K (.ref a_) "sort_at"=some (some (.ref su)))
  (lX:fR K "sort_at" "Memory.sort_at" Hg su)
  (yv:PySem.W.findIn K (.ref a_) "marked_at"=some (some (.ref sv)))
  (jM:fR K "marked_at" "Memory.marked_at" Hh sv)
  (yx:PySem.W.findIn K (.ref a_) "set_mark"=some (some (.ref sy)))
  (kT:fR K "set_mark" "Memory.set_mark" Hi sy)
  (yz:PySem.W.findIn K (.ref a_) "set_field"=some (some (.ref sA)))
  (jN:fR K "set_field" "Memory.set_field" Hj sA)
  (yB:PySem.W.findIn K (.ref a_) "set_words"=some (some (.ref sC)))
  (jO:fR K "set_words" "Memory.set_words" Hk sC)
  (yD:PySem.W.findIn K (.ref a_) "places"=some (some (.ref sE)))
  (mZ:fR K "places" "Memory.places" Hl sE)
  (yF:PySem.W.findIn K (.ref a_) "places_in"=some (some (.ref sF)))
  (jP:fR K "places_in" "Memory.places_in" Hm sF)
  (yH:PySem.W.nsIn K mainGlobals "_law_cell_at"=some (some (.ref kz)))
  (qN:i5 K "_law_cell_at" "_law_cell_at" Hn kz)
  (yJ:PySem.W.nsIn K mainGlobals "_law_number"=some (some (.ref ph)))
  (uT:i5 K "_law_number" "_law_number" Ho ph)
  (yL:PySem.W.nsIn K mainGlobals "_law_graph"=some (some (.ref pj)))
  (zM:i5 K "_law_graph" "_law_graph" Hq pj)
  (yN:PySem.W.nsIn K mainGlobals "_law_thing"=some (some (.ref pk)))
  (zN:i5 K "_law_thing" "_law_thing" Hr pk)
  (yP:PySem.W.nsIn K mainGlobals "_law_closed"=some (some (.ref mF)))
  (uU:i5 K "_law_closed" "_law_closed" Hs mF)
  (yR:PySem.W.nsIn K mainGlobals "_law_clean"=some (some (.ref mG)))
  (zO:i5 K "_law_clean" "_law_clean" Ht mG)
  (yT:PySem.W.nsIn K mainGlobals "_law_expected"=some (some (.ref pq)))
  (pW:i5 K "_law_expected" "_law_expected" Hu pq)
  (yV:PySem.W.nsIn K mainGlobals "_law_value"=some (some (.ref pw)))
  (zP:i5 K "_law_value" "_law_value" Hv pw)
  (rP:PySem.W.nsIn K mainGlobals "law"=some (some (.ref mH)))
  (acu:K.lookup mH=some ⟨Yu,Yq,.func (PySem.W.fnOf "law" "law" (dG kj) (dk kj) (aj kj) .none KA KC KD Kv Bw KG),Ys⟩)
  (YB:PySem.W.codeIn K Bw "law"=true)
  (acv:PySem.W.keepIn K (.ref mH)=true)
  (KN:PySem.W.plainGet K bX Str.empty=true)
  (KO:PySem.W.hasDictIn K bX=true)
  (KP:PySem.W.plainOver K bX=true)
  (KQ:PySem.W.findIn K (.ref bX) "__setattr__"=some (some (.builtin "object.__setattr__")))
  (KR:PySem.W.makesIn K bX=true)
  (KS:PySem.W.keepIn K (.ref bX)=true)
  (cT:PySem.W.findIn K (.ref bX) "called"=some none)
  (dh:PySem.W.findIn K (.ref bX) "parts"=some none)
  (qO:PySem.W.plainGet K aX Str.empty=true)
  (qP:PySem.W.hasDictIn K aX=true)
  (qQ:PySem.W.plainOver K aX=true)
  (qR:PySem.W.findIn K (.ref aX) "__setattr__"=some (some (.builtin "object.__setattr__")))
  (qS:PySem.W.makesIn K aX=true)
  (qT:PySem.W.keepIn K (.ref aX)=true)
  (bP:PySem.W.findIn K (.ref aX) "called"=some none)
  (bH:PySem.W.findIn K (.ref aX) "parts"=some none)
  (bu:PySem.W.findIn K (.ref aX) "last_words"=some none)
  (uV:PySem.W.plainGet K bb Str.empty=true)
  (uW:PySem.W.hasDictIn K bb=true)
  (uX:PySem.W.plainOver K bb=true)
  (uY:PySem.W.findIn K (.ref bb) "__setattr__"=some (some (.builtin "object.__setattr__")))
  (uZ:PySem.W.makesIn K bb=true)
  (u0:PySem.W.keepIn K (.ref bb)=true)
  (bV:PySem.W.findIn K (.ref bb) "called"=some none)
  (bz:PySem.W.findIn K (.ref bb) "parts"=some none)
  (BE:PySem.W.plainGet K ba Str.empty=true)
  (BF:PySem.W.hasDictIn K ba=true)
  (BG:PySem.W.plainOver K ba=true)
  (BH:PySem.W.findIn K (.ref ba) "__setattr__"=some (some (.builtin "object.__setattr__")))
  (BI:PySem.W.makesIn K ba=true)
  (BJ:PySem.W.keepIn K (.ref ba)=true)
  (aM:PySem.W.findIn K (.ref ba) "memory"=some none)
  (aS:PySem.W.findIn K (.ref ba) "grey_places"=some none)
  (KU:PySem.W.plainGet K cq Str.empty=true)
  (KW:PySem.W.hasDictIn K cq=true)
  (KY:PySem.W.plainOver K cq=true)
  (KZ:PySem.W.findIn K (.ref cq) "__setattr__"=some (some (.builtin "object.__setattr__")))
  (K0:PySem.W.makesIn K cq=true)
  (K1:PySem.W.keepIn K (.ref cq)=true)
  (dv:PySem.W.findIn K (.ref cq) "many"=some none)
  (cI:PySem.W.findIn K (.ref cq) "cells"=some none)
  (bx:PySem.W.findIn K (.ref cq) "inside"=some none)
  (Ez:PySem.W.plainGet K a_ Str.empty=true)
  (EA:PySem.W.hasDictIn K a_=true)
  (EB:PySem.W.plainOver K a_=true)
  (EC:PySem.W.findIn K (.ref a_) "__setattr__"=some (some (.builtin "object.__setattr__")))
  (ED:PySem.W.makesIn K a_=true)
  (EE:PySem.W.keepIn K (.ref a_)=true)
  (aJ:PySem.W.findIn K (.ref a_) "rooms"=some none)
  (br:PySem.W.findIn K (.ref a_) "begins"=some none)
  (EF:PySem.W.nsIn K mainGlobals "NOTHING"=some (some (.ref dm)))
  (pX:K.lookup dm=some ⟨.type "tuple",none,.seq #[.str "nothing" uJ] Bu,Bv⟩)
  (zQ:PySem.W.nsIn K mainGlobals "KIND_BITS"=some (some (.int 3 fG)))
  (BK:PySem.W.nsIn K mainGlobals "MARK_BIT"=some (some (.int 4 gz)))
  (zR:PySem.W.nsIn K mainGlobals "WORDS_BIT"=some (some (.int 8 fH)))
  (zS:PySem.W.nsIn K mainGlobals "SIZE_FROM"=some (some (.int 4 fI)))
  (NQ:PySem.W.nsIn K mainGlobals "SORTS"=some (some (.ref eV)))
  (zT:K.lookup eV=some ⟨.type "tuple",none,.seq #[.str "plain" Br,.str "weak" Bs,.str "pair" Bt] Ks,Kt⟩)
  (zU:PySem.W.nsIn K mainGlobals "SERIAL_AT"=some (some (.int 1 fJ)))
  (BL:PySem.W.nsIn K mainGlobals "WORDS_AT"=some (some (.int 2 gA)))
  (iz:PySem.W.findIn K (.ref aX) "sort_of"=some (some (.ref mm)))
  (i8:PySem.W.findIn K (.ref aX) "fields"=some (some (.ref mn)))
  (jQ:PySem.W.findIn K (.ref aX) "waits"=some (some (.ref oK)))
  (i9:PySem.W.findIn K (.ref bb) "sort_of"=some (some (.ref mm)))
  (jR:PySem.W.findIn K (.ref bb) "fields"=some (some (.ref mn)))
  (kU:PySem.W.findIn K (.ref bb) "holds"=some (some (.ref oJ)))
  (kW:PySem.W.findIn K (.ref bb) "words"=some (some (.ref oM)))
  (fj:Dc=.ref oG)
  (pY:K.lookup oG=some ⟨.type "code",Yv,.fields KH,Yw⟩)
  (pZ:KH[11]?=some (.ref cY))
  (Cz:PySem.W.codeHdIn K oG cY=true)
  (fk:cY∈ts)
  (qU:uK=.ref jz)
  (Lx:K.lookup jz=some ⟨.type "code",NN,.fields Dd,NO⟩)
  (Ly:Dd[11]?=some (.ref cH))
  (tX:PySem.W.codeHdIn K jz cH=true)
  (qV:cH∈ts)
  (agY:∀b∈ts,b=cY∨b=cH)
  (lne:cY≠cH)
  (p3:PySem.W.specialIn K (.ref bX) "__getattribute__"=some (some (.builtin "type.__getattribute__")))
  (p4:PySem.W.readsIn K bX (.type "type")=true)
  (p5:PySem.W.findCls K (.ref bX) (.type "type") "__init__"=some (.val (.ref oI)))
  (CP:PySem.W.nsIn K mainGlobals "any"=some none)
  (fK:PySem.W.nsIn K mainGlobals "enumerate"=some none)
  (CQ:PySem.W.nsIn K mainGlobals "int"=some none)
  (dI:PySem.W.nsIn K mainGlobals "len"=some none)
  (ie:PySem.W.nsIn K mainGlobals "list"=some none)
  (zg:PySem.W.nsIn K mainGlobals "min"=some none)
  (cF:PySem.W.nsIn K mainGlobals "range"=some none)
  (dJ:PySem.W.nsIn K mainGlobals "sorted"=some none)
  (nW:PySem.W.nsIn K mainGlobals "tuple"=some none)
  : ∃fd:FuncData,(∀(s:Shared) (v:Value),BindsTo s fd ⟨[v],[]⟩ [("_law_script",v)])∧(∀b∈ts,∃c,PySem.W.codeHdIn K c b=true)∧∀base:Heap,K.In base→base.Ns mainGlobals mg→BM mg base→aU l.prog w K mg base cC 20 fa fd ["_law_script"] (uI ts K):=by
 have e:mH=fa:=by
  have e:=hfa.symm.trans (PySem.W.mg_of X G rP)
  cases e
  rfl
 subst e
 obtain⟨ahG,wz,RQ⟩:=By
 obtain⟨ahH,wB,RR⟩:=Bz
 obtain⟨acw,acx,wC,RT⟩:=uM
 obtain⟨K2,K3,wD,RU⟩:=mS
 obtain⟨K4,K5,wF,RV⟩:=pR
 obtain⟨RW,RX,wG,RY⟩:=qG
 obtain⟨RZ,R0,wH,R5⟩:=qH
 obtain⟨R6,R7,wI,R8⟩:=qI
 obtain⟨acy,ahI,wK,R9⟩:=kO
 obtain⟨acz,acA,wM,R_⟩:=jH
 obtain⟨acB,acC,wO,Sa⟩:=jI
 obtain⟨acD,ahJ,wR,Sb⟩:=lU
 obtain⟨acE,acF,wW,Sd⟩:=kP
 obtain⟨ahK,wY,Se⟩:=NP
 obtain⟨ahL,w4,Sf⟩:=Yx
 obtain⟨ahM,w6,Sg⟩:=Yy
 obtain⟨ahN,w_,Sh⟩:=uN
 obtain⟨ahO,xc,Sj⟩:=mT
 obtain⟨ahP,xg,Sk⟩:=BA
 obtain⟨ahQ,xi,Sl⟩:=qJ
 have Sm:=tK (st:=ki) acp Yz acq
 obtain⟨ahR,xm,Sn⟩:=uO
 obtain⟨ahS,xo,So⟩:=YA
 obtain⟨agZ,aiT,HD,acG⟩:=pS
 obtain⟨aha,ahb,HF,acH⟩:=mU
 obtain⟨ahc,ahd,HH,acI⟩:=i6
 obtain⟨ahe,ahf,HJ,acJ⟩:=jJ
 obtain⟨acK,acL,xq,Sq⟩:=pT
 obtain⟨ahg,ahh,HL,acM⟩:=mV
 obtain⟨ahi,ahj,HN,acN⟩:=i7
 have acO:=tK (st:=tT) agX acr acs
 obtain⟨ahk,ahl,HR,acP⟩:=gI
 obtain⟨ahm,ahn,HU,acQ⟩:=gT
 obtain⟨aho,ahp,HW,acR⟩:=pU
 obtain⟨ahT,xu,Sr⟩:=KL
 obtain⟨ahU,xw,Ss⟩:=Ew
 obtain⟨ahV,xy,Su⟩:=Ex
 obtain⟨ahW,xB,Sv⟩:=zI
 obtain⟨ahX,xD,Sw⟩:=zJ
 obtain⟨ahY,xF,Sx⟩:=zK
 obtain⟨ahZ,xH,Sy⟩:=uP
 obtain⟨aia,xJ,Sz⟩:=BB
 obtain⟨acS,aib,xM,SA⟩:=uQ
 obtain⟨acT,acU,xO,SD⟩:=zL
 obtain⟨acV,acW,xQ,SE⟩:=pV
 obtain⟨acX,acY,xS,SF⟩:=mW
 obtain⟨acZ,ada,xU,SG⟩:=uR
 obtain⟨adb,ade,xW,SH⟩:=qK
 obtain⟨adf,adg,xY,SI⟩:=mX
 obtain⟨aic,x4,SJ⟩:=qL
 obtain⟨aid,x6,SK⟩:=Ey
 obtain⟨aie,x9,SM⟩:=uS
 obtain⟨aif,ya,SN⟩:=BD
 obtain⟨adh,aih,yc,SO⟩:=qM
 obtain⟨adi,adj,ye,SQ⟩:=mY
 obtain⟨adk,adl,yg,SR⟩:=jK
 obtain⟨adm,adn,yj,SS⟩:=lV
 obtain⟨ado,adp,yl,SU⟩:=kQ
 obtain⟨adq,ads,yn,SV⟩:=kR
 obtain⟨adt,adu,yp,SW⟩:=jL
 obtain⟨adv,adw,yr,SX⟩:=lW
 obtain⟨adx,ady,yu,SY⟩:=lX
 obtain⟨adz,adA,yw,S0⟩:=jM
 obtain⟨adB,adC,yy,S4⟩:=kT
 obtain⟨adD,adE,yA,S5⟩:=jN
 obtain⟨adF,adG,yC,S6⟩:=jO
 obtain⟨adH,adI,yE,S7⟩:=mZ
 obtain⟨adJ,adK,yG,S8⟩:=jP
 obtain⟨aii,yI,S9⟩:=qN
 obtain⟨aij,yK,S_⟩:=uT
 obtain⟨aik,yM,Ta⟩:=zM
 obtain⟨ail,yO,Tc⟩:=zN
 obtain⟨aim,yQ,Td⟩:=uU
 obtain⟨ain,yS,Te⟩:=zO
 obtain⟨aio,yU,Tf⟩:=pW
 obtain⟨aip,yW,Th⟩:=zP
 have adL:=tK (st:=kj) acu YB acv
 have adM:=RQ.binds (ps:=["value"]) fun _ _ _ _ _ _=>dR fun _=>rfl
 have adN:=RR.binds (ps:=["some"]) fun _ _ _ _ _ _=>dR fun _=>rfl
 have adO:=RT.binds (ps:=["self","sort","some"]) fun _ _ _ _ _ _=>gS fun _ _ _=>rfl
 have adP:=RU.binds (ps:=["self"]) fun _ _ _ _ _ _=>dR fun _=>rfl
 have adQ:=RV.binds (ps:=["self"]) fun _ _ _ _ _ _=>dR fun _=>rfl
 have adR:=RY.binds (ps:=["self"]) fun _ _ _ _ _ _=>dR fun _=>rfl
 have adS:=R5.binds (ps:=["self"]) fun _ _ _ _ _ _=>dR fun _=>rfl
 have adT:=R8.binds (ps:=["self"]) fun _ _ _ _ _ _=>dR fun _=>rfl
 have adU:=R9.binds (ps:=["self","some","last_words"]) fun _ _ _ _ _ _=>gS fun _ _ _=>rfl
 have adV:=R_.binds (ps:=["self"]) fun _ _ _ _ _ _=>dR fun _=>rfl
 have adW:=Sa.binds (ps:=["self"]) fun _ _ _ _ _ _=>dR fun _=>rfl
 have adX:=Sb.binds (ps:=["self","key","value"]) fun _ _ _ _ _ _=>gS fun _ _ _=>rfl
 have adY:=Sd.binds (ps:=["self"]) fun _ _ _ _ _ _=>dR fun _=>rfl
 have adZ:=Se.binds (ps:=["fields","words"]) fun _ _ _ _ _ _=>d8 fun _ _=>rfl
 have aea:=Sf.binds (ps:=["field"]) fun _ _ _ _ _ _=>dR fun _=>rfl
 have aeb:=Sg.binds (ps:=["key","value"]) fun _ _ _ _ _ _=>d8 fun _ _=>rfl
 have aec:=Sh.binds (ps:=["memory","places"]) fun _ _ _ _ _ _=>d8 fun _ _=>rfl
 have aed:=Sj.binds (ps:=["memory"]) fun _ _ _ _ _ _=>dR fun _=>rfl
 have aee:=Sk.binds (ps:=["memory","place"]) fun _ _ _ _ _ _=>d8 fun _ _=>rfl
 have aef:=Sl.binds (ps:=["memory","sort"]) fun _ _ _ _ _ _=>d8 fun _ _=>rfl
 have aeg:=Sm.binds (ps:=["memory"]) fun _ _ _ _ _ _=>dR fun _=>rfl
 have aeh:=Sn.binds (ps:=["memory","marking","heard"]) fun _ _ _ _ _ _=>gS fun _ _ _=>rfl
 have aei:=So.binds (ps:=["memory","marking","heard"]) fun _ _ _ _ _ _=>gS fun _ _ _=>rfl
 have ahq:=acG.binds (ps:=["self","memory"]) fun _ _ _ _ _ _=>d8 fun _ _=>rfl
 have ahr:=acH.binds (ps:=["self","place"]) fun _ _ _ _ _ _=>d8 fun _ _=>rfl
 have ahs:=acI.binds (ps:=["self","places"]) fun _ _ _ _ _ _=>d8 fun _ _=>rfl
 have aht:=acJ.binds (ps:=["self"]) fun _ _ _ _ _ _=>dR fun _=>rfl
 have aej:=Sq.binds (ps:=["self"]) fun _ _ _ _ _ _=>dR fun _=>rfl
 have ahu:=acM.binds (ps:=["self"]) fun _ _ _ _ _ _=>dR fun _=>rfl
 have ahv:=acN.binds (ps:=["self"]) fun _ _ _ _ _ _=>dR fun _=>rfl
 have ahw:=acO.binds (ps:=["self"]) fun _ _ _ _ _ _=>dR fun _=>rfl
 have ahx:=acP.binds (ps:=["self","pairs"]) fun _ _ _ _ _ _=>d8 fun _ _=>rfl
 have ahy:=acQ.binds (ps:=["self","place"]) fun _ _ _ _ _ _=>d8 fun _ _=>rfl
 have ahz:=acR.binds (ps:=["self"]) fun _ _ _ _ _ _=>dR fun _=>rfl
 have aek:=Sr.binds (ps:=["kind","marked","words","size"]) fun _ _ _ _ _ _=>Yo fun _ _ _ _=>rfl
 have ael:=Ss.binds (ps:=["number"]) fun _ _ _ _ _ _=>dR fun _=>rfl
 have aem:=Su.binds (ps:=["number"]) fun _ _ _ _ _ _=>dR fun _=>rfl
 have aen:=Sv.binds (ps:=["number"]) fun _ _ _ _ _ _=>dR fun _=>rfl
 have aeo:=Sw.binds (ps:=["number"]) fun _ _ _ _ _ _=>dR fun _=>rfl
 have aep:=Sx.binds (ps:=["number","marked"]) fun _ _ _ _ _ _=>d8 fun _ _=>rfl
 have aeq:=Sy.binds (ps:=["number","words"]) fun _ _ _ _ _ _=>d8 fun _ _=>rfl
 have aer:=Sz.binds (ps:=["number","bit","is_set"]) fun _ _ _ _ _ _=>gS fun _ _ _=>rfl
 have aes:=SA.binds (ps:=["self","many","cells"]) fun _ _ _ _ _ _=>gS fun _ _ _=>rfl
 have aet:=SD.binds (ps:=["self","length"]) fun _ _ _ _ _ _=>d8 fun _ _=>rfl
 have aeu:=SE.binds (ps:=["self","room","length"]) fun _ _ _ _ _ _=>gS fun _ _ _=>rfl
 have aev:=SF.binds (ps:=["self","place","some"]) fun _ _ _ _ _ _=>gS fun _ _ _=>rfl
 have aew:=SG.binds (ps:=["self","place"]) fun _ _ _ _ _ _=>d8 fun _ _=>rfl
 have aex:=SH.binds (ps:=["self","place","value"]) fun _ _ _ _ _ _=>gS fun _ _ _=>rfl
 have aey:=SI.binds (ps:=["self","place"]) fun _ _ _ _ _ _=>d8 fun _ _=>rfl
 have aez:=SJ.binds (ps:=["sort"]) fun _ _ _ _ _ _=>dR fun _=>rfl
 have aeA:=SK.binds (ps:=["thing"]) fun _ _ _ _ _ _=>dR fun _=>rfl
 have aeB:=SM.binds (ps:=["words"]) fun _ _ _ _ _ _=>dR fun _=>rfl
 have aeC:=SN.binds (ps:=["thing","serial","marked"]) fun _ _ _ _ _ _=>gS fun _ _ _=>rfl
 have aeD:=SO.binds (ps:=["self","many","cells"]) fun _ _ _ _ _ _=>gS fun _ _ _=>rfl
 have aeE:=SQ.binds (ps:=["self","thing","serial","marked"]) fun _ _ _ _ _ _=>Yo fun _ _ _ _=>rfl
 have aeF:=SR.binds (ps:=["self","place","some"]) fun _ _ _ _ _ _=>gS fun _ _ _=>rfl
 have aeG:=SS.binds (ps:=["self","place"]) fun _ _ _ _ _ _=>d8 fun _ _=>rfl
 have aeH:=SU.binds (ps:=["self","place"]) fun _ _ _ _ _ _=>d8 fun _ _=>rfl
 have aeI:=SV.binds (ps:=["self","place"]) fun _ _ _ _ _ _=>d8 fun _ _=>rfl
 have aeJ:=SW.binds (ps:=["self","place"]) fun _ _ _ _ _ _=>d8 fun _ _=>rfl
 have aeK:=SX.binds (ps:=["self","place"]) fun _ _ _ _ _ _=>d8 fun _ _=>rfl
 have aeL:=SY.binds (ps:=["self","place"]) fun _ _ _ _ _ _=>d8 fun _ _=>rfl
 have aeM:=S0.binds (ps:=["self","place"]) fun _ _ _ _ _ _=>d8 fun _ _=>rfl
 have aeN:=S4.binds (ps:=["self","place","marked"]) fun _ _ _ _ _ _=>gS fun _ _ _=>rfl
 have aeO:=S5.binds (ps:=["self","place","at","value"]) fun _ _ _ _ _ _=>Yo fun _ _ _ _=>rfl
 have aeP:=S6.binds (ps:=["self","place","words"]) fun _ _ _ _ _ _=>gS fun _ _ _=>rfl
 have aeQ:=S7.binds (ps:=["self"]) fun _ _ _ _ _ _=>dR fun _=>rfl
 have aeR:=S8.binds (ps:=["self","room"]) fun _ _ _ _ _ _=>d8 fun _ _=>rfl
 have aeS:=S9.binds (ps:=["_law_script","_law_k"]) fun _ _ _ _ _ _=>d8 fun _ _=>rfl
 have aeT:=S_.binds (ps:=["_law_cell"]) fun _ _ _ _ _ _=>dR fun _=>rfl
 have aeU:=Ta.binds (ps:=["_law_script","_law_memory","_law_start"]) fun _ _ _ _ _ _=>gS fun _ _ _=>rfl
 have aeV:=Tc.binds (ps:=["_law_sort","_law_fields","_law_words"]) fun _ _ _ _ _ _=>gS fun _ _ _=>rfl
 have aeW:=Td.binds (ps:=["_law_rows","_law_some"]) fun _ _ _ _ _ _=>d8 fun _ _=>rfl
 have aeX:=Te.binds (ps:=["_law_rows","_law_some"]) fun _ _ _ _ _ _=>d8 fun _ _=>rfl
 have aeY:=Tf.binds (ps:=["_law_rows","_law_dark","_law_heard"]) fun _ _ _ _ _ _=>gS fun _ _ _=>rfl
 have aeZ:=Th.binds (ps:=["_law_value_here","_law_places"]) fun _ _ _ _ _ _=>d8 fun _ _=>rfl
 have T:Txt K mg ⟨oH,wz,jj,wB,oI,wC,mm,wD,mn,wF,oJ,wG,oK,wH,oM,wI,rQ,wK,rR,wM,rS,wO,rT,wR,rV,wW,mq,wY,mv,w4,mw,w6,jm,w_,kr,xc,oP,xg,jn,xi,mx,PySem.W.fnOf "due_places" "due_places" (dG ki) (dk ki) (aj ki) .none Kw Kx Ky Ku uK Kz,oQ,xm,oR,xo,DL,HD,DM,HF,DN,HH,DO,HJ,rW,xq,DP,HL,DQ,HN,y9,PySem.W.fnOf "pairs_by_serial" "Marking.pairs_by_serial" (dG tT) (dk tT) (aj tT) .none RL RN RO RK Dc RP,DR,HR,DS,HU,DT,HW,oU,xu,oV,xw,oW,xy,oX,xB,oY,xD,my,xF,mz,xH,mB,xJ,rX,xM,rY,xO,rZ,xQ,r0,xS,r8,xU,r_,xW,sd,xY,ku,x4,mC,x6,mD,x9,pb,ya,se,yc,sh,ye,si,yg,sj,yj,sk,yl,so,yn,sq,yp,sr,yr,su,yu,sv,yw,sy,yy,sA,yA,sC,yC,sE,yE,sF,yG,kz,yI,ph,yK,pj,yM,pk,yO,mF,yQ,mG,yS,pq,yU,pw,yW,mH,PySem.W.fnOf "law" "law" (dG kj) (dk kj) (aj kj) .none KA KC KD Kv Bw KG,bX,aX,bb,ba,cq,a_,dm,fG,gz,fH,fI,eV,fJ,gA,oG,cY,jz,cH⟩:=by
  exact {
   oH:=RQ,
   P8:=adM,
   P9:=PySem.W.mg_of X G wy,
   jj:=RR,
   yX:=adN,
   yY:=PySem.W.mg_of X G wA,
   oI:=RT,
   CA:=adO,
   yZ:=⟨KR,rL,acw,KS⟩,
   mm:=RU,
   jk:=adP,
   tY:=⟨oE,K2,K3⟩,
   mn:=RV,
   eO:=adQ,
   lL:=⟨oF,K4,K5⟩,
   oJ:=RY,
   HY:=adR,
   HZ:=⟨rM,RW,RX⟩,
   oK:=R5,
   H_:=adS,
   Ia:=⟨rN,RZ,R0⟩,
   oM:=R8,
   kl:=adT,
   oN:=⟨rO,R6,R7⟩,
   rQ:=R9,
   P_:=adU,
   jl:=⟨qS,wJ,acy,qT⟩,
   rR:=R_,
   Qa:=adV,
   Ib:=⟨wL,acz,acA⟩,
   rS:=Sa,
   y0:=adW,
   oO:=⟨wN,acB,acC⟩,
   rT:=Sb,
   Qb:=adX,
   kq:=⟨uZ,wQ,acD,u0⟩,
   rV:=Sd,
   Qc:=adY,
   Ic:=⟨wU,acE,acF⟩,
   mq:=Se,
   Ie:=adZ,
   Ig:=PySem.W.mg_of X G wX,
   mv:=Sf,
   Ih:=aea,
   Ii:=PySem.W.mg_of X G wZ,
   mw:=Sg,
   Ij:=aeb,
   Ik:=PySem.W.mg_of X G w5,
   jm:=Sh,
   y3:=aec,
   y4:=PySem.W.mg_of X G w9,
   kr:=Sj,
   CB:=aed,
   CC:=PySem.W.mg_of X G xa,
   oP:=Sk,
   Qd:=aee,
   Qf:=PySem.W.mg_of X G xf,
   jn:=Sl,
   y7:=aef,
   y8:=PySem.W.mg_of X G xh,
   mx:=Sm,
   Qg:=aeg,
   Qh:=PySem.W.mg_of X G xj,
   oQ:=Sn,
   Qi:=aeh,
   Qj:=PySem.W.mg_of X G xk,
   oR:=So,
   Qk:=aei,
   Ql:=PySem.W.mg_of X G xn,
   DL:=acG,
   aan:=ahq,
   oS:=⟨BI,HC,agZ,BJ⟩,
   DM:=acH,
   ME:=ahr,
   CD:=⟨HE,aha,ahb⟩,
   DN:=acI,
   VJ:=ahs,
   Il:=⟨HG,ahc,ahd⟩,
   DO:=acJ,
   VL:=aht,
   Im:=⟨HI,ahe,ahf⟩,
   rW:=Sq,
   Io:=aej,
   AM:=⟨xp,acK,acL⟩,
   DP:=acM,
   VN:=ahu,
   Ip:=⟨HK,ahg,ahh⟩,
   DQ:=acN,
   VO:=ahv,
   Iq:=⟨HM,ahi,ahj⟩,
   y9:=acO,
   aao:=ahw,
   Qm:=⟨HP,agW,acs⟩,
   DR:=acP,
   VP:=ahx,
   Ir:=⟨HQ,ahk,ahl⟩,
   DS:=acQ,
   aap:=ahy,
   Qn:=⟨HS,ahm,ahn⟩,
   DT:=acR,
   MF:=ahz,
   CF:=⟨HV,aho,ahp⟩,
   oU:=Sr,
   Qo:=aek,
   Qq:=PySem.W.mg_of X G xt,
   oV:=Ss,
   Qr:=ael,
   Qs:=PySem.W.mg_of X G xv,
   oW:=Su,
   Qt:=aem,
   Qu:=PySem.W.mg_of X G xx,
   oX:=Sv,
   Qv:=aen,
   Qw:=PySem.W.mg_of X G xA,
   oY:=Sw,
   Qx:=aeo,
   Qy:=PySem.W.mg_of X G xC,
   my:=Sx,
   Iu:=aep,
   Iv:=PySem.W.mg_of X G xE,
   mz:=Sy,
   Iw:=aeq,
   Iy:=PySem.W.mg_of X G xG,
   mB:=Sz,
   Iz:=aer,
   IA:=PySem.W.mg_of X G xI,
   rX:=SA,
   Qz:=aes,
   y_:=⟨K0,xK,acS,K1⟩,
   rY:=SD,
   QA:=aet,
   IB:=⟨xN,acT,acU⟩,
   rZ:=SE,
   QB:=aeu,
   IC:=⟨xP,acV,acW⟩,
   r0:=SF,
   QC:=aev,
   ID:=⟨xR,acX,acY⟩,
   r8:=SG,
   za:=aew,
   oZ:=⟨xT,acZ,ada⟩,
   r_:=SH,
   zc:=aex,
   o_:=⟨xV,adb,ade⟩,
   sd:=SI,
   IE:=aey,
   AN:=⟨xX,adf,adg⟩,
   ku:=SJ,
   CG:=aez,
   CI:=PySem.W.mg_of X G xZ,
   mC:=SK,
   IF:=aeA,
   IG:=PySem.W.mg_of X G x5,
   mD:=SM,
   IH:=aeB,
   II:=PySem.W.mg_of X G x8,
   pb:=SN,
   QD:=aeC,
   QE:=PySem.W.mg_of X G x_,
   se:=SO,
   QF:=aeD,
   sg:=⟨ED,yb,adh,EE⟩,
   sh:=SQ,
   QG:=aeE,
   IJ:=⟨yd,adi,adj⟩,
   si:=SR,
   QH:=aeF,
   IK:=⟨yf,adk,adl⟩,
   sj:=SS,
   pd:=aeG,
   jA:=⟨yh,adm,adn⟩,
   sk:=SU,
   mE:=aeH,
   ia:=⟨yk,ado,adp⟩,
   so:=SV,
   QI:=aeI,
   IL:=⟨ym,adq,ads⟩,
   sq:=SW,
   CJ:=aeJ,
   tZ:=⟨yo,adt,adu⟩,
   sr:=SX,
   QJ:=aeK,
   IM:=⟨yq,adv,adw⟩,
   su:=SY,
   zd:=aeL,
   pe:=⟨yt,adx,ady⟩,
   sv:=S0,
   ky:=aeM,
   gB:=⟨yv,adz,adA⟩,
   sy:=S4,
   QK:=aeN,
   IP:=⟨yx,adB,adC⟩,
   sA:=S5,
   CK:=aeO,
   t4:=⟨yz,adD,adE⟩,
   sC:=S6,
   QL:=aeP,
   IQ:=⟨yB,adF,adG⟩,
   sE:=S7,
   ze:=aeQ,
   pf:=⟨yD,adH,adI⟩,
   sF:=S8,
   QM:=aeR,
   IS:=⟨yF,adJ,adK⟩,
   kz:=S9,
   CL:=aeS,
   CM:=PySem.W.mg_of X G yH,
   ph:=S_,
   QN:=aeT,
   QO:=PySem.W.mg_of X G yJ,
   pj:=Ta,
   QP:=aeU,
   QQ:=PySem.W.mg_of X G yL,
   pk:=Tc,
   QR:=aeV,
   QS:=PySem.W.mg_of X G yN,
   mF:=Td,
   IT:=aeW,
   IU:=PySem.W.mg_of X G yP,
   mG:=Te,
   IV:=aeX,
   IW:=PySem.W.mg_of X G yR,
   pq:=Tf,
   QT:=aeY,
   QU:=PySem.W.mg_of X G yT,
   pw:=Th,
   QV:=aeZ,
   QW:=PySem.W.mg_of X G yV,
   mH:=adL,
   aaq:=PySem.W.mg_of X G rP,
   ck:=⟨iz,K2,K3⟩,
   bA:=⟨i8,K4,K5⟩,
   eQ:=⟨jQ,RZ,R0⟩,
   cy:=⟨i9,K2,K3⟩,
   bG:=⟨jR,K4,K5⟩,
   fc:=⟨kU,RW,RX⟩,
   b_:=⟨kW,R6,R7⟩,
   fN:=⟨p3,p4,p5,acx⟩,
   bO:=⟨KN,KO,KP,KQ⟩,
   kB:=PySem.W.mg_of X G KI,
   cT:=cT,
   dh:=dh,
   aK:=⟨qO,qP,qQ,qR⟩,
   jo:=PySem.W.mg_of X G qF,
   bP:=bP,
   bH:=bH,
   bu:=bu,
   aR:=⟨uV,uW,uX,uY⟩,
   kC:=PySem.W.mg_of X G uL,
   bV:=bV,
   bz:=bz,
   aB:=⟨BE,BF,BG,BH⟩,
   pz:=PySem.W.mg_of X G Bx,
   aM:=aM,
   aS:=aS,
   bj:=⟨KU,KW,KY,KZ⟩,
   zf:=PySem.W.mg_of X G KJ,
   dv:=dv,
   cI:=cI,
   bx:=bx,
   au:=⟨Ez,EA,EB,EC⟩,
   sH:=PySem.W.mg_of X G Eu,
   aJ:=aJ,
   br:=br,
   iR:=PySem.W.mg_of X G EF,
   DU:=⟨_,pX,rfl,rfl⟩,
   lM:=fun H=>.inr ⟨_,_,_,pX,rfl,rfl,(by show 1≤sizeLine; decide),(.cons ⟨_,rfl⟩ Paired.nil)⟩,
   mI:=PySem.W.mg_of X G zQ,
   jB:=PySem.W.mg_of X G BK,
   ib:=PySem.W.mg_of X G zR,
   ic:=PySem.W.mg_of X G zS,
   t5:=PySem.W.mg_of X G NQ,
   CO:=⟨_,zT,rfl,rfl⟩,
   t6:=fun H=>.inr ⟨_,_,_,zT,rfl,rfl,(by show 3≤sizeLine; decide),(.cons ⟨_,rfl⟩ (.cons ⟨_,rfl⟩ (.cons ⟨_,rfl⟩ Paired.nil)))⟩,
   mJ:=PySem.W.mg_of X G zU,
   jC:=PySem.W.mg_of X G BL,
   CP:=PySem.W.mg_none_of X G CP,
   fK:=PySem.W.mg_none_of X G fK,
   CQ:=PySem.W.mg_none_of X G CQ,
   dI:=PySem.W.mg_none_of X G dI,
   ie:=PySem.W.mg_none_of X G ie,
   zg:=PySem.W.mg_none_of X G zg,
   cF:=PySem.W.mg_none_of X G cF,
   dJ:=PySem.W.mg_none_of X G dJ,
   nW:=PySem.W.mg_none_of X G nW,
   P7:=fj,
   Cz:=Cz,
   HX:=qU,
   tX:=tX}
 exact⟨_,fun s v=>.of_eq rfl,fun b hb=>by rcases agY b hb with rfl | rfl <;> exact⟨_,by assumption⟩,fun base _ _ B=>Yb T B fk qV lne⟩
theorem walk {l:PySem.W.OpenLaw}{q:Program}{loose:List Str}{XP:(Str→Option Value)→Heap→Prop}{YP:World→Heap→Prop}{d:DefRec}{K:Params→PySem.W.Frag}{ts:List Addr}(hn:l.most=some 63) (ZJ:d.params.defaults=[])
  (hY:∀(w:World) (h:Heap),YP w h→(K w.params).In h) (hY2:∀(w:World) (h:Heap),YP w h→∀b∈ts,h.get? b=some (PySem.W.tabObj #[])) (hKt:∀(w:World),∀b∈ts,(K w.params).lookup b=none) (ju:∀b∈ts,b≠cStatics)
  (F:∀(w:World) (mg:Str→Option Value) (fa:Addr) (h:Heap),(K w.params).In h→h.Ns mainGlobals mg→mg d.name=some (.ref fa) →
   ∃fd:FuncData,(∀(s:Shared) (u:Value),BindsTo s fd ⟨[u],[]⟩ [("_law_script",u)])∧(∀b∈ts,∃c,PySem.W.codeHdIn (K w.params) c b=true)∧∀base:Heap,(K w.params).In base→base.Ns mainGlobals mg→BM mg base→aU l.prog w (K w.params) mg base cC 20 fa fd ["_law_script"] (uI ts (K w.params))) :
  PySem.W.WalkO q loose XP YP l.row.toRowW d [] (fun f vs=>PySem.call f vs):=
 L2.F_ (n:=63) (k:=20) (x:="_law_script") (CX:=cC) (sp:=uI ts) hn (by decide) ZJ ⟨rfl,by decide,by decide⟩ hY hY2 hKt ju F (fun _ _ a ns hl hO hS=>⟨a,ns,rfl,hS,hl,hO.2,fun _=>rfl⟩) fun _ _ _ _ z=>z
end bI
namespace PySem.W.Fast
theorem tw10006226776309934102:True:=⟨⟩
theorem tw10006378188484021460:True:=⟨⟩
theorem tw10013782827427942286:True:=⟨⟩
theorem tw10024091353426457530:True:=⟨⟩
theorem tw10090123415354521193:True:=⟨⟩
theorem tw1009711326703741169:True:=⟨⟩
theorem tw10101038126184508705:True:=⟨⟩
theorem tw10132294037977294177:True:=⟨⟩
theorem tw10134790499599294588:True:=⟨⟩
theorem tw10151618793325495810:True:=⟨⟩
theorem tw10166506240627130489:True:=⟨⟩
theorem tw10225978330989500936:True:=⟨⟩
theorem tw10264611838966758301:True:=⟨⟩
theorem tw10318302563367349279:True:=⟨⟩
theorem tw10331481530406054728:True:=⟨⟩
theorem tw10349224818055372908:True:=⟨⟩
theorem tw10410826113920367450:True:=⟨⟩
theorem tw1043302524644870761:True:=⟨⟩
theorem tw10451974231871561197:True:=⟨⟩
theorem tw10483886921064843143:True:=⟨⟩
theorem tw10508708385681758427:True:=⟨⟩
theorem tw10534386194829645811:True:=⟨⟩
theorem tw10580809614573077343:True:=⟨⟩
theorem tw10620222766542622362:True:=⟨⟩
theorem tw10644211564129382163:True:=⟨⟩
theorem tw10678253764301855016:True:=⟨⟩
theorem tw10694138823684880565:True:=⟨⟩
theorem tw10713295756339132562:True:=⟨⟩
theorem tw10734982269163445517:True:=⟨⟩
theorem tw10763768589992350785:True:=⟨⟩
theorem tw10843575649494866383:True:=⟨⟩
theorem tw10922085446015792835:True:=⟨⟩
theorem tw10931168257594338622:True:=⟨⟩
theorem tw1093334616230097545:True:=⟨⟩
theorem tw10939975728764508916:True:=⟨⟩
theorem tw10965466051882961244:True:=⟨⟩
theorem tw11014646886398631836:True:=⟨⟩
theorem tw11059792820235153927:True:=⟨⟩
theorem tw11062806748965108943:True:=⟨⟩
theorem tw11119633984681075955:True:=⟨⟩
theorem tw11161542897105332463:True:=⟨⟩
theorem tw11176774129632733416:True:=⟨⟩
theorem tw1120414213859189118:True:=⟨⟩
theorem tw11217149601875857563:True:=⟨⟩
theorem tw11257124367347526177:True:=⟨⟩
theorem tw11269470949449860374:True:=⟨⟩
theorem tw11280448409053162444:True:=⟨⟩
theorem tw11285293902606087885:True:=⟨⟩
theorem tw11291927918872680636:True:=⟨⟩
theorem tw11301335049498845207:True:=⟨⟩
theorem tw11303397122222504980:True:=⟨⟩
theorem tw11318776673490481301:True:=⟨⟩
theorem tw11320646358938004555:True:=⟨⟩
theorem tw11370697127199138155:True:=⟨⟩
theorem tw11378809561346009312:True:=⟨⟩
theorem tw11440531882748987420:True:=⟨⟩
theorem tw11449870114087565239:True:=⟨⟩
theorem tw11464777295859648548:True:=⟨⟩
theorem tw1149258888450984725:True:=⟨⟩
theorem tw11522266608132460702:True:=⟨⟩
theorem tw11574096655281025463:True:=⟨⟩
theorem tw11602173720006226473:True:=⟨⟩
theorem tw11669139971785752028:True:=⟨⟩
theorem tw11704593975179928081:True:=⟨⟩
theorem tw11748609818086160518:True:=⟨⟩
theorem tw11764052260923888379:True:=⟨⟩
theorem tw11835164101363522278:True:=⟨⟩
theorem tw11865234758235209125:True:=⟨⟩
theorem tw11872048665817880323:True:=⟨⟩
theorem tw11893324972617665436:True:=⟨⟩
theorem tw11913051311868556299:True:=⟨⟩
theorem tw11919248698466790501:True:=⟨⟩
theorem tw11919736592417965692:True:=⟨⟩
theorem tw11930098369571717192:True:=⟨⟩
theorem tw11939630725119583210:True:=⟨⟩
theorem tw11968091372078465499:True:=⟨⟩
theorem tw12010935723735674037:True:=⟨⟩
theorem tw12036909934953121809:True:=⟨⟩
theorem tw12094490116910276508:True:=⟨⟩
theorem tw12098097022072261350:True:=⟨⟩
theorem tw1212416825131853253:True:=⟨⟩
theorem tw12146554989131373348:True:=⟨⟩
theorem tw12199444971362416773:True:=⟨⟩
theorem tw12220500089381502635:True:=⟨⟩
theorem tw12222980140249264603:True:=⟨⟩
theorem tw1224271486225158070:True:=⟨⟩
theorem tw12260282402913878413:True:=⟨⟩
theorem tw12275428817977906658:True:=⟨⟩
theorem tw12334680808105549732:True:=⟨⟩
theorem tw1234872765695964677:True:=⟨⟩
theorem tw12359518070862524582:True:=⟨⟩
theorem tw12360706650597980222:True:=⟨⟩
theorem tw12390175396450683428:True:=⟨⟩
theorem tw12405875889722301911:True:=⟨⟩
theorem tw12411533331196296954:True:=⟨⟩
theorem tw12429138779722394497:True:=⟨⟩
theorem tw1244801557161463760:True:=⟨⟩
theorem tw12459100502531803367:True:=⟨⟩
theorem tw12480446591058143831:True:=⟨⟩
theorem tw12504246657930325378:True:=⟨⟩
theorem tw12527317888247306173:True:=⟨⟩
theorem tw12544003379688380729:True:=⟨⟩
theorem tw12603870058380448445:True:=⟨⟩
theorem tw12606496539375374298:True:=⟨⟩
theorem tw12613353973299731723:True:=⟨⟩
theorem tw12622697902639013605:True:=⟨⟩
theorem tw12648700543188443053:True:=⟨⟩
theorem tw12692345520624443155:True:=⟨⟩
theorem tw12726712511103821826:True:=⟨⟩
theorem tw12788752069411747901:True:=⟨⟩
theorem tw12860074041795931765:True:=⟨⟩
theorem tw1292151538102037884:True:=⟨⟩
theorem tw12938410103187530299:True:=⟨⟩
theorem tw12944133511880040173:True:=⟨⟩
theorem tw12974599842786909658:True:=⟨⟩
theorem tw12978483907970979819:True:=⟨⟩
theorem tw13013035887613935036:True:=⟨⟩
theorem tw13014212816917008185:True:=⟨⟩
theorem tw13046466263485962763:True:=⟨⟩
theorem tw13130492968718895599:True:=⟨⟩
theorem tw13138151739556325959:True:=⟨⟩
theorem tw13152278889616473720:True:=⟨⟩
theorem tw13167634864355526397:True:=⟨⟩
theorem tw13191112324955462531:True:=⟨⟩
theorem tw13201016026310054991:True:=⟨⟩
theorem tw1323883699526207206:True:=⟨⟩
theorem tw13314457404234274403:True:=⟨⟩
theorem tw13319962222443153816:True:=⟨⟩
theorem tw13383338475292090172:True:=⟨⟩
theorem tw13391734815675048481:True:=⟨⟩
theorem tw13420607293657287319:True:=⟨⟩
theorem tw1344412968034736754:True:=⟨⟩
theorem tw13465837830877408659:True:=⟨⟩
theorem tw13476930573787385020:True:=⟨⟩
theorem tw13483187128736546422:True:=⟨⟩
theorem tw13487086426318056419:True:=⟨⟩
theorem tw13528037144681023272:True:=⟨⟩
theorem tw13529683287342233650:True:=⟨⟩
theorem tw13542715471343301846:True:=⟨⟩
theorem tw13569410638139395426:True:=⟨⟩
theorem tw13574013950741079046:True:=⟨⟩
theorem tw13606416217857986119:True:=⟨⟩
theorem tw13654172152175589814:True:=⟨⟩
theorem tw13681363167751602956:True:=⟨⟩
theorem tw13685124912994883430:True:=⟨⟩
theorem tw13697239658370979144:True:=⟨⟩
theorem tw13697876163767352900:True:=⟨⟩
theorem tw1371258520871556607:True:=⟨⟩
theorem tw1373767591040252421:True:=⟨⟩
theorem tw13746049394095092862:True:=⟨⟩
theorem tw13822298850993792920:True:=⟨⟩
theorem tw1382880663220092148:True:=⟨⟩
theorem tw1385910441626080659:True:=⟨⟩
theorem tw13939725820164693666:True:=⟨⟩
theorem tw13990821894333529513:True:=⟨⟩
theorem tw14037327582413502626:True:=⟨⟩
theorem tw14140711852908659757:True:=⟨⟩
theorem tw14162230458212972682:True:=⟨⟩
theorem tw14174177898999925563:True:=⟨⟩
theorem tw14176787658728982761:True:=⟨⟩
theorem tw14218439794260119859:True:=⟨⟩
theorem tw14236343920259920241:True:=⟨⟩
theorem tw14240254469915802965:True:=⟨⟩
theorem tw14277665628841147348:True:=⟨⟩
theorem tw14280367365279821313:True:=⟨⟩
theorem tw14346957750756558408:True:=⟨⟩
theorem tw1437207249455286458:True:=⟨⟩
theorem tw14383034505068250611:True:=⟨⟩
theorem tw14383540656101881897:True:=⟨⟩
theorem tw14403827544904208912:True:=⟨⟩
theorem tw14411695131060426256:True:=⟨⟩
theorem tw14421760120118789390:True:=⟨⟩
theorem tw14429200272344247950:True:=⟨⟩
theorem tw14432687204597593394:True:=⟨⟩
theorem tw14442517029704199879:True:=⟨⟩
theorem tw14458599627768937668:True:=⟨⟩
theorem tw14482946578833688213:True:=⟨⟩
theorem tw14497712469995469753:True:=⟨⟩
theorem tw14530285250946451691:True:=⟨⟩
theorem tw14548518125213680828:True:=⟨⟩
theorem tw14574119630521797650:True:=⟨⟩
theorem tw14587497348601265078:True:=⟨⟩
theorem tw14602864498722405724:True:=⟨⟩
theorem tw14617124487076661582:True:=⟨⟩
theorem tw14626735477161361929:True:=⟨⟩
theorem tw14647757508795063244:True:=⟨⟩
theorem tw14660961603210967966:True:=⟨⟩
theorem tw1467499568315383344:True:=⟨⟩
theorem tw14705074721896952480:True:=⟨⟩
theorem tw14707086233552068418:True:=⟨⟩
theorem tw14718183411958955128:True:=⟨⟩
theorem tw14745541527074848524:True:=⟨⟩
theorem tw14746904583529190292:True:=⟨⟩
theorem tw14784996168052453503:True:=⟨⟩
theorem tw14851740350078040624:True:=⟨⟩
theorem tw14870156901029731552:True:=⟨⟩
theorem tw14912757033562919637:True:=⟨⟩
theorem tw14931874971238055252:True:=⟨⟩
theorem tw14972830814369508183:True:=⟨⟩
theorem tw14990750430153945034:True:=⟨⟩
theorem tw15096155159200498776:True:=⟨⟩
theorem tw15102772334363644454:True:=⟨⟩
theorem tw15104119097020033242:True:=⟨⟩
theorem tw15130640794908902440:True:=⟨⟩
theorem tw1513706210599138959:True:=⟨⟩
theorem tw15146508061589547565:True:=⟨⟩
theorem tw15168414608689698553:True:=⟨⟩
theorem tw15170877460399479872:True:=⟨⟩
theorem tw15175384960602431867:True:=⟨⟩
theorem tw15180923873164518490:True:=⟨⟩
theorem tw15182602791088091075:True:=⟨⟩
theorem tw15196392635451689410:True:=⟨⟩
theorem tw15277631568741111391:True:=⟨⟩
theorem tw15317249950002868974:True:=⟨⟩
theorem tw15326160065660906498:True:=⟨⟩
theorem tw15328498375266061702:True:=⟨⟩
theorem tw15330320376727291915:True:=⟨⟩
theorem tw15355976961770394066:True:=⟨⟩
theorem tw15399342234137137427:True:=⟨⟩
theorem tw1541782745904613050:True:=⟨⟩
theorem tw15505311559370383896:True:=⟨⟩
theorem tw15519625137013652584:True:=⟨⟩
theorem tw15520524228815755821:True:=⟨⟩
theorem tw15622015893807933783:True:=⟨⟩
theorem tw15683899301477433432:True:=⟨⟩
theorem tw15701613926341180139:True:=⟨⟩
theorem tw15791021133981924448:True:=⟨⟩
theorem tw15795141934030131179:True:=⟨⟩
theorem tw1581871069173993190:True:=⟨⟩
theorem tw15903904870363175530:True:=⟨⟩
theorem tw15939597705932358570:True:=⟨⟩
theorem tw15985980996362157370:True:=⟨⟩
theorem tw16032736177159546844:True:=⟨⟩
theorem tw16041112734816929698:True:=⟨⟩
theorem tw16044625272487725877:True:=⟨⟩
theorem tw16046621618697302813:True:=⟨⟩
theorem tw1608819323114409736:True:=⟨⟩
theorem tw16097911537902397684:True:=⟨⟩
theorem tw16099055379012561075:True:=⟨⟩
theorem tw1616531744709208734:True:=⟨⟩
theorem tw161727522983571600:True:=⟨⟩
theorem tw16200740856395493577:True:=⟨⟩
theorem tw162013066871733923:True:=⟨⟩
theorem tw16218512117729863060:True:=⟨⟩
theorem tw16256521859562378693:True:=⟨⟩
theorem tw16292044076655880173:True:=⟨⟩
theorem tw16362181828164527714:True:=⟨⟩
theorem tw16375152582420188767:True:=⟨⟩
theorem tw1637960117513367263:True:=⟨⟩
theorem tw16404364945746546923:True:=⟨⟩
theorem tw164188013938608344:True:=⟨⟩
theorem tw16419760165024499390:True:=⟨⟩
theorem tw16501789902205503014:True:=⟨⟩
theorem tw16542100517178034525:True:=⟨⟩
theorem tw16551168217351038499:True:=⟨⟩
theorem tw16558419128121216393:True:=⟨⟩
theorem tw16563171702589241143:True:=⟨⟩
theorem tw16641158115656758996:True:=⟨⟩
theorem tw1668325081053967656:True:=⟨⟩
theorem tw16707259212457069216:True:=⟨⟩
theorem tw16710320553710306858:True:=⟨⟩
theorem tw16744689831375910575:True:=⟨⟩
theorem tw16748021052978019435:True:=⟨⟩
theorem tw16761015857115245244:True:=⟨⟩
theorem tw16824908631752052822:True:=⟨⟩
theorem tw16842717175672041466:True:=⟨⟩
theorem tw16864341066201551027:True:=⟨⟩
theorem tw16883513879731561437:True:=⟨⟩
theorem tw16913311286481181066:True:=⟨⟩
theorem tw1691985135769534769:True:=⟨⟩
theorem tw16920598671363066909:True:=⟨⟩
theorem tw16928744711265009816:True:=⟨⟩
theorem tw1693721537759504448:True:=⟨⟩
theorem tw16941709959179661522:True:=⟨⟩
theorem tw17010970845296689458:True:=⟨⟩
theorem tw17047364100959852224:True:=⟨⟩
theorem tw17049032327381079443:True:=⟨⟩
theorem tw17067683850923438755:True:=⟨⟩
theorem tw17073110312787988565:True:=⟨⟩
theorem tw17074007703408197450:True:=⟨⟩
theorem tw17094364171988173805:True:=⟨⟩
theorem tw17113030555618812466:True:=⟨⟩
theorem tw17176066232019967085:True:=⟨⟩
theorem tw17177501380472325797:True:=⟨⟩
theorem tw17217649580843404319:True:=⟨⟩
theorem tw17237844364220790398:True:=⟨⟩
theorem tw17238033405764554744:True:=⟨⟩
theorem tw1728440294785564099:True:=⟨⟩
theorem tw1729556196585504234:True:=⟨⟩
theorem tw17356896772963291356:True:=⟨⟩
theorem tw17379353173230262405:True:=⟨⟩
theorem tw17392888924337021226:True:=⟨⟩
theorem tw17404014464237712501:True:=⟨⟩
theorem tw17407827779054512793:True:=⟨⟩
theorem tw1741125321007421216:True:=⟨⟩
theorem tw17424080024760803396:True:=⟨⟩
theorem tw17454516200173746007:True:=⟨⟩
theorem tw17456119752116447571:True:=⟨⟩
theorem tw17460890298877402791:True:=⟨⟩
theorem tw17461087861412446054:True:=⟨⟩
theorem tw17461906256881632680:True:=⟨⟩
theorem tw1749048388138696356:True:=⟨⟩
theorem tw17511052641786636852:True:=⟨⟩
theorem tw17515350747140292529:True:=⟨⟩
theorem tw17558989244977191088:True:=⟨⟩
theorem tw17561168960363170795:True:=⟨⟩
theorem tw17566069913080419269:True:=⟨⟩
theorem tw17603451480145253059:True:=⟨⟩
theorem tw17704220991545922659:True:=⟨⟩
theorem tw17761218870944740842:True:=⟨⟩
theorem tw17819505371756413533:True:=⟨⟩
theorem tw17819712925859382758:True:=⟨⟩
theorem tw17881568080844766587:True:=⟨⟩
theorem tw17885590823031759263:True:=⟨⟩
theorem tw17887061066942742857:True:=⟨⟩
theorem tw17895263653181797091:True:=⟨⟩
theorem tw17905548782482972902:True:=⟨⟩
theorem tw17930125896555230614:True:=⟨⟩
theorem tw17941304952370815756:True:=⟨⟩
theorem tw17958506210782920651:True:=⟨⟩
theorem tw17973663005523502727:True:=⟨⟩
theorem tw17995465850360144688:True:=⟨⟩
theorem tw1799852385766626006:True:=⟨⟩
theorem tw18044913141379770073:True:=⟨⟩
theorem tw18060773021419819853:True:=⟨⟩
theorem tw18096844088676649015:True:=⟨⟩
theorem tw18110081638629548933:True:=⟨⟩
theorem tw18113112790249279285:True:=⟨⟩
theorem tw18126430166929255913:True:=⟨⟩
theorem tw18134564155588456439:True:=⟨⟩
theorem tw18145342518005477809:True:=⟨⟩
theorem tw18146328265729505835:True:=⟨⟩
theorem tw18221998605095555920:True:=⟨⟩
theorem tw18239917477854405184:True:=⟨⟩
theorem tw18266357780886379693:True:=⟨⟩
theorem tw18277431469161445911:True:=⟨⟩
theorem tw18299597471633850838:True:=⟨⟩
theorem tw18331079075120842425:True:=⟨⟩
theorem tw18352002811676904358:True:=⟨⟩
theorem tw18364591757935343293:True:=⟨⟩
theorem tw18371378577269131034:True:=⟨⟩
theorem tw18374235635816486150:True:=⟨⟩
theorem tw18396228188829793761:True:=⟨⟩
theorem tw1883702778899145577:True:=⟨⟩
theorem tw1924399044685691030:True:=⟨⟩
theorem tw1969944227998728002:True:=⟨⟩
theorem tw1972379096765011177:True:=⟨⟩
theorem tw2076963629567617335:True:=⟨⟩
theorem tw2212555792015688558:True:=⟨⟩
theorem tw2214282210399762713:True:=⟨⟩
theorem tw22417482872596545:True:=⟨⟩
theorem tw2265835087366711503:True:=⟨⟩
theorem tw2282825571495272021:True:=⟨⟩
theorem tw236270334790682635:True:=⟨⟩
theorem tw2381169175153329387:True:=⟨⟩
theorem tw2411019883198523673:True:=⟨⟩
theorem tw2449405954540376724:True:=⟨⟩
theorem tw2454267139927642004:True:=⟨⟩
theorem tw2468147644678744303:True:=⟨⟩
theorem tw2477456516965809181:True:=⟨⟩
theorem tw2478701406474690273:True:=⟨⟩
theorem tw250007760489668159:True:=⟨⟩
theorem tw251407861494236321:True:=⟨⟩
theorem tw2543652920241156261:True:=⟨⟩
theorem tw2545545576996606051:True:=⟨⟩
theorem tw2559925344387802253:True:=⟨⟩
theorem tw2580456320440286315:True:=⟨⟩
theorem tw2580520920766036987:True:=⟨⟩
theorem tw2615773470016513875:True:=⟨⟩
theorem tw2632735563133111377:True:=⟨⟩
theorem tw263610264400592022:True:=⟨⟩
theorem tw2667819472347810794:True:=⟨⟩
theorem tw2674579687259409256:True:=⟨⟩
theorem tw2708471791212971511:True:=⟨⟩
theorem tw2746625506955311954:True:=⟨⟩
theorem tw2751135935753546125:True:=⟨⟩
theorem tw2773306293068558684:True:=⟨⟩
theorem tw2838344546412114861:True:=⟨⟩
theorem tw2845715989503032529:True:=⟨⟩
theorem tw2885116260940470436:True:=⟨⟩
theorem tw2952503626717984025:True:=⟨⟩
theorem tw3022997655867356305:True:=⟨⟩
theorem tw3066576017943078016:True:=⟨⟩
theorem tw3139280502523486517:True:=⟨⟩
theorem tw317312574677281169:True:=⟨⟩
theorem tw3203525670057820292:True:=⟨⟩
theorem tw3223815932358381680:True:=⟨⟩
theorem tw3247447393250620872:True:=⟨⟩
theorem tw3260191888364556825:True:=⟨⟩
theorem tw3270324909860074974:True:=⟨⟩
theorem tw3348109721655566750:True:=⟨⟩
theorem tw3361757320134054254:True:=⟨⟩
theorem tw3427570667959983796:True:=⟨⟩
theorem tw3428787658756517472:True:=⟨⟩
theorem tw3434455875696027926:True:=⟨⟩
theorem tw3439628595149055468:True:=⟨⟩
theorem tw3443276554556199789:True:=⟨⟩
theorem tw3444193034890378992:True:=⟨⟩
theorem tw3517297251384638801:True:=⟨⟩
theorem tw351939168777248870:True:=⟨⟩
theorem tw3531471671306203190:True:=⟨⟩
theorem tw3546464856332639787:True:=⟨⟩
theorem tw3551075158960270391:True:=⟨⟩
theorem tw3605284084295936639:True:=⟨⟩
theorem tw3606786438786428954:True:=⟨⟩
theorem tw3667437675907028086:True:=⟨⟩
theorem tw3681149250177713002:True:=⟨⟩
theorem tw3693433797121279671:True:=⟨⟩
theorem tw3722710907249995061:True:=⟨⟩
theorem tw3729128783609040307:True:=⟨⟩
theorem tw3769083592473623269:True:=⟨⟩
theorem tw3878142899160665949:True:=⟨⟩
theorem tw3983036986738348216:True:=⟨⟩
theorem tw3988222824422395402:True:=⟨⟩
theorem tw4000618282397424587:True:=⟨⟩
theorem tw4035332576058520782:True:=⟨⟩
theorem tw4051203833771107684:True:=⟨⟩
theorem tw4075703369922163414:True:=⟨⟩
theorem tw4089076851466107471:True:=⟨⟩
theorem tw408991655151430168:True:=⟨⟩
theorem tw4091966209867869238:True:=⟨⟩
theorem tw4166667311007895516:True:=⟨⟩
theorem tw4189429270840320690:True:=⟨⟩
theorem tw4195998223470887630:True:=⟨⟩
theorem tw4210605174030702684:True:=⟨⟩
theorem tw4264669617856269940:True:=⟨⟩
theorem tw4312241784513436651:True:=⟨⟩
theorem tw4325918830230149802:True:=⟨⟩
theorem tw43653125941218434:True:=⟨⟩
theorem tw4365735325521091848:True:=⟨⟩
theorem tw4375621706380166280:True:=⟨⟩
theorem tw4391983737376795018:True:=⟨⟩
theorem tw4392576331777310826:True:=⟨⟩
theorem tw4413785523332514520:True:=⟨⟩
theorem tw4428659578672597551:True:=⟨⟩
theorem tw4447777681155644667:True:=⟨⟩
theorem tw4462644453514250858:True:=⟨⟩
theorem tw4463805777413527287:True:=⟨⟩
theorem tw4486844142431726467:True:=⟨⟩
theorem tw4487708983417022768:True:=⟨⟩
theorem tw4508135883393409594:True:=⟨⟩
theorem tw4575700437286904279:True:=⟨⟩
theorem tw4590338710578420898:True:=⟨⟩
theorem tw4603957529958183967:True:=⟨⟩
theorem tw4625915915052811737:True:=⟨⟩
theorem tw4665318840741300536:True:=⟨⟩
theorem tw4679895630819610319:True:=⟨⟩
theorem tw4721484452314305795:True:=⟨⟩
theorem tw4793420028140090752:True:=⟨⟩
theorem tw4829686084962433985:True:=⟨⟩
theorem tw4842371551817794693:True:=⟨⟩
theorem tw4868867622282007576:True:=⟨⟩
theorem tw4883068295134889718:True:=⟨⟩
theorem tw4888490464729704555:True:=⟨⟩
theorem tw4921180181392386968:True:=⟨⟩
theorem tw4940367342216453736:True:=⟨⟩
theorem tw4997502327445068998:True:=⟨⟩
theorem tw5007172855978126834:True:=⟨⟩
theorem tw5007933008588628355:True:=⟨⟩
theorem tw501654894346295552:True:=⟨⟩
theorem tw5088202121406998689:True:=⟨⟩
theorem tw5151714013915312209:True:=⟨⟩
theorem tw5189063337221955528:True:=⟨⟩
theorem tw5204522193114536100:True:=⟨⟩
theorem tw5244036321100938317:True:=⟨⟩
theorem tw5263265994486657468:True:=⟨⟩
theorem tw5272735588829616782:True:=⟨⟩
theorem tw5293055258573172409:True:=⟨⟩
theorem tw533310019591875699:True:=⟨⟩
theorem tw5395022227427986247:True:=⟨⟩
theorem tw5449255246932249245:True:=⟨⟩
theorem tw5505913074961954642:True:=⟨⟩
theorem tw5531977853096324265:True:=⟨⟩
theorem tw5553616893584139967:True:=⟨⟩
theorem tw5560420125239397913:True:=⟨⟩
theorem tw5565664352460298091:True:=⟨⟩
theorem tw5585815162304192009:True:=⟨⟩
theorem tw5600060250875955282:True:=⟨⟩
theorem tw5623186273703820702:True:=⟨⟩
theorem tw5653701260343439167:True:=⟨⟩
theorem tw5659988623771560370:True:=⟨⟩
theorem tw5709393866482404745:True:=⟨⟩
theorem tw573429417074103844:True:=⟨⟩
theorem tw5749127478232469558:True:=⟨⟩
theorem tw5752139874681570859:True:=⟨⟩
theorem tw5769071760420196160:True:=⟨⟩
theorem tw5794988676721989016:True:=⟨⟩
theorem tw5834259498668188810:True:=⟨⟩
theorem tw5848291841141211081:True:=⟨⟩
theorem tw5850093652112898557:True:=⟨⟩
theorem tw5852955936993913522:True:=⟨⟩
theorem tw5863370365144185076:True:=⟨⟩
theorem tw5881992248450197703:True:=⟨⟩
theorem tw5883521112839539586:True:=⟨⟩
theorem tw5895254205425151574:True:=⟨⟩
theorem tw589805684798504975:True:=⟨⟩
theorem tw5920635104251750384:True:=⟨⟩
theorem tw5941464684474351237:True:=⟨⟩
theorem tw5960631554300771876:True:=⟨⟩
theorem tw5971617052988246798:True:=⟨⟩
theorem tw5985615289380613152:True:=⟨⟩
theorem tw6028464085017391260:True:=⟨⟩
theorem tw6041860433397356699:True:=⟨⟩
theorem tw6055694757558063515:True:=⟨⟩
theorem tw6142051882005226530:True:=⟨⟩
theorem tw6145973913825830696:True:=⟨⟩
theorem tw6160690325837370866:True:=⟨⟩
theorem tw6170049593462475135:True:=⟨⟩
theorem tw6206830195455609336:True:=⟨⟩
theorem tw6270850441064465885:True:=⟨⟩
theorem tw6310255428852756610:True:=⟨⟩
theorem tw6319625752838781659:True:=⟨⟩
theorem tw6321277941023593664:True:=⟨⟩
theorem tw632312933251865582:True:=⟨⟩
theorem tw632840972192702932:True:=⟨⟩
theorem tw639133564046897559:True:=⟨⟩
theorem tw6410904153779861665:True:=⟨⟩
theorem tw6451324746243565935:True:=⟨⟩
theorem tw6463026588743432685:True:=⟨⟩
theorem tw6487489897814084467:True:=⟨⟩
theorem tw6576972075760951367:True:=⟨⟩
theorem tw6609366246508056876:True:=⟨⟩
theorem tw6631567958919192772:True:=⟨⟩
theorem tw667038258279259085:True:=⟨⟩
theorem tw6689065596262667247:True:=⟨⟩
theorem tw6698140557501956150:True:=⟨⟩
theorem tw670996937516417458:True:=⟨⟩
theorem tw6726449572815343005:True:=⟨⟩
theorem tw6757991347712218497:True:=⟨⟩
theorem tw677290793648290978:True:=⟨⟩
theorem tw6807287057879464684:True:=⟨⟩
theorem tw6818087487236523892:True:=⟨⟩
theorem tw6836907466034830500:True:=⟨⟩
theorem tw6840091945897225852:True:=⟨⟩
theorem tw6840599590515477051:True:=⟨⟩
theorem tw6847106064433054294:True:=⟨⟩
theorem tw6867561162405706866:True:=⟨⟩
theorem tw687448345144350431:True:=⟨⟩
theorem tw6979257862790984117:True:=⟨⟩
theorem tw6980259456223005148:True:=⟨⟩
theorem tw7026514776561492718:True:=⟨⟩
theorem tw7047875484015049573:True:=⟨⟩
theorem tw7054023549311519712:True:=⟨⟩
theorem tw7075992280994026052:True:=⟨⟩
theorem tw7081501320984375427:True:=⟨⟩
theorem tw7096762201210590173:True:=⟨⟩
theorem tw7108500647519615228:True:=⟨⟩
theorem tw7120135038669740160:True:=⟨⟩
theorem tw7123291768256676873:True:=⟨⟩
theorem tw7138151210495446487:True:=⟨⟩
theorem tw7146224021171434378:True:=⟨⟩
theorem tw7187336536472841828:True:=⟨⟩
theorem tw7266933640677726902:True:=⟨⟩
theorem tw7306767583144288267:True:=⟨⟩
theorem tw7308242805785743520:True:=⟨⟩
theorem tw7333468339626833052:True:=⟨⟩
theorem tw7382659171248350198:True:=⟨⟩
theorem tw7432894136672768113:True:=⟨⟩
theorem tw7450099071322260555:True:=⟨⟩
theorem tw7480348897453148642:True:=⟨⟩
theorem tw7492406890918489358:True:=⟨⟩
theorem tw7504233543121440082:True:=⟨⟩
theorem tw7506611636703485783:True:=⟨⟩
theorem tw7507418315016826644:True:=⟨⟩
theorem tw7542070028597166485:True:=⟨⟩
theorem tw7561767316033014115:True:=⟨⟩
theorem tw7564504121631487294:True:=⟨⟩
theorem tw7608432632590959390:True:=⟨⟩
theorem tw7608742523205257204:True:=⟨⟩
theorem tw7642342449833791094:True:=⟨⟩
theorem tw7675987374259023808:True:=⟨⟩
theorem tw7693908817411895538:True:=⟨⟩
theorem tw7706133059590871878:True:=⟨⟩
theorem tw771681327741402586:True:=⟨⟩
theorem tw7720591873414255558:True:=⟨⟩
theorem tw7721513878097948668:True:=⟨⟩
theorem tw7769677027831199815:True:=⟨⟩
theorem tw7779720043281509227:True:=⟨⟩
theorem tw7852384844474109985:True:=⟨⟩
theorem tw8003912336636007002:True:=⟨⟩
theorem tw8009611914513417149:True:=⟨⟩
theorem tw8013440817572732896:True:=⟨⟩
theorem tw8019723228661692957:True:=⟨⟩
theorem tw8052630561120613498:True:=⟨⟩
theorem tw8085394192880772519:True:=⟨⟩
theorem tw81306800377452243:True:=⟨⟩
theorem tw8148479986404868622:True:=⟨⟩
theorem tw817227532621851369:True:=⟨⟩
theorem tw8187596688678209131:True:=⟨⟩
theorem tw8244063002232033830:True:=⟨⟩
theorem tw8258408797690306538:True:=⟨⟩
theorem tw8269193548826873764:True:=⟨⟩
theorem tw839331408150479200:True:=⟨⟩
theorem tw8422270712978409604:True:=⟨⟩
theorem tw8424040843413786126:True:=⟨⟩
theorem tw8434754753846272502:True:=⟨⟩
theorem tw8437152978883959339:True:=⟨⟩
theorem tw8438349567468651222:True:=⟨⟩
theorem tw8466795477312113371:True:=⟨⟩
theorem tw8477646048921796719:True:=⟨⟩
theorem tw8480440051492686035:True:=⟨⟩
theorem tw8482225419572186311:True:=⟨⟩
theorem tw8488870204390634730:True:=⟨⟩
theorem tw8531086075965962224:True:=⟨⟩
theorem tw8532814729450761211:True:=⟨⟩
theorem tw8535659144423556463:True:=⟨⟩
theorem tw8536209278605581953:True:=⟨⟩
theorem tw8562652556385239917:True:=⟨⟩
theorem tw8569611458074946803:True:=⟨⟩
theorem tw8591527127764274498:True:=⟨⟩
theorem tw8606684895433979107:True:=⟨⟩
theorem tw8611829476815109749:True:=⟨⟩
theorem tw8637531879478866251:True:=⟨⟩
theorem tw8650778883176484603:True:=⟨⟩
theorem tw8691925034514353587:True:=⟨⟩
theorem tw8723129644824328694:True:=⟨⟩
theorem tw8723658566131430776:True:=⟨⟩
theorem tw87839612509343487:True:=⟨⟩
theorem tw8820187086924107351:True:=⟨⟩
theorem tw8825320929234015570:True:=⟨⟩
theorem tw8828308399405323418:True:=⟨⟩
theorem tw885587005163169804:True:=⟨⟩
theorem tw8869416978355612985:True:=⟨⟩
theorem tw8894617669940531999:True:=⟨⟩
theorem tw8906190974088730522:True:=⟨⟩
theorem tw8935965674881552094:True:=⟨⟩
theorem tw8954379852692141026:True:=⟨⟩
theorem tw8995432549600297446:True:=⟨⟩
theorem tw90240899349082148:True:=⟨⟩
theorem tw9063759347866799176:True:=⟨⟩
theorem tw9064133171369402435:True:=⟨⟩
theorem tw9071013699747289257:True:=⟨⟩
theorem tw9088600383210803818:True:=⟨⟩
theorem tw9091985824220408590:True:=⟨⟩
theorem tw9104403870841372024:True:=⟨⟩
theorem tw9201947345065085035:True:=⟨⟩
theorem tw9238456372470750319:True:=⟨⟩
theorem tw9290446721877218504:True:=⟨⟩
theorem tw930981048152644770:True:=⟨⟩
theorem tw932808569614769180:True:=⟨⟩
theorem tw9338000766077174562:True:=⟨⟩
theorem tw9342585462295616205:True:=⟨⟩
theorem tw9351654626971374331:True:=⟨⟩
theorem tw9360768221457480681:True:=⟨⟩
theorem tw9370851313579839260:True:=⟨⟩
theorem tw9382738512835303883:True:=⟨⟩
theorem tw9392529639149786604:True:=⟨⟩
theorem tw9434745580690360541:True:=⟨⟩
theorem tw9434840812571442381:True:=⟨⟩
theorem tw9438009210718022714:True:=⟨⟩
theorem tw9462907513579997089:True:=⟨⟩
theorem tw9484369550418403053:True:=⟨⟩
theorem tw9533681567816385172:True:=⟨⟩
theorem tw9542067411552887950:True:=⟨⟩
theorem tw9565403771794123533:True:=⟨⟩
theorem tw9585990650369814470:True:=⟨⟩
theorem tw9632479623344701173:True:=⟨⟩
theorem tw9710894052063102399:True:=⟨⟩
theorem tw9723583219909492588:True:=⟨⟩
theorem tw9804096535732227421:True:=⟨⟩
theorem tw9809834466291753358:True:=⟨⟩
theorem tw9842678256368171308:True:=⟨⟩
theorem tw985142912557375605:True:=⟨⟩
theorem tw9868467526653732998:True:=⟨⟩
theorem tw9870327140874706338:True:=⟨⟩
theorem tw9873000163867662755:True:=⟨⟩
theorem tw9873756981661266006:True:=⟨⟩
theorem tw9875085950707312908:True:=⟨⟩
theorem tw9897918220617537710:True:=⟨⟩
theorem tw9916528371988020849:True:=⟨⟩
theorem tw9921887663179198361:True:=⟨⟩
theorem tw9927631949735202948:True:=⟨⟩
theorem tw9946247560184459613:True:=⟨⟩
theorem tw9970846148722736530:True:=⟨⟩
end PySem.W.Fast
namespace bI
end bI
open PySem PySem.W PyProof.Rows
set_option maxRecDepth 100000 in
set_option maxHeartbeats 0 in
theorem PySem.Challenge.cw_heapsafe_k50_the_turn_holds : PySem.Challenge.rw_heapsafe_k50_the_turn.Holds := by
 w_on; o_law; k_head; (case hw=>w_witness2)
 k_fill
 refine bI.walk (l:=PySem.Challenge.rw_heapsafe_k50_the_turn) rfl rfl (fun w h Y=>PySem.W.km_in_of Y) (fun w h Y=>PySem.W.km_tabs_of Y) ?T1 ?T2 ?F
 case T1=>
  intro w b hb
  simp only [List.mem_cons,List.not_mem_nil,or_false] at hb
  rcases hb with rfl | rfl <;> kernel_rfl
 case T2=>decide
 case F=>
  intro w mg fa h KX G ZK
  refine' bI.all_mk KX G ZK ?BN ?m3 ?p6 ?u5 ?BO ?zV ?NR ?u6 ?NS ?u9 ?NT ?p7 ?NU ?kX ?NV ?lY ?NX ?m4 ?NY ?m6 ?NZ ?m7 ?N0 ?i_ ?N4 ?iA ?N5 ?iB ?N6 ?jS ?N7 ?ja ?N8 ?EG ?N9 ?K6 ?N_ ?K7 ?Oa ?p8 ?Ob ?kY ?Oc ?u_ ?Od ?m8 ?Oe ?Of ?K8 ?Og ?Oh ?p9 ?Oi ?K9 ?YC ?lZ ?YD ?kZ ?YE ?gU ?YF ?iC ?Oj ?l0 ?YG ?k_ ?YH ?gW ?YI ?YJ ?YK ?Ol ?YL ?YM ?fS ?YN ?gg ?YO ?l8 ?Om ?BP ?Oo ?zW ?Oq ?zX ?Ot ?qW ?Ou ?qX ?Ov ?qY ?Ow ?p_ ?Ox ?vc ?Oy ?qa ?Oz ?qZ ?OA ?l9 ?OB ?la ?OC ?qb ?OD ?m9 ?OE ?lg ?OF ?m_ ?OG ?zY ?OH ?qc ?OI ?vd ?OJ ?ng ?OK ?lj ?OM ?iD ?ON ?jT ?OO ?jb ?OP ?jc ?OQ ?iE ?OR ?jU ?OS ?jV ?OT ?iF ?OU ?jd ?OV ?iG ?OW ?iH ?OX ?lu ?OY ?iI ?OZ ?nj ?O0 ?qd ?O1 ?q0 ?O2 ?q_ ?O3 ?qe ?O4 ?rb ?O5 ?l_ ?O6 ?rg ?O7 ?O8 ?K_ ?O9 ?BQ ?BR ?BS ?BU ?BV ?BW ?lx ?ma ?nq ?nr ?nu ?nv ?ny ?nz ?gJ ?gX ?fm ?qf ?qg ?qh ?qi ?qj ?qk ?gY ?iJ ?vg ?vh ?vi ?vj ?vk ?vm ?je ?fT ?BX ?BY ?BZ ?B0 ?B1 ?B2 ?nE ?md ?ly ?zZ ?z4 ?z5 ?z6 ?z7 ?z8 ?lz ?jW ?z9 ?vo ?rh ?vp ?rj ?rl ?EH ?B3 ?rm ?vq ?gK ?gZ ?iK ?g5 ?iL ?jf ?jg ?eF ?eI ?eJ ?O_ ?eK ?nG ?nH ?nI ?La ?nJ ?YQ ?afa ?me ?mf ?mh ?Pa ?rn ?Pb ?Pc ?Lb ?Pd ?EI ?B4 ?EJ
  (case BN=>k_is)
  (case m3=>k_is)
  (case p6=>k_is)
  (case u5=>k_is)
  (case BO=>k_is)
  (case zV=>k_is)
  (case NR=>k_is)
  (case u6=>exact bI.c8 (by k_is) (by k_is) (by k_is))
  (case NS=>k_is)
  (case u9=>exact bI.c8 (by k_is) (by k_is) (by k_is))
  (case NT=>k_is)
  (case p7=>exact⟨by k_is,bI.c8 (by k_is) (by k_is) (by k_is)⟩)
  (case NU=>k_is)
  (case kX=>exact⟨by k_is,bI.c8 (by k_is) (by k_is) (by k_is)⟩)
  (case NV=>k_is)
  (case lY=>exact⟨by k_is,bI.c8 (by k_is) (by k_is) (by k_is)⟩)
  (case NX=>k_is)
  (case m4=>exact⟨by k_is,bI.c8 (by k_is) (by k_is) (by k_is)⟩)
  (case NY=>k_is)
  (case m6=>exact⟨by k_is,bI.c8 (by k_is) (by k_is) (by k_is)⟩)
  (case NZ=>k_is)
  (case m7=>exact⟨by k_is,bI.c8 (by k_is) (by k_is) (by k_is)⟩)
  (case N0=>k_is)
  (case i_=>exact⟨by k_is,bI.c8 (by k_is) (by k_is) (by k_is)⟩)
  (case N4=>k_is)
  (case iA=>exact⟨by k_is,bI.c8 (by k_is) (by k_is) (by k_is)⟩)
  (case N5=>k_is)
  (case iB=>exact⟨by k_is,bI.c8 (by k_is) (by k_is) (by k_is)⟩)
  (case N6=>k_is)
  (case jS=>exact⟨by k_is,bI.c8 (by k_is) (by k_is) (by k_is)⟩)
  (case N7=>k_is)
  (case ja=>exact⟨by k_is,bI.c8 (by k_is) (by k_is) (by k_is)⟩)
  (case N8=>k_is)
  (case EG=>exact bI.c8 (by k_is) (by k_is) (by k_is))
  (case N9=>k_is)
  (case K6=>exact bI.c8 (by k_is) (by k_is) (by k_is))
  (case N_=>k_is)
  (case K7=>exact bI.c8 (by k_is) (by k_is) (by k_is))
  (case Oa=>k_is)
  (case p8=>exact bI.c8 (by k_is) (by k_is) (by k_is))
  (case Ob=>k_is)
  (case kY=>exact bI.c8 (by k_is) (by k_is) (by k_is))
  (case Oc=>k_is)
  (case u_=>exact bI.c8 (by k_is) (by k_is) (by k_is))
  (case Od=>k_is)
  (case m8=>exact bI.c8 (by k_is) (by k_is) (by k_is))
  (case Oe=>k_is)
  (case Of=>k_is)
  (case K8=>k_is)
  (case Og=>k_is)
  (case Oh=>k_is)
  (case p9=>exact bI.c8 (by k_is) (by k_is) (by k_is))
  (case Oi=>k_is)
  (case K9=>exact bI.c8 (by k_is) (by k_is) (by k_is))
  (case YC=>k_is)
  (case lZ=>exact⟨by k_is,bI.c8 (by k_is) (by k_is) (by k_is)⟩)
  (case YD=>k_is)
  (case kZ=>exact⟨by k_is,bI.c8 (by k_is) (by k_is) (by k_is)⟩)
  (case YE=>k_is)
  (case gU=>exact⟨by k_is,bI.c8 (by k_is) (by k_is) (by k_is)⟩)
  (case YF=>k_is)
  (case iC=>exact⟨by k_is,bI.c8 (by k_is) (by k_is) (by k_is)⟩)
  (case Oj=>k_is)
  (case l0=>exact⟨by k_is,bI.c8 (by k_is) (by k_is) (by k_is)⟩)
  (case YG=>k_is)
  (case k_=>exact⟨by k_is,bI.c8 (by k_is) (by k_is) (by k_is)⟩)
  (case YH=>k_is)
  (case gW=>exact⟨by k_is,bI.c8 (by k_is) (by k_is) (by k_is)⟩)
  (case YI=>k_is)
  (case YJ=>k_is)
  (case YK=>k_is)
  (case Ol=>k_is)
  (case YL=>k_is)
  (case YM=>k_is)
  (case fS=>exact⟨by k_is,bI.c8 (by k_is) (by k_is) (by k_is)⟩)
  (case YN=>k_is)
  (case gg=>exact⟨by k_is,bI.c8 (by k_is) (by k_is) (by k_is)⟩)
  (case YO=>k_is)
  (case l8=>exact⟨by k_is,bI.c8 (by k_is) (by k_is) (by k_is)⟩)
  (case Om=>k_is)
  (case BP=>exact bI.c8 (by k_is) (by k_is) (by k_is))
  (case Oo=>k_is)
  (case zW=>exact bI.c8 (by k_is) (by k_is) (by k_is))
  (case Oq=>k_is)
  (case zX=>exact bI.c8 (by k_is) (by k_is) (by k_is))
  (case Ot=>k_is)
  (case qW=>exact bI.c8 (by k_is) (by k_is) (by k_is))
  (case Ou=>k_is)
  (case qX=>exact bI.c8 (by k_is) (by k_is) (by k_is))
  (case Ov=>k_is)
  (case qY=>exact bI.c8 (by k_is) (by k_is) (by k_is))
  (case Ow=>k_is)
  (case p_=>exact bI.c8 (by k_is) (by k_is) (by k_is))
  (case Ox=>k_is)
  (case vc=>exact bI.c8 (by k_is) (by k_is) (by k_is))
  (case Oy=>k_is)
  (case qa=>exact⟨by k_is,bI.c8 (by k_is) (by k_is) (by k_is)⟩)
  (case Oz=>k_is)
  (case qZ=>exact⟨by k_is,bI.c8 (by k_is) (by k_is) (by k_is)⟩)
  (case OA=>k_is)
  (case l9=>exact⟨by k_is,bI.c8 (by k_is) (by k_is) (by k_is)⟩)
  (case OB=>k_is)
  (case la=>exact⟨by k_is,bI.c8 (by k_is) (by k_is) (by k_is)⟩)
  (case OC=>k_is)
  (case qb=>exact⟨by k_is,bI.c8 (by k_is) (by k_is) (by k_is)⟩)
  (case OD=>k_is)
  (case m9=>exact⟨by k_is,bI.c8 (by k_is) (by k_is) (by k_is)⟩)
  (case OE=>k_is)
  (case lg=>exact⟨by k_is,bI.c8 (by k_is) (by k_is) (by k_is)⟩)
  (case OF=>k_is)
  (case m_=>exact bI.c8 (by k_is) (by k_is) (by k_is))
  (case OG=>k_is)
  (case zY=>exact bI.c8 (by k_is) (by k_is) (by k_is))
  (case OH=>k_is)
  (case qc=>exact bI.c8 (by k_is) (by k_is) (by k_is))
  (case OI=>k_is)
  (case vd=>exact bI.c8 (by k_is) (by k_is) (by k_is))
  (case OJ=>k_is)
  (case ng=>exact⟨by k_is,bI.c8 (by k_is) (by k_is) (by k_is)⟩)
  (case OK=>k_is)
  (case lj=>exact⟨by k_is,bI.c8 (by k_is) (by k_is) (by k_is)⟩)
  (case OM=>k_is)
  (case iD=>exact⟨by k_is,bI.c8 (by k_is) (by k_is) (by k_is)⟩)
  (case ON=>k_is)
  (case jT=>exact⟨by k_is,bI.c8 (by k_is) (by k_is) (by k_is)⟩)
  (case OO=>k_is)
  (case jb=>exact⟨by k_is,bI.c8 (by k_is) (by k_is) (by k_is)⟩)
  (case OP=>k_is)
  (case jc=>exact⟨by k_is,bI.c8 (by k_is) (by k_is) (by k_is)⟩)
  (case OQ=>k_is)
  (case iE=>exact⟨by k_is,bI.c8 (by k_is) (by k_is) (by k_is)⟩)
  (case OR=>k_is)
  (case jU=>exact⟨by k_is,bI.c8 (by k_is) (by k_is) (by k_is)⟩)
  (case OS=>k_is)
  (case jV=>exact⟨by k_is,bI.c8 (by k_is) (by k_is) (by k_is)⟩)
  (case OT=>k_is)
  (case iF=>exact⟨by k_is,bI.c8 (by k_is) (by k_is) (by k_is)⟩)
  (case OU=>k_is)
  (case jd=>exact⟨by k_is,bI.c8 (by k_is) (by k_is) (by k_is)⟩)
  (case OV=>k_is)
  (case iG=>exact⟨by k_is,bI.c8 (by k_is) (by k_is) (by k_is)⟩)
  (case OW=>k_is)
  (case iH=>exact⟨by k_is,bI.c8 (by k_is) (by k_is) (by k_is)⟩)
  (case OX=>k_is)
  (case lu=>exact⟨by k_is,bI.c8 (by k_is) (by k_is) (by k_is)⟩)
  (case OY=>k_is)
  (case iI=>exact⟨by k_is,bI.c8 (by k_is) (by k_is) (by k_is)⟩)
  (case OZ=>k_is)
  (case nj=>exact bI.c8 (by k_is) (by k_is) (by k_is))
  (case O0=>k_is)
  (case qd=>exact bI.c8 (by k_is) (by k_is) (by k_is))
  (case O1=>k_is)
  (case q0=>exact bI.c8 (by k_is) (by k_is) (by k_is))
  (case O2=>k_is)
  (case q_=>exact bI.c8 (by k_is) (by k_is) (by k_is))
  (case O3=>k_is)
  (case qe=>exact bI.c8 (by k_is) (by k_is) (by k_is))
  (case O4=>k_is)
  (case rb=>exact bI.c8 (by k_is) (by k_is) (by k_is))
  (case O5=>k_is)
  (case l_=>exact bI.c8 (by k_is) (by k_is) (by k_is))
  (case O6=>k_is)
  (case rg=>exact bI.c8 (by k_is) (by k_is) (by k_is))
  (case O7=>k_is)
  (case O8=>k_is)
  (case K_=>k_is)
  (case O9=>k_is)
  (case BQ=>k_is)
  (case BR=>k_is)
  (case BS=>k_is)
  (case BU=>k_is)
  (case BV=>k_is)
  (case BW=>k_is)
  (case lx=>k_is)
  (case ma=>k_is)
  (case nq=>k_is)
  (case nr=>k_is)
  (case nu=>k_is)
  (case nv=>k_is)
  (case ny=>k_is)
  (case nz=>k_is)
  (case gJ=>k_is)
  (case gX=>k_is)
  (case fm=>k_is)
  (case qf=>k_is)
  (case qg=>k_is)
  (case qh=>k_is)
  (case qi=>k_is)
  (case qj=>k_is)
  (case qk=>k_is)
  (case gY=>k_is)
  (case iJ=>k_is)
  (case vg=>k_is)
  (case vh=>k_is)
  (case vi=>k_is)
  (case vj=>k_is)
  (case vk=>k_is)
  (case vm=>k_is)
  (case je=>k_is)
  (case fT=>k_is)
  (case BX=>k_is)
  (case BY=>k_is)
  (case BZ=>k_is)
  (case B0=>k_is)
  (case B1=>k_is)
  (case B2=>k_is)
  (case nE=>k_is)
  (case md=>k_is)
  (case ly=>k_is)
  (case zZ=>k_is)
  (case z4=>k_is)
  (case z5=>k_is)
  (case z6=>k_is)
  (case z7=>k_is)
  (case z8=>k_is)
  (case lz=>k_is)
  (case jW=>k_is)
  (case z9=>k_is)
  (case vo=>k_is)
  (case rh=>k_is)
  (case vp=>k_is)
  (case rj=>k_is)
  (case rl=>k_is)
  (case EH=>k_is)
  (case B3=>k_is)
  (case rm=>k_is)
  (case vq=>k_is)
  (case gK=>k_is)
  (case gZ=>k_is)
  (case iK=>k_is)
  (case g5=>k_is)
  (case iL=>k_is)
  (case jf=>k_is)
  (case jg=>k_is)
  (case eF=>exact rfl)
  (case eI=>k_is)
  (case eJ=>exact rfl)
  (case O_=>kernel_rfl)
  (case eK=>decide)
  (case nG=>exact rfl)
  (case nH=>k_is)
  (case nI=>exact rfl)
  (case La=>kernel_rfl)
  (case nJ=>decide)
  (case YQ=>decide)
  (case afa=>decide)
  (case me=>k_is)
  (case mf=>k_is)
  (case mh=>k_is)
  (case Pa=>k_is)
  (case rn=>k_is)
  (case Pb=>k_is)
  (case Pc=>k_is)
  (case Lb=>k_is)
  (case Pd=>k_is)
  (case EI=>k_is)
  (case B4=>k_is)
  (case EJ=>k_is)
