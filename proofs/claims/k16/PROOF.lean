import PyProof.Rows.All
import Wide.All
import OpenK.AllK
import Wide.FinOn
import Lean
import PyProof.EqAt
import PyProof.EqKinds
import PyProof.TupleCall
import PySem.Challenge.RW_heapsafe_k16_closed_sets
set_option Elab.async false
set_option linter.all false
set_option maxRecDepth 100000
set_option maxHeartbeats 4000000
namespace L2
open PySem PySem.Spec PyProof.Rows
noncomputable abbrev Key:=Sum Int Str
noncomputable def kT:Key->Value->Bool
 | .inl k,v=>Value.isInt k v
 | .inr x,v=>Value.isStrOf x v
noncomputable def Wz (w:World):Key->Int
 | .inl k=>hashInt k
 | .inr x=>hashStr w x
theorem bU:∀{k:Key}{v:Value},kT k v=true->(∃i t,k=Sum.inl i/\v=Value.int i t)\/(∃x t,k=Sum.inr x/\v=Value.str x t)
 | .inl i,v,h=>by
  obtain⟨t,e⟩:=Value.isInt_shape (k:=i) (v:=v) h;exact .inl ⟨i,t,rfl,e⟩
 | .inr x,v,h=>by
  obtain⟨t,e⟩:=Value.isStrOf_shape (x:=x) (v:=v) h;exact .inr ⟨x,t,rfl,e⟩
theorem Fm (i:Int) (t:Tok):kT (.inl i) (.int i t)=true:=by simp [kT,Value.isInt]
theorem Fn (x:Str) (t:Tok):kT (.inr x) (.str x t)=true:=by simp [kT,Value.isStrOf]
theorem RO (a b:Int):decide ((Sum.inl a:Key)=Sum.inl b)=(a == b):=by
 by_cases e:a=b
 ·subst e; simp
 ·have h:¬(Sum.inl a:Key)=Sum.inl b:=λq=>e (Sum.inl.inj q)
  rw [decide_eq_false h];exact(beq_eq_false_iff_ne.mpr e).symm
theorem RP (a b:Str):decide ((Sum.inr a:Key)=Sum.inr b)=decide (a=b):=by
 by_cases e:a=b
 ·subst e; simp
 ·have h:¬(Sum.inr a:Key)=Sum.inr b:=λq=>e (Sum.inr.inj q)
  rw [decide_eq_false h,decide_eq_false e]
theorem RQ (a:Int) (b:Str):decide ((Sum.inl a:Key)=Sum.inr b)=false:=decide_eq_false (λq=>nomatch q)
theorem RR (a:Str) (b:Int):decide ((Sum.inr a:Key)=Sum.inl b)=false:=decide_eq_false (λq=>nomatch q)
noncomputable def ba (prog:Program) (w:World):PySem.KeyKind prog w Key where
 is:=kT
 hash:=Wz w
 inj:=λv a b ha hb=>by
  rcases bU ha with ⟨i,t,rfl,rfl⟩ | ⟨x,t,rfl,rfl⟩
  ·rcases bU hb with ⟨j,u,rfl,e⟩ | ⟨y,u,rfl,e⟩
   ·injection e with e1 _; rw [e1]
   ·exact nomatch e
  ·rcases bU hb with ⟨j,u,rfl,e⟩ | ⟨y,u,rfl,e⟩
   ·exact nomatch e
   ·injection e with e1 _; rw [e1]
 byValue:=λk v h=>by
  rcases bU h with ⟨i,t,rfl,rfl⟩ | ⟨x,t,rfl,rfl⟩ <;> rfl
 pyHash:=λhv h=>by
  rcases bU hv with ⟨i,t,rfl,rfl⟩ | ⟨x,t,rfl,rfl⟩
  ·exact wpAny_pyHash_int h
  ·exact wpAny_pyHash_str h
 eqBool:=λhu hv h=>by
  rcases bU hu with ⟨i,t,rfl,rfl⟩ | ⟨x,t,rfl,rfl⟩
  ·rcases bU hv with ⟨j,u,rfl,rfl⟩ | ⟨y,u,rfl,rfl⟩
   ·rw [RO] at h; exact wpAny_eqBool_int h
   ·rw [RQ] at h; exact SeqAt.EqAt.int_str i t y u _ _ _ _ h
  ·rcases bU hv with ⟨j,u,rfl,rfl⟩ | ⟨y,u,rfl,rfl⟩
   ·rw [RR] at h; exact SeqAt.EqAt.str_int x t j u _ _ _ _ h
   ·rw [RP] at h; exact wpAny_eqBool_str h
 «strs»:=λk x t v h=>by
  rcases bU h with ⟨i,u,rfl,e⟩ | ⟨y,u,rfl,e⟩
  ·exact nomatch e
  ·injection e with e1 _
   subst e1
   cases v <;> rfl
theorem wO (prog:Program) (w:World) (i:Int) (t:Tok):(ba prog w).is (.inl i) (.int i t)=true:=Fm i t
theorem wQ (prog:Program) (w:World) (x:Str) (t:Tok):(ba prog w).is (.inr x) (.str x t)=true:=Fn x t
inductive V where
 | bM | bl (b:Bool) | int (i:Int) | str (x:Str) | GO (b:Array UInt8) | RT (b:UInt64) | ref (a:Addr) | ty (n:String)
 deriving DecidableEq
noncomputable def RelV:V->Value->Prop
 | .bM,u=>u=Value.none
 | .bl b,u=>u=Value.bool b
 | .int i,u=>∃t,u=Value.int i t
 | .str x,u=>∃t,u=Value.str x t
 | .GO b,u=>∃t,u=Value.bytes b t
 | .RT b,u=>∃t,u=Value.float b t
 | .ref a,u=>u=Value.ref a
 | .ty n,u=>u=Value.type n
noncomputable abbrev Vals:List V->List Value->Prop:=Paired RelV
theorem Vals.length {xs:List V}{us:List Value}(r:Vals xs us):xs.length=us.length:=Paired.length r
theorem Vals.get:∀{xs:List V}{us:List Value}{i:Nat}{x:V},Vals xs us->xs[i]?=some x->∃u,us[i]?=some u/\RelV x u
 | _,_,_,_,.nil,e=>by simp at e
 | _,_,0,_,.cons r _,e=>by simp at e; subst e; exact⟨_,rfl,r⟩
 | _,_,i+1,x,.cons _ t,e=>by
  obtain⟨u,h1,h2⟩:=Vals.get (i:=i) (x:=x) t (by simpa using e);exact⟨u,by simpa using h1,h2⟩
theorem Vals.set {x:V}{u:Value}(r:RelV x u):∀{xs:List V}{us:List Value}(i:Nat),Vals xs us->Vals (xs.set i x) (us.set i u)
 | _,_,_,.nil=>.nil
 | _,_,0,.cons _ t=>.cons r t
 | _,_,i+1,.cons q t=>.cons q (Vals.set r i t)
theorem Vals.append:∀{xs ys:List V}{us ws:List Value},Vals xs us->Vals ys ws->Vals (xs++ys) (us++ws)
 | _,_,_,_,.nil,s=>s
 | _,_,_,_,.cons r t,s=>.cons r (Vals.append t s)
theorem Vals.take:∀{xs:List V}{us:List Value}(n:Nat),Vals xs us->Vals (xs.take n) (us.take n)
 | _,_,0,_=>.nil
 | _,_,_+1,.nil=>.nil
 | _,_,n+1,.cons r t=>.cons r (Vals.take n t)
theorem Vals.drop:∀{xs:List V}{us:List Value}(n:Nat),Vals xs us->Vals (xs.drop n) (us.drop n)
 | _,_,0,r=>r
 | _,_,_+1,.nil=>.nil
 | _,_,n+1,.cons _ t=>Vals.drop n t
noncomputable def g_:Option V->Option Value->Prop
 | some v,some u=>RelV v u
 | none,none=>True
 | _,_=>False
noncomputable def KV {κ:Type}:List (κ×V)->List (κ×Value)->Prop:=Paired λ(p:κ×V) (q:κ×Value)=>p.1=q.1/\RelV p.2 q.2
noncomputable def kV:Key->V
 | .inl i=>.int i
 | .inr x=>.str x
inductive HO where
 
 | lst (xs:List V)
 
 | tup (xs:List V)
 
 | dK (kvs:List (Key×V)) | dT (kvs:List (List Key×V))
 
 | set (S:Int->Bool) (n:Nat)
 
 | ins (C dx:Addr) (fs:List (Str×V))
 
 | own (x:Addr)
 
 | xd (fs:List (Str×V))
 
 | met (f x:Addr)
 
 | rng (lo hi:Int)
 
 | iY (o:Obj) (u:HO)
 
 | RU (ps:Array Value)
 
 | ext (φ:Heap->Prop)
noncomputable abbrev Hp:=Addr->Option HO
noncomputable def upd (H:Hp) (a:Addr) (o:HO):Hp:=λb=>if b=a then some o else H b
theorem ae {H:Hp}{a:Addr}{o:HO}:upd H a o a=some o:=by unfold upd; rw [if_pos rfl]
theorem au {H:Hp}{a b:Addr}{o:HO}(h:b≠a):upd H a o b=H b:=by unfold upd; rw [if_neg h]
theorem Eg {H:Hp}{a:Addr}{o u:HO}:upd (upd H a o) a u=upd H a u:=by
 funext b; unfold upd; split <;> rfl
theorem nB {H:Hp}{a b:Addr}{o u:HO}(h:H a=some o) (h':H b=some u) (d:o≠u):a≠b:=by
 intro e; subst e; rw [h] at h'; exact d (Option.some.inj h')
theorem az {H:Hp}{a b:Addr}{o:HO}(h:H a=some o) (h':H b=none):a≠b:=by
 intro e; subst e; rw [h] at h'; cases h'
section
variable (P:Program) (w:World)
noncomputable def cJ (H:Hp) (h:Heap) (a:Addr):HO->Prop
 | .lst xs=>xs.length<=sizeLine/\∃(bw:List Value) (n:Nat),Vals xs bw/\h.get? a=some {cls:=.type "list",data:=.seq bw.toArray n}
 | .tup xs=>xs.length<=sizeLine/\∃bw:List Value,Vals xs bw/\IsTup h a bw.toArray
 | .dK kvs=>kvs.length<=sizeLine/\(a == sysModules)=false/\∃vs,KV kvs vs/\h.DictOf (ba P w) a vs
 | .dT kvs=>kvs.length<=sizeLine/\(a == sysModules)=false/\∃xs:List (List Key×Addr×Value),
   Paired (λ(p:List Key×V) (q:List Key×Addr×Value)=>p.1=q.1/\H q.2.1=some (.tup (p.1.map kV))/\RelV p.2 q.2.2) kvs xs /\
   ∃o es ep,h.get? a=some o/\o.ExactDict/\o.data=.dict es ep/\es.toList=xs.map (entryOfKey (tupleKind (ba P w)))/\(xs.map (·.1)).Nodup
 | .set S n=>h.SetOf (intKind P w) a S n
 | .ins C dx fs=>H dx=some (.own a)/\fs.length<=1000/\dx≠a/\h.get? a=some (PySem.W.instObj C dx) /\
   ∃mA,h.Ns1 dx mA/\(∀f,g_ (fs.lookup f) (mA f))/\PySem.Within mA (fs.map (·.1))
 | .own _=>∃o,h.get? a=some o
 | .xd fs=>∃mA,h.Ns1 a mA/\∀f,g_ (fs.lookup f) (mA f)
 | .rng lo hi=>∃t u v,h.get? a=some {cls:=.type "range",data:=.fields #[.int lo t,.int hi u,.int 1 v]}
 | .iY o u=>h.get? a=some o/\cJ H h a u
 | .RU ps=>h.get? a=some {cls:=.none,data:=.fields ps}
 | .met f x=>h.get? a=some (PySem.W.methodObj (.ref f) (.ref x))
 | .ext φ=>φ h/\(∃o,h.get? a=some o)/\∀h1 h2:Heap,φ h1->(∀o,h1.get? a=some o->h2.get? a=some o)->φ h2
noncomputable def kq (H:Hp) (h:Heap):Prop:=∀a o,H a=some o->cJ P w H h a o
end
section
variable {P:Program}{w:World}{H H':Hp}{h h':Heap}{a:Addr}{o:HO}
theorem cJ.lt (x:cJ P w H h a o):a < h.objs.size:=by
 cases o with
 | lst xs=>obtain⟨_,_,_,_,e⟩:=x; exact Heap.lt_size e
 | tup xs=>obtain⟨_,_,_,p⟩:=x; exact p.lt
 | dK kvs=>obtain⟨_,_,_,_,o,_,_,e,_⟩:=x; exact Heap.lt_size e
 | dT kvs=>obtain⟨_,_,_,_,o,_,_,e,_⟩:=x; exact Heap.lt_size e
 | set S n=>obtain⟨o,_,_,_,e,_⟩:=x; exact Heap.lt_size e
 | ins C dx fs=>obtain⟨_,_,_,e,_⟩:=x; exact Heap.lt_size e
 | own y=>obtain⟨_,e⟩:=x; exact Heap.lt_size e
 | xd fs=>obtain⟨_,⟨_,_,_,e,_⟩,_⟩:=x; exact Heap.lt_size e
 | rng lo hi=>obtain⟨_,_,_,e⟩:=x; exact Heap.lt_size e
 | iY ob u=>obtain⟨e,_⟩:=x; exact Heap.lt_size e
 | RU ps=>exact Heap.lt_size (show h.get? a=some _ from x)
 | met f y=>exact Heap.lt_size (show h.get? a=some _ from x)
 | ext φ=>obtain⟨_,⟨_,e⟩,_⟩:=x; exact Heap.lt_size e
theorem Paired.RV {α β:Type}{F G:α->β->Prop}:∀{l₁:List α}{l₂:List β},Paired F l₁ l₂->(∀a b,F a b->G a b)->Paired G l₁ l₂
 | _,_,.nil,_=>.nil
 | _,_,.cons r t,f=>.cons (f _ _ r) (Paired.RV t f)
theorem cJ.BN (x:cJ P w H h a o) (k:∀b u,(b=a\/H b=some (.own a))->h.get? b=some u->h'.get? b=some u)
  (ho:∀b,H b=some (.own a)->H' b=some (.own a)) (ht:∀b xs,H b=some (.tup xs)->H' b=some (.tup xs)):cJ P w H' h' a o:=by
 induction o with
 | lst xs=>obtain⟨z,bw,n,r,e⟩:=x; exact⟨z,bw,n,r,k _ _ (.inl rfl) e⟩
 | tup xs=>obtain⟨z,bw,r,ob,e,c⟩:=x; exact⟨z,bw,r,ob,k _ _ (.inl rfl) e,c⟩
 | dK kvs=>obtain⟨z,y,vs,r,ob,es,ep,e,c⟩:=x; exact⟨z,y,vs,r,ob,es,ep,k _ _ (.inl rfl) e,c⟩
 | dT kvs=>
  obtain⟨z,y,xs,r,ob,es,ep,e,c⟩:=x;exact⟨z,y,xs,Paired.RV r λp q z=>⟨z.1,ht _ _ z.2.1,z.2.2⟩,ob,es,ep,k _ _ (.inl rfl) e,c⟩
 | set S n=>obtain⟨ob,es,ep,t,e,c⟩:=x; exact⟨ob,es,ep,t,k _ _ (.inl rfl) e,c⟩
 | ins C dx fs=>
  obtain⟨d,z,ne,e,mA,⟨od,es,ep,e2,c⟩,r⟩:=x;exact⟨ho _ d,z,ne,k _ _ (.inl rfl) e,mA,⟨od,es,ep,k _ _ (.inr d) e2,c⟩,r⟩
 | own y=>obtain⟨ob,e⟩:=x; exact⟨ob,k _ _ (.inl rfl) e⟩
 | xd fs=>obtain⟨mA,⟨od,es,ep,e,c⟩,r⟩:=x; exact⟨mA,⟨od,es,ep,k _ _ (.inl rfl) e,c⟩,r⟩
 | rng lo hi=>obtain⟨t,u,v,e⟩:=x; exact⟨t,u,v,k _ _ (.inl rfl) e⟩
 | iY ob u ih=>obtain⟨e,q⟩:=x; exact⟨k _ _ (.inl rfl) e,ih q⟩
 | RU ps=>
  have e:h.get? a=some {cls:=.none,data:=.fields ps}:=x;show h'.get? a=some {cls:=.none,data:=.fields ps};exact k a _ (.inl rfl) e
 | met f y=>
  have e:h.get? a=some (PySem.W.methodObj (.ref f) (.ref y)):=x;show h'.get? a=some (PySem.W.methodObj (.ref f) (.ref y));exact k a _ (.inl rfl) e
 | ext φ=>obtain⟨p,⟨o,e⟩,st⟩:=x; exact⟨st _ _ p λo q=>k _ _ (.inl rfl) q,⟨o,k _ _ (.inl rfl) e⟩,st⟩
theorem kq.lt (x:kq P w H h) (e:H a=some o):a < h.objs.size:=(x a o e).lt
theorem kq.fresh (x:kq P w H h) (e:h.objs.size<=a):H a=none:=by
 cases q:H a with
 | none=>rfl
 | some u=>exact absurd (Nat.lt_of_lt_of_le (x.lt q) e) (Nat.lt_irrefl _)
theorem kq.kept (x:kq P w H h) (k:∀b u,h.get? b=some u->h'.get? b=some u):kq P w H h':=λa o e=>
 (x a o e).BN (λb u _ q=>k b u q) (λ_ q=>q) λ_ _ q=>q
theorem kq.laid (x:kq P w H h) (k:∀b u,h.get? b=some u->h'.get? b=some u) (hp:h.objs.size<=a) (new:cJ P w (upd H a o) h' a o):kq P w (upd H a o) h':=λb u e=>by
 have hn:=x.fresh hp
 by_cases hb:b=a
 ·subst hb; rw [ae] at e; cases e; exact new
 ·rw [au hb] at e;exact(x b u e).BN (λc v _ q=>k c v q) (λc q=>by rw [au (az q hn)]; exact q) λc xs q=>by rw [au (az q hn)]; exact q
end
noncomputable def Rd (H:Hp) (a:Addr) (u:HO):Prop:=H a=some u\/∃o,H a=some (.iY o u)
theorem Rd.ok {P:Program}{w:World}{H:Hp}{h:Heap}{a:Addr}{u:HO}(r:Rd H a u) (x:kq P w H h):cJ P w H h a u:=by
 rcases r with r | ⟨o,r⟩
 ·exact x a u r
 ·obtain⟨_,q⟩:=x a _ r;exact q
noncomputable def WA:Option HO->Prop
 | some (.lst _)=>True
 | some (.dK _)=>True
 | some (.dT _)=>True
 | some (.set _ _)=>True
 | some (.ins _ _ _)=>True
 | some (.ext _)=>True
 | _=>False
section
variable {P:Program}{w:World}{H:Hp}{h h':Heap}{x e:Addr}{o':HO}
theorem kq.write (ok:kq P w H h) (mu:WA (H x)) (he:e=x\/H e=some (.own x)) (k:∀b u,b≠e->h.get? b=some u->h'.get? b=some u) (Wf:∃u,h'.get? e=some u)
  (new:cJ P w (upd H x o') h' x o'):kq P w (upd H x o') h':=λb u q=>by
 have WB:∀c y,H c=some (.own y)->c≠x:=λc y r z=>by subst z; rw [r] at mu; exact mu
 have RW:∀c xs,H c=some (.tup xs)->c≠x:=λc xs r z=>by subst z; rw [r] at mu; exact mu
 by_cases hb:b=x
 ·subst hb; rw [ae] at q; cases q; exact new
 ·rw [au hb] at q
  by_cases RX:b=e
  ·have q':H b=some (.own x):=by
    rcases he with z | z
    ·exact absurd (RX.trans z) hb
    ·rw [RX]; exact z
   rw [q] at q'; cases q'
   obtain⟨v,hv⟩:=Wf;exact⟨v,by rw [RX]; exact hv⟩
  ·refine(ok b u q).BN (λc v hc r=>k c v ?_ r) (λc r=>by rw [au (WB c b r)]; exact r) λc xs r=>by rw [au (RW c xs r)]; exact r
   rcases hc with rfl | hc
   ·exact RX
   ·rintro rfl;rcases he with z | z
    ·exact WB c b hc z
    ·rw [hc] at z; cases z; exact hb rfl
end
structure Un (fs ex:List Addr) (H H':Hp) (h h':Heap):Prop where
 keep:∀b o,h.get? b=some o->H b=none->b∉fs->b∉ex->h'.get? b=some o
 slot:∀b o,h.get? b=some o->H b=none->b∈fs->b∉ex->∃sl,h'.get? b=some {o with slots:=sl}
 free:∀b o,h.get? b=some o->H b=none->b∉ex->H' b=none
 there:∀b o,h.get? b=some o->b∉ex->∃o',h'.get? b=some o'
 rP:∀b xs,H b=some (.tup xs)->H' b=some (.tup xs)
 oS:∀b o u,H b=some (.iY o u)->H' b=some (.iY o u)
 rQ:∀b ps,H b=some (.RU ps)->∃more,H' b=some (.RU (ps++more))
section
variable {fs fs' ex ex':List Addr}{H H1 H2:Hp}{h h1 h2 h':Heap}{a x e:Addr}{o:HO}
theorem Un.any (u:Un fs ex H H1 h h1) {b:Addr}{ob:Obj}(q:h.get? b=some ob) (n:H b=none) (hx:b∉ex):∃sl,h1.get? b=some {ob with slots:=sl}:=by
 by_cases hb:b∈fs
 ·exact u.slot b ob q n hb hx
 ·exact⟨ob.slots,u.keep b ob q n hb hx⟩
theorem Un.kept (k:∀b u,h.get? b=some u->h'.get? b=some u):Un fs ex H H h h':=
 ⟨λb ob q _ _ _=>k b ob q,λb ob q _ _ _=>⟨ob.slots,k b ob q⟩,λ_ _ _ n _=>n,λb ob q _=>⟨ob,k b ob q⟩,λ_ _ q=>q,λ_ _ _ q=>q,λ_ ps q=>⟨#[],by rw [q]; simp⟩⟩
theorem Un.refl:Un fs ex H H h h:=Un.kept λ_ _ q=>q
theorem Un.laid (k:∀b u,h.get? b=some u->h'.get? b=some u) (hp:h.objs.size<=a) (hn:H a=none):Un fs ex H (upd H a o) h h' where
 keep:=λb u q _ _ _=>k b u q
 slot:=λb u q _ _ _=>⟨u.slots,k b u q⟩
 free:=λb u q n _=>by rw [au (Nat.ne_of_lt (Nat.lt_of_lt_of_le (Heap.lt_size q) hp))]; exact n
 there:=λb u q _=>⟨u,k b u q⟩
 rP:=λb xs q=>by rw [au (az q hn)]; exact q
 oS:=λb u xs q=>by rw [au (az q hn)]; exact q
 rQ:=λb ps q=>⟨#[],by rw [au (az q hn),q]; simp⟩
theorem Un.write (mu:WA (H x)) (he:e=x\/H e=some (.own x)) (k:∀b u,b≠e->h.get? b=some u->h'.get? b=some u) (Wf:∃u,h'.get? e=some u):Un fs ex H (upd H x o) h h':=by
 have hx:∀b,H b=none->b≠x:=λb n z=>by subst z; rw [n] at mu; exact mu
 have hb:∀b,H b=none->b≠e:=λb n z=>by
  subst z;rcases he with r | r
  ·exact hx b n r
  ·rw [n] at r; cases r
 have hm:∀b u,H b=some u->¬WA (some u)->b≠x:=λb u q nm z=>by subst z; rw [q] at mu; exact nm mu
 refine⟨λb u q n _ _=>k b u (hb b n) q,λb u q n _ _=>⟨u.slots,k b u (hb b n) q⟩,λb u q n _=>by rw [au (hx b n)]; exact n,λb u q _=>?_,
  λb xs q=>by rw [au (hm b _ q λz=>z)]; exact q,λb u xs q=>by rw [au (hm b _ q λz=>z)]; exact q,λb ps q=>⟨#[],by rw [au (hm b _ q λz=>z),q]; simp⟩⟩
 by_cases RX:b=e
 ·subst RX; exact Wf
 ·exact⟨u,k b u RX q⟩
end
noncomputable def trk (h:Heap) (H:Hp):List Addr:=(List.range h.objs.size).filter λa=>(H a).isSome
noncomputable def uy (h:Heap) (H:Hp):Heap:=PySem.W.hideAll h (trk h H)
theorem Fo (h:Heap) (H:Hp):(uy h H).objs.size=h.objs.size:=PySem.W.hideAll_size _ _
theorem GS {h:Heap}{H:Hp}{b:Addr}{o:Obj}(e:h.get? b=some o) (n:H b=none):(uy h H).get? b=some o:=
 PySem.W.hideAll_get _ e λhm=>by
  have q:(H b).isSome=true:=(List.mem_filter.mp hm).2;rw [n] at q; simp at q
theorem MC {h:Heap}{H:Hp}{b:Addr}{o:Obj}(e:(uy h H).get? b=some o):h.get? b=some o/\H b=none:=by
 have e':h.get? b=some o:=PySem.W.of_hideAll (trk h H) e;refine⟨e',?_⟩
 cases q:H b with
 | none=>rfl
 | some x=>
  have hm:b∈trk h H:=List.mem_filter.mpr ⟨List.mem_range.mpr (Heap.lt_size e'),by simp [q]⟩;have z:(uy h H).get? b=none:=PySem.W.hideAll_none (trk h H) hm;rw [z] at e; cases e
noncomputable def MD (g h:Heap) (L:Addr):List (Addr×Obj):=(List.range h.objs.size).filterMap λa=>if a=L\/(g.get? a).isSome=true then none else(h.get? a).map λo=>(a,o)
noncomputable def rest (g h:Heap) (L d:Addr):List (Addr×Obj):=(MD g h L).filter λp=>decide (p.1≠d)
structure Mod (K:PySem.W.Frag) (mg:Str->Option Value) (base:Heap):Prop where
 RY:K.In base
 glob:base.Ns mainGlobals mg
 blt:∃mb,base.Ns builtinsNs mb/\∀x:Str,x≠"__name__"->mb x=bootBuiltins x
 nolimit:base.NoLimit
structure Cx where
 prog:Program
 w:World
 K:PySem.W.Frag
 mg:Str->Option Value
 base:Heap
 A:Around
 N:List Str
 s₀:Shared
 H₀:Hp
 env:Env
 outer:List Env
 stack:List Env
 ex:List Addr
 fn:Str->Bool
 calm:Bool
 pn:List (Addr×Obj)
 xe:Value->Shared->Prop
noncomputable def GP (l:List Env):List Addr:=l.filterMap (·.frame)
noncomputable abbrev Cx.fs (X:Cx):List Addr:=GP X.outer
noncomputable def WC (sc:Scope) (x:Str):Prop:=sc.names.lookup x=some .local\/sc.names.lookup x=some .cell\/sc.names.lookup x=some .free
noncomputable def Loc (sc:Scope) (x:Str):Prop:=sc.names.lookup x=some .local\/sc.names.lookup x=some .cell
noncomputable def Look (env:Env) (h:Heap) (m:Str->Option Value) (x:Str) (u:Value):Prop:=
 (env.kindOf x=some .local/\m x=some u)\/((env.kindOf x=some .cell\/env.kindOf x=some .free)/\∃c,env.cells.lookup x=some c/\h.IsCell c (some u))
structure Cx.Ok (X:Cx):Prop where
 mod:Mod X.K X.mg X.base
 kind:X.env.scope.kind=.function
 glob:X.env.globals=mainGlobals
 blt:X.env.builtins=builtinsNs
 above:X.s₀.heap.objs.size<=X.env.locals
 inj:∀x y c,X.env.cells.lookup x=some c->X.env.cells.lookup y=some c->x=y
 has:∀x,(X.env.kindOf x=some .cell\/X.env.kindOf x=some .free)->∃c,X.env.cells.lookup x=some c
 RZ:∀x c,X.fn x=true->X.env.cells.lookup x=some c->X.s₀.heap.objs.size<=c
 hd:X.calm=true->X.A.handled=none
 frames:X.A.frames=some X.stack
 Wg:X.stack=X.outer\/(X.stack=X.env::X.outer/\X.env.frame=some X.env.locals)
 NW:∀b∈X.ex,b≠X.env.locals/\∀x c,X.env.cells.lookup x=some c->c≠b
 bs:∀b o,X.base.get? b=some o->X.s₀.heap.get? b=some o/\X.H₀ b=none
 Fp:X.base.objs.size<=X.s₀.heap.objs.size
 wR:∀b o,X.base.get? b=some o->b∉X.ex
 wU:∀b∈X.ex,b∉X.fs
 kU:X.s₀.heap.FunFrames X.base X.outer
 ME:∀b∈X.fs,X.H₀ b=none
structure Inv (X:Cx) (pins:List (Addr×Obj)) (σ:List (Option V)) (H:Hp) (s:Shared):Prop where
 ok:X.Ok
 os:s.os=X.s₀.os
 bare:AllBare s.gens
 base:Un X.fs X.ex X.H₀ H X.s₀.heap s.heap
 loc:∃m,s.heap.Ns X.env.locals m/\∀(i:Nat) (x:Str) (v:V),X.N[i]?=some x->σ[i]?=some (some v)->WC X.env.scope x->∃u,RelV v u/\Look X.env s.heap m x u
 cell:∀x c,X.env.cells.lookup x=some c->∃v,s.heap.IsCell c v
 free:H X.env.locals=none
 fQ:∀x c,X.env.cells.lookup x=some c->H c=none
 pin:∀p∈X.pn++pins,s.heap.get? p.1=some p.2/\H p.1=none/\p.1≠X.env.locals/\p.1∉X.fs/\∀v,p.2.data≠.cell v
 bR:kq X.prog X.w H s.heap
 len:σ.length=X.N.length
section
variable {X:Cx}{pins:List (Addr×Obj)}{σ:List (Option V)}{H H':Hp}{s:Shared}{h':Heap}
theorem Cx.Ok.aas (ok:X.Ok) {b:Addr}{o:Obj}(e:X.base.get? b=some o):b∉X.fs:=λhb=>by
 have:=(ok.kU.mem hb).1;rw [e] at this; cases this
theorem Inv.bs (I:Inv X pins σ H s):∀b o,X.base.get? b=some o->s.heap.get? b=some o/\H b=none:=λb o e=>
 ⟨I.base.keep b o (I.ok.bs b o e).1 (I.ok.bs b o e).2 (I.ok.aas e) (I.ok.wR b o e),I.base.free b o (I.ok.bs b o e).1 (I.ok.bs b o e).2 (I.ok.wR b o e)⟩
theorem Inv.bk (I:Inv X pins σ H s):∀b o,X.base.get? b=some o->s.heap.get? b=some o:=λb o e=>(I.bs b o e).1
theorem Inv.mod (I:Inv X pins σ H s):Mod X.K X.mg X.base:=I.ok.mod
theorem Inv.iy (I:Inv X pins σ H s):X.K.In s.heap:=I.ok.mod.RY.keeps I.bk
theorem Inv.lt (I:Inv X pins σ H s):X.env.locals < s.heap.objs.size:=let ⟨_,hn,_⟩:=I.loc; hn.lt
theorem Inv.sz (I:Inv X pins σ H s):X.s₀.heap.objs.size<=s.heap.objs.size:=Nat.le_trans I.ok.above (Nat.le_of_lt I.lt)
theorem Inv.R0 (I:Inv X pins σ H s) {a:Addr}(h:s.heap.objs.size<=a):a∉X.fs:=λhb=>by
 obtain⟨_,o,ho,_⟩:=I.ok.kU.mem hb;exact absurd (Nat.lt_of_lt_of_le (Heap.lt_size ho) (Nat.le_trans I.sz h)) (Nat.lt_irrefl _)
theorem Inv.R4 (I:Inv X pins σ H s):∀x c,X.env.cells.lookup x=some c->c≠X.env.locals:=λx c e z=>by
 obtain⟨v,o,ho,hd⟩:=I.cell x c e;obtain⟨m,⟨o',es,ep,BB,Fq,_⟩,_⟩:=I.loc;rw [z,BB] at ho; cases ho; rw [Fq] at hd; cases hd
theorem Inv.kU (I:Inv X pins σ H s):s.heap.FunFrames X.base X.outer:=by
 have all:∀(l:List Env),(∀b∈GP l,b∈X.fs)->X.s₀.heap.FunFrames X.base l->s.heap.FunFrames X.base l:=by
  intro l;induction l with
  | nil=>intro _ _; trivial
  | cons env r ih=>
   intro hs hl;obtain⟨hk,⟨L,o,hf,hn,ho,hd⟩,hr⟩:=hl;have hL:L∈X.fs:=hs L (by unfold GP; rw [List.filterMap_cons,hf]; exact List.mem_cons_self);obtain⟨sl,e⟩:=I.base.slot L o ho (I.ok.ME L hL) hL λz=>I.ok.wU L z hL
   exact⟨hk,⟨L,_,hf,hn,e,hd⟩,ih (λb hb=>hs b (by unfold GP; rw [List.filterMap_cons,hf]; exact List.mem_cons_of_mem _ hb)) hr⟩
 exact all X.outer (λ_ hb=>hb) I.ok.kU
theorem Inv.stack (I:Inv X pins σ H s):s.heap.FunFrames X.base X.stack:=by
 rcases I.ok.Wg with e | ⟨e,hf⟩
 ·rw [e]; exact I.kU
 ·rw [e];obtain⟨m,hn,_⟩:=I.loc;refine .cons (by rw [I.ok.kind]; decide) hf hn ?_ I.kU;exact Heap.get?_none_of_le (Nat.le_trans I.ok.Fp I.ok.above)
theorem Inv.uz (I:Inv X pins σ H s):∀b∈GP X.stack,b∈X.env.locals::X.fs:=λb hb=>by
 rcases I.ok.Wg with e | ⟨e,hf⟩
 ·rw [e] at hb; exact List.mem_cons_of_mem _ hb
 ·rw [e] at hb;unfold GP at hb;rw [List.filterMap_cons,hf] at hb;exact hb
theorem Inv.uA (I:Inv X pins σ H s):∀b∈GP X.stack,H b=none:=λb hb=>by
 rcases List.mem_cons.mp (I.uz b hb)with e | hb
 ·rw [e]; exact I.free
 ·obtain⟨_,o,ho,_⟩:=I.ok.kU.mem hb;exact I.base.free b o ho (I.ok.ME b hb) λz=>I.ok.wU b z hb
theorem Inv.step {g':Array GenState}{t':Nat}{d':Drawn}{ch:List Addr}(I:Inv X pins σ H s)
  (Mx:∀b∈ch,(b∈X.ex\/X.s₀.heap.objs.size<=b)/\b≠X.env.locals/\(∀x c,X.env.cells.lookup x=some c->c≠b)/\∀p∈X.pn++pins,p.1≠b)
  (keep:∀b o,b≠X.env.locals->b∉X.fs->b∉ch->s.heap.get? b=some o->H b=none->h'.get? b=some o)
  (slot:∀b o,b≠X.env.locals->b∈X.fs->b∉ch->s.heap.get? b=some o->H b=none->∃sl,h'.get? b=some {o with slots:=sl}) (free:∀b o,b∉ch->s.heap.get? b=some o->H b=none->H' b=none)
  (there:∀b o,b∉ch->s.heap.get? b=some o->∃o',h'.get? b=some o')
  (rP:∀b xs,H b=some (.tup xs)->H' b=some (.tup xs)) (oS:∀b o u,H b=some (.iY o u)->H' b=some (.iY o u)) (rQ:∀b ps,H b=some (.RU ps)->∃more,H' b=some (.RU (ps++more)))
  (ns:∀m,s.heap.Ns X.env.locals m->h'.Ns X.env.locals m) (bR:kq X.prog X.w H' h') (hg:AllBare g') :
  Inv X pins σ H' {s with heap:=h',gens:=g',drawn:=d',toks:=t'}:=by
 have neL:∀b o,X.s₀.heap.get? b=some o->b≠X.env.locals:=λb o e=>Nat.ne_of_lt (Nat.lt_of_lt_of_le (Heap.lt_size e) I.ok.above)
 have neC:∀b o,X.s₀.heap.get? b=some o->b∉X.ex->b∉ch:=λb o e hx hb=>by
  rcases (Mx b hb).1 with z | z
  ·exact hx z
  ·exact absurd (Nat.lt_of_lt_of_le (Heap.lt_size e) z) (Nat.lt_irrefl _)
 have cellK:∀x c,X.env.cells.lookup x=some c->∀v,s.heap.IsCell c v->h'.IsCell c v:=λx c e v ⟨o,ho,hd⟩=>by
  have MF:c∉ch:=λz=>(Mx c z).2.2.1 x c e rfl
  by_cases hc:c∈X.fs
  ·obtain⟨sl,q⟩:=slot c o (I.R4 x c e) hc MF ho (I.fQ x c e);exact⟨_,q,hd⟩
  ·exact⟨o,keep c o (I.R4 x c e) hc MF ho (I.fQ x c e),hd⟩
 refine⟨I.ok,I.os,hg,⟨λb o e n hb hx=>?_,λb o e n hb hx=>?_,λb o e n hx=>?_,λb o e hx=>?_,λb xs e=>rP b xs (I.base.rP b xs e),λb o xs e=>oS b o xs (I.base.oS b o xs e),λb ps e=>?_⟩,?_,λx c e=>?_,?_,λx c e=>?_,λp hp=>?_,bR,I.len⟩
 ·exact keep b o (neL b o e) hb (neC b o e hx) (I.base.keep b o e n hb hx) (I.base.free b o e n hx)
 ·obtain⟨sl,e1⟩:=I.base.slot b o e n hb hx;obtain⟨sl',e2⟩:=slot b _ (neL b o e) hb (neC b o e hx) e1 (I.base.free b o e n hx);exact⟨sl',e2⟩
 ·obtain⟨o',e1⟩:=I.base.there b o e hx;exact free b o' (neC b o e hx) e1 (I.base.free b o e n hx)
 ·obtain⟨o',e1⟩:=I.base.there b o e hx;exact there b o' (neC b o e hx) e1
 ·obtain⟨m1,e1⟩:=I.base.rQ b ps e;obtain⟨m2,e2⟩:=rQ b _ e1;exact⟨m1++m2,by rw [e2,Array.append_assoc]⟩
 ·obtain⟨m,hn,hl⟩:=I.loc;refine⟨m,ns m hn,λi x v e1 e2 e3=>?_⟩;obtain⟨u,r,l⟩:=hl i x v e1 e2 e3;refine⟨u,r,?_⟩;rcases l with l | ⟨k,c,e,z⟩
  ·exact .inl l
  ·exact .inr ⟨k,c,e,cellK x c e _ z⟩
 ·obtain⟨v,z⟩:=I.cell x c e;exact⟨v,cellK x c e v z⟩
 ·obtain⟨m,⟨o,_,_,ho,_⟩,_⟩:=I.loc;exact free _ o (λz=>(Mx _ z).2.1 rfl) ho I.free
 ·obtain⟨v,o,ho,hd⟩:=I.cell x c e;exact free c o (λz=>(Mx c z).2.2.1 x c e rfl) ho (I.fQ x c e)
 ·obtain⟨e,n,ne,nf,d⟩:=I.pin p hp;have MF:p.1∉ch:=λz=>(Mx p.1 z).2.2.2 p hp rfl
  exact⟨keep p.1 p.2 ne nf MF e n,free p.1 p.2 MF e n,ne,nf,d⟩
theorem Inv.un {t':Nat}(I:Inv X pins σ H s) (u:Un X.fs [] H H' s.heap h') (bR:kq X.prog X.w H' h'):Inv X pins σ H' {s with heap:=h',toks:=t'}:=by
 obtain⟨m,⟨o,es,ep,ho,r⟩,_⟩:=id I.loc;obtain⟨sl,hL⟩:=u.any ho I.free (by simp);exact I.step (g':=s.gens) (d':=s.drawn) (ch:=[]) (λ_ z=>nomatch z) (λb o _ hb _ e n=>u.keep b o e n hb (by simp)) (λb o _ hb _ e n=>u.slot b o e n hb (by simp)) (λb o _ e n=>u.free b o e n (by simp)) (λb o _ e=>u.there b o e (by simp)) u.rP u.oS u.rQ (λm' hm=>by
  obtain⟨o',uB,ep',BB,r'⟩:=hm;rw [ho] at BB; cases BB
  exact⟨_,uB,ep',hL,r'⟩) bR I.bare
theorem Inv.call {g':Array GenState}{t':Nat}{d':Drawn}{ch:List Addr}(I:Inv X pins σ H s) (u:Un (GP X.stack) ch H H' s.heap h') (bR:kq X.prog X.w H' h') (hg:AllBare g')
  (Mx:∀b∈ch,(b∈X.ex\/X.s₀.heap.objs.size<=b)/\b≠X.env.locals/\(∀x c,X.env.cells.lookup x=some c->c≠b)/\∀p∈X.pn++pins,p.1≠b) :
  Inv X pins σ H' {s with heap:=h',gens:=g',drawn:=d',toks:=t'}:=by
 obtain⟨m,⟨o,es,ep,ho,r⟩,_⟩:=id I.loc;obtain⟨sl,hL⟩:=u.any ho I.free λz=>(Mx _ z).2.1 rfl
 exact I.step (ch:=ch) Mx (λb o hL hb hc e n=>u.keep b o e n (λz=>(List.mem_cons.mp (I.uz b z)).elim hL hb) hc) (λb o _ _ hc e n=>u.any e n hc) (λb o hc e n=>u.free b o e n hc) (λb o hc e=>u.there b o e hc) u.rP u.oS u.rQ (λm' hm=>by
  obtain⟨o',uB,ep',BB,r'⟩:=hm;rw [ho] at BB; cases BB
  exact⟨_,uB,ep',hL,r'⟩) bR hg
theorem Inv.turned {t':Nat}{it:Addr}(I:Inv X pins σ H s) (k:∀b o,b≠it->s.heap.get? b=some o->h'.get? b=some o) (hn:H it=none) (hL:it≠X.env.locals)
  (h1:it∈X.ex\/X.s₀.heap.objs.size<=it) (h2:∀x c,X.env.cells.lookup x=some c->c≠it) (h3:∀p∈X.pn++pins,p.1≠it):Inv X pins σ H {s with heap:=h',toks:=t'}:=by
 have nit:∀b u,H b=some u->b≠it:=λb u e z=>by rw [z,hn] at e; cases e
 refine I.step (g':=s.gens) (d':=s.drawn) (ch:=[it]) (λb hb=>?_) (λb o _ _ hc e _=>k b o (λz=>hc (by simp [z])) e) (λb o _ _ hc e _=>⟨o.slots,k b o (λz=>hc (by simp [z])) e⟩) (λ_ _ _ _ n=>n)
  (λb o hc e=>⟨o,k b o (λz=>hc (by simp [z])) e⟩) (λ_ _ e=>e) (λ_ _ _ e=>e) (λb ps e=>⟨#[],by rw [e]; simp⟩) (λm hm=>?_) (λb u e=>?_) I.bare
 ·have e:b=it:=by simpa using hb
  subst e;exact⟨h1,hL,h2,h3⟩
 ·obtain⟨o,es,ep,ho,r⟩:=hm;exact⟨o,es,ep,k _ o (Ne.symm hL) ho,r⟩
 ·refine(I.bR b u e).BN (λc v hc q=>k c v ?_ q) (λ_ q=>q) λ_ _ q=>q
  rcases hc with z | z
  ·rw [z]; exact nit b u e
  ·exact nit c _ z
theorem Inv.tok (I:Inv X pins σ H s) (t:Nat):Inv X pins σ H {s with toks:=t}:=I.un (h':=s.heap) (t':=t) Un.refl I.bR
theorem Inv.kept {t':Nat}(I:Inv X pins σ H s) (k:∀b u,s.heap.get? b=some u->h'.get? b=some u):Inv X pins σ H {s with heap:=h',toks:=t'}:=I.un (Un.kept k) (I.bR.kept k)
theorem Inv.laid {a:Addr}{o:HO}{t':Nat}(I:Inv X pins σ H s) (k:∀b u,s.heap.get? b=some u->h'.get? b=some u) (hp:s.heap.objs.size<=a) (new:cJ X.prog X.w (upd H a o) h' a o) :
  Inv X pins σ (upd H a o) {s with heap:=h',toks:=t'}:=I.un (Un.laid k hp (I.bR.fresh hp)) (I.bR.laid k hp new)
theorem Inv.write {x e:Addr}{o:HO}{t':Nat}(I:Inv X pins σ H s) (mu:WA (H x)) (he:e=x\/H e=some (.own x)) (k:∀b u,b≠e->s.heap.get? b=some u->h'.get? b=some u) (Wf:∃u,h'.get? e=some u)
  (new:cJ X.prog X.w (upd H x o) h' x o):Inv X pins σ (upd H x o) {s with heap:=h',toks:=t'}:=I.un (Un.write mu he k Wf) (I.bR.write mu he k Wf new)
theorem Inv.uC {NX:List (Addr×Obj)}(I:Inv X pins σ H s) (h:∀p∈NX,s.heap.get? p.1=some p.2/\H p.1=none/\p.1≠X.env.locals/\p.1∉X.fs/\∀v,p.2.data≠.cell v):Inv X NX σ H s:=
 ⟨I.ok,I.os,I.bare,I.base,I.loc,I.cell,I.free,I.fQ,λp hp=>(List.mem_append.mp hp).elim (λz=>I.pin p (List.mem_append_left _ z)) (h p),I.bR,I.len⟩
theorem wW {N:List Str}(hN:N.Nodup) {i j:Nat}{x:Str}(a:N[i]?=some x) (b:N[j]?=some x):i=j:=by
 obtain⟨h1,e1⟩:=List.getElem?_eq_some_iff.mp a;obtain⟨h2,e2⟩:=List.getElem?_eq_some_iff.mp b;exact(List.getElem_inj hN).mp (e1.trans e2.symm)
theorem Fs {M:Model}{A:Around}{E:Value->Shared->Prop}{i:Nat}{x:Str}{v:V}{u:Value}{Q:Unit->Shared->Prop}(I:Inv X pins σ H s) (hN:X.N.Nodup) (hi:X.N[i]?=some x) (hx:Loc X.env.scope x) (r:RelV v u)
  (h:∀s',Inv X pins (σ.set i (some v)) H s'->(∃a,Heap.SameBut a s.heap s'.heap/\(a=X.env.locals\/X.env.cells.lookup x=some a))->Q () s') (hf:X.fn x=true\/X.env.scope.names.lookup x=some .local:=by first | exact .inl rfl | exact .inr rfl | assumption):wpAny M A (storeName X.env x u) Q E s:=by
 obtain⟨m,hn,hl⟩:=id I.loc;have aat:(X.env.scope.kind == .class || (X.env.scope.kind == .module&&X.env.locals != X.env.globals))=false:=by rw [I.ok.kind]; rfl
 have WD:i < σ.length:=by rw [I.len]; exact(List.getElem?_eq_some_iff.mp hi).1
 have R4:=I.R4;have tracked:∀{a:Addr}{h':Heap},(∃o,s.heap.get? a=some o/\H a=none)->Heap.SameBut a s.heap h'->kq X.prog X.w H h':=λ{a h'} ha hs b ob e=>by
  obtain⟨_,_,NY⟩:=ha;refine(I.bR b ob e).BN (λc w' hc q=>(hs.2 c ?_).trans q) (λ_ q=>q) λ_ _ q=>q
  rintro rfl;rcases hc with rfl | hc
  ·rw [NY] at e; cases e
  ·rw [NY] at hc; cases hc
 rcases hx with hk | hk
 ·refine wpAny_storeName_local hk hn (λh' hn' hs=>?_) aat;obtain⟨oL,_,_,MG,_⟩:=id hn;refine h _ ⟨I.ok,I.os,I.bare,⟨λb o e n hb hx=>?_,λb o e n hb hx=>?_,I.base.free,λb o e hx=>?_,I.base.rP,I.base.oS,I.base.rQ⟩,⟨_,hn',λj y v' e1 e2 e3=>?_⟩,λy c e=>?_,I.free,I.fQ,λp hp=>?_,tracked ⟨oL,MG,I.free⟩ hs,by simpa using I.len⟩ ⟨_,hs,.inl rfl⟩
  ·exact(hs.2 b (Nat.ne_of_lt (Nat.lt_of_lt_of_le (Heap.lt_size e) I.ok.above))).trans (I.base.keep b o e n hb hx)
  ·obtain⟨sl,e1⟩:=I.base.slot b o e n hb hx;exact⟨sl,(hs.2 b (Nat.ne_of_lt (Nat.lt_of_lt_of_le (Heap.lt_size e) I.ok.above))).trans e1⟩
  ·obtain⟨o',e1⟩:=I.base.there b o e hx;exact⟨o',(hs.2 b (Nat.ne_of_lt (Nat.lt_of_lt_of_le (Heap.lt_size e) I.ok.above))).trans e1⟩
  ·by_cases hj:j=i
   ·subst hj;rw [hi] at e1; cases e1
    rw [List.getElem?_set_self WD] at e2;cases e2;exact⟨u,r,.inl ⟨hk,by simp⟩⟩
   ·rw [List.getElem?_set_ne (Ne.symm hj)] at e2;obtain⟨u',r',q⟩:=hl j y v' e1 e2 e3;refine⟨u',r',?_⟩;rcases q with ⟨k,e⟩ | ⟨k,c,e,z⟩
    ·refine .inl ⟨k,?_⟩;have:y≠x:=λe=>hj (wW hN e1 (e▸hi))
     simp [this,e]
    ·exact .inr ⟨k,c,e,z.sameBut hs (R4 y c e)⟩
  ·obtain⟨w',z⟩:=I.cell y c e;exact⟨w',z.sameBut hs (R4 y c e)⟩
  ·obtain⟨e,n,ne,nf,d⟩:=I.pin p hp;exact⟨(hs.2 p.1 ne).trans e,n,ne,nf,d⟩
 ·have hfn:X.fn x=true:=by
   rcases hf with z | z
   ·exact z
   ·rw [z] at hk; cases hk
  obtain⟨c,hc⟩:=I.ok.has x (.inl hk);obtain⟨w',z⟩:=I.cell x c hc;refine wpAny_storeName_cell I.ok.kind hk hc z (λh' NZ hs=>?_);obtain⟨oc,hoc,aau⟩:=id z;refine h {s with heap:=h'} ⟨I.ok,I.os,I.bare,⟨λb o e n hb hx=>?_,λb o e n hb hx=>?_,I.base.free,λb o e hx=>?_,I.base.rP,I.base.oS,I.base.rQ⟩,⟨m,hn.sameBut hs (Ne.symm (R4 x c hc)),λj y v' e1 e2 e3=>?_⟩,λy c' e=>?_,I.free,I.fQ,λp hp=>?_,tracked ⟨oc,hoc,I.fQ x c hc⟩ hs,by simpa using I.len⟩ ⟨c,hs,.inr hc⟩
  ·exact(hs.2 b (Nat.ne_of_lt (Nat.lt_of_lt_of_le (Heap.lt_size e) (I.ok.RZ x c hfn hc)))).trans (I.base.keep b o e n hb hx)
  ·obtain⟨sl,e1⟩:=I.base.slot b o e n hb hx;exact⟨sl,(hs.2 b (Nat.ne_of_lt (Nat.lt_of_lt_of_le (Heap.lt_size e) (I.ok.RZ x c hfn hc)))).trans e1⟩
  ·obtain⟨o',e1⟩:=I.base.there b o e hx;exact⟨o',(hs.2 b (Nat.ne_of_lt (Nat.lt_of_lt_of_le (Heap.lt_size e) (I.ok.RZ x c hfn hc)))).trans e1⟩
  ·by_cases hj:j=i
   ·subst hj;rw [hi] at e1; cases e1
    rw [List.getElem?_set_self WD] at e2;cases e2;exact⟨u,r,.inr ⟨.inl hk,c,hc,NZ⟩⟩
   ·rw [List.getElem?_set_ne (Ne.symm hj)] at e2;obtain⟨u',r',q⟩:=hl j y v' e1 e2 e3;refine⟨u',r',?_⟩;rcases q with q | ⟨k,c',e,z'⟩
    ·exact .inl q
    ·refine .inr ⟨k,c',e,z'.sameBut hs ?_⟩;rintro rfl;exact hj (wW hN e1 (I.ok.inj _ _ _ e hc▸hi))
  ·by_cases hcc:c'=c
   ·subst hcc; exact⟨_,NZ⟩
   ·obtain⟨w2,z2⟩:=I.cell y c' e;exact⟨w2,z2.sameBut hs hcc⟩
  ·obtain⟨e,n,ne,nf,d⟩:=I.pin p hp;refine⟨(hs.2 p.1 ?_).trans e,n,ne,nf,d⟩;intro q;rw [q,hoc] at e;have q':oc=p.2:=Option.some.inj e;exact d w' (by rw [<-q']; exact aau)
theorem kW {M:Model}{A:Around}{E:Value->Shared->Prop}{i:Nat}{x:Str}{v:V}{u:Value}{Q:Unit->Shared->Prop}(I:Inv X pins σ H s) (hN:X.N.Nodup) (hi:X.N[i]?=some x) (hx:Loc X.env.scope x) (r:RelV v u)
  (h:∀s',Inv X pins (σ.set i (some v)) H s'->Q () s') (hf:X.fn x=true\/X.env.scope.names.lookup x=some .local:=by first | exact .inl rfl | exact .inr rfl | assumption):wpAny M A (storeName X.env x u) Q E s:=
 Fs I hN hi hx r (λs' I' _=>h s' I') hf
theorem Inv.N0 {s':Shared}{ch:List Addr}(I:Inv X pins σ H s) (ho:s'.os=s.os) (u:Un (GP X.stack) ch H H' s.heap s'.heap) (bR:kq X.prog X.w H' s'.heap) (hg:AllBare s'.gens)
  (Mx:∀b∈ch,(b∈X.ex\/X.s₀.heap.objs.size<=b)/\b≠X.env.locals/\(∀x c,X.env.cells.lookup x=some c->c≠b)/\∀p∈X.pn++pins,p.1≠b):Inv X pins σ H' s':=by
 obtain⟨h',g',d',t',o'⟩:=s';have e:o'=s.os:=ho;subst e;exact I.call (g':=g') (t':=t') (d':=d') u bR hg Mx
end
noncomputable abbrev XK:=Value->Option Addr->Hp->Prop
noncomputable abbrev St:=List (Option V)
noncomputable abbrev VK:=V->Hp->Prop
noncomputable abbrev TE:=St->Hp->VK->Prop
noncomputable abbrev TT:=St->Hp->(Bool->Hp->Prop)->Prop
noncomputable abbrev TA:=St->Hp->(List V->Hp->Prop)->Prop
structure Ends where
 nx:St->Hp->Prop
 rt:VK
 bk:St->Hp->Prop:=λ_ _=>False
 ct:St->Hp->Prop:=λ_ _=>False
noncomputable abbrev TS:=Ends->St->Hp->Prop
noncomputable def EP (X:Cx) (pins:List (Addr×Obj)) (σ:St) (Q:VK) (u:Value) (s':Shared):Prop:=∃v H',Inv X pins σ H' s'/\RelV v u/\Q v H'
noncomputable def TP (X:Cx) (pins:List (Addr×Obj)) (σ:St) (Q:Bool->Hp->Prop) (b:Bool) (s':Shared):Prop:=∃H',Inv X pins σ H' s'/\Q b H'
noncomputable def AP (X:Cx) (pins:List (Addr×Obj)) (σ:St) (Q:List V->Hp->Prop) (us:List Value) (s':Shared):Prop:=∃vs H',Inv X pins σ H' s'/\Vals vs us/\Q vs H'
noncomputable def SP (X:Cx) (pins:List (Addr×Obj)) (D:Ends) (f:Flow) (s':Shared):Prop:=
 match f with
 | .next=>∃σ' H',Inv X pins σ' H' s'/\D.nx σ' H'
 | .brk=>∃σ' H',Inv X pins σ' H' s'/\D.bk σ' H'
 | .cont=>∃σ' H',Inv X pins σ' H' s'/\D.ct σ' H'
 | .ret u=>∃v σ' H',Inv X pins σ' H' s'/\RelV v u/\D.rt v H'
noncomputable def PE (X:Cx) (e:Expr) (t:TE):Prop:=
 ∀(pins:List (Addr×Obj)) (s:Shared) (σ:St) (H:Hp) (Q:VK),Inv X pins σ H s->t σ H Q->wpAny (model X.prog X.w) X.A (eval e X.env) (EP X pins σ Q) X.xe s
noncomputable def PT (X:Cx) (e:Expr) (t:TT):Prop:=
 ∀(pins:List (Addr×Obj)) (s:Shared) (σ:St) (H:Hp) (Q:Bool->Hp->Prop),Inv X pins σ H s->t σ H Q->wpAny (model X.prog X.w) X.A (isTrue e X.env (eval e X.env)) (TP X pins σ Q) X.xe s
noncomputable def PW (X:Cx) (e:Expr) (t:TT):Prop:=
 ∀(whole:Sem Value) (pins:List (Addr×Obj)) (s:Shared) (σ:St) (H:Hp) (Q:Bool->Hp->Prop),Inv X pins σ H s->t σ H Q->wpAny (model X.prog X.w) X.A (isTrue e X.env whole) (TP X pins σ Q) X.xe s
theorem PW.pt {X:Cx}{e:Expr}{t:TT}(h:PW X e t):PT X e t:=h _
noncomputable def PA (X:Cx) (es:List Expr) (t:TA):Prop:=
 ∀(pos:Pos) (pins:List (Addr×Obj)) (s:Shared) (σ:St) (H:Hp) (Q:List V->Hp->Prop),Inv X pins σ H s->t σ H Q->wpAny (model X.prog X.w) X.A (spliced (backTo pos (starEach es X.env))) (AP X pins σ Q) X.xe s
noncomputable def PS (X:Cx) (st:Stmt) (t:TS):Prop:=
 ∀(pins:List (Addr×Obj)) (s:Shared) (σ:St) (H:Hp) (D:Ends),Inv X pins σ H s->t D σ H->wpAny (model X.prog X.w) X.A (exec st X.env) (SP X pins D) X.xe s
noncomputable def wL (X:Cx) (st:List Stmt) (t:TS):Prop:=
 ∀(pins:List (Addr×Obj)) (s:Shared) (σ:St) (H:Hp) (D:Ends),Inv X pins σ H s->t D σ H->wpAny (model X.prog X.w) X.A (execs st X.env) (SP X pins D) X.xe s
theorem cg {α:Type}{t:Sem α}{Q Q':α->Shared->Prop}{M:Model}{A:Around}{E:Value->Shared->Prop}{s:Shared}(h:wpAny M A t Q E s) (hQ:∀a s,Q a s->Q' a s):wpAny M A t Q' E s:=wpAny_mono h hQ λ_ _ x=>x
section
variable {X:Cx}
theorem bin {a b:Expr}{ta tb:TE}(ha:PE X a ta) (hb:PE X b tb) {pins:List (Addr×Obj)}{s:Shared}{σ:St}{H:Hp}{R:V->V->Hp->Prop}(I:Inv X pins σ H s) (h:ta σ H λx H1=>tb σ H1 λy H2=>R x y H2)
  {α:Type}{Q:α->Shared->Prop}{f:Value->Value->Sem α}
  (hf:∀v u s2 x y H2,Inv X pins σ H2 s2->RelV x v->RelV y u->R x y H2->wpAny (model X.prog X.w) X.A (f v u) Q X.xe s2) :
  wpAny (model X.prog X.w) X.A (eval a X.env) (λv s₁=>wpAny (model X.prog X.w) X.A (eval b X.env) (λu s₂=>wpAny (model X.prog X.w) X.A (f v u) Q X.xe s₂) X.xe s₁) X.xe s:=by
 refine cg (ha pins s σ H _ I h) λv s1 ⟨x,H1,I1,r1,q1⟩=>?_
 refine cg (hb pins s1 σ H1 _ I1 q1) λu s2 ⟨y,H2,I2,r2,q2⟩=>?_
 exact hf v u s2 x y H2 I2 r1 r2 q2
noncomputable def BO (i:Nat):TE:=λσ H Q=>∃v,σ[i]?=some (some v)/\Q v H
noncomputable def tC (v:V):TE:=λ_ H Q=>Q v H
theorem R5 {i:Nat}{x:Str}{pos:Pos}(hN:X.N[i]?=some x) (hv:WC X.env.scope x) (hd:(x == ("__debug__":Str))=false:=by decide) (GU:(x == ("__classdict__":Str))=false:=by decide):PE X (.Name x pos) (BO i):=by
 intro pins s σ H Q I h;obtain⟨v,e,h⟩:=h;obtain⟨m,hn,hl⟩:=I.loc;obtain⟨u,r,l⟩:=hl i x v hN e hv;have fin:EP X pins σ Q u s:=⟨v,H,I,r,h⟩
 rcases l with ⟨hk,hm⟩ | ⟨hk,c,hc,kc⟩
 ·exact wpAny_Name (wpAny_loadName_local I.ok.kind hk hn hm fin) hd
 ·rcases hk with hk | hk
  ·exact wpAny_Name (wpAny_loadName_cell I.ok.kind hk hc kc fin) hd
  ·exact wpAny_Name (wpAny_loadName_free I.ok.kind hk hc kc fin GU) hd
theorem ai {i j pos}:PE X (.Constant (.int i) j pos) (tC (.int i)):=λ_ _ _ H _ I h=>wpAny_Constant_int ⟨.int i,H,I.tok _,⟨_,rfl⟩,h⟩
theorem dk {b j pos}:PE X (.Constant (.bool b) j pos) (tC (.bl b)):=λ_ _ _ H _ I h=>Constant_bool ⟨.bl b,H,I,rfl,h⟩
theorem cB {j pos}:PE X (.Constant .none j pos) (tC .bM):=λ_ _ _ H _ I h=>Constant_none ⟨.bM,H,I,rfl,h⟩
theorem aA {x j pos}:PE X (.Constant (.str x) j pos) (tC (.str x)):=λ_ _ _ H _ I h=>Calls.Constant_str ⟨.str x,H,I.tok _,⟨_,rfl⟩,h⟩
noncomputable def Gl (X:Cx) (x:Str):Prop:=X.env.kindOf x=some .globalImplicit
theorem oI {E:Value->Shared->Prop}{pins:List (Addr×Obj)}{s:Shared}{σ:St}{H:Hp}{x:Str}{u:Value}{pos:Pos}{Q:Value->Shared->Prop}(I:Inv X pins σ H s) (hg:Gl X x) (hm:X.mg x=some u) (h:Q u s)
  (hd:(x == ("__debug__":Str))=false:=by decide):wpAny (model X.prog X.w) X.A (eval (.Name x pos) X.env) Q E s:=
 Calls.Name_function_global I.ok.kind hg (Calls.loadGlobal_global (by rw [I.ok.glob]; exact I.mod.glob.keeps I.bk) hm h) hd
theorem uD {E:Value->Shared->Prop}{pins:List (Addr×Obj)}{s:Shared}{σ:St}{H:Hp}{x:Str}{u:Value}{pos:Pos}{Q:Value->Shared->Prop}(I:Inv X pins σ H s) (hg:Gl X x) (hm:X.mg x=none) (hv:bootBuiltins x=some u) (h:Q u s)
  (hn:x≠"__name__":=by decide) (hd:(x == ("__debug__":Str))=false:=by decide):wpAny (model X.prog X.w) X.A (eval (.Name x pos) X.env) Q E s:=by
 obtain⟨mb,h1,h2⟩:=I.mod.blt;exact Calls.Name_function_global I.ok.kind hg (Calls.loadGlobal_builtin (by rw [I.ok.glob]; exact I.mod.glob.keeps I.bk) hm (by rw [I.ok.blt]; exact h1.keeps I.bk) ((h2 x hn).trans hv) h) hd
theorem dz {x:Str}{v:V}{u:Value}{pos:Pos}(hg:Gl X x) (hm:X.mg x=some u) (r:RelV v u) (hd:(x == ("__debug__":Str))=false:=by decide):PE X (.Name x pos) (tC v):=
 λ_ _ _ H _ I h=>oI I hg hm ⟨v,H,I,r,h⟩ hd
theorem c_ {x:Str}{v:V}{u:Value}{pos:Pos}(hg:Gl X x) (hm:X.mg x=none) (hv:bootBuiltins x=some u) (r:RelV v u) (hn:x≠"__name__":=by decide) (hd:(x == ("__debug__":Str))=false:=by decide):PE X (.Name x pos) (tC v):=
 λ_ _ _ H _ I h=>uD I hg hm hv ⟨v,H,I,r,h⟩ hn hd
variable {a b:Expr}{ta tb:TE}{pos:Pos}
noncomputable def PC (X:Cx) (op:CmpOp) (a b:Expr) (t:TE):Prop:=
 ∀(pins:List (Addr×Obj)) (s:Shared) (σ:St) (H:Hp) (Q:VK),Inv X pins σ H s->t σ H Q ->
  wpAny (model X.prog X.w) X.A (eval a X.env) (λv s₁=>wpAny (model X.prog X.w) X.A (eval b X.env) (λu s₂=>wpAny (model X.prog X.w) X.A (compareOp op v u) (EP X pins σ Q) X.xe s₂) X.xe s₁) X.xe s
theorem wX (b:Expr) {op:CmpOp}(h:op≠.In) (h2:op≠.NotIn):behindInMarks op b=false:=by
 have e1:(op == CmpOp.In)=false:=by cases op <;> first | rfl | exact absurd rfl h
 have e2:(op == CmpOp.NotIn)=false:=by cases op <;> first | rfl | exact absurd rfl h2
 cases b <;> simp [behindInMarks,e1,e2]
noncomputable def tB (t:TE):TT:=λσ H Q=>t σ H λx H1=>∃c,x=.bl c/\Q c H1
theorem uE {op:CmpOp}{t:TE}(h:PC X op a b t) (h1:behindInMarks op b=false:=by first | exact wX _ (by decide) (by decide) | rfl):PE X (.Compare a [op] [b] pos) t:=λpins s σ H Q I hw=>wpAny_Compare1 (h pins s σ H Q I hw) h1
theorem oU {op:CmpOp}{t:TE}(h:PC X op a b t) (h1:behindInMarks op b=false:=by first | exact wX _ (by decide) (by decide) | rfl):PT X (.Compare a [op] [b] pos) (tB t):=by
 intro pins s σ H Q I hw;refine wpAny_isTrue_Compare1 (cg (h pins s σ H _ I hw) λv s1 h1=>cg h1 λu s2 h2=>cg h2 λc s3 ⟨x,H1,I1,r1,q1⟩=>?_) h1;obtain⟨d,rfl,q⟩:=q1;cases r1;exact wpAny_truthy_bool ⟨H1,I1,q⟩
theorem cQ {e:Expr}{t:TE}(h:PE X e t) (he:∀whole,isTrue e X.env whole=(do let v <-whole; standAt e.pos; holding [v] (truthy v)):=by intro _; rfl):PT X e (tB t):=by
 intro pins s σ H Q I hw;refine isTrue_plain (cg (h pins s σ H _ I hw) λv s1 ⟨x,H1,I1,r1,q1⟩=>?_) (he _);obtain⟨d,rfl,q⟩:=q1;cases r1;exact wpAny_truthy_bool ⟨H1,I1,q⟩
variable {tA tB':TT}{rest:List Expr}
noncomputable def WE (t u:TT):TT:=λσ H Q=>t σ H λc H1=>if c=true then u σ H1 Q else Q false H1
noncomputable def tOr (t u:TT):TT:=λσ H Q=>t σ H λc H1=>if c=true then Q true H1 else u σ H1 Q
noncomputable def WG (t:TT):TT:=λσ H Q=>t σ H λc H1=>Q (!c) H1
theorem jG (ha:PT X a tA):PW X (.BoolOp .And [a] pos) tA:=by
 intro wh pins s σ H Q I h;refine isTrue_and (cg (ha pins s σ H Q I h) λc s1 e=>?_)
 cases c with
 | true=>exact isTrue_and_nil e
 | false=>exact e
theorem gh (ha:PT X a tA):PW X (.BoolOp .Or [a] pos) tA:=by
 intro wh pins s σ H Q I h;refine isTrue_or (cg (ha pins s σ H Q I h) λc s1 e=>?_)
 cases c with
 | false=>exact isTrue_or_nil e
 | true=>exact e
theorem mr (ha:PT X a tA) (hb:PW X (.BoolOp .And (b::rest) pos) tB'):PW X (.BoolOp .And (a::b::rest) pos) (WE tA tB'):=by
 intro wh pins s σ H Q I h;refine isTrue_and (cg (ha pins s σ H _ I h) λc s1 ⟨H1,I1,q1⟩=>?_)
 cases c with
 | true=>exact hb wh pins s1 σ H1 Q I1 q1
 | false=>exact⟨H1,I1,q1⟩
theorem gJ (ha:PT X a tA) (hb:PW X (.BoolOp .Or (b::rest) pos) tB'):PW X (.BoolOp .Or (a::b::rest) pos) (tOr tA tB'):=by
 intro wh pins s σ H Q I h;refine isTrue_or (cg (ha pins s σ H _ I h) λc s1 ⟨H1,I1,q1⟩=>?_)
 cases c with
 | true=>exact⟨H1,I1,q1⟩
 | false=>exact hb wh pins s1 σ H1 Q I1 q1
theorem eV (ha:PT X a tA):PT X (.UnaryOp .Not a pos) (WG tA):=by
 intro pins s σ H Q I h;exact isTrue_not (ha pins s σ H (λc H1=>Q (!c) H1) I h)
noncomputable def N3 (ta tb:TE):TE:=λσ H Q=>ta σ H λx H1=>∃c,x=.bl c/\if c=true then tb σ H1 Q else Q (.bl false) H1
noncomputable def WH (ta tb:TE):TE:=λσ H Q=>ta σ H λx H1=>∃c,x=.bl c/\if c=true then Q (.bl true) H1 else tb σ H1 Q
noncomputable def GV (ta:TE):TE:=λσ H Q=>ta σ H λx H1=>∃c,x=.bl c/\Q (.bl (!c)) H1
theorem mw {op} {t:TE}(h:PE X a t):PE X (.BoolOp op [a] pos) t:=λpins s σ H Q I hw=>BoolOp_one (h pins s σ H Q I hw)
theorem iz (ha:PE X a ta) (hb:PE X (.BoolOp .And (b::rest) pos) tb):PE X (.BoolOp .And (a::b::rest) pos) (N3 ta tb):=by
 intro pins s σ H Q I h;refine BoolOp_and (cg (ha pins s σ H _ I h) λv s1 ⟨x,H1,I1,r1,q1⟩=>?_);obtain⟨c,rfl,q1⟩:=q1;cases r1;refine wpAny_truthy_bool ?_
 cases c with
 | true=>exact hb pins s1 σ H1 Q I1 q1
 | false=>exact⟨.bl false,H1,I1,rfl,q1⟩
theorem WI (ha:PE X a ta) (hb:PE X (.BoolOp .Or (b::rest) pos) tb):PE X (.BoolOp .Or (a::b::rest) pos) (WH ta tb):=by
 intro pins s σ H Q I h;refine BoolOp_or (cg (ha pins s σ H _ I h) λv s1 ⟨x,H1,I1,r1,q1⟩=>?_);obtain⟨c,rfl,q1⟩:=q1;cases r1;refine wpAny_truthy_bool ?_
 cases c with
 | false=>exact hb pins s1 σ H1 Q I1 q1
 | true=>exact⟨.bl true,H1,I1,rfl,q1⟩
theorem BP (ha:PE X a ta):PE X (.UnaryOp .Not a pos) (GV ta):=by
 intro pins s σ H Q I h;refine UnaryOp_ (cg (ha pins s σ H _ I h) λv s1 ⟨x,H1,I1,r1,q1⟩=>?_);obtain⟨c,rfl,q1⟩:=q1;cases r1;exact not_of (wpAny_truthy_bool ⟨.bl (!c),H1,I1,rfl,q1⟩)
noncomputable def tIf (t:TT) (ta tb:TE):TE:=λσ H Q=>t σ H λc H1=>if c=true then ta σ H1 Q else tb σ H1 Q
theorem dU {c:Expr}(hc:PT X c tA) (ha:PE X a ta) (hb:PE X b tb):PE X (.IfExp c a b pos) (tIf tA ta tb):=by
 intro pins s σ H Q I h;refine wpAny_IfExp (cg (hc pins s σ H _ I h) λd s1 ⟨H1,I1,q1⟩=>?_)
 cases d with
 | true=>exact ha pins s1 σ H1 Q I1 q1
 | false=>exact hb pins s1 σ H1 Q I1 q1
end
noncomputable def bf (K:PySem.W.Frag) (H:Hp) (a:Addr) (xs:List V):Prop:=
 Rd H a (.lst xs) \/
  ∃(o:Obj) (bw:Array Value) (n:Nat),K.lookup a=some o/\o.cls=.type "list"/\o.dict=none/\o.data=.seq bw n/\bw.size<=sizeLine/\Vals xs bw.toList
noncomputable def bS (K:PySem.W.Frag) (H:Hp) (a:Addr) (xs:List V):Prop:=
 Rd H a (.tup xs) \/
  ∃(o:Obj) (bw:Array Value) (n:Nat),K.lookup a=some o/\o.cls=.type "tuple"/\o.data=.seq bw n/\bw.size<=sizeLine/\Vals xs bw.toList
noncomputable def aav:Value->Option V
 | .none=>some .bM
 | .bool b=>some (.bl b)
 | .int i _=>some (.int i)
 | .str x _=>some (.str x)
 | .bytes b _=>some (.GO b)
 | .float b _=>some (.RT b)
 | .ref a=>some (.ref a)
 | .type n=>some (.ty n)
 | _=>none
theorem RelV.abs {x:V}{u:Value}(r:RelV x u):aav u=some x:=by
 cases x with
 | bM=>cases r; rfl
 | bl _=>cases r; rfl
 | int _=>obtain⟨t,rfl⟩:=r; rfl
 | str _=>obtain⟨t,rfl⟩:=r; rfl
 | GO _=>obtain⟨t,rfl⟩:=r; rfl
 | RT _=>obtain⟨t,rfl⟩:=r; rfl
 | ref _=>cases r; rfl
 | ty _=>cases r; rfl
theorem RelV.inj {x y:V}{u:Value}(r:RelV x u) (q:RelV y u):x=y:=Option.some.inj (r.abs.symm.trans q.abs)
theorem Vals.inj:∀{xs ys:List V}{us:List Value},Vals xs us->Vals ys us->xs=ys
 | _,_,_,.nil,.nil=>rfl
 | _,_,_,.cons r t,.cons r' t'=>by rw [r.inj r',Vals.inj t t']
section
variable {X:Cx}{pins:List (Addr×Obj)}{σ:St}{H:Hp}{s:Shared}{a:Addr}{xs ys:List V}
theorem bf.of {K:PySem.W.Frag}(h:H a=some (.lst xs)):bf K H a xs:=.inl (.inl h)
theorem bS.of {K:PySem.W.Frag}(h:H a=some (.tup xs)):bS K H a xs:=.inl (.inl h)
theorem Inv.list (I:Inv X pins σ H s) (h:bf X.K H a xs):∃bw:List Value,Vals xs bw/\PlainL s.heap a bw.toArray/\xs.length<=sizeLine:=by
 rcases h with h | ⟨o,bw,n,hk,hc,hd,hs,hz,r⟩
 ·obtain⟨z,bw,n,r,e⟩:=h.ok I.bR;exact⟨bw,r,⟨_,n,e,rfl,rfl,rfl⟩,z⟩
 ·refine⟨bw.toList,r,⟨o,n,I.iy a o hk,hc,hd,by simpa using hs⟩,?_⟩;have e:=r.length;simp only [Array.length_toList] at e;omega
theorem Inv.tuple (I:Inv X pins σ H s) (h:bS X.K H a xs):∃bw:List Value,Vals xs bw/\IsTup s.heap a bw.toArray/\xs.length<=sizeLine:=by
 rcases h with h | ⟨o,bw,n,hk,hc,hs,hz,r⟩
 ·obtain⟨z,bw,r,p⟩:=h.ok I.bR;exact⟨bw,r,p,z⟩
 ·refine⟨bw.toList,r,⟨o,I.iy a o hk,hc,n,by simpa using hs⟩,?_⟩;have e:=r.length;simp only [Array.length_toList] at e;omega
theorem Inv.wY (I:Inv X pins σ H s) (h:bf X.K H a xs) (h':bf X.K H a ys):xs=ys:=by
 obtain⟨bw,r,⟨o,n,e,_,_,d⟩,_⟩:=I.list h;obtain⟨its',r',⟨o',n',e',_,_,d'⟩,_⟩:=I.list h';rw [e] at e'; cases e'
 rw [d] at d';injection d' with d1 _
 have:bw=its':=by simpa using congrArg Array.toList d1
 subst this;exact r.inj r'
theorem Inv.sM (I:Inv X pins σ H s) (h:bS X.K H a xs) (h':bS X.K H a ys):xs=ys:=by
 obtain⟨bw,r,⟨o,e,_,n,d⟩,_⟩:=I.tuple h;obtain⟨its',r',⟨o',e',_,n',d'⟩,_⟩:=I.tuple h';rw [e] at e'; cases e'
 rw [d] at d';injection d' with d1 _
 have:bw=its':=by simpa using congrArg Array.toList d1
 subst this;exact r.inj r'
end
noncomputable abbrev Cx.rR (X:Cx) (E:Value->Shared->Prop):Cx:={X with xe:=E}
noncomputable abbrev Cx.WJ (X:Cx):Cx:=X.rR λ_ _=>False
theorem Cx.Ok.rR {X:Cx}(ok:X.Ok) (E:Value->Shared->Prop):(X.rR E).Ok:=
 ⟨ok.mod,ok.kind,ok.glob,ok.blt,ok.above,ok.inj,ok.has,ok.RZ,ok.hd,ok.frames,ok.Wg,ok.NW,ok.bs,ok.Fp,ok.wR,ok.wU,ok.kU,ok.ME⟩
theorem Cx.Ok.je {X:Cx}{E:Value->Shared->Prop}(ok:(X.rR E).Ok):X.Ok:=
 ⟨ok.mod,ok.kind,ok.glob,ok.blt,ok.above,ok.inj,ok.has,ok.RZ,ok.hd,ok.frames,ok.Wg,ok.NW,ok.bs,ok.Fp,ok.wR,ok.wU,ok.kU,ok.ME⟩
section
variable {X:Cx}{pins:List (Addr×Obj)}{σ:St}{H:Hp}{s:Shared}{E:Value->Shared->Prop}
theorem Inv.rR (I:Inv X pins σ H s) (E:Value->Shared->Prop):Inv (X.rR E) pins σ H s:=⟨I.ok.rR E,I.os,I.bare,I.base,I.loc,I.cell,I.free,I.fQ,I.pin,I.bR,I.len⟩
theorem Inv.je (I:Inv (X.rR E) pins σ H s):Inv X pins σ H s:=⟨I.ok.je,I.os,I.bare,I.base,I.loc,I.cell,I.free,I.fQ,I.pin,I.bR,I.len⟩
theorem SP.je {D:Ends}{f:Flow}{s':Shared}(h:SP (X.rR E) pins D f s'):SP X pins D f s':=by
 cases f with
 | next=>obtain⟨σ',H',I,q⟩:=h; exact⟨σ',H',I.je,q⟩
 | brk=>obtain⟨σ',H',I,q⟩:=h; exact⟨σ',H',I.je,q⟩
 | cont=>obtain⟨σ',H',I,q⟩:=h; exact⟨σ',H',I.je,q⟩
 | ret u=>obtain⟨v,σ',H',I,r,q⟩:=h; exact⟨v,σ',H',I.je,r,q⟩
theorem wL.WJ {st:List Stmt}{t:TS}(h:wL X.WJ st t):wL X st t:=λpins s σ H D I hw=>
 wpAny_mono (h pins s σ H D (I.rR _) hw) (λ_ _ q=>q.je) λ_ _ z=>False.elim z
end
section
variable {X:Cx}{st:Stmt}{rest:List Stmt}{t u:TS}{e:Expr}{te:TE}{pos:Pos}
noncomputable def N4:TS:=λD σ H=>D.nx σ H
noncomputable def WK (t u:TS):TS:=λD σ H=>t {D with nx:=u D} σ H
theorem aG:wL X [] N4:=λ_ _ σ H _ I h=>wpAny_execs_nil ⟨σ,H,I,h⟩
theorem ag (h1:PS X st t) (h2:wL X rest u):wL X (st::rest) (WK t u):=by
 intro pins s σ H D I h;refine wpAny_execs_cons (cg (h1 pins s σ H {D with nx:=u D} I h) λf s1 q=>?_)
 cases f with
 | next=>
  obtain⟨σ',H',I',q⟩:=q;exact h2 pins s1 σ' H' D I' q
 | ret v=>exact q
 | brk=>exact q
 | cont=>exact q
theorem ah (h1:PS X st t):wL X [st] t:=by
 intro pins s σ H D I h;refine wpAny_execs_cons (cg (h1 pins s σ H D I h) λf s1 q=>?_)
 cases f with
 | next=>exact wpAny_execs_nil q
 | ret v=>exact q
 | brk=>exact q
 | cont=>exact q
theorem Inv.quiet {pins:List (Addr×Obj)}{σ:St}{H:Hp}{s:Shared}(I:Inv X pins σ H s):interactive X.env=false:=by simp [interactive,I.ok.kind]
noncomputable def N5 (te:TE):TS:=λD σ H=>te σ H λ_ H1=>D.nx σ H1
theorem bx (he:PE X e te) (hs:swapsWith e none pos.line X.env=pure false:=by rfl):PS X (.Expr e pos) (N5 te):=by
 intro pins s σ H D I h;exact wpAny_Expr_any (cg (he pins s σ H _ I h) λv s1 ⟨x,H1,I1,r1,q1⟩=>⟨σ,H1,I1,q1⟩) I.quiet hs
noncomputable def WL (te:TE):TS:=λD σ H=>te σ H D.rt
theorem aw (he:PE X e te):PS X (.Return (some e) pos) (WL te):=by
 intro pins s σ H D I h;exact wpAny_Return_some (cg (he pins s σ H _ I h) λv s1 ⟨x,H1,I1,r1,q1⟩=>⟨x,σ,H1,I1,r1,q1⟩)
noncomputable def WM (c:TT) (t u:TS):TS:=λD σ H=>c σ H λb H1=>if b=true then t D σ H1 else u D σ H1
theorem aQ {c:Expr}{a b:List Stmt}{tc:TT}(hc:PT X c tc) (ha:wL X a t) (hb:wL X b u):PS X (.If c a b pos) (WM tc t u):=by
 intro pins s σ H D I h;refine wpAny_If (cg (hc pins s σ H _ I h) λd s1 ⟨H1,I1,q1⟩=>?_)
 cases d with
 | true=>exact ha pins s1 σ H1 D I1 q1
 | false=>exact hb pins s1 σ H1 D I1 q1
end
noncomputable abbrev TG:=V->St->Hp->(St->Hp->Prop)->Prop
noncomputable abbrev R6:=List V->St->Hp->(St->Hp->Prop)->Prop
noncomputable def PG (X:Cx) (target:Expr) (t:TG):Prop:=
 ∀(pins:List (Addr×Obj)) (s:Shared) (σ:St) (H:Hp) (v:V) (u:Value) (Q:St->Hp->Prop),Inv X pins σ H s->RelV v u->t v σ H Q ->
  wpAny (model X.prog X.w) X.A (assign target X.env u) (λ_ s'=>∃σ' H',Inv X pins σ' H' s'/\Q σ' H') X.xe s
noncomputable def PGs (X:Cx) (ts:List Expr) (t:R6):Prop:=
 ∀(pins:List (Addr×Obj)) (s:Shared) (σ:St) (H:Hp) (vs:List V) (us:List Value) (Q:St->Hp->Prop),Inv X pins σ H s->Vals vs us->t vs σ H Q ->
  wpAny (model X.prog X.w) X.A (assignInOrder ((assignEach ts X.env).map (·.2)) us) (λ_ s'=>∃σ' H',Inv X pins σ' H' s'/\Q σ' H') X.xe s
noncomputable abbrev TIp:=V->V->Hp->VK->Prop
noncomputable def PIp (X:Cx) (op:Operator) (t:TIp):Prop:=
 ∀(pins:List (Addr×Obj)) (s:Shared) (σ:St) (H:Hp) (x y:V) (v u:Value) (Q:VK),Inv X pins σ H s->RelV x v->RelV y u->t x y H Q ->
  wpAny (model X.prog X.w) X.A (inplaceOp op v u) (EP X pins σ Q) X.xe s
section
variable {X:Cx}{pos:Pos}
noncomputable def nC (i:Nat):TG:=λv σ H Q=>Q (σ.set i (some v)) H
theorem aU {i:Nat}{x:Str}(hN:X.N.Nodup) (hi:X.N[i]?=some x) (hx:Loc X.env.scope x) (hf:X.fn x=true\/X.env.scope.names.lookup x=some .local:=by first | exact .inl rfl | exact .inr rfl | assumption):PG X (.Name x pos) (nC i):=by
 intro pins s σ H v u Q I r h;exact wpAny_assign_Name (kW I hN hi hx r (λs' I'=>⟨_,H,I',h⟩) hf)
noncomputable def R7:R6:=λvs σ H Q=>vs=[]/\Q σ H
noncomputable def Eh (t:TG) (u:R6):R6:=λvs σ H Q=>∃v r,vs=v::r/\t v σ H λσ' H'=>u r σ' H' Q
theorem gr:PGs X [] R7:=by
 intro pins s σ H vs us Q I r h;obtain⟨e,h⟩:=h;subst e;cases r;exact assignInOrder_nil ⟨σ,H,I,h⟩
theorem bL {e:Expr}{es:List Expr}{t:TG}{u:R6}(h1:PG X e t) (h2:PGs X es u)
  (hs:(assignEach (e::es) X.env).map (·.2)=assign e X.env::(assignEach es X.env).map (·.2):=by rfl):PGs X (e::es) (Eh t u):=by
 intro pins s σ H vs us Q I r h;obtain⟨v,vr,e1,h⟩:=h;subst e1
 cases r with
 | cons r rr=>
  rw [hs];refine assignInOrder_cons (cg (h1 pins s σ H _ _ _ I r h) λ_ s1 ⟨σ1,H1,I1,q1⟩=>?_);exact h2 pins s1 σ1 H1 _ _ Q I1 rr q1
noncomputable def R8 (K:PySem.W.Frag) (n:Nat) (t:R6):TG:=λv σ H Q=>∃a xs,v=.ref a/\bS K H a xs/\xs.length=n/\t xs σ H Q
theorem iA {es:List Expr}{k:Nat}{t:R6}{n:Nat}(hc:X.calm=true) (h:PGs X es t)
  (hn:(assignEach es X.env).length=n:=by rfl) (GW:(assignEach es X.env).findIdx? (·.1)=none:=by rfl):PG X (.Tuple es k pos) (R8 X.K n t):=by
 intro pins s σ H v u Q I r hw;obtain⟨a,xs,e1,hq,hl,hw⟩:=hw;subst e1;cases r;obtain⟨bw,rv,ht,hz⟩:=I.tuple hq;refine assign_Tuple_tuple (I.ok.hd hc) ht (by simp [hn,<-hl,rv.length]) GW λh' hx=>?_
 have I1:Inv X pins σ H {s with heap:=h'}:=I.kept (t':=s.toks) λb o e=>hx b o (Nat.ne_of_lt (Heap.lt_size e)) e
 exact h pins _ σ H xs _ Q I1 (by simpa using rv) hw
noncomputable def MH (te:TE) (g:TG):TS:=λD σ H=>te σ H λx H1=>g x σ H1 D.nx
theorem mx {tg e:Expr}{te:TE}{g:TG}(he:PE X e te) (hg:PG X tg g) (hs:swapsWithSole [tg] e pos.line X.env=pure false:=by rfl) (hw:swappedStores [tg] e X.env=pure none:=by rfl)
  (h1:(assignEach [tg] X.env).map (·.2)=[assign tg X.env]:=by rfl):PS X (.Assign [tg] e pos) (MH te g):=by
 intro pins s σ H D I h;refine wpAny_Assign_stores (cg (he pins s σ H _ I h) λv s1 ⟨x,H1,I1,r1,q1⟩=>?_) hs hw;rw [h1];exact cg (hg pins s1 σ H1 x v _ I1 r1 q1) λ_ s2 q=>q
theorem aN {i:Nat}{x:Str}{e:Expr}{te:TE}{pos':Pos}(hN:X.N.Nodup) (hi:X.N[i]?=some x) (hx:Loc X.env.scope x) (he:PE X e te) (hs:swapsWith e (some (.Name x pos')) pos.line X.env=pure false:=by rfl) (hf:X.fn x=true\/X.env.scope.names.lookup x=some .local:=by first | exact .inl rfl | exact .inr rfl | assumption) :
  PS X (.Assign [.Name x pos'] e pos) (MH te (nC i)):=by
 intro pins s σ H D I h;refine wpAny_Assign_Name (cg (he pins s σ H _ I h) λv s1 ⟨y,H1,I1,r1,q1⟩=>?_) hs;exact kW I1 hN hi hx r1 (λs2 I2=>⟨_,H1,I2,q1⟩) hf
noncomputable def WN (i:Nat) (te:TE) (ti:TIp):TS:=λD σ H=>∃x,σ[i]?=some (some x)/\te σ H λy H1=>ti x y H1 λz H2=>D.nx (σ.set i (some z)) H2
theorem R9 {i:Nat}{x:Str}{e:Expr}{te:TE}{op:Operator}{ti:TIp}{pos':Pos}(hN:X.N.Nodup) (hi:X.N[i]?=some x) (hx:Loc X.env.scope x) (he:PE X e te) (ho:PIp X op ti) (hf:X.fn x=true\/X.env.scope.names.lookup x=some .local:=by first | exact .inl rfl | exact .inr rfl | assumption) :
  PS X (.AugAssign (.Name x pos') op e pos) (WN i te ti):=by
 intro pins s σ H D I h;obtain⟨v,e1,h⟩:=h;obtain⟨m,hn,hl⟩:=I.loc;have vis:WC X.env.scope x:=by rcases hx with k | k; exact .inl k; exact .inr (.inl k)
 obtain⟨u,r,l⟩:=hl i x v hi e1 vis;refine wpAny_AugAssign_Name ?_;have go:wpAny (model X.prog X.w) X.A (eval e X.env) (λw s₂=>wpAny (model X.prog X.w) X.A (inplaceOp op u w) (λr s₃=>wpAny (model X.prog X.w) X.A (storeName X.env x r) (λ_=>SP X pins D .next) X.xe s₃) X.xe s₂) X.xe s:=by
  refine cg (he pins s σ H _ I h) λw s1 ⟨y,H1,I1,r1,q1⟩=>?_
  refine cg (ho pins s1 σ H1 v y u w _ I1 r r1 q1) λz s2 ⟨zv,H2,I2,r2,q2⟩=>?_
  exact kW I2 hN hi hx r2 (λs3 I3=>⟨_,H2,I3,q2⟩) hf
 rcases l with ⟨hk,hm⟩ | ⟨hk,c,hc,kc⟩
 ·exact wpAny_loadName_local I.ok.kind hk hn hm go
 ·rcases hk with hk | hk
  ·exact wpAny_loadName_cell I.ok.kind hk hc kc go
  ·rcases hx with k | k
   ·have:X.env.scope.names.lookup x=some .free:=hk;rw [k] at this; cases this
   ·have:X.env.scope.names.lookup x=some .free:=hk;rw [k] at this; cases this
noncomputable def ipI (f:Int->Int->Int):TIp:=λx y H Q=>∃i j,x=.int i/\y=.int j/\Q (.int (f i j)) H
theorem R_:PIp X .Add (ipI λi j=>i+j):=by
 intro pins s σ H x y v u Q I r1 r2 h;obtain⟨i,j,e1,e2,q⟩:=h;subst e1; subst e2
 obtain⟨t,rfl⟩:=r1;obtain⟨t',rfl⟩:=r2;exact iadd_int ⟨.int _,H,I.tok _,⟨_,rfl⟩,q⟩
end
section
variable {X:Cx}{pos:Pos}
noncomputable def GX (c:TT) (tb:TS):TS:=λD σ H=>∃W:Nat->St->Hp->Prop,(∃m,W m σ H)/\∀m σ H,W m σ H ->
 c σ H λb H1=>if b=true then ∃N:St->Hp->Prop,(∀σ' H',N σ' H'->∃m',m' < m/\W m' σ' H')/\tb {D with nx:=N,ct:=N,bk:=D.nx} σ H1 else D.nx σ H1
theorem GY {c:Expr}{body:List Stmt}{tc:TT}{tb:TS}(hp:PassesOwn (model X.prog X.w) X.A X.env X.xe) (hc:PT X c tc) (hb:wL X body tb):PS X (.While c body [] pos) (GX tc tb):=by
 intro pins s σ H D I h;obtain⟨W,⟨m0,w0⟩,turn⟩:=h;refine wpAny_While (codeAny_whileLoop (λn s'=>∃σ' H',Inv X pins σ' H' s'/\W n σ' H') ?_ m0 ⟨σ,H,I,w0⟩);rintro n s1 ⟨σ1,H1,I1,w1⟩;refine wpAny_passesOwn hp (cg (hc pins s1 σ1 H1 _ I1 (turn n σ1 H1 w1)) λb s2 ⟨H2,I2,q2⟩=>?_)
 cases b with
 | true=>
  obtain⟨N,hN,q2⟩:=q2;rw [if_pos rfl];refine wpAny_passesOwn hp (cg (hb pins s2 σ1 H2 _ I2 q2) λf s3 q3=>?_)
  cases f with
  | next=>
   obtain⟨σ3,H3,I3,n3⟩:=q3;obtain⟨m',hm,w3⟩:=hN σ3 H3 n3;exact⟨m',hm,σ3,H3,I3,w3⟩
  | cont=>
   obtain⟨σ3,H3,I3,n3⟩:=q3;obtain⟨m',hm,w3⟩:=hN σ3 H3 n3;exact⟨m',hm,σ3,H3,I3,w3⟩
  | brk=>exact q3
  | ret v=>exact q3
 | false=>
  rw [if_neg Bool.false_ne_true];exact wpAny_execs_nil ⟨σ1,H2,I2,q2⟩
end
structure It where
 go:Nat->Hp->Prop
 Sa:Nat->Hp->V->Hp->Prop
 stop:Nat->Hp->Prop
noncomputable def hG (X:Cx) (pins:List (Addr×Obj)) (H:Hp) (b:Addr):Prop:=
 H b=none/\b≠X.env.locals/\b∉X.fs/\(b∈X.ex\/X.s₀.heap.objs.size<=b)/\(∀x c,X.env.cells.lookup x=some c->c≠b)/\∀p∈X.pn++pins,p.1≠b
theorem Inv.GZ {X:Cx}{pins:List (Addr×Obj)}{σ:St}{H H':Hp}{s:Shared}{b:Addr}(I:Inv X pins σ H s) (hb:s.heap.objs.size<=b) (hn:H' b=none):hG X pins H' b:=by
 refine⟨hn,Nat.ne_of_gt (Nat.lt_of_lt_of_le I.lt hb),I.R0 hb,.inr (Nat.le_trans I.sz hb),λx c e z=>?_,λp hp z=>?_⟩
 ·obtain⟨v,q⟩:=I.cell x c e;exact absurd (Nat.lt_of_lt_of_le q.lt (by rw [z]; exact hb)) (Nat.lt_irrefl _)
 ·exact absurd (Nat.lt_of_lt_of_le (Heap.lt_size (I.pin p hp).1) (by rw [z]; exact hb)) (Nat.lt_irrefl _)
structure Turn (P:Program) (w:World) (K:PySem.W.Frag) (tg:Expr) (J:It) (fp:List Addr) (it:Addr) (tn:Nat->Heap->Prop):Prop where
 mem:it∈fp
 obj:∀i h,tn i h->∀b∈fp,∃o,h.get? b=some o/\∀v,o.data≠.cell v
 keep:∀i h h',tn i h->(∀b∈fp,∀o,h.get? b=some o->h'.get? b=some o)->tn i h'
 item:∀(X:Cx),X.prog=P->X.w=w->X.K=K->X.calm=true->∀(i:Nat) (pins:List (Addr×Obj)) (s:Shared) (σ:St) (H:Hp) (E:Value->Shared->Prop),Inv X pins σ H s->(∀b∈fp,hG X pins H b)->tn i s.heap->J.go i H ->
  wpAny (model P w) X.A (pyNext (.ref it)) (λr s1=>∃u,r=some u /\
   wpAny (model P w) X.A (letOwnedTupleGo tg (.ref it) u) (λ_ s2=>∃x H',Inv X pins σ H' s2/\RelV x u/\J.Sa i H x H'/\tn (i+1) s2.heap/\∀b∈fp,H' b=none) E s1) E s
 done:∀(X:Cx),X.prog=P->X.w=w->X.K=K->X.calm=true->∀(i:Nat) (pins:List (Addr×Obj)) (s:Shared) (σ:St) (H:Hp) (E:Value->Shared->Prop),Inv X pins σ H s->(∀b∈fp,hG X pins H b)->tn i s.heap->J.stop i H ->
  wpAny (model P w) X.A (pyNext (.ref it)) (λr s1=>r=none/\Inv X pins σ H s1) E s
 self:∀(A:Around) (i:Nat) (s:Shared) (Q:Value->Shared->Prop) (E:Value->Shared->Prop),tn i s.heap->Q (.ref it) s->wpAny (model P w) A (pyIter (.ref it)) Q E s
noncomputable abbrev TI:=St->Hp->(It->Hp->Prop)->Prop
noncomputable def PIE (X:Cx) (pins:List (Addr×Obj)) (σ:St) (tg:Expr) (R:It->Hp->Prop) (WO:Value) (s2:Shared):Prop:=
 ∃(it:Addr) (fp:List Addr) (tn:Nat->Heap->Prop) (J:It) (H':Hp),WO=.ref it/\Inv X pins σ H' s2/\Turn X.prog X.w X.K tg J fp it tn/\tn 0 s2.heap/\(∀b∈fp,hG X pins H' b)/\R J H'
noncomputable def PI (X:Cx) (tg iter:Expr) (wi:TI):Prop:=
 ∀(pins:List (Addr×Obj)) (s:Shared) (σ:St) (H:Hp) (R:It->Hp->Prop),Inv X pins σ H s->wi σ H R ->
  wpAny (model X.prog X.w) X.A (eval iter X.env) (λv s1=>wpAny (model X.prog X.w) X.A (pyIter v) (PIE X pins σ tg R) X.xe s1) X.xe s
theorem G0 {M:Model}{A:Around}{E:Value->Shared->Prop}{s:Shared}{tg:Expr}{it:Addr}{u:Value}{o:Obj}{n:String}{vs:Array Value}{Q:Unit->Shared->Prop}(ho:s.heap.get? it=some o) (hc:o.cls=.type n) (hd:o.data=.fields vs)
    (hn:["enumerate","zip","dict_itemiterator","dict_reverseitemiterator","odict_iterator","itertools.zip_longest","itertools.pairwise"].contains n=false) (hQ:Q () s):wpAny M A (letOwnedTupleGo tg (.ref it) u) Q E s:=by
  unfold letOwnedTupleGo
  cases tg <;> first
    | exact wpAny_pure hQ
    | (cases u <;> first
        | exact wpAny_pure hQ
        | (refine wpAny_bind (wpAny_load ho ?_)
           rw [hc,hd];show wpAny M A (if (["enumerate","zip","dict_itemiterator","dict_reverseitemiterator","odict_iterator","itertools.zip_longest","itertools.pairwise"].contains n&&vs[0]? == some (rawInt _))=true then _ else _) Q E s;rw [if_neg (by intro h; rw [hn,Bool.false_and] at h; cases h)];exact wpAny_pure hQ))
noncomputable def MI (K:PySem.W.Frag) (a:Addr):It:=
 ⟨λi H=>∃xs x,bf K H a xs/\xs[i]?=some x,λi H x H'=>H'=H/\∀xs,bf K H a xs->xs[i]?=some x,λi H=>∃xs,bf K H a xs/\xs.length<=i⟩
noncomputable def Itt (K:PySem.W.Frag) (a:Addr):It:=
 ⟨λi H=>∃xs x,bS K H a xs/\xs[i]?=some x,λi H x H'=>H'=H/\∀xs,bS K H a xs->xs[i]?=some x,λi H=>∃xs,bS K H a xs/\xs.length<=i⟩
noncomputable def N6 (lo:Int) (n:Nat):It:=⟨λi _=>i < n,λi H x H'=>H'=H/\x=.int (lo+i),λi _=>n<=i⟩
theorem Ft {P:Program}{w:World}{K:PySem.W.Frag}{tg:Expr}(a it:Addr):Turn P w K tg (MI K a) [it] it (λi h=>h.IsListIter it a i) where
 mem:=by simp
 obj:=λi h st b hb=>by
  have e:b=it:=by simpa using hb
  subst e;obtain⟨o,e,c,d⟩:=st;exact⟨o,e,λv z=>by rw [d] at z; cases z⟩
 keep:=λi h h' st k=>st.at λo e=>k it (by simp) o e
 item:=by
  intro X hP hw hK hc i pins s σ H E I hf st hg;subst hP hw hK;obtain⟨xs,x,hq,hx⟩:=hg;obtain⟨bw,rv,p,hz⟩:=I.list hq;obtain⟨u,hu,ru⟩:=rv.get hx;obtain⟨f0,f1,f2,f3,f4,f5⟩:=hf it (by simp);refine wpAny_pyNext_list_item st p.isList (x:=u) (by simpa using hu) λh' Fu sb=>?_
  have I1:Inv X pins σ H {s with heap:=h'}:=I.turned (t':=s.toks) (λb o hb e=>(sb.2 b hb).trans e) f0 f1 f3 f4 f5;obtain⟨o,e,c,d⟩:=id Fu;exact⟨u,rfl,G0 (s:={s with heap:=h'}) e c d (by decide) ⟨x,H,I1,ru,⟨rfl,λys hy=>by rw [I.wY hy hq]; exact hx⟩,Fu,λb hb=>(hf b hb).1⟩⟩
 done:=by
  intro X hP hw hK hc i pins s σ H E I hf st hg;subst hP hw hK;obtain⟨xs,hq,hx⟩:=hg;obtain⟨bw,rv,p,hz⟩:=I.list hq;obtain⟨f0,f1,f2,f3,f4,f5⟩:=hf it (by simp);have hl:=rv.length;exact wpAny_pyNext_list_end (I.ok.hd hc) st p.isList (by simp; omega) λh' eb=>⟨rfl,I.turned (t':=s.toks) (λb o hb e=>eb b o hb e) f0 f1 f3 f4 f5⟩
 self:=λ_ _ _ _ _ st h=>wpAny_pyIter_listiter st h
theorem BQ {P:Program}{w:World}{K:PySem.W.Frag}{tg:Expr}(a it:Addr):Turn P w K tg (Itt K a) [it] it (λi h=>h.IsTupleIter it a i) where
 mem:=by simp
 obj:=λi h st b hb=>by
  have e:b=it:=by simpa using hb
  subst e;obtain⟨o,e,c,d⟩:=st;exact⟨o,e,λv z=>by rw [d] at z; cases z⟩
 keep:=λi h h' st k=>st.at λo e=>k it (by simp) o e
 item:=by
  intro X hP hw hK hc i pins s σ H E I hf st hg;subst hP hw hK;obtain⟨xs,x,hq,hx⟩:=hg;obtain⟨bw,rv,p,hz⟩:=I.tuple hq;obtain⟨u,hu,ru⟩:=rv.get hx;obtain⟨f0,f1,f2,f3,f4,f5⟩:=hf it (by simp);refine wpAny_pyNext_tuple_item st (show s.heap.IsTuple a bw.toArray from p) (x:=u) (by simpa using hu) λh' Fu sb=>?_
  have I1:Inv X pins σ H {s with heap:=h'}:=I.turned (t':=s.toks) (λb o hb e=>(sb.2 b hb).trans e) f0 f1 f3 f4 f5;obtain⟨o,e,c,d⟩:=id Fu;exact⟨u,rfl,G0 (s:={s with heap:=h'}) e c d (by decide) ⟨x,H,I1,ru,⟨rfl,λys hy=>by rw [I.sM hy hq]; exact hx⟩,Fu,λb hb=>(hf b hb).1⟩⟩
 done:=by
  intro X hP hw hK hc i pins s σ H E I hf st hg;subst hP hw hK;obtain⟨xs,hq,hx⟩:=hg;obtain⟨bw,rv,p,hz⟩:=I.tuple hq;obtain⟨f0,f1,f2,f3,f4,f5⟩:=hf it (by simp);have hl:=rv.length;exact wpAny_pyNext_tuple_end (I.ok.hd hc) st (show s.heap.IsTuple a bw.toArray from p) (by simp; omega) λh' eb=>⟨rfl,I.turned (t':=s.toks) (λb o hb e=>eb b o hb e) f0 f1 f3 f4 f5⟩
 self:=λ_ _ _ _ _ st h=>wpAny_pyIter_tupleiter st h
theorem BR {P:Program}{w:World}{K:PySem.W.Frag}{tg:Expr}(it:Addr) (lo:Int) (n:Nat):Turn P w K tg (N6 lo n) [it] it (λi h=>IsRangeIter h it (lo+(i:Nat)*1) ((n:Int) - (i:Nat)) 1) where
 mem:=by simp
 obj:=λi h st b hb=>by
  have e:b=it:=by simpa using hb
  subst e;exact⟨_,st,λv z=>by
   have z':Data.fields _=Data.cell v:=z;cases z'⟩
 keep:=λi h h' st k=>k it (by simp) _ st
 item:=by
  intro X hP hw hK hc i pins s σ H E I hf st hg;subst hP hw hK;obtain⟨f0,f1,f2,f3,f4,f5⟩:=hf it (by simp);have W:=Walks.range (prog:=X.prog) (w:=X.w) (I.ok.hd hc) it lo 1 n;refine W.item i s _ _ hg st λv h' tk hv Fu kk=>?_
  obtain⟨t,rfl⟩:=hv;have I1:Inv X pins σ H {s with heap:=h',toks:=tk}:=I.turned (λb o hb e=>kk b o (by simpa using hb) e) f0 f1 f3 f4 f5;refine⟨_,rfl,G0 (s:={s with heap:=h',toks:=tk}) (n:="range_iterator") Fu rfl rfl (by decide) ⟨.int (lo+i),H,I1,⟨t,?_⟩,⟨rfl,rfl⟩,Fu,λb hb=>(hf b hb).1⟩⟩;rw [Int.mul_one]
 done:=by
  intro X hP hw hK hc i pins s σ H E I hf st hg;subst hP hw hK;obtain⟨f0,f1,f2,f3,f4,f5⟩:=hf it (by simp);exact wpAny_pyNext_range_end (I.ok.hd hc) st (by have:n<=i:=hg; omega) λh' eb=>⟨rfl,I.turned (t':=s.toks) (λb o hb e=>eb b o hb e) f0 f1 f3 f4 f5⟩
 self:=λ_ _ _ _ _ st h=>wpAny_pyIter_rangeiter st h
section
variable {X:Cx}{tg:Expr}
noncomputable def N7 (K:PySem.W.Frag) (tl:TE):TI:=λσ H R=>tl σ H λx H1=>∃a,x=.ref a/\(∃xs,bf K H1 a xs)/\R (MI K a) H1
noncomputable def WQ (K:PySem.W.Frag) (tl:TE):TI:=λσ H R=>tl σ H λx H1=>∃a,x=.ref a/\(∃xs,bS K H1 a xs)/\R (Itt K a) H1
theorem cx {l:Expr}{tl:TE}(hl:PE X l tl):PI X tg l (N7 X.K tl):=by
 intro pins s σ H R I h;refine cg (hl pins s σ H _ I h) λv s1 ⟨x,H1,I1,r1,q1⟩=>?_
 obtain⟨a,e,⟨xs,hq⟩,q⟩:=q1;subst e;cases r1;obtain⟨bw,rv,p,hz⟩:=I1.list hq;refine wpAny_pyIter_list p.isList ?_;refine⟨s1.heap.objs.size,[s1.heap.objs.size],_,_,H1,rfl,I1.kept (t':=s1.toks) λb o e=>Heap.get?_push_of_some _ e,Ft a _,⟨_,Heap.get?_push_size _ rfl,rfl,rfl⟩,λb hb=>?_,q⟩;have e:b=s1.heap.objs.size:=by simpa using hb
 subst e;exact I1.GZ (Nat.le_refl _) (I1.bR.fresh (Nat.le_refl _))
theorem Sb {l:Expr}{tl:TE}(hl:PE X l tl):PI X tg l (WQ X.K tl):=by
 intro pins s σ H R I h;refine cg (hl pins s σ H _ I h) λv s1 ⟨x,H1,I1,r1,q1⟩=>?_
 obtain⟨a,e,⟨xs,hq⟩,q⟩:=q1;subst e;cases r1;obtain⟨bw,rv,p,hz⟩:=I1.tuple hq;refine wpAny_pyIter_tuple (show s1.heap.IsTuple a bw.toArray from p) ?_;refine⟨s1.heap.objs.size,[s1.heap.objs.size],_,_,H1,rfl,I1.kept (t':=s1.toks) λb o e=>Heap.get?_push_of_some _ e,BQ a _,⟨_,Heap.get?_push_size _ rfl,rfl,rfl⟩,λb hb=>?_,q⟩;have e:b=s1.heap.objs.size:=by simpa using hb
 subst e;exact I1.GZ (Nat.le_refl _) (I1.bR.fresh (Nat.le_refl _))
theorem G3 {pins:List (Addr×Obj)}{σ:St}{H:Hp}{s:Shared}{R:It->Hp->Prop}{E:Value->Shared->Prop}{lo hi:Int}{t u v:Tok}{tk:Nat}(I:Inv X pins σ H s) (h1:-(2 ^ 62)<=lo) (h2:lo < 2 ^ 62) (h3:-(2 ^ 62)<=hi) (h4:hi < 2 ^ 62)
  (q:R (N6 lo (hi - lo).toNat) H):wpAny (model X.prog X.w) X.A (pyIter (.ref s.heap.objs.size)) (PIE X pins σ tg R) E {s with heap:=s.heap.push {cls:=.type "range",data:=.fields #[.int lo t,.int hi u,.int 1 v]},toks:=tk}:=by
 refine wpAny_pyIter_range (IsRange.new ..) (small_one h1 h2 h3 h4) ?_;have I1:Inv X pins σ H {s with heap:=s.heap.push {cls:=.type "range",data:=.fields #[.int lo t,.int hi u,.int 1 v]},toks:=tk}:=I.kept λb o e=>Heap.get?_push_of_some _ e
 refine⟨(s.heap.push {cls:=.type "range",data:=.fields #[.int lo t,.int hi u,.int 1 v]}).objs.size,[(s.heap.push {cls:=.type "range",data:=.fields #[.int lo t,.int hi u,.int 1 v]}).objs.size],_,_,H,rfl,
  I1.kept (t':=tk) λb o e=>Heap.get?_push_of_some _ e,BR _ lo (hi - lo).toNat,?_,λb hb=>?_,q⟩
 ·have e1:lo+((0:Nat):Int)*1=lo:=by simp
  have e2:(((hi - lo).toNat:Nat):Int) - ((0:Nat):Int)=Builtin.Range.rangeSize lo hi 1:=by rw [rangeSize_one]; split <;> omega
  show IsRangeIter _ _ (lo+((0:Nat):Int)*1) ((((hi - lo).toNat:Nat):Int) - ((0:Nat):Int)) 1;rw [e1,e2];exact Heap.get?_push_size _ rfl
 ·have e:b=(s.heap.push {cls:=.type "range",data:=.fields #[.int lo t,.int hi u,.int 1 v]}).objs.size:=by simpa using hb
  subst e;exact I1.GZ (Nat.le_refl _) (I1.bR.fresh (Nat.le_refl _))
noncomputable def N8 (ta:TA):TI:=λσ H R=>ta σ H λvs H1=>∃j:Int,vs=[.int j]/\-(2 ^ 62)<=j/\j < 2 ^ 62/\R (N6 0 j.toNat) H1
theorem my {a:Expr}{ta:TA}{p pos:Pos}(hg:Gl X "range") (hm:X.mg "range"=none) (ha:PA X [a] ta) (hs:starEach [a] X.env=[(false,eval a X.env)]:=by rfl):PI X tg (.Call (.Name "range" p) [a] [] pos) (N8 ta):=by
 intro pins s σ H R I h;refine Call_ (uD I hg hm boot_range (PyProof.Rows.callWith_type1 (cg (ha pos pins s σ H _ I h) λus s1 ⟨vs,H1,I1,r1,q1⟩=>?_) hs rfl));obtain⟨j,e,q1,q2,q⟩:=q1;subst e
 cases r1 with
 | cons r rr=>
  cases rr;obtain⟨t,rfl⟩:=r;exact call_range_1 (G3 I1 (by omega) (by omega) q1 q2 (by simpa using q))
noncomputable def aaw (wi:TI) (g:TG) (tb:TS):TS:=λD σ H=>wi σ H λJ H1=>∃W:Nat->Nat->St->Hp->Prop,(∃m,W 0 m σ H1)/\∀i m σ H,W i m σ H ->
 (J.stop i H/\D.nx σ H)\/(J.go i H/\∃N:St->Hp->Prop,(∀σ' H',N σ' H'->∃m',m' < m/\W (i+1) m' σ' H')/\∀x H',J.Sa i H x H'->g x σ H' λσ2 H2=>tb {D with nx:=N,ct:=N,bk:=D.nx} σ2 H2)
noncomputable def jf (fp:List Addr) (h:Heap):List (Addr×Obj):=fp.filterMap λb=>(h.get? b).map λo=>(b,o)
theorem fz {fp:List Addr}{h:Heap}{b:Addr}{o:Obj}(hb:b∈fp) (e:h.get? b=some o):(b,o)∈jf fp h:=List.mem_filterMap.mpr ⟨b,hb,by rw [e]; rfl⟩
theorem Fv {fp:List Addr}{h:Heap}{p:Addr×Obj}(hp:p∈jf fp h):p.1∈fp/\h.get? p.1=some p.2:=by
 obtain⟨b,hb,e⟩:=List.mem_filterMap.mp hp
 cases q:h.get? b with
 | none=>rw [q] at e; cases e
 | some o=>
  rw [q] at e;have e':(b,o)=p:=Option.some.inj e;subst e';exact⟨hb,q⟩
theorem Inv.pinned {pins:List (Addr×Obj)}{σ:St}{H:Hp}{s:Shared}{fp:List Addr}(I:Inv X pins σ H s) (hf:∀b∈fp,hG X pins H b) (ho:∀b∈fp,∃o,s.heap.get? b=some o/\∀v,o.data≠.cell v):Inv X (pins++jf fp s.heap) σ H s:=
 I.uC λp hp=>(List.mem_append.mp hp).elim (λz=>I.pin p (List.mem_append_right _ z)) λz=>by
  obtain⟨hb,e⟩:=Fv z;obtain⟨f0,f1,f2,_⟩:=hf p.1 hb;obtain⟨o,e',d⟩:=ho p.1 hb;rw [e] at e'; cases e'
  exact⟨e,f0,f1,f2,d⟩
theorem Inv.hJ {pins pl:List (Addr×Obj)}{σ:St}{H:Hp}{s:Shared}(I:Inv X (pins++pl) σ H s):Inv X pins σ H s:=I.uC λp hp=>I.pin p (List.mem_append_right _ (List.mem_append_left _ hp))
theorem Sd {iter:Expr}{body:List Stmt}{wi:TI}{g:TG}{tb:TS}{pos:Pos}(hp:PassesOwn (model X.prog X.w) X.A X.env X.xe) (hc:X.calm=true) (hi:PI X tg iter wi) (hg:PG X tg g) (hb:wL X body tb)
  (hs:∀x,foldedSetIterable iter X.env x=pure x:=by intro _; rfl):PS X (.For tg iter body [] pos) (aaw wi g tb):=by
 intro pins s σ H D I h;refine wpAny_For (cg (hi pins s σ H _ I h) λv s1 h1=>cg h1 λWO s2 h2=>?_) hs;obtain⟨it,fp,tn,J,H2,e,I2,T,Se,f2,W,⟨m0,w0⟩,turn⟩:=h2;subst e;have oW:∀{H':Hp},(∀b∈fp,H' b=none)->∀b∈fp,hG X pins H' b:=λhn b hb=>⟨hn b hb,(f2 b hb).2⟩
 refine codeAny_forLoop_any (λn s'=>∃i σ' H',Inv X pins σ' H' s'/\tn i s'.heap/\(∀b∈fp,H' b=none)/\W i n σ' H') ?_ m0 ⟨0,σ,H2,I2,Se,λb hb=>(f2 b hb).1,w0⟩;rintro n s3 ⟨i,σ3,H3,I3,N9,GQ,w3⟩;rcases turn i n σ3 H3 w3 with ⟨stop,qn⟩ | ⟨go,N,hN,step⟩
 ·refine wpAny_passesOwn hp (cg (T.done X rfl rfl rfl hc i pins s3 σ3 H3 X.xe I3 (oW GQ) N9 stop) λr s4 ⟨hr,I4⟩=>?_);subst hr;exact wpAny_execs_nil ⟨σ3,H3,I4,qn⟩
 ·refine wpAny_passesOwn hp (cg (T.item X rfl rfl rfl hc i pins s3 σ3 H3 X.xe I3 (oW GQ) N9 go) λr s4 ⟨u,hr,h4⟩=>?_);subst hr;refine wpAny_passesOwn hp (cg h4 λ_ s5 ⟨x,H5,I5,r5,y5,st5,fr5⟩=>?_);have I5':=I5.pinned (oW fr5) (T.obj _ _ st5);refine wpAny_passesOwn hp (cg (hg _ s5 σ3 H5 x u _ I5' r5 (step x H5 y5)) λ_ s6 ⟨σ6,H6,I6,q6⟩=>?_);refine wpAny_passesOwn hp (cg (hb _ s6 σ6 H6 _ I6 q6) λf s7 q7=>?_);have again:∀{σ7:St}{H7:Hp},Inv X (pins++jf fp s5.heap) σ7 H7 s7->N σ7 H7->∃m,m < n/\∃i σ' H',Inv X pins σ' H' s7/\tn i s7.heap/\(∀b∈fp,H' b=none)/\W i m σ' H':=λ{σ7 H7} I7 n7=>by
   obtain⟨m',hm,w7⟩:=hN σ7 H7 n7;refine⟨m',hm,i+1,σ7,H7,I7.hJ,T.keep _ _ _ st5 λb hb o e=>(I7.pin (b,o) (List.mem_append_right _ (List.mem_append_right _ (fz hb e)))).1,λb hb=>?_,w7⟩;obtain⟨o,e,d⟩:=T.obj _ _ st5 b hb;exact(I7.pin (b,o) (List.mem_append_right _ (List.mem_append_right _ (fz hb e)))).2.1
  cases f with
  | next=>obtain⟨σ7,H7,I7,n7⟩:=q7; exact again I7 n7
  | cont=>obtain⟨σ7,H7,I7,n7⟩:=q7; exact again I7 n7
  | brk=>obtain⟨σ7,H7,I7,q7⟩:=q7; exact⟨σ7,H7,I7.hJ,q7⟩
  | ret v=>obtain⟨x7,σ7,H7,I7,r7,q7⟩:=q7; exact⟨x7,σ7,H7,I7.hJ,r7,q7⟩
end
theorem G4 {K:PySem.W.Frag}{a:Addr}{xs:List V}{g:TG}{tb:TS}{D:Ends}{σ:St}{H:Hp}(Pv:Nat->St->Hp->Prop) (h0:Pv 0 σ H) (hl:∀i σ H,i<=xs.length->Pv i σ H->bf K H a xs)
  (hs:∀i x σ H,xs[i]?=some x->Pv i σ H->g x σ H λσ2 H2=>tb {D with nx:=Pv (i+1),ct:=Pv (i+1),bk:=D.nx} σ2 H2) (hd:∀σ H,Pv xs.length σ H->D.nx σ H) :
  ∃W:Nat->Nat->St->Hp->Prop,(∃m,W 0 m σ H)/\∀i m σ H,W i m σ H ->
   ((MI K a).stop i H/\D.nx σ H)\/((MI K a).go i H/\∃N:St->Hp->Prop,(∀σ' H',N σ' H'->∃m',m' < m/\W (i+1) m' σ' H')/\∀x H',(MI K a).Sa i H x H'->g x σ H' λσ2 H2=>tb {D with nx:=N,ct:=N,bk:=D.nx} σ2 H2):=by
 refine⟨λi m σ H=>m=xs.length - i/\i<=xs.length/\Pv i σ H,⟨xs.length,by simp,Nat.zero_le _,h0⟩,?_⟩;rintro i m σ H ⟨rfl,hi,p⟩;have q:=hl i σ H hi p
 by_cases gY:i < xs.length
 ·refine .inr ⟨⟨xs,xs[i],q,by simp [gY]⟩,Pv (i+1),λσ' H' p'=>⟨xs.length - (i+1),by omega,rfl,gY,p'⟩,λx H' y=>?_⟩;obtain⟨e,y⟩:=y;subst e;exact hs i x σ _ (y xs q) p
 ·have e:i=xs.length:=by omega
  subst e;exact .inl ⟨⟨xs,q,Nat.le_refl _⟩,hd σ H p⟩
theorem Fw {lo:Int}{n:Nat}{g:TG}{tb:TS}{D:Ends}{σ:St}{H:Hp}(Pv:Nat->St->Hp->Prop) (h0:Pv 0 σ H)
  (hs:∀i σ H,i < n->Pv i σ H->g (.int (lo+i)) σ H λσ2 H2=>tb {D with nx:=Pv (i+1),ct:=Pv (i+1),bk:=D.nx} σ2 H2) (hd:∀σ H,Pv n σ H->D.nx σ H) :
  ∃W:Nat->Nat->St->Hp->Prop,(∃m,W 0 m σ H)/\∀i m σ H,W i m σ H ->
   ((N6 lo n).stop i H/\D.nx σ H)\/((N6 lo n).go i H/\∃N:St->Hp->Prop,(∀σ' H',N σ' H'->∃m',m' < m/\W (i+1) m' σ' H')/\∀x H',(N6 lo n).Sa i H x H'->g x σ H' λσ2 H2=>tb {D with nx:=N,ct:=N,bk:=D.nx} σ2 H2):=by
 refine⟨λi m σ H=>m=n - i/\i<=n/\Pv i σ H,⟨n,by simp,Nat.zero_le _,h0⟩,?_⟩;rintro i m σ H ⟨rfl,hi,p⟩
 by_cases gY:i < n
 ·refine .inr ⟨gY,Pv (i+1),λσ' H' p'=>⟨n - (i+1),by omega,rfl,gY,p'⟩,λx H' y=>?_⟩;obtain⟨e,y⟩:=y;subst e y;exact hs i σ _ gY p
 ·have e:i=n:=by omega
  subst e;exact .inl ⟨Nat.le_refl _,hd σ H p⟩
noncomputable abbrev R2:=V->V->Hp->VK->Prop
noncomputable def kX (X:Cx) (f:Value->Value->Sem Value) (r:R2):Prop:=
 ∀(pins:List (Addr×Obj)) (s:Shared) (σ:St) (H:Hp) (x y:V) (v u:Value) (Q:VK),Inv X pins σ H s->RelV x v->RelV y u->r x y H Q ->
  wpAny (model X.prog X.w) X.A (f v u) (EP X pins σ Q) X.xe s
noncomputable def UnR (X:Cx) (f:Value->Sem Value) (r:V->Hp->VK->Prop):Prop:=
 ∀(pins:List (Addr×Obj)) (s:Shared) (σ:St) (H:Hp) (x:V) (v:Value) (Q:VK),Inv X pins σ H s->RelV x v->r x H Q ->
  wpAny (model X.prog X.w) X.A (f v) (EP X pins σ Q) X.xe s
noncomputable def eX (X:Cx) (f:Value) (r:List V->Hp->VK->Prop):Prop:=
 ∀(pins:List (Addr×Obj)) (s:Shared) (σ:St) (H:Hp) (xs:List V) (us:List Value) (Q:VK),Inv X pins σ H s->Vals xs us->r xs H Q ->
  wpAny (model X.prog X.w) X.A (call f us) (EP X pins σ Q) X.xe s
noncomputable def Wh (r:R2) (ta tb:TE):TE:=λσ H Q=>ta σ H λx H1=>tb σ H1 λy H2=>r x y H2 Q
noncomputable def tUn (r:V->Hp->VK->Prop) (ta:TE):TE:=λσ H Q=>ta σ H λx H1=>r x H1 Q
noncomputable def rI (C:Int->Int->Prop) (g:Int->Int->V):R2:=λx y H Q=>∃i j,x=.int i/\y=.int j/\C i j/\Q (g i j) H
noncomputable def Sf (g:Int->Int->V):R2:=λx y H Q=>∃i j,x=.int i/\y=.int j/\Q (g i j) H
noncomputable def rU (g:Int->V):V->Hp->VK->Prop:=λx H Q=>∃i,x=.int i/\Q (g i) H
section
variable {X:Cx}{a b c:Expr}{ta tb tc:TE}{pos:Pos}
theorem Sg (ha:PE X a ta) (hb:PE X b tb) {pins:List (Addr×Obj)}{s:Shared}{σ:St}{H:Hp}{R:V->V->Hp->Prop}(I:Inv X pins σ H s)
  (h:ta σ H λx H1=>tb σ H1 λy H2=>R x y H2) {Q:Value->Shared->Prop}{f:Value->Value->Sem Value}
  (hf:∀v u s2 x y H2,Inv X pins σ H2 s2->RelV x v->RelV y u->R x y H2->wpAny (model X.prog X.w) X.A (f v u) Q X.xe s2) :
  wpAny (model X.prog X.w) X.A (eval a X.env) (λv s₁=>wpAny (model X.prog X.w) X.A (eval b X.env) (λu s₂=>wpAny (model X.prog X.w) X.A (f v u) Q X.xe s₂) X.xe s₁) X.xe s:=by
 refine cg (ha pins s σ H _ I h) λv s1 ⟨x,H1,I1,r1,q1⟩=>?_
 refine cg (hb pins s1 σ H1 _ I1 q1) λu s2 ⟨y,H2,I2,r2,q2⟩=>?_
 exact hf v u s2 x y H2 I2 r1 r2 q2
theorem bz {op:Operator}{r:R2}(ho:kX X (binaryOp op) r) (ha:PE X a ta) (hb:PE X b tb):PE X (.BinOp a op b pos) (Wh r ta tb):=by
 intro pins s σ H Q I h;exact wpAny_BinOp (Sg ha hb I h λv u s2 x y H2 I2 rx ry q=>ho pins s2 σ H2 x y v u Q I2 rx ry q)
theorem WR {op:UnaryOp}{r:V->Hp->VK->Prop}(ho:UnR X (unaryOp op) r) (ha:PE X a ta):PE X (.UnaryOp op a pos) (tUn r ta):=by
 intro pins s σ H Q I h;exact UnaryOp_ (cg (ha pins s σ H _ I h) λv s1 ⟨x,H1,I1,r1,q1⟩=>ho pins s1 σ H1 x v Q I1 r1 q1)
theorem opI {f:Value->Value->Sem Value}{C:Int->Int->Prop}{g:Int->Int->Int}
  (rule:∀(i j:Int) (t u:Tok) (s:Shared) (Q:Value->Shared->Prop) (E:Value->Shared->Prop),C i j->Q (.int (g i j) s.toks) {s with toks:=s.toks+1}->wpAny (model X.prog X.w) X.A (f (.int i t) (.int j u)) Q E s) :
  kX X f (rI C λi j=>.int (g i j)):=by
 intro pins s σ H x y v u Q I rx ry h;obtain⟨i,j,rfl,rfl,hc,q⟩:=h;obtain⟨t,rfl⟩:=rx;obtain⟨t',rfl⟩:=ry;exact rule i j t t' s _ _ hc ⟨.int (g i j),H,I.tok _,⟨_,rfl⟩,q⟩
theorem aax {f:Value->Value->Sem Value}{g:Int->Int->Int}
  (rule:∀(i j:Int) (t u:Tok) (s:Shared) (Q:Value->Shared->Prop) (E:Value->Shared->Prop),Q (.int (g i j) s.toks) {s with toks:=s.toks+1}->wpAny (model X.prog X.w) X.A (f (.int i t) (.int j u)) Q E s) :
  kX X f (Sf λi j=>.int (g i j)):=by
 intro pins s σ H x y v u Q I rx ry h;obtain⟨i,j,rfl,rfl,q⟩:=h;obtain⟨t,rfl⟩:=rx;obtain⟨t',rfl⟩:=ry;exact rule i j t t' s _ _ ⟨.int (g i j),H,I.tok _,⟨_,rfl⟩,q⟩
theorem Sh {f:Value->Value->Sem Value}{g:Int->Int->Bool}
  (rule:∀(i j:Int) (t u:Tok) (s:Shared) (Q:Value->Shared->Prop) (E:Value->Shared->Prop),Q (.bool (g i j)) s->wpAny (model X.prog X.w) X.A (f (.int i t) (.int j u)) Q E s) :
  kX X f (Sf λi j=>.bl (g i j)):=by
 intro pins s σ H x y v u Q I rx ry h;obtain⟨i,j,rfl,rfl,q⟩:=h;obtain⟨t,rfl⟩:=rx;obtain⟨t',rfl⟩:=ry;exact rule i j t t' s _ _ ⟨.bl (g i j),H,I,rfl,q⟩
noncomputable def aay (i j:Int):Prop:=0<=j/\j<=1000000/\i.natAbs < 2 ^ 64
noncomputable def Si (i j:Int):Prop:=(-(2 ^ 64) < i/\i < 2 ^ 64)\/(-(2 ^ 64) < j/\j < 2 ^ 64)
theorem Si.ok {i j:Int}(h:Si i j):IntMulOk i j:=by
 rcases h with ⟨h1,h2⟩ | ⟨h1,h2⟩
 ·exact .of_left (intBits_le_64 h1 h2)
 ·exact .of_right (intBits_le_64 h1 h2)
theorem iB:kX X (binaryOp .Add) (Sf λi j=>.int (i+j)):=aax λ_ _ _ _ _ _ _ q=>add_int q
theorem uF:kX X (binaryOp .Mult) (rI Si λi j=>.int (i*j)):=opI λ_ _ _ _ _ _ _ hc q=>mul_int q hc.ok
theorem eB:kX X (binaryOp .Mod) (rI (λ_ j=>0 < j) λi j=>.int (i % j)):=opI λi j _ _ _ _ _ hc q=>by
 have h1:(0:Int) < j:=hc;exact mod_int' (by omega) (by rw [Int.fmod_eq_emod_of_nonneg i (by omega)]; exact q)
theorem Sj:kX X (binaryOp .Pow) (rI aay λi j=>.int (i ^ j.toNat)):=opI λ_ _ _ _ _ _ _ hc q=>pow_int_small hc.1 hc.2.1 hc.2.2 q
theorem unI {f:Value->Sem Value}{g:Int->Int}
  (rule:∀(i:Int) (t:Tok) (s:Shared) (Q:Value->Shared->Prop) (E:Value->Shared->Prop),Q (.int (g i) s.toks) {s with toks:=s.toks+1}->wpAny (model X.prog X.w) X.A (f (.int i t)) Q E s) :
  UnR X f (rU λi=>.int (g i)):=by
 intro pins s σ H x v Q I rx h;obtain⟨i,rfl,q⟩:=h;obtain⟨t,rfl⟩:=rx;exact rule i t s _ _ ⟨.int (g i),H,I.tok _,⟨_,rfl⟩,q⟩
theorem Sk:UnR X (unaryOp .USub) (rU λi=>.int (-i)):=unI λ_ _ _ _ _ q=>neg_int q
end
noncomputable def wZ:V->V->Bool
 | .bM,.bM=>true | .bM,.int _=>true | .int _,.bM=>true | .bM,.bl _=>true | .bl _,.bM=>true | .bM,.str _=>true | .str _,.bM=>true
 | .int _,.int _=>true | .bl _,.bl _=>true | .str _,.str _=>true | .GO _,.GO _=>true
 | .int _,.str _=>true | .str _,.int _=>true | .bl _,.str _=>true | .str _,.bl _=>true
 | _,_=>false
noncomputable def rEq:R2:=λx y H Q=>wZ x y=true/\Q (.bl (decide (x=y))) H
noncomputable def rNe:R2:=λx y H Q=>wZ x y=true/\Q (.bl (!decide (x=y))) H
theorem Ei {i j:Int}:decide (V.int i=V.int j)=(i == j):=by
 rw [Bool.eq_iff_iff];simp
theorem G5 {i j:Bool}:decide (V.bl i=V.bl j)=(i == j):=by
 rw [Bool.eq_iff_iff];simp
theorem Ej {i j:Str}:decide (V.str i=V.str j)=(i == j):=by
 rw [Bool.eq_iff_iff];simp
theorem Ek {i j:Array UInt8}:decide (V.GO i=V.GO j)=(i.toList == j.toList):=by
 rw [Bool.eq_iff_iff];cases i;cases j;simp
section
variable {X:Cx}{a b c:Expr}{ta tb tc:TE}{pos:Pos}
theorem bK {pins:List (Addr×Obj)}{σ:St}{H:Hp}{s:Shared}{Q:VK}{k k':Bool}(I:Inv X pins σ H s) (q:Q (.bl k) H) (e:k=k'):EP X pins σ Q (.bool k') s:=by
 subst e;exact⟨.bl k,H,I,rfl,q⟩
theorem bN:kX X (compareOp .Eq) rEq:=by
 intro pins s σ H x y v u Q I rx ry h;obtain⟨hs,q⟩:=h
 cases x with
 | bM=>
  cases rx
  cases y with
  | bM=>cases ry; exact PySem.EqNone.eq_none_none (bK I q (by simp))
  | bl j=>cases ry; exact PySem.EqNone.eq_none_bool (bK I q (by simp))
  | int j=>obtain⟨t',rfl⟩:=ry; exact PySem.EqNone.eq_none_int (bK I q (by simp))
  | str j=>obtain⟨t',rfl⟩:=ry; exact PySem.EqNone.eq_none_str (bK I q (by simp))
  | _=>exact absurd (show false=true from hs) Bool.false_ne_true
 | bl i=>
  cases rx
  cases y with
  | bM=>cases ry; exact PySem.EqNone.eq_bool_none (bK I q (by simp))
  | bl j=>cases ry; exact eq_bool (bK I q G5)
  | str j=>obtain⟨t',rfl⟩:=ry; exact PySem.EqMixed.eq_bool_str (bK I q (by simp))
  | _=>exact absurd (show false=true from hs) Bool.false_ne_true
 | int i=>
  obtain⟨t,rfl⟩:=rx
  cases y with
  | bM=>cases ry; exact PySem.EqNone.eq_int_none (bK I q (by simp))
  | int j=>obtain⟨t',rfl⟩:=ry; exact eq_int (bK I q Ei)
  | str j=>obtain⟨t',rfl⟩:=ry; exact PySem.EqMixed.eq_int_str (bK I q (by simp))
  | _=>exact absurd (show false=true from hs) Bool.false_ne_true
 | str i=>
  obtain⟨t,rfl⟩:=rx
  cases y with
  | bM=>cases ry; exact PySem.EqNone.eq_str_none (bK I q (by simp))
  | bl j=>cases ry; exact PySem.EqMixed.eq_str_bool (bK I q (by simp))
  | int j=>obtain⟨t',rfl⟩:=ry; exact PySem.EqMixed.eq_str_int (bK I q (by simp))
  | str j=>obtain⟨t',rfl⟩:=ry; exact eq_str (bK I q Ej)
  | _=>exact absurd (show false=true from hs) Bool.false_ne_true
 | GO i=>
  obtain⟨t,rfl⟩:=rx
  cases y with
  | GO j=>obtain⟨t',rfl⟩:=ry; exact PySem.W.eq_bytes (bK I q Ek)
  | _=>exact absurd (show false=true from hs) Bool.false_ne_true
 | _=>cases y <;> exact absurd (show false=true from hs) Bool.false_ne_true
theorem jg:kX X (compareOp .NotEq) rNe:=by
 intro pins s σ H x y v u Q I rx ry h;obtain⟨hs,q⟩:=h
 cases x with
 | bM=>
  cases rx
  cases y with
  | bM=>cases ry; exact PySem.EqNone.ne_none_none (bK I q (by simp))
  | bl j=>cases ry; exact PySem.EqNone.ne_none_bool (bK I q (by simp))
  | int j=>obtain⟨t',rfl⟩:=ry; exact PySem.EqNone.ne_none_int (bK I q (by simp))
  | str j=>obtain⟨t',rfl⟩:=ry; exact PySem.EqNone.ne_none_str (bK I q (by simp))
  | _=>exact absurd (show false=true from hs) Bool.false_ne_true
 | bl i=>
  cases rx
  cases y with
  | bM=>cases ry; exact PySem.EqNone.ne_bool_none (bK I q (by simp))
  | bl j=>cases ry; exact ne_bool (bK I q (congrArg not G5))
  | str j=>obtain⟨t',rfl⟩:=ry; exact PySem.EqMixed.ne_bool_str (bK I q (by simp))
  | _=>exact absurd (show false=true from hs) Bool.false_ne_true
 | int i=>
  obtain⟨t,rfl⟩:=rx
  cases y with
  | bM=>cases ry; exact PySem.EqNone.ne_int_none (bK I q (by simp))
  | int j=>obtain⟨t',rfl⟩:=ry; exact ne_int (bK I q (congrArg not Ei))
  | str j=>obtain⟨t',rfl⟩:=ry; exact PySem.EqMixed.ne_int_str (bK I q (by simp))
  | _=>exact absurd (show false=true from hs) Bool.false_ne_true
 | str i=>
  obtain⟨t,rfl⟩:=rx
  cases y with
  | bM=>cases ry; exact PySem.EqNone.ne_str_none (bK I q (by simp))
  | bl j=>cases ry; exact PySem.EqMixed.ne_str_bool (bK I q (by simp))
  | int j=>obtain⟨t',rfl⟩:=ry; exact PySem.EqMixed.ne_str_int (bK I q (by simp))
  | str j=>obtain⟨t',rfl⟩:=ry; exact ne_str (bK I q (congrArg not Ej))
  | _=>exact absurd (show false=true from hs) Bool.false_ne_true
 | GO i=>
  obtain⟨t,rfl⟩:=rx
  cases y with
  | GO j=>obtain⟨t',rfl⟩:=ry; exact PySem.W.ne_bytes (bK I q (congrArg not Ek))
  | _=>exact absurd (show false=true from hs) Bool.false_ne_true
 | _=>cases y <;> exact absurd (show false=true from hs) Bool.false_ne_true
theorem G6:kX X (compareOp .Lt) (Sf λi j=>.bl (decide (i < j))):=Sh λ_ _ _ _ _ _ _ q=>lt_int q
theorem WS:kX X (compareOp .LtE) (Sf λi j=>.bl (decide (i<=j))):=Sh λ_ _ _ _ _ _ _ q=>le_int q
theorem G7:kX X (compareOp .GtE) (Sf λi j=>.bl (decide (j<=i))):=Sh λ_ _ _ _ _ _ _ q=>ge_int q
theorem mz:kX X (compareOp .Is) (λx y H Q=>y=.bM/\Q (.bl (decide (x=.bM))) H):=by
 intro pins s σ H x y v u Q I rx ry h;obtain⟨rfl,q⟩:=h;cases ry;refine is_none_gen (bK I q ?_)
 cases x <;> first
  | (cases rx; rfl)
  | (obtain⟨t,rfl⟩:=rx; rfl)
theorem oJ:kX X (compareOp .IsNot) (λx y H Q=>y=.bM/\Q (.bl (!decide (x=.bM))) H):=by
 intro pins s σ H x y v u Q I rx ry h;obtain⟨rfl,q⟩:=h;cases ry;refine isnot_none_gen (bK I q ?_)
 cases x <;> first
  | (cases rx; rfl)
  | (obtain⟨t,rfl⟩:=rx; rfl)
theorem aH (b:Expr) {op:CmpOp}(h:op≠.In:=by decide) (h2:op≠.NotIn:=by decide):behindInMarks op b=false:=by
 have e1:(op == CmpOp.In)=false:=by cases op <;> first | rfl | exact absurd rfl h
 have e2:(op == CmpOp.NotIn)=false:=by cases op <;> first | rfl | exact absurd rfl h2
 cases b <;> simp [behindInMarks,e1,e2]
theorem da {op:CmpOp}{r:R2}(ho:kX X (compareOp op) r) (ha:PE X a ta) (hb:PE X b tb) (hm:behindInMarks op b=false):PE X (.Compare a [op] [b] pos) (Wh r ta tb):=by
 intro pins s σ H Q I h;exact wpAny_Compare1 (Sg ha hb I h λv u s2 x y H2 I2 rx ry q=>ho pins s2 σ H2 x y v u Q I2 rx ry q) hm
noncomputable def N_ (t:TE):TT:=λσ H Q=>t σ H λx H'=>∃k,x=.bl k/\Q k H'
theorem aD {op:CmpOp}{r:R2}(ho:kX X (compareOp op) r) (ha:PE X a ta) (hb:PE X b tb) (hm:behindInMarks op b=false):PT X (.Compare a [op] [b] pos) (N_ (Wh r ta tb)):=by
 intro pins s σ H Q I h;refine wpAny_isTrue_Compare1 (cg (ha pins s σ H _ I h) λv s1 ⟨x,H1,I1,r1,q1⟩=>cg (hb pins s1 σ H1 _ I1 q1) λu s2 ⟨y,H2,I2,r2,q2⟩=>
  cg (ho pins s2 σ H2 x y v u _ I2 r1 r2 q2) λc s3 ⟨z,H3,I3,r3,k,e,q3⟩=>?_) hm
 subst e;cases r3;exact wpAny_truthy_bool ⟨H3,I3,q3⟩
noncomputable def G8 (r r':R2) (ta tb tc:TE):TE:=λσ H Q=>ta σ H λx H1=>tb σ H1 λy H2=>r x y H2 λz H3=>∃k,z=.bl k /\
 (if k=true then tc σ H3 λw' H4=>r' y w' H4 Q else Q (.bl false) H3)
theorem G9 {op op':CmpOp}{r r':R2}(ho:kX X (compareOp op) r) (BB:kX X (compareOp op') r') (ha:PE X a ta) (hb:PE X b tb) (hc:PE X c tc)
  (hm:lastMarks [op,op'] [b,c]=false:=by with_unfolding_all rfl):PE X (.Compare a [op,op'] [b,c] pos) (G8 r r' ta tb tc):=by
 intro pins s σ H Q I h;refine Compare_chain (cg (ha pins s σ H _ I h) λv s1 ⟨x,H1,I1,r1,q1⟩=>chain_link (cg (hb pins s1 σ H1 _ I1 q1) λu s2 ⟨y,H2,I2,r2,q2⟩=>
  cg (ho pins s2 σ H2 x y v u _ I2 r1 r2 q2) λd s3 ⟨z,H3,I3,r3,k,e,q3⟩=>?_)) hm
 subst e;cases r3;refine wpAny_truthy_bool ?_
 cases k with
 | false=>exact ite_ff ⟨.bl false,H3,I3,rfl,q3⟩
 | true=>exact ite_tt (chain_last (cg (hc pins s3 σ H3 _ I3 q3) λw' s4 ⟨z',H4,I4,r4,q4⟩=>BB pins s4 σ H4 y z' u w' Q I4 r2 r4 q4))
theorem uG:(sizeLine:Nat) < 2 ^ 63:=by rw [sizeLine_eq]; decide
theorem vals1 {x:V}{us:List Value}(r:Vals [x] us):∃u,us=[u]/\RelV x u:=by
 cases r with
 | cons r1 r2=>cases r2; exact⟨_,rfl,r1⟩
theorem vals2 {x y:V}{us:List Value}(r:Vals [x,y] us):∃u w',us=[u,w']/\RelV x u/\RelV y w':=by
 cases r with
 | cons r1 r2=>
  cases r2 with
  | cons r3 r4=>cases r4; exact⟨_,_,rfl,r1,r3⟩
theorem oX:eX X (.builtin "abs") (λxs H Q=>∃i,xs=[.int i]/\Q (.int (if i < 0 then -i else i)) H):=by
 intro pins s σ H xs us Q I r h;obtain⟨i,rfl,q⟩:=h;obtain⟨u,rfl,t,rfl⟩:=vals1 r;exact call_abs_int λu tk=>⟨.int (if i < 0 then -i else i),H,I.tok _,⟨_,rfl⟩,q⟩
theorem sN:eX X (.type "int") (λxs H Q=>(∃i,xs=[.int i]/\Q (.int i) H)\/∃k,xs=[.bl k]/\Q (.int (if k then 1 else 0)) H):=by
 intro pins s σ H xs us Q I r h;rcases h with ⟨i,rfl,q⟩ | ⟨k,rfl,q⟩
 ·obtain⟨u,rfl,t,rfl⟩:=vals1 r;exact call_int_int ⟨.int i,H,I,⟨_,rfl⟩,q⟩
 ·obtain⟨u,rfl,r1⟩:=vals1 r;cases r1;exact call_int_bool ⟨.int (if k then 1 else 0),H,I.tok _,⟨_,rfl⟩,q⟩
end
structure BS (h:Heap) (x dx C:Addr) (mA:Str->Option Value):Prop where
 obj:h.get? x=some (PySem.W.instObj C dx)
 ns:h.Ns1 dx mA
 ne:dx≠x
theorem Fx {h:Heap}{dx:Addr}{mA:Str->Option Value}(n:h.Ns1 dx mA):∃od,h.get? dx=some od/\∀name,PySem.W.lookIn name od=some (mA name):=by
 obtain⟨o,es,ep,ho,hd,hk,_,hm⟩:=n;refine⟨o,ho,λname=>?_⟩;have e:=hm name;unfold nsFind findBy at e;rw [<-Array.find?_toList] at e;unfold PySem.W.lookIn;rw [hd];dsimp only;split
 ·rename_i y q;rw [q] at e;exact congrArg some e
 ·rename_i q;rw [q] at e;have a:es.toList.any (·.refKey)=false:=by
   rw [List.any_eq_false];intro y hy;obtain⟨z,t,w_⟩:=hk y (Array.mem_toList_iff.mp hy);simp [DictEntry.refKey,w_]
  have a':¬es.toList.any (·.refKey)=true:=by rw [a]; exact Bool.false_ne_true
  rw [if_neg a'];exact congrArg some e
theorem BS.look {h:Heap}{x dx C:Addr}{mA:Str->Option Value}(I:BS h x dx C mA):∃od,PySem.W.InstAt h x (PySem.W.instObj C dx) C (some od)/\∀name,PySem.W.lookIn name od=some (mA name):=
 let ⟨od,ho,hl⟩:=Fx I.ns
 ⟨od,⟨I.obj,rfl,rfl,ho⟩,hl⟩
section
variable {prog:Program}{w:World}{A:Around}{E:Value->Shared->Prop}{s:Shared}{K:PySem.W.Frag}{x dx C f:Addr}{mA:Str->Option Value}{name:Str}{v:Value}
theorem get_map {expr:Bool}{Q:Value->Shared->Prop}(X:K.In s.heap) (I:BS s.heap x dx C mA) (hg:PySem.W.plainGet K C name=true) (hh:PySem.W.hasDictIn K C=true)
  (ha:PySem.W.findIn K (.ref C) name=some none) (hv:mA name=some v) (hv':PySem.W.handedIn v=true) (h:Q v {s with toks:=s.toks+1}) :
  wpAny (model prog w) A (getAttr (.ref x) name expr) Q E s:=by
 obtain⟨od,J,hl⟩:=I.look;exact PySem.W.get_value X J (PySem.W.plainGet_of hg).1 (PySem.W.findObj_own hh ha rfl (by rw [hl,hv])) hv' h
theorem G_ {pl:Sem Bool}{Q:Value×List Value->Shared->Prop}(X:K.In s.heap) (I:BS s.heap x dx C mA) (hg:PySem.W.plainGet K C name=true)
  (hf:PySem.W.findIn K (.ref C) name=some (some (.ref f))) (ht:PySem.W.isFn K (.ref f)=true) (hv:mA name=none) (h:Q (.ref f,[.ref x]) s) :
  wpAny (model prog w) A (getMethod (.ref x) name pl) Q E s:=by
 obtain⟨od,J,hl⟩:=I.look;exact PySem.W.method_fn X J (PySem.W.plainGet_of hg).1 (PySem.W.plainGet_of hg).2 hf (beq_iff_eq.mp ht) (by show(PySem.W.lookIn name od).map (·.isSome)=some false; rw [hl,hv]; rfl) h
theorem MJ {ns:List Str}{Q:Unit->Shared->Prop}(X:K.In s.heap) (I:BS s.heap x dx C mA)
  (hs:PySem.W.findIn K (.ref C) "__setattr__"=some (some (.builtin "object.__setattr__"))) (hp:PySem.W.plainOver K C=true) (ht:PySem.W.takerIn K C name=some none) (hh:PySem.W.hasDictIn K C=true)
  (hw:PySem.Within mA ns) (hsz:ns.length<=sizeLine)
  (h:∀h',BS h' x dx C (λy=>if y=name then some v else mA y)->Heap.SameBut dx s.heap h'->Q () {s with heap:=h',toks:=s.toks+2}) :
  wpAny (model prog w) A (setAttr (.ref x) name v) Q E s:=by
 obtain⟨od,J,hl⟩:=I.look;refine PySem.W.set_plain X J hs (PySem.W.osa_open (s:={s with toks:=s.toks+1}) (r:=none) X J hp ht λb=>?_);obtain⟨cd,hc,Fq⟩:=PySem.W.any_some hh;have hx:s.heap.get? x=some ⟨.ref C,some dx,.plain,#[]⟩:=I.obj;refine wpAny_bind (wpAny_pure (wpAny_bind (wpAny_bind (wpAny_loadPart hx (wpAny_bind (PySem.W.Looks.here (s:={s with toks:=s.toks+1}) (PySem.W.looks_clsIn X hc) ?_))))));rw [Fq];refine wpAny_pure (a:=some dx) (wpAny_bind (wpAny_pure (wpAny_bind ?_)));refine wpAny_nsSet1 (s:={s with toks:=s.toks+1}) I.ns λh' hn2 WT=>?_
 obtain⟨oD,esD,epD,hoD,hdD,hcD⟩:=hn2.count (PySem.Within.cons name v hw);refine wpAny_bind (wpAny_lookBehind hoD (by rw [hdD]; exact pastItsLine_dict (Nat.le_trans hcD (by rw [List.length_cons]; omega))) ?_);exact wpAny_pure (h _ ⟨(WT.2 _ (Ne.symm I.ne)).trans I.obj,hn2,I.ne⟩ WT)
theorem Ha {R:Result->Shared->Prop}{vs:List Value}{kw:List (Str×Value)}(X:K.In s.heap) (hm:PySem.W.makesIn K C=true)
  (hi:PySem.W.findIn K (.ref C) "__init__"=some (some (.ref f))) (hf:PySem.W.typeIn K (.ref f)=some (.type "function"))
  (h:codeAny (model prog w) (A.under (.builtin "type.__call__" ⟨.ref C::vs,kw⟩)) (.call (.ref f) ⟨.ref (s.heap.objs.size+1)::vs,kw⟩) (PySem.W.InitBack (s.heap.objs.size+1) R)
   {s with heap:=(s.heap.push PySem.W.emptyDict).push (PySem.W.instObj C s.heap.objs.size)}) :
  codeAny (model prog w) A (.call (.ref C) ⟨vs,kw⟩) R s:=by
 obtain⟨hh,g,d,t,os⟩:=s;exact PySem.W.make_core (PySem.W.makes_of X hm) (PySem.W.looks_findIn X hi) (λself=>PySem.W.bind_fn X self hf) (.inl rfl) h
end
noncomputable def bV (f:Str) (v:V):List (Str×V)->List (Str×V)
 | []=>[(f,v)]
 | (g,x)::r=>if g=f then(g,v)::r else(g,x)::bV f v r
theorem aK (f g:Str) (v:V):∀fs:List (Str×V),(bV f v fs).lookup g=if g=f then some v else fs.lookup g
 | []=>by
  show List.lookup g [(f,v)]=_
  by_cases h:g=f
  ·have hb:(g == f)=true:=beq_iff_eq.mpr h;simp only [List.lookup,hb,if_pos h]
  ·have hb:(g == f)=false:=beq_eq_false_iff_ne.mpr h;simp only [List.lookup,hb,if_neg h]
 | (k,x)::r=>by
  have ih:=aK f g v r;rw [show bV f v ((k,x)::r)=(if k=f then(k,v)::r else(k,x)::bV f v r) from rfl]
  by_cases hk:k=f
  ·rw [if_pos hk]
   by_cases h:g=k
   ·have hb:(g == k)=true:=beq_iff_eq.mpr h;simp only [List.lookup,hb,if_pos (h.trans hk)]
   ·have hb:(g == k)=false:=beq_eq_false_iff_ne.mpr h;simp only [List.lookup,hb,if_neg (λe:g=f=>h (e.trans hk.symm))]
  ·rw [if_neg hk]
   by_cases h:g=k
   ·have hb:(g == k)=true:=beq_iff_eq.mpr h;simp only [List.lookup,hb,if_neg (λe:g=f=>hk (h.symm.trans e))]
   ·have hb:(g == k)=false:=beq_eq_false_iff_ne.mpr h;simp only [List.lookup,hb];exact ih
theorem mB (f:Str) (v:V):∀fs:List (Str×V),f∈(bV f v fs).map (·.1)/\∀g,g∈fs.map (·.1)->g∈(bV f v fs).map (·.1)
 | []=>⟨by simp [bV],λg h=>by simp at h⟩
 | (k,x)::r=>by
  obtain⟨i1,i2⟩:=mB f v r;rw [show bV f v ((k,x)::r)=(if k=f then(k,v)::r else(k,x)::bV f v r) from rfl]
  by_cases hk:k=f
  ·rw [if_pos hk];subst hk;exact⟨by simp,λg h=>by simpa using h⟩
  ·rw [if_neg hk];refine⟨?_,λg h=>?_⟩
   ·rw [List.map_cons];exact List.mem_cons_of_mem _ i1
   ·rw [List.map_cons] at h ⊢;rcases List.mem_cons.mp h with e | e
    ·exact List.mem_cons.mpr (.inl e)
    ·exact List.mem_cons_of_mem _ (i2 g e)
theorem bO (f:Str) (v:V):∀fs:List (Str×V),(bV f v fs).length<=fs.length+1
 | []=>by simp [bV]
 | (k,x)::r=>by
  have ih:=bO f v r;rw [show bV f v ((k,x)::r)=(if k=f then(k,v)::r else(k,x)::bV f v r) from rfl]
  by_cases hk:k=f
  ·rw [if_pos hk,List.length_cons,List.length_cons]; omega
  ·rw [if_neg hk,List.length_cons,List.length_cons]; omega
theorem g_.some_of {v:V}{o:Option Value}(r:g_ (some v) o):∃u,o=some u/\RelV v u:=by
 cases o with
 | none=>exact(show False from r).elim
 | some u=>exact⟨u,rfl,r⟩
theorem g_.none_of {o:Option Value}(r:g_ none o):o=none:=by
 cases o with
 | none=>rfl
 | some u=>exact(show False from r).elim
theorem Fy {v:V}{u:Value}(r:RelV v u):PySem.W.handedIn u=true:=by
 cases v with
 | bM=>cases (show u=Value.none from r); rfl
 | bl b=>cases (show u=Value.bool b from r); rfl
 | int i=>obtain⟨t,e⟩:=(show ∃t,u=Value.int i t from r); cases e; rfl
 | str x=>obtain⟨t,e⟩:=(show ∃t,u=Value.str x t from r); cases e; rfl
 | GO b=>obtain⟨t,e⟩:=(show ∃t,u=Value.bytes b t from r); cases e; rfl
 | RT b=>obtain⟨t,e⟩:=(show ∃t,u=Value.float b t from r); cases e; rfl
 | ref a=>cases (show u=Value.ref a from r); rfl
 | ty n=>cases (show u=Value.type n from r); rfl
section
variable {P:Program}{w:World}{H H':Hp}{h h':Heap}{a C dx:Addr}{fs fs':List (Str×V)}
theorem oK (bR:kq P w H h) (e:H a=some (.ins C dx fs)):∃mA,BS h a dx C mA/\(∀f,g_ (fs.lookup f) (mA f))/\PySem.Within mA (fs.map (·.1))/\fs.length<=1000/\H dx=some (.own a):=by
 obtain⟨d,z,ne,ob,mA,n,r,q⟩:=(show cJ P w H h a (.ins C dx fs) from bR a _ e)
 exact⟨mA,⟨ob,n,ne⟩,r,q,z,d⟩
end
structure rS (K:PySem.W.Frag) (C:Addr):Prop where
 pg:PySem.W.plainGet K C Str.empty=true
 hd:PySem.W.hasDictIn K C=true
 po:PySem.W.plainOver K C=true
 sa:PySem.W.findIn K (.ref C) "__setattr__"=some (some (.builtin "object.__setattr__"))
theorem rS.get {K:PySem.W.Frag}{C:Addr}(c:rS K C) (f:Str):PySem.W.plainGet K C f=true:=c.pg
noncomputable def cC (K:PySem.W.Frag) (C:Addr) (f:Str):Prop:=PySem.W.findIn K (.ref C) f=some none
theorem cC.WU {K:PySem.W.Frag}{C:Addr}{f:Str}(n:cC K C f):PySem.W.takerIn K C f=some none:=by
 unfold PySem.W.takerIn;rw [show PySem.W.findIn K (.ref C) f=some none from n];rfl
structure Meth (K:PySem.W.Frag) (C:Addr) (m:Str) (f:Addr):Prop where
 at_:PySem.W.findIn K (.ref C) m=some (some (.ref f))
 fn:PySem.W.isFn K (.ref f)=true
 kp:PySem.W.keepIn K (.ref f)=true
section
variable {X:Cx}{pins:List (Addr×Obj)}{σ:St}{H:Hp}{s:Shared}{a C dx:Addr}{fs:List (Str×V)}{f:Str}{v:V}{A:Around}{E:Value->Shared->Prop}
theorem BU {b:Bool}{Q:Value->Shared->Prop}(I:Inv X pins σ H s) (e:H a=some (.ins C dx fs)) (c:rS X.K C) (n:cC X.K C f) (l:fs.lookup f=some v)
  (h:∀u s',Inv X pins σ H s'->RelV v u->Q u s'):wpAny (model X.prog X.w) A (getAttr (.ref a) f b) Q E s:=by
 obtain⟨mA,O,r,_,_,_⟩:=oK I.bR e;obtain⟨u,hu,ru⟩:=g_.some_of (v:=v) (o:=mA f) (by rw [<-l]; exact r f);exact get_map I.iy O (c.get f) c.hd n hu (Fy ru) (h u _ (I.tok _) ru)
theorem iC {m:Str}{g:Addr}{pl:Sem Bool}{Q:Value×List Value->Shared->Prop}(I:Inv X pins σ H s) (e:H a=some (.ins C dx fs)) (c:rS X.K C) (k:Meth X.K C m g) (l:fs.lookup m=none)
  (h:Q (.ref g,[.ref a]) s):wpAny (model X.prog X.w) A (getMethod (.ref a) m pl) Q E s:=by
 obtain⟨mA,O,r,_,_,_⟩:=oK I.bR e;have hn:mA m=none:=g_.none_of (by rw [<-l]; exact r m);exact G_ I.iy O (c.get m) k.at_ k.fn hn h
theorem BV {y:V}{u:Value}{Q:Unit->Shared->Prop}(I:Inv X pins σ H s) (e:H a=some (.ins C dx fs)) (c:rS X.K C) (n:cC X.K C f) (hl:fs.length < 1000) (ry:RelV y u)
  (h:∀s',Inv X pins σ (upd H a (.ins C dx (bV f y fs))) s'->Q () s'):wpAny (model X.prog X.w) A (setAttr (.ref a) f u) Q E s:=by
 obtain⟨mA,O,r,wi,_,ho⟩:=oK I.bR e;have hz:(fs.map (·.1)).length<=sizeLine:=by rw [List.length_map,sizeLine_eq]; omega
 refine MJ I.iy O c.sa c.po n.WU c.hd wi hz λh' O' sb=>h _ ?_
 have hd:∃o,h'.get? dx=some o:=let ⟨o,_,_,e',_⟩:=O'.ns; ⟨o,e'⟩
 refine I.write (x:=a) (e:=dx) (by rw [e]; exact True.intro) (.inr ho) (λb q hb z=>(sb.2 b hb).trans z) hd ?_;refine⟨by rw [au O.ne]; exact ho,?_,O.ne,O'.obj,_,O'.ns,λg=>?_,λg hg=>?_⟩
 ·have:=bO f y fs; omega
 ·show g_ ((bV f y fs).lookup g) (if g=f then some u else mA g);rw [aK]
  by_cases q:g=f
  ·rw [if_pos q,if_pos q]; exact ry
  ·rw [if_neg q,if_neg q]; exact r g
 ·by_cases q:g=f
  ·rw [q]; exact(mB f y fs).1
  ·refine(mB f y fs).2 g (wi g λz=>hg ?_);show(if g=f then some u else mA g)=none;rw [if_neg q]; exact z
theorem Inv.made (I:Inv X pins σ H s):Inv X pins σ (upd (upd H s.heap.objs.size (.own (s.heap.objs.size+1))) (s.heap.objs.size+1) (.ins C s.heap.objs.size []))
  {s with heap:=(s.heap.push PySem.W.emptyDict).push (PySem.W.instObj C s.heap.objs.size)}:=by
 have e1:(s.heap.push PySem.W.emptyDict).get? s.heap.objs.size=some PySem.W.emptyDict:=Heap.get?_push_size s.heap rfl;have e2:((s.heap.push PySem.W.emptyDict).push (PySem.W.instObj C s.heap.objs.size)).get? (s.heap.objs.size+1)=some (PySem.W.instObj C s.heap.objs.size):=by
  have:=Heap.get?_push_size (s.heap.push PySem.W.emptyDict) (o:=PySem.W.instObj C s.heap.objs.size) rfl
  rwa [Heap.size_push] at this
 have e3:(s.heap.push PySem.W.emptyDict).Ns s.heap.objs.size (λ_=>none):=⟨PySem.W.emptyDict,#[],_,e1,rfl,(λe he=>absurd he (by simp)),λ_=>rfl⟩
 have I1:=I.laid (a:=s.heap.objs.size) (o:=.own (s.heap.objs.size+1)) (h':=s.heap.push PySem.W.emptyDict) (t':=s.toks) (λb u q=>Heap.get?_push_of_some _ q) (Nat.le_refl _) ⟨_,e1⟩;refine I1.laid (a:=s.heap.objs.size+1) (o:=.ins C s.heap.objs.size []) (t':=s.toks) (λb u q=>Heap.get?_push_of_some _ q) (Nat.le_of_eq (Heap.size_push _ _)) ?_;have ne:s.heap.objs.size≠s.heap.objs.size+1:=Nat.ne_of_lt (Nat.lt_succ_self _);refine⟨by rw [au ne,ae],Nat.zero_le _,ne,e2,λ_=>none,(Heap.Ns1.of_empty e3).at λo q=>Heap.get?_push_of_some _ q,λ_=>True.intro,λy hy=>absurd rfl hy⟩
theorem MK {prog:Program}{w:World}{env:Env}{e:Expr}{f:Str}{pos:Pos}{s:Shared}{Q:Value->Shared->Prop}(hb:attributeBase e f env (eval e env)=eval e env)
  (h:wpAny (model prog w) A (eval e env) (λo s₁=>wpAny (model prog w) A (getAttr o f true) Q E s₁) E s):wpAny (model prog w) A (eval (.Attribute e f pos) env) Q E s:=
 Attribute_any_ h (by rw [arm_eval_Attribute,hb])
end
noncomputable def WV (K:PySem.W.Frag) (ta:TE) (f:Str):TE:=λσ H Q=>ta σ H λx H1=>∃a C dx fs v,x=.ref a/\H1 a=some (.ins C dx fs)/\rS K C/\cC K C f/\fs.lookup f=some v/\Q v H1
noncomputable def WW (K:PySem.W.Frag) (ta tv:TE) (f:Str):TS:=λD σ H=>tv σ H λy H1=>ta σ H1 λx H2=>∃a C dx fs,x=.ref a/\H2 a=some (.ins C dx fs)/\rS K C/\cC K C f/\fs.length < 1000 /\
 D.nx σ (upd H2 a (.ins C dx (bV f y fs)))
section
variable {X:Cx}{o e value:Expr}{f:Str}{pos pos' aaz:Pos}{ta tv:TE}
theorem b_ (he:PE X e ta) (hb:attributeBase e f X.env (eval e X.env)=eval e X.env):PE X (.Attribute e f pos) (WV X.K ta f):=by
 intro pins s σ H Q I h;refine MK hb (cg (he pins s σ H _ I h) λu s1 ⟨x,H1,I1,rx,a,C,dx,fs,v,ex,ea,c,n,l,q⟩=>?_);subst ex;obtain rfl:u=Value.ref a:=rx;exact BU I1 ea c n l λu' s2 I2 ru=>⟨v,H1,I2,ru,q⟩
theorem gQ (ha:PE X o ta) (hv:PE X value tv) (hs:swapsWith value (some (.Attribute o f pos')) pos.line X.env=pure false):PS X (.Assign [.Attribute o f pos'] value pos) (WW X.K ta tv f):=by
 intro pins s σ H D I h;refine plainObj_wpAny_Assign_Attribute (cg (hv pins s σ H _ I h) λu s1 ⟨y,H1,I1,ry,q⟩=>cg (ha pins s1 σ H1 _ I1 q) λov s2 ⟨x,H2,I2,rx,a,C,dx,fs,ex,ea,c,n,l,q2⟩=>?_) hs;subst ex;obtain rfl:ov=Value.ref a:=rx;exact BV I2 ea c n l ry λs3 I3=>⟨σ,_,I3,q2⟩
theorem Oa {pl:Sem Bool}{m:Str}{apos:Pos}{args:List Expr}{pins:List (Addr×Obj)}{s:Shared}{σ:St}{H:Hp}{Q:Value->Shared->Prop}{te:TE}(he:PE X e te) (I:Inv X pins σ H s)
  (h:te σ H λx H1=>∃a C dx fs g,x=.ref a/\H1 a=some (.ins C dx fs)/\rS X.K C/\Meth X.K C m g/\fs.lookup m=none /\
   ∀s1,Inv X pins σ H1 s1->wpAny (model X.prog X.w) X.A (callWith pos (.ref g) [.ref a] (backTo pos (starEach args X.env)) (backToKw pos (keywordEach [] X.env))) Q X.xe s1)
  (ht:eval (.Call (.Attribute e m apos) args [] pos) X.env=(do
   let ov <-eval e X.env
   standAt apos.atName
   let (f,first) <-holding [ov] (getMethod ov m pl)
   callWith pos f first (backTo pos (starEach args X.env)) (backToKw pos (keywordEach [] X.env)))) :
  wpAny (model X.prog X.w) X.A (eval (.Call (.Attribute e m apos) args [] pos) X.env) Q X.xe s:=by
 refine PySem.W.methodCall_KW (pl:=pl) (cg (he pins s σ H _ I h) λu s1 ⟨x,H1,I1,rx,a,C,dx,fs,g,ex,ea,c,k,l,q⟩=>?_) ht;subst ex;obtain rfl:u=Value.ref a:=rx;exact iC I1 ea c k l (q s1 I1)
end
section
variable {X:Cx}{pins:List (Addr×Obj)}{σ:St}{H:Hp}{s:Shared}{A:Around}{E:Value->Shared->Prop}{Q:Value->Shared->Prop}{c:Value}{b:Bool}
inductive mC (K:PySem.W.Frag) (H:Hp):V->Value->Prop where
 | bM:mC K H .bM (.type "NoneType")
 | bl (x:Bool):mC K H (.bl x) (.type "bool")
 | int (i:Int):mC K H (.int i) (.type "int")
 | str (x:Str):mC K H (.str x) (.type "str")
 | RT (x:UInt64):mC K H (.RT x) (.type "float")
 | lst {a:Addr}{xs:List V}(e:H a=some (.lst xs)):mC K H (.ref a) (.type "list")
 | iY {a:Addr}{o:Obj}{xs:List V}(e:H a=some (.iY o (.lst xs))):mC K H (.ref a) (.type "list")
 | tup {a:Addr}{xs:List V}(e:H a=some (.tup xs)):mC K H (.ref a) (.type "tuple")
 | dK {a:Addr}{kvs:List (Key×V)}(e:H a=some (.dK kvs)):mC K H (.ref a) (.type "dict")
 | dT {a:Addr}{kvs:List (List Key×V)}(e:H a=some (.dT kvs)):mC K H (.ref a) (.type "dict")
 | ins {a C dx:Addr}{fs:List (Str×V)}(e:H a=some (.ins C dx fs)) (cl:rS K C) (ha:PySem.W.findIn K (.ref C) "__class__"=some (some (.builtin "object.__class__")))
   (hn:PySem.W.specialIn K (.builtin "object.__class__") "__get__"=some (some (.builtin "getset_descriptor.__get__"))) (Sl:PySem.W.takesIn K (.builtin "object.__class__")=some true)
   (hm:PySem.W.mroIn K C (.type "object")=some true):mC K H (.ref a) (.ref C)
theorem Fz {x:V}{u t:Value}(I:Inv X pins σ H s) (rx:RelV x u) (ty:mC X.K H x t) (e:PySem.W.kitOne X.K t c=some b) (h:∀tk,Q (.bool b) {s with toks:=tk}) :
  wpAny (model X.prog X.w) A (call (.builtin "isinstance") [u,c]) Q E s:=by
 cases ty with
 | bM=>cases (show u=Value.none from rx); exact PySem.W.kia_one PySem.W.kitx_none I.iy True.intro e (λz=>nomatch z) h
 | bl y=>cases (show u=Value.bool y from rx); exact PySem.W.kia_one PySem.W.kitx_bool I.iy True.intro e (λz=>nomatch z) h
 | int i=>obtain⟨t,q⟩:=(show ∃t,u=Value.int i t from rx); cases q; exact PySem.W.kia_one PySem.W.kitx_int I.iy True.intro e (λz=>nomatch z) h
 | str y=>obtain⟨t,q⟩:=(show ∃t,u=Value.str y t from rx); cases q; exact PySem.W.kia_one PySem.W.kitx_str I.iy True.intro e (λz=>nomatch z) h
 | RT y=>obtain⟨t,q⟩:=(show ∃t,u=Value.float y t from rx); cases q; exact PySem.W.kia_one PySem.W.kitx_float I.iy True.intro e (λz=>nomatch z) h
 | @lst a xs ea=>
  cases (show u=Value.ref a from rx);obtain⟨_,_,n,_,h1⟩:=(show cJ X.prog X.w H s.heap a (.lst xs) from I.bR a _ ea)
  exact PySem.W.kia_one PySem.W.kitx_list I.iy ⟨_,h1,rfl⟩ e (λz=>nomatch z) h
 | @iY a ob xs ea=>
  cases (show u=Value.ref a from rx);obtain⟨_,_,_,n,_,h1⟩:=(show cJ X.prog X.w H s.heap a (.iY ob (.lst xs)) from I.bR a _ ea)
  exact PySem.W.kia_one PySem.W.kitx_list I.iy ⟨_,h1,rfl⟩ e (λz=>nomatch z) h
 | @tup a xs ea=>
  cases (show u=Value.ref a from rx);obtain⟨_,_,_,p⟩:=(show cJ X.prog X.w H s.heap a (.tup xs) from I.bR a _ ea)
  obtain⟨o,h1,h2,_⟩:=p;exact PySem.W.kia_one PySem.W.kitx_tuple I.iy ⟨o,h1,h2⟩ e (λz=>nomatch z) h
 | @dK a kvs ea=>
  cases (show u=Value.ref a from rx);obtain⟨_,_,vs,_,p⟩:=(show cJ X.prog X.w H s.heap a (.dK kvs) from I.bR a _ ea)
  obtain⟨o,es,ep,h1,h2,_⟩:=p;exact PySem.W.kia_one PySem.W.kitx_dict I.iy ⟨o,h1,h2.1⟩ e (λz=>nomatch z) h
 | @dT a kvs ea=>
  cases (show u=Value.ref a from rx);obtain⟨_,_,xs,_,o,es,ep,h1,h2,_⟩:=(show cJ X.prog X.w H s.heap a (.dT kvs) from I.bR a _ ea)
  exact PySem.W.kia_one PySem.W.kitx_dict I.iy ⟨o,h1,h2.1⟩ e (λz=>nomatch z) h
 | @ins a C dx fs ea cl ha hn Sl hm=>
  cases (show u=Value.ref a from rx);obtain⟨mA,O,_⟩:=oK I.bR ea;obtain⟨od,J,_⟩:=O.look;exact PySem.W.kia_one (PySem.W.kitx_own (cl.get _) cl.hd ha hn Sl hm) I.iy J e (λz=>nomatch z) h
end
structure eY (k:Nat) (A:Around):Prop where
 hd:A.handled=none
 dp:A.depth+3*k+5 < recursionLimit
 un:A.units+16*k+200 < cLine
theorem eY.mono {j k:Nat}{A:Around}(r:eY k A) (h:j<=k):eY j A:=⟨r.hd,by have:=r.dp; omega,by have:=r.un; omega⟩
theorem eY.deeper {k:Nat}{A:Around}(r:eY (k+1) A) (env:Env):eY k (A.deeper env):=
 ⟨r.hd,by have:=r.dp; show A.depth+1+3*k+5 < _; omega,by have:=r.un; show A.units+3+16*k+200 < _; omega⟩
theorem BW {A:Around}{C:Addr}{us:List Value}{kw:List (Str×Value)}:(A.under (.builtin "type.__call__" ⟨.ref C::us,kw⟩)).depth=A.depth+1:=by
 first | rfl | simp [Around.under,Code.weight,Code.isCreation,Code.isGuard,Code.isCaller,Code.frames,Code.isFrame,guardIds]
theorem BX {A:Around}{C:Addr}{us:List Value}{kw:List (Str×Value)}:(A.under (.builtin "type.__call__" ⟨.ref C::us,kw⟩)).units=A.units+1:=by
 first | rfl | simp [Around.under,Code.cUnits,Code.frames,Code.isFrame]
theorem eY.make {k:Nat}{A:Around}(r:eY (k+1) A) (C:Addr) (us:List Value) (kw:List (Str×Value)):eY k (A.under (.builtin "type.__call__" ⟨.ref C::us,kw⟩)):=
 ⟨r.hd,by have:=r.dp; rw [BW]; omega,by have:=r.un; rw [BX]; omega⟩
theorem eY.depth {k:Nat}{A:Around}(r:eY k A):A.depth < recursionLimit:=by have:=r.dp; omega
theorem eY.units {k:Nat}{A:Around}(r:eY k A):A.units+64 < cLine:=by have:=r.un; omega
noncomputable def BY:TA:=λ_ H Q=>Q [] H
noncomputable def sO (ta:TE) (tr:TA):TA:=λσ H Q=>ta σ H λx H1=>tr σ H1 λxs H2=>Q (x::xs) H2
section
variable {X:Cx}{e:Expr}{es:List Expr}{te:TE}{t:TA}{pos:Pos}
theorem af:PA X [] BY:=λ_ _ _ _ H Q I h=>Calls.spliced_nil ⟨[],H,I,.nil,h⟩
theorem aa (ha:PE X e te) (hr:PA X es t) (hs:starEach (e::es) X.env=(false,eval e X.env)::starEach es X.env:=by rfl):PA X (e::es) (sO te t):=by
 intro pos pins s σ H Q I h;rw [hs];show wpAny _ _ (spliced ((false,eval e X.env)::backTo pos (starEach es X.env))) _ _ s;refine Calls.spliced_cons (cg (ha pins s σ H _ I h) λu s1 ⟨x,H1,I1,r1,q1⟩=>?_);exact cg (hr pos pins s1 σ H1 _ I1 q1) λus s2 ⟨xs,H2,I2,r2,q2⟩=>⟨x::xs,H2,I2,.cons r1 r2,q2⟩
noncomputable def Sn (t:TA):TE:=λσ H Q=>t σ H λxs H1=>xs.length<=sizeLine/\∀p,H1 p=none->Q (.ref p) (upd H1 p (.tup xs))
noncomputable def WX (t:TA):TE:=λσ H Q=>t σ H λxs H1=>xs.length<=sizeLine/\∀p,H1 p=none->Q (.ref p) (upd H1 p (.lst xs))
theorem bp {x1} (h:PA X es t):PE X (.Tuple es x1 pos) (Sn t):=by
 intro pins s σ H Q I hq;refine wpAny_Tuple_spliced (cg (h pos pins s σ H _ I hq) λus s1 ⟨xs,H1,I1,r,z,q⟩=>⟨by rw [<-r.length]; exact z,?_⟩);have hf:H1 s1.heap.objs.size=none:=I1.bR.fresh (Nat.le_refl _);refine⟨.ref s1.heap.objs.size,upd H1 s1.heap.objs.size (.tup xs),I1.laid (t':=s1.toks) (λb u e=>Heap.get?_push_of_some _ e) (Nat.le_refl _) ?_,rfl,q _ hf⟩;exact⟨z,us,r,⟨_,Heap.get?_push_size _ rfl,rfl,_,rfl⟩⟩
theorem bE (h:PA X es t):PE X (.List es pos) (WX t):=by
 intro pins s σ H Q I hq;refine wpAny_List_spliced (cg (h pos pins s σ H _ I hq) λus s1 ⟨xs,H1,I1,r,z,q⟩=>⟨by rw [<-r.length]; exact z,?_⟩);have hf:H1 s1.heap.objs.size=none:=I1.bR.fresh (Nat.le_refl _);refine⟨.ref s1.heap.objs.size,upd H1 s1.heap.objs.size (.lst xs),I1.laid (t':=s1.toks) (λb u e=>Heap.get?_push_of_some _ e) (Nat.le_refl _) ?_,rfl,q _ hf⟩;exact⟨z,us,0,r,Heap.get?_push_size _ rfl⟩
end
noncomputable abbrev Sp:=List V->Hp->VK->XK->Prop
noncomputable abbrev uH:=List Env->Hp->Shared->XK->Value->Shared->Prop
structure BZ (P:Program) (w:World) (K:PySem.W.Frag) (mg:Str->Option Value) (base:Heap) (A:Around) (outer:List Env) (s:Shared) (H:Hp):Prop where
 frames:A.frames=some outer
 mod:Mod K mg base
 bs:∀b o,base.get? b=some o->s.heap.get? b=some o/\H b=none
 Fp:base.objs.size<=s.heap.objs.size
 kU:s.heap.FunFrames base outer
 ME:∀b∈GP outer,H b=none
 bR:kq P w H s.heap
 bare:AllBare s.gens
noncomputable def CE (outer:List Env) (P:Program) (w:World) (H:Hp) (s:Shared) (Q:VK) (u:Value) (s':Shared):Prop:=
 ∃v H',s'.os=s.os/\AllBare s'.gens/\Un (GP outer) [] H H' s.heap s'.heap/\kq P w H' s'.heap/\RelV v u/\Q v H'
noncomputable def CR (CX:uH) (outer:List Env) (P:Program) (w:World) (H:Hp) (s:Shared) (Q:VK) (E:XK) (r:Result) (s':Shared):Prop:=
 match r with
 | .ok (.ret u)=>CE outer P w H s Q u s'
 | .ok _=>False
 | .error e=>CX outer H s E e s'
structure aS (P:Program) (w:World) (K:PySem.W.Frag) (mg:Str->Option Value) (base:Heap) (CX:uH) (k:Nat) (f:Addr) (fd:FuncData) (ps:List Str) (sp:Sp):Prop where
 len:∀vs H Q E,sp vs H Q E->vs.length=ps.length
 run:∀(A:Around) (outer:List Env) (s:Shared) (H:Hp) (args:Args) (us:List Value) (vs:List V) (Q:VK) (E:XK),eY k A->BZ P w K mg base A outer s H->BindsTo s fd args (ps.zip us)->Vals vs us->sp vs H Q E ->
  codeAny (model P w) A (.call (.ref f) args) (CR CX outer P w H s Q E) s
theorem BZ.make {P:Program}{w:World}{K:PySem.W.Frag}{mg:Str->Option Value}{base:Heap}{A:Around}{outer:List Env}{s:Shared}{H:Hp}(e:BZ P w K mg base A outer s H) (C:Addr) (us:List Value) (kw:List (Str×Value)) :
  BZ P w K mg base (A.under (.builtin "type.__call__" ⟨.ref C::us,kw⟩)) outer s H:=⟨by first | exact e.frames | (simpa [Around.under,Code.envs,Code.isFrame,pushEnvs] using e.frames),e.mod,e.bs,e.Fp,e.kU,e.ME,e.bR,e.bare⟩
section
variable {X:Cx}{pins:List (Addr×Obj)}{σ:St}{H:Hp}{s s':Shared}
theorem Inv.WY (I:Inv X pins σ H s):BZ X.prog X.w X.K X.mg X.base X.A X.stack s H:=
 ⟨I.ok.frames,I.ok.mod,I.bs,Nat.le_trans I.ok.Fp I.sz,I.stack,I.uA,I.bR,I.bare⟩
theorem Inv.after {Q:VK}{u:Value}(I:Inv X pins σ H s) (h:CE X.stack X.prog X.w H s Q u s'):EP X pins σ Q u s':=by
 obtain⟨v,H',os,bare,un,bR,r,q⟩:=h;obtain⟨hh,g,d,t,os'⟩:=s';obtain rfl:os'=s.os:=os;exact⟨v,H',I.call (h':=hh) (g':=g) (d':=d) (t':=t) (ch:=[]) un bR bare (λb z=>absurd z (by simp)),r,q⟩
end
noncomputable def El (sp:Sp) (hU:List V) (E:XK) (t:TA):TE:=λσ H Q=>t σ H λvs H1=>sp (vs++hU) H1 Q E
noncomputable def Hb (C:Addr) (m:Str) (sp:Sp) (hU:List V) (E:XK) (ta:TE) (t:TA):TE:=λσ H Q=>ta σ H λx H1=>∃a dx fs,x=.ref a/\H1 a=some (.ins C dx fs)/\fs.lookup m=none /\
 t σ H1 λvs H2=>sp (x::(vs++hU)) H2 Q E
noncomputable def Hc (C:Addr) (sp:Sp) (hU:List V) (E:XK) (t:TA):TE:=λσ H Q=>t σ H λvs H1=>∀x dx,H1 x=none->H1 dx=none->dx≠x ->
 sp (.ref x::(vs++hU)) (upd (upd H1 dx (.own x)) x (.ins C dx [])) (λv H2=>v=.bM/\Q (.ref x) H2) E
noncomputable def Binds (K:PySem.W.Frag) (fd:FuncData) (ps:List Str) (ds:List Value):Prop:=
 ∀(s:Shared) (us:List Value),K.In s.heap->(us++ds).length=ps.length->BindsTo s fd ⟨us,[]⟩ (ps.zip (us++ds))
theorem Binds.all {K:PySem.W.Frag}{fd:FuncData}{ps:List Str}(h:∀us:List Value,us.length=ps.length->bindArgs fd ⟨us,[]⟩=pure (ps.zip us)):Binds K fd ps []:=λs us _ hl=>by
 rw [List.append_nil] at hl ⊢;exact .of_eq (h us hl)
noncomputable def Passes (CX:uH) (X:Cx) (E:XK):Prop:=∀(pins:List (Addr×Obj)) (σ:St) (H:Hp) (s:Shared) (e:Value) (s':Shared),Inv X pins σ H s->CX X.stack H s E e s'->X.xe e s'
section
variable {X:Cx}{CX:uH}{k:Nat}{f C:Addr}{fd:FuncData}{ps:List Str}{sp:Sp}{hU:List V}{ds:List Value}{E:XK}{x m:Str}{p pos apos:Pos}{e o:Expr}{es:List Expr}{ta:TE}{t:TA}
theorem mD {pins:List (Addr×Obj)}{σ:St}{H:Hp}{s:Shared}{Q:VK}{us:List Value}{vs:List V}(F:aS X.prog X.w X.K X.mg X.base CX k f fd ps sp) (hr:eY k X.A) (hb:Binds X.K fd ps ds) (hd:Vals hU ds) (hx:Passes CX X E)
  (I:Inv X pins σ H s) (r:Vals vs us) (h:sp (vs++hU) H Q E):wpAny (model X.prog X.w) X.A (call (.ref f) us) (EP X pins σ Q) X.xe s:=by
 have r2:Vals (vs++hU) (us++ds):=r.append hd;have hl:(us++ds).length=ps.length:=by rw [<-r2.length]; exact F.len _ _ _ _ h
 refine wpAny_call (codeAny_mono (F.run X.A X.stack s H ⟨us,[]⟩ (us++ds) (vs++hU) Q E hr I.WY (hb s us I.iy hl) r2 h) λr s' hq=>?_)
 cases r with
 | error e=>exact hx pins σ H s e s' I hq
 | ok fl=>
  cases fl with
  | ret u=>exact I.after hq
  | next=>exact False.elim hq
  | brk=>exact False.elim hq
  | cont=>exact False.elim hq
theorem aE (F:aS X.prog X.w X.K X.mg X.base CX k f fd ps sp) (hr:eY k X.A) (hg:Gl X x) (hm:X.mg x=some (.ref f)) (hk:PySem.W.keepIn X.K (.ref f)=true) (hb:Binds X.K fd ps ds) (hd:Vals hU ds) (hx:Passes CX X E)
  (ha:PA X (e::es) t) (ML:(x == ("__debug__":Str))=false:=by decide) (he:starEach (e::es) X.env=(false,eval e X.env)::starEach es X.env:=by rfl) (xa:(backTo pos (starEach es X.env)).any (·.1)=false:=by rfl) :
  PE X (.Call (.Name x p) (e::es) [] pos) (El sp hU E t):=by
 intro pins s σ H Q I h;refine wpAny_Call_Name_kw (oI I hg hm ?_ ML);refine PySem.W.callWith_K (h₀:=X.base) I.ok.mod.RY hk (cg (ha pos pins s σ H _ I h) λus s1 ⟨vs,H1,I1,r,q⟩=>⟨I1.iy,?_⟩) he xa;exact mD F hr hb hd hx I1 r q
theorem aR {pl:Sem Bool}(he:PE X o ta) (c:rS X.K C) (hm:Meth X.K C m f) (F:aS X.prog X.w X.K X.mg X.base CX k f fd ps sp) (hr:eY k X.A) (hb:Binds X.K fd ps ds) (hd:Vals hU ds) (hx:Passes CX X E) (ha:PA X (e::es) t)
  (GW:starEach (e::es) X.env=(false,eval e X.env)::starEach es X.env:=by rfl) (xa:(backTo pos (starEach es X.env)).any (·.1)=false:=by rfl)
  (ht:eval (.Call (.Attribute o m apos) (e::es) [] pos) X.env=(do
   let ov <-eval o X.env
   standAt apos.atName
   let (f,first) <-holding [ov] (getMethod ov m pl)
   callWith pos f first (backTo pos (starEach (e::es) X.env)) (backToKw pos (keywordEach [] X.env))):=by rfl) :
  PE X (.Call (.Attribute o m apos) (e::es) [] pos) (Hb C m sp hU E ta t):=by
 intro pins s σ H Q I h;refine PySem.W.methodCall_KW (pl:=pl) (cg (he pins s σ H _ I h) λu s1 ⟨x,H1,I1,rx,a,dx,fs,ex,ea,l,q⟩=>?_) ht;subst ex;obtain rfl:u=Value.ref a:=rx;refine iC I1 ea c hm l ?_;refine PySem.W.callWith_K (first:=[.ref a]) (h₀:=X.base) I.ok.mod.RY hm.kp (cg (ha pos pins s1 σ H1 _ I1 q) λus s2 ⟨vs,H2,I2,r,q2⟩=>⟨I2.iy,?_⟩) GW xa;exact mD (us:=.ref a::us) (vs:=.ref a::vs) F hr hb hd hx I2 (.cons rfl r) q2
theorem jh {pl:Sem Bool}(he:PE X o ta) (c:rS X.K C) (hm:Meth X.K C m f) (F:aS X.prog X.w X.K X.mg X.base CX k f fd ps sp) (hr:eY k X.A) (hb:Binds X.K fd ps ds) (hd:Vals hU ds) (hx:Passes CX X E)
  (ht:eval (.Call (.Attribute o m apos) [] [] pos) X.env=(do
   let ov <-eval o X.env
   standAt apos.atName
   let (f,first) <-holding [ov] (getMethod ov m pl)
   callWith pos f first (backTo pos (starEach [] X.env)) (backToKw pos (keywordEach [] X.env))):=by rfl) :
  PE X (.Call (.Attribute o m apos) [] [] pos) (Hb C m sp hU E ta BY):=by
 intro pins s σ H Q I h;refine PySem.W.methodCall_KW (pl:=pl) (cg (he pins s σ H _ I h) λu s1 ⟨x,H1,I1,rx,a,dx,fs,ex,ea,l,q⟩=>?_) ht;subst ex;obtain rfl:u=Value.ref a:=rx;refine iC I1 ea c hm l ?_;exact PySem.W.callWith_K0 (first:=[.ref a]) I1.iy hm.kp (mD (us:=[.ref a]) (vs:=[.ref a]) F hr hb hd hx I1 (.cons rfl .nil) q)
structure Mk (K:PySem.W.Frag) (C f:Addr):Prop where
 makes:PySem.W.makesIn K C=true
 init:PySem.W.findIn K (.ref C) "__init__"=some (some (.ref f))
 fn:PySem.W.isFn K (.ref f)=true
 kp:PySem.W.keepIn K (.ref C)=true
theorem xb {pins:List (Addr×Obj)}{σ:St}{H:Hp}{s:Shared}{Q:VK}{us:List Value}{vs:List V}(M:Mk X.K C f) (F:aS X.prog X.w X.K X.mg X.base CX k f fd ps sp) (hr:eY (k+1) X.A) (hb:Binds X.K fd ps ds) (hd:Vals hU ds)
  (hx:Passes CX X E) (I:Inv X pins σ H s) (r:Vals vs us)
  (h:∀x dx,H x=none->H dx=none->dx≠x->sp (.ref x::(vs++hU)) (upd (upd H dx (.own x)) x (.ins C dx [])) (λv H2=>v=.bM/\Q (.ref x) H2) E) :
  wpAny (model X.prog X.w) X.A (call (.ref C) us) (EP X pins σ Q) X.xe s:=by
 have hq:=h (s.heap.objs.size+1) s.heap.objs.size (I.bR.fresh (Nat.le_succ _)) (I.bR.fresh (Nat.le_refl _)) (Nat.ne_of_lt (Nat.lt_succ_self _));have I2:=Inv.made (C:=C) I;have r2:Vals (V.ref (s.heap.objs.size+1)::(vs++hU)) (Value.ref (s.heap.objs.size+1)::(us++ds)):=.cons rfl (r.append hd);have hl:(Value.ref (s.heap.objs.size+1)::us++ds).length=ps.length:=by
  have e:=r2.length;rw [F.len _ _ _ _ hq] at e;exact e.symm
 refine wpAny_call (Ha (f:=f) I.iy M.makes M.init (beq_iff_eq.mp M.fn) (codeAny_mono (F.run _ X.stack _ _ ⟨Value.ref (s.heap.objs.size+1)::us,[]⟩ (Value.ref (s.heap.objs.size+1)::(us++ds)) _ _ E (hr.make C us [])
  (I2.WY.make C us []) (hb _ (Value.ref (s.heap.objs.size+1)::us) I2.iy hl) r2 hq) λr s' WZ=>?_))
 cases r with
 | error e=>exact hx pins σ _ _ e s' I2 WZ
 | ok fl=>
  cases fl with
  | ret u=>
   obtain⟨v,H',I3,rv,ev,q3⟩:=I2.after WZ;subst ev;exact⟨rv,⟨V.ref (s.heap.objs.size+1),H',I3,rfl,q3⟩⟩
  | next=>exact False.elim WZ
  | brk=>exact False.elim WZ
  | cont=>exact False.elim WZ
theorem jH (M:Mk X.K C f) (F:aS X.prog X.w X.K X.mg X.base CX k f fd ps sp) (hr:eY (k+1) X.A) (hg:Gl X x) (hm:X.mg x=some (.ref C)) (hb:Binds X.K fd ps ds) (hd:Vals hU ds) (hx:Passes CX X E)
  (ha:PA X (e::es) t) (ML:(x == ("__debug__":Str))=false:=by decide) (he:starEach (e::es) X.env=(false,eval e X.env)::starEach es X.env:=by rfl) (xa:(backTo pos (starEach es X.env)).any (·.1)=false:=by rfl) :
  PE X (.Call (.Name x p) (e::es) [] pos) (Hc C sp hU E t):=by
 intro pins s σ H Q I h;refine wpAny_Call_Name_kw (oI I hg hm ?_ ML);refine PySem.W.callWith_K (h₀:=X.base) I.ok.mod.RY M.kp (cg (ha pos pins s σ H _ I h) λus s1 ⟨vs,H1,I1,r,q⟩=>⟨I1.iy,?_⟩) he xa;exact xb M F hr hb hd hx I1 r q
theorem Hd (M:Mk X.K C f) (F:aS X.prog X.w X.K X.mg X.base CX k f fd ps sp) (hr:eY (k+1) X.A) (hg:Gl X x) (hm:X.mg x=some (.ref C)) (hb:Binds X.K fd ps ds) (hd:Vals hU ds) (hx:Passes CX X E)
  (ML:(x == ("__debug__":Str))=false:=by decide):PE X (.Call (.Name x p) [] [] pos) (Hc C sp hU E BY):=by
 intro pins s σ H Q I h;refine wpAny_Call_Name_kw (oI I hg hm ?_ ML);exact PySem.W.callWith_K0 I.iy M.kp (xb (us:=[]) M F hr hb hd hx I .nil h)
end
section
variable {X:Cx}{CX:uH}{k:Nat}{f C:Addr}{fd:FuncData}{ps ks:List Str}{sp:Sp}{E:XK}{x m:Str}{p pos apos adb:Pos}{e o:Expr}{es:List Expr}{kws:List Keyword}{te ta:TE}{t tk:TA}{nm:Option Str}
variable {g:List Value->List Value->List Value}{gV:List V->List V->List V}
end
structure aB (N P:List Str) (sc:Scope):Prop where
 kind:sc.kind=.function
 co:sc.isCoroutine=false
 gen:sc.isGenerator=false
 nd:N.Nodup
 pre:N.take P.length=P
 par:∀x∈P,sc.names.lookup x=some .local\/sc.names.lookup x=some .cell
 So:∀y∈sc.names,y.2≠.free
theorem sP {kindOf:Str->Option NameKind}{x:Str}:∀{binds:List (Str×Value)}{m:Str->Option Value},(∀v,(x,v)∉binds)->bindL kindOf binds m x=m x
 | [],_,_=>rfl
 | (n,v)::r,m,h=>by
  unfold bindL;rw [sP λw hw=>h w (List.mem_cons_of_mem _ hw)];split
  ·have:x≠n:=by rintro rfl; exact h v List.mem_cons_self
   simp [this]
  ·rfl
theorem sQ {kindOf:Str->Option NameKind}{x:Str}:∀{binds:List (Str×Value)}{m:Str->Option Value},(∀v,(x,v)∉binds)->bindC kindOf binds m x=m x
 | [],_,_=>rfl
 | (n,v)::r,m,h=>by
  unfold bindC;rw [sQ λw hw=>h w (List.mem_cons_of_mem _ hw)];split
  ·rfl
  ·have:x≠n:=by rintro rfl; exact h v List.mem_cons_self
   simp [this]
theorem sR {kindOf:Str->Option NameKind}{x:Str}{v:Value}:∀{P:List Str}{vs:List Value}{i:Nat}{m:Str->Option Value},P.Nodup->P[i]?=some x->vs[i]?=some v->kindOf x=some .local ->
  bindL kindOf (P.zip vs) m x=some v
 | [],_,_,_,_,h,_,_=>by simp at h
 | _::_,[],_,_,_,_,h,_=>by simp at h
 | p::P,w::vs,0,m,nd,h1,h2,hk=>by
  simp at h1 h2; subst h1; subst h2
  show bindL kindOf ((p,w)::P.zip vs) m p=_;unfold bindL;rw [sP λv hv=>(List.nodup_cons.mp nd).1 (List.of_mem_zip hv).1,if_pos hk];simp
 | p::P,w::vs,i+1,m,nd,h1,h2,hk=>by
  show bindL kindOf ((p,w)::P.zip vs) m x=_;unfold bindL;exact sR (i:=i) (List.nodup_cons.mp nd).2 (by simpa using h1) (by simpa using h2) hk
theorem sS {kindOf:Str->Option NameKind}{x:Str}{v:Value}:∀{P:List Str}{vs:List Value}{i:Nat}{m:Str->Option Value},P.Nodup->P[i]?=some x->vs[i]?=some v->kindOf x≠some .local ->
  bindC kindOf (P.zip vs) m x=some v
 | [],_,_,_,_,h,_,_=>by simp at h
 | _::_,[],_,_,_,_,h,_=>by simp at h
 | p::P,w::vs,0,m,nd,h1,h2,hk=>by
  simp at h1 h2; subst h1; subst h2
  show bindC kindOf ((p,w)::P.zip vs) m p=_;unfold bindC;rw [sQ λv hv=>(List.nodup_cons.mp nd).1 (List.of_mem_zip hv).1,if_neg hk];simp
 | p::P,w::vs,i+1,m,nd,h1,h2,hk=>by
  show bindC kindOf ((p,w)::P.zip vs) m x=_;unfold bindC;exact sS (i:=i) (List.nodup_cons.mp nd).2 (by simpa using h1) (by simpa using h2) hk
noncomputable def start (N:List Str) (vs:List V):St:=vs.map some++List.replicate (N.length - vs.length) none
noncomputable def xc (CX:uH) (P:Program) (w:World) (K:PySem.W.Frag) (mg:Str->Option Value) (base:Heap) (N:List Str) (qual:Str) (scope:Scope) (f:Addr) (cd:Value) (A:Around) (outer:List Env) (s:Shared) (H:Hp) (E:XK):Cx where
 prog:=P
 w:=w
 K:=K
 mg:=mg
 base:=base
 A:=A.deeper (envOfC qual scope s.heap.objs.size f cd)
 N:=N
 s₀:=s
 H₀:=H
 env:=envOfC qual scope s.heap.objs.size f cd
 outer:=outer
 stack:=envOfC qual scope s.heap.objs.size f cd::outer
 ex:=[]
 calm:=true
 fn:=λ_=>true
 pn:=[]
 xe:=λe s'=>wpAny (model P w) (A.deeper (envOfC qual scope s.heap.objs.size f cd)) (leaving (envOfC qual scope s.heap.objs.size f cd) e) (λ_ W2=>CX outer H s E e W2) (λe' W2=>CX outer H s E e' W2) s'
theorem xf {sc:Scope}{n:Nat}{x:Str}(h:sc.names.lookup x=some .cell):∃c,(cellsFrom n sc.names []).lookup x=some c:=by
 have q:=PySem.W.cellsFrom_some sc.names n [] (.inl h);exact Option.isSome_iff_exists.mp q
theorem FA {CX:uH}{P:Program}{w:World}{K:PySem.W.Frag}{mg:Str->Option Value}{base:Heap}{N ps:List Str}{qual:Str}{scope:Scope}{f:Addr}{cd:Value}{A:Around}{outer:List Env}{s s1:Shared}{H:Hp}{E:XK}{us:List Value}{vs:List V}
  (S:aB N ps scope) (hd:A.handled=none) (e0:BZ P w K mg base A outer s H) (hl:vs.length=ps.length) (r:Vals vs us)
  (x:InCallC s s.heap.objs.size (bindL (envOfC qual scope s.heap.objs.size f cd).kindOf (ps.zip us) λ_=>none) (cellsFrom (s.heap.objs.size+1) scope.names []) (bindC (envOfC qual scope s.heap.objs.size f cd).kindOf (ps.zip us) λ_=>none) s1) :
  Inv (xc CX P w K mg base N qual scope f cd A outer s H E) [] (start N vs) H s1:=by
 have xa:ps.length<=N.length:=by have:=congrArg List.length S.pre; rw [List.length_take] at this; omega
 obtain⟨h1,tk,rfl,hk⟩:=x.done;have W3:∀b:Addr,b∉(xc CX P w K mg base N qual scope f cd A outer s H E).ex:=λb z=>absurd (show b∈([]:List Addr) from z) (by simp)
 refine⟨⟨e0.mod,S.kind,rfl,rfl,Nat.le_refl _,λy z c h1 h2=>?_,λy hy=>?_,λy c _ h=>?_,λ_=>hd,Around.frames_deeper e0.frames,.inr ⟨rfl,rfl⟩,λb z=>absurd z (W3 b),e0.bs,e0.Fp,λb _ _=>W3 b,λb z=>absurd z (W3 b),e0.kU,e0.ME⟩,
  rfl,e0.bare,Un.kept hk,⟨_,x.toInCall.ns,λi y v h1 h2 h3=>?_⟩,λy c h=>⟨_,x.cell y c h⟩,e0.bR.fresh (Nat.le_refl _),λy c h=>?_,λp hp=>absurd (show p∈([]:List (Addr×Obj)) from hp) (by simp),e0.bR.kept hk,?_⟩
 ·exact name_of_addr x.apart (PySem.mem_of_lookup h1) (PySem.mem_of_lookup h2)
 ·have hy:scope.names.lookup y=some .cell\/scope.names.lookup y=some .free:=hy;rcases hy with hy | hy
  ·exact xf hy
  ·exact absurd rfl (S.So _ (PySem.mem_of_lookup hy))
 ·exact Nat.le_of_lt (x.above y c (PySem.mem_of_lookup h))
 ·have hi:i < vs.length:=by
   unfold start at h2
   by_cases hi:i < vs.length
   ·exact hi
   ·rw [List.getElem?_append_right (by simpa using hi)] at h2;rw [List.getElem?_replicate] at h2;split at h2 <;> cases h2
  have ha:vs[i]?=some v:=by
   unfold start at h2;rw [List.getElem?_append_left (by simpa using hi),List.getElem?_map] at h2
   cases e:vs[i]? with
   | none=>rw [e] at h2; cases h2
   | some a=>rw [e] at h2; cases h2; rfl
  obtain⟨u,hu,rv⟩:=r.get ha;have hp:ps[i]?=some y:=by
   rw [<-S.pre,List.getElem?_take_of_lt (by omega)]; exact h1
  have ndP:ps.Nodup:=by rw [<-S.pre]; exact S.nd.sublist (List.take_sublist _ _)
  refine⟨u,rv,?_⟩;rcases S.par y (List.mem_of_getElem? hp)with k | k
  ·exact .inl ⟨k,sR ndP hp hu k⟩
  ·obtain⟨c,e⟩:=xf (n:=s.heap.objs.size+1) k;refine .inr ⟨.inl k,c,e,?_⟩;have q:=x.cell y c e;rw [sS ndP hp hu (by show scope.names.lookup y≠_; rw [k]; decide)] at q;exact q
 ·exact e0.bR.fresh (Nat.le_of_lt (x.above y c (PySem.mem_of_lookup h)))
 ·unfold start;show _=N.length;rw [List.length_append,List.length_map,List.length_replicate];omega
theorem W4 {CX:uH}{P:Program}{w:World}{K:PySem.W.Frag}{mg:Str->Option Value}{base:Heap}{k:Nat}{f:Addr}{name qual:Str}{params:Arguments}{body:List Stmt}{scope:Scope}{dV kV doc pm cf ct oc:Value}{an od:Option Addr}
  {My:Array (Option Value)}{N ps:List Str}{sp:Sp}(lk:K.lookup f=some ⟨oc,od,.func (PySem.W.fnOf name qual params body scope dV kV doc pm an cf ct),My⟩) (GU:PySem.W.codeIn K cf qual=true) (S:aB N ps scope)
  (len:∀vs H Q E,sp vs H Q E->vs.length=ps.length)
  (He:∀(A:Around) (outer:List Env) (s:Shared) (H:Hp) (vs:List V) (Q:VK) (E:XK),eY k (A.deeper (envOfC qual scope s.heap.objs.size f cf))->sp vs H Q E ->
   ∃t,wL (xc CX P w K mg base N qual scope f cf A outer s H E) body t/\t {nx:=λ_ H'=>Q .bM H',rt:=Q} (start N vs) H) :
  aS P w K mg base CX (k+1) f (PySem.W.fnOf name qual params body scope dV kV doc pm an cf ct) ps sp:=by
 refine⟨len,λA outer s H args us vs Q E hr e0 hb r Ob=>?_⟩;have hl:=len _ _ _ _ Ob;have KX:K.In s.heap:=e0.mod.RY.keeps λb o e=>(e0.bs b o e).1
 have lim:s.heap.NoLimit:=e0.mod.nolimit.keeps λb o e=>(e0.bs b o e).1
 have W5:∀y∈ps.zip us,scope.names.lookup y.1=some .local\/(scope.names.lookup y.1=some .cell/\((cellsFrom (s.heap.objs.size+1) scope.names []).lookup y.1).isSome=true):=λ⟨n,v⟩ hy=>by
  rcases S.par n (List.of_mem_zip hy).1 with q | q
  ·exact .inl q
  ·exact .inr ⟨q,PySem.W.cellsFrom_some _ _ _ (.inl q)⟩
 refine codeAny_call_function hr.depth (KX _ _ lk) rfl S.co S.gen rfl (PySem.W.codeRec_of KX GU) (hb _ _ _ _ ?_);refine wpAny_newFunctionEnv_cells S.kind W5 λenv he s1 x=>?_
 subst he;refine⟨lim.keeps x.toInCall.keep,codeAny_func ?_⟩;obtain⟨t,ht,hq⟩:=He A outer s H vs Q E (hr.deeper _) Ob;have I:Inv (xc CX P w K mg base N qual scope f cf A outer s H E) [] (start N vs) H s1:=FA S hr.hd e0 hl r x;refine wpAny_mono (ht [] s1 (start N vs) H _ I hq) (λfl s' hs=>?_) λe s' hs=>hs
 have fin:∀{σ':St}{H':Hp}{v:V}{u:Value},Inv (xc CX P w K mg base N qual scope f cf A outer s H E) [] σ' H' s'->RelV v u->Q v H'->CE outer P w H s Q u s':=
  λ{σ' H' v u} J rv q=>⟨v,H',J.os,J.bare,J.base,J.bR,rv,q⟩
 cases fl with
 | ret u=>
  obtain⟨v,σ',H',J,rv,q⟩:=hs;exact fin J rv q
 | next=>
  obtain⟨σ',H',J,q⟩:=hs;exact fin (v:=V.bM) (u:=Value.none) J rfl q
 | brk=>
  obtain⟨_,_,_,q⟩:=hs;exact False.elim q
 | cont=>
  obtain⟨_,_,_,q⟩:=hs;exact False.elim q
section
variable {X:Cx}{x:Str}{p pos:Pos}{e:Expr}{es:List Expr}{t:TA}{id T:String}{r:List V->Hp->VK->Prop}
noncomputable def tCB (r:List V->Hp->VK->Prop) (t:TA):TE:=λσ H Q=>t σ H λvs H1=>r vs H1 Q
theorem aI (hc:eX X (.builtin id) r) (hg:Gl X x) (hm:X.mg x=none) (hv:bootBuiltins x=some (.builtin id)) (ha:PA X (e::es) t) (hn:x≠"__name__":=by decide) (ML:(x == ("__debug__":Str))=false:=by decide)
  (he:starEach (e::es) X.env=(false,eval e X.env)::starEach es X.env:=by rfl) (xa:(backTo pos (starEach es X.env)).any (·.1)=false:=by rfl):PE X (.Call (.Name x p) (e::es) [] pos) (tCB r t):=by
 intro pins s σ H Q I h;refine wpAny_Call_Name_kw (uD I hg hm hv ?_ hn ML);exact PyProof.Rows.callWith_builtin1 (cg (ha pos pins s σ H _ I h) λus s1 ⟨vs,H1,I1,r1,q1⟩=>hc pins s1 σ H1 vs us Q I1 r1 q1) he xa
theorem bW (hc:eX X (.type T) r) (hg:Gl X x) (hm:X.mg x=none) (hv:bootBuiltins x=some (.type T)) (ha:PA X (e::es) t) (hn:x≠"__name__":=by decide) (ML:(x == ("__debug__":Str))=false:=by decide)
  (he:starEach (e::es) X.env=(false,eval e X.env)::starEach es X.env:=by rfl) (xa:(backTo pos (starEach es X.env)).any (·.1)=false:=by rfl):PE X (.Call (.Name x p) (e::es) [] pos) (tCB r t):=by
 intro pins s σ H Q I h;refine wpAny_Call_Name_kw (uD I hg hm hv ?_ hn ML);exact PyProof.Rows.callWith_type1 (cg (ha pos pins s σ H _ I h) λus s1 ⟨vs,H1,I1,r1,q1⟩=>hc pins s1 σ H1 vs us Q I1 r1 q1) he xa
end
end L2
namespace HT
open PySem PyProof.Rows
section
open PySem.SeqAt
open PySem.AutoSeq1 (wpAny_loadPart')
open PySem.MeetsSeq PySem.MeetsSeq2 PySem.MeetsSeq3
end
section
variable {prog:Program}{w:World}{A:Around}{E:Value->Shared->Prop}{s:Shared}
noncomputable def xg (n d:Nat):Option Int->Nat
 | none=>d
 | some v=>if v < 0 then(v+(n:Int)).toNat else min v.toNat n
theorem ji (n d:Nat):xg n d none=d:=rfl
theorem kY (n d k:Nat):xg n d (some (k:Int))=min k n:=by
 show(if (k:Int) < 0 then((k:Int)+(n:Int)).toNat else min (k:Int).toNat n)=min k n;rw [if_neg (by omega),Int.toNat_natCast]
end
end HT
namespace L2
open PySem PySem.Spec PyProof.Rows
noncomputable abbrev TO:=St->Hp->(Option Int->Hp->Prop)->Prop
noncomputable def PO (X:Cx) (e:Option Expr) (t:TO):Prop:=
 ∀(pins:List (Addr×Obj)) (s:Shared) (σ:St) (H:Hp) (Q:Option Int->Hp->Prop),Inv X pins σ H s->t σ H Q ->
  wpAny (model X.prog X.w) X.A (evalPart e X.env) (λu s'=>∃o H',Inv X pins σ H' s'/\IsPart u o/\Q o H') X.xe s
noncomputable def Em:TO:=λ_ H Q=>Q none H
noncomputable def Oc (t:TE):TO:=λσ H Q=>t σ H λx H1=>∃i,x=.int i/\Q (some i) H1
theorem intsAre_of {ns:List Int}:∀{us:List Value},Vals (ns.map V.int) us->IntsAre us ns:=by
 induction ns with
 | nil=>intro us r; rw [List.map_nil] at r; cases r; exact .nil
 | cons n ns ih=>
  intro us r;rw [List.map_cons] at r
  cases r with
  | cons r1 r2=>
   obtain⟨t,e⟩:=r1;subst e;exact .cons n t (ih r2)
section
variable {X:Cx}{e:Expr}{te:TE}{lo hi:Option Expr}{tl th:TO}{pos p2:Pos}
theorem iD:PO X none Em:=by
 intro pins s σ H Q I h;rw [evalPart_none];exact wpAny_pure ⟨none,H,I,.none,h⟩
theorem gs (h:PE X e te):PO X (some e) (Oc te):=by
 intro pins s σ H Q I hw;rw [evalPart_some];refine cg (h pins s σ H _ I hw) λu s1 ⟨x,H1,I1,r1,q1⟩=>?_
 obtain⟨i,rfl,q⟩:=q1;obtain⟨t,rfl⟩:=r1;exact⟨some i,H1,I1,.int i t,q⟩
noncomputable def SlR (X:Cx) (r:V->Option Int->Option Int->Hp->VK->Prop):Prop:=
 ∀(pins:List (Addr×Obj)) (s:Shared) (σ:St) (H:Hp) (x:V) (v vl vu:Value) (lo hi:Option Int) (sl:Addr) (Q:VK),Inv X pins σ H s->RelV x v->s.heap.IsSliceOf sl vl vu .none->IsPart vl lo->IsPart vu hi->r x lo hi H Q ->
  ∃T id,typeLookup (.type T) "__getitem__"=pure (some (.builtin id))/\s.TypeIs v T/\wpAny (model X.prog X.w) X.A (getItem v (.ref sl)) (EP X pins σ Q) X.xe s
noncomputable def tSl (r:V->Option Int->Option Int->Hp->VK->Prop) (te:TE) (tl th:TO):TE:=λσ H Q=>te σ H λx H1=>tl σ H1 λl H2=>th σ H2 λu H3=>r x l u H3 Q
theorem fR {r:V->Option Int->Option Int->Hp->VK->Prop}(hr:SlR X r) (he:PE X e te) (hl:PO X lo tl) (hu:PO X hi th):PE X (.Subscript e (.Slice lo hi none p2) pos) (tSl r te tl th):=by
 intro pins s σ H Q I h;refine Subscript_ (cg (he pins s σ H _ I h) λv s1 ⟨x,H1,I1,r1,q1⟩=>?_);refine wpAny_Slice (cg (hl pins s1 σ H1 _ I1 q1) λvl s2 ⟨l,H2,I2,pl,q2⟩=>cg (hu pins s2 σ H2 _ I2 q2) λvu s3 ⟨u,H3,I3,pu,q3⟩=>?_);rw [evalPart_none];refine wpAny_pure ?_;have I4:Inv X pins σ H3 {s3 with heap:=s3.heap.push {cls:=.type "slice",data:=.fields #[vl,vu,.none]}}:=I3.kept (t':=s3.toks) λb ob q=>Heap.get?_push_of_some _ q
 obtain⟨T,id,hT,ht,hg⟩:=hr pins {s3 with heap:=s3.heap.push {cls:=.type "slice",data:=.fields #[vl,vu,.none]}} σ H3 x v vl vu l u s3.heap.objs.size Q I4 r1 (Heap.IsSliceOf.new ..) pl pu q3;show wpAny (model X.prog X.w) X.A (subscriptTail e (.Slice lo hi none p2) v (.ref s3.heap.objs.size)) (EP X pins σ Q) X.xe {s3 with heap:=s3.heap.push {cls:=.type "slice",data:=.fields #[vl,vu,.none]}};exact tail_any (ops:=[.ref s3.heap.objs.size,v]) ht hT hg (by with_unfolding_all rfl)
noncomputable def gR (xs:List V) (lo hi:Option Int):List V:=(xs.drop (HT.xg xs.length 0 lo)).take (HT.xg xs.length xs.length hi - HT.xg xs.length 0 lo)
theorem xh (xs:List V) (lo hi:Option Int):(gR xs lo hi).length<=xs.length:=by
 unfold gR;rw [List.length_take,List.length_drop];omega
end
noncomputable def Wi (n:Nat) (i:Int):Option Nat:=if 0<=i then(if i < n then some i.toNat else none)else if -(n:Int)<=i then some (i+n).toNat else none
noncomputable def oM {α:Type}(xs:List α) (i:Int):Option α:=(Wi xs.length i).bind λj=>xs[j]?
theorem MM {n:Nat}{i:Int}{j:Nat}(h:Wi n i=some j):seqIndex? i n=some j/\j < n/\-(n:Int)<=i/\i < n:=by
 unfold Wi at h
 by_cases h0:0<=i
 ·rw [if_pos h0] at h
  by_cases h1:i < n
  ·rw [if_pos h1] at h;have e:i.toNat=j:=Option.some.inj h;exact⟨by rw [seqIndex_of h0 h1,e],by omega,by omega,h1⟩
  ·rw [if_neg h1] at h; cases h
 ·rw [if_neg h0] at h
  by_cases h1:-(n:Int)<=i
  ·rw [if_pos h1] at h;have e:(i+n).toNat=j:=Option.some.inj h;exact⟨by rw [seqIndex_neg (by omega) h1,e],by omega,h1,by omega⟩
  ·rw [if_neg h1] at h; cases h
theorem uI {α:Type}{xs:List α}{i:Int}{v:α}(h:oM xs i=some v):∃j,seqIndex? i xs.length=some j/\xs[j]?=some v/\j < xs.length/\-(xs.length:Int)<=i/\i < xs.length:=by
 unfold oM at h
 cases e:Wi xs.length i with
 | none=>rw [e] at h; cases h
 | some j=>
  rw [e] at h;obtain⟨h1,h2,h3,h4⟩:=MM e;exact⟨j,h1,h,h2,h3,h4⟩
theorem cG {α:Type}{xs:List α}{j:Nat}{v:α}(h:xs[j]?=some v):oM xs (j:Int)=some v:=by
 have hj:j < xs.length:=(List.getElem?_eq_some_iff.mp h).1;have e:Wi xs.length (j:Int)=some j:=by
  unfold Wi;rw [if_pos (by omega),if_pos (by omega)]; simp
 unfold oM; rw [e]; exact h
noncomputable def MN (b:Expr):Prop:=∀o i,subscripted b false o i=operate [o,i] (getItem o i)
noncomputable def Wj (X:Cx) (r:R2):Prop:=
 ∀(value slice:Expr) (pins:List (Addr×Obj)) (s:Shared) (σ:St) (H:Hp) (x y:V) (v u:Value) (Q:VK),Inv X pins σ H s->RelV x v->RelV y u->r x y H Q ->
  subscripted slice false v u=operate [v,u] (getItem v u)->wpAny (model X.prog X.w) X.A (subscriptTail value slice v u) (EP X pins σ Q) X.xe s
noncomputable def MtR (X:Cx) (id:String) (r:V->List V->Hp->VK->Prop):Prop:=
 ∀(pins:List (Addr×Obj)) (s:Shared) (σ:St) (H:Hp) (x:V) (xs:List V) (v:Value) (us:List Value) (Q:VK),Inv X pins σ H s->RelV x v->Vals xs us->r x xs H Q ->
  wpAny (model X.prog X.w) X.A (call (.builtin id) (v::us)) (EP X pins σ Q) X.xe s
section
variable {X:Cx}{a b:Expr}{ta tb:TE}{pos:Pos}
theorem aq {r:R2}(hr:Wj X r) (ha:PE X a ta) (hb:PE X b tb) (hs:MN b):PE X (.Subscript a b pos) (Wh r ta tb):=by
 intro pins s σ H Q I h;exact Subscript_ (Sg ha hb I h λv u s2 x y H2 I2 rx ry q=>hr a b pins s2 σ H2 x y v u Q I2 rx ry q (hs _ _))
noncomputable def Sq (K:PySem.W.Frag):R2:=λx y H Q=>∃p xs i v,x=.ref p/\y=.int i/\bf K H p xs/\oM xs i=some v/\Q v H
noncomputable def og (K:PySem.W.Frag):R2:=λx y H Q=>∃p xs i v,x=.ref p/\y=.int i/\bS K H p xs/\oM xs i=some v/\Q v H
noncomputable def W6:R2:=λx y H Q=>∃z i c,x=.str z/\y=.int i/\z.length<=sizeLine/\oM z.cps.toList i=some c/\Q (.str ⟨#[c]⟩) H
theorem cy:Wj X (Sq X.K):=by
 intro value slice pins s σ H x y v u Q I rx ry h hs;obtain⟨p,xs,i,z,rfl,rfl,hq,he,q⟩:=h;cases rx;obtain⟨t,rfl⟩:=ry;obtain⟨bw,r,pl,hz⟩:=I.list hq;obtain⟨j,h1,h2,h3,h4,h5⟩:=uI he;obtain⟨w,ew,xi⟩:=r.get h2;have hl:=r.length;have hn:=uG;have fin:EP X pins σ Q w s:=⟨z,H,I,xi,q⟩
 by_cases h0:0<=i
 ·have hj:i.toNat=j:=by
   rw [seqIndex_of h0 h5] at h1;exact Option.some.inj h1
  exact item_listR pl.isList h0 (by omega) (by rw [hj]; simpa using ew) fin hs
 ·have hj:(i+(bw.toArray.size:Int)).toNat=j:=by
   rw [seqIndex_neg (by omega) h4] at h1;rw [List.size_toArray,<-hl];exact Option.some.inj h1
  exact subscriptTail_builtinR (x:=w) pl.isList.typeIs slot_list_getitem.lookup
   (wpAny_getItem_list_neg (Q:=λr s'=>r=w/\EP X pins σ Q r s') pl.isList (by omega) (by rw [List.size_toArray] <;> omega) (by omega) (by rw [hj]; simpa using ew) ⟨rfl,fin⟩) hs
theorem ak:Wj X (og X.K):=by
 intro value slice pins s σ H x y v u Q I rx ry h hs;obtain⟨p,xs,i,z,rfl,rfl,hq,he,q⟩:=h;cases rx;obtain⟨t,rfl⟩:=ry;obtain⟨bw,r,pl,hz⟩:=I.tuple hq;obtain⟨j,h1,h2,h3,h4,h5⟩:=uI he;obtain⟨w,ew,xi⟩:=r.get h2;have hl:=r.length;have hn:=uG;have fin:EP X pins σ Q w s:=⟨z,H,I,xi,q⟩
 exact subscriptTail_builtinR (x:=w) pl.typeIs slot_tuple_getitem.lookup
  (getItem_tuple (j:=j) (Q:=λr s'=>r=w/\EP X pins σ Q r s') pl (by omega) (by omega) (by rw [List.size_toArray,<-hl]; exact h1) (by simpa using ew) ⟨rfl,fin⟩) hs
theorem B0:Wj X W6:=by
 intro value slice pins s σ H x y v u Q I rx ry h hs;obtain⟨z,i,c,rfl,rfl,hz,he,q⟩:=h;obtain⟨t,rfl⟩:=rx;obtain⟨t',rfl⟩:=ry;obtain⟨j,h1,h2,h3,h4,h5⟩:=uI he;have hl:z.cps.toList.length=z.length:=by simp [Str.length]
 rw [hl] at h1 h4 h5;have hn:=uG;exact tail_any (typeIs_str s z t) slot_str_getitem.lookup (getItem_str (c:=c) (by
  have e1:decide (i < -(2 ^ 63:Int))=false:=decide_eq_false (by omega);have e2:decide (i≥2 ^ 63)=false:=decide_eq_false (by omega);rw [e1,e2,Bool.or_false]) (by rw [h1]; simpa using h2) ⟨.str ⟨#[c]⟩,H,I.tok _,⟨_,rfl⟩,q⟩) hs
theorem uJ (lo hi:Option Int) (n:Nat):(sliceBounds lo hi none n).1=((HT.xg n 0 lo:Nat):Int)/\(sliceBounds lo hi none n).2.1=((HT.xg n n hi:Nat):Int)/\(sliceBounds lo hi none n).2.2=1:=by
 refine⟨?_,?_,rfl⟩
 ·cases lo with
  | none=>simp [sliceBounds,HT.xg]
  | some i=>
   simp only [sliceBounds,HT.xg,Option.getD_none,show(1:Int) > 0 by decide,if_true]
   by_cases h:i < 0
   ·simp only [h,if_true] <;> omega
   ·simp only [h,if_false] <;> omega
 ·cases hi with
  | none=>simp [sliceBounds,HT.xg]
  | some i=>
   simp only [sliceBounds,HT.xg,Option.getD_none,show(1:Int) > 0 by decide,if_true]
   by_cases h:i < 0
   ·simp only [h,if_true] <;> omega
   ·simp only [h,if_false] <;> omega
theorem rT (bw:List Value) (lo hi:Option Int):slicePick bw.toArray lo hi none=((bw.drop (HT.xg bw.length 0 lo)).take (HT.xg bw.length bw.length hi - HT.xg bw.length 0 lo)).toArray:=by
 obtain⟨h1,h2,h3⟩:=uJ lo hi bw.toArray.size;unfold slicePick;rw [h1,h2,h3];simp only [sliceRange_one,pick_run,List.size_toArray] <;> rfl
noncomputable def aaA (K:PySem.W.Frag):V->Option Int->Option Int->Hp->VK->Prop:=λx lo hi H Q=>∃a xs,x=.ref a/\bf K H a xs/\∀p,H p=none->Q (.ref p) (upd H p (.lst (gR xs lo hi)))
theorem gK:SlR X (aaA X.K):=by
 intro pins s σ H x v vl vu lo hi sl Q I rx hs pl pu h;obtain⟨a,xs,rfl,hx,q⟩:=h;cases rx;obtain⟨bw,r,ht,hz⟩:=I.list hx;have hlen:=r.length;refine⟨"list",_,slot_list_getitem.lookup,ht.isList.typeIs,?_⟩;refine wpAny_getItem_list_slice ht.isList hs pl pu .none (by simp) ?_ (by rw [List.size_toArray] <;> omega);rw [rT,<-hlen];refine⟨.ref s.heap.objs.size,_,I.laid (t':=s.toks) (o:=.lst (gR xs lo hi)) (λb ob q=>Heap.get?_push_of_some _ q) (Nat.le_refl _) ?_,rfl,q _ (I.bR.fresh (Nat.le_refl _))⟩;exact⟨Nat.le_trans (xh xs lo hi) hz,_,0,(r.drop (HT.xg xs.length 0 lo)).take (HT.xg xs.length xs.length hi - HT.xg xs.length 0 lo),Heap.get?_push_size _ rfl⟩
noncomputable def gL:V->Bool
 | .bM=>true
 | .bl _=>true
 | .int _=>true
 | .str _=>true
 | _=>false
noncomputable def En:V->V->Bool
 | .bM,.bM=>true
 | .bl a,.bl b=>a == b
 | .bl a,.int b=>(if a then 1 else 0) == b
 | .int a,.bl b=>a == (if b then 1 else 0)
 | .int a,.int b=>a == b
 | .str a,.str b=>a == b
 | _,_=>false
theorem Sr {A:Around}{s:Shared}{y x:V}{u v:Value}(ry:RelV y u) (rx:RelV x v) (fy:gL y=true) (fx:gL x=true):SeqAt.EqAt A s u v (En y x):=by
 cases y with
 | bM=>
  cases ry
  cases x with
  | bM=>cases rx; exact SeqAt.EqAt.same _
  | bl b=>cases rx; exact SeqAt.EqAt.none_bool b
  | int b=>obtain⟨t,rfl⟩:=rx; exact SeqAt.EqAt.none_int b t
  | str b=>obtain⟨t,rfl⟩:=rx; exact SeqAt.EqAt.none_str b t
  | _=>exact absurd (show false=true from fx) Bool.false_ne_true
 | bl a=>
  cases ry
  cases x with
  | bM=>cases rx; exact SeqAt.EqAt.bool_none a
  | bl b=>cases rx; exact SeqAt.EqAt.bool_bool a b
  | int b=>obtain⟨t,rfl⟩:=rx; exact SeqAt.EqAt.bool_int a b t
  | str b=>obtain⟨t,rfl⟩:=rx; exact SeqAt.EqAt.bool_str a b t
  | _=>exact absurd (show false=true from fx) Bool.false_ne_true
 | int a=>
  obtain⟨t',rfl⟩:=ry
  cases x with
  | bM=>cases rx; exact SeqAt.EqAt.int_none a t'
  | bl b=>cases rx; exact SeqAt.EqAt.int_bool a t' b
  | int b=>obtain⟨t,rfl⟩:=rx; exact SeqAt.EqAt.int_int a t' b t
  | str b=>obtain⟨t,rfl⟩:=rx; exact SeqAt.EqAt.int_str a t' b t
  | _=>exact absurd (show false=true from fx) Bool.false_ne_true
 | str a=>
  obtain⟨t',rfl⟩:=ry
  cases x with
  | bM=>cases rx; exact SeqAt.EqAt.str_none a t'
  | bl b=>cases rx; exact SeqAt.EqAt.str_bool a t' b
  | int b=>obtain⟨t,rfl⟩:=rx; exact SeqAt.EqAt.str_int a t' b t
  | str b=>obtain⟨t,rfl⟩:=rx; exact SeqAt.EqAt.str_str a t' b t
  | _=>exact absurd (show false=true from fx) Bool.false_ne_true
 | _=>exact absurd (show false=true from fy) Bool.false_ne_true
noncomputable def B1 (x:V) (u:Value):Bool:=match u with
 | .none=>En .bM x
 | .bool b=>En (.bl b) x
 | .int i _=>En (.int i) x
 | .str z _=>En (.str z) x
 | _=>false
theorem Hf {x y:V}{u:Value}(r:RelV y u) (f:gL y=true):B1 x u=En y x:=by
 cases y with
 | bM=>cases r; rfl
 | bl b=>cases r; rfl
 | int i=>obtain⟨t,rfl⟩:=r; rfl
 | str z=>obtain⟨t,rfl⟩:=r; rfl
 | _=>exact absurd (show false=true from f) Bool.false_ne_true
theorem kZ {x:V}:∀{xs:List V}{us:List Value},Vals xs us->xs.all gL=true->us.any (B1 x)=xs.any λy=>En y x
 | _,_,.nil,_=>rfl
 | y::xs,u::us,.cons r t,f=>by
  rw [List.all_cons,Bool.and_eq_true] at f;rw [List.any_cons,List.any_cons,Hf r f.1,kZ t f.2]
theorem jj {A:Around}{s:Shared}{x:V}{v:Value}(rx:RelV x v) (fx:gL x=true):∀{xs:List V}{us:List Value},Vals xs us->xs.all gL=true->∀u∈us,SeqAt.EqAt A s u v (B1 x u)
 | _,_,.nil,_=>λu hu=>by cases hu
 | y::xs,u::us,.cons r t,f=>λu' hu=>by
  rw [List.all_cons,Bool.and_eq_true] at f;rcases List.mem_cons.mp hu with rfl | hu
  ·rw [Hf r f.1]; exact Sr r rx f.1 fx
  ·exact jj rx fx t f.2 u' hu
noncomputable def MO (x:V) (xs:List V):Bool:=xs.any λy=>En y x
noncomputable def rIn (K:PySem.W.Frag) (neg:Bool):R2:=λx y H Q=>∃p xs,y=.ref p/\(bf K H p xs\/bS K H p xs)/\gL x=true/\xs.all gL=true/\Q (.bl (if neg then !MO x xs else MO x xs)) H
theorem dN:kX X (compareOp .In) (rIn X.K false):=by
 intro pins s σ H x y v u Q I rx ry h;obtain⟨p,xs,rfl,hq,fx,fs,q⟩:=h;cases ry;rcases hq with hq | hq
 ·obtain⟨bw,r,pl,hz⟩:=I.list hq;refine SeqAt.in_listAt (B1 x) pl.isList (λw hw=>jj rx fx r fs w (by simpa using hw)) ⟨.bl _,H,I,rfl,?_⟩;rw [show bw.toArray.any (B1 x)=bw.any (B1 x)by simp,kZ r fs];exact q
 ·obtain⟨bw,r,pl,hz⟩:=I.tuple hq;refine SeqAt.in_tupleAt (B1 x) pl (λw hw=>jj rx fx r fs w (by simpa using hw)) ⟨.bl _,H,I,rfl,?_⟩;rw [show bw.toArray.any (B1 x)=bw.any (B1 x)by simp,kZ r fs];exact q
theorem iE:kX X (compareOp .NotIn) (rIn X.K true):=by
 intro pins s σ H x y v u Q I rx ry h;obtain⟨p,xs,rfl,hq,fx,fs,q⟩:=h;cases ry;rcases hq with hq | hq
 ·obtain⟨bw,r,pl,hz⟩:=I.list hq;refine SeqAt.notIn_listAt (B1 x) pl.isList (λw hw=>jj rx fx r fs w (by simpa using hw)) ⟨.bl _,H,I,rfl,?_⟩;rw [show bw.toArray.any (B1 x)=bw.any (B1 x)by simp,kZ r fs];exact q
 ·obtain⟨bw,r,pl,hz⟩:=I.tuple hq;refine SeqAt.notIn_tupleAt (B1 x) pl (λw hw=>jj rx fx r fs w (by simpa using hw)) ⟨.bl _,H,I,rfl,?_⟩;rw [show bw.toArray.any (B1 x)=bw.any (B1 x)by simp,kZ r fs];exact q
theorem cz:eX X (.builtin "len") (λxs H Q=>∃p ys,xs=[.ref p]/\(bf X.K H p ys\/bS X.K H p ys)/\Q (.int ys.length) H):=by
 intro pins s σ H xs us Q I r h;obtain⟨p,ys,rfl,hq,q⟩:=h;obtain⟨u,rfl,rx⟩:=vals1 r;cases rx;have hn:=uG;rcases hq with hq | hq
 ·obtain⟨bw,r',pl,hz⟩:=I.list hq;have hlen:=r'.length;exact Calls.call_len_list pl.isList (by simp only [List.size_toArray] <;> omega) ⟨.int ys.length,H,I.tok _,⟨s.toks+1,by rw [List.size_toArray,hlen]⟩,q⟩
 ·obtain⟨bw,r',pl,hz⟩:=I.tuple hq;have hlen:=r'.length;exact len_tuple pl (by simp only [List.size_toArray] <;> omega) ⟨.int ys.length,H,I.tok _,⟨s.toks+1,by rw [List.size_toArray,hlen]⟩,q⟩
theorem eZ:eX X (.type "list") (λxs H Q=>∃p ys,xs=[.ref p]/\(bf X.K H p ys\/bS X.K H p ys)/\∀l,H l=none->Q (.ref l) (upd H l (.lst ys))):=by
 intro pins s σ H xs us Q I r h;obtain⟨p,ys,rfl,hq,q⟩:=h;obtain⟨u,rfl,rx⟩:=vals1 r;cases rx;have fin:∀(bw:List Value),Vals ys bw->ys.length<=sizeLine->∀(h':Heap) (c':Nat),(∀b o',s.heap.get? b=some o'->h'.get? b=some o') ->
   h'.get? s.heap.objs.size=some {cls:=.type "list",dict:=none,data:=.seq bw.toArray c',slots:=#[]}->EP X pins σ Q (.ref s.heap.objs.size) {s with heap:=h'}:=λbw r' hz h' c' kp e=>
  ⟨.ref s.heap.objs.size,_,I.laid (t':=s.toks) kp (Nat.le_refl _) (show cJ X.prog X.w _ h' _ (.lst ys) from⟨hz,bw,c',r',e⟩),rfl,q _ (I.bR.fresh (Nat.le_refl _))⟩
 rcases hq with hq | hq
 ·obtain⟨bw,r',pl,hz⟩:=I.list hq;have hlen:=r'.length;obtain⟨o,ho,hc,n,hd⟩:=pl.isList;exact call_list_seq p (.inl rfl) ho hc hd (λh' c' kp e=>fin bw r' hz h' c' kp e) (by simp only [List.size_toArray] <;> omega)
 ·obtain⟨bw,r',pl,hz⟩:=I.tuple hq;have hlen:=r'.length;obtain⟨o,ho,hc,n,hd⟩:=pl;exact call_list_seq p (.inr rfl) ho hc hd (λh' c' kp e=>fin bw r' hz h' c' kp e) (by simp only [List.size_toArray] <;> omega)
noncomputable def tyV (K:PySem.W.Frag) (T:String) (x:V) (H:Hp):Prop:=match x with
 | .str _=>T="str"
 | .int _=>T="int"
 | .ref p=>(T="list"/\∃xs,bf K H p xs)\/(T="tuple"/\∃o,K.lookup p=some o/\o.cls=.type "tuple"/\o.dict=none) \/
   (T="dict"/\((∃kvs,H p=some (.dK kvs))\/∃kvs,H p=some (.dT kvs)))\/(T="set"/\∃S n,H p=some (.set S n))
 | _=>False
theorem Hg {pins:List (Addr×Obj)}{σ:St}{H:Hp}{s:Shared}{T:String}{x:V}{v:Value}(I:Inv X pins σ H s) (r:RelV x v) (ty:tyV X.K T x H) :
  s.TypeIs v T/\∀a,v=.ref a->∃ob,s.heap.get? a=some ob/\ob.dict=none:=by
 cases x with
 | str z=>
  obtain⟨t,rfl⟩:=r;cases (show T="str" from ty);exact⟨typeIs_str s z t,λ_ e=>nomatch e⟩
 | int i=>
  obtain⟨t,rfl⟩:=r;cases (show T="int" from ty);exact⟨typeIs_int s i t,λ_ e=>nomatch e⟩
 | ref p=>
  cases r;rcases ty with ⟨rfl,xs,hq⟩ | ⟨rfl,o,hk,hc,hd⟩ | ⟨rfl,hk⟩ | ⟨rfl,S,n,hk⟩
  ·obtain⟨bw,_,pl,_⟩:=I.list hq;refine⟨pl.isList.typeIs,λa e=>?_⟩;cases e;obtain⟨o,n,e,c,hd,_⟩:=pl;exact⟨o,e,hd⟩
  ·refine⟨⟨o,I.iy p o hk,hc⟩,λa e=>?_⟩;cases e;exact⟨o,I.iy _ o hk,hd⟩
  ·have z:∃o,s.heap.get? p=some o/\o.ExactDict:=by
    rcases hk with ⟨kvs,hk⟩ | ⟨kvs,hk⟩
    ·obtain⟨_,_,_,_,o,_,_,e,ex,_⟩:=I.bR p _ hk;exact⟨o,e,ex⟩
    ·obtain⟨_,_,_,_,o,_,_,e,ex,_⟩:=I.bR p _ hk;exact⟨o,e,ex⟩
   obtain⟨o,e,ex⟩:=z;refine⟨⟨o,e,ex.1⟩,λa e2=>?_⟩;cases e2;exact⟨o,e,ex.2.1⟩
  ·obtain⟨o,_,_,_,e,ex,_⟩:=I.bR p _ hk;refine⟨⟨o,e,ex.1⟩,λa e2=>?_⟩;cases e2;exact⟨o,e,ex.2.1⟩
 | _=>exact False.elim ty
noncomputable def W7 (K:PySem.W.Frag) (T:String) (r:V->List V->Hp->VK->Prop) (to:TE):TE:=λσ H Q=>to σ H λx H1=>tyV K T x H1/\r x [] H1 Q
noncomputable def tBM (K:PySem.W.Frag) (T:String) (r:V->List V->Hp->VK->Prop) (to:TE) (t:TA):TE:=λσ H Q=>to σ H λx H1=>tyV K T x H1/\t σ H1 λxs H2=>r x xs H2 Q
variable {o e:Expr}{es:List Expr}{to:TE}{t:TA}{name:Str}{apos dR:Pos}{T id:String}{r:V->List V->Hp->VK->Prop}
theorem Hh (pa:PlainAttrs T) (slot:Slot T name id) (hty:typeOf (.builtin id)=pure (.type "method_descriptor")) (hm:MtR X id r) (ho:PE X o to)
  (Hi:attributeBase o name X.env (eval o X.env)=eval o X.env:=by rfl) (Hj:(apos.endLine == dR.line)=true:=by rfl):PE X (.Call (.Attribute o name apos) [] [] dR) (W7 X.K T r to):=by
 intro pins s σ H Q I h;refine wpAny_Call_method0_late Hi Hj (cg (ho pins s σ H _ I h) λv s1 ⟨x,H1,I1,r1,ty,q1⟩=>?_);obtain⟨h1,h2⟩:=Hg I1 r1 ty;exact⟨T,id,pa,slot,hty,h1,h2,Calls.callWith_builtin rfl (PySem.evalArgs_none (hm pins s1 σ H1 x [] v [] Q I1 r1 .nil q1))⟩
theorem nE (pa:PlainAttrs T) (slot:Slot T name id) (hty:typeOf (.builtin id)=pure (.type "method_descriptor")) (hm:MtR X id r) (ho:PE X o to) (ha:PA X (e::es) t)
  (Hi:attributeBase o name X.env (eval o X.env)=eval o X.env:=by rfl)
  (aaB:((backTo dR (starEach (e::es) X.env)).all (λx=>!x.1)&&(backToKw dR (keywordEach [] X.env)).all (λx=>x.1.isSome)
   && decide ((e::es).length+([]:List Keyword).length+(if ([]:List Keyword).isEmpty then 0 else 1) < 30))=true:=by rfl)
  (Hj:(apos.endLine == dR.line)=true:=by rfl) (hs:starEach (e::es) X.env=(false,eval e X.env)::starEach es X.env:=by rfl) (Ss:(backTo dR (starEach es X.env)).any (·.1)=false:=by rfl) :
  PE X (.Call (.Attribute o name apos) (e::es) [] dR) (tBM X.K T r to t):=by
 intro pins s σ H Q I h;refine wpAny_Call_method_late Hi aaB Hj rfl (cg (ho pins s σ H _ I h) λv s1 ⟨x,H1,I1,r1,ty,q1⟩=>?_);obtain⟨h1,h2⟩:=Hg I1 r1 ty;refine⟨T,id,pa,slot,hty,h1,h2,?_⟩;have hA:=ha dR pins s1 σ H1 _ I1 q1;rw [hs] at hA ⊢;refine Calls.callWith_builtin (by show(false || (backTo dR (starEach es X.env)).any (·.1))=false; rw [Ss] <;> rfl) (Calls.evalArgs_plain ?_);exact cg hA λus s2 ⟨vs,H2,I2,r2,q2⟩=>hm pins s2 σ H2 x vs v us Q I2 r1 r2 q2
end
noncomputable def W8 (X:Cx) (id:String) (r:V->List V->Hp->VK->Prop):Prop:=
 ∀(pins:List (Addr×Obj)) (s:Shared) (σ:St) (H:Hp) (x:V) (xs:List V) (v:Value) (us:List Value) (Q:VK),Inv X pins σ H s->RelV x v->Vals xs us->r x xs H Q ->
  wpAny (model X.prog X.w) X.A (call (.builtin id) (v::us)) (EP X pins σ Q) X.xe s
theorem Vals.one:∀{x:V}{us:List Value},Vals [x] us->∃u,us=[u]/\RelV x u
 | _,_,.cons r .nil=>⟨_,rfl,r⟩
theorem Vals.eraseIdx:∀{xs:List V}{us:List Value}(i:Nat),Vals xs us->Vals (xs.eraseIdx i) (us.eraseIdx i)
 | _,_,_,.nil=>.nil
 | _,_,0,.cons _ t=>t
 | _,_,i+1,.cons r t=>.cons r (Vals.eraseIdx i t)
theorem Vals.rep {xs:List V}{us:List Value}(h:Vals xs us):∀k:Nat,Vals (List.replicate k xs).flatten (List.replicate k us).flatten
 | 0=>.nil
 | k+1=>by
  rw [List.replicate_succ,List.replicate_succ,List.flatten_cons,List.flatten_cons];exact Vals.append h (Vals.rep h k)
theorem sT {α:Type}:∀(l:List α) (i:Nat),(l.eraseIdx i).length<=l.length
 | [],_=>Nat.le_refl _
 | _::_,0=>Nat.le_succ _
 | _::r,i+1=>Nat.succ_le_succ (sT r i)
theorem foldl_rep (bw:List Value):∀(k:Nat) (acc:List Value),
  List.foldl (λx1 x2=>x1++x2) acc.toArray (List.replicate k bw.toArray)=(acc++(List.replicate k bw).flatten).toArray
 | 0,acc=>by simp
 | k+1,acc=>by
  have e:acc.toArray++bw.toArray=(acc++bw).toArray:=by simp
  have e2:(acc++bw)++(List.replicate k bw).flatten=acc++(List.replicate (k+1) bw).flatten:=by
   rw [List.replicate_succ,List.flatten_cons,List.append_assoc]
  rw [<-e2,<-foldl_rep bw k (acc++bw),<-e,List.replicate_succ,List.foldl_cons]
section
variable {X:Cx}{pins:List (Addr×Obj)}{σ:St}{H:Hp}{s:Shared}{l b:Addr}{xs ys zs:List V}
theorem Inv.W9 {bw its':List Value}{n:Nat}{f:Array Value->Array Value}{t':Nat}(I:Inv X pins σ H s) (hH:H l=some (.lst xs))
  (e:s.heap.get? l=some {cls:=.type "list",data:=.seq bw.toArray n}) (hf:f bw.toArray=its'.toArray) (hv:Vals ys its') (hz:ys.length<=sizeLine) :
  Inv X pins σ (upd H l (.lst ys)) {s with heap:=s.heap.update l (Obj.mapSeq f),toks:=t'}:=by
 have q:=PySem.IsL.update e f;rw [hf] at q;refine I.write (x:=l) (e:=l) (by rw [hH]; exact trivial) (.inl rfl) (λb' u hb hu=>(Heap.get?_update_other s.heap (Obj.mapSeq f) (Ne.symm hb)).trans hu) ⟨_,q⟩ ?_;exact⟨hz,its',_,hv,q⟩
theorem Inv.MP {bw:List Value}{t':Nat}(I:Inv X pins σ H s) (hv:Vals ys bw) (hz:ys.length<=sizeLine) :
  Inv X pins σ (upd H s.heap.objs.size (.lst ys)) {s with heap:=s.heap.push {cls:=.type "list",data:=.seq bw.toArray},toks:=t'}:=
 I.laid (λ_ _ q=>Heap.get?_push_of_some _ q) (Nat.le_refl _) ⟨hz,bw,0,hv,Heap.get?_push_size _ rfl⟩
theorem Inv.fresh (I:Inv X pins σ H s):H s.heap.objs.size=none:=I.bR.fresh (Nat.le_refl _)
theorem Inv.Hk (I:Inv X pins σ H s) (hH:H l=some (.lst xs)):xs.length<=sizeLine/\∃(bw:List Value) (n:Nat),Vals xs bw/\xs.length=bw.length/\s.heap.get? l=some {cls:=.type "list",data:=.seq bw.toArray n}:=by
 obtain⟨z,bw,n,r,e⟩:=I.bR l _ hH;exact⟨z,bw,n,r,r.length,e⟩
theorem Hl {n:Nat}(h:n<=sizeLine):Builtin.List.listTooLong n=false:=by
 unfold Builtin.List.listTooLong;exact decide_eq_false (by omega)
end
section
variable {X:Cx}
noncomputable def MQ:V->List V->Hp->VK->Prop:=λx vs H Q=>∃l xs y,x=.ref l/\vs=[y]/\H l=some (.lst xs)/\xs.length < sizeLine/\Q .bM (upd H l (.lst (xs++[y])))
theorem fA:W8 X "list.append" MQ:=by
 intro pins s σ H x vs v us Q I rx rv h;obtain⟨l,xs,y,rfl,rfl,hH,hz,q⟩:=h;cases rx;obtain⟨u,rfl,ru⟩:=rv.one;obtain⟨z,bw,n,r,hl,e⟩:=I.Hk hH;refine call_meets F.slot_list_append ⟨_,e,rfl⟩ F.entry_list_append (F.args_list_append_2 _ _) (PySem.list_append l bw.toArray n u (by rw [List.size_toArray]; omega)) ⟨e,?_⟩;refine⟨.bM,_,I.W9 (its':=bw++[u]) hH e (by simp) (r.append (.cons ru .nil)) ?_,rfl,q⟩;rw [List.length_append,List.length_singleton];omega
noncomputable def Su:V->List V->Hp->VK->Prop:=λx vs H Q=>∃l xs i k y,x=.ref l/\vs=[.int i]/\H l=some (.lst xs)/\-(2 ^ 63)<=i/\i < 2 ^ 63/\seqIndex? i xs.length=some k/\xs[k]?=some y/\Q y (upd H l (.lst (xs.eraseIdx k)))
theorem xj:W8 X "list.pop" Su:=by
 intro pins s σ H x vs v us Q I rx rv h;obtain⟨l,xs,i,k,y,rfl,rfl,hH,h1,h2,hk,hy,q⟩:=h;cases rx;obtain⟨u,rfl,ru⟩:=rv.one;obtain⟨t,rfl⟩:=ru;obtain⟨z,bw,n,r,hl,e⟩:=I.Hk hH;obtain⟨w,hw,xi⟩:=r.get hy;refine call_meets F.slot_list_pop ⟨_,e,rfl⟩ F.entry_list_pop (F.args_list_pop_2 _ _)
  (MeetsSeq.list_pop_at l bw.toArray n i t k w (fitsIndex_both h1 h2) (by rw [List.size_toArray,<-hl]; exact hk) (by rw [<-Array.getElem?_toList]; exact hw) (by rw [List.size_toArray]; omega)) ⟨e,?_⟩
 refine⟨y,_,I.W9 (its':=bw.eraseIdx k) hH e ?_ (r.eraseIdx k) ?_,xi,q⟩
 ·show bw.toArray.eraseIdxIfInBounds k=(bw.eraseIdx k).toArray;rw [List.eraseIdxIfInBounds_toArray]
 ·have:=sT xs k;omega
noncomputable def W_:R2:=λx y H Q=>∃l k xs,x=.ref l/\y=.int k/\H l=some (.lst xs)/\-(2 ^ 63)<=k/\k < 2 ^ 63/\xs.length*k.toNat<=sizeLine /\
 ∀p,H p=none->Q (.ref p) (upd H p (.lst (List.replicate k.toNat xs).flatten))
theorem len_rep {α:Type}(xs:List α) (k:Nat):(List.replicate k xs).flatten.length=k*xs.length:=by
 induction k with
 | zero=>simp
 | succ k ih=>rw [List.replicate_succ,List.flatten_cons,List.length_append,ih,Nat.succ_mul,Nat.add_comm]
theorem Hm:kX X (binaryOp .Mult) W_:=by
 intro pins s σ H x y v u Q I rx ry h;obtain⟨l,k,xs,rfl,rfl,hH,h1,h2,hz,q⟩:=h;cases rx;obtain⟨t,rfl⟩:=ry;obtain⟨z,bw,n,r,hl,e⟩:=I.Hk hH;have hlen:bw.toArray.size*k.toNat<=sizeLine:=by rw [List.size_toArray,<-hl]; exact hz
 have aaC:¬bw.toArray.size*k.toNat > (2 ^ 63 - 1) / 8:=by
  have:(sizeLine:Nat)<=(2 ^ 63 - 1) / 8:=by decide
  omega
 have aaD:¬(!Builtin.List.listFitsIndex k)=true:=by
  rw [fitsIndex_both h1 h2];exact Bool.false_ne_true
 have Xa:¬Builtin.List.listTooLong (bw.toArray.size*k.toNat)=true:=by
  rw [Hl hlen];exact Bool.false_ne_true
 have mE:List.foldl (λx1 x2=>x1++x2) #[] (List.replicate (if bw.toArray.isEmpty=true then 0 else k.toNat) bw.toArray)=(List.replicate k.toNat bw).flatten.toArray:=by
  have f0:∀m:Nat,List.foldl (λx1 x2=>x1++x2) #[] (List.replicate m bw.toArray)=(List.replicate m bw).flatten.toArray:=λm=>by
   have:=foldl_rep bw m [];rw [List.nil_append] at this;exact this
  rw [f0]
  cases bw with
  | nil=>simp
  | cons a r'=>rw [if_neg (by simp)]
 refine wpAny_binaryOp_repeat_ref (T:="list") (U:="int") (by decide) ⟨_,e,rfl⟩ (λs'=>typeIs_int s' k t) noFill_list_mul F.fills_int_mul F.slot_int_rmul repeat_list F.slot_int_index.lookup
  (call_meets F.slot_int_rmul (typeIs_int s k t) F.entry_int_rmul (F.args_int_rmul_2 _ _) (int___rmul___int_list k t l bw.toArray n)
   ⟨e,rfl,⟨_,e,rfl⟩,call_meets F.slot_list_mul ⟨_,e,rfl⟩ F.entry_list_mul (F.args_list_mul_2 _ _) (AutoListH.list___mul___list_int_3 l bw.toArray n k t aaD aaC Xa) ⟨e,?_⟩⟩)
 rw [mE];exact⟨.ref _,_,I.MP (t':=s.toks) (r.rep k.toNat) (by rw [len_rep,Nat.mul_comm]; exact hz),rfl,q _ I.fresh⟩
end
section
variable {prog:Program}{w:World}{A:Around}{E:Value->Shared->Prop}{s:Shared}
set_option maxRecDepth 100000 in
end
section
variable {X:Cx}
end
end L2
namespace Att
open PySem PySem.W PySem.Calls PyProof.Rows
theorem oh {P:Params}{h:Heap}:∀(ns:List Int) (vs:List Value),WellAll P h vs (ns.map WData.int)->IntsAre vs ns:=by
 intro ns;induction ns with
 | nil=>
  intro vs w;rw [List.map_nil] at w;cases w;exact .nil
 | cons n ns ih=>
  intro vs w;rw [List.map_cons] at w
  cases w with
  | cons a b=>
   cases a;exact .cons _ _ (ih _ b)
theorem FC {l:OpenLaw}{n:Nat}(hn:l.most=some n) {P:Params}{h:Heap}{args:List WData}{vals:List Value}
  (MR:l.row.toRowW.claim.pre args=true) (hwl:WellAll P h vals args) :
  ∃a vs ns,vals=[Value.ref a]/\args=[WData.list (ns.map WData.int)]/\h.get? a=some {cls:=.type "list",data:=.seq vs.toArray}/\IntsAre vs ns/\ns.length<=n:=by
 have hsh:WShape.hasAll [] args [.list .int]=true:=(pre_splitW MR).1;have hc:l.pre.holds [] {args:=args}=true:=(pre_splitW MR).2;obtain⟨d,r,rfl,h1,h2⟩:=hasAllW_cons hsh;obtain rfl:=hasAllW_nil h2;obtain⟨xs,rfl,h3⟩:=hasW_list h1;obtain⟨ns,rfl⟩:=items_int h3;have hlen:ns.length<=n:=by
  unfold OpenLaw.pre at hc;have h4:(WTm.not (.lt (.lit (.int (n:Int))) (.len (.arg 0)))).holds [] {args:=[.list (ns.map .int)]}=true:=by
   have h4:=(holds_andW hc).1;rw [hn] at h4;exact h4
  have h5:=condW_of h4 (w_not (w_lt w_lit (w_len_list (w_arg rfl))));rw [List.length_map] at h5;refine Nat.le_of_not_lt λq=>?_
  have q':(n:Int) < ((ns.length:Nat):Int):=by omega
  first
   | (rw [decide_eq_true q'] at h5; exact absurd h5 (by decide))
   | (simp at h5; omega)
 cases hwl with
 | cons w1 w2=>
  cases w2
  cases w1 with
  | list ho aaE=>exact⟨_,_,ns,rfl,rfl,ho,oh ns _ aaE,hlen⟩
theorem FD (l:OpenLaw) (args:List WData):l.row.toRowW.claim.post args (.bool true) args=true:=
 postW_of (r:=l.row.toRowW) (X:=(true == true))
  (show WShape.has [] (.bool true) .bool=true by first | rfl | decide | simp [WShape.has,WShape.arms,WShape.armsAll])
  (show(WTm.eq .res (.lit (.bool true))).value [] {args:=args,res:=some (.bool true),after:=args}=some (.bool (true == true)) from w_eq_bool (w_res rfl) w_lit) rfl
theorem xk {l:OpenLaw}{n:Nat}{q:Program}{loose:List Str}{XP:(Str->Option Value)->Heap->Prop}{YP:World->Heap->Prop}{d:DefRec}
  (hn:l.most=some n) (Od:d.params.defaults=[])
  (call:∀(w:World) (s₀ s₁:Shared) (mg mb:Str->Option Value) (fa:Addr) (o:Obj) (pm cd doc:Value) (a:Addr) (vs:List Value) (ns:List Int),
   Ground q loose [] XP w s₀ mg mb s₁.heap->YP w s₁.heap ->
   s₁.heap.get? fa=some o->o.data=.func (docDef d.name d.params d.body d.scope pm cd doc)->s₁.heap.CodeRec cd d.name->mg d.name=some (.ref fa) ->
   s₁.heap.get? a=some {cls:=.type "list",data:=.seq vs.toArray}->IntsAre vs ns->ns.length<=n->s₁.gens=#[] ->
   codeAny (model l.prog w) callerA (.call (.ref fa) ⟨[.ref a],[]⟩) (λr s'=>r=.ok (.ret (.bool true))/\OldK s₁.heap s'.heap/\s'.os=s₁.os/\AllBare s'.gens) s₁) :
  WalkO q loose XP YP l.row.toRowW d [] (λf vs=>PySem.call f vs):=by
 intro w s₀ s₁ mg mb G Y fa o pm cd doc dV kV ho hd GU hD Xb hg args vals as MR ade hrd hwl hlo;obtain rfl:dV=.none:=Dflts.none hD Od;obtain rfl:kV=.none:=Dflts.noKw hD;obtain⟨a,vs,ns,rfl,rfl,Sv,hints,hlen⟩:=FC hn MR hwl;refine enter_call (codeAny_mono (call w s₀ s₁ mg mb fa o pm cd doc a vs ns G Y ho (fd_plain hd) GU Xb Sv hints hlen hg) λr s' hq=>?_);obtain⟨rfl,h2,h3,h4⟩:=hq;exact⟨.inl ⟨.bool true,.bool true,[],rfl,λ_=>rfl,.bool true,FD l _,λ_=>⟨List.Pairwise.nil,λ_ hm=>(nomatch hm)⟩⟩,h2,h3,h4⟩
section
variable {prog:Program}{w:World}{A:Around}{E:Value->Shared->Prop}{s:Shared}{K:Frag}
end
end Att
namespace L2
open PySem PySem.Spec PyProof.Rows
theorem hV:∀{vs:List Value}{ns:List Int},IntsAre vs ns->Vals (ns.map V.int) vs
 | _,_,.nil=>.nil
 | _,_,.cons n t h=>.cons ⟨t,rfl⟩ (hV h)
noncomputable def Sw (H:Hp):Prop:=∀b,H b=none\/∃o xs,H b=some (.iY o (.lst xs))
theorem Hn {P:Program}{w:World}{K:PySem.W.Frag}{mg mb:Str->Option Value}{CX:uH}{k:Nat}{fa a:Addr}{fd:FuncData}{x:Str}{sp:Sp}{s₁:Shared}{vs:List Value}{ns:List Int}
  (KX:K.In s₁.heap) (sU:s₁.heap.Ns mainGlobals mg) (hb:s₁.heap.Ns builtinsNs mb) (hbb:∀x:Str,x≠"__name__"->mb x=bootBuiltins x) (aaF:s₁.heap.NoLimit) (hg:s₁.gens=#[])
  (ha:s₁.heap.get? a=some {cls:=.type "list",data:=.seq vs.toArray}) (hi:IntsAre vs ns) (hl:ns.length<=sizeLine) (hr:eY k callerA)
  (F:∀base:Heap,K.In base->base.Ns mainGlobals mg->aS P w K mg base CX k fa fd [x] sp) (Xc:∀(s:Shared) (u:Value),BindsTo s fd ⟨[u],[]⟩ [(x,u)])
  (Ob:∀H:Hp,Sw H->bf K H a (ns.map V.int)->sp [.ref a] H (λv _=>v=.bl true) λ_ _ _=>False)
  (hCX:∀H e s',CX [] H s₁ (λ_ _ _=>False) e s'->False) :
  codeAny (model P w) callerA (.call (.ref fa) ⟨[.ref a],[]⟩) (λr s'=>r=.ok (.ret (.bool true))/\OldK s₁.heap s'.heap/\s'.os=s₁.os/\AllBare s'.gens) s₁:=by
 have rv:=hV hi;have aaG:=hi.length;have core:∀H:Hp,Sw H->bf K H a (ns.map V.int)->kq P w H s₁.heap->(∀b,H b≠none->b=a)->(H a≠none->K.lookup a=none) ->
   codeAny (model P w) callerA (.call (.ref fa) ⟨[.ref a],[]⟩) (λr s'=>r=.ok (.ret (.bool true))/\OldK s₁.heap s'.heap/\s'.os=s₁.os/\AllBare s'.gens) s₁:=by
  intro H hO hS bR hA hK;have Eo:∀{b:Addr}{o:Obj},s₁.heap.get? b=some o->H b=none->(uy s₁.heap H).get? b=some o:=λe n=>GS e n
  have W3:∀{b:Addr}{o:Obj}{es:Array DictEntry}{ep:Nat},s₁.heap.get? b=some o->o.data=.dict es ep->H b=none:=λ{b o es ep} e d=>by
   cases q:H b with
   | none=>rfl
   | some u=>
    have e':b=a:=hA b (by rw [q]; simp);subst e';rw [ha] at e; cases e
    have d':Data.seq vs.toArray _=Data.dict es ep:=d;cases d'
  have nsK:∀{b:Addr}{m:Str->Option Value},s₁.heap.Ns b m->(uy s₁.heap H).Ns b m:=λ{b m} ⟨o,es,ep,e,d,r⟩=>⟨o,es,ep,Eo e (W3 e d),d,r⟩
  have hKb:K.In (uy s₁.heap H):=λb o e=>Eo (KX b o e) (by
   cases q:H b with
   | none=>rfl
   | some u=>
    have e':b=a:=hA b (by rw [q]; simp);subst e';rw [hK (by rw [q]; simp)] at e; cases e)
  have hM:Mod K mg (uy s₁.heap H):=⟨hKb,nsK sU,⟨mb,nsK hb,hbb⟩,let ⟨mc,h1,h2⟩:=aaF; ⟨mc,nsK h1,h2⟩⟩
  have e0:BZ P w K mg (uy s₁.heap H) callerA [] s₁ H:=⟨rfl,hM,λb o e=>MC e,Nat.le_of_eq (Fo _ _),trivial,λb hb=>absurd (show b∈([]:List Addr) from hb) (by simp),bR,.of_eq hg⟩
  refine codeAny_mono ((F _ hKb (nsK sU)).run callerA [] s₁ H ⟨[.ref a],[]⟩ [.ref a] [.ref a] _ _ hr e0 (Xc s₁ (.ref a)) (.cons rfl .nil) (Ob H hO hS)) λr s' h=>?_
  cases r with
  | error e=>exact(hCX H e s' h).elim
  | ok fl=>
   cases fl with
   | next=>exact False.elim h
   | brk=>exact False.elim h
   | cont=>exact False.elim h
   | ret u=>
    obtain⟨v,H',os,bare,un,aaH,r',q⟩:=h;have q':v=.bl true:=q;subst q';obtain rfl:u=Value.bool true:=r';refine⟨rfl,OldK.of_keep λb o e=>?_,os,bare⟩
    cases q:H b with
    | none=>exact un.keep b o e q (by intro z; exact absurd (show b∈([]:List Addr) from z) (by simp)) (by simp)
    | some u=>
     rcases hO b with z | ⟨ob,xs,z⟩
     ·rw [q] at z; cases z
     ·have z2:=un.oS b ob _ z;obtain⟨e1,_⟩:=bR b _ z;obtain⟨e2,_⟩:=aaH b _ z2;rw [e] at e1; cases e1
      exact e2
 cases hk:K.lookup a with
 | some o=>
  have e:=KX a o hk;rw [ha] at e;cases e;refine core (λ_=>none) (λ_=>.inl rfl) (.inr ⟨_,vs.toArray,_,hk,rfl,rfl,rfl,by rw [List.size_toArray,aaG]; exact hl,by simpa using rv⟩) (λb u z=>by have z':(none:Option HO)=some u:=z; cases z') (λb z=>absurd rfl z) λz=>absurd rfl z
 | none=>
  refine core (λb=>if b=a then some (.iY {cls:=.type "list",data:=.seq vs.toArray} (.lst (ns.map V.int)))else none) (λb=>?_) (.inl (.inr ⟨{cls:=.type "list",data:=.seq vs.toArray},if_pos rfl⟩)) (λb u z=>?_) (λb z=>?_) λ_=>hk
  ·by_cases hb:b=a
   ·exact .inr ⟨_,_,if_pos hb⟩
   ·exact .inl (if_neg hb)
  ·by_cases hb:b=a
   ·have z':=(if_pos hb).symm.trans z;cases z';subst hb;exact⟨ha,by rw [List.length_map]; exact hl,vs,_,rv,ha⟩
   ·have z':=(if_neg hb).symm.trans z;cases z'
  ·by_cases hb:b=a
   ·exact hb
   ·exact absurd (if_neg hb) z
theorem MS {l:PySem.W.OpenLaw}{n k:Nat}{q:Program}{loose:List Str}{XP:(Str->Option Value)->Heap->Prop}{YP:World->Heap->Prop}{d:DefRec}{K:Params->PySem.W.Frag}{CX:World->uH}{sp:World->Sp}{x:Str}
  (hn:l.most=some n) (hn2:n<=sizeLine) (Od:d.params.defaults=[]) (hr:eY k callerA)
  (hY:∀(w:World) (h:Heap),YP w h->(K w.params).In h)
  (F:∀(w:World) (mg:Str->Option Value) (fa:Addr) (h:Heap),(K w.params).In h->h.Ns mainGlobals mg->mg d.name=some (.ref fa) ->
   ∃fd:FuncData,(∀(s:Shared) (u:Value),BindsTo s fd ⟨[u],[]⟩ [(x,u)]) /\
    ∀base:Heap,(K w.params).In base->base.Ns mainGlobals mg->aS l.prog w (K w.params) mg base (CX w) k fa fd [x] (sp w))
  (Ob:∀(w:World) (H:Hp) (a:Addr) (ns:List Int),ns.length<=n->Sw H->bf (K w.params) H a (ns.map V.int)->sp w [.ref a] H (λv _=>v=.bl true) λ_ _ _=>False)
  (hCX:∀(w:World) (H:Hp) (s:Shared) (e:Value) (s':Shared),CX w [] H s (λ_ _ _=>False) e s'->False) :
  PySem.W.WalkO q loose XP YP l.row.toRowW d [] (λf vs=>PySem.call f vs):=by
 refine Att.xk hn Od λw s₀ s₁ mg mb fa o pm cd doc a vs ns G Y ho hd GU Xb Sv hints hlen hg=>?_
 have KX:=hY w _ Y;obtain⟨fd,hb,hF⟩:=F w mg fa _ KX G.T.g Xb;exact Hn KX G.T.g G.T.b G.T.builtins G.T.nolimit hg Sv hints (Nat.le_trans hlen hn2) hr hF hb (λH hO hS=>Ob w H a ns hlen hO hS) λH e s'=>hCX w H s₁ e s'
noncomputable def inClass (s:Stmt) (j:Nat):Stmt:=match s with
 | .ClassDef _ _ _ body _ _ _ _ _ _ _=>body.getD j (.Pass ⟨0,0,0,0⟩)
 | _=>.Pass ⟨0,0,0,0⟩
noncomputable def e_ (s:Stmt):Arguments:=match s with
 | .FunctionDef _ a _ _ _ _ _ _ _ _=>a
 | _=>{posonlyargs:=[],args:=[],vararg:=none,kwonlyargs:=[],kw_defaults:=[],kwarg:=none,defaults:=[]}
noncomputable def dO (s:Stmt):List Stmt:=match s with
 | .FunctionDef _ _ b _ _ _ _ _ _ _=>b
 | _=>[]
noncomputable def ao (s:Stmt):Scope:=match s with
 | .FunctionDef _ _ _ _ _ _ sc _ _ _=>sc
 | _=>{kind:=.function,names:=[],isGenerator:=false,isCoroutine:=false}
noncomputable abbrev cU:uH:=λ_ _ _ _ _ _=>False
noncomputable abbrev E0:XK:=λ_ _ _=>False
theorem aC {X:Cx}:Passes cU X E0:=λ_ _ _ _ _ _ _ h=>h.elim
structure cN (K:PySem.W.Frag) (x qual:Str) (st:Stmt) (f:Addr) (fd:FuncData):Prop where
 ex:∃(oc:Value) (od:Option Addr) (kV doc pm:Value) (an:Option Addr) (cf ct:Value) (My:Array (Option Value)),
  fd=PySem.W.fnOf x qual (e_ st) (dO st) (ao st) .none kV doc pm an cf ct/\K.lookup f=some ⟨oc,od,.func fd,My⟩/\PySem.W.codeIn K cf qual=true
 kp:PySem.W.keepIn K (.ref f)=true
section
variable {P:Program}{w:World}{K:PySem.W.Frag}{mg:Str->Option Value}{base:Heap}
theorem cN.ok {x qual:Str}{st:Stmt}{f:Addr}{fd:FuncData}{N ps:List Str}{k:Nat}{sp:Sp}(F:cN K x qual st f fd) (S:aB N ps (ao st)) (len:∀vs H Q E,sp vs H Q E->vs.length=ps.length)
  (He:∀(cf:Value) (A:Around) (outer:List Env) (s:Shared) (H:Hp) (vs:List V) (Q:VK) (E:XK),eY k (A.deeper (envOfC qual (ao st) s.heap.objs.size f cf))->sp vs H Q E ->
   ∃t,wL (xc cU P w K mg base N qual (ao st) f cf A outer s H E).WJ (dO st) t/\t {nx:=λ_ H'=>Q .bM H',rt:=Q} (start N vs) H):aS P w K mg base cU (k+1) f fd ps sp:=by
 obtain⟨oc,od,kV,doc,pm,an,cf,ct,My,rfl,lk,GU⟩:=F.ex;refine W4 lk GU S len λA outer s H vs Q E hr Ob=>?_
 obtain⟨t,h,q⟩:=He cf A outer s H vs Q E hr Ob;exact⟨t,h.WJ,q⟩
theorem cN.binds {x qual:Str}{st:Stmt}{f:Addr}{fd:FuncData}{ps:List Str}(F:cN K x qual st f fd)
  (h:∀(kV doc pm:Value) (an:Option Addr) (cf ct:Value) (us:List Value),us.length=ps.length->bindArgs (PySem.W.fnOf x qual (e_ st) (dO st) (ao st) .none kV doc pm an cf ct) ⟨us,[]⟩=pure (ps.zip us)):Binds K fd ps []:=by
 obtain⟨oc,od,kV,doc,pm,an,cf,ct,My,rfl,lk,GU⟩:=F.ex;exact .all (h kV doc pm an cf ct)
theorem Ho {x qual:Str}{st:Stmt}{f:Addr}{oc:Value}{od an:Option Addr}{My:Array (Option Value)}{kV doc pm cf ct:Value}(l:K.lookup f=some ⟨oc,od,.func (PySem.W.fnOf x qual (e_ st) (dO st) (ao st) .none kV doc pm an cf ct),My⟩)
  (c:PySem.W.codeIn K cf qual=true) (k:PySem.W.keepIn K (.ref f)=true):cN K x qual st f (PySem.W.fnOf x qual (e_ st) (dO st) (ao st) .none kV doc pm an cf ct):=⟨⟨oc,od,kV,doc,pm,an,cf,ct,My,rfl,l,c⟩,k⟩
end
theorem bI {A:Around}{k:Nat}(hr:eY k A):A.units+1 < cLine:=Nat.lt_of_le_of_lt (Nat.add_le_add_left (by decide:1<=64) _) hr.units
theorem aJ {n:Nat}(h:n<=1000):n < sizeLine:=Nat.lt_of_le_of_lt h (by decide)
section
variable {X:Cx}
theorem pv (i:Nat) {x:Str}{pos:Pos}(hN:X.N[i]?=some x:=by rfl) (hv:WC X.env.scope x:=by first | exact Or.inl rfl | exact Or.inr (Or.inl rfl) | exact Or.inr (Or.inr rfl)) (hd:(x == ("__debug__":Str))=false:=by decide)
  (GU:(x == ("__classdict__":Str))=false:=by decide):PE X (.Name x pos) (BO i):=R5 hN hv hd GU
end
theorem cV {A B:Prop}(h:B):if false=true then A else B:=by
 rw [if_neg Bool.false_ne_true];exact h
theorem hW {A B:Prop}(h:A):if true=true then A else B:=by
 rw [if_pos rfl];exact h
theorem aY {c A B:Prop} [Decidable c] (h1:c->A) (h2:¬c->B):if c then A else B:=by
 by_cases h:c
 ·rw [if_pos h];exact h1 h
 ·rw [if_neg h];exact h2 h
noncomputable def aj (H H':Hp):Prop:=∀b o,H b=some o->H' b=some o
theorem aj.refl (H:Hp):aj H H:=λ_ _ h=>h
theorem aj.trans {H H1 H2:Hp}(a:aj H H1) (b:aj H1 H2):aj H H2:=λc o h=>b c o (a c o h)
theorem aj.free {H H':Hp}(e:aj H H') {l:Addr}(h:H' l=Option.none):H l=Option.none:=by
 cases q:H l with
 | none=>rfl
 | some o=>
  rw [e l o q] at h;cases h
theorem aj.seq {K:PySem.W.Frag}{H H':Hp}{a:Addr}{xs:List V}(e:aj H H') (h:bf K H a xs):bf K H' a xs:=by
 rcases h with (h | ⟨o,h⟩) | h
 ·exact .inl (.inl (e _ _ h))
 ·exact .inl (.inr ⟨o,e _ _ h⟩)
 ·exact .inr h
theorem B2:bootBuiltins "abs"=some (.builtin "abs"):=by decide +kernel
theorem dS:bootBuiltins "len"=some (.builtin "len"):=by decide +kernel
theorem a_:bootBuiltins "isinstance"=some (.builtin "isinstance"):=by decide +kernel
theorem uK:bootBuiltins "int"=some (.type "int"):=by decide +kernel
theorem uL:bootBuiltins "bool"=some (.type "bool"):=by decide +kernel
theorem kr:bootBuiltins "str"=some (.type "str"):=by decide +kernel
theorem fM:bootBuiltins "list"=some (.type "list"):=by decide +kernel
theorem oY:bootBuiltins "tuple"=some (.type "tuple"):=by decide +kernel
theorem k_:bootBuiltins "dict"=some (.type "dict"):=by decide +kernel
section
variable {X:Cx}{pos:Pos}
noncomputable def Ep (j:Int):Prop:=0 < j/\(j < 1073741824\/j.natAbs.log2 < 9000)
theorem Ep.small {j:Int}(h:0 < j) (h2:j < 1073741824):Ep j:=⟨h,.inl h2⟩
theorem cK:kX X (binaryOp .FloorDiv) (rI (λ_ j=>Ep j) λi j=>.int (i / j)):=opI λi j _ _ _ _ _ hc q=>by
 have h1:(0:Int) < j:=hc.1;refine floordiv_int (by omega) (by rw [Int.fdiv_eq_ediv_of_nonneg i (by omega)]; exact q) (.inl ?_);rcases hc.2 with h2 | h2
 ·exact PyProof.noPylong_small (by omega)
 ·exact PyProof.noPylong_of_log2 h2
noncomputable def Xd (K:PySem.W.Frag):R2:=λx y H Q=>∃l b xs zs,x=.ref l/\y=.ref b/\bf K H l xs/\bf K H b zs/\xs.length+zs.length<=sizeLine/\∀p,H p=none->Q (.ref p) (upd H p (.lst (xs++zs)))
theorem iF:kX X (binaryOp .Add) (Xd X.K):=by
 intro pins s σ H x y v u Q I rx ry h;obtain⟨l,b,xs,zs,rfl,rfl,hH,hB,hz,q⟩:=h;cases rx;cases ry;obtain⟨bw,r,hl,z⟩:=I.list hH;obtain⟨cA,r2,gg,z2⟩:=I.list hB;obtain⟨⟨cls,dd,data,sl⟩,n,ho,hc,hdd,hd⟩:=hl;obtain⟨⟨aaI,dd2,data2,sl2⟩,n2,FE,MT,adf,hd2⟩:=gg;simp only at hc hd MT hd2;subst hc hd MT hd2;have l1:=r.length;have l2:=r2.length;have ea:bw.toArray++cA.toArray=(bw++cA).toArray:=by simp
 refine concat_meets ⟨_,ho,rfl⟩ ⟨_,FE,rfl⟩ noFill_list_add seq_list_add PySem.F.slot_list_add PySem.F.entry_list_add (PySem.F.args_list_add_2 _ _) (list_addW l b bw.toArray cA.toArray n n2 dd dd2 sl sl2 (by rw [List.size_toArray,List.size_toArray]; omega)) ⟨ho,FE,?_⟩;rw [ea];exact⟨.ref _,_,I.MP (t':=s.toks) (r.append r2) (by rw [List.length_append]; omega),rfl,q _ I.fresh⟩
end
section
variable {X:Cx}
end
end L2
namespace L2
open PySem PySem.Spec PyProof.Rows
theorem Sx (CX:uH) (P:Program) (w:World) (K:PySem.W.Frag) (mg:Str->Option Value) (base:Heap) (N:List Str) (qual:Str) (scope:Scope) (f:Addr) (cd:Value) (A:Around) (outer:List Env) (s:Shared) (H:Hp) (E:XK) :
  (xc CX P w K mg base N qual scope f cd A outer s H E).K=K:=rfl
theorem lj (K:PySem.W.Frag) (t:String):PySem.W.kitOne K (.type t) (.type t)=some true:=by
 unfold PySem.W.kitOne;rw [if_pos (by simp)]
theorem MU (K:PySem.W.Frag) {t u:String}{b:Bool}(e1:(Value.type t == Value.type u)=false) (e2:PySem.W.kitMeta u=true) (e3:(fastBuiltinMro t).map (·.contains (Value.type u))=some b):PySem.W.kitOne K (.type t) (.type u)=some b:=by
 unfold PySem.W.kitOne;rw [e1,if_neg Bool.false_ne_true];show(if PySem.W.kitMeta u=true then _ else _)=_;rw [if_pos e2];exact e3
theorem aj.put {H:Hp}{b:Addr}{o:HO}(h:H b=none):aj H (upd H b o):=λc u e=>by
 rw [au (az e h)];exact e
theorem MV (i j:Int):wZ (.int i) (.int j)=true:=rfl
theorem MW (i j:Bool):wZ (.bl i) (.bl j)=true:=rfl
theorem MX (i j:PySem.Str):wZ (.str i) (.str j)=true:=rfl
theorem MY (i:Int):wZ (.int i) .bM=true:=rfl
theorem MZ (i:Int):wZ .bM (.int i)=true:=rfl
noncomputable def cP (X:Cx) (N:List Str) (scope:Scope) (cl:List (Str×Addr)) (C:Addr) (s:Shared) (H:Hp) (fp:List Addr):Cx:=
 {X with N:=N,s₀:=s,H₀:=H,env:=compEnvC scope cl C X.env,outer:=X.stack,stack:=X.stack,ex:=fp,fn:=λ_=>false,pn:=[],xe:=λ_ _=>False}
noncomputable def bP (fr:List Nat) (σ:St) (v:Option V):St:=v::fr.map λj=>(σ[j]?).join
structure FF (X:Cx) (x:Str) (ns:List Str) (fr:List Nat) (scope:Scope) (cl:List (Str×Addr)):Prop where
 rV:closureFor scope X.env=pure cl
 iG:∀y∈scope.names,y.2≠.cell
 kind:scope.kind=.function
 own:∀y∈scope.names,y.2=.local->scope.names.lookup y.1=some .local
 var:scope.names.lookup x=some .local
 sub:∀z c,cl.lookup z=some c->X.env.cells.lookup z=some c
 has:∀z,((relabel scope X.env).names.lookup z=some .cell\/(relabel scope X.env).names.lookup z=some .free)->∃c,cl.lookup z=some c
 len:ns.length=fr.length
 xl:∀(k:Nat) z j,ns[k]?=some z->fr[k]?=some j->X.N[j]?=some z/\X.env.scope.names.lookup z=some .cell/\((relabel scope X.env).names.lookup z=some .cell\/(relabel scope X.env).names.lookup z=some .free)
 nd:(x::ns).Nodup
inductive uM (P:Expr->TT->Prop):List Expr->TT->Prop where
 | nil:uM P [] λ_ H Q=>Q true H
 | one {c:Expr}{t:TT}(h:P c t):uM P [c] t
noncomputable def mF (J:It) (fr:List Nat) (tt:TT) (te:TE) (σ:St) (D:Addr) (Q:Hp->Prop) (H:Hp):Prop:=
 ∃W:Nat->Nat->Hp->Prop,(∃m,W 0 m H)/\∀i m H2,W i m H2->(J.stop i H2/\Q H2)\/(J.go i H2/\∀v H',J.Sa i H2 v H'->tt (bP fr σ (some v)) H' λb H3=>
  if b=true then te (bP fr σ (some v)) H3 λy H4=>∃ys,H4 D=some (.lst ys)/\ys.length < sizeLine/\∃m',m' < m/\W (i+1) m' (upd H4 D (.lst (ys++[y])))else ∃m',m' < m/\W (i+1) m' H3)
theorem xm {A B:Prop}(h:if true=true then A else B):A:=by
 rw [if_pos rfl] at h;exact h
section
variable {X:Cx}{pins:List (Addr×Obj)}{σ:St}{H:Hp}{s:Shared}{x:Str}{ns:List Str}{fr:List Nat}{scope:Scope}{cl:List (Str×Addr)}{fp:List Addr}
theorem Oe (I:Inv X pins σ H s) (L:FF X x ns fr scope cl) (hf:∀b∈fp,hG X pins H b) (ho:∀b∈fp,b < s.heap.objs.size):(cP X (x::ns) scope cl s.heap.objs.size s H fp).Ok where
 mod:=I.ok.mod
 kind:=L.kind
 glob:=I.ok.glob
 blt:=I.ok.blt
 above:=Nat.le_refl _
 inj:=λa b c h1 h2=>I.ok.inj a b c (L.sub a c h1) (L.sub b c h2)
 has:=λz h=>L.has z h
 RZ:=λ_ _ h=>nomatch h
 hd:=I.ok.hd
 frames:=I.ok.frames
 Wg:=.inl rfl
 NW:=λb hb=>⟨Nat.ne_of_lt (ho b hb),λz c h=>(hf b hb).2.2.2.2.1 z c (L.sub z c h)⟩
 bs:=I.bs
 Fp:=Nat.le_trans I.ok.Fp I.sz
 wR:=λb o e hb=>by
  rcases (hf b hb).2.2.2.1 with h | h
  ·exact I.ok.wR b o e h
  ·exact absurd (Nat.lt_of_lt_of_le (Heap.lt_size e) (Nat.le_trans I.ok.Fp h)) (Nat.lt_irrefl _)
 wU:=λb hb hs=>by
  rcases List.mem_cons.mp (I.uz b hs)with h | h
  ·exact(hf b hb).2.1 h
  ·exact(hf b hb).2.2.1 h
 kU:=I.stack
 ME:=I.uA
theorem M0 {fr:List Nat}{σ:St}{v:Option V}{k:Nat}{u:V}(h:(bP fr σ v)[k+1]?=some (some u)):∃j,fr[k]?=some j/\σ[j]?=some (some u):=by
 unfold bP at h;rw [List.getElem?_cons_succ,List.getElem?_map] at h
 cases e:fr[k]? with
 | none=>rw [e] at h; cases h
 | some j=>
  rw [e] at h;refine⟨j,rfl,?_⟩
  cases e2:σ[j]? with
  | none=>simp [e2] at h
  | some o=>simp [e2] at h; rw [h]
theorem Hq {h':Heap}{t':Nat}(I:Inv X pins σ H s) (L:FF X x ns fr scope cl) (hf:∀b∈fp,hG X pins H b) (ho:∀b∈fp,b < s.heap.objs.size)
  (hn:h'.Ns s.heap.objs.size λ_=>none) (hk:∀b o,s.heap.get? b=some o->h'.get? b=some o) :
  Inv (cP X (x::ns) scope cl s.heap.objs.size s H fp) [] (bP fr σ none) H {s with heap:=h',toks:=t'} where
 ok:=Oe I L hf ho
 os:=rfl
 bare:=I.bare
 base:=Un.kept hk
 loc:=by
  refine⟨_,hn,λi z v e1 e2 e3=>?_⟩
  cases i with
  | zero=>cases e2
  | succ k=>
   have Xe:ns[k]?=some z:=e1;obtain⟨j,ej,ev⟩:=M0 e2;obtain⟨hN,hc,hy⟩:=L.xl k z j Xe ej;obtain⟨m,hm,hl⟩:=I.loc;obtain⟨u,r,l⟩:=hl j z v hN ev (.inr (.inl hc));refine⟨u,r,.inr ⟨hy,?_⟩⟩;rcases l with ⟨l,_⟩ | ⟨_,c,M3,⟨o,FE,hd⟩⟩
   ·have:X.env.scope.names.lookup z=some .local:=l;rw [hc] at this;cases this
   ·obtain⟨c',NZ⟩:=L.has z hy;have e:=L.sub z c' NZ;rw [M3] at e;cases e;exact⟨c,NZ,o,hk c o FE,hd⟩
 cell:=λz c e=>by
  obtain⟨v,o,FE,hd⟩:=I.cell z c (L.sub z c e);exact⟨v,o,hk c o FE,hd⟩
 free:=I.fresh
 fQ:=λz c e=>I.fQ z c (L.sub z c e)
 pin:=λp hp=>nomatch hp
 bR:=I.bR.kept hk
 len:=by
  show(bP fr σ none).length=(x::ns).length;unfold bP;rw [List.length_cons,List.length_map,List.length_cons,L.len]
theorem Hr {elt iter:Expr}{px:Pos}{ifs:List Expr}{pos:Pos}{J:It}{it D:Addr}{tn:Nat->Heap->Prop}{tt:TT}{te:TE}{Qe:Hp->Prop}{R:Result->Shared->Prop}{s4:Shared}
  (hc:X.calm=true) (L:FF X x ns fr scope cl) (T:Turn X.prog X.w X.K (.Name x px) J fp it tn) (hf:∀b∈fp,hG X pins H b) (ho:∀b∈fp,b < s.heap.objs.size) (I:Inv X pins σ H s)
  (hE:PE (cP X (x::ns) scope cl s.heap.objs.size s H fp) elt te) (hT:uM (PT (cP X (x::ns) scope cl s.heap.objs.size s H fp)) ifs tt) (hw:mF J fr tt te σ D Qe H)
  (I4:Inv (cP X (x::ns) scope cl s.heap.objs.size s H fp) [] (bP fr σ none) H s4) (Xf:tn 0 s4.heap)
  (hR:∀(s':Shared) (H':Hp) (v:Option V),Inv (cP X (x::ns) scope cl s.heap.objs.size s H fp) [] (bP fr σ v) H' s'->Qe H'->R (.ok .next) s') :
  codeAny (model X.prog X.w) X.A (.compStart (.ListComp elt [⟨.Name x px,iter,ifs,0⟩] scope pos) 0 (.ref it) (.ref D) (compEnvC scope cl s.heap.objs.size X.env)) R s4:=by
 obtain⟨W,⟨m0,w0⟩,turn⟩:=hw;have Sy:=Oe I L hf ho;have Hs:Loc (cP X (x::ns) scope cl s.heap.objs.size s H fp).env.scope x:=.inl (lookup_relabel_local L.var);have oW:∀{H':Hp},(∀b∈fp,H' b=none)->∀b∈fp,hG (cP X (x::ns) scope cl s.heap.objs.size s H fp) [] H' b:=λhn b hb=>
  ⟨hn b hb,(Sy.NW b hb).1,Sy.wU b hb,.inl hb,(Sy.NW b hb).2,λp hp=>nomatch hp⟩
 have fr0:∀b∈fp,H b=none:=λb hb=>(hf b hb).1
 have loop:codeAny (model X.prog X.w) X.A (.compLoop (.ListComp elt [⟨.Name x px,iter,ifs,0⟩] scope pos) 0 (.ref it) (.ref D) (compEnvC scope cl s.heap.objs.size X.env)) R s4:=by
  refine codeAny_loop rfl (λn s'=>∃i v H',Inv (cP X (x::ns) scope cl s.heap.objs.size s H fp) [] (bP fr σ v) H' s'/\tn i s'.heap/\(∀b∈fp,H' b=none)/\W i n H') (λn s3 hI=>?_) m0 ⟨0,none,H,I4,Xf,fr0,w0⟩;obtain⟨i,v0,H3,I3,N9,GQ,w3⟩:=hI;show wpAny _ X.A ((compTurn (.ListComp elt [⟨.Name x px,iter,ifs,0⟩] scope pos) 0 (.ref it) (.ref D) (compEnvC scope cl s.heap.objs.size X.env)).onRaise (λy=>do noteFrame y (compEnvC scope cl s.heap.objs.size X.env); theTreesLotGoes y)) _ _ s3;refine wpAny_noted ?_;rw [compTurn_list];have low:∀{α:Type}{t:Sem α}{Q Q':α->Shared->Prop}{E:Value->Shared->Prop}{s5:Shared},wpAny (model X.prog X.w) X.A t Q (λ_ _=>False) s5->(∀a s6,Q a s6->Q' a s6)->wpAny (model X.prog X.w) X.A t Q' E s5:=
   λh hq=>wpAny_mono h hq λ_ _ z=>z.elim
  rcases turn i n H3 w3 with ⟨stop,q⟩ | ⟨go,step⟩
  ·refine wpAny_bind (wpAny_standAt (wpAny_bind (low (T.done (cP X (x::ns) scope cl s.heap.objs.size s H fp) rfl rfl rfl hc i [] s3 _ H3 (λ_ _=>False) I3 (oW GQ) N9 stop) λr s5 hr=>?_)));obtain⟨hr,I5⟩:=hr;subst hr;exact wpAny_pure (hR s5 H3 v0 I5 q)
  ·refine wpAny_bind (wpAny_standAt (wpAny_bind (low (T.item (cP X (x::ns) scope cl s.heap.objs.size s H fp) rfl rfl rfl hc i [] s3 _ H3 (λ_ _=>False) I3 (oW GQ) N9 go) λr s5 hr=>?_)));obtain⟨u,hr,h5⟩:=hr;subst hr;refine wpAny_bind (low h5 λ_ s6 h6=>?_);obtain⟨y,H6,I6,r6,y6,Sz,fr6⟩:=h6;have I6':=I6.pinned (oW fr6) (T.obj _ _ Sz);have hg:PG (cP X (x::ns) scope cl s.heap.objs.size s H fp) (.Name x px) (nC 0):=aU (i:=0) L.nd rfl Hs (.inr (lookup_relabel_local L.var));refine wpAny_bind (low (hg _ s6 _ H6 y u (λσ' H'=>σ'=bP fr σ (some y)/\H'=H6) I6' r6 ⟨rfl,rfl⟩) λ_ s7 h7=>?_);obtain⟨σ7,H7,I7,e7,e7'⟩:=h7;subst e7 e7';have back:∀{H8:Hp}{s8:Shared},Inv (cP X (x::ns) scope cl s.heap.objs.size s H fp) ([]++jf fp s6.heap) (bP fr σ (some y)) H8 s8->(∃m',m' < n/\W (i+1) m' H8) ->
     ∃m,m < n/\∃i v H',Inv (cP X (x::ns) scope cl s.heap.objs.size s H fp) [] (bP fr σ v) H' s8/\tn i s8.heap/\(∀b∈fp,H' b=none)/\W i m H':=λ{H8 s8} I8 hm=>by
    obtain⟨m',hm,w8⟩:=hm;refine⟨m',hm,i+1,some y,H8,I8.hJ,T.keep _ _ _ Sz λb hb o e=>(I8.pin (b,o) (List.mem_append_right _ (List.mem_append_right _ (fz hb e)))).1,λb hb=>?_,w8⟩;obtain⟨o,e,d⟩:=T.obj _ _ Sz b hb;exact(I8.pin (b,o) (List.mem_append_right _ (List.mem_append_right _ (fz hb e)))).2.1
   have xn:=step y _ y6;have emit:∀{H8:Hp}{s8:Shared},Inv (cP X (x::ns) scope cl s.heap.objs.size s H fp) ([]++jf fp s6.heap) (bP fr σ (some y)) H8 s8 ->
     te (bP fr σ (some y)) H8 (λy H4=>∃ys,H4 D=some (.lst ys)/\ys.length < sizeLine/\∃m',m' < n/\W (i+1) m' (upd H4 D (.lst (ys++[y])))) ->
     wpAny (model X.prog X.w) X.A (do let _ <-call (.builtin "list.append") [.ref D,<-eval elt (compEnvC scope cl s.heap.objs.size X.env)]) (λ_ s9=>∃m,m < n/\∃i v H',Inv (cP X (x::ns) scope cl s.heap.objs.size s H fp) [] (bP fr σ v) H' s9/\tn i s9.heap/\(∀b∈fp,H' b=none)/\W i m H') (λ_ _=>False) s8:=λ{H8 s8} I8 h8=>by
    refine wpAny_bind (cg (hE _ s8 _ H8 _ I8 h8) λv9 s9 h9=>?_);obtain⟨z,H9,I9,r9,ys,hD,hlen,hm⟩:=h9;refine wpAny_bind (cg (fA (X:=cP X (x::ns) scope cl s.heap.objs.size s H fp) _ s9 _ H9 (.ref D) [z] (.ref D) [v9] (λ_ H'=>∃m',m' < n/\W (i+1) m' H') I9 rfl (.cons r9 .nil) ⟨D,ys,z,rfl,rfl,hD,hlen,hm⟩) λv10 M4 h10=>?_);obtain⟨_,Of,I10,_,SA⟩:=h10;exact wpAny_pure (back I10 SA)
   cases hT with
   | nil=>
    refine wpAny_bind (wpAny_tests_nil ?_);refine wpAny_bind (low (emit I7 (xm xn)) λ_ s9 h9=>wpAny_pure ⟨rfl,h9⟩)
   | one hP=>
    refine wpAny_bind (wpAny_tests_one (low (hP _ s7 _ _ _ I7 xn) λb s8 h8=>?_));obtain⟨H8,I8,q8⟩:=h8
    cases b with
    | false=>
     have q9:∃m',m' < n/\W (i+1) m' H8:=q8;exact wpAny_pure ⟨rfl,back I8 q9⟩
    | true=>
     exact wpAny_bind (low (emit I8 q8) λ_ s9 h9=>wpAny_pure ⟨rfl,h9⟩)
 exact codeAny_compStart_list loop (T.self X.A 0 _ _ _ Xf loop)
theorem Ht {s':Shared}{H':Hp}{σ':St}(I:Inv X pins σ H s) (hf:∀b∈fp,hG X pins H b) (I':Inv (cP X (x::ns) scope cl s.heap.objs.size s H fp) [] σ' H' s'):Inv X pins σ H' s':=
 I.N0 (ch:=fp) I'.os I'.base I'.bR I'.bare λb hb=>⟨(hf b hb).2.2.2.1,(hf b hb).2.1,(hf b hb).2.2.2.2.1,(hf b hb).2.2.2.2.2⟩
theorem SD {elt iter:Expr}{px:Pos}{ifs:List Expr}{pos:Pos}{J:It}{it:Addr}{tn:Nat->Heap->Prop}{tt:TT}{te:TE}{Qe:Addr->Hp->Prop}{R:Value->Addr->Result->Shared->Prop}{E:Value->Shared->Prop}
  (hc:X.calm=true) (L:FF X x ns fr scope cl) (T:Turn X.prog X.w X.K (.Name x px) J fp it tn) (hf:∀b∈fp,hG X pins H b) (I:Inv X pins σ H s) (st:tn 0 s.heap)
  (hE:∀C s H,PE (cP X (x::ns) scope cl C s H fp) elt te) (hT:∀C s H,uM (PT (cP X (x::ns) scope cl C s H fp)) ifs tt) (hw:∀D,H D=none->mF J fr tt te σ D (Qe D) (upd H D (.lst [])))
  (hR:∀(D C:Addr) (s':Shared) (H':Hp),Inv X pins σ H' s'->Qe D H'->(∃m o,s'.heap.get? C=some o/\(∀v,o.data≠.cell v)/\∀h':Heap,h'.get? C=some o->h'.Ns C m)->H' C=none->C≠X.env.locals->C∉X.fs->X.s₀.heap.objs.size<=C ->
   (∀z c,X.env.cells.lookup z=some c->c≠C)->(∀p∈X.pn++pins,p.1≠C)->R (.ref D) C (.ok .next) s') :
  wpAny (model X.prog X.w) X.A (newList []) (λacc s₃=>wpAny (model X.prog X.w) X.A (newFunctionEnv scope X.env.globals cl [] X.env.qual none .none (some X.env)) (λHu s₄=>
   codeAny (model X.prog X.w) X.A (.compStart (.ListComp elt [⟨.Name x px,iter,ifs,0⟩] scope pos) 0 (.ref it) acc {Hu with scope:=relabel scope X.env}) (R acc Hu.locals) s₄) E s₃) E s:=by
 have ho:∀b∈fp,b < s.heap.objs.size:=λb hb=>by
  obtain⟨o,e,_⟩:=T.obj _ _ st b hb;exact Heap.lt_size e
 have I3:Inv X pins σ (upd H s.heap.objs.size (.lst [])) {s with heap:=s.heap.push {cls:=.type "list",dict:=none,data:=.seq ([]:List Value).toArray}}:=I.MP (t':=s.toks) (.nil) (Nat.zero_le _);refine wpAny_newObj_type (wpAny_newFunctionEnv L.iG (by intro y hy; simp at hy) (λh1 sU xo=>?_) L.kind);dsimp only at sU xo ⊢;generalize M5:({s with heap:=s.heap.push {cls:=.type "list",dict:=none,data:=.seq ([]:List Value).toArray}}:Shared)=s3 at I3;have eh:s.heap.push {cls:=.type "list",dict:=none,data:=.seq ([]:List Value).toArray}=s3.heap:=by rw [<-M5]
 rw [eh] at sU xo ⊢;have hz:s3.heap.objs.size=s.heap.objs.size+1:=by rw [<-eh,Heap.size_push]
 have hk:∀b o,s3.heap.get? b=some o->h1.get? b=some o:=λb o e=>xo.extBut b o (Nat.ne_of_lt (Heap.lt_size e)) (Heap.get?_push_of_some _ e)
 have SE:∀b∈fp,hG X pins (upd H s.heap.objs.size (.lst [])) b:=λb hb=>⟨by rw [au (Nat.ne_of_lt (ho b hb))]; exact(hf b hb).1,(hf b hb).2⟩
 have Xg:∀b∈fp,b < s3.heap.objs.size:=λb hb=>by rw [hz]; exact Nat.lt_succ_of_lt (ho b hb)
 have es:∀tk,({s with heap:=h1,toks:=tk}:Shared)={s3 with heap:=h1,toks:=tk}:=λtk=>by rw [<-M5]
 rw [es];have I4:=Hq (t':=s.toks+([]:List (Str×Value)).length) I3 L SE Xg sU hk;refine Hr hc L T SE Xg I3 (hE _ _ _) (hT _ _ _) (hw _ I.fresh) I4 ?_ λs' H' v I' q=>?_
 ·refine T.keep _ _ _ st λb hb o e=>hk b o ?_
  rw [<-eh];exact Heap.get?_push_of_some _ e
 ·have IX:=Ht I3 SE I';obtain⟨m,⟨o,uB,ep,BB,Fq,Xh⟩,_⟩:=I'.loc;refine hR _ _ s' H' IX q ⟨m,o,BB,λv z=>?_,λh' e=>⟨o,uB,ep,e,Fq,Xh⟩⟩ I'.free (Nat.ne_of_gt I3.lt) (I3.R0 (Nat.le_refl _)) I3.sz (λz c e=>?_) λp hp=>?_
  ·rw [Fq] at z;cases z
  ·obtain⟨v,o2,e2,_⟩:=I3.cell z c e;exact Nat.ne_of_lt (Heap.lt_size e2)
  ·exact Nat.ne_of_lt (Heap.lt_size (I3.pin p hp).1)
noncomputable def tLc (wi:TI) (fr:List Nat) (tt:TT) (te:TE):TE:=λσ H Q=>wi σ H λJ H1=>∀D,H1 D=none->mF J fr tt te σ D (λH2=>Q (.ref D) H2) (upd H1 D (.lst []))
theorem oZ {elt iter:Expr}{px pos:Pos}{ifs:List Expr}{wi:TI}{tt:TT}{te:TE}(hc:X.calm=true) (L:FF X x ns fr scope cl) (hi:PI X (.Name x px) iter wi)
  (hE:∀C s H fp,PE (cP X (x::ns) scope cl C s H fp) elt te) (hT:∀C s H fp,uM (PT (cP X (x::ns) scope cl C s H fp)) ifs tt)
  (hs:∀v,foldedSetIterable iter X.env v=pure v:=by intro _; rfl):PE X (.ListComp elt [⟨.Name x px,iter,ifs,0⟩] scope pos) (tLc wi fr tt te):=by
 intro pins s σ H Q I h;rw [eval_ListComp];refine wpAny_comprehension_free (use:=none) rfl hs L.rV L.kind L.own (cg (hi pins s σ H _ I h) λv s1 h1=>cg h1 λWO s2 h2=>?_);obtain⟨it,fp,tn,J,H2,e,I2,T,Se,f2,q⟩:=h2;subst e;refine SD (R:=λacc C=>compPost (model X.prog X.w) X.A X.xe none (EP X pins σ Q) acc C) hc L T f2 I2 Se (λC s H=>hE C s H fp) (λC s H=>hT C s H fp) q ?_;intro D C s' H' I' q' sU hn hl hfs hz kc Hv;obtain⟨m,o,e,hd,hk⟩:=sU;refine⟨m,hk _ e,λh' xo=>?_⟩;exact⟨.ref D,H',I'.turned (t':=s'.toks) (λb o hb e=>xo.extBut b o hb e) hn hl (.inr hz) kc Hv,rfl,q'⟩
end
section
variable {X:Cx}{x:Str}{ns:List Str}{fr:List Nat}{scope:Scope}{cl:List (Str×Addr)}
theorem o_ {α:Type}{z:Str}{c:α}:∀{l:List (Str×α)},l.lookup z=some c->(z,c)∈l
 | [],h=>by simp at h
 | (y,d)::l,h=>by
  rw [List.lookup_cons] at h
  cases e:z == y with
  | true=>
   rw [e] at h;have e2:z=y:=by simpa using e
   cases h;rw [e2];exact List.mem_cons_self
  | false=>
   rw [e] at h;exact List.mem_cons_of_mem _ (o_ h)
theorem B3 (rV:closureFor scope X.env=pure cl) (iG:scope.names.all (λy=>y.2 != .cell)=true) (kind:scope.kind=.function)
  (own:scope.names.all (λy=>y.2 != .local || scope.names.lookup y.1 == some .local)=true) (var:scope.names.lookup x=some .local) (sub:∀p∈cl,X.env.cells.lookup p.1=some p.2)
  (has:(relabel scope X.env).names.all (λy=>!(y.2 == .cell || y.2 == .free) || (cl.lookup y.1).isSome)=true) (len:ns.length=fr.length)
  (fr_:∀p∈ns.zip fr,X.N[p.2]?=some p.1/\X.env.scope.names.lookup p.1=some .cell/\((relabel scope X.env).names.lookup p.1=some .cell\/(relabel scope X.env).names.lookup p.1=some .free)) (nd:(x::ns).Nodup):FF X x ns fr scope cl where
 rV:=rV
 iG:=λy hy=>by simpa using List.all_eq_true.mp iG y hy
 kind:=kind
 own:=λy hy h=>by
  have:=List.all_eq_true.mp own y hy;rw [h] at this;simpa using this
 var:=var
 sub:=λz c h=>sub _ (o_ h)
 has:=λz h=>by
  have k:∀t,(relabel scope X.env).names.lookup z=some t->(t=.cell\/t=.free)->∃c,cl.lookup z=some c:=λt ht hk=>by
   have:=List.all_eq_true.mp has _ (o_ ht);rcases hk with rfl | rfl <;> simpa [Option.isSome_iff_exists] using this
  rcases h with h | h
  ·exact k _ h (.inl rfl)
  ·exact k _ h (.inr rfl)
 len:=len
 xl:=λk z j h1 h2=>fr_ (z,j) (List.mem_of_getElem? (i:=k) (by rw [List.getElem?_zip_eq_some]; exact⟨h1,h2⟩))
 nd:=nd
end
end L2
namespace L2
open PySem PySem.Spec PyProof.Rows
theorem uN {X:Cx}{K:PySem.W.Frag}(h:X.K=K):Wj X (og K):=by
 subst h;exact ak
open AutoSeq1 (wpAny_loadPart')
section
variable {prog:Program}{w:World}{A:Around}{E:Value->Shared->Prop}{s:Shared}
end
section
variable {M:Model}{A:Around}{E:Value->Shared->Prop}{s:Shared}{env:Env}
end
section
variable {X:Cx}
end
inductive D where
 | bM | bl (b:Bool) | int (i:Int) | str (x:Str) | lst (ds:List D) | tup (ds:List D)
mutual
noncomputable def bA:D->D->Bool
 | .bM,.bM=>true
 | .bl a,.bl b=>a == b
 | .bl a,.int b=>(if a then 1 else 0) == b
 | .int a,.bl b=>a == (if b then 1 else 0)
 | .int a,.int b=>a == b
 | .str a,.str b=>a == b
 | .lst a,.lst b=>hX a b
 | .tup a,.tup b=>hX a b
 | _,_=>false
noncomputable def hX:List D->List D->Bool
 | [],[]=>true
 | a::x,b::y=>bA a b&&hX x y
 | _,_=>false
end
mutual
noncomputable def D.dep:D->Nat
 | .lst a=>fB a+1
 | .tup a=>fB a+1
 | _=>0
noncomputable def fB:List D->Nat
 | []=>0
 | a::x=>max a.dep (fB x)
end
mutual
theorem dm:∀d:D,bA d d=true
 | .bM=>by simp [bA]
 | .bl b=>by simp [bA]
 | .int i=>by simp [bA]
 | .str x=>by simp [bA]
 | .lst ds=>by rw [bA]; exact mG ds
 | .tup ds=>by rw [bA]; exact mG ds
theorem mG:∀ds:List D,hX ds ds=true
 | []=>by simp [hX]
 | d::ds=>by rw [hX,dm d,mG ds]; rfl
end
theorem iH:∀{ds:List D}{i:Nat}{d:D},ds[i]?=some d->d.dep<=fB ds
 | [],_,_,h=>by simp at h
 | e::ds,0,d,h=>by
  simp at h;subst h;rw [fB];exact Nat.le_max_left _ _
 | e::ds,i+1,d,h=>by
  rw [fB];exact Nat.le_trans (iH (i:=i) (by simpa using h)) (Nat.le_max_right _ _)
theorem fS:∀{ds es:List D},ds.length≠es.length->hX ds es=false
 | [],[],h=>absurd rfl h
 | [],_::_,_=>by simp [hX]
 | _::_,[],_=>by simp [hX]
 | d::ds,e::es,h=>by rw [hX,fS (by simpa using h),Bool.and_false]
theorem jk:∀{ds es:List D},ds.length=es.length->hX ds es=(List.range ds.length).all λj=>bA (ds.getD j .bM) (es.getD j .bM)
 | [],[],_=>by simp [hX]
 | [],_::_,h=>by simp at h
 | _::_,[],h=>by simp at h
 | d::ds,e::es,h=>by
  rw [hX,jk (by simpa using h),List.length_cons,List.range_succ_eq_map,List.all_cons,List.all_map];rfl
inductive fC (K:PySem.W.Frag) (H:Hp):V->D->Prop where
 | bM:fC K H .bM .bM
 | bl (b:Bool):fC K H (.bl b) (.bl b)
 | int (i:Int):fC K H (.int i) (.int i)
 | str (x:Str):fC K H (.str x) (.str x)
 | lst {a:Addr}{xs:List V}{ds:List D}(h:bf K H a xs) (hl:xs.length=ds.length) (hi:∀(i:Nat) (x:V) (d:D),xs[i]?=some x->ds[i]?=some d->fC K H x d):fC K H (.ref a) (.lst ds)
 | tup {a:Addr}{xs:List V}{ds:List D}(h:bS K H a xs) (hl:xs.length=ds.length) (hi:∀(i:Nat) (x:V) (d:D),xs[i]?=some x->ds[i]?=some d->fC K H x d):fC K H (.ref a) (.tup ds)
section
variable {X:Cx}{pins:List (Addr×Obj)}{s:Shared}{σ:St}{H:Hp}
theorem Inv.xp (I:Inv X pins σ H s) {a:Addr}{xs ys:List V}(h:bf X.K H a xs) (h':bS X.K H a ys):False:=by
 obtain⟨bw,_,p,_⟩:=I.list h;obtain⟨cA,_,q,_⟩:=I.tuple h';obtain⟨o,e,c,_⟩:=p.isList;obtain⟨o2,e2,c2,_⟩:=q;rw [e] at e2;cases e2;rw [c] at c2;injection c2 with h3
 exact absurd h3 (by decide)
theorem Og {xs:List V}{ds es:List D}(hl:xs.length=ds.length) (gg:xs.length=es.length) (h:∀(i:Nat) x d e,xs[i]?=some x->ds[i]?=some d->es[i]?=some e->d=e):ds=es:=by
 refine List.ext_getElem (by omega) λi h1 h2=>?_
 exact h i _ _ _ (List.getElem?_eq_getElem (by omega)) (List.getElem?_eq_getElem h1) (List.getElem?_eq_getElem h2)
theorem fC.one (I:Inv X pins σ H s) {x:V}{d:D}(h:fC X.K H x d):∀{e:D},fC X.K H x e->d=e:=by
 induction h with
 | bM=>intro e h; cases h; rfl
 | bl b=>intro e h; cases h; rfl
 | int b=>intro e h; cases h; rfl
 | str b=>intro e h; cases h; rfl
 | lst q hl hi ih=>
  intro e h
  cases h with
  | lst q2 gg Hw=>
   cases I.wY q q2
   rw [Og hl gg λi x d e h1 h2 h3=>ih i x d h1 h2 (Hw i x e h1 h3)]
  | tup q2 gg Hw=>exact(I.xp q q2).elim
 | tup q hl hi ih=>
  intro e h
  cases h with
  | tup q2 gg Hw=>
   cases I.sM q q2
   rw [Og hl gg λi x d e h1 h2 h3=>ih i x d h1 h2 (Hw i x e h1 h3)]
  | lst q2 gg Hw=>exact(I.xp q2 q).elim
theorem Er {ds:List D}{i:Nat}(h:i < ds.length):ds[i]?=some (ds.getD i .bM):=by simp [List.getD,h]
theorem jI {xs ys:List V}{ds es:List D}{bw cA:List Value}{A:Around}(r1:Vals xs bw) (r2:Vals ys cA) (hl:xs.length=ds.length) (gg:ys.length=es.length)
  (ih:∀(i:Nat) x d,xs[i]?=some x->ds[i]?=some d->∀{y:V}{e:D}{u v:Value},fC X.K H y e->RelV x u->RelV y v->SeqAt.EqAt A s u v (bA d e)) (Hw:∀(i:Nat) y e,ys[i]?=some y->es[i]?=some e->fC X.K H y e) :
  ∀j (h1:j < bw.toArray.size) (h2:j < cA.toArray.size),SeqAt.EqAt A s bw.toArray[j] cA.toArray[j] (bA (ds.getD j .bM) (es.getD j .bM)):=by
 intro j h1 h2;have l1:=r1.length;have l2:=r2.length;have j1:j < xs.length:=by simp at h1; omega
 have j2:j < ys.length:=by simp at h2; omega
 obtain⟨u1,e1,q1⟩:=r1.get (List.getElem?_eq_getElem j1);obtain⟨u2,e2,q2⟩:=r2.get (List.getElem?_eq_getElem j2);have i1:bw.toArray[j]=u1:=by
  obtain⟨_,e⟩:=List.getElem?_eq_some_iff.mp e1;simpa using e
 have i2:cA.toArray[j]=u2:=by
  obtain⟨_,e⟩:=List.getElem?_eq_some_iff.mp e2;simpa using e
 rw [i1,i2];exact ih j _ _ (List.getElem?_eq_getElem j1) (Er (by omega)) (Hw j _ _ (List.getElem?_eq_getElem j2) (Er (by omega))) q1 q2
theorem Hy {ds es:List D}:(((List.range (min ds.length es.length)).all λj=>bA (ds.getD j .bM) (es.getD j .bM))&&(ds.length == es.length))=hX ds es:=by
 by_cases h:ds.length=es.length
 ·rw [jk h,h];simp
 ·rw [fS h];have:(ds.length == es.length)=false:=by simpa using h
  rw [this,Bool.and_false]
theorem ku (I:Inv X pins σ H s) {x:V}{d:D}(h:fC X.K H x d):∀{A:Around},A.units+d.dep < cLine->∀{y:V}{e:D}{u v:Value},fC X.K H y e->RelV x u->RelV y v->SeqAt.EqAt A s u v (bA d e):=by
 induction h with
 | bM=>
  intro A hu y e u v h2 r1 r2;cases r1;have di:A.units < cLine:=Nat.lt_of_le_of_lt (Nat.le_add_right _ _) hu
  cases h2 with
  | bM=>
   cases r2
   repeat' first | exact .same _ | nofun | rw [bA]
  | bl b2=>
   cases r2
   repeat' first | exact .none_bool b2 | nofun | rw [bA]
  | int b2=>
   obtain⟨t2,rfl⟩:=r2
   repeat' first | exact .none_int b2 t2 | nofun | rw [bA]
  | str b2=>
   obtain⟨t2,rfl⟩:=r2
   repeat' first | exact .none_str b2 t2 | nofun | rw [bA]
  | @lst a2 dD h_ q2 l2 i2=>
   cases r2;obtain⟨cA,v2,p2,z2⟩:=I.list q2
   repeat' first | exact .none_list p2.isList di | nofun | rw [bA]
  | @tup a2 dD h_ q2 l2 i2=>
   cases r2;obtain⟨cA,v2,p2,z2⟩:=I.tuple q2
   repeat' first | exact .none_tuple p2 di | nofun | rw [bA]
 | bl b1=>
  intro A hu y e u v h2 r1 r2;cases r1;have di:A.units < cLine:=Nat.lt_of_le_of_lt (Nat.le_add_right _ _) hu
  cases h2 with
  | bM=>
   cases r2
   repeat' first | exact .bool_none b1 | nofun | rw [bA]
  | bl b2=>
   cases r2
   repeat' first | exact .bool_bool b1 b2 | nofun | rw [bA]
  | int b2=>
   obtain⟨t2,rfl⟩:=r2
   repeat' first | exact .bool_int b1 b2 t2 | nofun | rw [bA]
  | str b2=>
   obtain⟨t2,rfl⟩:=r2
   repeat' first | exact .bool_str b1 b2 t2 | nofun | rw [bA]
  | @lst a2 dD h_ q2 l2 i2=>
   cases r2;obtain⟨cA,v2,p2,z2⟩:=I.list q2
   repeat' first | exact .bool_list b1 p2.isList di | nofun | rw [bA]
  | @tup a2 dD h_ q2 l2 i2=>
   cases r2;obtain⟨cA,v2,p2,z2⟩:=I.tuple q2
   repeat' first | exact .bool_tuple b1 p2 di | nofun | rw [bA]
 | int b1=>
  intro A hu y e u v h2 r1 r2;obtain⟨t1,rfl⟩:=r1;have di:A.units < cLine:=Nat.lt_of_le_of_lt (Nat.le_add_right _ _) hu
  cases h2 with
  | bM=>
   cases r2
   repeat' first | exact .int_none b1 t1 | nofun | rw [bA]
  | bl b2=>
   cases r2
   repeat' first | exact .int_bool b1 t1 b2 | nofun | rw [bA]
  | int b2=>
   obtain⟨t2,rfl⟩:=r2
   repeat' first | exact .int_int b1 t1 b2 t2 | nofun | rw [bA]
  | str b2=>
   obtain⟨t2,rfl⟩:=r2
   repeat' first | exact .int_str b1 t1 b2 t2 | nofun | rw [bA]
  | @lst a2 dD h_ q2 l2 i2=>
   cases r2;obtain⟨cA,v2,p2,z2⟩:=I.list q2
   repeat' first | exact .int_list b1 t1 p2.isList di | nofun | rw [bA]
  | @tup a2 dD h_ q2 l2 i2=>
   cases r2;obtain⟨cA,v2,p2,z2⟩:=I.tuple q2
   repeat' first | exact .int_tuple b1 t1 p2 di | nofun | rw [bA]
 | str b1=>
  intro A hu y e u v h2 r1 r2;obtain⟨t1,rfl⟩:=r1;have di:A.units < cLine:=Nat.lt_of_le_of_lt (Nat.le_add_right _ _) hu
  cases h2 with
  | bM=>
   cases r2
   repeat' first | exact .str_none b1 t1 | nofun | rw [bA]
  | bl b2=>
   cases r2
   repeat' first | exact .str_bool b1 t1 b2 | nofun | rw [bA]
  | int b2=>
   obtain⟨t2,rfl⟩:=r2
   repeat' first | exact .str_int b1 t1 b2 t2 | nofun | rw [bA]
  | str b2=>
   obtain⟨t2,rfl⟩:=r2
   repeat' first | exact .str_str b1 t1 b2 t2 | nofun | rw [bA]
  | @lst a2 dD h_ q2 l2 i2=>
   cases r2;obtain⟨cA,v2,p2,z2⟩:=I.list q2
   repeat' first | exact .str_list b1 t1 p2.isList di | nofun | rw [bA]
  | @tup a2 dD h_ q2 l2 i2=>
   cases r2;obtain⟨cA,v2,p2,z2⟩:=I.tuple q2
   repeat' first | exact .str_tuple b1 t1 p2 di | nofun | rw [bA]
 | @lst a1 Xi pb q1 l1 i1 ih=>
  intro A hu y e u v h2 r1 r2;cases r1;have di:A.units < cLine:=Nat.lt_of_le_of_lt (Nat.le_add_right _ _) hu;obtain⟨lq,v1,p1,z1⟩:=I.list q1;have n1:lq.toArray.size=pb.length:=by rw [List.size_toArray,<-v1.length,l1]
  have Hz:∀(i:Nat) (d:D),pb[i]?=some d->A.in1.units+d.dep < cLine:=λi d h=>by
   have e1:=iH h;have e2:A.units+(fB pb+1) < cLine:=by simpa only [D.dep] using hu
   show A.units+1+d.dep < cLine;omega
  cases h2 with
  | bM=>
   cases r2
   repeat' first | exact .list_none p1.isList di | nofun | rw [bA]
  | bl b2=>
   cases r2
   repeat' first | exact .list_bool b2 p1.isList di | nofun | rw [bA]
  | int b2=>
   obtain⟨t2,rfl⟩:=r2
   repeat' first | exact .list_int b2 t2 p1.isList di | nofun | rw [bA]
  | str b2=>
   obtain⟨t2,rfl⟩:=r2
   repeat' first | exact .list_str b2 t2 p1.isList di | nofun | rw [bA]
  | @lst a2 dD h_ q2 l2 i2=>
   cases r2;obtain⟨cA,v2,p2,z2⟩:=I.list q2;have n2:cA.toArray.size=h_.length:=by rw [List.size_toArray,<-v2.length,l2]
   have it:=jI (X:=X) (A:=A.in1) v1 v2 l1 l2 (λi x d ha hb=>ih i x d ha hb (Hz i d hb)) i2
   by_cases SF:a1=a2
   ·subst SF
    cases (fC.lst q1 l1 i1).one I (fC.lst q2 l2 i2)
    rw [dm];exact SeqAt.EqAt.same _
   refine SeqAt.EqAt.of_refs SF ?_;rw [bA]
   by_cases hlen:lq.toArray.size=cA.toArray.size
   ·rw [jk (by omega),<-n1];exact SeqAt.RcAt.lists p1.isList p2.isList hlen di it
   ·rw [fS (by omega)];exact SeqAt.RcAt.lists_lengths p1.isList p2.isList (by simpa using hlen) di
  | @tup a2 dD h_ q2 l2 i2=>
   cases r2;obtain⟨cA,v2,p2,z2⟩:=I.tuple q2
   repeat' first | exact .list_tuple p1.isList p2 di | nofun | rw [bA]
 | @tup a1 Xi pb q1 l1 i1 ih=>
  intro A hu y e u v h2 r1 r2;cases r1;have di:A.units < cLine:=Nat.lt_of_le_of_lt (Nat.le_add_right _ _) hu;obtain⟨lq,v1,p1,z1⟩:=I.tuple q1;have n1:lq.toArray.size=pb.length:=by rw [List.size_toArray,<-v1.length,l1]
  have Hz:∀(i:Nat) (d:D),pb[i]?=some d->A.in1.units+d.dep < cLine:=λi d h=>by
   have e1:=iH h;have e2:A.units+(fB pb+1) < cLine:=by simpa only [D.dep] using hu
   show A.units+1+d.dep < cLine;omega
  cases h2 with
  | bM=>
   cases r2
   repeat' first | exact .tuple_none p1 di | nofun | rw [bA]
  | bl b2=>
   cases r2
   repeat' first | exact .tuple_bool b2 p1 di | nofun | rw [bA]
  | int b2=>
   obtain⟨t2,rfl⟩:=r2
   repeat' first | exact .tuple_int b2 t2 p1 di | nofun | rw [bA]
  | str b2=>
   obtain⟨t2,rfl⟩:=r2
   repeat' first | exact .tuple_str b2 t2 p1 di | nofun | rw [bA]
  | @lst a2 dD h_ q2 l2 i2=>
   cases r2;obtain⟨cA,v2,p2,z2⟩:=I.list q2
   repeat' first | exact .tuple_list p1 p2.isList di | nofun | rw [bA]
  | @tup a2 dD h_ q2 l2 i2=>
   cases r2;obtain⟨cA,v2,p2,z2⟩:=I.tuple q2;have n2:cA.toArray.size=h_.length:=by rw [List.size_toArray,<-v2.length,l2]
   have it:=jI (X:=X) (A:=A.in1) v1 v2 l1 l2 (λi x d ha hb=>ih i x d ha hb (Hz i d hb)) i2
   by_cases SF:a1=a2
   ·subst SF
    cases (fC.tup q1 l1 i1).one I (fC.tup q2 l2 i2)
    rw [dm];exact SeqAt.EqAt.same _
   refine SeqAt.EqAt.of_refs SF ?_;rw [bA];rw [<-Hy,<-n1,<-n2];exact SeqAt.RcAt.tuples p1 p2 di it
theorem SG (I:Inv X pins σ H s) {A:Around}{x y:V}{d e:D}{u v:Value}(h:fC X.K H x d) (h2:fC X.K H y e) (hu:A.units+d.dep < cLine) (r1:RelV x u) (r2:RelV y v):SeqAt.RcAt A s u v (bA d e):=by
 cases h with
 | bM=>
  cases r1;have di:A.units < cLine:=Nat.lt_of_le_of_lt (Nat.le_add_right _ _) hu
  cases h2 with
  | bM=>
   cases r2
   repeat' first | exact SeqAt.RcAt.none_none | nofun | rw [bA]
  | bl b2=>
   cases r2
   repeat' first | exact SeqAt.RcAt.none_bool b2 | nofun | rw [bA]
  | int b2=>
   obtain⟨t2,rfl⟩:=r2
   repeat' first | exact SeqAt.RcAt.none_int b2 t2 | nofun | rw [bA]
  | str b2=>
   obtain⟨t2,rfl⟩:=r2
   repeat' first | exact SeqAt.RcAt.none_str b2 t2 | nofun | rw [bA]
  | @lst a2 dD h_ q2 l2 i2=>
   cases r2;obtain⟨cA,v2,p2,z2⟩:=I.list q2
   repeat' first | exact SeqAt.RcAt.none_list p2.isList di | nofun | rw [bA]
  | @tup a2 dD h_ q2 l2 i2=>
   cases r2;obtain⟨cA,v2,p2,z2⟩:=I.tuple q2
   repeat' first | exact SeqAt.RcAt.none_tuple p2 di | nofun | rw [bA]
 | bl b1=>
  cases r1;have di:A.units < cLine:=Nat.lt_of_le_of_lt (Nat.le_add_right _ _) hu
  cases h2 with
  | bM=>
   cases r2
   repeat' first | exact SeqAt.RcAt.bool_none b1 | nofun | rw [bA]
  | bl b2=>
   cases r2
   repeat' first | exact SeqAt.RcAt.bool_bool b1 b2 | nofun | rw [bA]
  | int b2=>
   obtain⟨t2,rfl⟩:=r2
   repeat' first | exact SeqAt.RcAt.bool_int b1 b2 t2 | nofun | rw [bA]
  | str b2=>
   obtain⟨t2,rfl⟩:=r2
   repeat' first | exact SeqAt.RcAt.bool_str b1 b2 t2 | nofun | rw [bA]
  | @lst a2 dD h_ q2 l2 i2=>
   cases r2;obtain⟨cA,v2,p2,z2⟩:=I.list q2
   repeat' first | exact SeqAt.RcAt.bool_list b1 p2.isList di | nofun | rw [bA]
  | @tup a2 dD h_ q2 l2 i2=>
   cases r2;obtain⟨cA,v2,p2,z2⟩:=I.tuple q2
   repeat' first | exact SeqAt.RcAt.bool_tuple b1 p2 di | nofun | rw [bA]
 | int b1=>
  obtain⟨t1,rfl⟩:=r1;have di:A.units < cLine:=Nat.lt_of_le_of_lt (Nat.le_add_right _ _) hu
  cases h2 with
  | bM=>
   cases r2
   repeat' first | exact SeqAt.RcAt.int_none b1 t1 | nofun | rw [bA]
  | bl b2=>
   cases r2
   repeat' first | exact SeqAt.RcAt.int_bool b1 t1 b2 | nofun | rw [bA]
  | int b2=>
   obtain⟨t2,rfl⟩:=r2
   repeat' first | exact SeqAt.RcAt.int_int b1 t1 b2 t2 | nofun | rw [bA]
  | str b2=>
   obtain⟨t2,rfl⟩:=r2
   repeat' first | exact SeqAt.RcAt.int_str b1 t1 b2 t2 | nofun | rw [bA]
  | @lst a2 dD h_ q2 l2 i2=>
   cases r2;obtain⟨cA,v2,p2,z2⟩:=I.list q2
   repeat' first | exact SeqAt.RcAt.int_list b1 t1 p2.isList di | nofun | rw [bA]
  | @tup a2 dD h_ q2 l2 i2=>
   cases r2;obtain⟨cA,v2,p2,z2⟩:=I.tuple q2
   repeat' first | exact SeqAt.RcAt.int_tuple b1 t1 p2 di | nofun | rw [bA]
 | str b1=>
  obtain⟨t1,rfl⟩:=r1;have di:A.units < cLine:=Nat.lt_of_le_of_lt (Nat.le_add_right _ _) hu
  cases h2 with
  | bM=>
   cases r2
   repeat' first | exact SeqAt.RcAt.str_none b1 t1 | nofun | rw [bA]
  | bl b2=>
   cases r2
   repeat' first | exact SeqAt.RcAt.str_bool b1 t1 b2 | nofun | rw [bA]
  | int b2=>
   obtain⟨t2,rfl⟩:=r2
   repeat' first | exact SeqAt.RcAt.str_int b1 t1 b2 t2 | nofun | rw [bA]
  | str b2=>
   obtain⟨t2,rfl⟩:=r2
   repeat' first | exact SeqAt.RcAt.str_str b1 t1 b2 t2 | nofun | rw [bA]
  | @lst a2 dD h_ q2 l2 i2=>
   cases r2;obtain⟨cA,v2,p2,z2⟩:=I.list q2
   repeat' first | exact SeqAt.RcAt.str_list b1 t1 p2.isList di | nofun | rw [bA]
  | @tup a2 dD h_ q2 l2 i2=>
   cases r2;obtain⟨cA,v2,p2,z2⟩:=I.tuple q2
   repeat' first | exact SeqAt.RcAt.str_tuple b1 t1 p2 di | nofun | rw [bA]
 | @lst a1 Xi pb q1 l1 i1=>
  cases r1;have di:A.units < cLine:=Nat.lt_of_le_of_lt (Nat.le_add_right _ _) hu;obtain⟨lq,v1,p1,z1⟩:=I.list q1;have n1:lq.toArray.size=pb.length:=by rw [List.size_toArray,<-v1.length,l1]
  have Hz:∀(i:Nat) (d:D),pb[i]?=some d->A.in1.units+d.dep < cLine:=λi d h=>by
   have e1:=iH h;have e2:A.units+(fB pb+1) < cLine:=by simpa only [D.dep] using hu
   show A.units+1+d.dep < cLine;omega
  cases h2 with
  | bM=>
   cases r2
   repeat' first | exact SeqAt.RcAt.list_none p1.isList di | nofun | rw [bA]
  | bl b2=>
   cases r2
   repeat' first | exact SeqAt.RcAt.list_bool b2 p1.isList di | nofun | rw [bA]
  | int b2=>
   obtain⟨t2,rfl⟩:=r2
   repeat' first | exact SeqAt.RcAt.list_int b2 t2 p1.isList di | nofun | rw [bA]
  | str b2=>
   obtain⟨t2,rfl⟩:=r2
   repeat' first | exact SeqAt.RcAt.list_str b2 t2 p1.isList di | nofun | rw [bA]
  | @lst a2 dD h_ q2 l2 i2=>
   cases r2;obtain⟨cA,v2,p2,z2⟩:=I.list q2;have n2:cA.toArray.size=h_.length:=by rw [List.size_toArray,<-v2.length,l2]
   have it:=jI (X:=X) (A:=A.in1) v1 v2 l1 l2 (λi x d ha hb=>ku I (i1 i x d ha hb) (Hz i d hb)) i2;rw [bA]
   by_cases hlen:lq.toArray.size=cA.toArray.size
   ·rw [jk (by omega),<-n1];exact SeqAt.RcAt.lists p1.isList p2.isList hlen di it
   ·rw [fS (by omega)];exact SeqAt.RcAt.lists_lengths p1.isList p2.isList (by simpa using hlen) di
  | @tup a2 dD h_ q2 l2 i2=>
   cases r2;obtain⟨cA,v2,p2,z2⟩:=I.tuple q2
   repeat' first | exact SeqAt.RcAt.list_tuple p1.isList p2 di | nofun | rw [bA]
 | @tup a1 Xi pb q1 l1 i1=>
  cases r1;have di:A.units < cLine:=Nat.lt_of_le_of_lt (Nat.le_add_right _ _) hu;obtain⟨lq,v1,p1,z1⟩:=I.tuple q1;have n1:lq.toArray.size=pb.length:=by rw [List.size_toArray,<-v1.length,l1]
  have Hz:∀(i:Nat) (d:D),pb[i]?=some d->A.in1.units+d.dep < cLine:=λi d h=>by
   have e1:=iH h;have e2:A.units+(fB pb+1) < cLine:=by simpa only [D.dep] using hu
   show A.units+1+d.dep < cLine;omega
  cases h2 with
  | bM=>
   cases r2
   repeat' first | exact SeqAt.RcAt.tuple_none p1 di | nofun | rw [bA]
  | bl b2=>
   cases r2
   repeat' first | exact SeqAt.RcAt.tuple_bool b2 p1 di | nofun | rw [bA]
  | int b2=>
   obtain⟨t2,rfl⟩:=r2
   repeat' first | exact SeqAt.RcAt.tuple_int b2 t2 p1 di | nofun | rw [bA]
  | str b2=>
   obtain⟨t2,rfl⟩:=r2
   repeat' first | exact SeqAt.RcAt.tuple_str b2 t2 p1 di | nofun | rw [bA]
  | @lst a2 dD h_ q2 l2 i2=>
   cases r2;obtain⟨cA,v2,p2,z2⟩:=I.list q2
   repeat' first | exact SeqAt.RcAt.tuple_list p1 p2.isList di | nofun | rw [bA]
  | @tup a2 dD h_ q2 l2 i2=>
   cases r2;obtain⟨cA,v2,p2,z2⟩:=I.tuple q2;have n2:cA.toArray.size=h_.length:=by rw [List.size_toArray,<-v2.length,l2]
   have it:=jI (X:=X) (A:=A.in1) v1 v2 l1 l2 (λi x d ha hb=>ku I (i1 i x d ha hb) (Hz i d hb)) i2;rw [bA];rw [<-Hy,<-n1,<-n2];exact SeqAt.RcAt.tuples p1 p2 di it
theorem HB (I:Inv X pins σ H s) {A:Around}{x y:V}{d e:D}{u v:Value}(h:fC X.K H x d) (h2:fC X.K H y e) (hu:A.units+d.dep < cLine) (r1:RelV x u) (r2:RelV y v):SeqAt.RcNeAt A s u v (!bA d e):=by
 cases h with
 | bM=>
  cases r1;have di:A.units < cLine:=Nat.lt_of_le_of_lt (Nat.le_add_right _ _) hu
  cases h2 with
  | bM=>
   cases r2
   repeat' first | exact SeqAt.RcNeAt.none_none | nofun | rw [bA]
  | bl b2=>
   cases r2
   repeat' first | exact SeqAt.RcNeAt.none_bool b2 | nofun | rw [bA]
  | int b2=>
   obtain⟨t2,rfl⟩:=r2
   repeat' first | exact SeqAt.RcNeAt.none_int b2 t2 | nofun | rw [bA]
  | str b2=>
   obtain⟨t2,rfl⟩:=r2
   repeat' first | exact SeqAt.RcNeAt.none_str b2 t2 | nofun | rw [bA]
  | @lst a2 dD h_ q2 l2 i2=>
   cases r2;obtain⟨cA,v2,p2,z2⟩:=I.list q2
   repeat' first | exact SeqAt.RcNeAt.none_list p2.isList di | nofun | rw [bA]
  | @tup a2 dD h_ q2 l2 i2=>
   cases r2;obtain⟨cA,v2,p2,z2⟩:=I.tuple q2
   repeat' first | exact SeqAt.RcNeAt.none_tuple p2 di | nofun | rw [bA]
 | bl b1=>
  cases r1;have di:A.units < cLine:=Nat.lt_of_le_of_lt (Nat.le_add_right _ _) hu
  cases h2 with
  | bM=>
   cases r2
   repeat' first | exact SeqAt.RcNeAt.bool_none b1 | nofun | rw [bA]
  | bl b2=>
   cases r2
   repeat' first | exact SeqAt.RcNeAt.bool_bool b1 b2 | nofun | rw [bA]
  | int b2=>
   obtain⟨t2,rfl⟩:=r2
   repeat' first | exact SeqAt.RcNeAt.bool_int b1 b2 t2 | nofun | rw [bA]
  | str b2=>
   obtain⟨t2,rfl⟩:=r2
   repeat' first | exact SeqAt.RcNeAt.bool_str b1 b2 t2 | nofun | rw [bA]
  | @lst a2 dD h_ q2 l2 i2=>
   cases r2;obtain⟨cA,v2,p2,z2⟩:=I.list q2
   repeat' first | exact SeqAt.RcNeAt.bool_list b1 p2.isList di | nofun | rw [bA]
  | @tup a2 dD h_ q2 l2 i2=>
   cases r2;obtain⟨cA,v2,p2,z2⟩:=I.tuple q2
   repeat' first | exact SeqAt.RcNeAt.bool_tuple b1 p2 di | nofun | rw [bA]
 | int b1=>
  obtain⟨t1,rfl⟩:=r1;have di:A.units < cLine:=Nat.lt_of_le_of_lt (Nat.le_add_right _ _) hu
  cases h2 with
  | bM=>
   cases r2
   repeat' first | exact SeqAt.RcNeAt.int_none b1 t1 | nofun | rw [bA]
  | bl b2=>
   cases r2
   repeat' first | exact SeqAt.RcNeAt.int_bool b1 t1 b2 | nofun | rw [bA]
  | int b2=>
   obtain⟨t2,rfl⟩:=r2
   repeat' first | exact SeqAt.RcNeAt.int_int b1 t1 b2 t2 | nofun | rw [bA]
  | str b2=>
   obtain⟨t2,rfl⟩:=r2
   repeat' first | exact SeqAt.RcNeAt.int_str b1 t1 b2 t2 | nofun | rw [bA]
  | @lst a2 dD h_ q2 l2 i2=>
   cases r2;obtain⟨cA,v2,p2,z2⟩:=I.list q2
   repeat' first | exact SeqAt.RcNeAt.int_list b1 t1 p2.isList di | nofun | rw [bA]
  | @tup a2 dD h_ q2 l2 i2=>
   cases r2;obtain⟨cA,v2,p2,z2⟩:=I.tuple q2
   repeat' first | exact SeqAt.RcNeAt.int_tuple b1 t1 p2 di | nofun | rw [bA]
 | str b1=>
  obtain⟨t1,rfl⟩:=r1;have di:A.units < cLine:=Nat.lt_of_le_of_lt (Nat.le_add_right _ _) hu
  cases h2 with
  | bM=>
   cases r2
   repeat' first | exact SeqAt.RcNeAt.str_none b1 t1 | nofun | rw [bA]
  | bl b2=>
   cases r2
   repeat' first | exact SeqAt.RcNeAt.str_bool b1 t1 b2 | nofun | rw [bA]
  | int b2=>
   obtain⟨t2,rfl⟩:=r2
   repeat' first | exact SeqAt.RcNeAt.str_int b1 t1 b2 t2 | nofun | rw [bA]
  | str b2=>
   obtain⟨t2,rfl⟩:=r2
   repeat' first | exact SeqAt.RcNeAt.str_str b1 t1 b2 t2 | nofun | rw [bA]
  | @lst a2 dD h_ q2 l2 i2=>
   cases r2;obtain⟨cA,v2,p2,z2⟩:=I.list q2
   repeat' first | exact SeqAt.RcNeAt.str_list b1 t1 p2.isList di | nofun | rw [bA]
  | @tup a2 dD h_ q2 l2 i2=>
   cases r2;obtain⟨cA,v2,p2,z2⟩:=I.tuple q2
   repeat' first | exact SeqAt.RcNeAt.str_tuple b1 t1 p2 di | nofun | rw [bA]
 | @lst a1 Xi pb q1 l1 i1=>
  cases r1;have di:A.units < cLine:=Nat.lt_of_le_of_lt (Nat.le_add_right _ _) hu;obtain⟨lq,v1,p1,z1⟩:=I.list q1;have n1:lq.toArray.size=pb.length:=by rw [List.size_toArray,<-v1.length,l1]
  have Hz:∀(i:Nat) (d:D),pb[i]?=some d->A.in1.units+d.dep < cLine:=λi d h=>by
   have e1:=iH h;have e2:A.units+(fB pb+1) < cLine:=by simpa only [D.dep] using hu
   show A.units+1+d.dep < cLine;omega
  cases h2 with
  | bM=>
   cases r2
   repeat' first | exact SeqAt.RcNeAt.list_none p1.isList di | nofun | rw [bA]
  | bl b2=>
   cases r2
   repeat' first | exact SeqAt.RcNeAt.list_bool b2 p1.isList di | nofun | rw [bA]
  | int b2=>
   obtain⟨t2,rfl⟩:=r2
   repeat' first | exact SeqAt.RcNeAt.list_int b2 t2 p1.isList di | nofun | rw [bA]
  | str b2=>
   obtain⟨t2,rfl⟩:=r2
   repeat' first | exact SeqAt.RcNeAt.list_str b2 t2 p1.isList di | nofun | rw [bA]
  | @lst a2 dD h_ q2 l2 i2=>
   cases r2;obtain⟨cA,v2,p2,z2⟩:=I.list q2;have n2:cA.toArray.size=h_.length:=by rw [List.size_toArray,<-v2.length,l2]
   have it:=jI (X:=X) (A:=A.in1) v1 v2 l1 l2 (λi x d ha hb=>ku I (i1 i x d ha hb) (Hz i d hb)) i2;rw [bA]
   by_cases hlen:lq.toArray.size=cA.toArray.size
   ·rw [jk (by omega),<-n1];exact SeqAt.RcNeAt.lists p1.isList p2.isList hlen di it
   ·rw [fS (by omega)];exact SeqAt.RcNeAt.lists_lengths p1.isList p2.isList (by simpa using hlen) di
  | @tup a2 dD h_ q2 l2 i2=>
   cases r2;obtain⟨cA,v2,p2,z2⟩:=I.tuple q2
   repeat' first | exact SeqAt.RcNeAt.list_tuple p1.isList p2 di | nofun | rw [bA]
 | @tup a1 Xi pb q1 l1 i1=>
  cases r1;have di:A.units < cLine:=Nat.lt_of_le_of_lt (Nat.le_add_right _ _) hu;obtain⟨lq,v1,p1,z1⟩:=I.tuple q1;have n1:lq.toArray.size=pb.length:=by rw [List.size_toArray,<-v1.length,l1]
  have Hz:∀(i:Nat) (d:D),pb[i]?=some d->A.in1.units+d.dep < cLine:=λi d h=>by
   have e1:=iH h;have e2:A.units+(fB pb+1) < cLine:=by simpa only [D.dep] using hu
   show A.units+1+d.dep < cLine;omega
  cases h2 with
  | bM=>
   cases r2
   repeat' first | exact SeqAt.RcNeAt.tuple_none p1 di | nofun | rw [bA]
  | bl b2=>
   cases r2
   repeat' first | exact SeqAt.RcNeAt.tuple_bool b2 p1 di | nofun | rw [bA]
  | int b2=>
   obtain⟨t2,rfl⟩:=r2
   repeat' first | exact SeqAt.RcNeAt.tuple_int b2 t2 p1 di | nofun | rw [bA]
  | str b2=>
   obtain⟨t2,rfl⟩:=r2
   repeat' first | exact SeqAt.RcNeAt.tuple_str b2 t2 p1 di | nofun | rw [bA]
  | @lst a2 dD h_ q2 l2 i2=>
   cases r2;obtain⟨cA,v2,p2,z2⟩:=I.list q2
   repeat' first | exact SeqAt.RcNeAt.tuple_list p1 p2.isList di | nofun | rw [bA]
  | @tup a2 dD h_ q2 l2 i2=>
   cases r2;obtain⟨cA,v2,p2,z2⟩:=I.tuple q2;have n2:cA.toArray.size=h_.length:=by rw [List.size_toArray,<-v2.length,l2]
   have it:=jI (X:=X) (A:=A.in1) v1 v2 l1 l2 (λi x d ha hb=>ku I (i1 i x d ha hb) (Hz i d hb)) i2;rw [bA];rw [<-Hy,<-n1,<-n2];exact SeqAt.RcNeAt.tuples p1 p2 di it
noncomputable def M6 (K:PySem.W.Frag) (neg:Bool):R2:=λx y H Q=>∃d e,fC K H x d/\fC K H y e/\d.dep<=60/\Q (.bl (if neg=true then !bA d e else bA d e)) H
theorem iI (hu:X.A.units+64 < cLine):kX X (compareOp .Eq) (M6 X.K false):=by
 intro pins s σ H x y v u Q I rx ry h;obtain⟨d,e,h1,h2,hd,q⟩:=h;exact SG I h1 h2 (by omega) rx ry _ _ _ _ (bK I q rfl)
theorem B4 (hu:X.A.units+64 < cLine):kX X (compareOp .NotEq) (M6 X.K true):=by
 intro pins s σ H x y v u Q I rx ry h;obtain⟨d,e,h1,h2,hd,q⟩:=h;exact HB I h1 h2 (by omega) rx ry _ _ _ _ (bK I q rfl)
noncomputable def fD:V->D
 | .bM=>.bM
 | .bl b=>.bl b
 | .int i=>.int i
 | .str x=>.str x
 | _=>.bM
theorem fC.flat {K:PySem.W.Frag}{x:V}(h:gL x=true):fC K H x (fD x):=by
 cases x with
 | bM=>exact .bM
 | bl b=>exact .bl b
 | int i=>exact .int i
 | str z=>exact .str z
 | _=>exact absurd (show false=true from h) Bool.false_ne_true
theorem fC.Oh {K:PySem.W.Frag}{a:Addr}{xs:List V}(h:bf K H a xs) (hf:∀x∈xs,gL x=true):fC K H (.ref a) (.lst (xs.map fD)):=by
 refine .lst h (by simp) λi x d h1 h2=>?_
 rw [List.getElem?_map,h1] at h2;cases h2;exact .flat (hf x (List.mem_of_getElem? h1))
theorem fC.Oi {K:PySem.W.Frag}{a:Addr}{xs:List V}(h:bS K H a xs) (hf:∀x∈xs,gL x=true):fC K H (.ref a) (.tup (xs.map fD)):=by
 refine .tup h (by simp) λi x d h1 h2=>?_
 rw [List.getElem?_map,h1] at h2;cases h2;exact .flat (hf x (List.mem_of_getElem? h1))
theorem HC (x:V):(fD x).dep=0:=by cases x <;> rfl
theorem sV (xs:List V):fB (xs.map fD)=0:=by
 induction xs with
 | nil=>rfl
 | cons x xs ih=>rw [List.map_cons,fB,HC,ih]; rfl
end
structure Ends.Le (D D':Ends):Prop where
 nx:∀σ H,D.nx σ H->D'.nx σ H
 rt:∀v H,D.rt v H->D'.rt v H
 bk:∀σ H,D.bk σ H->D'.bk σ H
 ct:∀σ H,D.ct σ H->D'.ct σ H
theorem Ends.Le.refl (D:Ends):D.Le D:=⟨λ_ _ h=>h,λ_ _ h=>h,λ_ _ h=>h,λ_ _ h=>h⟩
noncomputable def aM (X:Cx) (SH:List Stmt):TS:=λD σ H=>∃t D',wL X SH t/\t D' σ H/\D'.Le D
theorem av {X:Cx}{SH:List Stmt}:wL X SH (aM X SH):=λpins s σ H D I h=>by
 obtain⟨t,D',h1,h2,le⟩:=h;refine cg (h1 pins s σ H D' I h2) λf s' h=>?_
 cases f with
 | next=>obtain⟨a,b,c,d⟩:=h; exact⟨a,b,c,le.nx _ _ d⟩
 | brk=>obtain⟨a,b,c,d⟩:=h; exact⟨a,b,c,le.bk _ _ d⟩
 | cont=>obtain⟨a,b,c,d⟩:=h; exact⟨a,b,c,le.ct _ _ d⟩
 | ret u=>obtain⟨v,a,b,c,r,d⟩:=h; exact⟨v,a,b,c,r,le.rt _ _ d⟩
theorem aM.of {X:Cx}{SH:List Stmt}{D:Ends}{σ:St}{H:Hp}{t:TS}(h:wL X SH t) (q:t D σ H):aM X SH D σ H:=⟨t,D,h,q,.refl D⟩
noncomputable def kd (X:Cx) (e:Expr):TT:=λσ H Q=>∃t Q',PT X e t/\t σ H Q'/\∀b H1,Q' b H1->Q b H1
theorem HD {X:Cx}{e:Expr}:PT X e (kd X e):=λpins s σ H Q I h=>by
 obtain⟨t,Q',h1,h2,le⟩:=h;refine cg (h1 pins s σ H Q' I h2) λb s' h=>?_
 obtain⟨H1,i,q⟩:=h;exact⟨H1,i,le _ _ q⟩
theorem kd.of {X:Cx}{e:Expr}{σ:St}{H:Hp}{Q:Bool->Hp->Prop}{t:TT}(h:PT X e t) (q:t σ H Q):kd X e σ H Q:=⟨t,Q,h,q,λ_ _ h=>h⟩
noncomputable def M7 (J:It) (g:TG) (tb:TS) (D:Ends) (σ:St) (H:Hp):Prop:=∃W:Nat->Nat->St->Hp->Prop,(∃m,W 0 m σ H)/\∀i m σ H,W i m σ H ->
 (J.stop i H/\D.nx σ H)\/(J.go i H/\∃N:St->Hp->Prop,(∀σ' H',N σ' H'->∃m',m' < m/\W (i+1) m' σ' H')/\∀x H',J.Sa i H x H'->g x σ H' λσ2 H2=>tb {D with nx:=N,ct:=N,bk:=D.nx} σ2 H2)
noncomputable def Oj (wi:TI) (g:TG) (tb:TS):TS:=λD σ H=>wi σ H λJ H1=>M7 J g tb D σ H1
theorem cS {X:Cx}{tg iter:Expr}{body:List Stmt}{wi:TI}{g:TG}{tb:TS}{pos:Pos}(hp:PassesOwn (model X.prog X.w) X.A X.env X.xe) (hc:X.calm=true) (hi:PI X tg iter wi) (hg:PG X tg g) (hb:wL X body tb)
  (hs:∀x,foldedSetIterable iter X.env x=pure x:=by intro _; rfl):PS X (.For tg iter body [] pos) (Oj wi g tb):=Sd hp hc hi hg hb hs
section
variable {K:PySem.W.Frag}{a:Addr}{p:Nat}{xs:List V}{lo:Int}{n:Nat}{g:TG}{tb:TS}{D:Ends}{σ:St}{H:Hp}
theorem dA (xs:List V) (Pv:Nat->St->Hp->Prop) (h0:Pv 0 σ H) (hl:∀i σ H,i<=xs.length->Pv i σ H->bf K H a xs)
  (hs:∀i x σ H,xs[i]?=some x->Pv i σ H->g x σ H λσ2 H2=>tb {D with nx:=Pv (i+1),ct:=Pv (i+1),bk:=D.nx} σ2 H2) (hd:∀σ H,Pv xs.length σ H->D.nx σ H):M7 (MI K a) g tb D σ H:=G4 Pv h0 hl hs hd
theorem xq (Pv:Nat->St->Hp->Prop) (h0:Pv 0 σ H) (hs:∀i σ H,i < n->Pv i σ H->g (.int (lo+i)) σ H λσ2 H2=>tb {D with nx:=Pv (i+1),ct:=Pv (i+1),bk:=D.nx} σ2 H2) (hd:∀σ H,Pv n σ H->D.nx σ H):M7 (N6 lo n) g tb D σ H:=Fw Pv h0 hs hd
end
noncomputable def B5 (c:TT) (tb:TS) (D:Ends) (σ:St) (H:Hp):Prop:=GX c tb D σ H
noncomputable def Es (c:TT) (tb:TS):TS:=λD σ H=>B5 c tb D σ H
theorem sW {X:Cx}{c:Expr}{body:List Stmt}{tb:TS}{pos:Pos}(hp:PassesOwn (model X.prog X.w) X.A X.env X.xe) (hb:wL X body tb):PS X (.While c body [] pos) (Es (kd X c) tb):=GY hp HD hb
theorem ww {X:Cx}{c:Expr}{tb:TS}{D:Ends}{σ:St}{H:Hp}(Pv:Nat->St->Hp->Prop) (m0:Nat) (h0:Pv m0 σ H)
  (hs:∀m σ H,Pv m σ H->kd X c σ H λb H1=>if b=true then tb {D with nx:=λσ' H'=>∃m',m' < m/\Pv m' σ' H',ct:=λσ' H'=>∃m',m' < m/\Pv m' σ' H',bk:=D.nx} σ H1 else D.nx σ H1):B5 (kd X c) tb D σ H:=by
 refine⟨Pv,⟨m0,h0⟩,λm σ H h=>?_⟩;obtain⟨t,Q',h1,h2,le⟩:=hs m σ H h;refine⟨t,Q',h1,h2,λb H1 q=>?_⟩;have q:=le b H1 q
 cases b with
 | true=>exact⟨_,λ_ _ h=>h,q⟩
 | false=>exact q
theorem ww2 {X:Cx}{c:Expr}{tb:TS}{D:Ends}{σ:St}{H:Hp}(Pv:Nat->St->Hp->Prop) (Pe:St->Hp->Prop) (m0:Nat) (h0:Pv m0 σ H)
  (hs:∀m σ H,Pv m σ H->kd X c σ H λb H1=>if b=true then tb {D with nx:=λσ' H'=>∃m',m' < m/\Pv m' σ' H',ct:=λσ' H'=>∃m',m' < m/\Pv m' σ' H',bk:=D.nx} σ H1 else Pe σ H1)
  (hd:∀σ H,Pe σ H->D.nx σ H):B5 (kd X c) tb D σ H:=by
 refine ww Pv m0 h0 λm σ H h=>?_
 obtain⟨t,Q',h1,h2,le⟩:=hs m σ H h;refine⟨t,Q',h1,h2,λb H1 q=>?_⟩;have q:=le b H1 q
 cases b with
 | true=>exact q
 | false=>exact hd σ H1 q
noncomputable def xr (X:Cx) (st:Stmt):TS:=λD σ H=>∃t D',PS X st t/\t D' σ H/\D'.Le D
theorem mH {X:Cx}{st:Stmt}:PS X st (xr X st):=λpins s σ H D I h=>by
 obtain⟨t,D',h1,h2,le⟩:=h;refine cg (h1 pins s σ H D' I h2) λf s' h=>?_
 cases f with
 | next=>obtain⟨a,b,c,d⟩:=h; exact⟨a,b,c,le.nx _ _ d⟩
 | brk=>obtain⟨a,b,c,d⟩:=h; exact⟨a,b,c,le.bk _ _ d⟩
 | cont=>obtain⟨a,b,c,d⟩:=h; exact⟨a,b,c,le.ct _ _ d⟩
 | ret u=>obtain⟨v,a,b,c,r,d⟩:=h; exact⟨v,a,b,c,r,le.rt _ _ d⟩
theorem xr.of {X:Cx}{st:Stmt}{D:Ends}{σ:St}{H:Hp}{t:TS}(h:PS X st t) (q:t D σ H):xr X st D σ H:=⟨t,D,h,q,.refl D⟩
theorem Et {X:Cx}{st:Stmt}{D:Ends}{σ:St}{H:Hp}(M:St->Hp->Prop) (h:xr X st {D with nx:=M} σ H) (q:∀σ H,M σ H->D.nx σ H):xr X st D σ H:=by
 obtain⟨t,D',h1,h2,le⟩:=h;exact⟨t,D',h1,h2,λσ H z=>q σ H (le.nx σ H z),le.rt,le.bk,le.ct⟩
structure HE (K:PySem.W.Frag) (C:Addr) (m:Str) (f:Addr):Prop where
 sp:PySem.W.specialIn K (.ref C) "__getattribute__"=some (some (.builtin "type.__getattribute__"))
 rd:PySem.W.readsIn K C (.type "type")=true
 fd:PySem.W.findCls K (.ref C) (.type "type") m=some (.val (.ref f))
 kp:PySem.W.keepIn K (.ref f)=true
noncomputable def HF (L:List (Addr×Sp)) (m:Str) (hU:List V) (E:XK) (ta:TE) (t:TA):TE:=λσ H Q=>ta σ H λx H1=>∃a C dx fs,x=.ref a/\H1 a=some (.ins C dx fs)/\fs.lookup m=none/\∃sp,(C,sp)∈L /\
 t σ H1 λvs H2=>sp (x::(vs++hU)) H2 Q E
noncomputable def VM (X:Cx) (CX:uH) (m:Str) (ds:List Value) (q:Addr×Sp):Prop:=∃(f:Addr) (fd:FuncData) (ps:List Str) (k:Nat),rS X.K q.1/\Meth X.K q.1 m f/\aS X.prog X.w X.K X.mg X.base CX k f fd ps q.2/\eY k X.A/\Binds X.K fd ps ds
section
variable {X:Cx}{CX:uH}{k:Nat}{f C:Addr}{fd:FuncData}{ps:List Str}{sp:Sp}{hU:List V}{ds:List Value}{E:XK}{x m:Str}{p pos apos:Pos}{e o:Expr}{es:List Expr}{ta:TE}{t:TA}{L:List (Addr×Sp)}
theorem uO {pl:Sem Bool}(he:PE X o (tC (.ref C))) (hm:HE X.K C m f) (F:aS X.prog X.w X.K X.mg X.base CX k f fd ps sp) (hr:eY k X.A) (hb:Binds X.K fd ps ds) (hd:Vals hU ds) (hx:Passes CX X E) (ha:PA X (e::es) t)
  (GW:starEach (e::es) X.env=(false,eval e X.env)::starEach es X.env:=by rfl) (xa:(backTo pos (starEach es X.env)).any (·.1)=false:=by rfl)
  (ht:eval (.Call (.Attribute o m apos) (e::es) [] pos) X.env=(do
   let ov <-eval o X.env
   standAt apos.atName
   let (f,first) <-holding [ov] (getMethod ov m pl)
   callWith pos f first (backTo pos (starEach (e::es) X.env)) (backToKw pos (keywordEach [] X.env))):=by rfl) :
  PE X (.Call (.Attribute o m apos) (e::es) [] pos) (El sp hU E t):=by
 intro pins s σ H Q I h;refine PySem.W.methodCall_KW (pl:=pl) (cg (he pins s σ H (λv H1=>v=.ref C/\H1=H) I ⟨rfl,rfl⟩) λu s1 ⟨x,H1,I1,rx,ex,eH⟩=>?_) ht;subst ex;subst eH;obtain rfl:u=Value.ref C:=rx;refine PySem.W.method_cls I1.iy hm.sp (PySem.W.cls_value I1.iy hm.rd hm.fd rfl ?_);refine PySem.W.callWith_K (first:=[]) (h₀:=X.base) I.ok.mod.RY hm.kp (cg (ha pos pins _ σ _ _ (I1.tok _) h) λus s2 ⟨vs,H2,I2,r,q2⟩=>⟨I2.iy,?_⟩) GW xa;exact mD F hr hb hd hx I2 r q2
theorem ib {pl:Sem Bool}(he:PE X o ta) (hL:∀q∈L,VM X CX m ds q) (hd:Vals hU ds) (hx:Passes CX X E)
  (ht:eval (.Call (.Attribute o m apos) [] [] pos) X.env=(do
   let ov <-eval o X.env
   standAt apos.atName
   let (f,first) <-holding [ov] (getMethod ov m pl)
   callWith pos f first (backTo pos (starEach [] X.env)) (backToKw pos (keywordEach [] X.env))):=by rfl) :
  PE X (.Call (.Attribute o m apos) [] [] pos) (HF L m hU E ta BY):=by
 intro pins s σ H Q I h;refine PySem.W.methodCall_KW (pl:=pl) (cg (he pins s σ H _ I h) λu s1 ⟨x,H1,I1,rx,a,C,dx,fs,ex,ea,l,sp,hC,q⟩=>?_) ht;subst ex;obtain rfl:u=Value.ref a:=rx;obtain⟨f,fd,ps,k,c,hm,F,hr,hb⟩:=hL _ hC;refine iC I1 ea c hm l ?_;exact PySem.W.callWith_K0 (first:=[.ref a]) I1.iy hm.kp (mD (us:=[.ref a]) (vs:=[.ref a]) F hr hb hd hx I1 (.cons rfl .nil) q)
end
theorem aj.cc {K:PySem.W.Frag}{H H':Hp}(k:aj H H') {a:Addr}{xs:List V}(h:bS K H a xs):bS K H' a xs:=by
 rcases h with (h | ⟨o,h⟩) | h
 ·exact .inl (.inl (k _ _ h))
 ·exact .inl (.inr ⟨o,k _ _ h⟩)
 ·exact .inr h
theorem gN {i:Nat}{v:V}{σ:St}{H:Hp}{Q:St->Hp->Prop}(h:Q (σ.set i (some v)) H):nC i v σ H Q:=h
section
variable {K:PySem.W.Frag}{a D:Addr}{fr:List Nat}{tt:TT}{te:TE}{σ:St}{Q:Hp->Prop}{H:Hp}
noncomputable def Xj (D:Addr) (Pv:Nat->List V->Hp->Prop) (n m i:Nat):VK:=λy H4=>∃ys,H4 D=some (.lst ys)/\ys.length < sizeLine/\∃m',m' < m/\(m'+(i+1)=n/\∃zs,Pv (i+1) zs (upd H4 D (.lst (ys++[y]))))
noncomputable def lcK (Pv:Nat->List V->Hp->Prop) (n m i:Nat) (H3:Hp):Prop:=∃m',m' < m/\(m'+(i+1)=n/\∃zs,Pv (i+1) zs H3)
theorem Xj.mk {Pv:Nat->List V->Hp->Prop}{n m i:Nat}{y:V}{H4:Hp}{ys:List V}(hm:m+1+i=n) (h:H4 D=some (.lst ys)) (hz:ys.length<=1000) (p:Pv (i+1) (ys++[y]) (upd H4 D (.lst (ys++[y])))):Xj D Pv n (m+1) i y H4:=
 ⟨ys,h,aJ hz,m,by omega,by omega,_,p⟩
theorem lr {β:Type}(xs:List V) (bs:List β) (g:β->Option V) (hz:xs.length<=1000) (hl:bs.length=xs.length) (hS:∀ys,bf K (upd H D (.lst ys)) a xs)
  (ht:∀(i:Nat) x b ys (R:Bool->Hp->Prop),xs[i]?=some x->bs[i]?=some b->R (g b).isSome (upd H D (.lst ys))->tt (bP fr σ (some x)) (upd H D (.lst ys)) R)
  (he:∀(i:Nat) x b y ys (R:VK),xs[i]?=some x->bs[i]?=some b->g b=some y->R y (upd H D (.lst ys))->te (bP fr σ (some x)) (upd H D (.lst ys)) R)
  (hq:Q (upd H D (.lst (bs.filterMap g)))):mF (MI K a) fr tt te σ D Q (upd H D (.lst [])):=by
 refine⟨λi m H2=>m+i=xs.length/\H2=upd H D (.lst ((bs.take i).filterMap g)),⟨xs.length,rfl,rfl⟩,?_⟩;rintro i m H2 ⟨hm,rfl⟩
 cases m with
 | zero=>
  have e:i=xs.length:=by omega
  subst e;refine .inl ⟨⟨xs,hS _,Nat.le_refl _⟩,?_⟩;rw [<-hl,List.take_length];exact hq
 | succ m=>
  have hi:i < xs.length:=by omega
  have hb:i < bs.length:=by omega
  refine .inr ⟨⟨xs,xs[i],hS _,List.getElem?_eq_getElem hi⟩,λv H' y=>?_⟩;obtain⟨rfl,hv⟩:=y;have hx:=hv xs (hS _);have SI:bs[i]?=some bs[i]:=List.getElem?_eq_getElem hb;have et:bs.take (i+1)=bs.take i++[bs[i]]:=by rw [List.take_add_one,SI]; rfl
  have ll:((bs.take i).filterMap g).length<=1000:=by
   have h1:=List.length_filterMap_le g (bs.take i);have h2:=List.length_take_le i bs;omega
  have l2:((bs.take i).filterMap g).length < 1000:=by
   have h1:=List.length_filterMap_le g (bs.take i);have h2:=List.length_take_le i bs;omega
  refine ht i v _ _ _ hx SI ?_
  cases eg:g bs[i] with
  | none=>
   rw [Option.isSome_none,if_neg Bool.false_ne_true];refine⟨m,by omega,by omega,?_⟩;rw [et,List.filterMap_append];simp [eg]
  | some y=>
   rw [Option.isSome_some,if_pos rfl];refine he i v _ y _ _ hx SI eg ⟨_,ae,aJ (by omega),m,by omega,by omega,?_⟩;rw [Eg,et,List.filterMap_append];simp [eg]
end
inductive Wk (K:PySem.W.Frag) (H:Hp):V->Value->Prop where
 | ty {x:V}{t:Value}(h:mC K H x t):Wk K H x t
 | lst {a:Addr}{xs:List V}(h:bf K H a xs):Wk K H (.ref a) (.type "list")
 | tup {a:Addr}{xs:List V}(h:bS K H a xs):Wk K H (.ref a) (.type "tuple")
theorem uP {X:Cx}:eX X (.builtin "isinstance") (λxs H Q=>∃x n t b,xs=[x,.ty n]/\Wk X.K H x t/\PySem.W.kitOne X.K t (.type n)=some b/\Q (.bl b) H):=by
 intro pins s σ H xs us Q I r h;obtain⟨x,n,t,b,rfl,ty,e,q⟩:=h;obtain⟨u,w',rfl,r1,r2⟩:=vals2 r;cases (show w'=Value.type n from r2)
 cases ty with
 | ty h=>exact Fz I r1 h e λtk=>⟨.bl b,H,I.tok _,rfl,q⟩
 | @lst a ys h=>
  cases (show u=Value.ref a from r1);obtain⟨bw,_,⟨o,n,h1,h2,_⟩,_⟩:=I.list h;exact PySem.W.kia_one PySem.W.kitx_list I.iy ⟨o,h1,h2⟩ e (λz=>nomatch z) λtk=>⟨.bl b,H,I.tok _,rfl,q⟩
 | @tup a ys h=>
  cases (show u=Value.ref a from r1);obtain⟨bw,_,⟨o,h1,h2,_⟩,_⟩:=I.tuple h;exact PySem.W.kia_one PySem.W.kitx_tuple I.iy ⟨o,h1,h2⟩ e (λz=>nomatch z) λtk=>⟨.bl b,H,I.tok _,rfl,q⟩
section
variable {κ:Type} [DecidableEq κ]
noncomputable def bD (kvs:List (κ×V)) (k:κ):Option V:=(kvs.find? λkv=>decide (kv.1=k)).map (·.2)
noncomputable def putK (kvs:List (κ×V)) (k:κ) (v:V):List (κ×V):=
 if (kvs.any λkv=>decide (kv.1=k))=true then kvs.map (λkv=>if kv.1=k then(kv.1,v)else kv)else kvs++[(k,v)]
noncomputable def dj (kvs:List (κ×V)) (k:κ):List (κ×V):=kvs.filter λkv=>decide (kv.1≠k)
theorem dE {p:κ×V}{r:List (κ×V)}{k:κ}(e:p.1=k):bD (p::r) k=some p.2:=by simp [bD,List.find?_cons,e]
theorem dF {p:κ×V}{r:List (κ×V)}{k:κ}(e:¬p.1=k):bD (p::r) k=bD r k:=by simp [bD,List.find?_cons,e]
theorem dW (k:κ):∀kvs:List (κ×V),(kvs.any λkv=>decide (kv.1=k))=(bD kvs k).isSome
 | []=>rfl
 | p::r=>by
  rw [List.any_cons]
  by_cases e:p.1=k
  ·simp only [dE e,decide_eq_true e,Bool.true_or,Option.isSome_some]
  ·rw [dF e,decide_eq_false e,Bool.false_or]; exact dW k r
theorem xt (k j:κ) (y:V):∀kvs:List (κ×V),bD (kvs.map λkv=>if kv.1=k then(kv.1,y)else kv) j=(bD kvs j).map λx=>if j=k then y else x
 | []=>rfl
 | p::r=>by
  have ih:=xt k j y r;rw [List.map_cons]
  by_cases h:p.1=k
  ·rw [if_pos h]
   by_cases e:p.1=j
   ·rw [dE (p:=(p.1,y)) e,dE e,Option.map_some,if_pos (e.symm.trans h)]
   ·rw [dF (p:=(p.1,y)) e,dF e,ih]
  ·rw [if_neg h]
   by_cases e:p.1=j
   ·rw [dE (p:=p) e,dE e,Option.map_some,if_neg (λz=>h (e.trans z))]
   ·rw [dF (p:=p) e,dF e,ih]
theorem sX (k j:κ) (y:V):∀kvs:List (κ×V),bD kvs k=none->bD (kvs++[(k,y)]) j=if j=k then some y else bD kvs j
 | [],_=>by
  by_cases e:k=j
  ·rw [if_pos e.symm]; exact dE (p:=(k,y)) e
  ·rw [if_neg (λz=>e z.symm)]; exact dF (p:=(k,y)) e
 | p::r,hn=>by
  rw [List.cons_append];have hk:¬p.1=k:=λz=>by rw [dE z] at hn; cases hn
  rw [dF hk] at hn;have ih:=sX k j y r hn
  by_cases e:p.1=j
  ·rw [dE e,dE e,if_neg (λz=>hk (e.trans z))]
  ·rw [dF e,dF e,ih]
theorem jl (kvs:List (κ×V)) (k j:κ) (y:V):bD (putK kvs k y) j=if j=k then some y else bD kvs j:=by
 unfold putK
 by_cases a:(kvs.any λkv=>decide (kv.1=k))=true
 ·rw [if_pos a,xt];rw [dW] at a
  by_cases e:j=k
  ·obtain⟨x,hx⟩:=Option.isSome_iff_exists.mp a;rw [if_pos e,e,hx,Option.map_some,if_pos rfl]
  ·rw [if_neg e]
   cases bD kvs j with
   | none=>rfl
   | some x=>rw [Option.map_some,if_neg e]
 ·rw [if_neg a];refine sX k j y kvs ?_;rw [dW] at a
  cases q:bD kvs k with
  | none=>rfl
  | some x=>rw [q] at a; exact(a rfl).elim
theorem fT (kvs:List (κ×V)) (k:κ) (v:V):(putK kvs k v).length<=kvs.length+1:=by
 unfold putK;split
 ·rw [List.length_map]; omega
 ·rw [List.length_append,List.length_cons,List.length_nil]; omega
theorem jm {kvs:List (κ×V)}{k:κ}(v:V) (h:bD kvs k=none):putK kvs k v=kvs++[(k,v)]:=by
 unfold putK;rw [dW,h];exact if_neg (by decide)
theorem g_.gA {o:Option V}{u:Option Value}(r:g_ o u):o.isSome=u.isSome:=by
 cases o with
 | none=>cases u with
  | none=>rfl
  | some _=>exact(show False from r).elim
 | some _=>cases u with
  | none=>exact(show False from r).elim
  | some _=>rfl
theorem g_.getD {o:Option V}{u:Option Value}{d:V}{d':Value}(r:g_ o u) (rd:RelV d d'):RelV (o.getD d) (u.getD d'):=by
 cases o with
 | none=>cases u with
  | none=>exact rd
  | some _=>exact(show False from r).elim
 | some _=>cases u with
  | none=>exact(show False from r).elim
  | some _=>exact r
theorem KV.val {kvs:List (κ×V)}{vs:List (κ×Value)}(r:KV kvs vs) (k:κ):g_ (bD kvs k) (valueAt vs k):=by
 unfold KV at r;induction r with
 | nil=>exact True.intro
 | @cons p q ps qs h t ih=>
  obtain⟨h1,h2⟩:=h
  by_cases e:p.1=k
  ·have e':q.1=k:=h1.symm.trans e;have b:valueAt (q::qs) k=some q.2:=by simp [valueAt,List.find?_cons,e']
   rw [dE e,b]; exact h2
  ·have e':¬q.1=k:=λz=>e (h1.trans z)
   have b:valueAt (q::qs) k=valueAt qs k:=by simp [valueAt,List.find?_cons,e']
   rw [dF e,b]; exact ih
theorem KV.any {kvs:List (κ×V)}{vs:List (κ×Value)}(r:KV kvs vs) (k:κ):(kvs.any λkv=>decide (kv.1=k))=vs.any λkv=>decide (kv.1=k):=by
 unfold KV at r;induction r with
 | nil=>rfl
 | cons h t ih=>rw [List.any_cons,List.any_cons,ih,h.1]
theorem KV.SJ {kvs:List (κ×V)}{vs:List (κ×Value)}(r:KV kvs vs) (k:κ) {y:V}{u:Value}(ry:RelV y u) :
  KV (kvs.map λkv=>if kv.1=k then(kv.1,y)else kv) (vs.map λkv=>if kv.1=k then(kv.1,u)else kv):=by
 unfold KV at r ⊢;induction r with
 | nil=>exact .nil
 | @cons p q ps qs h t ih=>
  rw [List.map_cons,List.map_cons];refine .cons ?_ ih;obtain⟨h1,h2⟩:=h
  by_cases e:p.1=k
  ·rw [if_pos e,if_pos (h1.symm.trans e)]; exact⟨h1,ry⟩
  ·rw [if_neg e,if_neg (λz=>e (h1.trans z))]; exact⟨h1,h2⟩
theorem KV.put {kvs:List (κ×V)}{vs:List (κ×Value)}(r:KV kvs vs) (k:κ) {y:V}{u:Value}(ry:RelV y u):KV (putK kvs k y) (stored vs k u):=by
 unfold putK stored;rw [r.any k]
 by_cases e:(vs.any λkv=>decide (kv.1=k))=true
 ·rw [if_pos e,if_pos e]; exact r.SJ k ry
 ·rw [if_neg e,if_neg e]; exact Paired.snoc r ⟨rfl,ry⟩
theorem KV.drop {kvs:List (κ×V)}{vs:List (κ×Value)}(r:KV kvs vs) (k:κ):KV (dj kvs k) (without vs k):=by
 unfold KV at r ⊢;unfold dj without;induction r with
 | nil=>exact .nil
 | @cons p q ps qs h t ih=>
  obtain⟨h1,h2⟩:=h;rw [List.filter_cons,List.filter_cons]
  by_cases e:p.1=k
  ·have a:¬decide (p.1≠k)=true:=by simp [e]
   have b:¬decide (q.1≠k)=true:=by simp [h1.symm.trans e]
   rw [if_neg a,if_neg b]; exact ih
  ·have e':¬q.1=k:=λz=>e (h1.trans z)
   have a:decide (p.1≠k)=true:=by simp [e]
   have b:decide (q.1≠k)=true:=by simp [e']
   rw [if_pos a,if_pos b]; exact .cons ⟨h1,h2⟩ ih
theorem KV.length {kvs:List (κ×V)}{vs:List (κ×Value)}(r:KV kvs vs):kvs.length=vs.length:=Paired.length r
theorem pd (kvs:List (κ×V)) (k:κ):(dj kvs k).length<=kvs.length:=List.length_filter_le _ _
end
theorem jn {P:Program}{w:World}{k:Key}{u:Value}(r:RelV (kV k) u):(ba P w).is k u=true:=by
 cases k with
 | inl i=>obtain⟨t,e⟩:=(show ∃t,u=Value.int i t from r); subst e; exact wO P w i t
 | inr x=>obtain⟨t,e⟩:=(show ∃t,u=Value.str x t from r); subst e; exact wQ P w x t
theorem sY {P:Program}{w:World}:∀{ks:List Key}{us:List Value},Vals (ks.map kV) us->ItemsAre (ba P w) ks us
 | [],_,r=>by rw [List.map_nil] at r; cases r; exact .nil
 | k::ks,_,r=>by
  rw [List.map_cons] at r
  cases r with
  | cons h t=>exact .cons (jn h) (sY t)
noncomputable abbrev KT (H:Hp):List (List Key×V)->List (List Key×Addr×Value)->Prop:=Paired λp q=>p.1=q.1/\H q.2.1=some (.tup (p.1.map kV))/\RelV p.2 q.2.2
theorem KT.val {H:Hp}{kvs:List (List Key×V)}{xs:List (List Key×Addr×Value)}(r:KT H kvs xs) (k:List Key):g_ (bD kvs k) ((atKey xs k).map (·.2)):=by
 induction r with
 | nil=>exact True.intro
 | @cons p q ps qs h t ih=>
  obtain⟨h1,_,h2⟩:=h
  by_cases e:p.1=k
  ·have e':q.1=k:=h1.symm.trans e;have b:atKey (q::qs) k=some q.2:=by simp [atKey,List.find?_cons,e']
   rw [dE e,b]; exact h2
  ·have e':¬q.1=k:=λz=>e (h1.trans z)
   have b:atKey (q::qs) k=atKey qs k:=by simp [atKey,List.find?_cons,e']
   rw [dF e,b]; exact ih
theorem KT.SJ {H:Hp}{kvs:List (List Key×V)}{xs:List (List Key×Addr×Value)}(r:KT H kvs xs) (k:List Key) {y:V}{u:Value}(ry:RelV y u) :
  KT H (kvs.map λkv=>if kv.1=k then(kv.1,y)else kv) (xs.map (putAt k u)):=by
 induction r with
 | nil=>exact .nil
 | @cons p q ps qs h t ih=>
  rw [List.map_cons,List.map_cons];refine .cons ?_ ih;obtain⟨h1,h2,h3⟩:=h;unfold putAt
  by_cases e:p.1=k
  ·rw [if_pos e,if_pos (h1.symm.trans e)]; exact⟨h1,h2,ry⟩
  ·rw [if_neg e,if_neg (λz=>e (h1.trans z))]; exact⟨h1,h2,h3⟩
theorem KT.put {H:Hp}{kvs:List (List Key×V)}{xs:List (List Key×Addr×Value)}(r:KT H kvs xs) (k:List Key) {b:Addr}{y:V}{u:Value}(hb:H b=some (.tup (k.map kV))) (ry:RelV y u) :
  KT H (putK kvs k y) (storedH xs k b u):=by
 have e:(kvs.any λkv=>decide (kv.1=k))=(atKey xs k).isSome:=by
  rw [dW,(r.val k).gA,Option.isSome_map]
 unfold putK storedH;rw [e]
 by_cases q:(atKey xs k).isSome=true
 ·rw [if_pos q,if_pos q]; exact r.SJ k ry
 ·rw [if_neg q,if_neg q]; exact Paired.snoc r ⟨rfl,hb,ry⟩
theorem KT.keeps {H H':Hp}{kvs:List (List Key×V)}{xs:List (List Key×Addr×Value)}(r:KT H kvs xs) (ht:∀b ys,H b=some (.tup ys)->H' b=some (.tup ys)):KT H' kvs xs:=
 Paired.RV r λ_ _ z=>⟨z.1,ht _ _ z.2.1,z.2.2⟩
section
variable {P:Program}{w:World}{H:Hp}{h:Heap}{a:Addr}
theorem Ol {u:HO}(ok:kq P w H h) (e:Rd H a u):cJ P w H h a u:=e.ok ok
theorem gp {kvs:List (Key×V)}(ok:kq P w H h) (e:Rd H a (.dK kvs)):kvs.length<=sizeLine/\(a == sysModules)=false/\∃vs,KV kvs vs/\h.DictOf (ba P w) a vs:=
 show cJ P w H h a (.dK kvs) from Ol ok e
theorem ke {kvs:List (Key×V)}(ok:kq P w H h) (e:H a=some (.dK kvs)):kvs.length<=sizeLine/\(a == sysModules)=false/\∃vs,KV kvs vs/\h.DictOf (ba P w) a vs:=gp ok (.inl e)
theorem mI {ks:List Key}(ok:kq P w H h) (e:H a=some (.tup (ks.map kV))):(tupleKind (ba P w)).is h ks a:=by
 obtain⟨_,bw,r,o,h1,h2,n,h3⟩:=(show cJ P w H h a (.tup (ks.map kV)) from ok a _ e)
 exact⟨o,bw.toArray,n,h1,h2,h3,by simpa using sY r⟩
theorem pe {kvs:List (List Key×V)}(ok:kq P w H h) (e:Rd H a (.dT kvs)):kvs.length<=sizeLine/\(a == sysModules)=false /\
  ∃xs,KT H kvs xs/\h.DictOfH (tupleKind (ba P w)) a xs:=by
 obtain⟨z,y,xs,r,o,es,ep,h1,h2,h3,h4,h5⟩:=(show cJ P w H h a (.dT kvs) from Ol ok e)
 refine⟨z,y,xs,r,o,es,ep,h1,h2,h3,h4,λx hx=>?_,h5⟩;have all:∀{l:List (List Key×V)}{m:List (List Key×Addr×Value)},KT H l m->∀x∈m,(tupleKind (ba P w)).is h x.1 x.2.1:=by
  intro l m q;induction q with
  | nil=>intro x hx; exact nomatch hx
  | @cons p q ps qs hq t ih=>
   intro x hx;rcases List.mem_cons.mp hx with e | hx
   ·subst e;exact mI ok (by rw [<-hq.1]; exact hq.2.1)
   ·exact ih x hx
 exact all r x hx
theorem Xk {kvs:List (List Key×V)}(ok:kq P w H h) (e:H a=some (.dT kvs)):kvs.length<=sizeLine/\(a == sysModules)=false /\
  ∃xs,KT H kvs xs/\h.DictOfH (tupleKind (ba P w)) a xs:=pe ok (.inl e)
end
noncomputable def fb (H:Hp) (a:Addr) (y:V) (r:Option V):Prop:=
 (∃kvs k,Rd H a (.dK kvs)/\y=kV k/\r=bD kvs k)\/∃kvs k b,Rd H a (.dT kvs)/\y=.ref b/\H b=some (.tup (k.map kV))/\r=bD kvs k
noncomputable def gS (H:Hp) (a:Addr) (y v:V) (H':Hp):Prop:=
 (∃kvs k,H a=some (.dK kvs)/\y=kV k/\kvs.length < sizeLine/\H'=upd H a (.dK (putK kvs k v))) \/
 ∃kvs k b,H a=some (.dT kvs)/\y=.ref b/\H b=some (.tup (k.map kV))/\kvs.length < sizeLine/\H'=upd H a (.dT (putK kvs k v))
theorem fb.k {H:Hp}{a:Addr}{kvs:List (Key×V)}{k:Key}(e:H a=some (.dK kvs)):fb H a (kV k) (bD kvs k):=.inl ⟨kvs,k,.inl e,rfl,rfl⟩
theorem gS.k {H:Hp}{a:Addr}{kvs:List (Key×V)}{k:Key}{v:V}(e:H a=some (.dK kvs)) (hl:kvs.length < sizeLine):gS H a (kV k) v (upd H a (.dK (putK kvs k v))):=.inl ⟨kvs,k,e,rfl,hl,rfl⟩
section
variable {X:Cx}{pins:List (Addr×Obj)}{σ:St}{H:Hp}{s:Shared}{a:Addr}{y v:V}{u r:Value}{o:Option V}{A:Around}{E:Value->Shared->Prop}
theorem Inv.big (I:Inv X pins σ H s):sysModules < s.heap.objs.size:=by
 have h:mainGlobals < s.heap.objs.size:=(I.mod.glob.keeps I.bk).lt;exact Nat.lt_trans (by decide) h
theorem FG {Q:Value->Shared->Prop}(hu:A.units+1 < cLine) (I:Inv X pins σ H s) (g:fb H a y (some v)) (ry:RelV y u) (h:∀w' s',Inv X pins σ H s'->RelV v w'->Q w' s') :
  wpAny (model X.prog X.w) A (getItem (.ref a) u) Q E s:=by
 rcases g with ⟨kvs,k,e,ey,l⟩ | ⟨kvs,k,b,e,ey,eb,l⟩
 ·subst ey;obtain⟨z,hd,vs,rel,dd⟩:=gp I.bR e;obtain⟨w',hw,xi⟩:=g_.some_of (v:=v) (o:=valueAt vs k) (by rw [l]; exact rel.val k);exact wpAny_getItem_of (jn ry) dd.mapOf hw (h w' _ (I.tok _) xi)
 ·subst ey;cases (show u=Value.ref b from ry);obtain⟨z,hd,xs,rel,dd⟩:=pe I.bR e;obtain⟨w',hw,xi⟩:=g_.some_of (v:=v) (o:=(atKey xs k).map (·.2)) (by rw [l]; exact rel.val k);obtain⟨p,hp,oi⟩:=Option.map_eq_some_iff.mp hw;refine wpAny_getItem_heap (tupleKind_room_in1 hu) (mI I.bR eb) dd hp ?_;rw [oi];exact h w' _ (I.tok _) xi
theorem Xl {Q:Value->Shared->Prop}(hu:A.units+1 < cLine) (I:Inv X pins σ H s) (g:fb H a y o) (ry:RelV y u) (h:∀s',Inv X pins σ H s'->Q (.bool o.isSome) s') :
  wpAny (model X.prog X.w) A (compareOp .In u (.ref a)) Q E s:=by
 rcases g with ⟨kvs,k,e,ey,l⟩ | ⟨kvs,k,b,e,ey,eb,l⟩
 ·subst ey;obtain⟨z,hd,vs,rel,dd⟩:=gp I.bR e;refine wpAny_in_of (jn ry) hd dd.mapOf ?_;rw [<-(rel.val k).gA,<-l];exact h _ (I.tok _)
 ·subst ey;cases (show u=Value.ref b from ry);obtain⟨z,hd,xs,rel,dd⟩:=pe I.bR e;refine wpAny_in_heap (tupleKind_room_in1 hu) (mI I.bR eb) hd dd ?_;have q:=(rel.val k).gA;rw [Option.isSome_map] at q;rw [<-q,<-l];exact h _ (I.tok _)
theorem M8 {Q:Value->Shared->Prop}(hu:A.units+1 < cLine) (I:Inv X pins σ H s) (g:fb H a y o) (ry:RelV y u) (h:∀s',Inv X pins σ H s'->Q (.bool (!o.isSome)) s') :
  wpAny (model X.prog X.w) A (compareOp .NotIn u (.ref a)) Q E s:=by
 rcases g with ⟨kvs,k,e,ey,l⟩ | ⟨kvs,k,b,e,ey,eb,l⟩
 ·subst ey;obtain⟨z,hd,vs,rel,dd⟩:=gp I.bR e;refine wpAny_notIn_of (jn ry) hd dd.mapOf ?_;rw [<-(rel.val k).gA,<-l];exact h _ (I.tok _)
 ·subst ey;cases (show u=Value.ref b from ry);obtain⟨z,hd,xs,rel,dd⟩:=pe I.bR e;refine wpAny_notIn_heap (tupleKind_room_in1 hu) (mI I.bR eb) hd dd ?_;have q:=(rel.val k).gA;rw [Option.isSome_map] at q;rw [<-q,<-l];exact h _ (I.tok _)
theorem lu {h':Heap}{t':Nat}{ob:HO}(I:Inv X pins σ H s) (mu:WA (H a)) (hs:Heap.SameBut a s.heap h') (he:∃q,h'.get? a=some q) (new:cJ X.prog X.w (upd H a ob) h' a ob) :
  Inv X pins σ (upd H a ob) {s with heap:=h',toks:=t'}:=
 I.write (x:=a) (e:=a) mu (.inl rfl) (λb q hb z=>(hs.2 b hb).trans z) he new
theorem mJ {P:Program}{w:World}{H':Hp}{h':Heap}{kvs:List (Key×V)}{vs:List (Key×Value)}(z:kvs.length<=sizeLine) (hd:(a == sysModules)=false) (rel:KV kvs vs) (dd:h'.DictOf (ba P w) a vs) :
  cJ P w H' h' a (.dK kvs):=⟨z,hd,vs,rel,dd⟩
theorem FH {H':Hp}{Q:Unit->Shared->Prop}(hu:A.units+1 < cLine) (I:Inv X pins σ H s) (g:gS H a y v H') (ry:RelV y u) (rv:RelV v r) (h:∀s',Inv X pins σ H' s'->Q () s') :
  wpAny (model X.prog X.w) A (setItem (.ref a) u r) Q E s:=by
 rcases g with ⟨kvs,k,e,ey,l,eH⟩ | ⟨kvs,k,b,e,ey,eb,l,eH⟩
 ·subst ey eH;obtain⟨z,hd,vs,rel,dd⟩:=ke I.bR e;have hz:vs.length<=sizeLine:=by rw [<-rel.length]; exact z
  have hl:(putK kvs k v).length<=sizeLine:=by have:=fT kvs k v; omega
  refine wpAny_setItem_pairs (hsz:=hz) (jn ry) dd λh' B6 hs=>h _ ?_
  have he:∃q,h'.get? a=some q:=let ⟨q,_,_,hq,_⟩:=B6; ⟨q,hq⟩
  exact lu I (by rw [e]; exact True.intro) hs he (mJ hl hd (rel.put k rv) B6)
 ·subst ey eH;cases (show u=Value.ref b from ry);obtain⟨z,hd,xs,rel,dd⟩:=Xk I.bR e;have hz:xs.length<=sizeLine:=by rw [<-Paired.length rel]; exact z
  have hl:(putK kvs k v).length<=sizeLine:=by have:=fT kvs k v; omega
  refine wpAny_setItem_heap (hsz:=hz) (tupleKind_room_in1 hu) (mI I.bR eb) dd λh' B6 hs=>h _ ?_
  obtain⟨q,es,ep,hq,h2,h3,h4,_,h5⟩:=B6;refine lu I (by rw [e]; exact True.intro) hs ⟨q,hq⟩ ⟨hl,hd,_,(rel.put k eb rv).keeps λc ys ec=>?_,q,es,ep,hq,h2,h3,h4,h5⟩;rw [au (nB ec e (λz=>nomatch z))];exact ec
end
section
variable {X:Cx}{pins:List (Addr×Obj)}{σ:St}{H:Hp}{s:Shared}{a:Addr}{kvs:List (Key×V)}{k:Key}{u:Value}{A:Around}{E:Value->Shared->Prop}
theorem Wl {Q:Unit->Shared->Prop}(I:Inv X pins σ H s) (e:H a=some (.dK kvs)) (ry:RelV (kV k) u) (l:(bD kvs k).isSome=true) (h:∀s',Inv X pins σ (upd H a (.dK (dj kvs k))) s'->Q () s') :
  wpAny (model X.prog X.w) A (delItem (.ref a) u) Q E s:=by
 obtain⟨z,hd,vs,rel,dd⟩:=ke I.bR e;refine wpAny_delItem_slot dd.typeIs (by decide) PySem.F.slot_dict_delitem
  (call_meetsIn PySem.F.slot_dict_delitem dd.typeIs PySem.F.entry_dict_delitem (PySem.F.args_dict_delitem_2 _ _) (meets_dict_delitem_pairs (ba X.prog X.w) a (jn ry)) ⟨vs,dd,by rw [<-rel.length]; exact z,by rw [<-(rel.val k).gA]; exact l,λh' B6 hs=>h _ ?_⟩)
 have he:∃q,h'.get? a=some q:=let ⟨q,_,_,hq,_⟩:=B6; ⟨q,hq⟩
 exact lu I (by rw [e]; exact True.intro) hs he (mJ (Nat.le_trans (pd kvs k) z) hd (rel.drop k) B6)
theorem Xm {v:V}{more:List Value}{Q:Value->Shared->Prop}(I:Inv X pins σ H s) (e:H a=some (.dK kvs)) (ry:RelV (kV k) u) (l:bD kvs k=some v) (hm:more=[]\/∃x,more=[x])
  (h:∀w' s',Inv X pins σ (upd H a (.dK (dj kvs k))) s'->RelV v w'->Q w' s'):wpAny (model X.prog X.w) A (call (.builtin "dict.pop") (.ref a::u::more)) Q E s:=by
 obtain⟨z,hd,vs,rel,dd⟩:=ke I.bR e;obtain⟨w',hw,xi⟩:=g_.some_of (v:=v) (o:=valueAt vs k) (by rw [<-l]; exact rel.val k);have hp:(keyPart u).isSome=true:=by
  cases k with
  | inl i=>obtain⟨t,q⟩:=(show ∃t,u=Value.int i t from ry); subst q; rfl
  | inr x=>obtain⟨t,q⟩:=(show ∃t,u=Value.str x t from ry); subst q; rfl
 have ha:argsOk "dict.pop" ⟨.ref a::u::more,[]⟩:=by
  rcases hm with q | ⟨x,q⟩
  ·subst q; exact PySem.F.args_dict_pop_2 _ _
  ·subst q; exact PySem.F.args_dict_pop_3 _ _ _
 refine call_meetsIn PySem.F.slot_dict_pop dd.typeIs PySem.F.entry_dict_pop ha (meets_dict_pop_there (ba X.prog X.w) a (jn ry) more hm hp)
  ⟨vs,w',dd,by rw [<-rel.length]; exact z,hw,λh' B6 hs=>h w' _ ?_ xi⟩
 have he:∃q,h'.get? a=some q:=let ⟨q,_,_,hq,_⟩:=B6; ⟨q,hq⟩
 exact lu I (by rw [e]; exact True.intro) hs he (mJ (Nat.le_trans (pd kvs k) z) hd (rel.drop k) B6)
theorem SK {r:Value}{Q:Value->Shared->Prop}(I:Inv X pins σ H s) (e:H a=some (.dK kvs)) (ry:RelV (kV k) u) (l:bD kvs k=none) (h:∀s',Inv X pins σ H s'->Q r s') :
  wpAny (model X.prog X.w) A (call (.builtin "dict.pop") [.ref a,u,r]) Q E s:=by
 obtain⟨z,hd,vs,rel,dd⟩:=ke I.bR e;have hn:valueAt vs k=none:=g_.none_of (by rw [<-l]; exact rel.val k);have hp:(keyPart u).isSome=true:=by
  cases k with
  | inl i=>obtain⟨t,q⟩:=(show ∃t,u=Value.int i t from ry); subst q; rfl
  | inr x=>obtain⟨t,q⟩:=(show ∃t,u=Value.str x t from ry); subst q; rfl
 exact call_meetsIn PySem.F.slot_dict_pop dd.typeIs PySem.F.entry_dict_pop (PySem.F.args_dict_pop_3 _ _ _) (meets_dict_pop_default (ba X.prog X.w) a (jn ry) hd hp r) ⟨vs,dd,hn,h _ (I.tok _)⟩
theorem Xn {Q:Value->Shared->Prop}(I:Inv X pins σ H s) (e:Rd H a (.dK kvs)) (h:∀t s',Inv X pins σ H s'->Q (.int kvs.length t) s'):wpAny (model X.prog X.w) A (call (.builtin "len") [.ref a]) Q E s:=by
 obtain⟨z,hd,vs,rel,dd⟩:=gp I.bR e;refine call_len_dict hd dd (by rw [<-rel.length]; rw [sizeLine_eq] at z; omega) ?_;rw [<-rel.length];exact h _ _ (I.tok _)
end
noncomputable def SM (i:Expr):Prop:=∀ov iv,subscripted i false ov iv=operate [ov,iv] (getItem ov iv)
theorem Eu {prog:Program}{w:World}{A:Around}{E:Value->Shared->Prop}{s:Shared}{env:Env}{value slice:Expr}{pos:Pos}{T id:String}{Q:Value->Shared->Prop}
  (hl:typeLookup (.type T) "__getitem__"=pure (some (.builtin id))) (hs:SM slice)
  (h:wpAny (model prog w) A (eval value env) (λo s₁=>wpAny (model prog w) A (eval slice env) (λi s₂=>s₂.TypeIs o T/\wpAny (model prog w) A (getItem o i) Q E s₂) E s₁) E s) :
  wpAny (model prog w) A (eval (.Subscript value slice pos) env) Q E s:=by
 refine Subscript_ (wpAny_mono h (λo s₁ h₁=>wpAny_mono h₁ (λi s₂ h₂=>?_) λ_ _ x=>x) λ_ _ x=>x);obtain⟨hT,h₂⟩:=h₂;unfold subscriptTail;refine wpAny_bind ?_;rw [getitemInPython_of_ne hT.not_modules];refine wpAny_bind (wpAny_specialOf hT hl ?_);have fin:wpAny (model prog w) A (subscripted slice false o i) (λr s₃=>wpAny (model prog w) A (letTemporaryGo value o r >>= λ_=>pure r) Q E s₃) E s₂:=by
  rw [hs o i];exact wpAny_operating (wpAny_mono h₂ (λr s₃ h₃=>wpAny_bind (wpAny_letTemporaryGo (wpAny_pure h₃))) λ_ _ x=>x)
 first
  | exact wpAny_pure (wpAny_bind fin)
  | exact wpAny_bind (wpAny_pure (wpAny_bind fin))
  | exact wpAny_bind fin
theorem xu {X:Cx}{pins:List (Addr×Obj)}{σ:St}{H:Hp}{s:Shared}{a:Addr}{y:V}{o:Option V}(I:Inv X pins σ H s) (g:fb H a y o):s.TypeIs (.ref a) "dict":=by
 rcases g with ⟨kvs,k,e,_,_⟩ | ⟨kvs,k,b,e,_,_,_⟩
 ·obtain⟨_,_,vs,_,dd⟩:=gp I.bR e;exact dd.typeIs
 ·obtain⟨_,_,xs,_,dd⟩:=pe I.bR e;exact dd.typeIs
noncomputable def Om (td ty:TE):TE:=λσ H Q=>td σ H λx H1=>ty σ H1 λy H2=>∃a v,x=.ref a/\fb H2 a y (some v)/\Q v H2
noncomputable def Xo (ty td:TE):TE:=λσ H Q=>ty σ H λy H1=>td σ H1 λx H2=>∃a o,x=.ref a/\fb H2 a y o/\Q (.bl o.isSome) H2
noncomputable def Ew (ty td:TE):TE:=λσ H Q=>ty σ H λy H1=>td σ H1 λx H2=>∃a o,x=.ref a/\fb H2 a y o/\Q (.bl (!o.isSome)) H2
noncomputable def Oo (td ty tv:TE):TS:=λD σ H=>tv σ H λv H1=>td σ H1 λx H2=>ty σ H2 λy H3=>∃a H4,x=.ref a/\gS H3 a y v H4/\D.nx σ H4
section
variable {X:Cx}{o i e value:Expr}{pos pos' aaz:Pos}{td ty tv:TE}
theorem cH (hu:X.A.units+1 < cLine) (ho:PE X o td) (hi:PE X i ty) (hs:SM i):PE X (.Subscript o i pos) (Om td ty):=by
 intro pins s σ H Q I h;refine Eu PySem.F.slot_dict_getitem.lookup hs (cg (ho pins s σ H _ I h) λu s1 ⟨x,H1,I1,rx,q1⟩=>cg (hi pins s1 σ H1 _ I1 q1) λiv s2 ⟨y,H2,I2,ry,a,v,ex,g,q2⟩=>?_);subst ex;obtain rfl:u=Value.ref a:=rx;exact⟨xu I2 g,FG hu I2 g ry λw' s3 I3 xi=>⟨v,H2,I3,xi,q2⟩⟩
theorem B7 (hu:X.A.units+1 < cLine) (hi:PE X i ty) (ho:PE X o td):PC X .In i o (Xo ty td):=by
 intro pins s σ H Q I h;refine cg (hi pins s σ H _ I h) λiv s1 ⟨y,H1,I1,ry,q1⟩=>cg (ho pins s1 σ H1 _ I1 q1) λu s2 ⟨x,H2,I2,rx,a,ov,ex,g,q2⟩=>?_
 subst ex;obtain rfl:u=Value.ref a:=rx;exact Xl hu I2 g ry λs3 I3=>⟨.bl ov.isSome,H2,I3,rfl,q2⟩
theorem jJ (hu:X.A.units+1 < cLine) (hi:PE X i ty) (ho:PE X o td):PC X .NotIn i o (Ew ty td):=by
 intro pins s σ H Q I h;refine cg (hi pins s σ H _ I h) λiv s1 ⟨y,H1,I1,ry,q1⟩=>cg (ho pins s1 σ H1 _ I1 q1) λu s2 ⟨x,H2,I2,rx,a,ov,ex,g,q2⟩=>?_
 subst ex;obtain rfl:u=Value.ref a:=rx;exact M8 hu I2 g ry λs3 I3=>⟨.bl (!ov.isSome),H2,I3,rfl,q2⟩
theorem dc (hu:X.A.units+1 < cLine) (ho:PE X o td) (hi:PE X i ty) (hv:PE X value tv) (hs:swapsWith value (some (.Subscript o i pos')) pos.line X.env=pure false) :
  PS X (.Assign [.Subscript o i pos'] value pos) (Oo td ty tv):=by
 intro pins s σ H D I h;refine wpAny_Assign_Subscript (cg (hv pins s σ H _ I h) λr s1 ⟨v,H1,I1,rv,q1⟩=>cg (ho pins s1 σ H1 _ I1 q1) λu s2 ⟨x,H2,I2,rx,q2⟩=>cg (hi pins s2 σ H2 _ I2 q2) λiv s3 ⟨y,H3,I3,ry,a,H4,ex,g,q3⟩=>?_) hs;subst ex;obtain rfl:u=Value.ref a:=rx;exact FH hu I3 g ry rv λs4 I4=>⟨σ,H4,I4,q3⟩
end
theorem HG {P:Program}{w:World}{H:Hp}(h:Heap) (hb:sysModules < h.objs.size):cJ P w H (h.push {cls:=.type "dict",data:=.dict #[]}) h.objs.size (.dK []):=
 ⟨Nat.zero_le _,beq_eq_false_iff_ne.mpr (Ne.symm (Nat.ne_of_lt hb)),[],.nil,Heap.DictOf.new h⟩
noncomputable def HH:TE:=λ_ H Q=>∀p,H p=none->Q (.ref p) (upd H p (.dK []))
section
variable {X:Cx}{pos:Pos}
theorem fU:PE X (.Dict [] [] pos) HH:=λpins s σ H Q I h=>
 wpAny_Dict_empty ⟨.ref s.heap.objs.size,_,I.laid (a:=s.heap.objs.size) (o:=.dK []) (t':=s.toks) (λ_ _ q=>Heap.get?_push_of_some _ q) (Nat.le_refl _) (HG s.heap I.big),rfl,h _ (I.bR.fresh (Nat.le_refl _))⟩
end
structure M1 (X:Cx) (o:Expr) (m:Str) (apos:Pos) (e:Expr) (dR:Pos):Prop where
 base:attributeBase o m X.env (eval o X.env)=eval o X.env
 bX:((backTo dR (starEach [e] X.env)).all (λx=>!x.1)&&(backToKw dR (keywordEach [] X.env)).all (λx=>x.1.isSome)
  && decide (([e]:List Expr).length+([]:List Keyword).length+(if ([]:List Keyword).isEmpty then 0 else 1) < 30))=true
 line:(apos.endLine == dR.line)=true
 trees:backTo dR (starEach [e] X.env)=[(false,eval e X.env)]
structure M2 (X:Cx) (o:Expr) (m:Str) (apos:Pos) (e f:Expr) (dR:Pos):Prop where
 base:attributeBase o m X.env (eval o X.env)=eval o X.env
 bX:((backTo dR (starEach [e,f] X.env)).all (λx=>!x.1)&&(backToKw dR (keywordEach [] X.env)).all (λx=>x.1.isSome)
  && decide (([e,f]:List Expr).length+([]:List Keyword).length+(if ([]:List Keyword).isEmpty then 0 else 1) < 30))=true
 line:(apos.endLine == dR.line)=true
 trees:backTo dR (starEach [e,f] X.env)=[(false,eval e X.env),(false,eval f X.env)]
noncomputable def HI (H:Hp) (a:Addr):Prop:=(∃kvs,Rd H a (.dK kvs))\/∃kvs,Rd H a (.dT kvs)
theorem HJ {X:Cx}{pins:List (Addr×Obj)}{σ:St}{H:Hp}{s:Shared}{a:Addr}(I:Inv X pins σ H s) (d:HI H a) :
  s.TypeIs (.ref a) "dict"/\(∀b,Value.ref a=.ref b->∃ob,s.heap.get? b=some ob/\ob.dict=none)/\(a == sysModules)=false:=by
 rcases d with ⟨kvs,e⟩ | ⟨kvs,e⟩
 ·obtain⟨_,hd,vs,_,dd⟩:=gp I.bR e;refine⟨dd.typeIs,λb q=>?_,hd⟩;cases q;obtain⟨ob,_,_,h1,h2,_⟩:=dd;exact⟨ob,h1,h2.2.1⟩
 ·obtain⟨_,hd,xs,_,dd⟩:=pe I.bR e;refine⟨dd.typeIs,λb q=>?_,hd⟩;cases q;obtain⟨ob,_,_,h1,h2,_⟩:=dd;exact⟨ob,h1,h2.2.1⟩
section
variable {X:Cx}{pins:List (Addr×Obj)}{σ:St}{H:Hp}{s:Shared}{a:Addr}{y d:V}{u r:Value}{o:Option V}{A:Around}{E:Value->Shared->Prop}
theorem SN {Q:Value->Shared->Prop}(hu:A.units+1 < cLine) (I:Inv X pins σ H s) (g:fb H a y o) (ry:RelV y u) (rd:RelV d r) (h:∀w' s',Inv X pins σ H s'->RelV (o.getD d) w'->Q w' s') :
  wpAny (model X.prog X.w) A (call (.builtin "dict.get") [.ref a,u,r]) Q E s:=by
 rcases g with ⟨kvs,k,e,ey,l⟩ | ⟨kvs,k,b,e,ey,eb,l⟩
 ·subst ey;obtain⟨z,hd,vs,rel,dd⟩:=gp I.bR e;refine call_meetsIn PySem.F.slot_dict_get dd.typeIs PySem.F.entry_dict_get (PySem.F.args_dict_get_3 _ _ _) (meets_dict_get_default (ba X.prog X.w) a (jn ry) hd r) ⟨_,dd.mapOf,h _ _ (I.tok _) ?_⟩;rw [l];exact(rel.val k).getD rd
 ·subst ey;cases (show u=Value.ref b from ry);obtain⟨z,hd,xs,rel,dd⟩:=pe I.bR e;refine call_meetsIn PySem.F.slot_dict_get dd.typeIs PySem.F.entry_dict_get (PySem.F.args_dict_get_3 _ _ _) (meetsH_dict_get_default (tupleKind (ba X.prog X.w)) a b hd r) ⟨tupleKind_room_in1 hu,k,xs,mI I.bR eb,dd,h _ _ (I.tok _) ?_⟩;rw [l];exact(rel.val k).getD rd
end
noncomputable def HK (td ty tx:TE):TE:=λσ H Q=>td σ H λx H1=>∃a,x=.ref a/\HI H1 a/\ty σ H1 λy H2=>tx σ H2 λz H3=>∃o,fb H3 a y o/\Q (o.getD z) H3
noncomputable def HL (td ty tx:TE):TE:=λσ H Q=>td σ H λx H1=>∃a,x=.ref a/\HI H1 a/\ty σ H1 λy H2=>tx σ H2 λz H3=>∃kvs k,H3 a=some (.dK kvs)/\y=kV k /\
 (∀v,bD kvs k=some v->Q v (upd H3 a (.dK (dj kvs k))))/\(bD kvs k=none->Q z H3)
section
variable {X:Cx}{o e f:Expr}{apos dR:Pos}{td ty tx:TE}
theorem pf (hu:X.A.units+1 < cLine) (ho:PE X o td) (he:PE X e ty) (hf:PE X f tx) (m:M2 X o "get" apos e f dR):PE X (.Call (.Attribute o "get" apos) [e,f] [] dR) (HK td ty tx):=by
 intro pins s σ H Q I h;refine wpAny_Call_method m.base m.bX m.line PySem.F.plainAttrs_dict PySem.F.slot_dict_get PySem.F.type_dict_get (cg (ho pins s σ H _ I h) λu s1 ⟨x,H1,I1,rx,a,ex,d,q1⟩=>?_);subst ex;obtain rfl:u=Value.ref a:=rx;obtain⟨t1,t2,_⟩:=HJ I1 d;refine⟨t1,t2,?_⟩;rw [m.trees];refine Calls.callWith_builtin rfl (Calls.evalArgs_plain (Calls.spliced_cons (cg (he pins s1 σ H1 _ I1 q1) λiv s2 ⟨y,H2,I2,ry,q2⟩=>
  Calls.spliced_cons (cg (hf pins s2 σ H2 _ I2 q2) λfv s3 ⟨z,H3,I3,rz,ov,g,q3⟩=>Calls.spliced_nil ?_))))
 exact SN hu I3 g ry rz λw' s4 I4 xi=>⟨_,H3,I4,xi,q3⟩
theorem HM (ho:PE X o td) (he:PE X e ty) (hf:PE X f tx) (m:M2 X o "pop" apos e f dR):PE X (.Call (.Attribute o "pop" apos) [e,f] [] dR) (HL td ty tx):=by
 intro pins s σ H Q I h;refine wpAny_Call_method m.base m.bX m.line PySem.F.plainAttrs_dict PySem.F.slot_dict_pop PySem.F.type_dict_pop (cg (ho pins s σ H _ I h) λu s1 ⟨x,H1,I1,rx,a,ex,d,q1⟩=>?_);subst ex;obtain rfl:u=Value.ref a:=rx;obtain⟨t1,t2,_⟩:=HJ I1 d;refine⟨t1,t2,?_⟩;rw [m.trees];refine Calls.callWith_builtin rfl (Calls.evalArgs_plain (Calls.spliced_cons (cg (he pins s1 σ H1 _ I1 q1) λiv s2 ⟨y,H2,I2,ry,q2⟩=>
  Calls.spliced_cons (cg (hf pins s2 σ H2 _ I2 q2) λfv s3 ⟨z,H3,I3,rz,kvs,k,ea,ey,q3,q4⟩=>Calls.spliced_nil ?_))))
 subst ey
 cases l:bD kvs k with
 | some v=>exact Xm I3 ea ry l (.inr ⟨fv,rfl⟩) λw' s4 I4 xi=>⟨v,_,I4,xi,q3 v l⟩
 | none=>exact SK I3 ea ry l λs4 I4=>⟨z,H3,I4,rz,q4 l⟩
end
section
variable {X:Cx}{pins:List (Addr×Obj)}{σ:St}{H:Hp}{s:Shared}{a:Addr}{kvs:List (Key×V)}{A:Around}{E:Value->Shared->Prop}
theorem HN {Q:Value->Shared->Prop}(I:Inv X pins σ H s) (e:Rd H a (.dK kvs)) (h:∀p s',H p=none->Inv X pins σ (upd H p (.dK kvs)) s'->Q (.ref p) s'):wpAny (model X.prog X.w) A (call (.type "dict") [.ref a]) Q E s:=by
 obtain⟨z,hd,vs,rel,dd⟩:=gp I.bR e;refine kt_call_dict hd dd (by rw [<-rel.length]; exact z) λh' B6 hs=>?_
 refine h _ _ (I.bR.fresh (Nat.le_refl _)) (I.laid (a:=s.heap.objs.size) (o:=.dK kvs) (t':=s.toks) (λb q hq=>?_) (Nat.le_refl _) (mJ z (beq_eq_false_iff_ne.mpr (Ne.symm (Nat.ne_of_lt I.big))) rel B6));exact(hs.2 b (Nat.ne_of_lt (Heap.lt_size hq))).trans (Heap.get?_push_of_some _ hq)
end
section
variable {X:Cx}{pins:List (Addr×Obj)}{σ:St}{H:Hp}{s:Shared}{a:Addr}{y:V}{u:Value}{A:Around}{E:Value->Shared->Prop}
end
section
variable {X:Cx}
theorem gB:eX X (.builtin "len") (λxs H Q=>∃a kvs,xs=[V.ref a]/\H a=some (.dK kvs)/\Q (.int kvs.length) H):=by
 intro pins s σ H xs us Q I r h;obtain⟨a,kvs,rfl,ha,q⟩:=h;obtain⟨u,rfl,ru⟩:=vals1 r;cases ru;exact Xn I (.inl ha) λt s' I'=>⟨.int kvs.length,H,I',⟨t,rfl⟩,q⟩
end
section
variable {κ:Type} [DecidableEq κ]
theorem jo {kvs:List (κ×V)}{k:κ}(h:bD kvs k=none):¬k∈kvs.map (·.1):=by
 intro m;obtain⟨p,hp,e⟩:=List.mem_map.mp m;have q:(kvs.any λkv=>decide (kv.1=k))=true:=List.any_eq_true.mpr ⟨p,hp,decide_eq_true e⟩;rw [dW,h] at q;exact absurd q (by simp)
theorem uQ {kvs:List (κ×V)}{k:κ}{v:V}(h:bD kvs k=some v):k∈kvs.map (·.1):=by
 have q:(kvs.any λkv=>decide (kv.1=k))=true:=by
  rw [dW,h]
  all_goals rfl
 obtain⟨p,hp,e⟩:=List.any_eq_true.mp q;exact List.mem_map.mpr ⟨p,hp,of_decide_eq_true e⟩
theorem FI {p:κ×V}{r:List (κ×V)}{k:κ}(e:p.1=k):dj (p::r) k=dj r k:=by
 unfold dj;rw [List.filter_cons,if_neg (by simp [e])]
theorem sZ {p:κ×V}{r:List (κ×V)}{k:κ}(e:¬p.1=k):dj (p::r) k=p::dj r k:=by
 unfold dj;rw [List.filter_cons,if_pos (by simp [e])]
theorem xv:∀{kvs:List (κ×V)}{k:κ},¬k∈kvs.map (·.1)->dj kvs k=kvs
 | [],_,_=>rfl
 | p::r,k,h=>by
  have h':¬k∈r.map (·.1):=λm=>by
   obtain⟨q,hq,e⟩:=List.mem_map.mp m;exact h (List.mem_map.mpr ⟨q,List.mem_cons.mpr (Or.inr hq),e⟩)
  rw [sZ λe=>h (List.mem_map.mpr ⟨p,List.mem_cons.mpr (Or.inl rfl),e⟩),xv h']
theorem s_ {kvs:List (κ×V)}{k:κ}{p:κ×V}(h:p∈dj kvs k):p∈kvs:=(List.mem_filter.mp h).1
theorem pk:∀{kvs:List (κ×V)}{k:κ},(kvs.map (·.1)).Nodup->((dj kvs k).map (·.1)).Nodup
 | [],_,_=>List.nodup_nil
 | p::r,k,h=>by
  have h:(p.1::r.map (·.1)).Nodup:=h;obtain⟨h1,h2⟩:=List.nodup_cons.mp h
  by_cases e:p.1=k
  ·rw [FI e];exact pk h2
  ·rw [sZ e];show(p.1::(dj r k).map (·.1)).Nodup;refine List.nodup_cons.mpr ⟨λm=>h1 ?_,pk h2⟩;obtain⟨q,hq,eq⟩:=List.mem_map.mp m;exact List.mem_map.mpr ⟨q,s_ hq,eq⟩
end
theorem fE:bootBuiltins "sorted"=some (.builtin "sorted"):=by decide +kernel
theorem B8:bootBuiltins "any"=some (.builtin "any"):=by decide +kernel
theorem pq:∀{xs:List V}{us:List Value},xs.length=us.length->(∀(i:Nat) x u,xs[i]?=some x->us[i]?=some u->RelV x u)->Vals xs us
 | [],[],_,_=>.nil
 | [],_::_,h,_=>by simp at h
 | _::_,[],h,_=>by simp at h
 | x::xs,u::us,h,k=>.cons (k 0 x u rfl rfl) (pq (by simpa using h) λi y v a b=>k (i+1) y v (by simpa using a) (by simpa using b))
theorem uR {k:Key}{v:Value}(h:kT k v=true):RelV (kV k) v:=by
 rcases bU h with ⟨i,t,rfl,rfl⟩ | ⟨x,t,rfl,rfl⟩ <;> exact⟨t,rfl⟩
theorem KV.get:∀{kvs:List (Key×V)}{vs:List (Key×Value)}{i:Nat}{p:Key×V}{q:Key×Value},KV kvs vs->kvs[i]?=some p->vs[i]?=some q->p.1=q.1
 | _,_,_,_,_,.nil,h,_=>by simp at h
 | _,_,0,_,_,.cons r _,h,h'=>by
  simp at h h';subst h h';exact r.1
 | _,_,i+1,_,_,.cons _ t,h,h'=>KV.get (i:=i) t (by simpa using h) (by simpa using h')
noncomputable def gD (kvs:List (Key×V)):List V:=kvs.map λkv=>kV kv.1
theorem tj {P:Program}{w:World}{kvs:List (Key×V)}{vs:List (Key×Value)}{us:List Value}(rel:KV kvs vs) (hl:us.length=vs.length) (h:∀(j:Nat) v,us[j]?=some v->∃k x,vs[j]?=some (k,x)/\(ba P w).is k v=true):Vals (gD kvs) us:=by
 refine pq (by rw [gD,List.length_map,rel.length,hl]) λi x u hx hu=>?_
 obtain⟨k,z,h1,h2⟩:=h i u hu;rw [gD,List.getElem?_map] at hx
 cases e:kvs[i]? with
 | none=>rw [e] at hx; cases hx
 | some p=>
  rw [e] at hx;cases hx;have:=rel.get e h1;dsimp only at this ⊢;rw [this];exact uR h2
section
variable {X:Cx}
theorem B9 (hc:X.calm=true):eX X (.type "list") (λxs H Q=>∃p kvs,xs=[.ref p]/\Rd H p (.dK kvs)/\∀l,H l=none->Q (.ref l) (upd H l (.lst (gD kvs)))):=by
 intro pins s σ H xs us Q I r h;obtain⟨p,kvs,rfl,hq,q⟩:=h;obtain⟨u,rfl,rx⟩:=vals1 r;cases rx;obtain⟨z,hd,vs,rel,dd⟩:=gp I.bR hq;obtain⟨ep,dat⟩:=dd.dictAt;refine PySem.W.kdl_call (PySem.W.kdl_dict hd) (I.ok.hd hc) dat (by rw [<-rel.length]; exact z) λh' tk uS c' kp e it=>?_
 have hv:Vals (gD kvs) uS.toList:=tj (P:=X.prog) (w:=X.w) rel (by rw [Array.length_toList]; exact it.1) λj v hj=>it.2 j v (by rw [<-Array.getElem?_toList]; exact hj)
 exact⟨.ref s.heap.objs.size,_,I.laid (t':=tk) kp (Nat.le_refl _) (show cJ X.prog X.w _ h' _ (.lst (gD kvs)) from⟨by rw [gD,List.length_map]; exact z,uS.toList,c',hv,by simpa using e⟩),rfl,q _ (I.bR.fresh (Nat.le_refl _))⟩
theorem uT:eX X (.builtin "sorted") (λxs H Q=>∃(p:Addr) (ns:List Int),xs=[.ref p]/\bf X.K H p (ns.map V.int)/\ns.length < 64/\∀(l:Addr) (jQ:List Int),H l=none->jQ.Perm ns->jQ.Pairwise (·<=·)->Q (.ref l) (upd H l (.lst (jQ.map V.int)))):=by
 intro pins s σ H xs us Q I r h;obtain⟨p,ns,rfl,hq,h64,q⟩:=h;obtain⟨u,rfl,rx⟩:=vals1 r;cases rx;obtain⟨bw,rv,pl,hz⟩:=I.list hq;have hl:=rv.length;rw [List.length_map] at hl;refine sorted_ints (vs:=bw) pl.isList (intsAre_of rv) (by omega) λout jQ a1 a2 a3=>?_
 obtain⟨e,he⟩:=sortedAll_at s.heap bw out;have hp:=a2.length_eq;exact⟨.ref (s.heap.objs.size+1),_,I.laid (t':=s.toks) (λb o hb=>sortedAll_old hb) (Nat.le_succ _) (show cJ X.prog X.w _ _ _ (.lst (jQ.map V.int)) from⟨by rw [List.length_map]; exact Nat.le_of_lt (aJ (by omega)),out.toList,e,hV a1,by simpa [seqObj] using he⟩),rfl,q _ jQ (I.bR.fresh (Nat.le_succ _)) a2 a3⟩
end
section
variable {X:Cx}{pins:List (Addr×Obj)}{σ:St}{H:Hp}{s:Shared}{a:Addr}{kvs:List (Key×V)}{o:Obj}
theorem Inv.freeze (I:Inv X pins σ H s) (e:H a=some (.dK kvs)):∃o,s.heap.get? a=some o/\Inv X pins σ (upd H a (.iY o (.dK kvs))) s:=by
 obtain⟨z,hd,vs,rel,dd⟩:=ke I.bR e;obtain⟨o,es,ep,ho,hr⟩:=id dd;have this:Inv X pins σ (upd H a (.iY o (.dK kvs))) {s with heap:=s.heap,toks:=s.toks}:=I.write (x:=a) (e:=a) (by rw [e]; exact True.intro) (.inl rfl) (λb q _ h=>h) ⟨o,ho⟩ (show cJ X.prog X.w _ s.heap a (.iY o (.dK kvs)) from⟨ho,z,hd,vs,rel,dd⟩);exact⟨o,ho,this⟩
theorem Inv.aaJ (I:Inv X pins σ H s) (e:H a=some (.iY o (.dK kvs))) (h0:∀o u,X.H₀ a≠some (.iY o u)):Inv X pins σ (upd H a (.dK kvs)) s where
 ok:=I.ok
 os:=I.os
 bare:=I.bare
 base:={
  keep:=I.base.keep
  slot:=I.base.slot
  free:=λb q h1 h2 h3=>by
   have:=I.base.free b q h1 h2 h3;rw [au (az e this).symm];exact this
  there:=I.base.there
  rP:=λb xs h=>by
   have:=I.base.rP b xs h;rw [au (nB this e (λz=>nomatch z))];exact this
  oS:=λb q u h=>by
   have n:b≠a:=λz=>by
    subst z;exact h0 _ _ h
   rw [au n];exact I.base.oS b q u h
  rQ:=λb ps h=>by
   obtain⟨more,h2⟩:=I.base.rQ b ps h;refine⟨more,?_⟩;rw [au (nB h2 e (λz=>nomatch z))];exact h2}
 loc:=I.loc
 cell:=I.cell
 free:=by rw [au (az e I.free).symm]; exact I.free
 fQ:=λx c h=>by rw [au (az e (I.fQ x c h)).symm]; exact I.fQ x c h
 pin:=λp hp=>by
  obtain⟨h1,h2,h3⟩:=I.pin p hp;exact⟨h1,by rw [au (az e h2).symm]; exact h2,h3⟩
 bR:=λb q h=>by
  by_cases hb:b=a
  ·subst hb;rw [ae] at h;cases h;obtain⟨_,h2⟩:=I.bR b _ e;exact h2
  ·rw [au hb] at h;refine(I.bR b q h).BN (λ_ _ _ r=>r) (λc r=>?_) λc xs r=>?_
   ·rw [au (nB r e (λz=>nomatch z))];exact r
   ·rw [au (nB r e (λz=>nomatch z))];exact r
 len:=I.len
noncomputable def M9 (H₀:Hp) (a:Addr) (kvs:List (Key×V)) (H H':Hp):Prop:=(∀o u,H₀ a≠some (.iY o u))/\(∃o,H a=some (.iY o (.dK kvs)))/\H'=upd H a (.dK kvs)
theorem Inv.HP (I:Inv X pins σ H s) {H':Hp}(t:M9 X.H₀ a kvs H H'):Inv X pins σ H' s:=by
 obtain⟨h0,⟨o,e⟩,rfl⟩:=t;exact I.aaJ e h0
end
noncomputable def Itd (a:Addr) (o:Obj) (kvs:List (Key×V)):It:=
 ⟨λi H=>i < kvs.length/\H a=some (.iY o (.dK kvs)),λi H x H'=>H'=H/\∃kv,kvs[i]?=some kv/\x=kV kv.1,λi H=>kvs.length<=i/\H a=some (.iY o (.dK kvs))⟩
theorem FJ {P:Program}{w:World}{K:PySem.W.Frag}{tg:Expr}{a it:Addr}{o:Obj}{kvs:List (Key×V)}{vs:List (Key×Value)}{ep:Nat}(hd:(a == sysModules)=false) (rel:KV kvs vs)
  (dat:∀h:Heap,h.get? a=some o->h.DictAt (ba P w) a vs ep):Turn P w K tg (Itd a o kvs) [it] it (λi h=>h.IsKeyIter it a i vs.length ep) where
 mem:=by simp
 obj:=λi h st b hb=>by
  have e:b=it:=by simpa using hb
  subst e;obtain⟨o,e,c,d⟩:=st;exact⟨o,e,λv z=>by rw [d] at z; cases z⟩
 keep:=λi h h' st k=>st.at λo e=>k it (by simp) o e
 item:=by
  intro X hP hw hK hc i pins s σ H E I hf st hg;subst hP hw hK;obtain⟨hi,ha⟩:=hg;obtain⟨ho,_⟩:=I.bR a _ ha;have hv:i < vs.length:=by rw [<-rel.length]; exact hi
  obtain⟨f0,f1,f2,f3,f4,f5⟩:=hf it (by simp);refine wpAny_pyNext_dict_item st (dat _ ho) (k:=vs[i].1) (v:=vs[i].2) (List.getElem?_eq_getElem hv) λkey h' hk Fu sb=>?_
  have I1:Inv X pins σ H {s with heap:=h'}:=I.turned (t':=s.toks) (λb o hb e=>(sb.2 b hb).trans e) f0 f1 f3 f4 f5;have ek:=rel.get (List.getElem?_eq_getElem hi) (List.getElem?_eq_getElem hv);refine⟨key,rfl,letGo_keyiter Fu ⟨kV kvs[i].1,H,I1,?_,⟨rfl,kvs[i],List.getElem?_eq_getElem hi,rfl⟩,Fu,λb hb=>(hf b hb).1⟩⟩;rw [ek];exact uR hk
 done:=by
  intro X hP hw hK hc i pins s σ H E I hf st hg;subst hP hw hK;obtain⟨hi,ha⟩:=hg;obtain⟨ho,_⟩:=I.bR a _ ha;obtain⟨f0,f1,f2,f3,f4,f5⟩:=hf it (by simp);have hl:=rel.length;exact wpAny_pyNext_dict_end (I.ok.hd hc) st (dat _ ho) (List.getElem?_eq_none (by omega)) λh' eb=>⟨rfl,I.turned (t':=s.toks) (λb o hb e=>eb b o hb e) f0 f1 f3 f4 f5⟩
 self:=λ_ _ _ _ _ st h=>wpAny_pyIter_keyiter st h
noncomputable def Oq (tl:TE):TI:=λσ H R=>tl σ H λx H1=>∃a kvs,x=.ref a/\H1 a=some (.dK kvs)/\∀o,R (Itd a o kvs) (upd H1 a (.iY o (.dK kvs)))
theorem Ex {X:Cx}{tg l:Expr}{tl:TE}(hl:PE X l tl):PI X tg l (Oq tl):=by
 intro pins s σ H R I h;refine cg (hl pins s σ H _ I h) λv s1 ⟨x,H1,I1,r1,q1⟩=>?_
 obtain⟨a,kvs,e,ha,q⟩:=q1;subst e;cases r1;obtain⟨z,hd,vs,rel,dd⟩:=ke I1.bR ha;obtain⟨o,ho,I2⟩:=I1.freeze ha;obtain⟨ep,dat⟩:=dd.dictAt;have SO:∀h:Heap,h.get? a=some o->h.DictAt (ba X.prog X.w) a vs ep:=λh e=>by
  obtain⟨o',es,h1,h2⟩:=dat;rw [ho] at h1;cases h1;exact⟨o,es,e,h2⟩
 refine wpAny_pyIter_dict hd dat ?_;refine⟨s1.heap.objs.size,[s1.heap.objs.size],_,_,_,rfl,I2.kept (t':=s1.toks) λb o e=>Heap.get?_push_of_some _ e,FJ hd rel SO,⟨_,Heap.get?_push_size _ rfl,rfl,rfl⟩,λb hb=>?_,q o⟩;have e:b=s1.heap.objs.size:=by simpa using hb
 subst e;exact I2.GZ (Nat.le_refl _) (I2.bR.fresh (Nat.le_refl _))
noncomputable def Xp (H₀:Hp) (D:Ends):Ends:={nx:=λσ H=>D.nx σ H\/∃a kvs H',M9 H₀ a kvs H H'/\D.nx σ H',rt:=λv H=>D.rt v H\/∃a kvs H',M9 H₀ a kvs H H'/\D.rt v H',bk:=D.bk,ct:=D.ct}
noncomputable def Ot (H₀:Hp) (t:TS):TS:=λD σ H=>t (Xp H₀ D) σ H
theorem Ey {X:Cx}{st:Stmt}{t:TS}(h:PS X st t):PS X st (Ot X.H₀ t):=λpins s σ H D I q=>by
 refine cg (h pins s σ H _ I q) λf s' h=>?_
 cases f with
 | next=>
  obtain⟨σ',H',i,d⟩:=h;rcases d with d | ⟨a,kvs,H2,th,d⟩
  ·exact⟨σ',H',i,d⟩
  ·exact⟨σ',H2,i.HP th,d⟩
 | brk=>exact h
 | cont=>exact h
 | ret u=>
  obtain⟨v,σ',H',i,r,d⟩:=h;rcases d with d | ⟨a,kvs,H2,th,d⟩
  ·exact⟨v,σ',H',i,r,d⟩
  ·exact⟨v,σ',H2,i.HP th,r,d⟩
theorem M_ {a:Addr}{o:Obj}{kvs:List (Key×V)}{g:TG}{tb:TS}{D:Ends}{σ:St}{H:Hp}(Pv:Nat->St->Hp->Prop) (h0:Pv 0 σ H) (hl:∀i σ H,i<=kvs.length->Pv i σ H->H a=some (.iY o (.dK kvs)))
  (hs:∀i kv σ H,kvs[i]?=some kv->Pv i σ H->g (kV kv.1) σ H λσ2 H2=>tb {D with nx:=Pv (i+1),ct:=Pv (i+1),bk:=D.nx} σ2 H2) (hd:∀σ H,Pv kvs.length σ H->D.nx σ H):M7 (Itd a o kvs) g tb D σ H:=by
 refine⟨λi m σ H=>m=kvs.length - i/\i<=kvs.length/\Pv i σ H,⟨kvs.length,by simp,Nat.zero_le _,h0⟩,?_⟩;rintro i m σ H ⟨rfl,hi,p⟩;have q:=hl i σ H hi p
 by_cases gY:i < kvs.length
 ·refine .inr ⟨⟨gY,q⟩,Pv (i+1),λσ' H' p'=>⟨kvs.length - (i+1),by omega,rfl,gY,p'⟩,λx H' y=>?_⟩;obtain⟨rfl,kv,e,rfl⟩:=y;exact hs i kv σ _ e p
 ·have e:i=kvs.length:=by omega
  subst e;exact .inl ⟨⟨Nat.le_refl _,q⟩,hd σ H p⟩
section
variable {prog:Program}{w:World}{A:Around}{E:Value->Shared->Prop}{s:Shared}
theorem uU {d:Addr}{kvs:List (Key×Value)}{ep:Nat}{Q:List Value->Shared->Prop}(hh:A.handled=none) (lo:(d == sysModules)=false) (dat:s.heap.DictAt (ba prog w) d kvs ep) (hn:kvs.length<=sizeLine)
  (h:∀h' tk (vs:List Value),(∀b o,s.heap.get? b=some o->h'.get? b=some o)->s.heap.objs.size < h'.objs.size->vs.length=kvs.length->(∀(j:Nat) v,vs[j]?=some v->∃k x,kvs[j]?=some (k,x)/\(ba prog w).is k v=true)->Q vs {s with heap:=h',toks:=tk}) :
  wpAny (model prog w) A (collect (.ref d)) Q E s:=by
 unfold collect;refine wpAny_bind (wpAny_runValue (codeAny_builtin entry_proto_collect' ?_));show wpAny _ _ (do again (.builtin "list.__iadd__" ⟨[<-newList [],.ref d],[]⟩)) _ _ s;refine wpAny_bind (wpAny_newList (wpAny_pure ⟨Code.quiet_builtin _ (by decide +kernel),codeAny_builtin entry_list_iadd' ?_⟩));show wpAny _ _ (Builtin.List.listExtendWith (.ref s.heap.objs.size) (.ref d) (.ref s.heap.objs.size)) _ _ {s with heap:=s.heap.push (seqObj "list" #[] 0)};rw [Around.under_plainId (by decide +kernel)];have gY:=dat.lt_size;refine PySem.W.kdl_extend (s:={s with heap:=s.heap.push (seqObj "list" #[] 0)}) (R:=λr s'=>match r with
  | .ok (.ret v)=>wpAny (model prog w) A (match v with
   | .ref a=>do
    let o <-load a
    match o.data with
    | .seq xs _=>pure xs.toList
    | _=>unsupported "internal:collect"
   | _=>unsupported "internal:collect") Q E s'
  | .ok _=>False
  | .error e=>E e s') (PySem.W.kdl_dict (kvs:=kvs) (ep:=ep) lo) hh (dat.push _) s.heap.objs.size (Nat.ne_of_gt gY) (Nat.ne_of_gt gY) (.ref s.heap.objs.size) 0 (Heap.get?_push_size _ rfl) (λh' tk acc c kp hS it=>?_) hn
 show wpAny (model prog w) A (do
   let o <-load s.heap.objs.size
   match o.data with
   | .seq xs _=>pure xs.toList
   | _=>unsupported "internal:collect") Q E {s with heap:=h',toks:=tk}
 refine wpAny_bind (wpAny_load hS ?_);exact wpAny_pure (h h' tk acc.toList (λb o e=>kp b o (Nat.ne_of_lt (Heap.lt_size e)) (Heap.get?_push_of_some _ e)) (Heap.lt_size hS) (by rw [Array.length_toList]; exact it.1) λj v e=>it.2 j v (by rw [<-Array.getElem?_toList]; exact e))
end
section
variable {X:Cx}
theorem fc (hc:X.calm=true):eX X (.builtin "sorted") (λxs H Q=>∃(p:Addr) (kvs:List (Key×V)) (ns:List Int),xs=[.ref p]/\Rd H p (.dK kvs)/\gD kvs=ns.map V.int/\ns.length < 64/\∀(l:Addr) (jQ:List Int),H l=none->jQ.Perm ns->jQ.Pairwise (·<=·)->Q (.ref l) (upd H l (.lst (jQ.map V.int)))):=by
 intro pins s σ H xs us Q I r h;obtain⟨p,kvs,ns,rfl,hq,hk,h64,q⟩:=h;obtain⟨u,rfl,rx⟩:=vals1 r;cases rx;obtain⟨z,hd,vs,rel,dd⟩:=gp I.bR hq;obtain⟨ep,dat⟩:=dd.dictAt;have hl:=rel.length;have gg:kvs.length=ns.length:=by
  have:=congrArg List.length hk;simpa [gD] using this
 refine Calls.call_function_entry kind_sorted plain_sorted entry_sorted (args_sorted1 _) ?_;unfold Builtin.«sorted»;refine wpAny_bind (m:=checkCount "sorted" 1 1 _) (wpAny_pure ?_);refine wpAny_bind (uU (I.ok.hd hc) hd dat (by rw [<-hl]; exact z) λh' tk ws kp hsz hlen hws=>?_);refine wpAny_bind (wpAny_newList ?_);have hv:Vals (ns.map V.int) ws:=by
  rw [<-hk];exact tj (P:=X.prog) (w:=X.w) rel hlen hws
 have hI:IntsAre ws ns:=intsAre_of hv;have MG:(h'.push (seqObj "list" ws.toArray 0)).get? h'.objs.size=some (seqObj "list" ws.toArray 0):=Heap.get?_push_size _ rfl;refine wpAny_bind (wpAny_holding (wpAny_call_entry slot_list_sort ⟨_,MG,rfl⟩ entry_list_sort (list_sort_tree MG hI (by omega) λout jQ a1 a2 a3=>⟨_,rfl,?_⟩) (args_list_sort _)));obtain⟨e,he⟩:=sortedHeap_at (out:=out) MG;have hp:=a2.length_eq;refine wpAny_pure ⟨_,rfl,?_⟩;refine⟨.ref h'.objs.size,_,I.laid (t':=tk) (λb o hb=>?_) (Nat.le_of_lt hsz) (show cJ X.prog X.w _ _ _ (.lst (jQ.map V.int)) from⟨by rw [List.length_map]; exact Nat.le_of_lt (aJ (by omega)),out.toList,e,hV a1,by simpa [seqObj] using he⟩),rfl,q _ jQ (I.bR.fresh (Nat.le_of_lt hsz)) a2 a3⟩;have oO:=kp b o hb;have gY:=Heap.lt_size oO;rw [sortedHeap_old (Nat.ne_of_lt gY) (by rw [Heap.size_push]; exact Nat.lt_succ_of_lt gY)];exact Heap.get?_push_of_some _ oO
end
section
variable {X:Cx}
end
section
variable {X:Cx}
end
noncomputable def Xq (H₀:Hp) (Q:VK):VK:=λv H=>Q v H\/∃a kvs H',M9 H₀ a kvs H H'/\Q v H'
noncomputable def HQ (H₀:Hp) (t:TE):TE:=λσ H Q=>t σ H (Xq H₀ Q)
theorem Na {X:Cx}{e:Expr}{t:TE}(h:PE X e t):PE X e (HQ X.H₀ t):=λpins s σ H Q I q=>by
 refine cg (h pins s σ H _ I q) λv s' h=>?_
 obtain⟨x,H',i,r,d⟩:=h;rcases d with d | ⟨a,kvs,H2,th,d⟩
 ·exact⟨x,H',i,r,d⟩
 ·exact⟨x,H2,i.HP th,r,d⟩
section
variable {a D:Addr}{o:Obj}{kvs:List (Key×V)}{fr:List Nat}{tt:TT}{te:TE}{σ:St}{H:Hp}{Q:Hp->Prop}
end
section
variable {X:Cx}
end
section
variable {X:Cx}
end
noncomputable def SQ (K:PySem.W.Frag):R2:=λx y H Q=>Sq K x y H Q\/og K x y H Q
theorem jq {X:Cx}:Wj X (SQ X.K):=λvalue slice pins s σ H x y v u Q I rx ry h hs=>by
 rcases h with h | h
 ·exact cy value slice pins s σ H x y v u Q I rx ry h hs
 ·exact ak value slice pins s σ H x y v u Q I rx ry h hs
theorem aS.no {P:Program}{w:World}{K:PySem.W.Frag}{mg:Str->Option Value}{base:Heap}{CX:uH}{k:Nat}{f:Addr}{fd:FuncData}{ps:List Str}:aS P w K mg base CX k f fd ps (λ_ _ _ _=>False):=
 ⟨λ_ _ _ _ h=>h.elim,λ_ _ _ _ _ _ _ _ _ _=>by
  intros
  exact False.elim (by assumption)⟩
noncomputable def SR:D->String
 | .bM=>"NoneType"
 | .bl _=>"bool"
 | .int _=>"int"
 | .str _=>"str"
 | .lst _=>"list"
 | .tup _=>"tuple"
theorem fC.ty {K:PySem.W.Frag}{H:Hp}{x:V}{d:D}(h:fC K H x d):Wk K H x (.type (SR d)):=by
 cases h with
 | bM=>exact .ty .bM
 | bl b=>exact .ty (.bl b)
 | int i=>exact .ty (.int i)
 | str x=>exact .ty (.str x)
 | lst h _ _=>exact .lst h
 | tup h _ _=>exact .tup h
noncomputable def isN (t n:String):Bool:=t == n || (t == "bool"&&n == "int")
noncomputable def isT (d:D) (n:String):Bool:=isN (SR d) n
theorem aaK (K:PySem.W.Frag) (t n:String) (ht:t="NoneType"\/t="bool"\/t="int"\/t="str"\/t="list"\/t="tuple") (hn:n="bool"\/n="str"\/n="int"\/n="tuple"\/n="list"\/n="dict"):PySem.W.kitOne K (.type t) (.type n)=some (isN t n):=by
 rcases ht with rfl | rfl | rfl | rfl | rfl | rfl <;> rcases hn with rfl | rfl | rfl | rfl | rfl | rfl <;>
  first
  | exact lj K _
  | exact MU K (by decide +kernel) (by decide +kernel) (by decide +kernel)
theorem FK (K:PySem.W.Frag) (d:D) (n:String) (hn:n="bool"\/n="str"\/n="int"\/n="tuple"\/n="list"\/n="dict"):PySem.W.kitOne K (.type (SR d)) (.type n)=some (isT d n):=by
 refine aaK K _ n ?_ hn
 cases d <;> simp [SR]
open AutoSeq1 (wpAny_loadPart')
section
variable {X:Cx}
theorem FL:W8 X "dict.values" (λx vs H Q=>∃(a:Addr) (kvs:List (Key×V)),x=.ref a/\vs=[]/\Rd H a (.dK kvs)/\∀p,H p=none->Q (.ref p) (upd H p (.ext λh=>h.IsValuesView p a))):=by
 intro pins s σ H x vs v us Q I rx rv h;obtain⟨a,kvs,rfl,rfl,ha,q⟩:=h;cases rx;cases rv;obtain⟨z,hd,vs,rel,dd⟩:=gp I.bR ha;refine call_meetsIn PySem.F.slot_dict_values dd.typeIs PySem.F.entry_dict_values (PySem.F.args_dict_values_1 _) (meets_dict_values (ba X.prog X.w) a hd) ⟨⟨vs,dd⟩,.ref s.heap.objs.size,_,I.laid (a:=s.heap.objs.size) (t':=s.toks) (λb o hb=>Heap.get?_push_of_some _ hb) (Nat.le_refl _) ?_,rfl,q _ (I.bR.fresh (Nat.le_refl _))⟩;have e:=Heap.get?_push_size s.heap (o:={cls:=.type "dict_values",data:=.fields #[.ref a]}) rfl;exact⟨⟨_,e,rfl,rfl⟩,⟨_,e⟩,λh1 h2 ⟨o,e1,c,d⟩ k=>⟨o,k o e1,c,d⟩⟩
end
section
variable {prog:Program}{w:World}{A:Around}{E:Value->Shared->Prop}{s:Shared}
end
section
variable {X:Cx}
theorem KV.xw:∀{kvs:List (Key×V)}{vs:List (Key×Value)}{i:Nat}{p:Key×V}{q:Key×Value},KV kvs vs->kvs[i]?=some p->vs[i]?=some q->RelV p.2 q.2
 | _,_,0,_,_,.cons r _,h1,h2=>by
  cases h1;cases h2;exact r.2
 | _,_,i+1,_,_,.cons _ t,h1,h2=>KV.xw (i:=i) t (by simpa using h1) (by simpa using h2)
theorem keq_hits {pins:List (Addr×Obj)}{σ:St}{H:Hp}{s:Shared}(I:Inv X pins σ H s) {A:Around}{kb:List (Key×V)}{vb:List (Key×Value)}(rb:KV kb vb) (hu:A.units+60 < cLine):∀{ka:List (Key×V)}{va:List (Key×Value)},KV ka va ->
  (∀kv∈ka,∃u d,bD kb kv.1=some u/\fC X.K H kv.2 d/\fC X.K H u d/\d.dep<=60)->PySem.W.KeqHits A s vb va true
 | _,_,.nil,_=>.nil
 | p::_,(k2,v2)::_,.cons r t,h=>by
  obtain⟨u,d,e1,h1,h2,h3⟩:=h p (List.mem_cons_self ..);obtain⟨e,r⟩:=r;have hv:=rb.val p.1;rw [e1] at hv
  cases e4:valueAt vb p.1 with
  | none=>rw [e4] at hv; cases hv
  | some y=>
   rw [e4] at hv;have e':p.1=k2:=e;rw [e'] at e4;have key:SeqAt.EqAt A s v2 y true:=by
    have:=ku I h1 (A:=A) (by omega) h2 r hv;rw [dm] at this;exact this
   exact PySem.W.KeqHits.hit (e:=true) (b:=true) e4 key (keq_hits I rb hu t λkv BC=>h kv (List.mem_cons_of_mem _ BC))
end
section
variable {prog:Program}{w:World}{A:Around}{E:Value->Shared->Prop}{s:Shared}
end
section
variable {X:Cx}
end
noncomputable def bH (fr:List Nat) (σ:St) (v v2:Option V):St:=v::v2::fr.map λj=>(σ[j]?).join
structure pw (X:Cx) (x x2:Str) (ns:List Str) (fr:List Nat) (scope:Scope) (cl:List (Str×Addr)):Prop where
 rV:closureFor scope X.env=pure cl
 iG:∀y∈scope.names,y.2≠.cell
 kind:scope.kind=.function
 own:∀y∈scope.names,y.2=.local->scope.names.lookup y.1=some .local
 var:scope.names.lookup x=some .local
 HR:scope.names.lookup x2=some .local
 sub:∀z c,cl.lookup z=some c->X.env.cells.lookup z=some c
 has:∀z,((relabel scope X.env).names.lookup z=some .cell\/(relabel scope X.env).names.lookup z=some .free)->∃c,cl.lookup z=some c
 len:ns.length=fr.length
 xl:∀(k:Nat) z j,ns[k]?=some z->fr[k]?=some j->X.N[j]?=some z/\X.env.scope.names.lookup z=some .cell/\((relabel scope X.env).names.lookup z=some .cell\/(relabel scope X.env).names.lookup z=some .free)
 nd:(x::x2::ns).Nodup
noncomputable def iJ (K:PySem.W.Frag) (J:It) (fr:List Nat) (tt:TT) (te:TE) (σ:St) (D:Addr) (Q:Hp->Prop) (H:Hp):Prop:=
 ∃W:Nat->Nat->Hp->Prop,(∃m,W 0 m H)/\∀i m H2,W i m H2->(J.stop i H2/\Q H2)\/(J.go i H2/\∀v H',J.Sa i H2 v H'->∃t va vb,v=.ref t/\bS K H' t [va,vb]/\tt (bH fr σ (some va) (some vb)) H' λb H3=>
  if b=true then te (bH fr σ (some va) (some vb)) H3 λy H4=>∃ys,H4 D=some (.lst ys)/\ys.length < sizeLine/\∃m',m' < m/\W (i+1) m' (upd H4 D (.lst (ys++[y])))else ∃m',m' < m/\W (i+1) m' H3)
section
variable {X:Cx}{pins:List (Addr×Obj)}{σ:St}{H:Hp}{s:Shared}{x x2:Str}{ns:List Str}{fr:List Nat}{scope:Scope}{cl:List (Str×Addr)}{fp:List Addr}
theorem HS (I:Inv X pins σ H s) (L:pw X x x2 ns fr scope cl) (hf:∀b∈fp,hG X pins H b) (ho:∀b∈fp,b < s.heap.objs.size):(cP X (x::x2::ns) scope cl s.heap.objs.size s H fp).Ok where
 mod:=I.ok.mod
 kind:=L.kind
 glob:=I.ok.glob
 blt:=I.ok.blt
 above:=Nat.le_refl _
 inj:=λa b c h1 h2=>I.ok.inj a b c (L.sub a c h1) (L.sub b c h2)
 has:=λz h=>L.has z h
 RZ:=λ_ _ h=>nomatch h
 hd:=I.ok.hd
 frames:=I.ok.frames
 Wg:=.inl rfl
 NW:=λb hb=>⟨Nat.ne_of_lt (ho b hb),λz c h=>(hf b hb).2.2.2.2.1 z c (L.sub z c h)⟩
 bs:=I.bs
 Fp:=Nat.le_trans I.ok.Fp I.sz
 wR:=λb o e hb=>by
  rcases (hf b hb).2.2.2.1 with h | h
  ·exact I.ok.wR b o e h
  ·exact absurd (Nat.lt_of_lt_of_le (Heap.lt_size e) (Nat.le_trans I.ok.Fp h)) (Nat.lt_irrefl _)
 wU:=λb hb hs=>by
  rcases List.mem_cons.mp (I.uz b hs)with h | h
  ·exact(hf b hb).2.1 h
  ·exact(hf b hb).2.2.1 h
 kU:=I.stack
 ME:=I.uA
theorem HU {fr:List Nat}{σ:St}{v v2:Option V}{k:Nat}{u:V}(h:(bH fr σ v v2)[k+2]?=some (some u)):∃j,fr[k]?=some j/\σ[j]?=some (some u):=by
 unfold bH at h;rw [List.getElem?_cons_succ,List.getElem?_cons_succ,List.getElem?_map] at h
 cases e:fr[k]? with
 | none=>rw [e] at h; cases h
 | some j=>
  rw [e] at h;refine⟨j,rfl,?_⟩
  cases e2:σ[j]? with
  | none=>simp [e2] at h
  | some o=>simp [e2] at h; rw [h]
theorem FN {h':Heap}{t':Nat}(I:Inv X pins σ H s) (L:pw X x x2 ns fr scope cl) (hf:∀b∈fp,hG X pins H b) (ho:∀b∈fp,b < s.heap.objs.size)
  (hn:h'.Ns s.heap.objs.size λ_=>none) (hk:∀b o,s.heap.get? b=some o->h'.get? b=some o) :
  Inv (cP X (x::x2::ns) scope cl s.heap.objs.size s H fp) [] (bH fr σ none none) H {s with heap:=h',toks:=t'} where
 ok:=HS I L hf ho
 os:=rfl
 bare:=I.bare
 base:=Un.kept hk
 loc:=by
  refine⟨_,hn,λi z v e1 e2 e3=>?_⟩
  match i,e1,e2 with
  | 0,_,e2=>cases e2
  | 1,_,e2=>cases e2
  | k+2,e1,e2=>
   have Xe:ns[k]?=some z:=e1;obtain⟨j,ej,ev⟩:=HU e2;obtain⟨hN,hc,hy⟩:=L.xl k z j Xe ej;obtain⟨m,hm,hl⟩:=I.loc;obtain⟨u,r,l⟩:=hl j z v hN ev (.inr (.inl hc));refine⟨u,r,.inr ⟨hy,?_⟩⟩;rcases l with ⟨l,_⟩ | ⟨_,c,M3,⟨o,FE,hd⟩⟩
   ·have:X.env.scope.names.lookup z=some .local:=l;rw [hc] at this;cases this
   ·obtain⟨c',NZ⟩:=L.has z hy;have e:=L.sub z c' NZ;rw [M3] at e;cases e;exact⟨c,NZ,o,hk c o FE,hd⟩
 cell:=λz c e=>by
  obtain⟨v,o,FE,hd⟩:=I.cell z c (L.sub z c e);exact⟨v,o,hk c o FE,hd⟩
 free:=I.fresh
 fQ:=λz c e=>I.fQ z c (L.sub z c e)
 pin:=λp hp=>nomatch hp
 bR:=I.bR.kept hk
 len:=by
  show(bH fr σ none none).length=(x::x2::ns).length;unfold bH;rw [List.length_cons,List.length_cons,List.length_map,List.length_cons,List.length_cons,L.len]
theorem FO {elt iter:Expr}{px BD tp:Pos}{kt:Nat}{ifs:List Expr}{pos:Pos}{J:It}{it D:Addr}{tn:Nat->Heap->Prop}{tt:TT}{te:TE}{Qe:Hp->Prop}{R:Result->Shared->Prop}{s4:Shared}
  (hc:X.calm=true) (L:pw X x x2 ns fr scope cl) (T:Turn X.prog X.w X.K (.Tuple [.Name x px,.Name x2 BD] kt tp) J fp it tn) (hf:∀b∈fp,hG X pins H b) (ho:∀b∈fp,b < s.heap.objs.size) (I:Inv X pins σ H s)
  (hE:PE (cP X (x::x2::ns) scope cl s.heap.objs.size s H fp) elt te) (hT:uM (PT (cP X (x::x2::ns) scope cl s.heap.objs.size s H fp)) ifs tt) (hw:iJ X.K J fr tt te σ D Qe H)
  (I4:Inv (cP X (x::x2::ns) scope cl s.heap.objs.size s H fp) [] (bH fr σ none none) H s4) (Xf:tn 0 s4.heap)
  (hR:∀(s':Shared) (H':Hp) (v v2:Option V),Inv (cP X (x::x2::ns) scope cl s.heap.objs.size s H fp) [] (bH fr σ v v2) H' s'->Qe H'->R (.ok .next) s') :
  codeAny (model X.prog X.w) X.A (.compStart (.ListComp elt [⟨.Tuple [.Name x px,.Name x2 BD] kt tp,iter,ifs,0⟩] scope pos) 0 (.ref it) (.ref D) (compEnvC scope cl s.heap.objs.size X.env)) R s4:=by
 obtain⟨W,⟨m0,w0⟩,turn⟩:=hw;have Sy:=HS I L hf ho;have Hs:Loc (cP X (x::x2::ns) scope cl s.heap.objs.size s H fp).env.scope x:=.inl (lookup_relabel_local L.var);have oW:∀{H':Hp},(∀b∈fp,H' b=none)->∀b∈fp,hG (cP X (x::x2::ns) scope cl s.heap.objs.size s H fp) [] H' b:=λhn b hb=>
  ⟨hn b hb,(Sy.NW b hb).1,Sy.wU b hb,.inl hb,(Sy.NW b hb).2,λp hp=>nomatch hp⟩
 have fr0:∀b∈fp,H b=none:=λb hb=>(hf b hb).1
 have loop:codeAny (model X.prog X.w) X.A (.compLoop (.ListComp elt [⟨.Tuple [.Name x px,.Name x2 BD] kt tp,iter,ifs,0⟩] scope pos) 0 (.ref it) (.ref D) (compEnvC scope cl s.heap.objs.size X.env)) R s4:=by
  refine codeAny_loop rfl (λn s'=>∃i v v2 H',Inv (cP X (x::x2::ns) scope cl s.heap.objs.size s H fp) [] (bH fr σ v v2) H' s'/\tn i s'.heap/\(∀b∈fp,H' b=none)/\W i n H') (λn s3 hI=>?_) m0 ⟨0,none,none,H,I4,Xf,fr0,w0⟩;obtain⟨i,v0,v02,H3,I3,N9,GQ,w3⟩:=hI;show wpAny _ X.A ((compTurn (.ListComp elt [⟨.Tuple [.Name x px,.Name x2 BD] kt tp,iter,ifs,0⟩] scope pos) 0 (.ref it) (.ref D) (compEnvC scope cl s.heap.objs.size X.env)).onRaise (λy=>do noteFrame y (compEnvC scope cl s.heap.objs.size X.env); theTreesLotGoes y)) _ _ s3;refine wpAny_noted ?_;rw [compTurn_list];have low:∀{α:Type}{t:Sem α}{Q Q':α->Shared->Prop}{E:Value->Shared->Prop}{s5:Shared},wpAny (model X.prog X.w) X.A t Q (λ_ _=>False) s5->(∀a s6,Q a s6->Q' a s6)->wpAny (model X.prog X.w) X.A t Q' E s5:=
   λh hq=>wpAny_mono h hq λ_ _ z=>z.elim
  rcases turn i n H3 w3 with ⟨stop,q⟩ | ⟨go,step⟩
  ·refine wpAny_bind (wpAny_standAt (wpAny_bind (low (T.done (cP X (x::x2::ns) scope cl s.heap.objs.size s H fp) rfl rfl rfl hc i [] s3 _ H3 (λ_ _=>False) I3 (oW GQ) N9 stop) λr s5 hr=>?_)));obtain⟨hr,I5⟩:=hr;subst hr;exact wpAny_pure (hR s5 H3 v0 v02 I5 q)
  ·refine wpAny_bind (wpAny_standAt (wpAny_bind (low (T.item (cP X (x::x2::ns) scope cl s.heap.objs.size s H fp) rfl rfl rfl hc i [] s3 _ H3 (λ_ _=>False) I3 (oW GQ) N9 go) λr s5 hr=>?_)));obtain⟨u,hr,h5⟩:=hr;subst hr;refine wpAny_bind (low h5 λ_ s6 h6=>?_);obtain⟨y,H6,I6,r6,y6,Sz,fr6⟩:=h6;have I6':=I6.pinned (oW fr6) (T.obj _ _ Sz);obtain⟨t,va,vb,ey,hsq,xn⟩:=step y _ y6;subst ey;have aaL:Loc (cP X (x::x2::ns) scope cl s.heap.objs.size s H fp).env.scope x2:=.inl (lookup_relabel_local L.HR);have hg:PG (cP X (x::x2::ns) scope cl s.heap.objs.size s H fp) (.Tuple [.Name x px,.Name x2 BD] kt tp) (R8 X.K 2 (Eh (nC 0) (Eh (nC 1) R7))):=
    iA (X:=cP X (x::x2::ns) scope cl s.heap.objs.size s H fp) hc (bL (aU (i:=0) L.nd rfl Hs (.inr (lookup_relabel_local L.var))) (bL (aU (i:=1) L.nd rfl aaL (.inr (lookup_relabel_local L.HR))) gr))
   refine wpAny_bind (low (hg _ s6 _ H6 (.ref t) u (λσ' H'=>σ'=bH fr σ (some va) (some vb)/\H'=H6) I6' r6 ⟨t,[va,vb],rfl,hsq,rfl,va,[vb],rfl,vb,[],rfl,rfl,rfl,rfl⟩) λ_ s7 h7=>?_);obtain⟨σ7,H7,I7,e7,e7'⟩:=h7;subst e7 e7';have back:∀{H8:Hp}{s8:Shared},Inv (cP X (x::x2::ns) scope cl s.heap.objs.size s H fp) ([]++jf fp s6.heap) (bH fr σ (some va) (some vb)) H8 s8->(∃m',m' < n/\W (i+1) m' H8) ->
     ∃m,m < n/\∃i v v2 H',Inv (cP X (x::x2::ns) scope cl s.heap.objs.size s H fp) [] (bH fr σ v v2) H' s8/\tn i s8.heap/\(∀b∈fp,H' b=none)/\W i m H':=λ{H8 s8} I8 hm=>by
    obtain⟨m',hm,w8⟩:=hm;refine⟨m',hm,i+1,some va,some vb,H8,I8.hJ,T.keep _ _ _ Sz λb hb o e=>(I8.pin (b,o) (List.mem_append_right _ (List.mem_append_right _ (fz hb e)))).1,λb hb=>?_,w8⟩;obtain⟨o,e,d⟩:=T.obj _ _ Sz b hb;exact(I8.pin (b,o) (List.mem_append_right _ (List.mem_append_right _ (fz hb e)))).2.1
   have emit:∀{H8:Hp}{s8:Shared},Inv (cP X (x::x2::ns) scope cl s.heap.objs.size s H fp) ([]++jf fp s6.heap) (bH fr σ (some va) (some vb)) H8 s8 ->
     te (bH fr σ (some va) (some vb)) H8 (λy H4=>∃ys,H4 D=some (.lst ys)/\ys.length < sizeLine/\∃m',m' < n/\W (i+1) m' (upd H4 D (.lst (ys++[y])))) ->
     wpAny (model X.prog X.w) X.A (do let _ <-call (.builtin "list.append") [.ref D,<-eval elt (compEnvC scope cl s.heap.objs.size X.env)]) (λ_ s9=>∃m,m < n/\∃i v v2 H',Inv (cP X (x::x2::ns) scope cl s.heap.objs.size s H fp) [] (bH fr σ v v2) H' s9/\tn i s9.heap/\(∀b∈fp,H' b=none)/\W i m H') (λ_ _=>False) s8:=λ{H8 s8} I8 h8=>by
    refine wpAny_bind (cg (hE _ s8 _ H8 _ I8 h8) λv9 s9 h9=>?_);obtain⟨z,H9,I9,r9,ys,hD,hlen,hm⟩:=h9;refine wpAny_bind (cg (fA (X:=cP X (x::x2::ns) scope cl s.heap.objs.size s H fp) _ s9 _ H9 (.ref D) [z] (.ref D) [v9] (λ_ H'=>∃m',m' < n/\W (i+1) m' H') I9 rfl (.cons r9 .nil) ⟨D,ys,z,rfl,rfl,hD,hlen,hm⟩) λv10 M4 h10=>?_);obtain⟨_,Of,I10,_,SA⟩:=h10;exact wpAny_pure (back I10 SA)
   cases hT with
   | nil=>
    refine wpAny_bind (wpAny_tests_nil ?_);refine wpAny_bind (low (emit I7 (xm xn)) λ_ s9 h9=>wpAny_pure ⟨rfl,h9⟩)
   | one hP=>
    refine wpAny_bind (wpAny_tests_one (low (hP _ s7 _ _ _ I7 xn) λb s8 h8=>?_));obtain⟨H8,I8,q8⟩:=h8
    cases b with
    | false=>
     have q9:∃m',m' < n/\W (i+1) m' H8:=q8;exact wpAny_pure ⟨rfl,back I8 q9⟩
    | true=>
     exact wpAny_bind (low (emit I8 q8) λ_ s9 h9=>wpAny_pure ⟨rfl,h9⟩)
 exact codeAny_compStart_list loop (T.self X.A 0 _ _ _ Xf loop)
theorem FP {s':Shared}{H':Hp}{σ':St}(I:Inv X pins σ H s) (hf:∀b∈fp,hG X pins H b) (I':Inv (cP X (x::x2::ns) scope cl s.heap.objs.size s H fp) [] σ' H' s'):Inv X pins σ H' s':=
 I.N0 (ch:=fp) I'.os I'.base I'.bR I'.bare λb hb=>⟨(hf b hb).2.2.2.1,(hf b hb).2.1,(hf b hb).2.2.2.2.1,(hf b hb).2.2.2.2.2⟩
theorem Ez {elt iter:Expr}{px BD tp:Pos}{kt:Nat}{ifs:List Expr}{pos:Pos}{J:It}{it:Addr}{tn:Nat->Heap->Prop}{tt:TT}{te:TE}{Qe:Addr->Hp->Prop}{R:Value->Addr->Result->Shared->Prop}{E:Value->Shared->Prop}
  (hc:X.calm=true) (L:pw X x x2 ns fr scope cl) (T:Turn X.prog X.w X.K (.Tuple [.Name x px,.Name x2 BD] kt tp) J fp it tn) (hf:∀b∈fp,hG X pins H b) (I:Inv X pins σ H s) (st:tn 0 s.heap)
  (hE:∀C s H,PE (cP X (x::x2::ns) scope cl C s H fp) elt te) (hT:∀C s H,uM (PT (cP X (x::x2::ns) scope cl C s H fp)) ifs tt) (hw:∀D,H D=none->iJ X.K J fr tt te σ D (Qe D) (upd H D (.lst [])))
  (hR:∀(D C:Addr) (s':Shared) (H':Hp),Inv X pins σ H' s'->Qe D H'->(∃m o,s'.heap.get? C=some o/\(∀v,o.data≠.cell v)/\∀h':Heap,h'.get? C=some o->h'.Ns C m)->H' C=none->C≠X.env.locals->C∉X.fs->X.s₀.heap.objs.size<=C ->
   (∀z c,X.env.cells.lookup z=some c->c≠C)->(∀p∈X.pn++pins,p.1≠C)->R (.ref D) C (.ok .next) s') :
  wpAny (model X.prog X.w) X.A (newList []) (λacc s₃=>wpAny (model X.prog X.w) X.A (newFunctionEnv scope X.env.globals cl [] X.env.qual none .none (some X.env)) (λHu s₄=>
   codeAny (model X.prog X.w) X.A (.compStart (.ListComp elt [⟨.Tuple [.Name x px,.Name x2 BD] kt tp,iter,ifs,0⟩] scope pos) 0 (.ref it) acc {Hu with scope:=relabel scope X.env}) (R acc Hu.locals) s₄) E s₃) E s:=by
 have ho:∀b∈fp,b < s.heap.objs.size:=λb hb=>by
  obtain⟨o,e,_⟩:=T.obj _ _ st b hb;exact Heap.lt_size e
 have I3:Inv X pins σ (upd H s.heap.objs.size (.lst [])) {s with heap:=s.heap.push {cls:=.type "list",dict:=none,data:=.seq ([]:List Value).toArray}}:=I.MP (t':=s.toks) (.nil) (Nat.zero_le _);refine wpAny_newObj_type (wpAny_newFunctionEnv L.iG (by intro y hy; simp at hy) (λh1 sU xo=>?_) L.kind);dsimp only at sU xo ⊢;generalize M5:({s with heap:=s.heap.push {cls:=.type "list",dict:=none,data:=.seq ([]:List Value).toArray}}:Shared)=s3 at I3;have eh:s.heap.push {cls:=.type "list",dict:=none,data:=.seq ([]:List Value).toArray}=s3.heap:=by rw [<-M5]
 rw [eh] at sU xo ⊢;have hz:s3.heap.objs.size=s.heap.objs.size+1:=by rw [<-eh,Heap.size_push]
 have hk:∀b o,s3.heap.get? b=some o->h1.get? b=some o:=λb o e=>xo.extBut b o (Nat.ne_of_lt (Heap.lt_size e)) (Heap.get?_push_of_some _ e)
 have SE:∀b∈fp,hG X pins (upd H s.heap.objs.size (.lst [])) b:=λb hb=>⟨by rw [au (Nat.ne_of_lt (ho b hb))]; exact(hf b hb).1,(hf b hb).2⟩
 have Xg:∀b∈fp,b < s3.heap.objs.size:=λb hb=>by rw [hz]; exact Nat.lt_succ_of_lt (ho b hb)
 have es:∀tk,({s with heap:=h1,toks:=tk}:Shared)={s3 with heap:=h1,toks:=tk}:=λtk=>by rw [<-M5]
 rw [es];have I4:=FN (t':=s.toks+([]:List (Str×Value)).length) I3 L SE Xg sU hk;refine FO hc L T SE Xg I3 (hE _ _ _) (hT _ _ _) (hw _ I.fresh) I4 ?_ λs' H' v v2 I' q=>?_
 ·refine T.keep _ _ _ st λb hb o e=>hk b o ?_
  rw [<-eh];exact Heap.get?_push_of_some _ e
 ·have IX:=FP I3 SE I';obtain⟨m,⟨o,uB,ep,BB,Fq,Xh⟩,_⟩:=I'.loc;refine hR _ _ s' H' IX q ⟨m,o,BB,λv z=>?_,λh' e=>⟨o,uB,ep,e,Fq,Xh⟩⟩ I'.free (Nat.ne_of_gt I3.lt) (I3.R0 (Nat.le_refl _)) I3.sz (λz c e=>?_) λp hp=>?_
  ·rw [Fq] at z;cases z
  ·obtain⟨v,o2,e2,_⟩:=I3.cell z c e;exact Nat.ne_of_lt (Heap.lt_size e2)
  ·exact Nat.ne_of_lt (Heap.lt_size (I3.pin p hp).1)
noncomputable def SS (K:PySem.W.Frag) (wi:TI) (fr:List Nat) (tt:TT) (te:TE):TE:=λσ H Q=>wi σ H λJ H1=>∀D,H1 D=none->iJ K J fr tt te σ D (λH2=>Q (.ref D) H2) (upd H1 D (.lst []))
theorem HV {elt iter:Expr}{px BD tp pos:Pos}{kt:Nat}{ifs:List Expr}{wi:TI}{tt:TT}{te:TE}(hc:X.calm=true) (L:pw X x x2 ns fr scope cl) (hi:PI X (.Tuple [.Name x px,.Name x2 BD] kt tp) iter wi)
  (hE:∀C s H fp,PE (cP X (x::x2::ns) scope cl C s H fp) elt te) (hT:∀C s H fp,uM (PT (cP X (x::x2::ns) scope cl C s H fp)) ifs tt)
  (hs:∀v,foldedSetIterable iter X.env v=pure v:=by intro _; rfl):PE X (.ListComp elt [⟨.Tuple [.Name x px,.Name x2 BD] kt tp,iter,ifs,0⟩] scope pos) (SS X.K wi fr tt te):=by
 intro pins s σ H Q I h;rw [eval_ListComp];refine wpAny_comprehension_free (use:=none) rfl hs L.rV L.kind L.own (cg (hi pins s σ H _ I h) λv s1 h1=>cg h1 λWO s2 h2=>?_);obtain⟨it,fp,tn,J,H2,e,I2,T,Se,f2,q⟩:=h2;subst e;refine Ez (R:=λacc C=>compPost (model X.prog X.w) X.A X.xe none (EP X pins σ Q) acc C) hc L T f2 I2 Se (λC s H=>hE C s H fp) (λC s H=>hT C s H fp) q ?_;intro D C s' H' I' q' sU hn hl hfs hz kc Hv;obtain⟨m,o,e,hd,hk⟩:=sU;refine⟨m,hk _ e,λh' xo=>?_⟩;exact⟨.ref D,H',I'.turned (t':=s'.toks) (λb o hb e=>xo.extBut b o hb e) hn hl (.inr hz) kc Hv,rfl,q'⟩
theorem SU {elt iter:Expr}{y:Str}{j:Nat}{px BD tp py pos Xr:Pos}{kt:Nat}{ifs:List Expr}{wi:TI}{tt:TT}{te:TE}(hc:X.calm=true) (hN:X.N.Nodup) (hj:X.N[j]?=some y) (hy:X.env.scope.names.lookup y=some .local) (L:pw X x x2 ns fr scope cl) (hi:PI X (.Tuple [.Name x px,.Name x2 BD] kt tp) iter wi)
  (hE:∀C s H fp,PE (cP X (x::x2::ns) scope cl C s H fp) elt te) (hT:∀C s H fp,uM (PT (cP X (x::x2::ns) scope cl C s H fp)) ifs tt)
  (hsw:swapsWith (.ListComp elt [⟨.Tuple [.Name x px,.Name x2 BD] kt tp,iter,ifs,0⟩] scope pos) (some (.Name y py)) Xr.line X.env=pure true:=by rfl)
  (hs:∀v,foldedSetIterable iter X.env v=pure v:=by intro _; rfl):PS X (.Assign [.Name y py] (.ListComp elt [⟨.Tuple [.Name x px,.Name x2 BD] kt tp,iter,ifs,0⟩] scope pos) Xr) (MH (SS X.K wi fr tt te) (nC j)):=by
 intro pins s σ H Dn I h;rw [exec_Assign_Name_used _ _ _ _ hsw];refine wpAny_bind (wpAny_standAt (wpAny_bind ?_));show wpAny _ X.A (do let _ <-comprehension (.ListComp elt [⟨.Tuple [.Name x px,.Name x2 BD] kt tp,iter,ifs,0⟩] scope pos) scope X.env _ (newList []) false (eval iter X.env) (some (assign (.Name y py) X.env))) _ _ s;refine wpAny_bind (cg (wpAny_comprehension_free (use:=some (assign (.Name y py) X.env)) (Q:=λ_ s'=>SP X pins Dn .next s') rfl hs L.rV L.kind L.own (cg (hi pins s σ H _ I h) λv s1 h1=>cg h1 λWO s2 h2=>?_)) λ_ s' q=>wpAny_pure (wpAny_pure q));obtain⟨it,fp,tn,J,H2,e,I2,T,Se,f2,q⟩:=h2;subst e;refine Ez (R:=λacc C=>compPost (model X.prog X.w) X.A X.xe (some (assign (.Name y py) X.env)) (λ_ s'=>SP X pins Dn .next s') acc C) hc L T f2 I2 Se (λC s H=>hE C s H fp) (λC s H=>hT C s H fp) q ?_;intro D C s' H' I' q' sU hn hl hfs hz kc Hv;obtain⟨m,o,e,hd,hk⟩:=sU;have I'':Inv X (pins++[(C,o)]) σ H' s':=I'.uC λp hp=>by
  rcases List.mem_append.mp hp with h | h
  ·exact I'.pin p (List.mem_append_right _ h)
  ·have ep:p=(C,o):=by simpa using h
   subst ep;exact⟨e,hn,hl,hfs,hd⟩
 refine wpAny_assign_Name (kW I'' hN hj (.inl hy) (show RelV (.ref D) (.ref D) from rfl) (λs2 I2=>?_) (.inr hy));obtain⟨e2,n2,_⟩:=I2.pin (C,o) (List.mem_append_right _ (List.mem_append_right _ (List.mem_singleton.mpr rfl)));refine⟨m,hk _ e2,λh' xo=>?_⟩;exact⟨σ.set j (some (.ref D)),H',I2.hJ.turned (t':=s2.toks) (λb o hb e=>xo.extBut b o hb e) hn hl (.inr hz) kc Hv,q'⟩
end
section
variable {X:Cx}{x x2:Str}{ns:List Str}{fr:List Nat}{scope:Scope}{cl:List (Str×Addr)}
theorem HW (rV:closureFor scope X.env=pure cl) (iG:scope.names.all (λy=>y.2 != .cell)=true) (kind:scope.kind=.function)
  (own:scope.names.all (λy=>y.2 != .local || scope.names.lookup y.1 == some .local)=true) (var:scope.names.lookup x=some .local) (HR:scope.names.lookup x2=some .local) (sub:∀p∈cl,X.env.cells.lookup p.1=some p.2)
  (has:(relabel scope X.env).names.all (λy=>!(y.2 == .cell || y.2 == .free) || (cl.lookup y.1).isSome)=true) (len:ns.length=fr.length)
  (fr_:∀p∈ns.zip fr,X.N[p.2]?=some p.1/\X.env.scope.names.lookup p.1=some .cell/\((relabel scope X.env).names.lookup p.1=some .cell\/(relabel scope X.env).names.lookup p.1=some .free)) (nd:(x::x2::ns).Nodup):pw X x x2 ns fr scope cl where
 rV:=rV
 iG:=λy hy=>by simpa using List.all_eq_true.mp iG y hy
 kind:=kind
 own:=λy hy h=>by
  have:=List.all_eq_true.mp own y hy;rw [h] at this;simpa using this
 var:=var
 HR:=HR
 sub:=λz c h=>sub _ (o_ h)
 has:=λz h=>by
  have k:∀t,(relabel scope X.env).names.lookup z=some t->(t=.cell\/t=.free)->∃c,cl.lookup z=some c:=λt ht hk=>by
   have:=List.all_eq_true.mp has _ (o_ ht);rcases hk with rfl | rfl <;> simpa [Option.isSome_iff_exists] using this
  rcases h with h | h
  ·exact k _ h (.inl rfl)
  ·exact k _ h (.inr rfl)
 len:=len
 xl:=λk z j h1 h2=>fr_ (z,j) (List.mem_of_getElem? (i:=k) (by rw [List.getElem?_zip_eq_some]; exact⟨h1,h2⟩))
 nd:=nd
end
open AutoSeq1 (wpAny_loadPart')
section
variable {prog:Program}{w:World}{A:Around}{E:Value->Shared->Prop}{s:Shared}
end
open AutoSeq1 (wpAny_loadPart')
section
variable {prog:Program}{w:World}{A:Around}{E:Value->Shared->Prop}{s:Shared}
end
open AutoSeq1 (wpAny_loadPart')
section
variable {prog:Program}{w:World}{A:Around}{E:Value->Shared->Prop}{s:Shared}
end
section
variable {X:Cx}
end
section
variable {X:Cx}
theorem jK:eX X (.type "str") (λxs H Q=>(∃i,xs=[.int i]/\i.natAbs.log2 < 1920/\Q (.str (toString i)) H)\/∃z,xs=[.str z]/\Q (.str z) H):=by
 intro pins s σ H xs us Q I r h;rcases h with ⟨i,rfl,hz,q⟩ | ⟨z,rfl,q⟩
 ·obtain⟨u,rfl,t,rfl⟩:=vals1 r;exact PySem.P.str_of_int hz ⟨.str _,H,I.tok _,⟨_,rfl⟩,q⟩
 ·obtain⟨u,rfl,t,rfl⟩:=vals1 r;exact PySem.P.str_of_str ⟨.str z,H,I,⟨_,rfl⟩,q⟩
end
section
variable {X:Cx}
theorem FQ {bs:List Bool}{us:List Value}(h:Vals (bs.map V.bl) us) {i:Nat}{v:Value}(hv:us[i]?=some v):v=.bool (bs.getD i false):=by
 have hl:=h.length;rw [List.length_map] at hl;have hi:=(List.getElem?_eq_some_iff.mp hv).1;obtain⟨u,hu,ru⟩:=h.get (i:=i) (x:=V.bl (bs[i]'(by omega))) (by rw [List.getElem?_map,List.getElem?_eq_getElem (by omega)]; rfl);rw [hv] at hu;cases hu;have e:bs.getD i false=bs[i]'(by omega):=by simp [List.getD,show i < bs.length by omega]
 rw [e];cases ru;rfl
theorem range_any (bs:List Bool):((List.range bs.length).any λi=>bs.getD i false)=bs.any id:=by
 rw [Bool.eq_iff_iff,List.any_eq_true,List.any_eq_true];constructor
 ·rintro⟨i,hi,h⟩;have hi:=List.mem_range.mp hi;exact⟨_,List.getElem_mem hi,by simpa [List.getD,hi] using h⟩
 ·rintro⟨x,hx,h⟩;obtain⟨i,hi,rfl⟩:=List.mem_iff_getElem.mp hx;exact⟨i,List.mem_range.mpr hi,by simpa [List.getD,hi] using h⟩
theorem mK (hc:X.calm=true):eX X (.builtin "any") (λxs H Q=>∃(p:Addr) (bs:List Bool),xs=[.ref p]/\bf X.K H p (bs.map V.bl)/\Q (.bl (bs.any id)) H):=by
 intro pins s σ H xs us Q I r h;obtain⟨p,bs,rfl,hq,q⟩:=h;obtain⟨u,rfl,rx⟩:=vals1 r;cases rx;obtain⟨bw,rv,pl,hz⟩:=I.list hq;have gY:p < s.heap.objs.size:=by
  obtain⟨o,e,_⟩:=pl.isList;exact Heap.lt_size e
 have hl:=rv.length;rw [List.length_map] at hl;refine call_any_walk (wpAny_pyIter_list pl.isList ⟨s.heap.objs.size,_,_,_,_,_,λi=>bs.getD i false,rfl,Walks.list (A:=X.A.in1) (I.ok.hd hc) s.heap.objs.size p (Nat.ne_of_lt gY) bw.toArray,⟨⟨_,Heap.get?_push_size _ rfl,rfl,rfl⟩,?_⟩,λi v s' Q' E' hP hQ=>?_,λh' tk hk=>?_⟩)
 ·obtain⟨o,e,q2⟩:=pl.isList;exact⟨o,Heap.get?_push_of_some _ e,q2⟩
 ·have hP:bw.toArray[i]?=some v:=hP;have hP2:bw[i]?=some v:=by simpa using hP
  have ev:=FQ rv hP2;subst ev;exact wpAny_pure hQ
 ·have e:bw.toArray.size=bs.length:=by simp [hl]
  rw [e,range_any];refine⟨.bl _,H,I.kept (t':=tk) (λb o hb=>hk b o ?_ (Heap.get?_push_of_some _ hb)),rfl,q⟩;intro z;have z:b=s.heap.objs.size:=by simpa using z
  exact absurd (Heap.lt_size hb) (by rw [z]; exact Nat.lt_irrefl _)
end
open AutoSeq1 (wpAny_loadPart')
section
variable {prog:Program}{w:World}{A:Around}{E:Value->Shared->Prop}{s:Shared}
theorem EA {es:Array DictEntry}{p:DictEntry->Bool}{v:Value}(h:(es.toList.find? p).map (·.val)=some v):∃i,es.findIdx? p=some i/\(es[i]?).map (·.val)=some v:=by
 obtain⟨l⟩:=es
 cases e:l.find? p with
 | none=>rw [show(Array.mk l).toList=l from rfl,e] at h; cases h
 | some x=>
  rw [show(Array.mk l).toList=l from rfl,e] at h;cases h;have h1:p x=true:=List.find?_some e;have hm:=List.mem_of_find?_eq_some e;have hi:(l.findIdx? p).isSome=true:=by
   rw [List.findIdx?_isSome,List.any_eq_true];exact⟨x,hm,h1⟩
  obtain⟨i,hi⟩:=Option.isSome_iff_exists.mp hi;refine⟨i,by simpa using hi,?_⟩;have h2:l[i]?=some x:=by
   have:=List.find?_eq_getElem?_findIdx (p:=p) (xs:=l);have e3:=(List.findIdx?_eq_some_iff_findIdx_eq.mp hi).2;rw [e3] at this;rw [<-this,e]
  show((Array.mk l)[i]?).map (·.val)=_;rw [List.getElem?_toArray,h2];rfl
theorem SV {δ:Type}{R:δ->Value->Prop}{a:Addr}{D:List (Str×δ)}{k:Str}{tk:Tok}{d:δ}{Q:Value->Shared->Prop}(ht:KTD.TabOf R s.heap a D) (hd:KTD.datumAt k D=some d)
  (h:∀v,R d v->Q v {s with toks:=s.toks+1}):wpAny (model prog w) A (call (.builtin "dict.get") [.ref a,.str k tk]) Q E s:=by
 obtain⟨hm,o,es,ep,ho,ex,wM,ic⟩:=ht;obtain⟨v,hv,hR⟩:=ic.find_some hd;obtain⟨i,hi,hiv⟩:=EA hv;refine wpAny_call_entry PySem.F.slot_dict_get ⟨o,ho,ex.1⟩ PySem.F.entry_dict_get ?_ (PySem.F.args_dict_get_2 _ _);have FR:∀(Q':Option Value->Shared->Prop) (E':Value->Shared->Prop),Q' (some v) {s with toks:=s.toks+1}->wpAny (model prog w) A.in1 (dictGet a (.str k tk)) Q' E' s:=λQ' E' hq=>by
  unfold dictGet;refine wpAny_holding (wpAny_bind (wpAny_pyHash_str (wpAny_bind (KTD.kt_dictFind_strs (s:={s with toks:=s.toks+1}) ho wM (by rw [<-Array.all_toList]; exact ic.exact) ?_))));rw [hi];refine wpAny_bind (wpAny_dictEntries (s:={s with toks:=s.toks+1}) ho wM (wpAny_pure ?_));rw [hiv];exact hq
 unfold Builtin.«dict.get»
 repeat (first | (refine FR _ _ ?_) | wp_step | (refine wpAny_loadPart' ho ?_))
 exact⟨v,rfl,h v hR⟩
end
noncomputable def mL (K:PySem.W.Frag) (a:Addr) (D:List (Str×Addr)):Prop:=KTD.tabLook (λ(b:Addr) (v:Value)=>v == .ref b) (λb=>K.lookup b) a D=true
theorem mL.of {K:PySem.W.Frag}{a:Addr}{D:List (Str×Addr)}{h:Heap}(t:mL K a D) (X:K.In h):KTD.TabOf (λ(b:Addr) v=>v=.ref b) h a D:=
 KTD.tab_of_look (L:=λ(b:Addr) (v:Value)=>v == .ref b) (λd v e=>by simpa using e) (λb o e=>X b o e) t
section
variable {X:Cx}
theorem Nb {a:Addr}{D:List (Str×Addr)}(t:mL X.K a D):MtR X "dict.get" (λx vs H Q=>∃k b,x=.ref a/\vs=[.str k]/\KTD.datumAt k D=some b/\Q (.ref b) H):=by
 intro pins s σ H x vs v us Q I rx rv h;obtain⟨k,b,rfl,rfl,hd,q⟩:=h;cases rx;obtain⟨u,rfl,tk,rfl⟩:=rv.one;refine SV (t.of λc o e=>I.iy c o e) hd λv e=>?_
 subst e;exact⟨.ref b,H,I.tok _,rfl,q⟩
noncomputable def Ou (a:Addr) (D:List (Str×Addr)) (td ty:TE):TE:=λσ H Q=>td σ H λx H1=>x=.ref a/\ty σ H1 λy H2=>∃k b,y=.str k/\KTD.datumAt k D=some b/\Q (.ref b) H2
end
section
variable {X:Cx}
end
theorem mL.mk {K:PySem.W.Frag}{a:Addr}{D:List (Str×Addr)}{es:Array DictEntry}{ep:Nat}(h0:(a == sysModules)=false) (h:K.lookup a=some ⟨.type "dict",none,.dict es ep,#[]⟩)
  (hr:KTD.rowsLook (λ(b:Addr) (v:Value)=>v == .ref b) es.toList D=true):mL K a D:=by
 unfold mL KTD.tabLook;show(!(a == sysModules)&&(match K.lookup a with | some o=>o.cls == .type "dict"&&o.dict.isNone&&o.slots.isEmpty&&(match o.data with | .dict es _=>KTD.rowsLook (λ(b:Addr) (v:Value)=>v == .ref b) es.toList D | _=>false) | none=>false))=true;rw [h,h0];show(true&&(((Value.type "dict" == Value.type "dict")&&true&&true)&&KTD.rowsLook (λ(b:Addr) (v:Value)=>v == .ref b) es.toList D))=true;rw [hr,beq_self_eq_true];rfl
theorem bq {hash:Int}{x:Str}{t:Tok}{u:Addr}{es:List DictEntry}{D:List (Str×Addr)}(h:KTD.rowsLook (λ(b:Addr) (v:Value)=>v == .ref b) es D=true) :
  KTD.rowsLook (λ(b:Addr) (v:Value)=>v == .ref b) (⟨hash,.str x t,.ref u⟩::es) ((x,u)::D)=true:=by
 unfold KTD.rowsLook;show(x == x&&(Value.ref u == Value.ref u)&&_)=true;rw [h,beq_self_eq_true,beq_self_eq_true];rfl
open PySem.NumText (AllDigits digitsVal)
noncomputable def nt (n:Nat):Str:=Str.ofString (toString (n:Int))
theorem aj.putD {H H3:Hp}{D:PySem.Addr}{o:HO}(h:aj H H3) (hD:H D=none):aj H (upd H3 D o):=λb u e=>by
 have n:b≠D:=λq=>by rw [q,hD] at e; cases e
 rw [au n];exact h b u e
noncomputable def strsOf:List Expr->Option (List Str)
 | []=>some []
 | .Constant (.str x) _ _::r=>(strsOf r).map (x::·)
 | _=>none
noncomputable def Xs (ws:List Str):TA:=λ_ H Q=>Q (ws.map V.str) H
theorem uV {X:Cx}:∀{es:List Expr}{ws:List Str},strsOf es=some ws->PA X es (Xs ws)
 | [],ws,e=>by
  cases e;exact af
 | e::r,ws,h=>by
  unfold strsOf at h;split at h
  ·next h1=>cases h1
  ·next x _ _ r' h1=>
   cases h1
   cases h2:strsOf r with
   | none=>
    rw [h2] at h;cases h
   | some w2=>
    rw [h2] at h;cases h;exact aa aA (uV h2)
  ·cases h
theorem xr.strs {X:Cx}{i:Nat}{x:Str}{es:List Expr}{ws:List Str}{p1 p2 pos:Pos}{D:Ends}{σ:St}{H:Hp}(hN:X.N.Nodup) (hi:X.N[i]?=some x) (hx:Loc X.env.scope x) (he:strsOf es=some ws)
  (hs:swapsWith (.List es p2) (some (.Name x p1)) pos.line X.env=pure false) (hf:X.fn x=true\/X.env.scope.names.lookup x=some .local) (hl:ws.length<=1000)
  (q:∀l,H l=none->D.nx (σ.set i (some (.ref l))) (upd H l (.lst (ws.map V.str)))):xr X (.Assign [.Name x p1] (.List es p2) pos) D σ H:=by
 refine xr.of (aN hN hi hx (bE (uV he)) hs hf) ?_;refine⟨?_,λp hp=>q p hp⟩;rw [List.length_map];exact Nat.le_of_lt (aJ hl)
noncomputable def tm (D:PySem.Addr) (H:Hp):Hp:=λb=>if b=D then none else H b
theorem HX (D:PySem.Addr) (H:Hp):aj (tm D H) H:=λb o e=>by
 unfold tm at e;split at e
 ·cases e
 ·exact e
theorem EB (D:PySem.Addr) (H:Hp) (o:HO):aj (tm D H) (tm D (upd H D o)):=λb u e=>by
 unfold tm at e ⊢;split at e
 ·cases e
 ·next h=>rw [if_neg h,au h]; exact e
theorem aj.tm {D:PySem.Addr}{H H':Hp}(s:aj H H'):aj (tm D H) (tm D H'):=λb u e=>by
 unfold L2.tm at e ⊢;split at e
 ·cases e
 ·next h=>rw [if_neg h]; exact s _ _ e
theorem EC {K:PySem.W.Frag}{l:PySem.Addr}{xs:List V}{fr:List Nat}{te:TE}{σ:St}{D:PySem.Addr}{Q:Hp->Prop}{H:Hp}(Rel:Nat->V->Hp->Prop) (mono:∀i y H H',Rel i y H->aj H H'->Rel i y H') (hD:H D=none) (hx:bf K H l xs) (hz:xs.length<=1000)
  (he:∀(i:Nat) x (H2:Hp) (zs:List V) (R:VK),xs[i]?=some x->aj H H2->H2 D=some (.lst zs)->(∀y H3,aj H2 H3->Rel i y (tm D H3)->R y H3)->te (bP fr σ (some x)) H2 R)
  (hq:∀H2 (ys:List V),aj H H2->H2 D=some (.lst ys)->ys.length=xs.length->(∀(i:Nat) y,ys[i]?=some y->Rel i y H2)->Q H2) :
  mF (MI K l) fr (λ_ H Q=>Q true H) te σ D Q (upd H D (.lst [])):=by
 refine⟨λi m H2=>m+i=xs.length/\aj H H2/\∃ys,H2 D=some (.lst ys)/\ys.length=i/\∀(j:Nat) y,ys[j]?=some y->Rel j y (tm D H2),⟨xs.length,rfl,.put hD,[],ae,rfl,λj y e=>by cases e⟩,?_⟩;rintro i m H2 ⟨hm,hs,ys,hd,Nc,hr⟩;have ED:=hs.seq hx
 cases m with
 | zero=>
  have e:i=xs.length:=by omega
  exact .inl ⟨⟨xs,ED,by omega⟩,hq H2 ys hs hd (by omega) λj y e=>mono _ _ _ _ (hr j y e) (HX D H2)⟩
 | succ m=>
  have hi:i < xs.length:=by omega
  refine .inr ⟨⟨xs,xs[i],ED,List.getElem?_eq_getElem hi⟩,λv H' y=>?_⟩;obtain⟨rfl,hv⟩:=y;have ex:=hv xs ED;refine hW (he i v _ ys _ ex hs hd λy H3 M5 hy=>?_);refine⟨_,M5 D _ hd,aJ (by omega),m,by omega,by omega,aj.putD (hs.trans M5) hD,_,ae,by rw [List.length_append,Nc]; rfl,λj z ez=>?_⟩
  by_cases c:j < ys.length
  ·rw [List.getElem?_append_left c] at ez;exact mono _ _ _ _ (hr j z ez) (M5.tm.trans (EB D H3 _))
  ·rw [List.getElem?_append_right (by omega)] at ez;have hj:=(List.getElem?_eq_some_iff.mp ez).1;have e0:j - ys.length=0:=by simp at hj; omega
   rw [e0] at ez;cases ez;have:j=i:=by omega
   subst this;exact mono _ _ _ _ hy (EB D H3 _)
section
variable {X:Cx}
end
section
variable {M:Model}{A:Around}{E:Value->Shared->Prop}{s:Shared}
end
section
variable {prog:Program}{w:World}{A:Around}{R:Result->Shared->Prop}{h:Heap}{g:Array GenState}{d:Drawn}{t:Nat}{os:OsState}
variable {nm q:Str}{C N:Addr}{bs bm bmB:List Value}{Xt:Bool}{sn:List Str}{sub:List Value}{ab:Bool}{col:Option Bool}{dd:Option Addr}{k0 k1 k2 k3 k5:Option Value}{B Bn newId nid SW inN:String}{bmN:List Value}
end
section
variable {M:Model}{A:Around}{E:Value->Shared->Prop}{env:Env}
variable {nm q:Str}{C N:Addr}{bs bm:List Value}{Xt:Bool}{sn:List Str}{sub:List Value}{ab:Bool}{col:Option Bool}{dd:Option Addr}{k0 k1 k2 k3 k5:Option Value}{newId:String}
variable {nm2 q2:Str}{C2 N2:Addr}{bs2 bm2:List Value}{abR:Bool}{sn2:List Str}{adg:List Value}{ab2:Bool}{adh:Option Bool}{dd2:Option Addr}{j0 j1 j2 j3 j5:Option Value}{aaM:String}
end
section
variable {prog:Program}{w:World}{A:Around}{E:Value->Shared->Prop}{h:Heap}{g:Array GenState}{d:Drawn}{t:Nat}{os:OsState}
variable {nm q:Str}{C N:Addr}{bs bm bmB:List Value}{Xt:Bool}{sn:List Str}{sub:List Value}{ab:Bool}{col:Option Bool}{dd:Option Addr}{k0 k1 k2 k3 k5:Option Value}{B newId nid SW:String}
end
section
variable {K:PySem.W.Frag}{prog:Program}{w:World}{A:Around}{R:Result->Shared->Prop}{s:Shared}{x C Cb:Addr}
open PySem.W PySem.Builtin PySem.Builtin.ObjectAttr PySem.Builtin.Getset_descriptor in
open PySem.W PySem.Builtin PySem.Builtin.ObjectAttr PySem.Builtin.Getset_descriptor in
open PySem.W PySem.Builtin PySem.Builtin.ObjectAttr PySem.Builtin.Getset_descriptor in
open PySem.W PySem.Builtin PySem.Builtin.ObjectAttr PySem.Builtin.Getset_descriptor in
open PySem.W in
end
noncomputable def XOc (cb:Bool) (C x:Addr) (dx:Option Addr) (raw:Bool) (h:Heap):Prop:=∃vs sl a0,h.get? x=some ⟨.ref C,dx,.fields vs,sl⟩/\vs[0]?=some (.ref a0)/\4 < vs.size/\(raw=true->vs[1]?=some .none)/\(cb=true->vs[2]?=some .none)
section
variable {X:Cx}{CX:uH}{k:Nat}{f C Cb:Addr}{fd:FuncData}{ps:List Str}{sp:Sp}{hU:List V}{ds:List Value}{E:XK}{x m:Str}{p pos apos:Pos}{e o:Expr}{es:List Expr}{ta:TE}{t:TA}
theorem SX {H:Hp}{a:Addr}{o:HO}(h:H a=some o):upd H a o=H:=by
 funext b;unfold upd;split
 ·next e=>rw [e,h]
 ·rfl
end
noncomputable def TBk (h:Heap) (H:Hp) (a:Addr):Prop:=∃o vs T oT ts,h.get? a=some o/\o.data=.fields vs/\vs[1]?=some (.ref T)/\T≠a/\h.get? T=some oT/\oT.data=.fields ts/\ts[3]?=some .none/\H T=none
section
variable {P:Program}{w:World}{K:PySem.W.Frag}{mg:Str->Option Value}{base:Heap}
end
section
variable {M:Model}{A:Around}{E:Value->Shared->Prop}{s:Shared}
end
section
variable {X:Cx}{k:Nat}{f C:Addr}{fd:FuncData}{ps:List Str}{sp:Sp}{hU:List V}{ds:List Value}{E:XK}
noncomputable def XP (X:Cx) (pins:List (Addr×Obj)) (σ:St) (E:XK) (e:Value) (s':Shared):Prop:=∃a C dx cb H',e=.ref a/\Inv X pins σ H' s'/\H' a=some (.ext (XOc cb C a (some dx) false))/\TBk s'.heap H' a/\E (.ref C) (some a) H'
end
section
variable {prog:Program}{w:World}{A:Around}{E:Value->Shared->Prop}{s:Shared}{env:Env}
end
section
variable {X:Cx}{k:Nat}{f C2:Addr}{fd:FuncData}{ps:List Str}{sp:Sp}{hU:List V}{ds:List Value}{x y n cn:Str}{p np pos apos Xu dR Xv:Pos}{e:Expr}{es:List Expr}{t:TA}{ts:TS}{b0:Stmt}{Ov:List Stmt}{i j:Nat}
end
section
variable {prog:Program}{w:World}{A:Around}{E:Value->Shared->Prop}{s:Shared}
theorem xx {es:Array DictEntry}{p:DictEntry->Bool}(h:(es.toList.find? p).map (·.val)=none):es.findIdx? p=none:=by
 obtain⟨l⟩:=es;have h1:l.find? p=none:=by simpa using h
 have h2:∀x∈l,p x=false:=λx hx=>by
  have:=List.find?_eq_none.mp h1 x hx;simpa using this
 simp only [List.findIdx?_toArray];exact List.findIdx?_eq_none_iff.mpr h2
theorem Nd {δ:Type}{R:δ->Value->Prop}{a:Addr}{D:List (Str×δ)}{k:Str}{tk:Tok}{Q:Value->Shared->Prop}(ht:KTD.TabOf R s.heap a D) (hd:KTD.datumAt k D=none)
  (h:Q .none {s with toks:=s.toks+1}):wpAny (model prog w) A (call (.builtin "dict.get") [.ref a,.str k tk]) Q E s:=by
 obtain⟨hm,o,es,ep,ho,ex,wM,ic⟩:=ht;have hi:=xx (ic.find_none hd);refine wpAny_call_entry PySem.F.slot_dict_get ⟨o,ho,ex.1⟩ PySem.F.entry_dict_get ?_ (PySem.F.args_dict_get_2 _ _);have FR:∀(Q':Option Value->Shared->Prop) (E':Value->Shared->Prop),Q' none {s with toks:=s.toks+1}->wpAny (model prog w) A.in1 (dictGet a (.str k tk)) Q' E' s:=λQ' E' hq=>by
  unfold dictGet;refine wpAny_holding (wpAny_bind (wpAny_pyHash_str (wpAny_bind (KTD.kt_dictFind_strs (s:={s with toks:=s.toks+1}) ho wM (by rw [<-Array.all_toList]; exact ic.exact) ?_))));rw [hi];exact wpAny_pure hq
 unfold Builtin.«dict.get»
 repeat (first | (refine FR _ _ ?_) | wp_step | (refine AutoSeq1.wpAny_loadPart' ho ?_))
 exact⟨_,rfl,h⟩
end
section
variable {X:Cx}
theorem HY {a:Addr}{D:List (Str×Addr)}(t:mL X.K a D):MtR X "dict.get" (λx vs H Q=>∃k,x=.ref a/\vs=[.str k]/\((∃b,KTD.datumAt k D=some b/\Q (.ref b) H)\/(KTD.datumAt k D=none/\Q .bM H))):=by
 intro pins s σ H x vs v us Q I rx rv h;obtain⟨k,rfl,rfl,h⟩:=h;rcases h with ⟨b,hd,q⟩ | ⟨hd,q⟩
 ·exact Nb t pins s σ H _ _ v us Q I rx rv ⟨k,b,rfl,rfl,hd,q⟩
 ·cases rx;obtain⟨u,rfl,tk,rfl⟩:=rv.one;exact Nd (t.of λc o e=>I.iy c o e) hd ⟨.bM,H,I.tok _,rfl,q⟩
noncomputable def HZ (a:Addr) (D:List (Str×Addr)) (td ty:TE):TE:=λσ H Q=>td σ H λx H1=>x=.ref a/\ty σ H1 λy H2=>∃k,y=.str k/\((∃b,KTD.datumAt k D=some b/\Q (.ref b) H2)\/(KTD.datumAt k D=none/\Q .bM H2))
theorem H_ {o e:Expr}{apos dR:Pos}{td ty:TE}{a:Addr}{D:List (Str×Addr)}(t:mL X.K a D) (ho:PE X o td) (he:PE X e ty) (m:M1 X o "get" apos e dR):PE X (.Call (.Attribute o "get" apos) [e] [] dR) (HZ a D td ty):=by
 intro pins s σ H Q I h;refine wpAny_Call_method m.base m.bX m.line PySem.F.plainAttrs_dict PySem.F.slot_dict_get PySem.F.type_dict_get (cg (ho pins s σ H _ I h) λu s1 ⟨x,H1,I1,rx,ex,q1⟩=>?_);subst ex;obtain rfl:u=Value.ref a:=rx;obtain⟨_,o1,es,ep,SY,S1,wM,_⟩:=t.of (h:=s1.heap) λc o e=>I1.iy c o e
 refine⟨⟨o1,SY,S1.1⟩,λc ec=>?_,?_⟩
 ·cases ec;exact⟨o1,SY,S1.2.1⟩
 rw [m.trees];refine Calls.callWith_builtin rfl (Calls.evalArgs_plain (Calls.spliced_cons (cg (he pins s1 σ H1 _ I1 q1) λiv s2 ⟨y,H2,I2,ry,k,ey,q2⟩=>Calls.spliced_nil ?_)));subst ey;exact HY t pins s2 σ H2 (.ref a) [.str k] (.ref a) [iv] Q I2 rfl (.cons ry .nil) ⟨k,rfl,rfl,q2⟩
end
section
variable {X:Cx}
theorem xr.aaN {i j:Nat}{x y:Str}{es:List Expr}{ws:List Str}{xs:List V}{l:Addr}{p1 p2 p3 p4 pos:Pos}{D:Ends}{σ:St}{H:Hp}(hN:X.N.Nodup) (hi:X.N[i]?=some x) (hx:Loc X.env.scope x) (he:strsOf es=some ws)
  (hy:X.N[j]?=some y) (hv:WC X.env.scope y) (Ia:(y == ("__debug__":Str))=false) (hd2:(y == ("__classdict__":Str))=false)
  (hs:swapsWith (.BinOp (.Name y p3) .Add (.List es p2) p4) (some (.Name x p1)) pos.line X.env=pure false) (hf:X.fn x=true\/X.env.scope.names.lookup x=some .local) (hl:ws.length<=100)
  (hσ:σ[j]?=some (some (.ref l))) (hL:H l=some (.lst xs)) (Hs:xs.length<=900)
  (q:∀l2 H2,aj H H2->H2 l2=some (.lst (xs++ws.map V.str))->D.nx (σ.set i (some (.ref l2))) H2):xr X (.Assign [.Name x p1] (.BinOp (.Name y p3) .Add (.List es p2) p4) pos) D σ H:=by
 refine xr.of (aN hN hi hx (bz iF (pv j hy hv Ia hd2) (bE (uV he))) hs hf) ?_;refine⟨_,hσ,?_,λp hp=>⟨l,p,xs,ws.map V.str,rfl,rfl,bf.of (aj.put hp _ _ hL),bf.of ae,by rw [List.length_map,sizeLine_eq]; omega,λp2 oi=>q p2 _ ((aj.put hp).trans (.put oi)) ae⟩⟩;rw [List.length_map];exact Nat.le_of_lt (aJ (by omega))
end
section
variable {X:Cx}
end
section
variable {P:Program}{w:World}{K:PySem.W.Frag}{mg:Str->Option Value}{base:Heap}
end
section
variable {X:Cx}{CX:uH}{k:Nat}{f C Cb:Addr}{fd:FuncData}{ps:List Str}{sp:Sp}{hU:List V}{ds:List Value}{E:XK}{x m:Str}{p pos apos:Pos}{e o:Expr}{es:List Expr}{ta:TE}{t:TA}
end
section
variable {prog:Program}{w:World}{A:Around}{E:Value->Shared->Prop}{s:Shared}{env:Env}
end
section
variable {P:Program}{w:World}{K:PySem.W.Frag}{mg:Str->Option Value}{base:Heap}
end
section
variable {prog:Program}{w:World}{A:Around}{E:Value->Shared->Prop}{s:Shared}{env:Env}
end
section
variable {X:Cx}{k:Nat}{f C2:Addr}{fd:FuncData}{ps:List Str}{sp:Sp}{hU:List V}{ds:List Value}{x y n cn:Str}{p np pos apos Xu dR Xv:Pos}{e:Expr}{es:List Expr}{t:TA}{b0:Stmt}{body Ov:List Stmt}{i j:Nat}
end
section
variable {X:Cx}{pos:Pos}
end
section
variable {X:Cx}{pins:List (Addr×Obj)}{σ:St}{H:Hp}{s:Shared}
class BM (mg:Str->Option Value) (base:Heap):Prop where
 ex:∃bm ob,mg "__builtins__"=some (.ref bm)/\bm≠builtinsNs/\bm≠mainGlobals/\base.get? bm=some ob/\ob.cls=.type "module"/\ob.dict=some builtinsNs/\ob.data=.plain
end
section
variable {P:Program}{w:World}{K:PySem.W.Frag}{mg:Str->Option Value}{base:Heap}
end
noncomputable def Ib (L:List (Addr×Sp)) (hU:List V) (E:XK) (tf:TE) (t:TA):TE:=λσ H Q=>tf σ H λx H1=>∃f,x=.ref f/\∃sp,(f,sp)∈L/\t σ H1 λvs H2=>sp (vs++hU) H2 Q E
noncomputable def VF (X:Cx) (CX:uH) (ds:List Value) (q:Addr×Sp):Prop:=∃(fd:FuncData) (ps:List Str) (k:Nat),PySem.W.keepIn X.K (.ref q.1)=true/\aS X.prog X.w X.K X.mg X.base CX k q.1 fd ps q.2/\eY k X.A/\Binds X.K fd ps ds
section
variable {X:Cx}{CX:uH}{hU:List V}{ds:List Value}{E:XK}{pos:Pos}{e fe:Expr}{es:List Expr}{tf:TE}{t:TA}{L:List (Addr×Sp)}
theorem Ic (he:PE X fe tf) (hL:∀q∈L,VF X CX ds q) (hd:Vals hU ds) (hx:Passes CX X E) (ha:PA X (e::es) t)
  (GW:starEach (e::es) X.env=(false,eval e X.env)::starEach es X.env:=by rfl) (xa:(backTo pos (starEach es X.env)).any (·.1)=false:=by rfl)
  (ht:eval (.Call fe (e::es) [] pos) X.env=(do
   let f <-eval fe X.env
   callWith pos f [] (backTo pos (starEach (e::es) X.env)) (backToKw pos (keywordEach [] X.env))):=by rfl) :
  PE X (.Call fe (e::es) [] pos) (Ib L hU E tf t):=by
 intro pins s σ H Q I h;rw [ht];refine wpAny_bind (cg (he pins s σ H _ I h) λu s1 ⟨x,H1,I1,rx,f,ex,sp,hC,q⟩=>?_);subst ex;obtain rfl:u=Value.ref f:=rx;obtain⟨fd,ps,k,kp,F,hr,hb⟩:=hL _ hC;refine PySem.W.callWith_K (first:=[]) (h₀:=X.base) I.ok.mod.RY kp (cg (ha pos pins s1 σ H1 _ I1 q) λus s2 ⟨vs,H2,I2,r,q2⟩=>⟨I2.iy,?_⟩) GW xa;exact mD F hr hb hd hx I2 r q2
end
theorem pz:entryFor table "dict_itemiterator.__iter__"=some Builtin.«dict_keyiterator.__iter__»:=(by kernel_rfl:entryFor table "dict_itemiterator.__iter__"=entryFor table "dict_valueiterator.__iter__").trans entry_dict_valueiterator_iter
theorem oj {prog:Program}{w:World}{A:Around}{E:Value->Shared->Prop}{s:Shared}{it d:Addr}{i n ep:Nat}{ok ov:Value}{Q:Value->Shared->Prop}(hit:IsItemIter s.heap it d i n ep ok ov) (h:Q (.ref it) s):wpAny (model prog w) A (pyIter (.ref it)) Q E s:=
 have ty:s.TypeIs (.ref it) "dict_itemiterator":=⟨_,hit,rfl⟩
 wpAny_pyIter_slot ty F.slot_dict_itemiterator_iter (wpAny_call_entry F.slot_dict_itemiterator_iter ty pz (id (wpAny_pure ⟨_,rfl,_,_,ty,F.slot_dict_itemiterator_next.lookup,h⟩)) (F.args_dict_itemiterator_iter_1 _))
noncomputable def Iti (a:Addr) (o:Obj) (kvs:List (Key×V)):It:=
 ⟨λi H=>i < kvs.length/\H a=some (.iY o (.dK kvs)),λi H x H'=>∃t kv,H t=none/\kvs[i]?=some kv/\x=.ref t/\H'=upd H t (.tup [kV kv.1,kv.2]),λi H=>kvs.length<=i/\H a=some (.iY o (.dK kvs))⟩
theorem B_ {P:Program}{w:World}{K:PySem.W.Frag}{es:List Expr}{k:Nat}{tp:Pos}{a it:Addr}{o:Obj}{kvs:List (Key×V)}{vs:List (Key×Value)}{ep:Nat}(hd:(a == sysModules)=false) (rel:KV kvs vs)
  (dat:∀h:Heap,h.get? a=some o->h.DictAt (ba P w) a vs ep):Turn P w K (.Tuple es k tp) (Iti a o kvs) [it] it (λi h=>∃ok ov,IsItemIter h it a i vs.length ep ok ov) where
 mem:=by simp
 obj:=λi h st b hb=>by
  have e:b=it:=by simpa using hb
  subst e;obtain⟨ok,ov,he⟩:=st;exact⟨_,he,λv z=>by cases z⟩
 keep:=λi h h' st kk=>by
  obtain⟨ok,ov,he⟩:=st;exact⟨ok,ov,kk it (by simp) _ he⟩
 item:=by
  intro X hP hw hK hc i pins s σ H E I hf st hg;subst hP hw hK;obtain⟨hi,ha⟩:=hg;obtain⟨ho,_⟩:=I.bR a _ ha;have hv:i < vs.length:=by rw [<-rel.length]; exact hi
  obtain⟨ok,ov,he⟩:=st;refine wpAny_pyNext_items_item he (dat _ ho) (k:=vs[i].1) (v:=vs[i].2) (List.getElem?_eq_getElem hv) λkey h' hk aaO hT hsz hkp=>?_
  refine⟨_,rfl,wpAny_letOwnedTupleGo_items (s:={s with heap:=h'}) aaO λh2 he2 WT=>?_⟩;have FT:it < s.heap.objs.size:=Heap.lt_size he;have hn:H s.heap.objs.size=none:=I.fresh;have kp:∀b o,b≠it->s.heap.get? b=some o->h2.get? b=some o:=λb o h1 z=>(WT.2 b h1).trans (hkp b o h1 z)
  have Xw:h2.get? s.heap.objs.size=some {cls:=.type "tuple",data:=.seq #[key,vs[i].2]}:=(WT.2 _ (Nat.ne_of_gt FT)).trans hT;have fi:=hf it (by simp);have ne:∀b o,H b=some o->b≠it:=λb o z z2=>by subst z2; rw [fi.1] at z; cases z
  have lt:∀b o,H b=some o->b≠s.heap.objs.size:=λb o z=>Nat.ne_of_lt (I.bR.lt z)
  have ek:=rel.get (List.getElem?_eq_getElem hi) (List.getElem?_eq_getElem hv);have ev:=KV.xw rel (List.getElem?_eq_getElem hi) (List.getElem?_eq_getElem hv);have rk:RelV (kV kvs[i].1) key:=by rw [ek]; exact uR hk
  have bR:kq X.prog X.w (upd H s.heap.objs.size (.tup [kV kvs[i].1,kvs[i].2])) h2:=λb o z=>by
   by_cases hb:b=s.heap.objs.size
   ·subst hb;rw [ae] at z;cases z;exact⟨by show 2<=_; decide,[key,vs[i].2],.cons rk (.cons ev .nil),⟨_,Xw,rfl,_,rfl⟩⟩
   ·rw [au hb] at z;refine(I.bR b o z).BN (λc v hc q=>?_) (λc q=>by rw [au (lt c _ q)]; exact q) λc ys q=>by rw [au (lt c _ q)]; exact q
    rcases hc with rfl | hc
    ·exact kp _ v (ne _ o z) q
    ·exact kp c v (ne c _ hc) q
  have Xx:∀b o,s.heap.get? b=some o->b≠s.heap.objs.size:=λb o z=>Nat.ne_of_lt (Heap.lt_size z)
  have U:Un (GP X.stack) [it] H (upd H s.heap.objs.size (.tup [kV kvs[i].1,kvs[i].2])) s.heap h2:=by
   have MF:∀b,b∉[it]->b≠it:=λb hb z=>hb (by simp [z])
   refine⟨λb o z _ _ hb=>kp b o (MF b hb) z,λb o z _ _ hb=>⟨o.slots,kp b o (MF b hb) z⟩,λb o z n hb=>by rw [au (Xx b o z)]; exact n,λb o z hb=>?_,λb ys z=>by rw [au (lt b _ z)]; exact z,λb o u z=>by rw [au (lt b _ z)]; exact z,λb ps z=>⟨#[],by rw [au (lt b _ z),z]; simp⟩⟩;exact⟨o,kp b o (MF b hb) z⟩
  have I2:Inv X pins σ (upd H s.heap.objs.size (.tup [kV kvs[i].1,kvs[i].2])) {s with heap:=h2}:=I.call (g':=s.gens) (t':=s.toks) (d':=s.drawn) (ch:=[it]) U bR I.bare λb hb=>by
   have f:=hf b hb;exact⟨f.2.2.2.1,f.2.1,f.2.2.2.2.1,f.2.2.2.2.2⟩
  refine⟨.ref s.heap.objs.size,_,I2,rfl,⟨s.heap.objs.size,kvs[i],hn,List.getElem?_eq_getElem hi,rfl,rfl⟩,⟨_,_,he2⟩,λb hb=>?_⟩;have eb:b=it:=by simpa using hb
  subst eb;rw [au (Xx _ _ he)];exact fi.1
 done:=by
  intro X hP hw hK hc i pins s σ H E I hf st hg;subst hP hw hK;obtain⟨hi,ha⟩:=hg;obtain⟨ho,_⟩:=I.bR a _ ha;obtain⟨f0,f1,f2,f3,f4,f5⟩:=hf it (by simp);obtain⟨ok,ov,he⟩:=st;have hl:=rel.length;exact wpAny_pyNext_items_end (I.ok.hd hc) he (dat _ ho) (List.getElem?_eq_none (by omega)) λh' eb=>⟨rfl,I.turned (t':=s.toks) (λb o hb e=>eb b o hb e) f0 f1 f3 f4 f5⟩
 self:=λ_ _ _ _ _ st h=>by
  obtain⟨ok,ov,he⟩:=st;exact oj he h
section
variable {X:Cx}
theorem Ie:W8 X "dict.items" (λx vs H Q=>∃(a:Addr) (kvs:List (Key×V)),x=.ref a/\vs=[]/\Rd H a (.dK kvs)/\∀p,H p=none->Q (.ref p) (upd H p (.ext λh=>h.IsItemsView p a))):=by
 intro pins s σ H x vs v us Q I rx rv h;obtain⟨a,kvs,rfl,rfl,ha,q⟩:=h;cases rx;cases rv;obtain⟨z,hd,vs,rel,dd⟩:=gp I.bR ha;refine call_meetsIn PySem.F.slot_dict_items dd.typeIs PySem.F.entry_dict_items (PySem.F.args_dict_items_1 _) (meets_dict_items (ba X.prog X.w) a hd) ⟨⟨vs,dd⟩,.ref s.heap.objs.size,_,I.laid (a:=s.heap.objs.size) (t':=s.toks) (λb o hb=>Heap.get?_push_of_some _ hb) (Nat.le_refl _) ?_,rfl,q _ (I.bR.fresh (Nat.le_refl _))⟩;have e:=Heap.get?_push_size s.heap (o:={cls:=.type "dict_items",data:=.fields #[.ref a]}) rfl;exact⟨⟨_,e,rfl,rfl⟩,⟨_,e⟩,λh1 h2 ⟨o,e1,c,d⟩ k=>⟨o,k o e1,c,d⟩⟩
noncomputable def Ig (tl:TE):TI:=λσ H R=>tl σ H λx H1=>∃p a kvs,x=.ref p/\H1 p=some (.ext λh=>h.IsItemsView p a)/\H1 a=some (.dK kvs)/\∀o,R (Iti a o kvs) (upd H1 a (.iY o (.dK kvs)))
theorem Ih {es:List Expr}{k:Nat}{tp:Pos}{l:Expr}{tl:TE}(hl:PE X l tl):PI X (.Tuple es k tp) l (Ig tl):=by
 intro pins s σ H R I h;refine cg (hl pins s σ H _ I h) λv s1 ⟨x,H1,I1,r1,q1⟩=>?_
 obtain⟨p,a,kvs,e,hp,ha,q⟩:=q1;subst e;cases r1;have hv:s1.heap.IsItemsView p a:=(I1.bR p _ hp).1;obtain⟨z,hd,vs,rel,dd⟩:=ke I1.bR ha;obtain⟨o,ho,I2⟩:=I1.freeze ha;obtain⟨ep,dat⟩:=dd.dictAt;have SO:∀h:Heap,h.get? a=some o->h.DictAt (ba X.prog X.w) a vs ep:=λh e=>by
  obtain⟨o',es,h1,h2⟩:=dat;rw [ho] at h1;cases h1;exact⟨o,es,e,h2⟩
 refine wpAny_pyIter_items hv dat ?_;refine⟨s1.heap.objs.size,[s1.heap.objs.size],_,_,_,rfl,I2.kept (t':=s1.toks) λb o e=>Heap.get?_push_of_some _ e,B_ hd rel SO,⟨_,_,Heap.get?_push_size _ rfl⟩,λb hb=>?_,q o⟩;have e:b=s1.heap.objs.size:=by simpa using hb
 subst e;exact I2.GZ (Nat.le_refl _) (I2.bR.fresh (Nat.le_refl _))
end
section
variable {prog:Program}{w:World}{A:Around}{E:Value->Shared->Prop}{s:Shared}
theorem EE {δ:Type}{R:δ->Value->Prop}{a:Addr}{D:List (Str×δ)}{k:Str}{tk:Tok}{d:δ}{Q:Option Value->Shared->Prop}(ht:KTD.TabOf R s.heap a D) (hd:KTD.datumAt k D=some d)
  (h:∀v,R d v->Q (some v) {s with toks:=s.toks+1}):wpAny (model prog w) A (dictGet a (.str k tk)) Q E s:=by
 obtain⟨hm,o,es,ep,ho,ex,wM,ic⟩:=ht;obtain⟨v,hv,hR⟩:=ic.find_some hd;obtain⟨i,hi,hiv⟩:=EA hv;unfold dictGet;refine wpAny_holding (wpAny_bind (wpAny_pyHash_str (wpAny_bind (KTD.kt_dictFind_strs (s:={s with toks:=s.toks+1}) ho wM (by rw [<-Array.all_toList]; exact ic.exact) ?_))));rw [hi];refine wpAny_bind (wpAny_dictEntries (s:={s with toks:=s.toks+1}) ho wM (wpAny_pure ?_));rw [hiv];exact h v hR
theorem Ii {δ:Type}{R:δ->Value->Prop}{a:Addr}{D:List (Str×δ)}{k:Str}{tk:Tok}{Q:Option Value->Shared->Prop}(ht:KTD.TabOf R s.heap a D) (hd:KTD.datumAt k D=none)
  (h:Q none {s with toks:=s.toks+1}):wpAny (model prog w) A (dictGet a (.str k tk)) Q E s:=by
 obtain⟨hm,o,es,ep,ho,ex,wM,ic⟩:=ht;have hi:=xx (ic.find_none hd);unfold dictGet;refine wpAny_holding (wpAny_bind (wpAny_pyHash_str (wpAny_bind (KTD.kt_dictFind_strs (s:={s with toks:=s.toks+1}) ho wM (by rw [<-Array.all_toList]; exact ic.exact) ?_))));rw [hi];exact wpAny_pure h
theorem kd_item {δ:Type}{R:δ->Value->Prop}{a:Addr}{D:List (Str×δ)}{k:Str}{tk:Tok}{d:δ}{Q:Value->Shared->Prop}(ht:KTD.TabOf R s.heap a D) (hd:KTD.datumAt k D=some d)
  (h:∀v,R d v->Q v {s with toks:=s.toks+1}):wpAny (model prog w) A (getItem (.ref a) (.str k tk)) Q E s:=by
 have ty:s.TypeIs (.ref a) "dict":=by
  obtain⟨hm,o,es,ep,ho,ex,wM,ic⟩:=ht;exact⟨o,ho,ex.1⟩
 unfold getItem
 try with_reducible refine wpAny_holding ?_
 refine wpAny_bind (wpAny_sequenceKey ty (by decide) ?_);refine wpAny_bind (wpAny_callSpecial?_slot (name:=Str.ofString "__getitem__") ty PySem.F.slot_dict_getitem
  (wpAny_call_entry PySem.F.slot_dict_getitem ty PySem.F.entry_dict_getitem ?_ (PySem.F.args_dict_getitem_2 _ _)))
 show wpAny _ _ (dictGet a (.str k tk) >>= _) _ _ s;exact wpAny_bind (EE ht hd λv hv=>wpAny_pure ⟨v,rfl,wpAny_pure (h v hv)⟩)
theorem Nf {δ:Type}{R:δ->Value->Prop}{a:Addr}{D:List (Str×δ)}{k:Str}{tk:Tok}{dv:Value}{Q:Value->Shared->Prop}(ht:KTD.TabOf R s.heap a D)
  (h:(∃d,KTD.datumAt k D=some d/\∀v,R d v->Q v {s with toks:=s.toks+1})\/(KTD.datumAt k D=none/\Q dv {s with toks:=s.toks+1})):wpAny (model prog w) A (call (.builtin "dict.get") [.ref a,.str k tk,dv]) Q E s:=by
 have ty:s.TypeIs (.ref a) "dict":=by
  obtain⟨hm,o,es,ep,ho,ex,wM,ic⟩:=ht;exact⟨o,ho,ex.1⟩
 refine wpAny_call_entry PySem.F.slot_dict_get ty PySem.F.entry_dict_get ?_ (PySem.F.args_dict_get_3 _ _ _);show wpAny _ _ (dictGet a (.str k tk) >>= _) _ _ s;rcases h with ⟨d,hd,h⟩ | ⟨hd,h⟩
 ·exact wpAny_bind (EE ht hd λv hv=>wpAny_pure ⟨v,rfl,h v hv⟩)
 ·refine wpAny_bind (Ii ht hd ?_);show wpAny _ _ (Builtin.Dict.missed a (.str k tk) >>= _) _ _ _;exact wpAny_bind (wpAny_missed_other ht.1 (wpAny_pure ⟨dv,rfl,h⟩))
end
section
variable {X:Cx}{o e f i:Expr}{apos dR pos:Pos}{td ty tx:TE}{a:Addr}{D:List (Str×Addr)}
theorem Ng (t:mL X.K a D) (ho:PE X o td) (hi:PE X i ty) (hs:SM i):PE X (.Subscript o i pos) (Ou a D td ty):=by
 intro pins s σ H Q I h;refine Eu PySem.F.slot_dict_getitem.lookup hs (cg (ho pins s σ H _ I h) λu s1 ⟨x,H1,I1,rx,ex,q1⟩=>cg (hi pins s1 σ H1 _ I1 q1) λiv s2 ⟨y,H2,I2,ry,k,b,ey,hd,q2⟩=>?_);subst ex;obtain rfl:u=Value.ref a:=rx;subst ey;obtain⟨tk,rfl⟩:=ry;have ht:=t.of (h:=s2.heap) λc o e=>I2.iy c o e
 obtain⟨_,o1,es,ep,SY,S1,_⟩:=id ht;refine⟨⟨o1,SY,S1.1⟩,kd_item ht hd λv e=>?_⟩;subst e;exact⟨.ref b,H2,I2.tok _,rfl,q2⟩
noncomputable def Ij (a:Addr) (D:List (Str×Addr)) (td ty tx:TE):TE:=λσ H Q=>td σ H λx H1=>x=.ref a/\ty σ H1 λy H2=>tx σ H2 λz H3=>∃k,y=.str k/\((∃b,KTD.datumAt k D=some b/\Q (.ref b) H3)\/(KTD.datumAt k D=none/\Q z H3))
theorem Ik (t:mL X.K a D) (ho:PE X o td) (he:PE X e ty) (hf:PE X f tx) (m:M2 X o "get" apos e f dR):PE X (.Call (.Attribute o "get" apos) [e,f] [] dR) (Ij a D td ty tx):=by
 intro pins s σ H Q I h;refine wpAny_Call_method m.base m.bX m.line PySem.F.plainAttrs_dict PySem.F.slot_dict_get PySem.F.type_dict_get (cg (ho pins s σ H _ I h) λu s1 ⟨x,H1,I1,rx,ex,q1⟩=>?_);subst ex;obtain rfl:u=Value.ref a:=rx;obtain⟨_,o1,es,ep,SY,S1,wM,_⟩:=t.of (h:=s1.heap) λc o e=>I1.iy c o e
 refine⟨⟨o1,SY,S1.1⟩,λc ec=>?_,?_⟩
 ·cases ec;exact⟨o1,SY,S1.2.1⟩
 rw [m.trees];refine Calls.callWith_builtin rfl (Calls.evalArgs_plain (Calls.spliced_cons (cg (he pins s1 σ H1 _ I1 q1) λiv s2 ⟨y,H2,I2,ry,q2⟩=>
  Calls.spliced_cons (cg (hf pins s2 σ H2 _ I2 q2) λfv s3 ⟨z,H3,I3,rz,k,ey,q3⟩=>Calls.spliced_nil ?_))))
 subst ey;obtain⟨tk,rfl⟩:=ry;refine Nf (t.of (h:=s3.heap) λc o e=>I3.iy c o e) ?_;rcases q3 with ⟨b,hd,q⟩ | ⟨hd,q⟩
 ·refine .inl ⟨b,hd,λv e=>?_⟩;subst e;exact⟨.ref b,H3,I3.tok _,rfl,q⟩
 ·exact .inr ⟨hd,z,H3,I3.tok _,rz,q⟩
end
section
variable {X:Cx}
noncomputable def tLT (t:TE):TT:=λσ H Q=>t σ H λx H'=>∃(a:Addr) (xs:List V),x=.ref a/\H' a=some (.lst xs)/\xs.length<=1000/\Q (!xs.isEmpty) H'
theorem S2 {e:Expr}{t:TE}(h:PE X e t) (he:∀whole,isTrue e X.env whole=(do let v <-whole; standAt e.pos; holding [v] (truthy v)):=by intro _; rfl):PT X e (tLT t):=by
 intro pins s σ H Q I hw;refine isTrue_plain (cg (h pins s σ H _ I hw) λv s1 ⟨x,H1,I1,r1,q1⟩=>?_) (he _);obtain⟨a,xs,rfl,ha,hl,q⟩:=q1;cases r1;obtain⟨_,bw,n,r,hz,e⟩:=I1.Hk ha;have hlen:=r.length;refine wpAny_truthy_list ⟨_,e,rfl,_,rfl⟩ (by rw [List.size_toArray]; omega) ⟨H1,(I1.tok _).tok _,?_⟩;have:(bw.toArray.isEmpty)=xs.isEmpty:=by
  cases bw with
  | nil=>cases xs with
   | nil=>rfl
   | cons=>cases hlen
  | cons=>cases xs with
   | nil=>cases hlen
   | cons=>rfl
 rw [this];exact q
end
theorem tq:entryFor table "dict.update.loop"=some Builtin.«dict.update.loop»:=entryFor_of_tree (by kernel_rfl)
theorem jL:plainId "dict.update.loop"=true:=by decide +kernel
section
variable {prog:Program}{w:World}{κ:Type} [DecidableEq κ] {knd:KeyKind prog w κ}{A:Around}{R:Result->Shared->Prop}{I:Addr}{fp wr:List Addr}{G:Array GenState->Array GenState->Prop}{n:Nat}{P:Nat->Value->Prop}{St:Nat->Shared->Prop}
noncomputable def dh (ps:List (κ×Value×Value)):List (κ×Value):=ps.foldl (λacc p=>stored acc p.1 p.2.2) []
theorem pB (ps:List (κ×Value×Value)) (p:κ×Value×Value):dh (ps++[p])=stored (dh ps) p.1 p.2.2:=by
 unfold dh;rw [List.foldl_append];rfl
theorem Ca (kvs:List (κ×Value)) (k:κ) (v:Value):(stored kvs k v).length<=kvs.length+1:=by
 unfold stored;split
 ·rw [List.length_map]; omega
 ·rw [List.length_append,List.length_singleton]; exact Nat.le_refl _
theorem iW:∀(ps:List (κ×Value×Value)) (acc:List (κ×Value)),(ps.foldl (λacc p=>stored acc p.1 p.2.2) acc).length<=acc.length+ps.length
 | [],_=>Nat.le_refl _
 | p::ps,acc=>by
  have h1:=iW ps (stored acc p.1 p.2.2);have h2:=Ca acc p.1 p.2.2;rw [List.foldl_cons,List.length_cons];omega
theorem rW (ps:List (κ×Value×Value)):(dh ps).length<=ps.length:=by
 have:=iW ps [];rw [List.length_nil,Nat.zero_add] at this;exact this
noncomputable def mM (h:Heap) (t:Addr) (x y:Value):Prop:=∃o m,h.get? t=some o/\o.cls=.type "tuple"/\o.data=.seq #[x,y] m
theorem Il (W:WalksS prog w A.in1 I fp wr G n P St) (d:Addr) (Od:d∉fp) (ps:List (κ×Value×Value)) (hlen:ps.length=n) (tp:Nat->Addr) (hP:∀i v,P i v->v=.ref (tp i)) (htp:∀i,i < n->tp i≠d/\tp i∉wr)
  (hk:∀p∈ps,knd.is p.1 p.2.1=true) (hsz:n<=sizeLine) {result:Value} :
  ∀(k i:Nat) (s:Shared),n - i=k->i<=n->St i s->s.heap.DictOf knd d (dh (ps.take i))->(∀(j:Nat) p,ps[j]?=some p->mM s.heap (tp j) p.2.1 p.2.2) ->
   (∀s',Moved (d::wr) G s s'->s'.heap.DictOf knd d (dh ps)->R (.ok (.ret result)) s') ->
   codeAny (model prog w) A (.builtin "dict.update.loop" ⟨[.ref d,.ref I,rawInt i,result],[]⟩) R s:=by
 have hdw:d∉wr:=λh=>Od (W.sub _ h)
 have rX:∀b∈wr,b∈d::wr:=λb hb=>List.mem_cons_of_mem _ hb
 intro k;induction k with
 | zero=>
  intro i s hki hi GW hD hT hR;have xy:i=n:=by omega
  subst xy;refine codeAny_builtin tq ?_;rw [Around.under_plainId jL _];show wpAny _ A.in1 (pyNext (.ref I) >>= _) _ _ s;refine wpAny_bind (W.done s _ _ GW λs' hm=>?_);show wpAny _ A.in1 (ret result) _ _ s';refine wpAny_pure (hR s' (hm.mono rX) ?_);rw [<-hlen,List.take_length] at hD;obtain⟨o,es,ep,ho,rest⟩:=hD;exact⟨o,es,ep,hm.heap d _ hdw ho,rest⟩
 | succ k ih=>
  intro i s hki hi GW hD hT hR;have gY:i < n:=by omega
  refine codeAny_builtin tq ?_;rw [Around.under_plainId jL _];show wpAny _ A.in1 (pyNext (.ref I) >>= _) _ _ s;refine wpAny_bind (W.item i s _ _ gY GW λv s' hPv aaP hm=>?_);obtain rfl:=hP i v hPv;obtain⟨p,hp⟩:∃p,ps[i]?=some p:=⟨_,List.getElem?_eq_getElem (by omega)⟩
  have hT':∀(j:Nat) p,ps[j]?=some p->mM s'.heap (tp j) p.2.1 p.2.2:=λj p hj=>by
   obtain⟨o,m,h1,h2⟩:=hT j p hj;exact⟨o,m,hm.heap _ _ (htp j (by rw [<-hlen]; exact(List.getElem?_eq_some_iff.mp hj).1)).2 h1,h2⟩
  have hD':s'.heap.DictOf knd d (dh (ps.take i)):=by
   obtain⟨o,es,ep,ho,rest⟩:=hD;exact⟨o,es,ep,hm.heap d _ hdw ho,rest⟩
  obtain⟨ot,m,ht1,kg,ht3⟩:=hT' i p hp;have tyT:s'.TypeIs (.ref (tp i)) "tuple":=⟨_,ht1,kg⟩
  show wpAny _ A.in1 (holding [Value.ref (tp i)] ((Builtin.Dict.pairItems (.ref (tp i))).tryCatch _ >>= _) >>= _) _ _ s';refine wpAny_bind (wpAny_holding (wpAny_bind (wpAny_tryCatch ?_)));unfold Builtin.Dict.pairItems;refine wpAny_bind (wpAny_typeOf tyT ?_);rw [if_pos (by decide)];refine wpAny_bind (wpAny_seqItems ht1 ht3 (wpAny_pure ?_));show wpAny _ A.in1 (holding [p.2.1,p.2.2] (dictSet d p.2.1 p.2.2)) _ _ s';refine wpAny_holding (wpAny_dictSet_pairs (hk p (List.mem_of_getElem? hp)) hD' (λh' Im xo=>?_) ?_)
  ·have hD3:h'.DictOf knd d (dh (ps.take (i+1))):=by
    rw [List.take_add_one,hp];show h'.DictOf knd d (dh (ps.take i++[p]));rw [pB];exact Im
   refine wpAny_pure ⟨plainId_quiet jL _,?_⟩;have:=ih (i+1) {s' with heap:=h',toks:=s'.toks+1} (by omega) gY (W.frame _ s' _ _ aaP (Nat.le_succ _) λb hb o e=>?_) hD3 (λj p hj=>?_) λW2 aaQ aaR=>?_
   ·exact this
   ·rw [xo.2 b (λh:b=d=>Od (by rw [<-h]; exact hb))]; exact e
   ·obtain⟨o,m,h1,h2⟩:=hT' j p hj;exact⟨o,m,by rw [xo.2 _ (htp j (by rw [<-hlen]; exact(List.getElem?_eq_some_iff.mp hj).1)).1]; exact h1,h2⟩
   ·refine hR W2 (Moved.trans W.gtrans ((hm.mono rX).then_heap (Nat.le_succ _) λb o hb e=>?_) aaQ) aaR;rw [xo.2 b (λh:b=d=>hb (by rw [h]; exact List.mem_cons_self))]; exact e
  ·have:=rW (ps.take i);rw [List.length_take] at this;omega
end
theorem uW:typeLookup (.type "list") "keys"=pure none:=by rw [typeLookup_type,builtinLookup_eq_fast]; kernel_rfl
theorem kx {prog:Program}{w:World}{A:Around}{E:Value->Shared->Prop}{s:Shared}{a:Addr}{o:Obj}{xs:Array Value}{k:Nat}{name:Str}{Q:Option Value->Shared->Prop}
  (hx:s.heap.get? a=some o) (hc:o.cls=.type "list") (Nh:o.data=.seq xs k) (hd:o.dict=none) (Xy:typeLookup (.type "list") name=pure none) (Xz:(["__module__","__name__","__qualname__","__doc__","__annotations__"]:List Str).contains name=false) (hA:A.handled=none)
  (h:∀h' tk e,Heap.NewExcOf s.heap h' e "AttributeError"->Q none {s with heap:=h',toks:=tk}) (hsz:name.length+100<=sizeLine:=by size_fits) :
  wpAny (model prog w) A (getAttr? (.ref a) name) Q E s:=by
 obtain⟨c,dct,dat,sl⟩:=o;simp only at hc Nh hd;subst hc Nh hd;obtain⟨hp,g,d,tk,os⟩:=s;have hT:∀XA,(⟨hp,g,d,XA,os⟩:Shared).TypeIs (.ref a) "list":=λ_=>⟨_,hx,rfl⟩
 have f1:=sub_AttributeError;have f3:=PySem.F.slot_list_getattribute.lookup;have f4:=PySem.F.slot_list_getattribute.bind (.ref a);have f5:=am_list_getattr_none;unfold getAttr? getAttrBy? getAttrBy
 repeat (any_goals (first | assumption | exact hT _ | ((with_reducible show wpAny _ _ (call (Value.builtin "list.__getattribute__") _ _) _ _ _); refine call_meets PySem.F.slot_list_getattribute (hT _) am_entry_list_getattribute (PySem.F.args_list_getattribute_2 _ _) (meets_getattribute_miss_list a xs k sl name _ Xy Xz hsz) ⟨hx,hA,λh' XA e hx'=>?_⟩) | wp_step))
 obtain⟨t',u',he⟩:=hx'.there;show wpAny _ _ (getattributeRaised _ _ _ _ _ _ _) _ _ _;unfold getattributeRaised;have tyE:Shared.TypeIs ⟨h',g,d,XA,os⟩ (.ref e) "AttributeError":=⟨_,he,rfl⟩
 repeat (any_goals (first | assumption | wp_step))
 exact h _ _ _ hx'.of
section
variable {prog:Program}{w:World}{κ:Type} [DecidableEq κ] {knd:KeyKind prog w κ}{A:Around}{E:Value->Shared->Prop}{s:Shared}
theorem om {l:Addr}{items:Array Value}{m:Nat}{sl:Array (Option Value)}{Q:Value->Shared->Prop}(hh:A.handled=none) (hx:s.heap.get? l=some ⟨.type "list",none,.seq items m,sl⟩) (ps:List (κ×Value×Value)) (tp:Nat->Addr)
  (hlen:ps.length=items.size) (hit:∀(i:Nat) (v:Value),items[i]?=some v->v=.ref (tp i)) (hT:∀(j:Nat) p,ps[j]?=some p->mM s.heap (tp j) p.2.1 p.2.2) (hk:∀p∈ps,knd.is p.1 p.2.1=true) (hsz:ps.length<=sizeLine)
  (h:∀h' tk,h'.DictOf knd s.heap.objs.size (dh ps)->(∀b o,b < s.heap.objs.size->s.heap.get? b=some o->h'.get? b=some o)->Q (.ref s.heap.objs.size) {s with heap:=h',toks:=tk}) :
  wpAny (model prog w) A (call (.type "dict") [.ref l]) Q E s:=by
 refine callType_codes (Q₁:=λobj s₁=>obj=.ref s.heap.objs.size/\s₁={s with heap:=s.heap.push {cls:=.type "dict",data:=.dict #[]}}) PySem.F.kt_called_dict (PySem.F.kt_typeCall_dict_1 _) PySem.F.entry_dict_init (kt_code_dict_new _ ⟨rfl,rfl⟩) ?_;rintro obj s₁ ⟨rfl,rfl⟩;have mE:(s.heap.push {cls:=.type "dict",data:=.dict #[]}).DictOf knd s.heap.objs.size []:=Heap.DictOf.new s.heap;have kh:(s.heap.push {cls:=.type "dict",data:=.dict #[]}).get? l=some ⟨.type "list",none,.seq items m,sl⟩:=Heap.get?_push_of_some _ hx;refine⟨mE.typeIs,PySem.F.args_dict_init_2 _ _,?_⟩;unfold Builtin.«dict.__init__»;refine wpAny_bind ?_;unfold Builtin.Dict.selfAndRest;refine wpAny_bind (wpAny_notOrdered_dict mE.typeIs ?_);show wpAny _ _ (pure (s.heap.objs.size,[Value.ref l])) _ _ _;refine wpAny_pure ?_;show wpAny _ _ (Builtin.Dict.updateFrom "dict.__init__" s.heap.objs.size (.ref l) [] .none) _ _ _;unfold Builtin.Dict.updateFrom;have tyL:Shared.TypeIs {s with heap:=s.heap.push {cls:=.type "dict",data:=.dict #[]}} (.ref l) "list":=⟨_,kh,rfl⟩
 refine wpAny_bind (wpAny_typeOf tyL ?_);rw [if_pos (by decide)];refine wpAny_bind (kx kh rfl rfl rfl uW (by decide) ?_ λh1 tk1 e ne=>?_)
 ·show A.in1.in1.handled=none;simp [hh]
 rw [if_pos (by decide)];refine wpAny_bind (wpAny_rule ?_);have ED:=ne.keeps _ _ kh;have gg:h1.IsList l items:=⟨_,ED,rfl,m,rfl⟩
 refine wpAny_bind (wpAny_pyIter_list gg (wpAny_pure ⟨plainId_quiet jL _,?_⟩));have hlS:l < s.heap.objs.size:=Heap.lt_size hx;have hD1:h1.DictOf knd s.heap.objs.size []:=by
  obtain⟨o,es,ep,ho,rest⟩:=mE;exact⟨o,es,ep,ne.keeps _ _ ho,rest⟩
 have hdS:s.heap.objs.size < h1.objs.size:=by
  obtain⟨o,es,ep,ho,rest⟩:=hD1;exact Heap.lt_size ho
 have aaS:l≠h1.objs.size:=Nat.ne_of_lt (Nat.lt_trans hlS hdS);have hh3:A.in1.in1.handled=none:=by simp [hh]
 refine Il (n:=items.size) ((Walks.list hh3 h1.objs.size l aaS items).toS) s.heap.objs.size ?_ ps hlen tp hit (λi hi=>?_) hk (by omega) (items.size - 0) 0 _ (by omega) (Nat.zero_le _) ⟨⟨_,Heap.get?_push_size _ rfl,rfl,rfl⟩,gg.push _⟩ (hD1.push _) (λj p hj=>?_) λs' hm hD'=>?_
 ·simp only [List.mem_cons,List.mem_singleton,List.not_mem_nil,or_false,not_or];exact⟨Nat.ne_of_lt hdS,Nat.ne_of_gt hlS⟩
 ·obtain⟨p,hp⟩:∃p,ps[i]?=some p:=⟨_,List.getElem?_eq_getElem (by omega)⟩
  obtain⟨o,mm,h2,_⟩:=hT i p hp;have gY:=Heap.lt_size h2;refine⟨Nat.ne_of_lt gY,?_⟩;simp only [List.mem_cons,List.mem_singleton,List.not_mem_nil,or_false];exact Nat.ne_of_lt (Nat.lt_trans gY hdS)
 ·obtain⟨o,mm,h2,h3⟩:=hT j p hj;exact⟨o,mm,Heap.get?_push_of_some _ (ne.keeps _ _ (Heap.get?_push_of_some _ h2)),h3⟩
 ·obtain⟨h',g',d',XA,os'⟩:=s';have eg:g'=s.gens:=hm.gens;have ed:d'=s.drawn:=hm.drawn;have eo:os'=s.os:=hm.os;subst eg; subst ed; subst eo
  refine⟨rfl,h h' XA hD' λb o hb e=>?_⟩;refine hm.heap b o ?_ (Heap.get?_push_of_some _ (ne.keeps _ _ (Heap.get?_push_of_some _ e)));simp only [List.mem_cons,List.mem_singleton,List.not_mem_nil,or_false,not_or];exact⟨Nat.ne_of_lt hb,Nat.ne_of_lt (Nat.lt_trans hb hdS)⟩
end
noncomputable def putAll (iZ:List (Key×V)):List (Key×V):=iZ.foldl (λacc p=>putK acc p.1 p.2) []
theorem EF:∀(iZ:List (Key×V)) (ps:List (Key×Value×Value)) (acc:List (Key×V)) (uS:List (Key×Value)),KV acc uS->iZ.length=ps.length->(∀(j:Nat) p q,iZ[j]?=some p->ps[j]?=some q->p.1=q.1/\RelV p.2 q.2.2)->KV (iZ.foldl (λacc p=>putK acc p.1 p.2) acc) (ps.foldl (λacc p=>stored acc p.1 p.2.2) uS)
 | [],[],_,_,r,_,_=>r
 | [],_::_,_,_,_,h,_=>by cases h
 | _::_,[],_,_,_,h,_=>by cases h
 | p::iZ,q::ps,acc,uS,r,hl,h=>by
  obtain⟨h1,h2⟩:=h 0 p q rfl rfl;rw [List.foldl_cons,List.foldl_cons];refine EF iZ ps _ _ ?_ (by simpa using hl) λj p q hp hq=>h (j+1) p q hp hq
  rw [<-h1];exact r.put p.1 h2
theorem lx:∀(ps:List (Key×V)) (acc:List (Key×V)),(ps.foldl (λacc p=>putK acc p.1 p.2) acc).length<=acc.length+ps.length
 | [],_=>Nat.le_refl _
 | p::ps,acc=>by
  have h1:=lx ps (putK acc p.1 p.2);have h2:=fT acc p.1 p.2;rw [List.foldl_cons,List.length_cons];omega
theorem Cc (ps:List (Key×V)):(putAll ps).length<=ps.length:=by
 have:=lx ps [];rw [List.length_nil,Nat.zero_add] at this;exact this
section
variable {X:Cx}{pins:List (Addr×Obj)}{σ:St}{H:Hp}{s:Shared}
theorem xA (I:Inv X pins σ H s):∀(ts:List Addr) (iZ:List (Key×V)),ts.length=iZ.length->(∀(i:Nat) t p,ts[i]?=some t->iZ[i]?=some p->H t=some (.tup [kV p.1,p.2])) ->
  ∃ps:List (Key×Value×Value),iZ.length=ps.length/\∀(j:Nat) t p,ts[j]?=some t->iZ[j]?=some p->∃q,ps[j]?=some q/\p.1=q.1/\RelV p.2 q.2.2/\RelV (kV p.1) q.2.1/\mM s.heap t q.2.1 q.2.2
 | [],[],_,_=>⟨[],rfl,λj t p h=>by simp at h⟩
 | [],_::_,h,_=>by cases h
 | _::_,[],h,_=>by cases h
 | t::ts,p::iZ,hl,h=>by
  obtain⟨ps,h1,h2⟩:=xA I ts iZ (by simpa using hl) λi t p ht hp=>h (i+1) t p ht hp
  obtain⟨_,vs,r,o,ho,hc,m,hd⟩:=I.bR t _ (h 0 t p rfl rfl)
  cases r with
  | cons rk r=>
   cases r with
   | cons rv r=>
    cases r;rename_i x y;refine⟨(p.1,x,y)::ps,by simp [h1],λj t' p' ht hp=>?_⟩
    cases j with
    | zero=>
     cases ht;cases hp;exact⟨_,rfl,rfl,rv,rk,o,m,ho,hc,hd⟩
    | succ j=>exact h2 j t' p' ht hp
theorem pC (hc:X.calm=true):eX X (.type "dict") (λxs H Q=>∃(l:Addr) (ts:List Addr) (iZ:List (Key×V)),xs=[.ref l]/\H l=some (.lst (ts.map V.ref))/\ts.length=iZ.length/\(∀(i:Nat) t p,ts[i]?=some t->iZ[i]?=some p->H t=some (.tup [kV p.1,p.2]))/\iZ.length<=1000/\∀q,H q=none->Q (.ref q) (upd H q (.dK (putAll iZ)))):=by
 intro pins s σ H xs us Q I r h;obtain⟨l,ts,iZ,rfl,hl,hlen,hT,hz,q⟩:=h;obtain⟨u,rfl,rx⟩:=vals1 r;cases rx;obtain⟨_,bw,n,rr,hll,e⟩:=I.Hk hl;obtain⟨ps,h1,h2⟩:=xA I ts iZ hlen hT;have hit:∀(i:Nat) (v:Value),bw.toArray[i]?=some v->v=.ref (ts.getD i 0):=λi v hv=>by
  rw [List.getElem?_toArray] at hv;have hi:=(List.getElem?_eq_some_iff.mp hv).1;have hit:i < ts.length:=by
   rw [List.length_map] at hll;omega
  obtain⟨u,hu,aaT⟩:=rr.get (i:=i) (x:=V.ref ts[i]) (by rw [List.getElem?_map,List.getElem?_eq_getElem hit]; rfl);rw [hu] at hv;cases hv;rw [List.getD_eq_getElem?_getD,List.getElem?_eq_getElem hit];exact aaT
 have hat:∀(j:Nat) q,ps[j]?=some q->∃t p,ts[j]?=some t/\iZ[j]?=some p/\p.1=q.1/\RelV p.2 q.2.2/\RelV (kV p.1) q.2.1/\mM s.heap t q.2.1 q.2.2:=λj q hq=>by
  have hj:=(List.getElem?_eq_some_iff.mp hq).1;have ht:ts[j]?=some (ts[j]'(by omega)):=List.getElem?_eq_getElem _;have hp:iZ[j]?=some (iZ[j]'(by omega)):=List.getElem?_eq_getElem _;obtain⟨q',h3,h4⟩:=h2 j _ _ ht hp;rw [hq] at h3;cases h3;exact⟨_,_,ht,hp,h4⟩
 have Ni:ps.length=bw.toArray.size:=by
  rw [List.size_toArray,<-hll,List.length_map];omega
 refine om (knd:=ba X.prog X.w) (I.ok.hd hc) e ps (λi=>ts.getD i 0) Ni hit (λj p hj=>?_) (λp hp=>?_) ?_ λh' tk dd kp=>?_
 ·obtain⟨t,p',ht,_,_,_,_,h5⟩:=hat j p hj;show mM s.heap (ts.getD j 0) _ _;rw [List.getD_eq_getElem?_getD,ht];exact h5
 ·obtain⟨j,hj⟩:=List.mem_iff_getElem?.mp hp;obtain⟨t,p',_,_,h3,_,h4,_⟩:=hat j p hj;rw [<-h3];exact jn h4
 ·have:=aJ hz;omega
 ·have rel:KV (putAll iZ) (dh ps):=EF iZ ps [] [] .nil h1 λj p q hp hq=>by
   obtain⟨t,p',_,Wm,h3,h4,_⟩:=hat j q hq;rw [hp] at Wm;cases Wm;exact⟨h3,h4⟩
  refine⟨.ref s.heap.objs.size,_,I.laid (a:=s.heap.objs.size) (o:=.dK (putAll iZ)) (t':=tk) (λb o hb=>kp b o (Heap.lt_size hb) hb) (Nat.le_refl _) (mJ ?_ (beq_eq_false_iff_ne.mpr (Ne.symm (Nat.ne_of_lt I.big))) rel dd),rfl,q _ (I.bR.fresh (Nat.le_refl _))⟩;have h6:=aJ hz;have h7:=Cc iZ;omega
end
theorem Nj {X:Cx}{K:PySem.W.Frag}(h:X.K=K) (hu:X.A.units+64 < cLine):kX X (compareOp .NotEq) (M6 K true):=by
 subst h;exact B4 hu
section
variable {X:Cx}{C Cb:Addr}{x:Str}{p pos:Pos}{e:Expr}{es:List Expr}{t:TA}
end
section
variable {P:Program}{w:World}{K:PySem.W.Frag}{mg:Str->Option Value}{base:Heap}
end
section
variable {X:Cx}{k:Nat}{f C C2 Co:Addr}{fd:FuncData}{ps:List Str}{sp:Sp}{hU:List V}{ds:List Value}{E:XK}
variable {x n cn m:Str}{np pos apos Xu dR Xv adi:Pos}{e o:Expr}{es:List Expr}{ta:TE}{t:TA}{ts:TS}{b0:Stmt}{Ov:List Stmt}{i j:Nat}
end
inductive S3 (K:PySem.W.Frag) (H:Hp):V->Value->Prop where
 | s {x:V}{t:Value}(h:Wk K H x t):S3 K H x t
 | dct {a:Addr}{kvs:List (Key×V)}(h:Rd H a (.dK kvs)):S3 K H (.ref a) (.type "dict")
section
variable {X:Cx}
theorem bo:eX X (.builtin "isinstance") (λxs H Q=>∃x n t b,xs=[x,.ty n]/\S3 X.K H x t/\PySem.W.kitOne X.K t (.type n)=some b/\Q (.bl b) H):=by
 intro pins s σ H xs us Q I r h;obtain⟨x,n,t,b,rfl,ty,e,q⟩:=h
 cases ty with
 | s h=>exact uP pins s σ H _ us Q I r ⟨x,n,t,b,rfl,h,e,q⟩
 | @dct a kvs h=>
  obtain⟨u,w',rfl,r1,r2⟩:=vals2 r;cases (show w'=Value.type n from r2);cases (show u=Value.ref a from r1);obtain⟨z,hd,vs,rel,dd⟩:=gp I.bR h;obtain⟨o,h1,h2⟩:=dd.typeIs;exact PySem.W.kia_one PySem.W.kitx_dict I.iy ⟨o,h1,h2⟩ e (λz=>nomatch z) λtk=>⟨.bl b,H,I.tok _,rfl,q⟩
end
end L2
namespace L2
open PySem PySem.Spec PyProof.Rows
set_option maxRecDepth 100000
noncomputable def pD (l:List Nat):Prop:=l.Pairwise (· < ·)
theorem pD.le {xs:Array Nat}(hr:pD xs.toList) {i k v u:Nat}(hik:i<=k) (hi:xs[i]?=some v) (hk:xs[k]?=some u):v<=u:=by
 rcases Nat.lt_or_eq_of_le hik with h | h
 ·have p:=List.pairwise_iff_getElem.mp hr;rw [<-Array.getElem?_toList] at hi hk;obtain⟨a1,a2⟩:=List.getElem?_eq_some_iff.mp hi;obtain⟨b1,b2⟩:=List.getElem?_eq_some_iff.mp hk;have:=p i k a1 b1 h;omega
 ·subst h;rw [hi] at hk;cases hk;exact Nat.le_refl _
theorem pE {xs:Array Nat}{j:Nat}(hr:pD xs.toList):∀fuel lo hi:Nat,hi - lo<=fuel->lo<=hi->hi<=xs.size->(∀i v:Nat,i < lo->xs[i]?=some v->v < j)->(∀i v:Nat,hi<=i->xs[i]?=some v->j<=v) ->
  SetTable.below.go xs j fuel lo hi<=xs.size/\(∀i v:Nat,i < SetTable.below.go xs j fuel lo hi->xs[i]?=some v->v < j)/\∀i v:Nat,SetTable.below.go xs j fuel lo hi<=i->xs[i]?=some v->j<=v
 | 0,lo,hi,h1,h2,h3,h4,h5=>by
  have e:lo=hi:=by omega
  subst e;exact⟨h3,h4,h5⟩
 | fuel+1,lo,hi,h1,h2,h3,h4,h5=>by
  unfold SetTable.below.go
  by_cases hl:lo < hi
  ·rw [if_pos hl];have hm:(lo+hi) / 2 < xs.size:=by omega
   have gm:xs[(lo+hi) / 2]?=some xs[(lo+hi) / 2]:=Array.getElem?_eq_getElem hm;have gd:xs.getD ((lo+hi) / 2) j=xs[(lo+hi) / 2]:=by rw [Array.getD_eq_getD_getElem?,gm]; rfl
   dsimp only
   by_cases hc:xs.getD ((lo+hi) / 2) j < j
   ·rw [if_pos hc];rw [gd] at hc;exact pE hr fuel _ _ (by omega) (by omega) h3 (λi v Hw e=>by
     have:=hr.le (Nat.le_of_lt_succ Hw) e gm
     omega) h5
   ·rw [if_neg hc];rw [gd] at hc;exact pE hr fuel _ _ (by omega) (by omega) (by omega) h4 λi v Hw e=>by
     have:=hr.le Hw gm e;omega
  ·rw [if_neg hl];have e:lo=hi:=by omega
   subst e;exact⟨h3,h4,h5⟩
theorem below_at {xs:Array Nat}{j:Nat}(hr:pD xs.toList):SetTable.below xs j<=xs.size/\(∀i v:Nat,i < SetTable.below xs j->xs[i]?=some v->v < j)/\∀i v:Nat,SetTable.below xs j<=i->xs[i]?=some v->j<=v:=
 pE hr xs.size 0 xs.size (by omega) (Nat.zero_le _) (Nat.le_refl _) (λi v h=>absurd h (Nat.not_lt_zero i)) λi v h e=>by
  have:=(Array.getElem?_eq_some_iff.mp e).1;omega
noncomputable def mN (t:SetTable) (j:Nat):Prop:=¬t.place[SetTable.below t.place j]?=some j
theorem Io {t:SetTable}{j:Nat}(hr:pD t.place.toList) (hj:mN t j):pD (t.put j).1.place.toList:=by
 show pD (SetTable.insertAt t.place (SetTable.below t.place j) j).toList;rw [SetTable.toList_insertAt];obtain⟨b1,b2,b3⟩:=below_at (j:=j) hr;unfold mN at hj;generalize SetTable.below t.place j=b at b1 b2 b3 hj;have tk:∀x∈t.place.toList.take b,x < j:=λx hx=>by
  obtain⟨i,hi⟩:=List.mem_iff_getElem?.mp hx;rw [List.getElem?_take] at hi;split at hi
  ·rename_i hib;exact b2 i x hib (by rw [<-Array.getElem?_toList]; exact hi)
  ·cases hi
 have dr:∀x∈t.place.toList.drop b,j < x:=λx hx=>by
  obtain⟨i,hi⟩:=List.mem_iff_getElem?.mp hx;rw [List.getElem?_drop,Array.getElem?_toList] at hi;have h1:=b3 (b+i) x (by omega) hi;rcases Nat.lt_or_eq_of_le h1 with h | h
  ·exact h
  ·exfalso;have hb:b < t.place.size:=by
    have:=(Array.getElem?_eq_some_iff.mp hi).1;omega
   have g:t.place[b]?=some t.place[b]:=Array.getElem?_eq_getElem hb;have h2:=b3 b _ (Nat.le_refl _) g;have h3:=hr.le (Nat.le_add_right b i) g hi;have:t.place[b]=j:=by omega
   rw [this] at g;exact hj g
 refine List.pairwise_append.mpr ⟨List.Pairwise.sublist (List.take_sublist _ _) hr,List.pairwise_cons.mpr ⟨dr,List.Pairwise.sublist (List.drop_sublist _ _) hr⟩,λx hx y hy=>?_⟩;rcases List.mem_cons.mp hy with rfl | hy
 ·exact tk x hx
 ·exact Nat.lt_trans (tk x hx) (dr y hy)
theorem tw {t:SetTable}{j:Nat}(h:∀i,t.slot j≠.live i):mN t j:=λz=>by
 refine h (SetTable.below t.place j) ?_;unfold SetTable.slot;dsimp only;rw [if_pos (by rw [z]; exact beq_self_eq_true _)]
theorem pF {t:SetTable}{f:Nat->Int}{h:Int}:∀(fuel:Nat) (p:SetTable.Probe),(∀d,p.dummy=some d->mN t d)->∀j d,SetTable.probe.go t f h fuel p=some (.empty j d)->mN t (d.getD j)
 | 0,p,_,j,d,e=>by cases e
 | fuel+1,p,hp,j,d,e=>by
  unfold SetTable.probe.go at e;have adv:∀p':SetTable.Probe,(t.advance p').dummy=p'.dummy:=λp'=>by
   unfold SetTable.advance
   split <;> rfl
  cases es:t.slot p.j with
  | empty=>
   rw [es] at e;dsimp only at e;cases e
   cases ed:p.dummy with
   | none=>
    have hz:∀i,t.slot p.j≠.live i:=λi z=>by rw [es] at z; cases z
    exact tw hz
   | some d=>exact hp d ed
  | dummy=>
   rw [es] at e;refine pF fuel _ (λd hd=>?_) j d e;rw [adv] at hd;cases hd;exact tw λi z=>by rw [es] at z; cases z
  | live i=>
   rw [es] at e;dsimp only at e;split at e
   ·cases e
   ·exact pF fuel _ (λd hd=>hp d (by rw [adv] at hd; exact hd)) j d e
theorem xB {t:SetTable}{h:Int}{j:Nat}{b:Bool}(e:t.freeSlot h=some (j,b)):mN t j:=by
 unfold SetTable.freeSlot at e;split at e
 ·rename_i j' d e2;cases e;exact pF _ _ (λd hd=>by cases hd) _ _ e2
 ·cases e
theorem Cd (n:Nat):pD (Array.range n).toList:=by
 rw [Array.toList_range];exact List.pairwise_lt_range
noncomputable def fV (l:Bool) (t:SetTable):Prop:=t.led=l/\pD t.place.toList
theorem fV.EG {l:Bool}{t:SetTable}(h:fV l t) (n:Nat):fV l (t.standIn n):=⟨h.1,Cd n⟩
theorem fV.off {l:Bool}{t:SetTable}(h:fV l t):fV l {t with plain:=false}:=h
theorem fV.lay {l:Bool}{t:SetTable}(h:fV l t) (es:Array (Int×Value)) (z:Int) (x:Value):fV l (layNew t es z x).2.1:=by
 unfold layNew;split
 ·rename_i j b e;have g:fV l (t.put j).1:=⟨h.1,Io h.2 (xB e)⟩
  show fV l ((t.put j).1.orStandIn _);unfold SetTable.orStandIn;split
  ·exact g
  ·exact g.EG _
 ·exact h.EG _
theorem uX {α:Type}{f:Nat->Option α}:∀l:List Nat,((l.filterMap λj=>(f j).map λk=>(j,k)).map (·.1)).Sublist l
 | []=>.slnil
 | x::l=>by
  rw [List.filterMap_cons]
  cases f x with
  | none=>exact(uX l).cons _
  | some y=>exact(uX l).cons₂ _
theorem fV.XB {l:Bool}{t:SetTable}(h:fV l t) (es:Array (Int×Value)) (n:Nat):fV l (relayAll t es n).2.1:=by
 unfold relayAll
 cases e:t.relaid (es.map (·.1)) n with
 | none=>exact h.EG _
 | some r=>
  obtain⟨t',order⟩:=r;dsimp only;split
  ·unfold SetTable.relaid SetTable.laid at e
   cases e2:SetTable.layClean (SetTable.sizeAbove n - 1) (es.map (·.1))with
   | none=>rw [e2] at e; cases e
   | some owner=>
    rw [e2] at e;cases e;exact⟨h.1,List.Pairwise.sublist (by rw [List.toList_toArray]; exact uX _) List.pairwise_lt_range⟩
  ·exact h.EG _
noncomputable def intOf:Value->Int
 | .int i _=>i
 | _=>0
noncomputable def gT (prog:Program) (w:World) (h:Heap) (a:Addr) (S:List Int):Prop:=
 ∃o es ep t,h.get? a=some o/\o.ExactSet/\o.data=.set es ep t/\ElemsOf (intKind prog w) es.toList/\(es.toList.map λe=>intOf e.2).Perm S/\S.Nodup/\es.size < scanBound/\t.fits es.size=true/\fV (!w.params.followText "set-order") t
noncomputable def fW (S:List Int) (k:Int):List Int:=if k∈S then S else S++[k]
section
variable {prog:Program}{w:World}{A:Around}{E:Value->Shared->Prop}{s:Shared}
theorem gT.of_same {h h':Heap}{a:Addr}{S:List Int}(g:gT prog w h a S) (k:∀o,h.get? a=some o->h'.get? a=some o):gT prog w h' a S:=by
 obtain⟨o,es,ep,t,ho,r⟩:=g;exact⟨o,es,ep,t,k o ho,r⟩
theorem gT.stored {h:Heap}{a:Addr}{o:Obj}{es uB:Array (Int×Value)}{ep:Nat}{t t':SetTable}{S:List Int}(ho:h.get? a=some o) (hex:o.ExactSet) (hd:o.data=.set es ep t) (FT:ElemsOf (intKind prog w) uB.toList) (Ow:(uB.toList.map λe=>intOf e.2).Perm S) (hnd:S.Nodup) (hb:uB.size < scanBound) (hf:t'.fits uB.size=true) (hg:fV (!w.params.followText "set-order") t') :
  (h.update a (Obj.putSet uB t')).get? a=some {o with data:=.set uB (ep+1) t'}/\gT prog w (h.update a (Obj.putSet uB t')) a S:=by
 have e1:=putSet_of uB t' hd;have e2:(h.update a (Obj.putSet uB t')).get? a=some (Obj.putSet uB t' o):=Heap.get?_update_self _ ho (by rw [e1]; rfl);rw [e1] at e2;exact⟨e2,_,uB,ep+1,t',e2,hex,rfl,FT,Ow,hnd,hb,hf,hg⟩
theorem Ip {a:Addr}{S:List Int}{k:Int}{tk:Tok}{Q:Bool->Shared->Prop}(hS:gT prog w s.heap a S) (abS:S.length+1 < scanBound)
  (h:∀h',Heap.SameBut a s.heap h'->gT prog w h' a (fW S k)->∀b,Q b {s with heap:=h'}) :
  wpAny (model prog w) A (setAddHashed a (.int k tk) ((intKind prog w).hash k)) Q E s:=by
 obtain⟨o,es,ep,t,ho,hex,hd,FT,Ow,hnd,hb,hf,hg⟩:=id hS;have w_:(intKind prog w).is k (.int k tk)=true:=intKind_is _ _ _ _;have hsz:es.size=S.length:=by
  rw [<-Ow.length_eq,List.length_map,Array.length_toList]
 have mem:∀e∈es.toList,(intKind prog w).is k e.2=true↔intOf e.2=k:=λe he=>by
  obtain⟨⟨k',hk',_⟩,_⟩:=FT e he;obtain⟨t',et⟩:=Value.isInt_shape hk';rw [et];show Value.isInt k (.int k' t')=true↔k'=k;constructor
  ·intro z;obtain⟨u,eu⟩:=Value.isInt_shape z;injection eu
  ·intro z;subst z;exact w_
 unfold setAddHashed setAddHashedIn;refine wpAny_holding (wpAny_bind (wpAny_setState_of ho hd hf ?_));show wpAny _ _ (if byScan (.int k tk) es=true then _ else _) _ _ s;rw [byScan_of (knd:=intKind prog w) (x:=.int k tk) rfl hb FT,if_pos rfl];unfold setAddByScan;refine wpAny_bind (wpAny_bind (wpAny_rule (wpAny_bind (wpAny_setScan_of (knd:=intKind prog w) w_ ho hd hf FT ?_))))
 cases er:es.toList.findIdx? λe=>(intKind prog w).is k e.2 with
 | some j=>
  obtain⟨hj,pj,_⟩:=List.findIdx?_eq_some_iff_getElem.mp er;have hk:k∈S:=Ow.mem_iff.mp (List.mem_map.mpr ⟨_,List.getElem_mem hj,(mem _ (List.getElem_mem hj)).mp pj⟩);have e1:fW S k=S:=by unfold fW; rw [if_pos hk]
  refine wpAny_pure (wpAny_pure ?_);exact h s.heap (.refl a s.heap) (by rw [e1]; exact hS) _
 | none=>
  have hk:k∉S:=λz=>by
   obtain⟨e,he,ek⟩:=List.mem_map.mp (Ow.mem_iff.mpr z);have:=List.findIdx?_eq_none_iff.mp er e he;rw [(mem e he).mpr ek] at this;cases this
  have e1:fW S k=S++[k]:=by unfold fW; rw [if_neg hk]
  have gw:∀(b:Bool) {s₁:Shared}{R:Unit->Shared->Prop},R () s₁->wpAny (model prog w) A (match b with | true=>rule "set.scan.the-table-gave-way" | false=>pure ()) R E s₁:=λb {s₁ R} r=>by
   cases b
   ·exact wpAny_pure r
   ·exact wpAny_rule r
  have lp:=layNew_perm t es ((intKind prog w).hash k) (.int k tk);have lf:=layNew_fits t es ((intKind prog w).hash k) (.int k tk);have lg:=hg.lay es ((intKind prog w).hash k) (.int k tk);dsimp only;generalize layNew t es ((intKind prog w).hash k) (.int k tk)=r at lp lf lg ⊢;obtain⟨rM,t1,wd,gave⟩:=r;dsimp only at lp lf lg ⊢;rw [Array.toList_push] at lp;have el1:ElemsOf (intKind prog w) rM.toList:=(FT.push (k:=k) (x:=.int k tk) w_ rfl).perm lp;have pm1:(rM.toList.map λe=>intOf e.2).Perm (S++[k]):=by
   refine(lp.map _).trans ?_;rw [List.map_append];exact Ow.append_right _
  have nd1:(S++[k]).Nodup:=List.nodup_append.mpr ⟨hnd,by simp,λx hx y hy e=>by
   rw [List.mem_singleton.mp hy] at e;exact hk (e▸hx)⟩
  have sz1:rM.size=S.length+1:=by
   rw [<-Array.length_toList,lp.length_eq,List.length_append,Array.length_toList,hsz];rfl
  have b1:rM.size < scanBound:=by omega
  rw [e1] at h;refine wpAny_bind (gw _ ?_);have tail:∀t2:SetTable,t2.fits rM.size=true->fV (!w.params.followText "set-order") t2->wpAny (model prog w) A (do
    storeSet a rM t2
    if (!wd&&t2.tooFull)=true then do
      (match (relayAll t2 rM (SetTable.grown rM.size)).2.2 with | true=>rule "set.scan.the-table-gave-way" | false=>pure ())
      storeSet a (relayAll t2 rM (SetTable.grown rM.size)).1 (relayAll t2 rM (SetTable.grown rM.size)).2.1
      pure (some true)
     else pure (some true)) (λ(r:Option Bool) s'=>∃b,r=some b/\Q b s') E s:=λt2 f2 g2=>by
   refine wpAny_bind (wpAny_storeSet_of ho hd ?_ (fits_of_scanBound b1));obtain⟨g1,G1⟩:=gT.stored (prog:=prog) (w:=w) ho hex hd el1 pm1 nd1 b1 f2 g2;have sb1:=Heap.SameBut.update s.heap a (Obj.putSet rM t2);split
   ·have rp:=relayAll_perm t2 rM (SetTable.grown rM.size);have rf:=relayAll_fits t2 rM (SetTable.grown rM.size);have rg:=g2.XB rM (SetTable.grown rM.size);generalize relayAll t2 rM (SetTable.grown rM.size)=r at rp rf rg ⊢;obtain⟨es2,t3,gv⟩:=r;dsimp only at rp rf rg ⊢;have sz2:es2.size=rM.size:=by rw [<-Array.length_toList,rp.length_eq,Array.length_toList]
    refine wpAny_bind (gw _ (wpAny_bind (wpAny_storeSet_of g1 rfl ?_ (fits_of_scanBound (by rw [sz2]; exact b1)))));obtain⟨_,G2⟩:=gT.stored (prog:=prog) (w:=w) g1 hex rfl (el1.perm rp) ((rp.map _).trans pm1) nd1 (by rw [sz2]; exact b1) rf rg;exact wpAny_pure ⟨true,rfl,h _ (sb1.trans (Heap.SameBut.update _ a _)) G2 true⟩
   ·exact wpAny_pure ⟨true,rfl,h _ sb1 G1 true⟩
  have fin:∀{m:Sem (Option Bool)},wpAny (model prog w) A m (λ(r:Option Bool) s'=>∃b,r=some b/\Q b s') E s->wpAny (model prog w) A m (λr s'=>wpAny (model prog w) A (match r with | some added=>pure added | none=>setAddHashedIn a (.int k tk) ((intKind prog w).hash k) 99999) Q E s') E s:=λhm=>wpAny_mono hm (λr s' hr=>by
   obtain⟨b,rfl,q⟩:=hr;exact wpAny_pure q) λ_ _ z=>z
  split
  ·refine wpAny_bind ?_;rw [hashByValue_scannable 8 (x:=.int k tk) rfl];refine wpAny_pure (fin (tail _ ?_ ?_))
   ·split
    ·exact lf
    ·exact SetTable.fits_plain_off lf
   ·split
    ·exact lg
    ·exact lg.off
  ·exact wpAny_bind (wpAny_pure (fin (tail _ lf lg)))
end
theorem Iq (S:List Int) (k:Int):(fW S k).length<=S.length+1:=by
 unfold fW;split
 ·omega
 ·rw [List.length_append,List.length_singleton];exact Nat.le_refl _
theorem ki:∀(l S:List Int),(l.foldl fW S).length<=S.length+l.length
 | [],_=>Nat.le_refl _
 | x::l,S=>by
  have h1:=ki l (fW S x);have h2:=Iq S x;rw [List.foldl_cons,List.length_cons];omega
theorem Ir {S:List Int}{k x:Int}:x∈fW S k↔x∈S\/x=k:=by
 unfold fW;split
 ·rename_i h;exact⟨.inl,λz=>z.elim id λe=>e▸h⟩
 ·rw [List.mem_append,List.mem_singleton]
theorem kj {x:Int}:∀(l S:List Int),x∈l.foldl fW S↔x∈S\/x∈l
 | [],S=>⟨.inl,λz=>z.elim id λh=>nomatch h⟩
 | y::l,S=>by
  rw [List.foldl_cons,kj l,Ir,List.mem_cons];exact⟨λz=>z.elim (λz=>z.elim .inl λz=>.inr (.inl z)) λz=>.inr (.inr z),λz=>z.elim (λz=>.inl (.inl z)) λz=>z.elim (λz=>.inl (.inr z)) .inr⟩
section
variable {prog:Program}{w:World}{A:Around}{R:Result->Shared->Prop}{I:Addr}{fp wr:List Addr}{G:Array GenState->Array GenState->Prop}{n:Nat}{P:Nat->Value->Prop}{St:Nat->Shared->Prop}
theorem FU (W:WalksS prog w A.in1 I fp wr G n P St) (Z:Addr) (hZ:Z∉fp) (ns:List Int) (hn:ns.length=n) (hv:∀i v,P i v->∃t,v=.int (ns.getD i 0) t) (hb:n+1 < scanBound) (s₀:Shared) (hR:∀s',Moved (Z::wr) G s₀ s'->gT prog w s'.heap Z (ns.foldl fW [])->R (.ok (.ret .none)) s') :
  ∀(k i:Nat) (s:Shared),n - i=k->i<=n->St i s->Moved (Z::wr) G s₀ s->gT prog w s.heap Z ((ns.take i).foldl fW [])->codeAny (model prog w) A (.builtin "set.update.loop" ⟨[.ref Z,.ref I],[]⟩) R s:=by
 have zw:Z∉wr:=λh=>hZ (W.sub _ h)
 have wz:∀b∈wr,b∈Z::wr:=λb h=>List.mem_cons_of_mem _ h
 intro k;induction k with
 | zero=>
  intro i s h1 h2 st mv g;obtain rfl:i=n:=by omega
  refine codeAny_builtin F.entry_set_update_loop ?_;rw [Around.under_plainId F.plain_set_update_loop _];show wpAny _ A.in1 (pyNext (.ref I) >>= _) _ _ s;refine wpAny_bind (W.done s _ _ st λs' m=>wpAny_pure (hR s' (Moved.trans W.gtrans mv (m.mono wz)) ?_));rw [<-hn,List.take_length] at g;exact g.of_same λo e=>m.heap Z o zw e
 | succ k ih=>
  intro i s h1 h2 st mv g;have lt:i < n:=by omega
  refine codeAny_builtin F.entry_set_update_loop ?_;rw [Around.under_plainId F.plain_set_update_loop _];show wpAny _ A.in1 (pyNext (.ref I) >>= _) _ _ s;refine wpAny_bind (W.item i s _ _ lt st λv s' pv Fu m=>?_);obtain⟨t,rfl⟩:=hv i v pv;have g':gT prog w s'.heap Z ((ns.take i).foldl fW []):=g.of_same λo e=>m.heap Z o zw e
  have ex:ns[i]?=some (ns.getD i 0):=by
   rw [List.getD_eq_getElem?_getD,List.getElem?_eq_getElem (by omega)];rfl
  have et:(ns.take (i+1)).foldl fW []=fW ((ns.take i).foldl fW []) (ns.getD i 0):=by
   rw [List.take_add_one,ex,List.foldl_append];rfl
  have room:((ns.take i).foldl fW []).length+1 < scanBound:=by
   have:=ki (ns.take i) [];rw [List.length_take,List.length_nil] at this;omega
  show wpAny _ A.in1 (holding [Value.int (ns.getD i 0) t] (setAdd Z (.int (ns.getD i 0) t)) >>= _) _ _ s';refine wpAny_bind (wpAny_holding ?_);unfold setAdd;refine wpAny_holding (wpAny_bind ((intKind prog w).pyHash (k:=ns.getD i 0) (intKind_is _ _ _ _) ?_));refine Ip (s:={s' with toks:=s'.toks+1}) g' room λh' sb g2 b=>?_
  rw [<-et] at g2;have m2:Moved (Z::wr) G s {s' with heap:=h',toks:=s'.toks+1}:=(m.mono wz).then_heap (Nat.le_succ _) λb o hb e=>by
   rw [sb.2 b λz=>hb (by rw [z]; exact List.mem_cons_self)];exact e
  refine wpAny_pure ⟨plainId_quiet F.plain_set_update_loop _,ih (i+1) _ (by omega) lt (W.frame _ s' _ _ Fu (Nat.le_succ _) λb hb o e=>?_) (Moved.trans W.gtrans mv m2) g2⟩;rw [sb.2 b λz=>hZ (by rw [<-z]; exact hb)];exact e
end
section
variable {prog:Program}{w:World}{A:Around}{E:Value->Shared->Prop}{s:Shared}
noncomputable def dX (w:World):Obj:={cls:=.type "set",dict:=none,data:=.set #[] 0 (.fresh 0 0 (!w.params.followText "set-order"))}
theorem S4 {h:Heap}{a:Addr}(e:h.get? a=some (dX w)):gT prog w h a []:=
 ⟨_,#[],0,_,e,⟨rfl,rfl,rfl⟩,rfl,(λe he=>by simp at he),.refl _,List.nodup_nil,by decide,by rfl,rfl,List.Pairwise.nil⟩
theorem Iu (x:Value) {Q:Value->Shared->Prop}(h:Q (.ref s.heap.objs.size) {s with heap:=s.heap.push (dX w)}) :
  codeAny (model prog w) A (.call (.builtin "set.__new__") ⟨[.type "set",x],[]⟩) (wants Q E) s:=by
 refine codeAny_of_tree ?_;show wpAny _ A.in1 (do checkBuiltinCall "set.__new__" ⟨[.type "set",x],[]⟩; again (.builtin "set.__new__" ⟨[.type "set",x],[]⟩)) _ _ s;refine wpAny_bind (wpAny_of_eq (F.newCall_set_1 x) (wpAny_pure ⟨plainId_quiet F.plain_set_new _,codeAny_builtin F.entry_set_new ?_⟩));rw [Around.under_plainId F.plain_set_new _];unfold Builtin.«set.__new__» Builtin.Frozenset.newClass;have hs:=sub_set_self;obtain⟨hp,g,d,tk,os⟩:=s;dsimp only
 wp_walk
 refine wpAny_askSetting (wpAny_pure ?_);simp only [newObj];exact wpAny_bind (wpAny_alloc (wpAny_pure (wpAny_pure h)))
theorem FV {l:Addr}{items:Array Value}{ns:List Int}{Q:Value->Shared->Prop}(hh:A.handled=none) (hl:s.heap.IsList l items) (hi:IntsAre items.toList ns) (hb:items.size+1 < scanBound)
  (h:∀(h':Heap) (tk:Nat),gT prog w h' s.heap.objs.size (ns.foldl fW [])->(∀b o,s.heap.get? b=some o->h'.get? b=some o)->Q (.ref s.heap.objs.size) {s with heap:=h',toks:=tk}) :
  wpAny (model prog w) A (call (.type "set") [.ref l]) Q E s:=by
 obtain⟨c,tl,mro⟩:=F.called_set.mro;have c1:=F.called_set.made;have c2:=F.called_set.sub;have c3:=F.called_set.notType;have c4:=F.called_set.canCreate;have c5:=F.typeCall_set_1 (.ref l);refine wpAny_call (codeAny_of_tree ?_);show wpAny _ _ (callAny (.type "set") _) _ _ _;refine wpAny_pure ⟨Code.quiet_builtin _ (by decide +kernel),codeAny_builtin F.entry_type_call ?_⟩;rw [Around.under_plain (weight_type_call_type "set" [.ref l] []) rfl]
 repeat (any_goals (first | assumption | wp_step))
 refine codeAny_mono (Iu (.ref l) (E:=E) (Q:=λobj s₁=>obj=.ref s.heap.objs.size/\s₁={s with heap:=s.heap.push (dX w)}) ⟨rfl,rfl⟩) λr s₁ hr=>?_
 match r,hr with
 | .ok (.ret obj),hr=>?_
 | .error e,hr=>exact hr
 obtain⟨rfl,rfl⟩:=hr;have gZ:(s.heap.push (dX w)).get? s.heap.objs.size=some (dX w):=Heap.get?_push_size _ rfl;have tZ:Shared.TypeIs {s with heap:=s.heap.push (dX w)} (.ref s.heap.objs.size) "set":=⟨_,gZ,rfl⟩
 have i1:=F.called_set.init.lookup;have i2:=F.called_set.init.bind (.ref s.heap.objs.size)
 repeat (any_goals (first | assumption | wp_step))
 refine codeAny_mono (codeAny_call_builtin (R:=wants (λr s₂=>r=.none/\∃h' tk,s₂={s with heap:=h',toks:=tk}/\gT prog w h' s.heap.objs.size (ns.foldl fW [])/\∀b o,s.heap.get? b=some o->h'.get? b=some o) E) F.called_set.init.plain F.entry_set_init (check_set_init_1 tZ ?_)) λr₂ s₂ xC=>?_
 ·obtain⟨ol,hol,M3,nl,XC⟩:=hl;obtain⟨oc,od,oda,os⟩:=ol;dsimp only at M3 XC;subst M3 XC;have BE:(s.heap.push (dX w)).IsList l items:=⟨_,Heap.get?_push_of_some _ hol,rfl,nl,rfl⟩
  have x1:=F.sub_list_set;have x2:=F.sub_list_frozenset;have x3:(Value.type "list" == Value.type "dict")=false:=by decide
  have adj:(s.heap.push (dX w)).get? l=some {cls:=.type "list",dict:=od,data:=.seq items nl,slots:=os}:=Heap.get?_push_of_some _ hol;unfold Builtin.«set.__init__» noKeywords Builtin.Frozenset.updateFrom;generalize hPI:pyIter=PI
  wp_walk
  subst hPI;refine wpAny_pyIter_list BE (wpAny_bind (wpAny_runValue ?_));have lS:l < s.heap.objs.size:=Heap.lt_size hol;have nI:l≠(s.heap.push (dX w)).objs.size:=by
   rw [Heap.size_push];exact Nat.ne_of_lt (Nat.lt_succ_of_lt lS)
  have nZ:s.heap.objs.size∉[(s.heap.push (dX w)).objs.size,l]:=λz=>by
   rw [Heap.size_push] at z;rcases List.mem_cons.mp z with z | z
   ·exact Nat.ne_of_lt (Nat.lt_succ_self _) z
   ·exact Nat.ne_of_gt lS (List.mem_singleton.mp z)
  refine FU ((Walks.list (A:=A.in1.in1.in1) (by simpa using hh) _ l nI items).toS) s.heap.objs.size nZ ns (by rw [<-IntsAre.length hi,Array.length_toList]) (λi v e=>IntsAre.int_at hi i v (by rw [Array.getElem?_toList]; exact e)) hb _ (λs' mv g=>?_) (items.size - 0) 0 _ (by omega) (Nat.zero_le _) ⟨⟨_,Heap.get?_push_size _ rfl,rfl,rfl⟩,BE.push _⟩ (Moved.refl λ_=>rfl) (S4 (Heap.get?_push_of_some _ gZ));have mh:=mv.heap;rw [Moved.eq_with mv];refine wpAny_pure (wpAny_pure ⟨rfl,s'.heap,s'.toks,rfl,g,λb o e=>?_⟩);have hb:=Heap.lt_size e;refine mh b o (λz=>?_) (Heap.get?_push_of_some _ (Heap.get?_push_of_some _ e));rcases List.mem_cons.mp z with z | z
  ·exact Nat.ne_of_lt hb z
  ·rw [Heap.size_push] at z;exact Nat.ne_of_lt (Nat.lt_succ_of_lt hb) (List.mem_singleton.mp z)
 ·match r₂,xC with
  | .ok (.ret r),xC=>?_
  | .error e,xC=>exact xC
  obtain⟨rfl,h',tk,rfl,g,kp⟩:=xC
  repeat (any_goals (first | assumption | wp_step))
  exact h _ _ g kp
end
theorem iK:Slot "set_iterator" "__next__" "set_iterator.__next__":=
 .of (owner:="set_iterator") (n:="__next__") (by rw [typeLookup_type,builtinLookup_eq_fast]; kernel_rfl) (by decide +kernel) (by decide +kernel) (by decide +kernel) (by first | exact .inl (by decide +kernel) | exact .inr (by decide +kernel)) (by rw [isSubtype_type]; kernel_rfl)
theorem xD:entryFor table "set_iterator.__next__"=some Builtin.«set_iterator.__next__»:=entryFor_of_tree (by kernel_rfl)
theorem Iv:Manifest.owners.lookup (String.ofList "rotareti_tes".toList.reverse)=some Manifest.sig_set_iterator:=by kernel_rfl
theorem xE (x:Value):argsOk "set_iterator.__next__" ⟨[x],[]⟩:=by
 unfold argsOk;rw [signature?_of (id:="set_iterator.__next__") (n:=['_','_','t','x','e','n','_','_']) (o:="rotareti_tes".toList) (by kernel_rfl) Iv]
 kernel_rfl
theorem EH:Slot "set_iterator" "__iter__" "set_iterator.__iter__":=
 .of (owner:="set_iterator") (n:="__iter__") (by rw [typeLookup_type,builtinLookup_eq_fast]; kernel_rfl) (by decide +kernel) (by decide +kernel) (by decide +kernel) (by first | exact .inl (by decide +kernel) | exact .inr (by decide +kernel)) (by rw [isSubtype_type]; kernel_rfl)
theorem Iw:entryFor table "set_iterator.__iter__"=some Builtin.«dict_keyiterator.__iter__»:=entryFor_alias (id':="dict_keyiterator.__iter__") (by kernel_rfl) rfl (by decide +kernel) (by kernel_rfl)
theorem Iy (x:Value):argsOk "set_iterator.__iter__" ⟨[x],[]⟩:=by
 unfold argsOk;rw [signature?_of (id:="set_iterator.__iter__") (n:=['_','_','r','e','t','i','_','_']) (o:="rotareti_tes".toList) (by kernel_rfl) Iv]
 kernel_rfl
theorem Iz:entryFor table "set.__iter__"=some Builtin.«frozenset.__iter__»:=entryFor_alias (id':="frozenset.__iter__") (by kernel_rfl) rfl (by decide +kernel) (by kernel_rfl)
theorem ky {α:Type}:∀{l:List α}{i:Nat}(h:i < l.length),(l[i]::l.eraseIdx i).Perm l
 | x::l,0,h=>.refl _
 | x::l,i+1,h=>by
  have h2:i < l.length:=by simpa using h
  show(l[i]::x::l.eraseIdx i).Perm (x::l);exact(List.Perm.swap x l[i] _).trans ((ky h2).cons x)
theorem EI {α:Type}{next:Nat->Nat}:∀(fuel k:Nat) (left:List α) (out:Array α),left.length<=fuel->(pickOrder.go next fuel k left out).toList.Perm (out.toList++left)
 | 0,k,left,out,h=>by
  have:left=[]:=List.length_eq_zero_iff.mp (by omega);subst this;rw [List.append_nil];exact .refl _
 | fuel+1,k,left,out,h=>by
  unfold pickOrder.go
  cases e:left[next k % left.length]? with
  | none=>
   have hl:left=[]:=by
    cases left with
    | nil=>rfl
    | cons x l=>
     have:next k % (x::l).length < (x::l).length:=Nat.mod_lt _ (by rw [List.length_cons]; omega);rw [List.getElem?_eq_getElem this] at e;cases e
   subst hl;dsimp only;rw [List.append_nil]
  | some x=>
   obtain⟨hi,ex⟩:=List.getElem?_eq_some_iff.mp e;dsimp only;refine(EI fuel (k+1) _ _ ?_).trans ?_
   ·rw [List.length_eraseIdx_of_lt hi];omega
   ·rw [Array.toList_push,List.append_assoc];refine List.Perm.append_left _ ?_;have:=ky hi;rw [ex] at this;exact this
theorem FW {α:Type}(next:Nat->Nat) (xs:Array α):(pickOrder next xs).toList.Perm xs.toList:=by
 have:=EI (next:=next) xs.size 0 xs.toList #[] (by rw [Array.length_toList]; exact Nat.le_refl _);exact this
section
variable {prog:Program}{w:World}{A:Around}{E:Value->Shared->Prop}{s:Shared}
theorem Ce {M:Model}{src:Source}{n:Nat}{Q:Nat->Shared->Prop}(hn:n≠0) (h:∀k,k < n->Q k {s with drawn:=s.drawn.bump src}):wpAny M A (choose src n) Q E s:=λ_ _ _=>⟨hn,h _ (Nat.mod_lt _ (Nat.pos_of_ne_zero hn))⟩
theorem tD {M:Model}{α:Type}:∀(n:Nat) (xs:List α) (s:Shared) (Q:List α->Shared->Prop),xs.length=n->(∀ys d',ys.Perm xs->Q ys {s with drawn:=d'})->wpAny M A (drawOrder n xs) Q E s
 | 0,xs,s,Q,hl,h=>by
  have:xs=[]:=List.length_eq_zero_iff.mp hl;subst this;unfold drawOrder;exact wpAny_pure (h [] s.drawn (.refl _))
 | n+1,[],s,Q,hl,h=>by cases hl
 | n+1,x::xs,s,Q,hl,h=>by
  unfold drawOrder;refine wpAny_bind (Ce (by rw [List.length_cons]; omega) λk hk=>?_);rw [List.getElem?_eq_getElem hk];dsimp only;refine wpAny_bind (tD n _ _ _ (by rw [List.length_eraseIdx_of_lt hk]; omega) λys d' hp=>wpAny_pure (h _ d' ?_));exact(hp.cons _).trans (ky hk)
noncomputable def BF (first:Value) (i:Nat) (a:Addr) (n ep:Nat):Obj:={cls:=.type "set_iterator",data:=.fields #[first,.int i 0,.ref a,.int n 0,.int ep 0]}
structure BG (h:Heap) (a:Addr) (o:Obj) (es:Array (Int×Value)) (ep:Nat) (t:SetTable):Prop where
 at_:h.get? a=some o
 ex:o.ExactSet
 dt:o.data=.set es ep t
 fit:t.fits es.size=true
theorem BG.ty {a:Addr}{o:Obj}{es:Array (Int×Value)}{ep:Nat}{t:SetTable}(h:BG s.heap a o es ep t):s.TypeIs (.ref a) "set":=⟨o,h.at_,h.ex.1⟩
theorem Nk {a:Addr}{o:Obj}{es:Array (Int×Value)}{ep:Nat}{t:SetTable}{slot i:Nat}{Q:Option (Value×Nat)->Shared->Prop}(h:BG s.heap a o es ep t) (hw:w.params.followText "set-order"=true) (q:Q (((pickOrder (w.params.setOrder a ep) es)[i]?).map λe=>(e.2,slot)) s) :
  wpAny (model prog w) A (setNext a slot i ep) Q E s:=by
 unfold setNext setsByText;refine wpAny_bind (wpAny_setState_of h.at_ h.dt h.fit (wpAny_bind (wpAny_bind (wpAny_askSetting (wpAny_pure ?_)))));show wpAny _ _ (if w.params.followText "set-order"=true then _ else _) _ _ s;rw [if_pos hw];show wpAny _ _ (if (ep != ep)=true then _ else _) _ _ s;rw [if_neg (by simp)];unfold setWalk setsByText;refine wpAny_bind (wpAny_bind (wpAny_setState_of h.at_ h.dt h.fit (wpAny_bind (wpAny_bind (wpAny_askSetting (wpAny_pure ?_))))));show wpAny _ _ (if w.params.followText "set-order"=true then _ else _) _ _ s;rw [if_pos hw];exact wpAny_bind (wpAny_askSetting (wpAny_pure (wpAny_pure q)))
theorem IA {a:Addr}{o:Obj}{es:Array (Int×Value)}{ep:Nat}{t:SetTable}{slot i:Nat}{Q:Option (Value×Nat)->Shared->Prop}(h:BG s.heap a o es ep t) (hw:w.params.followText "set-order"=false) (hp:(!t.plain&&decide (es.size > 1))=false) (hl:t.led=true) (q:Q (match es[SetTable.below t.place slot]?,t.place[SetTable.below t.place slot]? with | some (_,x),some j=>some (x,j+1) | _,_=>none) s) :
  wpAny (model prog w) A (setNext a slot i ep) Q E s:=by
 unfold setNext setsByText;refine wpAny_bind (wpAny_setState_of h.at_ h.dt h.fit (wpAny_bind (wpAny_bind (wpAny_askSetting (wpAny_pure ?_)))));show wpAny _ _ (if w.params.followText "set-order"=true then _ else _) _ _ s;rw [if_neg (by rw [hw]; exact Bool.false_ne_true)];show wpAny _ _ (if (!t.plain&&decide (es.size > 1))=true then _ else _) _ _ s;rw [if_neg (by rw [hp]; exact Bool.false_ne_true)];refine wpAny_bind ?_;show wpAny _ _ (if (!t.led&&!es.isEmpty)=true then _ else _) _ _ s;rw [if_neg (by rw [hl]; simp)];exact wpAny_pure (wpAny_pure q)
theorem IB {a:Addr}{o:Obj}{es:Array (Int×Value)}{ep:Nat}{t:SetTable}{j:Nat}{e:Int×Value}{Q:Value->Shared->Prop}(h:BG s.heap a o es ep t) (he:es[j]?=some e) (q:Q e.2 s) :
  wpAny (model prog w) A (setNextDrawn a j ep) Q E s:=by
 unfold setNextDrawn;refine wpAny_bind (wpAny_setState_of h.at_ h.dt h.fit ?_);show wpAny _ _ (if (ep != ep)=true then _ else _) _ _ s;rw [if_neg (by simp)];dsimp only;rw [he];exact wpAny_pure q
theorem IC {it a:Addr}{o:Obj}{es:Array (Int×Value)}{ep i slot:Nat}{t:SetTable}{r:Option (Value×Nat)}{Q:Option Value->Shared->Prop}(hh:A.handled=none) (hi:s.heap.get? it=some (BF (.int slot 0) i a es.size ep)) (h:BG s.heap a o es ep t)
  (hn:∀(A:Around) (E:Value->Shared->Prop) (Q':Option (Value×Nat)->Shared->Prop),Q' r s->wpAny (model prog w) A (setNext a slot i ep) Q' E s)
  (q1:∀x j h',r=some (x,j)->h'.get? it=some (BF (.int j 0) (i+1) a es.size ep)->Heap.SameBut it s.heap h'->Q (some x) {s with heap:=h'})
  (q2:r=none->∀h',Heap.ExtBut it s.heap h'->Q none {s with heap:=h'}):wpAny (model prog w) A (pyNext (.ref it)) Q E s:=by
 have ty:s.TypeIs (.ref it) "set_iterator":=⟨_,hi,rfl⟩
 unfold pyNext;refine wpAny_bind (wpAny_attempt (wpAny_callSpecial?_slot (name:=Str.ofString "__next__") ty iK (wpAny_call_entry iK ty xD ?_ (xE _))));unfold Builtin.«set_iterator.__next__»;show wpAny _ _ (fieldsOf (.ref it) >>= _) _ _ s;refine wpAny_bind (wpAny_fieldsOf hi rfl ?_);show wpAny _ _ (setEntries a >>= _) _ _ s;refine wpAny_bind (wpAny_setEntries_of h.at_ h.dt h.fit ?_);rw [if_neg (by simp)];show wpAny _ _ (setNext a (slot:Int).toNat (i:Int).toNat (ep:Int).toNat >>= _) _ _ s;rw [Int.toNat_natCast,Int.toNat_natCast,Int.toNat_natCast];refine wpAny_bind (hn _ _ _ ?_)
 cases r with
 | some p=>
  obtain⟨x,j⟩:=p;show wpAny _ _ (setField (.ref it) 0 (rawInt j) >>= _) _ _ s;refine wpAny_bind (wpAny_setField_rec hi (by decide:0 < 5) λh1 e1 b1=>?_);refine wpAny_bind (wpAny_setField_rec (s:={s with heap:=h1}) e1 (by decide:1 < 5) λh2 e2 b2=>?_);refine wpAny_pure ⟨_,rfl,wpAny_pure (q1 x j h2 rfl ?_ (b1.trans b2))⟩;exact e2
 | none=>
  show wpAny _ _ (setField (.ref it) 2 .none >>= _) _ _ s;refine wpAny_bind (wpAny_setField_rec hi (by decide:2 < 5) λh1 e1 b1=>?_);refine wpAny_bind ?_;simp only [newExc,newTuple];refine wpAny_bind (wpAny_newObj_type ?_ (by size_fits));refine wpAny_bind (m:=firstArgMember _ _) (wpAny_of_eq (a:=Value.none) (by first | rfl | (simp only [firstArgMember]; rfl)) ?_);refine wpAny_newObj_type ?_ (by size_fits);simp only [raiseNew];refine wpAny_bind (wpAny_handled ?_);rw [show A.in1.handled=none from hh];refine wpAny_bind (wpAny_pure (wpAny_throw ?_));refine wpAny_bind (wpAny_isInstance (T:="StopIteration") (b:=true) ⟨_,Heap.get?_push_size _ rfl,rfl⟩ isSubtype_stop ?_);exact wpAny_pure (q2 rfl _ ((b1.extBut.push _).push _))
end
section
variable {prog:Program}{w:World}{A:Around}{E:Value->Shared->Prop}{s:Shared}
noncomputable def iL (ord:List Nat):Array Value:=(ord.map λ(i:Nat)=>rawInt i).toArray
theorem xF {it a tu:Addr}{o ot:Obj}{es:Array (Int×Value)}{ep i m:Nat}{t:SetTable}{ord:List Nat}{Q:Option Value->Shared->Prop}(hh:A.handled=none) (hi:s.heap.get? it=some (BF (.ref tu) i a es.size ep)) (h:BG s.heap a o es ep t)
  (ht:s.heap.get? tu=some ot) (wM:ot.data=.seq (iL ord) m) (ho:∀j∈ord,j < es.size)
  (q1:∀j x h',ord[i]?=some j->es[j]?=some x->h'.get? it=some (BF (.ref tu) (i+1) a es.size ep)->Heap.SameBut it s.heap h'->Q (some x.2) {s with heap:=h'})
  (q2:ord[i]?=none->∀h',Heap.ExtBut it s.heap h'->Q none {s with heap:=h'}):wpAny (model prog w) A (pyNext (.ref it)) Q E s:=by
 have ty:s.TypeIs (.ref it) "set_iterator":=⟨_,hi,rfl⟩
 unfold pyNext;refine wpAny_bind (wpAny_attempt (wpAny_callSpecial?_slot (name:=Str.ofString "__next__") ty iK (wpAny_call_entry iK ty xD ?_ (xE _))));unfold Builtin.«set_iterator.__next__»;show wpAny _ _ (fieldsOf (.ref it) >>= _) _ _ s;refine wpAny_bind (wpAny_fieldsOf hi rfl ?_);show wpAny _ _ (setEntries a >>= _) _ _ s;refine wpAny_bind (wpAny_setEntries_of h.at_ h.dt h.fit ?_);rw [if_neg (by simp)];show wpAny _ _ (seqItems? (.ref tu) >>= _) _ _ s;unfold seqItems?;refine wpAny_bind (wpAny_bind (wpAny_load ht ?_));rw [wM];refine wpAny_pure ?_;dsimp only;rw [Int.toNat_natCast];have ea:(iL ord)[i]?=(ord[i]?).map λ(j:Nat)=>rawInt j:=by
  unfold iL;rw [List.getElem?_toArray,List.getElem?_map]
 rw [ea]
 cases eo:ord[i]? with
 | some j=>
  have hj:=ho j (List.mem_of_getElem? eo);show wpAny _ _ (setNextDrawn a (j:Int).toNat (ep:Int).toNat >>= _) _ _ s;rw [Int.toNat_natCast,Int.toNat_natCast];have ex:es[j]?=some es[j]:=Array.getElem?_eq_getElem hj;refine wpAny_bind (IB h ex ?_);refine wpAny_bind (wpAny_setField_rec hi (by decide:1 < 5) λh1 e1 b1=>?_);exact wpAny_pure ⟨_,rfl,wpAny_pure (q1 j _ h1 eo ex e1 b1)⟩
 | none=>
  show wpAny _ _ (setField (.ref it) 0 (rawInt 0) >>= _) _ _ s;refine wpAny_bind (wpAny_setField_rec hi (by decide:0 < 5) λh0 e0 b0=>?_);refine wpAny_bind (wpAny_setField_rec (s:={s with heap:=h0}) e0 (by decide:2 < 5) λh1 e1 b1=>?_);refine wpAny_bind ?_;simp only [newExc,newTuple];refine wpAny_bind (wpAny_newObj_type ?_ (by size_fits));refine wpAny_bind (m:=firstArgMember _ _) (wpAny_of_eq (a:=Value.none) (by first | rfl | (simp only [firstArgMember]; rfl)) ?_);refine wpAny_newObj_type ?_ (by size_fits);simp only [raiseNew];refine wpAny_bind (wpAny_handled ?_);rw [show A.in1.handled=none from hh];refine wpAny_bind (wpAny_pure (wpAny_throw ?_));refine wpAny_bind (wpAny_isInstance (T:="StopIteration") (b:=true) ⟨_,Heap.get?_push_size _ rfl,rfl⟩ isSubtype_stop ?_);exact wpAny_pure (q2 eo _ (((b0.trans b1).extBut.push _).push _))
theorem EJ {it:Addr}{f:Value}{i n ep:Nat}{a:Addr}{Q:Value->Shared->Prop}(hi:s.heap.get? it=some (BF f i a n ep)) (q:Q (.ref it) s):wpAny (model prog w) A (pyIter (.ref it)) Q E s:=by
 have ty:s.TypeIs (.ref it) "set_iterator":=⟨_,hi,rfl⟩
 refine wpAny_pyIter_slot ty EH (wpAny_call_entry EH ty Iw ?_ (Iy _));show wpAny _ _ (ret (.ref it)) _ _ s;exact wpAny_pure ⟨_,rfl,"set_iterator",_,ty,iK.lookup,q⟩
theorem EK {it:Addr}{h':Heap}(b:Heap.SameBut it s.heap h'):Moved [it] Eq s {s with heap:=h'}:=⟨λc o hc e=>b.extBut c o (λz=>hc (by rw [z]; exact List.mem_singleton.mpr rfl)) e,rfl,rfl,rfl,Nat.le_refl _⟩
theorem ID {it:Addr}{h':Heap}(b:Heap.ExtBut it s.heap h'):Moved [it] Eq s {s with heap:=h'}:=⟨λc o hc e=>b c o (λz=>hc (by rw [z]; exact List.mem_singleton.mpr rfl)) e,rfl,rfl,rfl,Nat.le_refl _⟩
theorem BG.of {h h':Heap}{a:Addr}{o:Obj}{es:Array (Int×Value)}{ep:Nat}{t:SetTable}(x:BG h a o es ep t) (k:∀o,h.get? a=some o->h'.get? a=some o):BG h' a o es ep t:=⟨k _ x.at_,x.ex,x.dt,x.fit⟩
theorem IE (hh:A.handled=none) {it a:Addr}{o:Obj}{es:Array (Int×Value)}{ep:Nat}{t:SetTable}(ne:a≠it) (sl:Nat->Nat) (ord:List Value) (hl:ord.length=es.size)
  (hN:∀i,i<=es.size->∀(s:Shared) (A:Around) (E:Value->Shared->Prop) (Q':Option (Value×Nat)->Shared->Prop),BG s.heap a o es ep t->Q' ((ord[i]?).map λx=>(x,sl (i+1))) s->wpAny (model prog w) A (setNext a (sl i) i ep) Q' E s) :
  WalksS prog w A it [it,a] [it] Eq es.size (λi v=>ord[i]?=some v) (λi s=>s.heap.get? it=some (BF (.int (sl i) 0) i a es.size ep)/\BG s.heap a o es ep t) where
 sub:=λb hb=>by rw [List.mem_singleton.mp hb]; exact List.mem_cons_self
 grefl:=λ_=>rfl
 gtrans:=λ_ _ _ x y=>x.trans y
 frame:=λi s h' tk st _ k=>⟨k it List.mem_cons_self _ st.1,st.2.of (k a (List.mem_cons_of_mem _ (List.mem_singleton.mpr rfl)))⟩
 item:=λi s Q E hi st q=>by
  refine IC hh st.1 st.2 (hN i (Nat.le_of_lt hi) s · · · st.2) (λx j h' e e1 b=>?_) λe=>?_
  ·cases eo:ord[i]? with
   | none=>rw [eo] at e; cases e
   | some y=>
    rw [eo] at e;cases e;exact q _ _ eo ⟨e1,st.2.of λo e=>b.extBut a o ne e⟩ (EK b)
  ·rw [List.getElem?_eq_getElem (by omega)] at e;cases e
 done:=λs Q E st q=>by
  refine IC hh st.1 st.2 (hN es.size (Nat.le_refl _) s · · · st.2) (λx j h' e e1 b=>?_) λ_ h' b=>q _ (ID b)
  rw [List.getElem?_eq_none (by omega)] at e;cases e
 self:=λi s Q E st q=>EJ st.1 q
theorem Cf (hh:A.handled=none) {it a tu:Addr}{o ot:Obj}{es:Array (Int×Value)}{ep m:Nat}{t:SetTable}(ne:a≠it) (nt:tu≠it) (ord:List Nat) (hl:ord.length=es.size) (wM:ot.data=.seq (iL ord) m) (ho:∀j∈ord,j < es.size) :
  WalksS prog w A it [it,a,tu] [it] Eq es.size (λi v=>∃j x,ord[i]?=some j/\es[j]?=some x/\v=x.2) (λi s=>s.heap.get? it=some (BF (.ref tu) i a es.size ep)/\BG s.heap a o es ep t/\s.heap.get? tu=some ot) where
 sub:=λb hb=>by rw [List.mem_singleton.mp hb]; exact List.mem_cons_self
 grefl:=λ_=>rfl
 gtrans:=λ_ _ _ x y=>x.trans y
 frame:=λi s h' tk st _ k=>⟨k it List.mem_cons_self _ st.1,st.2.1.of (k a (List.mem_cons_of_mem _ List.mem_cons_self)),k tu (List.mem_cons_of_mem _ (List.mem_cons_of_mem _ (List.mem_singleton.mpr rfl))) _ st.2.2⟩
 item:=λi s Q E hi st q=>by
  refine xF hh st.1 st.2.1 st.2.2 wM ho (λj x h' e1 e2 e3 b=>q _ _ ⟨j,x,e1,e2,rfl⟩ ⟨e3,st.2.1.of λo e=>b.extBut a o ne e,b.extBut tu _ nt st.2.2⟩ (EK b)) λe=>?_
  rw [List.getElem?_eq_getElem (by omega)] at e;cases e
 done:=λs Q E st q=>by
  refine xF hh st.1 st.2.1 st.2.2 wM ho (λj x h' e=>?_) λ_ h' b=>q _ (ID b)
  rw [List.getElem?_eq_none (by omega)] at e;cases e
 self:=λi s Q E st q=>EJ st.1 q
theorem IF {a:Addr}{Q:Bool->Shared->Prop}(ty:s.TypeIs (.ref a) "set") (q:Q false s):wpAny (model prog w) A (Builtin.List.listLengthHint (.ref a)) Q E s:=by
 unfold Builtin.List.listLengthHint;refine wpAny_bind (wpAny_specialOf ty PySem.F.slot_set_len.lookup ?_);generalize tm:("set.__len__":String)=id0
 wp_delta
 rw [show splitId id0=some ("set","__len__") from by subst tm; decide +kernel];subst tm;refine wpAny_bind (wpAny_isInstance (T:="set") (b:=true) ty (by rw [isSubtype_type]; kernel_rfl) ?_);refine wpAny_ite_split (λz=>absurd z (by decide)) (λ_=>?_);refine wpAny_ite_split (λ_=>?_) (λz=>absurd (by decide +kernel) z);exact wpAny_bind (wpAny_typeOf ty (wpAny_pure q))
theorem Cg {a:Addr}{o:Obj}{es:Array (Int×Value)}{ep:Nat}{t:SetTable}{Q:Value->Shared->Prop}(h:BG s.heap a o es ep t) (hz:es.size<=sizeLine)
  (q1:(!w.params.followText "set-order"&&(!t.plain&&decide (es.size > 1)))=false->Q (.ref s.heap.objs.size) {s with heap:=s.heap.push (BF (.int 0 0) 0 a es.size ep)})
  (q2:∀(ord:List Nat) d',ord.Perm (List.range es.size)->Q (.ref (s.heap.objs.size+1)) {s with heap:=(s.heap.push (seqObj "tuple" (iL ord) 0)).push (BF (.ref s.heap.objs.size) 0 a es.size ep),drawn:=d'}) :
  wpAny (model prog w) A (pyIter (.ref a)) Q E s:=by
 refine wpAny_pyIter_slot h.ty PySem.F.slot_set_iter (wpAny_call_entry PySem.F.slot_set_iter h.ty Iz ?_ (PySem.F.args_set_iter_1 _));unfold Builtin.«frozenset.__iter__»;show wpAny _ _ (Builtin.Frozenset.sizeOf a >>= _) _ _ s;unfold Builtin.Frozenset.sizeOf setDrawn setsByText;refine wpAny_bind (wpAny_bind (wpAny_setEntries_of h.at_ h.dt h.fit (wpAny_pure ?_)));refine wpAny_bind (wpAny_bind (wpAny_setState_of h.at_ h.dt h.fit (wpAny_bind (wpAny_bind (wpAny_askSetting (wpAny_pure ?_))))));show wpAny _ _ (pure (!w.params.followText "set-order"&&(!t.plain&&decide (es.size > 1)))) _ _ s;refine wpAny_pure ?_
 cases eb:(!w.params.followText "set-order"&&(!t.plain&&decide (es.size > 1)))with
 | false=>
  rw [if_neg Bool.false_ne_true];refine wpAny_bind (wpAny_pure ?_);refine wpAny_bind (wpAny_setEpoch_of h.at_ h.dt h.fit ?_);refine wpAny_bind (wpAny_newObj_type (wpAny_pure ⟨_,rfl,"set_iterator",_,⟨_,Heap.get?_push_size _ rfl,rfl⟩,iK.lookup,?_⟩));exact q1 eb
 | true=>
  rw [if_pos rfl];refine wpAny_bind (tD es.size (List.range es.size) _ _ List.length_range λord d' hp=>?_);have hl:ord.length=es.size:=by rw [hp.length_eq,List.length_range]
  refine wpAny_bind (wpAny_newTuple ?_ (by rw [List.length_map,hl]; exact hz));refine wpAny_bind (wpAny_setEpoch_of (s:={s with heap:=s.heap.push _,drawn:=d'}) (Heap.get?_push_of_some _ h.at_) h.dt h.fit ?_);refine wpAny_bind (wpAny_newObj_type (wpAny_pure ⟨_,rfl,"set_iterator",_,⟨_,Heap.get?_push_size _ rfl,rfl⟩,iK.lookup,?_⟩));have:=q2 ord d' hp;rw [Heap.size_push];exact this
theorem IG {xs:Array Nat}(hr:pD xs.toList) {i j:Nat}(hi:i<=xs.size) (h1:∀k v,k < i->xs[k]?=some v->v < j) (h2:∀v,xs[i]?=some v->j<=v):SetTable.below xs j=i:=by
 obtain⟨b1,b2,b3⟩:=below_at (j:=j) hr;generalize SetTable.below xs j=b at b1 b2 b3;rcases Nat.lt_trichotomy b i with h | h | h
 ·have g:xs[b]?=some xs[b]:=Array.getElem?_eq_getElem (by omega);have e1:=b3 b _ (Nat.le_refl _) g;have e2:=h1 b _ h g;omega
 ·exact h
 ·have g:xs[i]?=some xs[i]:=Array.getElem?_eq_getElem (by omega);have e1:=b2 i _ h g;have e2:=h2 _ g;omega
noncomputable def slotAt (t:SetTable) (i:Nat):Nat:=if i=0 then 0 else(t.place[i - 1]?).getD 0+1
theorem Ci {t:SetTable}(hr:pD t.place.toList) {i:Nat}(hi:i<=t.place.size):SetTable.below t.place (slotAt t i)=i:=by
 refine IG hr hi (λk v hk e=>?_) λv e=>?_
 ·unfold slotAt;rw [if_neg (by omega)];have g:t.place[i - 1]?=some t.place[i - 1]:=Array.getElem?_eq_getElem (by omega);have:=hr.le (show k<=i - 1 by omega) e g;rw [g];show v < t.place[i - 1]+1;omega
 ·unfold slotAt
  by_cases z:i=0
  ·rw [if_pos z];exact Nat.zero_le _
  ·rw [if_neg z];have gY:=(Array.getElem?_eq_some_iff.mp e).1;have g:t.place[i - 1]?=some t.place[i - 1]:=Array.getElem?_eq_getElem (by omega);rw [g];have p:=List.pairwise_iff_getElem.mp hr (i - 1) i (by rw [Array.length_toList]; omega) (by rw [Array.length_toList]; omega) (by omega);rw [Array.getElem_toList,Array.getElem_toList] at p;have:=(Array.getElem?_eq_some_iff.mp e).2;show t.place[i - 1]+1<=v;omega
theorem IH {vs:List Value}{es:List (Int×Value)}(FT:ElemsOf (intKind prog w) es) (hp:vs.Perm (es.map (·.2))):∃ks:List Int,IntsAre vs ks/\ks.Perm (es.map λe=>intOf e.2):=by
 refine⟨vs.map intOf,?_,?_⟩
 ·have hv:∀v∈vs,∃t,v=.int (intOf v) t:=λv hv=>by
   obtain⟨e,he,rfl⟩:=List.mem_map.mp (hp.mem_iff.mp hv);obtain⟨⟨k,hk,_⟩,_⟩:=FT e he;obtain⟨t,et⟩:=Value.isInt_shape hk;rw [et];exact⟨t,rfl⟩
  clear hp FT;induction vs with
  | nil=>exact IntsAre.nil
  | cons v vs ih=>
   obtain⟨t,e⟩:=hv v List.mem_cons_self;have:=ih λu hu=>hv u (List.mem_cons_of_mem _ hu)
   rw [List.map_cons];rw [e];exact IntsAre.cons _ _ this
 ·have:=hp.map intOf;rw [List.map_map] at this;exact this
theorem Nl {R:Result->Shared->Prop}{a L:Addr}{res:Value}{c0:Nat}{Z:List Int}(hh:A.handled=none) (g:gT prog w s.heap a Z) (nL:L≠a) (hL:s.heap.get? L=some {cls:=.type "list",data:=.seq #[] c0})
  (hR:∀(s':Shared) (acc:Array Value) (c:Nat) (ks:List Int),(∀b o,b≠L->s.heap.get? b=some o->s'.heap.get? b=some o)->s'.gens=s.gens->s'.os=s.os->s'.heap.get? L=some {cls:=.type "list",dict:=none,data:=.seq acc c,slots:=#[]}->IntsAre acc.toList ks->ks.Perm Z->R (.ok (.ret res)) s') :
  wpAny (model prog w) A.in1 (Builtin.List.listExtendWith (.ref L) (.ref a) res)
   (λfin s'=>match fin with | .done f=>R (.ok f) s' | .again c'=>c'.quiet=true/\codeAny (model prog w) A c' R s') (λe s'=>R (.error e) s') s:=by
 obtain⟨o,es,ep,t,ho,hex,hd,FT,Ow,hnd,hb,hf,hg⟩:=g;have sa:BG s.heap a o es ep t:=⟨ho,hex,hd,hf⟩
 have hz:es.size<=sizeLine:=fits_of_scanBound hb;have la:a < s.heap.objs.size:=Heap.lt_size ho;have lL:L < s.heap.objs.size:=Heap.lt_size hL;have go:∀(s1:Shared) (it:Addr) (fp:List Addr) (P:Nat->Value->Prop) (St:Nat->Shared->Prop),WalksS prog w A.in1 it fp [it] Eq es.size P St->L∉fp->L≠it->St 0 s1->(∀b u,s.heap.get? b=some u->s1.heap.get? b=some u)->s1.gens=s.gens->s1.os=s.os->(∀b u,s.heap.get? b=some u->b≠it) ->
   (∀acc:Array Value,ItemsOf P acc es.size->acc.toList.Perm (es.toList.map (·.2)))->∀bb:Bool,wpAny (model prog w) A.in1 (do
    let room <-holding [.ref it] (Builtin.List.listLengthHint (.ref a))
    if (room || bb)=true then do
     rule "list.extend.makes-room"
     Builtin.List.listTouch (.ref L)
     again (.builtin "list.extend.loop" ⟨[.ref L,.ref it,res],[]⟩)
    else again (.builtin "list.extend.loop" ⟨[.ref L,.ref it,res],[]⟩)) (λfin s'=>match fin with | .done f=>R (.ok f) s' | .again c'=>c'.quiet=true/\codeAny (model prog w) A c' R s') (λe s'=>R (.error e) s') s1:=by
  intro s1 it fp P St W Wn hLi st kp eg eo ni aaU bb;have key:∀(h:Heap) (c₁ tk:Nat),St 0 {s1 with heap:=h,toks:=tk}->(∀b u,b≠L->s.heap.get? b=some u->h.get? b=some u)->h.get? L=some {cls:=.type "list",data:=.seq #[] c₁}->codeAny (model prog w) A (.builtin "list.extend.loop" ⟨[.ref L,.ref it,res],[]⟩) R {s1 with heap:=h,toks:=tk}:=by
   intro h c₁ tk st1 k1 XD;refine codeAny_extend_loopS W hz L Wn res es.size 0 _ #[] c₁ rfl (Nat.zero_le _) st1 XD (ItemsOf.nil _) λs' acc c' mv hL' Cj=>?_
   obtain⟨ks,i1,i2⟩:=IH (prog:=prog) (w:=w) FT (aaU acc Cj);refine hR s' acc c' ks (λb u nb e=>mv.heap b u (λz=>?_) (k1 b u nb e)) (mv.gens.symm.trans eg) (mv.os.trans eo) hL' i1 (i2.trans Ow);rcases List.mem_cons.mp z with z | z
   ·exact nb z
   ·exact ni b u e (List.mem_singleton.mp z)
  have XD:=kp _ _ hL;refine wpAny_bind (wpAny_holding (IF ⟨o,kp _ _ ho,hex.1⟩ ?_));refine wpAny_ite_split (λ_=>?_) λ_=>wpAny_pure ⟨plainId_quiet PySem.F.plain_extend_loop _,key s1.heap c0 s1.toks st (λb u _ e=>kp b u e) XD⟩
  refine wpAny_bind (wpAny_rule (wpAny_bind ?_));show wpAny _ _ (updateSeq L (·.push .none) >>= λ_=>updateSeq L (·.pop)) _ _ _;refine wpAny_bind (wpAny_updateSeq XD rfl ?_);have hL2:=Heap.get?_update_self (Obj.mapSeq (·.push Value.none)) XD rfl;refine wpAny_updateSeq (hz:=by seq_fits) hL2 rfl ?_;have XE:=Heap.get?_update_self (Obj.mapSeq (·.pop)) hL2 rfl;have oth:∀b u,b≠L->s1.heap.get? b=some u->((s1.heap.update L (Obj.mapSeq (·.push Value.none))).update L (Obj.mapSeq (·.pop))).get? b=some u:=λb u nb e=>by
   rw [Heap.get?_update_other _ _ nb.symm,Heap.get?_update_other _ _ nb.symm];exact e
  refine wpAny_pure ⟨plainId_quiet PySem.F.plain_extend_loop _,key _ _ s1.toks (W.frame 0 s1 _ _ st (Nat.le_refl _) λb hb u e=>oth b u (λz=>Wn (z▸hb)) e) (λb u nb e=>oth b u nb (kp b u e)) XE⟩
 unfold Builtin.List.listExtendWith;refine wpAny_bind (wpAny_typeOf (T:="set") sa.ty ?_);have h1:Builtin.List.listSameRef (.ref L) (.ref a)=false:=by simp [Builtin.List.listSameRef,nL]
 have h2:(Value.type "set" == Value.type "list")=false:=by decide
 have h3:(Value.type "set" == Value.type "tuple")=false:=by decide
 simp only [h1,h2,h3,Bool.or_false,Bool.false_eq_true,if_false];refine wpAny_bind (Cg sa hz (λhq=>?_) λord d' hp=>?_)
 ·have ni:∀b u,s.heap.get? b=some u->b≠s.heap.objs.size:=λb u e=>Nat.ne_of_lt (Heap.lt_size e)
  have kp:∀b u,s.heap.get? b=some u->(s.heap.push (BF (.int 0 0) 0 a es.size ep)).get? b=some u:=λb u e=>Heap.get?_push_of_some _ e
  have Wn:L∉[s.heap.objs.size,a]:=λz=>by
   rcases List.mem_cons.mp z with z | z
   ·exact Nat.ne_of_lt lL z
   ·exact nL (List.mem_singleton.mp z)
  have fin:∀(sl:Nat->Nat) (ord:List Value),ord.Perm (es.toList.map (·.2))->sl 0=0->(∀i,i<=es.size->∀(s:Shared) (A:Around) (E:Value->Shared->Prop) (Q':Option (Value×Nat)->Shared->Prop),BG s.heap a o es ep t->Q' ((ord[i]?).map λx=>(x,sl (i+1))) s->wpAny (model prog w) A (setNext a (sl i) i ep) Q' E s)->_:=λsl ord hp h0 hN=>
   go {s with heap:=s.heap.push (BF (.int 0 0) 0 a es.size ep)} s.heap.objs.size _ _ _ (IE (A:=A.in1) hh (Nat.ne_of_lt la) sl ord (by rw [hp.length_eq,List.length_map,Array.length_toList]) hN) Wn (Nat.ne_of_lt lL) ⟨by rw [h0]; exact Heap.get?_push_size _ rfl,sa.of λu e=>kp _ u e⟩ kp rfl rfl ni (λacc Cj=>by
    have:acc.toList=ord:=by
     refine List.ext_getElem? λi=>?_
     rw [Array.getElem?_toList]
     cases e:acc[i]? with
     | some v=>rw [Cj.2 i v e]
     | none=>
      have h1:es.size<=i:=by
       have:=Array.getElem?_eq_none_iff.mp e;rw [Cj.1] at this;exact this
      rw [List.getElem?_eq_none];rw [hp.length_eq,List.length_map,Array.length_toList];exact h1
    rw [this];exact hp)
  cases hw:w.params.followText "set-order" with
  | true=>
   refine fin (λ_=>0) ((pickOrder (w.params.setOrder a ep) es).toList.map (·.2)) ((FW _ es).map _) rfl (λi hi s A E Q' sa' q=>Nk sa' hw ?_) _;rw [List.getElem?_map,Array.getElem?_toList,Option.map_map] at q;exact q
  | false=>
   rw [hw] at hq;have Nm:(!t.plain&&decide (es.size > 1))=false:=by simpa using hq
   have aaV:t.led=true:=by rw [hg.1,hw]; rfl
   have psz:t.place.size=es.size:=by
    have:=hf;unfold SetTable.fits at this;rw [Bool.and_eq_true] at this;exact beq_iff_eq.mp this.1
   refine fin (slotAt t) (es.toList.map (·.2)) (.refl _) rfl (λi hi s A E Q' sa' q=>IA sa' hw Nm aaV ?_) _;rw [Ci hg.2 (by omega)];rw [List.getElem?_map,Array.getElem?_toList] at q;rcases Nat.lt_or_eq_of_le hi with h | h
   ·have g1:es[i]?=some es[i]:=Array.getElem?_eq_getElem h;have g2:t.place[i]?=some t.place[i]:=Array.getElem?_eq_getElem (by omega);have g3:slotAt t (i+1)=t.place[i]+1:=by
     unfold slotAt;rw [if_neg (by omega),Nat.add_sub_cancel,g2];rfl
    rw [g1,g3] at q;rw [g1,g2];exact q
   ·have g1:es[i]?=none:=Array.getElem?_eq_none (by omega);rw [g1] at q;rw [g1];exact q
 ·have hl:ord.length=es.size:=by rw [hp.length_eq,List.length_range]
  have ni:∀b u,s.heap.get? b=some u->b≠s.heap.objs.size+1:=λb u e=>Nat.ne_of_lt (Nat.lt_succ_of_lt (Heap.lt_size e))
  have kp:∀b u,s.heap.get? b=some u->((s.heap.push (seqObj "tuple" (iL ord) 0)).push (BF (.ref s.heap.objs.size) 0 a es.size ep)).get? b=some u:=λb u e=>Heap.get?_push_of_some _ (Heap.get?_push_of_some _ e)
  have Wn:L∉[s.heap.objs.size+1,a,s.heap.objs.size]:=λz=>by
   rcases List.mem_cons.mp z with z | z
   ·exact ni L _ hL z
   ·rcases List.mem_cons.mp z with z | z
    ·exact nL z
    ·exact Nat.ne_of_lt lL (List.mem_singleton.mp z)
  have hit:((s.heap.push (seqObj "tuple" (iL ord) 0)).push (BF (.ref s.heap.objs.size) 0 a es.size ep)).get? (s.heap.objs.size+1)=some (BF (.ref s.heap.objs.size) 0 a es.size ep):=by
   have:=Heap.get?_push_size (o:=BF (.ref s.heap.objs.size) 0 a es.size ep) (s.heap.push (seqObj "tuple" (iL ord) 0)) rfl;rw [Heap.size_push] at this;exact this
  refine go {s with heap:=(s.heap.push (seqObj "tuple" (iL ord) 0)).push (BF (.ref s.heap.objs.size) 0 a es.size ep),drawn:=d'} (s.heap.objs.size+1) _ _ _ (Cf (A:=A.in1) (tu:=s.heap.objs.size) (m:=0) hh (Nat.ne_of_lt (Nat.lt_succ_of_lt la)) (Nat.ne_of_lt (Nat.lt_succ_self _)) ord hl rfl λj hj=>List.mem_range.mp (hp.mem_iff.mp hj)) Wn (ni L _ hL) ⟨hit,sa.of λu e=>kp _ u e,Heap.get?_push_of_some _ (Heap.get?_push_size _ rfl)⟩ kp rfl rfl ni (λacc Cj=>?_) _;have f1:acc.toList=ord.map λj=>((es[j]?).map (·.2)).getD .none:=by
   refine List.ext_getElem? λi=>?_
   rw [Array.getElem?_toList,List.getElem?_map]
   cases e:acc[i]? with
   | some v=>
    obtain⟨j,x,e1,e2,rfl⟩:=Cj.2 i v e;rw [e1];show _=some (((es[j]?).map (·.2)).getD .none);rw [e2];rfl
   | none=>
    have h1:es.size<=i:=by
     have:=Array.getElem?_eq_none_iff.mp e;rw [Cj.1] at this;exact this
    rw [List.getElem?_eq_none (by omega)];rfl
  have f2:(List.range es.size).map (λj=>((es[j]?).map (·.2)).getD .none)=es.toList.map (·.2):=by
   refine List.ext_getElem? λi=>?_
   rw [List.getElem?_map,List.getElem?_map,Array.getElem?_toList (xs:=es)];rcases Nat.lt_or_ge i es.size with h | h
   ·rw [List.getElem?_range h,Array.getElem?_eq_getElem h];show some (((es[i]?).map (·.2)).getD .none)=_;rw [Array.getElem?_eq_getElem h];rfl
   ·rw [List.getElem?_eq_none (by rw [List.length_range]; exact h),Array.getElem?_eq_none h];rfl
  rw [f1,<-f2];exact hp.map _
theorem xG {a:Addr}{Z:List Int}{Q:List Value->Shared->Prop}(hh:A.handled=none) (g:gT prog w s.heap a Z)
  (h:∀(s':Shared) (vs:List Value) (ks:List Int),(∀b o,s.heap.get? b=some o->s'.heap.get? b=some o)->s.heap.objs.size < s'.heap.objs.size->s'.gens=s.gens->s'.os=s.os->IntsAre vs ks->ks.Perm Z->Q vs s') :
  wpAny (model prog w) A (collect (.ref a)) Q E s:=by
 have la:a < s.heap.objs.size:=by
  obtain⟨o,_,_,_,ho,_⟩:=g;exact Heap.lt_size ho
 unfold collect;refine wpAny_bind (wpAny_runValue (codeAny_builtin entry_proto_collect' ?_));show wpAny _ _ (do again (.builtin "list.__iadd__" ⟨[<-newList [],.ref a],[]⟩)) _ _ s;refine wpAny_bind (wpAny_newList (wpAny_pure ⟨Code.quiet_builtin _ (by decide +kernel),codeAny_builtin entry_list_iadd' ?_⟩));show wpAny _ _ (Builtin.List.listExtendWith (.ref s.heap.objs.size) (.ref a) (.ref s.heap.objs.size)) _ _ {s with heap:=s.heap.push (seqObj "list" #[] 0)};rw [Around.under_plainId (by decide +kernel)];refine Nl (s:={s with heap:=s.heap.push (seqObj "list" #[] 0)}) (R:=λr s'=>match r with
  | .ok (.ret v)=>wpAny (model prog w) A (match v with
   | .ref x=>do
    let u <-load x
    match u.data with
    | .seq xs _=>pure xs.toList
    | _=>unsupported "internal:collect"
   | _=>unsupported "internal:collect") Q E s'
  | .ok _=>False
  | .error e=>E e s') hh (g.of_same λo e=>Heap.get?_push_of_some _ e) (Nat.ne_of_gt la) (Heap.get?_push_size _ rfl) λs' acc c ks kp eg eo hL ia pm=>?_
 show wpAny (model prog w) A (do
   let o <-load s.heap.objs.size
   match o.data with
   | .seq xs _=>pure xs.toList
   | _=>unsupported "internal:collect") Q E s'
 refine wpAny_bind (wpAny_load hL ?_);exact wpAny_pure (h s' acc.toList ks (λb o e=>kp b o (Nat.ne_of_lt (Heap.lt_size e)) (Heap.get?_push_of_some _ e)) (Heap.lt_size hL) eg eo ia pm)
end
theorem S5:bootBuiltins "set"=some (.type "set"):=by decide +kernel
section
variable {X:Cx}
theorem FX (hc:X.calm=true):eX X (.type "set") (λxs H Q=>∃(p:Addr) (ns:List Int),xs=[.ref p]/\bf X.K H p (ns.map V.int)/\ns.length<=4000/\∀l,H l=none->Q (.ref l) (upd H l (.ext λh=>gT X.prog X.w h l (ns.foldl fW [])))):=by
 intro pins s σ H xs us Q I r h;obtain⟨p,ns,rfl,hq,h4,q⟩:=h;obtain⟨u,rfl,rx⟩:=vals1 r;cases rx;obtain⟨bw,rv,pl,hz⟩:=I.list hq;have hl:=rv.length;rw [List.length_map] at hl;refine FV (items:=bw.toArray) (I.ok.hd hc) pl.isList (by rw [List.toList_toArray]; exact intsAre_of rv) (by rw [List.size_toArray]; show bw.length+1 < 4096; omega) λh' tk g kp=>?_
 obtain⟨o,es,ep,t,ho,rest⟩:=id g;exact⟨.ref s.heap.objs.size,_,I.laid (t':=tk) kp (Nat.le_refl _) (show cJ X.prog X.w _ h' _ (.ext λh=>gT X.prog X.w h s.heap.objs.size (ns.foldl fW [])) from⟨g,⟨o,ho⟩,λh1 h2 g1 k=>g1.of_same k⟩),rfl,q _ (I.bR.fresh (Nat.le_refl _))⟩
theorem Inv.drew {pins:List (Addr×Obj)}{σ:St}{H:Hp}{s:Shared}(I:Inv X pins σ H s) (d:_):Inv X pins σ H {s with drawn:=d}:=⟨I.ok,I.os,I.bare,I.base,I.loc,I.cell,I.free,I.fQ,I.pin,I.bR,I.len⟩
theorem ly:∀(l S:List Int),S.Nodup->(l.foldl fW S).Nodup
 | [],_,h=>h
 | x::l,S,h=>by
  rw [List.foldl_cons];refine ly l _ ?_;unfold fW;split
  ·exact h
  ·rename_i hx;refine List.nodup_append.mpr ⟨h,by simp,λa ha b hb e=>?_⟩;rw [List.mem_singleton.mp hb] at e;exact hx (e▸ha)
theorem uY (hc:X.calm=true):eX X (.builtin "sorted") (λxs H Q=>∃(p:Addr) (Z:List Int),xs=[.ref p]/\H p=some (.ext λh=>gT X.prog X.w h p Z)/\Z.length < 64/\∀(l:Addr) (jQ:List Int),H l=none->jQ.Perm Z->jQ.Pairwise (·<=·)->Q (.ref l) (upd H l (.lst (jQ.map V.int)))):=by
 intro pins s σ H xs us Q I r h;obtain⟨p,Z,rfl,hp,h64,q⟩:=h;obtain⟨u,rfl,rx⟩:=vals1 r;cases rx;have g:gT X.prog X.w s.heap p Z:=(I.bR p _ hp).1;refine Calls.call_function_entry kind_sorted plain_sorted entry_sorted (args_sorted1 _) ?_;unfold Builtin.«sorted»;refine wpAny_bind (m:=checkCount "sorted" 1 1 _) (wpAny_pure ?_);refine wpAny_bind (xG (I.ok.hd hc) g λs' ws ks kp hsz eg eo hI pm=>?_);have hlen:=IntsAre.length hI;have xa:=pm.length_eq;refine wpAny_bind (wpAny_newList ?_ (by rw [sizeLine_eq]; omega));obtain⟨h',g',d',tk,os'⟩:=s';dsimp only at kp hsz eg eo;subst eg eo;have MG:(h'.push (seqObj "list" ws.toArray 0)).get? h'.objs.size=some (seqObj "list" ws.toArray 0):=Heap.get?_push_size _ rfl;refine wpAny_bind (wpAny_holding (wpAny_call_entry slot_list_sort ⟨_,MG,rfl⟩ entry_list_sort (list_sort_tree MG hI (by omega) λout jQ a1 a2 a3=>⟨_,rfl,?_⟩) (args_list_sort _)));obtain⟨e,he⟩:=sortedHeap_at (out:=out) MG;have oi:=a2.length_eq;refine wpAny_pure ⟨_,rfl,?_⟩;refine⟨.ref h'.objs.size,_,(I.drew d').laid (t':=tk) (λb o hb=>?_) (Nat.le_of_lt hsz) (show cJ X.prog X.w _ _ _ (.lst (jQ.map V.int)) from⟨by rw [List.length_map]; exact Nat.le_of_lt (aJ (by omega)),out.toList,e,hV a1,by simpa [seqObj] using he⟩),rfl,q _ jQ (I.bR.fresh (Nat.le_of_lt hsz)) (a2.trans pm) a3⟩;have oO:=kp b o hb;have gY:=Heap.lt_size oO;rw [sortedHeap_old (Nat.ne_of_lt gY) (by rw [Heap.size_push]; exact Nat.lt_succ_of_lt gY)];exact Heap.get?_push_of_some _ oO
end
section
variable {prog:Program}{w:World}{A:Around}{E:Value->Shared->Prop}{s:Shared}
theorem FY {Q:Int->Shared->Prop}(h:Q 4238894112 {s with toks:=s.toks+1}):wpAny (model prog w) A (pyHash .none) Q E s:=by
 unfold pyHash;have hv:[Value.none].any Value.onHeap=false:=rfl;have ty:s.TypeIs .none "NoneType":=rfl;unfold pyHashByItsType;refine wpAny_bind ?_;rw [cRoomFor,if_neg (by rw [hv]; exact Bool.false_ne_true)];refine wpAny_pure (wpAny_bind (wpAny_specialOf ty PySem.F.slot_NoneType_hash.lookup ?_));show wpAny _ _ (if (some (Value.builtin "NoneType.__hash__") == some Value.none)=true then _ else _) Q E s;rw [if_neg (by rw [beq_builtin_none]; exact Bool.false_ne_true)];refine wpAny_bind (wpAny_specialOf ty PySem.F.slot_NoneType_hash.lookup ?_);show wpAny _ _ (callSpecialIfBoundUnlessNone? .none "__hash__" _ >>= _) Q E s;refine wpAny_bind (wpAny_callSpecialIfBoundUnlessNone?_slot ty PySem.F.slot_NoneType_hash (wpAny_call_entry PySem.F.slot_NoneType_hash ty PySem.F.entry_NoneType_hash (show wpAny _ _ (do ret (<-mkInt 4238894112)) _ _ s from wpAny_ret_mkInt ?_) (PySem.F.args_NoneType_hash_1 _)));exact wpAny_pure h
theorem Nn {Q:Bool->Shared->Prop}(h:Q true s):wpAny (model prog w) A (eqBool .none .none) Q E s:=by
 unfold eqBool;refine wpAny_holding (wpAny_ite_split (λ_=>wpAny_bind (wpAny_rule (wpAny_pure h))) λz=>absurd (by decide) z)
end
noncomputable def nIs:Option Key->Value->Bool
 | some k,v=>kT k v
 | none,.none=>true
 | none,_=>false
theorem ff {v:Value}(h:nIs none v=true):v=.none:=by
 cases v <;> first | rfl | cases h
theorem pG {k:Key}(h:kT k .none=true):False:=by
 rcases bU h with ⟨_,_,_,e⟩ | ⟨_,_,_,e⟩ <;> cases e
noncomputable def EL (prog:Program) (w:World):PySem.KeyKind prog w (Option Key) where
 is:=nIs
 hash:=λk=>match k with | some k=>Wz w k | none=>4238894112
 inj:=λv a b ha hb=>by
  cases a with
  | none=>
   cases ff ha
   cases b with
   | none=>rfl
   | some k=>exact(pG hb).elim
  | some j=>
   cases b with
   | none=>
    cases ff hb
    exact(pG ha).elim
   | some k=>rw [(ba prog w).inj v j k ha hb]
 byValue:=λk v h=>by
  cases k with
  | none=>cases ff h; rfl
  | some k=>exact(ba prog w).byValue k v h
 pyHash:=λ{A E s k v Q} hv h=>by
  cases k with
  | none=>cases ff hv; exact FY h
  | some k=>exact(ba prog w).pyHash hv h
 eqBool:=λ{A E s a b u v Q} hu hv h=>by
  cases a with
  | none=>
   cases ff hu
   cases b with
   | none=>cases ff hv; exact Nn h
   | some k=>
    rw [decide_eq_false (λz=>nomatch z)] at h;rcases bU hv with ⟨i,t,rfl,rfl⟩ | ⟨x,t,rfl,rfl⟩
    ·exact SeqAt.EqAt.none_int i t _ _ _ _ h
    ·exact SeqAt.EqAt.none_str x t _ _ _ _ h
  | some j=>
   cases b with
   | none=>
    cases ff hv
    rw [decide_eq_false (λz=>nomatch z)] at h;rcases bU hu with ⟨i,t,rfl,rfl⟩ | ⟨x,t,rfl,rfl⟩
    ·exact SeqAt.EqAt.int_none i t _ _ _ _ h
    ·exact SeqAt.EqAt.str_none x t _ _ _ _ h
   | some k=>
    refine(ba prog w).eqBool (a:=j) (b:=k) hu hv ?_;have:decide (some j=some k)=decide (j=k):=by
     by_cases z:j=k
     ·subst z; simp
     ·rw [decide_eq_false z,decide_eq_false λy=>z (Option.some.inj y)]
    rw [this] at h;exact h
 «strs»:=λk x t v h=>by
  cases k with
  | none=>cases ff h
  | some k=>exact(ba prog w).strs k x t v h
theorem aaW {prog:Program}{w:World}{h:Heap}{a:Addr}{vs:List (Key×Value)}(d:h.DictOf (ba prog w) a vs):∃f,h.MapOf (EL prog w) a f/\f none=none:=by
 obtain⟨o,es,ep,ho,hc,Nh,hk,_⟩:=d;refine⟨findBy (EL prog w).is es,⟨o,es,ep,ho,hc,Nh,λe he=>?_,λk=>rfl⟩,?_⟩
 ·obtain⟨k,h1,h2⟩:=hk e he;exact⟨some k,h1,h2⟩
 ·unfold findBy
  cases ef:es.find? λe=>(EL prog w).is none e.key with
  | none=>rfl
  | some e=>
   exfalso;obtain⟨k,h1,_⟩:=hk e (Array.mem_of_find?_eq_some ef);have h3:=Array.find?_some ef;have h4:=ff h3;rw [h4] at h1;exact pG h1
noncomputable def XF (H:Hp) (a:Addr) (y:V) (b:Bool):Prop:=(∃o,fb H a y o/\b=o.isSome)\/(y=.bM/\b=false/\∃kvs,Rd H a (.dK kvs))
noncomputable def II (ty td:TE):TE:=λσ H Q=>ty σ H λy H1=>td σ H1 λx H2=>∃a b,x=.ref a/\XF H2 a y b/\Q (.bl b) H2
section
variable {X:Cx}{i o:PySem.Expr}{ty td:TE}
theorem EM (hu:X.A.units+1 < cLine) (hi:PE X i ty) (ho:PE X o td):PC X .In i o (II ty td):=by
 intro pins s σ H Q I h;refine cg (hi pins s σ H _ I h) λiv s1 ⟨y,H1,I1,ry,q1⟩=>cg (ho pins s1 σ H1 _ I1 q1) λu s2 ⟨x,H2,I2,rx,a,b,ex,g,q2⟩=>?_
 subst ex;obtain rfl:u=Value.ref a:=rx;rcases g with ⟨ov,g,rfl⟩ | ⟨rfl,rfl,kvs,g⟩
 ·exact Xl hu I2 g ry λs3 I3=>⟨.bl ov.isSome,H2,I3,rfl,q2⟩
 ·obtain⟨z,hd,vs,rel,dd⟩:=gp I2.bR g;obtain⟨f,hm,hf⟩:=aaW dd;cases (show iv=Value.none from ry);refine wpAny_in_of (knd:=EL X.prog X.w) (k:=none) (key:=.none) rfl hd hm ?_;rw [hf];exact⟨.bl false,H2,I2.tok _,rfl,q2⟩
theorem FZ:W8 X "dict.setdefault" (λx vs H Q=>∃(a:Addr) (kvs:List (Key×V)) (k:Key) (v:V),x=.ref a/\vs=[kV k,v]/\H a=some (.dK kvs)/\kvs.length < sizeLine/\((∃u,bD kvs k=some u/\Q u H)\/(bD kvs k=none/\Q v (upd H a (.dK (putK kvs k v)))))):=by
 intro pins s σ H x vs v us Q I rx rv h;obtain⟨a,kvs,k,dv,rfl,rfl,ha,hz,q⟩:=h;cases rx;obtain⟨u1,u2,rfl,r1,r2⟩:∃u1 u2,us=[u1,u2]/\RelV (kV k) u1/\RelV dv u2:=by
  cases rv with
  | cons r1 t=>
   cases t with
   | cons r2 t=>
    cases t;exact⟨_,_,rfl,r1,r2⟩
 obtain⟨z1,n1,vs,rel,dd⟩:=ke I.bR ha;have l1:=rel.length;refine call_meetsIn PySem.F.slot_dict_setdefault dd.typeIs PySem.F.entry_dict_setdefault (PySem.F.args_dict_setdefault_3 _ _ _) (kt_meets_setdefault (ba X.prog X.w) a (jn r1) n1 u2) ⟨vs,dd,by omega,λw' hw'=>?_,λhn h' B6 hs=>?_⟩
 ·have ro:=rel.val k;rw [hw'] at ro
  cases e:bD kvs k with
  | none=>rw [e] at ro; exact ro.elim
  | some u=>
   rw [e] at ro;rcases q with ⟨u',e',q⟩ | ⟨e',_⟩
   ·rw [e] at e';cases e';exact⟨u,H,I.tok _,ro,q⟩
   ·rw [e] at e';cases e'
 ·have ro:=rel.val k;rw [hn] at ro
  cases e:bD kvs k with
  | some u=>rw [e] at ro; exact ro.elim
  | none=>
   rcases q with ⟨u',e',_⟩ | ⟨_,q⟩
   ·rw [e] at e';cases e'
   ·have he:∃q,h'.get? a=some q:=let ⟨q,_,_,hq,_⟩:=B6; ⟨q,hq⟩
    have hl:(putK kvs k dv).length<=sizeLine:=by have:=fT kvs k dv; omega
    exact⟨dv,_,lu I (by rw [ha]; exact True.intro) hs he (mJ hl n1 (rel.put k r2) B6),r2,q⟩
end
section
variable {X:Cx}
noncomputable def aaX (K:PySem.W.Frag) (neg:Bool):R2:=λx y H Q=>∃(p:Addr) (as:List Addr) (ds:List D) (d:D),y=.ref p/\bf K H p (as.map V.ref)/\as.length=ds.length/\(∀(i:Nat) b e,as[i]?=some b->ds[i]?=some e->fC K H (.ref b) e/\e.dep<=60)/\fC K H x d/\Q (.bl (if neg=true then !ds.any λe=>bA e d else ds.any λe=>bA e d)) H
open Classical in
theorem S6 {pins:List (Addr×Obj)}{σ:St}{H:Hp}{s:Shared}(I:Inv X pins σ H s) {A:Around}(hu:A.units+60 < cLine) {as:List Addr}{ds:List D}{d:D}{x:V}{v:Value}{bw:List Value}(r:Vals (as.map V.ref) bw) (hl:as.length=ds.length) (h:∀(i:Nat) b e,as[i]?=some b->ds[i]?=some e->fC X.K H (.ref b) e/\e.dep<=60) (hx:fC X.K H x d) (rx:RelV x v) :
  ∃f:Value->Bool,(∀u∈bw,SeqAt.EqAt A s u v (f u))/\bw.any f=ds.any λe=>bA e d:=by
 have ei:bw=as.map Value.ref:=by
  clear h hl;generalize ex:as.map V.ref=xs at r;induction r generalizing as with
  | nil=>
   cases as with
   | nil=>rfl
   | cons _ _=>cases ex
  | cons r0 t ih=>
   cases as with
   | nil=>cases ex
   | cons a as=>
    cases ex;cases r0;rw [List.map_cons,ih rfl]
 subst ei;have one:∀(i j:Nat) b e e',as[i]?=some b->as[j]?=some b->ds[i]?=some e->ds[j]?=some e'->e=e':=λi j b e e' h1 h2 h3 h4=>(h i b e h1 h3).1.one I (h j b e' h2 h4).1
 have get:∀(i:Nat) b,as[i]?=some b->∃e,ds[i]?=some e:=λi b hb=>⟨_,List.getElem?_eq_getElem (by have:=(List.getElem?_eq_some_iff.mp hb).1; omega)⟩
 refine⟨λu=>decide (∃(i:Nat) (b:Addr) (e:D),u=.ref b/\as[i]?=some b/\ds[i]?=some e/\bA e d=true),λu EN=>?_,?_⟩
 ·obtain⟨b,hb,rfl⟩:=List.mem_map.mp EN;obtain⟨i,hi⟩:=List.mem_iff_getElem?.mp hb;obtain⟨e,he⟩:=get i b hi;have k:=ku I (h i b e hi he).1 (A:=A) (by have:=(h i b e hi he).2; omega) hx (u:=.ref b) rfl rx;have:decide (∃(j:Nat) (b':Addr) (e':D),Value.ref b=.ref b'/\as[j]?=some b'/\ds[j]?=some e'/\bA e' d=true)=bA e d:=by
   rw [Bool.eq_iff_iff,decide_eq_true_iff];constructor
   ·rintro⟨j,b',e',eb,h1,h2,h3⟩;cases eb;rw [one i j b e e' hi h1 he h2];exact h3
   ·exact λz=>⟨i,b,e,rfl,hi,he,z⟩
  rw [<-this] at k;exact k
 ·rw [Bool.eq_iff_iff,List.any_eq_true,List.any_eq_true];constructor
  ·rintro⟨u,EN,hf⟩;obtain⟨i,b,e,_,_,h2,h3⟩:=of_decide_eq_true hf;exact⟨e,List.mem_of_getElem? h2,h3⟩
  ·rintro⟨e,he,hf⟩;obtain⟨i,hi⟩:=List.mem_iff_getElem?.mp he;have hb:as[i]?=some (as[i]'(by have:=(List.getElem?_eq_some_iff.mp hi).1; omega)):=List.getElem?_eq_getElem _;exact⟨_,List.mem_map.mpr ⟨_,List.mem_of_getElem? hb,rfl⟩,decide_eq_true ⟨i,_,e,rfl,hb,hi,hf⟩⟩
theorem S7 (hu:X.A.units+64 < cLine):kX X (compareOp .In) (aaX X.K false):=by
 intro pins s σ H x y v u Q I rx ry h;obtain⟨p,as,ds,d,rfl,hq,hl,hh,hx,q⟩:=h;cases ry;obtain⟨bw,r,pl,hz⟩:=I.list hq;obtain⟨f,h1,h2⟩:=S6 I (A:=X.A.in1) (by show X.A.units+1+60 < cLine; omega) r hl hh hx rx;refine SeqAt.in_listAt f pl.isList (λw hw=>h1 w (by simpa using hw)) ⟨.bl _,H,I,rfl,?_⟩;rw [show bw.toArray.any f=bw.any f by simp,h2];exact q
noncomputable def aaY (K:PySem.W.Frag):R2:=λx y H Q=>∃(p q d1 d2 l1 l2:Addr) (ka kb:List (Key×V)) (dl:D),x=.ref p/\y=.ref q/\bS K H p [.ref d1,.ref l1]/\bS K H q [.ref d2,.ref l2]/\H d1=some (.dK ka)/\H d2=some (.dK kb)/\ka.length=kb.length/\(∀kv∈ka,∃u d,bD kb kv.1=some u/\fC K H kv.2 d/\fC K H u d/\d.dep<=60)/\fC K H (.ref l1) dl/\fC K H (.ref l2) dl/\dl.dep<=60/\Q (.bl true) H
theorem F0 {pins:List (Addr×Obj)}{σ:St}{H:Hp}{s:Shared}(I:Inv X pins σ H s) {A:Around}(hu:A.units+62 < cLine) {a b:Addr}{ka kb:List (Key×V)}(ha:H a=some (.dK ka)) (hb:H b=some (.dK kb)) (hl:ka.length=kb.length) (hv:∀kv∈ka,∃u d,bD kb kv.1=some u/\fC X.K H kv.2 d/\fC X.K H u d/\d.dep<=60) :
  ∀(E:Value->Shared->Prop) (Q:Bool->Shared->Prop),Q true s->wpAny (model X.prog X.w) A (eqBool (.ref a) (.ref b)) Q E s:=by
 intro E Q q;obtain⟨z1,n1,v1,r1,d1⟩:=ke I.bR ha;obtain⟨z2,n2,v2,r2,d2⟩:=ke I.bR hb;have l1:=r1.length;have l2:=r2.length;unfold eqBool;refine wpAny_holding (wpAny_ite_split (λ_=>wpAny_bind (wpAny_rule (wpAny_pure q))) λ_=>?_);refine wpAny_bind (PySem.W.keq_eq (r:=true) n1 n2 d1 d2 (by omega) (λ_=>keq_hits I r2 (by show A.units+1+60 < cLine; omega) r1 hv) ?_);rw [show(v1.length == v2.length&&true)=true by simp; omega];exact wpAny_truthy_bool q
end
section
open AutoSeq1 (wpAny_loadPart')
variable {prog:Program}{w:World}{A:Around}{E:Value->Shared->Prop}{s:Shared}
theorem Np {l b:Addr}{x1 x2 y1 y2:Value}{Q:Value->Shared->Prop}(hl:s.heap.IsTuple l #[x1,x2]) (hb:s.heap.IsTuple b #[y1,y2]) (hu:A.units < cLine)
  (h1:∀(E:Value->Shared->Prop) (R:Bool->Shared->Prop),R true s->wpAny (model prog w) A.in1 (eqBool x1 y1) R E s)
  (h2:∀(E:Value->Shared->Prop) (R:Bool->Shared->Prop),R true s->wpAny (model prog w) A.in1 (eqBool x2 y2) R E s) (q:Q (.bool true) s):wpAny (model prog w) A (compareOp .Eq (.ref l) (.ref b)) Q E s:=by
 obtain⟨⟨cls,dd,data,sl⟩,ho,hc,n,hd⟩:=hl;obtain⟨⟨aaI,dd2,data2,sl2⟩,FE,MT,n2,hd2⟩:=hb;simp only at hc hd MT hd2;subst hc hd MT hd2;refine wpAny_richCompare_same_room (op:=.Eq) ⟨_,ho,rfl⟩ ⟨_,FE,rfl⟩ F.slot_tuple_eq (wpAny_call_entry F.slot_tuple_eq ⟨_,ho,rfl⟩ F.entry_tuple_eq ?_ (F.args_tuple_eq_2 _ _)) hu;obtain⟨hp,g,d,tk,os⟩:=s;have f2:=AutoSeq1.sub_tuple_tuple
 wp_walk using wpAny_loadPart' ho,wpAny_loadPart' FE,wpAny_forIn_list _ (λrest b s'=>b.1=none/\s'=⟨hp,g,d,tk,os⟩/\(rest=[(x1,y1),(x2,y2)]\/rest=[(x2,y2)]\/rest=[])) _
 case turn=>
  rintro⟨y,x⟩ rest b s' ⟨hb',rfl,hr | hr | hr⟩
  ·cases hr;refine wpAny_bind (h1 _ _ ?_)
   wp_walk
   exact⟨rfl,rfl,.inr (.inl rfl)⟩
  ·cases hr;refine wpAny_bind (h2 _ _ ?_)
   wp_walk
   exact⟨rfl,rfl,.inr (.inr rfl)⟩
  ·cases hr
 case fin=>
  rintro⟨b1,b2⟩ s' ⟨hb',rfl,hr⟩;simp only at hb';subst hb'
  wp_walk
  exact⟨_,rfl,(λz=>nomatch z),q⟩
 case h=>
  exact⟨rfl,rfl,.inl rfl⟩
end
section
variable {X:Cx}
theorem S8 (hu:X.A.units+64 < cLine):kX X (compareOp .Eq) (aaY X.K):=by
 intro pins s σ H x y v u Q I rx ry h;obtain⟨p,q,d1,d2,l1,l2,ka,kb,dl,rfl,rfl,hp,hq,h1,h2,hl,hv,i1,i2,hd,qq⟩:=h;cases rx;cases ry;obtain⟨it1,r1,p1,_⟩:=I.tuple hp;obtain⟨it2,r2,p2,_⟩:=I.tuple hq
 cases r1 with
 | cons ra t=>cases t with
  | cons rb t=>cases t with
   | nil=>cases r2 with
    | cons rc t=>cases t with
     | cons rd t=>cases t with
      | nil=>
       cases ra;cases rb;cases rc;cases rd;refine Np p1 p2 (by omega) (F0 I (by show X.A.units+1+62 < cLine; omega) h1 h2 hl hv) (λE R r=>?_) ⟨.bl true,H,I,rfl,qq⟩;have k:=ku I i1 (A:=X.A.in1) (by show X.A.units+1+_ < cLine; omega) i2 (u:=.ref l1) (v:=.ref l2) rfl rfl;rw [dm] at k;exact k _ _ _ _ r
end
section
variable {X:Cx}
theorem Ck (hc:X.calm=true):eX X (.type "list") (λxs H Q=>∃(p a:Addr) (kvs:List (Key×V)),xs=[.ref p]/\H p=some (.ext λh=>h.IsValuesView p a)/\Rd H a (.dK kvs)/\∀l,H l=none->Q (.ref l) (upd H l (.lst (kvs.map (·.2))))):=by
 intro pins s σ H xs us Q I r h;obtain⟨p,a,kvs,rfl,hp,hq,q⟩:=h;obtain⟨u,rfl,rx⟩:=vals1 r;cases rx;obtain⟨z,hd,vs,rel,dd⟩:=gp I.bR hq;obtain⟨ep,dat⟩:=dd.dictAt;have hv:=(I.bR p _ hp).1;refine PySem.W.kdl_call PySem.W.kdl_values (I.ok.hd hc) ⟨hv,dat⟩ (by rw [<-rel.length]; exact z) λh' tk uS c' kp e it=>?_
 have hvs:Vals (kvs.map (·.2)) uS.toList:=pq (by rw [List.length_map,rel.length,<-it.1,Array.length_toList]) λi x u hx hu=>by
  obtain⟨k,ek⟩:=it.2 i u (by rw [<-Array.getElem?_toList]; exact hu);rw [List.getElem?_map] at hx
  cases e2:kvs[i]? with
  | none=>rw [e2] at hx; cases hx
  | some y=>
   rw [e2] at hx;cases hx;exact rel.xw e2 ek
 exact⟨.ref s.heap.objs.size,_,I.laid (t':=tk) kp (Nat.le_refl _) (show cJ X.prog X.w _ h' _ (.lst (kvs.map (·.2))) from⟨by rw [List.length_map]; exact z,uS.toList,c',hvs,by simpa using e⟩),rfl,q _ (I.bR.fresh (Nat.le_refl _))⟩
end
end L2
set_option Elab.async false
set_option linter.all false
set_option maxRecDepth 100000
set_option maxHeartbeats 4000000
namespace S9
open PySem L2
local macro_rules | `(tactic| dsimp! [$xs,*]) => do
  let ls ← ("WK N4 WL WM tIf tB N_ Wh tUn BO tC Sf rI rU MH nC R7 Eh R8 N5 sO BY El tCB tBM W7 Hb Hc tSl Oc Em WV WW WE tOr WG N3 WH GV _root_.L2.start rEq rNe MV MW MX MY MZ WX Sn Sx List.map_cons List.map_nil List.length_cons List.length_nil List.replicate_succ List.replicate_zero Nat.reduceAdd Nat.reduceSub Nat.zero_add Nat.sub_self Nat.zero_le List.cons_append List.nil_append List.append_nil List.set_cons_zero List.set_cons_succ List.getElem?_cons_zero List.getElem?_cons_succ Option.some.injEq V.int.injEq V.bl.injEq V.ref.injEq V.ty.injEq V.str.injEq List.cons.injEq exists_eq_left' exists_eq_left exists_eq_right exists_and_left exists_const true_and and_true Bool.not_true Bool.not_false Bool.false_eq_true if_true if_false reduceCtorEq false_and and_false false_or or_false exists_false decide_true decide_false eq_self and_assoc Int.toNat_natCast tLc Oj Es N8 N7 WQ SS Ou G8 WN ipI HF Om Xo Ew Oo HH HK HL Oq Ot HQ HZ".splitOn " ").toArray.mapM fun s => `(Lean.Parser.Tactic.simpLemma| $(Lean.mkIdent s.toName):ident)
  `(tactic| simp only [$ls,*, $xs,*])
noncomputable def top (i:Nat):Stmt:=PySem.Challenge.pw_heapsafe_k16_closed_sets.main.body.getD i (.Pass ⟨0,0,0,0⟩)
noncomputable abbrev IJ:Stmt:=top 3
noncomputable abbrev IK:Stmt:=top 4
noncomputable abbrev IL:Stmt:=inClass (top 5) 0
noncomputable abbrev IM:Stmt:=inClass (top 5) 1
noncomputable abbrev IP:Stmt:=inClass (top 5) 2
noncomputable abbrev Ox:Stmt:=inClass (top 5) 5
noncomputable abbrev IQ:Stmt:=inClass (top 6) 0
noncomputable abbrev Oy:Stmt:=inClass (top 6) 2
noncomputable abbrev IS:Stmt:=inClass (top 6) 3
noncomputable abbrev IT:Stmt:=inClass (top 6) 4
noncomputable abbrev S_:Stmt:=inClass (top 7) 0
noncomputable abbrev IU:Stmt:=top 8
noncomputable abbrev IV:Stmt:=top 9
noncomputable abbrev IW:Stmt:=top 10
noncomputable abbrev IY:Stmt:=top 12
noncomputable abbrev IZ:Stmt:=top 13
noncomputable abbrev I0:Stmt:=top 14
noncomputable abbrev I_:Stmt:=top 15
noncomputable abbrev Ja:Stmt:=top 16
noncomputable abbrev Jb:Stmt:=top 17
noncomputable abbrev Jc:Stmt:=top 18
noncomputable abbrev Jd:Stmt:=inClass (top 19) 0
noncomputable abbrev Je:Stmt:=inClass (top 19) 1
noncomputable abbrev Jf:Stmt:=inClass (top 19) 2
noncomputable abbrev Jg:Stmt:=inClass (top 19) 3
noncomputable abbrev Jh:Stmt:=inClass (top 19) 4
noncomputable abbrev Ji:Stmt:=top 20
noncomputable abbrev Jj:Stmt:=top 21
noncomputable abbrev Jk:Stmt:=top 22
noncomputable abbrev Jl:Stmt:=top 23
noncomputable abbrev Jm:Stmt:=top 24
noncomputable abbrev Oz:Stmt:=top 35
noncomputable abbrev Jn:Stmt:=top 36
noncomputable abbrev Jo:Stmt:=top 37
noncomputable abbrev Jp:Stmt:=top 38
noncomputable abbrev Jq:Stmt:=top 39
noncomputable abbrev Jr:Stmt:=top 40
noncomputable abbrev Js:Stmt:=top 41
noncomputable abbrev Jt:Stmt:=top 42
noncomputable abbrev Ju:Stmt:=top 43
noncomputable abbrev Jv:Stmt:=top 44
noncomputable abbrev Jw:Stmt:=top 45
noncomputable abbrev Jx:Stmt:=top 46
noncomputable abbrev Jy:Stmt:=top 47
noncomputable abbrev Jz:Stmt:=top 48
noncomputable abbrev JA:Stmt:=top 49
noncomputable abbrev JB:Stmt:=top 50
noncomputable abbrev JC:Stmt:=top 51
noncomputable abbrev Ta:Stmt:=inClass (top 53) 0
noncomputable abbrev Tb:Stmt:=inClass (top 53) 1
noncomputable abbrev Tc:Stmt:=inClass (top 53) 2
noncomputable abbrev Td:Stmt:=inClass (top 53) 3
noncomputable abbrev Te:Stmt:=inClass (top 53) 4
noncomputable abbrev Tf:Stmt:=inClass (top 53) 5
noncomputable abbrev Th:Stmt:=inClass (top 53) 6
noncomputable abbrev Ti:Stmt:=inClass (top 53) 7
noncomputable abbrev Tj:Stmt:=inClass (top 53) 8
noncomputable abbrev JD:Stmt:=inClass (top 55) 0
noncomputable abbrev JE:Stmt:=inClass (top 55) 1
noncomputable abbrev JF:Stmt:=inClass (top 55) 2
noncomputable abbrev JG:Stmt:=inClass (top 55) 3
noncomputable abbrev JH:Stmt:=inClass (top 55) 4
noncomputable abbrev JI:Stmt:=inClass (top 55) 5
noncomputable abbrev JJ:Stmt:=inClass (top 55) 9
noncomputable abbrev JK:Stmt:=inClass (top 55) 10
noncomputable abbrev OA:Stmt:=inClass (top 55) 11
noncomputable abbrev JL:Stmt:=inClass (top 55) 12
noncomputable abbrev JM:Stmt:=top 57
noncomputable abbrev JN:Stmt:=top 58
noncomputable abbrev JO:Stmt:=top 59
noncomputable abbrev JP:Stmt:=top 60
noncomputable abbrev JQ:Stmt:=top 61
noncomputable abbrev JR:Stmt:=top 62
noncomputable abbrev JS:Stmt:=top 63
noncomputable abbrev JT:Stmt:=top 64
noncomputable abbrev JU:Stmt:=top 65
noncomputable abbrev JV:Stmt:=top 66
noncomputable abbrev JW:Stmt:=top 67
noncomputable abbrev JX:Stmt:=top 68
noncomputable abbrev JY:Stmt:=top 69
noncomputable abbrev JZ:Stmt:=top 70
noncomputable abbrev J0:Stmt:=top 71
noncomputable abbrev xH:Stmt:=top 72
noncomputable abbrev J1:Stmt:=top 73
noncomputable abbrev J2:Stmt:=top 74
noncomputable abbrev J3:Stmt:=top 75
noncomputable abbrev J4:Stmt:=top 76
noncomputable abbrev lz:Stmt:=top 77
theorem df {N P:List Str}{sc:Scope}(h1:sc.kind=.function:=by rfl) (h2:sc.isCoroutine=false:=by rfl) (h3:sc.isGenerator=false:=by rfl) (h5:N.take P.length=P:=by rfl) (h:(decide N.Nodup&&(P.all (λx=>sc.names.lookup x == some .local || sc.names.lookup x == some .cell)&&sc.names.all λy=>y.2 != .free))=true:=by decide +kernel):aB N P sc:=by
 simp only [Bool.and_eq_true,List.all_eq_true,Bool.or_eq_true,decide_eq_true_eq,beq_iff_eq,bne_iff_ne] at h;exact⟨h1,h2,h3,h.1,h5,h.2.1,h.2.2⟩
theorem Tn:aB ["value"] ["value"] (ao IJ):=df
theorem To:aB ["some"] ["some"] (ao IK):=df
theorem Tp:aB ["self","sort","some"] ["self","sort","some"] (ao IL):=df
theorem Tq:aB ["self"] ["self"] (ao IM):=df
theorem Tr:aB ["self"] ["self"] (ao IP):=df
theorem Ts:aB ["self","some","last_words"] ["self","some","last_words"] (ao IQ):=df
theorem Tt:aB ["self","at","value"] ["self","at","value"] (ao IS):=df
theorem Tu:aB ["self","words"] ["self","words"] (ao IT):=df
theorem XG:aB ["self","key","value"] ["self","key","value"] (ao S_):=df
theorem Tv:aB ["fields","words"] ["fields","words"] (ao IU):=df
theorem Tw:aB ["field"] ["field"] (ao IV):=df
theorem Tx:aB ["key","value"] ["key","value"] (ao IW):=df
theorem Cm:aB ["heap","named","heard"] ["heap"] (ao IY):=df
theorem Tz:aB ["some"] ["some"] (ao IZ):=df
theorem TB:aB ["thing"] ["thing"] (ao I0):=df
theorem TC:aB ["thing"] ["thing"] (ao I_):=df
theorem TF:aB ["thing"] ["thing"] (ao Ja):=df
theorem TH:aB ["thing","members"] ["thing","members"] (ao Jb):=df
theorem Cn:aB ["things","some","members","serial"] ["things","some"] (ao Jc):=df
theorem TJ:aB ["self","things","some"] ["self","things","some"] (ao Jd):=df
theorem J5:aB ["self","names","how","other","name"] ["self","names","how","other"] (ao Je):=df
theorem TK:aB ["self","serial"] ["self","serial"] (ao Jf):=df
theorem uZ:aB ["self","serial","thing","key","other"] ["self","serial"] (ao Jg):=df
theorem Cp:aB ["self","at"] ["self"] (ao Jh):=df
theorem TL:aB ["things","some"] ["things","some"] (ao Ji):=df
theorem TM:aB ["things","some"] ["things","some"] (ao Jj):=df
theorem pH:aB ["things","some","sort","members","blind","serial","first"] ["things","some","sort"] (ao Jk):=df
theorem TN:aB ["things","some"] ["things","some"] (ao Jl):=df
theorem TQ:aB ["things","some"] ["things","some"] (ao Jm):=df
theorem TR:aB ["heap","letter","sort"] ["heap","letter","sort"] (ao Jn):=df
theorem TU:aB ["heap","deed"] ["heap","deed"] (ao Jo):=df
theorem Cq:aB ["heap","deed","wanted","many"] ["heap","deed"] (ao Jp):=df
theorem TV:aB ["heap","deed"] ["heap","deed"] (ao Jq):=df
theorem TX:aB ["heap","deed"] ["heap","deed"] (ao Jr):=df
theorem TY:aB ["heap","deed"] ["heap","deed"] (ao Js):=df
theorem TZ:aB ["heap","deed"] ["heap","deed"] (ao Jt):=df
theorem T1:aB ["heap","deed"] ["heap","deed"] (ao Ju):=df
theorem T2:aB ["heap","deed"] ["heap","deed"] (ao Jv):=df
theorem T3:aB ["heap","deed"] ["heap","deed"] (ao Jw):=df
theorem J6:aB ["heap","deed","some"] ["heap","deed"] (ao Jx):=df
theorem T4:aB ["heap","deed"] ["heap","deed"] (ao Jy):=df
theorem T5:aB ["heap","deed"] ["heap","deed"] (ao Jz):=df
theorem J7:aB ["heap","deed","value"] ["heap","deed"] (ao JA):=df
theorem T6:aB ["heap","deed"] ["heap","deed"] (ao JB):=df
theorem J8:aB ["heap","deed","first"] ["heap","deed"] (ao JC):=df
theorem XH:aB ["self"] ["self"] (ao Ta):=df
theorem XI:aB ["self","letter"] ["self","letter"] (ao Tb):=df
theorem XJ:aB ["self","letter","value"] ["self","letter","value"] (ao Tc):=df
theorem XM:aB ["self","letter"] ["self","letter"] (ao Td):=df
theorem XN:aB ["self","letter"] ["self","letter"] (ao Te):=df
theorem XO:aB ["self","name"] ["self","name"] (ao Tf):=df
theorem XQ:aB ["self"] ["self"] (ao Th):=df
theorem XR:aB ["self","deed"] ["self","deed"] (ao Ti):=df
theorem XS:aB ["self","deed"] ["self","deed"] (ao Tj):=df
theorem T7:aB ["self"] ["self"] (ao JD):=df
theorem J9:aB ["self","deed","refused"] ["self","deed"] (ao JE):=df
theorem T8:aB ["self","name"] ["self","name"] (ao JF):=df
theorem J_:aB ["self","thing","serial"] ["self","thing"] (ao JG):=df
theorem T9:aB ["self","name","at","value"] ["self","name","at","value"] (ao JH):=df
theorem T_:aB ["self","name","words"] ["self","name","words"] (ao JI):=df
theorem Ua:aB ["self"] ["self"] (ao JJ):=df
theorem Ub:aB ["self"] ["self"] (ao JK):=df
theorem Uc:aB ["self"] ["self"] (ao JL):=df
theorem Ud:aB ["_law_script","_law_k"] ["_law_script","_law_k"] (ao JM):=df
theorem Ka:aB ["_law_cell","_law_mode","_law_number"] ["_law_cell","_law_mode"] (ao JN):=df
theorem gi:aB ["_law_cell","_law_mode","_law_words","_law_letters","_law_many","_law_number","_law_word","_law_one","_law_two","_law_three","_law_at"] ["_law_cell","_law_mode"] (ao JO):=df
theorem Ue:aB ["_law_state","_law_root"] ["_law_state","_law_root"] (ao JP):=df
theorem Kb:aB ["_law_state","_law_root","_law_sort","_law_value_here"] ["_law_state","_law_root","_law_sort"] (ao JQ):=df
theorem Ug:aB ["_law_state","_law_root","_law_value_here"] ["_law_state","_law_root","_law_value_here"] (ao JR):=df
theorem Kc:aB ["_law_deed","_law_word"] ["_law_deed"] (ao JS):=df
theorem Cr:aB ["_law_state","_law_deed","_law_root","_law_sort"] ["_law_state","_law_deed"] (ao JT):=df
theorem Kd:aB ["_law_state","_law_deed","_law_serial"] ["_law_state","_law_deed"] (ao JU):=df
theorem Cs:aB ["_law_state","_law_deed","_law_word","_law_row"] ["_law_state","_law_deed"] (ao JV):=df
theorem u_:aB ["_law_state","_law_deed","_law_value_here","_law_serial","_law_words"] ["_law_state","_law_deed"] (ao JW):=df
theorem kz:aB ["_law_state","_law_deed","_law_word","_law_refusal_here","_law_serial","_law_sort","_law_fields","_law_words"] ["_law_state","_law_deed"] (ao JX):=df
theorem pI:aB ["_law_state","_law_found","_law_root","_law_serial","_law_words"] ["_law_state"] (ao JY):=df
theorem gj:aB ["_law_things","_law_some","_law_there","_law_serial","_law_many","_law_sort","_law_fields","_law_words","_law_wanted","_law_value_here"] ["_law_things","_law_some"] (ao JZ):=df
theorem vc:aB ["_law_things","_law_some","_law_sort","_law_found","_law_serial","_law_value_here"] ["_law_things","_law_some","_law_sort"] (ao J0):=df
theorem Ct:aB ["_law_found","_law_due","_law_key","_law_k"] ["_law_found","_law_due"] (ao xH):=df
theorem pJ:aB ["_law_script","_law_mode","_law_heap","_law_state","_law_cell","_law_deed"] ["_law_script","_law_mode"] (ao J1):=df
theorem kA:aB ["_law_things","_law_row","_law_there","_law_serial","_law_why","_law_other","_law_sort","_law_fields","_law_words"] ["_law_things","_law_row","_law_there"] (ao J2):=df
theorem Cu:aB ["_law_rows","_law_things","_law_some","_law_there","_law_row"] ["_law_rows","_law_things","_law_some"] (ao J3):=df
theorem vd:aB ["_law_things","_law_some","_law_handed","_law_due","_law_found"] ["_law_things","_law_some"] (ao J4):=df
theorem fF:aB ["_law_script","_law_mode","_law_heap","_law_state","_law_things","_law_sets","_law_k","_law_bits","_law_some","_law_serial"] ["_law_script"] (ao lz):=df
set_option genInjectivity false in
set_option genSizeOfSpec false in
structure ft where
 xI:Addr
 xJ:FuncData
 xK:Addr
 xM:FuncData
 tE:Addr
 xN:FuncData
 pK:Addr
 xO:FuncData
 pL:Addr
 xP:FuncData
 xQ:Addr
 EO:FuncData
 xR:Addr
 xS:FuncData
 ER:Addr
 ES:FuncData
 xT:Addr
 xU:FuncData
 xV:Addr
 xW:FuncData
 Ke:Addr
 Kf:FuncData
 xX:Addr
 xY:FuncData
 xZ:Addr
 x_:FuncData
 ya:Addr
 yb:FuncData
 yc:Addr
 yd:FuncData
 ye:Addr
 yf:FuncData
 yg:Addr
 yh:FuncData
 yi:Addr
 yj:FuncData
 yk:Addr
 yl:FuncData
 ym:Addr
 yn:FuncData
 yo:Addr
 yp:FuncData
 yq:Addr
 yr:FuncData
 yt:Addr
 yu:FuncData
 yv:Addr
 yw:FuncData
 yx:Addr
 yy:FuncData
 yz:Addr
 yA:FuncData
 yB:Addr
 yC:FuncData
 yD:Addr
 yE:FuncData
 yF:Addr
 yG:FuncData
 yH:Addr
 yI:FuncData
 yJ:Addr
 yK:FuncData
 yL:Addr
 yM:FuncData
 yN:Addr
 yO:FuncData
 yP:Addr
 yQ:FuncData
 yR:Addr
 yS:FuncData
 yT:Addr
 yU:FuncData
 nF:Addr
 yV:FuncData
 iX:Addr
 yW:FuncData
 nG:Addr
 yX:FuncData
 nH:Addr
 yY:FuncData
 nJ:Addr
 yZ:FuncData
 nK:Addr
 y_:FuncData
 nM:Addr
 za:FuncData
 nN:Addr
 zb:FuncData
 nO:Addr
 zc:FuncData
 nP:Addr
 zd:FuncData
 nQ:Addr
 ze:FuncData
 nR:Addr
 zf:FuncData
 F1:Addr
 Kg:FuncData
 F2:Addr
 Kh:FuncData
 F3:Addr
 Ki:FuncData
 F4:Addr
 Kj:FuncData
 F5:Addr
 Kk:FuncData
 F6:Addr
 Kl:FuncData
 F7:Addr
 Km:FuncData
 F8:Addr
 Kn:FuncData
 F9:Addr
 Ko:FuncData
 zg:Addr
 zh:FuncData
 zi:Addr
 zj:FuncData
 zk:Addr
 zl:FuncData
 zm:Addr
 zo:FuncData
 zp:Addr
 zq:FuncData
 zr:Addr
 zt:FuncData
 zu:Addr
 zx:FuncData
 zy:Addr
 zz:FuncData
 ET:Addr
 EU:FuncData
 zA:Addr
 zB:FuncData
 zC:Addr
 zD:FuncData
 zE:Addr
 zF:FuncData
 zG:Addr
 zH:FuncData
 zI:Addr
 zJ:FuncData
 zK:Addr
 zL:FuncData
 zM:Addr
 zN:FuncData
 zO:Addr
 zP:FuncData
 zQ:Addr
 zR:FuncData
 zS:Addr
 zT:FuncData
 zU:Addr
 zV:FuncData
 zW:Addr
 zX:FuncData
 zY:Addr
 zZ:FuncData
 z_:Addr
 Aa:FuncData
 Ab:Addr
 Ac:FuncData
 Ad:Addr
 Ae:FuncData
 pM:Addr
 tF:FuncData
 Af:Addr
 Ag:FuncData
 Ah:Addr
 Ai:FuncData
 Aj:Addr
 Ak:FuncData
 Al:Addr
 Am:FuncData
 tG:Addr
 OB:FuncData
 cT:Addr
 aP:Addr
 bB:Addr
 aT:Addr
 OC:Addr
 Wo:Addr
 Wq:Addr
 XT:Addr
 cq:Addr
 aO:Addr
 bJ:Addr
 iM:Tok
 iN:Tok
 gM:Addr
 eC:Addr
 eD:Addr
 eE:Addr
 eF:Addr
 eG:Addr
 eI:Addr
 eJ:Addr
 eK:Addr
 eO:Addr
 eP:Addr
 eQ:Addr
 eR:Addr
 eS:Addr
 dG:Addr
 dH:Addr
 cO:Addr
 cj:Addr
 ck:Addr
 gO:Addr
structure Txt (K:PySem.W.Frag) (mg:Str->Option Value) (a:ft):Prop where
 nS:cN K "is_thing" "is_thing" IJ a.xI a.xJ
 EV:Binds K a.xJ ["value"] []
 EW:mg "is_thing"=some (.ref a.xI)
 lA:cN K "names_in" "names_in" IK a.xK a.xM
 An:Binds K a.xM ["some"] []
 Ao:mg "names_in"=some (.ref a.xK)
 tH:cN K "__init__" "Thing.__init__" IL a.tE a.xN
 EX:Binds K a.xN ["self","sort","some"] []
 Ap:Mk K a.cT a.tE
 pN:cN K "sort_of" "Thing.sort_of" IM a.pK a.xO
 EY:Binds K a.xO ["self"] []
 Kq:Meth K a.cT "sort_of" a.pK
 pO:cN K "fields" "Thing.fields" IP a.pL a.xP
 ie:Binds K a.xP ["self"] []
 pP:Meth K a.cT "fields" a.pL
 Aq:cN K "words" "Thing.words" Ox a.xQ a.EO
 XU:Binds K a.EO ["self"] []
 Uh:Meth K a.cT "words" a.xQ
 Ar:cN K "__init__" "PlainThing.__init__" IQ a.xR a.xS
 EZ:Binds K a.xS ["self","some","last_words"] []
 fN:Mk K a.aP a.xR
 E1:cN K "words" "PlainThing.words" Oy a.ER a.ES
 XW:Binds K a.ES ["self"] []
 Ui:Meth K a.aP "words" a.ER
 As:cN K "with_field" "PlainThing.with_field" IS a.xT a.xU
 OD:Binds K a.xU ["self","at","value"] []
 Kr:Meth K a.aP "with_field" a.xT
 Au:cN K "with_words" "PlainThing.with_words" IT a.xV a.xW
 OE:Binds K a.xW ["self","words"] []
 Ks:Meth K a.aP "with_words" a.xV
 Kt:cN K "__init__" "PairThing.__init__" S_ a.Ke a.Kf
 XX:Binds K a.Kf ["self","key","value"] []
 lB:Mk K a.bB a.Ke
 tI:cN K "plain" "plain" IU a.xX a.xY
 OF:Binds K a.xY ["fields","words"] []
 OG:mg "plain"=some (.ref a.xX)
 tJ:cN K "weak" "weak" IV a.xZ a.x_
 OH:Binds K a.x_ ["field"] []
 OI:mg "weak"=some (.ref a.xZ)
 tK:cN K "pair" "pair" IW a.ya a.yb
 OJ:Binds K a.yb ["key","value"] []
 OK:mg "pair"=some (.ref a.ya)
 tL:cN K "open_things" "open_things" IY a.yc a.yd
 OL:Binds K a.yd ["heap"] []
 OM:mg "open_things"=some (.ref a.yc)
 nT:cN K "members_of" "members_of" IZ a.ye a.yf
 E2:Binds K a.yf ["some"] []
 E3:mg "members_of"=some (.ref a.ye)
 pQ:cN K "held_by" "held_by" I0 a.yg a.yh
 Ku:Binds K a.yh ["thing"] []
 Kv:mg "held_by"=some (.ref a.yg)
 pR:cN K "pair_key" "pair_key" I_ a.yi a.yj
 Kw:Binds K a.yj ["thing"] []
 Kx:mg "pair_key"=some (.ref a.yi)
 pS:cN K "pair_value" "pair_value" Ja a.yk a.yl
 Ky:Binds K a.yl ["thing"] []
 Kz:mg "pair_value"=some (.ref a.yk)
 tM:cN K "wanted_by" "wanted_by" Jb a.ym a.yn
 ON:Binds K a.yn ["thing","members"] []
 OO:mg "wanted_by"=some (.ref a.ym)
 pT:cN K "is_closed" "is_closed" Jc a.yo a.yp
 KA:Binds K a.yp ["things","some"] []
 KC:mg "is_closed"=some (.ref a.yo)
 Av:cN K "__init__" "Reasons.__init__" Jd a.yq a.yr
 OP:Binds K a.yr ["self","things","some"] []
 pU:Mk K a.aT a.yq
 Aw:cN K "bring" "Reasons.bring" Je a.yt a.yu
 KD:Binds K a.yu ["self","names","how","other"] []
 Cv:Meth K a.aT "bring" a.yt
 Ax:cN K "bring_value" "Reasons.bring_value" Jf a.yv a.yw
 KG:Binds K a.yw ["self","serial"] []
 Cw:Meth K a.aT "bring_value" a.yv
 Ay:cN K "go_on_from" "Reasons.go_on_from" Jg a.yx a.yy
 OQ:Binds K a.yy ["self","serial"] []
 KH:Meth K a.aT "go_on_from" a.yx
 Az:cN K "grown" "Reasons.grown" Jh a.yz a.yA
 OR:Binds K a.yA ["self"] []
 KI:Meth K a.aT "grown" a.yz
 pV:cN K "why_kept" "why_kept" Ji a.yB a.yC
 KJ:Binds K a.yC ["things","some"] []
 KL:mg "why_kept"=some (.ref a.yB)
 tN:cN K "least_closed" "least_closed" Jj a.yD a.yE
 OS:Binds K a.yE ["things","some"] []
 OT:mg "least_closed"=some (.ref a.yD)
 pW:cN K "blind_of_sort" "blind_of_sort" Jk a.yF a.yG
 KN:Binds K a.yG ["things","some","sort"] []
 KO:mg "blind_of_sort"=some (.ref a.yF)
 tO:cN K "blind_weak" "blind_weak" Jl a.yH a.yI
 OU:Binds K a.yI ["things","some"] []
 OV:mg "blind_weak"=some (.ref a.yH)
 tP:cN K "blind_pairs" "blind_pairs" Jm a.yJ a.yK
 OW:Binds K a.yK ["things","some"] []
 OX:mg "blind_pairs"=some (.ref a.yJ)
 AA:cN K "refuse" "refuse" Oz a.yL a.yM
 OY:Binds K a.yM ["word"] []
 OZ:mg "refuse"=some (.ref a.yL)
 tQ:cN K "has_sort" "has_sort" Jn a.yN a.yO
 O0:Binds K a.yO ["heap","letter","sort"] []
 O1:mg "has_sort"=some (.ref a.yN)
 tR:cN K "lacks_thing" "lacks_thing" Jo a.yP a.yQ
 O2:Binds K a.yQ ["heap","deed"] []
 O3:mg "lacks_thing"=some (.ref a.yP)
 tS:cN K "lacks_field" "lacks_field" Jp a.yR a.yS
 O4:Binds K a.yS ["heap","deed"] []
 O5:mg "lacks_field"=some (.ref a.yR)
 tT:cN K "new_thing" "new_thing" Jq a.yT a.yU
 O6:Binds K a.yU ["heap","deed"] []
 O7:mg "new_thing"=some (.ref a.yT)
 pX:cN K "do_num" "do_num" Jr a.nF a.yV
 O8:Binds K a.yV ["heap","deed"] []
 XY:mg "do_num"=some (.ref a.nF)
 lC:cN K "do_new" "do_new" Js a.iX a.yW
 O9:Binds K a.yW ["heap","deed"] []
 XZ:mg "do_new"=some (.ref a.iX)
 pY:cN K "do_words" "do_words" Jt a.nG a.yX
 O_:Binds K a.yX ["heap","deed"] []
 X0:mg "do_words"=some (.ref a.nG)
 pZ:cN K "do_put" "do_put" Ju a.nH a.yY
 Pa:Binds K a.yY ["heap","deed"] []
 X1:mg "do_put"=some (.ref a.nH)
 p_:cN K "do_get" "do_get" Jv a.nJ a.yZ
 Pb:Binds K a.yZ ["heap","deed"] []
 X2:mg "do_get"=some (.ref a.nJ)
 qa:cN K "do_look" "do_look" Jw a.nK a.y_
 Pc:Binds K a.y_ ["heap","deed"] []
 X3:mg "do_look"=some (.ref a.nK)
 qb:cN K "do_find" "do_find" Jx a.nM a.za
 Pf:Binds K a.za ["heap","deed"] []
 X4:mg "do_find"=some (.ref a.nM)
 qc:cN K "do_copy" "do_copy" Jy a.nN a.zb
 Pg:Binds K a.zb ["heap","deed"] []
 X5:mg "do_copy"=some (.ref a.nN)
 qd:cN K "do_drop" "do_drop" Jz a.nO a.zc
 Ph:Binds K a.zc ["heap","deed"] []
 X6:mg "do_drop"=some (.ref a.nO)
 qe:cN K "do_tell" "do_tell" JA a.nP a.zd
 Pj:Binds K a.zd ["heap","deed"] []
 X7:mg "do_tell"=some (.ref a.nP)
 qf:cN K "do_same" "do_same" JB a.nQ a.ze
 Pk:Binds K a.ze ["heap","deed"] []
 X8:mg "do_same"=some (.ref a.nQ)
 qg:cN K "do_hear" "do_hear" JC a.nR a.zf
 Pl:Binds K a.zf ["heap","deed"] []
 X9:mg "do_hear"=some (.ref a.nR)
 F_:cN K "__init__" "DeedHeap.__init__" Ta a.F1 a.Kg
 X_:Binds K a.Kg ["self"] []
 AB:Mk K a.cq a.F1
 Ga:cN K "root" "DeedHeap.root" Tb a.F2 a.Kh
 oo:Binds K a.Kh ["self","letter"] []
 Ya:Meth K a.cq "root" a.F2
 Gb:cN K "set_root" "DeedHeap.set_root" Tc a.F3 a.Ki
 ve:Binds K a.Ki ["self","letter","value"] []
 Yb:Meth K a.cq "set_root" a.F3
 Gd:cN K "name_in" "DeedHeap.name_in" Td a.F4 a.Kj
 KP:Binds K a.Kj ["self","letter"] []
 Yc:Meth K a.cq "name_in" a.F4
 Ge:cN K "thing_in" "DeedHeap.thing_in" Te a.F5 a.Kk
 KQ:Binds K a.Kk ["self","letter"] []
 Yd:Meth K a.cq "thing_in" a.F5
 Gf:cN K "looked_at" "DeedHeap.looked_at" Tf a.F6 a.Kl
 Ye:Binds K a.Kl ["self","name"] []
 Yf:Meth K a.cq "looked_at" a.F6
 Gg:cN K "hear_first" "DeedHeap.hear_first" Th a.F7 a.Km
 Yg:Binds K a.Km ["self"] []
 Yh:Meth K a.cq "hear_first" a.F7
 Gh:cN K "refusal" "DeedHeap.refusal" Ti a.F8 a.Kn
 Yi:Binds K a.Kn ["self","deed"] []
 Yj:Meth K a.cq "refusal" a.F8
 Gi:cN K "done" "DeedHeap.done" Tj a.F9 a.Ko
 Yk:Binds K a.Ko ["self","deed"] []
 Yl:Meth K a.cq "done" a.F9
 AD:cN K "__init__" "PlainHeap.__init__" JD a.zg a.zh
 Pm:Binds K a.zh ["self"] []
 lD:Mk K a.aO a.zg
 AE:cN K "do" "PlainHeap.do" JE a.zi a.zj
 Pn:Binds K a.zj ["self","deed"] []
 KR:Meth K a.aO "do" a.zi
 AF:cN K "thing_of" "PlainHeap.thing_of" JF a.zk a.zl
 KS:Binds K a.zl ["self","name"] []
 Cy:Meth K a.aO "thing_of" a.zk
 AG:cN K "take_in" "PlainHeap.take_in" JG a.zm a.zo
 Po:Binds K a.zo ["self","thing"] []
 KU:Meth K a.aO "take_in" a.zm
 AH:cN K "change_field" "PlainHeap.change_field" JH a.zp a.zq
 Pp:Binds K a.zq ["self","name","at","value"] []
 KW:Meth K a.aO "change_field" a.zp
 AI:cN K "change_words" "PlainHeap.change_words" JI a.zr a.zt
 Pq:Binds K a.zt ["self","name","words"] []
 KY:Meth K a.aO "change_words" a.zr
 AJ:cN K "roots" "PlainHeap.roots" JJ a.zu a.zx
 Pt:Binds K a.zx ["self"] []
 KZ:Meth K a.aO "roots" a.zu
 AK:cN K "heard_row" "PlainHeap.heard_row" JK a.zy a.zz
 Pu:Binds K a.zz ["self"] []
 K0:Meth K a.aO "heard_row" a.zy
 E4:cN K "things" "PlainHeap.things" OA a.ET a.EU
 Ym:Binds K a.EU ["self"] []
 Uj:Meth K a.aO "things" a.ET
 AL:cN K "last" "PlainHeap.last" JL a.zA a.zB
 Pw:Binds K a.zB ["self"] []
 K1:Meth K a.aO "last" a.zA
 qh:cN K "_law_cell_at" "_law_cell_at" JM a.zC a.zD
 K2:Binds K a.zD ["_law_script","_law_k"] []
 K3:mg "_law_cell_at"=some (.ref a.zC)
 tU:cN K "_law_number_by" "_law_number_by" JN a.zE a.zF
 Px:Binds K a.zF ["_law_cell","_law_mode"] []
 Py:mg "_law_number_by"=some (.ref a.zE)
 tV:cN K "_law_deed_by" "_law_deed_by" JO a.zG a.zH
 Pz:Binds K a.zH ["_law_cell","_law_mode"] []
 PB:mg "_law_deed_by"=some (.ref a.zG)
 fg:cN K "_law_value" "_law_value" JP a.zI a.zJ
 gE:Binds K a.zJ ["_law_state","_law_root"] []
 gF:mg "_law_value"=some (.ref a.zI)
 tW:cN K "_law_thing" "_law_thing" JQ a.zK a.zL
 PD:Binds K a.zL ["_law_state","_law_root","_law_sort"] []
 PF:mg "_law_thing"=some (.ref a.zK)
 lE:cN K "_law_give" "_law_give" JR a.zM a.zN
 AM:Binds K a.zN ["_law_state","_law_root","_law_value_here"] []
 AN:mg "_law_give"=some (.ref a.zM)
 tX:cN K "_law_wants" "_law_wants" JS a.zO a.zP
 PJ:Binds K a.zP ["_law_deed"] []
 PK:mg "_law_wants"=some (.ref a.zO)
 qi:cN K "_law_refusal" "_law_refusal" JT a.zQ a.zR
 K4:Binds K a.zR ["_law_state","_law_deed"] []
 K5:mg "_law_refusal"=some (.ref a.zQ)
 tY:cN K "_law_made" "_law_made" JU a.zS a.zT
 PL:Binds K a.zT ["_law_state","_law_deed"] []
 PM:mg "_law_made"=some (.ref a.zS)
 t_:cN K "_law_brought" "_law_brought" JV a.zU a.zV
 PN:Binds K a.zV ["_law_state","_law_deed"] []
 PQ:mg "_law_brought"=some (.ref a.zU)
 ua:cN K "_law_answer" "_law_answer" JW a.zW a.zX
 PR:Binds K a.zX ["_law_state","_law_deed"] []
 PU:mg "_law_answer"=some (.ref a.zW)
 ub:cN K "_law_done" "_law_done" JX a.zY a.zZ
 PV:Binds K a.zZ ["_law_state","_law_deed"] []
 PX:mg "_law_done"=some (.ref a.zY)
 qj:cN K "_law_open" "_law_open" JY a.z_ a.Aa
 K6:Binds K a.Aa ["_law_state"] []
 K7:mg "_law_open"=some (.ref a.z_)
 qk:cN K "_law_closing" "_law_closing" JZ a.Ab a.Ac
 K8:Binds K a.Ac ["_law_things","_law_some"] []
 K9:mg "_law_closing"=some (.ref a.Ab)
 ql:cN K "_law_blind" "_law_blind" J0 a.Ad a.Ae
 K_:Binds K a.Ae ["_law_things","_law_some","_law_sort"] []
 La:mg "_law_blind"=some (.ref a.Ad)
 kl:cN K "_law_alike" "_law_alike" xH a.pM a.tF
 uc:Binds K a.tF ["_law_found","_law_due"] []
 ud:mg "_law_alike"=some (.ref a.pM)
 ue:cN K "_law_run" "_law_run" J1 a.Af a.Ag
 PY:Binds K a.Ag ["_law_script","_law_mode"] []
 PZ:mg "_law_run"=some (.ref a.Af)
 uf:cN K "_law_led" "_law_led" J2 a.Ah a.Ai
 P0:Binds K a.Ai ["_law_things","_law_row","_law_there"] []
 P1:mg "_law_led"=some (.ref a.Ah)
 ug:cN K "_law_walked" "_law_walked" J3 a.Aj a.Ak
 P2:Binds K a.Ak ["_law_rows","_law_things","_law_some"] []
 P4:mg "_law_walked"=some (.ref a.Aj)
 uh:cN K "_law_right" "_law_right" J4 a.Al a.Am
 P5:Binds K a.Am ["_law_things","_law_some"] []
 P6:mg "_law_right"=some (.ref a.Al)
 nU:cN K "law" "law" lz a.tG a.OB
 Yn:mg "law"=some (.ref a.tG)
 fu:Meth K a.aP "sort_of" a.pK
 cD:Meth K a.aP "fields" a.pL
 fX:Meth K a.bB "sort_of" a.pK
 cL:Meth K a.bB "fields" a.pL
 kB:Meth K a.bB "words" a.xQ
 aW:Meth K a.aO "root" a.F2
 aZ:Meth K a.aO "set_root" a.F3
 cE:Meth K a.aO "name_in" a.F4
 cp:Meth K a.aO "thing_in" a.F5
 fj:Meth K a.aO "looked_at" a.F6
 eT:Meth K a.aO "hear_first" a.F7
 fY:Meth K a.aO "refusal" a.F8
 gP:Meth K a.aO "done" a.F9
 gU:HE K a.cT "__init__" a.tE
 ig:HE K a.cq "__init__" a.F1
 fZ:rS K a.cT
 lF:mg "Thing"=some (.ref a.cT)
 dq:cC K a.cT "called"
 dI:cC K a.cT "parts"
 bg:rS K a.aP
 fO:mg "PlainThing"=some (.ref a.aP)
 cF:cC K a.aP "called"
 bG:cC K a.aP "parts"
 bT:cC K a.aP "last_words"
 cW:rS K a.bB
 lG:mg "PairThing"=some (.ref a.bB)
 cM:cC K a.bB "called"
 cR:cC K a.bB "parts"
 br:rS K a.aT
 qm:mg "Reasons"=some (.ref a.aT)
 bY:cC K a.aT "by_serial"
 cm:cC K a.aT "rows"
 cu:cC K a.aT "members"
 cv:cC K a.aT "waiting"
 AO:rS K a.cq
 nV:mg "DeedHeap"=some (.ref a.cq)
 ar:rS K a.aO
 lH:mg "PlainHeap"=some (.ref a.aO)
 bh:cC K a.aO "root_values"
 cw:cC K a.aO "heard"
 aX:cC K a.aO "made"
 bC:mg "NOTHING"=some (.ref a.bJ)
 Gj:∃o,K.lookup a.bJ=some o/\o.cls=.type "tuple"/\o.dict=none
 fG:∀H:Hp,bS K H a.bJ [.str "nothing"]
 kC:mg "NO_THING"=some (.str "no thing" a.iM)
 kD:mg "NO_FIELD"=some (.str "no field" a.iN)
 vf:mg "WANTS"=some (.ref a.gM)
 AQ:mL K a.gM [("weak",a.eC),("pair",a.eE),("words",a.eG),("put",a.eJ),("get",a.eO),("look",a.eQ),("find",a.eS)]
 qo:∀H:Hp,bS K H a.eC [.ref a.eD]
 lJ:∀H:Hp,bS K H a.eD [.int 2,.str "any"]
 qp:∀H:Hp,bS K H a.eE [.ref a.eF]
 lK:∀H:Hp,bS K H a.eF [.int 2,.str "any"]
 qr:∀H:Hp,bS K H a.eG [.ref a.eI]
 lM:∀H:Hp,bS K H a.eI [.int 1,.str "plain"]
 qt:∀H:Hp,bS K H a.eJ [.ref a.eK]
 lO:∀H:Hp,bS K H a.eK [.int 1,.str "plain"]
 qu:∀H:Hp,bS K H a.eO [.ref a.eP]
 lP:∀H:Hp,bS K H a.eP [.int 2,.str "plain"]
 qv:∀H:Hp,bS K H a.eQ [.ref a.eR]
 lQ:∀H:Hp,bS K H a.eR [.int 2,.str "weak"]
 qw:∀H:Hp,bS K H a.eS [.ref a.dG,.ref a.dH]
 lR:∀H:Hp,bS K H a.dG [.int 2,.str "pair"]
 lT:∀H:Hp,bS K H a.dH [.int 3,.str "any"]
 km:mg "WANTS_FIELD"=some (.ref a.cO)
 jr:mL K a.cO [("put",a.cj),("get",a.ck)]
 ij:∀H:Hp,bS K H a.cj [.int 1,.int 2]
 ik:∀H:Hp,bS K H a.ck [.int 2,.int 3]
 vg:mg "DOERS"=some (.ref a.gO)
 AR:mL K a.gO [("num",a.nF),("make",a.iX),("weak",a.iX),("pair",a.iX),("words",a.nG),("put",a.nH),("get",a.nJ),("look",a.nK),("find",a.nM),("copy",a.nN),("drop",a.nO),("tell",a.nP),("same",a.nQ),("hear",a.nR)]
 ui:mg "abs"=none
 uj:mg "any"=none
 mO:mg "bool"=none
 js:mg "dict"=none
 qx:mg "int"=none
 aV:mg "isinstance"=none
 fk:mg "len"=none
 fH:mg "list"=none
 jM:mg "range"=none
 E5:mg "set"=none
 dY:mg "sorted"=none
 kn:mg "str"=none
 jN:mg "tuple"=none
section
variable {P:Program}{w:World}{K:PySem.W.Frag}{mg:Str->Option Value}{base:Heap}{a:ft}
noncomputable def Gk (d:Addr) (H H':Hp):Prop:=∀b o,b≠d->H b=some o->H' b=some o
noncomputable def Kp (S:Addr->Prop) (H H':Hp):Prop:=∀b o,¬S b->H b=some o->H' b=some o
theorem Kp.refl (S:Addr->Prop) (H:Hp):Kp S H H:=λ_ _ _ h=>h
theorem Kp.trans {S:Addr->Prop}{H H1 H2:Hp}(k:Kp S H H1) (k2:Kp S H1 H2):Kp S H H2:=λb o n h=>k2 b o n (k b o n h)
theorem Kp.mono {S S':Addr->Prop}{H H':Hp}(k:Kp S H H') (i:∀b,S b->S' b):Kp S' H H':=λb o n h=>k b o (λz=>n (i b z)) h
theorem aj.kp {S:Addr->Prop}{H H':Hp}(k:aj H H'):Kp S H H':=λb o _ h=>k b o h
theorem Kp.put {S:Addr->Prop}{H H':Hp}{l:Addr}{o:HO}(k:Kp S H H') (h:H' l=none):Kp S H (upd H' l o):=k.trans (aj.kp (aj.put h))
theorem Kp.set {S:Addr->Prop}{H H':Hp}{l:Addr}{o:HO}(k:Kp S H H') (h:S l):Kp S H (upd H' l o):=λb u n e=>by
 rw [au (λz=>n (by rw [z]; exact h))];exact k b u n e
noncomputable def Mu (H:Hp) (b:Addr):Prop:=(∃xs,H b=some (.lst xs))\/∃kvs,H b=some (.dK kvs)
theorem Mu.RW {H:Hp}{b:Addr}(m:Mu H b) {xs:List V}(h:Rd H b (.tup xs)):False:=by
 rcases m with ⟨ys,m⟩ | ⟨ys,m⟩ <;> rcases h with h | ⟨o,h⟩ <;> (rw [m] at h; cases h)
theorem Kp.cc {K:PySem.W.Frag}{S:Addr->Prop}{H H':Hp}(k:Kp S H H') (mu:∀b,S b->Mu H b) {a:Addr}{xs:List V}(h:bS K H a xs):bS K H' a xs:=by
 rcases h with h | h
 ·have n:¬S a:=λz=>(mu a z).RW h
  rcases h with h | ⟨o,h⟩
  ·exact .inl (.inl (k _ _ n h))
  ·exact .inl (.inr ⟨o,k _ _ n h⟩)
 ·exact .inr h
theorem bf.ins {K:PySem.W.Frag}{H:Hp}{l p C dx:Addr}{xs:List V}{fs:List (Str×V)}{o:HO}(h:bf K H l xs) (hp:H p=some (.ins C dx fs)):bf K (upd H p o) l xs:=by
 rcases h with (h | ⟨u,h⟩) | h
 ·exact .inl (.inl (by rw [au (nB h hp (by intro z; cases z))]; exact h))
 ·exact .inl (.inr ⟨u,by rw [au (nB h hp (by intro z; cases z))]; exact h⟩)
 ·exact .inr h
inductive Vl where
 | no | num (n:Int) | th (n:Int)
noncomputable def Vl.items:Vl->List V
 | .no=>[.str "nothing"]
 | .num n=>[.str "number",.int n]
 | .th n=>[.str "thing",.int n]
noncomputable def Vl.word:Vl->Str
 | .no=>"nothing"
 | .num _=>"number"
 | .th _=>"thing"
noncomputable def Vl.vh:Vl->Bool
 | .th _=>true
 | _=>false
noncomputable def Vl.nm:Vl->Option V
 | .th n=>some (.int n)
 | _=>none
theorem Vl.hd (v:Vl):oM v.items 0=some (.str v.word):=by cases v <;> rfl
theorem Vl.is:∀v:Vl,decide (v.word=("thing":Str))=v.vh
 | .no=>(by decide +kernel:decide (("nothing":Str)="thing")=false)
 | .num _=>(by decide +kernel:decide (("number":Str)="thing")=false)
 | .th _=>(by decide +kernel:decide (("thing":Str)="thing")=true)
theorem Vl.aaZ (v:Vl):v.nm.isSome=v.vh:=by cases v <;> rfl
noncomputable def dw (K:PySem.W.Frag) (H:Hp) (x:V) (v:Vl):Prop:=∃t,x=.ref t/\bS K H t v.items
theorem dw.same {K:PySem.W.Frag}{H H':Hp}{x:V}{v:Vl}(h:dw K H x v) (k:aj H H'):dw K H' x v:=by
 obtain⟨t,e,h⟩:=h;exact⟨t,e,k.cc h⟩
theorem dw.kp {K:PySem.W.Frag}{S:Addr->Prop}{H H':Hp}{x:V}{v:Vl}(h:dw K H x v) (k:Kp S H H') (mu:∀b,S b->Mu H b):dw K H' x v:=by
 obtain⟨t,e,h⟩:=h;exact⟨t,e,k.cc mu h⟩
noncomputable def Uk (K:PySem.W.Frag):Sp:=λvs H Q _=>∃x v,vs=[x]/\dw K H x v/\Q (.bl v.vh) H
theorem Cz (T:Txt K mg a):aS P w K mg base cU 1 a.xI a.xJ ["value"] (Uk K):=by
 refine T.nS.ok Tn (λvs H Q E h=>?_) (λcf A outer s H vs Q E hr h=>?_)
 ·obtain⟨_,_,rfl,_⟩:=h;rfl
 ·obtain⟨x,v,rfl,⟨t,rfl,hv⟩,q⟩:=h;refine⟨_,(ah (aw (da bN (aq ak (pv 0) ai (λ_ _=>rfl)) aA (aH _)))),?_⟩;dsimp! [];refine⟨t,_,_,_,rfl,rfl,hv,v.hd,?_⟩;dsimp! [];rw [v.is];exact q
noncomputable def Ul (K:PySem.W.Frag):Sp:=λvs H Q _=>∃(l:Addr) (xs:List V) (vl:List Vl),vs=[.ref l]/\bf K H l xs/\xs.length<=1000/\vl.length=xs.length/\(∀(i:Nat) x v,xs[i]?=some x->vl[i]?=some v->dw K H x v) /\
 ∀r,H r=none->Q (.ref r) (upd H r (.lst (vl.filterMap Vl.nm)))
theorem vi (T:Txt K mg a):aS P w K mg base cU 3 a.xK a.xM ["some"] (Ul K):=by
 refine T.lA.ok To (λvs H Q E h=>?_) (λcf A outer s H vs Q E hr h=>?_)
 ·obtain⟨_,_,_,rfl,_⟩:=h;rfl
 ·obtain⟨l,xs,vl,rfl,hl,hz,hlen,hv,q⟩:=h;refine⟨_,(ah (aw (oZ rfl (B3 (x:="value") (ns:=[]) (fr:=[]) rfl (by decide +kernel) rfl (by decide +kernel) rfl (List.forall_mem_nil _) rfl rfl (List.forall_mem_nil _) (by decide +kernel)) (cx (pv 0)) (λ_ _ _ _=>(aq (uN (K:=K) rfl) (pv 0) ai (λ_ _=>rfl))) (λ_ _ _ _=>(.one (cQ (aE (Cz T) (hr.mono (by decide)) rfl T.EW T.nS.kp T.EV .nil aC (aa (pv 0) af)))))))),?_⟩;dsimp! [];refine⟨⟨_,hl⟩,λD hD=>lr xs vl Vl.nm hz hlen (λys=>(aj.put hD).seq hl) ?_ ?_ (q D hD)⟩
  ·intro i x v ys R hx hb r;rw [v.aaZ] at r;have:=(hv i x v hx hb).same (aj.put (o:=.lst ys) hD);dsimp! [bP];exact⟨_,v,rfl,this,_,rfl,r⟩
  ·intro i x v y ys R hx hb hy r;obtain⟨t,rfl,ht⟩:=(hv i x v hx hb).same (aj.put (o:=.lst ys) hD)
   cases v with
   | no=>cases hy
   | num n=>cases hy
   | th n=>
    cases hy;dsimp! [bP];exact⟨t,_,_,_,rfl,rfl,ht,rfl,r⟩
inductive Tg where
 | plain (fs:List Vl) (w:Option Int) | weak (f:Vl) | pair (k v:Vl)
noncomputable def Tg.fs:Tg->List Vl
 | .plain fs _=>fs
 | .weak f=>[f]
 | .pair k v=>[k,v]
noncomputable def Tg.sort:Tg->Str
 | .plain _ _=>"plain"
 | .weak _=>"weak"
 | .pair _ _=>"pair"
noncomputable def Tg.words:Tg->Option Int
 | .plain _ w=>w
 | _=>none
noncomputable def wV:Option Int->V
 | none=>.bM
 | some n=>.int n
noncomputable def jt (K:PySem.W.Frag) (H:Hp) (xs:List V) (vl:List Vl):Prop:=vl.length=xs.length/\∀(i:Nat) x v,xs[i]?=some x->vl[i]?=some v->dw K H x v
theorem jt.same {K:PySem.W.Frag}{H H':Hp}{xs:List V}{vl:List Vl}(h:jt K H xs vl) (k:aj H H'):jt K H' xs vl:=⟨h.1,λi x v a b=>(h.2 i x v a b).same k⟩
theorem jt.kp {K:PySem.W.Frag}{S:Addr->Prop}{H H':Hp}{xs:List V}{vl:List Vl}(h:jt K H xs vl) (k:Kp S H H') (mu:∀b,S b->Mu H b):jt K H' xs vl:=⟨h.1,λi x v a b=>(h.2 i x v a b).kp k mu⟩
theorem jt.nil (K:PySem.W.Frag) (H:Hp):jt K H [] []:=⟨rfl,λi x v a _=>by simp at a⟩
theorem jt.cons {K:PySem.W.Frag}{H:Hp}{x:V}{v:Vl}{xs:List V}{vl:List Vl}(h:dw K H x v) (t:jt K H xs vl):jt K H (x::xs) (v::vl):=⟨by simp [t.1],λi y u a b=>by
 cases i with
 | zero=>
  simp at a b;subst a b;exact h
 | succ i=>exact t.2 i y u (by simpa using a) (by simpa using b)⟩
noncomputable def P7 (s:Str) (d:Addr):List (Str×V):=bV "parts" (.ref d) (bV "called" (.str s) [])
noncomputable def Um (d:Addr) (w:Option Int):List (Str×V):=bV "last_words" (wV w) (P7 "plain" d)
theorem aba:¬(("called":Str)="parts"):=by decide +kernel
theorem abb:¬(("called":Str)="last_words"):=by decide +kernel
theorem abd:¬(("parts":Str)="last_words"):=by decide +kernel
noncomputable def Tg.cls (a:ft):Tg->Addr
 | .plain _ _=>a.aP
 | .weak _=>a.cT
 | .pair _ _=>a.bB
noncomputable def Tg.fl (d:Addr):Tg->List (Str×V)
 | .plain _ w=>Um d w
 | .weak _=>P7 "weak" d
 | .pair _ _=>P7 "pair" d
theorem Tg.called (t:Tg) (d:Addr):(t.fl d).lookup ("called":Str)=some (.str t.sort):=by
 cases t <;> simp only [Tg.fl,Um,P7,aK,if_neg abb,if_neg aba,if_true,Tg.sort]
theorem Tg.parts (t:Tg) (d:Addr):(t.fl d).lookup ("parts":Str)=some (.ref d):=by
 cases t <;> simp only [Tg.fl,Um,P7,aK,if_neg abd,if_true]
theorem Tg.no (t:Tg) (d:Addr) {n:Str}(h1:¬n="called":=by decide +kernel) (h2:¬n="parts":=by decide +kernel) (h3:¬n="last_words":=by decide +kernel):(t.fl d).lookup n=none:=by
 cases t <;> simp only [Tg.fl,Um,P7,aK,if_neg h1,if_neg h2,if_neg h3] <;> rfl
theorem Uo (d:Addr) (w:Option Int):(Um d w).lookup ("last_words":Str)=some (wV w):=by
 unfold Um;rw [aK,if_pos rfl]
structure gu (a:ft) (K:PySem.W.Frag) (H:Hp) (p d:Addr) (t:Tg):Prop where
 ob:∃dx,H p=some (.ins (t.cls a) dx (t.fl d))
 li:∃xs,H d=some (.lst xs)/\jt K H xs t.fs/\xs.length<=1000
theorem gu.same {a:ft}{K:PySem.W.Frag}{H H':Hp}{p d:Addr}{t:Tg}(h:gu a K H p d t) (k:aj H H'):gu a K H' p d t:=by
 obtain⟨⟨dx,h1⟩,xs,h2,h3,h4⟩:=h;exact⟨⟨dx,k _ _ h1⟩,xs,k _ _ h2,h3.same k,h4⟩
theorem gu.kp {a:ft}{K:PySem.W.Frag}{S:Addr->Prop}{H H':Hp}{p d:Addr}{t:Tg}(h:gu a K H p d t) (k:Kp S H H') (mu:∀b,S b->Mu H b) (hd:¬S d):gu a K H' p d t:=by
 obtain⟨⟨dx,h1⟩,xs,h2,h3,h4⟩:=h;refine⟨⟨dx,k _ _ (λz=>?_) h1⟩,xs,k _ _ hd h2,h3.kp k mu,h4⟩;rcases mu _ z with ⟨ys,m⟩ | ⟨ys,m⟩ <;> (rw [m] at h1; cases h1)
theorem Tg.na (T:Txt K mg a) (t:Tg):rS K (t.cls a)/\cC K (t.cls a) "called"/\cC K (t.cls a) "parts":=by
 cases t
 ·exact⟨T.bg,T.cF,T.bG⟩
 ·exact⟨T.fZ,T.dq,T.dI⟩
 ·exact⟨T.cW,T.cM,T.cR⟩
theorem Tg.mem (t:Tg) (s:Sp):(t.cls a,s)∈[(a.cT,s),(a.aP,s),(a.bB,s)]:=by
 cases t
 ·exact .tail _ (.head _)
 ·exact .head _
 ·exact .tail _ (.tail _ (.head _))
noncomputable def Up (K:PySem.W.Frag):Sp:=λvs H Q _=>∃p C dx s l xs,vs=[.ref p,.str s,.ref l]/\rS K C/\cC K C "called"/\cC K C "parts"/\H p=some (.ins C dx [])/\bf K H l xs /\
 ∀d H',Gk p H H'->H d=none->H' p=some (.ins C dx (P7 s d))->H' d=some (.lst xs)->Q .bM H'
theorem CA (T:Txt K mg a):aS P w K mg base cU 1 a.tE a.xN ["self","sort","some"] (Up K):=by
 refine T.tH.ok Tp (λvs H Q E h=>?_) (λcf A outer s H vs Q E hr h=>?_)
 ·obtain⟨_,_,_,_,_,_,rfl,_⟩:=h;rfl
 ·obtain⟨p,C,dx,s,l,xs,rfl,hC,P8,Yo,h1,hl,q⟩:=h;refine⟨_,(ag (gQ (pv 0) (pv 1) rfl) (ah (gQ (pv 0) (bW eZ rfl T.fH fM (aa (pv 2) af)) rfl))),?_⟩;dsimp! [h1,HO.ins.injEq,hC,P8,Yo];refine⟨by decide,xs,.inl (bf.ins hl h1),λd hd=>?_⟩;have Yp:p≠d:=az ae hd;refine⟨C,dx,bV "called" (.str s) [],by rw [au Yp]; exact ae,hC,Yo,Nat.lt_of_le_of_lt (bO _ _ _) (by decide),q d _ ?_ ?_ ae ?_⟩
  ·intro b o hb e;rw [au hb,au (az (by rw [au hb]; exact e) hd),au hb];exact e
  ·rw [au Yp.symm] at hd;exact hd
  ·rw [au Yp.symm];exact ae
noncomputable def vj (a:ft) (K:PySem.W.Frag):Sp:=λvs H Q _=>∃p d t,vs=[.ref p]/\gu a K H p d t/\Q (.str t.sort) H
theorem CB (T:Txt K mg a):aS P w K mg base cU 1 a.pK a.xO ["self"] (vj a K):=by
 refine T.pN.ok Tq (λvs H Q E h=>?_) (λcf A outer s H vs Q E hr h=>?_)
 ·obtain⟨_,_,_,rfl,_⟩:=h;rfl
 ·obtain⟨p,d,t,rfl,⟨⟨dx,h1⟩,_⟩,q⟩:=h;obtain⟨hC,P8,Yo⟩:=t.na T;refine⟨_,(ah (aw (b_ (pv 0) rfl))),?_⟩;dsimp! [h1,HO.ins.injEq,hC,P8,t.called];exact q
noncomputable def fI (a:ft) (K:PySem.W.Frag):Sp:=λvs H Q _=>∃p d t,vs=[.ref p]/\gu a K H p d t/\∀r xs,H r=none->jt K H xs t.fs->xs.length<=1000->Q (.ref r) (upd H r (.lst xs))
theorem gk (T:Txt K mg a):aS P w K mg base cU 1 a.pL a.xP ["self"] (fI a K):=by
 refine T.pO.ok Tr (λvs H Q E h=>?_) (λcf A outer s H vs Q E hr h=>?_)
 ·obtain⟨_,_,_,rfl,_⟩:=h;rfl
 ·obtain⟨p,d,t,rfl,⟨⟨dx,h1⟩,xs,h2,h3,h4⟩,q⟩:=h;obtain⟨hC,P8,Yo⟩:=t.na T;refine⟨_,(ah (aw (bW eZ rfl T.fH fM (aa (b_ (pv 0) rfl) af)))),?_⟩;dsimp! [h1,HO.ins.injEq,hC,Yo,t.parts];exact⟨xs,.inl (bf.of h2),λl hl=>q l xs hl h3 h4⟩
noncomputable def Uq (a:ft) (K:PySem.W.Frag):Sp:=λvs H Q _=>∃p dx l xs w,vs=[.ref p,.ref l,wV w]/\H p=some (.ins a.aP dx [])/\bf K H l xs /\
 ∀d H',Gk p H H'->H d=none->H' p=some (.ins a.aP dx (Um d w))->H' d=some (.lst xs)->Q .bM H'
theorem CC (T:Txt K mg a):aS P w K mg base cU 2 a.xR a.xS ["self","some","last_words"] (Uq a K):=by
 refine T.Ar.ok Ts (λvs H Q E h=>?_) (λcf A outer s H vs Q E hr h=>?_)
 ·obtain⟨_,_,_,_,_,rfl,_⟩:=h;rfl
 ·obtain⟨p,dx,l,xs,w,rfl,h1,hl,q⟩:=h;refine⟨_,(ag (bx (uO (dz (v:=.ref a.cT) rfl T.lF rfl) T.gU (CA T) (hr.mono (by decide)) T.EX .nil aC (aa (pv 0) (aa aA (aa (pv 1) af))))) (ah (gQ (pv 0) (pv 2) rfl))),?_⟩;dsimp! [];refine⟨p,_,dx,_,l,xs,rfl,T.bg,T.cF,T.bG,h1,hl,λd H' k hd hp h2=>?_⟩;have Yp:d≠p:=nB h2 hp (by intro z; cases z);refine⟨_,dx,_,hp,T.bg,T.bT,?_,q d _ (λb o hb e=>?_) hd ae ?_⟩
  ·refine Nat.lt_of_le_of_lt (bO _ _ _) (Nat.lt_of_le_of_lt (Nat.succ_le_succ (bO _ _ _)) (by decide))
  ·rw [au hb];exact k b o hb e
  ·rw [au Yp];exact h2
noncomputable def Yq (a:ft) (K:PySem.W.Frag):Sp:=λvs H Q _=>∃p dx x y,vs=[.ref p,x,y]/\H p=some (.ins a.bB dx []) /\
 ∀d H',Gk p H H'->H d=none->H' p=some (.ins a.bB dx (P7 "pair" d))->H' d=some (.lst [x,y])->Q .bM H'
theorem cI {H:Hp}{b l:Addr}{o:HO}(h:upd H l o b=none):H b=none:=by
 by_cases z:b=l
 ·rw [z,ae] at h;cases h
 ·rw [au z] at h;exact h
theorem Yr (T:Txt K mg a):aS P w K mg base cU 2 a.Ke a.Kf ["self","key","value"] (Yq a K):=by
 refine T.Kt.ok XG (λvs H Q E h=>?_) (λcf A outer s H vs Q E hr h=>?_)
 ·obtain⟨_,_,_,_,rfl,_⟩:=h;rfl
 ·obtain⟨p,dx,x,y,rfl,h1,q⟩:=h;refine⟨_,(ah (bx (uO (dz (v:=.ref a.cT) rfl T.lF rfl) T.gU (CA T) (hr.mono (by decide)) T.EX .nil aC (aa (pv 0) (aa aA (aa (bE (aa (pv 1) (aa (pv 2) af))) af)))))),?_⟩;dsimp! [];refine⟨by decide,λl hl=>⟨p,_,dx,_,l,[x,y],rfl,T.cW,T.cM,T.cR,by rw [au (az h1 hl)]; exact h1,bf.of ae,λd H' k hd hp h2=>?_⟩⟩;exact q d H' (λb o hb e=>k b o hb (aj.put hl b o e)) (cI hd) hp h2
theorem il {H H':Hp}{x dx:Addr}{o u:HO}(h1:H x=none) (h2:H dx=none) (k:Gk x (upd (upd H dx o) x u) H'):aj H H':=λb c e=>by
 have n:=az e h1;exact k b c n (by rw [au n,au (az e h2)]; exact e)
noncomputable def Ur (a:ft) (K:PySem.W.Frag):Sp:=λvs H Q _=>∃l xs vl w,vs=[.ref l,wV w]/\bf K H l xs/\jt K H xs vl/\xs.length<=1000 /\
 ∀p d H',aj H H'->H p=none->H d=none->gu a K H' p d (.plain vl w)->Q (.ref p) H'
theorem Us (T:Txt K mg a):aS P w K mg base cU 4 a.xX a.xY ["fields","words"] (Ur a K):=by
 refine T.tI.ok Tv (λvs H Q E h=>?_) (λcf A outer s H vs Q E hr h=>?_)
 ·obtain⟨_,_,_,_,rfl,_⟩:=h;rfl
 ·obtain⟨l,xs,vl,w,rfl,hl,hv,hz,q⟩:=h;refine⟨_,(ah (aw (jH T.fN (CC T) (hr.mono (by decide)) rfl T.fO T.EZ .nil aC (aa (pv 0) (aa (pv 1) af))))),?_⟩;dsimp! [];refine λx dx hx CD ne=>⟨x,dx,l,xs,w,rfl,ae,?_,λd H' k hd hp h2=>?_⟩
  ·exact((aj.put CD).trans (aj.put (by rw [au ne.symm]; exact hx))).seq hl
  ·have sm:=il hx CD k;exact⟨rfl,q x d H' sm hx (cI (cI hd)) ⟨⟨dx,hp⟩,xs,h2,hv.same sm,hz⟩⟩
noncomputable def Ut (a:ft) (K:PySem.W.Frag):Sp:=λvs H Q _=>∃x v,vs=[x]/\dw K H x v/\∀p d H',aj H H'->H p=none->H d=none->gu a K H' p d (.weak v)->Q (.ref p) H'
theorem Uu (T:Txt K mg a):aS P w K mg base cU 3 a.xZ a.x_ ["field"] (Ut a K):=by
 refine T.tJ.ok Tw (λvs H Q E h=>?_) (λcf A outer s H vs Q E hr h=>?_)
 ·obtain⟨_,_,rfl,_⟩:=h;rfl
 ·obtain⟨y,v,rfl,hv,q⟩:=h;refine⟨_,(ah (aw (jH T.Ap (CA T) (hr.mono (by decide)) rfl T.lF T.EX .nil aC (aa aA (aa (bE (aa (pv 0) af)) af))))),?_⟩;dsimp! [];refine⟨by decide,λl hl=>λx dx hx CD ne=>⟨x,_,dx,_,l,[y],rfl,T.fZ,T.dq,T.dI,ae,?_,λd H' k hd hp h2=>?_⟩⟩
  ·exact((aj.put CD).trans (aj.put (by rw [au ne.symm]; exact hx))).seq (bf.of ae)
  ·have sm:=(aj.put hl).trans (il hx CD k);exact⟨rfl,q x d H' sm (cI hx) (cI (cI (cI hd))) ⟨⟨dx,hp⟩,[y],h2,.cons (hv.same sm) (.nil _ _),by simp⟩⟩
noncomputable def Uv (a:ft) (K:PySem.W.Frag):Sp:=λvs H Q _=>∃x y u v,vs=[x,y]/\dw K H x u/\dw K H y v/\∀p d H',aj H H'->H p=none->H d=none->gu a K H' p d (.pair u v)->Q (.ref p) H'
theorem Uw (T:Txt K mg a):aS P w K mg base cU 4 a.ya a.yb ["key","value"] (Uv a K):=by
 refine T.tK.ok Tx (λvs H Q E h=>?_) (λcf A outer s H vs Q E hr h=>?_)
 ·obtain⟨_,_,_,_,rfl,_⟩:=h;rfl
 ·obtain⟨y,z,u,v,rfl,hu,hv,q⟩:=h;refine⟨_,(ah (aw (jH T.lB (Yr T) (hr.mono (by decide)) rfl T.lG T.XX .nil aC (aa (pv 0) (aa (pv 1) af))))),?_⟩;dsimp! [];refine λx dx hx CD ne=>⟨x,dx,y,z,rfl,ae,λd H' k hd hp h2=>?_⟩
  have sm:=il hx CD k;exact⟨rfl,q x d H' sm hx (cI (cI hd)) ⟨⟨dx,hp⟩,[y,z],h2,.cons (hu.same sm) (.cons (hv.same sm) (.nil _ _)),by simp⟩⟩
noncomputable def Nq (rv hd md:Addr):List (Str×V):=bV "made" (.ref md) (bV "heard" (.ref hd) (bV "root_values" (.ref rv) []))
theorem abe:¬(("root_values":Str)="made"):=by decide +kernel
theorem abf:¬(("root_values":Str)="heard"):=by decide +kernel
theorem abg:¬(("heard":Str)="made"):=by decide +kernel
theorem CF (rv hd md:Addr):(Nq rv hd md).lookup ("root_values":Str)=some (.ref rv):=by
 unfold Nq;rw [aK,if_neg abe,aK,if_neg abf,aK,if_pos rfl]
theorem Lb (rv hd md:Addr):(Nq rv hd md).lookup ("heard":Str)=some (.ref hd):=by
 unfold Nq;rw [aK,if_neg abg,aK,if_pos rfl]
theorem ju (rv hd md:Addr):(Nq rv hd md).lookup ("made":Str)=some (.ref md):=by
 unfold Nq;rw [aK,if_pos rfl]
theorem bt {rv hd md:Addr}{n:Str}(h1:¬n="made":=by decide +kernel) (h2:¬n="heard":=by decide +kernel) (h3:¬n="root_values":=by decide +kernel):(Nq rv hd md).lookup n=none:=by
 unfold Nq;rw [aK,if_neg h1,aK,if_neg h2,aK,if_neg h3];rfl
structure HA where
 p:Addr
 rv:Addr
 hd:Addr
 md:Addr
noncomputable def HA.own (A:HA) (b:Addr):Prop:=b=A.rv\/b=A.hd\/b=A.md
theorem jv {α:Type} [DecidableEq α]:∀{l m:List α},l.Nodup->(∀x∈l,x∈m)->l.length<=m.length
 | [],_,_,_=>Nat.zero_le _
 | x::l,m,h,s=>by
  obtain⟨h1,h2⟩:=List.nodup_cons.mp h;have hx:=s x List.mem_cons_self;have:=jv (m:=m.erase x) h2 λy hy=>(List.mem_erase_of_ne (λz=>h1 (by rw [<-z]; exact hy))).mpr (s y (List.mem_cons_of_mem _ hy))
  rw [List.length_erase_of_mem hx] at this;have:=List.length_pos_of_mem hx;rw [List.length_cons];omega
noncomputable def Nr:List Str:=(List.range 26).map λi=>(⟨#[97+i]⟩:Str)
structure qy (K:PySem.W.Frag) (H:Hp) (kvs:List (Key×V)) (g:Str->Vl):Prop where
 nd:(kvs.map (·.1)).Nodup
 ks:∀kv∈kvs,∃x∈Nr,kv.1=Sum.inr x
 at_:∀x u,bD kvs (Sum.inr x)=some u->dw K H u (g x)
 no:∀x,bD kvs (Sum.inr x)=none->g x=.no
noncomputable def f_ (ps:List (Addr×Addr)):List (Key×V):=List.zipWith (λ(i:Nat) (q:Addr×Addr)=>((Sum.inl ((i:Int)+1):Key),V.ref q.1)) (List.range ps.length) ps
theorem d_ (ps:List (Addr×Addr)):(f_ ps).length=ps.length:=by
 unfold f_;rw [List.length_zipWith,List.length_range];omega
theorem qz (ps:List (Addr×Addr)) (i:Nat):(f_ ps)[i]?=(ps[i]?).map λq=>((Sum.inl ((i:Int)+1):Key),V.ref q.1):=by
 unfold f_;rw [List.getElem?_zipWith]
 cases e:ps[i]? with
 | none=>
  cases e2:(List.range ps.length)[i]? <;> rfl
 | some q=>
  have hi:=(List.getElem?_eq_some_iff.mp e).1;rw [List.getElem?_range hi];rfl
theorem vk (ps:List (Addr×Addr)):(f_ ps).map (·.1)=(List.range ps.length).map λ(i:Nat)=>(Sum.inl ((i:Int)+1):Key):=by
 apply List.ext_getElem?;intro i;rw [List.getElem?_map,qz,List.getElem?_map]
 by_cases hi:i < ps.length
 ·rw [List.getElem?_eq_getElem hi,List.getElem?_range hi];rfl
 ·rw [List.getElem?_eq_none (by omega),List.getElem?_eq_none (by rw [List.length_range]; omega)];rfl
theorem lV {kvs:List (Key×V)}(hn:(kvs.map (·.1)).Nodup) {i:Nat}{kv:Key×V}(h:kvs[i]?=some kv):bD kvs kv.1=some kv.2:=by
 cases e:bD kvs kv.1 with
 | none=>exact absurd (List.mem_map.mpr ⟨kv,List.mem_of_getElem? h,rfl⟩) (jo e)
 | some v=>
  unfold bD at e
  cases e2:kvs.find? λx=>decide (x.1=kv.1)with
  | none=>rw [e2] at e; cases e
  | some y=>
   rw [e2] at e;have hy0:=List.find?_some e2;have hy:y.1=kv.1:=of_decide_eq_true hy0;obtain⟨j,hj⟩:=List.mem_iff_getElem?.mp (List.mem_of_find?_eq_some e2);have P9:i=j:=by
    obtain⟨a1,a2⟩:=List.getElem?_eq_some_iff.mp h;obtain⟨b1,b2⟩:=List.getElem?_eq_some_iff.mp hj;have p:=List.pairwise_iff_getElem.mp hn;rcases Nat.lt_trichotomy i j with z | z | z
    ·exact absurd (by rw [List.getElem_map,List.getElem_map,a2,b2,hy]) (p i j (by rw [List.length_map]; exact a1) (by rw [List.length_map]; exact b1) z)
    ·exact z
    ·exact absurd (by rw [List.getElem_map,List.getElem_map,a2,b2,hy]) (p j i (by rw [List.length_map]; exact b1) (by rw [List.length_map]; exact a1) z)
   subst P9;rw [h] at hj;cases hj;exact e.symm▸rfl
theorem Ux (ps:List (Addr×Addr)):((f_ ps).map (·.1)).Nodup:=by
 rw [vk];refine List.pairwise_map.mpr (List.Pairwise.imp (λ{x y} h e=>?_) (List.nodup_range (n:=ps.length)));have:(x:Int)+1=(y:Int)+1:=Sum.inl.inj e;exact h (by omega)
theorem iO {ps:List (Addr×Addr)}{i:Nat}{q:Addr×Addr}(h:ps[i]?=some q):bD (f_ ps) (Sum.inl ((i:Int)+1))=some (V.ref q.1):=
 lV (kv:=(Sum.inl ((i:Int)+1),V.ref q.1)) (Ux ps) (i:=i) (by rw [qz,h]; rfl)
theorem Lc {ps:List (Addr×Addr)}{z:Int}(h:z<=0\/(ps.length:Int) < z):bD (f_ ps) (Sum.inl z)=none:=by
 cases e:bD (f_ ps) (Sum.inl z)with
 | none=>rfl
 | some v=>
  have hm:=uQ e;rw [vk] at hm;obtain⟨i,hi,e2⟩:=List.mem_map.mp hm;have:=List.mem_range.mp hi;have:(i:Int)+1=z:=Sum.inl.inj e2;omega
theorem E6 {ps:List (Addr×Addr)}{i:Nat}{q q':Addr×Addr}(h:ps[i]?=some q):putK (f_ ps) (Sum.inl ((i:Int)+1)) (V.ref q'.1)=f_ (ps.set i q'):=by
 unfold putK;rw [dW,iO h,if_pos (show(some (V.ref q.1)).isSome=true from rfl)];apply List.ext_getElem?;intro j;rw [List.getElem?_map,qz,qz,List.getElem?_set]
 cases e:ps[j]? with
 | none=>
  by_cases P9:i=j
  ·subst P9;rw [h] at e;cases e
  ·rw [if_neg P9];rfl
 | some r=>
  by_cases P9:i=j
  ·subst P9;rw [if_pos rfl,if_pos (List.getElem?_eq_some_iff.mp e).1];show some (if (Sum.inl ((i:Int)+1):Key)=Sum.inl ((i:Int)+1)then _ else _)=_;rw [if_pos rfl];rfl
  ·rw [if_neg P9];show some (if (Sum.inl ((j:Int)+1):Key)=Sum.inl ((i:Int)+1)then _ else _)=_;rw [if_neg λy=>P9 (by have:(j:Int)+1=(i:Int)+1:=Sum.inl.inj y; omega)];rfl
theorem E7 (ps:List (Addr×Addr)) (q:Addr×Addr):putK (f_ ps) (Sum.inl ((ps.length:Int)+1)) (V.ref q.1)=f_ (ps++[q]):=by
 rw [jm _ (Lc (.inr (by omega)))];unfold f_;rw [List.length_append,List.length_singleton,List.range_succ,List.zipWith_append (by rw [List.length_range])];rfl
noncomputable def BH (K:PySem.W.Frag) (H:Hp) (xs:List V) (hs:List (Nat×Int)):Prop:=hs.length=xs.length/\∀(i:Nat) x h,xs[i]?=some x->hs[i]?=some h->∃t,x=.ref t/\bS K H t [.int (h.1:Int),.int h.2]
theorem BH.same {H H':Hp}{xs:List V}{hs:List (Nat×Int)}(h:BH K H xs hs) (k:aj H H'):BH K H' xs hs:=⟨h.1,λi x y a b=>by
 obtain⟨t,e,h⟩:=h.2 i x y a b;exact⟨t,e,k.cc h⟩⟩
theorem BH.kp {S:Addr->Prop}{H H':Hp}{xs:List V}{hs:List (Nat×Int)}(h:BH K H xs hs) (k:Kp S H H') (mu:∀b,S b->Mu H b):BH K H' xs hs:=⟨h.1,λi x y a b=>by
 obtain⟨t,e,h⟩:=h.2 i x y a b;exact⟨t,e,k.cc mu h⟩⟩
theorem qy.bX {H:Hp}{kvs:List (Key×V)}{g:Str->Vl}(h:qy K H kvs g):kvs.length<=26:=by
 have:=jv (m:=Nr.map λx=>(Sum.inr x:Key)) h.nd λk hk=>by
  obtain⟨kv,BC,rfl⟩:=List.mem_map.mp hk;obtain⟨x,hx,e⟩:=h.ks kv BC;exact List.mem_map.mpr ⟨x,hx,e.symm⟩
 rw [List.length_map] at this;refine Nat.le_trans this ?_;unfold Nr;rw [List.length_map,List.length_map,List.length_range];exact Nat.le_refl _
theorem AS {kvs:List (Key×V)}{k:Key}{v:V}:(k∈kvs.map (·.1)/\(putK kvs k v).map (·.1)=kvs.map (·.1))\/(k∉kvs.map (·.1)/\(putK kvs k v).map (·.1)=kvs.map (·.1)++[k]):=by
 cases e:bD kvs k with
 | none=>exact .inr ⟨jo e,by rw [jm _ e,List.map_append]; rfl⟩
 | some u=>
  refine .inl ⟨uQ e,?_⟩;unfold putK;rw [dW,e,if_pos (show(some u).isSome=true from rfl),List.map_map];refine List.map_congr_left λp _=>?_
  show(if p.1=k then(p.1,v)else p).1=p.1
  split <;> rfl
theorem qy.put {H H':Hp}{kvs:List (Key×V)}{g:Str->Vl}{x:Str}{u:V}{v:Vl}(h:qy K H' kvs g) (hx:x∈Nr) (hu:dw K H' u v):qy K H' (putK kvs (Sum.inr x) u) (λy=>if y=x then v else g y):=by
 refine⟨?_,λkv BC=>?_,λy w e=>?_,λy e=>?_⟩
 ·rcases AS (kvs:=kvs) (k:=Sum.inr x) (v:=u)with ⟨_,e⟩ | ⟨z,e⟩ <;> rw [e]
  ·exact h.nd
  ·refine List.nodup_append.mpr ⟨h.nd,by simp,λa ha b hb e=>?_⟩;rw [List.mem_singleton.mp hb] at e;exact z (e▸ha)
 ·have hm:kv.1∈(putK kvs (Sum.inr x) u).map (·.1):=List.mem_map.mpr ⟨kv,BC,rfl⟩;rcases AS (kvs:=kvs) (k:=Sum.inr x) (v:=u)with ⟨_,e⟩ | ⟨z,e⟩ <;> rw [e] at hm
  ·obtain⟨kv2,h2,e2⟩:=List.mem_map.mp hm;obtain⟨y,hy,e⟩:=h.ks kv2 h2;exact⟨y,hy,e2.symm.trans e⟩
  ·rcases List.mem_append.mp hm with hm | hm
   ·obtain⟨kv2,h2,e2⟩:=List.mem_map.mp hm;obtain⟨y,hy,e⟩:=h.ks kv2 h2;exact⟨y,hy,e2.symm.trans e⟩
   ·exact⟨x,hx,List.mem_singleton.mp hm⟩
 ·rw [jl] at e
  by_cases z:y=x
  ·rw [if_pos z];rw [if_pos (by rw [z])] at e;cases e;exact hu
  ·rw [if_neg z];rw [if_neg λq=>z (Sum.inr.inj q)] at e;exact h.at_ y w e
 ·rw [jl] at e
  by_cases z:y=x
  ·rw [if_pos (by rw [z])] at e;cases e
  ·rw [if_neg z];rw [if_neg λq=>z (Sum.inr.inj q)] at e;exact h.no y e
theorem qy.same {H H':Hp}{kvs:List (Key×V)}{g:Str->Vl}(h:qy K H kvs g) (k:aj H H'):qy K H' kvs g:=⟨h.nd,h.ks,λx u e=>(h.at_ x u e).same k,h.no⟩
theorem qy.kp {S:Addr->Prop}{H H':Hp}{kvs:List (Key×V)}{g:Str->Vl}(h:qy K H kvs g) (k:Kp S H H') (mu:∀b,S b->Mu H b):qy K H' kvs g:=⟨h.nd,h.ks,λx u e=>(h.at_ x u e).kp k mu,h.no⟩
structure PH (a:ft) (K:PySem.W.Frag) (Pr:Addr->Prop) (H:Hp) (A:HA) (g:Str->Vl) (ts:List Tg) (hs:List (Nat×Int)):Prop where
 ob:∃dx,H A.p=some (.ins a.aO dx (Nq A.rv A.hd A.md))
 rt:∃kvs,H A.rv=some (.dK kvs)/\qy K H kvs g
 th:∃ps:List (Addr×Addr),H A.md=some (.dK (f_ ps))/\ps.length=ts.length/\(∀(i:Nat) q t,ps[i]?=some q->ts[i]?=some t->gu a K H q.1 q.2 t)/\∀q∈ps,q.2≠A.hd/\¬Pr q.2
 he:∃xs,H A.hd=some (.lst xs)/\BH K H xs hs
 ne:A.rv≠A.md
 pr:∀b,Pr b->H b≠none/\¬A.own b
 bX:ts.length<=500/\hs.length<=500
section
variable {Pr:Addr->Prop}{H H':Hp}{A:HA}{g:Str->Vl}{ts:List Tg}{hs:List (Nat×Int)}
theorem PH.same (h:PH a K Pr H A g ts hs) (k:aj H H'):PH a K Pr H' A g ts hs:=by
 obtain⟨dx,h1⟩:=h.ob;obtain⟨kvs,h2,h3⟩:=h.rt;obtain⟨ps,h4,h5,h6,h7⟩:=h.th;obtain⟨xs,h8,h9⟩:=h.he;refine⟨⟨dx,k _ _ h1⟩,⟨kvs,k _ _ h2,h3.same k⟩,⟨ps,k _ _ h4,h5,λi q t a b=>(h6 i q t a b).same k,h7⟩,⟨xs,k _ _ h8,h9.same k⟩,h.ne,λb hb=>⟨?_,(h.pr b hb).2⟩,h.bX⟩;have:=(h.pr b hb).1
 cases e:H b with
 | none=>exact absurd e this
 | some u=>rw [k _ _ e]; intro z; cases z
theorem PH.mu (h:PH a K Pr H A g ts hs):∀b,A.own b->Mu H b:=λb z=>by
 rcases z with rfl | rfl | rfl
 ·obtain⟨kvs,h2,_⟩:=h.rt;exact .inr ⟨_,h2⟩
 ·obtain⟨xs,h8,_⟩:=h.he;exact .inl ⟨_,h8⟩
 ·obtain⟨ps,h4,_⟩:=h.th;exact .inr ⟨_,h4⟩
theorem PH.kp {S:Addr->Prop}(h:PH a K Pr H A g ts hs) (k:Kp S H H') (mu:∀b,S b->Mu H b) (sp:∀b,S b->Pr b) (so:∀b,S b->H' b≠none):PH a K Pr H' A g ts hs:=by
 obtain⟨dx,h1⟩:=h.ob;obtain⟨kvs,h2,h3⟩:=h.rt;obtain⟨ps,h4,h5,h6,h7⟩:=h.th;obtain⟨xs,h8,h9⟩:=h.he;have no:∀b,A.own b->¬S b:=λb z y=>(h.pr b (sp b y)).2 z
 refine⟨⟨dx,k _ _ (λz=>?_) h1⟩,⟨kvs,k _ _ (no _ (.inl rfl)) h2,h3.kp k mu⟩,⟨ps,k _ _ (no _ (.inr (.inr rfl))) h4,h5,λi q t a b=>(h6 i q t a b).kp k mu λz=>(h7 q (List.mem_of_getElem? a)).2 (sp _ z),h7⟩,⟨xs,k _ _ (no _ (.inr (.inl rfl))) h8,h9.kp k mu⟩,h.ne,λb hb=>⟨?_,(h.pr b hb).2⟩,h.bX⟩
 ·rcases mu _ z with ⟨ys,m⟩ | ⟨ys,m⟩ <;> (rw [m] at h1; cases h1)
 ·by_cases z:S b
  ·exact so b z
  ·have:=(h.pr b hb).1
   cases e:H b with
   | none=>exact absurd e this
   | some u=>rw [k _ _ z e]; intro z; cases z
end
theorem PH.get {Pr:Addr->Prop}{H:Hp}{A:HA}{g:Str->Vl}{ts:List Tg}{hs:List (Nat×Int)}(T:Txt K mg a) (h:PH a K Pr H A g ts hs) (x:Str):∃o,fb H A.rv (.str x) o/\dw K H (o.getD (.ref a.bJ)) (g x):=by
 obtain⟨kvs,h2,h3⟩:=h.rt;refine⟨bD kvs (Sum.inr x),fb.k (k:=Sum.inr x) h2,?_⟩
 cases e:bD kvs (Sum.inr x)with
 | none=>rw [h3.no x e]; exact⟨_,rfl,T.fG _⟩
 | some u=>exact h3.at_ x u e
noncomputable def Nt (a:ft) (K:PySem.W.Frag):Sp:=λvs H Q _=>∃Pr A g ts hs x,vs=[.ref A.p,.str x]/\PH a K Pr H A g ts hs/\∀u,dw K H u (g x)->Q u H
theorem jw (T:Txt K mg a):aS P w K mg base cU 1 a.F2 a.Kh ["self","letter"] (Nt a K):=by
 refine T.Ga.ok XI (λvs H Q E h=>?_) (λcf A outer s H vs Q E hr h=>?_)
 ·obtain⟨_,_,_,_,_,_,rfl,_⟩:=h;rfl
 ·obtain⟨Pr,A,g,ts,hs,x,rfl,h,q⟩:=h;refine⟨_,(ah (aw (pf (bI hr) (b_ (pv 0) rfl) (pv 1) (dz (v:=.ref a.bJ) rfl T.bC rfl) ⟨rfl,rfl,rfl,rfl⟩))),?_⟩;obtain⟨dx,h1⟩:=h.ob;obtain⟨kvs,h2,h3⟩:=h.rt;dsimp! [h1,HO.ins.injEq,T.ar,T.bh,CF,T.bC];obtain⟨o,h4,h5⟩:=h.get T x;exact⟨.inl ⟨kvs,.inl h2⟩,o,h4,q _ h5⟩
noncomputable def Nu (a:ft) (K:PySem.W.Frag):Sp:=λvs H Q _=>∃Pr A g ts hs,vs=[.ref A.p]/\PH a K Pr H A g ts hs/\Q (.int (ts.length:Nat)) H
theorem Uy (T:Txt K mg a):aS P w K mg base cU 1 a.zA a.zB ["self"] (Nu a K):=by
 refine T.AL.ok Uc (λvs H Q E h=>?_) (λcf A outer s H vs Q E hr h=>?_)
 ·obtain⟨_,_,_,_,_,rfl,_⟩:=h;rfl
 ·obtain⟨Pr,A,g,ts,hs,rfl,h,q⟩:=h;refine⟨_,(ah (aw (aI gB rfl T.fk dS (aa (b_ (pv 0) rfl) af)))),?_⟩;obtain⟨dx,h1⟩:=h.ob;dsimp! [h1,HO.ins.injEq,T.ar,T.aX,ju];obtain⟨ps,h4,h5,_⟩:=h.th;refine⟨_,h4,?_⟩;rw [d_,h5];exact q
noncomputable def vm (a:ft) (K:PySem.W.Frag):Sp:=λvs H Q _=>∃Pr A g ts hs,vs=[.ref A.p]/\PH a K Pr H A g ts hs/\∀r xs,H r=none->BH K H xs hs->Q (.ref r) (upd H r (.lst xs))
theorem Uz (T:Txt K mg a):aS P w K mg base cU 1 a.zy a.zz ["self"] (vm a K):=by
 refine T.AK.ok Ub (λvs H Q E h=>?_) (λcf A outer s H vs Q E hr h=>?_)
 ·obtain⟨_,_,_,_,_,rfl,_⟩:=h;rfl
 ·obtain⟨Pr,A,g,ts,hs,rfl,h,q⟩:=h;refine⟨_,(ah (aw (bW eZ rfl T.fH fM (aa (b_ (pv 0) rfl) af)))),?_⟩;obtain⟨dx,h1⟩:=h.ob;dsimp! [h1,HO.ins.injEq,T.ar,T.cw,Lb];obtain⟨xs,h8,h9⟩:=h.he;exact⟨xs,.inl (bf.of h8),λl hl=>q l xs hl h9⟩
noncomputable def AU (a:ft) (K:PySem.W.Frag):Sp:=λvs H Q _=>∃Pr A g ts hs,∃(i:Nat) (t:Tg),vs=[.ref A.p,.int ((i:Int)+1)]/\PH a K Pr H A g ts hs/\ts[i]?=some t/\∀p d,gu a K H p d t->Q (.ref p) H
theorem Ld (T:Txt K mg a):aS P w K mg base cU 1 a.zk a.zl ["self","name"] (AU a K):=by
 refine T.AF.ok T8 (λvs H Q E h=>?_) (λcf A outer s H vs Q E hr h=>?_)
 ·obtain⟨_,_,_,_,_,_,_,rfl,_⟩:=h;rfl
 ·obtain⟨Pr,A,g,ts,hs,i,t,rfl,h,ht,q⟩:=h;refine⟨_,(ah (aw (cH (bI hr) (b_ (pv 0) rfl) (pv 1) (λ_ _=>rfl)))),?_⟩;obtain⟨dx,h1⟩:=h.ob;dsimp! [h1,HO.ins.injEq,T.ar,T.aX,ju];obtain⟨ps,h4,h5,h6,_⟩:=h.th;have hi:ps[i]?=some (ps[i]'(by have:=(List.getElem?_eq_some_iff.mp ht).1; omega)):=List.getElem?_eq_getElem _;exact⟨_,by rw [<-iO hi]; exact fb.k (k:=Sum.inl ((i:Int)+1)) h4,q _ _ (h6 i _ t hi ht)⟩
noncomputable def AV (a:ft) (K:PySem.W.Frag):Sp:=λvs H Q _=>∃Pr A g ts hs x u v,vs=[.ref A.p,.str x,u]/\PH a K Pr H A g ts hs/\x∈Nr/\dw K H u v/\∀H',Kp A.own H H'->PH a K Pr H' A (λy=>if y=x then v else g y) ts hs->Q .bM H'
theorem nW (T:Txt K mg a):aS P w K mg base cU 1 a.F3 a.Ki ["self","letter","value"] (AV a K):=by
 refine T.Gb.ok XJ (λvs H Q E h=>?_) (λcf A outer s H vs Q E hr h=>?_)
 ·obtain⟨_,_,_,_,_,_,_,_,rfl,_⟩:=h;rfl
 ·obtain⟨Pr,A,g,ts,hs,x,u,v,rfl,h,hx,hv,q⟩:=h;refine⟨_,(ah (dc (bI hr) (b_ (pv 0) rfl) (pv 1) (pv 2) rfl)),?_⟩;obtain⟨dx,h1⟩:=h.ob;dsimp! [h1,HO.ins.injEq,T.ar,T.bh,CF];obtain⟨kvs,h2,h3⟩:=h.rt;refine⟨_,gS.k (k:=Sum.inr x) h2 (aJ (by have:=h3.bX; omega)),q _ ((Kp.refl _ _).set (.inl rfl)) ?_⟩;have k:Kp (·=A.rv) H (upd H A.rv (.dK (putK kvs (Sum.inr x) u))):=(Kp.refl _ _).set rfl;have mu:∀b,b=A.rv->Mu H b:=λb e=>.inr ⟨kvs,by rw [e]; exact h2⟩
  obtain⟨dx,h1⟩:=h.ob;obtain⟨ps,h4,h5,h6,h7⟩:=h.th;obtain⟨xs,h8,h9⟩:=h.he;have nd:∀q∈ps,q.2≠A.rv:=λq hq z=>by
   obtain⟨i,hi⟩:=List.mem_iff_getElem?.mp hq;obtain⟨_,_,e,_⟩:=h6 i q _ hi (List.getElem?_eq_getElem (by rw [<-h5]; exact(List.getElem?_eq_some_iff.mp hi).1));rw [z,h2] at e;cases e
  refine⟨⟨dx,k _ _ (λz=>by rw [z,h2] at h1; cases h1) h1⟩,⟨_,ae,(h3.kp k mu).put (H:=H) hx (hv.kp k mu)⟩,⟨ps,k _ _ h.ne.symm h4,h5,λi q t a b=>(h6 i q t a b).kp k mu (nd q (List.mem_of_getElem? a)),h7⟩,⟨xs,k _ _ (λz=>by rw [z,h2] at h8; cases h8) h8,h9.kp k mu⟩,h.ne,λb hb=>⟨?_,(h.pr b hb).2⟩,h.bX⟩;have:=(h.pr b hb).1
  cases e:H b with
  | none=>exact absurd e this
  | some o=>rw [k b o (λz=>(h.pr b hb).2 (.inl z)) e]; intro z; cases z
section
variable {Pr:Addr->Prop}{H H':Hp}{A:HA}{g:Str->Vl}{ts:List Tg}{hs:List (Nat×Int)}
theorem PH.things (h:PH a K Pr H A g ts hs) {E8:List (Addr×Addr)}{Nv:List Tg}(hl:E8.length=Nv.length) (E9:∀(i:Nat) q t,E8[i]?=some q->Nv[i]?=some t->gu a K H q.1 q.2 t) (hn:∀q∈E8,q.2≠A.hd/\¬Pr q.2) (bX:Nv.length<=500):PH a K Pr (upd H A.md (.dK (f_ E8))) A g Nv hs:=by
 obtain⟨dx,h1⟩:=h.ob;obtain⟨kvs,h2,h3⟩:=h.rt;obtain⟨ps,h4,h5,h6,h7⟩:=h.th;obtain⟨xs,h8,h9⟩:=h.he;have k:Kp (·=A.md) H (upd H A.md (.dK (f_ E8))):=(Kp.refl _ _).set rfl;have mu:∀b,b=A.md->Mu H b:=λb e=>.inr ⟨f_ ps,by rw [e]; exact h4⟩
 have nd:∀q∈E8,q.2≠A.md:=λq hq z=>by
  obtain⟨i,hi⟩:=List.mem_iff_getElem?.mp hq;obtain⟨_,_,e,_⟩:=E9 i q _ hi (List.getElem?_eq_getElem (by rw [<-hl]; exact(List.getElem?_eq_some_iff.mp hi).1));rw [z,h4] at e;cases e
 refine⟨⟨dx,k _ _ (λz=>by rw [z,h4] at h1; cases h1) h1⟩,⟨kvs,k _ _ h.ne h2,h3.kp k mu⟩,⟨E8,ae,hl,λi q t a b=>(E9 i q t a b).kp k mu (nd q (List.mem_of_getElem? a)),hn⟩,⟨xs,k _ _ (λz=>by rw [z,h4] at h8; cases h8) h8,h9.kp k mu⟩,h.ne,λb hb=>⟨?_,(h.pr b hb).2⟩,bX,h.bX.2⟩;have:=(h.pr b hb).1
 cases e:H b with
 | none=>exact absurd e this
 | some o=>rw [k b o (λz=>(h.pr b hb).2 (.inr (.inr z))) e]; intro z; cases z
theorem PH.CG (h:PH a K Pr H A g ts hs) {GR:List V}{qA:List (Nat×Int)}(hr:BH K H GR qA) (bX:qA.length<=500):PH a K Pr (upd H A.hd (.lst GR)) A g ts qA:=by
 obtain⟨dx,h1⟩:=h.ob;obtain⟨kvs,h2,h3⟩:=h.rt;obtain⟨ps,h4,h5,h6,h7⟩:=h.th;obtain⟨xs,h8,h9⟩:=h.he;have k:Kp (·=A.hd) H (upd H A.hd (.lst GR)):=(Kp.refl _ _).set rfl;have mu:∀b,b=A.hd->Mu H b:=λb e=>.inl ⟨xs,by rw [e]; exact h8⟩
 refine⟨⟨dx,k _ _ (λz=>by rw [z,h8] at h1; cases h1) h1⟩,⟨kvs,k _ _ (λz=>by rw [z,h8] at h2; cases h2) h2,h3.kp k mu⟩,⟨ps,k _ _ (λz=>by rw [z,h8] at h4; cases h4) h4,h5,λi q t a b=>(h6 i q t a b).kp k mu (h7 q (List.mem_of_getElem? a)).1,h7⟩,⟨GR,ae,hr.kp k mu⟩,h.ne,λb hb=>⟨?_,(h.pr b hb).2⟩,h.bX.1,bX⟩;have:=(h.pr b hb).1
 cases e:H b with
 | none=>exact absurd e this
 | some o=>rw [k b o (λz=>(h.pr b hb).2 (.inr (.inl z))) e]; intro z; cases z
theorem PH.fresh (h:PH a K Pr H A g ts hs) {d:Addr}(hd:H d=none):d≠A.hd/\¬Pr d:=⟨(λz=>by
 obtain⟨xs,h8,_⟩:=h.he;rw [<-z,hd] at h8
 cases h8),λz=>(h.pr d z).1 hd⟩
theorem PH.set (h:PH a K Pr H A g ts hs) {ps:List (Addr×Addr)}{i:Nat}{q q':Addr×Addr}{t':Tg}(Ni:H A.md=some (.dK (f_ ps))) (hq:ps[i]?=some q) (ht:gu a K H q'.1 q'.2 t') (hn:q'.2≠A.hd/\¬Pr q'.2):PH a K Pr (upd H A.md (.dK (putK (f_ ps) (Sum.inl ((i:Int)+1)) (.ref q'.1)))) A g (ts.set i t') hs:=by
 obtain⟨AW,h4,h5,h6,h7⟩:=h.th;have e:f_ AW=f_ ps:=by
  rw [Ni] at h4;exact(HO.dK.inj (Option.some.inj h4)).symm
 have el:AW.length=ps.length:=by rw [<-d_,<-d_,e]
 have hi:=(List.getElem?_eq_some_iff.mp hq).1;have Nm:AW[i]?=some (AW[i]'(by omega)):=List.getElem?_eq_getElem _;rw [<-e,E6 (q':=q') Nm];refine h.things (by rw [List.length_set,List.length_set]; exact h5) (λj r t hr kg=>?_) (λr hr=>?_) (by rw [List.length_set]; exact h.bX.1)
 ·rw [List.getElem?_set] at hr kg
  by_cases z:i=j
  ·subst z;rw [if_pos rfl,if_pos (by omega)] at hr;rw [if_pos rfl,if_pos (by omega)] at kg;cases hr;cases kg;exact ht
  ·rw [if_neg z] at hr kg;exact h6 j r t hr kg
 ·rcases List.mem_or_eq_of_mem_set hr with hr | rfl
  ·exact h7 r hr
  ·exact hn
theorem PH.new (h:PH a K Pr H A g ts hs) {ps:List (Addr×Addr)}{q':Addr×Addr}{t':Tg}(Ni:H A.md=some (.dK (f_ ps))) (ht:gu a K H q'.1 q'.2 t') (hn:q'.2≠A.hd/\¬Pr q'.2) (bX:ts.length < 500):PH a K Pr (upd H A.md (.dK (putK (f_ ps) (Sum.inl ((ts.length:Int)+1)) (.ref q'.1)))) A g (ts++[t']) hs:=by
 obtain⟨AW,h4,h5,h6,h7⟩:=h.th;have e:f_ AW=f_ ps:=by
  rw [Ni] at h4;exact(HO.dK.inj (Option.some.inj h4)).symm
 rw [<-e,<-h5,E7];refine h.things (by rw [List.length_append,List.length_append,h5]; rfl) (λj r t hr kg=>?_) (λr hr=>?_) (by rw [List.length_append,List.length_singleton]; omega)
 ·by_cases z:j < AW.length
  ·rw [List.getElem?_append_left z] at hr;rw [List.getElem?_append_left (by omega)] at kg;exact h6 j r t hr kg
  ·have ej:j=AW.length:=by
    have:=(List.getElem?_eq_some_iff.mp hr).1;rw [List.length_append,List.length_singleton] at this;omega
   subst ej;rw [List.getElem?_append_right (Nat.le_refl _),Nat.sub_self] at hr;rw [h5,List.getElem?_append_right (Nat.le_refl _),Nat.sub_self] at kg;cases hr;cases kg;exact ht
 ·rcases List.mem_append.mp hr with hr | hr
  ·exact h7 r hr
  ·rw [List.mem_singleton.mp hr];exact hn
end
theorem jt.set {H:Hp}{xs:List V}{vl:List Vl}{i:Nat}{x:V}{v:Vl}(h:jt K H xs vl) (hx:dw K H x v):jt K H (xs.set i x) (vl.set i v):=⟨by simp [h.1],λj y u a b=>by
 by_cases e:i=j
 ·subst e;have hl:=(List.getElem?_eq_some_iff.mp a).1;rw [List.length_set] at hl;have gg:=h.1;rw [List.getElem?_set_self hl] at a;rw [List.getElem?_set_self (by omega)] at b;cases a;cases b;exact hx
 ·rw [List.getElem?_set_ne e] at a b;exact h.2 j y u a b⟩
noncomputable def rY (a:ft) (K:PySem.W.Frag):Sp:=λvs H Q _=>∃p d fs w u v,∃n:Nat,vs=[.ref p,.int (n:Nat),u]/\gu a K H p d (.plain fs w)/\n < fs.length/\dw K H u v/\∀p' d' H',aj H H'->H p'=none->H d'=none->gu a K H' p' d' (.plain (fs.set n v) w)->Q (.ref p') H'
theorem UA (T:Txt K mg a):aS P w K mg base cU 4 a.xT a.xU ["self","at","value"] (rY a K):=by
 refine T.As.ok Tt (λvs H Q E h=>?_) (λcf A outer s H vs Q E hr h=>?_)
 ·obtain⟨_,_,_,_,_,_,_,rfl,_⟩:=h;rfl
 ·obtain⟨p,d,fs,w,u,v,n,rfl,h,hn,hv,q⟩:=h;refine⟨_,(ah (aw (jH T.fN (CC T) (hr.mono (by decide)) rfl T.fO T.EZ .nil aC (aa (bz iF (bz iF (fR gK (b_ (pv 0) rfl) iD (gs (pv 1))) (bE (aa (pv 2) af))) (fR gK (b_ (pv 0) rfl) (gs (bz iB (pv 1) ai)) iD)) (aa (b_ (pv 0) rfl) af))))),?_⟩;obtain⟨dx,h1⟩:=h.ob;obtain⟨xs,h2,h3,h4⟩:=h.li;have e1:=(Tg.plain fs w).parts d;have e2:(Tg.plain fs w).cls a=a.aP:=rfl;rw [e2] at h1;dsimp! [h1,HO.ins.injEq,T.bg,T.bG,e1];have hl:fs.length=xs.length:=h3.1;refine⟨d,xs,rfl,bf.of h2,λl1 BE=>⟨by simp [sizeLine_eq],λl2 gg=>?_⟩⟩;have c1:gR xs none (some (n:Int))=xs.take n:=by
   unfold gR;rw [HT.ji,HT.kY];simp
  have c2:gR xs (some ((n:Int)+1)) none=xs.drop (n+1):=by
   unfold gR;rw [HT.ji,show(n:Int)+1=((n+1:Nat):Int)by simp,HT.kY];rw [Nat.min_eq_left (by omega),List.take_of_length_le (by rw [List.length_drop]; omega)]
  rw [c1] at gg ⊢;have s1:=aj.put (o:=.lst (xs.take n)) BE;have s2:=s1.trans (aj.put (o:=.lst [u]) gg);have e3:upd (upd H l1 (.lst (xs.take n))) l2 (.lst [u]) l1=some (.lst (xs.take n)):=aj.put gg _ _ ae;refine⟨l1,l2,_,_,rfl,rfl,bf.of e3,bf.of ae,by rw [List.length_take,List.length_singleton]; exact Nat.le_of_lt (aJ (by omega)),λl3 hl3=>?_⟩;have s3:=s2.trans (aj.put (o:=.lst (xs.take n++[u])) hl3);refine⟨_,_,_,s3 _ _ h1,T.bg,T.bG,_,e1,d,xs,rfl,bf.of (s3 _ _ h2),λl4 BI=>?_⟩;rw [c2] at ⊢;have s4:=aj.put (o:=.lst (xs.drop (n+1))) BI;refine⟨l3,l4,_,_,rfl,rfl,bf.of (s4 _ _ ae),bf.of ae,by rw [List.length_append,List.length_take,List.length_singleton,List.length_drop]; exact Nat.le_of_lt (aJ (by omega)),λl5 Wr=>?_⟩;have s5:=(s3.trans s4).trans (aj.put (o:=.lst (xs.take n++[u]++xs.drop (n+1))) Wr);have h5:upd (upd (upd (upd (upd H l1 (.lst (xs.take n))) l2 (.lst [u])) l3 (.lst (xs.take n++[u]))) l4 (.lst (xs.drop (n+1)))) l5 (.lst (xs.take n++[u]++xs.drop (n+1))) l5=some (.lst (xs.take n++[u]++xs.drop (n+1))):=ae;generalize upd (upd (upd (upd (upd H l1 (.lst (xs.take n))) l2 (.lst [u])) l3 (.lst (xs.take n++[u]))) l4 (.lst (xs.drop (n+1)))) l5 (.lst (xs.take n++[u]++xs.drop (n+1)))=H5 at s5 h5;have ex:xs.take n++[u]++xs.drop (n+1)=xs.set n u:=by
   rw [List.set_eq_take_append_cons_drop,if_pos (by omega),List.append_assoc];rfl
  rw [ex] at h5;have mP:jt K H5 (xs.set n u) (fs.set n v):=(h3.same s5).set (hv.same s5);refine⟨_,_,_,s5 _ _ h1,T.bg,T.bT,_,Uo d w,λx UB hx CD ne=>⟨x,UB,l5,xs.set n u,w,rfl,ae,?_,λd2 H' k hd hp h6=>?_⟩⟩
  ·exact((aj.put CD).trans (aj.put (by rw [au ne.symm]; exact hx))).seq (bf.of h5)
  ·have sm:=il hx CD k;exact⟨rfl,q x d2 H' (s5.trans sm) (s5.free hx) (s5.free (cI (cI hd))) ⟨⟨UB,hp⟩,_,h6,mP.same sm,by rw [List.length_set]; exact h4⟩⟩
noncomputable def rZ (a:ft) (K:PySem.W.Frag):Sp:=λvs H Q _=>∃p d fs w w',vs=[.ref p,wV w']/\gu a K H p d (.plain fs w)/\∀p' d' H',aj H H'->H p'=none->H d'=none->gu a K H' p' d' (.plain fs w')->Q (.ref p') H'
theorem UC (T:Txt K mg a):aS P w K mg base cU 4 a.xV a.xW ["self","words"] (rZ a K):=by
 refine T.Au.ok Tu (λvs H Q E h=>?_) (λcf A outer s H vs Q E hr h=>?_)
 ·obtain⟨_,_,_,_,_,rfl,_⟩:=h;rfl
 ·obtain⟨p,d,fs,w,w',rfl,h,q⟩:=h;refine⟨_,(ah (aw (jH T.fN (CC T) (hr.mono (by decide)) rfl T.fO T.EZ .nil aC (aa (b_ (pv 0) rfl) (aa (pv 1) af))))),?_⟩;obtain⟨dx,h1⟩:=h.ob;obtain⟨xs,h2,h3,h4⟩:=h.li;have e1:=(Tg.plain fs w).parts d;have e2:(Tg.plain fs w).cls a=a.aP:=rfl;rw [e2] at h1;dsimp! [h1,HO.ins.injEq,T.bg,T.bG,e1];refine λx UB hx CD ne=>⟨x,UB,d,xs,w',rfl,ae,?_,λd2 H' k hd hp h6=>?_⟩
  ·exact((aj.put CD).trans (aj.put (by rw [au ne.symm]; exact hx))).seq (bf.of h2)
  ·have sm:=il hx CD k;exact⟨rfl,q x d2 H' sm hx (cI (cI hd)) ⟨⟨UB,hp⟩,_,h6,h3.same sm,h4⟩⟩
noncomputable def CH (a:ft) (K:PySem.W.Frag):Sp:=λvs H Q _=>∃Pr A g ts hs x,∃n:Int,vs=[.ref A.p,.str x]/\PH a K Pr H A g ts hs/\g x=.th n/\Q (.int n) H
theorem E_ (T:Txt K mg a):aS P w K mg base cU 2 a.F4 a.Kj ["self","letter"] (CH a K):=by
 refine T.Gd.ok XM (λvs H Q E h=>?_) (λcf A outer s H vs Q E hr h=>?_)
 ·obtain⟨_,_,_,_,_,_,_,rfl,_⟩:=h;rfl
 ·obtain⟨Pr,A,g,ts,hs,x,n,rfl,h,hg,q⟩:=h;refine⟨_,(ah (aw (aq ak (aR (pv 0) T.ar T.aW (jw T) (hr.mono (by decide)) T.oo .nil aC (aa (pv 1) af)) ai (λ_ _=>rfl)))),?_⟩;obtain⟨dx,h1⟩:=h.ob;have f1:=bt (rv:=A.rv) (hd:=A.hd) (md:=A.md) (n:="root");dsimp! [h1,HO.ins.injEq,f1];refine⟨Pr,A,g,ts,hs,x,rfl,h,λu hu=>?_⟩;rw [hg] at hu;obtain⟨t,rfl,ht⟩:=hu;exact⟨t,_,_,_,rfl,rfl,ht,rfl,q⟩
noncomputable def AX (a:ft) (K:PySem.W.Frag):Sp:=λvs H Q _=>∃Pr A g ts hs x,∃(i:Nat) (t:Tg),vs=[.ref A.p,.str x]/\PH a K Pr H A g ts hs/\g x=.th ((i:Int)+1)/\ts[i]?=some t/\∀p d,gu a K H p d t->Q (.ref p) H
theorem Fb (T:Txt K mg a):aS P w K mg base cU 3 a.F5 a.Kk ["self","letter"] (AX a K):=by
 refine T.Ge.ok XN (λvs H Q E h=>?_) (λcf A outer s H vs Q E hr h=>?_)
 ·obtain⟨_,_,_,_,_,_,_,_,rfl,_⟩:=h;rfl
 ·obtain⟨Pr,A,g,ts,hs,x,i,t,rfl,h,hg,ht,q⟩:=h;refine⟨_,(ah (aw (aR (pv 0) T.ar T.Cy (Ld T) (hr.mono (by decide)) T.KS .nil aC (aa (by exact(aR (pv 0) T.ar T.cE (E_ T) (hr.mono (by decide)) T.KP .nil aC (aa (pv 1) af))) af)))),?_⟩;obtain⟨dx,h1⟩:=h.ob;have f1:=bt (rv:=A.rv) (hd:=A.hd) (md:=A.md) (n:="name_in");have f2:=bt (rv:=A.rv) (hd:=A.hd) (md:=A.md) (n:="thing_of");dsimp! [h1,HO.ins.injEq,f1,f2];exact⟨Pr,A,g,ts,hs,x,_,rfl,h,hg,Pr,A,g,ts,hs,i,t,rfl,h,ht,q⟩
noncomputable def vn (a:ft) (K:PySem.W.Frag):Sp:=λvs H Q _=>∃Pr A g ts hs,∃(i:Nat) (t:Tg) (v:Vl),vs=[.ref A.p,.int ((i:Int)+1)]/\PH a K Pr H A g ts hs/\ts[i]?=some t/\t.fs[0]?=some v/\∀u H',aj H H'->dw K H' u v->Q u H'
theorem Ys (T:Txt K mg a):aS P w K mg base cU 2 a.F6 a.Kl ["self","name"] (vn a K):=by
 refine T.Gf.ok XO (λvs H Q E h=>?_) (λcf A outer s H vs Q E hr h=>?_)
 ·obtain⟨_,_,_,_,_,_,_,_,rfl,_⟩:=h;rfl
 ·obtain⟨Pr,A,g,ts,hs,i,t,v,rfl,h,ht,hv,q⟩:=h;refine⟨_,(ah (aw (aq cy (ib (L:=[(a.cT,fI a K),(a.aP,fI a K),(a.bB,fI a K)]) (aR (pv 0) T.ar T.Cy (Ld T) (hr.mono (by decide)) T.KS .nil aC (aa (pv 1) af)) (List.forall_mem_cons.mpr ⟨⟨_,_,_,_,T.fZ,T.pP,gk T,hr.mono (by decide),T.ie⟩,List.forall_mem_cons.mpr ⟨⟨_,_,_,_,T.bg,T.cD,gk T,hr.mono (by decide),T.ie⟩,List.forall_mem_cons.mpr ⟨⟨_,_,_,_,T.cW,T.cL,gk T,hr.mono (by decide),T.ie⟩,List.forall_mem_nil _⟩⟩⟩) .nil aC) ai (λ_ _=>rfl)))),?_⟩;obtain⟨dx,h1⟩:=h.ob;have f1:=bt (rv:=A.rv) (hd:=A.hd) (md:=A.md) (n:="thing_of");dsimp! [h1,HO.ins.injEq,f1];refine⟨Pr,A,g,ts,hs,i,t,rfl,h,ht,λp d hT=>?_⟩;obtain⟨P_,Gm⟩:=hT.ob;refine⟨p,rfl,_,_,_,Gm,t.no d,_,t.mem _,p,d,t,rfl,hT,λr xs hr mP hz=>?_⟩;have s1:=aj.put (o:=.lst xs) hr;have Qa:xs[0]?=some (xs[0]'(by have:=(List.getElem?_eq_some_iff.mp hv).1; have:=mP.1; omega)):=List.getElem?_eq_getElem _;exact⟨r,_,_,_,rfl,rfl,bf.of ae,cG (j:=0) Qa,q _ _ s1 ((mP.2 0 _ v Qa hv).same s1)⟩
noncomputable def r_ (a:ft) (K:PySem.W.Frag):Sp:=λvs H Q _=>∃Pr A g ts hs,vs=[.ref A.p]/\PH a K Pr H A g ts hs/\(hs=[]->Q .bM H)/\∀h qA t H',hs=h::qA->Kp A.own H H'->PH a K Pr H' A g ts qA->bS K H' t [.int (h.1:Int),.int h.2]->Q (.ref t) H'
theorem Yt (T:Txt K mg a):aS P w K mg base cU 1 a.F7 a.Km ["self"] (r_ a K):=by
 refine T.Gg.ok XQ (λvs H Q E h=>?_) (λcf A outer s H vs Q E hr h=>?_)
 ·obtain⟨_,_,_,_,_,rfl,_⟩:=h;rfl
 ·obtain⟨Pr,A,g,ts,hs,rfl,h,q1,q2⟩:=h;refine⟨_,(ah (aw (dU (S2 (b_ (pv 0) rfl)) (nE PySem.F.plainAttrs_list PySem.F.slot_list_pop PySem.F.type_list_pop xj (b_ (pv 0) rfl) (aa ai af)) cB))),?_⟩;obtain⟨dx,h1⟩:=h.ob;dsimp! [h1,HO.ins.injEq,T.ar,T.cw,Lb,tLT];obtain⟨xs,h8,h9⟩:=h.he;have hl:=h9.1;refine⟨xs,h8,by have:=h.bX.2; omega,?_⟩
  cases xs with
  | nil=>
   cases hs with
   | nil=>exact aY (λz=>by cases z) λ_=>q1 rfl
   | cons=>cases hl
  | cons x xs=>
   cases hs with
   | nil=>cases hl
   | cons y hs=>
    obtain⟨t,rfl,ht⟩:=h9.2 0 x y rfl rfl;refine aY (λ_=>⟨.inl ⟨rfl,_,bf.of h8⟩,?_⟩) λz=>absurd rfl z
    refine⟨A.hd,_,0,0,_,rfl,rfl,h8,by decide,by decide,by simp [seqIndex?],rfl,?_⟩;have hr:BH K H xs hs:=⟨by simpa using hl,λi x h a b=>h9.2 (i+1) x h a b⟩
    have k:Kp (·=A.hd) H (upd H A.hd (.lst xs)):=(Kp.refl _ _).set rfl;exact q2 y hs t _ rfl ((Kp.refl _ _).set (.inr (.inl rfl))) (h.CG hr (by have:=h.bX.2; rw [List.length_cons] at this; omega)) (k.cc (λb e=>.inl ⟨V.ref t::xs,by rw [e]; exact h8⟩) ht)
noncomputable def CI (a:ft) (K:PySem.W.Frag):Sp:=λvs H Q _=>∃Pr A g ts hs p d t,vs=[.ref A.p,.ref p]/\PH a K Pr H A g ts hs/\gu a K H p d t/\d≠A.hd/\¬Pr d/\ts.length < 500/\∀H',Kp A.own H H'->PH a K Pr H' A g (ts++[t]) hs->Q (.int ((ts.length:Int)+1)) H'
theorem UD (T:Txt K mg a):aS P w K mg base cU 2 a.zm a.zo ["self","thing"] (CI a K):=by
 refine T.AG.ok J_ (λvs H Q E h=>?_) (λcf A outer s H vs Q E hr h=>?_)
 ·obtain⟨_,_,_,_,_,_,_,_,rfl,_⟩:=h;rfl
 ·obtain⟨Pr,A,g,ts,hs,p,d,t,rfl,h,hT,Ia,hd2,bX,q⟩:=h;refine⟨_,(ag (aN (i:=2) J_.nd rfl (Or.inl rfl) (bz iB (jh (pv 0) T.ar T.K1 (Uy T) (hr.mono (by decide)) T.Pw .nil aC) ai)) (ag (dc (bI hr) (b_ (pv 0) rfl) (pv 2) (pv 1) rfl) (ah (aw (pv 2))))),?_⟩;obtain⟨dx,h1⟩:=h.ob;have f1:=bt (rv:=A.rv) (hd:=A.hd) (md:=A.md) (n:="last");dsimp! [h1,HO.ins.injEq,T.ar,T.aX,ju,f1];refine⟨Pr,A,g,ts,hs,rfl,h,?_⟩;obtain⟨ps,h4,h5,_⟩:=h.th;refine⟨_,rfl,_,_,_,h1,T.ar,T.aX,_,ju _ _ _,_,rfl,_,gS.k (k:=Sum.inl ((ts.length:Int)+1)) h4 (aJ (by rw [d_]; omega)),?_⟩;exact q _ ((Kp.refl _ _).set (.inr (.inr rfl))) (h.new (q':=(p,d)) h4 hT ⟨Ia,hd2⟩ bX)
theorem PH.at_ {Pr:Addr->Prop}{H:Hp}{A:HA}{g:Str->Vl}{ts:List Tg}{hs:List (Nat×Int)}(h:PH a K Pr H A g ts hs) {i:Nat}{t:Tg}(ht:ts[i]?=some t):∃ps q,H A.md=some (.dK (f_ ps))/\ps[i]?=some q/\gu a K H q.1 q.2 t/\fb H A.md (.int ((i:Int)+1)) (some (.ref q.1))/\ps.length=ts.length:=by
 obtain⟨ps,h4,h5,h6,_⟩:=h.th;have hi:ps[i]?=some (ps[i]'(by have:=(List.getElem?_eq_some_iff.mp ht).1; omega)):=List.getElem?_eq_getElem _;exact⟨ps,_,h4,hi,h6 i _ t hi ht,by rw [<-iO hi]; exact fb.k (k:=Sum.inl ((i:Int)+1)) h4,h5⟩
noncomputable def oq (a:ft) (K:PySem.W.Frag):Sp:=λvs H Q _=>∃Pr A g ts hs,∃(i n:Nat) (fs:List Vl) (w:Option Int) (u:V) (v:Vl),vs=[.ref A.p,.int ((i:Int)+1),.int (n:Nat),u]/\PH a K Pr H A g ts hs/\ts[i]?=some (.plain fs w)/\n < fs.length/\dw K H u v/\∀H',Kp A.own H H'->PH a K Pr H' A g (ts.set i (.plain (fs.set n v) w)) hs->Q .bM H'
theorem UE (T:Txt K mg a):aS P w K mg base cU 5 a.zp a.zq ["self","name","at","value"] (oq a K):=by
 refine T.AH.ok T9 (λvs H Q E h=>?_) (λcf A outer s H vs Q E hr h=>?_)
 ·obtain⟨_,_,_,_,_,_,_,_,_,_,_,rfl,_⟩:=h;rfl
 ·obtain⟨Pr,A,g,ts,hs,i,n,fs,w,u,v,rfl,h,ht,hn,hv,q⟩:=h;refine⟨_,(ah (dc (bI hr) (b_ (pv 0) rfl) (pv 1) (aR (cH (bI hr) (b_ (pv 0) rfl) (pv 1) (λ_ _=>rfl)) T.bg T.Kr (UA T) (hr.mono (by decide)) T.OD .nil aC (aa (pv 2) (aa (pv 3) af))) rfl)),?_⟩;obtain⟨dx,h1⟩:=h.ob;obtain⟨ps,r,h4,hi,hT,hg,xa⟩:=h.at_ ht;dsimp! [h1,HO.ins.injEq,T.ar,T.aX,ju];obtain⟨P_,Gm⟩:=hT.ob;refine⟨_,hg,r.1,rfl,P_,_,Gm,(Tg.plain fs w).no r.2,r.1,r.2,fs,w,u,v,n,rfl,hT,hn,hv,λp' d' H2 s2 Wm Fq Xw=>?_⟩;have h2:=h.same s2;refine⟨_,_,_,s2 _ _ h1,T.ar,T.aX,_,ju _ _ _,_,rfl,_,gS.k (k:=Sum.inl ((i:Int)+1)) (s2 _ _ h4) (aJ (by rw [d_]; have:=h.bX.1; omega)),?_⟩;exact q _ ((aj.kp s2).set (.inr (.inr rfl))) (h2.set (q':=(p',d')) (s2 _ _ h4) hi Xw (h.fresh Fq))
noncomputable def ou (a:ft) (K:PySem.W.Frag):Sp:=λvs H Q _=>∃Pr A g ts hs,∃(i:Nat) (fs:List Vl) (w w':Option Int),vs=[.ref A.p,.int ((i:Int)+1),wV w']/\PH a K Pr H A g ts hs/\ts[i]?=some (.plain fs w)/\∀H',Kp A.own H H'->PH a K Pr H' A g (ts.set i (.plain fs w')) hs->Q .bM H'
theorem UG (T:Txt K mg a):aS P w K mg base cU 5 a.zr a.zt ["self","name","words"] (ou a K):=by
 refine T.AI.ok T_ (λvs H Q E h=>?_) (λcf A outer s H vs Q E hr h=>?_)
 ·obtain⟨_,_,_,_,_,_,_,_,_,rfl,_⟩:=h;rfl
 ·obtain⟨Pr,A,g,ts,hs,i,fs,w,w',rfl,h,ht,q⟩:=h;refine⟨_,(ah (dc (bI hr) (b_ (pv 0) rfl) (pv 1) (aR (cH (bI hr) (b_ (pv 0) rfl) (pv 1) (λ_ _=>rfl)) T.bg T.Ks (UC T) (hr.mono (by decide)) T.OE .nil aC (aa (pv 2) af)) rfl)),?_⟩;obtain⟨dx,h1⟩:=h.ob;obtain⟨ps,r,h4,hi,hT,hg,xa⟩:=h.at_ ht;dsimp! [h1,HO.ins.injEq,T.ar,T.aX,ju];obtain⟨P_,Gm⟩:=hT.ob;refine⟨_,hg,r.1,rfl,P_,_,Gm,(Tg.plain fs w).no r.2,r.1,r.2,fs,w,w',rfl,hT,λp' d' H2 s2 Wm Fq Xw=>?_⟩;have h2:=h.same s2;refine⟨_,_,_,s2 _ _ h1,T.ar,T.aX,_,ju _ _ _,_,rfl,_,gS.k (k:=Sum.inl ((i:Int)+1)) (s2 _ _ h4) (aJ (by rw [d_]; have:=h.bX.1; omega)),?_⟩;exact q _ ((aj.kp s2).set (.inr (.inr rfl))) (h2.set (q':=(p',d')) (s2 _ _ h4) hi Xw (h.fresh Fq))
noncomputable def vD (v:Vl):D:=.tup (v.items.map fD)
theorem dw.rN {H:Hp}{x:V}{v:Vl}(h:dw K H x v):fC K H x (vD v):=by
 obtain⟨t,rfl,ht⟩:=h;refine .Oi ht λx hx=>?_
 cases v with
 | no=>
  rw [List.mem_singleton.mp hx];rfl
 | num n=>
  simp only [Vl.items,List.mem_cons,List.not_mem_nil,or_false] at hx;rcases hx with rfl | rfl <;> rfl
 | th n=>
  simp only [Vl.items,List.mem_cons,List.not_mem_nil,or_false] at hx;rcases hx with rfl | rfl <;> rfl
theorem jx (v:Vl):(vD v).dep=1:=by rw [vD,D.dep,sV]
theorem Fc:∀vl:List Vl,fB (vl.map vD)<=1
 | []=>by rw [List.map_nil,fB]; exact Nat.zero_le _
 | v::vl=>by
  rw [List.map_cons,fB,jx];have:=Fc vl;omega
theorem jt.rN {H:Hp}{l:Addr}{xs:List V}{vl:List Vl}(h:bf K H l xs) (hv:jt K H xs vl):fC K H (.ref l) (.lst (vl.map vD)):=by
 refine .lst h (by rw [List.length_map]; exact hv.1.symm) λi x d hx hd=>?_
 rw [List.getElem?_map] at hd
 cases e:vl[i]? with
 | none=>rw [e] at hd; cases hd
 | some v=>
  rw [e] at hd;cases hd;exact(hv.2 i x v hx e).rN
noncomputable def Yu (K:PySem.W.Frag):Sp:=λvs H Q _=>∃p C dx,vs=[.ref p]/\rS K C/\cC K C "root_values"/\cC K C "heard"/\H p=some (.ins C dx []) /\
 ∀rv hd H',Gk p H H'->H rv=none->H hd=none->rv≠hd->H' p=some (.ins C dx (bV "heard" (.ref hd) (bV "root_values" (.ref rv) [])))->H' rv=some (.dK [])->H' hd=some (.lst [])->Q .bM H'
theorem Yv (T:Txt K mg a):aS P w K mg base cU 1 a.F1 a.Kg ["self"] (Yu K):=by
 refine T.F_.ok XH (λvs H Q E h=>?_) (λcf A outer s H vs Q E hr h=>?_)
 ·obtain⟨_,_,_,rfl,_⟩:=h;rfl
 ·obtain⟨p,C,dx,rfl,hC,n1,n2,h1,q⟩:=h;refine⟨_,(ag (gQ (pv 0) fU rfl) (ah (gQ (pv 0) (bE af) rfl))),?_⟩;dsimp! [];refine λrv UH=>?_
  have n1':rv≠p:=(az h1 UH).symm;have e1:upd H rv (.dK []) p=some (.ins C dx []):=by rw [au n1'.symm]; exact h1
  refine⟨C,dx,[],e1,hC,n1,by decide,λhd Qb=>?_⟩;have n2':hd≠p:=λz=>by rw [z,ae] at Qb; cases Qb
  have UI:upd H rv (.dK []) hd=none:=by rw [au n2'] at Qb; exact Qb
  have n3':rv≠hd:=az ae UI;have Yw:H hd=none:=by rw [au n3'.symm] at UI; exact UI
  refine⟨C,dx,_,by rw [au n2'.symm,ae],hC,n2,Nat.lt_of_le_of_lt (bO _ _ _) (by decide),q rv hd _ (λb o hb e=>?_) UH Yw n3' ae ?_ ?_⟩
  ·rw [au hb,au (az e Yw),au hb,au (az e UH)];exact e
  ·rw [au n1',au n3',au n1',ae]
  ·rw [au n2',ae]
noncomputable def UJ (a:ft) (K:PySem.W.Frag):Sp:=λvs H Q _=>∃p dx,vs=[.ref p]/\H p=some (.ins a.aO dx []) /\
 ∀A H',A.p=p->Gk p H H'->H A.rv=none->H A.hd=none->H A.md=none->(∀Pr:Addr->Prop,(∀b,Pr b->H b≠none)->PH a K Pr H' A (λ_=>.no) [] [])->Q .bM H'
theorem UK (T:Txt K mg a):aS P w K mg base cU 2 a.zg a.zh ["self"] (UJ a K):=by
 refine T.AD.ok T7 (λvs H Q E h=>?_) (λcf A outer s H vs Q E hr h=>?_)
 ·obtain⟨_,_,rfl,_⟩:=h;rfl
 ·obtain⟨p,dx,rfl,h1,q⟩:=h;refine⟨_,(ag (bx (uO (dz (v:=.ref a.cq) rfl T.nV rfl) T.ig (Yv T) (hr.mono (by decide)) T.X_ .nil aC (aa (pv 0) af))) (ah (gQ (pv 0) fU rfl))),?_⟩;dsimp! [];refine⟨p,_,dx,rfl,T.ar,T.bh,T.cw,h1,λrv hd H2 k2 UH Qb nrh h2 e1 e2=>λmd Yx=>?_⟩;have kp:∀b o,b≠p->H b=some o->H2 b=some o:=k2;have nm1:md≠p:=(az h2 Yx).symm;have nm2:md≠rv:=(az e1 Yx).symm;have nm3:md≠hd:=(az e2 Yx).symm;have nr:rv≠p:=(az h1 UH).symm;have nh:hd≠p:=(az h1 Qb).symm;have Nw:H md=none:=by
   cases e:H md with
   | none=>rfl
   | some u=>rw [kp md u nm1 e] at Yx; cases Yx
  refine⟨_,dx,_,by rw [au nm1.symm]; exact h2,T.ar,T.aX,Nat.lt_of_le_of_lt (bO _ _ _) (Nat.lt_of_le_of_lt (Nat.succ_le_succ (bO _ _ _)) (by decide)),q ⟨p,rv,hd,md⟩ _ rfl (λb o hb e=>?_) UH Qb Nw λPr hPr=>?_⟩
  ·rw [au hb,au (az e Nw)];exact k2 b o hb e
  ·refine⟨⟨dx,ae⟩,⟨[],by rw [au nr,au nm2.symm]; exact e1,List.nodup_nil,(λkv h=>(nomatch h)),(λx u e=>by cases e),λ_ _=>rfl⟩,⟨[],by rw [au nm1,ae]; rfl,rfl,(λi q t h=>by simp at h),λq hq=>(nomatch hq)⟩,⟨[],by rw [au nh,au nm3.symm]; exact e2,rfl,λi x h a=>by simp at a⟩,nm2.symm,λb hb=>⟨?_,λz=>?_⟩,by decide,by decide⟩
   ·by_cases z:b=p
    ·rw [z,ae]; intro y; cases y
    ·rw [au z];have:=hPr b hb
     cases e:H b with
     | none=>exact absurd e this
     | some u=>rw [au (az e Nw),kp b u z e]; intro y; cases y
   ·rcases z with z | z | z
    ·exact hPr b hb (z▸UH)
    ·exact hPr b hb (z▸Qb)
    ·exact hPr b hb (z▸Nw)
theorem abh {a D:Addr}{o:Obj}{fr:List Nat}{tt:TT}{te:TE}{σ:St}{Q:Hp->Prop}{H:Hp}(kvs:List (Key×V)) (Pv:Nat->List V->Hp->Prop) (h0:Pv 0 [] H) (hl:∀i ys H,i<=kvs.length->Pv i ys H->H a=some (.iY o (.dK kvs)))
  (hs:∀i m kv t ys H,m+1+i=kvs.length->kvs[i]?=some kv->Pv i ys H->H t=none->tt (bH fr σ (some (kV kv.1)) (some kv.2)) (upd H t (.tup [kV kv.1,kv.2])) λb H3=>if b=true then te (bH fr σ (some (kV kv.1)) (some kv.2)) H3 (Xj D Pv kvs.length (m+1) i)else lcK Pv kvs.length (m+1) i H3)
  (hq:∀ys H,Pv kvs.length ys H->Q H):iJ K (Iti a o kvs) fr tt te σ D Q H:=by
 refine⟨λi m H2=>m+i=kvs.length/\∃ys,Pv i ys H2,⟨kvs.length,rfl,[],h0⟩,?_⟩;rintro i m H2 ⟨hm,ys,hp⟩;have hS:=hl i ys H2 (by omega) hp
 cases m with
 | zero=>
  have e:i=kvs.length:=by omega
  subst e;exact .inl ⟨⟨Nat.le_refl _,hS⟩,hq ys H2 hp⟩
 | succ m=>
  have hi:i < kvs.length:=by omega
  refine .inr ⟨⟨hi,hS⟩,λv H' y=>?_⟩;obtain⟨t,kv,ht,e,rfl,rfl⟩:=y;exact⟨t,_,_,rfl,bS.of ae,hs i m kv t ys H2 hm e hp ht⟩
theorem jy {kvs:List (Key×V)}{k:Key}{v:V}(h:bD kvs k=some v):(k,v)∈kvs:=by
 unfold bD at h
 cases e:kvs.find? λx=>decide (x.1=k)with
 | none=>rw [e] at h; cases h
 | some y=>
  rw [e] at h;have h1:=List.find?_some e;have h2:y.1=k:=of_decide_eq_true h1;have h3:y.2=v:=Option.some.inj h;rw [<-h2,<-h3];exact List.mem_of_find?_eq_some e
theorem uk:∀(ps acc:List (Key×V)),((acc++ps).map (·.1)).Nodup->ps.foldl (λacc p=>putK acc p.1 p.2) acc=acc++ps
 | [],acc,_=>(List.append_nil _).symm
 | p::ps,acc,h=>by
  have hn:bD acc p.1=none:=by
   cases e:bD acc p.1 with
   | none=>rfl
   | some v=>
    rw [List.map_append] at h;exact absurd rfl ((List.nodup_append.mp h).2.2 p.1 (uQ e) p.1 (by rw [List.map_cons]; exact List.mem_cons_self))
  rw [List.foldl_cons,jm _ hn,uk ps _ (by rw [List.append_assoc]; exact h),List.append_assoc];rfl
theorem um {ps:List (Key×V)}(h:(ps.map (·.1)).Nodup):putAll ps=ps:=uk ps [] h
noncomputable def Vl.vo:Vl->Bool
 | .no=>true
 | _=>false
theorem Vl.Lf {v:Vl}:v.vo=true↔v=.no:=by cases v <;> simp [Vl.vo]
theorem Yy (v:Vl):bA (vD v) (vD .no)=v.vo:=by
 cases v with
 | no=>exact dm _
 | num n=>
  rw [vD,vD,bA];exact fS (by rw [List.length_map,List.length_map]; show(2:Nat)≠1; decide)
 | th n=>
  rw [vD,vD,bA];exact fS (by rw [List.length_map,List.length_map]; show(2:Nat)≠1; decide)
noncomputable def keepR (g:Str->Vl) (kv:Key×V):Bool:=match kv.1 with
 | .inr x=>!(g x).vo
 | .inl _=>false
noncomputable def nX (H:Hp) (ts:List Addr) (iZ:List (Key×V)):Prop:=ts.length=iZ.length/\∀(i:Nat) t p,ts[i]?=some t->iZ[i]?=some p->H t=some (.tup [kV p.1,p.2])
theorem nX.snoc {H:Hp}{ts:List Addr}{iZ:List (Key×V)}{t:Addr}{p:Key×V}(h:nX H ts iZ) (ht:H t=some (.tup [kV p.1,p.2])):nX H (ts++[t]) (iZ++[p]):=⟨by rw [List.length_append,List.length_append,h.1]; rfl,λi u r a b=>by
 by_cases hi:i < ts.length
 ·rw [List.getElem?_append_left hi] at a;rw [List.getElem?_append_left (by rw [<-h.1]; exact hi)] at b;exact h.2 i u r a b
 ·have e:i=ts.length:=by
   have:=(List.getElem?_eq_some_iff.mp a).1;rw [List.length_append,List.length_singleton] at this;omega
  subst e;rw [List.getElem?_append_right (Nat.le_refl _),Nat.sub_self] at a;rw [h.1,List.getElem?_append_right (Nat.le_refl _),Nat.sub_self] at b;cases a;cases b;exact ht⟩
theorem nX.up {H H':Hp}{ts:List Addr}{iZ:List (Key×V)}(h:nX H ts iZ) (k:∀b ys,H b=some (.tup ys)->H' b=some (.tup ys)):nX H' ts iZ:=⟨h.1,λi t p a b=>k _ _ (h.2 i t p a b)⟩
theorem qy.kept {H:Hp}{kvs:List (Key×V)}{g:Str->Vl}(h:qy K H kvs g):qy K H (kvs.filter (keepR g)) g/\∀x u,bD (kvs.filter (keepR g)) (Sum.inr x)=some u->g x≠.no:=by
 have nd:((kvs.filter (keepR g)).map (·.1)).Nodup:=List.Sublist.nodup (List.Sublist.map _ List.filter_sublist) h.nd;have at_:∀x u,bD (kvs.filter (keepR g)) (Sum.inr x)=some u->(Sum.inr x,u)∈kvs/\g x≠.no:=λx u e=>by
  obtain⟨h1,h2⟩:=List.mem_filter.mp (jy e);refine⟨h1,λz=>?_⟩;have h3:(!(g x).vo)=true:=h2;rw [z] at h3;cases h3
 refine⟨⟨nd,λkv hk=>h.ks kv (List.mem_filter.mp hk).1,λx u e=>?_,λx e=>?_⟩,λx u e=>(at_ x u e).2⟩
 ·obtain⟨i,hi⟩:=List.mem_iff_getElem?.mp (at_ x u e).1;exact h.at_ x u (lV h.nd hi)
 ·cases e2:bD kvs (Sum.inr x)with
  | none=>exact h.no x e2
  | some u=>
   by_cases z:(g x).vo=true
   ·exact Vl.Lf.mp z
   ·refine absurd (List.mem_map.mpr ⟨(Sum.inr x,u),List.mem_filter.mpr ⟨jy e2,?_⟩,rfl⟩) (jo e);show(!(g x).vo)=true;rw [Bool.eq_false_iff.mpr z];rfl
noncomputable def Lg (a:ft) (K:PySem.W.Frag):Sp:=λvs H Q _=>∃Pr A g ts hs,vs=[.ref A.p]/\PH a K Pr H A g ts hs/\∀r iP H',aj H H'->H r=none->H' r=some (.dK iP)->qy K H' iP g->(∀x u,bD iP (Sum.inr x)=some u->g x≠.no)->Q (.ref r) H'
noncomputable def IRt (A:HA) (g:Str->Vl) (kvs:List (Key×V)) (o:Obj) (D:Addr) (H:Hp) (i:Nat) (ys:List V) (H2:Hp):Prop:=H2 A.rv=some (.iY o (.dK kvs))/\Kp (·=A.rv) H H2/\H2 D=some (.lst ys)/\∃us:List Addr,ys=us.map V.ref/\nX H2 us ((kvs.take i).filter (keepR g))
theorem UL (T:Txt K mg a):aS P w K mg base cU 2 a.zu a.zx ["self"] (Lg a K):=by
 refine T.AJ.ok Ua (λvs H Q E h=>?_) (λcf A outer s H vs Q E hr h=>?_)
 ·obtain⟨_,_,_,_,_,rfl,_⟩:=h;rfl
 ·obtain⟨Pr,A,g,ts,hs,rfl,h,q⟩:=h;refine⟨_,(ah (aw (bW (pC rfl) rfl T.js k_ (aa (Na (HV rfl (HW (x:="letter") (x2:="value") (ns:=[]) (fr:=[]) rfl (by decide +kernel) rfl (by decide +kernel) rfl rfl (List.forall_mem_nil _) rfl rfl (List.forall_mem_nil _) (by decide +kernel)) (Ih (Hh PySem.F.plainAttrs_dict PySem.F.slot_dict_items PySem.F.type_dict_items Ie (b_ (pv 0) rfl))) (λ_ _ _ _=>(bp (aa (pv 0) (aa (pv 1) af)))) (λ_ _ _ _=>(.one (aD (Nj (K:=K) rfl hr.units) (pv 1) (dz (v:=.ref a.bJ) rfl T.bC rfl) (aH _)))))) af)))),?_⟩;obtain⟨dx,h1⟩:=h.ob;obtain⟨kvs,h2,h3⟩:=h.rt;dsimp! [h1,HO.ins.injEq,T.ar,T.bh,CF,Ig,T.bC];have npv:∀p,H p=none->A.rv≠p:=λp hp=>az h2 hp
  refine⟨.inr (.inr (.inl ⟨rfl,.inl ⟨kvs,h2⟩⟩)),kvs,.inl h2,λp hp=>⟨A.rv,ae,kvs,by rw [au (npv p hp)]; exact h2,λo D hD=>?_⟩⟩;have k0:Kp (·=A.rv) H (upd (upd H p (.ext λh=>h.IsItemsView p A.rv)) A.rv (.iY o (.dK kvs))):=((Kp.refl _ _).put hp).set rfl;have f0:upd (upd H p (.ext λh=>h.IsItemsView p A.rv)) A.rv (.iY o (.dK kvs)) A.rv=some (.iY o (.dK kvs)):=ae;generalize upd (upd H p (.ext λh=>h.IsItemsView p A.rv)) A.rv (.iY o (.dK kvs))=H1 at hD k0 f0;have nD:A.rv≠D:=az f0 hD;have hD0:H D=none:=by
   cases e:H D with
   | none=>rfl
   | some u=>rw [k0 D u nD.symm e] at hD; cases hD
  have mu:∀b,b=A.rv->Mu H b:=λb e=>.inr ⟨kvs,by rw [e]; exact h2⟩
  refine abh kvs (IRt A g kvs o D H) ⟨by rw [au nD]; exact f0,k0.put hD,ae,[],rfl,rfl,λi t p a=>by simp at a⟩ (λi ys H2 _ h=>h.1) (λi m kv t ys H2 hm BC h ht=>?_) λys H2 h=>?_
  ·obtain⟨a1,a2,a3,us,a4,a5⟩:=h;have hv:∃x,x∈Nr/\kv.1=Sum.inr x/\dw K H kv.2 (g x):=by
    obtain⟨x,hx,e⟩:=h3.ks kv (List.mem_of_getElem? BC);exact⟨x,hx,e,h3.at_ x kv.2 (by rw [<-e]; exact lV h3.nd BC)⟩
   obtain⟨x,hx,ex,mP⟩:=hv;have k2:=a2.put (o:=.tup [kV kv.1,kv.2]) ht;have abi:=mP.kp k2 mu;have hno:dw K (upd H2 t (.tup [kV kv.1,kv.2])) (.ref a.bJ) .no:=⟨_,rfl,T.fG _⟩
   have nrt:A.rv≠t:=az a1 ht;have nDt:D≠t:=az a3 ht;have hlen:us.length<=i:=by
    rw [a5.1];refine Nat.le_trans (List.length_filter_le _ _) ?_;rw [List.length_take];exact Nat.min_le_left _ _
   have bX:=h3.bX;have hsn:kvs.take (i+1)=kvs.take i++[kv]:=by rw [List.take_add_one,BC]; rfl
   have hkp:keepR g kv=!(g x).vo:=by unfold keepR; rw [ex]
   dsimp! [bH];refine⟨_,_,abi.rN,hno.rN,by rw [jx]; decide,?_⟩;rw [Yy]
   cases e:(g x).vo with
   | true=>
    refine⟨_,rfl,?_⟩;rw [if_neg (by simp)];refine⟨m,Nat.lt_succ_self m,by omega,ys,by rw [au nrt]; exact a1,k2,by rw [au nDt]; exact a3,us,a4,?_⟩;rw [hsn,List.filter_append,List.filter_cons_of_neg (by rw [hkp,e]; simp),List.filter_nil,List.append_nil];exact a5.up λb ys e=>by rw [au (az e ht)]; exact e
   | false=>
    refine⟨_,rfl,?_⟩;rw [if_pos (by simp)];refine⟨by decide,λz hz=>?_⟩;have nrz:A.rv≠z:=az (by rw [au nrt]; exact a1) hz;have nDz:D≠z:=az (by rw [au nDt]; exact a3) hz;have hz2:H2 z=none:=cI hz;have nzD:z≠D:=nDz.symm;refine⟨ys,by rw [au nDz,au nDt]; exact a3,by rw [a4,List.length_map]; exact aJ (by omega),m,Nat.lt_succ_self m,by omega,ys++[.ref z],by rw [au nD,au nrz,au nrt]; exact a1,λb u hb e=>?_,ae,us++[z],by rw [a4,List.map_append]; rfl,?_⟩
    ·have e2:=k2 b u hb e;have e3:=aj.put (o:=.tup [kV kv.1,kv.2]) hz b u e2;rw [au (λy=>by rw [y,hD0] at e; cases e)];exact e3
    ·rw [hsn,List.filter_append,List.filter_cons_of_pos (by rw [hkp,e]; rfl),List.filter_nil];refine nX.snoc (a5.up λb ys e=>?_) (by rw [au nzD,ae]);rw [au (λy=>by rw [y,a3] at e; cases e),au (az e hz2),au (az e ht)];exact e
  ·obtain⟨a1,a2,a3,us,a4,a5⟩:=h;rw [List.take_length] at a5;have sm:aj H (upd H2 A.rv (.dK kvs)):=λb u e=>by
    by_cases z:b=A.rv
    ·rw [z,ae,<-h2,<-z,e]
    ·rw [au z];exact a2 b u z e
   have bX:(kvs.filter (keepR g)).length<=1000:=Nat.le_trans (List.length_filter_le _ _) (by have:=h3.bX; omega);obtain⟨r1,r2⟩:=h3.kept;refine .inr ⟨A.rv,kvs,_,⟨λo u z=>?_,⟨o,a1⟩,rfl⟩,D,rfl,us,by rw [au nD.symm,<-a4]; exact a3,kvs.filter (keepR g),a5.1,λi t p hi hk=>?_,bX,λr hr=>?_⟩
   ·have z2:H A.rv=some (.iY o u):=z;rw [h2] at z2;cases z2
   ·have:=a5.2 i t p hi hk;rw [au λz=>by rw [z,a1] at this; cases this];exact this
   ·rw [um r1.nd];exact q r _ _ (sm.trans (aj.put hr)) (sm.free hr) ae (r1.same (sm.trans (aj.put hr))) r2
noncomputable def gH (K:PySem.W.Frag) (H:Hp) (p l:Addr) (t:Tg):Prop:=H p=some (.tup [.str t.sort,.ref l,wV t.words])/\∃xs,H l=some (.lst xs)/\jt K H xs t.fs/\xs.length<=1000
theorem gH.same {H H':Hp}{p l:Addr}{t:Tg}(h:gH K H p l t) (k:aj H H'):gH K H' p l t:=by
 obtain⟨h1,xs,h2,h3,h4⟩:=h;exact⟨k _ _ h1,xs,k _ _ h2,h3.same k,h4⟩
inductive De where
 | num (x:Str) (n:Int) | make (x:Str) (n:Nat) | weak (x y:Str) | pair (x y z:Str) | words (x:Str) (n:Int) | put (x:Str) (i:Nat) (y:Str) | get (x y:Str) (i:Nat) | look (x y:Str) | find (x y z:Str) | copy (x y:Str) | drop (x:Str) | tell (x:Str) | same (x y:Str) | hear (x:Str)
noncomputable def De.word:De->Str
 | .num ..=>"num" | .make ..=>"make" | .weak ..=>"weak" | .pair ..=>"pair" | .words ..=>"words" | .put ..=>"put" | .get ..=>"get" | .look ..=>"look" | .find ..=>"find" | .copy ..=>"copy" | .drop ..=>"drop" | .tell ..=>"tell" | .same ..=>"same" | .hear ..=>"hear"
noncomputable def De.args:De->List V
 | .num x n=>[.str x,.int n] | .make x n=>[.str x,.int (n:Nat)] | .weak x y=>[.str x,.str y] | .pair x y z=>[.str x,.str y,.str z] | .words x n=>[.str x,.int n] | .put x i y=>[.str x,.int (i:Nat),.str y] | .get x y i=>[.str x,.str y,.int (i:Nat)] | .look x y=>[.str x,.str y] | .find x y z=>[.str x,.str y,.str z] | .copy x y=>[.str x,.str y] | .drop x=>[.str x] | .tell x=>[.str x] | .same x y=>[.str x,.str y] | .hear x=>[.str x]
noncomputable def De.items (d:De):List V:=.str d.word::d.args
theorem De.hd (d:De):oM d.items 0=some (.str d.word):=by cases d <;> rfl
noncomputable def De.root:De->Str
 | .num x _=>x | .make x _=>x | .weak x _=>x | .pair x _ _=>x | .words x _=>x | .put x _ _=>x | .get x _ _=>x | .look x _=>x | .find x _ _=>x | .copy x _=>x | .drop x=>x | .tell x=>x | .same x _=>x | .hear x=>x
structure Wd where
 g:Str->Vl
 ts:List Tg
 hs:List (Nat×Int)
noncomputable def BJ (n:Int):Prop:=0<=n/\n < 1000000000000000000000000000000000000000000000000000000000000
noncomputable def Vl.ok (m:Nat):Vl->Prop
 | .th s=>∃i:Nat,s=(i:Int)+1/\i < m
 | .num n=>BJ n
 | .no=>True
structure Wd.ok (W:Wd):Prop where
 g:∀x,(W.g x).ok W.ts.length
 ts:∀t∈W.ts,(∀v∈t.fs,v.ok W.ts.length)/\∀n,t.words=some n->BJ n
 hs:∀h∈W.hs,(1<=h.1/\h.1<=W.ts.length)/\BJ h.2
noncomputable def De.fits (d:De):Prop:=d.root∈Nr/\match d with
 | .num _ n=>BJ n
 | .words _ n=>BJ n
 | .make _ n=>n<=100
 | _=>True
noncomputable def Wd.tg (W:Wd) (x:Str):Option (Nat×Tg):=match W.g x with
 | .th n=>(W.ts[(n - 1).toNat]?).map λt=>((n - 1).toNat,t)
 | _=>none
theorem Wd.ok.tg {W:Wd}(h:W.ok) (x:Str):(∃(i:Nat) (t:Tg),W.g x=.th ((i:Int)+1)/\W.ts[i]?=some t/\W.tg x=some (i,t))\/((W.g x).vh=false/\W.tg x=none):=by
 have h1:=h.g x;unfold Wd.tg
 cases e:W.g x with
 | no=>exact .inr ⟨rfl,rfl⟩
 | num n=>exact .inr ⟨rfl,rfl⟩
 | th n=>
  rw [e] at h1;obtain⟨i,rfl,hi⟩:=h1;have e2:((i:Int)+1 - 1).toNat=i:=by omega
  refine .inl ⟨i,W.ts[i],rfl,List.getElem?_eq_getElem hi,?_⟩;show(W.ts[((i:Int)+1 - 1).toNat]?).map (λt=>(((i:Int)+1 - 1).toNat,t))=_;rw [e2,List.getElem?_eq_getElem hi];rfl
noncomputable def Wd.has (W:Wd) (x s:Str):Bool:=match W.tg x with
 | none=>false
 | some q=>decide (s="any") || decide (q.2.sort=s)
noncomputable def De.wants:De->List (Str×Str)
 | .weak _ y=>[(y,"any")] | .pair _ y _=>[(y,"any")] | .words x _=>[(x,"plain")] | .put x _ _=>[(x,"plain")] | .get _ y _=>[(y,"plain")] | .look _ y=>[(y,"weak")] | .find _ y z=>[(y,"pair"),(z,"any")] | _=>[]
noncomputable def De.kE:De->Option (Str×Nat)
 | .put x i _=>some (x,i) | .get _ y i=>some (y,i) | _=>none
noncomputable def Wd.fs (W:Wd) (x:Str):List Vl:=match W.tg x with
 | none=>[]
 | some q=>q.2.fs
noncomputable def Wd.gq (W:Wd) (d:De):Bool:=d.wants.any λq=>!W.has q.1 q.2
noncomputable def Wd.dB (W:Wd) (d:De):Bool:=match d.kE with
 | none=>false
 | some q=>!decide (q.2 < (W.fs q.1).length)
noncomputable def Wd.dP (W:Wd) (x:Str) (v:Vl):Wd:={W with g:=λy=>if y=x then v else W.g y}
noncomputable def Wd.nY (W:Wd) (n:Int):Option (Nat×Tg)->Wd
 | some (i,.plain fs _)=>⟨W.g,W.ts.set i (.plain fs (some n)),W.hs⟩
 | _=>W
noncomputable def Wd.n_ (W:Wd) (n:Nat) (v:Vl):Option (Nat×Tg)->Wd
 | some (i,.plain fs w)=>⟨W.g,W.ts.set i (.plain (fs.set n v) w),W.hs⟩
 | _=>W
noncomputable def Wd.qB (W:Wd) (x:Str):List (Nat×Int)->Wd
 | []=>W.dP x .no
 | h::hs=>(Wd.mk W.g W.ts hs).dP x (.th (h.1:Nat))
noncomputable def Wd.step (W:Wd):De->Wd
 | .num x n=>W.dP x (.num n)
 | .make x n=>(Wd.mk W.g (W.ts++[.plain (List.replicate n .no) none]) W.hs).dP x (.th ((W.ts.length:Int)+1))
 | .weak x y=>(Wd.mk W.g (W.ts++[.weak (W.g y)]) W.hs).dP x (.th ((W.ts.length:Int)+1))
 | .pair x y z=>(Wd.mk W.g (W.ts++[.pair (W.g y) (W.g z)]) W.hs).dP x (.th ((W.ts.length:Int)+1))
 | .words x n=>W.nY n (W.tg x)
 | .put x n y=>W.n_ n (W.g y) (W.tg x)
 | .get x y n=>W.dP x ((W.fs y).getD n .no)
 | .look x y=>W.dP x ((W.fs y).getD 0 .no)
 | .find x y z=>W.dP x (if bA (vD ((W.fs y).getD 0 .no)) (vD (W.g z))=true then(W.fs y).getD 1 .no else .no)
 | .copy x y=>W.dP x (W.g y)
 | .drop x=>W.dP x .no
 | .tell _=>W
 | .same _ _=>W
 | .hear x=>W.qB x W.hs
noncomputable def Vl.told:Vl->Str
 | .num n=>(toString n:String)
 | v=>v.word
noncomputable def AY:List (Nat×Int)->Str
 | []=>"none"
 | h::_=>(toString h.2:String)
noncomputable def Wd.CJ (W:Wd):De->Str
 | .tell x=>(W.g x).told
 | .same x y=>if bA (vD (W.g x)) (vD (W.g y))=true then "yes" else "no"
 | .hear _=>AY W.hs
 | _=>"ok"
noncomputable abbrev PW (a:ft) (K:PySem.W.Frag) (Pr:Addr->Prop) (H:Hp) (A:HA) (W:Wd):Prop:=PH a K Pr H A W.g W.ts W.hs
structure Gn (a:ft) (K:PySem.W.Frag) (Pr:Addr->Prop) (H:Hp) (A:HA) (W:Wd) (t:Addr) (d:De):Prop where
 ph:PW a K Pr H A W
 ok:W.ok
 de:bS K H t d.items
noncomputable def Lh (a:ft) (K:PySem.W.Frag):Sp:=λvs H Q _=>∃Pr A W x s,vs=[.ref A.p,.str x,.str s]/\PW a K Pr H A W/\W.ok/\Q (.bl (W.has x s)) H
theorem UM (T:Txt K mg a):aS P w K mg base cU 4 a.yN a.yO ["heap","letter","sort"] (Lh a K):=by
 refine T.tQ.ok TR (λvs H Q E h=>?_) (λcf A outer s H vs Q E hr h=>?_)
 ·obtain⟨_,_,_,_,_,rfl,_⟩:=h;rfl
 ·obtain⟨Pr,A,W,x,s,rfl,h,ok,q⟩:=h;refine⟨_,(ag (aQ (eV (cQ (aE (Cz T) (hr.mono (by decide)) rfl T.EW T.nS.kp T.EV .nil aC (aa (by exact(aR (pv 0) T.ar T.aW (jw T) (hr.mono (by decide)) T.oo .nil aC (aa (pv 1) af))) af)))) (ah (aw dk)) aG) (ah (aw (WI (da bN (pv 2) aA (aH _)) (mw (da bN (ib (L:=[(a.cT,vj a K),(a.aP,vj a K),(a.bB,vj a K)]) (aR (pv 0) T.ar T.cp (Fb T) (hr.mono (by decide)) T.KQ .nil aC (aa (pv 1) af)) (List.forall_mem_cons.mpr ⟨⟨_,_,_,_,T.fZ,T.Kq,CB T,hr.mono (by decide),T.EY⟩,List.forall_mem_cons.mpr ⟨⟨_,_,_,_,T.bg,T.fu,CB T,hr.mono (by decide),T.EY⟩,List.forall_mem_cons.mpr ⟨⟨_,_,_,_,T.cW,T.fX,CB T,hr.mono (by decide),T.EY⟩,List.forall_mem_nil _⟩⟩⟩) .nil aC) (pv 2) (aH _))))))),?_⟩;obtain⟨dx,h1⟩:=h.ob;have f1:=bt (rv:=A.rv) (hd:=A.hd) (md:=A.md) (n:="root");have f2:=bt (rv:=A.rv) (hd:=A.hd) (md:=A.md) (n:="thing_in");dsimp! [h1,HO.ins.injEq,f1,f2];refine⟨Pr,A,W.g,W.ts,W.hs,x,rfl,h,λu hu=>⟨u,_,rfl,hu,_,rfl,?_⟩⟩;rcases ok.tg x with ⟨i,t,e1,e2,e3⟩ | ⟨e1,e2⟩
  ·have e4:(W.g x).vh=true:=by rw [e1]; rfl
   have e5:W.has x s=(decide (s="any") || decide (t.sort=s)):=by unfold Wd.has; rw [e3]
   rw [e4];refine aY (λz=>by cases z) λ_=>aY (λz=>?_) λz=>?_
   ·rw [e5,z] at q;exact q
   ·refine⟨_,_,h1,f2,Pr,A,W.g,W.ts,W.hs,x,i,t,rfl,h,e1,e2,λp d hT=>?_⟩;obtain⟨P_,Gm⟩:=hT.ob;refine⟨p,rfl,_,_,_,Gm,t.no d,_,t.mem _,p,d,t,rfl,hT,rfl,?_⟩;rw [e5,Bool.eq_false_iff.mpr z,Bool.false_or] at q;rw [show decide (V.str t.sort=V.str s)=decide (t.sort=s) from by simp];exact q
  ·have e5:W.has x s=false:=by unfold Wd.has; rw [e2]
   rw [e1];refine aY (λ_=>?_) λz=>absurd rfl z
   rw [e5] at q;exact q
theorem abj {β:Type}{b D:Addr}{fr:List Nat}{te:TE}{σ:St}{Q:Hp->Prop}{H:Hp}(xs:List V) (bs:List β) (va vb f:β->V) (hz:bs.length<=1000) (hl:bs.length=xs.length) (hS:∀ys,bS K (upd H D (.lst ys)) b xs)
  (hp:∀(i:Nat) x c,xs[i]?=some x->bs[i]?=some c->∃t,x=.ref t/\∀ys,bS K (upd H D (.lst ys)) t [va c,vb c]) (he:∀(i:Nat) c ys (R:VK),bs[i]?=some c->R (f c) (upd H D (.lst ys))->te (bH fr σ (some (va c)) (some (vb c))) (upd H D (.lst ys)) R)
  (hq:Q (upd H D (.lst (bs.map f)))):iJ K (Itt K b) fr (λ_ H Q=>Q true H) te σ D Q (upd H D (.lst [])):=by
 refine⟨λi m H2=>m+i=xs.length/\H2=upd H D (.lst ((bs.take i).map f)),⟨xs.length,rfl,rfl⟩,?_⟩;rintro i m H2 ⟨hm,rfl⟩
 cases m with
 | zero=>
  have e:i=xs.length:=by omega
  subst e;refine .inl ⟨⟨xs,hS _,Nat.le_refl _⟩,?_⟩;rw [<-hl,List.take_length];exact hq
 | succ m=>
  have hi:i < xs.length:=by omega
  have hb:i < bs.length:=by omega
  refine .inr ⟨⟨xs,xs[i],hS _,List.getElem?_eq_getElem hi⟩,λv H' y=>?_⟩;obtain⟨rfl,hv⟩:=y;have hx:=hv xs (hS _);have SI:bs[i]?=some bs[i]:=List.getElem?_eq_getElem hb;have et:bs.take (i+1)=bs.take i++[bs[i]]:=by rw [List.take_add_one,SI]; rfl
  obtain⟨t,e,ht⟩:=hp i v _ hx SI;refine⟨t,_,_,e,ht _,?_⟩;show(if true=true then _ else _);rw [if_pos rfl];refine he i _ _ _ SI ⟨_,ae,?_,m,Nat.lt_succ_self m,by omega,?_⟩
  ·rw [List.length_map,List.length_take];exact aJ (by omega)
  ·rw [Eg,et,List.map_append];rfl
noncomputable def UN (K:PySem.W.Frag) (d:De) (b:Addr):Prop:=∃(xs:List V) (bs:List (Str×Str×Nat)),bs.map (λc=>(c.1,c.2.1))=d.wants/\bs.length=xs.length/\bs.length<=2/\(∀H:Hp,bS K H b xs)/\(∀(i:Nat) x c,xs[i]?=some x->bs[i]?=some c->∃t,x=.ref t/\∀H:Hp,bS K H t [.int ((c.2.2:Nat):Int),.str c.2.1])/\∀c∈bs,oM d.items ((c.2.2:Nat):Int)=some (.str c.1)
theorem UN.one {d:De}{b t:Addr}{x s:Str}{k:Nat}(h1:d.wants=[(x,s)]) (h2:∀H:Hp,bS K H b [.ref t]) (h3:∀H:Hp,bS K H t [.int ((k:Nat):Int),.str s]) (h4:oM d.items ((k:Nat):Int)=some (.str x)):UN K d b:=
 ⟨[.ref t],[(x,s,k)],h1.symm,rfl,Nat.le_succ 1,h2,λi y c hy hc=>by
  cases i with
  | zero=>cases hy; cases hc; exact⟨t,rfl,h3⟩
  | succ i=>simp at hy,λc hc=>by
  rw [List.mem_singleton.mp hc];exact h4⟩
noncomputable abbrev Li (a:ft):List (Str×Addr):=[("weak",a.eC),("pair",a.eE),("words",a.eG),("put",a.eJ),("get",a.eO),("look",a.eQ),("find",a.eS)]
theorem Nx (T:Txt K mg a) (d:De):(d.wants=[]/\PyProof.Rows.KTD.datumAt d.word (Li a)=none)\/∃b,PyProof.Rows.KTD.datumAt d.word (Li a)=some b/\UN K d b:=by
 cases d with
 | num x n=>exact .inl ⟨rfl,by kernel_rfl⟩
 | make x n=>exact .inl ⟨rfl,by kernel_rfl⟩
 | weak x y=>exact .inr ⟨a.eC,by kernel_rfl,.one (k:=2) rfl T.qo T.lJ rfl⟩
 | pair x y z=>exact .inr ⟨a.eE,by kernel_rfl,.one (k:=2) rfl T.qp T.lK rfl⟩
 | words x n=>exact .inr ⟨a.eG,by kernel_rfl,.one (k:=1) rfl T.qr T.lM rfl⟩
 | put x i y=>exact .inr ⟨a.eJ,by kernel_rfl,.one (k:=1) rfl T.qt T.lO rfl⟩
 | get x y i=>exact .inr ⟨a.eO,by kernel_rfl,.one (k:=2) rfl T.qu T.lP rfl⟩
 | look x y=>exact .inr ⟨a.eQ,by kernel_rfl,.one (k:=2) rfl T.qv T.lQ rfl⟩
 | find x y z=>
  refine .inr ⟨a.eS,by kernel_rfl,[.ref a.dG,.ref a.dH],[(y,"pair",2),(z,"any",3)],rfl,rfl,Nat.le_refl _,T.qw,λi u c hy hc=>?_,λc hc=>?_⟩
  ·match i,hy,hc with
   | 0,hy,hc=>cases hy; cases hc; exact⟨_,rfl,T.lR⟩
   | 1,hy,hc=>cases hy; cases hc; exact⟨_,rfl,T.lT⟩
   | i+2,hy,hc=>simp at hy
  ·rcases List.mem_cons.mp hc with rfl | hc
   ·rfl
   ·rw [List.mem_singleton.mp hc];rfl
 | copy x y=>exact .inl ⟨rfl,by kernel_rfl⟩
 | drop x=>exact .inl ⟨rfl,by kernel_rfl⟩
 | tell x=>exact .inl ⟨rfl,by kernel_rfl⟩
 | same x y=>exact .inl ⟨rfl,by kernel_rfl⟩
 | hear x=>exact .inl ⟨rfl,by kernel_rfl⟩
noncomputable def UO (a:ft) (K:PySem.W.Frag):Sp:=λvs H Q _=>∃Pr A W t d,vs=[.ref A.p,.ref t]/\Gn a K Pr H A W t d/\∀H',aj H H'->Q (.bl (W.gq d)) H'
theorem UP (T:Txt K mg a):aS P w K mg base cU 6 a.yP a.yQ ["heap","deed"] (UO a K):=by
 refine T.tR.ok TU (λvs H Q E h=>?_) (λcf A outer s H vs Q E hr h=>?_)
 ·obtain⟨_,_,_,_,_,rfl,_⟩:=h;rfl
 ·obtain⟨Pr,A,W,t,d,rfl,h,q⟩:=h;refine⟨_,(ah (aw (aI (mK rfl) rfl T.uj B8 (aa (HV rfl (HW (x:="at") (x2:="sort") (ns:=["heap","deed"]) (fr:=[0,1]) rfl (by decide +kernel) rfl (by decide +kernel) rfl rfl (List.forall_mem_cons.mpr ⟨rfl,List.forall_mem_cons.mpr ⟨rfl,List.forall_mem_nil _⟩⟩) rfl rfl (List.forall_mem_cons.mpr ⟨⟨rfl,rfl,.inl rfl⟩,List.forall_mem_cons.mpr ⟨⟨rfl,rfl,.inl rfl⟩,List.forall_mem_nil _⟩⟩) (by decide +kernel)) (Sb (Ik T.AQ (dz (v:=.ref a.gM) rfl T.vf rfl) (aq ak (pv 1) ai (λ_ _=>rfl)) (bp af) ⟨rfl,rfl,rfl,rfl⟩)) (λ_ _ _ _=>(BP (aE (UM T) (hr.mono (by decide)) rfl T.O1 T.tQ.kp T.O0 .nil aC (aa (pv 2) (aa (aq (uN (K:=K) rfl) (pv 3) (pv 0) (λ_ _=>rfl)) (aa (pv 1) af)))))) (λ_ _ _ _=>.nil)) af)))),?_⟩;dsimp! [Ij,T.vf];refine⟨t,_,_,_,rfl,rfl,h.de,d.hd,λp hp=>⟨d.word,rfl,?_⟩⟩;have s1:=aj.put (o:=.tup []) hp;have h1:PW a K Pr (upd H p (.tup [])) A W:=h.ph.same s1;have d1:=s1.cc h.de;have e1:upd H p (.tup []) p=some (.tup []):=ae;generalize upd H p (.tup [])=H1 at s1 h1 d1 e1 ⊢;have go:∀(b D:Addr) (xs:List V) (bs:List (Str×Str×Nat)),H1 D=none->bs.map (λc=>(c.1,c.2.1))=d.wants->bs.length=xs.length->bs.length<=2->bS K H1 b xs->(∀(i:Nat) x c,xs[i]?=some x->bs[i]?=some c->∃t,x=.ref t/\∀H:Hp,bS K H t [.int ((c.2.2:Nat):Int),.str c.2.1])->(∀c∈bs,oM d.items ((c.2.2:Nat):Int)=some (.str c.1)) ->
    iJ K (Itt K b) [0,1] (λ_ H Q=>Q true H) (GV (El (Lh a K) [] E0 (sO (BO 2) (sO (Wh (og K) (BO 3) (BO 0)) (sO (BO 1) BY))))) [some (.ref A.p),some (.ref t)] D (λH2=>∃x:List Bool,bf K H2 D (List.map V.bl x)/\Q (V.bl (x.any id)) H2) (upd H1 D (.lst [])):=λb D xs bs hD b1 b2 b3 b4 b5 b6=>by
   refine abj xs bs (λc=>.int ((c.2.2:Nat):Int)) (λc=>.str c.2.1) (λc=>.bl (!W.has c.1 c.2.1)) (by omega) b2 (λys=>(aj.put hD).cc b4) (λi x c hx hc=>?_) (λi c ys R hc r=>?_) ⟨bs.map λc=>!W.has c.1 c.2.1,?_,?_⟩
   ·obtain⟨u,e,hu⟩:=b5 i x c hx hc;exact⟨u,e,λys=>hu _⟩
   ·dsimp! [bH];exact⟨_,rfl,_,rfl,t,_,_,_,rfl,rfl,(aj.put hD).cc d1,b6 c (List.mem_of_getElem? hc),Pr,A,W,c.1,c.2.1,rfl,h1.same (aj.put hD),h.ok,_,rfl,r⟩
   ·rw [List.map_map];exact bf.of ae
   ·have e2:(bs.map λc=>!W.has c.1 c.2.1).any id=W.gq d:=by
     unfold Wd.gq;rw [<-b1,List.any_map,List.any_map];rfl
    rw [e2];exact q _ (s1.trans (aj.put hD))
  rcases Nx T d with ⟨w1,w2⟩ | ⟨b,w1,xs,bs,b1,b2,b3,b4,b5,b6⟩
  ·exact .inr ⟨w2,⟨_,bS.of e1⟩,λD hD=>go p D [] [] hD w1.symm rfl (by decide) (bS.of e1) (λi x c hx=>by simp at hx) (λc hc=>nomatch hc)⟩
  ·exact .inl ⟨b,w1,⟨_,b4 _⟩,λD hD=>go b D xs bs hD b1 b2 b3 (b4 _) b5 b6⟩
noncomputable abbrev Fd (a:ft):List (Str×Addr):=[("put",a.cj),("get",a.ck)]
theorem Ny (T:Txt K mg a) (d:De):(d.kE=none/\PyProof.Rows.KTD.datumAt d.word (Fd a)=none)\/∃(b:Addr) (k1 k2:Int) (x:Str) (i:Nat),PyProof.Rows.KTD.datumAt d.word (Fd a)=some b/\(∀H:Hp,bS K H b [.int k1,.int k2])/\d.kE=some (x,i)/\oM d.items k1=some (.str x)/\oM d.items k2=some (.int (i:Nat))/\(x,("plain":Str))∈d.wants:=by
 cases d with
 | put x i y=>exact .inr ⟨a.cj,1,2,x,i,by kernel_rfl,T.ij,rfl,rfl,rfl,List.mem_cons_self⟩
 | get x y i=>exact .inr ⟨a.ck,2,3,y,i,by kernel_rfl,T.ik,rfl,rfl,rfl,List.mem_cons_self⟩
 | num x n=>exact .inl ⟨rfl,by kernel_rfl⟩
 | make x n=>exact .inl ⟨rfl,by kernel_rfl⟩
 | weak x y=>exact .inl ⟨rfl,by kernel_rfl⟩
 | pair x y z=>exact .inl ⟨rfl,by kernel_rfl⟩
 | words x n=>exact .inl ⟨rfl,by kernel_rfl⟩
 | look x y=>exact .inl ⟨rfl,by kernel_rfl⟩
 | find x y z=>exact .inl ⟨rfl,by kernel_rfl⟩
 | copy x y=>exact .inl ⟨rfl,by kernel_rfl⟩
 | drop x=>exact .inl ⟨rfl,by kernel_rfl⟩
 | tell x=>exact .inl ⟨rfl,by kernel_rfl⟩
 | same x y=>exact .inl ⟨rfl,by kernel_rfl⟩
 | hear x=>exact .inl ⟨rfl,by kernel_rfl⟩
theorem Wd.ok.Yz {W:Wd}(h:W.ok) {x s:Str}(hs:W.has x s=true):∃(i:Nat) (t:Tg),W.g x=.th ((i:Int)+1)/\W.ts[i]?=some t/\W.tg x=some (i,t)/\W.fs x=t.fs/\(s="any"\/t.sort=s):=by
 rcases h.tg x with ⟨i,t,e1,e2,e3⟩ | ⟨e1,e2⟩
 ·refine⟨i,t,e1,e2,e3,by unfold Wd.fs; rw [e3],?_⟩;unfold Wd.has at hs;rw [e3] at hs;rcases Bool.or_eq_true_iff.mp hs with z | z
  ·exact .inl (of_decide_eq_true z)
  ·exact .inr (of_decide_eq_true z)
 ·unfold Wd.has at hs;rw [e2] at hs;cases hs
theorem Wd.wanted {W:Wd}{d:De}(h:W.gq d=false) {x s:Str}(hm:(x,s)∈d.wants):W.has x s=true:=by
 cases e:W.has x s with
 | true=>rfl
 | false=>
  have:W.gq d=true:=List.any_eq_true.mpr ⟨(x,s),hm,by rw [e]; rfl⟩;rw [h] at this;cases this
noncomputable def UQ (a:ft) (K:PySem.W.Frag):Sp:=λvs H Q _=>∃Pr A W t d,vs=[.ref A.p,.ref t]/\Gn a K Pr H A W t d/\W.gq d=false/\∀H',aj H H'->Q (.bl (W.dB d)) H'
theorem UR (T:Txt K mg a):aS P w K mg base cU 4 a.yR a.yS ["heap","deed"] (UQ a K):=by
 refine T.tS.ok Cq (λvs H Q E h=>?_) (λcf A outer s H vs Q E hr h=>?_)
 ·obtain⟨_,_,_,_,_,rfl,_⟩:=h;rfl
 ·obtain⟨Pr,A,W,t,d,rfl,h,hl,q⟩:=h;refine⟨_,(ag (aN (i:=2) Cq.nd rfl (Or.inl rfl) (H_ T.jr (dz (v:=.ref a.cO) rfl T.km rfl) (aq ak (pv 1) ai (λ_ _=>rfl)) ⟨rfl,rfl,rfl,rfl⟩)) (ag (aQ (aD mz (pv 2) cB (aH _)) (ah (aw dk)) aG) (ag (aN (i:=3) Cq.nd rfl (Or.inl rfl) (aI cz rfl T.fk dS (aa (ib (L:=[(a.cT,fI a K),(a.aP,fI a K),(a.bB,fI a K)]) (aR (pv 0) T.ar T.cp (Fb T) (hr.mono (by decide)) T.KQ .nil aC (aa (aq ak (pv 1) (aq ak (pv 2) ai (λ_ _=>rfl)) (λ_ _=>rfl)) af)) (List.forall_mem_cons.mpr ⟨⟨_,_,_,_,T.fZ,T.pP,gk T,hr.mono (by decide),T.ie⟩,List.forall_mem_cons.mpr ⟨⟨_,_,_,_,T.bg,T.cD,gk T,hr.mono (by decide),T.ie⟩,List.forall_mem_cons.mpr ⟨⟨_,_,_,_,T.cW,T.cL,gk T,hr.mono (by decide),T.ie⟩,List.forall_mem_nil _⟩⟩⟩) .nil aC) af))) (ah (aw (BP (G9 WS G6 ai (aq ak (pv 1) (aq ak (pv 2) ai (λ_ _=>rfl)) (λ_ _=>rfl)) (pv 3)))))))),?_⟩;dsimp! [];refine⟨t,_,_,_,rfl,rfl,h.de,d.hd,d.word,rfl,?_⟩;rcases Ny T d with ⟨w1,w2⟩ | ⟨b,k1,k2,x,i,w1,w2,w3,w4,w5,w6⟩
  ·refine .inr ⟨w2,?_⟩;have e:W.dB d=false:=by unfold Wd.dB; rw [w1]
   rw [<-e];exact q H λ_ _ e=>e
  ·have e:W.dB d=!decide (i < (W.fs x).length):=by unfold Wd.dB; rw [w3]
   obtain⟨j,g,g1,g2,g3,g4,_⟩:=h.ok.Yz (W.wanted hl w6);obtain⟨dx,h1⟩:=h.ph.ob;refine .inl ⟨b,w1,dx,_,h1,bt,b,_,_,_,rfl,rfl,w2 _,rfl,t,_,_,_,rfl,rfl,h.de,w4,Pr,A,W.g,W.ts,W.hs,x,j,g,rfl,h.ph,g1,g2,λp d2 hT=>?_⟩;obtain⟨P_,Gm⟩:=hT.ob;refine⟨p,rfl,_,_,_,Gm,g.no d2,_,g.mem _,p,d2,g,rfl,hT,λr xs hr mP hz=>?_⟩;have s1:=aj.put (o:=.lst xs) hr;refine⟨r,rfl,xs,.inl (bf.of ae),b,_,_,_,rfl,rfl,w2 _,rfl,t,_,_,_,rfl,rfl,s1.cc h.de,w5,_,rfl,?_⟩;refine aY (λ_=>⟨_,rfl,?_⟩) λz=>absurd (decide_eq_true (Int.natCast_nonneg i)) z
   have e2:(!decide ((i:Int) < (xs.length:Nat)))=W.dB d:=by
    rw [e,g4,mP.1];congr 1;exact decide_eq_decide.mpr Int.ofNat_lt
   rw [e2];exact q _ s1
noncomputable def Wd.made (W:Wd):De->Option Tg
 | .make _ n=>some (.plain (List.replicate n .no) none)
 | .weak _ y=>some (.weak (W.g y))
 | .pair _ y z=>some (.pair (W.g y) (W.g z))
 | _=>none
theorem YA:¬(("weak":Str)="make"):=by decide +kernel
theorem YB:¬(("pair":Str)="make"):=by decide +kernel
theorem Lj:¬(("pair":Str)="weak"):=by decide +kernel
noncomputable def De.isNew:De->Bool
 | .make ..=>true
 | .weak ..=>true
 | .pair ..=>true
 | _=>false
theorem bF {H:Hp}{t:Addr}{xs:List V}{i:Int}{v:V}{Q:VK}(h:bS K H t xs) (e:oM xs i=some v) (q:Q v H):og K (.ref t) (.int i) H Q:=⟨t,xs,i,v,rfl,rfl,h,e,q⟩
theorem vp {H:Hp}{t:Addr}{xs:List V}{i:Int}{v:V}{Q:VK}(h:bf K H t xs) (e:oM xs i=some v) (q:Q v H):Sq K (.ref t) (.int i) H Q:=⟨t,xs,i,v,rfl,rfl,h,e,q⟩
theorem De.at1 (d:De):oM d.items 1=some (.str d.root):=by cases d <;> rfl
theorem BJ.log {n:Int}(h:BJ n):n.natAbs.log2 < 1920:=by
 by_cases c:n.natAbs=0
 ·rw [c];decide
 ·refine(Nat.log2_lt c).mpr (Nat.lt_of_lt_of_le (m:=1000000000000000000000000000000000000000000000000000000000000) ?_ (by decide));obtain⟨h1,h2⟩:=h;omega
theorem jt.rep {H:Hp}{x:V}{v:Vl}(h:dw K H x v) (n:Nat):jt K H (List.replicate n x) (List.replicate n v):=⟨by simp,λi y u a b=>by
 rw [List.getElem?_replicate] at a b
 by_cases hi:i < n
 ·rw [if_pos hi] at a b;cases a;cases b;exact h
 ·rw [if_neg hi] at a;cases a⟩
theorem AZ (x:V):∀n:Nat,(List.replicate n [x]).flatten=List.replicate n x
 | 0=>rfl
 | n+1=>by rw [List.replicate_succ,List.flatten_cons,AZ x n]; rfl
theorem abk:¬(("plain":Str)="any"):=by decide +kernel
theorem abl:¬(("weak":Str)="any"):=by decide +kernel
theorem abm:¬(("pair":Str)="any"):=by decide +kernel
theorem YC:¬(("plain":Str)="weak"):=by decide +kernel
theorem YD:¬(("plain":Str)="pair"):=by decide +kernel
theorem Wd.ok.A0 {W:Wd}(h:W.ok) {x:Str}(hs:W.has x "plain"=true):∃(i:Nat) (fs:List Vl) (w:Option Int),W.g x=.th ((i:Int)+1)/\W.ts[i]?=some (.plain fs w)/\W.tg x=some (i,.plain fs w)/\W.fs x=fs:=by
 obtain⟨i,t,e1,e2,e3,e4,e5 | e5⟩:=h.Yz hs
 ·exact absurd e5 abk
 ·cases t with
  | plain fs w=>exact⟨i,fs,w,e1,e2,e3,e4⟩
  | weak f=>exact absurd e5.symm YC
  | pair k v=>exact absurd e5.symm YD
theorem Wd.ok.YE {W:Wd}(h:W.ok) {x:Str}(hs:W.has x "weak"=true):∃(i:Nat) (f:Vl),W.g x=.th ((i:Int)+1)/\W.ts[i]?=some (.weak f)/\W.tg x=some (i,.weak f)/\W.fs x=[f]:=by
 obtain⟨i,t,e1,e2,e3,e4,e5 | e5⟩:=h.Yz hs
 ·exact absurd e5 abl
 ·cases t with
  | plain fs w=>exact absurd e5 YC
  | weak f=>exact⟨i,f,e1,e2,e3,e4⟩
  | pair k v=>exact absurd e5 Lj
theorem Wd.ok.YF {W:Wd}(h:W.ok) {x:Str}(hs:W.has x "pair"=true):∃(i:Nat) (k v:Vl),W.g x=.th ((i:Int)+1)/\W.ts[i]?=some (.pair k v)/\W.tg x=some (i,.pair k v)/\W.fs x=[k,v]:=by
 obtain⟨i,t,e1,e2,e3,e4,e5 | e5⟩:=h.Yz hs
 ·exact absurd e5 abm
 ·cases t with
  | plain fs w=>exact absurd e5 YD
  | weak f=>exact absurd e5.symm Lj
  | pair k v=>exact⟨i,k,v,e1,e2,e3,e4⟩
theorem Wd.uo {W:Wd}{d:De}{tg:Tg}(h:W.made d=some tg):W.step d=(Wd.mk W.g (W.ts++[tg]) W.hs).dP d.root (.th ((W.ts.length:Int)+1))/\W.CJ d="ok":=by
 cases d with
 | make x n=>cases h; exact⟨rfl,rfl⟩
 | weak x n=>cases h; exact⟨rfl,rfl⟩
 | pair x n z=>cases h; exact⟨rfl,rfl⟩
 | _=>cases h
theorem De.isNew.made {d:De}(h:d.isNew=true) (W:Wd):∃tg,W.made d=some tg:=by
 cases d with
 | make x n=>exact⟨_,rfl⟩
 | weak x n=>exact⟨_,rfl⟩
 | pair x n z=>exact⟨_,rfl⟩
 | _=>cases h
noncomputable def US (a:ft) (K:PySem.W.Frag):Sp:=λvs H Q _=>∃Pr A W t d tg,vs=[.ref A.p,.ref t]/\Gn a K Pr H A W t d/\d.fits/\W.made d=some tg/\∀p dl H',aj H H'->H p=none->H dl=none->gu a K H' p dl tg->Q (.ref p) H'
theorem UT (T:Txt K mg a):aS P w K mg base cU 5 a.yT a.yU ["heap","deed"] (US a K):=by
 refine T.tT.ok TV (λvs H Q E h=>?_) (λcf A outer s H vs Q E hr h=>?_)
 ·obtain⟨_,_,_,_,_,_,rfl,_⟩:=h;rfl
 ·obtain⟨Pr,A,W,t,d,tg,rfl,h,hf,hm,q⟩:=h;refine⟨_,(ag (aQ (aD bN (aq ak (pv 1) ai (λ_ _=>rfl)) aA (aH _)) (ah (aw (aE (Us T) (hr.mono (by decide)) rfl T.OG T.tI.kp T.OF .nil aC (aa (bz Hm (bE (aa (dz (v:=.ref a.bJ) rfl T.bC rfl) af)) (aq ak (pv 1) ai (λ_ _=>rfl))) (aa cB af))))) aG) (ag (aQ (aD bN (aq ak (pv 1) ai (λ_ _=>rfl)) aA (aH _)) (ah (aw (aE (Uu T) (hr.mono (by decide)) rfl T.OI T.tJ.kp T.OH .nil aC (aa (by exact(aR (pv 0) T.ar T.aW (jw T) (hr.mono (by decide)) T.oo .nil aC (aa (aq ak (pv 1) ai (λ_ _=>rfl)) af))) af)))) aG) (ah (aw (aE (Uw T) (hr.mono (by decide)) rfl T.OK T.tK.kp T.OJ .nil aC (aa (by exact(aR (pv 0) T.ar T.aW (jw T) (hr.mono (by decide)) T.oo .nil aC (aa (aq ak (pv 1) ai (λ_ _=>rfl)) af))) (aa (by exact(aR (pv 0) T.ar T.aW (jw T) (hr.mono (by decide)) T.oo .nil aC (aa (aq ak (pv 1) ai (λ_ _=>rfl)) af))) af))))))),?_⟩;dsimp! [T.bC];refine⟨t,_,_,_,rfl,rfl,h.de,d.hd,rfl,?_⟩
  cases d with
  | make x n=>
   cases hm;have hn:n<=100:=hf.2;refine aY (λ_=>⟨by decide,λp hp=>?_⟩) λz=>absurd (decide_eq_true rfl) z
   have s1:=aj.put (o:=.lst [.ref a.bJ]) hp;refine bF (s1.cc h.de) rfl ⟨p,_,_,rfl,rfl,ae,by omega,by omega,?_,λr hr=>?_⟩
   ·rw [List.length_singleton,Int.toNat_natCast,Nat.one_mul];exact Nat.le_of_lt (aJ (by omega))
   ·have s2:=s1.trans (aj.put (o:=.lst (List.replicate (Int.toNat (n:Nat)) [V.ref a.bJ]).flatten) hr);rw [Int.toNat_natCast,AZ] at s2 ⊢;have hv:dw K (upd (upd H p (.lst [.ref a.bJ])) r (.lst (List.replicate n (.ref a.bJ)))) (.ref a.bJ) .no:=⟨_,rfl,T.fG _⟩
    refine⟨r,_,_,none,rfl,bf.of ae,jt.rep hv n,by rw [List.length_replicate]; omega,λp2 dl H' s3 h2 h3 hT=>q p2 dl H' (s2.trans s3) (s2.free h2) (s2.free h3) hT⟩
  | weak x y=>
   cases hm;obtain⟨dx,h1⟩:=h.ph.ob;refine aY (λz=>absurd (V.str.inj (of_decide_eq_true z)) YA) λ_=>bF h.de rfl ⟨rfl,aY (λ_=>?_) λz=>absurd (decide_eq_true rfl) z⟩
   refine⟨dx,_,h1,bt,bF h.de rfl ⟨Pr,A,W.g,W.ts,W.hs,y,rfl,h.ph,λu hu=>⟨u,_,rfl,hu,q⟩⟩⟩
  | pair x y z=>
   cases hm;obtain⟨dx,h1⟩:=h.ph.ob;refine aY (λz=>absurd (V.str.inj (of_decide_eq_true z)) YB) λ_=>bF h.de rfl ⟨rfl,aY (λz=>absurd (V.str.inj (of_decide_eq_true z)) Lj) λ_=>?_⟩
   refine⟨dx,_,h1,bt,bF h.de rfl ⟨Pr,A,W.g,W.ts,W.hs,y,rfl,h.ph,λu hu=>⟨dx,_,h1,bt,bF h.de rfl ⟨Pr,A,W.g,W.ts,W.hs,z,rfl,h.ph,λu2 EN=>⟨u,u2,_,_,rfl,hu,EN,q⟩⟩⟩⟩⟩
  | _=>cases hm
noncomputable def ip (a:ft) (K:PySem.W.Frag) (Pd:De->Prop):Sp:=λvs H Q _=>∃Pr A W t d,vs=[.ref A.p,.ref t]/\Gn a K Pr H A W t d/\Pd d/\W.gq d=false/\W.dB d=false/\d.fits/\W.ts.length < 500/\∀H',Kp A.own H H'->PW a K Pr H' A (W.step d)->Q (.str (W.CJ d)) H'
theorem UU (T:Txt K mg a):aS P w K mg base cU 2 a.nF a.yV ["heap","deed"] (ip a K (λd=>∃x n,d=.num x n)):=by
 refine T.pX.ok TX (λvs H Q E h=>?_) (λcf A outer s H vs Q E hr h=>?_)
 ·obtain⟨_,_,_,_,_,rfl,_⟩:=h;rfl
 ·obtain⟨Pr,A,W,t,d,rfl,h,⟨x,n,rfl⟩,hl,kS,hf,bX,q⟩:=h;refine⟨_,(ag (bx (aR (pv 0) T.ar T.aZ (nW T) (hr.mono (by decide)) T.ve .nil aC (aa (aq ak (pv 1) ai (λ_ _=>rfl)) (aa (bp (aa aA (aa (aq ak (pv 1) ai (λ_ _=>rfl)) af))) af)))) (ah (aw aA))),?_⟩;obtain⟨dx,h1⟩:=h.ph.ob;dsimp! [T.bC];refine⟨dx,_,h1,bt,bF h.de rfl (bF h.de rfl ⟨by decide,λp hp=>?_⟩)⟩;have s1:=aj.put (o:=.tup [.str "number",.int n]) hp;exact⟨Pr,A,W.g,W.ts,W.hs,x,_,.num n,rfl,h.ph.same s1,hf.1,⟨p,rfl,bS.of ae⟩,λH' k ph=>q H' ((aj.kp s1).trans k) ph⟩
theorem UW (T:Txt K mg a):aS P w K mg base cU 6 a.iX a.yW ["heap","deed"] (ip a K (λd=>d.isNew=true)):=by
 refine T.lC.ok TY (λvs H Q E h=>?_) (λcf A outer s H vs Q E hr h=>?_)
 ·obtain⟨_,_,_,_,_,rfl,_⟩:=h;rfl
 ·obtain⟨Pr,A,W,t,d,rfl,h,hd0,hl,kS,hf,bX,q⟩:=h;refine⟨_,(ag (bx (aR (pv 0) T.ar T.aZ (nW T) (hr.mono (by decide)) T.ve .nil aC (aa (aq ak (pv 1) ai (λ_ _=>rfl)) (aa (bp (aa aA (aa (by exact(aR (pv 0) T.ar T.KU (UD T) (hr.mono (by decide)) T.Po .nil aC (aa (aE (UT T) (hr.mono (by decide)) rfl T.O7 T.tT.kp T.O6 .nil aC (aa (pv 0) (aa (pv 1) af))) af))) af))) af)))) (ah (aw aA))),?_⟩;obtain⟨dx,h1⟩:=h.ph.ob;dsimp! [T.bC];obtain⟨tg,hm⟩:=De.isNew.made hd0 W;obtain⟨e1,e2⟩:=Wd.uo hm;rw [e1,e2] at q;refine⟨dx,_,h1,bt,bF h.de d.at1 ⟨dx,_,h1,bt,Pr,A,W,t,d,tg,rfl,h,hf,hm,λp dl H1 s1 hp XC hT=>?_⟩⟩;obtain⟨f1,f2⟩:=h.ph.fresh XC;refine⟨Pr,A,W.g,W.ts,W.hs,p,dl,tg,rfl,h.ph.same s1,hT,f1,f2,bX,λH2 k2 ph2=>⟨by decide,λr hr=>?_⟩⟩;have s3:=aj.put (o:=.tup [.str "thing",.int ((W.ts.length:Int)+1)]) hr;exact⟨Pr,A,_,_,_,d.root,_,.th ((W.ts.length:Int)+1),rfl,ph2.same s3,hf.1,⟨r,rfl,bS.of ae⟩,λH' k ph=>q H' (((aj.kp s1).trans k2).trans ((aj.kp s3).trans k)) ph⟩
theorem UX (T:Txt K mg a):aS P w K mg base cU 6 a.nG a.yX ["heap","deed"] (ip a K (λd=>∃x n,d=.words x n)):=by
 refine T.pY.ok TZ (λvs H Q E h=>?_) (λcf A outer s H vs Q E hr h=>?_)
 ·obtain⟨_,_,_,_,_,rfl,_⟩:=h;rfl
 ·obtain⟨Pr,A,W,t,d,rfl,h,⟨x,n,rfl⟩,hl,kS,hf,bX,q⟩:=h;refine⟨_,(ag (bx (aR (pv 0) T.ar T.KY (UG T) (hr.mono (by decide)) T.Pq .nil aC (aa (by exact(aR (pv 0) T.ar T.cE (E_ T) (hr.mono (by decide)) T.KP .nil aC (aa (aq ak (pv 1) ai (λ_ _=>rfl)) af))) (aa (aq ak (pv 1) ai (λ_ _=>rfl)) af)))) (ah (aw aA))),?_⟩;obtain⟨dx,h1⟩:=h.ph.ob;dsimp! [T.bC];obtain⟨i,fs,w,g1,g2,g3,g4⟩:=h.ok.A0 (W.wanted hl List.mem_cons_self);have e:W.step (.words x n)=⟨W.g,W.ts.set i (.plain fs (some n)),W.hs⟩:=by show W.nY n (W.tg x)=_; rw [g3]; rfl
  rw [e] at q;exact⟨dx,_,h1,bt,dx,_,h1,bt,bF h.de rfl ⟨Pr,A,W.g,W.ts,W.hs,x,_,rfl,h.ph,g1,bF h.de rfl ⟨Pr,A,W.g,W.ts,W.hs,i,fs,w,some n,rfl,h.ph,g2,q⟩⟩⟩
theorem UY (T:Txt K mg a):aS P w K mg base cU 6 a.nH a.yY ["heap","deed"] (ip a K (λd=>∃x i y,d=.put x i y)):=by
 refine T.pZ.ok T1 (λvs H Q E h=>?_) (λcf A outer s H vs Q E hr h=>?_)
 ·obtain⟨_,_,_,_,_,rfl,_⟩:=h;rfl
 ·obtain⟨Pr,A,W,t,d,rfl,h,⟨x,i,y,rfl⟩,hl,kS,hf,bX,q⟩:=h;refine⟨_,(ag (bx (aR (pv 0) T.ar T.KW (UE T) (hr.mono (by decide)) T.Pp .nil aC (aa (by exact(aR (pv 0) T.ar T.cE (E_ T) (hr.mono (by decide)) T.KP .nil aC (aa (aq ak (pv 1) ai (λ_ _=>rfl)) af))) (aa (aq ak (pv 1) ai (λ_ _=>rfl)) (aa (by exact(aR (pv 0) T.ar T.aW (jw T) (hr.mono (by decide)) T.oo .nil aC (aa (aq ak (pv 1) ai (λ_ _=>rfl)) af))) af))))) (ah (aw aA))),?_⟩;obtain⟨dx,h1⟩:=h.ph.ob;dsimp! [T.bC];obtain⟨j,fs,w,g1,g2,g3,g4⟩:=h.ok.A0 (W.wanted hl List.mem_cons_self);have e:W.step (.put x i y)=⟨W.g,W.ts.set j (.plain (fs.set i (W.g y)) w),W.hs⟩:=by show W.n_ i (W.g y) (W.tg x)=_; rw [g3]; rfl
  rw [e] at q;have hi:i < fs.length:=by
   rw [<-g4];exact of_decide_eq_true (by simpa [Wd.dB,De.kE] using kS)
  exact⟨dx,_,h1,bt,dx,_,h1,bt,bF h.de rfl ⟨Pr,A,W.g,W.ts,W.hs,x,_,rfl,h.ph,g1,bF h.de rfl ⟨dx,_,h1,bt,bF h.de rfl ⟨Pr,A,W.g,W.ts,W.hs,y,rfl,h.ph,λu hu=>⟨Pr,A,W.g,W.ts,W.hs,j,i,fs,w,u,_,rfl,h.ph,g2,hi,hu,q⟩⟩⟩⟩⟩
theorem UZ (T:Txt K mg a):aS P w K mg base cU 4 a.nJ a.yZ ["heap","deed"] (ip a K (λd=>∃x y i,d=.get x y i)):=by
 refine T.p_.ok T2 (λvs H Q E h=>?_) (λcf A outer s H vs Q E hr h=>?_)
 ·obtain⟨_,_,_,_,_,rfl,_⟩:=h;rfl
 ·obtain⟨Pr,A,W,t,d,rfl,h,⟨x,y,i,rfl⟩,hl,kS,hf,bX,q⟩:=h;refine⟨_,(ag (bx (aR (pv 0) T.ar T.aZ (nW T) (hr.mono (by decide)) T.ve .nil aC (aa (aq ak (pv 1) ai (λ_ _=>rfl)) (aa (aq cy (ib (L:=[(a.cT,fI a K),(a.aP,fI a K),(a.bB,fI a K)]) (aR (pv 0) T.ar T.cp (Fb T) (hr.mono (by decide)) T.KQ .nil aC (aa (aq ak (pv 1) ai (λ_ _=>rfl)) af)) (List.forall_mem_cons.mpr ⟨⟨_,_,_,_,T.fZ,T.pP,gk T,hr.mono (by decide),T.ie⟩,List.forall_mem_cons.mpr ⟨⟨_,_,_,_,T.bg,T.cD,gk T,hr.mono (by decide),T.ie⟩,List.forall_mem_cons.mpr ⟨⟨_,_,_,_,T.cW,T.cL,gk T,hr.mono (by decide),T.ie⟩,List.forall_mem_nil _⟩⟩⟩) .nil aC) (aq ak (pv 1) ai (λ_ _=>rfl)) (λ_ _=>rfl)) af)))) (ah (aw aA))),?_⟩;obtain⟨dx,h1⟩:=h.ph.ob;dsimp! [T.bC];obtain⟨j,fs,w,g1,g2,g3,g4⟩:=h.ok.A0 (W.wanted hl List.mem_cons_self);have hi:i < fs.length:=by
   rw [<-g4];exact of_decide_eq_true (by simpa [Wd.dB,De.kE] using kS)
  have e:W.step (.get x y i)=W.dP x fs[i]:=by
   show W.dP x ((W.fs y).getD i .no)=_;rw [g4,List.getD_eq_getElem?_getD,List.getElem?_eq_getElem hi];rfl
  rw [e] at q;refine⟨dx,_,h1,bt,bF h.de rfl ⟨dx,_,h1,bt,bF h.de rfl ⟨Pr,A,W.g,W.ts,W.hs,y,j,_,rfl,h.ph,g1,g2,λp d2 hT=>?_⟩⟩⟩;obtain⟨P_,Gm⟩:=hT.ob;refine⟨p,rfl,_,_,_,Gm,(Tg.plain fs w).no d2,_,(Tg.plain fs w).mem _,p,d2,_,rfl,hT,λr xs hr mP hz=>?_⟩;have s1:=aj.put (o:=.lst xs) hr;have hx:xs[i]?=some (xs[i]'(by have:=mP.1; have e3:(Tg.plain fs w).fs=fs:=rfl; rw [e3] at this; omega)):=List.getElem?_eq_getElem _;exact bF (s1.cc h.de) rfl (vp (bf.of ae) (cG hx) ⟨Pr,A,W.g,W.ts,W.hs,x,_,_,rfl,h.ph.same s1,hf.1,(mP.2 i _ _ hx (List.getElem?_eq_getElem hi)).same s1,λH' k ph=>q H' ((aj.kp s1).trans k) ph⟩)
theorem U2 (T:Txt K mg a):aS P w K mg base cU 3 a.nK a.y_ ["heap","deed"] (ip a K (λd=>∃x y,d=.look x y)):=by
 refine T.qa.ok T3 (λvs H Q E h=>?_) (λcf A outer s H vs Q E hr h=>?_)
 ·obtain⟨_,_,_,_,_,rfl,_⟩:=h;rfl
 ·obtain⟨Pr,A,W,t,d,rfl,h,⟨x,y,rfl⟩,hl,kS,hf,bX,q⟩:=h;refine⟨_,(ag (bx (aR (pv 0) T.ar T.aZ (nW T) (hr.mono (by decide)) T.ve .nil aC (aa (aq ak (pv 1) ai (λ_ _=>rfl)) (aa (by exact(aR (pv 0) T.ar T.fj (Ys T) (hr.mono (by decide)) T.Ye .nil aC (aa (by exact(aR (pv 0) T.ar T.cE (E_ T) (hr.mono (by decide)) T.KP .nil aC (aa (aq ak (pv 1) ai (λ_ _=>rfl)) af))) af))) af)))) (ah (aw aA))),?_⟩;obtain⟨dx,h1⟩:=h.ph.ob;dsimp! [T.bC];obtain⟨j,f,g1,g2,g3,g4⟩:=h.ok.YE (W.wanted hl List.mem_cons_self);have e:W.step (.look x y)=W.dP x f:=by
   show W.dP x ((W.fs y).getD 0 .no)=_;rw [g4];rfl
  rw [e] at q;exact⟨dx,_,h1,bt,bF h.de rfl ⟨dx,_,h1,bt,dx,_,h1,bt,bF h.de rfl ⟨Pr,A,W.g,W.ts,W.hs,y,_,rfl,h.ph,g1,Pr,A,W.g,W.ts,W.hs,j,_,f,rfl,h.ph,g2,rfl,λu H1 s1 hu=>⟨Pr,A,W.g,W.ts,W.hs,x,_,_,rfl,h.ph.same s1,hf.1,hu,λH' k ph=>q H' ((aj.kp s1).trans k) ph⟩⟩⟩⟩
theorem U3 (T:Txt K mg a):aS P w K mg base cU 4 a.nM a.za ["heap","deed"] (ip a K (λd=>∃x y z,d=.find x y z)):=by
 refine T.qb.ok J6 (λvs H Q E h=>?_) (λcf A outer s H vs Q E hr h=>?_)
 ·obtain⟨_,_,_,_,_,rfl,_⟩:=h;rfl
 ·obtain⟨Pr,A,W,t,d,rfl,h,⟨x,y,z,rfl⟩,hl,kS,hf,bX,q⟩:=h;refine⟨_,(ag (aN (i:=2) J6.nd rfl (Or.inl rfl) (ib (L:=[(a.cT,fI a K),(a.aP,fI a K),(a.bB,fI a K)]) (aR (pv 0) T.ar T.cp (Fb T) (hr.mono (by decide)) T.KQ .nil aC (aa (aq ak (pv 1) ai (λ_ _=>rfl)) af)) (List.forall_mem_cons.mpr ⟨⟨_,_,_,_,T.fZ,T.pP,gk T,hr.mono (by decide),T.ie⟩,List.forall_mem_cons.mpr ⟨⟨_,_,_,_,T.bg,T.cD,gk T,hr.mono (by decide),T.ie⟩,List.forall_mem_cons.mpr ⟨⟨_,_,_,_,T.cW,T.cL,gk T,hr.mono (by decide),T.ie⟩,List.forall_mem_nil _⟩⟩⟩) .nil aC)) (ag (bx (aR (pv 0) T.ar T.aZ (nW T) (hr.mono (by decide)) T.ve .nil aC (aa (aq ak (pv 1) ai (λ_ _=>rfl)) (aa (dU (aD (iI hr.units) (aq cy (pv 2) ai (λ_ _=>rfl)) (aR (pv 0) T.ar T.aW (jw T) (hr.mono (by decide)) T.oo .nil aC (aa (aq ak (pv 1) ai (λ_ _=>rfl)) af)) (aH _)) (aq cy (pv 2) ai (λ_ _=>rfl)) (dz (v:=.ref a.bJ) rfl T.bC rfl)) af)))) (ah (aw aA)))),?_⟩;obtain⟨dx,h1⟩:=h.ph.ob;dsimp! [T.bC];obtain⟨j,k,v,g1,g2,g3,g4⟩:=h.ok.YF (W.wanted hl List.mem_cons_self);have e:W.step (.find x y z)=W.dP x (if bA (vD k) (vD (W.g z))=true then v else .no):=by
   show W.dP x (if bA (vD ((W.fs y).getD 0 .no)) (vD (W.g z))=true then(W.fs y).getD 1 .no else .no)=_;rw [g4];rfl
  rw [e] at q;refine⟨dx,_,h1,bt,bF h.de rfl ⟨Pr,A,W.g,W.ts,W.hs,y,j,_,rfl,h.ph,g1,g2,λp d2 hT=>?_⟩⟩;obtain⟨P_,Gm⟩:=hT.ob;refine⟨p,rfl,_,_,_,Gm,(Tg.pair k v).no d2,_,(Tg.pair k v).mem _,p,d2,_,rfl,hT,λr xs hr mP hz=>?_⟩;have s1:=aj.put (o:=.lst xs) hr;have gg:[k,v].length=xs.length:=mP.1;have Qa:xs[0]?=some (xs[0]'(by rw [<-gg,List.length_cons,List.length_singleton]; decide)):=List.getElem?_eq_getElem _;have kh:xs[1]?=some (xs[1]'(by rw [<-gg,List.length_cons,List.length_singleton]; decide)):=List.getElem?_eq_getElem _;refine⟨dx,_,s1 _ _ h1,bt,bF (s1.cc h.de) rfl (vp (bf.of ae) (cG (j:=0) Qa) ⟨dx,_,s1 _ _ h1,bt,bF (s1.cc h.de) rfl ⟨Pr,A,W.g,W.ts,W.hs,z,rfl,h.ph.same s1,λu hu=>?_⟩⟩)⟩;refine⟨_,_,((mP.2 0 _ _ Qa rfl).same s1).rN,hu.rN,by rw [jx]; decide,_,rfl,?_⟩;refine aY (λc=>?_) λc=>?_
  ·have c2:bA (vD k) (vD (W.g z))=true:=c;rw [if_pos c2] at q;exact vp (bf.of ae) (cG (j:=1) kh) ⟨Pr,A,W.g,W.ts,W.hs,x,_,_,rfl,h.ph.same s1,hf.1,(mP.2 1 _ _ kh rfl).same s1,λH' k ph=>q H' ((aj.kp s1).trans k) ph⟩
  ·have c2:¬bA (vD k) (vD (W.g z))=true:=c;rw [if_neg c2] at q;exact⟨Pr,A,W.g,W.ts,W.hs,x,_,.no,rfl,h.ph.same s1,hf.1,⟨_,rfl,T.fG _⟩,λH' k ph=>q H' ((aj.kp s1).trans k) ph⟩
theorem U4 (T:Txt K mg a):aS P w K mg base cU 2 a.nN a.zb ["heap","deed"] (ip a K (λd=>∃x y,d=.copy x y)):=by
 refine T.qc.ok T4 (λvs H Q E h=>?_) (λcf A outer s H vs Q E hr h=>?_)
 ·obtain⟨_,_,_,_,_,rfl,_⟩:=h;rfl
 ·obtain⟨Pr,A,W,t,d,rfl,h,⟨x,y,rfl⟩,hl,kS,hf,bX,q⟩:=h;refine⟨_,(ag (bx (aR (pv 0) T.ar T.aZ (nW T) (hr.mono (by decide)) T.ve .nil aC (aa (aq ak (pv 1) ai (λ_ _=>rfl)) (aa (by exact(aR (pv 0) T.ar T.aW (jw T) (hr.mono (by decide)) T.oo .nil aC (aa (aq ak (pv 1) ai (λ_ _=>rfl)) af))) af)))) (ah (aw aA))),?_⟩;obtain⟨dx,h1⟩:=h.ph.ob;dsimp! [T.bC];exact⟨dx,_,h1,bt,bF h.de rfl ⟨dx,_,h1,bt,bF h.de rfl ⟨Pr,A,W.g,W.ts,W.hs,y,rfl,h.ph,λu hu=>⟨Pr,A,W.g,W.ts,W.hs,x,_,_,rfl,h.ph,hf.1,hu,q⟩⟩⟩⟩
theorem U5 (T:Txt K mg a):aS P w K mg base cU 2 a.nO a.zc ["heap","deed"] (ip a K (λd=>∃x,d=.drop x)):=by
 refine T.qd.ok T5 (λvs H Q E h=>?_) (λcf A outer s H vs Q E hr h=>?_)
 ·obtain⟨_,_,_,_,_,rfl,_⟩:=h;rfl
 ·obtain⟨Pr,A,W,t,d,rfl,h,⟨x,rfl⟩,hl,kS,hf,bX,q⟩:=h;refine⟨_,(ag (bx (aR (pv 0) T.ar T.aZ (nW T) (hr.mono (by decide)) T.ve .nil aC (aa (aq ak (pv 1) ai (λ_ _=>rfl)) (aa (dz (v:=.ref a.bJ) rfl T.bC rfl) af)))) (ah (aw aA))),?_⟩;obtain⟨dx,h1⟩:=h.ph.ob;dsimp! [T.bC];exact⟨dx,_,h1,bt,bF h.de rfl ⟨Pr,A,W.g,W.ts,W.hs,x,_,.no,rfl,h.ph,hf.1,⟨_,rfl,T.fG _⟩,q⟩⟩
theorem U6 (T:Txt K mg a):aS P w K mg base cU 2 a.nP a.zd ["heap","deed"] (ip a K (λd=>∃x,d=.tell x)):=by
 refine T.qe.ok J7 (λvs H Q E h=>?_) (λcf A outer s H vs Q E hr h=>?_)
 ·obtain⟨_,_,_,_,_,rfl,_⟩:=h;rfl
 ·obtain⟨Pr,A,W,t,d,rfl,h,⟨x,rfl⟩,hl,kS,hf,bX,q⟩:=h;refine⟨_,(ag (aN (i:=2) J7.nd rfl (Or.inl rfl) (aR (pv 0) T.ar T.aW (jw T) (hr.mono (by decide)) T.oo .nil aC (aa (aq ak (pv 1) ai (λ_ _=>rfl)) af))) (ah (aw (dU (aD bN (aq ak (pv 2) ai (λ_ _=>rfl)) aA (aH _)) (bW jK rfl T.kn kr (aa (aq ak (pv 2) ai (λ_ _=>rfl)) af)) (aq ak (pv 2) ai (λ_ _=>rfl)))))),?_⟩;obtain⟨dx,h1⟩:=h.ph.ob;dsimp! [T.bC];refine⟨dx,_,h1,bt,bF h.de rfl ⟨Pr,A,W.g,W.ts,W.hs,x,rfl,h.ph,λu hu=>?_⟩⟩;have q:=q H (Kp.refl _ _) h.ph;have ok:=h.ok.g x;have e:W.CJ (.tell x)=(W.g x).told:=rfl;rw [e] at q
  cases e:W.g x with
  | no=>
   rw [e] at hu q;obtain⟨r,rfl,hr⟩:=hu;exact bF hr rfl ⟨rfl,aY (λz=>absurd (V.str.inj (of_decide_eq_true z)) (by decide +kernel)) λ_=>bF hr rfl q⟩
  | th n=>
   rw [e] at hu q;obtain⟨r,rfl,hr⟩:=hu;exact bF hr rfl ⟨rfl,aY (λz=>absurd (V.str.inj (of_decide_eq_true z)) (by decide +kernel)) λ_=>bF hr rfl q⟩
  | num n=>
   rw [e] at hu q ok;obtain⟨r,rfl,hr⟩:=hu;exact bF hr rfl ⟨rfl,aY (λ_=>bF hr rfl (.inl ⟨n,rfl,BJ.log ok,q⟩)) λz=>absurd (decide_eq_true rfl) z⟩
theorem U7 (T:Txt K mg a):aS P w K mg base cU 2 a.nQ a.ze ["heap","deed"] (ip a K (λd=>∃x y,d=.same x y)):=by
 refine T.qf.ok T6 (λvs H Q E h=>?_) (λcf A outer s H vs Q E hr h=>?_)
 ·obtain⟨_,_,_,_,_,rfl,_⟩:=h;rfl
 ·obtain⟨Pr,A,W,t,d,rfl,h,⟨x,y,rfl⟩,hl,kS,hf,bX,q⟩:=h;refine⟨_,(ah (aw (dU (aD (iI hr.units) (aR (pv 0) T.ar T.aW (jw T) (hr.mono (by decide)) T.oo .nil aC (aa (aq ak (pv 1) ai (λ_ _=>rfl)) af)) (aR (pv 0) T.ar T.aW (jw T) (hr.mono (by decide)) T.oo .nil aC (aa (aq ak (pv 1) ai (λ_ _=>rfl)) af)) (aH _)) aA aA))),?_⟩;obtain⟨dx,h1⟩:=h.ph.ob;dsimp! [T.bC];refine⟨dx,_,h1,bt,bF h.de rfl ⟨Pr,A,W.g,W.ts,W.hs,x,rfl,h.ph,λu hu=>⟨dx,_,h1,bt,bF h.de rfl ⟨Pr,A,W.g,W.ts,W.hs,y,rfl,h.ph,λu2 EN=>⟨_,_,hu.rN,EN.rN,by rw [jx]; decide,_,rfl,?_⟩⟩⟩⟩⟩;have q:=q H (Kp.refl _ _) h.ph;have e:W.CJ (.same x y)=if bA (vD (W.g x)) (vD (W.g y))=true then("yes":Str)else("no":Str):=rfl
  rw [e] at q;refine aY (λc=>?_) λc=>?_
  ·have c2:bA (vD (W.g x)) (vD (W.g y))=true:=c;rw [if_pos c2] at q;exact q
  ·have c2:¬bA (vD (W.g x)) (vD (W.g y))=true:=c;rw [if_neg c2] at q;exact q
theorem U8 (T:Txt K mg a):aS P w K mg base cU 2 a.nR a.zf ["heap","deed"] (ip a K (λd=>∃x,d=.hear x)):=by
 refine T.qg.ok J8 (λvs H Q E h=>?_) (λcf A outer s H vs Q E hr h=>?_)
 ·obtain⟨_,_,_,_,_,rfl,_⟩:=h;rfl
 ·obtain⟨Pr,A,W,t,d,rfl,h,⟨x,rfl⟩,hl,kS,hf,bX,q⟩:=h;refine⟨_,(ag (aN (i:=2) J8.nd rfl (Or.inl rfl) (jh (pv 0) T.ar T.eT (Yt T) (hr.mono (by decide)) T.Yg .nil aC)) (ag (bx (aR (pv 0) T.ar T.aZ (nW T) (hr.mono (by decide)) T.ve .nil aC (aa (aq ak (pv 1) ai (λ_ _=>rfl)) (aa (dU (aD mz (pv 2) cB (aH _)) (dz (v:=.ref a.bJ) rfl T.bC rfl) (bp (aa aA (aa (aq ak (pv 2) ai (λ_ _=>rfl)) af)))) af)))) (ah (aw (dU (aD mz (pv 2) cB (aH _)) aA (bW jK rfl T.kn kr (aa (aq ak (pv 2) ai (λ_ _=>rfl)) af))))))),?_⟩;obtain⟨dx,h1⟩:=h.ph.ob;dsimp! [T.bC];refine⟨dx,_,h1,bt,Pr,A,W.g,W.ts,W.hs,rfl,h.ph,λe=>?_,λr qA u H1 e k1 ph1 hu=>?_⟩
  ·have e1:W.step (.hear x)=W.dP x .no:=by show W.qB x W.hs=_; rw [e]; rfl
   have e2:W.CJ (.hear x)="none":=by show AY W.hs=_; rw [e]; rfl
   rw [e1,e2] at q;exact⟨dx,_,h1,bt,bF h.de rfl (aY (λ_=>⟨Pr,A,W.g,W.ts,W.hs,x,_,.no,rfl,h.ph,hf.1,⟨_,rfl,T.fG _⟩,λH' k ph=>aY (λ_=>q H' k ph) λz=>absurd (decide_eq_true rfl) z⟩) λz=>absurd (decide_eq_true rfl) z)⟩
  ·have e1:W.step (.hear x)=(Wd.mk W.g W.ts qA).dP x (.th (r.1:Nat)):=by show W.qB x W.hs=_; rw [e]; rfl
   have e2:W.CJ (.hear x)=(toString r.2:String):=by show AY W.hs=_; rw [e]; rfl
   rw [e1,e2] at q;have hn:=(h.ok.hs r (by rw [e]; exact List.mem_cons_self)).2;have hde:=k1.cc h.ph.mu h.de;obtain⟨dx1,o1⟩:=ph1.ob;refine⟨dx1,_,o1,bt,bF hde rfl (aY (λz=>by cases (of_decide_eq_true z)) λ_=>bF hu rfl ⟨by decide,λp hp=>?_⟩)⟩;have s1:=aj.put (o:=.tup [.str "thing",.int (r.1:Int)]) hp;refine⟨Pr,A,W.g,W.ts,qA,x,_,.th (r.1:Nat),rfl,ph1.same s1,hf.1,⟨p,rfl,bS.of ae⟩,λH' k ph=>aY (λz=>by cases (of_decide_eq_true z)) λ_=>?_⟩;exact bF (k.cc (ph1.same s1).mu (s1.cc hu)) rfl (.inl ⟨_,rfl,BJ.log hn,q H' (k1.trans ((aj.kp s1).trans k)) ph⟩)
noncomputable def Wd.refuse (W:Wd) (d:De):Option Str:=if W.gq d=true then some "no thing" else if W.dB d=true then some "no field" else none
noncomputable def oV:Option Str->V
 | none=>.bM
 | some s=>.str s
noncomputable def CK (a:ft) (K:PySem.W.Frag):Sp:=λvs H Q _=>∃Pr A W t d,vs=[.ref A.p,.ref t]/\Gn a K Pr H A W t d/\∀H',aj H H'->Q (oV (W.refuse d)) H'
theorem YG (T:Txt K mg a):aS P w K mg base cU 7 a.F8 a.Kn ["self","deed"] (CK a K):=by
 refine T.Gh.ok XR (λvs H Q E h=>?_) (λcf A outer s H vs Q E hr h=>?_)
 ·obtain⟨_,_,_,_,_,rfl,_⟩:=h;rfl
 ·obtain⟨Pr,A,W,t,d,rfl,h,q⟩:=h;refine⟨_,(ag (aQ (cQ (aE (UP T) (hr.mono (by decide)) rfl T.O3 T.tR.kp T.O2 .nil aC (aa (pv 0) (aa (pv 1) af)))) (ah (aw (dz (v:=.str "no thing") rfl T.kC ⟨_,rfl⟩))) aG) (ag (aQ (cQ (aE (UR T) (hr.mono (by decide)) rfl T.O5 T.tS.kp T.O4 .nil aC (aa (pv 0) (aa (pv 1) af)))) (ah (aw (dz (v:=.str "no field") rfl T.kD ⟨_,rfl⟩))) aG) (ah (aw cB)))),?_⟩;dsimp! [T.kC,T.kD];refine⟨Pr,A,W,t,d,rfl,h,λH1 s1=>⟨_,rfl,aY (λc=>?_) λc=>?_⟩⟩
  ·have e:W.refuse d=some ("no thing":Str):=by unfold Wd.refuse; rw [if_pos c]
   rw [e] at q;exact q H1 s1
  ·refine⟨Pr,A,W,t,d,rfl,⟨h.ph.same s1,h.ok,s1.cc h.de⟩,Bool.eq_false_iff.mpr c,λH2 s2=>⟨_,rfl,aY (λc2=>?_) λc2=>?_⟩⟩
   ·have e:W.refuse d=some ("no field":Str):=by unfold Wd.refuse; rw [if_neg c,if_pos c2]
    rw [e] at q;exact q H2 (s1.trans s2)
   ·have e:W.refuse d=none:=by unfold Wd.refuse; rw [if_neg c,if_neg c2]
    rw [e] at q;exact q H2 (s1.trans s2)
noncomputable def Nz (a:ft) (K:PySem.W.Frag):Sp:=ip a K λ_=>True
theorem YH (T:Txt K mg a):aS P w K mg base cU 7 a.F9 a.Ko ["self","deed"] (Nz a K):=by
 refine T.Gi.ok XS (λvs H Q E h=>?_) (λcf A outer s H vs Q E hr h=>?_)
 ·obtain⟨_,_,_,_,_,rfl,_⟩:=h;rfl
 ·obtain⟨Pr,A,W,t,d,rfl,h,_,hl,kS,hf,bX,q⟩:=h;refine⟨_,(ah (aw (Ic (L:=[(a.nF,_),(a.iX,_),(a.nG,_),(a.nH,_),(a.nJ,_),(a.nK,_),(a.nM,_),(a.nN,_),(a.nO,_),(a.nP,_),(a.nQ,_),(a.nR,_)]) (Ng T.AR (dz (v:=.ref a.gO) rfl T.vg rfl) (aq ak (pv 1) ai (λ_ _=>rfl)) (λ_ _=>rfl)) (List.forall_mem_cons.mpr ⟨⟨_,_,_,T.pX.kp,UU T,hr.mono (by decide),T.O8⟩,List.forall_mem_cons.mpr ⟨⟨_,_,_,T.lC.kp,UW T,hr.mono (by decide),T.O9⟩,List.forall_mem_cons.mpr ⟨⟨_,_,_,T.pY.kp,UX T,hr.mono (by decide),T.O_⟩,List.forall_mem_cons.mpr ⟨⟨_,_,_,T.pZ.kp,UY T,hr.mono (by decide),T.Pa⟩,List.forall_mem_cons.mpr ⟨⟨_,_,_,T.p_.kp,UZ T,hr.mono (by decide),T.Pb⟩,List.forall_mem_cons.mpr ⟨⟨_,_,_,T.qa.kp,U2 T,hr.mono (by decide),T.Pc⟩,List.forall_mem_cons.mpr ⟨⟨_,_,_,T.qb.kp,U3 T,hr.mono (by decide),T.Pf⟩,List.forall_mem_cons.mpr ⟨⟨_,_,_,T.qc.kp,U4 T,hr.mono (by decide),T.Pg⟩,List.forall_mem_cons.mpr ⟨⟨_,_,_,T.qd.kp,U5 T,hr.mono (by decide),T.Ph⟩,List.forall_mem_cons.mpr ⟨⟨_,_,_,T.qe.kp,U6 T,hr.mono (by decide),T.Pj⟩,List.forall_mem_cons.mpr ⟨⟨_,_,_,T.qf.kp,U7 T,hr.mono (by decide),T.Pk⟩,List.forall_mem_cons.mpr ⟨⟨_,_,_,T.qg.kp,U8 T,hr.mono (by decide),T.Pl⟩,List.forall_mem_nil _⟩⟩⟩⟩⟩⟩⟩⟩⟩⟩⟩⟩) .nil aC (aa (pv 0) (aa (pv 1) af))))),?_⟩;dsimp! [T.vg,Ib];refine bF h.de d.hd ⟨d.word,rfl,?_⟩
  cases d with
  | num x n=>exact⟨a.nF,by kernel_rfl,_,.head _,Pr,A,W,t,rfl,_,h,⟨x,n,rfl⟩,hl,kS,hf,bX,q⟩
  | make x n=>exact⟨a.iX,by kernel_rfl,_,.tail _ (.head _),Pr,A,W,t,rfl,_,h,rfl,hl,kS,hf,bX,q⟩
  | weak x y=>exact⟨a.iX,by kernel_rfl,_,.tail _ (.head _),Pr,A,W,t,rfl,_,h,rfl,hl,kS,hf,bX,q⟩
  | pair x y z=>exact⟨a.iX,by kernel_rfl,_,.tail _ (.head _),Pr,A,W,t,rfl,_,h,rfl,hl,kS,hf,bX,q⟩
  | words x n=>exact⟨a.nG,by kernel_rfl,_,.tail _ (.tail _ (.head _)),Pr,A,W,t,rfl,_,h,⟨x,n,rfl⟩,hl,kS,hf,bX,q⟩
  | put x i y=>exact⟨a.nH,by kernel_rfl,_,.tail _ (.tail _ (.tail _ (.head _))),Pr,A,W,t,rfl,_,h,⟨x,i,y,rfl⟩,hl,kS,hf,bX,q⟩
  | get x y i=>exact⟨a.nJ,by kernel_rfl,_,.tail _ (.tail _ (.tail _ (.tail _ (.head _)))),Pr,A,W,t,rfl,_,h,⟨x,y,i,rfl⟩,hl,kS,hf,bX,q⟩
  | look x y=>exact⟨a.nK,by kernel_rfl,_,.tail _ (.tail _ (.tail _ (.tail _ (.tail _ (.head _))))),Pr,A,W,t,rfl,_,h,⟨x,y,rfl⟩,hl,kS,hf,bX,q⟩
  | find x y z=>exact⟨a.nM,by kernel_rfl,_,.tail _ (.tail _ (.tail _ (.tail _ (.tail _ (.tail _ (.head _)))))),Pr,A,W,t,rfl,_,h,⟨x,y,z,rfl⟩,hl,kS,hf,bX,q⟩
  | copy x y=>exact⟨a.nN,by kernel_rfl,_,.tail _ (.tail _ (.tail _ (.tail _ (.tail _ (.tail _ (.tail _ (.head _))))))),Pr,A,W,t,rfl,_,h,⟨x,y,rfl⟩,hl,kS,hf,bX,q⟩
  | drop x=>exact⟨a.nO,by kernel_rfl,_,.tail _ (.tail _ (.tail _ (.tail _ (.tail _ (.tail _ (.tail _ (.tail _ (.head _)))))))),Pr,A,W,t,rfl,_,h,⟨x,rfl⟩,hl,kS,hf,bX,q⟩
  | tell x=>exact⟨a.nP,by kernel_rfl,_,.tail _ (.tail _ (.tail _ (.tail _ (.tail _ (.tail _ (.tail _ (.tail _ (.tail _ (.head _))))))))),Pr,A,W,t,rfl,_,h,⟨x,rfl⟩,hl,kS,hf,bX,q⟩
  | same x y=>exact⟨a.nQ,by kernel_rfl,_,.tail _ (.tail _ (.tail _ (.tail _ (.tail _ (.tail _ (.tail _ (.tail _ (.tail _ (.tail _ (.head _)))))))))),Pr,A,W,t,rfl,_,h,⟨x,y,rfl⟩,hl,kS,hf,bX,q⟩
  | hear x=>exact⟨a.nR,by kernel_rfl,_,.tail _ (.tail _ (.tail _ (.tail _ (.tail _ (.tail _ (.tail _ (.tail _ (.tail _ (.tail _ (.tail _ (.head _))))))))))),Pr,A,W,t,rfl,_,h,⟨x,rfl⟩,hl,kS,hf,bX,q⟩
noncomputable def U9:Sp:=λ_ _ _ _=>False
theorem U_ (T:Txt K mg a):aS P w K mg base cU 1 a.yL a.yM ["word"] U9:=aS.no
noncomputable def Va (a:ft) (K:PySem.W.Frag):Sp:=λvs H Q _=>∃Pr A W t d,vs=[.ref A.p,.ref t]/\Gn a K Pr H A W t d/\d.fits/\W.ts.length < 500/\W.refuse d=none/\∀H',Kp A.own H H'->PW a K Pr H' A (W.step d)->Q (.str (W.CJ d)) H'
theorem Vb (T:Txt K mg a):aS P w K mg base cU 8 a.zi a.zj ["self","deed"] (Va a K):=by
 refine T.AE.ok J9 (λvs H Q E h=>?_) (λcf A outer s H vs Q E hr h=>?_)
 ·obtain⟨_,_,_,_,_,rfl,_⟩:=h;rfl
 ·obtain⟨Pr,A,W,t,d,rfl,h,hf,bX,e,q1⟩:=h;refine⟨_,(ag (aN (i:=2) J9.nd rfl (Or.inl rfl) (aR (pv 0) T.ar T.fY (YG T) (hr.mono (by decide)) T.Yi .nil aC (aa (pv 1) af))) (ag (aQ (aD oJ (pv 2) cB (aH _)) (ah (bx (aE (U_ T) (hr.mono (by decide)) rfl T.OZ T.AA.kp T.OY .nil aC (aa (pv 2) af)))) aG) (ah (aw (aR (pv 0) T.ar T.gP (YH T) (hr.mono (by decide)) T.Yk .nil aC (aa (pv 1) af)))))),?_⟩;obtain⟨dx,h1⟩:=h.ph.ob;have f1:=bt (rv:=A.rv) (hd:=A.hd) (md:=A.md) (n:="refusal");dsimp! [h1,HO.ins.injEq,f1];refine⟨Pr,A,W,t,d,rfl,h,λH1 s1=>?_⟩;have e1:W.gq d=false:=by
   cases c:W.gq d with
   | false=>rfl
   | true=>
    unfold Wd.refuse at e;rw [if_pos c] at e;cases e
  have e2:W.dB d=false:=by
   cases c:W.dB d with
   | false=>rfl
   | true=>
    unfold Wd.refuse at e;rw [if_neg (by rw [e1]; simp),if_pos c] at e;cases e
  rw [e];exact aY (λc=>by cases c) λ_=>⟨dx,_,s1 _ _ h1,bt,Pr,A,W,t,d,rfl,⟨h.ph.same s1,h.ok,s1.cc h.de⟩,trivial,e1,e2,hf,bX,λH' k ph=>q1 H' ((aj.kp s1).trans k) ph⟩
structure LA where
 st:Addr
 d0:Addr
 d1:Addr
 l2:Addr
noncomputable def LA.own (L:LA) (b:Addr):Prop:=b=L.d0\/b=L.d1\/b=L.l2
noncomputable def Vc (kvs:List (Key×V)) (g:Str->Vl):Prop:=∀x u,bD kvs (Sum.inr x)=some u->g x≠.no
structure gn (K:PySem.W.Frag) (Pr:Addr->Prop) (H:Hp) (L:LA) (W:Wd):Prop where
 tu:bS K H L.st [.ref L.d0,.ref L.d1,.ref L.l2]
 rt:∃kvs,H L.d0=some (.dK kvs)/\qy K H kvs W.g/\Vc kvs W.g
 th:∃rows:List (Addr×Addr),H L.d1=some (.dK (f_ rows))/\rows.length=W.ts.length/\(∀(i:Nat) q t,rows[i]?=some q->W.ts[i]?=some t->gH K H q.1 q.2 t)/\∀q∈rows,q.2≠L.l2/\¬Pr q.2
 he:∃xs,H L.l2=some (.lst xs)/\BH K H xs W.hs
 ne:L.d0≠L.d1
 pr:∀b,Pr b->H b≠none/\¬L.own b
 bX:W.ts.length<=500/\W.hs.length<=500
theorem some_of {H H':Hp}{b:Addr}(h:H b≠none) (k:∀o,H b=some o->H' b=some o):H' b≠none:=by
 cases e:H b with
 | none=>exact absurd e h
 | some u=>rw [k u e]; intro z; cases z
theorem gH.kp {S:Addr->Prop}{H H':Hp}{p l:Addr}{t:Tg}(h:gH K H p l t) (k:Kp S H H') (mu:∀b,S b->Mu H b) (hl:¬S l):gH K H' p l t:=by
 obtain⟨h1,xs,h2,h3,h4⟩:=h;refine⟨k _ _ (λz=>?_) h1,xs,k _ _ hl h2,h3.kp k mu,h4⟩;rcases mu _ z with ⟨ys,m⟩ | ⟨ys,m⟩ <;> (rw [m] at h1; cases h1)
section
variable {Pr:Addr->Prop}{H H':Hp}{L:LA}{W:Wd}
theorem gn.same (h:gn K Pr H L W) (k:aj H H'):gn K Pr H' L W:=by
 obtain⟨kvs,h2,h3,Lk⟩:=h.rt;obtain⟨ps,h4,h5,h6,h7⟩:=h.th;obtain⟨xs,h8,h9⟩:=h.he;exact⟨k.cc h.tu,⟨kvs,k _ _ h2,h3.same k,Lk⟩,⟨ps,k _ _ h4,h5,λi q t a b=>(h6 i q t a b).same k,h7⟩,⟨xs,k _ _ h8,h9.same k⟩,h.ne,λb hb=>⟨some_of (h.pr b hb).1 λo=>k b o,(h.pr b hb).2⟩,h.bX⟩
theorem gn.mu (h:gn K Pr H L W):∀b,L.own b->Mu H b:=λb z=>by
 rcases z with rfl | rfl | rfl
 ·obtain⟨kvs,h2,_⟩:=h.rt;exact .inr ⟨_,h2⟩
 ·obtain⟨ps,h4,_⟩:=h.th;exact .inr ⟨_,h4⟩
 ·obtain⟨xs,h8,_⟩:=h.he;exact .inl ⟨_,h8⟩
theorem gn.kp {S:Addr->Prop}(h:gn K Pr H L W) (k:Kp S H H') (mu:∀b,S b->Mu H b) (sp:∀b,S b->Pr b) (so:∀b,S b->H' b≠none):gn K Pr H' L W:=by
 obtain⟨kvs,h2,h3,Lk⟩:=h.rt;obtain⟨ps,h4,h5,h6,h7⟩:=h.th;obtain⟨xs,h8,h9⟩:=h.he;have no:∀b,L.own b->¬S b:=λb z y=>(h.pr b (sp b y)).2 z
 refine⟨k.cc mu h.tu,⟨kvs,k _ _ (no _ (.inl rfl)) h2,h3.kp k mu,Lk⟩,⟨ps,k _ _ (no _ (.inr (.inl rfl))) h4,h5,λi q t a b=>(h6 i q t a b).kp k mu λz=>(h7 q (List.mem_of_getElem? a)).2 (sp _ z),h7⟩,⟨xs,k _ _ (no _ (.inr (.inr rfl))) h8,h9.kp k mu⟩,h.ne,λb hb=>⟨?_,(h.pr b hb).2⟩,h.bX⟩
 by_cases z:S b
 ·exact so b z
 ·exact some_of (h.pr b hb).1 λo=>k b o z
theorem gn.roots (h:gn K Pr H L W) {iP:List (Key×V)}{g':Str->Vl}(hr:qy K H iP g') (hn:Vc iP g'):gn K Pr (upd H L.d0 (.dK iP)) L ⟨g',W.ts,W.hs⟩:=by
 obtain⟨kvs,h2,h3,Lk⟩:=h.rt;obtain⟨ps,h4,h5,h6,h7⟩:=h.th;obtain⟨xs,h8,h9⟩:=h.he;have k:Kp (·=L.d0) H (upd H L.d0 (.dK iP)):=(Kp.refl _ _).set rfl;have mu:∀b,b=L.d0->Mu H b:=λb e=>.inr ⟨kvs,by rw [e]; exact h2⟩
 refine⟨k.cc mu h.tu,⟨iP,ae,hr.kp k mu,hn⟩,⟨ps,k _ _ h.ne.symm h4,h5,λi q t a b=>(h6 i q t a b).kp k mu λz=>?_,h7⟩,⟨xs,k _ _ (λz=>by rw [z,h2] at h8; cases h8) h8,h9.kp k mu⟩,h.ne,λb hb=>⟨some_of (h.pr b hb).1 λo=>k b o λz=>(h.pr b hb).2 (.inl z),(h.pr b hb).2⟩,h.bX⟩;obtain⟨_,_,e,_⟩:=h6 i q t a b;have z2:q.2=L.d0:=z;rw [z2,h2] at e;cases e
theorem gn.things (h:gn K Pr H L W) {E8:List (Addr×Addr)}{Nv:List Tg}(hl:E8.length=Nv.length) (E9:∀(i:Nat) q t,E8[i]?=some q->Nv[i]?=some t->gH K H q.1 q.2 t) (hn:∀q∈E8,q.2≠L.l2/\¬Pr q.2) (bX:Nv.length<=500):gn K Pr (upd H L.d1 (.dK (f_ E8))) L ⟨W.g,Nv,W.hs⟩:=by
 obtain⟨kvs,h2,h3,Lk⟩:=h.rt;obtain⟨ps,h4,h5,h6,h7⟩:=h.th;obtain⟨xs,h8,h9⟩:=h.he;have k:Kp (·=L.d1) H (upd H L.d1 (.dK (f_ E8))):=(Kp.refl _ _).set rfl;have mu:∀b,b=L.d1->Mu H b:=λb e=>.inr ⟨f_ ps,by rw [e]; exact h4⟩
 refine⟨k.cc mu h.tu,⟨kvs,k _ _ h.ne h2,h3.kp k mu,Lk⟩,⟨E8,ae,hl,λi q t a b=>(E9 i q t a b).kp k mu λz=>?_,hn⟩,⟨xs,k _ _ (λz=>by rw [z,h4] at h8; cases h8) h8,h9.kp k mu⟩,h.ne,λb hb=>⟨some_of (h.pr b hb).1 λo=>k b o λz=>(h.pr b hb).2 (.inr (.inl z)),(h.pr b hb).2⟩,bX,h.bX.2⟩;obtain⟨_,_,e,_⟩:=E9 i q t a b;have z2:q.2=L.d1:=z;rw [z2,h4] at e;cases e
theorem gn.CG (h:gn K Pr H L W) {GR:List V}{qA:List (Nat×Int)}(hr:BH K H GR qA) (bX:qA.length<=500):gn K Pr (upd H L.l2 (.lst GR)) L ⟨W.g,W.ts,qA⟩:=by
 obtain⟨kvs,h2,h3,Lk⟩:=h.rt;obtain⟨ps,h4,h5,h6,h7⟩:=h.th;obtain⟨xs,h8,h9⟩:=h.he;have k:Kp (·=L.l2) H (upd H L.l2 (.lst GR)):=(Kp.refl _ _).set rfl;have mu:∀b,b=L.l2->Mu H b:=λb e=>.inl ⟨xs,by rw [e]; exact h8⟩
 exact⟨k.cc mu h.tu,⟨kvs,k _ _ (λz=>by rw [z,h8] at h2; cases h2) h2,h3.kp k mu,Lk⟩,⟨ps,k _ _ (λz=>by rw [z,h8] at h4; cases h4) h4,h5,λi q t a b=>(h6 i q t a b).kp k mu (h7 q (List.mem_of_getElem? a)).1,h7⟩,⟨GR,ae,hr.kp k mu⟩,h.ne,λb hb=>⟨some_of (h.pr b hb).1 λo=>k b o λz=>(h.pr b hb).2 (.inr (.inr z)),(h.pr b hb).2⟩,h.bX.1,bX⟩
theorem gn.fresh (h:gn K Pr H L W) {d:Addr}(hd:H d=none):d≠L.l2/\¬Pr d:=⟨(λz=>by
 obtain⟨xs,h8,_⟩:=h.he;rw [<-z,hd] at h8
 cases h8),λz=>(h.pr d z).1 hd⟩
theorem gn.set (h:gn K Pr H L W) {ps:List (Addr×Addr)}{i:Nat}{q q':Addr×Addr}{t':Tg}(Ni:H L.d1=some (.dK (f_ ps))) (hq:ps[i]?=some q) (ht:gH K H q'.1 q'.2 t') (hn:q'.2≠L.l2/\¬Pr q'.2):gn K Pr (upd H L.d1 (.dK (putK (f_ ps) (Sum.inl ((i:Int)+1)) (.ref q'.1)))) L ⟨W.g,W.ts.set i t',W.hs⟩:=by
 obtain⟨AW,h4,h5,h6,h7⟩:=h.th;have e:f_ AW=f_ ps:=by
  rw [Ni] at h4;exact(HO.dK.inj (Option.some.inj h4)).symm
 have el:AW.length=ps.length:=by rw [<-d_,<-d_,e]
 have hi:=(List.getElem?_eq_some_iff.mp hq).1;have Nm:AW[i]?=some (AW[i]'(by omega)):=List.getElem?_eq_getElem _;rw [<-e,E6 (q':=q') Nm];refine h.things (by rw [List.length_set,List.length_set]; exact h5) (λj r t hr kg=>?_) (λr hr=>?_) (by rw [List.length_set]; exact h.bX.1)
 ·rw [List.getElem?_set] at hr kg
  by_cases z:i=j
  ·subst z;rw [if_pos rfl,if_pos (by omega)] at hr;rw [if_pos rfl,if_pos (by omega)] at kg;cases hr;cases kg;exact ht
  ·rw [if_neg z] at hr kg;exact h6 j r t hr kg
 ·rcases List.mem_or_eq_of_mem_set hr with hr | rfl
  ·exact h7 r hr
  ·exact hn
theorem gn.new (h:gn K Pr H L W) {ps:List (Addr×Addr)}{q':Addr×Addr}{t':Tg}(Ni:H L.d1=some (.dK (f_ ps))) (ht:gH K H q'.1 q'.2 t') (hn:q'.2≠L.l2/\¬Pr q'.2) (bX:W.ts.length < 500):gn K Pr (upd H L.d1 (.dK (putK (f_ ps) (Sum.inl ((W.ts.length:Int)+1)) (.ref q'.1)))) L ⟨W.g,W.ts++[t'],W.hs⟩:=by
 obtain⟨AW,h4,h5,h6,h7⟩:=h.th;have e:f_ AW=f_ ps:=by
  rw [Ni] at h4;exact(HO.dK.inj (Option.some.inj h4)).symm
 rw [<-e,<-h5,E7];refine h.things (by rw [List.length_append,List.length_append,h5]; rfl) (λj r t hr kg=>?_) (λr hr=>?_) (by rw [List.length_append,List.length_singleton]; omega)
 ·by_cases z:j < AW.length
  ·rw [List.getElem?_append_left z] at hr;rw [List.getElem?_append_left (by omega)] at kg;exact h6 j r t hr kg
  ·have ej:j=AW.length:=by
    have:=(List.getElem?_eq_some_iff.mp hr).1;rw [List.length_append,List.length_singleton] at this;omega
   subst ej;rw [List.getElem?_append_right (Nat.le_refl _),Nat.sub_self] at hr;rw [h5,List.getElem?_append_right (Nat.le_refl _),Nat.sub_self] at kg;cases hr;cases kg;exact ht
 ·rcases List.mem_append.mp hr with hr | hr
  ·exact h7 r hr
  ·rw [List.mem_singleton.mp hr];exact hn
theorem gn.at_ (h:gn K Pr H L W) {i:Nat}{t:Tg}(ht:W.ts[i]?=some t):∃rows q,H L.d1=some (.dK (f_ rows))/\rows[i]?=some q/\gH K H q.1 q.2 t/\fb H L.d1 (.int ((i:Int)+1)) (some (.ref q.1))/\rows.length=W.ts.length/\q.2≠L.l2/\¬Pr q.2:=by
 obtain⟨ps,h4,h5,h6,h7⟩:=h.th;have hi:ps[i]?=some (ps[i]'(by have:=(List.getElem?_eq_some_iff.mp ht).1; omega)):=List.getElem?_eq_getElem _;exact⟨ps,_,h4,hi,h6 i _ t hi ht,by rw [<-iO hi]; exact fb.k (k:=Sum.inl ((i:Int)+1)) h4,h5,h7 _ (List.getElem_mem _)⟩
end
noncomputable def uq (K:PySem.W.Frag):Sp:=λvs H Q _=>∃Pr L W x,vs=[.ref L.st,.str x]/\gn K Pr H L W/\∀u H',aj H H'->dw K H' u (W.g x)->Q u H'
theorem fo (T:Txt K mg a):aS P w K mg base cU 1 a.zI a.zJ ["_law_state","_law_root"] (uq K):=by
 refine T.fg.ok Ue (λvs H Q E h=>?_) (λcf A outer s H vs Q E hr h=>?_)
 ·obtain⟨_,_,_,_,rfl,_⟩:=h;rfl
 ·obtain⟨Pr,L,W,x,rfl,h,q⟩:=h;refine⟨_,(ah (aw (pf (bI hr) (aq ak (pv 0) ai (λ_ _=>rfl)) (pv 1) (bp (aa aA af)) ⟨rfl,rfl,rfl,rfl⟩))),?_⟩;dsimp! [];obtain⟨kvs,h2,h3,_⟩:=h.rt;refine bF h.tu rfl ⟨L.d0,rfl,.inl ⟨kvs,.inl h2⟩,by decide,λp hp=>?_⟩;have s1:=aj.put (o:=.tup [V.str (Str.ofString "nothing")]) hp;refine⟨bD kvs (Sum.inr x),fb.k (k:=Sum.inr x) (s1 _ _ h2),?_⟩
  cases e:bD kvs (Sum.inr x)with
  | none=>exact q _ _ s1 (by rw [h3.no x e]; exact⟨p,rfl,bS.of ae⟩)
  | some u=>exact q _ _ s1 ((h3.at_ x u e).same s1)
noncomputable def Wd.NA (W:Wd) (x s:Str):V:=if W.has x s=true then(match W.tg x with | some q=>.int ((q.1:Int)+1) | none=>.bM)else .bM
noncomputable def Gp (K:PySem.W.Frag):Sp:=λvs H Q _=>∃Pr L W x s,vs=[.ref L.st,.str x,.str s]/\gn K Pr H L W/\W.ok/\∀H',aj H H'->Q (W.NA x s) H'
theorem Vd (T:Txt K mg a):aS P w K mg base cU 2 a.zK a.zL ["_law_state","_law_root","_law_sort"] (Gp K):=by
 refine T.tW.ok Kb (λvs H Q E h=>?_) (λcf A outer s H vs Q E hr h=>?_)
 ·obtain⟨_,_,_,_,_,rfl,_⟩:=h;rfl
 ·obtain⟨Pr,L,W,x,s,rfl,h,ok,q⟩:=h;refine⟨_,(ag (aN (i:=3) Kb.nd rfl (Or.inl rfl) (aE (fo T) (hr.mono (by decide)) rfl T.gF T.fg.kp T.gE .nil aC (aa (pv 0) (aa (pv 1) af)))) (ag (aQ (PW.pt (gJ (aD jg (aq ak (pv 3) ai (λ_ _=>rfl)) aA (aH _)) (gh (PW.pt (mr (aD jg (pv 2) aA (aH _)) (jG (aD jg (aq ak (cH (bI hr) (aq ak (pv 0) ai (λ_ _=>rfl)) (aq ak (pv 3) ai (λ_ _=>rfl)) (λ_ _=>rfl)) ai (λ_ _=>rfl)) (pv 2) (aH _)))))))) (ah (aw cB)) aG) (ah (aw (aq ak (pv 3) ai (λ_ _=>rfl)))))),?_⟩;dsimp! [];refine⟨Pr,L,W,x,rfl,h,λu H1 s1 hu=>?_⟩;have h1:=h.same s1;rcases ok.tg x with ⟨i,t,e1,e2,e3⟩ | ⟨e1,e2⟩
  ·rw [e1] at hu;obtain⟨r,rfl,ur⟩:=hu;have e5:W.has x s=(decide (s="any") || decide (t.sort=s)):=by unfold Wd.has; rw [e3]
   have e6:W.NA x s=if (decide (s="any") || decide (t.sort=s))=true then .int ((i:Int)+1)else .bM:=by unfold Wd.NA; rw [e3,e5]
   have q1:=q H1 s1;rw [e6] at q1;refine bF ur rfl ⟨rfl,aY (λz=>by simp at z) λ_=>aY (λz=>?_) λz=>?_⟩
   ·have ns:¬s="any":=by simpa using z
    obtain⟨rows,qq,r1,r2,r3,r4,_⟩:=h1.at_ e2;refine bF h1.tu rfl (bF ur rfl ⟨L.d1,rfl,_,r4,bF (bS.of r3.1) rfl ⟨rfl,aY (λz2=>?_) λz2=>?_⟩⟩)
    ·have nt:¬t.sort=s:=by simpa using z2
     rw [decide_eq_false ns,decide_eq_false nt] at q1;exact q1
    ·have nt:t.sort=s:=by simpa using z2
     rw [decide_eq_true nt,Bool.or_true] at q1;exact bF ur rfl q1
   ·have ns:s="any":=by simpa using z
    rw [decide_eq_true ns,Bool.true_or] at q1;exact bF ur rfl q1
  ·have e6:W.NA x s=.bM:=by
    unfold Wd.NA Wd.has;rw [e2];rfl
   have q1:=q H1 s1;rw [e6] at q1;obtain⟨r,rfl,ur⟩:=hu;refine bF ur (Vl.hd _) ⟨rfl,aY (λz=>q1) λz=>?_⟩;have c:(W.g x).word="thing":=by simpa using z
   rw [<-(W.g x).is,c] at e1;cases e1
theorem qC {kvs:List (Key×V)}{k:Key}:bD (dj kvs k) k=none:=by
 cases e:bD (dj kvs k) k with
 | none=>rfl
 | some u=>
  have h1:=(List.mem_filter.mp (jy e)).2;exact absurd rfl (of_decide_eq_true h1)
theorem iQ {kvs:List (Key×V)}{k j:Key}(h:¬j=k):bD (dj kvs k) j=bD kvs j:=by
 unfold bD dj;rw [List.find?_filter];congr 2;funext p
 by_cases z:p.1=j
 ·simp [z,h]
 ·simp [z]
theorem qy.drop {H:Hp}{kvs:List (Key×V)}{g:Str->Vl}(h:qy K H kvs g) (x:Str):qy K H (dj kvs (Sum.inr x)) (λy=>if y=x then .no else g y):=by
 refine⟨pk h.nd,λkv hk=>h.ks kv (s_ hk),λy u e=>?_,λy e=>?_⟩
 ·by_cases z:y=x
  ·rw [z,qC] at e;cases e
  ·rw [if_neg z];rw [iQ (λc=>z (Sum.inr.inj c))] at e;exact h.at_ y u e
 ·by_cases z:y=x
  ·rw [if_pos z]
  ·rw [if_neg z];rw [iQ (λc=>z (Sum.inr.inj c))] at e;exact h.no y e
noncomputable def Ll (K:PySem.W.Frag):Sp:=λvs H Q _=>∃Pr L W x u v,vs=[.ref L.st,.str x,u]/\gn K Pr H L W/\x∈Nr/\dw K H u v/\∀H',Kp L.own H H'->gn K Pr H' L (W.dP x v)->Q .bM H'
theorem vq (T:Txt K mg a):aS P w K mg base cU 1 a.zM a.zN ["_law_state","_law_root","_law_value_here"] (Ll K):=by
 refine T.lE.ok Ug (λvs H Q E h=>?_) (λcf A outer s H vs Q E hr h=>?_)
 ·obtain⟨_,_,_,_,_,_,rfl,_⟩:=h;rfl
 ·obtain⟨Pr,L,W,x,u,v,rfl,h,hx,hu,q⟩:=h;refine⟨_,(ag (bx (HM (aq ak (pv 0) ai (λ_ _=>rfl)) (pv 1) cB ⟨rfl,rfl,rfl,rfl⟩)) (ah (aQ (aD jg (aq ak (pv 2) ai (λ_ _=>rfl)) aA (aH _)) (ah (dc (bI hr) (aq ak (pv 0) ai (λ_ _=>rfl)) (pv 1) (pv 2) rfl)) aG))),?_⟩;dsimp! [];obtain⟨kvs,h2,h3,Lk⟩:=h.rt;have mu:∀b,b=L.d0->Mu H b:=λb e=>.inr ⟨kvs,by rw [e]; exact h2⟩
  obtain⟨ru,rfl,hru⟩:=hu;have bX:=h3.bX;have XC:(dj kvs (Sum.inr x)).length<=26:=Nat.le_trans (pd _ _) bX;have hd:=h3.drop x;have hn:Vc (dj kvs (Sum.inr x)) (λy=>if y=x then .no else W.g y):=λy u e=>by
   by_cases z:y=x
   ·rw [z,qC] at e;cases e
   ·rw [iQ (λc=>z (Sum.inr.inj c))] at e;show(if y=x then Vl.no else W.g y)≠.no;rw [if_neg z];exact Lk y u e
  have go:∀H1,H1=upd H L.d0 (.dK (dj kvs (Sum.inr x)))->og K (.ref ru) (.int 0) H1 λx_3 H1=>wZ x_3 (V.str (Str.ofString "nothing"))=true/\if (!decide (x_3=V.str (Str.ofString "nothing")))=true then og K (V.ref L.st) (V.int 0) H1 λx_4 H2=>∃a,x_4=V.ref a/\∃YI,gS H2 a (V.str x) (.ref ru) YI/\Q V.bM YI else Q V.bM H1:=λH1 e1=>by
   have l1:gn K Pr H1 L ⟨λy=>if y=x then .no else W.g y,W.ts,W.hs⟩:=by rw [e1]; exact h.roots hd hn
   have k1:Kp (·=L.d0) H H1:=by rw [e1]; exact(Kp.refl _ _).set rfl
   have k1':Kp L.own H H1:=k1.mono λb z=>.inl z
   have Xe:H1 L.d0=some (.dK (dj kvs (Sum.inr x))):=by rw [e1]; exact ae
   have ur:=k1.cc mu hru;refine bF ur (Vl.hd _) ⟨rfl,aY (λz=>?_) λz=>?_⟩
   ·have nv:v≠.no:=λc=>by rw [c] at z; simp [Vl.word] at z
    refine bF l1.tu rfl ⟨L.d0,rfl,_,gS.k (k:=Sum.inr x) Xe (aJ (by omega)),q _ (k1'.set (.inl rfl)) ?_⟩;have Ia:qy K H1 (dj kvs (Sum.inr x)) (λy=>if y=x then .no else W.g y):=hd.kp k1 mu;have hp:=Ia.put (H:=H1) hx ⟨ru,rfl,ur⟩;have eg:(λy=>if y=x then v else(λy=>if y=x then Vl.no else W.g y) y)=λy=>if y=x then v else W.g y:=by
     funext y
     by_cases c:y=x
     ·rw [if_pos c,if_pos c]
     ·rw [if_neg c,if_neg c];exact if_neg c
    rw [eg] at hp;refine l1.roots hp λy u e=>?_
    show(if y=x then v else W.g y)≠.no
    by_cases c:y=x
    ·rw [if_pos c];exact nv
    ·rw [if_neg c];rw [jl,if_neg (λd=>c (Sum.inr.inj d)),iQ (λd=>c (Sum.inr.inj d))] at e;exact Lk y u e
   ·have ev:v=.no:=by
     cases v with
     | no=>rfl
     | num n=>exact absurd (show(!decide (V.str ("number":Str)=V.str ("nothing":Str)))=true by decide +kernel) z
     | th n=>exact absurd (show(!decide (V.str ("thing":Str)=V.str ("nothing":Str)))=true by decide +kernel) z
    subst ev;exact q _ k1' l1
  refine bF h.tu rfl ⟨L.d0,rfl,.inl ⟨kvs,.inl h2⟩,kvs,h2,Sum.inr x,rfl,λv' e=>go _ rfl,λe=>?_⟩;refine go H ?_;rw [xv (jo e),SX h2]
noncomputable def Qc:List Str:=["num","make","weak","pair","words","put","get","look","find","copy","drop","tell","same","hear"]
noncomputable def De.tag:De->Nat
 | .num ..=>0 | .make ..=>1 | .weak ..=>2 | .pair ..=>3 | .words ..=>4 | .put ..=>5 | .get ..=>6 | .look ..=>7 | .find ..=>8 | .copy ..=>9 | .drop ..=>10 | .tell ..=>11 | .same ..=>12 | .hear ..=>13
theorem De.YJ (d:De):d.word=Qc.getD d.tag ""/\d.tag < 14:=⟨by cases d <;> rfl,Nat.lt_of_sub_pos (by cases d <;> exact Nat.succ_pos _)⟩
theorem NB:∀i < 14,∀j < 14,Qc.getD i ""=Qc.getD j ""->i=j:=by decide +kernel
theorem De.is (d:De) {s:Str}{k:Nat}(hk:s=Qc.getD k "") (h:k < 14):d.word=s↔d.tag=k:=by
 obtain⟨h1,h2⟩:=d.YJ;rw [h1,hk];exact⟨NB _ h2 _ h,λe=>by rw [e]⟩
theorem Gq {d:De}{s:Str}{X Y:Prop}(k:Nat) (hk:s=Qc.getD k "") (h:k < 14) (h1:(d.tag == k)=true->X) (h2:(d.tag == k)=false->Y):if decide (V.str d.word=V.str s)=true then X else Y:=
 aY (λz=>h1 (beq_iff_eq.mpr ((d.is hk h).mp (V.str.inj (of_decide_eq_true z))))) λz=>h2 (beq_eq_false_iff_ne.mpr λe=>z (decide_eq_true (congrArg V.str ((d.is hk h).mpr e))))
theorem De.inW (d:De) (ks:List Nat) (h:∀k∈ks,k < 14):MO (.str d.word) ((ks.map λk=>Qc.getD k "").map V.str)=ks.contains d.tag:=by
 rw [Bool.eq_iff_iff,List.contains_iff_mem];unfold MO;rw [List.any_eq_true];constructor
 ·rintro⟨x,hx,e⟩;obtain⟨y,hy,rfl⟩:=List.mem_map.mp hx;obtain⟨k,hk,rfl⟩:=List.mem_map.mp hy;have e2:Qc.getD k ""=d.word:=by simpa [En] using e
  rw [(d.is e2.symm (h k hk)).mp rfl];exact hk
 ·intro z;refine⟨_,List.mem_map.mpr ⟨_,List.mem_map.mpr ⟨_,z,rfl⟩,rfl⟩,?_⟩;rw [<-d.YJ.1];simp [En]
theorem Lm {H:Hp}{p:Addr}{xs:List V}{d:De}{X Y:Hp->Prop}(ks:List Nat) (hH:H p=some (.lst xs)) (e:xs=(ks.map λk=>Qc.getD k "").map V.str) (h:∀k∈ks,k < 14) (h1:ks.contains d.tag=true->X H) (h2:ks.contains d.tag=false->Y H):rIn K false (.str d.word) (.ref p) H (λx H'=>∃k,x=V.bl k/\if k=true then X H' else Y H'):=by
 refine⟨p,xs,rfl,.inl (bf.of hH),rfl,?_,_,rfl,?_⟩
 ·rw [e,List.all_map];exact List.all_eq_true.mpr λ_ _=>rfl
 ·rw [e,if_neg Bool.false_ne_true,d.inW ks h];exact aY h1 λz=>h2 (Bool.eq_false_iff.mpr z)
noncomputable def WtL (K:PySem.W.Frag) (H:Hp) (xs:List V) (ws:List (Str×Str)):Prop:=ws.length=xs.length/\∀(i:Nat) x q,xs[i]?=some x->ws[i]?=some q->∃t,x=.ref t/\bS K H t [.str q.1,.str q.2]
noncomputable def Gr (K:PySem.W.Frag):Sp:=λvs H Q _=>∃t d,vs=[.ref t]/\bS K H t (De.items d)/\∀l xs H',aj H H'->H' l=some (.lst xs)->WtL K H' xs d.wants->Q (.ref l) H'
theorem Ve (T:Txt K mg a):aS P w K mg base cU 1 a.zO a.zP ["_law_deed"] (Gr K):=by
 refine T.tX.ok Kc (λvs H Q E h=>?_) (λcf A outer s H vs Q E hr h=>?_)
 ·obtain⟨_,_,rfl,_⟩:=h;rfl
 ·obtain⟨t,d,rfl,h,q⟩:=h;refine⟨_,(ag (aN (i:=1) Kc.nd rfl (Or.inl rfl) (aq ak (pv 0) ai (λ_ _=>rfl))) (ag (aQ (aD dN (pv 1) (bE (aa aA (aa aA af))) (by with_unfolding_all rfl)) (ah (aw (bE (aa (bp (aa (aq ak (pv 0) ai (λ_ _=>rfl)) (aa aA af))) af)))) aG) (ag (aQ (aD bN (pv 1) aA (aH _)) (ah (aw (bE (aa (bp (aa (aq ak (pv 0) ai (λ_ _=>rfl)) (aa aA af))) af)))) aG) (ag (aQ (aD dN (pv 1) (bE (aa aA (aa aA af))) (by with_unfolding_all rfl)) (ah (aw (bE (aa (bp (aa (aq ak (pv 0) ai (λ_ _=>rfl)) (aa aA af))) af)))) aG) (ag (aQ (aD bN (pv 1) aA (aH _)) (ah (aw (bE (aa (bp (aa (aq ak (pv 0) ai (λ_ _=>rfl)) (aa aA af))) af)))) aG) (ag (aQ (aD bN (pv 1) aA (aH _)) (ah (aw (bE (aa (bp (aa (aq ak (pv 0) ai (λ_ _=>rfl)) (aa aA af))) (aa (bp (aa (aq ak (pv 0) ai (λ_ _=>rfl)) (aa aA af))) af))))) aG) (ah (aw (bE af))))))))),?_⟩;dsimp! [];refine bF h d.hd ?_;have one:∀(H1:Hp) (i:Int) (x s:Str),aj H H1->d.wants=[(x,s)]->oM d.items i=some (.str x)->og K (.ref t) (.int i) H1 λx H1=>2<=sizeLine/\∀(p:Addr),H1 p=none->1<=sizeLine/\∀(p_1:Addr),upd H1 p (.tup [x,.str s]) p_1=none->Q (.ref p_1) (upd (upd H1 p (.tup [x,.str s])) p_1 (.lst [.ref p])):=λH1 i x s s1 e1 e2=>by
   refine bF (s1.cc h) e2 ⟨by decide,λp hp=>⟨by decide,λr hr=>q r [.ref p] _ (s1.trans ((aj.put hp).trans (aj.put hr))) ae ?_⟩⟩;rw [e1];refine⟨rfl,λj y qq hy hq=>?_⟩
   cases j with
   | zero=>
    cases hy;cases hq;exact⟨p,rfl,bS.of (aj.put hr _ _ ae)⟩
   | succ j=>simp at hy
  refine⟨by decide,λp hp=>?_⟩;have s1:=aj.put (o:=.lst [V.str (Str.ofString "words"),V.str (Str.ofString "put")]) hp;refine Lm [4,5] ae rfl (by decide) (λc=>?_) λc=>⟨rfl,Gq 6 rfl (by decide) (λc2=>?_) λc2=>⟨by decide,λr hr=>?_⟩⟩
  ·cases d with
   | words x n=>exact one _ _ _ _ s1 rfl rfl
   | put x i y=>exact one _ _ _ _ s1 rfl rfl
   | _=>exact absurd c Bool.false_ne_true
  ·cases d with
   | get x y i=>exact one _ _ _ _ s1 rfl rfl
   | _=>exact absurd c2 Bool.false_ne_true
  have s2:=s1.trans (aj.put (o:=.lst [V.str (Str.ofString "weak"),V.str (Str.ofString "pair")]) hr);refine Lm [2,3] ae rfl (by decide) (λc3=>?_) λc3=>⟨rfl,Gq 7 rfl (by decide) (λc4=>?_) λc4=>⟨rfl,Gq 8 rfl (by decide) (λc5=>?_) λc5 m hm=>?_⟩⟩
  ·cases d with
   | weak x n=>exact one _ _ _ _ s2 rfl rfl
   | pair x i y=>exact one _ _ _ _ s2 rfl rfl
   | _=>exact absurd c3 Bool.false_ne_true
  ·cases d with
   | look x n=>exact one _ _ _ _ s2 rfl rfl
   | _=>exact absurd c4 Bool.false_ne_true
  ·cases d with
   | find x y z=>
    have hd2:=s2.cc h;refine bF hd2 rfl ⟨by decide,λp1 CL=>bF ((aj.put CL).cc hd2) rfl ⟨by decide,λp2 oi=>⟨by decide,λl hl=>q l _ _ (s2.trans ((aj.put CL).trans ((aj.put oi).trans (aj.put hl)))) ae ⟨rfl,λj u qq hy hq=>?_⟩⟩⟩⟩
    match j,hy,hq with
    | 0,hy,hq=>
     cases hy;cases hq;exact⟨p1,rfl,bS.of (aj.put hl _ _ (aj.put oi _ _ ae))⟩
    | 1,hy,hq=>
     cases hy;cases hq;exact⟨p2,rfl,bS.of (aj.put hl _ _ ae)⟩
    | j+2,hy,hq=>simp at hy
   | _=>exact absurd c5 Bool.false_ne_true
  ·have e:d.wants=[]:=by
    cases d with
    | words x n=>exact absurd c.symm Bool.false_ne_true
    | put x i y=>exact absurd c.symm Bool.false_ne_true
    | get x y i=>exact absurd c2.symm Bool.false_ne_true
    | weak x n=>exact absurd c3.symm Bool.false_ne_true
    | pair x i y=>exact absurd c3.symm Bool.false_ne_true
    | look x n=>exact absurd c4.symm Bool.false_ne_true
    | find x y z=>exact absurd c5.symm Bool.false_ne_true
    | _=>rfl
   refine q m [] _ (s2.trans (aj.put hm)) ae ?_;rw [e];exact⟨rfl,λj u qq hy=>by simp at hy⟩
noncomputable def A1 (K:PySem.W.Frag):Sp:=λvs H Q _=>∃Pr L W t d,vs=[.ref L.st,.ref t]/\gn K Pr H L W/\W.ok/\bS K H t (De.items d)/\∀H',aj H H'->Q (oV (W.refuse d)) H'
theorem Ln (T:Txt K mg a):aS P w K mg base cU 3 a.zQ a.zR ["_law_state","_law_deed"] (A1 K):=by
 refine T.qi.ok Cr (λvs H Q E h=>?_) (λcf A outer s H vs Q E hr h=>?_)
 ·obtain⟨_,_,_,_,_,rfl,_⟩:=h;rfl
 ·obtain⟨Pr,L,W,t,d,rfl,h,ok,hd,q⟩:=h;refine⟨_,(ag (cS PassesOwn.never rfl (cx (aE (Ve T) (hr.mono (by decide)) rfl T.PK T.tX.kp T.PJ .nil aC (aa (pv 1) af))) (iA (n:=2) rfl (bL (aU (i:=2) Cr.nd rfl (Or.inl rfl)) (bL (aU (i:=3) Cr.nd rfl (Or.inl rfl)) gr))) av) av),?_⟩;dsimp! [];refine⟨t,d,rfl,hd,λl xs H1 s1 hl hw=>⟨l,rfl,⟨xs,bf.of hl⟩,?_⟩⟩;have h1:=h.same s1;have Ia:=s1.cc hd;refine dA xs (λi σ' H'=>(∃v1 v2,σ'=[some (.ref L.st),some (.ref t),v1,v2])/\aj H1 H'/\∀j < i,∀qq,d.wants[j]?=some qq->W.has qq.1 qq.2=true) ⟨⟨_,_,rfl⟩,λ_ _ e=>e,λj hj=>absurd hj (Nat.not_lt_zero _)⟩ (λi σ' H' _ hh=>bf.of (hh.2.1 _ _ hl)) (λi x σ' H2 hx hh=>?_) λσ' H2 hh=>?_
  ·obtain⟨⟨v1,v2,rfl⟩,s2,ha⟩:=hh;have hi:=(List.getElem?_eq_some_iff.mp hx).1;obtain⟨qq,hq⟩:∃qq,d.wants[i]?=some qq:=⟨_,List.getElem?_eq_getElem (by rw [hw.1]; exact hi)⟩
   obtain⟨r,rfl,YK⟩:=hw.2 i x qq hx hq;dsimp! [];refine⟨[_,_],s2.cc YK,rfl,?_⟩;dsimp! [];refine aM.of (ah (aQ (aD mz (aE (Vd T) (hr.mono (by decide)) rfl T.PF T.tW.kp T.PD .nil aC (aa (pv 0) (aa (pv 2) (aa (pv 3) af)))) cB (aH _)) (ah (aw aA)) aG)) ?_;dsimp! [];refine⟨Pr,L,W,qq.1,qq.2,rfl,h1.same s2,ok,λH3 s3=>?_⟩
   cases e:W.has qq.1 qq.2 with
   | false=>
    have e1:W.NA qq.1 qq.2=.bM:=by unfold Wd.NA; rw [e]; rfl
    have e2:W.refuse d=some ("no thing":Str):=by
     have c:W.gq d=true:=List.any_eq_true.mpr ⟨qq,List.mem_of_getElem? hq,by rw [e]; rfl⟩;unfold Wd.refuse;rw [if_pos c]
    rw [e1];rw [e2] at q;exact aY (λ_=>q H3 (s1.trans (s2.trans s3))) λz=>absurd (decide_eq_true rfl) z
   | true=>
    obtain⟨j,g,g1,g2,g3,_⟩:=ok.Yz e;have e1:W.NA qq.1 qq.2=.int ((j:Int)+1):=by unfold Wd.NA; rw [e,g3]; rfl
    rw [e1];refine aY (λz=>by cases (of_decide_eq_true z)) λ_=>⟨⟨_,rfl⟩,s2.trans s3,λj2 hj2 q2 Nm=>?_⟩
    by_cases z:j2 < i
    ·exact ha j2 z q2 Nm
    ·have ej:j2=i:=by omega
     subst ej;rw [hq] at Nm;cases Nm;exact e
  ·obtain⟨⟨v1,v2,rfl⟩,s2,ha⟩:=hh;have gY:W.gq d=false:=by
    cases e:W.gq d with
    | false=>rfl
    | true=>
     obtain⟨qq,hm,hq⟩:=List.any_eq_true.mp e;obtain⟨j,hj⟩:=List.mem_iff_getElem?.mp hm;have:=ha j (by rw [<-hw.1]; exact(List.getElem?_eq_some_iff.mp hj).1) qq hj;rw [this] at hq;cases hq
   have hrf:W.refuse d=if W.dB d=true then some ("no field":Str)else none:=by unfold Wd.refuse; rw [if_neg (by rw [gY]; simp)]
   have h2:=h1.same s2;have hd2:=s2.cc Ia;have q2:∀H3,aj H2 H3->Q (oV (if W.dB d=true then some ("no field":Str)else none)) H3:=λH3 s3=>by
    rw [<-hrf];exact q H3 (s1.trans (s2.trans s3))
   refine aM.of (ag (aQ (PW.pt (mr (aD bN (aq ak (pv 1) ai (λ_ _=>rfl)) aA (aH _)) (jG (aD G7 (aq ak (pv 1) ai (λ_ _=>rfl)) (aI cz rfl T.fk dS (aa (aq ak (cH (bI hr) (aq ak (pv 0) ai (λ_ _=>rfl)) (aq ak (aE (fo T) (hr.mono (by decide)) rfl T.gF T.fg.kp T.gE .nil aC (aa (pv 0) (aa (aq ak (pv 1) ai (λ_ _=>rfl)) af))) ai (λ_ _=>rfl)) (λ_ _=>rfl)) ai (λ_ _=>rfl)) af)) (aH _))))) (ah (aw aA)) aG) av) ?_;dsimp! [];refine bF hd2 d.hd ⟨rfl,Gq 5 rfl (by decide) (λc=>?_) λc=>?_⟩
   ·cases d with
    | put x i y=>
     obtain⟨j,fs,w,g1,g2,g3,g4⟩:=ok.A0 (W.wanted gY List.mem_cons_self);refine bF hd2 rfl (bF h2.tu rfl (bF hd2 rfl ⟨Pr,L,W,x,rfl,h2,λu H3 s3 hu=>?_⟩));rw [g1] at hu;obtain⟨r,rfl,YK⟩:=hu;obtain⟨rows,qq,r1,r2,⟨r3,dD,r5,r6,_⟩,r4,_⟩:=(h2.same s3).at_ g2;refine bF YK rfl ⟨L.d1,rfl,_,r4,bF (bS.of r3) rfl ⟨qq.2,rfl,dD,.inl (bf.of r5),_,rfl,aY (λz=>?_) λz=>?_⟩⟩
     ·have e:W.dB (.put x i y)=true:=by
       show(!decide (i < (W.fs x).length))=true;have:=of_decide_eq_true z;have e6:fs.length=dD.length:=r6.1;rw [g4,decide_eq_false (by omega)];rfl
      have:=q2 H3 s3;rw [if_pos e] at this;exact this
     ·have e:W.dB (.put x i y)=false:=by
       show(!decide (i < (W.fs x).length))=false;have:¬(dD.length:Int)<=(i:Int):=λy=>z (decide_eq_true y)
       have e6:fs.length=dD.length:=r6.1;rw [g4,decide_eq_true (by omega)];rfl
      refine aM.of (ag (aQ (PW.pt (mr (aD bN (aq ak (pv 1) ai (λ_ _=>rfl)) aA (aH _)) (jG (aD G7 (aq ak (pv 1) ai (λ_ _=>rfl)) (aI cz rfl T.fk dS (aa (aq ak (cH (bI hr) (aq ak (pv 0) ai (λ_ _=>rfl)) (aq ak (aE (fo T) (hr.mono (by decide)) rfl T.gF T.fg.kp T.gE .nil aC (aa (pv 0) (aa (aq ak (pv 1) ai (λ_ _=>rfl)) af))) ai (λ_ _=>rfl)) (λ_ _=>rfl)) ai (λ_ _=>rfl)) af)) (aH _))))) (ah (aw aA)) aG) (ah (aw cB))) ?_;dsimp! [];refine bF (s3.cc hd2) (De.hd _) ⟨rfl,Gq 6 rfl (by decide) (λc2=>absurd c2 Bool.false_ne_true) λ_=>?_⟩;have:=q2 H3 s3;rw [if_neg (by rw [e]; simp)] at this;exact this
    | _=>exact absurd c Bool.false_ne_true
   ·refine aM.of (ag (aQ (PW.pt (mr (aD bN (aq ak (pv 1) ai (λ_ _=>rfl)) aA (aH _)) (jG (aD G7 (aq ak (pv 1) ai (λ_ _=>rfl)) (aI cz rfl T.fk dS (aa (aq ak (cH (bI hr) (aq ak (pv 0) ai (λ_ _=>rfl)) (aq ak (aE (fo T) (hr.mono (by decide)) rfl T.gF T.fg.kp T.gE .nil aC (aa (pv 0) (aa (aq ak (pv 1) ai (λ_ _=>rfl)) af))) ai (λ_ _=>rfl)) (λ_ _=>rfl)) ai (λ_ _=>rfl)) af)) (aH _))))) (ah (aw aA)) aG) (ah (aw cB))) ?_;dsimp! [];refine bF hd2 d.hd ⟨rfl,Gq 6 rfl (by decide) (λc2=>?_) λc2=>?_⟩
    ·cases d with
     | get y x i=>
      obtain⟨j,fs,w,g1,g2,g3,g4⟩:=ok.A0 (W.wanted gY List.mem_cons_self);refine bF hd2 rfl (bF h2.tu rfl (bF hd2 rfl ⟨Pr,L,W,x,rfl,h2,λu H3 s3 hu=>?_⟩));rw [g1] at hu;obtain⟨r,rfl,YK⟩:=hu;obtain⟨rows,qq,r1,r2,⟨r3,dD,r5,r6,_⟩,r4,_⟩:=(h2.same s3).at_ g2;refine bF YK rfl ⟨L.d1,rfl,_,r4,bF (bS.of r3) rfl ⟨qq.2,rfl,dD,.inl (bf.of r5),_,rfl,aY (λz=>?_) λz=>?_⟩⟩
      ·have e:W.dB (.get y x i)=true:=by
        show(!decide (i < (W.fs x).length))=true;have:=of_decide_eq_true z;have e6:fs.length=dD.length:=r6.1;rw [g4,decide_eq_false (by omega)];rfl
       have:=q2 H3 s3;rw [if_pos e] at this;exact this
      ·have e:W.dB (.get y x i)=false:=by
        show(!decide (i < (W.fs x).length))=false;have:¬(dD.length:Int)<=(i:Int):=λy=>z (decide_eq_true y)
        have e6:fs.length=dD.length:=r6.1;rw [g4,decide_eq_true (by omega)];rfl
       have:=q2 H3 s3;rw [if_neg (by rw [e]; simp)] at this;exact this
     | _=>exact absurd c2 Bool.false_ne_true
    ·have e:W.dB d=false:=by
      cases d with
      | put x i y=>exact absurd c.symm Bool.false_ne_true
      | get x y i=>exact absurd c2.symm Bool.false_ne_true
      | _=>rfl
     have:=q2 H2 λ_ _ e=>e
     rw [if_neg (by rw [e]; simp)] at this;exact this
theorem jt.snoc {H:Hp}{xs:List V}{vl:List Vl}{x:V}{v:Vl}(h:jt K H xs vl) (hx:dw K H x v):jt K H (xs++[x]) (vl++[v]):=⟨by simp [h.1],λi y u a b=>by
 have hl:=h.1
 by_cases hi:i < xs.length
 ·rw [List.getElem?_append_left hi] at a;rw [List.getElem?_append_left (by omega)] at b;exact h.2 i y u a b
 ·have e:i=xs.length:=by
   have:=(List.getElem?_eq_some_iff.mp a).1;simp at this;omega
  subst e;rw [List.getElem?_append_right (Nat.le_refl _),Nat.sub_self] at a;rw [<-hl,List.getElem?_append_right (Nat.le_refl _),Nat.sub_self] at b;cases a;cases b;exact hx⟩
theorem abn {n:Nat}{D:Addr}{σ:St}{Q:Hp->Prop}{H:Hp}(hD:H D=none) (hz:n<=1000) (hq:∀H2 ys,aj H H2->H2 D=some (.lst ys)->jt K H2 ys (List.replicate n .no)->Q H2):mF (N6 0 n) [] (λ_ H Q=>Q true H) (Sn (sO (tC (V.str (Str.ofString "nothing"))) BY)) σ D Q (upd H D (.lst [])):=by
 refine⟨λi m H2=>m+i=n/\∃ys,aj H H2/\H2 D=some (.lst ys)/\jt K H2 ys (List.replicate i .no),⟨n,rfl,[],aj.put hD,ae,jt.nil _ _⟩,?_⟩;rintro i m H2 ⟨hm,ys,s2,e,hv⟩
 cases m with
 | zero=>
  have ei:i=n:=by omega
  subst ei;exact .inl ⟨Nat.le_refl _,hq H2 ys s2 e hv⟩
 | succ m=>
  refine .inr ⟨show i < n by omega,λv H' y=>?_⟩;obtain⟨rfl,rfl⟩:=y;show(if true=true then _ else _);rw [if_pos rfl];refine⟨(by show 1<=sizeLine; decide),λp hp=>?_⟩;have s3:=aj.put (o:=.tup [V.str (Str.ofString "nothing")]) hp;have e3:=s3 _ _ e;have hlen:ys.length=i:=by rw [<-hv.1,List.length_replicate]
  refine⟨ys,e3,aJ (by omega),m,Nat.lt_succ_self m,by omega,ys++[.ref p],λb u eb=>?_,ae,?_⟩
  ·have nb:b≠D:=λz=>by rw [z,hD] at eb; cases eb
   have:=s3 b u (s2 b u eb);exact(au nb).trans this
  ·have k:Kp (·=D) (upd H' p (.tup [V.str (Str.ofString "nothing")])) (upd (upd H' p (.tup [V.str (Str.ofString "nothing")])) D (.lst (ys++[.ref p]))):=(Kp.refl _ _).set rfl;have mu:∀b,b=D->Mu (upd H' p (.tup [V.str (Str.ofString "nothing")])) b:=λb z=>.inl ⟨ys,by rw [z]; exact e3⟩
   have hn:dw K (upd H' p (.tup [V.str (Str.ofString "nothing")])) (.ref p) .no:=⟨p,rfl,bS.of ae⟩
   have:=((hv.same s3).snoc hn).kp k mu;rw [List.replicate_succ'];exact this
theorem abo:¬(("look":Str)="get"):=by decide +kernel
theorem abp:¬(("look":Str)="find"):=by decide +kernel
theorem abq:¬(("find":Str)="get"):=by decide +kernel
theorem abr:¬(("find":Str)="look"):=by decide +kernel
noncomputable def Lo (K:PySem.W.Frag):Sp:=λvs H Q _=>∃Pr L W t d tg,vs=[.ref L.st,.ref t]/\gn K Pr H L W/\bS K H t (De.items d)/\W.made d=some tg/\d.fits/\W.ts.length < 500/\∀H',Kp L.own H H'->gn K Pr H' L (W.step d)->Q .bM H'
noncomputable def JMd (K:PySem.W.Frag) (Pr:Addr->Prop) (L:LA) (W:Wd) (tg:Tg) (t:Addr) (H:Hp) (σ':St) (H':Hp):Prop:=σ'=[some (.ref L.st),some (.ref t),some (.int ((W.ts.length:Int)+1))]/\Kp L.own H H'/\gn K Pr H' L ⟨W.g,W.ts++[tg],W.hs⟩
theorem Vf (T:Txt K mg a):aS P w K mg base cU 3 a.zS a.zT ["_law_state","_law_deed"] (Lo K):=by
 refine T.tY.ok Kd (λvs H Q E h=>?_) (λcf A outer s H vs Q E hr h=>?_)
 ·obtain⟨_,_,_,_,_,_,rfl,_⟩:=h;rfl
 ·obtain⟨Pr,L,W,t,d,tg,rfl,h,hd,hm,hf,bX,q⟩:=h;refine⟨_,(ag (aN (i:=2) Kd.nd rfl (Or.inl rfl) (bz iB (aI gB rfl T.fk dS (aa (aq ak (pv 0) ai (λ_ _=>rfl)) af)) ai)) (ag mH av)),?_⟩;dsimp! [];obtain⟨rows,h4,h5,h6,h7⟩:=h.th;refine bF h.tu rfl ⟨L.d1,rfl,f_ rows,h4,?_⟩;rw [d_,h5];obtain⟨e1,_⟩:=Wd.uo hm;rw [e1] at q;have dn:∀(H1:Hp) (p l:Addr) (xs:List V),aj H H1->H l=none->H1 p=some (.tup [.str tg.sort,.ref l,wV tg.words])->H1 l=some (.lst xs)->jt K H1 xs tg.fs->xs.length<=1000->∃x_2,gS H1 L.d1 (.int ((W.ts.length:Int)+1)) (.ref p) x_2/\JMd K Pr L W tg t H [some (.ref L.st),some (.ref t),some (.int ((W.ts.length:Int)+1))] x_2:=λH1 p l xs s1 hl0 e1 e2 e3 e4=>by
   refine⟨_,gS.k (k:=Sum.inl ((W.ts.length:Int)+1)) (s1 _ _ h4) (aJ (by rw [d_]; omega)),rfl,(aj.kp s1).set (.inr (.inl rfl)),?_⟩;exact(h.same s1).new (q':=(p,l)) (s1 _ _ h4) ⟨e1,xs,e2,e3,e4⟩ (h.fresh hl0) bX
  refine Et (JMd K Pr L W tg t H) (xr.of (aQ (aD bN (aq ak (pv 1) ai (λ_ _=>rfl)) aA (aH _)) (ah (dc (bI hr) (aq ak (pv 0) ai (λ_ _=>rfl)) (pv 2) (bp (aa aA (aa (oZ rfl (B3 (x:="_law_k") (ns:=[]) (fr:=[]) rfl (by decide +kernel) rfl (by decide +kernel) rfl (List.forall_mem_nil _) rfl rfl (List.forall_mem_nil _) (by decide +kernel)) (my rfl T.jM (aa (aq ak (pv 1) ai (λ_ _=>rfl)) af)) (λ_ _ _ _=>(bp (aa aA af))) (λ_ _ _ _=>.nil)) (aa cB af)))) rfl)) (ah (aQ (aD bN (aq ak (pv 1) ai (λ_ _=>rfl)) aA (aH _)) (ah (dc (bI hr) (aq ak (pv 0) ai (λ_ _=>rfl)) (pv 2) (bp (aa aA (aa (bE (aa (aE (fo T) (hr.mono (by decide)) rfl T.gF T.fg.kp T.gE .nil aC (aa (pv 0) (aa (aq ak (pv 1) ai (λ_ _=>rfl)) af))) af)) (aa cB af)))) rfl)) (ah (dc (bI hr) (aq ak (pv 0) ai (λ_ _=>rfl)) (pv 2) (bp (aa aA (aa (bE (aa (aE (fo T) (hr.mono (by decide)) rfl T.gF T.fg.kp T.gE .nil aC (aa (pv 0) (aa (aq ak (pv 1) ai (λ_ _=>rfl)) af))) (aa (aE (fo T) (hr.mono (by decide)) rfl T.gF T.fg.kp T.gE .nil aC (aa (pv 0) (aa (aq ak (pv 1) ai (λ_ _=>rfl)) af))) af))) (aa cB af)))) rfl))))) ?_) ?_
  ·dsimp! [];refine bF hd d.hd ⟨rfl,Gq 1 rfl (by decide) (λc=>?_) λc=>bF hd d.hd ⟨rfl,Gq 2 rfl (by decide) (λc2=>?_) λc2=>?_⟩⟩
   ·cases d with
    | make x n=>
     cases hm;have hn:n<=100:=hf.2;refine bF hd rfl ⟨_,rfl,by omega,by omega,λD hD=>?_⟩;rw [Int.toNat_natCast];refine abn (K:=K) hD (by omega) λH2 ys s2 e2 hv=>⟨by decide,λp hp=>?_⟩
     have s3:=aj.put (o:=.tup [V.str (Str.ofString "plain"),V.ref D,V.bM]) hp;have hlen:ys.length=n:=by rw [<-hv.1,List.length_replicate]
     exact bF ((s2.trans s3).cc h.tu) rfl ⟨L.d1,rfl,dn _ p D ys (s2.trans s3) hD ae (s3 _ _ e2) (hv.same s3) (by omega)⟩
    | _=>exact absurd c Bool.false_ne_true
   ·cases d with
    | weak x y=>
     cases hm;refine bF hd rfl ⟨Pr,L,W,y,rfl,h,λu H1 s1 hu=>⟨by decide,λl hl=>⟨by decide,λp hp=>?_⟩⟩⟩;have s2:=aj.put (o:=.lst [u]) hl;have s3:=aj.put (o:=.tup [V.str (Str.ofString "weak"),V.ref l,V.bM]) hp;have s4:=s1.trans (s2.trans s3);exact bF (s4.cc h.tu) rfl ⟨L.d1,rfl,dn _ p l [u] s4 (s1.free hl) ae (s3 _ _ ae) (.cons (hu.same (s2.trans s3)) (.nil _ _)) (Nat.le_of_ble_eq_true rfl)⟩
    | _=>exact absurd c2 Bool.false_ne_true
   ·cases d with
    | pair x y z=>
     cases hm;refine bF hd rfl ⟨Pr,L,W,y,rfl,h,λu H1 s1 hu=>bF (s1.cc hd) rfl ⟨Pr,L,W,z,rfl,h.same s1,λu2 H2 s2 EN=>⟨by decide,λl hl=>⟨by decide,λp hp=>?_⟩⟩⟩⟩;have s3:=aj.put (o:=.lst [u,u2]) hl;have s4:=aj.put (o:=.tup [V.str (Str.ofString "pair"),V.ref l,V.bM]) hp;have s5:=(s1.trans s2).trans (s3.trans s4);exact bF (s5.cc h.tu) rfl ⟨L.d1,rfl,dn _ p l [u,u2] s5 ((s1.trans s2).free hl) ae (s4 _ _ ae) (.cons (hu.same (s2.trans (s3.trans s4))) (.cons (EN.same (s3.trans s4)) (.nil _ _))) (Nat.le_of_ble_eq_true rfl)⟩
    | make x n=>exact absurd c.symm Bool.false_ne_true
    | weak x n=>exact absurd c2.symm Bool.false_ne_true
    | _=>cases hm
  ·rintro σ' H1 ⟨rfl,k1,l1⟩;refine aM.of (ah (bx (aE (vq T) (hr.mono (by decide)) rfl T.AN T.lE.kp T.AM .nil aC (aa (pv 0) (aa (aq ak (pv 1) ai (λ_ _=>rfl)) (aa (bp (aa aA (aa (pv 2) af))) af)))))) ?_;have Ia:=k1.cc h.mu hd;dsimp! [];refine bF Ia d.at1 ⟨by decide,λp hp=>?_⟩;have s1:=aj.put (o:=.tup [.str "thing",.int ((W.ts.length:Int)+1)]) hp;exact⟨Pr,L,_,d.root,_,.th ((W.ts.length:Int)+1),rfl,l1.same s1,hf.1,⟨p,rfl,bS.of ae⟩,λH' k l=>q H' (k1.trans ((aj.kp s1).trans k)) l⟩
noncomputable def Wd.bring (W:Wd):De->Option Vl
 | .num _ n=>some (.num n)
 | .copy _ y=>some (W.g y)
 | .drop _=>some .no
 | .get _ y n=>some ((W.fs y).getD n .no)
 | .look _ y=>some ((W.fs y).getD 0 .no)
 | .find _ y z=>some (if bA (vD ((W.fs y).getD 0 .no)) (vD (W.g z))=true then(W.fs y).getD 1 .no else .no)
 | _=>none
noncomputable def A2 (K:PySem.W.Frag):Sp:=λvs H Q _=>∃Pr L W t d v,vs=[.ref L.st,.ref t]/\gn K Pr H L W/\W.ok/\bS K H t (De.items d)/\W.bring d=some v/\W.gq d=false/\W.dB d=false/\∀u H',aj H H'->dw K H' u v->Q u H'
theorem Vg (T:Txt K mg a):aS P w K mg base cU 2 a.zU a.zV ["_law_state","_law_deed"] (A2 K):=by
 refine T.t_.ok Cs (λvs H Q E h=>?_) (λcf A outer s H vs Q E hr h=>?_)
 ·obtain⟨_,_,_,_,_,_,rfl,_⟩:=h;rfl
 ·obtain⟨Pr,L,W,t,d,v,rfl,h,ok,hd,hv,hl,kS,q⟩:=h;refine⟨_,(ag (aN (i:=2) Cs.nd rfl (Or.inl rfl) (aq ak (pv 1) ai (λ_ _=>rfl))) (ag (aQ (aD bN (pv 2) aA (aH _)) (ah (aw (bp (aa aA (aa (aq ak (pv 1) ai (λ_ _=>rfl)) af))))) aG) (ag (aQ (aD bN (pv 2) aA (aH _)) (ah (aw (aE (fo T) (hr.mono (by decide)) rfl T.gF T.fg.kp T.gE .nil aC (aa (pv 0) (aa (aq ak (pv 1) ai (λ_ _=>rfl)) af))))) aG) (ag (aQ (aD bN (pv 2) aA (aH _)) (ah (aw (bp (aa aA af)))) aG) av)))),?_⟩;dsimp! [];refine bF hd d.hd ⟨rfl,Gq 0 rfl (by decide) (λc=>?_) λc=>⟨rfl,Gq 9 rfl (by decide) (λc2=>?_) λc2=>⟨rfl,Gq 10 rfl (by decide) (λc3=>?_) λc3=>?_⟩⟩⟩
  ·cases d with
   | num x n=>
    cases hv;exact bF hd rfl ⟨by decide,λp hp=>q _ _ (aj.put hp) ⟨p,rfl,bS.of ae⟩⟩
   | _=>exact absurd c Bool.false_ne_true
  ·cases d with
   | copy x y=>
    cases hv;exact bF hd rfl ⟨Pr,L,W,y,rfl,h,q⟩
   | _=>exact absurd c2 Bool.false_ne_true
  ·cases d with
   | drop x=>
    cases hv;exact⟨by decide,λp hp=>q _ _ (aj.put hp) ⟨p,rfl,bS.of ae⟩⟩
   | _=>exact absurd c3 Bool.false_ne_true
  ·refine aM.of (ag (aN (i:=3) Cs.nd rfl (Or.inl rfl) (aq ak (cH (bI hr) (aq ak (pv 0) ai (λ_ _=>rfl)) (aq ak (aE (fo T) (hr.mono (by decide)) rfl T.gF T.fg.kp T.gE .nil aC (aa (pv 0) (aa (aq ak (pv 1) ai (λ_ _=>rfl)) af))) ai (λ_ _=>rfl)) (λ_ _=>rfl)) ai (λ_ _=>rfl))) (ag (aQ (aD bN (pv 2) aA (aH _)) (ah (aw (aq cy (pv 3) (aq ak (pv 1) ai (λ_ _=>rfl)) (λ_ _=>rfl)))) aG) (ag (aQ (PW.pt (gJ (aD bN (pv 2) aA (aH _)) (gh (aD (iI hr.units) (aq cy (pv 3) ai (λ_ _=>rfl)) (aE (fo T) (hr.mono (by decide)) rfl T.gF T.fg.kp T.gE .nil aC (aa (pv 0) (aa (aq ak (pv 1) ai (λ_ _=>rfl)) af))) (aH _))))) (ah (aw (aq cy (pv 3) (bW sN rfl T.qx uK (aa (da bN (pv 2) aA (aH _)) af)) (λ_ _=>rfl)))) aG) (ah (aw (bp (aa aA af))))))) ?_;dsimp! [];have gf:∀(y:Str) (j:Nat) (g:Tg) (R:VK),W.g y=.th ((j:Int)+1)->W.ts[j]?=some g->oM d.items 2=some (.str y)->(∀(l:Addr) (xs:List V) (H3:Hp),aj H H3->H3 l=some (.lst xs)->jt K H3 xs g.fs->R (.ref l) H3)->og K (.ref L.st) (.int 1) H λx H1=>og K (.ref t) (.int 2) H1 λYL H1=>uq K [.ref L.st,YL] H1 (λx_2 H1=>og K x_2 (.int 1) H1 λy H2=>∃a,x=.ref a/\∃x,fb H2 a y (some x)/\og K x (.int 1) H2 R) E0:=λy j g R g1 g2 e2 r=>by
    refine bF h.tu rfl (bF hd e2 ⟨Pr,L,W,y,rfl,h,λu H1 s1 hu=>?_⟩);rw [g1] at hu;obtain⟨b,rfl,hb⟩:=hu;obtain⟨rows,qq,r1,r2,⟨r3,dD,r5,r6,_⟩,r4,_⟩:=(h.same s1).at_ g2;exact bF hb rfl ⟨L.d1,rfl,_,r4,bF (bS.of r3) rfl (r _ _ _ s1 r5 r6)⟩
   cases d with
   | get x y i=>
    obtain⟨j,fs,w,g1,g2,g3,g4⟩:=ok.A0 (W.wanted hl List.mem_cons_self);have hi:i < fs.length:=by
     rw [<-g4];exact of_decide_eq_true (by simpa [Wd.dB,De.kE] using kS)
    refine gf y j _ _ g1 g2 rfl λl xs H3 s3 e3 mP=>aY (λ_=>bF (s3.cc hd) rfl ?_) λz=>absurd (decide_eq_true rfl) z
    have gg:fs.length=xs.length:=mP.1;have hx:xs[i]?=some (xs[i]'(by omega)):=List.getElem?_eq_getElem _;have ev:v=fs[i]:=by
     have:some ((W.fs y).getD i .no)=some v:=hv;rw [g4,List.getD_eq_getElem?_getD,List.getElem?_eq_getElem hi] at this;exact(Option.some.inj this).symm
    rw [ev] at q;exact vp (bf.of e3) (cG hx) (q _ _ s3 (mP.2 i _ _ hx (List.getElem?_eq_getElem hi)))
   | look x y=>
    obtain⟨j,f,g1,g2,g3,g4⟩:=ok.YE (W.wanted hl List.mem_cons_self);refine gf y j _ _ g1 g2 rfl λl xs H3 s3 e3 mP=>aY (λz=>absurd (of_decide_eq_true z) abo) λ_=>aY (λ_=>?_) λz=>absurd (decide_eq_true rfl) z
    rw [if_neg (show ¬decide ((De.look x y).word=Str.ofString "find")=true from λz=>abp (of_decide_eq_true z))];have gg:[f].length=xs.length:=mP.1;have hx:xs[0]?=some (xs[0]'(by rw [<-gg,List.length_singleton]; decide)):=List.getElem?_eq_getElem _;have ev:v=f:=by
     have:some ((W.fs y).getD 0 .no)=some v:=hv;rw [g4] at this;exact(Option.some.inj this).symm
    rw [ev] at q;exact vp (bf.of e3) (cG (j:=0) hx) (q _ _ s3 (mP.2 0 _ _ hx rfl))
   | find x y z=>
    obtain⟨j,k,f,g1,g2,g3,g4⟩:=ok.YF (W.wanted hl List.mem_cons_self);refine gf y j _ _ g1 g2 rfl λl xs H3 s3 e3 mP=>aY (λz=>absurd (of_decide_eq_true z) abq) λ_=>aY (λz=>absurd (of_decide_eq_true z) abr) λ_=>?_
    have gg:[k,f].length=xs.length:=mP.1;have Qa:xs[0]?=some (xs[0]'(by rw [<-gg,List.length_cons,List.length_singleton]; decide)):=List.getElem?_eq_getElem _;have kh:xs[1]?=some (xs[1]'(by rw [<-gg,List.length_cons,List.length_singleton]; decide)):=List.getElem?_eq_getElem _;have ev:v=if bA (vD k) (vD (W.g z))=true then f else .no:=by
     have:some (if bA (vD ((W.fs y).getD 0 .no)) (vD (W.g z))=true then(W.fs y).getD 1 .no else .no)=some v:=hv;rw [g4] at this;exact(Option.some.inj this).symm
    rw [ev] at q;refine vp (bf.of e3) (cG (j:=0) Qa) (bF (s3.cc hd) rfl ⟨Pr,L,W,z,rfl,h.same s3,λu2 H4 s4 EN=>⟨_,_,((mP.2 0 _ _ Qa rfl).same s4).rN,EN.rN,by rw [jx]; decide,_,rfl,aY (λc5=>?_) λc5=>⟨by decide,λp hp=>?_⟩⟩⟩)
    ·have c6:bA (vD k) (vD (W.g z))=true:=c5;rw [if_pos c6] at q;rw [if_pos (show decide ((De.find x y z).word=Str.ofString "find")=true from decide_eq_true rfl)];exact vp (bf.of (s4 _ _ e3)) (cG (j:=1) kh) (q _ _ (s3.trans s4) ((mP.2 1 _ _ kh rfl).same s4))
    ·have c6:¬bA (vD k) (vD (W.g z))=true:=c5;rw [if_neg c6] at q;exact q _ _ (s3.trans (s4.trans (aj.put hp))) ⟨p,rfl,bS.of ae⟩
   | num x n=>exact absurd c.symm Bool.false_ne_true
   | copy x n=>exact absurd c2.symm Bool.false_ne_true
   | drop x=>exact absurd c3.symm Bool.false_ne_true
   | _=>cases hv
noncomputable def De.Qd:De->Bool
 | .tell ..=>true
 | .same ..=>true
 | .hear ..=>true
 | _=>false
noncomputable def CM (K:PySem.W.Frag):Sp:=λvs H Q _=>∃Pr L W t d,vs=[.ref L.st,.ref t]/\gn K Pr H L W/\W.ok/\bS K H t (De.items d)/\d.Qd=true/\d.fits/\∀H',Kp L.own H H'->gn K Pr H' L (W.step d)->Q (.str (W.CJ d)) H'
noncomputable def hD (h:Nat×Int):D:=.tup [.int (h.1:Int),.int h.2]
theorem BH.rN {H:Hp}{l:Addr}{xs:List V}{hs:List (Nat×Int)}(hl:bf K H l xs) (h:BH K H xs hs):fC K H (.ref l) (.lst (hs.map hD)):=by
 refine .lst hl (by rw [List.length_map]; exact h.1.symm) λi x d hx hd=>?_
 rw [List.getElem?_map] at hd
 cases e:hs[i]? with
 | none=>rw [e] at hd; cases hd
 | some v=>
  rw [e] at hd;cases hd;obtain⟨t,rfl,ht⟩:=h.2 i x v hx e;exact .Oi (xs:=[.int (v.1:Int),.int v.2]) ht λx hx=>by
   simp only [List.mem_cons,List.not_mem_nil,or_false] at hx;rcases hx with rfl | rfl <;> rfl
theorem Vh (h:Nat×Int):(hD h).dep<=1:=by
 unfold hD;simp [D.dep,fB]
theorem Fe:∀hs:List (Nat×Int),fB (hs.map hD)<=1
 | []=>by rw [List.map_nil,fB]; exact Nat.zero_le _
 | h::hs=>by
  rw [List.map_cons,fB];have:=Fe hs;have:=Vh h;omega
theorem Lp (hs:List (Nat×Int)):(D.lst (hs.map hD)).dep<=60:=by
 rw [D.dep];have:=Fe hs;omega
theorem Lq {h:Nat×Int}{hs:List (Nat×Int)}:bA (.lst ((h::hs).map hD)) (.lst [])=false:=by
 rw [bA];exact fS (by simp)
theorem Vi (T:Txt K mg a):aS P w K mg base cU 2 a.zW a.zX ["_law_state","_law_deed"] (CM K):=by
 refine T.ua.ok u_ (λvs H Q E h=>?_) (λcf A outer s H vs Q E hr h=>?_)
 ·obtain⟨_,_,_,_,_,rfl,_⟩:=h;rfl
 ·obtain⟨Pr,L,W,t,d,rfl,h,ok,hd,hv,hf,q⟩:=h;refine⟨_,(ag (aN (i:=2) u_.nd rfl (Or.inl rfl) (aE (fo T) (hr.mono (by decide)) rfl T.gF T.fg.kp T.gE .nil aC (aa (pv 0) (aa (aq ak (pv 1) ai (λ_ _=>rfl)) af)))) (ag (aQ (aD bN (aq ak (pv 1) ai (λ_ _=>rfl)) aA (aH _)) (ah (aw (dU (aD bN (aq ak (pv 2) ai (λ_ _=>rfl)) aA (aH _)) (bW jK rfl T.kn kr (aa (aq ak (pv 2) ai (λ_ _=>rfl)) af)) (aq ak (pv 2) ai (λ_ _=>rfl))))) aG) av)),?_⟩;dsimp! [];refine bF hd d.at1 ⟨Pr,L,W,d.root,rfl,h,λu H1 s1 hu=>bF (s1.cc hd) d.hd ⟨rfl,Gq 11 rfl (by decide) (λc=>?_) λc=>?_⟩⟩
  ·cases d with
   | tell x=>
    have q:=q H1 (aj.kp s1) (h.same s1);have okx:=ok.g x;have e:W.CJ (.tell x)=(W.g x).told:=rfl;have er:W.g (De.root (.tell x))=W.g x:=rfl;rw [er] at hu;rw [e] at q
    cases e:W.g x with
    | no=>
     rw [e] at hu q;obtain⟨r,rfl,hr⟩:=hu;exact bF hr rfl ⟨rfl,aY (λz=>absurd (V.str.inj (of_decide_eq_true z)) (by decide +kernel)) λ_=>bF hr rfl q⟩
    | th n=>
     rw [e] at hu q;obtain⟨r,rfl,hr⟩:=hu;exact bF hr rfl ⟨rfl,aY (λz=>absurd (V.str.inj (of_decide_eq_true z)) (by decide +kernel)) λ_=>bF hr rfl q⟩
    | num n=>
     rw [e] at hu q okx;obtain⟨r,rfl,hr⟩:=hu;exact bF hr rfl ⟨rfl,aY (λ_=>bF hr rfl (.inl ⟨n,rfl,BJ.log okx,q⟩)) λz=>absurd (decide_eq_true rfl) z⟩
   | _=>exact absurd c Bool.false_ne_true
  ·refine aM.of (ag (aQ (aD bN (aq ak (pv 1) ai (λ_ _=>rfl)) aA (aH _)) (ah (aw (dU (aD (iI hr.units) (pv 2) (aE (fo T) (hr.mono (by decide)) rfl T.gF T.fg.kp T.gE .nil aC (aa (pv 0) (aa (aq ak (pv 1) ai (λ_ _=>rfl)) af))) (aH _)) aA aA))) aG) av) ?_;dsimp! [];refine bF (s1.cc hd) d.hd ⟨rfl,Gq 12 rfl (by decide) (λc2=>?_) λc2=>?_⟩
   ·cases d with
    | same x y=>
     refine bF (s1.cc hd) rfl ⟨Pr,L,W,y,rfl,h.same s1,λu2 H2 s2 EN=>⟨_,_,(hu.same s2).rN,EN.rN,by rw [jx]; decide,_,rfl,?_⟩⟩;have q:=q H2 (aj.kp (s1.trans s2)) (h.same (s1.trans s2));have e:W.CJ (.same x y)=if bA (vD (W.g x)) (vD (W.g y))=true then("yes":Str)else("no":Str):=rfl
     rw [e] at q;refine aY (λc=>?_) λc=>?_
     ·have c2:bA (vD (W.g x)) (vD (W.g y))=true:=c;rw [if_pos c2] at q;exact q
     ·have c2:¬bA (vD (W.g x)) (vD (W.g y))=true:=c;rw [if_neg c2] at q;exact q
    | _=>exact absurd c2 Bool.false_ne_true
   ·cases d with
    | hear x=>
     refine aM.of (ag (aQ (aD (iI hr.units) (aq ak (pv 0) ai (λ_ _=>rfl)) (bE af) (aH _)) (ag (bx (aE (vq T) (hr.mono (by decide)) rfl T.AN T.lE.kp T.AM .nil aC (aa (pv 0) (aa (aq ak (pv 1) ai (λ_ _=>rfl)) (aa (bp (aa aA af)) af))))) (ah (aw aA))) aG) (ag (mx (nE PySem.F.plainAttrs_list PySem.F.slot_list_pop PySem.F.type_list_pop xj (aq ak (pv 0) ai (λ_ _=>rfl)) (aa ai af)) (iA (n:=2) rfl (bL (aU (i:=3) u_.nd rfl (Or.inl rfl)) (bL (aU (i:=4) u_.nd rfl (Or.inl rfl)) gr)))) (ag (bx (aE (vq T) (hr.mono (by decide)) rfl T.AN T.lE.kp T.AM .nil aC (aa (pv 0) (aa (aq ak (pv 1) ai (λ_ _=>rfl)) (aa (bp (aa aA (aa (pv 3) af))) af))))) (ah (aw (bW jK rfl T.kn kr (aa (pv 4) af))))))) ?_;dsimp! [];have h1:=h.same s1;have Ia:=s1.cc hd;obtain⟨xs,h8,h9⟩:=h1.he;refine bF h1.tu rfl λp hp=>?_
     have s2:=aj.put (o:=.lst []) hp;have h2:=h1.same s2;have YM:=s2 _ _ h8;have Ws:=h9.same s2;have oi:upd H1 p (.lst []) p=some (.lst []):=ae;have hd2:=s2.cc Ia;have Mz:=s1.trans s2;generalize upd H1 p (.lst [])=H2 at s2 h2 YM Ws oi hd2 Mz ⊢;refine⟨_,_,BH.rN (bf.of YM) Ws,.Oh (bf.of oi) (λx hx=>(nomatch hx)),Lp _,_,rfl,?_⟩
     cases e:W.hs with
     | nil=>
      have e1:W.step (.hear x)=W.dP x .no:=by show W.qB x W.hs=_; rw [e]; rfl
      have e2:W.CJ (.hear x)="none":=by show AY W.hs=_; rw [e]; rfl
      rw [e1,e2] at q;refine aY (λ_=>bF hd2 rfl ⟨by decide,λr hr=>?_⟩) λz=>absurd (by simp [bA,hX]) z
      have s3:=aj.put (o:=.tup [V.str (Str.ofString "nothing")]) hr;exact⟨Pr,L,W,x,_,.no,rfl,h2.same s3,hf.1,⟨r,rfl,bS.of ae⟩,λH' k l=>q H' ((aj.kp (Mz.trans s3)).trans k) l⟩
     | cons y qA=>
      have e1:W.step (.hear x)=(Wd.mk W.g W.ts qA).dP x (.th (y.1:Nat)):=by show W.qB x W.hs=_; rw [e]; rfl
      have e2:W.CJ (.hear x)=(toString y.2:String):=by show AY W.hs=_; rw [e]; rfl
      rw [e1,e2] at q;have hn:=(ok.hs y (by rw [e]; exact List.mem_cons_self)).2;rw [e] at Ws;have gg:=Ws.1
      cases xs with
      | nil=>cases gg
      | cons x0 xs=>
       obtain⟨b,rfl,hb⟩:=Ws.2 0 x0 y rfl rfl;refine aY (λz=>?_) λ_=>bF h2.tu rfl ⟨.inl ⟨rfl,_,bf.of YM⟩,L.l2,_,0,0,_,rfl,rfl,YM,by decide,by decide,by simp [seqIndex?],rfl,?_⟩
       ·have z2:bA (.lst ((y::qA).map hD)) (.lst [])=true:=z;rw [Lq] at z2;cases z2
       ·have A3:BH K H2 xs qA:=⟨by simpa using gg,λi x h a b=>Ws.2 (i+1) x h a b⟩
        have k3:Kp (·=L.l2) H2 (upd H2 L.l2 (.lst xs)):=(Kp.refl _ _).set rfl;have mu3:∀b,b=L.l2->Mu H2 b:=λc e=>.inl ⟨V.ref b::xs,by rw [e]; exact YM⟩
        have h3:gn K Pr (upd H2 L.l2 (.lst xs)) L ⟨W.g,W.ts,qA⟩:=h2.CG A3 (by have:=h2.bX.2; rw [e,List.length_cons] at this; omega);have k3':Kp L.own H2 (upd H2 L.l2 (.lst xs)):=k3.mono λb z=>.inr (.inr z)
        have hb3:=k3.cc mu3 hb;have NC:=k3.cc mu3 hd2;show ∃a,V.ref b=V.ref a/\_;refine⟨b,rfl,_,hb3,rfl,_,_,rfl,_,_,rfl,rfl,bF NC rfl ⟨by decide,λr hr=>?_⟩⟩;have s4:=aj.put (o:=.tup [V.str (Str.ofString "thing"),.int (y.1:Int)]) hr;refine⟨Pr,L,_,x,_,.th (y.1:Nat),rfl,h3.same s4,hf.1,⟨r,rfl,bS.of ae⟩,λH' k l=>.inl ⟨_,rfl,BJ.log hn,q H' ((aj.kp Mz).trans (k3'.trans ((aj.kp s4).trans k))) l⟩⟩
    | tell x=>exact absurd c.symm Bool.false_ne_true
    | same x y=>exact absurd c2.symm Bool.false_ne_true
    | _=>cases hv
noncomputable def Wd.told (W:Wd) (d:De):Str:=(W.refuse d).getD (W.CJ d)
noncomputable def Wd.after (W:Wd) (d:De):Wd:=if (W.refuse d).isSome=true then W else W.step d
noncomputable def Lr (K:PySem.W.Frag):Sp:=λvs H Q _=>∃Pr L W t d,vs=[.ref L.st,.ref t]/\gn K Pr H L W/\W.ok/\bS K H t (De.items d)/\d.fits/\W.ts.length < 500/\∀H',Kp L.own H H'->gn K Pr H' L (W.after d)->Q (.str (W.told d)) H'
theorem YN:¬(("put":Str)="words"):=by decide +kernel
noncomputable def JDn (K:PySem.W.Frag) (Pr:Addr->Prop) (L:LA) (W:Wd) (d:De) (H:Hp) (σ':St) (H':Hp):Prop:=σ'.length=8/\Kp L.own H H'/\gn K Pr H' L (W.step d)
theorem Vj (T:Txt K mg a):aS P w K mg base cU 4 a.zY a.zZ ["_law_state","_law_deed"] (Lr K):=by
 refine T.ub.ok kz (λvs H Q E h=>?_) (λcf A outer s H vs Q E hr h=>?_)
 ·obtain⟨_,_,_,_,_,rfl,_⟩:=h;rfl
 ·obtain⟨Pr,L,W,t,d,rfl,h,ok,hd,hf,bX,q⟩:=h;refine⟨_,(ag (aN (i:=2) kz.nd rfl (Or.inl rfl) (aq ak (pv 1) ai (λ_ _=>rfl))) (ag (aN (i:=3) kz.nd rfl (Or.inl rfl) (aE (Ln T) (hr.mono (by decide)) rfl T.K5 T.qi.kp T.K4 .nil aC (aa (pv 0) (aa (pv 1) af)))) (ag (aQ (aD oJ (pv 3) cB (aH _)) (ah (aw (pv 3))) aG) (ag (aQ (aD dN (pv 2) (bE (aa aA (aa aA (aa aA af)))) (by with_unfolding_all rfl)) (ah (aw (aE (Vi T) (hr.mono (by decide)) rfl T.PU T.ua.kp T.PR .nil aC (aa (pv 0) (aa (pv 1) af))))) aG) av)))),?_⟩;dsimp! [];refine bF hd d.hd ⟨Pr,L,W,t,d,rfl,h,ok,hd,λH1 s1=>?_⟩
  cases e:W.refuse d with
  | some z=>
   refine aY (λ_=>?_) λc=>absurd rfl c
   have e1:W.told d=z:=by unfold Wd.told; rw [e]; rfl
   have e2:W.after d=W:=by unfold Wd.after; rw [e]; rfl
   rw [e1,e2] at q;exact q H1 (aj.kp s1) (h.same s1)
  | none=>
   refine aY (λc=>by cases c) λ_=>⟨by decide,λp hp=>?_⟩
   have e1:W.told d=W.CJ d:=by unfold Wd.told; rw [e]; rfl
   have e2:W.after d=W.step d:=by unfold Wd.after; rw [e]; rfl
   rw [e1,e2] at q;have s2:=s1.trans (aj.put (o:=.lst [V.str (Str.ofString "tell"),V.str (Str.ofString "same"),V.str (Str.ofString "hear")]) hp);refine Lm [11,12,13] ae rfl (by decide) (λc=>?_) λc=>?_
   ·have ha:d.Qd=true:=by
     cases d with
     | tell x=>rfl
     | same x y=>rfl
     | hear x=>rfl
     | _=>exact absurd c Bool.false_ne_true
    exact⟨Pr,L,W,t,d,rfl,h.same s2,ok,s2.cc hd,ha,hf,λH' k l=>q H' ((aj.kp s2).trans k) l⟩
   ·have l1:W.gq d=false:=by
     cases c:W.gq d with
     | false=>rfl
     | true=>
      unfold Wd.refuse at e;rw [if_pos c] at e;cases e
    have l2:W.dB d=false:=by
     cases c:W.dB d with
     | false=>rfl
     | true=>
      unfold Wd.refuse at e;rw [if_neg (by rw [l1]; simp),if_pos c] at e;cases e
    have bR:W.CJ d="ok":=by
     cases d with
     | tell x=>exact absurd c.symm Bool.false_ne_true
     | same x y=>exact absurd c.symm Bool.false_ne_true
     | hear x=>exact absurd c.symm Bool.false_ne_true
     | _=>rfl
    rw [bR] at q;have h2:=h.same s2;have hd2:=s2.cc hd;have q2:∀H',Kp L.own (upd H1 p _) H'->gn K Pr H' L (W.step d)->Q (.str "ok") H':=λH' k l=>q H' ((aj.kp s2).trans k) l
    generalize upd H1 p (.lst [V.str (Str.ofString "tell"),V.str (Str.ofString "same"),V.str (Str.ofString "hear")])=H2 at h2 hd2 q2 ⊢;refine aM.of (ag mH av) ?_;dsimp! [];refine Et (JDn K Pr L W d H2) (xr.of (aQ (aD dN (pv 2) (bE (aa aA (aa aA (aa aA af)))) (by with_unfolding_all rfl)) (ah (bx (aE (Vf T) (hr.mono (by decide)) rfl T.PM T.tY.kp T.PL .nil aC (aa (pv 0) (aa (pv 1) af))))) (ah (aQ (aD dN (pv 2) (bE (aa aA (aa aA af))) (by with_unfolding_all rfl)) (ag (aN (i:=4) kz.nd rfl (Or.inl rfl) (aq ak (aE (fo T) (hr.mono (by decide)) rfl T.gF T.fg.kp T.gE .nil aC (aa (pv 0) (aa (aq ak (pv 1) ai (λ_ _=>rfl)) af))) ai (λ_ _=>rfl))) (ag (mx (cH (bI hr) (aq ak (pv 0) ai (λ_ _=>rfl)) (pv 4) (λ_ _=>rfl)) (iA (n:=3) rfl (bL (aU (i:=5) kz.nd rfl (Or.inl rfl)) (bL (aU (i:=6) kz.nd rfl (Or.inl rfl)) (bL (aU (i:=7) kz.nd rfl (Or.inl rfl)) gr))))) (ah (aQ (aD bN (pv 2) aA (aH _)) (ah (dc (bI hr) (aq ak (pv 0) ai (λ_ _=>rfl)) (pv 4) (bp (aa (pv 5) (aa (pv 6) (aa (aq ak (pv 1) ai (λ_ _=>rfl)) af)))) rfl)) (ah (dc (bI hr) (aq ak (pv 0) ai (λ_ _=>rfl)) (pv 4) (bp (aa (pv 5) (aa (bz iF (bz iF (fR gK (pv 6) iD (gs (aq ak (pv 1) ai (λ_ _=>rfl)))) (bE (aa (aE (fo T) (hr.mono (by decide)) rfl T.gF T.fg.kp T.gE .nil aC (aa (pv 0) (aa (aq ak (pv 1) ai (λ_ _=>rfl)) af))) af))) (fR gK (pv 6) (gs (bz iB (aq ak (pv 1) ai (λ_ _=>rfl)) ai)) iD)) (aa (pv 7) af)))) rfl)))))) (ah (bx (aE (vq T) (hr.mono (by decide)) rfl T.AN T.lE.kp T.AM .nil aC (aa (pv 0) (aa (aq ak (pv 1) ai (λ_ _=>rfl)) (aa (aE (Vg T) (hr.mono (by decide)) rfl T.PQ T.t_.kp T.PN .nil aC (aa (pv 0) (aa (pv 1) af))) af))))))))) ?_) ?_
    ·dsimp! [];refine⟨by decide,λp3 Qf=>Lm [1,2,3] ae rfl (by decide) (λc2=>?_) λc2=>⟨by decide,λp4 BK=>?_⟩⟩
     ·have hn:d.isNew=true:=by
       cases d with
       | make x n=>rfl
       | weak x n=>rfl
       | pair x n z=>rfl
       | _=>exact absurd c2 Bool.false_ne_true
      obtain⟨tg,hm⟩:=De.isNew.made hn W;have s3:=aj.put (o:=.lst [V.str (Str.ofString "make"),V.str (Str.ofString "weak"),V.str (Str.ofString "pair")]) Qf;exact⟨Pr,L,W,t,d,tg,rfl,h2.same s3,s3.cc hd2,hm,hf,bX,λH' k l=>⟨rfl,(aj.kp s3).trans k,l⟩⟩
     have s3:=(aj.put (o:=.lst [V.str (Str.ofString "make"),V.str (Str.ofString "weak"),V.str (Str.ofString "pair")]) Qf).trans (aj.put (o:=.lst [V.str (Str.ofString "words"),V.str (Str.ofString "put")]) BK);have h3:=h2.same s3;have NC:=s3.cc hd2;refine Lm [4,5] ae rfl (by decide) (λc3=>?_) λc3=>?_
     ·generalize upd (upd H2 p3 (.lst [V.str (Str.ofString "make"),V.str (Str.ofString "weak"),V.str (Str.ofString "pair")])) p4 (.lst [V.str (Str.ofString "words"),V.str (Str.ofString "put")])=H3 at s3 h3 NC ⊢
      cases d with
      | words x n=>
       obtain⟨j,fs,w,g1,g2,g3,g4⟩:=ok.A0 (W.wanted l1 List.mem_cons_self);refine bF NC rfl ⟨Pr,L,W,x,rfl,h3,λu H4 s4 hu=>?_⟩;rw [g1] at hu;obtain⟨b,rfl,hb⟩:=hu;have h4:=h3.same s4;obtain⟨rows,qq,r1,r2,⟨r3,dD,r5,r6,r7⟩,r4,r8,r9⟩:=h4.at_ g2;refine bF hb rfl (bF h4.tu rfl ⟨L.d1,rfl,_,r4,qq.1,rfl,_,bS.of r3,rfl,_,_,rfl,_,_,rfl,_,_,rfl,rfl,?_⟩);refine aY (λ_=>bF (s4.cc NC) rfl ⟨by decide,λp5 Ff=>?_⟩) λz=>absurd (decide_eq_true rfl) z
       have s5:=aj.put (o:=.tup [.str (Tg.plain fs w).sort,.ref qq.2,.int n]) Ff;have e:W.step (.words x n)=⟨W.g,W.ts.set j (.plain fs (some n)),W.hs⟩:=by show W.nY n (W.tg x)=_; rw [g3]; rfl
       have A4:=h.bX.1;refine bF (h4.same s5).tu rfl ⟨L.d1,rfl,_,gS.k (k:=Sum.inl ((j:Int)+1)) (s5 _ _ r1) (aJ (by rw [d_]; omega)),rfl,(aj.kp (s3.trans (s4.trans s5))).set (.inr (.inl rfl)),?_⟩;rw [e];exact(h4.same s5).set (q':=(p5,qq.2)) (t':=.plain fs (some n)) (s5 _ _ r1) r2 ⟨ae,dD,s5 _ _ r5,r6.same s5,r7⟩ r9
      | put x i y=>
       obtain⟨j,fs,w,g1,g2,g3,g4⟩:=ok.A0 (W.wanted l1 List.mem_cons_self);have hi:i < fs.length:=by
        rw [<-g4];exact of_decide_eq_true (by simpa [Wd.dB,De.kE] using l2)
       refine bF NC rfl ⟨Pr,L,W,x,rfl,h3,λu H4 s4 hu=>?_⟩;rw [g1] at hu;obtain⟨b,rfl,hb⟩:=hu;have h4:=h3.same s4;obtain⟨rows,qq,r1,r2,⟨r3,dD,r5,r6,r7⟩,r4,r8,r9⟩:=h4.at_ g2;refine bF hb rfl (bF h4.tu rfl ⟨L.d1,rfl,_,r4,qq.1,rfl,_,bS.of r3,rfl,_,_,rfl,_,_,rfl,_,_,rfl,rfl,?_⟩);have Vk:=s4.cc NC;have hl:fs.length=dD.length:=r6.1;have c1:gR dD none (some (i:Int))=dD.take i:=by
        unfold gR;rw [HT.ji,HT.kY];simp
       have c2':gR dD (some ((i:Int)+1)) none=dD.drop (i+1):=by
        unfold gR;rw [HT.ji,show(i:Int)+1=((i+1:Nat):Int)by simp,HT.kY];rw [Nat.min_eq_left (by omega),List.take_of_length_le (by rw [List.length_drop]; omega)]
       refine aY (λz=>absurd (of_decide_eq_true z) YN) λ_=>bF Vk rfl ⟨_,rfl,qq.2,dD,rfl,bf.of r5,λl6 hl6=>?_⟩
       rw [c1];have s6:=aj.put (o:=.lst (dD.take i)) hl6;have e6:upd H4 l6 (.lst (dD.take i)) l6=some (.lst (dD.take i)):=ae;generalize upd H4 l6 (.lst (dD.take i))=H6 at s6 e6 ⊢;refine bF (s6.cc Vk) rfl ⟨Pr,L,W,y,rfl,h4.same s6,λu2 H7 s7 EN=>⟨by decide,λl8 hl8=>?_⟩⟩;have s8:=aj.put (o:=.lst [u2]) hl8;refine⟨l6,l8,_,_,rfl,rfl,bf.of (s8 _ _ (s7 _ _ e6)),bf.of ae,by rw [List.length_take,List.length_singleton]; exact Nat.le_of_lt (aJ (by omega)),λl9 hl9=>?_⟩;have s9:=aj.put (o:=.lst (dD.take i++[u2])) hl9;have e9:upd (upd H7 l8 (.lst [u2])) l9 (.lst (dD.take i++[u2])) l9=some (.lst (dD.take i++[u2])):=ae;have s79:=s7.trans (s8.trans s9);have hu9:=EN.same (s8.trans s9);generalize upd (upd H7 l8 (.lst [u2])) l9 (.lst (dD.take i++[u2]))=H9 at s79 e9 hu9 ⊢;have s69:=s6.trans s79;refine bF (s69.cc Vk) rfl ⟨_,rfl,qq.2,dD,rfl,bf.of (s69 _ _ r5),λl10 abt=>?_⟩;rw [c2'];have M4:=aj.put (o:=.lst (dD.drop (i+1))) abt;refine⟨l9,l10,_,_,rfl,rfl,bf.of (M4 _ _ e9),bf.of ae,by rw [List.length_append,List.length_take,List.length_singleton,List.length_drop]; exact Nat.le_of_lt (aJ (by omega)),λWt YO=>⟨by decide,λQg Gs=>?_⟩⟩;have ex:dD.take i++[u2]++dD.drop (i+1)=dD.set i u2:=by
        rw [List.set_eq_take_append_cons_drop,if_pos (by omega),List.append_assoc];rfl
       rw [ex] at Gs ⊢;have ND:=aj.put (o:=.lst (dD.set i u2)) YO;have Mz:=aj.put (o:=.tup [.str (Tg.plain fs w).sort,.ref Wt,wV (Tg.plain fs w).words]) Gs;have Wu:=s69.trans (M4.trans (ND.trans Mz));have mP:=((r6.same Wu).set (i:=i) (hu9.same (M4.trans (ND.trans Mz))))
       have el:upd (upd (upd H9 l10 (.lst (dD.drop (i+1)))) Wt (.lst (dD.set i u2))) Qg (.tup [.str (Tg.plain fs w).sort,.ref Wt,wV (Tg.plain fs w).words]) Wt=some (.lst (dD.set i u2)):=Mz _ _ ae;have fr:H4 Wt=none:=(s69.trans M4).free YO;have e:W.step (.put x i y)=⟨W.g,W.ts.set j (.plain (fs.set i (W.g y)) w),W.hs⟩:=by show W.n_ i (W.g y) (W.tg x)=_; rw [g3]; rfl
       have A4:=h.bX.1;refine bF (h4.same Wu).tu rfl ⟨L.d1,rfl,_,gS.k (k:=Sum.inl ((j:Int)+1)) (Wu _ _ r1) (aJ (by rw [d_]; omega)),rfl,(aj.kp (s3.trans (s4.trans Wu))).set (.inr (.inl rfl)),?_⟩;rw [e];exact(h4.same Wu).set (q':=(Qg,Wt)) (t':=.plain (fs.set i (W.g y)) w) (Wu _ _ r1) r2 ⟨ae,_,el,mP,by rw [List.length_set]; exact r7⟩ (h4.fresh fr)
      | _=>exact absurd c3 Bool.false_ne_true
     ·have hb:∃v,W.bring d=some v/\W.step d=W.dP d.root v:=by
       cases d with
       | make x n=>exact absurd c2.symm Bool.false_ne_true
       | weak x n=>exact absurd c2.symm Bool.false_ne_true
       | pair x n z=>exact absurd c2.symm Bool.false_ne_true
       | words x n=>exact absurd c3.symm Bool.false_ne_true
       | put x n z=>exact absurd c3.symm Bool.false_ne_true
       | tell x=>exact absurd c.symm Bool.false_ne_true
       | same x y=>exact absurd c.symm Bool.false_ne_true
       | hear x=>exact absurd c.symm Bool.false_ne_true
       | _=>exact⟨_,rfl,rfl⟩
      obtain⟨v,YQ,oO⟩:=hb;refine bF NC d.at1 ⟨Pr,L,W,t,d,v,rfl,h3,ok,NC,YQ,l1,l2,λu H4 s4 hu=>⟨Pr,L,W,d.root,u,v,rfl,h3.same s4,hf.1,hu,λH' k l=>⟨rfl,(aj.kp (s3.trans s4)).trans k,?_⟩⟩⟩;rw [oO];exact l
    ·rintro σ' H3 ⟨hs,k3,l3⟩;refine aM.of (ah (aw aA)) ?_;dsimp! [];exact q2 H3 k3 l3
inductive Sm:D->Prop where
 | bM:Sm .bM
 | bl (b:Bool):Sm (.bl b)
 | int (i:Int):Sm (.int i)
 | str (x:Str):Sm (.str x)
 | lst {ds:List D}(h:ds.length<=1000) (hs:∀d∈ds,Sm d):Sm (.lst ds)
 | tup {ds:List D}(h:ds.length<=1000) (hs:∀d∈ds,Sm d):Sm (.tup ds)
noncomputable def qD (K:PySem.W.Frag):Nat->Sp
 | 0=>λ_ _ _ _=>False
 | n+1=>λvs H Q _=>∃x y,vs=[x,y]/\((∃d:D,fC K H x d/\fC K H y d/\d.dep<=n/\Sm d)\/False)/\n<=20/\Q (.bl true) H
theorem Fg:∀{ds:List D}{i:Nat}{d:D},ds[i]?=some d->d.dep<=fB ds
 | [],i,d,h=>by simp at h
 | e::ds,0,d,h=>by
  cases h;rw [fB];omega
 | e::ds,i+1,d,h=>by
  have:=Fg (ds:=ds) (i:=i) (d:=d) (by simpa using h);rw [fB];omega
theorem A5 (T:Txt K mg a):∀n,aS P w K mg base cU n a.pM a.tF ["_law_found","_law_due"] (qD K n)
 | 0=>aS.no
 | n+1=>by
  have ih:=A5 T n;refine T.kl.ok Ct (λvs H Q E h=>?_) (λcf A outer s H vs Q E hr h=>?_)
  ·obtain⟨_,_,rfl,_⟩:=h;rfl
  ·obtain⟨x,y,rfl,⟨d,hx,hy,hd,hsm⟩ | hdc,hn,q⟩:=h
   rotate_left
   ·exact hdc.elim
   refine⟨_,(ag (aQ (PW.pt (gJ (cQ (aI bo rfl T.aV a_ (aa (pv 1) (aa (c_ (v:=.ty "bool") rfl T.mO uL rfl) af)))) (gJ (aD mz (pv 1) cB (aH _)) (gh (cQ (aI bo rfl T.aV a_ (aa (pv 1) (aa (c_ (v:=.ty "str") rfl T.kn kr rfl) af)))))))) (ah (aw (iz (da (iI hr.units) (pv 0) (pv 1) (aH _)) (mw (da bN (aI bo rfl T.aV a_ (aa (pv 0) (aa (c_ (v:=.ty "str") rfl T.kn kr rfl) af))) (aI bo rfl T.aV a_ (aa (pv 1) (aa (c_ (v:=.ty "str") rfl T.kn kr rfl) af))) (aH _)))))) aG) (ag (aQ (cQ (aI bo rfl T.aV a_ (aa (pv 1) (aa (c_ (v:=.ty "int") rfl T.qx uK rfl) af)))) (ah (aw (iz (aI bo rfl T.aV a_ (aa (pv 0) (aa (c_ (v:=.ty "int") rfl T.qx uK rfl) af))) (iz (BP (aI bo rfl T.aV a_ (aa (pv 0) (aa (c_ (v:=.ty "bool") rfl T.mO uL rfl) af)))) (mw (da (iI hr.units) (pv 0) (pv 1) (aH _))))))) aG) (ag (aQ (PW.pt (gJ (aD jg (aI bo rfl T.aV a_ (aa (pv 1) (aa (c_ (v:=.ty "tuple") rfl T.jN oY rfl) af))) (aI bo rfl T.aV a_ (aa (pv 0) (aa (c_ (v:=.ty "tuple") rfl T.jN oY rfl) af))) (aH _)) (gh (aD jg (aI bo rfl T.aV a_ (aa (pv 1) (aa (c_ (v:=.ty "list") rfl T.fH fM rfl) af))) (aI bo rfl T.aV a_ (aa (pv 0) (aa (c_ (v:=.ty "list") rfl T.fH fM rfl) af))) (aH _))))) (ah (aw dk)) aG) (ag (aQ (cQ (aI bo rfl T.aV a_ (aa (pv 1) (aa (c_ (v:=.ty "dict") rfl T.js k_ rfl) af)))) (ag (aQ (PW.pt (gJ (eV (cQ (aI bo rfl T.aV a_ (aa (pv 0) (aa (c_ (v:=.ty "dict") rfl T.js k_ rfl) af))))) (gh (aD jg (aI gB rfl T.fk dS (aa (pv 0) af)) (aI gB rfl T.fk dS (aa (pv 1) af)) (aH _))))) (ah (aw dk)) aG) (ag (Ey (cS PassesOwn.never rfl (Ex (pv 1)) (aU (i:=2) Ct.nd rfl (Or.inl rfl)) av)) av)) aG) av)))),?_⟩;have tx:S3 K H x (.type (SR d)):=.s hx.ty;have ty:S3 K H y (.type (SR d)):=.s hy.ty;dsimp! [];have k1:=FK K d "bool" (.inl rfl);have k2:=FK K d "str" (.inr (.inl rfl));have k3:=FK K d "int" (.inr (.inr (.inl rfl)));have k4:=FK K d "tuple" (.inr (.inr (.inr (.inl rfl))));have k5:=FK K d "list" (.inr (.inr (.inr (.inr (.inl rfl)))));have k6:=FK K d "dict" (.inr (.inr (.inr (.inr (.inr rfl)))));have eqs:M6 K false x y H λx_3 H1=>∃c,x_3=V.bl c/\if c=true then ∃x_4,S3 K H1 x x_4/\∃x,PySem.W.kitOne K x_4 (Value.type "str")=some x/\∃YI,S3 K H1 y YI/\∃x_6,PySem.W.kitOne K YI (Value.type "str")=some x_6/\Q (V.bl (decide (x=x_6))) H1 else Q (V.bl false) H1:=by
    refine⟨d,d,hx,hy,by omega,?_⟩;rw [if_neg Bool.false_ne_true,dm];refine⟨true,rfl,hW ⟨_,tx,_,k2,_,ty,_,k2,?_⟩⟩;rw [decide_eq_true rfl];exact q
   have nn:∀t,SR d=t->t≠"NoneType"->y≠V.bM:=λt e h z=>by
    subst z;cases hy;exact h e.symm
   refine⟨_,ty,_,k1,?_⟩;have rest:∀(ax ay:Addr) (xs ys:List V) (ds:List D),x=.ref ax->y=.ref ay->(bf K H ax xs\/bS K H ax xs)->(bf K H ay ys\/bS K H ay ys)->xs.length=ds.length->ys.length=ds.length->(∀(i:Nat) x d,xs[i]?=some x->ds[i]?=some d->fC K H x d)->(∀(i:Nat) x d,ys[i]?=some x->ds[i]?=some d->fC K H x d)->fB ds+1<=n->ds.length<=1000->(∀d∈ds,Sm d)->aM (xc cU P w K mg base ["_law_found","_law_due","_law_key","_law_k"] "_law_alike" (ao xH) a.pM cf A outer s H E).WJ ((dO xH).drop 4) {nx:=λ_ H'=>Q V.bM H',rt:=Q} [some x,some y,none,none] H:=by
    intro ax ay xs ys ds ex ey Qh hys l1 l2 i1 i2 hdp hsz hsm;subst ex ey;refine aM.of (ag (aQ (aD jg (aI cz rfl T.fk dS (aa (pv 0) af)) (aI cz rfl T.fk dS (aa (pv 1) af)) (aH _)) (ah (aw dk)) aG) (ag (cS PassesOwn.never rfl (my rfl T.jM (aa (aI cz rfl T.fk dS (aa (pv 1) af)) af)) (aU (i:=3) Ct.nd rfl (Or.inl rfl)) av) av)) ?_;dsimp! [];refine⟨xs,Qh,ys,hys,?_⟩;rw [decide_eq_true (show((xs.length:Nat):Int)=(ys.length:Nat)by rw [l1,l2])];refine cV ⟨ys,hys,by omega,by omega,xq (λi σ H'=>H'=H/\∃o3:Option V,σ=[some (.ref ax),some (.ref ay),none,o3]) ⟨rfl,none,rfl⟩ ?_ ?_⟩
    ·rintro i σ H' hi ⟨rfl,o3,rfl⟩;have tm:i < ds.length:=by omega
     have gx:xs[i]?=some xs[i]:=List.getElem?_eq_getElem (by omega);have gy:ys[i]?=some ys[i]:=List.getElem?_eq_getElem (by omega);have gd:ds[i]?=some ds[i]:=List.getElem?_eq_getElem tm;have hdi:=Fg gd;refine gN ?_;refine aM.of (ah (aQ (eV (cQ (aE ih (hr.mono (Nat.le_refl _)) rfl T.ud T.kl.kp T.uc .nil aC (aa (aq jq (pv 0) (pv 3) (λ_ _=>rfl)) (aa (aq jq (pv 1) (pv 3) (λ_ _=>rfl)) af))))) (ah (aw dk)) aG)) ?_;dsimp! [Int.zero_add];obtain⟨n',rfl⟩:∃n',n=n'+1:=⟨n - 1,by omega⟩
     have fin:qD K (n'+1) [xs[i],ys[i]] H' (λx H1=>∃c,x=V.bl c/\if (!c)=true then Q (V.bl false) H1 else H1=H'/\∃o3,some (V.int (i:Int))=o3) E0:=⟨_,_,rfl,.inl ⟨ds[i],i1 i _ _ gx gd,i2 i _ _ gy gd,by omega,hsm _ (List.getElem_mem tm)⟩,by omega,true,rfl,cV ⟨rfl,_,rfl⟩⟩
     have ix:∀(ad:Addr) (zs:List V) (z:V) (R:VK),(bf K H' ad zs\/bS K H' ad zs)->zs[i]?=some z->R z H'->SQ K (.ref ad) (.int (i:Int)) H' R:=λad zs z R hz gz r=>by
      rcases hz with hz | hz
      ·exact .inl ⟨ad,zs,_,z,rfl,rfl,hz,cG gz,r⟩
      ·exact .inr ⟨ad,zs,_,z,rfl,rfl,hz,cG gz,r⟩
     exact ix _ _ _ _ Qh gx (ix _ _ _ _ hys gy fin)
    ·rintro σ H' ⟨rfl,o3,rfl⟩;refine aM.of (ah (aw dk)) ?_;dsimp! [];exact q
   cases d with
   | bl b=>exact hW eqs
   | bM=>
    cases hy;exact cV (hW eqs)
   | str z=>
    rw [decide_eq_false (nn "str" rfl (by decide))];exact cV (cV ⟨_,ty,_,k2,hW eqs⟩)
   | int z=>
    rw [decide_eq_false (nn "int" rfl (by decide))];refine cV (cV ⟨_,ty,_,k2,cV ⟨_,ty,_,k3,hW ⟨_,tx,_,k3,hW ⟨_,tx,_,k1,hW ⟨_,_,hx,hy,by omega,?_⟩⟩⟩⟩⟩);rw [if_neg Bool.false_ne_true,dm];exact q
   | lst ds=>
    rw [decide_eq_false (nn "list" rfl (by decide))];refine cV (cV ⟨_,ty,_,k2,cV ⟨_,ty,_,k3,cV ⟨_,ty,_,k4,_,tx,_,k4,?_⟩⟩⟩);rw [decide_eq_true rfl];refine cV ⟨_,ty,_,k5,_,tx,_,k5,?_⟩;rw [decide_eq_true rfl];refine cV ⟨_,ty,_,k6,cV ?_⟩;rw [D.dep] at hd
    cases hsm with
    | lst CN jR=>
    cases hx with
    | lst h1 l1 i1=>
     cases hy with
     | lst h2 l2 i2=>exact rest _ _ _ _ ds rfl rfl (.inl h1) (.inl h2) l1 l2 i1 i2 hd CN jR
   | tup ds=>
    rw [decide_eq_false (nn "tuple" rfl (by decide))];refine cV (cV ⟨_,ty,_,k2,cV ⟨_,ty,_,k3,cV ⟨_,ty,_,k4,_,tx,_,k4,?_⟩⟩⟩);rw [decide_eq_true rfl];refine cV ⟨_,ty,_,k5,_,tx,_,k5,?_⟩;rw [decide_eq_true rfl];refine cV ⟨_,ty,_,k6,cV ?_⟩;rw [D.dep] at hd
    cases hsm with
    | tup CN jR=>
    cases hx with
    | tup h1 l1 i1=>
     cases hy with
     | tup h2 l2 i2=>exact rest _ _ _ _ ds rfl rfl (.inr h1) (.inr h2) l1 l2 i1 i2 hd CN jR
noncomputable def Ls (K:PySem.W.Frag):Sp:=qD K 6
theorem vt (T:Txt K mg a):aS P w K mg base cU 6 a.pM a.tF ["_law_found","_law_due"] (Ls K):=A5 T 6
theorem Gu (ns:List Int):∀x∈ns.map V.int,gL x=true:=λx hx=>by
 obtain⟨z,_,rfl⟩:=List.mem_map.mp hx;rfl
noncomputable def aF (l:List Nat):List V:=(l.map λ(p:Nat)=>(p:Int)).map V.int
theorem bj (l:List Nat):(aF l).length=l.length:=by
 unfold aF;rw [List.length_map,List.length_map]
theorem qE {k:Nat}{l:List Nat}:MO (V.int (k:Int)) (aF l)=decide (k∈l):=by
 rw [Bool.eq_iff_iff,decide_eq_true_iff];unfold MO aF;rw [List.any_eq_true];constructor
 ·rintro⟨x,hx,e⟩;obtain⟨y,hy,rfl⟩:=List.mem_map.mp hx;obtain⟨z,hz,rfl⟩:=List.mem_map.mp hy;have:(z:Int)=(k:Int):=by simpa [En] using e
  have e2:z=k:=by omega
  rw [<-e2];exact hz
 ·intro h;exact⟨_,List.mem_map.mpr ⟨_,List.mem_map.mpr ⟨k,h,rfl⟩,rfl⟩,by simp [En]⟩
theorem iR (l:List Nat):(aF l).all gL=true:=by
 rw [List.all_eq_true];exact λx hx=>Gu _ x hx
noncomputable def jO:Vl->Option Nat
 | .th n=>some n.toNat
 | _=>none
theorem lW {m:Nat}:∀{vl:List Vl},(∀v∈vl,v.ok m)->vl.filterMap Vl.nm=aF (vl.filterMap jO)
 | [],_=>rfl
 | v::vl,h=>by
  have ih:=lW λu hu=>h u (List.mem_cons_of_mem _ hu)
  cases v with
  | no=>exact ih
  | num z=>exact ih
  | th z=>
   obtain⟨i,e,_⟩:=h _ List.mem_cons_self;show V.int z::vl.filterMap Vl.nm=V.int ((z.toNat:Nat):Int)::aF (vl.filterMap jO);rw [ih,Int.toNat_of_nonneg (by omega)]
noncomputable def gb:Tg->List Nat
 | .plain fs _=>fs.filterMap jO
 | _=>[]
noncomputable def fJ:Tg->Option Nat
 | .pair k _=>jO k
 | _=>none
noncomputable def valN:Tg->List Nat
 | .pair _ v=>[v].filterMap jO
 | _=>[]
noncomputable def sd (ts:List Tg):Prop:=∀t∈ts,∀v∈t.fs,v.ok ts.length
theorem qF {m:Nat}{vl:List Vl}(h:∀v∈vl,v.ok m) {j:Nat}(hj:j∈vl.filterMap jO):1<=j/\j<=m:=by
 obtain⟨v,hv,e⟩:=List.mem_filterMap.mp hj
 cases v with
 | no=>cases e
 | num z=>cases e
 | th z=>
  cases e;obtain⟨i,e,_⟩:=h _ hv;omega
noncomputable def kF (ts:List Tg) (k:Nat) (t:Tg):Prop:=∃i,k=i+1/\ts[i]?=some t
theorem kF.mem {ts:List Tg}{k:Nat}{t:Tg}(h:kF ts k t):t∈ts:=by
 obtain⟨i,_,e⟩:=h;exact List.mem_of_getElem? e
theorem kF.one {ts:List Tg}{k:Nat}{t u:Tg}(h:kF ts k t) (h2:kF ts k u):t=u:=by
 obtain⟨i,rfl,e⟩:=h;obtain⟨j,e2,e3⟩:=h2;have:i=j:=by omega
 subst this;rw [e] at e3;exact Option.some.inj e3
theorem kF.of {ts:List Tg}{k:Nat}(h:1<=k/\k<=ts.length):∃t,kF ts k t:=⟨ts[k - 1]'(by omega),k - 1,by omega,List.getElem?_eq_getElem _⟩
theorem sd.held {ts:List Tg}(h:sd ts) {t:Tg}(ht:t∈ts) {j:Nat}(hj:j∈gb t):1<=j/\j<=ts.length:=by
 cases t with
 | plain fs w=>exact qF (h _ ht) hj
 | weak f=>cases hj
 | pair k v=>cases hj
theorem sd.val {ts:List Tg}(h:sd ts) {t:Tg}(ht:t∈ts) {j:Nat}(hj:j∈valN t):1<=j/\j<=ts.length:=by
 cases t with
 | plain fs w=>cases hj
 | weak f=>cases hj
 | pair k v=>exact qF (vl:=[v]) (λu hu=>h _ ht u (List.mem_cons_of_mem _ hu)) hj
structure NF (ts:List Tg) (S:Nat->Prop):Prop where
 held:∀k t,kF ts k t->S k->∀j∈gb t,S j
 pair:∀k t m,kF ts k t->S k->fJ t=some m->S m->∀j∈valN t,S j
noncomputable def rO (ts:List Tg) (S0:List Nat) (x:Nat):Prop:=∀S:Nat->Prop,NF ts S->(∀k∈S0,S k)->S x
theorem rO.clo (ts:List Tg) (S0:List Nat):NF ts (rO ts S0):=⟨λk t h hk j hj S c h0=>c.held k t h (hk S c h0) j hj,λk t m h hk hm hs j hj S c h0=>c.pair k t m h (hk S c h0) hm (hs S c h0) j hj⟩
theorem rO.Qi {ts:List Tg}{S0:List Nat}{x:Nat}(h:x∈S0):rO ts S0 x:=λ_ _ h0=>h0 x h
theorem rO.le {ts:List Tg}{S0:List Nat}(ok:sd ts) (h0:∀k∈S0,1<=k/\k<=ts.length) {x:Nat}(h:rO ts S0 x):1<=x/\x<=ts.length:=
 h (λx=>1<=x/\x<=ts.length) ⟨λk t h _ j hj=>ok.held h.mem hj,λk t m h _ _ _ j hj=>ok.val h.mem hj⟩ h0
noncomputable def dC (n:Nat):List Nat:=(List.range n).map (·+1)
theorem dJ {n x:Nat}:x∈dC n↔1<=x/\x<=n:=by
 unfold dC;rw [List.mem_map];constructor
 ·rintro⟨i,hi,rfl⟩;have:=List.mem_range.mp hi;omega
 ·rintro⟨h1,h2⟩;exact⟨x - 1,List.mem_range.mpr (by omega),by omega⟩
theorem lX (n:Nat):(dC n).Pairwise (· < ·):=List.pairwise_map.mpr (List.pairwise_lt_range.imp λh=>by omega)
open Classical in
noncomputable def cls (ts:List Tg) (S0:List Nat):List Nat:=(dC ts.length).filter λx=>decide (rO ts S0 x)
theorem mQ (ts:List Tg) (S0:List Nat):(cls ts S0).Pairwise (· < ·):=(lX _).filter _
theorem iS {ts:List Tg}{S0:List Nat}(ok:sd ts) (h0:∀k∈S0,1<=k/\k<=ts.length) {x:Nat}:x∈cls ts S0↔rO ts S0 x:=by
 unfold cls;rw [List.mem_filter,@decide_eq_true_iff _ (Classical.propDecidable _),dJ];exact⟨λh=>h.2,λh=>⟨h.le ok h0,h⟩⟩
theorem Lu {ts:List Tg}{S0:List Nat}{x:Nat}(h:x∈cls ts S0):1<=x/\x<=ts.length:=dJ.mp (List.mem_filter.mp h).1
theorem NG (ts:List Tg) (S0:List Nat):(cls ts S0).length<=ts.length:=by
 have:=List.length_filter_le (λx=>@decide _ (Classical.propDecidable (rO ts S0 x))) (dC ts.length);unfold dC at this;rw [List.length_map,List.length_range] at this;exact this
theorem oP:∀{l m:List Int},l.Pairwise (· < ·)->m.Pairwise (· < ·)->(∀x,x∈l↔x∈m)->l=m
 | [],[],_,_,_=>rfl
 | [],y::m,_,_,h=>absurd ((h y).mpr List.mem_cons_self) List.not_mem_nil
 | x::l,[],_,_,h=>absurd ((h x).mp List.mem_cons_self) List.not_mem_nil
 | x::l,y::m,hl,hm,h=>by
  obtain⟨l1,l2⟩:=List.pairwise_cons.mp hl;obtain⟨m1,m2⟩:=List.pairwise_cons.mp hm;have e:x=y:=by
   rcases List.mem_cons.mp ((h x).mp List.mem_cons_self)with e | e
   ·exact e
   ·rcases List.mem_cons.mp ((h y).mpr List.mem_cons_self)with e2 | e2
    ·exact e2.symm
    ·have h1:=m1 x e;have h2:=l1 y e2;omega
  subst e;rw [oP l2 m2 λz=>⟨λhz=>?_,λhz=>?_⟩]
  ·rcases List.mem_cons.mp ((h z).mp (List.mem_cons_of_mem _ hz))with e | e
   ·have:=l1 z hz;omega
   ·exact e
  ·rcases List.mem_cons.mp ((h z).mpr (List.mem_cons_of_mem _ hz))with e | e
   ·have:=m1 z hz;omega
   ·exact e
theorem qG:∀{l:List Int},l.Pairwise (·<=·)->l.Nodup->l.Pairwise (· < ·)
 | [],_,_=>.nil
 | x::l,h,n=>by
  obtain⟨h1,h2⟩:=List.pairwise_cons.mp h;obtain⟨n1,n2⟩:=List.nodup_cons.mp n;refine List.pairwise_cons.mpr ⟨λy hy=>?_,qG h2 n2⟩;have:=h1 y hy;have:x≠y:=λe=>n1 (e▸hy)
  omega
theorem lY {L:List Nat}(h:L.Pairwise (· < ·)):(L.map λ(p:Nat)=>(p:Int)).Pairwise (· < ·):=List.pairwise_map.mpr (h.imp λh=>by omega)
theorem fK {L:List Nat}{x:Int}:(x∈L.map λ(p:Nat)=>(p:Int))↔∃k∈L,(k:Int)=x:=List.mem_map
theorem kG {ns:List Int}{U:List Nat}(hp:ns.Perm (U.map λ(p:Nat)=>(p:Int))) (hs:ns.Pairwise (·<=·)) (nd:U.Nodup) {L:List Nat}(hL:L.Pairwise (· < ·)) (hm:∀x,x∈U↔x∈L):ns=L.map λ(p:Nat)=>(p:Int):=by
 have n1:ns.Nodup:=hp.nodup_iff.mpr (List.pairwise_map.mpr (nd.imp λh e=>h (by omega)));refine oP (qG hs n1) (lY hL) λx=>?_
 rw [hp.mem_iff,fK,fK];exact⟨λ⟨k,h,e⟩=>⟨k,(hm k).mp h,e⟩,λ⟨k,h,e⟩=>⟨k,(hm k).mpr h,e⟩⟩
theorem Gv {L M:List Nat}(h:(L.map λ(p:Nat)=>(p:Int))=M.map λ(p:Nat)=>(p:Int)):L=M:=by
 have:=congrArg (List.map Int.toNat) h;have e:(Int.toNat ∘ λ(p:Nat)=>(p:Int))=id:=funext λp=>Int.toNat_natCast p
 rw [List.map_map,List.map_map,e,List.map_id,List.map_id] at this;exact this
theorem Lv {ts:List Tg}{S0:List Nat}(ok:sd ts) (h0:∀k∈S0,1<=k/\k<=ts.length) (hs:S0.Pairwise (· < ·)):cls ts S0=S0↔NF ts (·∈S0):=by
 constructor
 ·intro e;have c:=rO.clo ts S0;have m:∀x,rO ts S0 x↔x∈S0:=λx=>by rw [<-iS ok h0,e]
  exact⟨λk t h hk j hj=>(m j).mp (c.held k t h ((m k).mpr hk) j hj),λk t n h hk hn hm j hj=>(m j).mp (c.pair k t n h ((m k).mpr hk) hn ((m n).mpr hm) j hj)⟩
 ·intro c;refine Gv (oP (lY (mQ _ _)) (lY hs) λx=>?_);rw [fK,fK];constructor
  ·rintro⟨k,hk,e⟩;exact⟨k,(iS ok h0).mp hk _ c λ_ z=>z,e⟩
  ·rintro⟨k,hk,e⟩;exact⟨k,(iS ok h0).mpr (.Qi hk),e⟩
noncomputable def se (K:PySem.W.Frag) (H:Hp) (d:Addr) (ts:List Tg):Prop:=∃rows:List (Addr×Addr),H d=some (.dK (f_ rows))/\rows.length=ts.length/\∀(i:Nat) q t,rows[i]?=some q->ts[i]?=some t->gH K H q.1 q.2 t
theorem se.same {H H':Hp}{d:Addr}{ts:List Tg}(h:se K H d ts) (k:aj H H'):se K H' d ts:=by
 obtain⟨rows,h1,h2,h3⟩:=h;exact⟨rows,k _ _ h1,h2,λi q t a b=>(h3 i q t a b).same k⟩
theorem se.get {H:Hp}{d:Addr}{ts:List Tg}(h:se K H d ts) {k:Nat}{t:Tg}(hk:kF ts k t):∃p l,gH K H p l t/\fb H d (.int (k:Nat)) (some (.ref p)):=by
 obtain⟨rows,h1,h2,h3⟩:=h;obtain⟨i,rfl,e⟩:=hk;have hi:rows[i]?=some (rows[i]'(by have:=(List.getElem?_eq_some_iff.mp e).1; omega)):=List.getElem?_eq_getElem _;refine⟨_,_,h3 i _ t hi e,?_⟩;have:=iO hi;rw [<-this];exact fb.k (k:=Sum.inl ((i:Int)+1)) h1
theorem se.xw {H H':Hp}{d:Addr}{ts:List Tg}(h:se K H d ts) (s:aj H H') {k:Nat}{t:Tg}(hk:kF ts k t):∃p l,gH K H p l t/\fb H' d (.int (k:Nat)) (some (.ref p)):=by
 obtain⟨rows,h1,h2,h3⟩:=h;obtain⟨i,rfl,e⟩:=hk;have hi:rows[i]?=some (rows[i]'(by have:=(List.getElem?_eq_some_iff.mp e).1; omega)):=List.getElem?_eq_getElem _;refine⟨_,_,h3 i _ t hi e,?_⟩;have:=iO hi;rw [<-this];exact fb.k (k:=Sum.inl ((i:Int)+1)) (s _ _ h1)
noncomputable def dQ (S:List Nat):List (Key×V):=S.map λ(k:Nat)=>((Sum.inl (k:Int):Key),V.bl true)
theorem dZ (S:List Nat):(dQ S).length=S.length:=by
 unfold dQ;rw [List.length_map]
theorem A6 (S:List Nat):(dQ S).map (·.1)=S.map λ(k:Nat)=>(Sum.inl (k:Int):Key):=by
 unfold dQ;rw [List.map_map];rfl
theorem NH {S:List Nat}(h:S.Nodup):((dQ S).map (·.1)).Nodup:=by
 rw [A6];exact List.pairwise_map.mpr (h.imp λh e=>h (by have:_=_:=Sum.inl.inj e; omega))
theorem lZ {S:List Nat}{k:Nat}:bD (dQ S) (Sum.inl (k:Int))=if k∈S then some (.bl true)else none:=by
 cases e:bD (dQ S) (Sum.inl (k:Int))with
 | none=>
  rw [if_neg];intro hk;refine jo e ?_;rw [A6];exact List.mem_map.mpr ⟨k,hk,rfl⟩
 | some u=>
  have h1:=jy e;unfold dQ at h1;obtain⟨j,hj,ej⟩:=List.mem_map.mp h1;have e1:(j:Int)=(k:Int):=Sum.inl.inj (congrArg Prod.fst ej);have e2:V.bl true=u:=congrArg Prod.snd ej;have e3:j=k:=by omega
  rw [e3] at hj;rw [if_pos hj,e2]
noncomputable def i_ (H:Hp) (d:Addr) (S:List Nat):Prop:=H d=some (.dK (dQ S))
theorem i_.ask {H:Hp}{d:Addr}{S:List Nat}(h:i_ H d S) (k:Nat):fb H d (.int (k:Nat)) (if k∈S then some (.bl true)else none):=by
 rw [<-lZ];exact fb.k (k:=Sum.inl (k:Int)) h
theorem l_ {p:Prop} [Decidable p] {v:V}:(if p then some v else none).isSome=decide p:=by
 by_cases z:p
 ·rw [if_pos z,decide_eq_true z]; rfl
 ·rw [if_neg z,decide_eq_false z]; rfl
noncomputable def oN:Option Nat->V
 | some k=>.int (k:Nat)
 | none=>.bM
noncomputable def inS (o:Option Nat) (S:List Nat):Bool:=match o with
 | some k=>decide (k∈S)
 | none=>false
theorem i_.YR {H:Hp}{d:Addr}{S:List Nat}(h:i_ H d S) (o:Option Nat):XF H d (oN o) (inS o S):=by
 cases o with
 | none=>exact .inr ⟨rfl,rfl,_,.inl h⟩
 | some k=>exact .inl ⟨_,h.ask k,by rw [l_]; rfl⟩
theorem du {S:List Nat}{i:Nat}{x:V}(h:(aF S)[i]?=some x):∃k,S[i]?=some k/\x=.int (k:Nat):=by
 unfold aF at h;rw [List.getElem?_map,List.getElem?_map] at h
 cases e:S[i]? with
 | none=>rw [e] at h; cases h
 | some k=>rw [e] at h; cases h; exact⟨k,rfl,rfl⟩
theorem oQ:∀{ys:List V},(∀(i:Nat) y,ys[i]?=some y->∃t,y=.ref t)->∃xs:List Addr,ys=xs.map V.ref/\True
 | [],_=>⟨[],rfl,trivial⟩
 | y::ys,h=>by
  obtain⟨t,rfl⟩:=h 0 y rfl;obtain⟨xs,rfl,_⟩:=oQ (ys:=ys) λi z e=>h (i+1) z (by simpa using e)
  exact⟨t::xs,rfl,trivial⟩
theorem Qj:¬(("weak":Str)="plain"):=by decide +kernel
theorem Qk:¬(("pair":Str)="plain"):=by decide +kernel
theorem YS:¬(("plain":Str)="pair"):=by decide +kernel
theorem Ql:¬(("weak":Str)="pair"):=by decide +kernel
theorem Fh {p:Prop} [Decidable p] (h:¬p):(!decide p)=true:=by rw [decide_eq_false h]; rfl
noncomputable def Vm (K:PySem.W.Frag):Sp:=λvs H Q _=>∃(l:Addr) (S:List Nat),vs=[.ref l]/\bf K H l (aF S)/\S.Nodup/\S.length<=500/\∀r H',aj H H'->H r=none->i_ H' r S->Q (.ref r) H'
theorem CO (T:Txt K mg a):aS P w K mg base cU 2 a.ye a.yf ["some"] (Vm K):=by
 refine T.nT.ok Tz (λvs H Q E h=>?_) (λcf A outer s H vs Q E hr h=>?_)
 ·obtain⟨_,_,rfl,_⟩:=h;rfl
 ·obtain⟨l,S,rfl,hl,nd,bX,q⟩:=h;refine⟨_,(ah (aw (bW (pC rfl) rfl T.js k_ (aa (oZ rfl (B3 (x:="serial") (ns:=[]) (fr:=[]) rfl (by decide +kernel) rfl (by decide +kernel) rfl (List.forall_mem_nil _) rfl rfl (List.forall_mem_nil _) (by decide +kernel)) (cx (pv 0)) (λ_ _ _ _=>(bp (aa (pv 0) (aa dk af)))) (λ_ _ _ _=>.nil)) af)))),?_⟩;dsimp! [];refine⟨⟨_,hl⟩,λD hD=>?_⟩;refine EC (λi y H=>∃t k,S[i]?=some k/\y=.ref t/\H t=some (.tup [.int (k:Nat),.bl true])) (λi y H H' h s=>?_) hD hl (by rw [bj]; omega) (λi x H2 zs R hx s2 Im r=>?_) λH2 ys s2 Im Nc hr=>?_
  ·obtain⟨t,k,e1,e2,e3⟩:=h;exact⟨t,k,e1,e2,s _ _ e3⟩
  ·obtain⟨k,hk,rfl⟩:=du hx;dsimp! [bP];refine⟨by decide,λt ht=>r _ _ (aj.put ht) ⟨t,k,hk,rfl,?_⟩⟩;unfold tm;rw [if_neg (az Im ht).symm];exact ae
  ·obtain⟨xs,ex,hx⟩:=oQ (ys:=ys) λi y e=>by
    obtain⟨t,k,_,e2,_⟩:=hr i y e;exact⟨t,e2⟩
   rw [ex] at Im hr Nc;rw [List.length_map,bj] at Nc;refine⟨xs,Im,dQ S,by rw [dZ]; exact Nc,λi t p ht hp=>?_,by rw [dZ]; omega,λr Qm=>?_⟩
   ·obtain⟨t',k,e1,e2,e3⟩:=hr i (.ref t) (by rw [List.getElem?_map,ht]; rfl);cases e2;unfold dQ at hp;rw [List.getElem?_map,e1] at hp;cases hp;exact e3
   ·rw [um (NH nd)];exact q r _ (s2.trans (aj.put Qm)) (s2.free Qm) ae
noncomputable def Vn (K:PySem.W.Frag):Sp:=λvs H Q _=>∃(p l:Addr) (t:Tg) (m:Nat),vs=[.ref p]/\gH K H p l t/\(∀v∈t.fs,v.ok m)/\∀r,H r=none->Q (.ref r) (upd H r (.lst (aF (gb t))))
theorem Lw (T:Txt K mg a):aS P w K mg base cU 4 a.yg a.yh ["thing"] (Vn K):=by
 refine T.pQ.ok TB (λvs H Q E h=>?_) (λcf A outer s H vs Q E hr h=>?_)
 ·obtain⟨_,_,_,_,rfl,_⟩:=h;rfl
 ·obtain⟨p,l,t,m,rfl,h,ok,q⟩:=h;refine⟨_,(ah (aw (dU (aD bN (aq ak (pv 0) ai (λ_ _=>rfl)) aA (aH _)) (aE (vi T) (hr.mono (by decide)) rfl T.Ao T.lA.kp T.An .nil aC (aa (aq ak (pv 0) ai (λ_ _=>rfl)) af)) (bE af)))),?_⟩;dsimp! [];obtain⟨h1,xs,h2,h3,h4⟩:=h;refine bF (bS.of h1) rfl ⟨rfl,?_⟩
  cases t with
  | plain fs w=>
   refine aY (λ_=>bF (bS.of h1) rfl ⟨l,xs,fs,rfl,bf.of h2,h4,h3.1,h3.2,λr hr=>?_⟩) λz=>absurd (decide_eq_true rfl) z
   rw [lW (m:=m) (vl:=fs) ok];exact q r hr
  | weak f=>exact aY (λz=>absurd (V.str.inj (of_decide_eq_true z)) Qj) λ_ r hr=>q r hr
  | pair k v=>exact aY (λz=>absurd (V.str.inj (of_decide_eq_true z)) Qk) λ_ r hr=>q r hr
noncomputable def Vo (K:PySem.W.Frag):Sp:=λvs H Q _=>∃(p l:Addr) (t:Tg) (m:Nat),vs=[.ref p]/\gH K H p l t/\(∀v∈t.fs,v.ok m)/\Q (oN (fJ t)) H
theorem Lx (T:Txt K mg a):aS P w K mg base cU 2 a.yi a.yj ["thing"] (Vo K):=by
 refine T.pR.ok TC (λvs H Q E h=>?_) (λcf A outer s H vs Q E hr h=>?_)
 ·obtain⟨_,_,_,_,rfl,_⟩:=h;rfl
 ·obtain⟨p,l,t,m,rfl,h,ok,q⟩:=h;refine⟨_,(ag (aQ (PW.pt (gJ (aD jg (aq ak (pv 0) ai (λ_ _=>rfl)) aA (aH _)) (gh (eV (cQ (aE (Cz T) (hr.mono (by decide)) rfl T.EW T.nS.kp T.EV .nil aC (aa (aq cy (aq ak (pv 0) ai (λ_ _=>rfl)) ai (λ_ _=>rfl)) af))))))) (ah (aw cB)) aG) (ah (aw (aq ak (aq cy (aq ak (pv 0) ai (λ_ _=>rfl)) ai (λ_ _=>rfl)) ai (λ_ _=>rfl))))),?_⟩;dsimp! [];obtain⟨h1,xs,h2,h3,h4⟩:=h;refine bF (bS.of h1) rfl ⟨rfl,?_⟩
  cases t with
  | plain fs w=>exact aY (λ_=>q) λz=>absurd (Fh λy=>YS (V.str.inj y)) z
  | weak f=>exact aY (λ_=>q) λz=>absurd (Fh λy=>Ql (V.str.inj y)) z
  | pair k v=>
   have hl:xs.length=2:=h3.1.symm;obtain⟨x0,x1,rfl⟩:∃x0 x1,xs=[x0,x1]:=by
    match xs,hl with
    | [x,y],_=>exact⟨x,y,rfl⟩
   have hk:=h3.2 0 x0 k rfl rfl;obtain⟨tk,rfl,Sl⟩:=id hk;refine aY (λz=>by simp [Tg.sort] at z) λ_=>bF (bS.of h1) rfl (vp (bf.of h2) rfl ⟨_,k,rfl,hk,_,rfl,?_⟩)
   cases k with
   | no=>exact aY (λ_=>q) λz=>by simp [Vl.vh] at z
   | num n=>exact aY (λ_=>q) λz=>by simp [Vl.vh] at z
   | th n=>
    obtain⟨i,e,_⟩:=ok (.th n) List.mem_cons_self;refine aY (λz=>by simp [Vl.vh] at z) λ_=>bF (bS.of h1) rfl (vp (bf.of h2) rfl (bF Sl rfl ?_))
    have e2:oN (fJ (.pair (.th n) v))=.int n:=by
     show V.int ((n.toNat:Nat):Int)=.int n;rw [Int.toNat_of_nonneg (by omega)]
    rw [e2] at q;exact q
noncomputable def Vp (K:PySem.W.Frag):Sp:=λvs H Q _=>∃(p l:Addr) (k v:Vl) (m:Nat),vs=[.ref p]/\gH K H p l (.pair k v)/\v.ok m/\∀r H',aj H H'->H r=none->H' r=some (.lst (aF (valN (.pair k v))))->Q (.ref r) H'
theorem Ly (T:Txt K mg a):aS P w K mg base cU 4 a.yk a.yl ["thing"] (Vp K):=by
 refine T.pS.ok TF (λvs H Q E h=>?_) (λcf A outer s H vs Q E hr h=>?_)
 ·obtain⟨_,_,_,_,_,rfl,_⟩:=h;rfl
 ·obtain⟨p,l,k,v,m,rfl,h,ok,q⟩:=h;refine⟨_,(ah (aw (aE (vi T) (hr.mono (by decide)) rfl T.Ao T.lA.kp T.An .nil aC (aa (fR gK (aq ak (pv 0) ai (λ_ _=>rfl)) (gs ai) iD) af)))),?_⟩;dsimp! [];obtain⟨h1,xs,h2,h3,h4⟩:=h;have hl:xs.length=2:=h3.1.symm;obtain⟨x0,x1,rfl⟩:∃x0 x1,xs=[x0,x1]:=by
   match xs,hl with
   | [x,y],_=>exact⟨x,y,rfl⟩
  have hv:=h3.2 1 x1 v rfl rfl;refine bF (bS.of h1) rfl ⟨l,_,rfl,bf.of h2,λl2 gg=>?_⟩;have s2:=aj.put (o:=.lst (gR [x0,x1] (some 1) none)) gg;have ec:gR [x0,x1] (some 1) none=[x1]:=by
   unfold gR;rfl
  rw [ec] at s2 ⊢;refine⟨l2,[x1],[v],rfl,bf.of ae,Nat.le_of_ble_eq_true rfl,rfl,λi x u hx hu=>?_,λr hr=>?_⟩
  ·cases i with
   | zero=>
    cases hx;cases hu;exact hv.same s2
   | succ i=>simp at hx
  ·rw [lW (m:=m) λu hu=>by rw [List.mem_singleton.mp hu]; exact ok];exact q r _ (s2.trans (aj.put hr)) (s2.free hr) ae
noncomputable def cZ (t:Tg) (S:List Nat):List Nat:=match fJ t with
 | some m=>if m∈S then valN t else gb t
 | none=>gb t
theorem jP {t:Tg}{m:Nat}(h:fJ t=some m):∃k v,t=.pair k v:=by
 cases t with
 | plain fs w=>cases h
 | weak f=>cases h
 | pair k v=>exact⟨k,v,rfl⟩
noncomputable def Vq (K:PySem.W.Frag):Sp:=λvs H Q _=>∃(p l d:Addr) (t:Tg) (m:Nat) (S:List Nat),vs=[.ref p,.ref d]/\gH K H p l t/\(∀v∈t.fs,v.ok m)/\i_ H d S/\∀r H',aj H H'->H r=none->H' r=some (.lst (aF (cZ t S)))->Q (.ref r) H'
theorem Vr (T:Txt K mg a):aS P w K mg base cU 5 a.ym a.yn ["thing","members"] (Vq K):=by
 refine T.tM.ok TH (λvs H Q E h=>?_) (λcf A outer s H vs Q E hr h=>?_)
 ·obtain⟨_,_,_,_,_,_,rfl,_⟩:=h;rfl
 ·obtain⟨p,l,d,t,m,S,rfl,h,ok,hd,q⟩:=h;refine⟨_,(ag (aQ (oU (EM (bI hr) (aE (Lx T) (hr.mono (by decide)) rfl T.Kx T.pR.kp T.Kw .nil aC (aa (pv 0) af)) (pv 1))) (ah (aw (aE (Ly T) (hr.mono (by decide)) rfl T.Kz T.pS.kp T.Ky .nil aC (aa (pv 0) af)))) aG) (ah (aw (aE (Lw T) (hr.mono (by decide)) rfl T.Kv T.pQ.kp T.Ku .nil aC (aa (pv 0) af))))),?_⟩;dsimp! [II];have hb:=hd.YR (fJ t);generalize eb:inS (fJ t) S=b at hb;refine⟨p,l,t,m,rfl,h,ok,b,hb,?_⟩
  cases b with
  | false=>
   refine cV ⟨p,l,t,m,rfl,h,ok,λr hr=>q r _ (aj.put hr) hr ?_⟩;have:cZ t S=gb t:=by
    unfold cZ
    cases ek:fJ t with
    | none=>rfl
    | some k=>
     rw [ek] at eb;dsimp only;rw [if_neg (of_decide_eq_false eb)]
   rw [this];exact ae
  | true=>
   cases ek:fJ t with
   | none=>rw [ek] at eb; cases eb
   | some k=>
    rw [ek] at eb;have hk:k∈S:=of_decide_eq_true eb;obtain⟨kk,vv,rfl⟩:=jP ek;refine hW ⟨p,l,kk,vv,m,rfl,h,ok vv (List.mem_cons_of_mem _ List.mem_cons_self),λr H' s' hr e=>q r H' s' hr ?_⟩;have:cZ (.pair kk vv) S=valN (.pair kk vv):=by
     unfold cZ;rw [ek];dsimp only;rw [if_pos hk]
    rw [this];exact e
theorem Gw (t:Tg) (S:List Nat):(cZ t S).length<=t.fs.length:=by
 have h:(gb t).length<=t.fs.length:=by
  cases t with
  | plain fs w=>exact List.length_filterMap_le _ _
  | weak f=>exact Nat.zero_le _
  | pair k v=>exact Nat.zero_le _
 have h2:(valN t).length<=t.fs.length:=by
  cases t with
  | plain fs w=>exact Nat.zero_le _
  | weak f=>exact Nat.zero_le _
  | pair k v=>exact Nat.le_trans (List.length_filterMap_le _ _) (Nat.le_of_ble_eq_true rfl)
 unfold cZ;split
 ·split
  ·exact h2
  ·exact h
 ·exact h
theorem Lz {ts:List Tg}(ok:sd ts) {t:Tg}(ht:t∈ts) {S:List Nat}{j:Nat}(hj:j∈cZ t S):1<=j/\j<=ts.length:=by
 unfold cZ at hj;split at hj
 ·split at hj
  ·exact ok.val ht hj
  ·exact ok.held ht hj
 ·exact ok.held ht hj
theorem qH {ts:List Tg}{S:List Nat}:NF ts (·∈S)↔∀k t,kF ts k t->k∈S->∀j∈cZ t S,j∈S:=by
 constructor
 ·intro c k t h hk j hj;unfold cZ at hj;split at hj
  ·rename_i m e;split at hj
   ·rename_i hm;exact c.pair k t m h hk e hm j hj
   ·exact c.held k t h hk j hj
  ·exact c.held k t h hk j hj
 ·intro c;refine⟨λk t h hk j hj=>?_,λk t m h hk e hm j hj=>c k t h hk j ?_⟩
  ·cases t with
   | plain fs w=>exact c k _ h hk j hj
   | weak f=>cases hj
   | pair kk vv=>cases hj
  ·unfold cZ;rw [e];dsimp only;rw [if_pos hm];exact hj
noncomputable def Vs (K:PySem.W.Frag):Sp:=λvs H Q _=>∃(d l:Addr) (ts:List Tg) (S:List Nat),vs=[.ref d,.ref l]/\se K H d ts/\sd ts/\ts.length<=63/\H l=some (.lst (aF S))/\S.Nodup/\(∀k∈S,1<=k/\k<=ts.length)/\∀(b:Bool) H',aj H H'->(b=true↔NF ts (·∈S))->Q (.bl b) H'
noncomputable def ICd (d l:Addr) (ts:List Tg) (S:List Nat) (mb:Addr) (H0:Hp) (i:Nat) (σ:St) (H:Hp):Prop:=(∃o3,σ=[some (.ref d),some (.ref l),some (.ref mb),o3])/\aj H0 H/\i_ H mb S/\∀j:Nat,j < i->∀k t,S[j]?=some k->kF ts k t->∀x∈cZ t S,x∈S
theorem LB (T:Txt K mg a):aS P w K mg base cU 7 a.yo a.yp ["things","some"] (Vs K):=by
 refine T.pT.ok Cn (λvs H Q E h=>?_) (λcf A outer s H vs Q E hr h=>?_)
 ·obtain⟨_,_,_,_,rfl,_⟩:=h;rfl
 ·obtain⟨d,l,ts,S,rfl,h,ok,bX,hl,nd,hS,q⟩:=h;refine⟨_,(ag (aN (i:=2) Cn.nd rfl (Or.inr rfl) (aE (CO T) (hr.mono (by decide)) rfl T.E3 T.nT.kp T.E2 .nil aC (aa (pv 1) af))) (ag (cS PassesOwn.never rfl (cx (pv 1)) (aU (i:=3) Cn.nd rfl (Or.inl rfl)) av) av)),?_⟩;dsimp! [];have lS:S.length<=63:=Nat.le_trans (jv (m:=dC ts.length) nd λk hk=>dJ.mpr (hS k hk)) (by unfold dC; rw [List.length_map,List.length_range]; exact bX);refine⟨l,S,rfl,bf.of hl,nd,by omega,λmb H1 s1 hmb CN=>⟨⟨_,bf.of (s1 _ _ hl)⟩,dA (aF S) (ICd d l ts S mb H) ⟨⟨none,rfl⟩,s1,CN,λj hj=>absurd hj (Nat.not_lt_zero j)⟩ (λi σ' H' _ hh=>bf.of (hh.2.1 _ _ hl)) (λi x σ' H2 hx hh=>?_) λσ' H2 hh=>?_⟩⟩
  ·obtain⟨k,hk,rfl⟩:=du hx;obtain⟨⟨o3,rfl⟩,s2,jR,MT⟩:=hh;obtain⟨t,ht⟩:=kF.of (hS k (List.mem_of_getElem? hk));refine gN ?_;refine aM.of (ah (aQ (cQ (aI (mK rfl) rfl T.uj B8 (aa (oZ rfl (B3 (x:="name") (ns:=["members"]) (fr:=[2]) rfl (by decide +kernel) rfl (by decide +kernel) rfl (List.forall_mem_cons.mpr ⟨rfl,List.forall_mem_nil _⟩) rfl rfl (List.forall_mem_cons.mpr ⟨⟨rfl,rfl,.inl rfl⟩,List.forall_mem_nil _⟩) (by decide +kernel)) (cx (aE (Vr T) (hr.mono (by decide)) rfl T.OO T.tM.kp T.ON .nil aC (aa (cH (bI hr) (pv 0) (pv 3) (λ_ _=>rfl)) (aa (pv 2) af)))) (λ_ _ _ _=>(uE (jJ (bI hr) (pv 0) (pv 1)))) (λ_ _ _ _=>.nil)) af))) (ah (aw dk)) aG)) ?_;dsimp! [];obtain⟨p,lf,hp,hg⟩:=(h.same s2).get ht;refine⟨_,hg,p,lf,mb,t,ts.length,S,rfl,hp,ok t ht.mem,jR,λr H3 s3 hr3 h3=>?_⟩;have CP:i_ H3 mb S:=s3 _ _ jR;have hlen:(cZ t S).length<=1000:=by
    obtain⟨_,xs,_,e2,e3⟩:=hp;have:=Gw t S;have:=e2.1;omega
   refine⟨r,rfl,⟨_,bf.of h3⟩,λD hD=>lr (aF (cZ t S)) (cZ t S) (λj=>some (.bl (decide (j∉S)))) (by rw [bj]; exact hlen) (bj _).symm (λys=>(aj.put hD).seq (bf.of h3)) (λi x b ys R hx hb r=>r) (λi x b y ys R hx hb hy r=>?_) ?_⟩
   ·obtain⟨j,hj,rfl⟩:=du hx;rw [hb] at hj;cases hj;cases hy;dsimp! [bP,Option.join_some];refine⟨_,(show i_ _ mb S from aj.put hD _ _ CP).ask b,?_⟩;rw [l_,<-decide_not];exact r
   ·have e1:(cZ t S).filterMap (λj=>some (V.bl (decide (j∉S))))=((cZ t S).map λj=>decide (j∉S)).map V.bl:=by
     rw [List.map_map,List.filterMap_eq_map'];rfl
    rw [e1];refine⟨_,bf.of ae,aY (λz=>?_) λz=>?_⟩
    ·refine q false _ (s2.trans (s3.trans (aj.put hD))) ⟨λy=>(nomatch y),λc=>?_⟩;obtain⟨b,hb,eb⟩:=List.any_eq_true.mp z;obtain⟨j,hj,rfl⟩:=List.mem_map.mp hb;exact absurd (qH.mp c k t ht (List.mem_of_getElem? hk) j hj) (of_decide_eq_true eb)
    ·refine⟨⟨_,rfl⟩,s2.trans (s3.trans (aj.put hD)),aj.put hD _ _ CP,λj hj k2 t2 Vt kg x hx=>?_⟩;rcases Nat.lt_or_ge j i with h1 | h1
     ·exact MT j h1 k2 t2 Vt kg x hx
     ·have:j=i:=by omega
      subst this;rw [hk] at Vt;cases Vt
      cases ht.one kg
      refine Classical.byContradiction λnx=>z (List.any_eq_true.mpr ⟨true,List.mem_map.mpr ⟨x,hx,decide_eq_true nx⟩,rfl⟩)
  ·obtain⟨⟨o3,rfl⟩,s2,jR,MT⟩:=hh;refine aM.of (ah (aw dk)) ?_;dsimp! [];refine q true H2 s2 ⟨λ_=>qH.mpr λk t h hk=>?_,λ_=>rfl⟩;obtain⟨j,hj⟩:=List.mem_iff_getElem?.mp hk;exact MT j (by rw [bj]; exact(List.getElem?_eq_some_iff.mp hj).1) k t hj h
noncomputable def jS (ts:List Tg) (S:List Nat) (s:Str) (k:Nat):Bool:=match ts[k - 1]? with
 | some t=>decide (t.sort=s)&&(t.fs.take 1 |>.filterMap jO).any λj=>decide (j∉S)
 | none=>false
noncomputable def blN (ts:List Tg) (S:List Nat) (s:Str):List Nat:=S.filter (jS ts S s)
noncomputable def IBl (d l:Addr) (z:Str) (ts:List Tg) (S:List Nat) (mb b:Addr) (H0:Hp) (i:Nat) (σ:St) (H:Hp):Prop:=(∃o3 o4,σ=[some (.ref d),some (.ref l),some (.str z),some (.ref mb),some (.ref b),o3,o4])/\aj H0 H/\i_ H mb S/\H b=some (.lst (aF ((S.take i).filter (jS ts S z))))
noncomputable def qI (K:PySem.W.Frag) (s:Option Str):Sp:=λvs H Q _=>∃(d l:Addr) (ts:List Tg) (S:List Nat) (z:Str),(match s with | some y=>vs=[.ref d,.ref l]/\z=y | none=>vs=[.ref d,.ref l,.str z])/\se K H d ts/\sd ts/\ts.length<=63/\H l=some (.lst (aF S))/\S.Nodup/\(∀k∈S,1<=k/\k<=ts.length)/\∀r H',aj H H'->H r=none->H' r=some (.lst (aF (blN ts S z)))->Q (.ref r) H'
theorem LC (T:Txt K mg a):aS P w K mg base cU 5 a.yF a.yG ["things","some","sort"] (qI K none):=by
 refine T.pW.ok pH (λvs H Q E h=>?_) (λcf A outer s H vs Q E hr h=>?_)
 ·obtain⟨_,_,_,_,_,rfl,_⟩:=h;rfl
 ·obtain⟨d,l,ts,S,z,rfl,h,ok,bX,hl,nd,hS,q⟩:=h;refine⟨_,(ag (aN (i:=3) pH.nd rfl (Or.inr rfl) (aE (CO T) (hr.mono (by decide)) rfl T.E3 T.nT.kp T.E2 .nil aC (aa (pv 1) af))) (ag (aN (i:=4) pH.nd rfl (Or.inl rfl) (bE af)) (ag (cS PassesOwn.never rfl (cx (pv 1)) (aU (i:=5) pH.nd rfl (Or.inl rfl)) av) av))),?_⟩;dsimp! [];have lS:S.length<=63:=Nat.le_trans (jv (m:=dC ts.length) nd λk hk=>dJ.mpr (hS k hk)) (by unfold dC; rw [List.length_map,List.length_range]; exact bX);refine⟨l,S,rfl,bf.of hl,nd,by omega,λmb H1 s1 hmb CN=>λb hb=>⟨⟨_,bf.of ((s1.trans (aj.put hb)) _ _ hl)⟩,?_⟩⟩;have Vu:H b=none:=s1.free hb;refine dA (aF S) (IBl d l z ts S mb b H) ⟨⟨none,none,rfl⟩,s1.trans (aj.put hb),aj.put hb _ _ CN,ae⟩ (λi σ' H' _ hh=>bf.of (hh.2.1 _ _ hl)) (λi x σ' H2 hx hh=>?_) λσ' H2 hh=>?_
  ·obtain⟨k,hk,rfl⟩:=du hx;obtain⟨⟨o3,o4,rfl⟩,s2,jR,oO⟩:=hh;obtain⟨t,ht⟩:=kF.of (hS k (List.mem_of_getElem? hk));obtain⟨j,ek,et⟩:=id ht;refine gN ?_;refine aM.of (ag (aN (i:=6) pH.nd rfl (Or.inl rfl) (aE (vi T) (hr.mono (by decide)) rfl T.Ao T.lA.kp T.An .nil aC (aa (fR gK (aq ak (cH (bI hr) (pv 0) (pv 5) (λ_ _=>rfl)) ai (λ_ _=>rfl)) iD (gs ai)) af))) (ah (aQ (PW.pt (mr (aD bN (aq ak (cH (bI hr) (pv 0) (pv 5) (λ_ _=>rfl)) ai (λ_ _=>rfl)) (pv 2) (aH _)) (jG (cQ (aI (mK rfl) rfl T.uj B8 (aa (oZ rfl (B3 (x:="name") (ns:=["members"]) (fr:=[3]) rfl (by decide +kernel) rfl (by decide +kernel) rfl (List.forall_mem_cons.mpr ⟨rfl,List.forall_mem_nil _⟩) rfl rfl (List.forall_mem_cons.mpr ⟨⟨rfl,rfl,.inl rfl⟩,List.forall_mem_nil _⟩) (by decide +kernel)) (cx (pv 6)) (λ_ _ _ _=>(uE (jJ (bI hr) (pv 0) (pv 1)))) (λ_ _ _ _=>.nil)) af)))))) (ah (bx (nE PySem.F.plainAttrs_list PySem.F.slot_list_append PySem.F.type_list_append fA (pv 4) (aa (pv 5) af)))) aG))) ?_;dsimp! [];obtain⟨p,lf,hp,hg⟩:=(h.same s2).get ht;obtain⟨h1,xs,h2,h3,h4⟩:=id hp;have hlx:t.fs.length=xs.length:=h3.1;refine⟨_,hg,bF (bS.of h1) rfl ⟨lf,xs,rfl,bf.of h2,λl2 gg=>?_⟩⟩;have ec:gR xs none (some 1)=xs.take 1:=by
    unfold gR;rw [HT.ji,show(1:Int)=((1:Nat):Int) from rfl,HT.kY];simp
   rw [ec];have s3:=aj.put (o:=.lst (xs.take 1)) gg;refine⟨l2,xs.take 1,t.fs.take 1,rfl,bf.of ae,by rw [List.length_take]; omega,by rw [List.length_take,List.length_take,hlx],λi x v a1 a2=>?_,λr hr=>?_⟩
   ·rw [List.getElem?_take] at a1 a2;split at a1
    ·rename_i c;rw [if_pos c] at a2;exact(h3.2 i x v a1 a2).same s3
    ·cases a1
   have okf:∀v∈t.fs.take 1,v.ok ts.length:=λv hv=>ok t ht.mem v (List.mem_of_mem_take hv)
   rw [lW okf];have hWl:((t.fs.take 1).filterMap jO).length<=1:=Nat.le_trans (List.length_filterMap_le _ _) (by rw [List.length_take]; omega);have eW:jS ts S z k=(decide (t.sort=z)&&((t.fs.take 1).filterMap jO).any λj=>decide (j∉S)):=by
    unfold jS;rw [ek,Nat.add_sub_cancel,et]
   generalize (t.fs.take 1).filterMap jO=W at hWl eW;have s4:=s3.trans (aj.put (o:=.lst (aF W)) hr);have YT:upd (upd H2 l2 (.lst (xs.take 1))) r (.lst (aF W)) r=some (.lst (aF W)):=ae;generalize upd (upd H2 l2 (.lst (xs.take 1))) r (.lst (aF W))=H4 at s4 YT;have BL:i_ H4 mb S:=s4 _ _ jR;have hb4:=s4 _ _ oO;have s04:=s2.trans s4;obtain⟨p',lf',Wm,hg'⟩:=(h.same s04).get ht;have wN:S.take (i+1)=S.take i++[k]:=by
    rw [List.take_add_one,hk];rfl
   have no:∀H5,aj H4 H5->jS ts S z k=false->IBl d l z ts S mb b H (i+1) [some (V.ref d),some (V.ref l),some (V.str z),some (V.ref mb),some (V.ref b),some (V.int k),some (V.ref r)] H5:=λH5 s5 e=>by
    refine⟨⟨_,_,rfl⟩,s04.trans s5,s5 _ _ BL,?_⟩;rw [wN,List.filter_append,List.filter_cons_of_neg (by rw [e]; exact Bool.false_ne_true),List.filter_nil,List.append_nil];exact s5 _ _ hb4
   refine⟨_,hg',bF (bS.of Wm.1) rfl ⟨rfl,aY (λc=>?_) λc=>no _ (.refl _) ?_⟩⟩
   ·have c2:t.sort=z:=V.str.inj (of_decide_eq_true c);rw [decide_eq_true c2,Bool.true_and] at eW;refine⟨r,rfl,⟨_,bf.of YT⟩,λD hD=>lr (aF W) W (λj=>some (.bl (decide (j∉S)))) (by rw [bj]; omega) (bj _).symm (λys=>(aj.put hD).seq (bf.of YT)) (λi x b ys R hx hb r=>r) (λi x b y ys R hx hb hy r=>?_) ?_⟩
    ·obtain⟨j,hj,rfl⟩:=du hx;rw [hb] at hj;cases hj;cases hy;dsimp! [bP,Option.join_some];refine⟨_,(show i_ _ mb S from aj.put hD _ _ BL).ask b,?_⟩;rw [l_,<-decide_not];exact r
    ·have e1:W.filterMap (λj=>some (V.bl (decide (j∉S))))=(W.map λj=>decide (j∉S)).map V.bl:=by
      rw [List.map_map,List.filterMap_eq_map'];rfl
     have e2:(W.map λj=>decide (j∉S)).any id=W.any λj=>decide (j∉S):=by
      rw [List.any_map];rfl
     rw [e1];refine⟨_,bf.of ae,?_⟩;rw [e2,<-eW];have s5:aj H4 (upd H4 D (.lst ((W.map λj=>decide (j∉S)).map V.bl))):=aj.put hD;generalize upd H4 D (.lst ((W.map λj=>decide (j∉S)).map V.bl))=H5 at s5
     cases eb:jS ts S z k with
     | false=>exact cV (no H5 s5 eb)
     | true=>
      have hb5:=s5 _ _ hb4;have ll:(aF ((S.take i).filter (jS ts S z))).length<=63:=by
       rw [bj];have h1:=List.length_filter_le (jS ts S z) (S.take i);rw [List.length_take] at h1;omega
      refine hW ⟨.inl ⟨rfl,_,bf.of hb5⟩,b,_,_,rfl,rfl,hb5,aJ (by omega),⟨_,_,rfl⟩,.putD (s04.trans s5) Vu,?_,?_⟩
      ·show upd H5 b _ mb=_;have YU:H2 mb=some (.dK (dQ S)):=jR;rw [au λe=>by rw [e,oO] at YU; cases YU];exact s5 _ _ BL
      ·rw [ae,wN,List.filter_append,List.filter_cons_of_pos eb,List.filter_nil];unfold aF;rw [List.map_append,List.map_append];rfl
   ·rw [eW,decide_eq_false λy=>c (decide_eq_true (by rw [y])),Bool.false_and]
  ·obtain⟨⟨o3,o4,rfl⟩,s2,jR,oO⟩:=hh;refine aM.of (ah (aw (pv 4))) ?_;dsimp! [];rw [bj,List.take_length] at oO;exact q b H2 s2 Vu oO
theorem Vv (T:Txt K mg a):aS P w K mg base cU 6 a.yH a.yI ["things","some"] (qI K (some "weak")):=by
 refine T.tO.ok TN (λvs H Q E h=>?_) (λcf A outer s H vs Q E hr h=>?_)
 ·obtain⟨_,_,_,_,_,⟨rfl,_⟩,_⟩:=h;rfl
 ·obtain⟨d,l,ts,S,z,⟨rfl,rfl⟩,h⟩:=h;refine⟨_,(ah (aw (aE (LC T) (hr.mono (by decide)) rfl T.KO T.pW.kp T.KN .nil aC (aa (pv 0) (aa (pv 1) (aa aA af)))))),?_⟩;dsimp! [];exact⟨d,l,ts,S,_,rfl,h⟩
theorem Vw (T:Txt K mg a):aS P w K mg base cU 6 a.yJ a.yK ["things","some"] (qI K (some "pair")):=by
 refine T.tP.ok TQ (λvs H Q E h=>?_) (λcf A outer s H vs Q E hr h=>?_)
 ·obtain⟨_,_,_,_,_,⟨rfl,_⟩,_⟩:=h;rfl
 ·obtain⟨d,l,ts,S,z,⟨rfl,rfl⟩,h⟩:=h;refine⟨_,(ah (aw (aE (LC T) (hr.mono (by decide)) rfl T.KO T.pW.kp T.KN .nil aC (aa (pv 0) (aa (pv 1) (aa aA af)))))),?_⟩;dsimp! [];exact⟨d,l,ts,S,_,rfl,h⟩
theorem abu {K:PySem.W.Frag}{a D:Addr}{fr:List Nat}{tt:TT}{te:TE}{σ:St}{Q:Hp->Prop}{H:Hp}(xs:List V) (Pv:Nat->List V->Hp->Prop) (h0:Pv 0 [] H) (hl:∀i ys H,i<=xs.length->Pv i ys H->bf K H a xs)
  (hs:∀i m x ys H,m+1+i=xs.length->xs[i]?=some x->Pv i ys H->∃t va vb,x=.ref t/\bS K H t [va,vb]/\tt (bH fr σ (some va) (some vb)) H λb H3=>if b=true then te (bH fr σ (some va) (some vb)) H3 (Xj D Pv xs.length (m+1) i)else lcK Pv xs.length (m+1) i H3)
  (hq:∀ys H,Pv xs.length ys H->Q H):iJ K (MI K a) fr tt te σ D Q H:=by
 refine⟨λi m H2=>m+i=xs.length/\∃ys,Pv i ys H2,⟨xs.length,rfl,[],h0⟩,?_⟩;rintro i m H2 ⟨hm,ys,hp⟩;have hS:=hl i ys H2 (by omega) hp
 cases m with
 | zero=>
  have e:i=xs.length:=by omega
  subst e;exact .inl ⟨⟨xs,hS,Nat.le_refl _⟩,hq ys H2 hp⟩
 | succ m=>
  have hi:i < xs.length:=by omega
  refine .inr ⟨⟨xs,xs[i],hS,List.getElem?_eq_getElem hi⟩,λv H' y=>?_⟩;obtain⟨rfl,hv⟩:=y;exact hs i m v ys H' hm (hv xs hS) hp
noncomputable def YV (g:Str->Vl) (hs:List (Nat×Int)) (x:Nat):Prop:=(∃r,g r=.th (x:Int))\/∃h∈hs,h.1=x
open Classical in
noncomputable def NI (g:Str->Vl) (hs:List (Nat×Int)) (n:Nat):List Nat:=(dC n).filter λx=>decide (YV g hs x)
theorem vw (g:Str->Vl) (hs:List (Nat×Int)) (n:Nat):(NI g hs n).Pairwise (· < ·):=(lX _).filter _
theorem LD {g:Str->Vl}{hs:List (Nat×Int)}{n x:Nat}(h:x∈NI g hs n):1<=x/\x<=n:=dJ.mp (List.mem_filter.mp h).1
theorem YV.le {W:Wd}(ok:W.ok) {x:Nat}(h:YV W.g W.hs x):1<=x/\x<=W.ts.length:=by
 rcases h with ⟨r,e⟩ | ⟨p,hp,rfl⟩
 ·have:=ok.g r;rw [e] at this;obtain⟨i,e2,_⟩:=this;omega
 ·exact(ok.hs p hp).1
theorem vx {W:Wd}(ok:W.ok) {x:Nat}:x∈NI W.g W.hs W.ts.length↔YV W.g W.hs x:=by
 unfold NI;rw [List.mem_filter,@decide_eq_true_iff _ (Classical.propDecidable _),dJ];exact⟨λh=>h.2,λh=>⟨h.le ok,h⟩⟩
noncomputable def gI:Key->Str
 | .inr x=>x
 | .inl _=>""
theorem oa {H:Hp}{kvs:List (Key×V)}{W:Wd}(h:qy K H kvs W.g) (ok:W.ok) {x:Nat}:x∈(kvs.map λkv=>W.g (gI kv.1)).filterMap jO↔∃r,W.g r=.th (x:Int):=by
 rw [List.mem_filterMap];constructor
 ·rintro⟨v,hv,e⟩;obtain⟨kv,_,rfl⟩:=List.mem_map.mp hv;have hk:=ok.g (gI kv.1);refine⟨gI kv.1,?_⟩
  cases e2:W.g (gI kv.1)with
  | no=>rw [e2] at e; cases e
  | num z=>rw [e2] at e; cases e
  | th z=>
   rw [e2] at e hk;cases e;obtain⟨i,e3,_⟩:=hk;rw [Int.toNat_of_nonneg (by omega)]
 ·rintro⟨r,e⟩
  cases e2:bD kvs (Sum.inr r)with
  | none=>
   rw [h.no r e2] at e;cases e
  | some u=>exact⟨_,List.mem_map.mpr ⟨_,jy e2,rfl⟩,by show jO (W.g r)=_; rw [e]; show some (((x:Int)).toNat)=_; rw [Int.toNat_natCast]⟩
noncomputable def Vx (a:ft) (K:PySem.W.Frag):Sp:=λvs H Q _=>∃Pr A W,vs=[.ref A.p]/\PW a K Pr H A W/\W.ok/\W.ts.length<=63/\∀r H',aj H H'->H r=none->H' r=some (.lst (aF (NI W.g W.hs W.ts.length)))->Q (.ref r) H'
theorem Vy (T:Txt K mg a):aS P w K mg base cU 5 a.yc a.yd ["heap"] (Vx a K):=by
 refine T.tL.ok Cm (λvs H Q E h=>?_) (λcf A outer s H vs Q E hr h=>?_)
 ·obtain⟨_,_,_,rfl,_⟩:=h;rfl
 ·obtain⟨Pr,A,W,rfl,h,ok,bX,q⟩:=h;refine⟨_,(ag (aN (i:=1) Cm.nd rfl (Or.inl rfl) (aE (vi T) (hr.mono (by decide)) rfl T.Ao T.lA.kp T.An .nil aC (aa (bW (Ck rfl) rfl T.fH fM (aa (Hh PySem.F.plainAttrs_dict PySem.F.slot_dict_values PySem.F.type_dict_values FL (jh (pv 0) T.ar T.KZ (UL T) (hr.mono (by decide)) T.Pt .nil aC)) af)) af))) (ag (SU (j:=2) rfl Cm.nd rfl rfl (HW (x:="serial") (x2:="words") (ns:=[]) (fr:=[]) rfl (by decide +kernel) rfl (by decide +kernel) rfl rfl (List.forall_mem_nil _) rfl rfl (List.forall_mem_nil _) (by decide +kernel)) (cx (jh (pv 0) T.ar T.K0 (Uz T) (hr.mono (by decide)) T.Pu .nil aC)) (λ_ _ _ _=>(pv 0)) (λ_ _ _ _=>.nil)) (ah (aw (aI (uY rfl) rfl T.dY fE (aa (bW (FX rfl) rfl T.E5 S5 (aa (bz iF (pv 1) (pv 2)) af)) af)))))),?_⟩;obtain⟨dx,h1⟩:=h.ob;dsimp! [h1,HO.ins.injEq];refine⟨bt,Pr,A,W.g,W.ts,W.hs,rfl,h,λr kvs H1 s1 Qm ur LF _=>?_⟩;refine⟨.inr (.inr (.inl ⟨rfl,.inl ⟨_,ur⟩⟩)),r,rfl,kvs,.inl ur,λp hp=>⟨r,ae,kvs,.inl (aj.put hp _ _ ur),λl hl=>?_⟩⟩;have kf:=LF.bX;have s2:=s1.trans ((aj.put (o:=.ext λh=>h.IsValuesView p r) hp).trans (aj.put (o:=.lst (kvs.map (·.2))) hl));have rt2:=LF.same ((aj.put (o:=.ext λh=>h.IsValuesView p r) hp).trans (aj.put (o:=.lst (kvs.map (·.2))) hl));have gg:upd (upd H1 p (.ext λh=>h.IsValuesView p r)) l (.lst (kvs.map (·.2))) l=some (.lst (kvs.map (·.2))):=ae;generalize upd (upd H1 p (.ext λh=>h.IsValuesView p r)) l (.lst (kvs.map (·.2)))=H2 at s2 gg rt2;refine⟨l,_,kvs.map λkv=>W.g (gI kv.1),rfl,bf.of gg,by rw [List.length_map]; omega,by rw [List.length_map,List.length_map],λi x v hx hv=>?_,λnl hnl=>?_⟩
  ·rw [List.getElem?_map] at hx hv
   cases e:kvs[i]? with
   | none=>rw [e] at hx; cases hx
   | some kv=>
    rw [e] at hx hv;cases hx;cases hv;obtain⟨y,_,ey⟩:=LF.ks kv (List.mem_of_getElem? e);have:gI kv.1=y:=by rw [ey]; rfl
    show dw K H2 kv.2 (W.g (gI kv.1));rw [this];exact rt2.at_ y kv.2 (by rw [<-ey]; exact lV LF.nd e)
  have Vz:∀v∈kvs.map (λkv=>W.g (gI kv.1)),v.ok W.ts.length:=λv hv=>by
   obtain⟨kv,_,rfl⟩:=List.mem_map.mp hv;exact ok.g _
  rw [lW Vz];have P8:=λx=>oa (x:=x) LF ok
  have lN:((kvs.map λkv=>W.g (gI kv.1)).filterMap jO).length<=26:=Nat.le_trans (List.length_filterMap_le _ _) (by rw [List.length_map]; exact kf);generalize (kvs.map λkv=>W.g (gI kv.1)).filterMap jO=N1 at P8 lN;have s3:=s2.trans (aj.put (o:=.lst (aF N1)) hnl);have hn3:upd H2 nl (.lst (aF N1)) nl=some (.lst (aF N1)):=ae;generalize upd H2 nl (.lst (aF N1))=H3 at s3 hn3;refine⟨dx,_,s3 _ _ h1,bt,Pr,A,W.g,W.ts,W.hs,rfl,h.same s3,λr2 xs A3 hh=>⟨r2,rfl,⟨_,bf.of ae⟩,λD hD=>?_⟩⟩;have s4:=s3.trans (aj.put (o:=.lst xs) A3);have hn4:=aj.put (o:=.lst xs) A3 _ _ hn3;have hh4:=hh.same (aj.put (o:=.lst xs) A3);have hx4:upd H3 r2 (.lst xs) r2=some (.lst xs):=ae;generalize upd H3 r2 (.lst xs)=H4 at s4 hn4 hh4 hx4 hD;have fh:=h.bX.2;refine abu xs (λi ys H9=>aj H4 H9/\H9 D=some (.lst ys)/\ys=aF ((W.hs.take i).map (·.1))) ⟨.put hD,ae,rfl⟩ (λi ys H9 _ z=>bf.of (z.1 _ _ hx4)) (λi m x ys H9 hm YW hh9=>?_) λys H9 hh9=>?_
  ·obtain⟨s9,hD9,rfl⟩:=hh9;have hi:=(List.getElem?_eq_some_iff.mp YW).1;have YX:W.hs[i]?=some (W.hs[i]'(by have:=hh.1; omega)):=List.getElem?_eq_getElem _;obtain⟨t,rfl,ht⟩:=hh4.2 i x _ YW YX;refine⟨t,_,_,rfl,s9.cc ht,hW ?_⟩;dsimp! [bH];refine Xj.mk hm hD9 (by rw [bj,List.length_map,List.length_take]; omega) ⟨.putD s9 hD,ae,?_⟩;rw [List.take_add_one,YX,List.map_append];unfold aF;rw [List.map_append,List.map_append];rfl
  ·obtain⟨s9,hD9,rfl⟩:=hh9;rw [<-hh4.1,List.take_length] at hD9;have s09:=s4.trans s9;have lh:(W.hs.map (·.1)).length<=500:=by rw [List.length_map]; exact fh
   refine⟨nl,D,_,_,rfl,rfl,bf.of (s9 _ _ hn4),bf.of hD9,by rw [bj,bj,sizeLine_eq]; omega,λp2 oi=>⟨p2,rfl,(N1++W.hs.map (·.1)).map λ(k:Nat)=>(k:Int),?_,by rw [List.length_map,List.length_append]; omega,λl5 Wr=>?_⟩⟩
   ·have e:aF N1++aF (W.hs.map (·.1))=((N1++W.hs.map (·.1)).map λ(k:Nat)=>(k:Int)).map V.int:=by
     unfold aF;rw [List.map_append,List.map_append]
    rw [<-e];exact bf.of ae
   ·have mem:∀x:Int,x∈((N1++W.hs.map (·.1)).map λ(k:Nat)=>(k:Int)).foldl fW []↔∃k,YV W.g W.hs k/\(k:Int)=x:=λx=>by
     rw [kj,fK];constructor
     ·rintro(h | ⟨k,hk,e⟩)
      ·cases h
      ·refine⟨k,?_,e⟩;rcases List.mem_append.mp hk with hk | hk
       ·exact .inl ((P8 k).mp hk)
       ·obtain⟨y,hy,ey⟩:=List.mem_map.mp hk;exact .inr ⟨y,hy,ey⟩
     ·rintro⟨k,hk,e⟩;refine .inr ⟨k,List.mem_append.mpr ?_,e⟩;rcases hk with hk | ⟨y,hy,ey⟩
      ·exact .inl ((P8 k).mpr hk)
      ·exact .inr (List.mem_map.mpr ⟨y,hy,ey⟩)
    have nd:=ly ((N1++W.hs.map (·.1)).map λ(k:Nat)=>(k:Int)) [] List.nodup_nil;have s5:∀o,aj H (upd (upd H9 p2 (.lst (aF N1++aF (W.hs.map (·.1))))) l5 o):=λo=>s09.trans ((aj.put oi).trans (aj.put Wr))
    refine⟨_,ae,?_,λl6 ns hl6 pm ps=>q l6 _ ((s5 _).trans (aj.put hl6)) ((s5 _).free hl6) ?_⟩
    ·have:=jv (m:=(dC W.ts.length).map λ(k:Nat)=>(k:Int)) nd λx hx=>by
      obtain⟨k,hk,e⟩:=(mem x).mp hx;exact fK.mpr ⟨k,dJ.mpr (hk.le ok),e⟩
     unfold dC at this;rw [List.length_map,List.length_map,List.length_range] at this;omega
    ·have e:ns=(NI W.g W.hs W.ts.length).map λ(k:Nat)=>(k:Int):=oP (qG ps (pm.nodup_iff.mpr nd)) (lY (vw _ _ _)) λx=>by
      rw [pm.mem_iff,mem,fK];exact⟨λ⟨k,hk,e⟩=>⟨k,(vx ok).mpr hk,e⟩,λ⟨k,hk,e⟩=>⟨k,(vx ok).mp hk,e⟩⟩
     rw [e];exact ae
structure Rw where
 k:Nat
 how:Str
 o:Option Nat
noncomputable def cY (R:List Rw):List Nat:=R.map (·.k)
theorem fq (R:List Rw) (r:Rw):cY (R++[r])=cY R++[r.k]:=by
 unfold cY;rw [List.map_append];rfl
noncomputable def sf (how:Str) (o:Nat) (R:List Rw) (k:Nat):List Rw:=if k∈cY R then R else R++[⟨k,how,some o⟩]
noncomputable def dy (R:List Rw) (N:List Nat) (how:Str) (o:Nat):List Rw:=N.foldl (sf how o) R
structure YY (ts:List Tg) (S0:List Nat) (pre:List Rw) (r:Rw):Prop where
 no:r.k∉S0
 by_:∃o t,r.o=some o/\o∈cY pre/\kF ts o t/\((r.how="held"/\r.k∈gb t)\/(r.how="pair"/\∃m,fJ t=some m/\m∈cY pre/\r.k∈valN t))
structure RM (ts:List Tg) (S0:List Nat) (R:List Rw) (wl:Nat->List Nat) (n:Nat):Prop where
 nd:(cY R).Nodup
 Qi:R.take S0.length=S0.map λs=>(⟨s,"begin",none⟩:Rw)
 bl:S0.length<=R.length
 VA:∀(i:Nat) r,S0.length<=i->R[i]?=some r->YY ts S0 (R.take i) r
 lst:∀r∈R,rO ts S0 r.k
 hld:∀(i:Nat) r t,i < n->R[i]?=some r->kF ts r.k t->∀j∈gb t,j∈cY R
 wai:∀(i:Nat) r t m,i < n->R[i]?=some r->kF ts r.k t->fJ t=some m->(∀j∈valN t,j∈cY R)\/(m∉cY (R.take n)/\r.k∈wl m)
 YZ:∀m s,s∈wl m->s∈cY R/\∃t,kF ts s t/\fJ t=some m
 le:n<=R.length
theorem RM.sub {ts:List Tg}{S0:List Nat}{R:List Rw}{wl:Nat->List Nat}{n:Nat}(h:RM ts S0 R wl n):∀k∈S0,k∈cY R:=λk hk=>by
 have:k∈cY (R.take S0.length):=by
  rw [h.Qi];unfold cY;rw [List.map_map];exact List.mem_map.mpr ⟨k,hk,rfl⟩
 unfold cY at this ⊢;obtain⟨r,hr,e⟩:=List.mem_map.mp this;exact List.mem_map.mpr ⟨r,List.mem_of_mem_take hr,e⟩
theorem RM.start {ts:List Tg}{S0:List Nat}(nd:S0.Nodup):RM ts S0 (S0.map λs=>(⟨s,"begin",none⟩:Rw)) (λ_=>[]) 0:=by
 have es:cY (S0.map λs=>(⟨s,"begin",none⟩:Rw))=S0:=by
  unfold cY;rw [List.map_map];exact List.map_id' _
 refine⟨by rw [es]; exact nd,by rw [List.take_of_length_le (by rw [List.length_map]; exact Nat.le_refl _)],by rw [List.length_map]; exact Nat.le_refl _,λi r h1 h2=>?_,λr hr=>?_,(λi r t h=>absurd h (Nat.not_lt_zero _)),(λi r t m h=>absurd h (Nat.not_lt_zero _)),(λm s h=>nomatch h),Nat.zero_le _⟩
 ·have:=(List.getElem?_eq_some_iff.mp h2).1;rw [List.length_map] at this;omega
 ·obtain⟨s,hs,rfl⟩:=List.mem_map.mp hr;exact .Qi hs
noncomputable def Y0 (ts:List Tg) (R:List Rw) (how:Str) (o k:Nat):Prop:=o∈cY R/\∃t,kF ts o t/\((how="held"/\k∈gb t)\/(how="pair"/\∃m,fJ t=some m/\m∈cY R/\k∈valN t))
theorem ee {R R':List Rw}(h:R <+: R') {k:Nat}(hk:k∈cY R):k∈cY R':=by
 obtain⟨m,rfl⟩:=h;unfold cY at hk ⊢;rw [List.map_append];exact List.mem_append_left _ hk
theorem Y0.up {ts:List Tg}{R R':List Rw}{how:Str}{o k:Nat}(h:Y0 ts R how o k) (p:R <+: R'):Y0 ts R' how o k:=by
 obtain⟨h1,t,h2,h3⟩:=h;refine⟨ee p h1,t,h2,?_⟩;rcases h3 with h3 | ⟨e,m,h4,h5,h6⟩
 ·exact .inl h3
 ·exact .inr ⟨e,m,h4,ee p h5,h6⟩
theorem RM.add {ts:List Tg}{S0:List Nat}{R:List Rw}{wl:Nat->List Nat}{n:Nat}(h:RM ts S0 R wl n) {how:Str}{o k:Nat}(m:Y0 ts R how o k):RM ts S0 (sf how o R k) wl n:=by
 unfold sf
 by_cases hk:k∈cY R
 ·rw [if_pos hk];exact h
 ·rw [if_neg hk];have up:∀j,j∈cY R->j∈cY (R++[⟨k,how,some o⟩]):=λj hj=>by rw [fq]; exact List.mem_append_left _ hj
  have at_:∀(i:Nat) r,i < n->(R++[⟨k,how,some o⟩])[i]?=some r->R[i]?=some r:=λi r hi e=>by
   rw [List.getElem?_append_left (by have:=h.le; omega)] at e;exact e
  have lk:rO ts S0 k:=by
   obtain⟨h1,t,h2,h3⟩:=m;have c:=rO.clo ts S0;have mem:∀j,j∈cY R->rO ts S0 j:=λj hj=>by
    obtain⟨r,hr,rfl⟩:=List.mem_map.mp hj;exact h.lst r hr
   rcases h3 with ⟨_,h4⟩ | ⟨_,m,h4,h5,h6⟩
   ·exact c.held o t h2 (mem o h1) k h4
   ·exact c.pair o t m h2 (mem o h1) h4 (mem m h5) k h6
  refine⟨?_,?_,?_,λi r h1 h2=>?_,λr hr=>?_,λi r t hi e ht j hj=>up j (h.hld i r t hi (at_ i r hi e) ht j hj),λi r t q hi e ht hq=>?_,λq s hs=>⟨up s (h.YZ q s hs).1,(h.YZ q s hs).2⟩,by rw [List.length_append]; have:=h.le; omega⟩
  ·rw [fq];refine List.nodup_append.mpr ⟨h.nd,by simp,λx hx y hy e=>?_⟩;rw [List.mem_singleton.mp hy] at e;have e2:x=k:=e;exact hk (e2▸hx)
  ·rw [List.take_append_of_le_length h.bl];exact h.Qi
  ·rw [List.length_append];have:=h.bl;omega
  ·by_cases hi:i < R.length
   ·rw [List.getElem?_append_left hi] at h2;rw [List.take_append_of_le_length (Nat.le_of_lt hi)];exact h.VA i r h1 h2
   ·have e:i=R.length:=by
     have:=(List.getElem?_eq_some_iff.mp h2).1;rw [List.length_append,List.length_singleton] at this;omega
    subst e;rw [List.getElem?_append_right (Nat.le_refl _),Nat.sub_self] at h2;cases h2;rw [List.take_append_of_le_length (Nat.le_refl _),List.take_length];refine⟨λz=>hk (h.sub k z),?_⟩;obtain⟨h1,t,h2,h3⟩:=m;exact⟨o,t,rfl,h1,h2,h3⟩
  ·rcases List.mem_append.mp hr with hr | hr
   ·exact h.lst r hr
   ·rw [List.mem_singleton.mp hr];exact lk
  ·rw [List.take_append_of_le_length h.le];rcases h.wai i r t q hi (at_ i r hi e) ht hq with z | z
   ·exact .inl λj hj=>up j (z j hj)
   ·exact .inr z
theorem A7 (how:Str) (o:Nat) (R:List Rw) (k:Nat):R <+: sf how o R k:=by
 unfold sf;split
 ·exact List.prefix_refl _
 ·exact List.prefix_append _ _
theorem LG (how:Str) (o:Nat) (R:List Rw) (k:Nat):k∈cY (sf how o R k):=by
 unfold sf;split
 ·assumption
 ·rw [fq];exact List.mem_append_right _ (List.mem_singleton.mpr rfl)
theorem fL (how:Str) (o:Nat):∀(N:List Nat) (R:List Rw),R <+: dy R N how o
 | [],R=>List.prefix_refl _
 | k::N,R=>(A7 how o R k).trans (fL how o N _)
theorem iT (how:Str) (o:Nat):∀(N:List Nat) (R:List Rw) (k:Nat),k∈N->k∈cY (dy R N how o)
 | j::N,R,k,h=>by
  rcases List.mem_cons.mp h with rfl | h
  ·exact ee (fL how o N _) (LG how o R k)
  ·exact iT how o N _ k h
theorem RM.bring {ts:List Tg}{S0:List Nat}{wl:Nat->List Nat}{n:Nat}{how:Str}{o:Nat}:∀(N:List Nat) {R:List Rw},RM ts S0 R wl n->(∀k∈N,Y0 ts R how o k)->RM ts S0 (dy R N how o) wl n
 | [],_,h,_=>h
 | k::N,R,h,m=>RM.bring N (h.add (m k List.mem_cons_self)) λj hj=>(m j (List.mem_cons_of_mem _ hj)).up (A7 how o R k)
theorem RM.done {ts:List Tg}{S0:List Nat}{R:List Rw}{wl:Nat->List Nat}(h:RM ts S0 R wl R.length) {x:Nat}:x∈cY R↔rO ts S0 x:=by
 constructor
 ·intro hx;obtain⟨r,hr,rfl⟩:=List.mem_map.mp hx;exact h.lst r hr
 ·intro hx;refine hx (·∈cY R) ⟨λk t ht hk j hj=>?_,λk t m ht hk e hm j hj=>?_⟩ h.sub
  ·obtain⟨r,hr,rfl⟩:=List.mem_map.mp hk;obtain⟨i,hi⟩:=List.mem_iff_getElem?.mp hr;exact h.hld i r t (List.getElem?_eq_some_iff.mp hi).1 hi ht j hj
  ·obtain⟨r,hr,rfl⟩:=List.mem_map.mp hk;obtain⟨i,hi⟩:=List.mem_iff_getElem?.mp hr;rcases h.wai i r t m (List.getElem?_eq_some_iff.mp hi).1 hi ht e with z | ⟨z,_⟩
   ·exact z j hj
   ·rw [List.take_length] at z;exact absurd hm z
structure RA where
 p:Addr
 bs:Addr
 ro:Addr
 mb:Addr
 wt:Addr
noncomputable def LH (A:RA):List (Str×V):=bV "waiting" (.ref A.wt) (bV "members" (.ref A.mb) (bV "rows" (.ref A.ro) (bV "by_serial" (.ref A.bs) [])))
theorem abv:¬(("by_serial":Str)="rows"):=by decide +kernel
theorem abw:¬(("by_serial":Str)="members"):=by decide +kernel
theorem abx:¬(("by_serial":Str)="waiting"):=by decide +kernel
theorem Y1:¬(("rows":Str)="members"):=by decide +kernel
theorem Y2:¬(("rows":Str)="waiting"):=by decide +kernel
theorem aby:¬(("members":Str)="waiting"):=by decide +kernel
theorem LI (A:RA):(LH A).lookup ("by_serial":Str)=some (.ref A.bs):=by
 unfold LH;rw [aK,if_neg abx,aK,if_neg abw,aK,if_neg abv,aK,if_pos rfl]
theorem vy (A:RA):(LH A).lookup ("rows":Str)=some (.ref A.ro):=by
 unfold LH;rw [aK,if_neg Y2,aK,if_neg Y1,aK,if_pos rfl]
theorem LJ (A:RA):(LH A).lookup ("members":Str)=some (.ref A.mb):=by
 unfold LH;rw [aK,if_neg aby,aK,if_pos rfl]
theorem LK (A:RA):(LH A).lookup ("waiting":Str)=some (.ref A.wt):=by
 unfold LH;rw [aK,if_pos rfl]
theorem mR {A:RA}{n:Str}(h1:¬n="waiting":=by decide +kernel) (h2:¬n="members":=by decide +kernel) (h3:¬n="rows":=by decide +kernel) (h4:¬n="by_serial":=by decide +kernel):(LH A).lookup n=none:=by
 unfold LH;rw [aK,if_neg h1,aK,if_neg h2,aK,if_neg h3,aK,if_neg h4];rfl
noncomputable def Rw.items (r:Rw):List V:=[.int (r.k:Nat),.str r.how,oN r.o]
noncomputable def RwL (H:Hp) (l:Addr) (R:List Rw):Prop:=∃xs:List Addr,H l=some (.lst (xs.map V.ref))/\xs.length=R.length/\∀(i:Nat) x r,xs[i]?=some x->R[i]?=some r->H x=some (.tup r.items)
structure RS (a:ft) (K:PySem.W.Frag) (H0 H:Hp) (A:RA) (ts:List Tg) (R:List Rw) (kvs:List (Key×V)) (wl:Nat->List Nat) (n:Nat):Prop where
 ob:∃dx,H A.p=some (.ins a.aT dx (LH A))
 sm:aj H0 H
 tb:se K H0 A.bs ts
 ok:sd ts
 bX:ts.length<=63
 rs:RwL H A.ro R
 rn:(cY R).Nodup
 rl:∀k∈cY R,1<=k/\k<=ts.length
 mb:i_ H A.mb (cY R)
 wt:H A.wt=some (.dK kvs)
 wk:∀k u,bD kvs k=some u->∃(m:Nat) (b:Addr),k=Sum.inl (m:Int)/\u=.ref b/\H b=some (.lst (aF (wl m)))/\H0 b=none/\b≠A.ro
 wn:∀m:Nat,bD kvs (Sum.inl (m:Int))=none->wl m=[]
 wi:∀k k' b,bD kvs k=some (.ref b)->bD kvs k'=some (.ref b)->k=k'
 wc:kvs.length<=n/\(∀m,(wl m).length<=n)/\n<=100
 fr:H0 A.ro=none
 fm:H0 A.mb=none
 fw:H0 A.wt=none
 ne:A.mb≠A.wt
section
variable {H0 H H':Hp}{A:RA}{ts:List Tg}{R:List Rw}{kvs:List (Key×V)}{wl:Nat->List Nat}{n:Nat}
theorem RS.len (h:RS a K H0 H A ts R kvs wl n):R.length<=63:=by
 have h1:=jv (m:=dC ts.length) h.rn λk hk=>dJ.mpr (h.rl k hk)
 unfold cY dC at h1;rw [List.length_map,List.length_map,List.length_range] at h1;have:=h.bX;omega
theorem RS.same (h:RS a K H0 H A ts R kvs wl n) (k:aj H H'):RS a K H0 H' A ts R kvs wl n:=by
 obtain⟨dx,h1⟩:=h.ob;obtain⟨xs,h2,h3,h4⟩:=h.rs;exact⟨⟨dx,k _ _ h1⟩,h.sm.trans k,h.tb,h.ok,h.bX,⟨xs,k _ _ h2,h3,λi x r a b=>k _ _ (h4 i x r a b)⟩,h.rn,h.rl,k _ _ h.mb,k _ _ h.wt,λq u e=>by
  obtain⟨m,b,e1,e2,e3,e4⟩:=h.wk q u e;exact⟨m,b,e1,e2,k _ _ e3,e4⟩,h.wn,h.wi,h.wc,h.fr,h.fm,h.fw,h.ne⟩
theorem RS.tb2 (h:RS a K H0 H A ts R kvs wl n):se K H A.bs ts:=h.tb.same h.sm
theorem RS.add (h:RS a K H0 H A ts R kvs wl n) {k:Nat}(hk:k∉cY R) (hle:1<=k/\k<=ts.length) {how:Str}{o:Nat}{xs:List Addr}{t:Addr}(Qh:H A.ro=some (.lst (xs.map V.ref))) (Hs:xs.length=R.length) (hxr:∀(i:Nat) x r,xs[i]?=some x->R[i]?=some r->H x=some (.tup r.items)) (ht:upd H A.mb (.dK (putK (dQ (cY R)) (Sum.inl (k:Int)) (.bl true))) t=none) :
  RS a K H0 (upd (upd (upd H A.mb (.dK (putK (dQ (cY R)) (Sum.inl (k:Int)) (.bl true)))) t (.tup [.int (k:Nat),.str how,.int (o:Nat)])) A.ro (.lst (xs.map V.ref++[.ref t]))) A ts (R++[⟨k,how,some o⟩]) kvs wl n /\
  ∀b u,b≠A.ro->b≠A.mb->H b=some u->upd (upd (upd H A.mb (.dK (putK (dQ (cY R)) (Sum.inl (k:Int)) (.bl true)))) t (.tup [.int (k:Nat),.str how,.int (o:Nat)])) A.ro (.lst (xs.map V.ref++[.ref t])) b=some u:=by
 have hm:H A.mb=some (.dK (dQ (cY R))):=h.mb;have Y3:A.mb≠A.ro:=λe=>by rw [e,Qh] at hm; cases hm
 have ntm:t≠A.mb:=λe=>by rw [e,ae] at ht; cases ht
 have VB:H t=none:=by rw [au ntm] at ht; exact ht
 have ntr:t≠A.ro:=λe=>by rw [e,Qh] at VB; cases VB
 have kp:∀b u,b≠A.ro->b≠A.mb->H b=some u->upd (upd (upd H A.mb (.dK (putK (dQ (cY R)) (Sum.inl (k:Int)) (.bl true)))) t (.tup [.int (k:Nat),.str how,.int (o:Nat)])) A.ro (.lst (xs.map V.ref++[.ref t])) b=some u:=λb u b1 b2 e=>by
  rw [au b1,au (az e VB),au b2];exact e
 obtain⟨dx,h1⟩:=h.ob;have ep:putK (dQ (cY R)) (Sum.inl (k:Int)) (.bl true)=dQ (cY R++[k]):=by
  rw [jm _ (by rw [lZ,if_neg hk])];unfold dQ;rw [List.map_append];rfl
 refine⟨⟨⟨dx,kp _ _ (λe=>by rw [e,Qh] at h1; cases h1) (λe=>by rw [e,hm] at h1; cases h1) h1⟩,.putD (.putD (.putD h.sm h.fm) (h.sm.free VB)) h.fr,h.tb,h.ok,h.bX,⟨xs++[t],by rw [ae,List.map_append]; rfl,by rw [List.length_append,List.length_append,Hs]; rfl,λi x r hx hr=>?_⟩,?_,λj hj=>?_,?_,kp _ _ (λe=>by have:=h.wt; rw [e,Qh] at this; cases this) h.ne.symm h.wt,λq u e=>?_,h.wn,h.wi,h.wc,h.fr,h.fm,h.fw,h.ne⟩,kp⟩
 ·by_cases hi:i < xs.length
  ·rw [List.getElem?_append_left hi] at hx;rw [List.getElem?_append_left (by rw [<-Hs]; exact hi)] at hr;have e:=hxr i x r hx hr;exact kp _ _ (λz=>by rw [z,Qh] at e; cases e) (λz=>by rw [z,hm] at e; cases e) e
  ·have e:i=xs.length:=by
    have:=(List.getElem?_eq_some_iff.mp hx).1;rw [List.length_append,List.length_singleton] at this;omega
   subst e;rw [List.getElem?_append_right (Nat.le_refl _),Nat.sub_self] at hx;rw [Hs,List.getElem?_append_right (Nat.le_refl _),Nat.sub_self] at hr;cases hx;cases hr;rw [au ntr,ae];rfl
 ·rw [fq];refine List.nodup_append.mpr ⟨h.rn,by simp,λx hx y hy e=>?_⟩;rw [List.mem_singleton.mp hy] at e;have e2:x=k:=e;exact hk (e2▸hx)
 ·rw [fq] at hj;rcases List.mem_append.mp hj with hj | hj
  ·exact h.rl j hj
  ·rw [List.mem_singleton.mp hj];exact hle
 ·unfold i_;rw [au Y3,au ntm.symm,ae,ep,fq]
 ·obtain⟨m,b,e1,e2,e3,e4,e5⟩:=h.wk q u e;exact⟨m,b,e1,e2,kp _ _ e5 (λz=>by rw [z,hm] at e3; cases e3) e3,e4,e5⟩
end
noncomputable def LL (a:ft) (K:PySem.W.Frag):Sp:=λvs H Q _=>∃H0 A ts R kvs wl n,∃(l:Addr) (N:List Nat) (how:Str) (o:Nat),vs=[.ref A.p,.ref l,.str how,.int (o:Nat)]/\RS a K H0 H A ts R kvs wl n/\H l=some (.lst (aF N))/\l≠A.ro/\(∀k∈N,1<=k/\k<=ts.length) /\
 ∀H',RS a K H0 H' A ts (dy R N how o) kvs wl n->(∀b u,b≠A.ro->b≠A.mb->H b=some u->H' b=some u)->Q .bM H'
noncomputable def IBr (a:ft) (K:PySem.W.Frag) (H0:Hp) (A:RA) (ts:List Tg) (R:List Rw) (kvs:List (Key×V)) (wl:Nat->List Nat) (n:Nat) (l:Addr) (N:List Nat) (how:Str) (o:Nat) (H1:Hp) (i:Nat) (σ:St) (H:Hp):Prop:=(∃v4,σ=[some (.ref A.p),some (.ref l),some (.str how),some (.int (o:Nat)),v4])/\RS a K H0 H A ts (dy R (N.take i) how o) kvs wl n/\∀b u,b≠A.ro->b≠A.mb->H1 b=some u->H b=some u
theorem LM (T:Txt K mg a):aS P w K mg base cU 1 a.yt a.yu ["self","names","how","other"] (LL a K):=by
 refine T.Aw.ok J5 (λvs H Q E h=>?_) (λcf A outer s H vs Q E hr h=>?_)
 ·obtain⟨_,_,_,_,_,_,_,_,_,_,_,rfl,_⟩:=h;rfl
 ·obtain⟨H0,A,ts,R,kvs,wl,n,l,N,how,o,rfl,h,hl,nl,hN,q⟩:=h;refine⟨_,(ah (cS PassesOwn.never rfl (cx (pv 1)) (aU (i:=4) J5.nd rfl (Or.inl rfl)) av)),?_⟩;dsimp! [];have nlm:l≠A.mb:=λe=>by
   have:=h.mb;unfold i_ at this;rw [<-e,hl] at this;cases this
  refine⟨⟨_,bf.of hl⟩,dA (aF N) (IBr a K H0 A ts R kvs wl n l N how o H) ⟨⟨_,rfl⟩,h,λ_ _ _ _ e=>e⟩ (λi σ' H' _ hh=>bf.of (hh.2.2 _ _ nl nlm hl)) (λi x σ' H2 hx hh=>?_) λσ' H2 hh=>?_⟩
  ·obtain⟨k,hk,rfl⟩:=du hx;obtain⟨⟨v4,rfl⟩,h2,k2⟩:=hh;refine gN ?_;refine aM.of (ah (aQ (oU (jJ (bI hr) (pv 4) (b_ (pv 0) rfl))) (ag (dc (bI hr) (b_ (pv 0) rfl) (pv 4) dk rfl) (ah (bx (nE PySem.F.plainAttrs_list PySem.F.slot_list_append PySem.F.type_list_append fA (b_ (pv 0) rfl) (aa (bp (aa (pv 4) (aa (pv 2) (aa (pv 3) af)))) af))))) aG)) ?_;obtain⟨dx,h1⟩:=h2.ob;dsimp! [h1,HO.ins.injEq,T.br,T.cu,LJ];have wN:dy R (N.take (i+1)) how o=sf how o (dy R (N.take i) how o) k:=by
    unfold dy;rw [List.take_add_one,hk,List.foldl_append];rfl
   generalize dy R (N.take i) how o=R1 at h2 wN;have hRl:=h2.len;refine⟨_,h2.mb.ask k,?_⟩;rw [l_]
   by_cases xy:k∈cY R1
   ·rw [decide_eq_true xy];refine cV ⟨⟨_,rfl⟩,?_,k2⟩;rw [wN];unfold sf;rw [if_pos xy];exact h2
   ·rw [decide_eq_false xy];obtain⟨xs,kh,ED,Gx⟩:=h2.rs;have jR:H2 A.mb=some (.dK (dQ (cY R1))):=h2.mb;have np:A.p≠A.mb:=λe=>by rw [e,jR] at h1; cases h1
    have Y3:A.ro≠A.mb:=λe=>by rw [e,jR] at kh; cases kh
    have lm:(dQ (cY R1)).length<=63:=by
     rw [dZ];unfold cY;rw [List.length_map];exact hRl
    refine hW ⟨_,gS.k (k:=Sum.inl (k:Int)) jR (aJ (by omega)),_,dx,_,by rw [au np]; exact h1,T.br,T.cm,_,vy A,.inl ⟨rfl,_,bf.of (by rw [au Y3]; exact kh)⟩,by decide,λt ht=>?_⟩;obtain⟨h3,k3⟩:=h2.add (how:=how) (o:=o) xy (hN k (List.mem_of_getElem? hk)) kh ED Gx ht;have ntr:A.ro≠t:=az (by rw [au Y3]; exact kh) ht;refine⟨A.ro,_,_,rfl,rfl,by rw [au ntr,au Y3]; exact kh,aJ (by rw [List.length_map]; omega),⟨_,rfl⟩,?_,λb u b1 b2 e=>k3 b u b1 b2 (k2 b u b1 b2 e)⟩;rw [wN];unfold sf;rw [if_neg xy];exact h3
  ·obtain⟨⟨v4,rfl⟩,h2,k2⟩:=hh;rw [bj,List.take_length] at h2;exact q H2 h2 k2
theorem RM.next {ts:List Tg}{S0:List Nat}{R:List Rw}{wl LN:Nat->List Nat}{n:Nat}(h:RM ts S0 R wl n) {r:Rw}{t:Tg}(hr:R[n]?=some r) (ht:kF ts r.k t) (hh:∀j∈gb t,j∈cY R) (rX:∀m s,s∈wl m->s∈LN m) (mE:∀m s,s∈LN m->s∈wl m\/(s=r.k/\fJ t=some m))
  (Gy:∀m,fJ t=some m->(∀j∈valN t,j∈cY R)\/(m∉cY (R.take (n+1))/\r.k∈LN m)) (Y4:∀s u,s∈wl r.k->kF ts s u->∀j∈valN u,j∈cY R):RM ts S0 R LN (n+1):=by
 have gY:=(List.getElem?_eq_some_iff.mp hr).1;refine⟨h.nd,h.Qi,h.bl,h.VA,h.lst,λi q u hi e hu=>?_,λi q u m hi e hu hm=>?_,λm s hs=>?_,gY⟩
 ·rcases Nat.lt_or_eq_of_le (Nat.le_of_lt_succ hi)with z | z
  ·exact h.hld i q u z e hu
  ·subst z;rw [hr] at e;cases e
   cases ht.one hu
   exact hh
 ·rcases Nat.lt_or_eq_of_le (Nat.le_of_lt_succ hi)with z | z
  ·rcases h.wai i q u m z e hu hm with y | ⟨y1,y2⟩
   ·exact .inl y
   ·by_cases c:m=r.k
    ·rw [c] at y2;exact .inl (Y4 _ u y2 hu)
    ·refine .inr ⟨λw=>?_,rX m _ y2⟩;rw [List.take_add_one,hr] at w;have w2:m∈cY (R.take n++[r]):=w;rw [fq] at w2;rcases List.mem_append.mp w2 with w2 | w2
     ·exact y1 w2
     ·exact c (List.mem_singleton.mp w2)
  ·subst z;rw [hr] at e;cases e
   cases ht.one hu
   exact Gy m hm
 ·rcases mE m s hs with z | ⟨rfl,z⟩
  ·exact h.YZ m s z
  ·exact⟨List.mem_map.mpr ⟨r,List.mem_of_getElem? hr,rfl⟩,t,ht,z⟩
noncomputable def qJ (a:ft) (K:PySem.W.Frag):Sp:=λvs H Q _=>∃H0 A ts R kvs wl n,∃(s:Nat) (k v:Vl),vs=[.ref A.p,.int (s:Nat)]/\RS a K H0 H A ts R kvs wl n/\kF ts s (.pair k v) /\
 ∀H',RS a K H0 H' A ts (dy R (valN (.pair k v)) "pair" s) kvs wl n->(∀b u,b≠A.ro->b≠A.mb->H b=some u->H' b=some u)->Q .bM H'
theorem LO (T:Txt K mg a):aS P w K mg base cU 5 a.yv a.yw ["self","serial"] (qJ a K):=by
 refine T.Ax.ok TK (λvs H Q E h=>?_) (λcf A outer s H vs Q E hr h=>?_)
 ·obtain⟨_,_,_,_,_,_,_,_,_,_,rfl,_⟩:=h;rfl
 ·obtain⟨H0,A,ts,R,kvs,wl,n,s,k,v,rfl,h,hs,q⟩:=h;refine⟨_,(ah (bx (aR (pv 0) T.br T.Cv (LM T) (hr.mono (by decide)) T.KD .nil aC (aa (aE (Ly T) (hr.mono (by decide)) rfl T.Kz T.pS.kp T.Ky .nil aC (aa (cH (bI hr) (b_ (pv 0) rfl) (pv 1) (λ_ _=>rfl)) af)) (aa aA (aa (pv 1) af)))))),?_⟩;obtain⟨dx,h1⟩:=h.ob;have f1:=mR (A:=A) (n:="bring");dsimp! [h1,HO.ins.injEq,T.br,T.bY,LI,f1];obtain⟨p,lf,hp,hg⟩:=h.tb2.get hs;obtain⟨xs,kh,_,_⟩:=h.rs;refine⟨_,hg,p,lf,k,v,ts.length,rfl,hp,h.ok _ hs.mem v (List.mem_cons_of_mem _ List.mem_cons_self),λr H1 s1 ur A3=>⟨H0,A,ts,R,kvs,wl,n,r,_,_,s,rfl,h.same s1,A3,(az kh ur).symm,λj hj=>h.ok.val hs.mem hj,λH' h' k'=>q H' h' λb u b1 b2 e=>k' b u b1 b2 (s1 _ _ e)⟩⟩
theorem RS.wait {H0 H H':Hp}{A:RA}{ts:List Tg}{R:List Rw}{kvs iP:List (Key×V)}{wl:Nat->List Nat}{n:Nat}(h:RS a K H0 H A ts R kvs wl n) (hn:n < 100) {m s:Nat}{b:Addr}(sm:aj H0 H') (kp:∀c u,c≠b->c≠A.wt->H c=some u->H' c=some u) (hbw:b≠A.ro) (hbl:H b=none\/∃ys,H b=some (.lst ys)) (Vu:H0 b=none) (hb:H' b=some (.lst (aF (wl m++[s])))) (hw:H' A.wt=some (.dK iP))
  (e1:bD iP (Sum.inl (m:Int))=some (.ref b)) (e2:∀k,k≠Sum.inl (m:Int)->bD iP k=bD kvs k) (e3:∀k,bD kvs k=some (.ref b)->k=Sum.inl (m:Int)) (e4:iP.length<=n+1) :
  RS a K H0 H' A ts R iP (λj=>if j=m then wl m++[s] else wl j) (n+1):=by
 obtain⟨dx,h1⟩:=h.ob;obtain⟨xs,h2,h3,h4⟩:=h.rs;have hm:H A.mb=some (.dK (dQ (cY R))):=h.mb;have NJ:=h.wt;have nb:∀c u,H c=some u->(∀ys,u≠.lst ys)->c≠b:=λc u e no z=>by
  rw [z] at e;rcases hbl with y | ⟨ys,y⟩
  ·rw [y] at e;cases e
  ·rw [y] at e;cases e;exact no ys rfl
 have nr:A.ro≠A.wt:=λz=>by rw [z,NJ] at h2; cases h2
 refine⟨⟨dx,kp _ _ (nb _ _ h1 λys z=>by cases z) (λz=>by rw [z,NJ] at h1; cases h1) h1⟩,sm,h.tb,h.ok,h.bX,⟨xs,kp _ _ hbw.symm nr h2,h3,λi x r c d=>?_⟩,h.rn,h.rl,kp _ _ (nb _ _ hm λys z=>by cases z) h.ne hm,hw,λk u e=>?_,λj e=>?_,λk k' c c1 c2=>?_,⟨e4,λj=>?_,by omega⟩,h.fr,h.fm,h.fw,h.ne⟩
 ·have e:=h4 i x r c d;exact kp _ _ (nb _ _ e λys z=>by cases z) (λz=>by rw [z,NJ] at e; cases e) e
 ·by_cases z:k=Sum.inl (m:Int)
  ·rw [z,e1] at e;cases e;exact⟨m,b,z,rfl,by rw [if_pos rfl]; exact hb,Vu,hbw⟩
  ·rw [e2 k z] at e;obtain⟨j,c,f1,f2,f3,f4,f5⟩:=h.wk k u e;have njm:j≠m:=λy=>z (by rw [f1,y])
   refine⟨j,c,f1,f2,?_,f4,f5⟩;rw [if_neg njm];refine kp _ _ (λy=>?_) (λy=>by rw [y,NJ] at f3; cases f3) f3;rw [f2,y] at e;exact z (e3 k e)
 ·by_cases z:j=m
  ·rw [z,e1] at e;cases e
  ·rw [if_neg z];rw [e2 _ λy=>z (by have:(j:Int)=(m:Int):=Sum.inl.inj y; omega)] at e;exact h.wn j e
 ·by_cases z:k=Sum.inl (m:Int)
  ·by_cases z':k'=Sum.inl (m:Int)
   ·rw [z,z']
   ·rw [z,e1] at c1;cases c1;rw [e2 k' z'] at c2;exact absurd (e3 k' c2) z'
  ·by_cases z':k'=Sum.inl (m:Int)
   ·rw [z',e1] at c2;cases c2;rw [e2 k z] at c1;exact absurd (e3 k c1) z
   ·rw [e2 k z] at c1;rw [e2 k' z'] at c2;exact h.wi k k' c c1 c2
 ·have:=h.wc.2.1 j;have h2:=h.wc.2.1 m;show(if j=m then wl m++[s] else wl j).length<=n+1;split
  ·rw [List.length_append,List.length_singleton];omega
  ·omega
theorem RS.up {H0 H:Hp}{A:RA}{ts:List Tg}{R:List Rw}{kvs:List (Key×V)}{wl:Nat->List Nat}{n:Nat}(h:RS a K H0 H A ts R kvs wl n) (hn:n < 100):RS a K H0 H A ts R kvs wl (n+1):=
 ⟨h.ob,h.sm,h.tb,h.ok,h.bX,h.rs,h.rn,h.rl,h.mb,h.wt,h.wk,h.wn,h.wi,⟨Nat.le_succ_of_le h.wc.1,λm=>Nat.le_succ_of_le (h.wc.2.1 m),by omega⟩,h.fr,h.fm,h.fw,h.ne⟩
theorem VC {R R':List Rw}(h:R <+: R') {i:Nat}{r:Rw}(e:R[i]?=some r):R'[i]?=some r:=by
 obtain⟨m,rfl⟩:=h;rw [List.getElem?_append_left (List.getElem?_eq_some_iff.mp e).1];exact e
theorem pre_take {R R':List Rw}(h:R <+: R') {i:Nat}(hi:i<=R.length):R'.take i=R.take i:=by
 obtain⟨m,rfl⟩:=h;rw [List.take_append_of_le_length hi]
noncomputable def valOf (ts:List Tg) (o:Nat):List Nat:=match ts[o - 1]? with
 | some t=>valN t
 | none=>[]
theorem qK {ts:List Tg}{o:Nat}{t:Tg}(h:kF ts o t):valOf ts o=valN t:=by
 obtain⟨i,rfl,e⟩:=h;unfold valOf;rw [Nat.add_sub_cancel,e]
noncomputable def iq (ts:List Tg) (R:List Rw) (os:List Nat):List Rw:=os.foldl (λR o=>dy R (valOf ts o) "pair" o) R
theorem mS (ts:List Tg):∀(os:List Nat) (R:List Rw),R <+: iq ts R os
 | [],_=>List.prefix_refl _
 | o::os,R=>(fL "pair" o (valOf ts o) R).trans (mS ts os _)
theorem uu (ts:List Tg):∀(os:List Nat) (R:List Rw) (o:Nat),o∈os->∀j∈valOf ts o,j∈cY (iq ts R os)
 | p::os,R,o,h,j,hj=>by
  rcases List.mem_cons.mp h with rfl | h
  ·exact ee (mS ts os _) (iT "pair" o _ R j hj)
  ·exact uu ts os _ o h j hj
theorem RM.iq {ts:List Tg}{S0:List Nat}{wl:Nat->List Nat}{n s:Nat}:∀(os:List Nat) {R:List Rw},RM ts S0 R wl n->s∈cY R->(∀o∈os,o∈cY R/\∃t,kF ts o t/\fJ t=some s)->RM ts S0 (iq ts R os) wl n
 | [],_,h,_,_=>h
 | o::os,R,h,hs,ho=>by
  have h1:RM ts S0 (dy R (valOf ts o) "pair" o) wl n:=RM.bring _ h λk hk=>by
   obtain⟨a1,t,a2,a3⟩:=ho o List.mem_cons_self;rw [qK a2] at hk;exact⟨a1,t,a2,.inr ⟨rfl,s,a3,hs,hk⟩⟩
  have p:=fL "pair" o (valOf ts o) R;exact RM.iq os h1 (ee p hs) λo' BB=>⟨ee p (ho o' (List.mem_cons_of_mem _ BB)).1,(ho o' (List.mem_cons_of_mem _ BB)).2⟩
noncomputable def LP (a:ft) (K:PySem.W.Frag):Sp:=λvs H Q _=>∃H0 A ts S0 R kvs wl n,∃r:Rw,vs=[.ref A.p,.int (r.k:Nat)]/\RS a K H0 H A ts R kvs wl n/\RM ts S0 R wl n/\R[n]?=some r /\
 ∀H' R' iP LN,RS a K H0 H' A ts R' iP LN (n+1)->RM ts S0 R' LN (n+1)->Q .bM H'
noncomputable def JGo (a:ft) (K:PySem.W.Frag) (H0:Hp) (A:RA) (ts:List Tg) (S0:List Nat) (R1:List Rw) (wl:Nat->List Nat) (n:Nat) (r:Rw) (t:Tg) (p:Addr) (σ:St) (H:Hp):Prop:=σ=[some (.ref A.p),some (.int (r.k:Nat)),some (.ref p),some (oN (fJ t)),none]/\∃R2 qL sg,RS a K H0 H A ts R2 qL sg (n+1)/\RM ts S0 R2 wl n/\R1 <+: R2/\(∀m s,s∈wl m->s∈sg m)/\(∀m s,s∈sg m->s∈wl m\/(s=r.k/\fJ t=some m/\m∉cY R1))/\∀m,fJ t=some m->(∀j∈valN t,j∈cY R2)\/(m∉cY R1/\r.k∈sg m)
noncomputable def IGo (a:ft) (K:PySem.W.Frag) (H0:Hp) (A:RA) (ts:List Tg) (R2:List Rw) (qL:List (Key×V)) (sg:Nat->List Nat) (n:Nat) (r:Rw) (t:Tg) (p la:Addr) (i:Nat) (σ:St) (H:Hp):Prop:=(∃v4,σ=[some (.ref A.p),some (.int (r.k:Nat)),some (.ref p),some (oN (fJ t)),v4])/\RS a K H0 H A ts (iq ts R2 ((sg r.k).take i)) qL sg (n+1)/\H la=some (.lst (aF (sg r.k)))
theorem VD (T:Txt K mg a):aS P w K mg base cU 6 a.yx a.yy ["self","serial"] (LP a K):=by
 refine T.Ay.ok uZ (λvs H Q E h=>?_) (λcf A outer s H vs Q E hr h=>?_)
 ·obtain⟨_,_,_,_,_,_,_,_,_,rfl,_⟩:=h;rfl
 ·obtain⟨H0,A,ts,S0,R,kvs,wl,n,r,rfl,h,hm,Qm,q⟩:=h;refine⟨_,(ag (aN (i:=2) uZ.nd rfl (Or.inl rfl) (cH (bI hr) (b_ (pv 0) rfl) (pv 1) (λ_ _=>rfl))) av),?_⟩;obtain⟨dx,h1⟩:=h.ob;dsimp! [h1,HO.ins.injEq,T.br,T.bY,LI];have hrm:r.k∈cY R:=List.mem_map.mpr ⟨r,List.mem_of_getElem? Qm,rfl⟩;obtain⟨t,ht⟩:=kF.of (h.rl r.k hrm);obtain⟨p,lf,hp,hg⟩:=h.tb.xw h.sm ht;obtain⟨xs,kh,_,_⟩:=h.rs;refine⟨_,hg,?_⟩;refine aM.of (ag (bx (aR (pv 0) T.br T.Cv (LM T) (hr.mono (by decide)) T.KD .nil aC (aa (aE (Lw T) (hr.mono (by decide)) rfl T.Kv T.pQ.kp T.Ku .nil aC (aa (pv 2) af)) (aa aA (aa (pv 1) af))))) av) ?_;have f1:=mR (A:=A) (n:="bring");dsimp! [h1,HO.ins.injEq,f1];refine⟨p,lf,t,ts.length,rfl,hp.same h.sm,h.ok t ht.mem,λl1 BE=>⟨H0,A,ts,R,kvs,wl,n,l1,gb t,_,r.k,rfl,h.same (aj.put BE),ae,(az kh BE).symm,λk hk=>h.ok.held ht.mem hk,λH3 h3 k3=>?_⟩⟩;have m3:RM ts S0 (dy R (gb t) "held" r.k) wl n:=RM.bring _ hm λk hk=>⟨hrm,t,ht,.inl ⟨rfl,hk⟩⟩
  have p3:R <+: dy R (gb t) "held" r.k:=fL _ _ _ _;have g3:∀j∈gb t,j∈cY (dy R (gb t) "held" r.k):=λj hj=>iT _ _ _ _ j hj
  generalize dy R (gb t) "held" r.k=R1 at h3 m3 p3 g3;clear k3 BE hg;refine aM.of (ag (aN (i:=3) uZ.nd rfl (Or.inl rfl) (aE (Lx T) (hr.mono (by decide)) rfl T.Kx T.pR.kp T.Kw .nil aC (aa (pv 2) af))) av) ?_;dsimp! [];refine⟨p,lf,t,ts.length,rfl,hp.same h3.sm,h.ok t ht.mem,?_⟩;refine aM.of (ag mH av) ?_;dsimp! [];refine Et (JGo a K H0 A ts S0 R1 wl n r t p) (xr.of (aQ (oU (EM (bI hr) (pv 3) (b_ (pv 0) rfl))) (ah (bx (aR (pv 0) T.br T.Cw (LO T) (hr.mono (by decide)) T.KG .nil aC (aa (pv 1) af)))) (ah (aQ (aD oJ (pv 3) cB (aH _)) (ah (bx (nE PySem.F.plainAttrs_list PySem.F.slot_list_append PySem.F.type_list_append fA (nE PySem.F.plainAttrs_dict PySem.F.slot_dict_setdefault PySem.F.type_dict_setdefault FZ (b_ (pv 0) rfl) (aa (pv 3) (aa (bE af) af))) (aa (pv 1) af)))) aG))) ?_) ?_
  ·obtain⟨dx3,h13⟩:=h3.ob;have f2:=mR (A:=A) (n:="bring_value");dsimp! [h13,HO.ins.injEq,T.br,T.cu,T.cv,LJ,LK,II,f2];have gY:=(List.getElem?_eq_some_iff.mp Qm).1;have hlen:=h.len;have hn:n < 100:=by omega
   have hb:=h3.mb.YR (fJ t);generalize eb:inS (fJ t) (cY R1)=b at hb;refine⟨b,hb,?_⟩;have NK:=ee p3 hrm
   cases b with
   | true=>
    cases ek:fJ t with
    | none=>rw [ek] at eb; cases eb
    | some m=>
     rw [ek] at eb;have CN:m∈cY R1:=of_decide_eq_true eb;obtain⟨kk,vv,rfl⟩:=jP ek;refine hW ⟨H0,A,ts,R1,kvs,wl,n,r.k,kk,vv,rfl,h3,ht,λH' h' k'=>⟨by rw [ek],_,kvs,wl,h'.up hn,RM.bring _ m3 (λk hk=>⟨NK,_,ht,.inr ⟨rfl,m,ek,CN,hk⟩⟩),fL _ _ _ _,(λ_ _ z=>z),(λ_ _ z=>.inl z),λ_ _=>.inl λj hj=>iT _ _ _ _ j hj⟩⟩
   | false=>
    refine cV ?_
    cases ek:fJ t with
    | none=>exact aY (λz=>by simp [oN] at z) λ_=>⟨by rw [ek],R1,kvs,wl,h3.up hn,m3,List.prefix_refl _,(λ_ _ z=>z),(λ_ _ z=>.inl z),λm e=>by rw [ek] at e; cases e⟩
    | some m=>
     rw [ek] at eb;have CN:m∉cY R1:=of_decide_eq_false eb;refine aY (λ_=>⟨.inr (.inr (.inl ⟨rfl,.inl ⟨_,h3.wt⟩⟩)),λb hb=>⟨kvs,Sum.inl (m:Int),rfl,aj.put hb _ _ h3.wt,aJ (by have:=h3.wc; omega),?_⟩⟩) λz=>absurd (by simp [oN]) z
     have s5:aj H3 (upd H3 b (.lst [])):=aj.put hb;have h5:=h3.same s5;have hwl:=h3.wc.2.1 m;have rX:∀(j s:Nat),s∈wl j->s∈(if j=m then wl m++[r.k] else wl j):=λj s hs=>by
      split
      ·rename_i e;rw [e] at hs;exact List.mem_append_left _ hs
      ·exact hs
     have mE:∀(j s:Nat),s∈(if j=m then wl m++[r.k] else wl j)->s∈wl j\/(s=r.k/\fJ t=some j/\j∉cY R1):=λj s hs=>by
      split at hs
      ·rename_i e;subst e;rcases List.mem_append.mp hs with hs | hs
       ·exact .inl hs
       ·exact .inr ⟨List.mem_singleton.mp hs,ek,CN⟩
      ·exact .inl hs
     have Gy:∀j,fJ t=some j->(∀x∈valN t,x∈cY R1)\/(j∉cY R1/\r.k∈(if j=m then wl m++[r.k] else wl j)):=λj e=>by
      rw [ek] at e;cases e;refine .inr ⟨CN,?_⟩;rw [if_pos rfl];exact List.mem_append_right _ (List.mem_singleton.mpr rfl)
     have ea:∀ys:List Nat,aF ys++[V.int (r.k:Int)]=aF (ys++[r.k]):=λys=>by
      unfold aF;rw [List.map_append,List.map_append];rfl
     cases ev:bD kvs (Sum.inl (m:Int))with
     | some u=>
      obtain⟨m',b',e1,e2,e3,e4,e5⟩:=h3.wk _ u ev;have em:m'=m:=by
       have:(m:Int)=(m':Int):=Sum.inl.inj e1;omega
      subst em e2;have e6:=s5 _ _ e3;refine .inl ⟨_,rfl,.inl ⟨rfl,_,bf.of e6⟩,b',_,_,rfl,rfl,e6,aJ (by rw [bj]; omega),?_⟩;rw [ea];refine⟨by rw [ek],R1,kvs,_,h5.wait hn (s:=r.k) (.putD h5.sm e4) (λc u c1 c2 e=>by rw [au c1]; exact e) e5 (.inr ⟨_,e6⟩) e4 ae ?_ ev (λk _=>rfl) (λk hk=>h3.wi k _ b' hk ev) (Nat.le_succ_of_le h3.wc.1),m3,List.prefix_refl _,rX,mE,Gy⟩;rw [au λz=>by have:=h5.wt; rw [z,e6] at this; cases this];exact h5.wt
     | none=>
      have Vu:H0 b=none:=h3.sm.free hb;have nbw:b≠A.wt:=(az h3.wt hb).symm;obtain⟨xs3,Gx,_,_⟩:=h3.rs;have nbr:b≠A.ro:=(az Gx hb).symm;have hb6:upd (upd H3 b (.lst [])) A.wt (.dK (putK kvs (Sum.inl (m:Int)) (.ref b))) b=some (.lst []):=by rw [au nbw,ae]
      refine .inr ⟨rfl,.inl ⟨rfl,_,bf.of hb6⟩,b,_,_,rfl,rfl,hb6,by rw [sizeLine_eq]; decide,?_⟩;have ew:=h3.wn m ev;have el:aF (wl m++[r.k])=[V.int (r.k:Int)]:=by rw [ew]; rfl
      refine⟨by rw [ek],R1,putK kvs (Sum.inl (m:Int)) (.ref b),_,h5.wait hn (s:=r.k) (.putD (.putD h5.sm h.fw) Vu) (λc u c1 c2 e=>by rw [au c1,au c2]; exact e) nbr (.inr ⟨_,ae⟩) Vu (by rw [ae,el]; rfl) ?_ ?_ (λk hk=>?_) (λk hk=>?_) ?_,m3,List.prefix_refl _,rX,mE,Gy⟩
      ·rw [au nbw.symm,ae]
      ·rw [jl,if_pos rfl]
      ·rw [jl,if_neg hk]
      ·obtain⟨m',b',f1,f2,f3,_⟩:=h3.wk k _ hk;cases f2;rw [hb] at f3;cases f3
      ·have:=fT kvs (Sum.inl (m:Int)) (V.ref b);have:=h3.wc.1;omega
  ·rintro σ2 H4 ⟨rfl,R2,qL,sg,h4,m4,p4,rX,mE,Gy⟩;refine aM.of (ah (cS PassesOwn.never rfl (cx (pf (bI hr) (b_ (pv 0) rfl) (pv 1) (bE af) ⟨rfl,rfl,rfl,rfl⟩)) (aU (i:=4) uZ.nd rfl (Or.inl rfl)) av)) ?_;obtain⟨dx4,h14⟩:=h4.ob;dsimp! [h14,HO.ins.injEq,T.br,T.cv,LK];have NK:=ee p3 hrm;have Qn:∀s,s∈sg r.k->s∈wl r.k:=λs hs=>(mE r.k s hs).elim id λz=>absurd NK z.2.2
   refine⟨.inl ⟨qL,.inl h4.wt⟩,λb hb=>⟨bD qL (Sum.inl (r.k:Int)),fb.k (k:=Sum.inl (r.k:Int)) (aj.put hb _ _ h4.wt),?_⟩⟩;have s5:aj H4 (upd H4 b (.lst [])):=aj.put hb;have h5:=h4.same s5;obtain⟨xs4,hx4,_,_⟩:=h4.rs;have BL:H4 A.mb=some (.dK (dQ (cY R2))):=h4.mb;obtain⟨la,ela,hla,nl1⟩:∃la,(bD qL (Sum.inl (r.k:Int))).getD (.ref b)=.ref la/\upd H4 b (.lst []) la=some (.lst (aF (sg r.k)))/\la≠A.ro:=by
    cases ev:bD qL (Sum.inl (r.k:Int))with
    | none=>exact⟨b,rfl,by rw [ae,h4.wn _ ev]; rfl,(az hx4 hb).symm⟩
    | some u=>
     obtain⟨m',b',e1,e2,e3,_,e5⟩:=h4.wk _ u ev;have em:m'=r.k:=by
      have:(r.k:Int)=(m':Int):=Sum.inl.inj e1;omega
     rw [em] at e3;exact⟨b',by rw [e2]; rfl,s5 _ _ e3,e5⟩
   generalize upd H4 b (.lst [])=H5 at s5 h5 hla;have nl2:la≠A.mb:=λz=>by
    have:=s5 _ _ BL;rw [<-z,hla] at this;cases this
   refine⟨la,ela,⟨_,bf.of hla⟩,dA (aF (sg r.k)) (IGo a K H0 A ts R2 qL sg n r t p la) ⟨⟨_,rfl⟩,h5,hla⟩ (λi σ' H' _ hh=>bf.of hh.2.2) (λi x σ' H6 hx hh=>?_) λσ' H6 hh=>?_⟩
   ·obtain⟨o,ho,rfl⟩:=du hx;obtain⟨⟨v4,rfl⟩,h6,abz⟩:=hh;refine gN ?_;refine aM.of (ah (bx (aR (pv 0) T.br T.Cw (LO T) (hr.mono (by decide)) T.KG .nil aC (aa (pv 4) af)))) ?_;obtain⟨dx6,h16⟩:=h6.ob;have f2:=mR (A:=A) (n:="bring_value");dsimp! [h16,HO.ins.injEq,f2];obtain⟨_,u,hu,eu⟩:=m4.YZ r.k o (Qn o (List.mem_of_getElem? ho));obtain⟨kk,vv,rfl⟩:=jP eu;refine⟨H0,A,ts,_,qL,sg,n+1,o,kk,vv,rfl,h6,hu,λH' h' k'=>⟨⟨_,rfl⟩,?_,k' _ _ nl1 nl2 abz⟩⟩;have e:iq ts R2 ((sg r.k).take (i+1))=dy (iq ts R2 ((sg r.k).take i)) (valN (.pair kk vv)) "pair" o:=by
     unfold iq;rw [List.take_add_one,ho,List.foldl_append];show dy _ (valOf ts o) "pair" o=_;rw [qK hu]
    rw [e];exact h'
   ·obtain⟨⟨v4,rfl⟩,h6,_⟩:=hh;rw [bj,List.take_length] at h6;have p6:=mS ts (sg r.k) R2;have m6:RM ts S0 (iq ts R2 (sg r.k)) wl n:=m4.iq (s:=r.k) _ (ee p4 NK) λo ho=>m4.YZ r.k o (Qn o ho)
    have w6:∀s u,s∈wl r.k->kF ts s u->∀j∈valN u,j∈cY (iq ts R2 (sg r.k)):=λs u hs hu j hj=>uu ts _ R2 s (rX _ _ hs) j (by rw [qK hu]; exact hj)
    generalize iq ts R2 (sg r.k)=R3 at h6 p6 m6 w6;have pp:R <+: R3:=p3.trans (p4.trans p6);have gY:=(List.getElem?_eq_some_iff.mp Qm).1;refine q H6 R3 qL sg h6 (m6.next (VC pp Qm) ht (λj hj=>ee (p4.trans p6) (g3 j hj)) rX (λm s hs=>(mE m s hs).imp id λz=>⟨z.1,z.2.1⟩) (λm e=>?_) w6);rcases Gy m e with z | ⟨z1,z2⟩
    ·exact .inl λj hj=>ee p6 (z j hj)
    ·refine .inr ⟨λy=>z1 (ee p3 ?_),z2⟩;rw [pre_take pp gY] at y;unfold cY at y ⊢;obtain⟨q,hq,e⟩:=List.mem_map.mp y;exact List.mem_map.mpr ⟨q,List.mem_of_mem_take hq,e⟩
noncomputable def VE (a:ft) (K:PySem.W.Frag):Sp:=λvs H Q _=>∃(p d l dx:Addr) (S:List Nat),vs=[.ref p,.ref d,.ref l]/\H p=some (.ins a.aT dx [])/\H l=some (.lst (aF S))/\S.Nodup/\S.length<=63 /\
 ∀(A:RA) H',A.p=p->A.bs=d->(∀(H0:Hp) ts,(∀b u,H0 b=some u->b≠p/\H b=some u)->se K H0 d ts->sd ts->ts.length<=63->(∀k∈S,1<=k/\k<=ts.length)->RS a K H0 H' A ts (S.map λs=>(⟨s,"begin",none⟩:Rw)) [] (λ_=>[]) 0)->Q .bM H'
theorem VG (T:Txt K mg a):aS P w K mg base cU 4 a.yq a.yr ["self","things","some"] (VE a K):=by
 refine T.Av.ok TJ (λvs H Q E h=>?_) (λcf A outer s H vs Q E hr h=>?_)
 ·obtain⟨_,_,_,_,_,rfl,_⟩:=h;rfl
 ·obtain⟨p,d,l,dx,S,rfl,h1,hl,nd,bX,q⟩:=h;refine⟨_,(ag (gQ (pv 0) (pv 1) rfl) (ag (gQ (pv 0) (oZ rfl (B3 (x:="serial") (ns:=[]) (fr:=[]) rfl (by decide +kernel) rfl (by decide +kernel) rfl (List.forall_mem_nil _) rfl rfl (List.forall_mem_nil _) (by decide +kernel)) (cx (pv 2)) (λ_ _ _ _=>(bp (aa (pv 0) (aa aA (aa cB af))))) (λ_ _ _ _=>.nil)) rfl) (ag (gQ (pv 0) (aE (CO T) (hr.mono (by decide)) rfl T.E3 T.nT.kp T.E2 .nil aC (aa (pv 2) af)) rfl) (ah (gQ (pv 0) fU rfl))))),?_⟩;dsimp! [];refine⟨_,dx,[],h1,T.br,T.bY,by decide,?_⟩;have nl:l≠p:=λe=>by rw [e,h1] at hl; cases hl
  have BE:upd H p (.ins a.aT dx (bV "by_serial" (.ref d) [])) l=some (.lst (aF S)):=by rw [au nl]; exact hl
  have CL:upd H p (.ins a.aT dx (bV "by_serial" (.ref d) [])) p=some (.ins a.aT dx (bV "by_serial" (.ref d) [])):=ae;have k1:∀b u,b≠p->H b=some u->upd H p (.ins a.aT dx (bV "by_serial" (.ref d) [])) b=some u:=λb u nb e=>by rw [au nb]; exact e
  generalize upd H p (.ins a.aT dx (bV "by_serial" (.ref d) []))=H1 at BE CL k1 ⊢;refine⟨⟨_,bf.of BE⟩,λD hD=>?_⟩;have npD:p≠D:=az CL hD;refine EC (λi y H=>∃t k,S[i]?=some k/\y=.ref t/\H t=some (.tup [.int (k:Nat),.str "begin",.bM])) (λi y H H' h s=>?_) hD (bf.of BE) (by rw [bj]; omega) (λi x H2 zs R hx s2 Im r=>?_) λH2 ys s2 Im Nc hr=>?_
  ·obtain⟨t,k,e1,e2,e3⟩:=h;exact⟨t,k,e1,e2,s _ _ e3⟩
  ·obtain⟨k,hk,rfl⟩:=du hx;dsimp! [bP];refine⟨by decide,λt ht=>r _ _ (aj.put ht) ⟨t,k,hk,rfl,?_⟩⟩;unfold tm;rw [if_neg (az Im ht).symm];exact ae
  ·obtain⟨xs,ex,_⟩:=oQ (ys:=ys) λi y e=>by
    obtain⟨t,k,_,e2,_⟩:=hr i y e;exact⟨t,e2⟩
   rw [ex] at Im hr Nc;rw [List.length_map,bj] at Nc;have oi:=s2 _ _ CL;refine⟨_,dx,_,oi,T.br,T.cm,Nat.lt_of_le_of_lt (bO _ _ _) (by decide),?_⟩;have k2:∀b u,b≠p->H2 b=some u->upd H2 p (.ins a.aT dx (bV "rows" (.ref D) (bV "by_serial" (.ref d) []))) b=some u:=λb u nb e=>by rw [au nb]; exact e
   have Qf:upd H2 p (.ins a.aT dx (bV "rows" (.ref D) (bV "by_serial" (.ref d) []))) p=some (.ins a.aT dx (bV "rows" (.ref D) (bV "by_serial" (.ref d) []))):=ae;generalize upd H2 p (.ins a.aT dx (bV "rows" (.ref D) (bV "by_serial" (.ref d) [])))=H3 at k2 Qf ⊢;refine⟨l,S,rfl,bf.of (k2 _ _ nl (s2 _ _ BE)),nd,by omega,λmb H4 s4 hmb BL=>?_⟩;have BK:=s4 _ _ Qf;have npm:mb≠p:=(az Qf hmb).symm;refine⟨_,dx,_,BK,T.br,T.cu,Nat.lt_of_le_of_lt (bO _ _ _) (Nat.lt_of_le_of_lt (Nat.succ_le_succ (bO _ _ _)) (by decide)),?_⟩;have k4:∀b u,b≠p->H4 b=some u->upd H4 p (.ins a.aT dx (bV "members" (.ref mb) (bV "rows" (.ref D) (bV "by_serial" (.ref d) [])))) b=some u:=λb u nb e=>by rw [au nb]; exact e
   have Ff:upd H4 p (.ins a.aT dx (bV "members" (.ref mb) (bV "rows" (.ref D) (bV "by_serial" (.ref d) [])))) p=some (.ins a.aT dx (bV "members" (.ref mb) (bV "rows" (.ref D) (bV "by_serial" (.ref d) [])))):=ae;generalize upd H4 p (.ins a.aT dx (bV "members" (.ref mb) (bV "rows" (.ref D) (bV "by_serial" (.ref d) []))))=H5 at k4 Ff ⊢;intro wt NJ;have npw:p≠wt:=az Ff NJ;refine⟨_,dx,_,by rw [au npw]; exact Ff,T.br,T.cv,Nat.lt_of_le_of_lt (bO _ _ _) (Nat.lt_of_le_of_lt (Nat.succ_le_succ (bO _ _ _)) (Nat.lt_of_le_of_lt (Nat.succ_le_succ (Nat.succ_le_succ (bO _ _ _))) (by decide))),?_⟩;refine q ⟨p,d,D,mb,wt⟩ _ rfl rfl λH0 ts sub tb ok fw hS=>?_
   have k6:∀b u,b≠p->H5 b=some u->upd (upd H5 wt (.dK [])) p (.ins a.aT dx (bV "waiting" (.ref wt) (bV "members" (.ref mb) (bV "rows" (.ref D) (bV "by_serial" (.ref d) []))))) b=some u:=λb u nb e=>by
    rw [au nb,au (az e NJ)];exact e
   have k15:∀b u,b≠p->H1 b=some u->H5 b=some u:=λb u nb e=>k4 b u nb (s4 _ _ (k2 b u nb (s2 _ _ e)))
   have k25:∀b u,b≠p->H2 b=some u->H5 b=some u:=λb u nb e=>k4 b u nb (s4 _ _ (k2 b u nb e))
   have sm:aj H0 (upd (upd H5 wt (.dK [])) p (.ins a.aT dx (bV "waiting" (.ref wt) (bV "members" (.ref mb) (bV "rows" (.ref D) (bV "by_serial" (.ref d) [])))))):=λb u e=>by
    obtain⟨nb,e1⟩:=sub b u e;exact k6 b u nb (k15 b u nb (k1 b u nb e1))
   have fre:∀b,b≠p->H1 b=none->H0 b=none:=λb nb e=>by
    cases e0:H0 b with
    | none=>rfl
    | some u=>rw [k1 b u nb (sub b u e0).2] at e; cases e
   have es:cY (S.map λs=>(⟨s,"begin",none⟩:Rw))=S:=by
    unfold cY;rw [List.map_map];exact List.map_id' _
   have hD0:=fre D npD.symm hD;have hm0:H0 mb=none:=by
    cases e0:H0 mb with
    | none=>rfl
    | some u=>
     have:=k2 mb u npm (s2 _ _ (k1 mb u npm (sub mb u e0).2));rw [hmb] at this;cases this
   have hw0:H0 wt=none:=by
    cases e0:H0 wt with
    | none=>rfl
    | some u=>
     have:=k15 wt u npw.symm (k1 wt u npw.symm (sub wt u e0).2);rw [NJ] at this;cases this
   have Qo:H5 mb=some (.dK (dQ S)):=k4 mb _ npm BL;refine⟨⟨dx,ae⟩,sm,tb,ok,fw,⟨xs,k6 _ _ npD.symm (k25 _ _ npD.symm Im),by rw [List.length_map]; exact Nc,λi x r hx A3=>?_⟩,by rw [es]; exact nd,by rw [es]; exact hS,?_,by rw [au npw.symm,ae],(λk u e=>by cases e),(λ_ _=>rfl),(λk k' b e=>by cases e),⟨Nat.le_refl _,(λ_=>Nat.le_refl _),Nat.zero_le _⟩,hD0,hm0,hw0,az Qo NJ⟩
   ·obtain⟨t,k,e1,e2,e3⟩:=hr i (.ref x) (by rw [List.getElem?_map,hx]; rfl);cases e2;rw [List.getElem?_map,e1] at A3;cases A3;have nxp:x≠p:=λe=>by rw [e,oi] at e3; cases e3
    exact k6 _ _ nxp (k25 _ _ nxp e3)
   ·rw [es];exact k6 _ _ npm Qo
noncomputable def LQ (a:ft) (K:PySem.W.Frag):Sp:=λvs H Q _=>∃H0 A ts S0 R kvs wl n,vs=[.ref A.p]/\RS a K H0 H A ts R kvs wl n/\RM ts S0 R wl n/\n=0 /\
 ∀r H' R' LN,aj H0 H'->H0 r=none->RwL H' r R'->RM ts S0 R' LN R'.length->R'.length<=63->(∀k∈cY R',1<=k/\k<=ts.length)->Q (.ref r) H'
noncomputable def IGr (a:ft) (K:PySem.W.Frag) (H0:Hp) (A:RA) (ts:List Tg) (S0:List Nat) (m:Nat) (σ:St) (H:Hp):Prop:=∃n R kvs wl,σ=[some (.ref A.p),some (.int (n:Nat))]/\RS a K H0 H A ts R kvs wl n/\RM ts S0 R wl n/\m=63 - n
theorem VH (T:Txt K mg a):aS P w K mg base cU 7 a.yz a.yA ["self"] (LQ a K):=by
 refine T.Az.ok Cp (λvs H Q E h=>?_) (λcf A outer s H vs Q E hr h=>?_)
 ·obtain⟨_,_,_,_,_,_,_,_,rfl,_⟩:=h;rfl
 ·obtain⟨H0,A,ts,S0,R,kvs,wl,n,rfl,h,hm,rfl,q⟩:=h;refine⟨_,(ag (aN (i:=1) Cp.nd rfl (Or.inl rfl) ai) (ag (sW PassesOwn.never av) av)),?_⟩;dsimp! [];refine ww2 (IGr a K H0 A ts S0) (λσ H=>∃n R kvs wl,σ=[some (.ref A.p),some (.int (n:Nat))]/\RS a K H0 H A ts R kvs wl n/\RM ts S0 R wl R.length) 63 ⟨0,R,kvs,wl,rfl,h,hm,rfl⟩ ?_ ?_
  ·rintro m σ H2 ⟨n,R1,VI,wl1,rfl,h2,m2,rfl⟩;refine kd.of (aD G6 (pv 1) (aI cz rfl T.fk dS (aa (b_ (pv 0) rfl) af)) (aH _)) ?_;obtain⟨dx,h1⟩:=h2.ob;dsimp! [h1,HO.ins.injEq,T.br,T.cm,vy];obtain⟨xs,kh,ED,Gx⟩:=h2.rs;have hlen:=h2.len;refine⟨_,.inl (bf.of kh),aY (λz=>?_) λz=>?_⟩
   ·have gY:n < R1.length:=by
     have:=of_decide_eq_true z;rw [List.length_map] at this;omega
    refine aM.of (ag (bx (aR (pv 0) T.br T.KH (VD T) (hr.mono (by decide)) T.OQ .nil aC (aa (aq ak (aq cy (b_ (pv 0) rfl) (pv 1) (λ_ _=>rfl)) ai (λ_ _=>rfl)) af))) (ah (R9 (i:=1) Cp.nd rfl (Or.inl rfl) ai R_))) ?_;have f1:=mR (A:=A) (n:="go_on_from");dsimp! [h1,HO.ins.injEq,T.br,T.cm,vy,f1];have er:R1[n]?=some R1[n]:=List.getElem?_eq_getElem gY;have ex:xs[n]?=some (xs[n]'(by omega)):=List.getElem?_eq_getElem _;have ht:=Gx n _ _ ex er;refine vp (bf.of kh) (cG (by rw [List.getElem?_map,ex]; rfl)) (bF (bS.of ht) rfl ⟨H0,A,ts,S0,R1,VI,wl1,n,_,rfl,h2,m2,er,λH' R' iP LN h' m'=>?_⟩);have:=h'.len;have:=m'.le;exact⟨62 - n,by omega,n+1,R',iP,LN,rfl,h',m',by omega⟩
   ·have hge:R1.length<=n:=by
     refine Nat.le_of_not_lt λy=>z (decide_eq_true ?_)
     rw [List.length_map];omega
    have e:n=R1.length:=Nat.le_antisymm m2.le hge;rw [e] at m2;exact⟨n,rfl,R1,VI,wl1,h2,m2⟩
  ·rintro σ H2 ⟨n,R1,VI,wl1,rfl,h2,m2⟩;refine aM.of (ah (aw (bW eZ rfl T.fH fM (aa (b_ (pv 0) rfl) af)))) ?_;obtain⟨dx,h1⟩:=h2.ob;dsimp! [h1,HO.ins.injEq,T.br,T.cm,vy];obtain⟨xs,kh,ED,Gx⟩:=h2.rs;exact⟨_,.inl (bf.of kh),λl hl=>q l _ R1 wl1 (h2.sm.trans (aj.put hl)) (h2.sm.free hl) ⟨xs,ae,ED,λi x r a b=>aj.put hl _ _ (Gx i x r a b)⟩ m2 h2.len h2.rl⟩
noncomputable def VJ (K:PySem.W.Frag):Sp:=λvs H Q _=>∃(d l:Addr) (ts:List Tg) (S:List Nat),vs=[.ref d,.ref l]/\se K H d ts/\sd ts/\ts.length<=63/\H l=some (.lst (aF S))/\S.Nodup/\(∀k∈S,1<=k/\k<=ts.length) /\
 ∀r H' R wl,aj H H'->H r=none->RwL H' r R->RM ts S R wl R.length->R.length<=63->(∀k∈cY R,1<=k/\k<=ts.length)->Q (.ref r) H'
theorem LR (T:Txt K mg a):aS P w K mg base cU 8 a.yB a.yC ["things","some"] (VJ K):=by
 refine T.pV.ok TL (λvs H Q E h=>?_) (λcf A outer s H vs Q E hr h=>?_)
 ·obtain⟨_,_,_,_,rfl,_⟩:=h;rfl
 ·obtain⟨d,l,ts,S,rfl,h,ok,bX,hl,nd,hS,q⟩:=h;refine⟨_,(ah (aw (jh (jH T.pU (VG T) (hr.mono (by decide)) rfl T.qm T.OP .nil aC (aa (pv 0) (aa (pv 1) af))) T.br T.KI (VH T) (hr.mono (by decide)) T.OR .nil aC))),?_⟩;dsimp! [];have lS:S.length<=63:=Nat.le_trans (jv (m:=dC ts.length) nd λk hk=>dJ.mpr (hS k hk)) (by unfold dC; rw [List.length_map,List.length_range]; exact bX);intro x dx hx CD ne;have sub:∀b u,H b=some u->b≠x/\upd (upd H dx (.own x)) x (.ins a.aT dx []) b=some u:=λb u e=>by
   have n1:=az e hx;exact⟨n1,by rw [au n1,au (az e CD)]; exact e⟩
  refine⟨x,d,l,dx,S,rfl,ae,(sub _ _ hl).2,nd,lS,λA H2 e1 e2 hRS=>?_⟩;have rs:=hRS H ts sub h ok bX hS;obtain⟨UB,ho⟩:=rs.ob;subst e1;exact⟨rfl,UB,_,ho,mR,H,A,ts,S,_,[],_,0,rfl,rs,RM.start nd,rfl,λr H' R wl s' Xh hR hm hlen hle=>q r H' R wl s' Xh hR hm hlen hle⟩
noncomputable def VL (K:PySem.W.Frag):Sp:=λvs H Q _=>∃(d l:Addr) (ts:List Tg) (S:List Nat),vs=[.ref d,.ref l]/\se K H d ts/\sd ts/\ts.length<=63/\H l=some (.lst (aF S))/\S.Nodup/\(∀k∈S,1<=k/\k<=ts.length) /\
 ∀r H',aj H H'->H r=none->H' r=some (.lst (aF (cls ts S)))->Q (.ref r) H'
theorem VN (T:Txt K mg a):aS P w K mg base cU 10 a.yD a.yE ["things","some"] (VL K):=by
 refine T.tN.ok TM (λvs H Q E h=>?_) (λcf A outer s H vs Q E hr h=>?_)
 ·obtain⟨_,_,_,_,rfl,_⟩:=h;rfl
 ·obtain⟨d,l,ts,S,rfl,h,ok,bX,hl,nd,hS,q⟩:=h;refine⟨_,(ah (aw (aI uT rfl T.dY fE (aa (oZ rfl (B3 (x:="row") (ns:=[]) (fr:=[]) rfl (by decide +kernel) rfl (by decide +kernel) rfl (List.forall_mem_nil _) rfl rfl (List.forall_mem_nil _) (by decide +kernel)) (cx (aE (LR T) (hr.mono (by decide)) rfl T.KL T.pV.kp T.KJ .nil aC (aa (pv 0) (aa (pv 1) af)))) (λ_ _ _ _=>(aq (uN (K:=K) rfl) (pv 0) ai (λ_ _=>rfl))) (λ_ _ _ _=>.nil)) af)))),?_⟩;dsimp! [];refine⟨d,l,ts,S,rfl,h,ok,bX,hl,nd,hS,λr H1 R wl s1 ur ⟨xs,kh,ED,Gx⟩ hm hlen hle=>?_⟩;refine⟨r,rfl,⟨_,bf.of kh⟩,λD hD=>lr (xs.map V.ref) R (λr=>some (.int (r.k:Nat))) (by rw [List.length_map]; omega) (by rw [List.length_map,ED]) (λys=>(aj.put hD).seq (bf.of kh)) (λi x b ys R hx hb r=>r) (λi x b y ys R2 hx hb hy r=>?_) ?_⟩
  ·rw [List.getElem?_map] at hx
   cases e:xs[i]? with
   | none=>rw [e] at hx; cases hx
   | some t=>
    rw [e] at hx;cases hx;cases hy;have ht:=Gx i t b e hb;dsimp! [bP];exact bF (bS.of (aj.put hD _ _ ht)) rfl r
  ·have e1:R.filterMap (λr=>some (V.int ((r.k:Nat):Int)))=aF (cY R):=by
    rw [List.filterMap_eq_map'];unfold aF cY;rw [List.map_map,List.map_map];rfl
   rw [e1];refine⟨(cY R).map λ(k:Nat)=>(k:Int),bf.of ae,by rw [List.length_map]; unfold cY; rw [List.length_map]; omega,λl2 ns gg pm ps=>?_⟩;have e2:=kG pm ps hm.nd (mQ ts S) λx=>by rw [hm.done,iS ok hS]
   rw [e2];exact q l2 _ (s1.trans ((aj.put hD).trans (aj.put gg))) ((s1.trans (aj.put hD)).free gg) ae
noncomputable def ma (U:List Nat) (k:Nat):List Nat:=if k∈U then U else U++[k]
theorem jz (U:List Nat) (k:Nat):putK (dQ U) (Sum.inl (k:Int)) (.bl true)=dQ (ma U k):=by
 unfold ma
 by_cases h:k∈U
 ·rw [if_pos h];unfold putK;rw [dW,lZ,if_pos h,if_pos (show(some (V.bl true)).isSome=true from rfl)];unfold dQ;rw [List.map_map];refine List.map_congr_left λj _=>?_
  show(if (Sum.inl (j:Int):Key)=Sum.inl (k:Int)then((Sum.inl (j:Int):Key),V.bl true)else _)=_
  split <;> rfl
 ·rw [if_neg h,jm _ (by rw [lZ,if_neg h])];unfold dQ;rw [List.map_append];rfl
theorem Fi {U:List Nat}{k:Nat}(h:U.Nodup):(ma U k).Nodup:=by
 unfold ma;split
 ·exact h
 ·rename_i hk;refine List.nodup_append.mpr ⟨h,by simp,λx hx y hy e=>?_⟩;rw [List.mem_singleton.mp hy] at e;exact hk (e▸hx)
theorem me {U:List Nat}{k x:Nat}:x∈ma U k↔x∈U\/x=k:=by
 unfold ma;split
 ·rename_i h;exact⟨.inl,λz=>z.elim id λe=>e▸h⟩
 ·rw [List.mem_append,List.mem_singleton]
theorem A8 (U:List Nat) (k:Nat):U <+: ma U k:=by
 unfold ma;split
 ·exact List.prefix_refl _
 ·exact List.prefix_append _ _
theorem en {U:List Nat}{n:Nat}(nd:U.Nodup) (h:∀k∈U,1<=k/\k<=n):U.length<=n:=by
 have:=jv (m:=dC n) nd λk hk=>dJ.mpr (h k hk)
 unfold dC at this;rw [List.length_map,List.length_range] at this;exact this
theorem uv (U:List Nat):gD (dQ U)=aF U:=by
 unfold gD dQ aF;rw [List.map_map,List.map_map];rfl
theorem kH {H:Hp}{d:Addr}{U L:List Nat}{n:Nat}{Q:VK}(h:i_ H d U) (nd:U.Nodup) (le:∀k∈U,1<=k/\k<=n) (hn:n<=63) (hL:L.Pairwise (· < ·)) (hm:∀x,x∈U↔x∈L) (q:∀r,H r=none->Q (.ref r) (upd H r (.lst (aF L)))) :
  ∃x,Rd H d (.dK x)/\∃YL:List Int,gD x=YL.map V.int/\YL.length < 64/\∀(l:Addr) (jQ:List Int),H l=none->jQ.Perm YL->jQ.Pairwise (λx1 x2=>x1<=x2)->Q (.ref l) (upd H l (.lst (jQ.map V.int))):=by
 have hl:=en nd le;refine⟨_,.inl h,U.map λ(k:Nat)=>(k:Int),uv U,by rw [List.length_map]; omega,λl ns hl pm ps=>?_⟩;rw [kG pm ps nd hL hm];exact q l hl
noncomputable def ir (N U:List Nat):List Nat:=N.foldl ma U
theorem iU:∀(N:List Nat) {U:List Nat},U.Nodup->(ir N U).Nodup
 | [],_,h=>h
 | k::N,_,h=>iU N (Fi h)
theorem gc {x:Nat}:∀(N U:List Nat),x∈ir N U↔x∈U\/x∈N
 | [],U=>⟨.inl,λz=>z.elim id λh=>nomatch h⟩
 | k::N,U=>by
  show x∈ir N (ma U k)↔_;rw [gc N,me,List.mem_cons,or_assoc]
theorem mT (N U:List Nat) (k:Nat):ir (N++[k]) U=ma (ir N U) k:=by
 unfold ir;rw [List.foldl_append];rfl
theorem qM:∀(N U:List Nat),U <+: ir N U
 | [],_=>List.prefix_refl _
 | k::N,U=>(A8 U k).trans (qM N _)
noncomputable def IOp (L:LA) (g:Str->Vl) (kvs:List (Key×V)) (o:Obj) (f:Addr) (H0:Hp) (i:Nat) (σ:St) (H:Hp):Prop:=(∃v2 v3 v4,σ=[some (.ref L.st),some (.ref f),v2,v3,v4])/\H L.d0=some (.iY o (.dK kvs))/\(∀b u,b≠L.d0->H0 b=some u->H b=some u)/\i_ H f (ir (((kvs.take i).map λkv=>g (gI kv.1)).filterMap jO) [])
noncomputable def IOq (L:LA) (N:List Nat) (hs:List (Nat×Int)) (f:Addr) (H0:Hp) (i:Nat) (σ:St) (H:Hp):Prop:=(∃v2 v3 v4,σ=[some (.ref L.st),some (.ref f),v2,v3,v4])/\aj H0 H/\i_ H f (ir ((hs.take i).map (·.1)) (ir N []))
noncomputable def LS (K:PySem.W.Frag):Sp:=λvs H Q _=>∃Pr L W,vs=[.ref L.st]/\gn K Pr H L W/\W.ok/\W.ts.length<=63/\∀r H',aj H H'->H r=none->H' r=some (.lst (aF (NI W.g W.hs W.ts.length)))->Q (.ref r) H'
theorem LU (T:Txt K mg a):aS P w K mg base cU 1 a.z_ a.Aa ["_law_state"] (LS K):=by
 refine T.qj.ok pI (λvs H Q E h=>?_) (λcf A outer s H vs Q E hr h=>?_)
 ·obtain⟨_,_,_,rfl,_⟩:=h;rfl
 ·obtain⟨Pr,L,W,rfl,h,ok,bX,q⟩:=h;refine⟨_,(ag (aN (i:=1) pI.nd rfl (Or.inl rfl) fU) (ag (Ey (cS PassesOwn.never rfl (Ex (aq ak (pv 0) ai (λ_ _=>rfl))) (aU (i:=2) pI.nd rfl (Or.inl rfl)) av)) av)),?_⟩;dsimp! [];intro f hf;obtain⟨kvs,hk,Y5,_⟩:=h.rt;have s1:aj H (upd H f (.dK [])):=aj.put hf;have hf1:upd H f (.dK []) f=some (.dK []):=ae;generalize upd H f (.dK [])=H1 at s1 hf1;have hk1:=s1 _ _ hk;have nfd:f≠L.d0:=(az hk hf).symm;refine bF (s1.cc h.tu) rfl ⟨L.d0,rfl,kvs,hk1,λo=>?_⟩;have mu:∀b,b=L.d0->Mu H b:=λb e=>.inr ⟨kvs,by rw [e]; exact hk⟩
  have kf:=Y5.bX;refine M_ (IOp L W.g kvs o f H) ⟨⟨_,_,_,rfl⟩,ae,λb u nb e=>by rw [au nb]; exact s1 _ _ e,by unfold i_; rw [au nfd]; exact hf1⟩ (λi σ' H' _ hh=>hh.2.1) (λi kv σ' H2 BC hh=>?_) λσ' H2 hh=>?_
  ·obtain⟨⟨v2,v3,v4,rfl⟩,hz,k2,jR⟩:=hh;obtain⟨x,hx,ex⟩:=Y5.ks kv (List.mem_of_getElem? BC);have FR:bD kvs kv.1=some kv.2:=lV Y5.nd BC;have kk:Kp (·=L.d0) H H2:=k2;have hv2:dw K H2 kv.2 (W.g x):=(Y5.at_ x kv.2 (by rw [<-ex]; exact FR)).kp kk mu;have hS2:=kk.cc mu h.tu;have rd2:Rd H2 L.d0 (.dK kvs):=.inr ⟨o,hz⟩;have dg:fb H2 L.d0 (kV kv.1) (some kv.2):=by
    rw [<-FR];exact .inl ⟨kvs,kv.1,rd2,rfl,rfl⟩
   have wN:kvs.take (i+1)=kvs.take i++[kv]:=by rw [List.take_add_one,BC]; rfl
   have hi:=(List.getElem?_eq_some_iff.mp BC).1;have es:gI kv.1=x:=by rw [ex]; rfl
   have hgx:=ok.g x;obtain⟨tv,etv,NL⟩:=hv2;refine gN ?_;refine aM.of (ah (aQ (aD bN (aq ak (cH (bI hr) (aq ak (pv 0) ai (λ_ _=>rfl)) (pv 2) (λ_ _=>rfl)) ai (λ_ _=>rfl)) aA (aH _)) (ah (dc (bI hr) (pv 1) (aq ak (cH (bI hr) (aq ak (pv 0) ai (λ_ _=>rfl)) (pv 2) (λ_ _=>rfl)) ai (λ_ _=>rfl)) dk rfl)) aG)) ?_;dsimp! [];rw [etv] at dg;refine bF hS2 rfl ⟨L.d0,rfl,_,dg,bF NL (W.g x).hd ⟨rfl,?_⟩⟩;have no:(W.g x).vh=false->IOp L W.g kvs o f H (i+1) [some (V.ref L.st),some (V.ref f),some (kV kv.1),v3,v4] H2:=λe=>by
    refine⟨⟨_,_,_,rfl⟩,hz,k2,?_⟩;have:(((kvs.take (i+1)).map λkv=>W.g (gI kv.1)).filterMap jO)=(((kvs.take i).map λkv=>W.g (gI kv.1)).filterMap jO):=by
     rw [wN,List.map_append,List.filterMap_append];have:([kv].map λkv=>W.g (gI kv.1)).filterMap jO=[]:=by
      show [W.g (gI kv.1)].filterMap jO=[]
      rw [es]
      cases eg:W.g x with
      | no=>rfl
      | num z=>rfl
      | th z=>rw [eg] at e; cases e
     rw [this,List.append_nil]
    rw [this];exact jR
   cases eg:W.g x with
   | no=>
    rw [eg] at no;exact aY (λz=>absurd (V.str.inj (of_decide_eq_true z)) (by show ¬(("nothing":Str)="thing"); decide +kernel)) λ_=>no rfl
   | num z=>
    rw [eg] at no;exact aY (λz=>absurd (V.str.inj (of_decide_eq_true z)) (by show ¬(("number":Str)="thing"); decide +kernel)) λ_=>no rfl
   | th z=>
    rw [eg] at NL hgx;obtain⟨i0,ez,hi0⟩:=hgx;obtain⟨y,ey⟩:∃y:Nat,z=(y:Int):=⟨z.toNat,by omega⟩
    subst ey;have lU:(ir (((kvs.take i).map λkv=>W.g (gI kv.1)).filterMap jO) []).length<=63:=by
     refine Nat.le_trans (en (n:=W.ts.length) (iU _ List.nodup_nil) λk hk=>?_) bX;rcases (gc _ _).mp hk with hk | hk
     ·cases hk
     ·exact qF (λv hv=>by
       obtain⟨q,_,rfl⟩:=List.mem_map.mp hv;exact ok.g _) hk
    refine aY (λ_=>bF hS2 rfl ⟨L.d0,rfl,_,dg,bF NL rfl ⟨_,gS.k (k:=Sum.inl (y:Int)) jR (aJ (by rw [dZ]; omega)),⟨_,_,_,rfl⟩,by rw [au nfd.symm]; exact hz,λb u nb e=>?_,?_⟩⟩) λz=>absurd (decide_eq_true rfl) z
    ·rw [au (az e hf)];exact k2 b u nb e
    ·unfold i_;rw [ae,jz,wN,List.map_append,List.filterMap_append];have:([kv].map λkv=>W.g (gI kv.1)).filterMap jO=[y]:=by
      show [W.g (gI kv.1)].filterMap jO=[y]
      rw [es,eg];show [((y:Int)).toNat]=[y]
      rw [Int.toNat_natCast]
     rw [this,mT]
  ·obtain⟨⟨v2,v3,v4,rfl⟩,hz,k2,jR⟩:=hh;rw [List.take_length] at jR;refine .inr ⟨L.d0,kvs,_,⟨λo u z=>?_,⟨o,hz⟩,rfl⟩,aM.of (ag (cS PassesOwn.never rfl (cx (aq ak (pv 0) ai (λ_ _=>rfl))) (iA (n:=2) rfl (bL (aU (i:=3) pI.nd rfl (Or.inl rfl)) (bL (aU (i:=4) pI.nd rfl (Or.inl rfl)) gr))) av) av) ?_⟩
   ·have z2:H L.d0=some (.iY o u):=z;rw [hk] at z2;cases z2
   dsimp! [];have s3:aj H (upd H2 L.d0 (.dK kvs)):=λb u e=>by
    by_cases z:b=L.d0
    ·rw [z,ae,<-hk,<-z,e]
    ·rw [au z];exact k2 b u z e
   have CP:i_ (upd H2 L.d0 (.dK kvs)) f (ir ((kvs.map λkv=>W.g (gI kv.1)).filterMap jO) []):=by
    unfold i_;rw [au nfd];exact jR
   generalize upd H2 L.d0 (.dK kvs)=H3 at s3 CP;have hN:=λx=>oa (x:=x) Y5 ok
   have Y6:∀k∈(kvs.map λkv=>W.g (gI kv.1)).filterMap jO,1<=k/\k<=W.ts.length:=λk hk=>qF (λv hv=>by
    obtain⟨q,_,rfl⟩:=List.mem_map.mp hv;exact ok.g _) hk
   generalize (kvs.map λkv=>W.g (gI kv.1)).filterMap jO=N at CP hN Y6;obtain⟨xs,hx,hh⟩:=h.he;have Gx:=s3 _ _ hx;have hle:∀(i:Nat) k,k∈ir ((W.hs.take i).map (·.1)) (ir N [])->1<=k/\k<=W.ts.length:=λi k hk=>by
    rcases (gc _ _).mp hk with hk | hk
    ·rcases (gc _ _).mp hk with hk | hk
     ·cases hk
     ·exact Y6 k hk
    ·obtain⟨y,hy,rfl⟩:=List.mem_map.mp hk;exact(ok.hs y (List.mem_of_mem_take hy)).1
   refine bF (s3.cc h.tu) rfl ⟨L.l2,rfl,⟨_,bf.of Gx⟩,dA xs (IOq L N W.hs f H) ⟨⟨_,_,_,rfl⟩,s3,CP⟩ (λi σ' H' _ z=>bf.of (z.2.1 _ _ hx)) (λi x σ' H4 YW z=>?_) λσ' H4 z=>?_⟩
   ·obtain⟨⟨v2,v3,v4,rfl⟩,s4,BL⟩:=z;have hi:=(List.getElem?_eq_some_iff.mp YW).1;have YX:W.hs[i]?=some (W.hs[i]'(by have:=hh.1; omega)):=List.getElem?_eq_getElem _;obtain⟨t,rfl,ht⟩:=hh.2 i x _ YW YX;dsimp! [];refine⟨[_,_],s4.cc ht,rfl,?_⟩;dsimp! [];refine aM.of (ah (dc (bI hr) (pv 1) (pv 3) dk rfl)) ?_;dsimp! [];have lU:=en (iU _ (iU N List.nodup_nil)) (hle i);refine⟨_,gS.k (k:=Sum.inl ((W.hs[i]'(by have:=hh.1; omega)).1:Int)) BL (aJ (by rw [dZ]; omega)),⟨_,_,_,rfl⟩,.putD s4 hf,?_⟩;unfold i_;rw [ae,jz,List.take_add_one,YX,List.map_append];show _=some (HO.dK (dQ (ir ((W.hs.take i).map (·.1)++[(W.hs[i]'(by have:=hh.1; omega)).1]) _)));rw [mT]
   ·obtain⟨⟨v2,v3,v4,rfl⟩,s4,BL⟩:=z;rw [<-hh.1] at BL;have Y7:=hle W.hs.length;rw [List.take_length] at BL Y7;refine aM.of (ah (aw (aI (fc rfl) rfl T.dY fE (aa (pv 1) af)))) ?_;dsimp! [];refine kH BL (iU _ (iU N List.nodup_nil)) Y7 bX (vw W.g W.hs W.ts.length) (λx=>?_) λr hr=>q r _ (s4.trans (aj.put hr)) (s4.free hr) ae
    rw [vx ok,gc,gc,hN];constructor
    ·rintro((y | y) | y)
     ·cases y
     ·exact .inl y
     ·obtain⟨p,hp,e⟩:=List.mem_map.mp y;exact .inr ⟨p,hp,e⟩
    ·rintro(y | ⟨p,hp,e⟩)
     ·exact .inl (.inr y)
     ·exact .inr (List.mem_map.mpr ⟨p,hp,e⟩)
structure CW (ts:List Tg) (S0 U0 U:List Nat):Prop where
 nd:U.Nodup
 le:∀k∈U,1<=k/\k<=ts.length
 has:∀k∈S0,k∈U
 lst:∀k∈U,rO ts S0 k
 pre:U0 <+: U
theorem LV {ts:List Tg}{S0 U:List Nat}(h:∀k∈U,rO ts S0 k) {k:Nat}{t:Tg}(ht:kF ts k t) (hk:k∈U) {j:Nat}(hj:j∈cZ t U):rO ts S0 j:=by
 have c:=rO.clo ts S0;unfold cZ at hj;split at hj
 ·rename_i m e;split at hj
  ·rename_i hm;exact c.pair k t m ht (h k hk) e (h m hm) j hj
  ·exact c.held k t ht (h k hk) j hj
 ·exact c.held k t ht (h k hk) j hj
theorem CW.ins {ts:List Tg}{S0 U0:List Nat}(ok:sd ts):∀(N:List Nat) {U:List Nat},CW ts S0 U0 U->(∀j∈N,rO ts S0 j/\1<=j/\j<=ts.length)->CW ts S0 U0 (ir N U)
 | [],_,h,_=>h
 | k::N,U,h,hN=>by
  refine CW.ins ok N (U:=ma U k) ⟨Fi h.nd,λx hx=>?_,λx hx=>me.mpr (.inl (h.has x hx)),λx hx=>?_,h.pre.trans (A8 U k)⟩ λj hj=>hN j (List.mem_cons_of_mem _ hj)
  ·rcases me.mp hx with hx | rfl
   ·exact h.le x hx
   ·exact(hN x List.mem_cons_self).2
  ·rcases me.mp hx with hx | rfl
   ·exact h.lst x hx
   ·exact(hN x List.mem_cons_self).1
theorem CW.re {ts:List Tg}{S0 U0 U:List Nat}(h:CW ts S0 U0 U):CW ts S0 U U:=⟨h.nd,h.le,h.has,h.lst,List.prefix_refl _⟩
noncomputable def IWh (d l:Addr) (ts:List Tg) (S:List Nat) (th:Addr) (H0:Hp) (m:Nat) (σ:St) (H:Hp):Prop:=∃(o3 o5 o6 o7 o8 o9:Option V) (many:Int) (U:List Nat),σ=[some (.ref d),some (.ref l),some (.ref th),o3,some (.int many),o5,o6,o7,o8,o9]/\aj H0 H/\i_ H th U/\CW ts S U U/\(many=-1\/(many=(U.length:Int)/\NF ts (·∈U))\/(0<=many/\many < (U.length:Int)))/\m=(ts.length - U.length)+(if many=(U.length:Int)then 0 else 1)
noncomputable def IWi (d l:Addr) (ts:List Tg) (S U0:List Nat) (th l2:Addr) (H0:Hp) (i:Nat) (σ:St) (H:Hp):Prop:=∃(o3 o5 o6 o7 o8 o9:Option V) (U:List Nat),σ=[some (.ref d),some (.ref l),some (.ref th),o3,some (.int (U0.length:Nat)),o5,o6,o7,o8,o9]/\aj H0 H/\H l2=some (.lst (aF U0))/\i_ H th U/\CW ts S U0 U/\(U.length=U0.length->∀j:Nat,j < i->∀k t,U0[j]?=some k->kF ts k t->∀x∈cZ t U0,x∈U0)
noncomputable def JWi (d l:Addr) (ts:List Tg) (U0 U:List Nat) (th:Addr) (k:Nat) (t:Tg) (lf:Addr) (o9:Option V) (K:PySem.W.Frag) (H4:Hp) (σ:St) (H:Hp):Prop:=∃(lw:Addr) (xs:List V) (vl:List Vl),σ=[some (.ref d),some (.ref l),some (.ref th),some (.int (k:Nat)),some (.int (U0.length:Nat)),some (.str t.sort),some (.ref lf),some (wV t.words),some (.ref lw),o9]/\aj H4 H/\H lw=some (.lst xs)/\jt K H xs vl/\vl.filterMap jO=cZ t U/\(∀v∈vl,v∈t.fs)/\xs.length<=1000
noncomputable def IWj (d l:Addr) (ts:List Tg) (U0:List Nat) (th:Addr) (k:Nat) (t:Tg) (lf lw:Addr) (ws:List V) (vl:List Vl) (l2:Addr) (U1:List Nat) (K:PySem.W.Frag) (H0:Hp) (j:Nat) (σ:St) (H:Hp):Prop:=(∃q9,σ=[some (.ref d),some (.ref l),some (.ref th),some (.int (k:Nat)),some (.int (U0.length:Nat)),some (.str t.sort),some (.ref lf),some (wV t.words),some (.ref lw),q9])/\aj H0 H/\H l2=some (.lst (aF U0))/\H lw=some (.lst ws)/\jt K H ws vl/\i_ H th (ir ((vl.take j).filterMap jO) U1)
noncomputable def ICl (d l:Addr) (S:List Nat) (th:Addr) (H0:Hp) (i:Nat) (σ:St) (H:Hp):Prop:=(∃o3 o4 o5 o6 o7 o8 o9,σ=[some (.ref d),some (.ref l),some (.ref th),o3,o4,o5,o6,o7,o8,o9])/\aj H0 H/\i_ H th (S.take i)
noncomputable def A9 (K:PySem.W.Frag):Sp:=λvs H Q _=>∃(d l:Addr) (ts:List Tg) (S:List Nat),vs=[.ref d,.ref l]/\se K H d ts/\sd ts/\ts.length<=63/\H l=some (.lst (aF S))/\S.Nodup/\(∀k∈S,1<=k/\k<=ts.length) /\
 ∀r H',aj H H'->H r=none->H' r=some (.lst (aF (cls ts S)))->Q (.ref r) H'
theorem LW (T:Txt K mg a):aS P w K mg base cU 1 a.Ab a.Ac ["_law_things","_law_some"] (A9 K):=by
 refine T.qk.ok gj (λvs H Q E h=>?_) (λcf A outer s H vs Q E hr h=>?_)
 ·obtain⟨_,_,_,_,rfl,_⟩:=h;rfl
 ·obtain⟨d,l,ts,S,rfl,h,ok,bX,hl,nd,hS,q⟩:=h;refine⟨_,(ag (aN (i:=2) gj.nd rfl (Or.inl rfl) fU) (ag (cS PassesOwn.never rfl (cx (pv 1)) (aU (i:=3) gj.nd rfl (Or.inl rfl)) av) av)),?_⟩;dsimp! [];intro th E9;have lS:=en nd hS;refine⟨⟨_,bf.of (aj.put E9 _ _ hl)⟩,?_⟩;refine dA (aF S) (ICl d l S th H) ⟨⟨_,_,_,_,_,_,_,rfl⟩,aj.put E9,ae⟩ (λi σ' H' _ hh=>bf.of (hh.2.1 _ _ hl)) (λi x σ' H2 hx hh=>?_) λσ' H2 hh=>?_
  ·obtain⟨k,hk,rfl⟩:=du hx;obtain⟨⟨_,_,_,_,_,_,_,rfl⟩,s2,jR⟩:=hh;refine gN ?_;refine aM.of (ah (dc (bI hr) (pv 2) (pv 3) dk rfl)) ?_;dsimp! [];have hki:=(List.getElem?_eq_some_iff.mp hk).1;have wN:S.take (i+1)=S.take i++[k]:=by
    rw [List.take_add_one,hk];rfl
   refine⟨_,gS.k (k:=Sum.inl (k:Int)) jR (aJ (by rw [dZ,List.length_take]; omega)),⟨_,_,_,_,_,_,_,rfl⟩,.putD s2 E9,?_⟩;unfold i_;rw [ae,jz];have hn:k∉S.take i:=λz=>by
    have n2:(S.take (i+1)).Nodup:=List.Pairwise.sublist (List.take_sublist _ _) nd;rw [wN] at n2;exact(List.nodup_append.mp n2).2.2 k z k (List.mem_singleton.mpr rfl) rfl
   unfold ma;rw [if_neg hn,wN]
  ·obtain⟨⟨_,_,_,_,_,_,_,rfl⟩,s2,jR⟩:=hh;rw [bj,List.take_length] at jR;refine aM.of (ag (aN (i:=4) gj.nd rfl (Or.inl rfl) (WR Sk ai)) (ag (sW PassesOwn.never av) av)) ?_;dsimp! [];have c0:CW ts S S S:=⟨nd,hS,λ_ z=>z,λk hk=>.Qi hk,List.prefix_refl _⟩
   refine ww2 (IWh d l ts S th H) (λσ H2=>∃o3 o4 o5 o6 o7 o8 o9 U,σ=[some (.ref d),some (.ref l),some (.ref th),o3,o4,o5,o6,o7,o8,o9]/\aj H H2/\i_ H2 th U/\CW ts S U U/\NF ts (·∈U)) _ ⟨_,_,_,_,_,_,-1,S,rfl,s2,jR,c0,.inl rfl,rfl⟩ ?_ ?_
   ·rintro m σ H3 ⟨o3,o5,o6,o7,o8,o9,many,U,rfl,s3,CP,c3,hc3,rfl⟩;refine kd.of (aD jg (pv 4) (aI gB rfl T.fk dS (aa (pv 2) af)) (aH _)) ?_;dsimp! [];have lU:=en c3.nd c3.le;refine⟨_,CP,?_⟩;rw [dZ];refine aY (λz=>?_) λz=>?_
    ·have SF:many≠(U.length:Int):=by
      intro e;rw [e] at z;simp at z
     refine aM.of (ag (aN (i:=4) gj.nd rfl (Or.inl rfl) (aI gB rfl T.fk dS (aa (pv 2) af))) (ah (cS PassesOwn.never rfl (cx (bW (B9 rfl) rfl T.fH fM (aa (pv 2) af))) (aU (i:=3) gj.nd rfl (Or.inl rfl)) av))) ?_;dsimp! [];refine⟨_,CP,?_⟩;refine⟨_,.inl CP,λl2 gg=>?_⟩;rw [uv,dZ];have s4:=s3.trans (aj.put (o:=.lst (aF U)) gg);have BL:i_ (upd H3 l2 (.lst (aF U))) th U:=aj.put gg _ _ CP;have BI:upd H3 l2 (.lst (aF U)) l2=some (.lst (aF U)):=ae;have nlt:l2≠th:=(az CP gg).symm;have adk:H l2=none:=s3.free gg;generalize upd H3 l2 (.lst (aF U))=H4 at s4 BL BI;refine⟨⟨_,bf.of BI⟩,dA (aF U) (IWi d l ts S U th l2 H) ⟨_,_,_,_,_,_,U,rfl,s4,BI,BL,c3,λ_ j hj=>absurd hj (Nat.not_lt_zero j)⟩ (λi σ' H' _ hh=>by
      obtain⟨_,_,_,_,_,_,_,_,_,e,_⟩:=hh;exact bf.of e) (λi x σ' H5 hx hh=>?_) λσ' H5 hh=>?_⟩
     ·obtain⟨k,hk,rfl⟩:=du hx;obtain⟨p3,p5,p6,p7,p8,p9,U1,rfl,s5,Wr,Qo,c5,hc5⟩:=hh;have hkU:=List.mem_of_getElem? hk;obtain⟨t,ht⟩:=kF.of (c3.le k hkU);have lU1:=en c5.nd c5.le;refine gN ?_;refine aM.of (ag (mx (cH (bI hr) (pv 0) (pv 3) (λ_ _=>rfl)) (iA (n:=3) rfl (bL (aU (i:=5) gj.nd rfl (Or.inl rfl)) (bL (aU (i:=6) gj.nd rfl (Or.inl rfl)) (bL (aU (i:=7) gj.nd rfl (Or.inl rfl)) gr))))) (ag mH av)) ?_;dsimp! [];obtain⟨p,lf,hp,hg⟩:=h.xw s5 ht;have Ff:=hp.same s5;obtain⟨h1,xs,h2,h3,h4⟩:=id Ff;refine⟨_,hg,p,rfl,_,bS.of h1,rfl,_,_,rfl,_,_,rfl,_,_,rfl,rfl,?_⟩;refine Et (JWi d l ts U U1 th k t lf p9 K H5) (xr.of (aQ (aD bN (pv 5) aA (aH _)) (ah (aN (i:=8) gj.nd rfl (Or.inl rfl) (pv 6))) (ah (aN (i:=8) gj.nd rfl (Or.inl rfl) (bz Hm (fR gK (pv 6) (gs ai) iD) (bW sN rfl T.qx uK (aa (iz (da bN (pv 5) aA (aH _)) (iz (da bN (aq ak (aq cy (pv 6) ai (λ_ _=>rfl)) ai (λ_ _=>rfl)) aA (aH _)) (mw (uE (B7 (bI hr) (aq ak (aq cy (pv 6) ai (λ_ _=>rfl)) ai (λ_ _=>rfl)) (pv 2)))))) af)))))) ?_) ?_
      ·dsimp! [];have nil:∀(x:Addr) (zs:List V) H6,aj H5 H6->H6 x=some (.lst zs)->cZ t U1=[]->W_ (.ref x) (.int 0) H6 λx H1=>JWi d l ts U U1 th k t lf p9 K H5 [some (V.ref d),some (V.ref l),some (V.ref th),some (V.int k),some (V.int (U.length:Nat)),some (V.str t.sort),some (V.ref lf),some (wV t.words),some x,p9] H1:=λx zs H6 s6 e6 ew=>by
        refine⟨x,0,zs,rfl,rfl,e6,by decide,by decide,Nat.zero_le _,λr hr=>?_⟩;exact⟨r,[],[],rfl,s6.trans (aj.put hr),by rw [ae]; simp,⟨rfl,λi x v a=>by simp at a⟩,by rw [ew]; rfl,(λv hv=>nomatch hv),by simp⟩
       have ec:∀y1 y2:V,gR [y1,y2] (some 1) none=[y2]:=λ_ _=>by
        unfold gR;rfl
       cases t with
       | plain fs w=>exact aY (λ_=>⟨lf,xs,fs,rfl,.refl _,h2,h3,rfl,(λv hv=>hv),h4⟩) λz=>absurd (decide_eq_true rfl) z
       | weak f=>exact aY (λz=>absurd (of_decide_eq_true z) Qj) λ_=>⟨lf,xs,rfl,bf.of h2,λr hr=>aY (λz=>absurd (of_decide_eq_true z) Ql) λ_=>nil r _ _ (aj.put hr) ae rfl⟩
       | pair kk vv=>
        have gg:xs.length=2:=h3.1.symm;obtain⟨x0,x1,rfl⟩:∃x0 x1,xs=[x0,x1]:=by
         match xs,gg with
         | [x,y],_=>exact⟨x,y,rfl⟩
        have hkk:=h3.2 0 x0 kk rfl rfl;have hvv:=h3.2 1 x1 vv rfl rfl;refine aY (λz=>absurd (of_decide_eq_true z) Qk) λ_=>⟨lf,_,rfl,bf.of h2,λr hr=>aY (λ_=>?_) λz=>absurd (decide_eq_true rfl) z⟩
        rw [ec];have s6:aj H5 (upd H5 r (.lst [x1])):=aj.put hr;have MA:upd H5 r (.lst [x1]) r=some (.lst [x1]):=ae;generalize upd H5 r (.lst [x1])=H6 at s6 MA;obtain⟨tk,rfl,Sl⟩:=hkk.same s6;refine vp (bf.of (s6 _ _ h2)) (cG (j:=0) rfl) (bF Sl kk.hd ⟨rfl,?_⟩)
        cases kk with
        | no=>exact aY (λz=>absurd (V.str.inj (of_decide_eq_true z)) (by show ¬(("nothing":Str)="thing"); decide +kernel)) λ_=>nil r _ _ s6 MA rfl
        | num m=>exact aY (λz=>absurd (V.str.inj (of_decide_eq_true z)) (by show ¬(("number":Str)="thing"); decide +kernel)) λ_=>nil r _ _ s6 MA rfl
        | th m=>
         obtain⟨i0,ez,hi0⟩:=ok _ ht.mem (.th m) List.mem_cons_self;obtain⟨y,ey⟩:∃y:Nat,m=(y:Int):=⟨m.toNat,by omega⟩
         subst ey;have hm6:i_ H6 th U1:=s6 _ _ Qo;have ek:fJ (.pair (.th (y:Int)) vv)=some y:=by
          show some ((y:Int)).toNat=some y;rw [Int.toNat_natCast]
         refine aY (λ_=>vp (bf.of (s6 _ _ h2)) (cG (j:=0) rfl) (bF Sl rfl ⟨_,hm6.ask y,?_⟩)) λz=>absurd (decide_eq_true rfl) z
         rw [l_]
         by_cases xy:y∈U1
         ·rw [decide_eq_true xy,if_pos rfl];refine⟨r,1,_,rfl,rfl,MA,by decide,by decide,by rw [sizeLine_eq]; exact Nat.le_of_ble_eq_true rfl,λr2 A3=>⟨r2,[x1],[vv],rfl,s6.trans (aj.put A3),by rw [ae]; simp,⟨rfl,λi x v a1 a2=>?_⟩,?_,λv hv=>?_,by simp⟩⟩
          ·cases i with
           | zero=>
            cases a1;cases a2;exact hvv.same (s6.trans (aj.put A3))
           | succ i=>simp at a1
          ·unfold cZ;rw [ek];dsimp only;rw [if_pos xy];rfl
          ·rw [List.mem_singleton.mp hv];exact List.mem_cons_of_mem _ List.mem_cons_self
         ·rw [decide_eq_false xy,if_neg Bool.false_ne_true];refine nil r _ _ s6 MA ?_;unfold cZ;rw [ek];dsimp only;rw [if_neg xy];rfl
      ·rintro σ6 H6 ⟨lw,ws,vl,rfl,s6,hw6,NM,ew6,Y8,lw6⟩;refine aM.of (ah (cS PassesOwn.never rfl (cx (pv 8)) (aU (i:=9) gj.nd rfl (Or.inl rfl)) av)) ?_;dsimp! [];have s06:=s5.trans s6;have nlw:lw≠th:=λe=>by
        have:H6 th=some (.dK (dQ U1)):=s6 _ _ Qo;rw [<-e,hw6] at this;cases this
       refine⟨⟨_,bf.of hw6⟩,dA ws (IWj d l ts U th k t lf lw ws vl l2 U1 K H) ⟨⟨_,rfl⟩,s06,s6 _ _ Wr,hw6,NM,s6 _ _ Qo⟩ (λj σ' H' _ hh=>bf.of hh.2.2.2.1) (λj x σ' H7 hx hh=>?_) λσ' H7 hh=>?_⟩
       ·obtain⟨⟨q9,rfl⟩,s7,hl7,hw7,NN,Wv⟩:=hh;have hj:=(List.getElem?_eq_some_iff.mp hx).1;have hvj:vl[j]?=some (vl[j]'(by have:=NM.1; omega)):=List.getElem?_eq_getElem _;obtain⟨v,ev⟩:∃v,vl[j]'(by have:=NM.1; omega)=v:=⟨_,rfl⟩
        rw [ev] at hvj;obtain⟨tv,rfl,NL⟩:=NN.2 j x v hx hvj;have Vz:=ok t ht.mem v (Y8 v (List.mem_of_getElem? hvj));have wN:vl.take (j+1)=vl.take j++[v]:=by
         rw [List.take_add_one,hvj];rfl
        refine gN ?_;refine aM.of (ah (aQ (aD bN (aq ak (pv 9) ai (λ_ _=>rfl)) aA (aH _)) (ah (dc (bI hr) (pv 2) (aq ak (pv 9) ai (λ_ _=>rfl)) dk rfl)) aG)) ?_;dsimp! [];refine bF NL v.hd ⟨rfl,?_⟩;have no:[v].filterMap jO=[]->IWj d l ts U th k t lf lw ws vl l2 U1 K H (j+1) [some (V.ref d),some (V.ref l),some (V.ref th),some (V.int k),some (V.int (U.length:Nat)),some (V.str t.sort),some (V.ref lf),some (wV t.words),some (V.ref lw),some (V.ref tv)] H7:=λe=>by
         refine⟨⟨_,rfl⟩,s7,hl7,hw7,NN,?_⟩;rw [wN,List.filterMap_append,e,List.append_nil];exact Wv
        cases v with
        | no=>exact aY (λz=>absurd (V.str.inj (of_decide_eq_true z)) (by show ¬(("nothing":Str)="thing"); decide +kernel)) λ_=>no rfl
        | num m=>exact aY (λz=>absurd (V.str.inj (of_decide_eq_true z)) (by show ¬(("number":Str)="thing"); decide +kernel)) λ_=>no rfl
        | th m=>
         obtain⟨i0,ez,hi0⟩:=Vz;obtain⟨y,ey⟩:∃y:Nat,m=(y:Int):=⟨m.toNat,by omega⟩
         subst ey;have lI:(ir ((vl.take j).filterMap jO) U1).length<=63:=by
          refine Nat.le_trans (en (n:=ts.length) (iU _ c5.nd) λx hx=>?_) bX;rcases (gc _ _).mp hx with hx | hx
          ·exact c5.le x hx
          ·exact qF (λv hv=>ok t ht.mem v (Y8 v (List.mem_of_mem_take hv))) hx
         have adl:∀b u,H b=some u->b≠th:=λb u e=>az e E9
         refine aY (λ_=>bF NL rfl ⟨_,gS.k (k:=Sum.inl (y:Int)) Wv (aJ (by rw [dZ]; omega)),⟨_,rfl⟩,.putD s7 E9,?_,?_,?_,?_⟩) λz=>absurd (decide_eq_true rfl) z
         ·rw [au nlt];exact hl7
         ·rw [au nlw];exact hw7
         ·exact NN.kp (S:=(·=th)) ((Kp.refl _ _).set rfl) λb e=>by
           subst e;exact .inr ⟨_,Wv⟩
         ·unfold i_;rw [ae,jz,wN,List.filterMap_append];have:[Vl.th (y:Int)].filterMap jO=[y]:=by
           show [((y:Int)).toNat]=[y]
           rw [Int.toNat_natCast]
          rw [this,mT]
       ·obtain⟨⟨q9,rfl⟩,s7,hl7,hw7,NN,Wv⟩:=hh;rw [<-NM.1,List.take_length,ew6] at Wv;have abA:k∈U1:=c5.pre.subset hkU;have c7:CW ts S U (ir (cZ t U1) U1):=c5.ins ok _ λj hj=>⟨LV c5.lst ht abA hj,Lz ok ht.mem hj⟩
        refine⟨_,_,_,_,_,_,_,rfl,s7,hl7,Wv,c7,λe j hj k2 t2 Vt kg x hx=>?_⟩;have p1:=(qM (cZ t U1) U1).length_le;have p2:=c5.pre.length_le;have e1:U=U1:=List.IsPrefix.eq_of_length c5.pre (by omega);rcases Nat.lt_or_ge j i with h1 | h1
        ·exact hc5 (by omega) j h1 k2 t2 Vt kg x hx
        ·have:j=i:=by omega
         subst this;rw [hk] at Vt;cases Vt
         cases ht.one kg
         have e2:U1=ir (cZ t U1) U1:=List.IsPrefix.eq_of_length (qM _ _) (by omega);rw [e1,e2];rw [e1] at hx;exact(gc _ _).mpr (.inr hx)
     ·obtain⟨p3,p5,p6,p7,p8,p9,U1,rfl,s5,Wr,Qo,c5,hc5⟩:=hh;have lU1:=en c5.nd c5.le;have hle:=c5.pre.length_le;refine⟨(ts.length - U1.length)+(if ((U.length:Nat):Int)=(U1.length:Int)then 0 else 1),?_,_,_,_,_,_,_,_,U1,rfl,s5,Qo,c5.re,?_,rfl⟩
      ·rw [if_neg SF]
       split <;> omega
      ·by_cases e:U1.length=U.length
       ·have eU:U1=U:=(List.IsPrefix.eq_of_length c5.pre e.symm).symm;subst eU;refine .inr (.inl ⟨rfl,qH.mpr λk t ht hk=>?_⟩);obtain⟨j,hj⟩:=List.mem_iff_getElem?.mp hk;exact hc5 rfl j (by rw [bj]; exact(List.getElem?_eq_some_iff.mp hj).1) k t hj ht
       ·exact .inr (.inr ⟨by omega,by omega⟩)
    ·have he:many=(U.length:Int):=by
      refine Classical.byContradiction λe=>z ?_
      simp [e]
     have cl:NF ts (·∈U):=by
      rcases hc3 with y | ⟨_,y⟩ | ⟨_,y⟩
      ·omega
      ·exact y
      ·omega
     exact⟨s3,U,CP,c3,cl⟩
   ·rintro σ H3 ⟨o3,o4,o5,o6,o7,o8,o9,U,rfl,s3,CP,c3,cl3⟩;refine aM.of (ah (aw (aI (fc rfl) rfl T.dY fE (aa (pv 2) af)))) ?_;dsimp! [];refine kH CP c3.nd c3.le bX (mQ ts S) (λx=>?_) λr hr=>q r _ (s3.trans (aj.put hr)) (s3.free hr) ae
    rw [iS ok hS];exact⟨c3.lst x,λz=>z _ cl3 c3.has⟩
noncomputable def ILb (d l:Addr) (z:Str) (ts:List Tg) (S:List Nat) (b:Addr) (H0:Hp) (i:Nat) (σ:St) (H:Hp):Prop:=(∃o3 o4,σ=[some (.ref d),some (.ref l),some (.str z),some (.ref b),o3,o4])/\aj H0 H/\H b=some (.lst (aF ((S.take i).filter (jS ts S z))))
noncomputable def Gz (K:PySem.W.Frag):Sp:=λvs H Q _=>∃(d l:Addr) (ts:List Tg) (S:List Nat) (z:Str),vs=[.ref d,.ref l,.str z]/\(z="weak"\/z="pair")/\se K H d ts/\sd ts/\ts.length<=63/\H l=some (.lst (aF S))/\S.Nodup/\(∀k∈S,1<=k/\k<=ts.length)/\∀r H',aj H H'->H r=none->H' r=some (.lst (aF (blN ts S z)))->Q (.ref r) H'
theorem LX (T:Txt K mg a):aS P w K mg base cU 1 a.Ad a.Ae ["_law_things","_law_some","_law_sort"] (Gz K):=by
 refine T.ql.ok vc (λvs H Q E h=>?_) (λcf A outer s H vs Q E hr h=>?_)
 ·obtain⟨_,_,_,_,_,rfl,_⟩:=h;rfl
 ·obtain⟨d,l,ts,S,z,rfl,hz,h,ok,bX,hl,nd,hS,q⟩:=h;refine⟨_,(ag (aN (i:=3) vc.nd rfl (Or.inl rfl) (bE af)) (ag (cS PassesOwn.never rfl (cx (pv 1)) (aU (i:=4) vc.nd rfl (Or.inl rfl)) av) av)),?_⟩;dsimp! [];intro b hb;refine⟨⟨_,bf.of (aj.put hb _ _ hl)⟩,?_⟩;have lS:=en nd hS;refine dA (aF S) (ILb d l z ts S b H) ⟨⟨none,none,rfl⟩,aj.put hb,ae⟩ (λi σ' H' _ hh=>bf.of (hh.2.1 _ _ hl)) (λi x σ' H2 hx hh=>?_) λσ' H2 hh=>?_
  ·obtain⟨k,hk,rfl⟩:=du hx;obtain⟨⟨o3,o4,rfl⟩,s2,oO⟩:=hh;obtain⟨t,ht⟩:=kF.of (hS k (List.mem_of_getElem? hk));obtain⟨j,ek,et⟩:=id ht;refine gN ?_;refine aM.of (ag (aN (i:=5) vc.nd rfl (Or.inl rfl) (dU (aD bN (aq ak (cH (bI hr) (pv 0) (pv 4) (λ_ _=>rfl)) ai (λ_ _=>rfl)) (pv 2) (aH _)) (aq cy (aq ak (cH (bI hr) (pv 0) (pv 4) (λ_ _=>rfl)) ai (λ_ _=>rfl)) ai (λ_ _=>rfl)) (bp (aa aA af)))) (ah (aQ (PW.pt (mr (aD bN (aq ak (pv 5) ai (λ_ _=>rfl)) aA (aH _)) (jG (aD iE (aq ak (pv 5) ai (λ_ _=>rfl)) (pv 1) (by with_unfolding_all rfl))))) (ah (bx (nE PySem.F.plainAttrs_list PySem.F.slot_list_append PySem.F.type_list_append fA (pv 3) (aa (pv 4) af)))) aG))) ?_;dsimp! [];obtain⟨p,lf,hp,hg⟩:=h.xw s2 ht;have oi:=hp.same s2;obtain⟨h1,xs,h2,h3,h4⟩:=id oi;have eW:jS ts S z k=(decide (t.sort=z)&&((t.fs.take 1).filterMap jO).any λj=>decide (j∉S)):=by
    unfold jS;rw [ek,Nat.add_sub_cancel,et]
   have wN:S.take (i+1)=S.take i++[k]:=by
    rw [List.take_add_one,hk];rfl
   have no:∀(v:V) H5,aj H2 H5->jS ts S z k=false->ILb d l z ts S b H (i+1) [some (V.ref d),some (V.ref l),some (V.str z),some (V.ref b),some (V.int k),some v] H5:=λv H5 s5 e=>by
    refine⟨⟨_,_,rfl⟩,s2.trans s5,?_⟩;rw [wN,List.filter_append,List.filter_cons_of_neg (by rw [e]; exact Bool.false_ne_true),List.filter_nil,List.append_nil];exact s5 _ _ oO
   refine⟨_,hg,bF (bS.of h1) rfl ⟨rfl,aY (λc=>?_) λc=>?_⟩⟩
   ·have c2:t.sort=z:=V.str.inj (of_decide_eq_true c);rw [decide_eq_true c2,Bool.true_and] at eW;obtain⟨v,vs,ef⟩:∃v vs,t.fs=v::vs:=by
     cases t with
     | plain fs w=>
      have c3:("plain":Str)=z:=c2;rcases hz with y | y
      ·exact absurd (c3.trans y) (by decide +kernel)
      ·exact absurd (c3.trans y) (by decide +kernel)
     | weak f=>exact⟨f,[],rfl⟩
     | pair k v=>exact⟨k,[v],rfl⟩
    rw [ef] at h3;obtain⟨x0,GR,rfl⟩:∃x0 GR,xs=x0::GR:=by
     have:=h3.1
     match xs,this with
     | x::y,_=>exact⟨x,y,rfl⟩
    have hv:=h3.2 0 x0 v rfl rfl;obtain⟨tv,rfl,NL⟩:=hv;have Vz:=ok t ht.mem v (by rw [ef]; exact List.mem_cons_self);have eN:((t.fs.take 1).filterMap jO)=[v].filterMap jO:=by rw [ef]; rfl
    rw [eN] at eW;refine⟨_,hg,bF (bS.of h1) rfl (vp (bf.of h2) (cG (j:=0) rfl) (bF NL v.hd ⟨rfl,?_⟩))⟩
    cases v with
    | no=>exact aY (λz=>absurd (V.str.inj (of_decide_eq_true z)) (by show ¬(("nothing":Str)="thing"); decide +kernel)) λ_=>no _ _ (.refl _) eW
    | num m=>exact aY (λz=>absurd (V.str.inj (of_decide_eq_true z)) (by show ¬(("number":Str)="thing"); decide +kernel)) λ_=>no _ _ (.refl _) eW
    | th m=>
     obtain⟨i0,ez,hi0⟩:=Vz;obtain⟨y,ey⟩:∃y:Nat,m=(y:Int):=⟨m.toNat,by omega⟩
     subst ey;have eW2:jS ts S z k=decide (y∉S):=by
      rw [eW];show([((y:Int)).toNat].any λj=>decide (j∉S))=_;rw [Int.toNat_natCast,List.any_cons,List.any_nil,Bool.or_false]
     refine aY (λ_=>bF NL rfl ⟨l,_,rfl,.inl (bf.of (s2 _ _ hl)),rfl,iR S,_,rfl,?_⟩) λz=>absurd (decide_eq_true rfl) z
     rw [if_pos rfl,qE]
     by_cases xy:y∈S
     ·rw [decide_eq_true xy];exact cV (no _ _ (.refl _) (by rw [eW2,decide_eq_false λz=>z xy]))
     ·rw [decide_eq_false xy];have ll:(aF ((S.take i).filter (jS ts S z))).length<=63:=by
       rw [bj];have h1:=List.length_filter_le (jS ts S z) (S.take i);rw [List.length_take] at h1;omega
      refine hW ⟨.inl ⟨rfl,_,bf.of oO⟩,b,_,_,rfl,rfl,oO,aJ (by omega),⟨_,_,rfl⟩,.putD s2 hb,?_⟩;rw [ae,wN,List.filter_append,List.filter_cons_of_pos (by rw [eW2,decide_eq_true xy]),List.filter_nil];unfold aF;rw [List.map_append,List.map_append];rfl
   ·refine⟨by rw [sizeLine_eq]; decide,λp3 Qf=>bF (bS.of ae) rfl ⟨rfl,aY (λz=>absurd (V.str.inj (of_decide_eq_true z)) (by show ¬(("nothing":Str)="thing"); decide +kernel)) λ_=>no _ _ (aj.put Qf) ?_⟩⟩;rw [eW,decide_eq_false λy=>c (decide_eq_true (by rw [y])),Bool.false_and]
  ·obtain⟨⟨o3,o4,rfl⟩,s2,oO⟩:=hh;refine aM.of (ah (aw (pv 3))) ?_;dsimp! [];rw [bj,List.take_length] at oO;exact q b H2 s2 hb oO
theorem Mu.some {H:Hp}{b:Addr}(m:Mu H b):H b≠none:=by
 rcases m with ⟨x,m⟩ | ⟨x,m⟩ <;> (rw [m]; intro z; cases z)
noncomputable def vz:Sp:=λvs H Q _=>∃c m:Int,vs=[.int c,.int m]/\∀n:Int,0<=n->Q (.int n) H
theorem VO (T:Txt K mg a):aS P w K mg base cU 1 a.zE a.zF ["_law_cell","_law_mode"] vz:=by
 refine T.tU.ok Ka (λvs H Q E h=>?_) (λcf A outer s H vs Q E hr h=>?_)
 ·obtain⟨_,_,rfl,_⟩:=h;rfl
 ·obtain⟨c,m,rfl,q⟩:=h;refine⟨_,(ag (aQ (aD bN (bz eB (pv 1) ai) ai (aH _)) (ah (aw (aI oX rfl T.ui B2 (aa (pv 0) af)))) aG) (ag (aN (i:=2) Ka.nd rfl (Or.inl rfl) (bz eB (bz iB (bz uF (pv 0) ai) ai) ai)) (ah (aw (bz eB (bz uF (pv 2) ai) ai))))),?_⟩;dsimp! [];refine⟨by decide,aY (λ_=>q _ ?_) λ_=>⟨.inr ⟨by decide,by decide⟩,by decide,.inr ⟨by decide,by decide⟩,by decide,q _ (Int.emod_nonneg _ (by decide))⟩⟩
  split <;> omega
noncomputable def gG:List Str:=["make","put","get","drop","weak","pair","put","look","find","copy","words","hear","make"]
noncomputable def kI:List Str:=["tell","same","num","put"]
theorem oR (n z:Int) (h:0 < z):∃d:Nat,n % z=(d:Int)/\(d:Int) < z:=
 ⟨(n % z).toNat,by have:=Int.emod_nonneg n (Int.ne_of_gt h); omega,by have:=Int.emod_nonneg n (Int.ne_of_gt h); have:=Int.emod_lt_of_pos n h; omega⟩
theorem NO:∀j < 26,(Str.ofString "abcdefghijklmnopqrstuvwxyz").cps.toList[j]?=some (97+j):=by decide +kernel
theorem CQ:∀wd∈gG++kI,¬wd="make"->¬wd∈(["num","words"]:List Str)->¬wd="put"->¬wd="get"->¬wd∈(["pair","find"]:List Str)->¬wd∈(["weak","look","copy","same"]:List Str)->wd="drop"\/wd="hear"\/wd="tell":=by decide +kernel
theorem A_ (w:Str) (ss:List Str):MO (.str w) (ss.map V.str)=decide (w∈ss):=by
 rw [Bool.eq_iff_iff,decide_eq_true_iff];unfold MO;rw [List.any_eq_true];constructor
 ·rintro⟨x,hx,e⟩;obtain⟨y,hy,rfl⟩:=List.mem_map.mp hx;have e2:y=w:=by simpa [En] using e
  rw [<-e2];exact hy
 ·intro z;exact⟨_,List.mem_map.mpr ⟨_,z,rfl⟩,by simp [En]⟩
theorem VP {H:Hp}{p:Addr}{ss:List Str}{w:Str}{X Y:Hp->Prop}(hH:H p=some (.lst (ss.map V.str))) (h1:w∈ss->X H) (h2:¬w∈ss->Y H):rIn K false (.str w) (.ref p) H (λx H'=>∃k,x=V.bl k/\if k=true then X H' else Y H'):=by
 refine⟨p,_,rfl,.inl (bf.of hH),rfl,?_,_,rfl,?_⟩
 ·rw [List.all_map];exact List.all_eq_true.mpr λ_ _=>rfl
 ·rw [if_neg Bool.false_ne_true,A_];exact aY (λz=>h1 (of_decide_eq_true z)) λz=>h2 λy=>z (decide_eq_true y)
noncomputable def CS:Sp:=λvs H Q _=>∃c m:Int,vs=[.int c,.int m]/\0<=m/\∀(t:Addr) (d:De) H',aj H H'->H' t=some (.tup d.items)->d.fits->Q (.ref t) H'
theorem VQ (T:Txt K mg a):aS P w K mg base cU 2 a.zG a.zH ["_law_cell","_law_mode"] CS:=by
 refine T.tV.ok gi (λvs H Q E h=>?_) (λcf A outer s H vs Q E hr h=>?_)
 ·obtain⟨_,_,rfl,_⟩:=h;rfl
 ·obtain⟨c,m,rfl,hm,q⟩:=h;refine⟨_,@ag _ _ _ _ _ mH av,?_⟩;dsimp! [];refine xr.strs (i:=2) (ws:=gG) gi.nd rfl (.inl rfl) rfl rfl (.inl rfl) (by decide) λl hl=>?_
  have h1:upd H l (HO.lst (gG.map V.str)) l=some (.lst (gG.map V.str)):=ae;have s1:aj H (upd H l (HO.lst (gG.map V.str))):=.put hl;generalize upd H l (HO.lst (gG.map V.str))=H1 at h1 s1;refine aM.of (@ag _ _ _ _ _ mH av) ?_;dsimp! [];refine xr.aaN (i:=2) (j:=2) (ws:=kI) gi.nd rfl (.inl rfl) rfl rfl (.inl rfl) rfl rfl rfl (.inl rfl) (by decide) rfl h1 (by decide) λl2 H2 s2 h2=>?_
  have s02:=s1.trans s2;refine aM.of (ag (aN (i:=3) gi.nd rfl (Or.inl rfl) aA) av) ?_;dsimp! [];refine aM.of (ag (aN (i:=4) gi.nd rfl (Or.inl rfl) (aq cy (@bE _ _ _ _ (@aa _ _ _ _ _ ai (@aa _ _ _ _ _ ai (@aa _ _ _ _ _ ai (@aa _ _ _ _ _ ai af rfl) rfl) rfl) rfl)) (bz eB (bz cK (pv 1) ai) ai) (λ_ _=>rfl))) av) ?_;dsimp! [];have Y9:∃M:Nat,(M=4\/M=6\/M=26)/\oM [V.int 4,V.int 4,V.int 6,V.int 26] (m / 2 % 4)=some (.int (M:Int)):=by
   obtain⟨d,e,hd⟩:=oR (m / 2) 4 (by decide);rw [e];have:d=0\/d=1\/d=2\/d=3:=by omega
   rcases this with rfl | rfl | rfl | rfl
   ·exact⟨4,.inl rfl,rfl⟩
   ·exact⟨4,.inl rfl,rfl⟩
   ·exact⟨6,.inr (.inl rfl),rfl⟩
   ·exact⟨26,.inr (.inr rfl),rfl⟩
  obtain⟨M,hM,eM⟩:=Y9;have hM0:0 < M/\M<=26:=by omega
  refine⟨by decide,λp hp=>⟨.small (by decide) (by decide),by decide,vp (bf.of ae) eM ?_⟩⟩;have s3:=s02.trans (aj.put (o:=.lst [V.int 4,V.int 4,V.int 6,V.int 26]) hp);have h3:upd H2 p (.lst [V.int 4,V.int 4,V.int 6,V.int 26]) l2=some (.lst (gG.map V.str++kI.map V.str)):=aj.put hp _ _ h2;generalize upd H2 p (.lst [V.int 4,V.int 4,V.int 6,V.int 26])=H3 at s3 h3 ⊢;refine aM.of (ag (aN (i:=5) gi.nd rfl (Or.inl rfl) (aE (VO T) (hr.mono (by decide)) rfl T.Py T.tU.kp T.Px .nil aC (aa (pv 0) (aa (pv 1) af)))) av) ?_;dsimp! [];refine⟨c,m,rfl,λn hn=>?_⟩;refine aM.of (ag (aN (i:=6) gi.nd rfl (Or.inl rfl) (aq cy (pv 2) (bz eB (pv 5) ai) (λ_ _=>rfl))) av) ?_;dsimp! [];have hw:∃wd∈gG++kI,oM (gG.map V.str++kI.map V.str) (n % 17)=some (.str wd):=by
   obtain⟨d,e,hd⟩:=oR n 17 (by decide);rw [e,<-List.map_append];have hd2:d < (gG++kI).length:=by
    have:(gG++kI).length=17:=rfl;omega
   exact⟨_,List.getElem_mem hd2,cG (by rw [List.getElem?_map,List.getElem?_eq_getElem hd2]; rfl)⟩
  obtain⟨wd,hwd,ewd⟩:=hw;refine⟨by decide,vp (bf.of h3) ewd ?_⟩;have lt:∀(z:Int) (R:VK),(∀j:Nat,j < 26->R (.str (⟨#[97+j]⟩:Str)) H3)->W6 (.str (Str.ofString "abcdefghijklmnopqrstuvwxyz")) (.int (z % (M:Int))) H3 R:=λz R r=>by
   obtain⟨d,e,hd⟩:=oR z (M:Int) (by omega);rw [e];exact⟨_,_,_,rfl,rfl,by decide +kernel,cG (NO d (by omega)),r d (by omega)⟩
  have dM:Ep (M:Int):=.small (by omega) (by omega);refine aM.of (ag (aN (i:=7) gi.nd rfl (Or.inl rfl) (aq B0 (pv 3) (bz eB (bz cK (pv 5) ai) (pv 4)) (λ_ _=>rfl))) av) ?_;dsimp! [];refine⟨.small (by decide) (by decide),by omega,lt _ _ λj1 Fj=>?_⟩;refine aM.of (ag (aN (i:=8) gi.nd rfl (Or.inl rfl) (aq B0 (pv 3) (bz eB (bz cK (bz cK (pv 5) ai) (pv 4)) (pv 4)) (λ_ _=>rfl))) av) ?_;dsimp! [];refine⟨.small (by decide) (by decide),dM,by omega,lt _ _ λj2 hj2=>?_⟩;refine aM.of (ag (aN (i:=9) gi.nd rfl (Or.inl rfl) (aq B0 (pv 3) (bz eB (bz cK (bz cK (bz cK (pv 5) ai) (pv 4)) (pv 4)) (pv 4)) (λ_ _=>rfl))) av) ?_;dsimp! [];refine⟨.small (by decide) (by decide),dM,dM,by omega,lt _ _ λj3 hj3=>?_⟩;refine aM.of (ag (aN (i:=5) gi.nd rfl (Or.inl rfl) (bz cK (bz cK (bz cK (bz cK (pv 5) ai) (pv 4)) (pv 4)) (pv 4))) av) ?_;dsimp! [];refine⟨.small (by decide) (by decide),dM,dM,dM,?_⟩;have hN:0<=n / 17 / (M:Int) / (M:Int) / (M:Int):=Int.ediv_nonneg (Int.ediv_nonneg (Int.ediv_nonneg (Int.ediv_nonneg hn (by decide)) (by omega)) (by omega)) (by omega);generalize n / 17 / (M:Int) / (M:Int) / (M:Int)=N at hN ⊢;refine aM.of (ag (aN (i:=10) gi.nd rfl (Or.inl rfl) (bz iB (bz eB (pv 5) ai) (bz uF (bz cK (bz eB (bz cK (pv 5) ai) ai) ai) (bz eB (bz cK (pv 5) ai) ai)))) av) ?_;dsimp! [];have hA:∃A:Nat,N % 3+N / 3 % 4 / 3*(N / 12 % 6)=(A:Int)/\A<=7:=by
   have z:N / 3 % 4 / 3=0\/N / 3 % 4 / 3=1:=by omega
   refine⟨(N % 3+N / 3 % 4 / 3*(N / 12 % 6)).toNat,?_,?_⟩ <;> rcases z with z | z <;> rw [z] <;> omega
  obtain⟨A,eA,hA⟩:=hA;refine⟨by decide,.small (by decide) (by decide),by decide,.small (by decide) (by decide),.small (by decide) (by decide),by decide,.inl ⟨by omega,by omega⟩,?_⟩;rw [eA];have ab:∀j:Nat,j < 26->(⟨#[97+j]⟩:Str)∈Nr:=λj hj=>List.mem_map.mpr ⟨j,List.mem_range.mpr hj,rfl⟩
  have fin:∀(t:Addr) (d:De) (H':Hp),aj H3 H'->H' t=some (.tup d.items)->d.fits->Q (.ref t) H':=λt d H' s e f=>q t d H' (s3.trans s) e f
  refine aM.of (ag (aQ (aD bN (pv 6) aA (aH _)) (ah (aw (bp (aa (pv 6) (aa (pv 7) (aa (pv 10) af)))))) aG) av) ?_;dsimp! [];refine aY (λz=>⟨by decide,λt ht=>fin t (.make _ A) _ (aj.put ht) (by rw [of_decide_eq_true z]; exact ae) ⟨ab j1 Fj,by show A<=100; omega⟩⟩) λz1=>?_
  refine aM.of (ag (aQ (aD dN (pv 6) (bE (aa aA (aa aA af))) (by with_unfolding_all rfl)) (ah (aw (bp (aa (pv 6) (aa (pv 7) (aa (aq cy (bE (aa (bz eB (pv 5) ai) (aa (bz eB (pv 5) (bz Sj ai ai)) af))) (bz eB (bz cK (pv 5) ai) ai) (λ_ _=>rfl)) af)))))) aG) av) ?_;dsimp! [];refine⟨by decide,λp1 CL=>VP (ss:=["num","words"]) ae (λc1=>?_) λc1=>?_⟩
  ·refine⟨by decide,⟨by decide,by decide,by decide⟩,by decide,by decide,λp2 oi=>⟨.small (by decide) (by decide),by decide,?_⟩⟩;have hv:∃v:Int,BJ v/\oM [V.int (N % 5),V.int (N % 10 ^ Int.toNat 60)] (N / 5 % 2)=some (.int v):=by
    obtain⟨d,e,hd⟩:=oR (N / 5) 2 (by decide);rw [e];have:d=0\/d=1:=by omega
    rcases this with rfl | rfl
    ·exact⟨N % 5,⟨Int.emod_nonneg _ (by decide),Int.lt_trans (Int.emod_lt_of_pos _ (by decide)) (by decide)⟩,rfl⟩
    ·exact⟨N % 10 ^ Int.toNat 60,⟨Int.emod_nonneg _ (by decide),Int.lt_of_lt_of_le (Int.emod_lt_of_pos _ (by decide)) (by decide)⟩,rfl⟩
   obtain⟨v,hv,ev⟩:=hv;refine vp (bf.of ae) ev ⟨by decide,λt ht=>?_⟩;have s5:=(aj.put CL).trans ((aj.put oi).trans (aj.put (o:=.tup [V.str wd,V.str {cps:=#[97+j1]},.int v]) ht));rcases List.mem_cons.mp c1 with rfl | c1
   ·exact fin t (.num _ v) _ s5 ae ⟨ab j1 Fj,hv⟩
   ·rw [List.mem_singleton.mp c1] at s5 ⊢;exact fin t (.words _ v) _ s5 ae ⟨ab j1 Fj,hv⟩
  have s4:=aj.put (o:=.lst [V.str (Str.ofString "num"),V.str (Str.ofString "words")]) CL;have ox:∀(t:Addr) (d:De) (H':Hp),aj (upd H3 p1 (.lst [V.str (Str.ofString "num"),V.str (Str.ofString "words")])) H'->H' t=some (.tup d.items)->d.fits->Q (.ref t) H':=λt d H' s e f=>fin t d H' (s4.trans s) e f
  generalize upd H3 p1 (.lst [V.str (Str.ofString "num"),V.str (Str.ofString "words")])=H4 at ox ⊢;refine aM.of (ag (aQ (aD bN (pv 6) aA (aH _)) (ah (aw (bp (aa (pv 6) (aa (pv 7) (aa (pv 10) (aa (pv 8) af))))))) aG) av) ?_;dsimp! [];refine aY (λz=>⟨by decide,λt ht=>ox t (.put _ A _) _ (aj.put ht) (by rw [of_decide_eq_true z]; exact ae) ⟨ab j1 Fj,trivial⟩⟩) λz2=>?_
  refine aM.of (ag (aQ (aD bN (pv 6) aA (aH _)) (ah (aw (bp (aa (pv 6) (aa (pv 7) (aa (pv 8) (aa (pv 10) af))))))) aG) av) ?_;dsimp! [];refine aY (λz=>⟨by decide,λt ht=>ox t (.get _ _ A) _ (aj.put ht) (by rw [of_decide_eq_true z]; exact ae) ⟨ab j1 Fj,trivial⟩⟩) λz3=>?_
  refine aM.of (ag (aQ (aD dN (pv 6) (bE (aa aA (aa aA af))) (by with_unfolding_all rfl)) (ah (aw (bp (aa (pv 6) (aa (pv 7) (aa (pv 8) (aa (pv 9) af))))))) aG) av) ?_;dsimp! [];refine⟨by decide,λp5 Ff=>VP (ss:=["pair","find"]) ae (λc2=>⟨by decide,λt ht=>?_⟩) λc2=>?_⟩
  ·have s5:=(aj.put Ff).trans (aj.put (o:=.tup [V.str wd,V.str {cps:=#[97+j1]},V.str {cps:=#[97+j2]},V.str {cps:=#[97+j3]}]) ht);rcases List.mem_cons.mp c2 with rfl | c2
   ·exact ox t (.pair _ _ _) _ s5 ae ⟨ab j1 Fj,trivial⟩
   ·rw [List.mem_singleton.mp c2] at s5 ⊢;exact ox t (.find _ _ _) _ s5 ae ⟨ab j1 Fj,trivial⟩
  refine aM.of (ag (aQ (aD dN (pv 6) (@bE _ _ _ _ (@aa _ _ _ _ _ aA (@aa _ _ _ _ _ aA (@aa _ _ _ _ _ aA (@aa _ _ _ _ _ aA af rfl) rfl) rfl) rfl)) (by with_unfolding_all rfl)) (ah (aw (bp (aa (pv 6) (aa (pv 7) (aa (pv 8) af)))))) aG) (ah (aw (bp (aa (pv 6) (aa (pv 7) af)))))) ?_;dsimp! [];have s6:=aj.put (o:=.lst [V.str (Str.ofString "pair"),V.str (Str.ofString "find")]) Ff;refine⟨by decide,λp6 hp6=>VP (ss:=["weak","look","copy","same"]) ae (λc3=>⟨by decide,λt ht=>?_⟩) λc3=>⟨by decide,λt ht=>?_⟩⟩
  ·have s7:=s6.trans ((aj.put hp6).trans (aj.put (o:=.tup [V.str wd,V.str {cps:=#[97+j1]},V.str {cps:=#[97+j2]}]) ht));rcases List.mem_cons.mp c3 with rfl | c3
   ·exact ox t (.weak _ _) _ s7 ae ⟨ab j1 Fj,trivial⟩
   ·rcases List.mem_cons.mp c3 with rfl | c3
    ·exact ox t (.look _ _) _ s7 ae ⟨ab j1 Fj,trivial⟩
    ·rcases List.mem_cons.mp c3 with rfl | c3
     ·exact ox t (.copy _ _) _ s7 ae ⟨ab j1 Fj,trivial⟩
     ·rw [List.mem_singleton.mp c3] at s7 ⊢;exact ox t (.same _ _) _ s7 ae ⟨ab j1 Fj,trivial⟩
  ·have s7:=s6.trans ((aj.put hp6).trans (aj.put (o:=.tup [V.str wd,V.str {cps:=#[97+j1]}]) ht));have Y_:=CQ wd hwd (λe=>z1 (decide_eq_true e)) c1 (λe=>z2 (decide_eq_true e)) (λe=>z3 (decide_eq_true e)) c2 c3;rcases Y_ with rfl | rfl | rfl
   ·exact ox t (.drop _) _ s7 ae ⟨ab j1 Fj,trivial⟩
   ·exact ox t (.hear _) _ s7 ae ⟨ab j1 Fj,trivial⟩
   ·exact ox t (.tell _) _ s7 ae ⟨ab j1 Fj,trivial⟩
noncomputable def VR (K:PySem.W.Frag):Sp:=λvs H Q _=>∃(p:Addr) (ns:List Int) (k:Int),vs=[.ref p,.int k]/\bf K H p (ns.map V.int)/\0<=k/\∀z,Q (.int z) H
theorem LY (T:Txt K mg a):aS P w K mg base cU 1 a.zC a.zD ["_law_script","_law_k"] (VR K):=by
 refine T.qh.ok Ud (λvs H Q E h=>?_) (λcf A outer s H vs Q E hr h=>?_)
 ·obtain⟨_,_,_,rfl,_⟩:=h;rfl
 ·obtain⟨p,ns,k,rfl,hS,hk,q⟩:=h;refine⟨_,(ag (aQ (aD G6 (pv 1) (aI cz rfl T.fk dS (aa (pv 0) af)) (aH _)) (ah (aw (aq cy (pv 0) (pv 1) (λ_ _=>rfl)))) aG) (ah (aw ai))),?_⟩;dsimp! [];refine⟨_,.inl hS,aY (λh=>?_) λ_=>q 0⟩;have gY:k.toNat < ns.length:=by
   have:=of_decide_eq_true h;rw [List.length_map] at this;omega
  have e:k=((k.toNat:Nat):Int):=by omega
  have hx:(ns.map V.int)[k.toNat]?=some (V.int ns[k.toNat]):=by simp [gY]
  exact⟨p,_,k,_,rfl,rfl,hS,(congrArg (oM _) e).trans (cG hx),q _⟩
theorem Vl.ok.mono {v:Vl}{m n:Nat}(h:v.ok m) (hl:m<=n):v.ok n:=by
 cases v with
 | no=>trivial
 | num k=>exact h
 | th s=>
  obtain⟨i,e,hi⟩:=h;exact⟨i,e,Nat.lt_of_lt_of_le hi hl⟩
theorem Wd.ok.dP {W:Wd}(h:W.ok) {x:Str}{v:Vl}(hv:v.ok W.ts.length):(W.dP x v).ok:=⟨λy=>by
 show(if y=x then v else W.g y).ok W.ts.length
 by_cases c:y=x
 ·rw [if_pos c];exact hv
 ·rw [if_neg c];exact h.g y,h.ts,h.hs⟩
theorem Wd.ok.new {W:Wd}(h:W.ok) {t:Tg}(h1:∀v∈t.fs,v.ok W.ts.length) (h2:∀n,t.words=some n->BJ n):(Wd.mk W.g (W.ts++[t]) W.hs).ok:=by
 have hl:(W.ts++[t]).length=W.ts.length+1:=by rw [List.length_append]; rfl
 refine⟨λy=>?_,λg hg=>?_,λr hr=>?_⟩
 ·show(W.g y).ok (W.ts++[t]).length;rw [hl];exact(h.g y).mono (Nat.le_succ _)
 ·show(∀v∈g.fs,v.ok (W.ts++[t]).length)/\_;rw [hl];rcases List.mem_append.mp hg with hg | hg
  ·exact⟨λv hv=>((h.ts g hg).1 v hv).mono (Nat.le_succ _),(h.ts g hg).2⟩
  ·rw [List.mem_singleton.mp hg];exact⟨λv hv=>(h1 v hv).mono (Nat.le_succ _),h2⟩
 ·show(1<=r.1/\r.1<=(W.ts++[t]).length)/\_;rw [hl];obtain⟨⟨a,b⟩,c⟩:=h.hs r hr;exact⟨⟨a,Nat.le_succ_of_le b⟩,c⟩
theorem Wd.ok.abB {W:Wd}(h:W.ok) {i:Nat}{t:Tg}(h1:∀v∈t.fs,v.ok W.ts.length) (h2:∀n,t.words=some n->BJ n):(Wd.mk W.g (W.ts.set i t) W.hs).ok:=by
 refine⟨λy=>?_,λg hg=>?_,λr hr=>?_⟩
 ·show(W.g y).ok (W.ts.set i t).length;rw [List.length_set];exact h.g y
 ·show(∀v∈g.fs,v.ok (W.ts.set i t).length)/\_;rw [List.length_set];rcases List.mem_or_eq_of_mem_set hg with hg | rfl
  ·exact h.ts g hg
  ·exact⟨h1,h2⟩
 ·show(1<=r.1/\r.1<=(W.ts.set i t).length)/\_;rw [List.length_set];exact h.hs r hr
theorem Wd.ok.fsD {W:Wd}(h:W.ok) (y:Str) (n:Nat):((W.fs y).getD n .no).ok W.ts.length:=by
 rw [List.getD_eq_getElem?_getD]
 cases e:(W.fs y)[n]? with
 | none=>trivial
 | some v=>
  have hm:=List.mem_of_getElem? e;rcases h.tg y with ⟨i,t,e1,e2,e3⟩ | ⟨e1,e2⟩
  ·have e4:W.fs y=t.fs:=by unfold Wd.fs; rw [e3]
   rw [e4] at hm;exact(h.ts t (List.mem_of_getElem? e2)).1 v hm
  ·have e4:W.fs y=[]:=by unfold Wd.fs; rw [e2]
   rw [e4] at hm;exact nomatch hm
theorem Wd.ok.step {W:Wd}{d:De}(h:W.ok) (hf:d.fits):(W.step d).ok/\(W.step d).ts.length<=W.ts.length+1/\(W.step d).hs.length<=W.hs.length:=by
 have nw:∀(x:Str) (t:Tg),(∀v∈t.fs,v.ok W.ts.length)->(∀n,t.words=some n->BJ n)->((Wd.mk W.g (W.ts++[t]) W.hs).dP x (.th ((W.ts.length:Int)+1))).ok/\(W.ts++[t]).length<=W.ts.length+1/\W.hs.length<=W.hs.length:=λx t a b=>⟨(h.new a b).dP ⟨W.ts.length,rfl,by show W.ts.length < (W.ts++[t]).length; rw [List.length_append]; exact Nat.lt_succ_self _⟩,by rw [List.length_append]; exact Nat.le_refl _,Nat.le_refl _⟩
 have sr:∀(x:Str) (v:Vl),v.ok W.ts.length->(W.dP x v).ok/\W.ts.length<=W.ts.length+1/\W.hs.length<=W.hs.length:=λx v hv=>⟨h.dP hv,Nat.le_succ _,Nat.le_refl _⟩
 have st:∀(i:Nat) (t:Tg),(∀v∈t.fs,v.ok W.ts.length)->(∀n,t.words=some n->BJ n)->(Wd.mk W.g (W.ts.set i t) W.hs).ok/\(W.ts.set i t).length<=W.ts.length+1/\W.hs.length<=W.hs.length:=λi t a b=>⟨h.abB a b,by rw [List.length_set]; exact Nat.le_succ _,Nat.le_refl _⟩
 have id':W.ok/\W.ts.length<=W.ts.length+1/\W.hs.length<=W.hs.length:=⟨h,Nat.le_succ _,Nat.le_refl _⟩
 cases d with
 | num x n=>exact sr x _ hf.2
 | make x n=>exact nw x _ (λv hv=>by rw [(List.mem_replicate.mp hv).2]; trivial) (λn e=>by cases e)
 | weak x y=>exact nw x _ (λv hv=>by rw [List.mem_singleton.mp hv]; exact h.g y) (λn e=>by cases e)
 | pair x y z=>
  refine nw x _ (λv hv=>?_) (λn e=>by cases e);rcases List.mem_cons.mp hv with rfl | hv
  ·exact h.g y
  ·rw [List.mem_singleton.mp hv];exact h.g z
 | words x n=>
  show(W.nY n (W.tg x)).ok/\_;rcases h.tg x with ⟨i,t,e1,e2,e3⟩ | ⟨e1,e2⟩
  ·have ho:=h.ts t (List.mem_of_getElem? e2);have es:W.step (.words x n)=W.nY n (some (i,t)):=by show W.nY n (W.tg x)=_; rw [e3]
   rw [es,e3]
   cases t with
   | plain fs w=>exact st i (.plain fs (some n)) ho.1 (λm e=>by cases e; exact hf.2)
   | weak f=>exact id'
   | pair k v=>exact id'
  ·have es:W.step (.words x n)=W.nY n none:=by show W.nY n (W.tg x)=_; rw [e2]
   rw [es,e2];exact id'
 | put x n y=>
  show(W.n_ n (W.g y) (W.tg x)).ok/\_;rcases h.tg x with ⟨i,t,e1,e2,e3⟩ | ⟨e1,e2⟩
  ·have ho:=h.ts t (List.mem_of_getElem? e2);have es:W.step (.put x n y)=W.n_ n (W.g y) (some (i,t)):=by show W.n_ n (W.g y) (W.tg x)=_; rw [e3]
   rw [es,e3]
   cases t with
   | plain fs w=>
    refine st i (.plain (fs.set n (W.g y)) w) (λv hv=>?_) ho.2;rcases List.mem_or_eq_of_mem_set hv with hv | rfl
    ·exact ho.1 v hv
    ·exact h.g y
   | weak f=>exact id'
   | pair k v=>exact id'
  ·have es:W.step (.put x n y)=W.n_ n (W.g y) none:=by show W.n_ n (W.g y) (W.tg x)=_; rw [e2]
   rw [es,e2];exact id'
 | get x y n=>exact sr x _ (h.fsD y n)
 | look x y=>exact sr x _ (h.fsD y 0)
 | find x y z=>
  refine sr x _ ?_;split
  ·exact h.fsD y 1
  ·trivial
 | copy x y=>exact sr x _ (h.g y)
 | drop x=>exact sr x _ trivial
 | tell x=>exact id'
 | same x y=>exact id'
 | hear x=>
  cases e:W.hs with
  | nil=>
   have es:W.step (.hear x)=W.dP x .no:=by show W.qB x W.hs=_; rw [e]; rfl
   rw [es];exact⟨h.dP trivial,Nat.le_succ _,by show W.hs.length<=_; rw [e]; exact Nat.le_refl _⟩
  | cons r qA=>
   have es:W.step (.hear x)=(Wd.mk W.g W.ts qA).dP x (.th (r.1:Nat)):=by show W.qB x W.hs=_; rw [e]; rfl
   rw [es];obtain⟨⟨r1,r2⟩,_⟩:=h.hs r (by rw [e]; exact List.mem_cons_self);have ok':(Wd.mk W.g W.ts qA).ok:=⟨h.g,h.ts,λq hq=>h.hs q (by rw [e]; exact List.mem_cons_of_mem _ hq)⟩
   refine⟨ok'.dP ⟨r.1 - 1,by omega,by show r.1 - 1 < W.ts.length; omega⟩,Nat.le_succ _,?_⟩;show qA.length<=(r::qA).length;exact Nat.le_succ _
theorem Wd.ok.after {W:Wd}{d:De}(h:W.ok) (hf:d.fits):(W.after d).ok/\(W.after d).ts.length<=W.ts.length+1/\(W.after d).hs.length<=W.hs.length:=by
 unfold Wd.after;split
 ·exact⟨h,Nat.le_succ _,Nat.le_refl _⟩
 ·exact h.step hf
theorem PH.more {Pr Pr':Addr->Prop}{H H':Hp}{A:HA}{g:Str->Vl}{ts:List Tg}{hs:List (Nat×Int)}(h:PH a K Pr H A g ts hs) (s:aj H H') (n:∀b,Pr' b->(Pr b\/H b=none)/\H' b≠none):PH a K Pr' H' A g ts hs:=by
 have h':=h.same s;obtain⟨ps,h4,h5,h6,h7⟩:=h'.th;obtain⟨ps0,g4,g5,g6,g7⟩:=h.th;have ow:∀b,A.own b->H b≠none:=λb hb=>(h.mu b hb).some
 refine⟨h'.ob,h'.rt,⟨ps0,s _ _ g4,g5,λi q t a b=>(g6 i q t a b).same s,λq hq=>⟨(g7 q hq).1,λz=>?_⟩⟩,h'.he,h'.ne,λb hb=>⟨(n b hb).2,λz=>?_⟩,h'.bX⟩
 ·rcases (n _ z).1 with c | c
  ·exact(g7 q hq).2 c
  ·obtain⟨i,hi⟩:=List.mem_iff_getElem?.mp hq;obtain⟨_,_,e,_⟩:=g6 i q _ hi (List.getElem?_eq_getElem (by rw [<-g5]; exact(List.getElem?_eq_some_iff.mp hi).1));rw [c] at e;cases e
 ·rcases (n b hb).1 with c | c
  ·exact(h.pr b c).2 z
  ·exact ow b z c
noncomputable def W0:Wd:=⟨λ_=>.no,[],[]⟩
theorem Za:W0.ok:=⟨(λ_=>trivial),(λt ht=>nomatch ht),λr hr=>nomatch hr⟩
theorem gn.start {H:Hp}{d0 d1 l2 st:Addr}{Pr:Addr->Prop}(h0:H d0=none) (h1:upd H d0 (.dK []) d1=none) (h2:upd (upd H d0 (.dK [])) d1 (.dK []) l2=none) (h3:upd (upd (upd H d0 (.dK [])) d1 (.dK [])) l2 (.lst []) st=none) (hP:∀b,Pr b->H b≠none) :
  ∃H',upd (upd (upd (upd H d0 (.dK [])) d1 (.dK [])) l2 (.lst [])) st (.tup [.ref d0,.ref d1,.ref l2])=H'/\aj H H'/\gn K Pr H' ⟨st,d0,d1,l2⟩ W0/\∀b,LA.own ⟨st,d0,d1,l2⟩ b->H b=none:=by
 have s0:=aj.put (o:=.dK []) h0;have s1:=aj.put (o:=.dK []) h1;have s2:=aj.put (o:=.lst []) h2;have s3:=aj.put (o:=.tup [.ref d0,.ref d1,.ref l2]) h3;have e0:=s3 _ _ (s2 _ _ (s1 _ _ (ae (H:=H) (a:=d0) (o:=.dK []))));have e1:=s3 _ _ (s2 _ _ (ae (H:=upd H d0 (.dK [])) (a:=d1) (o:=.dK [])));have e2:=s3 _ _ (ae (H:=upd (upd H d0 (.dK [])) d1 (.dK [])) (a:=l2) (o:=.lst []));have e3:=ae (H:=upd (upd (upd H d0 (.dK [])) d1 (.dK [])) l2 (.lst [])) (a:=st) (o:=.tup [.ref d0,.ref d1,.ref l2]);have sm:=s0.trans (s1.trans (s2.trans s3));have n01:d0≠d1:=az ae h1;have fr:∀b,LA.own ⟨st,d0,d1,l2⟩ b->H b=none:=λb z=>by
  rcases z with rfl | rfl | rfl
  ·exact h0
  ·exact s0.free h1
  ·exact(s0.trans s1).free h2
 generalize upd (upd (upd (upd H d0 (.dK [])) d1 (.dK [])) l2 (.lst [])) st (.tup [.ref d0,.ref d1,.ref l2])=H' at e0 e1 e2 e3 sm;refine⟨H',rfl,sm,⟨bS.of e3,⟨[],e0,⟨List.nodup_nil,(λkv h=>(nomatch h)),(λx u e=>by cases e),λ_ _=>rfl⟩,λx u e=>by cases e⟩,⟨[],e1,rfl,(λi q t h=>by simp at h),λq hq=>(nomatch hq)⟩,⟨[],e2,rfl,λi x h a=>by simp at a⟩,n01,λb hb=>⟨some_of (hP b hb) λo e=>sm b o e,λz=>hP b hb (fr b z)⟩,by decide,by decide⟩,fr⟩
noncomputable def NP (a:ft) (K:PySem.W.Frag):Sp:=λvs H Q _=>∃(lc:Addr) (cells:List Int) (mode:Int),vs=[.ref lc,.int mode]/\0<=mode/\H lc=some (.lst (cells.map V.int))/\cells.length<=63 /\
 ∀(A:HA) (L:LA) (W:Wd) (r:Addr) H',aj H H'->PW a K L.own H' A W->gn K A.own H' L W->W.ok->W.ts.length<=63->H' r=some (.tup [.ref A.p,.ref L.st])->Q (.ref r) H'
noncomputable def IRn (a:ft) (K:PySem.W.Frag) (A:HA) (L:LA) (lc:Addr) (mode:Int) (cells:List Int) (H0:Hp) (i:Nat) (σ:St) (H:Hp):Prop:=(∃v4 v5,σ=[some (.ref lc),some (.int mode),some (.ref A.p),some (.ref L.st),v4,v5])/\∃W,PW a K L.own H A W/\gn K A.own H L W/\W.ok/\W.ts.length<=i/\aj H0 H
theorem VS (T:Txt K mg a):aS P w K mg base cU 9 a.Af a.Ag ["_law_script","_law_mode"] (NP a K):=by
 refine T.ue.ok pJ (λvs H Q E h=>?_) (λcf A outer s H vs Q E hr h=>?_)
 ·obtain⟨_,_,_,rfl,_⟩:=h;rfl
 ·obtain⟨lc,cells,mode,rfl,hm,hlc,M3,q⟩:=h;refine⟨_,(ag (aN (i:=2) pJ.nd rfl (Or.inl rfl) (Hd T.lD (UK T) (hr.mono (by decide)) rfl T.lH T.Pm .nil aC)) (ag (aN (i:=3) pJ.nd rfl (Or.inl rfl) (bp (aa fU (aa fU (aa (bE af) af))))) (ag (cS PassesOwn.never rfl (cx (pv 0)) (aU (i:=4) pJ.nd rfl (Or.inl rfl)) av) av))),?_⟩;dsimp! [];refine λp1 dx1 CL abC ne1=>⟨p1,dx1,rfl,ae,λA H1 eA kpA a1 a2 a3 hPA=>⟨rfl,?_⟩⟩
  have sA:aj H H1:=il CL abC kpA;have pA1:PH a K (λ_=>False) H1 A (λ_=>.no) [] []:=hPA _ λb z=>z.elim
  subst eA;clear hPA kpA;refine λd0 h0 d1 h1 l2 h2=>⟨by decide,λst h3=>?_⟩
  obtain⟨H3,e3,s3,XE,GQ⟩:=gn.start (K:=K) (Pr:=A.own) h0 h1 h2 h3 λb hb=>(pA1.mu b hb).some
  rw [e3];clear e3 h0 h1 h2 h3;have pA3:PW a K (LA.own ⟨st,d0,d1,l2⟩) H3 A W0:=pA1.more s3 λb hb=>⟨.inr (GQ b hb),(XE.mu b hb).some⟩
  have eL:(⟨st,d0,d1,l2⟩:LA).st=st:=rfl;generalize (⟨st,d0,d1,l2⟩:LA)=L at XE pA3 eL GQ;subst eL;have oA:∀b,A.own b->∀u,¬H b=some u:=λb z u e=>by
   have:H b=none:=by
    rcases z with rfl | rfl | rfl
    ·exact cI (cI a1)
    ·exact cI (cI a2)
    ·exact cI (cI a3)
   rw [this] at e;cases e
  have oL:∀b,L.own b->∀u,¬H b=some u:=λb z u e=>by
   have:=sA b u e;rw [GQ b z] at this;cases this
  have s03:=sA.trans s3;refine⟨⟨_,bf.of (s03 _ _ hlc)⟩,dA (cells.map V.int) (IRn a K A L lc mode cells H) ⟨⟨_,_,rfl⟩,W0,pA3,XE,Za,Nat.le_refl _,s03⟩ (λi σ' H' _ hh=>?_) (λi x σ' H6 hx hh=>?_) λσ' H6 hh=>?_⟩
  ·obtain⟨_,W,_,_,_,_,e⟩:=hh;exact bf.of (e _ _ hlc)
  ·obtain⟨⟨v4,v5,rfl⟩,W,pA,hL,ok,l1,sH6⟩:=hh;rw [List.getElem?_map] at hx
   cases ec:cells[i]? with
   | none=>rw [ec] at hx; cases hx
   | some c=>
    rw [ec] at hx;cases hx;have hi:i < cells.length:=(List.getElem?_eq_some_iff.mp ec).1;refine gN ?_;refine aM.of (ag (aN (i:=5) pJ.nd rfl (Or.inl rfl) (aE (VQ T) (hr.mono (by decide)) rfl T.PB T.tV.kp T.Pz .nil aC (aa (pv 4) (aa (pv 1) af)))) (ah (aQ (aD mz (aE (Ln T) (hr.mono (by decide)) rfl T.K5 T.qi.kp T.K4 .nil aC (aa (pv 3) (aa (pv 5) af))) cB (aH _)) (ag (bx (aR (pv 2) T.ar T.KR (Vb T) (hr.mono (by decide)) T.Pn .nil aC (aa (pv 5) af))) (ah (bx (aE (Vj T) (hr.mono (by decide)) rfl T.PX T.ub.kp T.PV .nil aC (aa (pv 3) (aa (pv 5) af)))))) aG))) ?_;dsimp! [];refine⟨c,mode,rfl,hm,λt d H7 s7 et fd=>?_⟩;refine⟨A.own,L,W,t,d,rfl,hL.same s7,ok,bS.of et,λH8 s8=>?_⟩;have Qp:=s7.trans s8;have Zb:=pA.same Qp;have hL8:=hL.same Qp
    cases er:W.refuse d with
    | some z=>exact aY (λy=>by cases y) λ_=>⟨⟨_,_,rfl⟩,W,Zb,hL8,ok,by omega,sH6.trans Qp⟩
    | none=>
     refine aY (λ_=>?_) λy=>absurd rfl y
     obtain⟨dx,o8⟩:=Zb.ob;refine⟨dx,_,o8,bt,L.own,A,W,t,d,rfl,⟨Zb,ok,bS.of (s8 _ _ et)⟩,fd,by omega,er,λH9 k9 pA9=>?_⟩;have hL9:gn K A.own H9 L W:=hL8.kp k9 Zb.mu (λb z=>z) λb z=>(pA9.mu b z).some
     refine⟨A.own,L,W,t,d,rfl,hL9,ok,k9.cc Zb.mu (bS.of (s8 _ _ et)),fd,by omega,λOf VT VU=>?_⟩;have abD:PW a K L.own Of A (W.step d):=pA9.kp VT hL9.mu (λb z=>z) λb z=>(VU.mu b z).some
     have ea:W.after d=W.step d:=by unfold Wd.after; rw [er]; rfl
     obtain⟨Zc,m1,_⟩:=ok.after fd;rw [ea] at VU Zc m1;exact⟨⟨_,_,rfl⟩,W.step d,abD,VU,Zc,by omega,λb u e=>VT b u (λz=>oL b z u e) (k9 b u (λz=>oA b z u e) (Qp b u (sH6 b u e)))⟩
  ·obtain⟨⟨v4,v5,rfl⟩,W,pA,hL,ok,l1,sH6⟩:=hh;refine aM.of (ah (aw (bp (aa (pv 2) (aa (pv 3) af))))) ?_;dsimp! [];rw [List.length_map] at l1;exact⟨by decide,λr hr=>q A L W r _ (sH6.trans (aj.put hr)) (pA.same (aj.put hr)) (hL.same (aj.put hr)) ok (by omega) ae⟩
noncomputable def NQ (K:PySem.W.Frag):Sp:=λvs H Q _=>∃(d x th:Addr) (ts:List Tg) (S0:List Nat) (pre:List Rw) (r:Rw),vs=[.ref d,.ref x,.ref th]/\se K H d ts/\sd ts/\H x=some (.tup r.items)/\i_ H th (cY pre)/\YY ts S0 pre r/\∀H',aj H H'->Q (.bl true) H'
theorem VV (T:Txt K mg a):aS P w K mg base cU 1 a.Ah a.Ai ["_law_things","_law_row","_law_there"] (NQ K):=by
 refine T.uf.ok kA (λvs H Q E h=>?_) (λcf A outer s H vs Q E hr h=>?_)
 ·obtain⟨_,_,_,_,_,_,_,rfl,_⟩:=h;rfl
 ·obtain⟨d,x,th,ts,S0,pre,r,rfl,h,ok,hx,hm,⟨_,o,t,eo,ho,ht,hj⟩,q⟩:=h;refine⟨_,(ag (mx (pv 1) (iA (n:=3) rfl (bL (aU (i:=3) kA.nd rfl (Or.inl rfl)) (bL (aU (i:=4) kA.nd rfl (Or.inl rfl)) (bL (aU (i:=5) kA.nd rfl (Or.inl rfl)) gr))))) (ag (aQ (PW.pt (gJ (oU (jJ (bI hr) (pv 5) (pv 2))) (gh (aD iE (pv 4) (bE (aa aA (aa aA af))) (by with_unfolding_all rfl))))) (ah (aw dk)) aG) (ag (mx (cH (bI hr) (pv 0) (pv 5) (λ_ _=>rfl)) (iA (n:=3) rfl (bL (aU (i:=6) kA.nd rfl (Or.inl rfl)) (bL (aU (i:=7) kA.nd rfl (Or.inl rfl)) (bL (aU (i:=8) kA.nd rfl (Or.inl rfl)) gr))))) (ag (aQ (aD bN (pv 4) aA (aH _)) (ah (aw (iz (da bN (pv 6) aA (aH _)) (mw (da (S7 hr.units) (bp (aa aA (aa (pv 3) af))) (pv 7) (by with_unfolding_all rfl)))))) aG) (ah (aw (iz (da bN (pv 6) aA (aH _)) (iz (da bN (aq ak (aq cy (pv 7) ai (λ_ _=>rfl)) ai (λ_ _=>rfl)) aA (aH _)) (iz (uE (B7 (bI hr) (aq ak (aq cy (pv 7) ai (λ_ _=>rfl)) ai (λ_ _=>rfl)) (pv 2))) (mw (da (iI hr.units) (aq cy (pv 7) ai (λ_ _=>rfl)) (bp (aa aA (aa (pv 3) af))) (aH _)))))))))))),?_⟩;dsimp! [];have ex:r.items=[.int (r.k:Nat),.str r.how,.int (o:Nat)]:=by
   unfold Rw.items;rw [eo];rfl
  rw [ex] at hx;refine⟨_,bS.of hx,rfl,_,_,rfl,_,_,rfl,_,_,rfl,rfl,?_⟩;have hw:r.how="held"\/r.how="pair":=by
   rcases hj with ⟨e,_⟩ | ⟨e,_⟩
   ·exact .inl e
   ·exact .inr e
  refine⟨_,hm.ask o,?_⟩;rw [if_pos ho];refine cV ⟨by rw [sizeLine_eq]; decide,λp1 CL=>?_⟩;have s1:aj H (upd H p1 (.lst [V.str (Str.ofString "held"),V.str (Str.ofString "pair")])):=aj.put CL;have BE:upd H p1 (.lst [V.str (Str.ofString "held"),V.str (Str.ofString "pair")]) p1=some (.lst [V.str (Str.ofString "held"),V.str (Str.ofString "pair")]):=ae;generalize upd H p1 (.lst [V.str (Str.ofString "held"),V.str (Str.ofString "pair")])=H1 at s1 BE;refine⟨p1,_,rfl,.inl (bf.of BE),rfl,rfl,_,rfl,?_⟩;have e1:MO (.str r.how) [V.str (Str.ofString "held"),V.str (Str.ofString "pair")]=true:=by
   have:=A_ r.how ["held","pair"];rw [show [V.str (Str.ofString "held"),V.str (Str.ofString "pair")]=(["held","pair"]:List Str).map V.str from rfl,this];refine decide_eq_true ?_;rcases hw with e | e
   ·rw [e]; exact List.mem_cons_self
   ·rw [e]; exact List.mem_cons_of_mem _ List.mem_cons_self
  rw [e1,if_pos rfl];obtain⟨p,lf,hp,hg⟩:=h.xw s1 ht;have CL:=hp.same s1;obtain⟨h1,xs,h2,h3,h4⟩:=id CL;refine cV ⟨_,hg,p,rfl,_,bS.of h1,rfl,_,_,rfl,_,_,rfl,_,_,rfl,rfl,rfl,?_⟩;have LZ:∀(v:Vl) (k:Nat),v.ok ts.length->jO v=some k->v=.th (k:Int):=λv k hv e=>by
   cases v with
   | no=>cases e
   | num z=>cases e
   | th z=>
    cases e;obtain⟨i,ez,_⟩:=hv;rw [Int.toNat_of_nonneg (by omega)]
  rcases hj with ⟨eh,hk⟩ | ⟨eh,m,em,hmm,hk⟩
  ·rw [eh];refine hW ⟨rfl,?_⟩
   cases t with
   | weak f=>cases hk
   | pair kk vv=>cases hk
   | plain fs w=>
    refine hW ⟨by rw [sizeLine_eq]; decide,λp2 oi=>?_⟩;have s2:aj H1 (upd H1 p2 (.tup [V.str (Str.ofString "thing"),V.int (r.k:Int)])):=aj.put oi;have kg:upd H1 p2 (.tup [V.str (Str.ofString "thing"),V.int (r.k:Int)]) p2=some (.tup [V.str (Str.ofString "thing"),V.int (r.k:Int)]):=ae;generalize upd H1 p2 (.tup [V.str (Str.ofString "thing"),V.int (r.k:Int)])=H2 at s2 kg;obtain⟨as,ea,_⟩:=oQ (ys:=xs) λi y e=>by
     have hi:=(List.getElem?_eq_some_iff.mp e).1;obtain⟨t,et,_⟩:=h3.2 i y _ e (List.getElem?_eq_getElem (by rw [h3.1]; exact hi));exact⟨t,et⟩
    subst ea;have isv:dw K H2 (.ref p2) (.th (r.k:Int)):=⟨p2,rfl,bS.of kg⟩
    refine⟨lf,as,fs.map vD,vD (.th (r.k:Int)),rfl,bf.of (s2 _ _ h2),by rw [List.length_map,<-List.length_map (f:=V.ref) (as:=as)]; exact h3.1.symm,λi b e hb he=>?_,isv.rN,?_⟩
    ·rw [List.getElem?_map] at he
     cases e2:fs[i]? with
     | none=>rw [e2] at he; cases he
     | some v=>
      rw [e2] at he;cases he;exact⟨((h3.2 i (.ref b) v (by rw [List.getElem?_map,hb]; rfl) e2).same s2).rN,by rw [jx]; decide⟩
    ·rw [if_neg Bool.false_ne_true];have:((fs.map vD).any λe=>bA e (vD (.th (r.k:Int))))=true:=by
      obtain⟨v,hv,e⟩:=List.mem_filterMap.mp hk;have e2:=LZ v r.k (ok _ ht.mem v hv) e;refine List.any_eq_true.mpr ⟨vD v,List.mem_map.mpr ⟨v,hv,rfl⟩,?_⟩;rw [e2];exact dm _
     rw [this];exact q _ (s1.trans s2)
  ·obtain⟨kk,vv,rfl⟩:=jP em;have okk:=ok _ ht.mem kk List.mem_cons_self;have Vz:=ok _ ht.mem vv (List.mem_cons_of_mem _ List.mem_cons_self);have e2:=LZ kk m okk em;have e3:vv=.th (r.k:Int):=by
    obtain⟨v,hv,e⟩:=List.mem_filterMap.mp hk;rw [List.mem_singleton.mp hv] at e;exact LZ vv r.k Vz e
   subst e2 e3;have gg:xs.length=2:=h3.1.symm;obtain⟨x0,x1,rfl⟩:∃x0 x1,xs=[x0,x1]:=by
    match xs,gg with
    | [x,y],_=>exact⟨x,y,rfl⟩
   obtain⟨t0,rfl,VB⟩:=h3.2 0 x0 _ rfl rfl;have hv1:=h3.2 1 x1 _ rfl rfl;rw [eh];refine aY (λz=>absurd (V.str.inj (of_decide_eq_true z)) (by decide +kernel)) λ_=>⟨rfl,hW (vp (bf.of h2) (cG (j:=0) rfl) (bF VB rfl ⟨rfl,hW (vp (bf.of h2) (cG (j:=0) rfl) (bF VB rfl ?_))⟩))⟩
   refine⟨_,(show i_ H1 th (cY pre) from s1 _ _ hm).ask m,?_⟩;rw [if_pos hmm];refine hW (vp (bf.of h2) (cG (j:=1) rfl) ⟨by rw [sizeLine_eq]; decide,λp2 oi=>?_⟩);have s2:aj H1 (upd H1 p2 (.tup [V.str (Str.ofString "thing"),V.int (r.k:Int)])):=aj.put oi;have isv:dw K (upd H1 p2 (.tup [V.str (Str.ofString "thing"),V.int (r.k:Int)])) (.ref p2) (.th (r.k:Int)):=⟨p2,rfl,bS.of ae⟩
   refine⟨_,_,(hv1.same s2).rN,isv.rN,by rw [jx]; decide,?_⟩;rw [if_neg Bool.false_ne_true,dm];exact q _ (s1.trans s2)
noncomputable def CT (K:PySem.W.Frag):Sp:=λvs H Q _=>∃(l d ls:Addr) (ts:List Tg) (S:List Nat) (R:List Rw) (wl:Nat->List Nat),vs=[.ref l,.ref d,.ref ls]/\RwL H l R/\RM ts S R wl R.length/\(∀k∈cY R,1<=k/\k<=ts.length)/\se K H d ts/\sd ts/\ts.length<=63/\H ls=some (.lst (aF S))/\(∀k∈S,1<=k/\k<=ts.length)/\∀r H',aj H H'->H r=none->H' r=some (.lst (aF (cls ts S)))->Q (.ref r) H'
noncomputable def IWk (l d ls th:Addr) (R:List Rw) (H0:Hp) (i:Nat) (σ:St) (H:Hp):Prop:=(∃v4,σ=[some (.ref l),some (.ref d),some (.ref ls),some (.ref th),v4])/\aj H0 H/\i_ H th (cY (R.take i))
theorem VW (T:Txt K mg a):aS P w K mg base cU 2 a.Aj a.Ak ["_law_rows","_law_things","_law_some"] (CT K):=by
 refine T.ug.ok Cu (λvs H Q E h=>?_) (λcf A outer s H vs Q E hr h=>?_)
 ·obtain⟨_,_,_,_,_,_,_,rfl,_⟩:=h;rfl
 ·obtain⟨l,d,ls,ts,S,R,wl,rfl,⟨xs,kh,ED,Gx⟩,rm,hle,h,ok,bX,hl,hS,q⟩:=h;refine⟨_,(ag (aN (i:=3) Cu.nd rfl (Or.inl rfl) fU) (ag (aQ (eV (cQ (aI bo rfl T.aV a_ (aa (pv 0) (aa (c_ (v:=.ty "list") rfl T.fH fM rfl) af))))) (ah (aw cB)) aG) (ag (cS PassesOwn.never rfl (cx (pv 0)) (aU (i:=4) Cu.nd rfl (Or.inl rfl)) av) av))),?_⟩;dsimp! [];intro th E9;have s1:aj H (upd H th (.dK [])):=aj.put E9;have CN:i_ (upd H th (.dK [])) th []:=ae;generalize upd H th (.dK [])=H1 at s1 CN;refine⟨_,.s (.lst (s1.seq (bf.of kh))),true,lj K _,cV ⟨⟨_,bf.of (s1 _ _ kh)⟩,dA (xs.map V.ref) (IWk l d ls th R H) ⟨⟨_,rfl⟩,s1,CN⟩ (λi σ' H' _ hh=>bf.of (hh.2.1 _ _ kh)) (λi x σ' H2 hx hh=>?_) λσ' H2 hh=>?_⟩⟩
  ·obtain⟨⟨v4,rfl⟩,s2,jR⟩:=hh;rw [List.getElem?_map] at hx
   cases e:xs[i]? with
   | none=>rw [e] at hx; cases hx
   | some y=>
    rw [e] at hx;cases hx;have hi:=(List.getElem?_eq_some_iff.mp e).1;have er:R[i]?=some (R[i]'(by omega)):=List.getElem?_eq_getElem _;obtain⟨r,err⟩:∃r,R[i]'(by omega)=r:=⟨_,rfl⟩
    rw [err] at er;have hy:=s2 _ _ (Gx i y r e er);refine gN ?_;refine aM.of (ag (aQ (PW.pt (gJ (eV (cQ (aI bo rfl T.aV a_ (aa (pv 4) (aa (c_ (v:=.ty "tuple") rfl T.jN oY rfl) af))))) (gJ (aD jg (aI cz rfl T.fk dS (aa (pv 4) af)) ai (aH _)) (gh (oU (B7 (bI hr) (aq jq (pv 4) ai (λ_ _=>rfl)) (pv 3))))))) (ah (aw cB)) aG) (ag (aQ (aD bN (aq jq (pv 4) ai (λ_ _=>rfl)) aA (aH _)) (ah (aQ (PW.pt (gJ (aD iE (aq jq (pv 4) ai (λ_ _=>rfl)) (pv 2) (by with_unfolding_all rfl)) (gh (aD oJ (aq jq (pv 4) ai (λ_ _=>rfl)) cB (aH _))))) (ah (aw cB)) aG)) (ah (aQ (PW.pt (gJ (aD dN (aq jq (pv 4) ai (λ_ _=>rfl)) (pv 2) (by with_unfolding_all rfl)) (gh (eV (cQ (aE (VV T) (hr.mono (by decide)) rfl T.P1 T.uf.kp T.P0 .nil aC (aa (pv 1) (aa (pv 4) (aa (pv 3) af))))))))) (ah (aw cB)) aG))) (ah (dc (bI hr) (pv 3) (aq jq (pv 4) ai (λ_ _=>rfl)) dk rfl)))) ?_;dsimp! [];have VX:∀{H':Hp}{j:Int}{v:V}{Q:VK},aj H2 H'->oM r.items j=some v->Q v H'->SQ K (.ref y) (.int j) H' Q:=λs' ea q=>.inr ⟨y,_,_,_,rfl,rfl,bS.of (s' _ _ hy),ea,q⟩
    have hnk:r.k∉cY (R.take i):=λz=>by
     have n2:(cY (R.take (i+1))).Nodup:=by
      unfold cY;rw [List.map_take];exact List.Pairwise.sublist (List.take_sublist _ _) rm.nd
     rw [List.take_add_one,er] at n2;have n3:(cY (R.take i++[r])).Nodup:=n2;rw [fq] at n3;exact(List.nodup_append.mp n3).2.2 _ z _ (List.mem_singleton.mpr rfl) rfl
    have lU:(cY (R.take i)).length<=63:=by
     have h1:=en rm.nd hle;unfold cY at h1 ⊢;rw [List.length_map] at h1 ⊢;rw [List.length_take];omega
    have fin:∀H3,aj H2 H3->∃x,gS H3 th (.int (r.k:Nat)) (V.bl true) x/\IWk l d ls th R H (i+1) [some (V.ref l),some (V.ref d),some (V.ref ls),some (V.ref th),some (V.ref y)] x:=λH3 s3=>by
     refine⟨_,gS.k (k:=Sum.inl (r.k:Int)) (s3 _ _ jR) (aJ (by rw [dZ]; omega)),⟨_,rfl⟩,.putD (s2.trans s3) E9,?_⟩;unfold i_;rw [ae,jz];unfold ma;rw [if_neg hnk,List.take_add_one,er];show _=some (HO.dK (dQ (cY (R.take i++[r]))));rw [fq]
    refine⟨_,.s (.tup (bS.of hy)),true,lj K _,cV ⟨r.items,.inr (bS.of hy),cV (VX (.refl _) rfl ⟨_,jR.ask r.k,?_⟩)⟩⟩;rw [if_neg hnk];refine cV (VX (.refl _) rfl ⟨rfl,?_⟩)
    by_cases hb:i < S.length
    ·have e1:R[i]?=(S[i]?).map λs=>(⟨s,"begin",none⟩:Rw):=by
      have:=congrArg (λl=>l[i]?) rm.Qi;rw [List.getElem?_take,if_pos hb,List.getElem?_map] at this;exact this
     have e2:S[i]?=some S[i]:=List.getElem?_eq_getElem hb;rw [e2,er] at e1;have e3:r=⟨S[i],"begin",none⟩:=Option.some.inj e1;have hk:r.k∈S:=by rw [e3]; exact List.getElem_mem hb
     have hh:r.how="begin":=by rw [e3]
     have ho:r.o=none:=by rw [e3]
     rw [hh];refine hW (VX (.refl _) rfl ⟨ls,_,rfl,.inl (bf.of (s2 _ _ hl)),rfl,iR S,_,rfl,?_⟩);rw [if_pos rfl,qE,decide_eq_true hk];refine cV (VX (.refl _) rfl ?_);rw [ho];exact cV (VX (.refl _) rfl (fin _ (.refl _)))
    ·have VA:=rm.VA i r (by omega) er;have hw:¬r.how="begin":=λz=>by
      obtain⟨o,t,_,_,_,y⟩:=VA.by_;rcases y with ⟨y,_⟩ | ⟨y,_⟩
      ·rw [y] at z;exact absurd z (by decide +kernel)
      ·rw [y] at z;exact absurd z (by decide +kernel)
     refine aY (λz=>absurd (V.str.inj (of_decide_eq_true z)) hw) λ_=>VX (.refl _) rfl ⟨ls,_,rfl,.inl (bf.of (s2 _ _ hl)),rfl,iR S,_,rfl,?_⟩
     rw [if_neg Bool.false_ne_true,qE,decide_eq_false VA.no];exact cV ⟨d,y,th,ts,S,R.take i,r,rfl,h.same s2,ok,hy,jR,VA,λH3 s3=>⟨true,rfl,cV (VX s3 rfl (fin _ s3))⟩⟩
  ·obtain⟨⟨v4,rfl⟩,s2,jR⟩:=hh;rw [List.length_map,ED,List.take_length] at jR;refine aM.of (ah (aw (aI (fc rfl) rfl T.dY fE (aa (pv 3) af)))) ?_;dsimp! [];exact kH jR rm.nd hle bX (mQ ts S) (λx=>by rw [iS ok hS,rm.done]) λr hr=>q r _ (s2.trans (aj.put hr)) (s2.free hr) ae
section
variable {X:Cx}
theorem CU:eX X (.type "dict") (λxs H Q=>∃(p:Addr) (kvs:List (Key×V)),xs=[.ref p]/\Rd H p (.dK kvs)/\∀q,H q=none->Q (.ref q) (upd H q (.dK kvs))):=by
 intro pins s σ H xs us Q I r h;obtain⟨p,kvs,rfl,hq,q⟩:=h;obtain⟨u,rfl,rx⟩:=vals1 r;cases rx;exact HN I hq λl s' hl I'=>⟨.ref l,_,I',rfl,q l hl⟩
end
noncomputable def wD:Option Int->D
 | none=>.bM
 | some n=>.int n
noncomputable def tgD (t:Tg):D:=.tup [.str t.sort,.lst (t.fs.map vD),wD t.words]
theorem gH.rN {H:Hp}{p l:Addr}{t:Tg}(h:gH K H p l t):fC K H (.ref p) (tgD t):=by
 obtain⟨h1,xs,h2,h3,_⟩:=h;refine .tup (bS.of h1) rfl λi x d hx hd=>?_
 match i,hx,hd with
 | 0,hx,hd=>
  cases hx;cases hd;exact .str _
 | 1,hx,hd=>
  cases hx;cases hd;exact jt.rN (bf.of h2) h3
 | 2,hx,hd=>
  cases hx;cases hd
  cases t.words with
  | none=>exact .bM
  | some n=>exact .int n
 | i+3,hx,hd=>simp at hx
theorem VY (w:Option Int):(wD w).dep=0:=by cases w <;> rfl
theorem NR (t:Tg):(tgD t).dep<=3:=by
 have h1:=Fc t.fs;have h2:=VY t.words;have e:(tgD t).dep=max 0 (max (fB (t.fs.map vD)+1) (max (wD t.words).dep 0))+1:=by
  unfold tgD;simp only [D.dep,fB]
 omega
theorem Zd (S:List Nat):∀x∈aF S,gL x=true:=λx hx=>List.all_eq_true.mp (iR S) x hx
noncomputable def nD (S:List Nat):D:=.lst ((aF S).map fD)
theorem ko {H:Hp}{l:Addr}{S:List Nat}(h:H l=some (.lst (aF S))):fC K H (.ref l) (nD S):=.Oh (bf.of h) (Zd S)
theorem L0:∀A B:List Nat,hX ((aF A).map fD) ((aF B).map fD)=decide (A=B)
 | [],[]=>by simp [aF,hX]
 | [],_::_=>by simp [aF,hX]
 | _::_,[]=>by simp [aF,hX]
 | x::A,y::B=>by
  show(bA (.int (x:Int)) (.int (y:Int))&&hX ((aF A).map fD) ((aF B).map fD))=_;rw [L0 A B,bA,Bool.eq_iff_iff,Bool.and_eq_true,decide_eq_true_iff,decide_eq_true_iff,beq_iff_eq,List.cons.injEq];constructor
  ·rintro⟨h1,h2⟩;exact⟨by omega,h2⟩
  ·rintro⟨h1,h2⟩;exact⟨by omega,h2⟩
theorem Ze (A B:List Nat):bA (nD A) (nD B)=decide (A=B):=by
 show bA (.lst ((aF A).map fD)) (.lst ((aF B).map fD))=_;rw [bA];exact L0 A B
theorem qN (A:List Nat):(nD A).dep=1:=by rw [nD,D.dep,sV]
theorem Qq {A:List Nat}(h:A.length<=1000):Sm (nD A):=by
 refine .lst (by rw [List.length_map,bj]; exact h) λd hd=>?_
 obtain⟨v,hv,rfl⟩:=List.mem_map.mp hd;unfold aF at hv;obtain⟨z,_,rfl⟩:=List.mem_map.mp hv;exact .int z
noncomputable def GA (K:PySem.W.Frag):Sp:=λvs H Q _=>∃(d l:Addr) (ts:List Tg) (S:List Nat),vs=[.ref d,.ref l]/\se K H d ts/\sd ts/\ts.length<=63/\H l=some (.lst (aF S))/\S.Pairwise (· < ·)/\(∀k∈S,1<=k/\k<=ts.length)/\∀H',aj H H'->Q (.bl true) H'
theorem VZ (T:Txt K mg a):aS P w K mg base cU 11 a.Al a.Am ["_law_things","_law_some"] (GA K):=by
 refine T.uh.ok vd (λvs H Q E h=>?_) (λcf A outer s H vs Q E hr h=>?_)
 ·obtain⟨_,_,_,_,rfl,_⟩:=h;rfl
 ·obtain⟨d,l,ts,S,rfl,h,ok,bX,hl,hSt,hS,q⟩:=h;refine⟨_,(ag (aN (i:=2) vd.nd rfl (Or.inl rfl) (bp (aa (bW CU rfl T.js k_ (aa (pv 0) af)) (aa (bW eZ rfl T.fH fM (aa (pv 1) af)) af)))) av),?_⟩;dsimp! [];have nd:S.Nodup:=hSt.imp λh e=>by omega
  obtain⟨rows,g1,g2,g3⟩:=id h;refine⟨_,.inl g1,λd2 hd2=>⟨aF S,.inl (bf.of (aj.put hd2 _ _ hl)),λl2 gg=>⟨by rw [sizeLine_eq]; decide,λp hp=>?_⟩⟩⟩;have s4:aj H (upd (upd (upd H d2 (.dK (f_ rows))) l2 (.lst (aF S))) p (.tup [.ref d2,.ref l2])):=(aj.put hd2).trans ((aj.put gg).trans (aj.put hp));have Vk:upd (upd (upd H d2 (.dK (f_ rows))) l2 (.lst (aF S))) p (.tup [.ref d2,.ref l2]) d2=some (.dK (f_ rows)):=((aj.put gg).trans (aj.put hp)) _ _ ae;have BI:upd (upd (upd H d2 (.dK (f_ rows))) l2 (.lst (aF S))) p (.tup [.ref d2,.ref l2]) l2=some (.lst (aF S)):=aj.put hp _ _ ae;have BK:upd (upd (upd H d2 (.dK (f_ rows))) l2 (.lst (aF S))) p (.tup [.ref d2,.ref l2]) p=some (.tup [.ref d2,.ref l2]):=ae;generalize upd (upd (upd H d2 (.dK (f_ rows))) l2 (.lst (aF S))) p (.tup [.ref d2,.ref l2])=H4 at s4 Vk BI BK;have Zf:se K H4 d2 ts:=⟨rows,Vk,g2,λi q t a b=>(g3 i q t a b).same s4⟩
  refine aM.of (ag (aN (i:=3) vd.nd rfl (Or.inl rfl) (aE (LW T) (hr.mono (by decide)) rfl T.K9 T.qk.kp T.K8 .nil aC (aa (pv 0) (aa (pv 1) af)))) av) ?_;dsimp! [];refine⟨d,l,ts,S,rfl,h.same s4,ok,bX,s4 _ _ hl,nd,hS,λr1 H5 s5 _ ur=>?_⟩;have clt:=mQ ts S;have cle:∀k∈cls ts S,1<=k/\k<=ts.length:=λk hk=>Lu hk
  have cnd:(cls ts S).Nodup:=clt.imp λh e=>by omega
  have ccl:NF ts (·∈cls ts S):=by
   have c:=rO.clo ts S;have m:=λx=>iS ok hS (x:=x)
   exact⟨λk t h hk j hj=>(m j).mpr (c.held k t h ((m k).mp hk) j hj),λk t n h hk hn hm j hj=>(m j).mpr (c.pair k t n h ((m k).mp hk) hn ((m n).mp hm) j hj)⟩
  refine aM.of (ag (aN (i:=4) vd.nd rfl (Or.inl rfl) (aE (LB T) (hr.mono (by decide)) rfl T.KC T.pT.kp T.KA .nil aC (aa (aq ak (pv 2) ai (λ_ _=>rfl)) (aa (aq ak (pv 2) ai (λ_ _=>rfl)) af)))) av) ?_;dsimp! [];refine bF (bS.of (s5 _ _ BK)) rfl (bF (bS.of (s5 _ _ BK)) rfl ⟨d2,l2,ts,S,rfl,Zf.same s5,ok,bX,s5 _ _ BI,nd,hS,λb H6 s6 hb=>?_⟩);have Ww:=s5.trans s6;refine aM.of (ag (aQ (PW.pt (gJ (eV (cQ (aI bo rfl T.aV a_ (aa (pv 4) (aa (c_ (v:=.ty "bool") rfl T.mO uL rfl) af))))) (gh (aD (B4 hr.units) (pv 4) (da (iI hr.units) (pv 3) (pv 1) (aH _)) (aH _))))) (ah (aw dk)) aG) av) ?_;dsimp! [];have MA:=s6 _ _ ur;have eb:b=decide (cls ts S=S):=by
   rw [Bool.eq_iff_iff,decide_eq_true_iff,hb,Lv ok hS hSt]
  refine⟨_,.s (fC.bl (K:=K) (H:=H6) b).ty,true,lj K _,cV ⟨_,_,ko MA,ko (s4.trans Ww _ _ hl),by rw [qN]; decide,?_⟩⟩;rw [if_neg Bool.false_ne_true,Ze,<-eb];refine⟨.bl b,.bl b,.bl b,.bl b,by simp [D.dep],?_⟩;rw [if_pos rfl,dm];refine⟨_,rfl,cV ?_⟩;refine aM.of (ag (aQ (PW.pt (gJ (eV (cQ (aE (vt T) (hr.mono (by decide)) rfl T.ud T.kl.kp T.uc .nil aC (aa (aE (VN T) (hr.mono (by decide)) rfl T.OT T.tN.kp T.OS .nil aC (aa (aq ak (pv 2) ai (λ_ _=>rfl)) (aa (aq ak (pv 2) ai (λ_ _=>rfl)) af))) (aa (pv 3) af))))) (gh (eV (cQ (aE (LB T) (hr.mono (by decide)) rfl T.KC T.pT.kp T.KA .nil aC (aa (pv 0) (aa (pv 3) af)))))))) (ah (aw dk)) aG) av) ?_;dsimp! [];have lc:(cls ts S).length<=1000:=by
   have:=NG ts S;omega
  have lb:∀z,(blN ts S z).length<=1000:=λz=>by
   have h1:=List.length_filter_le (jS ts S z) S;have h2:=en nd hS;unfold blN;omega
  have al:∀(r2:Addr) (A:List Nat) (Hx:Hp) (r1:Addr) (R:VK),A.length<=1000->Hx r2=some (.lst (aF A))->Hx r1=some (.lst (aF A))->R (.bl true) Hx->Ls K [.ref r2,.ref r1] Hx R E0:=λr2 A Hx r1 R hA h1 h2 q=>⟨_,_,rfl,.inl ⟨nD A,ko h1,ko h2,by rw [qN]; decide,Qq hA⟩,by decide,q⟩
  refine bF (bS.of (Ww _ _ BK)) rfl (bF (bS.of (Ww _ _ BK)) rfl ⟨d2,l2,ts,S,rfl,Zf.same Ww,ok,bX,Ww _ _ BI,nd,hS,λr2 H7 s7 _ A3=>?_⟩);have s47:=Ww.trans s7;have hr7:=s7 _ _ MA;refine al r2 _ H7 r1 _ lc A3 hr7 ⟨true,rfl,cV ⟨d,r1,ts,cls ts S,rfl,h.same (s4.trans s47),ok,bX,hr7,cnd,cle,λb2 H8 s8 oO=>?_⟩⟩;have eb2:b2=true:=oO.mpr ccl;subst eb2;refine⟨true,rfl,cV ?_⟩;have Zg:=s47.trans s8;have hr8:=s8 _ _ hr7;refine aM.of (ag (aQ (aD (B4 hr.units) (aE (VW T) (hr.mono (by decide)) rfl T.P4 T.ug.kp T.P2 .nil aC (aa (aE (LR T) (hr.mono (by decide)) rfl T.KL T.pV.kp T.KJ .nil aC (aa (aq ak (pv 2) ai (λ_ _=>rfl)) (aa (aq ak (pv 2) ai (λ_ _=>rfl)) af))) (aa (pv 0) (aa (pv 1) af)))) (pv 3) (aH _)) (ah (aw dk)) aG) av) ?_;dsimp! [];refine bF (bS.of (Zg _ _ BK)) rfl (bF (bS.of (Zg _ _ BK)) rfl ⟨d2,l2,ts,S,rfl,Zf.same Zg,ok,bX,Zg _ _ BI,nd,hS,λr3 H9 R wl s9 _ hR rm _ hle=>?_⟩);have s49:=Zg.trans s9;refine⟨r3,d,l,ts,S,R,wl,rfl,hR,rm,hle,h.same (s4.trans s49),ok,bX,(s4.trans s49) _ _ hl,hS,λr4 Of M4 _ YT=>?_⟩;have L1:=s49.trans M4;have abE:=(s9.trans M4) _ _ hr8;refine⟨_,_,ko YT,ko abE,by rw [qN]; decide,?_⟩;rw [if_pos rfl,dm];refine⟨_,rfl,cV ?_⟩;refine aM.of (ag (aQ (eV (cQ (aE (vt T) (hr.mono (by decide)) rfl T.ud T.kl.kp T.uc .nil aC (aa (aE (Vv T) (hr.mono (by decide)) rfl T.OV T.tO.kp T.OU .nil aC (aa (aq ak (pv 2) ai (λ_ _=>rfl)) (aa (aq ak (pv 2) ai (λ_ _=>rfl)) af))) (aa (aE (LX T) (hr.mono (by decide)) rfl T.La T.ql.kp T.K_ .nil aC (aa (pv 0) (aa (pv 1) (aa aA af)))) af))))) (ah (aw dk)) aG) av) ?_;dsimp! [];refine bF (bS.of (L1 _ _ BK)) rfl (bF (bS.of (L1 _ _ BK)) rfl ⟨d2,l2,ts,S,"weak",⟨rfl,rfl⟩,Zf.same L1,ok,bX,L1 _ _ BI,nd,hS,λr5 Zh ND _ hr5=>?_⟩);have V0:=L1.trans ND;refine⟨d,l,ts,S,_,rfl,.inl rfl,h.same (s4.trans V0),ok,bX,(s4.trans V0) _ _ hl,nd,hS,λr6 H12 Mz _ MA=>al r5 _ H12 r6 _ (lb _) (Mz _ _ hr5) MA ⟨true,rfl,cV ?_⟩⟩;have L3:=V0.trans Mz;refine aM.of (ag (aQ (eV (cQ (aE (vt T) (hr.mono (by decide)) rfl T.ud T.kl.kp T.uc .nil aC (aa (aE (Vw T) (hr.mono (by decide)) rfl T.OX T.tP.kp T.OW .nil aC (aa (aq ak (pv 2) ai (λ_ _=>rfl)) (aa (aq ak (pv 2) ai (λ_ _=>rfl)) af))) (aa (aE (LX T) (hr.mono (by decide)) rfl T.La T.ql.kp T.K_ .nil aC (aa (pv 0) (aa (pv 1) (aa aA af)))) af))))) (ah (aw dk)) aG) av) ?_;dsimp! [];refine bF (bS.of (L3 _ _ BK)) rfl (bF (bS.of (L3 _ _ BK)) rfl ⟨d2,l2,ts,S,"pair",⟨rfl,rfl⟩,Zf.same L3,ok,bX,L3 _ _ BI,nd,hS,λr7 H13 V1 _ abF=>?_⟩);have V2:=L3.trans V1;refine⟨d,l,ts,S,_,rfl,.inr rfl,h.same (s4.trans V2),ok,bX,(s4.trans V2) _ _ hl,nd,hS,λr8 H14 s14 _ abG=>al r7 _ H14 r8 _ (lb _) (s14 _ _ abF) abG ⟨true,rfl,cV ?_⟩⟩;have abH:=V2.trans s14;refine aM.of (ah (aw (da (S8 hr.units) (pv 2) (bp (aa (pv 0) (aa (pv 1) af))) (aH _)))) ?_;dsimp! [];refine⟨by rw [sizeLine_eq]; decide,λp2 oi=>?_⟩;have s5:aj H4 (upd H14 p2 (.tup [.ref d,.ref l])):=abH.trans (aj.put oi);have Zi:upd H14 p2 (.tup [.ref d,.ref l]) p2=some (.tup [.ref d,.ref l]):=ae;generalize upd H14 p2 (.tup [.ref d,.ref l])=H15 at s5 Zi;have s05:=s4.trans s5;refine⟨p,p2,d2,d,l2,l,f_ rows,f_ rows,nD S,rfl,rfl,bS.of (s5 _ _ BK),bS.of Zi,s5 _ _ Vk,s05 _ _ g1,rfl,λkv BC=>?_,ko (s5 _ _ BI),ko (s05 _ _ hl),by rw [qN]; decide,q _ s05⟩;obtain⟨i,hi⟩:=List.mem_iff_getElem?.mp BC;rw [qz] at hi
  cases er:rows[i]? with
  | none=>rw [er] at hi; cases hi
  | some qq=>
   rw [er] at hi;cases hi;have gY:=(List.getElem?_eq_some_iff.mp er).1;have tda:=(g3 i qq _ er (List.getElem?_eq_getElem (by rw [<-g2]; exact gY))).same s05;exact⟨_,_,iO er,gH.rN tda,gH.rN tda,Nat.le_trans (NR _) (by decide)⟩
noncomputable def vA (K:PySem.W.Frag):Sp:=λvs H Q _=>∃(a:Addr) (ns:List Int),vs=[.ref a]/\bf K H a (ns.map V.int)/\ns.length<=63/\∀H',Q (.bl true) H'
noncomputable def StL (H:Hp) (l:Addr) (n m:Nat):Prop:=∃xs:List Addr,H l=some (.lst (xs.map V.ref))/\xs.length<=3+2*m/\∀x∈xs,∃S:List Nat,H x=some (.lst (aF S))/\S.Pairwise (· < ·)/\∀k∈S,1<=k/\k<=n
theorem L4 (rows:List (Addr×Addr)):gD (f_ rows)=aF (dC rows.length):=by
 have h:=vk rows;unfold gD aF dC;have e:(f_ rows).map (λkv=>kV kv.1)=((f_ rows).map (·.1)).map kV:=by rw [List.map_map]; rfl
 rw [e,h,List.map_map,List.map_map,List.map_map];refine List.map_congr_left λi _=>?_
 show V.int ((i:Int)+1)=V.int (((i+1:Nat)):Int);rw [Int.natCast_succ]
noncomputable def ILa (a:ft) (K:PySem.W.Frag) (A:HA) (L:LA) (W:Wd) (sc:Addr) (mode:Int) (H0:Hp) (i:Nat) (σ:St) (H:Hp):Prop:=∃(ss:Addr) (v6 v7 v8 v9:Option V),σ=[some (.ref sc),some (.int mode),some (.ref A.p),some (.ref L.st),some (.ref L.d1),some (.ref ss),v6,v7,v8,v9]/\aj H0 H/\StL H ss W.ts.length i
noncomputable def IFn (A:HA) (L:LA) (sc:Addr) (mode:Int) (MB:Addr) (H7:Hp) (_:Nat) (σ:St) (H:Hp):Prop:=(∃v6 v7 v8 v9:Option V,σ=[some (.ref sc),some (.int mode),some (.ref A.p),some (.ref L.st),some (.ref L.d1),some (.ref MB),v6,v7,v8,v9])/\aj H7 H
noncomputable def IFm (A:HA) (L:LA) (sc:Addr) (mode:Int) (MB b:Addr) (j:Int) (H9:Hp) (i:Nat) (σ:St) (H:Hp):Prop:=(∃(bits:Int) (v9:Option V),σ=[some (.ref sc),some (.int mode),some (.ref A.p),some (.ref L.st),some (.ref L.d1),some (.ref MB),some (.int j),some (.int bits),some (.ref b),v9])/\(∀c u,c≠b->H9 c=some u->H c=some u)/\∃F:List Nat,H b=some (.lst (aF F))/\F.length<=i/\F.Pairwise (· < ·)/\∀x∈F,1<=x/\x<=i
theorem V3 (T:Txt K mg a):aS P w K mg base cU 12 a.tG a.OB ["_law_script"] (vA K):=by
 refine T.nU.ok fF (λvs H Q E h=>?_) (λcf A outer s H vs Q E hr h=>?_)
 ·obtain⟨_,_,rfl,_⟩:=h;rfl
 ·obtain⟨sc,ns,rfl,hS,sU,q⟩:=h;refine⟨_,(ag (aN (i:=1) fF.nd rfl (Or.inl rfl) (aI oX rfl T.ui B2 (aa (aE (LY T) (hr.mono (by decide)) rfl T.K3 T.qh.kp T.K2 .nil aC (aa (pv 0) (aa ai af))) af))) (ag (mx (aE (VS T) (hr.mono (by decide)) rfl T.PZ T.ue.kp T.PY .nil aC (aa (fR gK (pv 0) (gs ai) (gs ai)) (aa (pv 1) af))) (iA (n:=2) rfl (bL (aU (i:=2) fF.nd rfl (Or.inl rfl)) (bL (aU (i:=3) fF.nd rfl (Or.inl rfl)) gr)))) av)),?_⟩;dsimp! [];refine⟨sc,ns,0,rfl,hS,by decide,λfirst=>⟨first,rfl,sc,_,rfl,hS,λlc hlc=>?_⟩⟩;have hm:0<=(if first < 0 then -first else first):=by split <;> omega
  generalize (if first < 0 then -first else first)=mode at hm ⊢;have V4:∃cells:List Int,gR (ns.map V.int) (some 1) (some 61)=cells.map V.int/\cells.length<=63:=by
   unfold gR;rw [<-List.map_drop,<-List.map_take];refine⟨_,rfl,?_⟩;rw [List.length_take,List.length_drop];omega
  obtain⟨cells,ec,M3⟩:=V4;rw [ec];have sA:aj H (upd H lc (.lst (cells.map V.int))):=aj.put hlc;have Zj:upd H lc (.lst (cells.map V.int)) lc=some (.lst (cells.map V.int)):=ae;generalize upd H lc (.lst (cells.map V.int))=H1 at sA Zj;refine⟨lc,cells,mode,rfl,hm,Zj,M3,λA L W r H2 s2 pA hL ok bX A3=>⟨r,rfl,_,bS.of A3,rfl,_,_,rfl,_,_,rfl,rfl,?_⟩⟩;have s02:=sA.trans s2;have tb:se K H2 L.d1 W.ts:=by
   obtain⟨rows,h4,h5,h6,_⟩:=hL.th;exact⟨rows,h4,h5,h6⟩
  have tok:sd W.ts:=λt ht v hv=>(ok.ts t ht).1 v hv
  have A4:W.ts.length<=63:=by omega
  have lo:(NI W.g W.hs W.ts.length).length<=63:=Nat.le_trans (en ((vw _ _ _).imp λh e=>by omega) λk hk=>LD hk) A4;refine aM.of (ag (aN (i:=4) fF.nd rfl (Or.inl rfl) (aq ak (pv 3) ai (λ_ _=>rfl))) av) ?_;dsimp! [];refine bF hL.tu rfl ?_;refine aM.of (ag (aQ (eV (cQ (aE (vt T) (hr.mono (by decide)) rfl T.ud T.kl.kp T.uc .nil aC (aa (aE (Vy T) (hr.mono (by decide)) rfl T.OM T.tL.kp T.OL .nil aC (aa (pv 2) af)) (aa (aE (LU T) (hr.mono (by decide)) rfl T.K7 T.qj.kp T.K6 .nil aC (aa (pv 3) af)) af))))) (ah (aw dk)) aG) av) ?_;dsimp! [];refine⟨_,A,W,rfl,pA,ok,A4,λr1 H3 s3 _ ur=>⟨_,L,W,rfl,hL.same s3,ok,A4,λr2 H4 s4 _ abI=>⟨_,_,rfl,.inl ⟨nD (NI W.g W.hs W.ts.length),ko (s4 _ _ ur),ko abI,by rw [qN]; decide,Qq (by omega)⟩,by decide,true,rfl,cV ?_⟩⟩⟩;have s24:=s3.trans s4;refine aM.of (ag (aN (i:=5) fF.nd rfl (Or.inl rfl) (bE (aa (aE (LU T) (hr.mono (by decide)) rfl T.K7 T.qj.kp T.K6 .nil aC (aa (pv 3) af)) (aa (aI (fc rfl) rfl T.dY fE (aa (pv 4) af)) (aa (bE af) af))))) av) ?_;dsimp! [];obtain⟨kvs,xs,hrd,w_,Hs,sU⟩:∃(kvs:List (Key×V)) (xs:List Int),(∀H5,aj H2 H5->Rd H5 L.d1 (.dK kvs))/\gD kvs=xs.map V.int/\xs.length < 64/\∀jQ:List Int,jQ.Perm xs->jQ.Pairwise (λx1 x2=>x1<=x2)->jQ.map V.int=aF (dC W.ts.length):=by
   obtain⟨rows,h4,h5,_⟩:=tb;refine⟨_,(dC W.ts.length).map λ(k:Nat)=>(k:Int),λH5 s5=>.inl (s5 _ _ h4),by rw [L4,h5]; rfl,by rw [List.length_map]; unfold dC; rw [List.length_map,List.length_range]; omega,λjQ pm ps=>?_⟩;rw [kG pm ps ((lX _).imp λh e=>by omega) (lX _) λx=>Iff.rfl];rfl
  refine⟨_,L,W,rfl,hL.same s24,ok,A4,λr3 H5 s5 _ hr3=>⟨kvs,hrd _ (s24.trans s5),xs,w_,Hs,λl4 jQ BI pm ps=>?_⟩⟩;rw [sU jQ pm ps];refine λp5 Ff=>⟨by rw [sizeLine_eq]; decide,λss hss=>?_⟩
  have s25:aj H2 (upd (upd (upd H5 l4 (.lst (aF (dC W.ts.length)))) p5 (.lst [])) ss (.lst [.ref r3,.ref l4,.ref p5])):=(s24.trans s5).trans ((aj.put BI).trans ((aj.put Ff).trans (aj.put hss)));have st0:StL (upd (upd (upd H5 l4 (.lst (aF (dC W.ts.length)))) p5 (.lst [])) ss (.lst [.ref r3,.ref l4,.ref p5])) ss W.ts.length 0:=by
   refine⟨[r3,l4,p5],ae,Nat.le_of_ble_eq_true rfl,λx hx=>?_⟩;rcases List.mem_cons.mp hx with rfl | hx
   ·exact⟨_,((aj.put BI).trans ((aj.put Ff).trans (aj.put hss))) _ _ hr3,vw _ _ _,λk hk=>LD hk⟩
   ·rcases List.mem_cons.mp hx with rfl | hx
    ·exact⟨_,((aj.put Ff).trans (aj.put hss)) _ _ ae,lX _,λk hk=>dJ.mp hk⟩
    ·rw [List.mem_singleton.mp hx];exact⟨[],aj.put hss _ _ ae,.nil,λk hk=>nomatch hk⟩
  generalize upd (upd (upd H5 l4 (.lst (aF (dC W.ts.length)))) p5 (.lst [])) ss (.lst [.ref r3,.ref l4,.ref p5])=H6 at s25 st0;have hS2:=s02.seq hS;refine aM.of (ag (cS PassesOwn.never rfl (my rfl T.jM (aa ai af)) (aU (i:=6) fF.nd rfl (Or.inl rfl)) av) av) ?_;dsimp! [];refine⟨by decide,by decide,xq (ILa a K A L W sc mode H2) ⟨ss,_,_,_,_,rfl,s25,st0⟩ ?_ ?_⟩
  ·rintro i σ H7 hi ⟨MB,v6,v7,v8,v9,rfl,s7,st7⟩;refine gN ?_;refine aM.of (ag (aN (i:=7) fF.nd rfl (Or.inl rfl) (bz iB (bz uF (aI oX rfl T.ui B2 (aa (aE (LY T) (hr.mono (by decide)) rfl T.K3 T.qh.kp T.K2 .nil aC (aa (pv 0) (aa (bz iB (pv 6) ai) af))) af)) (bz iB (pv 6) ai)) (pv 1))) av) ?_;dsimp! [];refine⟨sc,ns,_,rfl,s7.seq hS2,by omega,λz=>⟨z,rfl,.inr ⟨by omega,by omega⟩,?_⟩⟩;generalize (if z < 0 then -z else z)*(0+(i:Int)+3)+mode=bits;refine aM.of (ag (aN (i:=8) fF.nd rfl (Or.inl rfl) (bE af)) av) ?_;dsimp! [];intro b hb;have sb:aj H2 (upd H7 b (.lst [])):=s7.trans (aj.put hb);have YQ:upd H7 b (.lst []) b=some (.lst []):=ae;obtain⟨V5,h71,h72,h73⟩:=st7;have nbs:MB≠b:=az h71 hb;have nbx:∀x∈V5,x≠b:=λx hx=>by
    obtain⟨S,e1,_⟩:=h73 x hx;exact az e1 hb
   have oO:H2 b=none:=s7.free hb;have Qp:aj H7 (upd H7 b (.lst [])):=aj.put hb;generalize upd H7 b (.lst [])=H8 at sb YQ Qp;refine aM.of (ag (cS PassesOwn.never rfl (cx (aI (fc rfl) rfl T.dY fE (aa (pv 4) af))) (aU (i:=9) fF.nd rfl (Or.inl rfl)) av) av) ?_;dsimp! [];refine⟨kvs,hrd _ sb,xs,w_,Hs,λl9 jQ hl9 pm ps=>?_⟩;rw [sU jQ pm ps];have s89:aj H8 (upd H8 l9 (.lst (aF (dC W.ts.length)))):=aj.put hl9;have V6:upd H8 l9 (.lst (aF (dC W.ts.length))) l9=some (.lst (aF (dC W.ts.length))):=ae;have nbl:l9≠b:=(az YQ hl9).symm;generalize upd H8 l9 (.lst (aF (dC W.ts.length)))=H9 at s89 V6;refine⟨⟨_,bf.of V6⟩,dA (aF (dC W.ts.length)) (IFm A L sc mode MB b (0+(i:Int)) H9) ⟨⟨_,_,rfl⟩,(λ_ _ _ e=>e),[],s89 _ _ YQ,Nat.le_refl _,.nil,λx hx=>nomatch hx⟩ (λj σ' H' _ hh=>bf.of (hh.2.1 _ _ nbl V6)) (λj x σ' Of hx hh=>?_) λσ' Of hh=>?_⟩
   ·obtain⟨⟨Zk,w9,rfl⟩,VT,F,Wx,hF2,Zl,Qr⟩:=hh;obtain⟨k,hk,rfl⟩:=du hx;have hj:=(List.getElem?_eq_some_iff.mp hk).1;have ek:k=j+1:=by
     unfold dC at hk hj;rw [List.length_map,List.length_range] at hj;rw [List.getElem?_map,List.getElem?_range hj] at hk;exact(Option.some.inj hk).symm
    have hjn:j < W.ts.length:=by
     unfold dC at hj;rw [List.length_map,List.length_range] at hj;exact hj
    refine gN ?_;refine aM.of (ag (aQ (aD bN (bz eB (pv 7) ai) ai (aH _)) (ah (bx (nE PySem.F.plainAttrs_list PySem.F.slot_list_append PySem.F.type_list_append fA (pv 8) (aa (pv 9) af)))) aG) (ah (aN (i:=7) fF.nd rfl (Or.inl rfl) (bz cK (pv 7) ai)))) ?_;dsimp! [];refine⟨by decide,aY (λ_=>⟨.inl ⟨rfl,_,bf.of Wx⟩,b,_,_,rfl,rfl,Wx,aJ (by rw [bj]; omega),.small (by decide) (by decide),⟨_,_,rfl⟩,λc u nc e=>?_,F++[k],?_,?_,?_,?_⟩) λ_=>⟨.small (by decide) (by decide),⟨_,_,rfl⟩,VT,F,Wx,by omega,Zl,λx hx=>by have:=Qr x hx; omega⟩⟩
    ·rw [au nc];exact VT c u nc e
    ·rw [ae];unfold aF;rw [List.map_append,List.map_append];rfl
    ·rw [List.length_append,List.length_singleton];omega
    ·refine List.pairwise_append.mpr ⟨Zl,List.pairwise_singleton _ _,λx hx y hy=>?_⟩;rw [List.mem_singleton.mp hy];have:=Qr x hx;omega
    ·intro x hx;rcases List.mem_append.mp hx with hx | hx
     ·have:=Qr x hx;omega
     ·rw [List.mem_singleton.mp hx];omega
   ·obtain⟨⟨Zk,w9,rfl⟩,VT,F,Wx,hF2,Zl,Qr⟩:=hh;rw [bj] at hF2 Qr;have lse:(dC W.ts.length).length=W.ts.length:=by unfold dC; rw [List.length_map,List.length_range]
    rw [lse] at hF2 Qr;have k2:∀c u,c≠b->H8 c=some u->Of c=some u:=λc u nc e=>VT c u nc (s89 _ _ e)
    have Zm:aj H2 Of:=λc u e=>k2 c u (az e oO) (sb _ _ e)
    refine aM.of (ah (aN (i:=5) fF.nd rfl (Or.inl rfl) (bz iF (pv 5) (bE (aa (pv 8) (aa (aE (LW T) (hr.mono (by decide)) rfl T.K9 T.qk.kp T.K8 .nil aC (aa (pv 4) (aa (pv 8) af))) af)))))) ?_;dsimp! [];refine⟨L.d1,b,W.ts,F,rfl,tb.same Zm,tok,A4,Wx,Zl.imp λh e=>by omega,Qr,λrc Zh ND _ hrc=>⟨by rw [sizeLine_eq]; decide,λQg Gs=>?_⟩⟩;have Zn:=ND _ _ (k2 _ _ nbs (Qp _ _ h71));have hi4:i < 4:=by simpa using hi
    have nsp:MB≠Qg:=az Zn Gs;refine⟨MB,Qg,_,_,rfl,rfl,bf.of (aj.put Gs _ _ Zn),bf.of ae,by rw [List.length_map,sizeLine_eq,List.length_cons,List.length_cons,List.length_nil]; omega,λV1 abJ=>?_⟩;have Ba:aj Zh (upd (upd Zh Qg (.lst [.ref b,.ref rc])) V1 (.lst (V5.map V.ref++[.ref b,.ref rc]))):=(aj.put Gs).trans (aj.put abJ);have hs:upd (upd Zh Qg (.lst [.ref b,.ref rc])) V1 (.lst (V5.map V.ref++[.ref b,.ref rc])) V1=some (.lst ((V5++[b,rc]).map V.ref)):=by rw [ae,List.map_append]; rfl
    generalize upd (upd Zh Qg (.lst [.ref b,.ref rc])) V1 (.lst (V5.map V.ref++[.ref b,.ref rc]))=H13 at Ba hs;refine⟨V1,_,_,_,_,rfl,Zm.trans (ND.trans Ba),V5++[b,rc],hs,by rw [List.length_append]; show V5.length+2<=_; omega,λx hx=>?_⟩;rcases List.mem_append.mp hx with hx | hx
    ·obtain⟨S,e1,e2⟩:=h73 x hx;exact⟨S,(ND.trans Ba) _ _ (k2 _ _ (nbx x hx) (Qp _ _ e1)),e2⟩
    ·rcases List.mem_cons.mp hx with rfl | hx
     ·exact⟨F,(ND.trans Ba) _ _ Wx,Zl,Qr⟩
     ·rw [List.mem_singleton.mp hx];exact⟨_,Ba _ _ hrc,mQ _ _,λk hk=>Lu hk⟩
  ·rintro σ H7 ⟨MB,v6,v7,v8,v9,rfl,s7,st7⟩;refine aM.of (ag (cS PassesOwn.never rfl (cx (pv 5)) (aU (i:=8) fF.nd rfl (Or.inl rfl)) av) av) ?_;dsimp! [];obtain⟨ys,h1,_,h3⟩:=st7;refine⟨⟨_,bf.of h1⟩,dA (ys.map V.ref) (IFn A L sc mode MB H7) ⟨⟨_,_,_,_,rfl⟩,.refl _⟩ (λi σ' H' _ hh=>bf.of (hh.2 _ _ h1)) (λi x σ' H8 hx hh=>?_) λσ' H8 hh=>?_⟩
   ·obtain⟨⟨v6,v7,v8,v9,rfl⟩,s8⟩:=hh;rw [List.getElem?_map] at hx
    cases e:ys[i]? with
    | none=>rw [e] at hx; cases hx
    | some y=>
     rw [e] at hx;cases hx;obtain⟨S,e1,e2,e3⟩:=h3 y (List.mem_of_getElem? e);refine gN ?_;refine aM.of (ah (aQ (eV (cQ (aE (VZ T) (hr.mono (by decide)) rfl T.P6 T.uh.kp T.P5 .nil aC (aa (pv 4) (aa (pv 8) af))))) (ah (aw dk)) aG)) ?_;dsimp! [];exact⟨L.d1,y,W.ts,S,rfl,tb.same (s7.trans s8),tok,A4,s8 _ _ e1,e2,e3,λH9 s9=>⟨true,rfl,cV ⟨⟨_,_,_,_,rfl⟩,s8.trans s9⟩⟩⟩
   ·obtain⟨⟨v6,v7,v8,v9,rfl⟩,s8⟩:=hh;refine aM.of (ah (aw dk)) ?_;dsimp! [];exact q H8
end
theorem abK {P:List Value->Prop}(h:∀x0,P [x0]):∀us:List Value,us.length=1->P us
 | [x0],_=>h x0
theorem abL {P:List Value->Prop}(h:∀x0 x1,P [x0,x1]):∀us:List Value,us.length=2->P us
 | [x0,x1],_=>h x0 x1
theorem abM {P:List Value->Prop}(h:∀x0 x1 x2,P [x0,x1,x2]):∀us:List Value,us.length=3->P us
 | [x0,x1,x2],_=>h x0 x1 x2
theorem abN {P:List Value->Prop}(h:∀x0 x1 x2 x3,P [x0,x1,x2,x3]):∀us:List Value,us.length=4->P us
 | [x0,x1,x2,x3],_=>h x0 x1 x2 x3
noncomputable def FnB (K:PySem.W.Frag) (x qual:Str) (st:Stmt) (f:Addr):Prop:=PySem.W.keepIn K (.ref f)=true/\∃fd,cN K x qual st f fd
noncomputable def MeB (K:PySem.W.Frag) (x qual:Str) (st:Stmt) (f:Addr):Prop:=PySem.W.isFn K (.ref f)=true/\FnB K x qual st f
theorem fnB {K:PySem.W.Frag}{x qual:Str}{st:Stmt}{f:Addr}{oc:Value}{od an:Option Addr}{My:Array (Option Value)}{kV doc pm cf ct:Value}(l:K.lookup f=some ⟨oc,od,.func (PySem.W.fnOf x qual (e_ st) (dO st) (ao st) .none kV doc pm an cf ct),My⟩) (c:PySem.W.codeIn K cf qual=true) (k:PySem.W.keepIn K (.ref f)=true):FnB K x qual st f:=⟨k,_,Ho l c k⟩
noncomputable def fP (K:PySem.W.Frag) (x:Str) (st:Stmt) (f:Addr):Prop:=PySem.W.nsIn K mainGlobals x=some (some (.ref f))/\FnB K x x st f
noncomputable def jT (K:PySem.W.Frag) (C:Addr) (x qual:Str) (st:Stmt) (f:Addr):Prop:=PySem.W.findIn K (.ref C) x=some (some (.ref f))/\MeB K x qual st f
theorem qO {K:PySem.W.Frag}{x qual:Str}{st:Stmt}{f:Addr}{fd:FuncData}{p0:Str}(F:cN K x qual st f fd) (h:∀(kV doc pm:Value) (an:Option Addr) (cf ct x0:Value),bindArgs (PySem.W.fnOf x qual (e_ st) (dO st) (ao st) .none kV doc pm an cf ct) ⟨[x0],[]⟩=pure ([p0].zip [x0]):=by exact λ_ _ _ _ _ _ _=>rfl):Binds K fd [p0] []:=F.binds λa b c d e i=>abK (h a b c d e i)
theorem gC {K:PySem.W.Frag}{x qual:Str}{st:Stmt}{f:Addr}{fd:FuncData}{p0 p1:Str}(F:cN K x qual st f fd) (h:∀(kV doc pm:Value) (an:Option Addr) (cf ct x0 x1:Value),bindArgs (PySem.W.fnOf x qual (e_ st) (dO st) (ao st) .none kV doc pm an cf ct) ⟨[x0,x1],[]⟩=pure ([p0,p1].zip [x0,x1]):=by exact λ_ _ _ _ _ _ _ _=>rfl):Binds K fd [p0,p1] []:=F.binds λa b c d e i=>abL (h a b c d e i)
theorem Fl {K:PySem.W.Frag}{x qual:Str}{st:Stmt}{f:Addr}{fd:FuncData}{p0 p1 p2:Str}(F:cN K x qual st f fd) (h:∀(kV doc pm:Value) (an:Option Addr) (cf ct x0 x1 x2:Value),bindArgs (PySem.W.fnOf x qual (e_ st) (dO st) (ao st) .none kV doc pm an cf ct) ⟨[x0,x1,x2],[]⟩=pure ([p0,p1,p2].zip [x0,x1,x2]):=by exact λ_ _ _ _ _ _ _ _ _=>rfl):Binds K fd [p0,p1,p2] []:=F.binds λa b c d e i=>abM (h a b c d e i)
theorem bi4 {K:PySem.W.Frag}{x qual:Str}{st:Stmt}{f:Addr}{fd:FuncData}{p0 p1 p2 p3:Str}(F:cN K x qual st f fd) (h:∀(kV doc pm:Value) (an:Option Addr) (cf ct x0 x1 x2 x3:Value),bindArgs (PySem.W.fnOf x qual (e_ st) (dO st) (ao st) .none kV doc pm an cf ct) ⟨[x0,x1,x2,x3],[]⟩=pure ([p0,p1,p2,p3].zip [x0,x1,x2,x3]):=by exact λ_ _ _ _ _ _ _ _ _ _=>rfl):Binds K fd [p0,p1,p2,p3] []:=F.binds λa b c d e i=>abN (h a b c d e i)
theorem all_mk {l:PySem.W.OpenLaw}{w:World}{K:PySem.W.Frag}{h:Heap}{mg:Str->Option Value}{fa:Addr}(X:K.In h) (G:h.Ns mainGlobals mg) (hfa:mg "law"=some (.ref fa))
  {nS lA tH pN pO Aq Ar E1 As Au Kt tI tJ tK tL nT pQ pR pS tM pT Av Aw Ax Ay Az pV tN pW tO tP AA tQ tR tS tT pX lC pY pZ p_ qa qb qc qd qe qf qg F_ Ga Gb Gd Ge Gf Gg Gh Gi AD AE AF AG AH AI AJ AK E4 AL qh tU tV fg tW lE tX qi tY t_ ua ub qj qk ql kl ue uf ug uh nU cX bc bQ bZ oe uw ux Bb bu aL:Addr}
  {iM iN vB:Tok}
  {bJ gM cO gO:Addr}
  {eC eE eG eJ eO eQ eS eD eF eI eK eP eR dG dH:Addr}{CV CY CZ C0 C1 C3 C4 vC vE vF vG vH vI vJ vK:Array (Option Value)}{C5 C6 C7 C8 C9 C_ Dc vL vM vN vO vP vQ vR vS:Nat}{L5:Nat}{Dd Df Dg Dh Di Dj Dk:Int}{Dl Dm Dp Dq Dr Ds Dt:Tok}{qP qQ qR qS qT qU qV qW qX qY qZ q_ rh ri rj rq:Tok}
  {cj ck:Addr}{mU mV:Array (Option Value)}{mW mX:Nat}{rA:Nat}{mY mZ:Int}{m_ ng:Tok}{kJ kK kL kM:Tok}
  {L6:Nat}{Du Dv Dw Dx Dy Dz DA DB DC DD Bc Bd Be Bf:Int}{DE DF DG DH DI DJ DK DL DM DN Bg Bh Bi Bj:Tok}
  {DO:Nat}{DP:Array (Option Value)}
  {V7 L7:Option Addr}
  {V8:Array (Option Value)}
  {V9 L8 L9 L_ DQ Ma:Value}
  (Mb:PySem.W.nsIn K mainGlobals "Thing"=some (some (.ref cX)))
  (sh:PySem.W.nsIn K mainGlobals "PlainThing"=some (some (.ref bc)))
  (vT:PySem.W.nsIn K mainGlobals "PairThing"=some (some (.ref bQ)))
  (DR:PySem.W.nsIn K mainGlobals "Reasons"=some (some (.ref bZ)))
  (NS:PySem.W.nsIn K mainGlobals "HeapError"=some (some (.ref oe)))
  (V_:PySem.W.nsIn K mainGlobals "NoThing"=some (some (.ref uw)))
  (Wa:PySem.W.nsIn K mainGlobals "NoField"=some (some (.ref ux)))
  (Wy:PySem.W.nsIn K mainGlobals "NoRoom"=some (some (.ref Bb)))
  (Bk:PySem.W.nsIn K mainGlobals "DeedHeap"=some (some (.ref bu)))
  (vU:PySem.W.nsIn K mainGlobals "PlainHeap"=some (some (.ref aL)))
  (DS:fP K "is_thing" IJ nS)
  (DT:fP K "names_in" IK lA)
  (vV:jT K cX "__init__" "Thing.__init__" IL tH)
  (oy:jT K cX "sort_of" "Thing.sort_of" IM pN)
  (rB:jT K cX "fields" "Thing.fields" IP pO)
  (si:jT K cX "words" "Thing.words" Ox Aq)
  (mf:jT K bc "__init__" "PlainThing.__init__" IQ Ar)
  (kN:jT K bc "words" "PlainThing.words" Oy E1)
  (iu:jT K bc "with_field" "PlainThing.with_field" IS As)
  (iw:jT K bc "with_words" "PlainThing.with_words" IT Au)
  (nj:jT K bQ "__init__" "PairThing.__init__" S_ Kt)
  (NT:fP K "plain" IU tI)
  (Wb:fP K "weak" IV tJ)
  (Wc:fP K "pair" IW tK)
  (sj:fP K "open_things" IY tL)
  (vW:fP K "members_of" IZ nT)
  (GB:fP K "held_by" I0 pQ)
  (DU:fP K "pair_key" I_ pR)
  (vX:fP K "pair_value" Ja pS)
  (Bl:fP K "wanted_by" Jb tM)
  (Bm:fP K "is_closed" Jc pT)
  (rC:jT K bZ "__init__" "Reasons.__init__" Jd Av)
  (oz:jT K bZ "bring" "Reasons.bring" Je Aw)
  (ja:jT K bZ "bring_value" "Reasons.bring_value" Jf Ax)
  (jA:jT K bZ "go_on_from" "Reasons.go_on_from" Jg Ay)
  (oB:jT K bZ "grown" "Reasons.grown" Jh Az)
  (DV:fP K "why_kept" Ji pV)
  (rD:fP K "least_closed" Jj tN)
  (oC:fP K "blind_of_sort" Jk pW)
  (vY:fP K "blind_weak" Jl tO)
  (sk:fP K "blind_pairs" Jm tP)
  (Mc:fP K "refuse" Oz AA)
  (DW:fP K "has_sort" Jn tQ)
  (sq:fP K "lacks_thing" Jo tR)
  (su:fP K "lacks_field" Jp tS)
  (Bo:fP K "new_thing" Jq tT)
  (Md:fP K "do_num" Jr pX)
  (Me:fP K "do_new" Js lC)
  (DX:fP K "do_words" Jt pY)
  (Mf:fP K "do_put" Ju pZ)
  (Mg:fP K "do_get" Jv p_)
  (GC:fP K "do_look" Jw qa)
  (GD:fP K "do_find" Jx qb)
  (GF:fP K "do_copy" Jy qc)
  (GG:fP K "do_drop" Jz qd)
  (GH:fP K "do_tell" JA qe)
  (GI:fP K "do_same" JB qf)
  (GJ:fP K "do_hear" JC qg)
  (oE:jT K bu "__init__" "DeedHeap.__init__" Ta F_)
  (oF:jT K bu "root" "DeedHeap.root" Tb Ga)
  (jU:jT K bu "set_root" "DeedHeap.set_root" Tc Gb)
  (kO:jT K bu "name_in" "DeedHeap.name_in" Td Gd)
  (jV:jT K bu "thing_in" "DeedHeap.thing_in" Te Ge)
  (jB:jT K bu "looked_at" "DeedHeap.looked_at" Tf Gf)
  (jb:jT K bu "hear_first" "DeedHeap.hear_first" Th Gg)
  (kP:jT K bu "refusal" "DeedHeap.refusal" Ti Gh)
  (oG:jT K bu "done" "DeedHeap.done" Tj Gi)
  (nk:jT K aL "__init__" "PlainHeap.__init__" JD AD)
  (rE:jT K aL "do" "PlainHeap.do" JE AE)
  (jC:jT K aL "thing_of" "PlainHeap.thing_of" JF AF)
  (jW:jT K aL "take_in" "PlainHeap.take_in" JG AG)
  (gW:jT K aL "change_field" "PlainHeap.change_field" JH AH)
  (gX:jT K aL "change_words" "PlainHeap.change_words" JI AI)
  (mi:jT K aL "roots" "PlainHeap.roots" JJ AJ)
  (jc:jT K aL "heard_row" "PlainHeap.heard_row" JK AK)
  (kQ:jT K aL "things" "PlainHeap.things" OA E4)
  (nq:jT K aL "last" "PlainHeap.last" JL AL)
  (sv:fP K "_law_cell_at" JM qh)
  (oH:fP K "_law_number_by" JN tU)
  (sx:fP K "_law_deed_by" JO tV)
  (Bp:fP K "_law_value" JP fg)
  (Bq:fP K "_law_thing" JQ tW)
  (DY:fP K "_law_give" JR lE)
  (Br:fP K "_law_wants" JS tX)
  (sy:fP K "_law_refusal" JT qi)
  (DZ:fP K "_law_made" JU tY)
  (sC:fP K "_law_brought" JV t_)
  (vZ:fP K "_law_answer" JW ua)
  (D0:fP K "_law_done" JX ub)
  (D1:fP K "_law_open" JY qj)
  (sD:fP K "_law_closing" JZ qk)
  (Bs:fP K "_law_blind" J0 ql)
  (Bt:fP K "_law_alike" xH kl)
  (GK:fP K "_law_run" J1 ue)
  (GL:fP K "_law_led" J2 uf)
  (v_:fP K "_law_walked" J3 ug)
  (Bu:fP K "_law_right" J4 uh)
  (tG:PySem.W.nsIn K mainGlobals "law"=some (some (.ref nU)))
  (Zo:K.lookup nU=some ⟨V9,V7,.func (PySem.W.fnOf "law" "law" (e_ lz) (dO lz) (ao lz) .none L8 L9 L_ L7 DQ Ma),V8⟩)
  (We:PySem.W.codeIn K DQ "law"=true)
  (Zp:PySem.W.keepIn K (.ref nU)=true)
  (Mh:PySem.W.plainGet K cX Str.empty=true)
  (Mi:PySem.W.hasDictIn K cX=true)
  (Mj:PySem.W.plainOver K cX=true)
  (Ml:PySem.W.findIn K (.ref cX) "__setattr__"=some (some (.builtin "object.__setattr__")))
  (Mm:PySem.W.makesIn K cX=true)
  (Mn:PySem.W.keepIn K (.ref cX)=true)
  (dq:PySem.W.findIn K (.ref cX) "called"=some none)
  (dI:PySem.W.findIn K (.ref cX) "parts"=some none)
  (sE:PySem.W.plainGet K bc Str.empty=true)
  (sF:PySem.W.hasDictIn K bc=true)
  (sG:PySem.W.plainOver K bc=true)
  (sH:PySem.W.findIn K (.ref bc) "__setattr__"=some (some (.builtin "object.__setattr__")))
  (sI:PySem.W.makesIn K bc=true)
  (sJ:PySem.W.keepIn K (.ref bc)=true)
  (cF:PySem.W.findIn K (.ref bc) "called"=some none)
  (bG:PySem.W.findIn K (.ref bc) "parts"=some none)
  (bT:PySem.W.findIn K (.ref bc) "last_words"=some none)
  (wa:PySem.W.plainGet K bQ Str.empty=true)
  (wb:PySem.W.hasDictIn K bQ=true)
  (we:PySem.W.plainOver K bQ=true)
  (wg:PySem.W.findIn K (.ref bQ) "__setattr__"=some (some (.builtin "object.__setattr__")))
  (wj:PySem.W.makesIn K bQ=true)
  (wm:PySem.W.keepIn K (.ref bQ)=true)
  (cM:PySem.W.findIn K (.ref bQ) "called"=some none)
  (cR:PySem.W.findIn K (.ref bQ) "parts"=some none)
  (D2:PySem.W.plainGet K bZ Str.empty=true)
  (D3:PySem.W.hasDictIn K bZ=true)
  (D4:PySem.W.plainOver K bZ=true)
  (D5:PySem.W.findIn K (.ref bZ) "__setattr__"=some (some (.builtin "object.__setattr__")))
  (D6:PySem.W.makesIn K bZ=true)
  (D7:PySem.W.keepIn K (.ref bZ)=true)
  (bY:PySem.W.findIn K (.ref bZ) "by_serial"=some none)
  (cm:PySem.W.findIn K (.ref bZ) "rows"=some none)
  (cu:PySem.W.findIn K (.ref bZ) "members"=some none)
  (cv:PySem.W.findIn K (.ref bZ) "waiting"=some none)
  (Bv:PySem.W.plainGet K bu Str.empty=true)
  (Bw:PySem.W.hasDictIn K bu=true)
  (Bx:PySem.W.plainOver K bu=true)
  (By:PySem.W.findIn K (.ref bu) "__setattr__"=some (some (.builtin "object.__setattr__")))
  (Bz:PySem.W.makesIn K bu=true)
  (BA:PySem.W.keepIn K (.ref bu)=true)
  (wo:PySem.W.plainGet K aL Str.empty=true)
  (wq:PySem.W.hasDictIn K aL=true)
  (wu:PySem.W.plainOver K aL=true)
  (wx:PySem.W.findIn K (.ref aL) "__setattr__"=some (some (.builtin "object.__setattr__")))
  (wy:PySem.W.makesIn K aL=true)
  (wA:PySem.W.keepIn K (.ref aL)=true)
  (bh:PySem.W.findIn K (.ref aL) "root_values"=some none)
  (cw:PySem.W.findIn K (.ref aL) "heard"=some none)
  (aX:PySem.W.findIn K (.ref aL) "made"=some none)
  (GN:PySem.W.nsIn K mainGlobals "NOTHING"=some (some (.ref bJ)))
  (rF:K.lookup bJ=some ⟨.type "tuple",none,.seq #[.str "nothing" vB] DO,DP⟩)
  (D8:PySem.W.nsIn K mainGlobals "NO_THING"=some (some (.str "no thing" iM)))
  (D9:PySem.W.nsIn K mainGlobals "NO_FIELD"=some (some (.str "no field" iN)))
  (NU:PySem.W.nsIn K mainGlobals "WANTS"=some (some (.ref gM)))
  (Mo:(gM == sysModules)=false)
  (Mp:K.lookup gM=some ⟨.type "dict",none,.dict #[⟨Dd,.str "weak" Dl,.ref eC⟩,⟨Df,.str "pair" Dm,.ref eE⟩,⟨Dg,.str "words" Dp,.ref eG⟩,⟨Dh,.str "put" Dq,.ref eJ⟩,⟨Di,.str "get" Dr,.ref eO⟩,⟨Dj,.str "look" Ds,.ref eQ⟩,⟨Dk,.str "find" Dt,.ref eS⟩] L5,#[]⟩)
  (D_:K.lookup eC=some ⟨.type "tuple",none,.seq #[.ref eD] C5,CV⟩)
  (wB:K.lookup eD=some ⟨.type "tuple",none,.seq #[.int 2 qP,.str "any" qQ] vL,vC⟩)
  (Ea:K.lookup eE=some ⟨.type "tuple",none,.seq #[.ref eF] C6,CY⟩)
  (wC:K.lookup eF=some ⟨.type "tuple",none,.seq #[.int 2 qR,.str "any" qS] vM,vE⟩)
  (Eb:K.lookup eG=some ⟨.type "tuple",none,.seq #[.ref eI] C7,CZ⟩)
  (wF:K.lookup eI=some ⟨.type "tuple",none,.seq #[.int 1 qT,.str "plain" qU] vN,vF⟩)
  (Ec:K.lookup eJ=some ⟨.type "tuple",none,.seq #[.ref eK] C8,C0⟩)
  (wG:K.lookup eK=some ⟨.type "tuple",none,.seq #[.int 1 qV,.str "plain" qW] vO,vG⟩)
  (Ed:K.lookup eO=some ⟨.type "tuple",none,.seq #[.ref eP] C9,C1⟩)
  (wH:K.lookup eP=some ⟨.type "tuple",none,.seq #[.int 2 qX,.str "plain" qY] vP,vH⟩)
  (Ee:K.lookup eQ=some ⟨.type "tuple",none,.seq #[.ref eR] C_,C3⟩)
  (wI:K.lookup eR=some ⟨.type "tuple",none,.seq #[.int 2 qZ,.str "weak" q_] vQ,vI⟩)
  (Ef:K.lookup eS=some ⟨.type "tuple",none,.seq #[.ref dG,.ref dH] Dc,C4⟩)
  (wJ:K.lookup dG=some ⟨.type "tuple",none,.seq #[.int 2 rh,.str "pair" ri] vR,vJ⟩)
  (wK:K.lookup dH=some ⟨.type "tuple",none,.seq #[.int 3 rj,.str "any" rq] vS,vK⟩)
  (sL:PySem.W.nsIn K mainGlobals "WANTS_FIELD"=some (some (.ref cO)))
  (rG:(cO == sysModules)=false)
  (rH:K.lookup cO=some ⟨.type "dict",none,.dict #[⟨mY,.str "put" m_,.ref cj⟩,⟨mZ,.str "get" ng,.ref ck⟩] rA,#[]⟩)
  (nu:K.lookup cj=some ⟨.type "tuple",none,.seq #[.int 1 kJ,.int 2 kK] mW,mU⟩)
  (ny:K.lookup ck=some ⟨.type "tuple",none,.seq #[.int 2 kL,.int 3 kM] mX,mV⟩)
  (NV:PySem.W.nsIn K mainGlobals "DOERS"=some (some (.ref gO)))
  (Mq:(gO == sysModules)=false)
  (Mr:K.lookup gO=some ⟨.type "dict",none,.dict #[⟨Du,.str "num" DE,.ref pX⟩,⟨Dv,.str "make" DF,.ref lC⟩,⟨Dw,.str "weak" DG,.ref lC⟩,⟨Dx,.str "pair" DH,.ref lC⟩,⟨Dy,.str "words" DI,.ref pY⟩,⟨Dz,.str "put" DJ,.ref pZ⟩,⟨DA,.str "get" DK,.ref p_⟩,⟨DB,.str "look" DL,.ref qa⟩,⟨DC,.str "find" DM,.ref qb⟩,⟨DD,.str "copy" DN,.ref qc⟩,⟨Bc,.str "drop" Bg,.ref qd⟩,⟨Bd,.str "tell" Bh,.ref qe⟩,⟨Be,.str "same" Bi,.ref qf⟩,⟨Bf,.str "hear" Bj,.ref qg⟩] L6,#[]⟩)
  (jD:PySem.W.findIn K (.ref bc) "sort_of"=some (some (.ref pN)))
  (jX:PySem.W.findIn K (.ref bc) "fields"=some (some (.ref pO)))
  (jY:PySem.W.findIn K (.ref bQ) "sort_of"=some (some (.ref pN)))
  (kR:PySem.W.findIn K (.ref bQ) "fields"=some (some (.ref pO)))
  (mj:PySem.W.findIn K (.ref bQ) "words"=some (some (.ref Aq)))
  (nz:PySem.W.findIn K (.ref aL) "root"=some (some (.ref Ga)))
  (jE:PySem.W.findIn K (.ref aL) "set_root"=some (some (.ref Gb)))
  (jZ:PySem.W.findIn K (.ref aL) "name_in"=some (some (.ref Gd)))
  (jF:PySem.W.findIn K (.ref aL) "thing_in"=some (some (.ref Ge)))
  (jd:PySem.W.findIn K (.ref aL) "looked_at"=some (some (.ref Gf)))
  (iV:PySem.W.findIn K (.ref aL) "hear_first"=some (some (.ref Gg)))
  (j_:PySem.W.findIn K (.ref aL) "refusal"=some (some (.ref Gh)))
  (nA:PySem.W.findIn K (.ref aL) "done"=some (some (.ref Gi)))
  (rJ:PySem.W.specialIn K (.ref cX) "__getattribute__"=some (some (.builtin "type.__getattribute__")))
  (rK:PySem.W.readsIn K cX (.type "type")=true)
  (rL:PySem.W.findCls K (.ref cX) (.type "type") "__init__"=some (.val (.ref tH)))
  (ml:PySem.W.specialIn K (.ref bu) "__getattribute__"=some (some (.builtin "type.__getattribute__")))
  (mn:PySem.W.readsIn K bu (.type "type")=true)
  (mq:PySem.W.findCls K (.ref bu) (.type "type") "__init__"=some (.val (.ref F_)))
  (ui:PySem.W.nsIn K mainGlobals "abs"=some none)
  (uj:PySem.W.nsIn K mainGlobals "any"=some none)
  (mO:PySem.W.nsIn K mainGlobals "bool"=some none)
  (js:PySem.W.nsIn K mainGlobals "dict"=some none)
  (qx:PySem.W.nsIn K mainGlobals "int"=some none)
  (aV:PySem.W.nsIn K mainGlobals "isinstance"=some none)
  (fk:PySem.W.nsIn K mainGlobals "len"=some none)
  (fH:PySem.W.nsIn K mainGlobals "list"=some none)
  (jM:PySem.W.nsIn K mainGlobals "range"=some none)
  (E5:PySem.W.nsIn K mainGlobals "set"=some none)
  (dY:PySem.W.nsIn K mainGlobals "sorted"=some none)
  (kn:PySem.W.nsIn K mainGlobals "str"=some none)
  (jN:PySem.W.nsIn K mainGlobals "tuple"=some none)
  : ∃fd:FuncData,(∀(s:Shared) (v:Value),BindsTo s fd ⟨[v],[]⟩ [("_law_script",v)])/\∀base:Heap,K.In base->base.Ns mainGlobals mg->aS l.prog w K mg base cU 12 fa fd ["_law_script"] (vA K):=by
 have e:nU=fa:=by
  have e:=hfa.symm.trans (PySem.W.mg_of X G tG);cases e;rfl
 subst e;obtain⟨xI,abT,xJ,Qs⟩:=DS;obtain⟨xK,abU,xM,Qt⟩:=DT;obtain⟨tE,Zq,Zr,xN,Qu⟩:=vV;obtain⟨pK,Ms,Mt,xO,Qv⟩:=oy;obtain⟨pL,Mv,Mw,xP,Qw⟩:=rB;obtain⟨xQ,Qx,Qy,EO,Qz⟩:=si;obtain⟨xR,Zs,abV,xS,QA⟩:=mf;obtain⟨ER,Zt,Zu,ES,QB⟩:=kN;obtain⟨xT,Zv,Zw,xU,QC⟩:=iu;obtain⟨xV,Zx,Zy,xW,QD⟩:=iw;obtain⟨Ke,abO,adm,Kf,Zz⟩:=nj;obtain⟨xX,abW,xY,QE⟩:=NT;obtain⟨xZ,abX,x_,QF⟩:=Wb;obtain⟨ya,abY,yb,QG⟩:=Wc;obtain⟨yc,abZ,yd,QH⟩:=sj;obtain⟨ye,aca,yf,QI⟩:=vW;obtain⟨yg,acb,yh,QJ⟩:=GB;obtain⟨yi,acd,yj,QK⟩:=DU;obtain⟨yk,ace,yl,QL⟩:=vX;obtain⟨ym,acf,yn,QM⟩:=Bl;obtain⟨yo,acg,yp,QN⟩:=Bm;obtain⟨yq,ZA,ach,yr,QO⟩:=rC;obtain⟨yt,ZC,ZD,yu,QP⟩:=oz;obtain⟨yv,ZE,ZF,yw,QQ⟩:=ja;obtain⟨yx,ZG,ZH,yy,QR⟩:=jA;obtain⟨yz,ZI,ZJ,yA,QS⟩:=oB;obtain⟨yB,aci,yC,QT⟩:=DV;obtain⟨yD,acj,yE,QU⟩:=rD;obtain⟨yF,ack,yG,QV⟩:=oC;obtain⟨yH,acm,yI,QW⟩:=vY;obtain⟨yJ,acn,yK,QX⟩:=sk;obtain⟨yL,aco,yM,QY⟩:=Mc;obtain⟨yN,acp,yO,QZ⟩:=DW;obtain⟨yP,acq,yQ,Q0⟩:=sq;obtain⟨yR,acr,yS,Q1⟩:=su;obtain⟨yT,acs,yU,Q2⟩:=Bo;obtain⟨nF,acu,yV,Q3⟩:=Md;obtain⟨iX,acv,yW,Q4⟩:=Me;obtain⟨nG,acw,yX,Q5⟩:=DX;obtain⟨nH,acx,yY,Q6⟩:=Mf;obtain⟨nJ,acy,yZ,Q7⟩:=Mg;obtain⟨nK,acz,y_,Q8⟩:=GC;obtain⟨nM,acA,za,Q9⟩:=GD;obtain⟨nN,acB,zb,Q_⟩:=GF;obtain⟨nO,acC,zc,Ra⟩:=GG;obtain⟨nP,acD,zd,Rb⟩:=GH;obtain⟨nQ,acE,ze,Rc⟩:=GI;obtain⟨nR,acF,zf,Rf⟩:=GJ;obtain⟨F1,abP,abQ,Kg,ZK⟩:=oE;obtain⟨F2,ZL,ZM,Kh,ZN⟩:=oF;obtain⟨F3,ZO,ZP,Ki,ZQ⟩:=jU;obtain⟨F4,ZR,ZS,Kj,ZT⟩:=kO;obtain⟨F5,ZU,ZV,Kk,ZW⟩:=jV;obtain⟨F6,ZX,ZY,Kl,ZZ⟩:=jB;obtain⟨F7,Z0,Z1,Km,Z2⟩:=jb;obtain⟨F8,Z3,Z4,Kn,Z5⟩:=kP;obtain⟨F9,Z6,Z7,Ko,Z8⟩:=oG;obtain⟨zg,Z9,acG,zh,Rg⟩:=nk;obtain⟨zi,Z_,aaa,zj,Rh⟩:=rE;obtain⟨zk,aab,aac,zl,Ri⟩:=jC;obtain⟨zm,aad,aae,zo,Rj⟩:=jW;obtain⟨zp,aaf,aag,zq,Rk⟩:=gW;obtain⟨zr,aah,aai,zt,Rl⟩:=gX;obtain⟨zu,aaj,aak,zx,Rm⟩:=mi;obtain⟨zy,aal,aam,zz,Rn⟩:=jc;obtain⟨ET,aan,aao,EU,Ro⟩:=kQ;obtain⟨zA,aap,aaq,zB,Rp⟩:=nq;obtain⟨zC,acH,zD,Rq⟩:=sv;obtain⟨zE,acI,zF,Rr⟩:=oH;obtain⟨zG,acJ,zH,Rt⟩:=sx;obtain⟨zI,acK,zJ,Ru⟩:=Bp;obtain⟨zK,acL,zL,Rv⟩:=Bq;obtain⟨zM,acM,zN,Rx⟩:=DY;obtain⟨zO,acN,zP,Ry⟩:=Br;obtain⟨zQ,acO,zR,Rz⟩:=sy;obtain⟨zS,acP,zT,RB⟩:=DZ;obtain⟨zU,acQ,zV,RC⟩:=sC;obtain⟨zW,acR,zX,RD⟩:=vZ;obtain⟨zY,acS,zZ,RE⟩:=D0;obtain⟨z_,acT,Aa,RF⟩:=D1;obtain⟨Ab,acU,Ac,RG⟩:=sD;obtain⟨Ad,acV,Ae,RH⟩:=Bs;obtain⟨pM,acW,tF,RI⟩:=Bt;obtain⟨Af,acX,Ag,RJ⟩:=GK;obtain⟨Ah,acY,Ai,RK⟩:=GL;obtain⟨Aj,acZ,Ak,RL⟩:=v_;obtain⟨Al,ada,Am,RN⟩:=Bu;have aar:=Ho (st:=lz) Zo We Zp;have T:Txt K mg ⟨nS,xJ,lA,xM,tH,xN,pN,xO,pO,xP,Aq,EO,Ar,xS,E1,ES,As,xU,Au,xW,Kt,Kf,tI,xY,tJ,x_,tK,yb,tL,yd,nT,yf,pQ,yh,pR,yj,pS,yl,tM,yn,pT,yp,Av,yr,Aw,yu,Ax,yw,Ay,yy,Az,yA,pV,yC,tN,yE,pW,yG,tO,yI,tP,yK,AA,yM,tQ,yO,tR,yQ,tS,yS,tT,yU,pX,yV,lC,yW,pY,yX,pZ,yY,p_,yZ,qa,y_,qb,za,qc,zb,qd,zc,qe,zd,qf,ze,qg,zf,F_,Kg,Ga,Kh,Gb,Ki,Gd,Kj,Ge,Kk,Gf,Kl,Gg,Km,Gh,Kn,Gi,Ko,AD,zh,AE,zj,AF,zl,AG,zo,AH,zq,AI,zt,AJ,zx,AK,zz,E4,EU,AL,zB,qh,zD,tU,zF,tV,zH,fg,zJ,tW,zL,lE,zN,tX,zP,qi,zR,tY,zT,t_,zV,ua,zX,ub,zZ,qj,Aa,qk,Ac,ql,Ae,kl,tF,ue,Ag,uf,Ai,ug,Ak,uh,Am,nU,PySem.W.fnOf "law" "law" (e_ lz) (dO lz) (ao lz) .none L8 L9 L_ L7 DQ Ma,cX,bc,bQ,bZ,oe,uw,ux,Bb,bu,aL,bJ,iM,iN,gM,eC,eD,eE,eF,eG,eI,eJ,eK,eO,eP,eQ,eR,eS,dG,dH,cO,cj,ck,gO⟩:=by
  exact {
   nS:=Qs,
   EV:=qO Qs,
   EW:=PySem.W.mg_of X G xI,
   lA:=Qt,
   An:=qO Qt,
   Ao:=PySem.W.mg_of X G xK,
   tH:=Qu,
   EX:=Fl Qu,
   Ap:=⟨Mm,tE,Zq,Mn⟩,
   pN:=Qv,
   EY:=qO Qv,
   Kq:=⟨pK,Ms,Mt⟩,
   pO:=Qw,
   ie:=qO Qw,
   pP:=⟨pL,Mv,Mw⟩,
   Aq:=Qz,
   XU:=qO Qz,
   Uh:=⟨xQ,Qx,Qy⟩,
   Ar:=QA,
   EZ:=Fl QA,
   fN:=⟨sI,xR,Zs,sJ⟩,
   E1:=QB,
   XW:=qO QB,
   Ui:=⟨ER,Zt,Zu⟩,
   As:=QC,
   OD:=Fl QC,
   Kr:=⟨xT,Zv,Zw⟩,
   Au:=QD,
   OE:=gC QD,
   Ks:=⟨xV,Zx,Zy⟩,
   Kt:=Zz,
   XX:=Fl Zz,
   lB:=⟨wj,Ke,abO,wm⟩,
   tI:=QE,
   OF:=gC QE,
   OG:=PySem.W.mg_of X G xX,
   tJ:=QF,
   OH:=qO QF,
   OI:=PySem.W.mg_of X G xZ,
   tK:=QG,
   OJ:=gC QG,
   OK:=PySem.W.mg_of X G ya,
   tL:=QH,
   OL:=qO QH,
   OM:=PySem.W.mg_of X G yc,
   nT:=QI,
   E2:=qO QI,
   E3:=PySem.W.mg_of X G ye,
   pQ:=QJ,
   Ku:=qO QJ,
   Kv:=PySem.W.mg_of X G yg,
   pR:=QK,
   Kw:=qO QK,
   Kx:=PySem.W.mg_of X G yi,
   pS:=QL,
   Ky:=qO QL,
   Kz:=PySem.W.mg_of X G yk,
   tM:=QM,
   ON:=gC QM,
   OO:=PySem.W.mg_of X G ym,
   pT:=QN,
   KA:=gC QN,
   KC:=PySem.W.mg_of X G yo,
   Av:=QO,
   OP:=Fl QO,
   pU:=⟨D6,yq,ZA,D7⟩,
   Aw:=QP,
   KD:=bi4 QP,
   Cv:=⟨yt,ZC,ZD⟩,
   Ax:=QQ,
   KG:=gC QQ,
   Cw:=⟨yv,ZE,ZF⟩,
   Ay:=QR,
   OQ:=gC QR,
   KH:=⟨yx,ZG,ZH⟩,
   Az:=QS,
   OR:=qO QS,
   KI:=⟨yz,ZI,ZJ⟩,
   pV:=QT,
   KJ:=gC QT,
   KL:=PySem.W.mg_of X G yB,
   tN:=QU,
   OS:=gC QU,
   OT:=PySem.W.mg_of X G yD,
   pW:=QV,
   KN:=Fl QV,
   KO:=PySem.W.mg_of X G yF,
   tO:=QW,
   OU:=gC QW,
   OV:=PySem.W.mg_of X G yH,
   tP:=QX,
   OW:=gC QX,
   OX:=PySem.W.mg_of X G yJ,
   AA:=QY,
   OY:=qO QY,
   OZ:=PySem.W.mg_of X G yL,
   tQ:=QZ,
   O0:=Fl QZ,
   O1:=PySem.W.mg_of X G yN,
   tR:=Q0,
   O2:=gC Q0,
   O3:=PySem.W.mg_of X G yP,
   tS:=Q1,
   O4:=gC Q1,
   O5:=PySem.W.mg_of X G yR,
   tT:=Q2,
   O6:=gC Q2,
   O7:=PySem.W.mg_of X G yT,
   pX:=Q3,
   O8:=gC Q3,
   XY:=PySem.W.mg_of X G nF,
   lC:=Q4,
   O9:=gC Q4,
   XZ:=PySem.W.mg_of X G iX,
   pY:=Q5,
   O_:=gC Q5,
   X0:=PySem.W.mg_of X G nG,
   pZ:=Q6,
   Pa:=gC Q6,
   X1:=PySem.W.mg_of X G nH,
   p_:=Q7,
   Pb:=gC Q7,
   X2:=PySem.W.mg_of X G nJ,
   qa:=Q8,
   Pc:=gC Q8,
   X3:=PySem.W.mg_of X G nK,
   qb:=Q9,
   Pf:=gC Q9,
   X4:=PySem.W.mg_of X G nM,
   qc:=Q_,
   Pg:=gC Q_,
   X5:=PySem.W.mg_of X G nN,
   qd:=Ra,
   Ph:=gC Ra,
   X6:=PySem.W.mg_of X G nO,
   qe:=Rb,
   Pj:=gC Rb,
   X7:=PySem.W.mg_of X G nP,
   qf:=Rc,
   Pk:=gC Rc,
   X8:=PySem.W.mg_of X G nQ,
   qg:=Rf,
   Pl:=gC Rf,
   X9:=PySem.W.mg_of X G nR,
   F_:=ZK,
   X_:=qO ZK,
   AB:=⟨Bz,F1,abP,BA⟩,
   Ga:=ZN,
   oo:=gC ZN,
   Ya:=⟨F2,ZL,ZM⟩,
   Gb:=ZQ,
   ve:=Fl ZQ,
   Yb:=⟨F3,ZO,ZP⟩,
   Gd:=ZT,
   KP:=gC ZT,
   Yc:=⟨F4,ZR,ZS⟩,
   Ge:=ZW,
   KQ:=gC ZW,
   Yd:=⟨F5,ZU,ZV⟩,
   Gf:=ZZ,
   Ye:=gC ZZ,
   Yf:=⟨F6,ZX,ZY⟩,
   Gg:=Z2,
   Yg:=qO Z2,
   Yh:=⟨F7,Z0,Z1⟩,
   Gh:=Z5,
   Yi:=gC Z5,
   Yj:=⟨F8,Z3,Z4⟩,
   Gi:=Z8,
   Yk:=gC Z8,
   Yl:=⟨F9,Z6,Z7⟩,
   AD:=Rg,
   Pm:=qO Rg,
   lD:=⟨wy,zg,Z9,wA⟩,
   AE:=Rh,
   Pn:=gC Rh,
   KR:=⟨zi,Z_,aaa⟩,
   AF:=Ri,
   KS:=gC Ri,
   Cy:=⟨zk,aab,aac⟩,
   AG:=Rj,
   Po:=gC Rj,
   KU:=⟨zm,aad,aae⟩,
   AH:=Rk,
   Pp:=bi4 Rk,
   KW:=⟨zp,aaf,aag⟩,
   AI:=Rl,
   Pq:=Fl Rl,
   KY:=⟨zr,aah,aai⟩,
   AJ:=Rm,
   Pt:=qO Rm,
   KZ:=⟨zu,aaj,aak⟩,
   AK:=Rn,
   Pu:=qO Rn,
   K0:=⟨zy,aal,aam⟩,
   E4:=Ro,
   Ym:=qO Ro,
   Uj:=⟨ET,aan,aao⟩,
   AL:=Rp,
   Pw:=qO Rp,
   K1:=⟨zA,aap,aaq⟩,
   qh:=Rq,
   K2:=gC Rq,
   K3:=PySem.W.mg_of X G zC,
   tU:=Rr,
   Px:=gC Rr,
   Py:=PySem.W.mg_of X G zE,
   tV:=Rt,
   Pz:=gC Rt,
   PB:=PySem.W.mg_of X G zG,
   fg:=Ru,
   gE:=gC Ru,
   gF:=PySem.W.mg_of X G zI,
   tW:=Rv,
   PD:=Fl Rv,
   PF:=PySem.W.mg_of X G zK,
   lE:=Rx,
   AM:=Fl Rx,
   AN:=PySem.W.mg_of X G zM,
   tX:=Ry,
   PJ:=qO Ry,
   PK:=PySem.W.mg_of X G zO,
   qi:=Rz,
   K4:=gC Rz,
   K5:=PySem.W.mg_of X G zQ,
   tY:=RB,
   PL:=gC RB,
   PM:=PySem.W.mg_of X G zS,
   t_:=RC,
   PN:=gC RC,
   PQ:=PySem.W.mg_of X G zU,
   ua:=RD,
   PR:=gC RD,
   PU:=PySem.W.mg_of X G zW,
   ub:=RE,
   PV:=gC RE,
   PX:=PySem.W.mg_of X G zY,
   qj:=RF,
   K6:=qO RF,
   K7:=PySem.W.mg_of X G z_,
   qk:=RG,
   K8:=gC RG,
   K9:=PySem.W.mg_of X G Ab,
   ql:=RH,
   K_:=Fl RH,
   La:=PySem.W.mg_of X G Ad,
   kl:=RI,
   uc:=gC RI,
   ud:=PySem.W.mg_of X G pM,
   ue:=RJ,
   PY:=gC RJ,
   PZ:=PySem.W.mg_of X G Af,
   uf:=RK,
   P0:=Fl RK,
   P1:=PySem.W.mg_of X G Ah,
   ug:=RL,
   P2:=Fl RL,
   P4:=PySem.W.mg_of X G Aj,
   uh:=RN,
   P5:=gC RN,
   P6:=PySem.W.mg_of X G Al,
   nU:=aar,
   Yn:=PySem.W.mg_of X G tG,
   fu:=⟨jD,Ms,Mt⟩,
   cD:=⟨jX,Mv,Mw⟩,
   fX:=⟨jY,Ms,Mt⟩,
   cL:=⟨kR,Mv,Mw⟩,
   kB:=⟨mj,Qx,Qy⟩,
   aW:=⟨nz,ZL,ZM⟩,
   aZ:=⟨jE,ZO,ZP⟩,
   cE:=⟨jZ,ZR,ZS⟩,
   cp:=⟨jF,ZU,ZV⟩,
   fj:=⟨jd,ZX,ZY⟩,
   eT:=⟨iV,Z0,Z1⟩,
   fY:=⟨j_,Z3,Z4⟩,
   gP:=⟨nA,Z6,Z7⟩,
   gU:=⟨rJ,rK,rL,Zr⟩,
   ig:=⟨ml,mn,mq,abQ⟩,
   fZ:=⟨Mh,Mi,Mj,Ml⟩,
   lF:=PySem.W.mg_of X G Mb,
   dq:=dq,
   dI:=dI,
   bg:=⟨sE,sF,sG,sH⟩,
   fO:=PySem.W.mg_of X G sh,
   cF:=cF,
   bG:=bG,
   bT:=bT,
   cW:=⟨wa,wb,we,wg⟩,
   lG:=PySem.W.mg_of X G vT,
   cM:=cM,
   cR:=cR,
   br:=⟨D2,D3,D4,D5⟩,
   qm:=PySem.W.mg_of X G DR,
   bY:=bY,
   cm:=cm,
   cu:=cu,
   cv:=cv,
   AO:=⟨Bv,Bw,Bx,By⟩,
   nV:=PySem.W.mg_of X G Bk,
   ar:=⟨wo,wq,wu,wx⟩,
   lH:=PySem.W.mg_of X G vU,
   bh:=bh,
   cw:=cw,
   aX:=aX,
   bC:=PySem.W.mg_of X G GN,
   Gj:=⟨_,rF,rfl,rfl⟩,
   fG:=λH=>.inr ⟨_,_,_,rF,rfl,rfl,(by show 1<=sizeLine; decide),(.cons ⟨_,rfl⟩ Paired.nil)⟩,
   kC:=PySem.W.mg_of X G D8,
   kD:=PySem.W.mg_of X G D9,
   vf:=PySem.W.mg_of X G NU,
   AQ:=.mk Mo Mp (bq (bq (bq (bq (bq (bq (bq rfl))))))),
   qo:=λH=>.inr ⟨_,_,_,D_,rfl,rfl,(by show 1<=sizeLine; decide),(.cons rfl Paired.nil)⟩,
   lJ:=λH=>.inr ⟨_,_,_,wB,rfl,rfl,(by show 2<=sizeLine; decide),(.cons ⟨_,rfl⟩ (.cons ⟨_,rfl⟩ Paired.nil))⟩,
   qp:=λH=>.inr ⟨_,_,_,Ea,rfl,rfl,(by show 1<=sizeLine; decide),(.cons rfl Paired.nil)⟩,
   lK:=λH=>.inr ⟨_,_,_,wC,rfl,rfl,(by show 2<=sizeLine; decide),(.cons ⟨_,rfl⟩ (.cons ⟨_,rfl⟩ Paired.nil))⟩,
   qr:=λH=>.inr ⟨_,_,_,Eb,rfl,rfl,(by show 1<=sizeLine; decide),(.cons rfl Paired.nil)⟩,
   lM:=λH=>.inr ⟨_,_,_,wF,rfl,rfl,(by show 2<=sizeLine; decide),(.cons ⟨_,rfl⟩ (.cons ⟨_,rfl⟩ Paired.nil))⟩,
   qt:=λH=>.inr ⟨_,_,_,Ec,rfl,rfl,(by show 1<=sizeLine; decide),(.cons rfl Paired.nil)⟩,
   lO:=λH=>.inr ⟨_,_,_,wG,rfl,rfl,(by show 2<=sizeLine; decide),(.cons ⟨_,rfl⟩ (.cons ⟨_,rfl⟩ Paired.nil))⟩,
   qu:=λH=>.inr ⟨_,_,_,Ed,rfl,rfl,(by show 1<=sizeLine; decide),(.cons rfl Paired.nil)⟩,
   lP:=λH=>.inr ⟨_,_,_,wH,rfl,rfl,(by show 2<=sizeLine; decide),(.cons ⟨_,rfl⟩ (.cons ⟨_,rfl⟩ Paired.nil))⟩,
   qv:=λH=>.inr ⟨_,_,_,Ee,rfl,rfl,(by show 1<=sizeLine; decide),(.cons rfl Paired.nil)⟩,
   lQ:=λH=>.inr ⟨_,_,_,wI,rfl,rfl,(by show 2<=sizeLine; decide),(.cons ⟨_,rfl⟩ (.cons ⟨_,rfl⟩ Paired.nil))⟩,
   qw:=λH=>.inr ⟨_,_,_,Ef,rfl,rfl,(by show 2<=sizeLine; decide),(.cons rfl (.cons rfl Paired.nil))⟩,
   lR:=λH=>.inr ⟨_,_,_,wJ,rfl,rfl,(by show 2<=sizeLine; decide),(.cons ⟨_,rfl⟩ (.cons ⟨_,rfl⟩ Paired.nil))⟩,
   lT:=λH=>.inr ⟨_,_,_,wK,rfl,rfl,(by show 2<=sizeLine; decide),(.cons ⟨_,rfl⟩ (.cons ⟨_,rfl⟩ Paired.nil))⟩,
   km:=PySem.W.mg_of X G sL,
   jr:=.mk rG rH (bq (bq rfl)),
   ij:=λH=>.inr ⟨_,_,_,nu,rfl,rfl,(by show 2<=sizeLine; decide),(.cons ⟨_,rfl⟩ (.cons ⟨_,rfl⟩ Paired.nil))⟩,
   ik:=λH=>.inr ⟨_,_,_,ny,rfl,rfl,(by show 2<=sizeLine; decide),(.cons ⟨_,rfl⟩ (.cons ⟨_,rfl⟩ Paired.nil))⟩,
   vg:=PySem.W.mg_of X G NV,
   AR:=.mk Mq Mr (bq (bq (bq (bq (bq (bq (bq (bq (bq (bq (bq (bq (bq (bq rfl)))))))))))))),
   ui:=PySem.W.mg_none_of X G ui,
   uj:=PySem.W.mg_none_of X G uj,
   mO:=PySem.W.mg_none_of X G mO,
   js:=PySem.W.mg_none_of X G js,
   qx:=PySem.W.mg_none_of X G qx,
   aV:=PySem.W.mg_none_of X G aV,
   fk:=PySem.W.mg_none_of X G fk,
   fH:=PySem.W.mg_none_of X G fH,
   jM:=PySem.W.mg_none_of X G jM,
   E5:=PySem.W.mg_none_of X G E5,
   dY:=PySem.W.mg_none_of X G dY,
   kn:=PySem.W.mg_none_of X G kn,
   jN:=PySem.W.mg_none_of X G jN}
 exact⟨_,λs v=>.of_eq rfl,λbase _ _=>V3 T⟩
theorem walk {l:PySem.W.OpenLaw}{q:Program}{loose:List Str}{XP:(Str->Option Value)->Heap->Prop}{YP:World->Heap->Prop}{d:DefRec}{K:Params->PySem.W.Frag}(hn:l.most=some 63) (Od:d.params.defaults=[])
  (hY:∀(w:World) (h:Heap),YP w h->(K w.params).In h)
  (F:∀(w:World) (mg:Str->Option Value) (fa:Addr) (h:Heap),(K w.params).In h->h.Ns mainGlobals mg->mg d.name=some (.ref fa) ->
   ∃fd:FuncData,(∀(s:Shared) (u:Value),BindsTo s fd ⟨[u],[]⟩ [("_law_script",u)])/\∀base:Heap,(K w.params).In base->base.Ns mainGlobals mg->aS l.prog w (K w.params) mg base cU 12 fa fd ["_law_script"] (vA (K w.params))) :
  PySem.W.WalkO q loose XP YP l.row.toRowW d [] (λf vs=>PySem.call f vs):=
 L2.MS (n:=63) (k:=12) (x:="_law_script") (CX:=λ_=>cU) (sp:=λw=>vA (K w.params)) hn (by decide) Od ⟨rfl,by decide,by decide⟩ hY F (λ_ _ a ns hl _ hS=>⟨a,ns,rfl,hS,hl,λ_=>rfl⟩) λ_ _ _ _ _ z=>z
end S9
namespace PySem.W.Fast
theorem tw10046395352203016928:True:=⟨⟩
theorem tw10055648640104203377:True:=⟨⟩
theorem tw10061933520687602935:True:=⟨⟩
theorem tw100753838389404278:True:=⟨⟩
theorem tw10077264895486875774:True:=⟨⟩
theorem tw10085807684479346962:True:=⟨⟩
theorem tw10105136660742982340:True:=⟨⟩
theorem tw10122376205628245931:True:=⟨⟩
theorem tw10185960170265838267:True:=⟨⟩
theorem tw10191345454744240488:True:=⟨⟩
theorem tw10196248429716995516:True:=⟨⟩
theorem tw10209627972812811702:True:=⟨⟩
theorem tw10236335734093020924:True:=⟨⟩
theorem tw10239097834636223667:True:=⟨⟩
theorem tw1026275280828660767:True:=⟨⟩
theorem tw10264508685550449648:True:=⟨⟩
theorem tw10302203287889978894:True:=⟨⟩
theorem tw10306095491373557125:True:=⟨⟩
theorem tw10311937994770011357:True:=⟨⟩
theorem tw10369828719760341218:True:=⟨⟩
theorem tw10389903694747191237:True:=⟨⟩
theorem tw10414879353449926994:True:=⟨⟩
theorem tw10420872418153255781:True:=⟨⟩
theorem tw1042126116825128633:True:=⟨⟩
theorem tw10490113482852187648:True:=⟨⟩
theorem tw10513712128938224089:True:=⟨⟩
theorem tw10538505079930309897:True:=⟨⟩
theorem tw10539052965744639969:True:=⟨⟩
theorem tw10549206509736462458:True:=⟨⟩
theorem tw10549206897349271664:True:=⟨⟩
theorem tw10568766430086366:True:=⟨⟩
theorem tw1058756793434627597:True:=⟨⟩
theorem tw10599183489580349684:True:=⟨⟩
theorem tw10601691342994384362:True:=⟨⟩
theorem tw10607947536904750398:True:=⟨⟩
theorem tw10618917137355800959:True:=⟨⟩
theorem tw10621116159256306916:True:=⟨⟩
theorem tw10636410077299111113:True:=⟨⟩
theorem tw10655014064038950098:True:=⟨⟩
theorem tw10693620772012783260:True:=⟨⟩
theorem tw10698813509242122329:True:=⟨⟩
theorem tw10698967419041446331:True:=⟨⟩
theorem tw10731871269791886036:True:=⟨⟩
theorem tw10762456409642012251:True:=⟨⟩
theorem tw10763562976083176965:True:=⟨⟩
theorem tw10783854506137717569:True:=⟨⟩
theorem tw10789838932877462864:True:=⟨⟩
theorem tw10791008850973370501:True:=⟨⟩
theorem tw10839329096161597076:True:=⟨⟩
theorem tw10840850793968478873:True:=⟨⟩
theorem tw10849033828795834046:True:=⟨⟩
theorem tw10864605375523623897:True:=⟨⟩
theorem tw10888161668244221507:True:=⟨⟩
theorem tw10895788756553896963:True:=⟨⟩
theorem tw10914132155767141001:True:=⟨⟩
theorem tw10956222531411243971:True:=⟨⟩
theorem tw11035303535053641182:True:=⟨⟩
theorem tw11053496686320377368:True:=⟨⟩
theorem tw11063312965502938023:True:=⟨⟩
theorem tw11064498233763263300:True:=⟨⟩
theorem tw11089257673083642988:True:=⟨⟩
theorem tw1111261504076211502:True:=⟨⟩
theorem tw11130644627113394740:True:=⟨⟩
theorem tw11192984972595007367:True:=⟨⟩
theorem tw11200925568727808379:True:=⟨⟩
theorem tw11216647289697345691:True:=⟨⟩
theorem tw11220049809464093251:True:=⟨⟩
theorem tw11244579515569253377:True:=⟨⟩
theorem tw1128379829406835037:True:=⟨⟩
theorem tw11311220865208414762:True:=⟨⟩
theorem tw11313290770403681926:True:=⟨⟩
theorem tw11315383220711596481:True:=⟨⟩
theorem tw11341817313901389026:True:=⟨⟩
theorem tw11375002918409936569:True:=⟨⟩
theorem tw11381750639084726682:True:=⟨⟩
theorem tw11393244642774302628:True:=⟨⟩
theorem tw11432831514348839703:True:=⟨⟩
theorem tw11457080148943724975:True:=⟨⟩
theorem tw11491232460139063495:True:=⟨⟩
theorem tw11515585474583349459:True:=⟨⟩
theorem tw11541214245371578137:True:=⟨⟩
theorem tw1155938800570562411:True:=⟨⟩
theorem tw11581410482548494991:True:=⟨⟩
theorem tw11598412808624113316:True:=⟨⟩
theorem tw11624857650633401714:True:=⟨⟩
theorem tw11645110276515570512:True:=⟨⟩
theorem tw11651878610743176047:True:=⟨⟩
theorem tw11666468255156218993:True:=⟨⟩
theorem tw11669621083576028581:True:=⟨⟩
theorem tw11733673727267776582:True:=⟨⟩
theorem tw11766762709116954859:True:=⟨⟩
theorem tw1176798211657545164:True:=⟨⟩
theorem tw11797128820815007607:True:=⟨⟩
theorem tw11804389845551725729:True:=⟨⟩
theorem tw11814205457410309258:True:=⟨⟩
theorem tw11830407021231356190:True:=⟨⟩
theorem tw11832147929312186982:True:=⟨⟩
theorem tw11846598352851309045:True:=⟨⟩
theorem tw11851090539156171303:True:=⟨⟩
theorem tw11887939836887872384:True:=⟨⟩
theorem tw11906169167707499817:True:=⟨⟩
theorem tw11917879715048747494:True:=⟨⟩
theorem tw1192666488482778843:True:=⟨⟩
theorem tw11933195866404346615:True:=⟨⟩
theorem tw11942463599715891158:True:=⟨⟩
theorem tw11946380291323094110:True:=⟨⟩
theorem tw11994553566761309491:True:=⟨⟩
theorem tw12044172775622819873:True:=⟨⟩
theorem tw12086202994775033501:True:=⟨⟩
theorem tw12086427857878676032:True:=⟨⟩
theorem tw12089518849497032649:True:=⟨⟩
theorem tw12107217469345214271:True:=⟨⟩
theorem tw12119630249140435746:True:=⟨⟩
theorem tw12135122747697201648:True:=⟨⟩
theorem tw12146317200164830369:True:=⟨⟩
theorem tw12203123746491595871:True:=⟨⟩
theorem tw12214456344270023776:True:=⟨⟩
theorem tw1222783707335043487:True:=⟨⟩
theorem tw12230575212543729917:True:=⟨⟩
theorem tw12247835036085373057:True:=⟨⟩
theorem tw12252794826244040292:True:=⟨⟩
theorem tw12268977888990111505:True:=⟨⟩
theorem tw1229826158696702870:True:=⟨⟩
theorem tw12302367242542495233:True:=⟨⟩
theorem tw1232984593891553221:True:=⟨⟩
theorem tw12348970387262314761:True:=⟨⟩
theorem tw12381874452085065311:True:=⟨⟩
theorem tw12390710316512229822:True:=⟨⟩
theorem tw12391545606853952093:True:=⟨⟩
theorem tw12391930456069277817:True:=⟨⟩
theorem tw12419497231342685522:True:=⟨⟩
theorem tw12457823459830210787:True:=⟨⟩
theorem tw1257079324428651332:True:=⟨⟩
theorem tw1257546642969522982:True:=⟨⟩
theorem tw12585027013362085291:True:=⟨⟩
theorem tw1260150405739502396:True:=⟨⟩
theorem tw12638896784647984499:True:=⟨⟩
theorem tw12651977376076629792:True:=⟨⟩
theorem tw12676427947384599411:True:=⟨⟩
theorem tw12679069176752602978:True:=⟨⟩
theorem tw12705010350838990378:True:=⟨⟩
theorem tw12707974374229524994:True:=⟨⟩
theorem tw12727308408015115988:True:=⟨⟩
theorem tw12736590359010231172:True:=⟨⟩
theorem tw12766658603733115931:True:=⟨⟩
theorem tw12777460056399120839:True:=⟨⟩
theorem tw12811785436907301:True:=⟨⟩
theorem tw1282041696592495449:True:=⟨⟩
theorem tw12852325393985631981:True:=⟨⟩
theorem tw1285446478671327967:True:=⟨⟩
theorem tw12858064221170400461:True:=⟨⟩
theorem tw12890121416717593416:True:=⟨⟩
theorem tw12891356008243862159:True:=⟨⟩
theorem tw12896369106348581931:True:=⟨⟩
theorem tw12907881760814405761:True:=⟨⟩
theorem tw12917106345942308055:True:=⟨⟩
theorem tw12932375562938828997:True:=⟨⟩
theorem tw12951474478249659509:True:=⟨⟩
theorem tw12965649206812159961:True:=⟨⟩
theorem tw12967478215466823421:True:=⟨⟩
theorem tw13016159555206885123:True:=⟨⟩
theorem tw13061742624746753153:True:=⟨⟩
theorem tw13073838834081670510:True:=⟨⟩
theorem tw13101477424789868431:True:=⟨⟩
theorem tw13106702026551126495:True:=⟨⟩
theorem tw13110988202340130928:True:=⟨⟩
theorem tw13135123293458475624:True:=⟨⟩
theorem tw1315193070911672114:True:=⟨⟩
theorem tw13158583772420036204:True:=⟨⟩
theorem tw13209066356671431213:True:=⟨⟩
theorem tw1323304974464401862:True:=⟨⟩
theorem tw13237970371694567722:True:=⟨⟩
theorem tw13240996953918207019:True:=⟨⟩
theorem tw13292172912279310685:True:=⟨⟩
theorem tw13295800592290282232:True:=⟨⟩
theorem tw13319239932254170916:True:=⟨⟩
theorem tw13327070144042144984:True:=⟨⟩
theorem tw13330681752564573822:True:=⟨⟩
theorem tw13332283298772556454:True:=⟨⟩
theorem tw13333359786512550343:True:=⟨⟩
theorem tw13358757025500150394:True:=⟨⟩
theorem tw13361879750142779948:True:=⟨⟩
theorem tw13374962325752413949:True:=⟨⟩
theorem tw13401168295236963293:True:=⟨⟩
theorem tw1341620496286782839:True:=⟨⟩
theorem tw13445858371902819873:True:=⟨⟩
theorem tw13449181325418592935:True:=⟨⟩
theorem tw13454915546897512854:True:=⟨⟩
theorem tw13484790484099311989:True:=⟨⟩
theorem tw13502694779517025883:True:=⟨⟩
theorem tw13515066558721863201:True:=⟨⟩
theorem tw13516477533781923239:True:=⟨⟩
theorem tw1352086824275577047:True:=⟨⟩
theorem tw13565259848403901308:True:=⟨⟩
theorem tw1359613028781141114:True:=⟨⟩
theorem tw13607427187989422631:True:=⟨⟩
theorem tw13658536074176561243:True:=⟨⟩
theorem tw13664461064615728731:True:=⟨⟩
theorem tw13681306702047340986:True:=⟨⟩
theorem tw13687901926778336070:True:=⟨⟩
theorem tw13717405133688135871:True:=⟨⟩
theorem tw13717865707100953413:True:=⟨⟩
theorem tw13729199180413359735:True:=⟨⟩
theorem tw13737139859143724704:True:=⟨⟩
theorem tw13755743869997346203:True:=⟨⟩
theorem tw13782417726336324000:True:=⟨⟩
theorem tw13797296500202465122:True:=⟨⟩
theorem tw13801148614919417694:True:=⟨⟩
theorem tw13819340582070771310:True:=⟨⟩
theorem tw13841121995326188628:True:=⟨⟩
theorem tw13852057470320738632:True:=⟨⟩
theorem tw13877738968199012846:True:=⟨⟩
theorem tw13878797105572248912:True:=⟨⟩
theorem tw13930834390272466543:True:=⟨⟩
theorem tw13952537012698086227:True:=⟨⟩
theorem tw14022437678927374110:True:=⟨⟩
theorem tw14024885140245169529:True:=⟨⟩
theorem tw14033302155558944099:True:=⟨⟩
theorem tw14050519429920877026:True:=⟨⟩
theorem tw14081417063455792384:True:=⟨⟩
theorem tw14103148219826696820:True:=⟨⟩
theorem tw1417947919954297733:True:=⟨⟩
theorem tw14196284383201874645:True:=⟨⟩
theorem tw14256669476587540237:True:=⟨⟩
theorem tw142832466288839622:True:=⟨⟩
theorem tw14347063534129929812:True:=⟨⟩
theorem tw14388705950839356108:True:=⟨⟩
theorem tw14399441049002804583:True:=⟨⟩
theorem tw14415243225369372536:True:=⟨⟩
theorem tw14505814876929818486:True:=⟨⟩
theorem tw14562821320998694467:True:=⟨⟩
theorem tw14573937636278280420:True:=⟨⟩
theorem tw14592877194031073470:True:=⟨⟩
theorem tw14594635845850835550:True:=⟨⟩
theorem tw1463384977225647334:True:=⟨⟩
theorem tw14643908661358238654:True:=⟨⟩
theorem tw14646304799777122640:True:=⟨⟩
theorem tw1470107962543533275:True:=⟨⟩
theorem tw14734778261288568291:True:=⟨⟩
theorem tw14753715020328299215:True:=⟨⟩
theorem tw14794508330136437217:True:=⟨⟩
theorem tw14823457468584657682:True:=⟨⟩
theorem tw14856550335511878416:True:=⟨⟩
theorem tw1486853824027519113:True:=⟨⟩
theorem tw14886901455952676561:True:=⟨⟩
theorem tw14956551282610543520:True:=⟨⟩
theorem tw14994321063233398283:True:=⟨⟩
theorem tw14996942168653677625:True:=⟨⟩
theorem tw15036206304301649570:True:=⟨⟩
theorem tw15063965425664795410:True:=⟨⟩
theorem tw15074979479330557055:True:=⟨⟩
theorem tw15102232339393801572:True:=⟨⟩
theorem tw15105755629369166538:True:=⟨⟩
theorem tw15145263921811773984:True:=⟨⟩
theorem tw15187036078546529727:True:=⟨⟩
theorem tw15195853368749800545:True:=⟨⟩
theorem tw15217901230058869553:True:=⟨⟩
theorem tw1522297264747275140:True:=⟨⟩
theorem tw15274238342418894371:True:=⟨⟩
theorem tw15287101983022636677:True:=⟨⟩
theorem tw15289262560006367549:True:=⟨⟩
theorem tw15318745664746361875:True:=⟨⟩
theorem tw15353100499134528214:True:=⟨⟩
theorem tw15366193832153102032:True:=⟨⟩
theorem tw15411171292250549393:True:=⟨⟩
theorem tw15434828925013717228:True:=⟨⟩
theorem tw15438623558542711048:True:=⟨⟩
theorem tw15443576811904623442:True:=⟨⟩
theorem tw15458792513221507318:True:=⟨⟩
theorem tw15469414410842225719:True:=⟨⟩
theorem tw15491877402725920983:True:=⟨⟩
theorem tw15500111543475254090:True:=⟨⟩
theorem tw15507200956589610545:True:=⟨⟩
theorem tw15508887242751517171:True:=⟨⟩
theorem tw15516621829212001450:True:=⟨⟩
theorem tw15531943866048392512:True:=⟨⟩
theorem tw15538925296437056589:True:=⟨⟩
theorem tw15544768317257114636:True:=⟨⟩
theorem tw15552912996285933786:True:=⟨⟩
theorem tw15556214583448861641:True:=⟨⟩
theorem tw1561667931598711036:True:=⟨⟩
theorem tw15629399440738413742:True:=⟨⟩
theorem tw15653472888595785197:True:=⟨⟩
theorem tw15692553015207867403:True:=⟨⟩
theorem tw15704974982002838681:True:=⟨⟩
theorem tw15710242432397194559:True:=⟨⟩
theorem tw15717587871763468915:True:=⟨⟩
theorem tw15729092784269506542:True:=⟨⟩
theorem tw15734657822532912376:True:=⟨⟩
theorem tw15757957865142581681:True:=⟨⟩
theorem tw15772572471190665771:True:=⟨⟩
theorem tw15802206428039344293:True:=⟨⟩
theorem tw15834219861732575085:True:=⟨⟩
theorem tw15865708873731490064:True:=⟨⟩
theorem tw15947213886432385701:True:=⟨⟩
theorem tw15988169124514524755:True:=⟨⟩
theorem tw16006560904295706847:True:=⟨⟩
theorem tw16010469668842926773:True:=⟨⟩
theorem tw16017028546325993899:True:=⟨⟩
theorem tw16051099284931862776:True:=⟨⟩
theorem tw16078274197794197142:True:=⟨⟩
theorem tw16091335905558288465:True:=⟨⟩
theorem tw16106537619902150848:True:=⟨⟩
theorem tw16111291261293484430:True:=⟨⟩
theorem tw16151977038957949119:True:=⟨⟩
theorem tw16194326351035238702:True:=⟨⟩
theorem tw16197568362776230089:True:=⟨⟩
theorem tw16199379296808052754:True:=⟨⟩
theorem tw1623719892688173445:True:=⟨⟩
theorem tw16243895240017514963:True:=⟨⟩
theorem tw16258489784072009032:True:=⟨⟩
theorem tw16273665511084002648:True:=⟨⟩
theorem tw16274267515295378656:True:=⟨⟩
theorem tw16305634864624464515:True:=⟨⟩
theorem tw16314724158080262875:True:=⟨⟩
theorem tw16317714796725503697:True:=⟨⟩
theorem tw16322404817872320265:True:=⟨⟩
theorem tw16350332201923110520:True:=⟨⟩
theorem tw16351808687334742142:True:=⟨⟩
theorem tw16354795595621319517:True:=⟨⟩
theorem tw16435617063400781074:True:=⟨⟩
theorem tw16445192483967618976:True:=⟨⟩
theorem tw16445697571786328189:True:=⟨⟩
theorem tw16476139949552865624:True:=⟨⟩
theorem tw16511233642466125211:True:=⟨⟩
theorem tw16512118456518442803:True:=⟨⟩
theorem tw16518279073642848288:True:=⟨⟩
theorem tw16552662030806145107:True:=⟨⟩
theorem tw16564700689278087533:True:=⟨⟩
theorem tw16569968056631230972:True:=⟨⟩
theorem tw16574220971622913453:True:=⟨⟩
theorem tw16589595512292472906:True:=⟨⟩
theorem tw16600425327638695325:True:=⟨⟩
theorem tw16623561724017742762:True:=⟨⟩
theorem tw16653169860476745820:True:=⟨⟩
theorem tw16657866864515866248:True:=⟨⟩
theorem tw16695929748237200198:True:=⟨⟩
theorem tw16704318281938576061:True:=⟨⟩
theorem tw16708717378553061700:True:=⟨⟩
theorem tw16710864993613841383:True:=⟨⟩
theorem tw16712053009491923350:True:=⟨⟩
theorem tw16721382700950204739:True:=⟨⟩
theorem tw16729432475016334213:True:=⟨⟩
theorem tw16730000727336608557:True:=⟨⟩
theorem tw16751300809374411095:True:=⟨⟩
theorem tw16757132147456069294:True:=⟨⟩
theorem tw16762986624597962064:True:=⟨⟩
theorem tw16780073053065435279:True:=⟨⟩
theorem tw1678582214789390410:True:=⟨⟩
theorem tw16787973242375402685:True:=⟨⟩
theorem tw16796095302344492666:True:=⟨⟩
theorem tw16803553854534592692:True:=⟨⟩
theorem tw16840175665920890498:True:=⟨⟩
theorem tw1689509973823841143:True:=⟨⟩
theorem tw16908911345393697408:True:=⟨⟩
theorem tw16928215119789407461:True:=⟨⟩
theorem tw16968317496932064619:True:=⟨⟩
theorem tw16973234661380253747:True:=⟨⟩
theorem tw16981942951421820965:True:=⟨⟩
theorem tw16985537049202772980:True:=⟨⟩
theorem tw16998660405261063973:True:=⟨⟩
theorem tw1700633719508208944:True:=⟨⟩
theorem tw17030181355708393197:True:=⟨⟩
theorem tw17048885162241006632:True:=⟨⟩
theorem tw17067435057019891505:True:=⟨⟩
theorem tw17087550833534511224:True:=⟨⟩
theorem tw17092498106120515550:True:=⟨⟩
theorem tw17104581193851952111:True:=⟨⟩
theorem tw17105726078446128216:True:=⟨⟩
theorem tw1711215496446330769:True:=⟨⟩
theorem tw17160603446113090393:True:=⟨⟩
theorem tw17190884893338976462:True:=⟨⟩
theorem tw1720555417719319596:True:=⟨⟩
theorem tw17231639603863151892:True:=⟨⟩
theorem tw17241383737152780119:True:=⟨⟩
theorem tw17256339926733199360:True:=⟨⟩
theorem tw17258190338935182078:True:=⟨⟩
theorem tw17282842208483699955:True:=⟨⟩
theorem tw17284512883086095544:True:=⟨⟩
theorem tw17302632163617142826:True:=⟨⟩
theorem tw17304293337294258252:True:=⟨⟩
theorem tw17320586690645667310:True:=⟨⟩
theorem tw17347090212534492935:True:=⟨⟩
theorem tw1736361183131519459:True:=⟨⟩
theorem tw173786765267109963:True:=⟨⟩
theorem tw17406558119159909926:True:=⟨⟩
theorem tw17434612017214406974:True:=⟨⟩
theorem tw17443050372156796471:True:=⟨⟩
theorem tw17447218255327388258:True:=⟨⟩
theorem tw17451043770947134594:True:=⟨⟩
theorem tw1745379897755219426:True:=⟨⟩
theorem tw17477283155144364780:True:=⟨⟩
theorem tw17489319861633300895:True:=⟨⟩
theorem tw17513309628111460629:True:=⟨⟩
theorem tw17528412951035224598:True:=⟨⟩
theorem tw17535904580416319308:True:=⟨⟩
theorem tw17541692484227704516:True:=⟨⟩
theorem tw17548796415380057392:True:=⟨⟩
theorem tw17552468490388534277:True:=⟨⟩
theorem tw17640513294105764212:True:=⟨⟩
theorem tw17668479044169060044:True:=⟨⟩
theorem tw17710900906441737275:True:=⟨⟩
theorem tw17730917868078110650:True:=⟨⟩
theorem tw17739564524812122008:True:=⟨⟩
theorem tw1776377821520707120:True:=⟨⟩
theorem tw17871960243330878974:True:=⟨⟩
theorem tw17889030859633960265:True:=⟨⟩
theorem tw17928244857235685453:True:=⟨⟩
theorem tw17930078912041203366:True:=⟨⟩
theorem tw17937984053291011457:True:=⟨⟩
theorem tw17984182304501200:True:=⟨⟩
theorem tw18015390130110542508:True:=⟨⟩
theorem tw18031817049380983660:True:=⟨⟩
theorem tw18032067103474651262:True:=⟨⟩
theorem tw18046829711613894908:True:=⟨⟩
theorem tw18049821860572457969:True:=⟨⟩
theorem tw1812005314407875544:True:=⟨⟩
theorem tw181314637395083580:True:=⟨⟩
theorem tw18148281393586606714:True:=⟨⟩
theorem tw18150844086469123311:True:=⟨⟩
theorem tw18165409360514916609:True:=⟨⟩
theorem tw18170713060155939804:True:=⟨⟩
theorem tw18213867124959791182:True:=⟨⟩
theorem tw18220083875120656390:True:=⟨⟩
theorem tw18220388921154794980:True:=⟨⟩
theorem tw18283527821764179215:True:=⟨⟩
theorem tw18322089738717078598:True:=⟨⟩
theorem tw18325722642711571348:True:=⟨⟩
theorem tw18327320437671979550:True:=⟨⟩
theorem tw18334920753561610978:True:=⟨⟩
theorem tw18359594932487921460:True:=⟨⟩
theorem tw18381542140756762103:True:=⟨⟩
theorem tw18396291137566383893:True:=⟨⟩
theorem tw18404898218303091620:True:=⟨⟩
theorem tw18416761130913301089:True:=⟨⟩
theorem tw18428667035790839050:True:=⟨⟩
theorem tw1887765822753545749:True:=⟨⟩
theorem tw1898312541436048755:True:=⟨⟩
theorem tw1901082176623954149:True:=⟨⟩
theorem tw1907592232692427395:True:=⟨⟩
theorem tw1912981073327234276:True:=⟨⟩
theorem tw1924407333403664770:True:=⟨⟩
theorem tw1942684169038064281:True:=⟨⟩
theorem tw1953334614022387429:True:=⟨⟩
theorem tw1959532432523656872:True:=⟨⟩
theorem tw1970931926617164765:True:=⟨⟩
theorem tw199664760571449170:True:=⟨⟩
theorem tw200324401822615357:True:=⟨⟩
theorem tw2027199631850664848:True:=⟨⟩
theorem tw2051117527153211045:True:=⟨⟩
theorem tw2098611927393842341:True:=⟨⟩
theorem tw209882594784377072:True:=⟨⟩
theorem tw2127835237462272584:True:=⟨⟩
theorem tw2166788516218535883:True:=⟨⟩
theorem tw2172674163387756805:True:=⟨⟩
theorem tw2183302243490096907:True:=⟨⟩
theorem tw2188858709239680559:True:=⟨⟩
theorem tw2190365545709815835:True:=⟨⟩
theorem tw2221939178720417359:True:=⟨⟩
theorem tw2231092937692665539:True:=⟨⟩
theorem tw2247380434430902542:True:=⟨⟩
theorem tw2250689983312382259:True:=⟨⟩
theorem tw226336169660198557:True:=⟨⟩
theorem tw2289822645703464369:True:=⟨⟩
theorem tw2299023183030519800:True:=⟨⟩
theorem tw232586344853989169:True:=⟨⟩
theorem tw2350592267562540304:True:=⟨⟩
theorem tw2363759428571177085:True:=⟨⟩
theorem tw2499166845009772588:True:=⟨⟩
theorem tw2499319974922405125:True:=⟨⟩
theorem tw2503964844085982404:True:=⟨⟩
theorem tw2519321785206145009:True:=⟨⟩
theorem tw2559712285192565925:True:=⟨⟩
theorem tw2577134604532351204:True:=⟨⟩
theorem tw2640859270900911864:True:=⟨⟩
theorem tw265514860021218922:True:=⟨⟩
theorem tw2657532626179629634:True:=⟨⟩
theorem tw2658918593601057708:True:=⟨⟩
theorem tw2691070977173532656:True:=⟨⟩
theorem tw2723887639103746768:True:=⟨⟩
theorem tw2734091909403742549:True:=⟨⟩
theorem tw2785783812277475713:True:=⟨⟩
theorem tw2798741452863914872:True:=⟨⟩
theorem tw2806544748864967303:True:=⟨⟩
theorem tw282011899061021788:True:=⟨⟩
theorem tw2837186549560217090:True:=⟨⟩
theorem tw2838207062160967141:True:=⟨⟩
theorem tw2844986836283828271:True:=⟨⟩
theorem tw2849419001790802278:True:=⟨⟩
theorem tw2882787121757390214:True:=⟨⟩
theorem tw2883445513654329571:True:=⟨⟩
theorem tw2896269231416129551:True:=⟨⟩
theorem tw2900306854507534375:True:=⟨⟩
theorem tw2919911918501987949:True:=⟨⟩
theorem tw294229319801527488:True:=⟨⟩
theorem tw2955091264581805945:True:=⟨⟩
theorem tw296053561812105358:True:=⟨⟩
theorem tw2978225600407550144:True:=⟨⟩
theorem tw3014740067108285593:True:=⟨⟩
theorem tw3032723503893500907:True:=⟨⟩
theorem tw3057216375279632309:True:=⟨⟩
theorem tw3078334133714558172:True:=⟨⟩
theorem tw3096364246008203171:True:=⟨⟩
theorem tw3109344661691553307:True:=⟨⟩
theorem tw3112278322571395827:True:=⟨⟩
theorem tw3136627808795585072:True:=⟨⟩
theorem tw3149659007105798097:True:=⟨⟩
theorem tw3158960111841581147:True:=⟨⟩
theorem tw3175861693282935178:True:=⟨⟩
theorem tw3196823648991191244:True:=⟨⟩
theorem tw3206395264889531983:True:=⟨⟩
theorem tw3207212173038863183:True:=⟨⟩
theorem tw3212775499871986300:True:=⟨⟩
theorem tw3244268777639645305:True:=⟨⟩
theorem tw3258635102930522944:True:=⟨⟩
theorem tw3302994785403589536:True:=⟨⟩
theorem tw3313679169399471073:True:=⟨⟩
theorem tw3314507373351705653:True:=⟨⟩
theorem tw3340320512234189967:True:=⟨⟩
theorem tw3341837914080928354:True:=⟨⟩
theorem tw3384927862863446019:True:=⟨⟩
theorem tw3410528198159497473:True:=⟨⟩
theorem tw3420613600601611929:True:=⟨⟩
theorem tw3430383401330810317:True:=⟨⟩
theorem tw350241603381760984:True:=⟨⟩
theorem tw3526886530465315488:True:=⟨⟩
theorem tw352869765104673837:True:=⟨⟩
theorem tw354438594624696067:True:=⟨⟩
theorem tw3583584480766786142:True:=⟨⟩
theorem tw3600705483343530343:True:=⟨⟩
theorem tw3619069825129573045:True:=⟨⟩
theorem tw3649980196358642576:True:=⟨⟩
theorem tw3672464557728123485:True:=⟨⟩
theorem tw3696845709482678400:True:=⟨⟩
theorem tw3711791003302751047:True:=⟨⟩
theorem tw3754529338871839523:True:=⟨⟩
theorem tw375568966493436443:True:=⟨⟩
theorem tw3763305722483546049:True:=⟨⟩
theorem tw3795967821670709802:True:=⟨⟩
theorem tw380348628236789236:True:=⟨⟩
theorem tw3805908168765942389:True:=⟨⟩
theorem tw3807889105641011385:True:=⟨⟩
theorem tw3828452817201956240:True:=⟨⟩
theorem tw3855361771426085486:True:=⟨⟩
theorem tw3870829084805342313:True:=⟨⟩
theorem tw3893678552418392245:True:=⟨⟩
theorem tw3931792949703814159:True:=⟨⟩
theorem tw3999910623827504162:True:=⟨⟩
theorem tw4019348474294654463:True:=⟨⟩
theorem tw4024000116762273970:True:=⟨⟩
theorem tw4024566587864269683:True:=⟨⟩
theorem tw4025852749119150502:True:=⟨⟩
theorem tw4033018641565146064:True:=⟨⟩
theorem tw4073572531811936218:True:=⟨⟩
theorem tw4093834098318025852:True:=⟨⟩
theorem tw4096633340851903665:True:=⟨⟩
theorem tw414042051300777608:True:=⟨⟩
theorem tw4155011485526124693:True:=⟨⟩
theorem tw4172912905059087900:True:=⟨⟩
theorem tw4178776307771414442:True:=⟨⟩
theorem tw418921456956892779:True:=⟨⟩
theorem tw4205698526939324358:True:=⟨⟩
theorem tw4266533643184847813:True:=⟨⟩
theorem tw4267614981889779119:True:=⟨⟩
theorem tw4295205736053519347:True:=⟨⟩
theorem tw4302760786225423432:True:=⟨⟩
theorem tw4327334766594752559:True:=⟨⟩
theorem tw4438562383145961196:True:=⟨⟩
theorem tw4446364268031638678:True:=⟨⟩
theorem tw4449427366645585009:True:=⟨⟩
theorem tw4472503552020377716:True:=⟨⟩
theorem tw4499500152666713181:True:=⟨⟩
theorem tw4555362237470206101:True:=⟨⟩
theorem tw4580780308197314544:True:=⟨⟩
theorem tw460058265487041027:True:=⟨⟩
theorem tw4615841978453049510:True:=⟨⟩
theorem tw4626595907434281402:True:=⟨⟩
theorem tw4655755224154396871:True:=⟨⟩
theorem tw4658541510371449073:True:=⟨⟩
theorem tw4688823966356658904:True:=⟨⟩
theorem tw4707501114086544434:True:=⟨⟩
theorem tw4711274991863329895:True:=⟨⟩
theorem tw4734840188828875141:True:=⟨⟩
theorem tw476330399637140043:True:=⟨⟩
theorem tw4763832924344543899:True:=⟨⟩
theorem tw4769616142260202955:True:=⟨⟩
theorem tw4805723792767212650:True:=⟨⟩
theorem tw4812496482430128364:True:=⟨⟩
theorem tw4813760275797500753:True:=⟨⟩
theorem tw4814969344148844051:True:=⟨⟩
theorem tw4848314260476746693:True:=⟨⟩
theorem tw4862847281414518645:True:=⟨⟩
theorem tw4871806926423599658:True:=⟨⟩
theorem tw4874202376465368902:True:=⟨⟩
theorem tw4888568055689543705:True:=⟨⟩
theorem tw4901135119850527963:True:=⟨⟩
theorem tw4903542522322894459:True:=⟨⟩
theorem tw4905293420988196429:True:=⟨⟩
theorem tw4924792674746769636:True:=⟨⟩
theorem tw4929668975709946162:True:=⟨⟩
theorem tw4972396871745263843:True:=⟨⟩
theorem tw5003750217828232149:True:=⟨⟩
theorem tw5035033452173047021:True:=⟨⟩
theorem tw5072894241493907155:True:=⟨⟩
theorem tw507587692461249652:True:=⟨⟩
theorem tw5092456166520834788:True:=⟨⟩
theorem tw5111634700115992067:True:=⟨⟩
theorem tw5246415076642631175:True:=⟨⟩
theorem tw5257115606860494095:True:=⟨⟩
theorem tw5267944003558514702:True:=⟨⟩
theorem tw5269199629851549964:True:=⟨⟩
theorem tw527385308328408567:True:=⟨⟩
theorem tw5324253751100550248:True:=⟨⟩
theorem tw5339145279999465014:True:=⟨⟩
theorem tw5394017039272750189:True:=⟨⟩
theorem tw5395200371313805790:True:=⟨⟩
theorem tw5402772135569159887:True:=⟨⟩
theorem tw5404593121830912464:True:=⟨⟩
theorem tw5405975428786461762:True:=⟨⟩
theorem tw5429805560859010480:True:=⟨⟩
theorem tw5436625077611877490:True:=⟨⟩
theorem tw5484751614333200831:True:=⟨⟩
theorem tw5502455413706555246:True:=⟨⟩
theorem tw5563559064624246733:True:=⟨⟩
theorem tw5573359483251791428:True:=⟨⟩
theorem tw5573582281893613931:True:=⟨⟩
theorem tw5621116528935322526:True:=⟨⟩
theorem tw5671667523412234644:True:=⟨⟩
theorem tw5694883460727769907:True:=⟨⟩
theorem tw570138318184760618:True:=⟨⟩
theorem tw5741316952119794812:True:=⟨⟩
theorem tw5744364969443431618:True:=⟨⟩
theorem tw5806687874117463575:True:=⟨⟩
theorem tw5808885228227656167:True:=⟨⟩
theorem tw5829760083259559411:True:=⟨⟩
theorem tw5834071361218733271:True:=⟨⟩
theorem tw5934276501407141963:True:=⟨⟩
theorem tw6005133785490481282:True:=⟨⟩
theorem tw6020210011466161106:True:=⟨⟩
theorem tw6057182830593879296:True:=⟨⟩
theorem tw6110265868583882823:True:=⟨⟩
theorem tw6134615426921851979:True:=⟨⟩
theorem tw6168276734186409395:True:=⟨⟩
theorem tw618595327773272950:True:=⟨⟩
theorem tw6193691719203263445:True:=⟨⟩
theorem tw6199626821545576092:True:=⟨⟩
theorem tw6234648943893886314:True:=⟨⟩
theorem tw6245503436513483054:True:=⟨⟩
theorem tw6276936897225434286:True:=⟨⟩
theorem tw6289418703642272718:True:=⟨⟩
theorem tw6296894306764035945:True:=⟨⟩
theorem tw6299613471967442569:True:=⟨⟩
theorem tw6300421270713394949:True:=⟨⟩
theorem tw6303501836715674518:True:=⟨⟩
theorem tw6310891253897536133:True:=⟨⟩
theorem tw6315427648920340074:True:=⟨⟩
theorem tw6337058702592086644:True:=⟨⟩
theorem tw6351811614667211516:True:=⟨⟩
theorem tw6353664255645059362:True:=⟨⟩
theorem tw6364869178512520248:True:=⟨⟩
theorem tw6387153731152319629:True:=⟨⟩
theorem tw6399194456994606340:True:=⟨⟩
theorem tw6445785168503684626:True:=⟨⟩
theorem tw6446411007601942293:True:=⟨⟩
theorem tw6446444725735117378:True:=⟨⟩
theorem tw6464823755178641112:True:=⟨⟩
theorem tw6500681361345897431:True:=⟨⟩
theorem tw6505345790192252089:True:=⟨⟩
theorem tw6506089881996553110:True:=⟨⟩
theorem tw6595325934585669027:True:=⟨⟩
theorem tw6597540542389110374:True:=⟨⟩
theorem tw6614387691977432087:True:=⟨⟩
theorem tw6631913373827266157:True:=⟨⟩
theorem tw665868466137066897:True:=⟨⟩
theorem tw6674454105301906148:True:=⟨⟩
theorem tw6797961943242098221:True:=⟨⟩
theorem tw6807976765998500706:True:=⟨⟩
theorem tw6821311840689433880:True:=⟨⟩
theorem tw6833576327225608964:True:=⟨⟩
theorem tw684961685530491314:True:=⟨⟩
theorem tw6864080712817888136:True:=⟨⟩
theorem tw6885673276976720842:True:=⟨⟩
theorem tw6892173670937695072:True:=⟨⟩
theorem tw6900871237383049998:True:=⟨⟩
theorem tw6924869272821505952:True:=⟨⟩
theorem tw6927680590950704258:True:=⟨⟩
theorem tw6928132704110758292:True:=⟨⟩
theorem tw6934937213806655599:True:=⟨⟩
theorem tw6990940081724005625:True:=⟨⟩
theorem tw6997471758528069322:True:=⟨⟩
theorem tw7015832502352830258:True:=⟨⟩
theorem tw7030979812000666196:True:=⟨⟩
theorem tw7046449650847710208:True:=⟨⟩
theorem tw7060142700317573508:True:=⟨⟩
theorem tw7065599669757183418:True:=⟨⟩
theorem tw7072505008539306880:True:=⟨⟩
theorem tw708062753947506617:True:=⟨⟩
theorem tw7085196454444311571:True:=⟨⟩
theorem tw7115128411290829573:True:=⟨⟩
theorem tw7115932325941094140:True:=⟨⟩
theorem tw7124770862986207880:True:=⟨⟩
theorem tw7158426179234945397:True:=⟨⟩
theorem tw7181289350980295188:True:=⟨⟩
theorem tw7206117304154338182:True:=⟨⟩
theorem tw7226944949937642407:True:=⟨⟩
theorem tw7249429684060545667:True:=⟨⟩
theorem tw7273158867520192233:True:=⟨⟩
theorem tw7312158876144524007:True:=⟨⟩
theorem tw7312491760554798623:True:=⟨⟩
theorem tw732031389144823642:True:=⟨⟩
theorem tw7355744361506137170:True:=⟨⟩
theorem tw7377635762655620067:True:=⟨⟩
theorem tw7377748142459155301:True:=⟨⟩
theorem tw7400096032598124426:True:=⟨⟩
theorem tw7409075173923220579:True:=⟨⟩
theorem tw7446391684882698360:True:=⟨⟩
theorem tw7471332897876199207:True:=⟨⟩
theorem tw7505422297783508085:True:=⟨⟩
theorem tw7506215989378549125:True:=⟨⟩
theorem tw7509790984022023333:True:=⟨⟩
theorem tw7514418206732897072:True:=⟨⟩
theorem tw7520028239704676916:True:=⟨⟩
theorem tw7553212682645559085:True:=⟨⟩
theorem tw7571130488623049977:True:=⟨⟩
theorem tw7571365900068593064:True:=⟨⟩
theorem tw7593678181923163036:True:=⟨⟩
theorem tw7610296562296189469:True:=⟨⟩
theorem tw7611352877759816402:True:=⟨⟩
theorem tw766223155817661832:True:=⟨⟩
theorem tw7664457422876156005:True:=⟨⟩
theorem tw7675551073625621986:True:=⟨⟩
theorem tw7684268495463684212:True:=⟨⟩
theorem tw7685675190743382974:True:=⟨⟩
theorem tw7699415276329324720:True:=⟨⟩
theorem tw777127466506320430:True:=⟨⟩
theorem tw7798015422396792630:True:=⟨⟩
theorem tw784947516219063095:True:=⟨⟩
theorem tw7854942728588032990:True:=⟨⟩
theorem tw7864041642790586413:True:=⟨⟩
theorem tw7869142532779092687:True:=⟨⟩
theorem tw7879759182251087516:True:=⟨⟩
theorem tw7971804308259009618:True:=⟨⟩
theorem tw8004450631506114962:True:=⟨⟩
theorem tw8010099965029327881:True:=⟨⟩
theorem tw8027252747731342988:True:=⟨⟩
theorem tw8044067782782067629:True:=⟨⟩
theorem tw8057972513729537250:True:=⟨⟩
theorem tw8059685036301017383:True:=⟨⟩
theorem tw8063721354428194800:True:=⟨⟩
theorem tw8068921882900001392:True:=⟨⟩
theorem tw8083537469206595695:True:=⟨⟩
theorem tw8093033253060691576:True:=⟨⟩
theorem tw8119529521756686353:True:=⟨⟩
theorem tw8126778563422040920:True:=⟨⟩
theorem tw8133699092879834626:True:=⟨⟩
theorem tw8266565062008648590:True:=⟨⟩
theorem tw8272190334952170995:True:=⟨⟩
theorem tw8273798445218777902:True:=⟨⟩
theorem tw8275509486428331445:True:=⟨⟩
theorem tw8299597818814853583:True:=⟨⟩
theorem tw8329525760664580483:True:=⟨⟩
theorem tw8374201239155654366:True:=⟨⟩
theorem tw8380370546424940024:True:=⟨⟩
theorem tw8399171980361234187:True:=⟨⟩
theorem tw8439179985473809295:True:=⟨⟩
theorem tw8447418909755383629:True:=⟨⟩
theorem tw8469983544200465804:True:=⟨⟩
theorem tw8608190625645300856:True:=⟨⟩
theorem tw861488265810460038:True:=⟨⟩
theorem tw8626443029875820106:True:=⟨⟩
theorem tw862921097819919242:True:=⟨⟩
theorem tw8641148564683304827:True:=⟨⟩
theorem tw8653760265072787030:True:=⟨⟩
theorem tw8688477058157307683:True:=⟨⟩
theorem tw8691960393942032172:True:=⟨⟩
theorem tw8710327072555264331:True:=⟨⟩
theorem tw8713761573469691001:True:=⟨⟩
theorem tw8738698586502674571:True:=⟨⟩
theorem tw8764350942189485423:True:=⟨⟩
theorem tw8786581020184301361:True:=⟨⟩
theorem tw8790114936902674686:True:=⟨⟩
theorem tw8790290063592002781:True:=⟨⟩
theorem tw8829914579122548677:True:=⟨⟩
theorem tw8870060456948706064:True:=⟨⟩
theorem tw8946526828516233733:True:=⟨⟩
theorem tw8989704413908975575:True:=⟨⟩
theorem tw9027110278532692757:True:=⟨⟩
theorem tw9051500777431940111:True:=⟨⟩
theorem tw9116849758817086489:True:=⟨⟩
theorem tw912181556206542158:True:=⟨⟩
theorem tw9157529405782116352:True:=⟨⟩
theorem tw9165490363380362364:True:=⟨⟩
theorem tw9198060177710599581:True:=⟨⟩
theorem tw9204499842549069234:True:=⟨⟩
theorem tw9230153252000884735:True:=⟨⟩
theorem tw9230964521701232242:True:=⟨⟩
theorem tw9263656248503946043:True:=⟨⟩
theorem tw9270907699395071999:True:=⟨⟩
theorem tw929620685646746919:True:=⟨⟩
theorem tw9347913522050291009:True:=⟨⟩
theorem tw9351937320021933317:True:=⟨⟩
theorem tw9361378835324630940:True:=⟨⟩
theorem tw9371695140625214077:True:=⟨⟩
theorem tw9380912198041599001:True:=⟨⟩
theorem tw9394695516566922766:True:=⟨⟩
theorem tw9409741828955347323:True:=⟨⟩
theorem tw9415689706227176838:True:=⟨⟩
theorem tw9433743101833535613:True:=⟨⟩
theorem tw9451440190760685946:True:=⟨⟩
theorem tw9487712586445425163:True:=⟨⟩
theorem tw952562598813390751:True:=⟨⟩
theorem tw9541759142844891067:True:=⟨⟩
theorem tw9541888137166520254:True:=⟨⟩
theorem tw9563266968132052903:True:=⟨⟩
theorem tw9565925599572941597:True:=⟨⟩
theorem tw9581025445435927254:True:=⟨⟩
theorem tw9595810269375804565:True:=⟨⟩
theorem tw9606709351997720930:True:=⟨⟩
theorem tw9655298838028549637:True:=⟨⟩
theorem tw9665536864249612868:True:=⟨⟩
theorem tw9724155774864282224:True:=⟨⟩
theorem tw9759089744268038300:True:=⟨⟩
theorem tw9759872524220437751:True:=⟨⟩
theorem tw9795653486667475469:True:=⟨⟩
theorem tw9844090003595500339:True:=⟨⟩
theorem tw9862836906807334915:True:=⟨⟩
theorem tw987264359154810640:True:=⟨⟩
theorem tw9910447320021920190:True:=⟨⟩
theorem tw9926375421872621143:True:=⟨⟩
theorem tw9936337195410744259:True:=⟨⟩
theorem tw9938143100676441732:True:=⟨⟩
theorem tw994855421840902649:True:=⟨⟩
theorem tw9950087129442616355:True:=⟨⟩
theorem tw9978537494305512370:True:=⟨⟩
end PySem.W.Fast
namespace S9
end S9
open PySem PySem.W PyProof.Rows
set_option maxRecDepth 100000 in
set_option maxHeartbeats 0 in
theorem PySem.Challenge.cw_heapsafe_k16_closed_sets_holds : PySem.Challenge.rw_heapsafe_k16_closed_sets.Holds := by
 w_on; o_law; k_head; (case hw=>w_witness2)
 k_fill
 refine S9.walk (l:=PySem.Challenge.rw_heapsafe_k16_closed_sets) rfl rfl (λw h Y=>PySem.W.kIn_of Y) ?F
 case F=>
  intro w mg fa h KX G Xb;refine' S9.all_mk KX G Xb ?_ ?_ ?_ ?_ ?_ ?_ ?_ ?_ ?_ ?_ ?_ ?_ ?_ ?_ ?_ ?_ ?_ ?_ ?_ ?_ ?_ ?_ ?_ ?_ ?_ ?_ ?_ ?_ ?_ ?_ ?_ ?_ ?_ ?_ ?_ ?_ ?_ ?_ ?_ ?_ ?_ ?_ ?_ ?_ ?_ ?_ ?_ ?_ ?_ ?_ ?_ ?_ ?_ ?_ ?_ ?_ ?_ ?_ ?_ ?_ ?_ ?_ ?_ ?_ ?_ ?_ ?_ ?_ ?_ ?_ ?_ ?_ ?_ ?_ ?_ ?_ ?_ ?_ ?_ ?_ ?_ ?_ ?_ ?_ ?_ ?_ ?_ ?_ ?_ ?_ ?_ ?_ ?_ ?_ ?_ ?_ ?_ ?_ ?_ ?_ ?_ ?_ ?_ ?_ ?_ ?_ ?_ ?_ ?_ ?_ ?_ ?_ ?_ ?_ ?_ ?_ ?_ ?_ ?_ ?_ ?_ ?_ ?_ ?_ ?_ ?_ ?_ ?_ ?_ ?_ ?_ ?_ ?_ ?_ ?_ ?_ ?_ ?_ ?_ ?_ ?_ ?_ ?_ ?_ ?_ ?_ ?_ ?_ ?_ ?_ ?_ ?_ ?_ ?_ ?_ ?_ ?_ ?_ ?_ ?_ ?_ ?_ ?_ ?_ ?_ ?_ ?_ ?_ ?_ ?_ ?_ ?_ ?_ ?_ ?_ ?_ ?_ ?_ ?_ ?_ ?_ ?_ ?_ ?_ ?_ ?_ ?_ ?_ ?_ ?_ ?_ ?_ ?_ ?_ ?_ ?_ ?_ ?_ ?_ ?_ ?_ ?_ ?_ ?_ ?_ ?_ ?_ ?_ ?_ ?_ ?_ ?_ ?_
  all_goals try first | exact⟨by k_is,S9.fnB (by k_is) (by k_is) (by k_is)⟩ | exact⟨by k_is,by k_is,S9.fnB (by k_is) (by k_is) (by k_is)⟩ | k_is | decide
